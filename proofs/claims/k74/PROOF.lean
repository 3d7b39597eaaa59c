import PyProof.Rows.All
import Wide.All
import OpenK.AllK
import Wide.FinOn
import Lean
import PyProof.EqAt
import PyProof.EqKinds
import PyProof.TupleCall
import PySem.Challenge.RW_sackloads_k74_never_in
def PySem.W.Fast.tw17561465876212754746 : Nat := 0
def PySem.W.Fast.tw14392083913487869084 : Nat := 0
def PySem.W.Fast.tw17994763671947655221 : Nat := 0
def PySem.W.Fast.tw1497511902742223817 : Nat := 0
def PySem.W.Fast.tw4240147117674332419 : Nat := 0
set_option linter.all false
set_option Elab.async false
set_option maxRecDepth 100000
open List renaming mem_cons_of_mem → mM, mem_cons_self → mS_, getElem?_eq_getElem → gG, length_cons → lC_, length_map → lM_, length_append → lA_, getElem?_map → gM_, map_cons → mC_, mem_append → mA_, length_range → lR_, length_nil → lN_, size_toArray → sT_, mem_range → mR_, mem_map → mP_, map_map → mm_, replicate_succ → rS_, length_set → lS_, not_mem_nil → nN_, map_congr_left → mL_, append_assoc → aA_, getElem?_eq_some_iff → gI_, foldl_cons → fo_, mem_append_right → mr_, filter_cons → ft_
namespace L2
open PySem PySem.Spec PyProof.Rows
abbrev Key := Sum Int Str
def qiU : Key -> Value -> Bool
 | .inl k, v => Value.isInt k v
 | .inr x, v => Value.isStrOf x v
def qmq (w : World) : Key -> Int
 | .inl k => hashInt k
 | .inr x => hashStr w x
theorem qU : ∀ {k : Key} {v : Value}, qiU k v = true -> (∃ i t, k = Sum.inl i /\ v = Value.int i t) \/ (∃ x t, k = Sum.inr x /\ v = Value.str x t)
 | .inl i, v, h => by
  obtain ⟨t, e⟩ := Value.isInt_shape (k := i) (v := v) h
  exact .inl ⟨i, t, rfl, e⟩
 | .inr x, v, h => by
  obtain ⟨t, e⟩ := Value.isStrOf_shape (x := x) (v := v) h
  exact .inr ⟨x, t, rfl, e⟩
theorem qiV (a b : Int) : decide ((Sum.inl a : Key) = Sum.inl b) = (a == b) := by
 by_cases e : a = b
 ·subst e; simp
 ·have h : ¬ (Sum.inl a : Key) = Sum.inl b := fun q => e (Sum.inl.inj q)
  rw [decide_eq_false h]
  exact (beq_eq_false_iff_ne.mpr e).symm
theorem qiW (a b : Str) : decide ((Sum.inr a : Key) = Sum.inr b) = decide (a = b) := by
 by_cases e : a = b
 ·subst e; simp
 ·have h : ¬ (Sum.inr a : Key) = Sum.inr b := fun q => e (Sum.inr.inj q)
  rw [decide_eq_false h, decide_eq_false e]
theorem qiX (a : Int) (b : Str) : decide ((Sum.inl a : Key) = Sum.inr b) = false := decide_eq_false (fun q => nomatch q)
theorem qiY (a : Str) (b : Int) : decide ((Sum.inr a : Key) = Sum.inl b) = false := decide_eq_false (fun q => nomatch q)
def qat (prog : Program) (w : World) : PySem.KeyKind prog w Key where
 is := qiU
 hash := qmq w
 inj := fun v a b ha hb => by
  rcases qU ha with ⟨i, t, rfl, rfl⟩ | ⟨x, t, rfl, rfl⟩
  ·rcases qU hb with ⟨j, u, rfl, e⟩ | ⟨y, u, rfl, e⟩
   ·injection e with e1 _; rw [e1]
   ·exact nomatch e
  ·rcases qU hb with ⟨j, u, rfl, e⟩ | ⟨y, u, rfl, e⟩
   ·exact nomatch e
   ·injection e with e1 _; rw [e1]
 byValue := fun k v h => by
  rcases qU h with ⟨i, t, rfl, rfl⟩ | ⟨x, t, rfl, rfl⟩ <;> rfl
 pyHash := fun hv h => by
  rcases qU hv with ⟨i, t, rfl, rfl⟩ | ⟨x, t, rfl, rfl⟩
  ·exact wpAny_pyHash_int h
  ·exact wpAny_pyHash_str h
 eqBool := fun hu hv h => by
  rcases qU hu with ⟨i, t, rfl, rfl⟩ | ⟨x, t, rfl, rfl⟩
  ·rcases qU hv with ⟨j, u, rfl, rfl⟩ | ⟨y, u, rfl, rfl⟩
   ·rw [qiV] at h; exact wpAny_eqBool_int h
   ·rw [qiX] at h; exact SeqAt.EqAt.int_str i t y u _ _ _ _ h
  ·rcases qU hv with ⟨j, u, rfl, rfl⟩ | ⟨y, u, rfl, rfl⟩
   ·rw [qiY] at h; exact SeqAt.EqAt.str_int x t j u _ _ _ _ h
   ·rw [qiW] at h; exact wpAny_eqBool_str h
 «strs» := fun k x t v h => by
  rcases qU h with ⟨i, u, rfl, e⟩ | ⟨y, u, rfl, e⟩
  ·exact nomatch e
  ·injection e with e1 _
   subst e1
   cases v <;> rfl
end L2
namespace L2
open PySem PySem.Spec PyProof.Rows
inductive V where
 | non | bl (b : Bool) | int (i : Int) | str (x : Str) | byt (b : Array UInt8) | flt (b : UInt64) | ref (a : Addr) | ty (n : String)
 deriving DecidableEq
def jf : V -> Value -> Prop
 | .non, u => u = Value.none
 | .bl b, u => u = Value.bool b
 | .int i, u => ∃ t, u = Value.int i t
 | .str x, u => ∃ t, u = Value.str x t
 | .byt b, u => ∃ t, u = Value.bytes b t
 | .flt b, u => ∃ t, u = Value.float b t
 | .ref a, u => u = Value.ref a
 | .ty n, u => u = Value.type n
abbrev qN : List V -> List Value -> Prop := Paired jf
theorem qN.length {xs : List V} {us : List Value} (r : qN xs us) : xs.length = us.length := Paired.length r
theorem qN.get : ∀ {xs : List V} {us : List Value} {i : Nat} {x : V}, qN xs us -> xs[i]? = some x -> ∃ u, us[i]? = some u /\ jf x u
 | _, _, _, _, .nil, e => by simp at e
 | _, _, 0, _, .cons r _, e => by simp at e; subst e; exact ⟨_, rfl, r⟩
 | _, _, i + 1, x, .cons _ t, e => by
  obtain ⟨u, h1, h2⟩ := qN.get (i := i) (x := x) t (by simpa using e)
  exact ⟨u, by simpa using h1, h2⟩
theorem qN.set {x : V} {u : Value} (r : jf x u) : ∀ {xs : List V} {us : List Value} (i : Nat), qN xs us -> qN (xs.set i x) (us.set i u)
 | _, _, _, .nil => .nil
 | _, _, 0, .cons _ t => .cons r t
 | _, _, i + 1, .cons q t => .cons q (qN.set r i t)
theorem qN.append : ∀ {xs ys : List V} {us ws : List Value}, qN xs us -> qN ys ws -> qN (xs ++ ys) (us ++ ws)
 | _, _, _, _, .nil, s => s
 | _, _, _, _, .cons r t, s => .cons r (qN.append t s)
theorem qN.take : ∀ {xs : List V} {us : List Value} (n : Nat), qN xs us -> qN (xs.take n) (us.take n)
 | _, _, 0, _ => .nil
 | _, _, _ + 1, .nil => .nil
 | _, _, n + 1, .cons r t => .cons r (qN.take n t)
theorem qN.drop : ∀ {xs : List V} {us : List Value} (n : Nat), qN xs us -> qN (xs.drop n) (us.drop n)
 | _, _, 0, r => r
 | _, _, _ + 1, .nil => .nil
 | _, _, n + 1, .cons _ t => qN.drop n t
def qkS : Option V -> Option Value -> Prop
 | some v, some u => jf v u
 | none, none => True
 | _, _ => False
def KV {κ : Type} : List (κ × V) -> List (κ × Value) -> Prop := Paired fun (p : κ × V) (q : κ × Value) => p.1 = q.1 /\ jf p.2 q.2
def kV : Key -> V
 | .inl i => .int i
 | .inr x => .str x
inductive HO where
 /-- a list -/
 | lst (xs : List V)
 /-- a tuple (never changes) -/
 | tup (xs : List V)
 /-- a dict whose keys are ints and texts; one whose keys are tuples of ints and texts (the empty one is both) -/
 | dK (kvs : List (Key × V)) | dT (kvs : List (List Key × V))
 /-- a set of ints: its members, its size -/
 | set (S : Int -> Bool) (n : Nat)
 /-- an instance of the class at C, its dict at dx, its attributes -/
 | ins (C dx : Addr) (fs : List (Str × V))
 /-- the dict of the instance at x -/
 | own (x : Addr)
 /-- the dict of an exception -/
 | xd (fs : List (Str × V))
 /-- a bound method, f of x -/
 | met (f x : Addr)
 /-- a range object lo, lo + 1, .. below hi -/
 | rng (lo hi : Int)
 /-- a thing that is known to the object (the script; a dict while a loop walks it): read, never written while it is so -/
 | frz (o : Obj) (u : HO)
 /-- a code object's table -/
 | tbl (ps : Array Value)
 /-- any other thing, by what is true of its one object (a def of one's own: SetO a S n := HO.ext fun h => ..) -/
 | ext (φ : Heap -> Prop)
 /-- the table of a code object in which at most one lambda's code stands -/
 | lam (pos : Pos) (q : Str)
abbrev Hp := Addr -> Option HO
def upd (H : Hp) (a : Addr) (o : HO) : Hp := fun b => if b = a then some o else H b
theorem qo {H : Hp} {a : Addr} {o : HO} : upd H a o a = some o := by unfold upd; rw [if_pos rfl]
theorem qj {H : Hp} {a b : Addr} {o : HO} (h : b ≠ a) : upd H a o b = H b := by unfold upd; rw [if_neg h]
theorem vw {H : Hp} {a b : Addr} {o u : HO} (h : H a = some o) (h' : H b = some u) (d : o ≠ u) : a ≠ b := by
 intro e; subst e; rw [h] at h'; exact d (Option.some.inj h')
theorem qA {H : Hp} {a b : Addr} {o : HO} (h : H a = some o) (h' : H b = none) : a ≠ b := by
 intro e; subst e; rw [h] at h'; cases h'
section
variable (P : Program) (w : World)
def jQ (H : Hp) (h : Heap) (a : Addr) : HO -> Prop
 | .lst xs => xs.length <= sizeLine /\ ∃ (its : List Value) (n : Nat), qN xs its /\ h.get? a = some { cls := .type "list", data := .seq its.toArray n }
 | .tup xs => xs.length <= sizeLine /\ ∃ its : List Value, qN xs its /\ IsTup h a its.toArray
 | .dK kvs => kvs.length <= sizeLine /\ (a == sysModules) = false /\ ∃ vs, KV kvs vs /\ h.DictOf (qat P w) a vs
 | .dT kvs => kvs.length <= sizeLine /\ (a == sysModules) = false /\ ∃ xs : List (List Key × Addr × Value),
   Paired (fun (p : List Key × V) (q : List Key × Addr × Value) => p.1 = q.1 /\ H q.2.1 = some (.tup (p.1.map kV)) /\ jf p.2 q.2.2) kvs xs /\
   ∃ o es ep, h.get? a = some o /\ o.ExactDict /\ o.data = .dict es ep /\ es.toList = xs.map (entryOfKey (tupleKind (qat P w))) /\ (xs.map (·.1)).Nodup
 | .set S n => h.SetOf (intKind P w) a S n
 | .ins C dx fs => H dx = some (.own a) /\ fs.length <= 1000 /\ dx ≠ a /\ h.get? a = some (PySem.W.instObj C dx) /\
   ∃ mA, h.Ns1 dx mA /\ (∀ f, qkS (fs.lookup f) (mA f)) /\ PySem.Within mA (fs.map (·.1))
 | .own _ => ∃ o, h.get? a = some o
 | .xd fs => ∃ mA, h.Ns1 a mA /\ ∀ f, qkS (fs.lookup f) (mA f)
 | .rng lo hi => ∃ t u v, h.get? a = some { cls := .type "range", data := .fields #[.int lo t, .int hi u, .int 1 v] }
 | .frz o u => h.get? a = some o /\ jQ H h a u
 | .tbl ps => h.get? a = some { cls := .none, data := .fields ps }
 | .met f x => h.get? a = some (PySem.W.methodObj (.ref f) (.ref x))
 | .lam pos q => h.get? a = some { cls := .none, data := .fields #[] } \/ ∃ (c : Addr) (oc : Obj) (vs : Array Value) (t : Tok), H c = some (.frz oc (.own c)) /\ oc.data = .fields vs /\ vs[1]? = some (.str q t) /\
   h.get? a = some { cls := .none, data := .fields #[rawInt pos.line, rawInt pos.col, .ref c] }
 | .ext φ => φ h /\ (∃ o, h.get? a = some o) /\ ∀ h1 h2 : Heap, φ h1 -> (∀ o, h1.get? a = some o -> h2.get? a = some o) -> φ h2
def HOk (H : Hp) (h : Heap) : Prop := ∀ a o, H a = some o -> jQ P w H h a o
end
section
variable {P : Program} {w : World} {H H' : Hp} {h h' : Heap} {a : Addr} {o : HO}
theorem jQ.lt (x : jQ P w H h a o) : a < h.objs.size := by
 cases o with
 | lst xs => obtain ⟨_, _, _, _, e⟩ := x; exact Heap.lt_size e
 | tup xs => obtain ⟨_, _, _, p⟩ := x; exact p.lt
 | dK kvs => obtain ⟨_, _, _, _, o, _, _, e, _⟩ := x; exact Heap.lt_size e
 | dT kvs => obtain ⟨_, _, _, _, o, _, _, e, _⟩ := x; exact Heap.lt_size e
 | set S n => obtain ⟨o, _, _, _, e, _⟩ := x; exact Heap.lt_size e
 | ins C dx fs => obtain ⟨_, _, _, e, _⟩ := x; exact Heap.lt_size e
 | own y => obtain ⟨_, e⟩ := x; exact Heap.lt_size e
 | xd fs => obtain ⟨_, ⟨_, _, _, e, _⟩, _⟩ := x; exact Heap.lt_size e
 | rng lo hi => obtain ⟨_, _, _, e⟩ := x; exact Heap.lt_size e
 | frz ob u => obtain ⟨e, _⟩ := x; exact Heap.lt_size e
 | tbl ps => exact Heap.lt_size (show h.get? a = some _ from x)
 | met f y => exact Heap.lt_size (show h.get? a = some _ from x)
 | ext φ => obtain ⟨_, ⟨_, e⟩, _⟩ := x; exact Heap.lt_size e
 | lam pos q =>
  rcases x with e | ⟨_, _, _, _, _, _, _, e⟩
  ·exact Heap.lt_size e
  ·exact Heap.lt_size e
theorem Paired.mapP {α β : Type} {F G : α -> β -> Prop} : ∀ {l₁ : List α} {l₂ : List β}, Paired F l₁ l₂ -> (∀ a b, F a b -> G a b) -> Paired G l₁ l₂
 | _, _, .nil, _ => .nil
 | _, _, .cons r t, f => .cons (f _ _ r) (Paired.mapP t f)
theorem jQ.stay (x : jQ P w H h a o) (k : ∀ b u, (b = a \/ H b = some (.own a)) -> h.get? b = some u -> h'.get? b = some u)
  (ho : ∀ b, H b = some (.own a) -> H' b = some (.own a)) (ht : ∀ b xs, H b = some (.tup xs) -> H' b = some (.tup xs)) (hz : ∀ b ob u, H b = some (.frz ob u) -> H' b = some (.frz ob u) := by exact fun _ _ _ q => q) : jQ P w H' h' a o := by
 induction o with
 | lst xs => obtain ⟨z, its, n, r, e⟩ := x; exact ⟨z, its, n, r, k _ _ (.inl rfl) e⟩
 | tup xs => obtain ⟨z, its, r, ob, e, c⟩ := x; exact ⟨z, its, r, ob, k _ _ (.inl rfl) e, c⟩
 | dK kvs => obtain ⟨z, y, vs, r, ob, es, ep, e, c⟩ := x; exact ⟨z, y, vs, r, ob, es, ep, k _ _ (.inl rfl) e, c⟩
 | dT kvs =>
  obtain ⟨z, y, xs, r, ob, es, ep, e, c⟩ := x
  exact ⟨z, y, xs, Paired.mapP r fun p q z => ⟨z.1, ht _ _ z.2.1, z.2.2⟩, ob, es, ep, k _ _ (.inl rfl) e, c⟩
 | set S n => obtain ⟨ob, es, ep, t, e, c⟩ := x; exact ⟨ob, es, ep, t, k _ _ (.inl rfl) e, c⟩
 | ins C dx fs =>
  obtain ⟨d, z, ne, e, mA, ⟨od, es, ep, e2, c⟩, r⟩ := x
  exact ⟨ho _ d, z, ne, k _ _ (.inl rfl) e, mA, ⟨od, es, ep, k _ _ (.inr d) e2, c⟩, r⟩
 | own y => obtain ⟨ob, e⟩ := x; exact ⟨ob, k _ _ (.inl rfl) e⟩
 | xd fs => obtain ⟨mA, ⟨od, es, ep, e, c⟩, r⟩ := x; exact ⟨mA, ⟨od, es, ep, k _ _ (.inl rfl) e, c⟩, r⟩
 | rng lo hi => obtain ⟨t, u, v, e⟩ := x; exact ⟨t, u, v, k _ _ (.inl rfl) e⟩
 | frz ob u ih => obtain ⟨e, q⟩ := x; exact ⟨k _ _ (.inl rfl) e, ih q⟩
 | tbl ps =>
  have e : h.get? a = some { cls := .none, data := .fields ps } := x
  show h'.get? a = some { cls := .none, data := .fields ps }
  exact k a _ (.inl rfl) e
 | met f y =>
  have e : h.get? a = some (PySem.W.methodObj (.ref f) (.ref y)) := x
  show h'.get? a = some (PySem.W.methodObj (.ref f) (.ref y))
  exact k a _ (.inl rfl) e
 | ext φ => obtain ⟨p, ⟨o, e⟩, st⟩ := x; exact ⟨st _ _ p fun o q => k _ _ (.inl rfl) q, ⟨o, k _ _ (.inl rfl) e⟩, st⟩
 | lam pos q =>
  rcases x with e | ⟨c, oc, vs, t, h1, h2, h3, e⟩
  ·exact .inl (k _ _ (.inl rfl) e)
  ·exact .inr ⟨c, oc, vs, t, hz _ _ _ h1, h2, h3, k _ _ (.inl rfl) e⟩
theorem HOk.lt (x : HOk P w H h) (e : H a = some o) : a < h.objs.size := (x a o e).lt
theorem HOk.fresh (x : HOk P w H h) (e : h.objs.size <= a) : H a = none := by
 cases q : H a with
 | none => rfl
 | some u => exact absurd (Nat.lt_of_lt_of_le (x.lt q) e) (Nat.lt_irrefl _)
theorem HOk.kept (x : HOk P w H h) (k : ∀ b u, h.get? b = some u -> h'.get? b = some u) : HOk P w H h' := fun a o e =>
 (x a o e).stay (fun b u _ q => k b u q) (fun _ q => q) fun _ _ q => q
theorem HOk.laid (x : HOk P w H h) (k : ∀ b u, h.get? b = some u -> h'.get? b = some u) (hp : h.objs.size <= a) (new : jQ P w (upd H a o) h' a o) : HOk P w (upd H a o) h' := fun b u e => by
 have hn := x.fresh hp
 by_cases hb : b = a
 ·subst hb; rw [qo] at e; cases e; exact new
 ·rw [qj hb] at e
  exact (x b u e).stay (fun c v _ q => k c v q) (fun c q => by rw [qj (qA q hn)]; exact q) (fun c xs q => by rw [qj (qA q hn)]; exact q) fun c ob z q => by rw [qj (qA q hn)]; exact q
end
def Rd (H : Hp) (a : Addr) (u : HO) : Prop := H a = some u \/ ∃ o, H a = some (.frz o u)
theorem Rd.ok {P : Program} {w : World} {H : Hp} {h : Heap} {a : Addr} {u : HO} (r : Rd H a u) (x : HOk P w H h) : jQ P w H h a u := by
 rcases r with r | ⟨o, r⟩
 ·exact x a u r
 ·obtain ⟨_, q⟩ := x a _ r
  exact q
def Mut : Option HO -> Prop
 | some (.lst _) => True
 | some (.dK _) => True
 | some (.dT _) => True
 | some (.set _ _) => True
 | some (.ins _ _ _) => True
 | some (.ext _) => True
 | _ => False
section
variable {P : Program} {w : World} {H : Hp} {h h' : Heap} {x e : Addr} {o' : HO}
theorem HOk.write (ok : HOk P w H h) (mu : Mut (H x)) (he : e = x \/ H e = some (.own x)) (k : ∀ b u, b ≠ e -> h.get? b = some u -> h'.get? b = some u) (heo : ∃ u, h'.get? e = some u)
  (new : jQ P w (upd H x o') h' x o') : HOk P w (upd H x o') h' := fun b u q => by
 have nown : ∀ c y, H c = some (.own y) -> c ≠ x := fun c y r z => by subst z; rw [r] at mu; exact mu
 have ntup : ∀ c xs, H c = some (.tup xs) -> c ≠ x := fun c xs r z => by subst z; rw [r] at mu; exact mu
 have nfrz : ∀ c ob y, H c = some (.frz ob y) -> c ≠ x := fun c ob y r z => by subst z; rw [r] at mu; exact mu
 by_cases hb : b = x
 ·subst hb; rw [qo] at q; cases q; exact new
 ·rw [qj hb] at q
  by_cases hbe : b = e
  ·have q' : H b = some (.own x) := by
    rcases he with z | z
    ·exact absurd (hbe.trans z) hb
    ·rw [hbe]; exact z
   rw [q] at q'; cases q'
   obtain ⟨v, hv⟩ := heo
   exact ⟨v, by rw [hbe]; exact hv⟩
  ·refine (ok b u q).stay (fun c v hc r => k c v ?_ r) (fun c r => by rw [qj (nown c b r)]; exact r) (fun c xs r => by rw [qj (ntup c xs r)]; exact r) fun c ob z r => by rw [qj (nfrz c ob z r)]; exact r
   rcases hc with rfl | hc
   ·exact hbe
   ·rintro rfl
    rcases he with z | z
    ·exact nown c b hc z
    ·rw [hc] at z; cases z; exact hb rfl
end
structure Un (fs ex : List Addr) (H H' : Hp) (h h' : Heap) : Prop where
 keep : ∀ b o, h.get? b = some o -> H b = none -> b ∉ fs -> b ∉ ex -> h'.get? b = some o
 slot : ∀ b o, h.get? b = some o -> H b = none -> b ∈ fs -> b ∉ ex -> ∃ sl, h'.get? b = some { o with slots := sl }
 free : ∀ b o, h.get? b = some o -> H b = none -> b ∉ ex -> H' b = none
 there : ∀ b o, h.get? b = some o -> b ∉ ex -> ∃ o', h'.get? b = some o'
 tups : ∀ b xs, H b = some (.tup xs) -> H' b = some (.tup xs)
 frzs : ∀ b o u, H b = some (.frz o u) -> H' b = some (.frz o u)
 tbls : ∀ b pos q, H b = some (.lam pos q) -> H' b = some (.lam pos q)
section
variable {fs fs' ex ex' : List Addr} {H H1 H2 : Hp} {h h1 h2 h' : Heap} {a x e : Addr} {o : HO}
theorem Un.any (u : Un fs ex H H1 h h1) {b : Addr} {ob : Obj} (q : h.get? b = some ob) (n : H b = none) (hx : b ∉ ex) : ∃ sl, h1.get? b = some { ob with slots := sl } := by
 by_cases hb : b ∈ fs
 ·exact u.slot b ob q n hb hx
 ·exact ⟨ob.slots, u.keep b ob q n hb hx⟩
theorem Un.trans (a : Un fs ex H H1 h h1) (b : Un fs ex H1 H2 h1 h2) : Un fs ex H H2 h h2 where
 keep := fun c ob q n hc hx => b.keep c ob (a.keep c ob q n hc hx) (a.free c ob q n hx) hc hx
 slot := fun c ob q n hc hx => by
  obtain ⟨sl, e1⟩ := a.slot c ob q n hc hx
  obtain ⟨sl', e2⟩ := b.slot c _ e1 (a.free c ob q n hx) hc hx
  exact ⟨sl', e2⟩
 free := fun c ob q n hx => by
  obtain ⟨o', e1⟩ := a.there c ob q hx
  exact b.free c o' e1 (a.free c ob q n hx) hx
 there := fun c ob q hx => by
  obtain ⟨o', e1⟩ := a.there c ob q hx
  exact b.there c o' e1 hx
 tups := fun c xs q => b.tups c xs (a.tups c xs q)
 frzs := fun c ob xs q => b.frzs c ob xs (a.frzs c ob xs q)
 tbls := fun c ps x q => b.tbls c ps x (a.tbls c ps x q)
theorem Un.kept (k : ∀ b u, h.get? b = some u -> h'.get? b = some u) : Un fs ex H H h h' :=
 ⟨fun b ob q _ _ _ => k b ob q, fun b ob q _ _ _ => ⟨ob.slots, k b ob q⟩, fun _ _ _ n _ => n, fun b ob q _ => ⟨ob, k b ob q⟩, fun _ _ q => q, fun _ _ _ q => q, fun _ _ _ q => q⟩
theorem Un.refl : Un fs ex H H h h := Un.kept fun _ _ q => q
theorem Un.laid (k : ∀ b u, h.get? b = some u -> h'.get? b = some u) (hp : h.objs.size <= a) (hn : H a = none) : Un fs ex H (upd H a o) h h' where
 keep := fun b u q _ _ _ => k b u q
 slot := fun b u q _ _ _ => ⟨u.slots, k b u q⟩
 free := fun b u q n _ => by rw [qj (Nat.ne_of_lt (Nat.lt_of_lt_of_le (Heap.lt_size q) hp))]; exact n
 there := fun b u q _ => ⟨u, k b u q⟩
 tups := fun b xs q => by rw [qj (qA q hn)]; exact q
 frzs := fun b u xs q => by rw [qj (qA q hn)]; exact q
 tbls := fun b ps x q => by rw [qj (qA q hn)]; exact q
theorem Un.write (mu : Mut (H x)) (he : e = x \/ H e = some (.own x)) (k : ∀ b u, b ≠ e -> h.get? b = some u -> h'.get? b = some u) (heo : ∃ u, h'.get? e = some u) : Un fs ex H (upd H x o) h h' := by
 have hx : ∀ b, H b = none -> b ≠ x := fun b n z => by subst z; rw [n] at mu; exact mu
 have hb : ∀ b, H b = none -> b ≠ e := fun b n z => by
  subst z
  rcases he with r | r
  ·exact hx b n r
  ·rw [n] at r; cases r
 have hm : ∀ b u, H b = some u -> ¬ Mut (some u) -> b ≠ x := fun b u q nm z => by subst z; rw [q] at mu; exact nm mu
 refine ⟨fun b u q n _ _ => k b u (hb b n) q, fun b u q n _ _ => ⟨u.slots, k b u (hb b n) q⟩, fun b u q n _ => by rw [qj (hx b n)]; exact n, fun b u q _ => ?_,
  fun b xs q => by rw [qj (hm b _ q fun z => z)]; exact q, fun b u xs q => by rw [qj (hm b _ q fun z => z)]; exact q, fun b ps x q => by rw [qj (hm b _ q fun z => z)]; exact q⟩
 by_cases hbe : b = e
 ·subst hbe; exact heo
 ·exact ⟨u, k b u hbe q⟩
end
def trk (h : Heap) (H : Hp) : List Addr := (List.range h.objs.size).filter fun a => (H a).isSome
def qfl (h : Heap) (H : Hp) : Heap := PySem.W.hideAll h (trk h H)
theorem qdN (h : Heap) (H : Hp) : (qfl h H).objs.size = h.objs.size := PySem.W.hideAll_size _ _
theorem qfm {h : Heap} {H : Hp} {b : Addr} {o : Obj} (e : h.get? b = some o) (n : H b = none) : (qfl h H).get? b = some o :=
 PySem.W.hideAll_get _ e fun hm => by
  have q : (H b).isSome = true := (List.mem_filter.mp hm).2
  rw [n] at q; simp at q
theorem qg8 {h : Heap} {H : Hp} {b : Addr} {o : Obj} (e : (qfl h H).get? b = some o) : h.get? b = some o /\ H b = none := by
 have e' : h.get? b = some o := PySem.W.of_hideAll (trk h H) e
 refine ⟨e', ?_⟩
 cases q : H b with
 | none => rfl
 | some x =>
  have hm : b ∈ trk h H := List.mem_filter.mpr ⟨mR_.mpr (Heap.lt_size e'), by simp [q]⟩
  have z : (qfl h H).get? b = none := PySem.W.hideAll_none (trk h H) hm
  rw [z] at e; cases e
def qg9 (g h : Heap) (L : Addr) : List (Addr × Obj) := (List.range h.objs.size).filterMap fun a => if a = L \/ (g.get? a).isSome = true then none else (h.get? a).map fun o => (a, o)
def wR (g h : Heap) (L d : Addr) : List (Addr × Obj) := (qg9 g h L).filter fun p => decide (p.1 ≠ d)
end L2
namespace L2
open PySem PySem.Spec PyProof.Rows
structure Mod (K : PySem.W.Frag) (mg : Str -> Option Value) (base : Heap) : Prop where
 kin : K.In base
 glob : base.Ns mainGlobals mg
 blt : ∃ mb, base.Ns builtinsNs mb /\ ∀ x : Str, x ≠ "__name__" -> mb x = bootBuiltins x
 nolimit : base.NoLimit
 bm : ∃ bm ob, mg "__builtins__" = some (.ref bm) /\ bm ≠ builtinsNs /\ base.get? bm = some ob /\ ob.cls = .type "module" /\ ob.dict = some builtinsNs /\ ob.data = .plain
structure Cx where
 prog : Program
 w : World
 K : PySem.W.Frag
 mg : Str -> Option Value
 base : Heap
 A : Around
 N : List Str
 s₀ : Shared
 H₀ : Hp
 env : Env
 outer : List Env
 stack : List Env
 ex : List Addr
 fn : Str -> Bool
 calm : Bool
 pn : List (Addr × Obj)
 xe : Value -> Shared -> Prop
def frs (l : List Env) : List Addr := l.filterMap (·.frame)
abbrev Cx.fs (X : Cx) : List Addr := frs X.outer
def Vis (sc : Scope) (x : Str) : Prop := sc.names.lookup x = some .local \/ sc.names.lookup x = some .cell \/ sc.names.lookup x = some .free
def Loc (sc : Scope) (x : Str) : Prop := sc.names.lookup x = some .local \/ sc.names.lookup x = some .cell
def qmr (env : Env) (h : Heap) (m : Str -> Option Value) (x : Str) (u : Value) : Prop :=
 (env.kindOf x = some .local /\ m x = some u) \/ ((env.kindOf x = some .cell \/ env.kindOf x = some .free) /\ ∃ c, env.cells.lookup x = some c /\ h.IsCell c (some u))
structure Cx.Ok (X : Cx) : Prop where
 mod : Mod X.K X.mg X.base
 kind : X.env.scope.kind = .function
 glob : X.env.globals = mainGlobals
 blt : X.env.builtins = builtinsNs
 above : X.s₀.heap.objs.size <= X.env.locals
 inj : ∀ x y c, X.env.cells.lookup x = some c -> X.env.cells.lookup y = some c -> x = y
 has : ∀ x, (X.env.kindOf x = some .cell \/ X.env.kindOf x = some .free) -> ∃ c, X.env.cells.lookup x = some c
 cab : ∀ x c, X.fn x = true -> X.env.cells.lookup x = some c -> X.s₀.heap.objs.size <= c
 hd : X.calm = true -> X.A.handled = none
 frames : X.A.frames = some X.stack
 stk : X.stack = X.outer \/ (X.stack = X.env :: X.outer /\ X.env.frame = some X.env.locals)
 exf : ∀ b ∈ X.ex, b ≠ X.env.locals /\ ∀ x c, X.env.cells.lookup x = some c -> c ≠ b
 bs : ∀ b o, X.base.get? b = some o -> X.s₀.heap.get? b = some o /\ X.H₀ b = none
 bsz : X.base.objs.size <= X.s₀.heap.objs.size
 noex : ∀ b o, X.base.get? b = some o -> b ∉ X.ex
 exfs : ∀ b ∈ X.ex, b ∉ X.fs
 funs : X.s₀.heap.FunFrames X.base X.outer
 frf : ∀ b ∈ X.fs, X.H₀ b = none
structure Inv (X : Cx) (pins : List (Addr × Obj)) (Z : List (Option V)) (H : Hp) (s : Shared) : Prop where
 ok : X.Ok
 os : s.os = X.s₀.os
 bare : AllBare s.gens
 base : Un X.fs X.ex X.H₀ H X.s₀.heap s.heap
 loc : ∃ m, s.heap.Ns X.env.locals m /\ ∀ (i : Nat) (x : Str) (v : V), X.N[i]? = some x -> Z[i]? = some (some v) -> Vis X.env.scope x -> ∃ u, jf v u /\ qmr X.env s.heap m x u
 cell : ∀ x c, X.env.cells.lookup x = some c -> ∃ v, s.heap.IsCell c v
 free : H X.env.locals = none
 freeC : ∀ x c, X.env.cells.lookup x = some c -> H c = none
 pin : ∀ p ∈ X.pn ++ pins, s.heap.get? p.1 = some p.2 /\ H p.1 = none /\ p.1 ≠ X.env.locals /\ p.1 ∉ X.fs /\ ∀ v, p.2.data ≠ .cell v
 hok : HOk X.prog X.w H s.heap
 len : Z.length = X.N.length
section
variable {X : Cx} {pins : List (Addr × Obj)} {Z : List (Option V)} {H H' : Hp} {s : Shared} {h' : Heap}
theorem Cx.Ok.nofr (ok : X.Ok) {b : Addr} {o : Obj} (e : X.base.get? b = some o) : b ∉ X.fs := fun hb => by
 have := (ok.funs.mem hb).1
 rw [e] at this; cases this
theorem Inv.bs (I : Inv X pins Z H s) : ∀ b o, X.base.get? b = some o -> s.heap.get? b = some o /\ H b = none := fun b o e =>
 ⟨I.base.keep b o (I.ok.bs b o e).1 (I.ok.bs b o e).2 (I.ok.nofr e) (I.ok.noex b o e), I.base.free b o (I.ok.bs b o e).1 (I.ok.bs b o e).2 (I.ok.noex b o e)⟩
theorem Inv.bk (I : Inv X pins Z H s) : ∀ b o, X.base.get? b = some o -> s.heap.get? b = some o := fun b o e => (I.bs b o e).1
theorem Inv.mod (I : Inv X pins Z H s) : Mod X.K X.mg X.base := I.ok.mod
theorem Inv.kIn (I : Inv X pins Z H s) : X.K.In s.heap := I.ok.mod.kin.keeps I.bk
theorem Inv.nolimit (I : Inv X pins Z H s) : s.heap.NoLimit := I.ok.mod.nolimit.keeps I.bk
theorem Inv.lt (I : Inv X pins Z H s) : X.env.locals < s.heap.objs.size := let ⟨_, hn, _⟩ := I.loc; hn.lt
theorem Inv.sz (I : Inv X pins Z H s) : X.s₀.heap.objs.size <= s.heap.objs.size := Nat.le_trans I.ok.above (Nat.le_of_lt I.lt)
theorem Inv.nofs (I : Inv X pins Z H s) {a : Addr} (h : s.heap.objs.size <= a) : a ∉ X.fs := fun hb => by
 obtain ⟨_, o, ho, _⟩ := I.ok.funs.mem hb
 exact absurd (Nat.lt_of_lt_of_le (Heap.lt_size ho) (Nat.le_trans I.sz h)) (Nat.lt_irrefl _)
theorem Inv.cne (I : Inv X pins Z H s) : ∀ x c, X.env.cells.lookup x = some c -> c ≠ X.env.locals := fun x c e z => by
 obtain ⟨v, o, ho, hd⟩ := I.cell x c e
 obtain ⟨m, ⟨o', es, ep, ho', hd', _⟩, _⟩ := I.loc
 rw [z, ho'] at ho; cases ho; rw [hd'] at hd; cases hd
theorem Inv.funs (I : Inv X pins Z H s) : s.heap.FunFrames X.base X.outer := by
 have all : ∀ (l : List Env), (∀ b ∈ frs l, b ∈ X.fs) -> X.s₀.heap.FunFrames X.base l -> s.heap.FunFrames X.base l := by
  intro l
  induction l with
  | nil => intro _ _; trivial
  | cons env r ih =>
   intro hs hl
   obtain ⟨hk, ⟨L, o, hf, hn, ho, hd⟩, hr⟩ := hl
   have hL : L ∈ X.fs := hs L (by unfold frs; rw [List.filterMap_cons, hf]; exact mS_)
   obtain ⟨sl, e⟩ := I.base.slot L o ho (I.ok.frf L hL) hL fun z => I.ok.exfs L z hL
   exact ⟨hk, ⟨L, _, hf, hn, e, hd⟩, ih (fun b hb => hs b (by unfold frs; rw [List.filterMap_cons, hf]; exact mM _ hb)) hr⟩
 exact all X.outer (fun _ hb => hb) I.ok.funs
theorem Inv.stack (I : Inv X pins Z H s) : s.heap.FunFrames X.base X.stack := by
 rcases I.ok.stk with e | ⟨e, hf⟩
 ·rw [e]; exact I.funs
 ·rw [e]
  obtain ⟨m, hn, _⟩ := I.loc
  refine .cons (by rw [I.ok.kind]; decide) hf hn ?_ I.funs
  exact Heap.get?_none_of_le (Nat.le_trans I.ok.bsz I.ok.above)
theorem Inv.stkSub (I : Inv X pins Z H s) : ∀ b ∈ frs X.stack, b ∈ X.env.locals :: X.fs := fun b hb => by
 rcases I.ok.stk with e | ⟨e, hf⟩
 ·rw [e] at hb; exact mM _ hb
 ·rw [e] at hb
  unfold frs at hb
  rw [List.filterMap_cons, hf] at hb
  exact hb
theorem Inv.stkFree (I : Inv X pins Z H s) : ∀ b ∈ frs X.stack, H b = none := fun b hb => by
 rcases List.mem_cons.mp (I.stkSub b hb) with e | hb
 ·rw [e]; exact I.free
 ·obtain ⟨_, o, ho, _⟩ := I.ok.funs.mem hb
  exact I.base.free b o ho (I.ok.frf b hb) fun z => I.ok.exfs b z hb
theorem Inv.step {g' : Array GenState} {t' : Nat} {d' : Drawn} {ch : List Addr} (I : Inv X pins Z H s)
  (hch : ∀ b ∈ ch, (b ∈ X.ex \/ X.s₀.heap.objs.size <= b) /\ b ≠ X.env.locals /\ (∀ x c, X.env.cells.lookup x = some c -> c ≠ b) /\ ∀ p ∈ X.pn ++ pins, p.1 ≠ b)
  (keep : ∀ b o, b ≠ X.env.locals -> b ∉ X.fs -> b ∉ ch -> s.heap.get? b = some o -> H b = none -> h'.get? b = some o)
  (slot : ∀ b o, b ≠ X.env.locals -> b ∈ X.fs -> b ∉ ch -> s.heap.get? b = some o -> H b = none -> ∃ sl, h'.get? b = some { o with slots := sl }) (free : ∀ b o, b ∉ ch -> s.heap.get? b = some o -> H b = none -> H' b = none)
  (there : ∀ b o, b ∉ ch -> s.heap.get? b = some o -> ∃ o', h'.get? b = some o')
  (tups : ∀ b xs, H b = some (.tup xs) -> H' b = some (.tup xs)) (frzs : ∀ b o u, H b = some (.frz o u) -> H' b = some (.frz o u)) (tbls : ∀ b pos q, H b = some (.lam pos q) -> H' b = some (.lam pos q))
  (ns : ∀ m, s.heap.Ns X.env.locals m -> h'.Ns X.env.locals m) (hok : HOk X.prog X.w H' h') (hg : AllBare g') :
  Inv X pins Z H' { s with heap := h', gens := g', drawn := d', toks := t' } := by
 have neL : ∀ b o, X.s₀.heap.get? b = some o -> b ≠ X.env.locals := fun b o e => Nat.ne_of_lt (Nat.lt_of_lt_of_le (Heap.lt_size e) I.ok.above)
 have neC : ∀ b o, X.s₀.heap.get? b = some o -> b ∉ X.ex -> b ∉ ch := fun b o e hx hb => by
  rcases (hch b hb).1 with z | z
  ·exact hx z
  ·exact absurd (Nat.lt_of_lt_of_le (Heap.lt_size e) z) (Nat.lt_irrefl _)
 have cellK : ∀ x c, X.env.cells.lookup x = some c -> ∀ v, s.heap.IsCell c v -> h'.IsCell c v := fun x c e v ⟨o, ho, hd⟩ => by
  have nch : c ∉ ch := fun z => (hch c z).2.2.1 x c e rfl
  by_cases hc : c ∈ X.fs
  ·obtain ⟨sl, q⟩ := slot c o (I.cne x c e) hc nch ho (I.freeC x c e)
   exact ⟨_, q, hd⟩
  ·exact ⟨o, keep c o (I.cne x c e) hc nch ho (I.freeC x c e), hd⟩
 refine ⟨I.ok, I.os, hg, ⟨fun b o e n hb hx => ?_, fun b o e n hb hx => ?_, fun b o e n hx => ?_, fun b o e hx => ?_, fun b xs e => tups b xs (I.base.tups b xs e), fun b o xs e => frzs b o xs (I.base.frzs b o xs e), fun b ps x e => tbls b ps x (I.base.tbls b ps x e)⟩, ?_, fun x c e => ?_, ?_, fun x c e => ?_, fun p hp => ?_, hok, I.len⟩
 ·exact keep b o (neL b o e) hb (neC b o e hx) (I.base.keep b o e n hb hx) (I.base.free b o e n hx)
 ·obtain ⟨sl, e1⟩ := I.base.slot b o e n hb hx
  obtain ⟨sl', e2⟩ := slot b _ (neL b o e) hb (neC b o e hx) e1 (I.base.free b o e n hx)
  exact ⟨sl', e2⟩
 ·obtain ⟨o', e1⟩ := I.base.there b o e hx
  exact free b o' (neC b o e hx) e1 (I.base.free b o e n hx)
 ·obtain ⟨o', e1⟩ := I.base.there b o e hx
  exact there b o' (neC b o e hx) e1
 ·obtain ⟨m, hn, hl⟩ := I.loc
  refine ⟨m, ns m hn, fun i x v e1 e2 e3 => ?_⟩
  obtain ⟨u, r, l⟩ := hl i x v e1 e2 e3
  refine ⟨u, r, ?_⟩
  rcases l with l | ⟨k, c, e, z⟩
  ·exact .inl l
  ·exact .inr ⟨k, c, e, cellK x c e _ z⟩
 ·obtain ⟨v, z⟩ := I.cell x c e
  exact ⟨v, cellK x c e v z⟩
 ·obtain ⟨m, ⟨o, _, _, ho, _⟩, _⟩ := I.loc
  exact free _ o (fun z => (hch _ z).2.1 rfl) ho I.free
 ·obtain ⟨v, o, ho, hd⟩ := I.cell x c e
  exact free c o (fun z => (hch c z).2.2.1 x c e rfl) ho (I.freeC x c e)
 ·obtain ⟨e, n, ne, nf, d⟩ := I.pin p hp
  have nch : p.1 ∉ ch := fun z => (hch p.1 z).2.2.2 p hp rfl
  exact ⟨keep p.1 p.2 ne nf nch e n, free p.1 p.2 nch e n, ne, nf, d⟩
theorem Inv.un {t' : Nat} (I : Inv X pins Z H s) (u : Un X.fs [] H H' s.heap h') (hok : HOk X.prog X.w H' h') : Inv X pins Z H' { s with heap := h', toks := t' } := by
 obtain ⟨m, ⟨o, es, ep, ho, r⟩, _⟩ := id I.loc
 obtain ⟨sl, hL⟩ := u.any ho I.free (by simp)
 exact I.step (g' := s.gens) (d' := s.drawn) (ch := []) (fun _ z => nomatch z) (fun b o _ hb _ e n => u.keep b o e n hb (by simp)) (fun b o _ hb _ e n => u.slot b o e n hb (by simp)) (fun b o _ e n => u.free b o e n (by simp)) (fun b o _ e => u.there b o e (by simp)) u.tups u.frzs u.tbls (fun m' hm => by
  obtain ⟨o', es', ep', ho', r'⟩ := hm
  rw [ho] at ho'; cases ho'
  exact ⟨_, es', ep', hL, r'⟩) hok I.bare
theorem Inv.call {g' : Array GenState} {t' : Nat} {d' : Drawn} {ch : List Addr} (I : Inv X pins Z H s) (u : Un (frs X.stack) ch H H' s.heap h') (hok : HOk X.prog X.w H' h') (hg : AllBare g')
  (hch : ∀ b ∈ ch, (b ∈ X.ex \/ X.s₀.heap.objs.size <= b) /\ b ≠ X.env.locals /\ (∀ x c, X.env.cells.lookup x = some c -> c ≠ b) /\ ∀ p ∈ X.pn ++ pins, p.1 ≠ b) :
  Inv X pins Z H' { s with heap := h', gens := g', drawn := d', toks := t' } := by
 obtain ⟨m, ⟨o, es, ep, ho, r⟩, _⟩ := id I.loc
 obtain ⟨sl, hL⟩ := u.any ho I.free fun z => (hch _ z).2.1 rfl
 exact I.step (ch := ch) hch (fun b o hL hb hc e n => u.keep b o e n (fun z => (List.mem_cons.mp (I.stkSub b z)).elim hL hb) hc) (fun b o _ _ hc e n => u.any e n hc) (fun b o hc e n => u.free b o e n hc) (fun b o hc e => u.there b o e hc) u.tups u.frzs u.tbls (fun m' hm => by
  obtain ⟨o', es', ep', ho', r'⟩ := hm
  rw [ho] at ho'; cases ho'
  exact ⟨_, es', ep', hL, r'⟩) hok hg
theorem Inv.turned {t' : Nat} {it : Addr} (I : Inv X pins Z H s) (k : ∀ b o, b ≠ it -> s.heap.get? b = some o -> h'.get? b = some o) (hn : H it = none) (hL : it ≠ X.env.locals)
  (h1 : it ∈ X.ex \/ X.s₀.heap.objs.size <= it) (h2 : ∀ x c, X.env.cells.lookup x = some c -> c ≠ it) (h3 : ∀ p ∈ X.pn ++ pins, p.1 ≠ it) : Inv X pins Z H { s with heap := h', toks := t' } := by
 have nit : ∀ b u, H b = some u -> b ≠ it := fun b u e z => by rw [z, hn] at e; cases e
 refine I.step (g' := s.gens) (d' := s.drawn) (ch := [it]) (fun b hb => ?_) (fun b o _ _ hc e _ => k b o (fun z => hc (by simp [z])) e) (fun b o _ _ hc e _ => ⟨o.slots, k b o (fun z => hc (by simp [z])) e⟩) (fun _ _ _ _ n => n)
  (fun b o hc e => ⟨o, k b o (fun z => hc (by simp [z])) e⟩) (fun _ _ e => e) (fun _ _ _ e => e) (fun _ _ _ e => e) (fun m hm => ?_) (fun b u e => ?_) I.bare
 ·have e : b = it := by simpa using hb
  subst e
  exact ⟨h1, hL, h2, h3⟩
 ·obtain ⟨o, es, ep, ho, r⟩ := hm
  exact ⟨o, es, ep, k _ o (Ne.symm hL) ho, r⟩
 ·refine (I.hok b u e).stay (fun c v hc q => k c v ?_ q) (fun _ q => q) fun _ _ q => q
  rcases hc with z | z
  ·rw [z]; exact nit b u e
  ·exact nit c _ z
theorem Inv.tok (I : Inv X pins Z H s) (t : Nat) : Inv X pins Z H { s with toks := t } := I.un (h' := s.heap) (t' := t) Un.refl I.hok
theorem Inv.kept {t' : Nat} (I : Inv X pins Z H s) (k : ∀ b u, s.heap.get? b = some u -> h'.get? b = some u) : Inv X pins Z H { s with heap := h', toks := t' } := I.un (Un.kept k) (I.hok.kept k)
theorem Inv.laid {a : Addr} {o : HO} {t' : Nat} (I : Inv X pins Z H s) (k : ∀ b u, s.heap.get? b = some u -> h'.get? b = some u) (hp : s.heap.objs.size <= a) (new : jQ X.prog X.w (upd H a o) h' a o) :
  Inv X pins Z (upd H a o) { s with heap := h', toks := t' } := I.un (Un.laid k hp (I.hok.fresh hp)) (I.hok.laid k hp new)
theorem Inv.write {x e : Addr} {o : HO} {t' : Nat} (I : Inv X pins Z H s) (mu : Mut (H x)) (he : e = x \/ H e = some (.own x)) (k : ∀ b u, b ≠ e -> s.heap.get? b = some u -> h'.get? b = some u) (heo : ∃ u, h'.get? e = some u)
  (new : jQ X.prog X.w (upd H x o) h' x o) : Inv X pins Z (upd H x o) { s with heap := h', toks := t' } := I.un (Un.write mu he k heo) (I.hok.write mu he k heo new)
theorem Inv.pins_of {pins' : List (Addr × Obj)} (I : Inv X pins Z H s) (h : ∀ p ∈ pins', s.heap.get? p.1 = some p.2 /\ H p.1 = none /\ p.1 ≠ X.env.locals /\ p.1 ∉ X.fs /\ ∀ v, p.2.data ≠ .cell v) : Inv X pins' Z H s :=
 ⟨I.ok, I.os, I.bare, I.base, I.loc, I.cell, I.free, I.freeC, fun p hp => (mA_.mp hp).elim (fun z => I.pin p (List.mem_append_left _ z)) (h p), I.hok, I.len⟩
theorem qct {N : List Str} (hN : N.Nodup) {i j : Nat} {x : Str} (a : N[i]? = some x) (b : N[j]? = some x) : i = j := by
 obtain ⟨h1, e1⟩ := gI_.mp a
 obtain ⟨h2, e2⟩ := gI_.mp b
 exact (List.getElem_inj hN).mp (e1.trans e2.symm)
theorem qa9 {M : Model} {A : Around} {E : Value -> Shared -> Prop} {i : Nat} {x : Str} {v : V} {u : Value} {Q : Unit -> Shared -> Prop} (I : Inv X pins Z H s) (hN : X.N.Nodup) (hi : X.N[i]? = some x) (hx : Loc X.env.scope x) (r : jf v u)
  (h : ∀ s', Inv X pins (Z.set i (some v)) H s' -> (∃ a, Heap.SameBut a s.heap s'.heap /\ (a = X.env.locals \/ X.env.cells.lookup x = some a)) -> Q () s') (hf : X.fn x = true \/ X.env.scope.names.lookup x = some .local := by first | exact .inl rfl | exact .inr rfl | assumption) : wpAny M A (storeName X.env x u) Q E s := by
 obtain ⟨m, hn, hl⟩ := id I.loc
 have hcls : (X.env.scope.kind == .class || (X.env.scope.kind == .module && X.env.locals != X.env.globals)) = false := by rw [I.ok.kind]; rfl
 have hiσ : i < Z.length := by rw [I.len]; exact (gI_.mp hi).1
 have cne := I.cne
 have tracked : ∀ {a : Addr} {h' : Heap}, (∃ o, s.heap.get? a = some o /\ H a = none) -> Heap.SameBut a s.heap h' -> HOk X.prog X.w H h' := fun {a h'} ha hs b ob e => by
  obtain ⟨_, _, hfree⟩ := ha
  refine (I.hok b ob e).stay (fun c w' hc q => (hs.2 c ?_).trans q) (fun _ q => q) fun _ _ q => q
  rintro rfl
  rcases hc with rfl | hc
  ·rw [hfree] at e; cases e
  ·rw [hfree] at hc; cases hc
 rcases hx with hk | hk
 ·refine wpAny_storeName_local hk hn (fun h' hn' hs => ?_) hcls
  obtain ⟨oL, _, _, hoL, _⟩ := id hn
  refine h _ ⟨I.ok, I.os, I.bare, ⟨fun b o e n hb hx => ?_, fun b o e n hb hx => ?_, I.base.free, fun b o e hx => ?_, I.base.tups, I.base.frzs, I.base.tbls⟩, ⟨_, hn', fun j y v' e1 e2 e3 => ?_⟩, fun y c e => ?_, I.free, I.freeC, fun p hp => ?_, tracked ⟨oL, hoL, I.free⟩ hs, by simpa using I.len⟩ ⟨_, hs, .inl rfl⟩
  ·exact (hs.2 b (Nat.ne_of_lt (Nat.lt_of_lt_of_le (Heap.lt_size e) I.ok.above))).trans (I.base.keep b o e n hb hx)
  ·obtain ⟨sl, e1⟩ := I.base.slot b o e n hb hx
   exact ⟨sl, (hs.2 b (Nat.ne_of_lt (Nat.lt_of_lt_of_le (Heap.lt_size e) I.ok.above))).trans e1⟩
  ·obtain ⟨o', e1⟩ := I.base.there b o e hx
   exact ⟨o', (hs.2 b (Nat.ne_of_lt (Nat.lt_of_lt_of_le (Heap.lt_size e) I.ok.above))).trans e1⟩
  ·by_cases hj : j = i
   ·subst hj
    rw [hi] at e1; cases e1
    rw [List.getElem?_set_self hiσ] at e2
    cases e2
    exact ⟨u, r, .inl ⟨hk, by simp⟩⟩
   ·rw [List.getElem?_set_ne (Ne.symm hj)] at e2
    obtain ⟨u', r', q⟩ := hl j y v' e1 e2 e3
    refine ⟨u', r', ?_⟩
    rcases q with ⟨k, e⟩ | ⟨k, c, e, z⟩
    ·refine .inl ⟨k, ?_⟩
     have : y ≠ x := fun e => hj (qct hN e1 (e ▸ hi))
     simp [this, e]
    ·exact .inr ⟨k, c, e, z.sameBut hs (cne y c e)⟩
  ·obtain ⟨w', z⟩ := I.cell y c e
   exact ⟨w', z.sameBut hs (cne y c e)⟩
  ·obtain ⟨e, n, ne, nf, d⟩ := I.pin p hp
   exact ⟨(hs.2 p.1 ne).trans e, n, ne, nf, d⟩
 ·have hfn : X.fn x = true := by
   rcases hf with z | z
   ·exact z
   ·rw [z] at hk; cases hk
  obtain ⟨c, hc⟩ := I.ok.has x (.inl hk)
  obtain ⟨w', z⟩ := I.cell x c hc
  refine wpAny_storeName_cell I.ok.kind hk hc z (fun h' hc' hs => ?_)
  obtain ⟨oc, hoc, hocd⟩ := id z
  refine h { s with heap := h' } ⟨I.ok, I.os, I.bare, ⟨fun b o e n hb hx => ?_, fun b o e n hb hx => ?_, I.base.free, fun b o e hx => ?_, I.base.tups, I.base.frzs, I.base.tbls⟩, ⟨m, hn.sameBut hs (Ne.symm (cne x c hc)), fun j y v' e1 e2 e3 => ?_⟩, fun y c' e => ?_, I.free, I.freeC, fun p hp => ?_, tracked ⟨oc, hoc, I.freeC x c hc⟩ hs, by simpa using I.len⟩ ⟨c, hs, .inr hc⟩
  ·exact (hs.2 b (Nat.ne_of_lt (Nat.lt_of_lt_of_le (Heap.lt_size e) (I.ok.cab x c hfn hc)))).trans (I.base.keep b o e n hb hx)
  ·obtain ⟨sl, e1⟩ := I.base.slot b o e n hb hx
   exact ⟨sl, (hs.2 b (Nat.ne_of_lt (Nat.lt_of_lt_of_le (Heap.lt_size e) (I.ok.cab x c hfn hc)))).trans e1⟩
  ·obtain ⟨o', e1⟩ := I.base.there b o e hx
   exact ⟨o', (hs.2 b (Nat.ne_of_lt (Nat.lt_of_lt_of_le (Heap.lt_size e) (I.ok.cab x c hfn hc)))).trans e1⟩
  ·by_cases hj : j = i
   ·subst hj
    rw [hi] at e1; cases e1
    rw [List.getElem?_set_self hiσ] at e2
    cases e2
    exact ⟨u, r, .inr ⟨.inl hk, c, hc, hc'⟩⟩
   ·rw [List.getElem?_set_ne (Ne.symm hj)] at e2
    obtain ⟨u', r', q⟩ := hl j y v' e1 e2 e3
    refine ⟨u', r', ?_⟩
    rcases q with q | ⟨k, c', e, z'⟩
    ·exact .inl q
    ·refine .inr ⟨k, c', e, z'.sameBut hs ?_⟩
     rintro rfl
     exact hj (qct hN e1 (I.ok.inj _ _ _ e hc ▸ hi))
  ·by_cases hcc : c' = c
   ·subst hcc; exact ⟨_, hc'⟩
   ·obtain ⟨w2, z2⟩ := I.cell y c' e
    exact ⟨w2, z2.sameBut hs hcc⟩
  ·obtain ⟨e, n, ne, nf, d⟩ := I.pin p hp
   refine ⟨(hs.2 p.1 ?_).trans e, n, ne, nf, d⟩
   intro q
   rw [q, hoc] at e
   have q' : oc = p.2 := Option.some.inj e
   exact d w' (by rw [<- q']; exact hocd)
theorem vI {M : Model} {A : Around} {E : Value -> Shared -> Prop} {i : Nat} {x : Str} {v : V} {u : Value} {Q : Unit -> Shared -> Prop} (I : Inv X pins Z H s) (hN : X.N.Nodup) (hi : X.N[i]? = some x) (hx : Loc X.env.scope x) (r : jf v u)
  (h : ∀ s', Inv X pins (Z.set i (some v)) H s' -> Q () s') (hf : X.fn x = true \/ X.env.scope.names.lookup x = some .local := by first | exact .inl rfl | exact .inr rfl | assumption) : wpAny M A (storeName X.env x u) Q E s :=
 qa9 I hN hi hx r (fun s' I' _ => h s' I') hf
theorem Inv.call' {s' : Shared} {ch : List Addr} (I : Inv X pins Z H s) (ho : s'.os = s.os) (u : Un (frs X.stack) ch H H' s.heap s'.heap) (hok : HOk X.prog X.w H' s'.heap) (hg : AllBare s'.gens)
  (hch : ∀ b ∈ ch, (b ∈ X.ex \/ X.s₀.heap.objs.size <= b) /\ b ≠ X.env.locals /\ (∀ x c, X.env.cells.lookup x = some c -> c ≠ b) /\ ∀ p ∈ X.pn ++ pins, p.1 ≠ b) : Inv X pins Z H' s' := by
 obtain ⟨h', g', d', t', o'⟩ := s'
 have e : o' = s.os := ho
 subst e
 exact I.call (g' := g') (t' := t') (d' := d') u hok hg hch
end
abbrev XK := Value -> Option Addr -> Hp -> Prop
abbrev St := List (Option V)
abbrev VK := V -> Hp -> Prop
abbrev TE := St -> Hp -> VK -> Prop
abbrev TT := St -> Hp -> (Bool -> Hp -> Prop) -> Prop
abbrev TA := St -> Hp -> (List V -> Hp -> Prop) -> Prop
structure qdO where
 nx : St -> Hp -> Prop
 rt : VK
 bk : St -> Hp -> Prop := fun _ _ => False
 ct : St -> Hp -> Prop := fun _ _ => False
abbrev TS := qdO -> St -> Hp -> Prop
def EP (X : Cx) (pins : List (Addr × Obj)) (Z : St) (Q : VK) (u : Value) (s' : Shared) : Prop := ∃ v H', Inv X pins Z H' s' /\ jf v u /\ Q v H'
def TP (X : Cx) (pins : List (Addr × Obj)) (Z : St) (Q : Bool -> Hp -> Prop) (b : Bool) (s' : Shared) : Prop := ∃ H', Inv X pins Z H' s' /\ Q b H'
def AP (X : Cx) (pins : List (Addr × Obj)) (Z : St) (Q : List V -> Hp -> Prop) (us : List Value) (s' : Shared) : Prop := ∃ vs H', Inv X pins Z H' s' /\ qN vs us /\ Q vs H'
def SP (X : Cx) (pins : List (Addr × Obj)) (D : qdO) (f : Flow) (s' : Shared) : Prop :=
 match f with
 | .next => ∃ Z' H', Inv X pins Z' H' s' /\ D.nx Z' H'
 | .brk => ∃ Z' H', Inv X pins Z' H' s' /\ D.bk Z' H'
 | .cont => ∃ Z' H', Inv X pins Z' H' s' /\ D.ct Z' H'
 | .ret u => ∃ v Z' H', Inv X pins Z' H' s' /\ jf v u /\ D.rt v H'
def PE (X : Cx) (e : Expr) (t : TE) : Prop :=
 ∀ (pins : List (Addr × Obj)) (s : Shared) (Z : St) (H : Hp) (Q : VK), Inv X pins Z H s -> t Z H Q -> wpAny (model X.prog X.w) X.A (eval e X.env) (EP X pins Z Q) X.xe s
def PT (X : Cx) (e : Expr) (t : TT) : Prop :=
 ∀ (pins : List (Addr × Obj)) (s : Shared) (Z : St) (H : Hp) (Q : Bool -> Hp -> Prop), Inv X pins Z H s -> t Z H Q -> wpAny (model X.prog X.w) X.A (isTrue e X.env (eval e X.env)) (TP X pins Z Q) X.xe s
def PW (X : Cx) (e : Expr) (t : TT) : Prop :=
 ∀ (whole : Sem Value) (pins : List (Addr × Obj)) (s : Shared) (Z : St) (H : Hp) (Q : Bool -> Hp -> Prop), Inv X pins Z H s -> t Z H Q -> wpAny (model X.prog X.w) X.A (isTrue e X.env whole) (TP X pins Z Q) X.xe s
theorem PW.pt {X : Cx} {e : Expr} {t : TT} (h : PW X e t) : PT X e t := h _
def PA (X : Cx) (es : List Expr) (t : TA) : Prop :=
 ∀ (pos : Pos) (pins : List (Addr × Obj)) (s : Shared) (Z : St) (H : Hp) (Q : List V -> Hp -> Prop), Inv X pins Z H s -> t Z H Q -> wpAny (model X.prog X.w) X.A (spliced (backTo pos (starEach es X.env))) (AP X pins Z Q) X.xe s
def PS (X : Cx) (st : Stmt) (t : TS) : Prop :=
 ∀ (pins : List (Addr × Obj)) (s : Shared) (Z : St) (H : Hp) (D : qdO), Inv X pins Z H s -> t D Z H -> wpAny (model X.prog X.w) X.A (exec st X.env) (SP X pins D) X.xe s
def PSs (X : Cx) (st : List Stmt) (t : TS) : Prop :=
 ∀ (pins : List (Addr × Obj)) (s : Shared) (Z : St) (H : Hp) (D : qdO), Inv X pins Z H s -> t D Z H -> wpAny (model X.prog X.w) X.A (execs st X.env) (SP X pins D) X.xe s
theorem thn {α : Type} {t : Sem α} {Q Q' : α -> Shared -> Prop} {M : Model} {A : Around} {E : Value -> Shared -> Prop} {s : Shared} (h : wpAny M A t Q E s) (hQ : ∀ a s, Q a s -> Q' a s) : wpAny M A t Q' E s := wpAny_mono h hQ fun _ _ x => x
end L2
namespace L2
open PySem PySem.Spec PyProof.Rows
section
variable {X : Cx}
theorem bin {a b : Expr} {ta tb : TE} (ha : PE X a ta) (hb : PE X b tb) {pins : List (Addr × Obj)} {s : Shared} {Z : St} {H : Hp} {R : V -> V -> Hp -> Prop} (I : Inv X pins Z H s) (h : ta Z H fun x H1 => tb Z H1 fun y H2 => R x y H2)
  {α : Type} {Q : α -> Shared -> Prop} {f : Value -> Value -> Sem α}
  (hf : ∀ v u s2 x y H2, Inv X pins Z H2 s2 -> jf x v -> jf y u -> R x y H2 -> wpAny (model X.prog X.w) X.A (f v u) Q X.xe s2) :
  wpAny (model X.prog X.w) X.A (eval a X.env) (fun v s₁ => wpAny (model X.prog X.w) X.A (eval b X.env) (fun u s₂ => wpAny (model X.prog X.w) X.A (f v u) Q X.xe s₂) X.xe s₁) X.xe s := by
 refine thn (ha pins s Z H _ I h) fun v s1 ⟨x, H1, I1, r1, q1⟩ => ?_
 refine thn (hb pins s1 Z H1 _ I1 q1) fun u s2 ⟨y, H2, I2, r2, q2⟩ => ?_
 exact hf v u s2 x y H2 I2 r1 r2 q2
def qlP (i : Nat) : TE := fun Z H Q => ∃ v, Z[i]? = some (some v) /\ Q v H
def tC (v : V) : TE := fun _ H Q => Q v H
theorem vq {i : Nat} {x : Str} {pos : Pos} (hN : X.N[i]? = some x) (hv : Vis X.env.scope x) (hd : (x == ("__debug__" : Str)) = false := by decide) (hcd : (x == ("__classdict__" : Str)) = false := by decide) : PE X (.Name x pos) (qlP i) := by
 intro pins s Z H Q I h
 obtain ⟨v, e, h⟩ := h
 obtain ⟨m, hn, hl⟩ := I.loc
 obtain ⟨u, r, l⟩ := hl i x v hN e hv
 have fin : EP X pins Z Q u s := ⟨v, H, I, r, h⟩
 rcases l with ⟨hk, hm⟩ | ⟨hk, c, hc, hcell⟩
 ·exact wpAny_Name (wpAny_loadName_local I.ok.kind hk hn hm fin) hd
 ·rcases hk with hk | hk
  ·exact wpAny_Name (wpAny_loadName_cell I.ok.kind hk hc hcell fin) hd
  ·exact wpAny_Name (wpAny_loadName_free I.ok.kind hk hc hcell fin hcd) hd
theorem qiZ {i j pos} : PE X (.Constant (.int i) j pos) (tC (.int i)) := fun _ _ _ H _ I h => wpAny_Constant_int ⟨.int i, H, I.tok _, ⟨_, rfl⟩, h⟩
theorem qkT {b j pos} : PE X (.Constant (.bool b) j pos) (tC (.bl b)) := fun _ _ _ H _ I h => Constant_bool ⟨.bl b, H, I, rfl, h⟩
theorem qi0 {j pos} : PE X (.Constant .none j pos) (tC .non) := fun _ _ _ H _ I h => Constant_none ⟨.non, H, I, rfl, h⟩
def Gl (X : Cx) (x : Str) : Prop := X.env.kindOf x = some .globalImplicit
theorem qbX {E : Value -> Shared -> Prop} {pins : List (Addr × Obj)} {s : Shared} {Z : St} {H : Hp} {x : Str} {u : Value} {pos : Pos} {Q : Value -> Shared -> Prop} (I : Inv X pins Z H s) (hg : Gl X x) (hm : X.mg x = some u) (h : Q u s)
  (hd : (x == ("__debug__" : Str)) = false := by decide) : wpAny (model X.prog X.w) X.A (eval (.Name x pos) X.env) Q E s :=
 Calls.Name_function_global I.ok.kind hg (Calls.loadGlobal_global (by rw [I.ok.glob]; exact I.mod.glob.keeps I.bk) hm h) hd
theorem vP {E : Value -> Shared -> Prop} {pins : List (Addr × Obj)} {s : Shared} {Z : St} {H : Hp} {x : Str} {u : Value} {pos : Pos} {Q : Value -> Shared -> Prop} (I : Inv X pins Z H s) (hg : Gl X x) (hm : X.mg x = none) (hv : bootBuiltins x = some u) (h : Q u s)
  (hn : x ≠ "__name__" := by decide) (hd : (x == ("__debug__" : Str)) = false := by decide) : wpAny (model X.prog X.w) X.A (eval (.Name x pos) X.env) Q E s := by
 obtain ⟨mb, h1, h2⟩ := I.mod.blt
 exact Calls.Name_function_global I.ok.kind hg (Calls.loadGlobal_builtin (by rw [I.ok.glob]; exact I.mod.glob.keeps I.bk) hm (by rw [I.ok.blt]; exact h1.keeps I.bk) ((h2 x hn).trans hv) h) hd
theorem qha {x : Str} {v : V} {u : Value} {pos : Pos} (hg : Gl X x) (hm : X.mg x = some u) (r : jf v u) (hd : (x == ("__debug__" : Str)) = false := by decide) : PE X (.Name x pos) (tC v) :=
 fun _ _ _ H _ I h => qbX I hg hm ⟨v, H, I, r, h⟩ hd
theorem qhb {x : Str} {v : V} {u : Value} {pos : Pos} (hg : Gl X x) (hm : X.mg x = none) (hv : bootBuiltins x = some u) (r : jf v u) (hn : x ≠ "__name__" := by decide) (hd : (x == ("__debug__" : Str)) = false := by decide) : PE X (.Name x pos) (tC v) :=
 fun _ _ _ H _ I h => vP I hg hm hv ⟨v, H, I, r, h⟩ hn hd
variable {a b : Expr} {ta tb : TE} {pos : Pos}
def PC (X : Cx) (op : CmpOp) (a b : Expr) (t : TE) : Prop :=
 ∀ (pins : List (Addr × Obj)) (s : Shared) (Z : St) (H : Hp) (Q : VK), Inv X pins Z H s -> t Z H Q ->
  wpAny (model X.prog X.w) X.A (eval a X.env) (fun v s₁ => wpAny (model X.prog X.w) X.A (eval b X.env) (fun u s₂ => wpAny (model X.prog X.w) X.A (compareOp op v u) (EP X pins Z Q) X.xe s₂) X.xe s₁) X.xe s
theorem qfn (b : Expr) {op : CmpOp} (h : op ≠ .In) (h2 : op ≠ .NotIn) : behindInMarks op b = false := by
 have e1 : (op == CmpOp.In) = false := by cases op <;> first | rfl | exact absurd rfl h
 have e2 : (op == CmpOp.NotIn) = false := by cases op <;> first | rfl | exact absurd rfl h2
 cases b <;> simp [behindInMarks, e1, e2]
def tB (t : TE) : TT := fun Z H Q => t Z H fun x H1 => ∃ c, x = .bl c /\ Q c H1
theorem qlQ {op : CmpOp} {t : TE} (h : PC X op a b t) (h1 : behindInMarks op b = false := by first | exact qfn _ (by decide) (by decide) | rfl) : PT X (.Compare a [op] [b] pos) (tB t) := by
 intro pins s Z H Q I hw
 refine wpAny_isTrue_Compare1 (thn (h pins s Z H _ I hw) fun v s1 h1 => thn h1 fun u s2 h2 => thn h2 fun c s3 ⟨x, H1, I1, r1, q1⟩ => ?_) h1
 obtain ⟨d, rfl, q⟩ := q1
 cases r1
 exact wpAny_truthy_bool ⟨H1, I1, q⟩
theorem qi1 {e : Expr} {t : TE} (h : PE X e t) (he : ∀ whole, isTrue e X.env whole = (do let v <- whole; standAt e.pos; holding [v] (truthy v)) := by intro _; rfl) : PT X e (tB t) := by
 intro pins s Z H Q I hw
 refine isTrue_plain (thn (h pins s Z H _ I hw) fun v s1 ⟨x, H1, I1, r1, q1⟩ => ?_) (he _)
 obtain ⟨d, rfl, q⟩ := q1
 cases r1
 exact wpAny_truthy_bool ⟨H1, I1, q⟩
variable {tA tB' : TT} {wR : List Expr}
def qms (t u : TT) : TT := fun Z H Q => t Z H fun c H1 => if c = true then u Z H1 Q else Q false H1
def tOr (t u : TT) : TT := fun Z H Q => t Z H fun c H1 => if c = true then Q true H1 else u Z H1 Q
def qmt (t : TT) : TT := fun Z H Q => t Z H fun c H1 => Q (!c) H1
theorem qhc (ha : PT X a tA) : PW X (.BoolOp .And [a] pos) tA := by
 intro wh pins s Z H Q I h
 refine isTrue_and (thn (ha pins s Z H Q I h) fun c s1 e => ?_)
 cases c with
 | true => exact isTrue_and_nil e
 | false => exact e
theorem qi2 (ha : PT X a tA) : PW X (.BoolOp .Or [a] pos) tA := by
 intro wh pins s Z H Q I h
 refine isTrue_or (thn (ha pins s Z H Q I h) fun c s1 e => ?_)
 cases c with
 | false => exact isTrue_or_nil e
 | true => exact e
theorem qi3 (ha : PT X a tA) (hb : PW X (.BoolOp .And (b :: wR) pos) tB') : PW X (.BoolOp .And (a :: b :: wR) pos) (qms tA tB') := by
 intro wh pins s Z H Q I h
 refine isTrue_and (thn (ha pins s Z H _ I h) fun c s1 ⟨H1, I1, q1⟩ => ?_)
 cases c with
 | true => exact hb wh pins s1 Z H1 Q I1 q1
 | false => exact ⟨H1, I1, q1⟩
theorem qkU (ha : PT X a tA) (hb : PW X (.BoolOp .Or (b :: wR) pos) tB') : PW X (.BoolOp .Or (a :: b :: wR) pos) (tOr tA tB') := by
 intro wh pins s Z H Q I h
 refine isTrue_or (thn (ha pins s Z H _ I h) fun c s1 ⟨H1, I1, q1⟩ => ?_)
 cases c with
 | true => exact ⟨H1, I1, q1⟩
 | false => exact hb wh pins s1 Z H1 Q I1 q1
theorem qi4 (ha : PT X a tA) : PT X (.UnaryOp .Not a pos) (qmt tA) := by
 intro pins s Z H Q I h
 exact isTrue_not (ha pins s Z H (fun c H1 => Q (!c) H1) I h)
def qkV (ta tb : TE) : TE := fun Z H Q => ta Z H fun x H1 => ∃ c, x = .bl c /\ if c = true then tb Z H1 Q else Q (.bl false) H1
def qmu (ta tb : TE) : TE := fun Z H Q => ta Z H fun x H1 => ∃ c, x = .bl c /\ if c = true then Q (.bl true) H1 else tb Z H1 Q
def qkW (ta : TE) : TE := fun Z H Q => ta Z H fun x H1 => ∃ c, x = .bl c /\ Q (.bl (!c)) H1
theorem qi5 {op} {t : TE} (h : PE X a t) : PE X (.BoolOp op [a] pos) t := fun pins s Z H Q I hw => BoolOp_one (h pins s Z H Q I hw)
theorem qi6 (ha : PE X a ta) (hb : PE X (.BoolOp .And (b :: wR) pos) tb) : PE X (.BoolOp .And (a :: b :: wR) pos) (qkV ta tb) := by
 intro pins s Z H Q I h
 refine BoolOp_and (thn (ha pins s Z H _ I h) fun v s1 ⟨x, H1, I1, r1, q1⟩ => ?_)
 obtain ⟨c, rfl, q1⟩ := q1
 cases r1
 refine wpAny_truthy_bool ?_
 cases c with
 | true => exact hb pins s1 Z H1 Q I1 q1
 | false => exact ⟨.bl false, H1, I1, rfl, q1⟩
theorem qkX (ha : PE X a ta) (hb : PE X (.BoolOp .Or (b :: wR) pos) tb) : PE X (.BoolOp .Or (a :: b :: wR) pos) (qmu ta tb) := by
 intro pins s Z H Q I h
 refine BoolOp_or (thn (ha pins s Z H _ I h) fun v s1 ⟨x, H1, I1, r1, q1⟩ => ?_)
 obtain ⟨c, rfl, q1⟩ := q1
 cases r1
 refine wpAny_truthy_bool ?_
 cases c with
 | false => exact hb pins s1 Z H1 Q I1 q1
 | true => exact ⟨.bl true, H1, I1, rfl, q1⟩
theorem qi7 (ha : PE X a ta) : PE X (.UnaryOp .Not a pos) (qkW ta) := by
 intro pins s Z H Q I h
 refine UnaryOp_ (thn (ha pins s Z H _ I h) fun v s1 ⟨x, H1, I1, r1, q1⟩ => ?_)
 obtain ⟨c, rfl, q1⟩ := q1
 cases r1
 exact not_of (wpAny_truthy_bool ⟨.bl (!c), H1, I1, rfl, q1⟩)
def tIf (t : TT) (ta tb : TE) : TE := fun Z H Q => t Z H fun c H1 => if c = true then ta Z H1 Q else tb Z H1 Q
theorem qfo {c : Expr} (hc : PT X c tA) (ha : PE X a ta) (hb : PE X b tb) : PE X (.IfExp c a b pos) (tIf tA ta tb) := by
 intro pins s Z H Q I h
 refine wpAny_IfExp (thn (hc pins s Z H _ I h) fun d s1 ⟨H1, I1, q1⟩ => ?_)
 cases d with
 | true => exact ha pins s1 Z H1 Q I1 q1
 | false => exact hb pins s1 Z H1 Q I1 q1
end
end L2
namespace L2
open PySem PySem.Spec PyProof.Rows
def SqL (K : PySem.W.Frag) (H : Hp) (a : Addr) (xs : List V) : Prop :=
 Rd H a (.lst xs) \/
  ∃ (o : Obj) (its : Array Value) (n : Nat), K.lookup a = some o /\ o.cls = .type "list" /\ o.dict = none /\ o.data = .seq its n /\ its.size <= sizeLine /\ qN xs its.toList
def SqT (K : PySem.W.Frag) (H : Hp) (a : Addr) (xs : List V) : Prop :=
 Rd H a (.tup xs) \/
  ∃ (o : Obj) (its : Array Value) (n : Nat), K.lookup a = some o /\ o.cls = .type "tuple" /\ o.data = .seq its n /\ its.size <= sizeLine /\ qN xs its.toList
def qmv : Value -> Option V
 | .none => some .non
 | .bool b => some (.bl b)
 | .int i _ => some (.int i)
 | .str x _ => some (.str x)
 | .bytes b _ => some (.byt b)
 | .float b _ => some (.flt b)
 | .ref a => some (.ref a)
 | .type n => some (.ty n)
 | _ => none
theorem jf.abs {x : V} {u : Value} (r : jf x u) : qmv u = some x := by
 cases x with
 | non => cases r; rfl
 | bl _ => cases r; rfl
 | int _ => obtain ⟨t, rfl⟩ := r; rfl
 | str _ => obtain ⟨t, rfl⟩ := r; rfl
 | byt _ => obtain ⟨t, rfl⟩ := r; rfl
 | flt _ => obtain ⟨t, rfl⟩ := r; rfl
 | ref _ => cases r; rfl
 | ty _ => cases r; rfl
theorem jf.inj {x y : V} {u : Value} (r : jf x u) (q : jf y u) : x = y := Option.some.inj (r.abs.symm.trans q.abs)
theorem qN.inj : ∀ {xs ys : List V} {us : List Value}, qN xs us -> qN ys us -> xs = ys
 | _, _, _, .nil, .nil => rfl
 | _, _, _, .cons r t, .cons r' t' => by rw [r.inj r', qN.inj t t']
section
variable {X : Cx} {pins : List (Addr × Obj)} {Z : St} {H : Hp} {s : Shared} {a : Addr} {xs ys : List V}
theorem SqL.of {K : PySem.W.Frag} (h : H a = some (.lst xs)) : SqL K H a xs := .inl (.inl h)
theorem Inv.list (I : Inv X pins Z H s) (h : SqL X.K H a xs) : ∃ its : List Value, qN xs its /\ PlainL s.heap a its.toArray /\ xs.length <= sizeLine := by
 rcases h with h | ⟨o, its, n, hk, hc, hd, hs, hz, r⟩
 ·obtain ⟨z, its, n, r, e⟩ := h.ok I.hok
  exact ⟨its, r, ⟨_, n, e, rfl, rfl, rfl⟩, z⟩
 ·refine ⟨its.toList, r, ⟨o, n, I.kIn a o hk, hc, hd, by simpa using hs⟩, ?_⟩
  have e := r.length
  simp only [Array.length_toList] at e
  omega
theorem Inv.tuple (I : Inv X pins Z H s) (h : SqT X.K H a xs) : ∃ its : List Value, qN xs its /\ IsTup s.heap a its.toArray /\ xs.length <= sizeLine := by
 rcases h with h | ⟨o, its, n, hk, hc, hs, hz, r⟩
 ·obtain ⟨z, its, r, p⟩ := h.ok I.hok
  exact ⟨its, r, p, z⟩
 ·refine ⟨its.toList, r, ⟨o, I.kIn a o hk, hc, n, by simpa using hs⟩, ?_⟩
  have e := r.length
  simp only [Array.length_toList] at e
  omega
theorem Inv.list_inj (I : Inv X pins Z H s) (h : SqL X.K H a xs) (h' : SqL X.K H a ys) : xs = ys := by
 obtain ⟨its, r, ⟨o, n, e, _, _, d⟩, _⟩ := I.list h
 obtain ⟨its', r', ⟨o', n', e', _, _, d'⟩, _⟩ := I.list h'
 rw [e] at e'; cases e'
 rw [d] at d'
 injection d' with d1 _
 have : its = its' := by simpa using congrArg Array.toList d1
 subst this
 exact r.inj r'
theorem Inv.tuple_inj (I : Inv X pins Z H s) (h : SqT X.K H a xs) (h' : SqT X.K H a ys) : xs = ys := by
 obtain ⟨its, r, ⟨o, e, _, n, d⟩, _⟩ := I.tuple h
 obtain ⟨its', r', ⟨o', e', _, n', d'⟩, _⟩ := I.tuple h'
 rw [e] at e'; cases e'
 rw [d] at d'
 injection d' with d1 _
 have : its = its' := by simpa using congrArg Array.toList d1
 subst this
 exact r.inj r'
end
abbrev Cx.wish (X : Cx) (E : Value -> Shared -> Prop) : Cx := { X with xe := E }
abbrev Cx.nox (X : Cx) : Cx := X.wish fun _ _ => False
theorem Cx.Ok.wish {X : Cx} (ok : X.Ok) (E : Value -> Shared -> Prop) : (X.wish E).Ok :=
 ⟨ok.mod, ok.kind, ok.glob, ok.blt, ok.above, ok.inj, ok.has, ok.cab, ok.hd, ok.frames, ok.stk, ok.exf, ok.bs, ok.bsz, ok.noex, ok.exfs, ok.funs, ok.frf⟩
theorem Cx.Ok.unwish {X : Cx} {E : Value -> Shared -> Prop} (ok : (X.wish E).Ok) : X.Ok :=
 ⟨ok.mod, ok.kind, ok.glob, ok.blt, ok.above, ok.inj, ok.has, ok.cab, ok.hd, ok.frames, ok.stk, ok.exf, ok.bs, ok.bsz, ok.noex, ok.exfs, ok.funs, ok.frf⟩
section
variable {X : Cx} {pins : List (Addr × Obj)} {Z : St} {H : Hp} {s : Shared} {E : Value -> Shared -> Prop}
theorem Inv.wish (I : Inv X pins Z H s) (E : Value -> Shared -> Prop) : Inv (X.wish E) pins Z H s := ⟨I.ok.wish E, I.os, I.bare, I.base, I.loc, I.cell, I.free, I.freeC, I.pin, I.hok, I.len⟩
theorem Inv.unwish (I : Inv (X.wish E) pins Z H s) : Inv X pins Z H s := ⟨I.ok.unwish, I.os, I.bare, I.base, I.loc, I.cell, I.free, I.freeC, I.pin, I.hok, I.len⟩
theorem SP.unwish {D : qdO} {f : Flow} {s' : Shared} (h : SP (X.wish E) pins D f s') : SP X pins D f s' := by
 cases f with
 | next => obtain ⟨Z', H', I, q⟩ := h; exact ⟨Z', H', I.unwish, q⟩
 | brk => obtain ⟨Z', H', I, q⟩ := h; exact ⟨Z', H', I.unwish, q⟩
 | cont => obtain ⟨Z', H', I, q⟩ := h; exact ⟨Z', H', I.unwish, q⟩
 | ret u => obtain ⟨v, Z', H', I, r, q⟩ := h; exact ⟨v, Z', H', I.unwish, r, q⟩
theorem PE.nox {e : Expr} {t : TE} (h : PE X.nox e t) : PE X e t := fun pins s Z H Q I hw =>
 wpAny_mono (h pins s Z H Q (I.wish _) hw) (fun _ _ ⟨v, H', I', r, q⟩ => ⟨v, H', I'.unwish, r, q⟩) fun _ _ z => False.elim z
theorem PT.nox {e : Expr} {t : TT} (h : PT X.nox e t) : PT X e t := fun pins s Z H Q I hw =>
 wpAny_mono (h pins s Z H Q (I.wish _) hw) (fun _ _ ⟨H', I', q⟩ => ⟨H', I'.unwish, q⟩) fun _ _ z => False.elim z
theorem PSs.nox {st : List Stmt} {t : TS} (h : PSs X.nox st t) : PSs X st t := fun pins s Z H D I hw =>
 wpAny_mono (h pins s Z H D (I.wish _) hw) (fun _ _ q => q.unwish) fun _ _ z => False.elim z
end
section
variable {X : Cx} {st : Stmt} {wR : List Stmt} {t u : TS} {e : Expr} {te : TE} {pos : Pos}
def qkY : TS := fun D Z H => D.nx Z H
def qmw (t u : TS) : TS := fun D Z H => t { D with nx := u D } Z H
theorem qhd : PSs X [] qkY := fun _ _ Z H _ I h => wpAny_execs_nil ⟨Z, H, I, h⟩
theorem qfp (h1 : PS X st t) (h2 : PSs X wR u) : PSs X (st :: wR) (qmw t u) := by
 intro pins s Z H D I h
 refine wpAny_execs_cons (thn (h1 pins s Z H { D with nx := u D } I h) fun f s1 q => ?_)
 cases f with
 | next =>
  obtain ⟨Z', H', I', q⟩ := q
  exact h2 pins s1 Z' H' D I' q
 | ret v => exact q
 | brk => exact q
 | cont => exact q
theorem qhe (h1 : PS X st t) : PSs X [st] t := by
 intro pins s Z H D I h
 refine wpAny_execs_cons (thn (h1 pins s Z H D I h) fun f s1 q => ?_)
 cases f with
 | next => exact wpAny_execs_nil q
 | ret v => exact q
 | brk => exact q
 | cont => exact q
theorem Inv.quiet {pins : List (Addr × Obj)} {Z : St} {H : Hp} {s : Shared} (I : Inv X pins Z H s) : interactive X.env = false := by simp [interactive, I.ok.kind]
def qkZ (te : TE) : TS := fun D Z H => te Z H fun _ H1 => D.nx Z H1
theorem qhf (he : PE X e te) (hs : swapsWith e none pos.line X.env = pure false := by rfl) : PS X (.Expr e pos) (qkZ te) := by
 intro pins s Z H D I h
 exact wpAny_Expr_any (thn (he pins s Z H _ I h) fun v s1 ⟨x, H1, I1, r1, q1⟩ => ⟨Z, H1, I1, q1⟩) I.quiet hs
def qmx (te : TE) : TS := fun D Z H => te Z H D.rt
theorem qi8 (he : PE X e te) : PS X (.Return (some e) pos) (qmx te) := by
 intro pins s Z H D I h
 exact wpAny_Return_some (thn (he pins s Z H _ I h) fun v s1 ⟨x, H1, I1, r1, q1⟩ => ⟨x, Z, H1, I1, r1, q1⟩)
def qmy (c : TT) (t u : TS) : TS := fun D Z H => c Z H fun b H1 => if b = true then t D Z H1 else u D Z H1
theorem qk0 {c : Expr} {a b : List Stmt} {tc : TT} (hc : PT X c tc) (ha : PSs X a t) (hb : PSs X b u) : PS X (.If c a b pos) (qmy tc t u) := by
 intro pins s Z H D I h
 refine wpAny_If (thn (hc pins s Z H _ I h) fun d s1 ⟨H1, I1, q1⟩ => ?_)
 cases d with
 | true => exact ha pins s1 Z H1 D I1 q1
 | false => exact hb pins s1 Z H1 D I1 q1
def qi9 : TS := fun _ _ _ => False
theorem qfq : PS X st qi9 := fun _ _ _ _ _ _ h => h.elim
end
abbrev TG := V -> St -> Hp -> (St -> Hp -> Prop) -> Prop
abbrev TGs := List V -> St -> Hp -> (St -> Hp -> Prop) -> Prop
def PG (X : Cx) (target : Expr) (t : TG) : Prop :=
 ∀ (pins : List (Addr × Obj)) (s : Shared) (Z : St) (H : Hp) (v : V) (u : Value) (Q : St -> Hp -> Prop), Inv X pins Z H s -> jf v u -> t v Z H Q ->
  wpAny (model X.prog X.w) X.A (assign target X.env u) (fun _ s' => ∃ Z' H', Inv X pins Z' H' s' /\ Q Z' H') X.xe s
def PGs (X : Cx) (ts : List Expr) (t : TGs) : Prop :=
 ∀ (pins : List (Addr × Obj)) (s : Shared) (Z : St) (H : Hp) (vs : List V) (us : List Value) (Q : St -> Hp -> Prop), Inv X pins Z H s -> qN vs us -> t vs Z H Q ->
  wpAny (model X.prog X.w) X.A (assignInOrder ((assignEach ts X.env).map (·.2)) us) (fun _ s' => ∃ Z' H', Inv X pins Z' H' s' /\ Q Z' H') X.xe s
abbrev qk1 := V -> V -> V -> Hp -> (Hp -> Prop) -> Prop
def qlR (X : Cx) (t : qk1) : Prop :=
 ∀ (pins : List (Addr × Obj)) (s : Shared) (Z : St) (H : Hp) (o i v : V) (ov iv u : Value) (Q : Hp -> Prop), Inv X pins Z H s -> jf o ov -> jf i iv -> jf v u -> t o i v H Q ->
  wpAny (model X.prog X.w) X.A (setItem ov iv u) (fun _ s' => ∃ H', Inv X pins Z H' s' /\ Q H') X.xe s
section
variable {X : Cx} {pos : Pos}
def qja (i : Nat) : TG := fun v Z H Q => Q (Z.set i (some v)) H
theorem qhg {i : Nat} {x : Str} (hN : X.N.Nodup) (hi : X.N[i]? = some x) (hx : Loc X.env.scope x) (hf : X.fn x = true \/ X.env.scope.names.lookup x = some .local := by first | exact .inl rfl | exact .inr rfl | assumption) : PG X (.Name x pos) (qja i) := by
 intro pins s Z H v u Q I r h
 exact wpAny_assign_Name (vI I hN hi hx r (fun s' I' => ⟨_, H, I', h⟩) hf)
def qmz : TGs := fun vs Z H Q => vs = [] /\ Q Z H
def qk2 (t : TG) (u : TGs) : TGs := fun vs Z H Q => ∃ v r, vs = v :: r /\ t v Z H fun Z' H' => u r Z' H' Q
theorem qhh : PGs X [] qmz := by
 intro pins s Z H vs us Q I r h
 obtain ⟨e, h⟩ := h
 subst e
 cases r
 exact assignInOrder_nil ⟨Z, H, I, h⟩
theorem qfr {e : Expr} {es : List Expr} {t : TG} {u : TGs} (h1 : PG X e t) (h2 : PGs X es u)
  (hs : (assignEach (e :: es) X.env).map (·.2) = assign e X.env :: (assignEach es X.env).map (·.2) := by rfl) : PGs X (e :: es) (qk2 t u) := by
 intro pins s Z H vs us Q I r h
 obtain ⟨v, vr, e1, h⟩ := h
 subst e1
 cases r with
 | cons r rr =>
  rw [hs]
  refine assignInOrder_cons (thn (h1 pins s Z H _ _ _ I r h) fun _ s1 ⟨Z1, H1, I1, q1⟩ => ?_)
  exact h2 pins s1 Z1 H1 _ _ Q I1 rr q1
def qmA (K : PySem.W.Frag) (n : Nat) (t : TGs) : TG := fun v Z H Q => ∃ a xs, v = .ref a /\ SqT K H a xs /\ xs.length = n /\ t xs Z H Q
theorem qjb {es : List Expr} {k : Nat} {t : TGs} {n : Nat} (hc : X.calm = true) (h : PGs X es t)
  (hn : (assignEach es X.env).length = n := by rfl) (hst : (assignEach es X.env).findIdx? (·.1) = none := by rfl) : PG X (.Tuple es k pos) (qmA X.K n t) := by
 intro pins s Z H v u Q I r hw
 obtain ⟨a, xs, e1, hq, hl, hw⟩ := hw
 subst e1
 cases r
 obtain ⟨its, rv, ht, hz⟩ := I.tuple hq
 refine assign_Tuple_tuple (I.ok.hd hc) ht (by simp [hn, <- hl, rv.length]) hst fun h' hx => ?_
 have I1 : Inv X pins Z H { s with heap := h' } := I.kept (t' := s.toks) fun b o e => hx b o (Nat.ne_of_lt (Heap.lt_size e)) e
 exact h pins _ Z H xs _ Q I1 (by simpa using rv) hw
def qmB (to ti : TE) (t : qk1) : TG := fun v Z H Q => to Z H fun o H1 => ti Z H1 fun i H2 => t o i v H2 fun H3 => Q Z H3
theorem qjc {o i : Expr} {to ti : TE} {t : qk1} (ho : PE X o to) (hi : PE X i ti) (hs : qlR X t)
  (ha : ∀ v, assign (.Subscript o i pos) X.env v = (do
   let ov <- holding [v] (eval o X.env)
   let iv <- holding [v, ov] (eval i X.env)
   standAt pos
   holding [v, ov, iv] (setItem ov iv v)
   release [v, ov, iv] []) := by intro _; rfl) : PG X (.Subscript o i pos) (qmB to ti t) := by
 intro pins s Z H v u Q I r h
 rw [ha]
 refine wpAny_bind (wpAny_holding (thn (ho pins s Z H _ I h) fun ov s1 ⟨x, H1, I1, r1, q1⟩ => ?_))
 refine wpAny_bind (wpAny_holding (thn (hi pins s1 Z H1 _ I1 q1) fun iv s2 ⟨y, H2, I2, r2, q2⟩ => ?_))
 refine wpAny_bind (wpAny_standAt (wpAny_bind (wpAny_holding (thn (hs pins s2 Z H2 x y v ov iv u _ I2 r1 r2 r q2) fun _ s3 ⟨H3, I3, q3⟩ => ?_))))
 exact wpAny_release ⟨Z, H3, I3, q3⟩
def qlS (te : TE) (g : TG) : TS := fun D Z H => te Z H fun x H1 => g x Z H1 D.nx
theorem qgr {tg e : Expr} {te : TE} {g : TG} (he : PE X e te) (hg : PG X tg g) (hs : swapsWithSole [tg] e pos.line X.env = pure false := by rfl) (hw : swappedStores [tg] e X.env = pure none := by rfl)
  (h1 : (assignEach [tg] X.env).map (·.2) = [assign tg X.env] := by rfl) : PS X (.Assign [tg] e pos) (qlS te g) := by
 intro pins s Z H D I h
 refine wpAny_Assign_stores (thn (he pins s Z H _ I h) fun v s1 ⟨x, H1, I1, r1, q1⟩ => ?_) hs hw
 rw [h1]
 exact thn (hg pins s1 Z H1 x v _ I1 r1 q1) fun _ s2 q => q
theorem qdP {i : Nat} {x : Str} {e : Expr} {te : TE} {pos' : Pos} (hN : X.N.Nodup) (hi : X.N[i]? = some x) (hx : Loc X.env.scope x) (he : PE X e te) (hs : swapsWith e (some (.Name x pos')) pos.line X.env = pure false := by rfl) (hf : X.fn x = true \/ X.env.scope.names.lookup x = some .local := by first | exact .inl rfl | exact .inr rfl | assumption) :
  PS X (.Assign [.Name x pos'] e pos) (qlS te (qja i)) := by
 intro pins s Z H D I h
 refine wpAny_Assign_Name (thn (he pins s Z H _ I h) fun v s1 ⟨y, H1, I1, r1, q1⟩ => ?_) hs
 exact vI I1 hN hi hx r1 (fun s2 I2 => ⟨_, H1, I2, q1⟩) hf
def qmC (i j : Nat) (ta : TA) : TS := fun D Z H => ta Z H fun vs H1 => ∃ v w, vs = [v, w] /\ D.nx ((Z.set i (some v)).set j (some w)) H1
theorem qjd {i j : Nat} {x y : Str} {a b : Expr} {ta : TA} {px py pt : Pos} {kt k2 pt2} (hc : X.calm = true) (hN : X.N.Nodup) (hi : X.N[i]? = some x) (hj : X.N[j]? = some y) (hij : i ≠ j)
  (hx : X.env.scope.names.lookup x = some .local) (hy : X.env.scope.names.lookup y = some .local) (ha : PA X [a, b] ta)
  (hw : swappedStores [.Tuple [.Name x px, .Name y py] kt pt] (.Tuple [a, b] k2 pt2) X.env = pure (some [x, y]))
  (hs : swapsWithSole [.Tuple [.Name x px, .Name y py] kt pt] (.Tuple [a, b] k2 pt2) pos.line X.env = pure false := by rfl) :
  PS X (.Assign [.Tuple [.Name x px, .Name y py] kt pt] (.Tuple [a, b] k2 pt2) pos) (qmC i j ta) := by
 intro pins s Z H D I h
 rw [exec_Assign_arm]
 refine wpAny_bind (wpAny_standAt ?_)
 rw [hs]
 refine wpAny_bind (wpAny_pure ?_)
 rw [if_neg (by decide)]
 refine wpAny_bind (Tuple_ (thn (ha _ pins s Z H _ I h) fun us s1 ⟨vs, H1, I1, r1, q1⟩ => ?_))
 obtain ⟨v, w, e1, q1⟩ := q1
 subst e1
 obtain ⟨u1, u2, rfl, rv, rw'⟩ : ∃ u1 u2, us = [u1, u2] /\ jf v u1 /\ jf w u2 := by
  cases r1 with
  | cons p q =>
   cases q with
   | cons p' q' =>
    cases q'
    exact ⟨_, _, rfl, p, p'⟩
 refine wpAny_newObj_type ?_ (by show 2 <= sizeLine; decide)
 have I2 : Inv X pins Z H1 { s1 with heap := s1.heap.push { cls := .type "tuple", data := .seq [u1, u2].toArray } } := I1.kept (t' := s1.toks) fun b o e => Heap.get?_push_of_some _ e
 rw [hw]
 refine wpAny_bind (wpAny_pure ?_)
 show wpAny (model X.prog X.w) X.A (do rule "assign.swapped-stores"; let items <- unpackItems (.ref s1.heap.objs.size) 2 none; assignInOrder [fun v => bindName X.env y v, fun v => bindName X.env x v] items.reverse; pure Flow.next) _ _ _
 refine wpAny_bind (wpAny_rule (wpAny_bind (unpackItems_tuple (items := #[u1, u2]) (I.ok.hd hc) (IsTup.new s1.heap _) fun h' hx' => ?_)))
 have I3 := I2.kept (h' := h') (t' := s1.toks) fun b o e => hx' b o (Nat.ne_of_lt (Heap.lt_size e)) e
 show wpAny _ _ (assignInOrder [fun v => bindName X.env y v, fun v => bindName X.env x v] [u2, u1] >>= fun _ => pure Flow.next) _ _ _
 refine wpAny_bind (assignInOrder_cons (wpAny_bindName (vI I3 hN hj (.inl hy) rw' (fun s2 I4 => ?_) (.inr hy))))
 refine assignInOrder_cons (wpAny_bindName (vI I4 hN hi (.inl hx) rv (fun s3 I5 => assignInOrder_nil (wpAny_pure ?_)) (.inr hx)))
 rw [List.set_comm _ _ (Ne.symm hij)] at I5
 exact ⟨_, H1, I5, q1⟩
end
section
variable {X : Cx} {pos : Pos}
def qje (c : TT) (tb : TS) : TS := fun D Z H => ∃ W : Nat -> St -> Hp -> Prop, (∃ m, W m Z H) /\ ∀ m Z H, W m Z H ->
 c Z H fun b H1 => if b = true then ∃ N : St -> Hp -> Prop, (∀ Z' H', N Z' H' -> ∃ m', m' < m /\ W m' Z' H') /\ tb { D with nx := N, ct := N, bk := D.nx } Z H1 else D.nx Z H1
theorem qfs {c : Expr} {body : List Stmt} {tc : TT} {tb : TS} (hp : PassesOwn (model X.prog X.w) X.A X.env X.xe) (hc : PT X c tc) (hb : PSs X body tb) : PS X (.While c body [] pos) (qje tc tb) := by
 intro pins s Z H D I h
 obtain ⟨W, ⟨m0, w0⟩, turn⟩ := h
 refine wpAny_While (codeAny_whileLoop (fun n s' => ∃ Z' H', Inv X pins Z' H' s' /\ W n Z' H') ?_ m0 ⟨Z, H, I, w0⟩)
 rintro n s1 ⟨Z1, H1, I1, w1⟩
 refine wpAny_passesOwn hp (thn (hc pins s1 Z1 H1 _ I1 (turn n Z1 H1 w1)) fun b s2 ⟨H2, I2, q2⟩ => ?_)
 cases b with
 | true =>
  obtain ⟨N, hN, q2⟩ := q2
  rw [if_pos rfl]
  refine wpAny_passesOwn hp (thn (hb pins s2 Z1 H2 _ I2 q2) fun f s3 q3 => ?_)
  cases f with
  | next =>
   obtain ⟨Z3, H3, I3, n3⟩ := q3
   obtain ⟨m', hm, w3⟩ := hN Z3 H3 n3
   exact ⟨m', hm, Z3, H3, I3, w3⟩
  | cont =>
   obtain ⟨Z3, H3, I3, n3⟩ := q3
   obtain ⟨m', hm, w3⟩ := hN Z3 H3 n3
   exact ⟨m', hm, Z3, H3, I3, w3⟩
  | brk => exact q3
  | ret v => exact q3
 | false =>
  rw [if_neg Bool.false_ne_true]
  exact wpAny_execs_nil ⟨Z1, H2, I2, q2⟩
end
structure It where
 go : Nat -> Hp -> Prop
 yld : Nat -> Hp -> V -> Hp -> Prop
 stop : Nat -> Hp -> Prop
def qbV (X : Cx) (pins : List (Addr × Obj)) (H : Hp) (b : Addr) : Prop :=
 H b = none /\ b ≠ X.env.locals /\ b ∉ X.fs /\ (b ∈ X.ex \/ X.s₀.heap.objs.size <= b) /\ (∀ x c, X.env.cells.lookup x = some c -> c ≠ b) /\ ∀ p ∈ X.pn ++ pins, p.1 ≠ b
theorem Inv.fpOk {X : Cx} {pins : List (Addr × Obj)} {Z : St} {H H' : Hp} {s : Shared} {b : Addr} (I : Inv X pins Z H s) (hb : s.heap.objs.size <= b) (hn : H' b = none) : qbV X pins H' b := by
 refine ⟨hn, Nat.ne_of_gt (Nat.lt_of_lt_of_le I.lt hb), I.nofs hb, .inr (Nat.le_trans I.sz hb), fun x c e z => ?_, fun p hp z => ?_⟩
 ·obtain ⟨v, q⟩ := I.cell x c e
  exact absurd (Nat.lt_of_lt_of_le q.lt (by rw [z]; exact hb)) (Nat.lt_irrefl _)
 ·exact absurd (Nat.lt_of_lt_of_le (Heap.lt_size (I.pin p hp).1) (by rw [z]; exact hb)) (Nat.lt_irrefl _)
structure qiH (P : Program) (w : World) (K : PySem.W.Frag) (tg : Expr) (J : It) (fp : List Addr) (it : Addr) (tn : Nat -> Heap -> Prop) : Prop where
 mem : it ∈ fp
 obj : ∀ i h, tn i h -> ∀ b ∈ fp, ∃ o, h.get? b = some o /\ ∀ v, o.data ≠ .cell v
 keep : ∀ i h h', tn i h -> (∀ b ∈ fp, ∀ o, h.get? b = some o -> h'.get? b = some o) -> tn i h'
 item : ∀ (X : Cx), X.prog = P -> X.w = w -> X.K = K -> X.calm = true -> ∀ (i : Nat) (pins : List (Addr × Obj)) (s : Shared) (Z : St) (H : Hp) (E : Value -> Shared -> Prop), Inv X pins Z H s -> (∀ b ∈ fp, qbV X pins H b) -> tn i s.heap -> J.go i H ->
  wpAny (model P w) X.A (pyNext (.ref it)) (fun r s1 => ∃ u, r = some u /\
   wpAny (model P w) X.A (letOwnedTupleGo tg (.ref it) u) (fun _ s2 => ∃ x H', Inv X pins Z H' s2 /\ jf x u /\ J.yld i H x H' /\ tn (i + 1) s2.heap /\ ∀ b ∈ fp, H' b = none) E s1) E s
 done : ∀ (X : Cx), X.prog = P -> X.w = w -> X.K = K -> X.calm = true -> ∀ (i : Nat) (pins : List (Addr × Obj)) (s : Shared) (Z : St) (H : Hp) (E : Value -> Shared -> Prop), Inv X pins Z H s -> (∀ b ∈ fp, qbV X pins H b) -> tn i s.heap -> J.stop i H ->
  wpAny (model P w) X.A (pyNext (.ref it)) (fun r s1 => r = none /\ Inv X pins Z H s1) E s
 self : ∀ (A : Around) (i : Nat) (s : Shared) (Q : Value -> Shared -> Prop) (E : Value -> Shared -> Prop), tn i s.heap -> Q (.ref it) s -> wpAny (model P w) A (pyIter (.ref it)) Q E s
abbrev TI := St -> Hp -> (It -> Hp -> Prop) -> Prop
def PIE (X : Cx) (pins : List (Addr × Obj)) (Z : St) (tg : Expr) (R : It -> Hp -> Prop) (itv : Value) (s2 : Shared) : Prop :=
 ∃ (it : Addr) (fp : List Addr) (tn : Nat -> Heap -> Prop) (J : It) (H' : Hp), itv = .ref it /\ Inv X pins Z H' s2 /\ qiH X.prog X.w X.K tg J fp it tn /\ tn 0 s2.heap /\ (∀ b ∈ fp, qbV X pins H' b) /\ R J H'
def PI (X : Cx) (tg iter : Expr) (wi : TI) : Prop :=
 ∀ (pins : List (Addr × Obj)) (s : Shared) (Z : St) (H : Hp) (R : It -> Hp -> Prop), Inv X pins Z H s -> wi Z H R ->
  wpAny (model X.prog X.w) X.A (eval iter X.env) (fun v s1 => wpAny (model X.prog X.w) X.A (pyIter v) (PIE X pins Z tg R) X.xe s1) X.xe s
theorem qhi {M : Model} {A : Around} {E : Value -> Shared -> Prop} {s : Shared} {tg : Expr} {it : Addr} {u : Value} {o : Obj} {n : String} {vs : Array Value} {Q : Unit -> Shared -> Prop} (ho : s.heap.get? it = some o) (hc : o.cls = .type n) (hd : o.data = .fields vs)
  (hn : ["enumerate", "zip", "dict_itemiterator", "dict_reverseitemiterator", "odict_iterator", "itertools.zip_longest", "itertools.pairwise"].contains n = false) (hQ : Q () s) : wpAny M A (letOwnedTupleGo tg (.ref it) u) Q E s := by
 unfold letOwnedTupleGo
 cases tg <;> first
  | exact wpAny_pure hQ
  | (cases u <;> first
    | exact wpAny_pure hQ
    | (refine wpAny_bind (wpAny_load ho ?_)
       rw [hc, hd]
       show wpAny M A (if (["enumerate", "zip", "dict_itemiterator", "dict_reverseitemiterator", "odict_iterator", "itertools.zip_longest", "itertools.pairwise"].contains n && vs[0]? == some (rawInt _)) = true then _ else _) Q E s
       rw [if_neg (by intro h; rw [hn, Bool.false_and] at h; cases h)]
       exact wpAny_pure hQ))
def Itl (K : PySem.W.Frag) (a : Addr) : It :=
 ⟨fun i H => ∃ xs x, SqL K H a xs /\ xs[i]? = some x, fun i H x H' => H' = H /\ ∀ xs, SqL K H a xs -> xs[i]? = some x, fun i H => ∃ xs, SqL K H a xs /\ xs.length <= i⟩
def Itt (K : PySem.W.Frag) (a : Addr) : It :=
 ⟨fun i H => ∃ xs x, SqT K H a xs /\ xs[i]? = some x, fun i H x H' => H' = H /\ ∀ xs, SqT K H a xs -> xs[i]? = some x, fun i H => ∃ xs, SqT K H a xs /\ xs.length <= i⟩
def Itr (lo : Int) (n : Nat) : It := ⟨fun i _ => i < n, fun i H x H' => H' = H /\ x = .int (lo + i), fun i _ => n <= i⟩
theorem qdQ {P : Program} {w : World} {K : PySem.W.Frag} {tg : Expr} (a it : Addr) : qiH P w K tg (Itl K a) [it] it (fun i h => h.IsListIter it a i) where
 mem := by simp
 obj := fun i h st b hb => by
  have e : b = it := by simpa using hb
  subst e
  obtain ⟨o, e, c, d⟩ := st
  exact ⟨o, e, fun v z => by rw [d] at z; cases z⟩
 keep := fun i h h' st k => st.at fun o e => k it (by simp) o e
 item := by
  intro X hP hw hK hc i pins s Z H E I hf st hg
  subst hP hw hK
  obtain ⟨xs, x, hq, hx⟩ := hg
  obtain ⟨its, rv, p, hz⟩ := I.list hq
  obtain ⟨u, hu, ru⟩ := rv.get hx
  obtain ⟨f0, f1, f2, f3, f4, f5⟩ := hf it (by simp)
  refine wpAny_pyNext_list_item st p.isList (x := u) (by simpa using hu) fun h' st' sb => ?_
  have I1 : Inv X pins Z H { s with heap := h' } := I.turned (t' := s.toks) (fun b o hb e => (sb.2 b hb).trans e) f0 f1 f3 f4 f5
  obtain ⟨o, e, c, d⟩ := id st'
  exact ⟨u, rfl, qhi (s := { s with heap := h' }) e c d (by decide) ⟨x, H, I1, ru, ⟨rfl, fun ys hy => by rw [I.list_inj hy hq]; exact hx⟩, st', fun b hb => (hf b hb).1⟩⟩
 done := by
  intro X hP hw hK hc i pins s Z H E I hf st hg
  subst hP hw hK
  obtain ⟨xs, hq, hx⟩ := hg
  obtain ⟨its, rv, p, hz⟩ := I.list hq
  obtain ⟨f0, f1, f2, f3, f4, f5⟩ := hf it (by simp)
  have hl := rv.length
  exact wpAny_pyNext_list_end (I.ok.hd hc) st p.isList (by simp; omega) fun h' eb => ⟨rfl, I.turned (t' := s.toks) (fun b o hb e => eb b o hb e) f0 f1 f3 f4 f5⟩
 self := fun _ _ _ _ _ st h => wpAny_pyIter_listiter st h
theorem qde {P : Program} {w : World} {K : PySem.W.Frag} {tg : Expr} (a it : Addr) : qiH P w K tg (Itt K a) [it] it (fun i h => h.IsTupleIter it a i) where
 mem := by simp
 obj := fun i h st b hb => by
  have e : b = it := by simpa using hb
  subst e
  obtain ⟨o, e, c, d⟩ := st
  exact ⟨o, e, fun v z => by rw [d] at z; cases z⟩
 keep := fun i h h' st k => st.at fun o e => k it (by simp) o e
 item := by
  intro X hP hw hK hc i pins s Z H E I hf st hg
  subst hP hw hK
  obtain ⟨xs, x, hq, hx⟩ := hg
  obtain ⟨its, rv, p, hz⟩ := I.tuple hq
  obtain ⟨u, hu, ru⟩ := rv.get hx
  obtain ⟨f0, f1, f2, f3, f4, f5⟩ := hf it (by simp)
  refine wpAny_pyNext_tuple_item st (show s.heap.IsTuple a its.toArray from p) (x := u) (by simpa using hu) fun h' st' sb => ?_
  have I1 : Inv X pins Z H { s with heap := h' } := I.turned (t' := s.toks) (fun b o hb e => (sb.2 b hb).trans e) f0 f1 f3 f4 f5
  obtain ⟨o, e, c, d⟩ := id st'
  exact ⟨u, rfl, qhi (s := { s with heap := h' }) e c d (by decide) ⟨x, H, I1, ru, ⟨rfl, fun ys hy => by rw [I.tuple_inj hy hq]; exact hx⟩, st', fun b hb => (hf b hb).1⟩⟩
 done := by
  intro X hP hw hK hc i pins s Z H E I hf st hg
  subst hP hw hK
  obtain ⟨xs, hq, hx⟩ := hg
  obtain ⟨its, rv, p, hz⟩ := I.tuple hq
  obtain ⟨f0, f1, f2, f3, f4, f5⟩ := hf it (by simp)
  have hl := rv.length
  exact wpAny_pyNext_tuple_end (I.ok.hd hc) st (show s.heap.IsTuple a its.toArray from p) (by simp; omega) fun h' eb => ⟨rfl, I.turned (t' := s.toks) (fun b o hb e => eb b o hb e) f0 f1 f3 f4 f5⟩
 self := fun _ _ _ _ _ st h => wpAny_pyIter_tupleiter st h
theorem qdf {P : Program} {w : World} {K : PySem.W.Frag} {tg : Expr} (it : Addr) (lo : Int) (n : Nat) : qiH P w K tg (Itr lo n) [it] it (fun i h => IsRangeIter h it (lo + (i : Nat) * 1) ((n : Int) - (i : Nat)) 1) where
 mem := by simp
 obj := fun i h st b hb => by
  have e : b = it := by simpa using hb
  subst e
  exact ⟨_, st, fun v z => by
   have z' : Data.fields _ = Data.cell v := z
   cases z'⟩
 keep := fun i h h' st k => k it (by simp) _ st
 item := by
  intro X hP hw hK hc i pins s Z H E I hf st hg
  subst hP hw hK
  obtain ⟨f0, f1, f2, f3, f4, f5⟩ := hf it (by simp)
  have W := Walks.range (prog := X.prog) (w := X.w) (I.ok.hd hc) it lo 1 n
  refine W.item i s _ _ hg st fun v h' tk hv st' kk => ?_
  obtain ⟨t, rfl⟩ := hv
  have I1 : Inv X pins Z H { s with heap := h', toks := tk } := I.turned (fun b o hb e => kk b o (by simpa using hb) e) f0 f1 f3 f4 f5
  refine ⟨_, rfl, qhi (s := { s with heap := h', toks := tk }) (n := "range_iterator") st' rfl rfl (by decide) ⟨.int (lo + i), H, I1, ⟨t, ?_⟩, ⟨rfl, rfl⟩, st', fun b hb => (hf b hb).1⟩⟩
  rw [Int.mul_one]
 done := by
  intro X hP hw hK hc i pins s Z H E I hf st hg
  subst hP hw hK
  obtain ⟨f0, f1, f2, f3, f4, f5⟩ := hf it (by simp)
  exact wpAny_pyNext_range_end (I.ok.hd hc) st (by have : n <= i := hg; omega) fun h' eb => ⟨rfl, I.turned (t' := s.toks) (fun b o hb e => eb b o hb e) f0 f1 f3 f4 f5⟩
 self := fun _ _ _ _ _ st h => wpAny_pyIter_rangeiter st h
end L2
namespace L2
open PySem PySem.Spec PyProof.Rows
section
variable {X : Cx} {tg : Expr}
theorem qft {pins : List (Addr × Obj)} {Z : St} {H : Hp} {s : Shared} {R : It -> Hp -> Prop} {E : Value -> Shared -> Prop} {lo hi : Int} {t u v : Tok} {tk : Nat} (I : Inv X pins Z H s) (h1 : -(2 ^ 62) <= lo) (h2 : lo < 2 ^ 62) (h3 : -(2 ^ 62) <= hi) (h4 : hi < 2 ^ 62)
  (q : R (Itr lo (hi - lo).toNat) H) : wpAny (model X.prog X.w) X.A (pyIter (.ref s.heap.objs.size)) (PIE X pins Z tg R) E { s with heap := s.heap.push { cls := .type "range", data := .fields #[.int lo t, .int hi u, .int 1 v] }, toks := tk } := by
 refine wpAny_pyIter_range (IsRange.new ..) (small_one h1 h2 h3 h4) ?_
 have I1 : Inv X pins Z H { s with heap := s.heap.push { cls := .type "range", data := .fields #[.int lo t, .int hi u, .int 1 v] }, toks := tk } := I.kept fun b o e => Heap.get?_push_of_some _ e
 refine ⟨(s.heap.push { cls := .type "range", data := .fields #[.int lo t, .int hi u, .int 1 v] }).objs.size, [(s.heap.push { cls := .type "range", data := .fields #[.int lo t, .int hi u, .int 1 v] }).objs.size], _, _, H, rfl,
  I1.kept (t' := tk) fun b o e => Heap.get?_push_of_some _ e, qdf _ lo (hi - lo).toNat, ?_, fun b hb => ?_, q⟩
 ·have e1 : lo + ((0 : Nat) : Int) * 1 = lo := by simp
  have e2 : (((hi - lo).toNat : Nat) : Int) - ((0 : Nat) : Int) = Builtin.Range.rangeSize lo hi 1 := by rw [rangeSize_one]; split <;> omega
  show IsRangeIter _ _ (lo + ((0 : Nat) : Int) * 1) ((((hi - lo).toNat : Nat) : Int) - ((0 : Nat) : Int)) 1
  rw [e1, e2]
  exact Heap.get?_push_size _ rfl
 ·have e : b = (s.heap.push { cls := .type "range", data := .fields #[.int lo t, .int hi u, .int 1 v] }).objs.size := by simpa using hb
  subst e
  exact I1.fpOk (Nat.le_refl _) (I1.hok.fresh (Nat.le_refl _))
def qk3 (ta : TA) : TI := fun Z H R => ta Z H fun vs H1 => ∃ j : Int, vs = [.int j] /\ -(2 ^ 62) <= j /\ j < 2 ^ 62 /\ R (Itr 0 j.toNat) H1
theorem qdR {a : Expr} {ta : TA} {p pos : Pos} (hg : Gl X "range") (hm : X.mg "range" = none) (ha : PA X [a] ta) (hs : starEach [a] X.env = [(false, eval a X.env)] := by rfl) : PI X tg (.Call (.Name "range" p) [a] [] pos) (qk3 ta) := by
 intro pins s Z H R I h
 refine Call_ (vP I hg hm boot_range (PyProof.Rows.callWith_type1 (thn (ha pos pins s Z H _ I h) fun us s1 ⟨vs, H1, I1, r1, q1⟩ => ?_) hs rfl))
 obtain ⟨j, e, q1, q2, q⟩ := q1
 subst e
 cases r1 with
 | cons r rr =>
  cases rr
  obtain ⟨t, rfl⟩ := r
  exact call_range_1 (qft I1 (by omega) (by omega) q1 q2 (by simpa using q))
def qmD (wi : TI) (g : TG) (tb : TS) : TS := fun D Z H => wi Z H fun J H1 => ∃ W : Nat -> Nat -> St -> Hp -> Prop, (∃ m, W 0 m Z H1) /\ ∀ i m Z H, W i m Z H ->
 (J.stop i H /\ D.nx Z H) \/ (J.go i H /\ ∃ N : St -> Hp -> Prop, (∀ Z' H', N Z' H' -> ∃ m', m' < m /\ W (i + 1) m' Z' H') /\ ∀ x H', J.yld i H x H' -> g x Z H' fun Z2 H2 => tb { D with nx := N, ct := N, bk := D.nx } Z2 H2)
def w5 (fp : List Addr) (h : Heap) : List (Addr × Obj) := fp.filterMap fun b => (h.get? b).map fun o => (b, o)
theorem jI {fp : List Addr} {h : Heap} {b : Addr} {o : Obj} (hb : b ∈ fp) (e : h.get? b = some o) : (b, o) ∈ w5 fp h := List.mem_filterMap.mpr ⟨b, hb, by rw [e]; rfl⟩
theorem qdS {fp : List Addr} {h : Heap} {p : Addr × Obj} (hp : p ∈ w5 fp h) : p.1 ∈ fp /\ h.get? p.1 = some p.2 := by
 obtain ⟨b, hb, e⟩ := List.mem_filterMap.mp hp
 cases q : h.get? b with
 | none => rw [q] at e; cases e
 | some o =>
  rw [q] at e
  have e' : (b, o) = p := Option.some.inj e
  subst e'
  exact ⟨hb, q⟩
theorem Inv.pinned {pins : List (Addr × Obj)} {Z : St} {H : Hp} {s : Shared} {fp : List Addr} (I : Inv X pins Z H s) (hf : ∀ b ∈ fp, qbV X pins H b) (ho : ∀ b ∈ fp, ∃ o, s.heap.get? b = some o /\ ∀ v, o.data ≠ .cell v) : Inv X (pins ++ w5 fp s.heap) Z H s :=
 I.pins_of fun p hp => (mA_.mp hp).elim (fun z => I.pin p (mr_ _ z)) fun z => by
  obtain ⟨hb, e⟩ := qdS z
  obtain ⟨f0, f1, f2, _⟩ := hf p.1 hb
  obtain ⟨o, e', d⟩ := ho p.1 hb
  rw [e] at e'; cases e'
  exact ⟨e, f0, f1, f2, d⟩
theorem Inv.unpinned {pins pl : List (Addr × Obj)} {Z : St} {H : Hp} {s : Shared} (I : Inv X (pins ++ pl) Z H s) : Inv X pins Z H s := I.pins_of fun p hp => I.pin p (mr_ _ (List.mem_append_left _ hp))
theorem qjf {iter : Expr} {body : List Stmt} {wi : TI} {g : TG} {tb : TS} {pos : Pos} (hp : PassesOwn (model X.prog X.w) X.A X.env X.xe) (hc : X.calm = true) (hi : PI X tg iter wi) (hg : PG X tg g) (hb : PSs X body tb)
  (hs : ∀ x, foldedSetIterable iter X.env x = pure x := by intro _; rfl) : PS X (.For tg iter body [] pos) (qmD wi g tb) := by
 intro pins s Z H D I h
 refine wpAny_For (thn (hi pins s Z H _ I h) fun v s1 h1 => thn h1 fun itv s2 h2 => ?_) hs
 obtain ⟨it, fp, tn, J, H2, e, I2, T, st2, f2, W, ⟨m0, w0⟩, turn⟩ := h2
 subst e
 have stat : ∀ {H' : Hp}, (∀ b ∈ fp, H' b = none) -> ∀ b ∈ fp, qbV X pins H' b := fun hn b hb => ⟨hn b hb, (f2 b hb).2⟩
 refine codeAny_forLoop_any (fun n s' => ∃ i Z' H', Inv X pins Z' H' s' /\ tn i s'.heap /\ (∀ b ∈ fp, H' b = none) /\ W i n Z' H') ?_ m0 ⟨0, Z, H2, I2, st2, fun b hb => (f2 b hb).1, w0⟩
 rintro n s3 ⟨i, Z3, H3, I3, st3, fr3, w3⟩
 rcases turn i n Z3 H3 w3 with ⟨stop, qn⟩ | ⟨go, N, hN, step⟩
 ·refine wpAny_passesOwn hp (thn (T.done X rfl rfl rfl hc i pins s3 Z3 H3 X.xe I3 (stat fr3) st3 stop) fun r s4 ⟨hr, I4⟩ => ?_)
  subst hr
  exact wpAny_execs_nil ⟨Z3, H3, I4, qn⟩
 ·refine wpAny_passesOwn hp (thn (T.item X rfl rfl rfl hc i pins s3 Z3 H3 X.xe I3 (stat fr3) st3 go) fun r s4 ⟨u, hr, h4⟩ => ?_)
  subst hr
  refine wpAny_passesOwn hp (thn h4 fun _ s5 ⟨x, H5, I5, r5, y5, st5, fr5⟩ => ?_)
  have I5' := I5.pinned (stat fr5) (T.obj _ _ st5)
  refine wpAny_passesOwn hp (thn (hg _ s5 Z3 H5 x u _ I5' r5 (step x H5 y5)) fun _ s6 ⟨Z6, H6, I6, q6⟩ => ?_)
  refine wpAny_passesOwn hp (thn (hb _ s6 Z6 H6 _ I6 q6) fun f s7 q7 => ?_)
  have again : ∀ {Z7 : St} {H7 : Hp}, Inv X (pins ++ w5 fp s5.heap) Z7 H7 s7 -> N Z7 H7 -> ∃ m, m < n /\ ∃ i Z' H', Inv X pins Z' H' s7 /\ tn i s7.heap /\ (∀ b ∈ fp, H' b = none) /\ W i m Z' H' := fun {Z7 H7} I7 n7 => by
   obtain ⟨m', hm, w7⟩ := hN Z7 H7 n7
   refine ⟨m', hm, i + 1, Z7, H7, I7.unpinned, T.keep _ _ _ st5 fun b hb o e => (I7.pin (b, o) (mr_ _ (mr_ _ (jI hb e)))).1, fun b hb => ?_, w7⟩
   obtain ⟨o, e, d⟩ := T.obj _ _ st5 b hb
   exact (I7.pin (b, o) (mr_ _ (mr_ _ (jI hb e)))).2.1
  cases f with
  | next => obtain ⟨Z7, H7, I7, n7⟩ := q7; exact again I7 n7
  | cont => obtain ⟨Z7, H7, I7, n7⟩ := q7; exact again I7 n7
  | brk => obtain ⟨Z7, H7, I7, q7⟩ := q7; exact ⟨Z7, H7, I7.unpinned, q7⟩
  | ret v => obtain ⟨x7, Z7, H7, I7, r7, q7⟩ := q7; exact ⟨x7, Z7, H7, I7.unpinned, r7, q7⟩
end
end L2
namespace L2
open PySem PySem.Spec PyProof.Rows
abbrev R2 := V -> V -> Hp -> VK -> Prop
def OpR (X : Cx) (f : Value -> Value -> Sem Value) (r : R2) : Prop :=
 ∀ (pins : List (Addr × Obj)) (s : Shared) (Z : St) (H : Hp) (x y : V) (v u : Value) (Q : VK), Inv X pins Z H s -> jf x v -> jf y u -> r x y H Q ->
  wpAny (model X.prog X.w) X.A (f v u) (EP X pins Z Q) X.xe s
def UnR (X : Cx) (f : Value -> Sem Value) (r : V -> Hp -> VK -> Prop) : Prop :=
 ∀ (pins : List (Addr × Obj)) (s : Shared) (Z : St) (H : Hp) (x : V) (v : Value) (Q : VK), Inv X pins Z H s -> jf x v -> r x H Q ->
  wpAny (model X.prog X.w) X.A (f v) (EP X pins Z Q) X.xe s
def yC (X : Cx) (f : Value) (r : List V -> Hp -> VK -> Prop) : Prop :=
 ∀ (pins : List (Addr × Obj)) (s : Shared) (Z : St) (H : Hp) (xs : List V) (us : List Value) (Q : VK), Inv X pins Z H s -> qN xs us -> r xs H Q ->
  wpAny (model X.prog X.w) X.A (call f us) (EP X pins Z Q) X.xe s
def tOp (r : R2) (ta tb : TE) : TE := fun Z H Q => ta Z H fun x H1 => tb Z H1 fun y H2 => r x y H2 Q
def tUn (r : V -> Hp -> VK -> Prop) (ta : TE) : TE := fun Z H Q => ta Z H fun x H1 => r x H1 Q
def rI (C : Int -> Int -> Prop) (g : Int -> Int -> V) : R2 := fun x y H Q => ∃ i j, x = .int i /\ y = .int j /\ C i j /\ Q (g i j) H
def rI0 (g : Int -> Int -> V) : R2 := fun x y H Q => ∃ i j, x = .int i /\ y = .int j /\ Q (g i j) H
def rU (g : Int -> V) : V -> Hp -> VK -> Prop := fun x H Q => ∃ i, x = .int i /\ Q (g i) H
section
variable {X : Cx} {a b c : Expr} {ta tb tc : TE} {pos : Pos}
theorem qk4 (ha : PE X a ta) (hb : PE X b tb) {pins : List (Addr × Obj)} {s : Shared} {Z : St} {H : Hp} {R : V -> V -> Hp -> Prop} (I : Inv X pins Z H s)
  (h : ta Z H fun x H1 => tb Z H1 fun y H2 => R x y H2) {Q : Value -> Shared -> Prop} {f : Value -> Value -> Sem Value}
  (hf : ∀ v u s2 x y H2, Inv X pins Z H2 s2 -> jf x v -> jf y u -> R x y H2 -> wpAny (model X.prog X.w) X.A (f v u) Q X.xe s2) :
  wpAny (model X.prog X.w) X.A (eval a X.env) (fun v s₁ => wpAny (model X.prog X.w) X.A (eval b X.env) (fun u s₂ => wpAny (model X.prog X.w) X.A (f v u) Q X.xe s₂) X.xe s₁) X.xe s := by
 refine thn (ha pins s Z H _ I h) fun v s1 ⟨x, H1, I1, r1, q1⟩ => ?_
 refine thn (hb pins s1 Z H1 _ I1 q1) fun u s2 ⟨y, H2, I2, r2, q2⟩ => ?_
 exact hf v u s2 x y H2 I2 r1 r2 q2
theorem qjg {op : Operator} {r : R2} (ho : OpR X (binaryOp op) r) (ha : PE X a ta) (hb : PE X b tb) : PE X (.BinOp a op b pos) (tOp r ta tb) := by
 intro pins s Z H Q I h
 exact wpAny_BinOp (qk4 ha hb I h fun v u s2 x y H2 I2 rx ry q => ho pins s2 Z H2 x y v u Q I2 rx ry q)
theorem qk5 {op : UnaryOp} {r : V -> Hp -> VK -> Prop} (ho : UnR X (unaryOp op) r) (ha : PE X a ta) : PE X (.UnaryOp op a pos) (tUn r ta) := by
 intro pins s Z H Q I h
 exact UnaryOp_ (thn (ha pins s Z H _ I h) fun v s1 ⟨x, H1, I1, r1, q1⟩ => ho pins s1 Z H1 x v Q I1 r1 q1)
theorem opI {f : Value -> Value -> Sem Value} {C : Int -> Int -> Prop} {g : Int -> Int -> Int}
  (rule : ∀ (i j : Int) (t u : Tok) (s : Shared) (Q : Value -> Shared -> Prop) (E : Value -> Shared -> Prop), C i j -> Q (.int (g i j) s.toks) { s with toks := s.toks + 1 } -> wpAny (model X.prog X.w) X.A (f (.int i t) (.int j u)) Q E s) :
  OpR X f (rI C fun i j => .int (g i j)) := by
 intro pins s Z H x y v u Q I rx ry h
 obtain ⟨i, j, rfl, rfl, hc, q⟩ := h
 obtain ⟨t, rfl⟩ := rx
 obtain ⟨t', rfl⟩ := ry
 exact rule i j t t' s _ _ hc ⟨.int (g i j), H, I.tok _, ⟨_, rfl⟩, q⟩
theorem qlT {f : Value -> Value -> Sem Value} {g : Int -> Int -> Int}
  (rule : ∀ (i j : Int) (t u : Tok) (s : Shared) (Q : Value -> Shared -> Prop) (E : Value -> Shared -> Prop), Q (.int (g i j) s.toks) { s with toks := s.toks + 1 } -> wpAny (model X.prog X.w) X.A (f (.int i t) (.int j u)) Q E s) :
  OpR X f (rI0 fun i j => .int (g i j)) := by
 intro pins s Z H x y v u Q I rx ry h
 obtain ⟨i, j, rfl, rfl, q⟩ := h
 obtain ⟨t, rfl⟩ := rx
 obtain ⟨t', rfl⟩ := ry
 exact rule i j t t' s _ _ ⟨.int (g i j), H, I.tok _, ⟨_, rfl⟩, q⟩
theorem qkH {f : Value -> Value -> Sem Value} {g : Int -> Int -> Bool}
  (rule : ∀ (i j : Int) (t u : Tok) (s : Shared) (Q : Value -> Shared -> Prop) (E : Value -> Shared -> Prop), Q (.bool (g i j)) s -> wpAny (model X.prog X.w) X.A (f (.int i t) (.int j u)) Q E s) :
  OpR X f (rI0 fun i j => .bl (g i j)) := by
 intro pins s Z H x y v u Q I rx ry h
 obtain ⟨i, j, rfl, rfl, q⟩ := h
 obtain ⟨t, rfl⟩ := rx
 obtain ⟨t', rfl⟩ := ry
 exact rule i j t t' s _ _ ⟨.bl (g i j), H, I, rfl, q⟩
def qjh (i j : Int) : Prop := 0 < j /\ j < 1606938044258990275541962092341162602522202993782792835301376
theorem qlU {i j : Int} (h1 : 0 < j) (h2 : j < 1606938044258990275541962092341162602522202993782792835301376) : Builtin.divisionGoesByPylong i j = false := by
 refine PyProof.noPylong_of_log2 ?_
 have h0 : j.natAbs ≠ 0 := by omega
 have h3 : j.natAbs < 2 ^ 200 := by
   have : (2 : Nat) ^ 200 = 1606938044258990275541962092341162602522202993782792835301376 := by decide +kernel
   omega
 have := (Nat.log2_lt h0).mpr h3
 omega
def qji (i j : Int) : Prop := (-(2 ^ 64) < i /\ i < 2 ^ 64) \/ (-(2 ^ 64) < j /\ j < 2 ^ 64)
theorem qji.ok {i j : Int} (h : qji i j) : IntMulOk i j := by
 rcases h with ⟨h1, h2⟩ | ⟨h1, h2⟩
 ·exact .of_left (intBits_le_64 h1 h2)
 ·exact .of_right (intBits_le_64 h1 h2)
theorem qjj : OpR X (binaryOp .Add) (rI0 fun i j => .int (i + j)) := qlT fun _ _ _ _ _ _ _ q => add_int q
theorem w6 : OpR X (binaryOp .Sub) (rI0 fun i j => .int (i - j)) := qlT fun _ _ _ _ _ _ _ q => sub_int q
theorem qjk : OpR X (binaryOp .Mult) (rI qji fun i j => .int (i * j)) := opI fun _ _ _ _ _ _ _ hc q => mul_int q hc.ok
theorem vQ : OpR X (binaryOp .FloorDiv) (rI qjh fun i j => .int (i / j)) := opI fun i j _ _ _ _ _ hc q => by
 have h1 : (0 : Int) < j := hc.1
 have h2 : j < 1606938044258990275541962092341162602522202993782792835301376 := hc.2
 exact floordiv_int (by omega) (by rw [Int.fdiv_eq_ediv_of_nonneg i (by omega)]; exact q) (.inl (qlU h1 h2))
theorem w8 : OpR X (binaryOp .Mod) (rI (fun _ j => 0 < j) fun i j => .int (i % j)) := opI fun i j _ _ _ _ _ hc q => by
 have h1 : (0 : Int) < j := hc
 exact mod_int' (by omega) (by rw [Int.fmod_eq_emod_of_nonneg i (by omega)]; exact q)
theorem unI {f : Value -> Sem Value} {g : Int -> Int}
  (rule : ∀ (i : Int) (t : Tok) (s : Shared) (Q : Value -> Shared -> Prop) (E : Value -> Shared -> Prop), Q (.int (g i) s.toks) { s with toks := s.toks + 1 } -> wpAny (model X.prog X.w) X.A (f (.int i t)) Q E s) :
  UnR X f (rU fun i => .int (g i)) := by
 intro pins s Z H x v Q I rx h
 obtain ⟨i, rfl, q⟩ := h
 obtain ⟨t, rfl⟩ := rx
 exact rule i t s _ _ ⟨.int (g i), H, I.tok _, ⟨_, rfl⟩, q⟩
theorem qjl : UnR X (unaryOp .USub) (rU fun i => .int (-i)) := unI fun _ _ _ _ _ q => neg_int q
end
def qk6 : V -> V -> Bool
 | .non, .non => true | .non, .int _ => true | .int _, .non => true | .non, .bl _ => true | .bl _, .non => true | .non, .str _ => true | .str _, .non => true
 | .int _, .int _ => true | .bl _, .bl _ => true | .str _, .str _ => true | .byt _, .byt _ => true
 | .int _, .str _ => true | .str _, .int _ => true | .bl _, .str _ => true | .str _, .bl _ => true
 | _, _ => false
def rEq : R2 := fun x y H Q => qk6 x y = true /\ Q (.bl (decide (x = y))) H
def rNe : R2 := fun x y H Q => qk6 x y = true /\ Q (.bl (!decide (x = y))) H
theorem qdT {i j : Int} : decide (V.int i = V.int j) = (i == j) := by
 rw [Bool.eq_iff_iff]
 simp
theorem qgs {i j : Bool} : decide (V.bl i = V.bl j) = (i == j) := by
 rw [Bool.eq_iff_iff]
 simp
theorem qdU {i j : Str} : decide (V.str i = V.str j) = (i == j) := by
 rw [Bool.eq_iff_iff]
 simp
theorem qdV {i j : Array UInt8} : decide (V.byt i = V.byt j) = (i.toList == j.toList) := by
 rw [Bool.eq_iff_iff]
 cases i
 cases j
 simp
section
variable {X : Cx} {a b c : Expr} {ta tb tc : TE} {pos : Pos}
theorem qK {pins : List (Addr × Obj)} {Z : St} {H : Hp} {s : Shared} {Q : VK} {k k' : Bool} (I : Inv X pins Z H s) (q : Q (.bl k) H) (e : k = k') : EP X pins Z Q (.bool k') s := by
 subst e
 exact ⟨.bl k, H, I, rfl, q⟩
theorem qk7 : OpR X (compareOp .Eq) rEq := by
 intro pins s Z H x y v u Q I rx ry h
 obtain ⟨hs, q⟩ := h
 cases x with
 | non =>
  cases rx
  cases y with
  | non => cases ry; exact PySem.EqNone.eq_none_none (qK I q (by simp))
  | bl j => cases ry; exact PySem.EqNone.eq_none_bool (qK I q (by simp))
  | int j => obtain ⟨t', rfl⟩ := ry; exact PySem.EqNone.eq_none_int (qK I q (by simp))
  | str j => obtain ⟨t', rfl⟩ := ry; exact PySem.EqNone.eq_none_str (qK I q (by simp))
  | _ => exact absurd (show false = true from hs) Bool.false_ne_true
 | bl i =>
  cases rx
  cases y with
  | non => cases ry; exact PySem.EqNone.eq_bool_none (qK I q (by simp))
  | bl j => cases ry; exact eq_bool (qK I q qgs)
  | str j => obtain ⟨t', rfl⟩ := ry; exact PySem.EqMixed.eq_bool_str (qK I q (by simp))
  | _ => exact absurd (show false = true from hs) Bool.false_ne_true
 | int i =>
  obtain ⟨t, rfl⟩ := rx
  cases y with
  | non => cases ry; exact PySem.EqNone.eq_int_none (qK I q (by simp))
  | int j => obtain ⟨t', rfl⟩ := ry; exact eq_int (qK I q qdT)
  | str j => obtain ⟨t', rfl⟩ := ry; exact PySem.EqMixed.eq_int_str (qK I q (by simp))
  | _ => exact absurd (show false = true from hs) Bool.false_ne_true
 | str i =>
  obtain ⟨t, rfl⟩ := rx
  cases y with
  | non => cases ry; exact PySem.EqNone.eq_str_none (qK I q (by simp))
  | bl j => cases ry; exact PySem.EqMixed.eq_str_bool (qK I q (by simp))
  | int j => obtain ⟨t', rfl⟩ := ry; exact PySem.EqMixed.eq_str_int (qK I q (by simp))
  | str j => obtain ⟨t', rfl⟩ := ry; exact eq_str (qK I q qdU)
  | _ => exact absurd (show false = true from hs) Bool.false_ne_true
 | byt i =>
  obtain ⟨t, rfl⟩ := rx
  cases y with
  | byt j => obtain ⟨t', rfl⟩ := ry; exact PySem.W.eq_bytes (qK I q qdV)
  | _ => exact absurd (show false = true from hs) Bool.false_ne_true
 | _ => cases y <;> exact absurd (show false = true from hs) Bool.false_ne_true
theorem qk8 : OpR X (compareOp .NotEq) rNe := by
 intro pins s Z H x y v u Q I rx ry h
 obtain ⟨hs, q⟩ := h
 cases x with
 | non =>
  cases rx
  cases y with
  | non => cases ry; exact PySem.EqNone.ne_none_none (qK I q (by simp))
  | bl j => cases ry; exact PySem.EqNone.ne_none_bool (qK I q (by simp))
  | int j => obtain ⟨t', rfl⟩ := ry; exact PySem.EqNone.ne_none_int (qK I q (by simp))
  | str j => obtain ⟨t', rfl⟩ := ry; exact PySem.EqNone.ne_none_str (qK I q (by simp))
  | _ => exact absurd (show false = true from hs) Bool.false_ne_true
 | bl i =>
  cases rx
  cases y with
  | non => cases ry; exact PySem.EqNone.ne_bool_none (qK I q (by simp))
  | bl j => cases ry; exact ne_bool (qK I q (congrArg not qgs))
  | str j => obtain ⟨t', rfl⟩ := ry; exact PySem.EqMixed.ne_bool_str (qK I q (by simp))
  | _ => exact absurd (show false = true from hs) Bool.false_ne_true
 | int i =>
  obtain ⟨t, rfl⟩ := rx
  cases y with
  | non => cases ry; exact PySem.EqNone.ne_int_none (qK I q (by simp))
  | int j => obtain ⟨t', rfl⟩ := ry; exact ne_int (qK I q (congrArg not qdT))
  | str j => obtain ⟨t', rfl⟩ := ry; exact PySem.EqMixed.ne_int_str (qK I q (by simp))
  | _ => exact absurd (show false = true from hs) Bool.false_ne_true
 | str i =>
  obtain ⟨t, rfl⟩ := rx
  cases y with
  | non => cases ry; exact PySem.EqNone.ne_str_none (qK I q (by simp))
  | bl j => cases ry; exact PySem.EqMixed.ne_str_bool (qK I q (by simp))
  | int j => obtain ⟨t', rfl⟩ := ry; exact PySem.EqMixed.ne_str_int (qK I q (by simp))
  | str j => obtain ⟨t', rfl⟩ := ry; exact ne_str (qK I q (congrArg not qdU))
  | _ => exact absurd (show false = true from hs) Bool.false_ne_true
 | byt i =>
  obtain ⟨t, rfl⟩ := rx
  cases y with
  | byt j => obtain ⟨t', rfl⟩ := ry; exact PySem.W.ne_bytes (qK I q (congrArg not qdV))
  | _ => exact absurd (show false = true from hs) Bool.false_ne_true
 | _ => cases y <;> exact absurd (show false = true from hs) Bool.false_ne_true
theorem qjm : OpR X (compareOp .Lt) (rI0 fun i j => .bl (decide (i < j))) := qkH fun _ _ _ _ _ _ _ q => lt_int q
theorem qhj : OpR X (compareOp .LtE) (rI0 fun i j => .bl (decide (i <= j))) := qkH fun _ _ _ _ _ _ _ q => le_int q
theorem qbY : OpR X (compareOp .Gt) (rI0 fun i j => .bl (decide (j < i))) := qkH fun _ _ _ _ _ _ _ q => gt_int q
theorem qhk : OpR X (compareOp .GtE) (rI0 fun i j => .bl (decide (j <= i))) := qkH fun _ _ _ _ _ _ _ q => ge_int q
theorem qba : OpR X (compareOp .Is) (fun x y H Q => y = .non /\ Q (.bl (decide (x = .non))) H) := by
 intro pins s Z H x y v u Q I rx ry h
 obtain ⟨rfl, q⟩ := h
 cases ry
 refine is_none_gen (qK I q ?_)
 cases x <;> first
  | (cases rx; rfl)
  | (obtain ⟨t, rfl⟩ := rx; rfl)
theorem qhl : OpR X (compareOp .IsNot) (fun x y H Q => y = .non /\ Q (.bl (!decide (x = .non))) H) := by
 intro pins s Z H x y v u Q I rx ry h
 obtain ⟨rfl, q⟩ := h
 cases ry
 refine isnot_none_gen (qK I q ?_)
 cases x <;> first
  | (cases rx; rfl)
  | (obtain ⟨t, rfl⟩ := rx; rfl)
theorem OpR.or {f : Value -> Value -> Sem Value} {r r' : R2} (h : OpR X f r) (h' : OpR X f r') : OpR X f (fun x y H Q => r x y H Q \/ r' x y H Q) := by
 intro pins s Z H x y v u Q I rx ry q
 rcases q with q | q
 ·exact h pins s Z H x y v u Q I rx ry q
 ·exact h' pins s Z H x y v u Q I rx ry q
theorem qX (b : Expr) {op : CmpOp} (h : op ≠ .In := by decide) (h2 : op ≠ .NotIn := by decide) : behindInMarks op b = false := by
 have e1 : (op == CmpOp.In) = false := by cases op <;> first | rfl | exact absurd rfl h
 have e2 : (op == CmpOp.NotIn) = false := by cases op <;> first | rfl | exact absurd rfl h2
 cases b <;> simp [behindInMarks, e1, e2]
theorem qhm {op : CmpOp} {r : R2} (ho : OpR X (compareOp op) r) (ha : PE X a ta) (hb : PE X b tb) (hm : behindInMarks op b = false) : PE X (.Compare a [op] [b] pos) (tOp r ta tb) := by
 intro pins s Z H Q I h
 exact wpAny_Compare1 (qk4 ha hb I h fun v u s2 x y H2 I2 rx ry q => ho pins s2 Z H2 x y v u Q I2 rx ry q) hm
def qk9 (t : TE) : TT := fun Z H Q => t Z H fun x H' => ∃ k, x = .bl k /\ Q k H'
theorem qhn {op : CmpOp} {r : R2} (ho : OpR X (compareOp op) r) (ha : PE X a ta) (hb : PE X b tb) (hm : behindInMarks op b = false) : PT X (.Compare a [op] [b] pos) (qk9 (tOp r ta tb)) := by
 intro pins s Z H Q I h
 refine wpAny_isTrue_Compare1 (thn (ha pins s Z H _ I h) fun v s1 ⟨x, H1, I1, r1, q1⟩ => thn (hb pins s1 Z H1 _ I1 q1) fun u s2 ⟨y, H2, I2, r2, q2⟩ =>
  thn (ho pins s2 Z H2 x y v u _ I2 r1 r2 q2) fun c s3 ⟨z, H3, I3, r3, k, e, q3⟩ => ?_) hm
 subst e
 cases r3
 exact wpAny_truthy_bool ⟨H3, I3, q3⟩
theorem qbb : (sizeLine : Nat) < 2 ^ 63 := by rw [sizeLine_eq]; decide
theorem qdg : OpR X (binaryOp .Add) (fun x y H Q => ∃ i j, x = .str i /\ y = .str j /\ i.length + j.length <= sizeLine /\ Q (.str (i ++ j)) H) := by
 intro pins s Z H x y v u Q I rx ry h
 obtain ⟨i, j, rfl, rfl, hz, q⟩ := h
 obtain ⟨t, rfl⟩ := rx
 obtain ⟨t', rfl⟩ := ry
 exact add_str (fun t' tk => ⟨.str (i ++ j), H, I.tok _, ⟨_, rfl⟩, q⟩) hz
theorem qho {x : V} {us : List Value} (r : qN [x] us) : ∃ u, us = [u] /\ jf x u := by
 cases r with
 | cons r1 r2 => cases r2; exact ⟨_, rfl, r1⟩
theorem qhp {x y : V} {us : List Value} (r : qN [x, y] us) : ∃ u w', us = [u, w'] /\ jf x u /\ jf y w' := by
 cases r with
 | cons r1 r2 =>
  cases r2 with
  | cons r3 r4 => cases r4; exact ⟨_, _, rfl, r1, r3⟩
theorem qbc (hc : X.calm = true) : yC X (.builtin "max") (fun xs H Q => ∃ i j, xs = [.int i, .int j] /\ Q (.int (if j > i then j else i)) H) := by
 intro pins s Z H xs us Q I r h
 obtain ⟨i, j, rfl, q⟩ := h
 obtain ⟨u, w', rfl, ⟨t, rfl⟩, ⟨t', rfl⟩⟩ := qhp r
 refine max_two_ints (I.ok.hd hc) fun h' tk k => ⟨_, H, I.kept k, ?_, q⟩
 by_cases hj : j > i
 ·rw [if_pos hj, if_pos hj]; exact ⟨_, rfl⟩
 ·rw [if_neg hj, if_neg hj]; exact ⟨_, rfl⟩
theorem qdW (hc : X.calm = true) : yC X (.builtin "min") (fun xs H Q => ∃ i j, xs = [.int i, .int j] /\ Q (.int (if j < i then j else i)) H) := by
 intro pins s Z H xs us Q I r h
 obtain ⟨i, j, rfl, q⟩ := h
 obtain ⟨u, w', rfl, ⟨t, rfl⟩, ⟨t', rfl⟩⟩ := qhp r
 refine min_two_ints (I.ok.hd hc) fun h' tk k => ⟨_, H, I.kept k, ?_, q⟩
 by_cases hj : j < i
 ·rw [if_pos hj, if_pos hj]; exact ⟨_, rfl⟩
 ·rw [if_neg hj, if_neg hj]; exact ⟨_, rfl⟩
theorem qbZ : yC X (.builtin "divmod") (fun xs H Q => ∃ i j, xs = [.int i, .int j] /\ qjh i j /\ ∀ p, H p = none -> Q (.ref p) (upd H p (.tup [.int (i / j), .int (i % j)]))) := by
 intro pins s Z H xs us Q I r h
 obtain ⟨i, j, rfl, ⟨h1, h2⟩, q⟩ := h
 obtain ⟨u, w', rfl, ⟨t, rfl⟩, ⟨t', rfl⟩⟩ := qhp r
 refine divmod_int (by omega) ?_ (.inl (qlU h1 h2))
 rw [Int.fdiv_eq_ediv_of_nonneg i (by omega), Int.fmod_eq_emod_of_nonneg i (by omega)]
 have hn : H s.heap.objs.size = none := I.hok.fresh (Nat.le_refl _)
 refine ⟨.ref s.heap.objs.size, _, ?_, rfl, q _ hn⟩
 refine I.laid (fun b o e => Heap.get?_push_of_some _ e) (Nat.le_refl _) ⟨by simp only [lC_, lN_]; rw [sizeLine_eq]; decide, [.int (i / j) s.toks, .int (i % j) (s.toks + 1)], .cons ⟨_, rfl⟩ (.cons ⟨_, rfl⟩ .nil), ?_⟩
 exact ⟨_, Heap.get?_push_size s.heap rfl, rfl, 0, rfl⟩
end
end L2
namespace L2
open PySem PySem.Spec PyProof.Rows
structure qla (h : Heap) (x dx C : Addr) (mA : Str -> Option Value) : Prop where
 obj : h.get? x = some (PySem.W.instObj C dx)
 ns : h.Ns1 dx mA
 ne : dx ≠ x
theorem qdX {h : Heap} {dx : Addr} {mA : Str -> Option Value} (n : h.Ns1 dx mA) : ∃ od, h.get? dx = some od /\ ∀ name, PySem.W.lookIn name od = some (mA name) := by
 obtain ⟨o, es, ep, ho, hd, hk, _, hm⟩ := n
 refine ⟨o, ho, fun name => ?_⟩
 have e := hm name
 unfold nsFind findBy at e
 rw [<- Array.find?_toList] at e
 unfold PySem.W.lookIn
 rw [hd]
 dsimp only
 split
 ·rename_i y q
  rw [q] at e
  exact congrArg some e
 ·rename_i q
  rw [q] at e
  have a : es.toList.any (·.refKey) = false := by
   rw [List.any_eq_false]
   intro y hy
   obtain ⟨z, t, hkey⟩ := hk y (Array.mem_toList_iff.mp hy)
   simp [DictEntry.refKey, hkey]
  have a' : ¬ es.toList.any (·.refKey) = true := by rw [a]; exact Bool.false_ne_true
  rw [if_neg a']
  exact congrArg some e
theorem qla.look {h : Heap} {x dx C : Addr} {mA : Str -> Option Value} (I : qla h x dx C mA) : ∃ od, PySem.W.InstAt h x (PySem.W.instObj C dx) C (some od) /\ ∀ name, PySem.W.lookIn name od = some (mA name) :=
 let ⟨od, ho, hl⟩ := qdX I.ns
 ⟨od, ⟨I.obj, rfl, rfl, ho⟩, hl⟩
section
variable {prog : Program} {w : World} {A : Around} {E : Value -> Shared -> Prop} {s : Shared} {K : PySem.W.Frag} {x dx C f : Addr} {mA : Str -> Option Value} {name : Str} {v : Value}
end
def qmE (f : Str) (v : V) : List (Str × V) -> List (Str × V)
 | [] => [(f, v)]
 | (g, x) :: r => if g = f then (g, v) :: r else (g, x) :: qmE f v r
section
variable {P : Program} {w : World} {H H' : Hp} {h h' : Heap} {a C dx : Addr} {fs fs' : List (Str × V)}
theorem qhq (hok : HOk P w H h) (e : H a = some (.ins C dx fs)) : ∃ mA, qla h a dx C mA /\ (∀ f, qkS (fs.lookup f) (mA f)) /\ PySem.Within mA (fs.map (·.1)) /\ fs.length <= 1000 /\ H dx = some (.own a) := by
 obtain ⟨d, z, ne, ob, mA, n, r, q⟩ := (show jQ P w H h a (.ins C dx fs) from hok a _ e)
 exact ⟨mA, ⟨ob, n, ne⟩, r, q, z, d⟩
end
structure Cls (K : PySem.W.Frag) (C : Addr) : Prop where
 pg : PySem.W.plainGet K C Str.empty = true
 hd : PySem.W.hasDictIn K C = true
 po : PySem.W.plainOver K C = true
 sa : PySem.W.findIn K (.ref C) "__setattr__" = some (some (.builtin "object.__setattr__"))
theorem Cls.get {K : PySem.W.Frag} {C : Addr} (c : Cls K C) (f : Str) : PySem.W.plainGet K C f = true := c.pg
structure Con (K : PySem.W.Frag) (C : Addr) (f : Str) (v : V) (u : Value) : Prop where
 at_ : PySem.W.findIn K (.ref C) f = some (some u)
 rel : jf v u
 get : PySem.W.specialIn K u "__get__" = some none
 cp : PySem.W.copiedNames.contains f = false
structure qm3 (K : PySem.W.Frag) (C : Addr) (m : Str) (f : Addr) : Prop where
 at_ : PySem.W.findIn K (.ref C) m = some (some (.ref f))
 fn : PySem.W.isFn K (.ref f) = true
 kp : PySem.W.keepIn K (.ref f) = true
section
variable {X : Cx} {pins : List (Addr × Obj)} {Z : St} {H : Hp} {s : Shared} {a C dx : Addr} {fs : List (Str × V)} {f : Str} {v : V} {A : Around} {E : Value -> Shared -> Prop}
end
section
variable {X : Cx} {o e value : Expr} {f : Str} {pos pos' tpos : Pos} {ta tv : TE}
end
section
variable {X : Cx} {pins : List (Addr × Obj)} {Z : St} {H : Hp} {s : Shared} {A : Around} {E : Value -> Shared -> Prop} {Q : Value -> Shared -> Prop} {c : Value} {b : Bool}
inductive qdM (K : PySem.W.Frag) (H : Hp) : V -> Value -> Prop where
 | non : qdM K H .non (.type "NoneType")
 | bl (x : Bool) : qdM K H (.bl x) (.type "bool")
 | int (i : Int) : qdM K H (.int i) (.type "int")
 | str (x : Str) : qdM K H (.str x) (.type "str")
 | flt (x : UInt64) : qdM K H (.flt x) (.type "float")
 | lst {a : Addr} {xs : List V} (e : H a = some (.lst xs)) : qdM K H (.ref a) (.type "list")
 | frz {a : Addr} {o : Obj} {xs : List V} (e : H a = some (.frz o (.lst xs))) : qdM K H (.ref a) (.type "list")
 | tup {a : Addr} {xs : List V} (e : H a = some (.tup xs)) : qdM K H (.ref a) (.type "tuple")
 | dK {a : Addr} {kvs : List (Key × V)} (e : H a = some (.dK kvs)) : qdM K H (.ref a) (.type "dict")
 | dT {a : Addr} {kvs : List (List Key × V)} (e : H a = some (.dT kvs)) : qdM K H (.ref a) (.type "dict")
 | ins {a C dx : Addr} {fs : List (Str × V)} (e : H a = some (.ins C dx fs)) (cl : Cls K C) (ha : PySem.W.findIn K (.ref C) "__class__" = some (some (.builtin "object.__class__")))
   (hn : PySem.W.specialIn K (.builtin "object.__class__") "__get__" = some (some (.builtin "getset_descriptor.__get__"))) (htk : PySem.W.takesIn K (.builtin "object.__class__") = some true)
   (hm : PySem.W.mroIn K C (.type "object") = some true) : qdM K H (.ref a) (.ref C)
theorem yj {x : V} {u t : Value} (I : Inv X pins Z H s) (rx : jf x u) (ty : qdM X.K H x t) (e : PySem.W.kitOne X.K t c = some b) (h : ∀ tk, Q (.bool b) { s with toks := tk }) :
  wpAny (model X.prog X.w) A (call (.builtin "isinstance") [u, c]) Q E s := by
 cases ty with
 | non => cases (show u = Value.none from rx); exact PySem.W.kia_one PySem.W.kitx_none I.kIn True.intro e (fun z => nomatch z) h
 | bl y => cases (show u = Value.bool y from rx); exact PySem.W.kia_one PySem.W.kitx_bool I.kIn True.intro e (fun z => nomatch z) h
 | int i => obtain ⟨t, q⟩ := (show ∃ t, u = Value.int i t from rx); cases q; exact PySem.W.kia_one PySem.W.kitx_int I.kIn True.intro e (fun z => nomatch z) h
 | str y => obtain ⟨t, q⟩ := (show ∃ t, u = Value.str y t from rx); cases q; exact PySem.W.kia_one PySem.W.kitx_str I.kIn True.intro e (fun z => nomatch z) h
 | flt y => obtain ⟨t, q⟩ := (show ∃ t, u = Value.float y t from rx); cases q; exact PySem.W.kia_one PySem.W.kitx_float I.kIn True.intro e (fun z => nomatch z) h
 | @lst a xs ea =>
  cases (show u = Value.ref a from rx)
  obtain ⟨_, _, n, _, h1⟩ := (show jQ X.prog X.w H s.heap a (.lst xs) from I.hok a _ ea)
  exact PySem.W.kia_one PySem.W.kitx_list I.kIn ⟨_, h1, rfl⟩ e (fun z => nomatch z) h
 | @frz a ob xs ea =>
  cases (show u = Value.ref a from rx)
  obtain ⟨_, _, _, n, _, h1⟩ := (show jQ X.prog X.w H s.heap a (.frz ob (.lst xs)) from I.hok a _ ea)
  exact PySem.W.kia_one PySem.W.kitx_list I.kIn ⟨_, h1, rfl⟩ e (fun z => nomatch z) h
 | @tup a xs ea =>
  cases (show u = Value.ref a from rx)
  obtain ⟨_, _, _, p⟩ := (show jQ X.prog X.w H s.heap a (.tup xs) from I.hok a _ ea)
  obtain ⟨o, h1, h2, _⟩ := p
  exact PySem.W.kia_one PySem.W.kitx_tuple I.kIn ⟨o, h1, h2⟩ e (fun z => nomatch z) h
 | @dK a kvs ea =>
  cases (show u = Value.ref a from rx)
  obtain ⟨_, _, vs, _, p⟩ := (show jQ X.prog X.w H s.heap a (.dK kvs) from I.hok a _ ea)
  obtain ⟨o, es, ep, h1, h2, _⟩ := p
  exact PySem.W.kia_one PySem.W.kitx_dict I.kIn ⟨o, h1, h2.1⟩ e (fun z => nomatch z) h
 | @dT a kvs ea =>
  cases (show u = Value.ref a from rx)
  obtain ⟨_, _, xs, _, o, es, ep, h1, h2, _⟩ := (show jQ X.prog X.w H s.heap a (.dT kvs) from I.hok a _ ea)
  exact PySem.W.kia_one PySem.W.kitx_dict I.kIn ⟨o, h1, h2.1⟩ e (fun z => nomatch z) h
 | @ins a C dx fs ea cl ha hn htk hm =>
  cases (show u = Value.ref a from rx)
  obtain ⟨mA, O, _⟩ := qhq I.hok ea
  obtain ⟨od, J, _⟩ := O.look
  exact PySem.W.kia_one (PySem.W.kitx_own (cl.get _) cl.hd ha hn htk hm) I.kIn J e (fun z => nomatch z) h
end
end L2
namespace L2
open PySem PySem.Spec PyProof.Rows
structure yT (k : Nat) (A : Around) : Prop where
 hd : A.handled = none
 dp : A.depth + 3 * k + 5 < recursionLimit
 un : A.units + 16 * k + 200 < cLine
 gd : A.guards = some []
theorem yT.mono {j k : Nat} {A : Around} (r : yT k A) (h : j <= k) : yT j A := ⟨r.hd, by have := r.dp; omega, by have := r.un; omega, r.gd⟩
theorem yT.deeper {k : Nat} {A : Around} (r : yT (k + 1) A) (env : Env) : yT k (A.deeper env) :=
 ⟨r.hd, by have := r.dp; show A.depth + 1 + 3 * k + 5 < _; omega, by have := r.un; show A.units + 3 + 16 * k + 200 < _; omega, r.gd⟩
theorem yT.depth {k : Nat} {A : Around} (r : yT k A) : A.depth < recursionLimit := by have := r.dp; omega
theorem yT.units {k : Nat} {A : Around} (r : yT k A) : A.units + 64 < cLine := by have := r.un; omega
def qlV : TA := fun _ H Q => Q [] H
def qjn (ta : TE) (tr : TA) : TA := fun Z H Q => ta Z H fun x H1 => tr Z H1 fun xs H2 => Q (x :: xs) H2
section
variable {X : Cx} {e : Expr} {es : List Expr} {te : TE} {t : TA} {pos : Pos}
theorem qbd : PA X [] qlV := fun _ _ _ _ H Q I h => Calls.spliced_nil ⟨[], H, I, .nil, h⟩
theorem uv (ha : PE X e te) (hr : PA X es t) (hs : starEach (e :: es) X.env = (false, eval e X.env) :: starEach es X.env := by rfl) : PA X (e :: es) (qjn te t) := by
 intro pos pins s Z H Q I h
 rw [hs]
 show wpAny _ _ (spliced ((false, eval e X.env) :: backTo pos (starEach es X.env))) _ _ s
 refine Calls.spliced_cons (thn (ha pins s Z H _ I h) fun u s1 ⟨x, H1, I1, r1, q1⟩ => ?_)
 exact thn (hr pos pins s1 Z H1 _ I1 q1) fun us s2 ⟨xs, H2, I2, r2, q2⟩ => ⟨x :: xs, H2, I2, .cons r1 r2, q2⟩
def qmF (t : TA) : TE := fun Z H Q => t Z H fun xs H1 => xs.length <= sizeLine /\ ∀ p, H1 p = none -> Q (.ref p) (upd H1 p (.tup xs))
def qmG (t : TA) : TE := fun Z H Q => t Z H fun xs H1 => xs.length <= sizeLine /\ ∀ p, H1 p = none -> Q (.ref p) (upd H1 p (.lst xs))
theorem qjo {x1} (h : PA X es t) : PE X (.Tuple es x1 pos) (qmF t) := by
 intro pins s Z H Q I hq
 refine wpAny_Tuple_spliced (thn (h pos pins s Z H _ I hq) fun us s1 ⟨xs, H1, I1, r, z, q⟩ => ⟨by rw [<- r.length]; exact z, ?_⟩)
 have hf : H1 s1.heap.objs.size = none := I1.hok.fresh (Nat.le_refl _)
 refine ⟨.ref s1.heap.objs.size, upd H1 s1.heap.objs.size (.tup xs), I1.laid (t' := s1.toks) (fun b u e => Heap.get?_push_of_some _ e) (Nat.le_refl _) ?_, rfl, q _ hf⟩
 exact ⟨z, us, r, ⟨_, Heap.get?_push_size _ rfl, rfl, _, rfl⟩⟩
theorem qgt (h : PA X es t) : PE X (.List es pos) (qmG t) := by
 intro pins s Z H Q I hq
 refine wpAny_List_spliced (thn (h pos pins s Z H _ I hq) fun us s1 ⟨xs, H1, I1, r, z, q⟩ => ⟨by rw [<- r.length]; exact z, ?_⟩)
 have hf : H1 s1.heap.objs.size = none := I1.hok.fresh (Nat.le_refl _)
 refine ⟨.ref s1.heap.objs.size, upd H1 s1.heap.objs.size (.lst xs), I1.laid (t' := s1.toks) (fun b u e => Heap.get?_push_of_some _ e) (Nat.le_refl _) ?_, rfl, q _ hf⟩
 exact ⟨z, us, 0, r, Heap.get?_push_size _ rfl⟩
end
abbrev Sp := List V -> Hp -> VK -> XK -> Prop
abbrev CXT := List Env -> Hp -> Shared -> XK -> Value -> Shared -> Prop
structure qjp (P : Program) (w : World) (K : PySem.W.Frag) (mg : Str -> Option Value) (base : Heap) (A : Around) (outer : List Env) (s : Shared) (H : Hp) : Prop where
 frames : A.frames = some outer
 mod : Mod K mg base
 bs : ∀ b o, base.get? b = some o -> s.heap.get? b = some o /\ H b = none
 bsz : base.objs.size <= s.heap.objs.size
 funs : s.heap.FunFrames base outer
 frf : ∀ b ∈ frs outer, H b = none
 hok : HOk P w H s.heap
 bare : AllBare s.gens
def CE (outer : List Env) (P : Program) (w : World) (H : Hp) (s : Shared) (Q : VK) (u : Value) (s' : Shared) : Prop :=
 ∃ v H', s'.os = s.os /\ AllBare s'.gens /\ Un (frs outer) [] H H' s.heap s'.heap /\ HOk P w H' s'.heap /\ jf v u /\ Q v H'
def CR (CX : CXT) (outer : List Env) (P : Program) (w : World) (H : Hp) (s : Shared) (Q : VK) (E : XK) (r : Result) (s' : Shared) : Prop :=
 match r with
 | .ok (.ret u) => CE outer P w H s Q u s'
 | .ok _ => False
 | .error e => CX outer H s E e s'
structure wS (P : Program) (w : World) (K : PySem.W.Frag) (mg : Str -> Option Value) (base : Heap) (CX : CXT) (k : Nat) (f : Addr) (fd : FuncData) (ps : List Str) (sp : Sp) : Prop where
 len : ∀ vs H Q E, sp vs H Q E -> vs.length = ps.length
 run : ∀ (A : Around) (outer : List Env) (s : Shared) (H : Hp) (args : Args) (us : List Value) (vs : List V) (Q : VK) (E : XK), yT k A -> qjp P w K mg base A outer s H -> BindsTo s fd args (ps.zip us) -> qN vs us -> sp vs H Q E ->
  codeAny (model P w) A (.call (.ref f) args) (CR CX outer P w H s Q E) s
section
variable {X : Cx} {pins : List (Addr × Obj)} {Z : St} {H : Hp} {s s' : Shared}
theorem Inv.env0 (I : Inv X pins Z H s) : qjp X.prog X.w X.K X.mg X.base X.A X.stack s H :=
 ⟨I.ok.frames, I.ok.mod, I.bs, Nat.le_trans I.ok.bsz I.sz, I.stack, I.stkFree, I.hok, I.bare⟩
theorem Inv.after {Q : VK} {u : Value} (I : Inv X pins Z H s) (h : CE X.stack X.prog X.w H s Q u s') : EP X pins Z Q u s' := by
 obtain ⟨v, H', os, bare, un, hok, r, q⟩ := h
 obtain ⟨hh, g, d, t, os'⟩ := s'
 obtain rfl : os' = s.os := os
 exact ⟨v, H', I.call (h' := hh) (g' := g) (d' := d) (t' := t) (ch := []) un hok bare (fun b z => absurd z (by simp)), r, q⟩
end
def qlb (sp : Sp) (dvs : List V) (E : XK) (t : TA) : TE := fun Z H Q => t Z H fun vs H1 => sp (vs ++ dvs) H1 Q E
def uw (K : PySem.W.Frag) (fd : FuncData) (ps : List Str) (ds : List Value) : Prop :=
 ∀ (s : Shared) (us : List Value), K.In s.heap -> (us ++ ds).length = ps.length -> BindsTo s fd ⟨us, []⟩ (ps.zip (us ++ ds))
theorem uw.all {K : PySem.W.Frag} {fd : FuncData} {ps : List Str} (h : ∀ us : List Value, us.length = ps.length -> bindArgs fd ⟨us, []⟩ = pure (ps.zip us)) : uw K fd ps [] := fun s us _ hl => by
 rw [List.append_nil] at hl |-
 exact .of_eq (h us hl)
def qaa (CX : CXT) (X : Cx) (E : XK) : Prop := ∀ (pins : List (Addr × Obj)) (Z : St) (H : Hp) (s : Shared) (e : Value) (s' : Shared), Inv X pins Z H s -> CX X.stack H s E e s' -> X.xe e s'
section
variable {X : Cx} {CX : CXT} {k : Nat} {f C : Addr} {fd : FuncData} {ps : List Str} {sp : Sp} {dvs : List V} {ds : List Value} {E : XK} {x m : Str} {p pos apos : Pos} {e o : Expr} {es : List Expr} {ta : TE} {t : TA}
theorem qjq {pins : List (Addr × Obj)} {Z : St} {H : Hp} {s : Shared} {Q : VK} {us : List Value} {vs : List V} (F : wS X.prog X.w X.K X.mg X.base CX k f fd ps sp) (hr : yT k X.A) (hb : uw X.K fd ps ds) (hd : qN dvs ds) (hx : qaa CX X E)
  (I : Inv X pins Z H s) (r : qN vs us) (h : sp (vs ++ dvs) H Q E) : wpAny (model X.prog X.w) X.A (call (.ref f) us) (EP X pins Z Q) X.xe s := by
 have r2 : qN (vs ++ dvs) (us ++ ds) := r.append hd
 have hl : (us ++ ds).length = ps.length := by rw [<- r2.length]; exact F.len _ _ _ _ h
 refine wpAny_call (codeAny_mono (F.run X.A X.stack s H ⟨us, []⟩ (us ++ ds) (vs ++ dvs) Q E hr I.env0 (hb s us I.kIn hl) r2 h) fun r s' hq => ?_)
 cases r with
 | error e => exact hx pins Z H s e s' I hq
 | ok fl =>
  cases fl with
  | ret u => exact I.after hq
  | next => exact False.elim hq
  | brk => exact False.elim hq
  | cont => exact False.elim hq
theorem qau (F : wS X.prog X.w X.K X.mg X.base CX k f fd ps sp) (hr : yT k X.A) (hg : Gl X x) (hm : X.mg x = some (.ref f)) (hk : PySem.W.keepIn X.K (.ref f) = true) (hb : uw X.K fd ps ds) (hd : qN dvs ds) (hx : qaa CX X E)
  (ha : PA X (e :: es) t) (hdb : (x == ("__debug__" : Str)) = false := by decide) (he : starEach (e :: es) X.env = (false, eval e X.env) :: starEach es X.env := by rfl) (hpl : (backTo pos (starEach es X.env)).any (·.1) = false := by rfl) :
  PE X (.Call (.Name x p) (e :: es) [] pos) (qlb sp dvs E t) := by
 intro pins s Z H Q I h
 refine wpAny_Call_Name_kw (qbX I hg hm ?_ hdb)
 refine PySem.W.callWith_K (h₀ := X.base) I.ok.mod.kin hk (thn (ha pos pins s Z H _ I h) fun us s1 ⟨vs, H1, I1, r, q⟩ => ⟨I1.kIn, ?_⟩) he hpl
 exact qjq F hr hb hd hx I1 r q
structure Mk (K : PySem.W.Frag) (C f : Addr) : Prop where
 makes : PySem.W.makesIn K C = true
 init : PySem.W.findIn K (.ref C) "__init__" = some (some (.ref f))
 fn : PySem.W.isFn K (.ref f) = true
 kp : PySem.W.keepIn K (.ref C) = true
end
def PK (X : Cx) (kws : List Keyword) (t : TA) : Prop :=
 ∀ (pos : Pos) (pins : List (Addr × Obj)) (s : Shared) (Z : St) (H : Hp) (Q : List V -> Hp -> Prop), Inv X pins Z H s -> t Z H Q -> wpAny (model X.prog X.w) X.A (evalAll ((backToKw pos (keywordEach kws X.env)).map (·.2))) (AP X pins Z Q) X.xe s
section
variable {X : Cx} {CX : CXT} {k : Nat} {f C : Addr} {fd : FuncData} {ps ks : List Str} {sp : Sp} {E : XK} {x m : Str} {p pos apos kpos : Pos} {e o : Expr} {es : List Expr} {kws : List Keyword} {te ta : TE} {t tk : TA} {nm : Option Str}
theorem qjr : PK X [] qlV := fun _ _ _ _ H Q I h => wpAny_evalAll_nil ⟨[], H, I, .nil, h⟩
theorem qhr (ha : PE X e te) (hr : PK X kws t) : PK X (⟨nm, e, kpos⟩ :: kws) (qjn te t) := by
 intro pos pins s Z H Q I h
 show wpAny _ _ (evalAll ((do let v <- eval e X.env; standAt pos; pure v) :: (backToKw pos (keywordEach kws X.env)).map (·.2))) _ _ s
 refine wpAny_evalAll_cons (wpAny_bind (thn (ha pins s Z H _ I h) fun u s1 ⟨x, H1, I1, r1, q1⟩ => wpAny_bind (wpAny_standAt (wpAny_pure ?_))))
 exact thn (hr pos pins s1 Z H1 _ I1 q1) fun us s2 ⟨xs, H2, I2, r2, q2⟩ => ⟨x :: xs, H2, I2, .cons r1 r2, q2⟩
variable {g : List Value -> List Value -> List Value} {gV : List V -> List V -> List V}
end
structure qv (N P : List Str) (sc : Scope) : Prop where
 kind : sc.kind = .function
 co : sc.isCoroutine = false
 gen : sc.isGenerator = false
 nd : N.Nodup
 pre : N.take P.length = P
 par : ∀ x ∈ P, sc.names.lookup x = some .local \/ sc.names.lookup x = some .cell
 nofree : ∀ y ∈ sc.names, y.2 ≠ .free
theorem qbe {kindOf : Str -> Option NameKind} {x : Str} : ∀ {binds : List (Str × Value)} {m : Str -> Option Value}, (∀ v, (x, v) ∉ binds) -> bindL kindOf binds m x = m x
 | [], _, _ => rfl
 | (n, v) :: r, m, h => by
  unfold bindL
  rw [qbe fun w hw => h w (mM _ hw)]
  split
  ·have : x ≠ n := by rintro rfl; exact h v mS_
   simp [this]
  ·rfl
theorem qbf {kindOf : Str -> Option NameKind} {x : Str} : ∀ {binds : List (Str × Value)} {m : Str -> Option Value}, (∀ v, (x, v) ∉ binds) -> bindC kindOf binds m x = m x
 | [], _, _ => rfl
 | (n, v) :: r, m, h => by
  unfold bindC
  rw [qbf fun w hw => h w (mM _ hw)]
  split
  ·rfl
  ·have : x ≠ n := by rintro rfl; exact h v mS_
   simp [this]
theorem qbg {kindOf : Str -> Option NameKind} {x : Str} {v : Value} : ∀ {P : List Str} {vs : List Value} {i : Nat} {m : Str -> Option Value}, P.Nodup -> P[i]? = some x -> vs[i]? = some v -> kindOf x = some .local ->
  bindL kindOf (P.zip vs) m x = some v
 | [], _, _, _, _, h, _, _ => by simp at h
 | _ :: _, [], _, _, _, _, h, _ => by simp at h
 | p :: P, w :: vs, 0, m, nd, h1, h2, hk => by
  simp at h1 h2; subst h1; subst h2
  show bindL kindOf ((p, w) :: P.zip vs) m p = _
  unfold bindL
  rw [qbe fun v hv => (List.nodup_cons.mp nd).1 (List.of_mem_zip hv).1, if_pos hk]
  simp
 | p :: P, w :: vs, i + 1, m, nd, h1, h2, hk => by
  show bindL kindOf ((p, w) :: P.zip vs) m x = _
  unfold bindL
  exact qbg (i := i) (List.nodup_cons.mp nd).2 (by simpa using h1) (by simpa using h2) hk
theorem qbh {kindOf : Str -> Option NameKind} {x : Str} {v : Value} : ∀ {P : List Str} {vs : List Value} {i : Nat} {m : Str -> Option Value}, P.Nodup -> P[i]? = some x -> vs[i]? = some v -> kindOf x ≠ some .local ->
  bindC kindOf (P.zip vs) m x = some v
 | [], _, _, _, _, h, _, _ => by simp at h
 | _ :: _, [], _, _, _, _, h, _ => by simp at h
 | p :: P, w :: vs, 0, m, nd, h1, h2, hk => by
  simp at h1 h2; subst h1; subst h2
  show bindC kindOf ((p, w) :: P.zip vs) m p = _
  unfold bindC
  rw [qbf fun v hv => (List.nodup_cons.mp nd).1 (List.of_mem_zip hv).1, if_neg hk]
  simp
 | p :: P, w :: vs, i + 1, m, nd, h1, h2, hk => by
  show bindC kindOf ((p, w) :: P.zip vs) m x = _
  unfold bindC
  exact qbh (i := i) (List.nodup_cons.mp nd).2 (by simpa using h1) (by simpa using h2) hk
def zx (N : List Str) (vs : List V) : St := vs.map some ++ List.replicate (N.length - vs.length) none
def qfu (CX : CXT) (P : Program) (w : World) (K : PySem.W.Frag) (mg : Str -> Option Value) (base : Heap) (N : List Str) (qual : Str) (scope : Scope) (f : Addr) (cd : Value) (A : Around) (outer : List Env) (s : Shared) (H : Hp) (E : XK) : Cx where
 prog := P
 w := w
 K := K
 mg := mg
 base := base
 A := A.deeper (envOfC qual scope s.heap.objs.size f cd)
 N := N
 s₀ := s
 H₀ := H
 env := envOfC qual scope s.heap.objs.size f cd
 outer := outer
 stack := envOfC qual scope s.heap.objs.size f cd :: outer
 ex := []
 calm := true
 fn := fun _ => true
 pn := []
 xe := fun e s' => wpAny (model P w) (A.deeper (envOfC qual scope s.heap.objs.size f cd)) (leaving (envOfC qual scope s.heap.objs.size f cd) e) (fun _ s'' => CX outer H s E e s'') (fun e' s'' => CX outer H s E e' s'') s'
theorem qcu {sc : Scope} {n : Nat} {x : Str} (h : sc.names.lookup x = some .cell) : ∃ c, (cellsFrom n sc.names []).lookup x = some c := by
 have q := PySem.W.cellsFrom_some sc.names n [] (.inl h)
 exact Option.isSome_iff_exists.mp q
theorem qdY {CX : CXT} {P : Program} {w : World} {K : PySem.W.Frag} {mg : Str -> Option Value} {base : Heap} {N ps : List Str} {qual : Str} {scope : Scope} {f : Addr} {cd : Value} {A : Around} {outer : List Env} {s s1 : Shared} {H : Hp} {E : XK} {us : List Value} {vs : List V}
  (S : qv N ps scope) (hd : A.handled = none) (e0 : qjp P w K mg base A outer s H) (hl : vs.length = ps.length) (r : qN vs us)
  (x : InCallC s s.heap.objs.size (bindL (envOfC qual scope s.heap.objs.size f cd).kindOf (ps.zip us) fun _ => none) (cellsFrom (s.heap.objs.size + 1) scope.names []) (bindC (envOfC qual scope s.heap.objs.size f cd).kindOf (ps.zip us) fun _ => none) s1) :
  Inv (qfu CX P w K mg base N qual scope f cd A outer s H E) [] (zx N vs) H s1 := by
 have hpl : ps.length <= N.length := by have := congrArg List.length S.pre; rw [List.length_take] at this; omega
 obtain ⟨h1, tk, rfl, hk⟩ := x.done
 have noA : ∀ b : Addr, b ∉ (qfu CX P w K mg base N qual scope f cd A outer s H E).ex := fun b z => absurd (show b ∈ ([] : List Addr) from z) (by simp)
 refine ⟨⟨e0.mod, S.kind, rfl, rfl, Nat.le_refl _, fun y z c h1 h2 => ?_, fun y hy => ?_, fun y c _ h => ?_, fun _ => hd, Around.frames_deeper e0.frames, .inr ⟨rfl, rfl⟩, fun b z => absurd z (noA b), e0.bs, e0.bsz, fun b _ _ => noA b, fun b z => absurd z (noA b), e0.funs, e0.frf⟩,
  rfl, e0.bare, Un.kept hk, ⟨_, x.toInCall.ns, fun i y v h1 h2 h3 => ?_⟩, fun y c h => ⟨_, x.cell y c h⟩, e0.hok.fresh (Nat.le_refl _), fun y c h => ?_, fun p hp => absurd (show p ∈ ([] : List (Addr × Obj)) from hp) (by simp), e0.hok.kept hk, ?_⟩
 ·exact name_of_addr x.apart (PySem.mem_of_lookup h1) (PySem.mem_of_lookup h2)
 ·have hy : scope.names.lookup y = some .cell \/ scope.names.lookup y = some .free := hy
  rcases hy with hy | hy
  ·exact qcu hy
  ·exact absurd rfl (S.nofree _ (PySem.mem_of_lookup hy))
 ·exact Nat.le_of_lt (x.above y c (PySem.mem_of_lookup h))
 ·have hi : i < vs.length := by
   unfold zx at h2
   by_cases hi : i < vs.length
   ·exact hi
   ·rw [List.getElem?_append_right (by simpa using hi)] at h2
    rw [List.getElem?_replicate] at h2
    split at h2 <;> cases h2
  have ha : vs[i]? = some v := by
   unfold zx at h2
   rw [List.getElem?_append_left (by simpa using hi), gM_] at h2
   cases e : vs[i]? with
   | none => rw [e] at h2; cases h2
   | some a => rw [e] at h2; cases h2; rfl
  obtain ⟨u, hu, rv⟩ := r.get ha
  have hp : ps[i]? = some y := by
   rw [<- S.pre, List.getElem?_take_of_lt (by omega)]; exact h1
  have ndP : ps.Nodup := by rw [<- S.pre]; exact S.nd.sublist (List.take_sublist _ _)
  refine ⟨u, rv, ?_⟩
  rcases S.par y (List.mem_of_getElem? hp) with k | k
  ·exact .inl ⟨k, qbg ndP hp hu k⟩
  ·obtain ⟨c, e⟩ := qcu (n := s.heap.objs.size + 1) k
   refine .inr ⟨.inl k, c, e, ?_⟩
   have q := x.cell y c e
   rw [qbh ndP hp hu (by show scope.names.lookup y ≠ _; rw [k]; decide)] at q
   exact q
 ·exact e0.hok.fresh (Nat.le_of_lt (x.above y c (PySem.mem_of_lookup h)))
 ·unfold zx
  show _ = N.length
  rw [lA_, lM_, List.length_replicate]
  omega
theorem qjs {CX : CXT} {P : Program} {w : World} {K : PySem.W.Frag} {mg : Str -> Option Value} {base : Heap} {k : Nat} {f : Addr} {name qual : Str} {params : Arguments} {body : List Stmt} {scope : Scope} {dV kV doc pm cdv ct oc : Value} {an od : Option Addr}
  {osl : Array (Option Value)} {N ps : List Str} {sp : Sp} (lk : K.lookup f = some ⟨oc, od, .func (PySem.W.fnOf name qual params body scope dV kV doc pm an cdv ct), osl⟩) (hcd : PySem.W.codeIn K cdv qual = true) (S : qv N ps scope)
  (len : ∀ vs H Q E, sp vs H Q E -> vs.length = ps.length)
  (hbody : ∀ (A : Around) (outer : List Env) (s : Shared) (H : Hp) (vs : List V) (Q : VK) (E : XK), yT k (A.deeper (envOfC qual scope s.heap.objs.size f cdv)) -> sp vs H Q E ->
   ∃ t, PSs (qfu CX P w K mg base N qual scope f cdv A outer s H E) body t /\ t { nx := fun _ H' => Q .non H', rt := Q } (zx N vs) H) :
  wS P w K mg base CX (k + 1) f (PySem.W.fnOf name qual params body scope dV kV doc pm an cdv ct) ps sp := by
 refine ⟨len, fun A outer s H args us vs Q E hr e0 hb r hsp => ?_⟩
 have hl := len _ _ _ _ hsp
 have KX : K.In s.heap := e0.mod.kin.keeps fun b o e => (e0.bs b o e).1
 have lim : s.heap.NoLimit := e0.mod.nolimit.keeps fun b o e => (e0.bs b o e).1
 have hkind : ∀ y ∈ ps.zip us, scope.names.lookup y.1 = some .local \/ (scope.names.lookup y.1 = some .cell /\ ((cellsFrom (s.heap.objs.size + 1) scope.names []).lookup y.1).isSome = true) := fun ⟨n, v⟩ hy => by
  rcases S.par n (List.of_mem_zip hy).1 with q | q
  ·exact .inl q
  ·exact .inr ⟨q, PySem.W.cellsFrom_some _ _ _ (.inl q)⟩
 refine codeAny_call_function hr.depth (KX _ _ lk) rfl S.co S.gen rfl (PySem.W.codeRec_of KX hcd) (hb _ _ _ _ ?_)
 refine wpAny_newFunctionEnv_cells S.kind hkind fun env he s1 x => ?_
 subst he
 refine ⟨lim.keeps x.toInCall.keep, codeAny_func ?_⟩
 obtain ⟨t, ht, hq⟩ := hbody A outer s H vs Q E (hr.deeper _) hsp
 have I : Inv (qfu CX P w K mg base N qual scope f cdv A outer s H E) [] (zx N vs) H s1 := qdY S hr.hd e0 hl r x
 refine wpAny_mono (ht [] s1 (zx N vs) H _ I hq) (fun fl s' hs => ?_) fun e s' hs => hs
 have fin : ∀ {Z' : St} {H' : Hp} {v : V} {u : Value}, Inv (qfu CX P w K mg base N qual scope f cdv A outer s H E) [] Z' H' s' -> jf v u -> Q v H' -> CE outer P w H s Q u s' :=
  fun {Z' H' v u} J rv q => ⟨v, H', J.os, J.bare, J.base, J.hok, rv, q⟩
 cases fl with
 | ret u =>
  obtain ⟨v, Z', H', J, rv, q⟩ := hs
  exact fin J rv q
 | next =>
  obtain ⟨Z', H', J, q⟩ := hs
  exact fin (v := V.non) (u := Value.none) J rfl q
 | brk =>
  obtain ⟨_, _, _, q⟩ := hs
  exact False.elim q
 | cont =>
  obtain ⟨_, _, _, q⟩ := hs
  exact False.elim q
end L2
namespace L2
open PySem PySem.Spec PyProof.Rows
section
variable {X : Cx} {x : Str} {p pos : Pos} {e : Expr} {es : List Expr} {t : TA} {id T : String} {r : List V -> Hp -> VK -> Prop}
def tCB (r : List V -> Hp -> VK -> Prop) (t : TA) : TE := fun Z H Q => t Z H fun vs H1 => r vs H1 Q
theorem qcv (hc : yC X (.builtin id) r) (hg : Gl X x) (hm : X.mg x = none) (hv : bootBuiltins x = some (.builtin id)) (ha : PA X (e :: es) t) (hn : x ≠ "__name__" := by decide) (hdb : (x == ("__debug__" : Str)) = false := by decide)
  (he : starEach (e :: es) X.env = (false, eval e X.env) :: starEach es X.env := by rfl) (hpl : (backTo pos (starEach es X.env)).any (·.1) = false := by rfl) : PE X (.Call (.Name x p) (e :: es) [] pos) (tCB r t) := by
 intro pins s Z H Q I h
 refine wpAny_Call_Name_kw (vP I hg hm hv ?_ hn hdb)
 exact PyProof.Rows.callWith_builtin1 (thn (ha pos pins s Z H _ I h) fun us s1 ⟨vs, H1, I1, r1, q1⟩ => hc pins s1 Z H1 vs us Q I1 r1 q1) he hpl
theorem qdZ (hc : yC X (.type T) r) (hg : Gl X x) (hm : X.mg x = none) (hv : bootBuiltins x = some (.type T)) (ha : PA X (e :: es) t) (hn : x ≠ "__name__" := by decide) (hdb : (x == ("__debug__" : Str)) = false := by decide)
  (he : starEach (e :: es) X.env = (false, eval e X.env) :: starEach es X.env := by rfl) (hpl : (backTo pos (starEach es X.env)).any (·.1) = false := by rfl) : PE X (.Call (.Name x p) (e :: es) [] pos) (tCB r t) := by
 intro pins s Z H Q I h
 refine wpAny_Call_Name_kw (vP I hg hm hv ?_ hn hdb)
 exact PyProof.Rows.callWith_type1 (thn (ha pos pins s Z H _ I h) fun us s1 ⟨vs, H1, I1, r1, q1⟩ => hc pins s1 Z H1 vs us Q I1 r1 q1) he hpl
end
end L2
namespace HT
open PySem PyProof.Rows
def lexLt : List Int -> List Int -> Bool
 | [], [] => false
 | [], _ :: _ => true
 | _ :: _, [] => false
 | x :: xs, y :: ys => if x = y then lexLt xs ys else decide (x < y)
section
open PySem.SeqAt
open PySem.AutoSeq1 (wpAny_loadPart')
open PySem.MeetsSeq PySem.MeetsSeq2 PySem.MeetsSeq3
end
section
variable {prog : Program} {w : World} {A : Around} {E : Value -> Shared -> Prop} {s : Shared}
theorem cat_tup {t b : Addr} {vs ws : List Value} {Q : Value -> Shared -> Prop} (ht : IsTup s.heap t vs.toArray) (hb : IsTup s.heap b ws.toArray) (hv : vs ≠ [])
  (h1 : ws = [] -> Q (.ref t) s) (h2 : ws ≠ [] -> Q (.ref s.heap.objs.size) { s with heap := s.heap.push { cls := .type "tuple", data := .seq (vs ++ ws).toArray } })
  (hsz : vs.length + ws.length <= sizeLine) : wpAny (model prog w) A (binaryOp .Add (.ref t) (.ref b)) Q E s := by
 obtain ⟨⟨cls, dd, data, sl⟩, ho, hc, n, hd⟩ := id ht
 obtain ⟨⟨cls2, dd2, data2, sl2⟩, ho2, hc2, n2, hd2⟩ := id hb
 simp only at hc hd hc2 hd2
 subst hc hd hc2 hd2
 have e : vs.toArray ++ ws.toArray = (vs ++ ws).toArray := by simp
 by_cases hw : ws = []
 ·exact concat_meets ⟨_, ho, rfl⟩ ⟨_, ho2, rfl⟩ noFill_tuple_add seq_tuple_add PySem.F.slot_tuple_add PySem.F.entry_tuple_add (PySem.F.args_tuple_add_2 _ _)
   (tuple_addW1 t b vs.toArray ws.toArray n n2 dd dd2 sl sl2 (by simpa using hv) (by simp [hw])) ⟨ho, ho2, h1 hw⟩
 ·refine concat_meets ⟨_, ho, rfl⟩ ⟨_, ho2, rfl⟩ noFill_tuple_add seq_tuple_add PySem.F.slot_tuple_add PySem.F.entry_tuple_add (PySem.F.args_tuple_add_2 _ _)
   (tuple_addW2 t b vs.toArray ws.toArray n n2 dd dd2 sl sl2 (by simpa using hv) (by simpa using hw) (by rw [sT_, sT_]; exact hsz)) ⟨ho, ho2, ?_⟩
  rw [e]
  exact h2 hw
def sIx (n d : Nat) : Option Int -> Nat
 | none => d
 | some v => if v < 0 then (v + (n : Int)).toNat else min v.toNat n
theorem sIx_none (n d : Nat) : sIx n d none = d := rfl
theorem sIx_nat (n d k : Nat) : sIx n d (some (k : Int)) = min k n := by
 show (if (k : Int) < 0 then ((k : Int) + (n : Int)).toNat else min (k : Int).toNat n) = min k n
 rw [if_neg (by omega), Int.toNat_natCast]
theorem qjt (n d : Nat) (hd : d <= n) (o : Option Int) : sIx n d o <= n := by
 cases o with
 | none => exact hd
 | some v =>
  show (if v < 0 then (v + (n : Int)).toNat else min v.toNat n) <= n
  by_cases hv : v < 0
  ·rw [if_pos hv]; omega
  ·rw [if_neg hv]; exact Nat.min_le_right _ _
theorem qd0 (v : Int) (n d : Nat) : (if v < 0 then max (v + (n : Int)) 0 else min v (n : Int)) = ((sIx n d (some v) : Nat) : Int) := by
 show (if v < 0 then max (v + (n : Int)) 0 else min v (n : Int)) = (((if v < 0 then (v + (n : Int)).toNat else min v.toNat n) : Nat) : Int)
 by_cases hv : v < 0
 ·simp only [if_pos hv]; omega
 ·simp only [if_neg hv]; omega
theorem qdh (lo hi : Option Int) (n : Nat) : Builtin.Slice.sliceAdjust lo hi 1 (n : Int) = (((sIx n 0 lo : Nat) : Int), ((sIx n n hi : Nat) : Int)) := by
 have h1 : ¬ ((1 : Int) < 0) := by omega
 unfold Builtin.Slice.sliceAdjust
 simp only [h1, if_false]
 refine Prod.ext ?_ ?_
 ·cases lo with
  | none => rfl
  | some v => exact qd0 v n 0
 ·cases hi with
  | none => rfl
  | some v => exact qd0 v n n
theorem qdi (i j : Nat) : Builtin.Slice.slicePlaces (i : Int) (j : Int) 1 = j - i := by
 unfold Builtin.Slice.slicePlaces
 have h1 : (1 : Int) > 0 := by omega
 simp only [h1, if_true, Int.ediv_one]
 split <;> omega
theorem qab {v : Value} {o : Option Int} {Q : Option Int -> Shared -> Prop} (p : IsPart v o) (h : Q o s) : wpAny (model prog w) A (Builtin.Slice.slicePartIndex v) Q E s := by
 cases p with
 | none => exact slicePart_none h
 | int i t => exact slicePart_int h
theorem sliceApplied_gen {sl : Addr} {vl vu : Value} {lo hi : Option Int} {n : Nat} {Q : Int × Int × Nat -> Shared -> Prop} (hs : s.heap.IsSliceOf sl vl vu .none) (pl : IsPart vl lo) (pu : IsPart vu hi)
  (h : Q (((sIx n 0 lo : Nat) : Int), 1, sIx n n hi - sIx n 0 lo) s) : wpAny (model prog w) A (Builtin.Slice.sliceApplied (.ref sl) (pure (n : Int))) Q E s := by
 obtain ⟨os, hos, hcs, hds⟩ := id hs
 unfold Builtin.Slice.sliceApplied Builtin.Slice.sliceFields
 refine wpAny_bind (wpAny_bind (wpAny_field hos hds (x := vl) rfl (wpAny_bind (wpAny_field hos hds (x := vu) rfl (wpAny_bind (wpAny_field hos hds (x := .none) rfl (wpAny_pure ?_)))))))
 refine wpAny_bind (slicePart_none ?_)
 show wpAny _ _ (if ((1 : Int) == 0) = true then _ else _) _ _ s
 rw [if_neg (by decide)]
 refine wpAny_bind (qab pl (wpAny_bind (qab pu (wpAny_bind (wpAny_pure ?_)))))
 show wpAny _ _ (match Builtin.Slice.sliceAdjust lo hi 1 (n : Int) with | (lo, hi) => pure (lo, (1 : Int), Builtin.Slice.slicePlaces lo hi 1)) _ _ s
 rw [qdh lo hi n]
 show wpAny _ _ (pure (((sIx n 0 lo : Nat) : Int), (1 : Int), Builtin.Slice.slicePlaces ((sIx n 0 lo : Nat) : Int) ((sIx n n hi : Nat) : Int) 1)) _ _ s
 rw [qdi]
 exact wpAny_pure h
theorem qfv (xs : Array Value) (i k : Nat) : ((List.range k).filterMap fun (m : Nat) => xs[((i : Int) + (m : Int) * 1).toNat]?).toArray = ((xs.toList.drop i).take k).toArray := by
 have e : (fun (m : Nat) => xs[((i : Int) + (m : Int) * 1).toNat]?) = fun m => xs[i + m]? := by
  funext m
  have : ((i : Int) + (m : Int) * 1).toNat = i + m := by omega
  rw [this]
 rw [e]
 have := pick_run xs i k
 rw [List.filterMap_map] at this
 have e2 : ((fun x => xs[x]?) ∘ fun x => i + x) = fun m => xs[i + m]? := rfl
 rw [e2] at this
 rw [this]
theorem getItem_tuple_cut {t sl : Addr} {items : Array Value} {vl vu : Value} {lo hi : Option Int} {Q : Value -> Shared -> Prop} (ht : IsTup s.heap t items) (hs : s.heap.IsSliceOf sl vl vu .none) (pl : IsPart vl lo) (pu : IsPart vu hi)
  (hw : ¬ (sIx items.size 0 lo = 0 /\ sIx items.size items.size hi = items.size))
  (h : Q (.ref s.heap.objs.size) { s with heap := s.heap.push { cls := .type "tuple", data := .seq ((items.toList.drop (sIx items.size 0 lo)).take (sIx items.size items.size hi - sIx items.size 0 lo)).toArray } })
  (hsz : items.size <= sizeLine) : wpAny (model prog w) A (getItem (.ref t) (.ref sl)) Q E s := by
 have htake : sizeOk (.seq ((items.toList.drop (sIx items.size 0 lo)).take (sIx items.size items.size hi - sIx items.size 0 lo)).toArray) := by
  show ((items.toList.drop (sIx items.size 0 lo)).take (sIx items.size items.size hi - sIx items.size 0 lo)).toArray.size <= sizeLine
  rw [sT_, List.length_take, List.length_drop, Array.length_toList]
  omega
 have hj : sIx items.size items.size hi <= items.size := qjt _ _ (Nat.le_refl _) hi
 obtain ⟨os, hos, hcs, hds⟩ := id hs
 have hTs : s.TypeIs (.ref sl) "slice" := ⟨os, hos, hcs⟩
 unfold getItem
 try with_reducible refine wpAny_holding ?_
 first | refine wpAny_bind (wpAny_pure ?_) | skip
 refine wpAny_bind (wpAny_sequenceKey ht.typeIs (by decide) ?_)
 refine wpAny_bind (wpAny_callSpecial?_slot (name := Str.ofString "__getitem__") ht.typeIs PyProof.Rows.slot_tuple_getitem
  (wpAny_call_entry PyProof.Rows.slot_tuple_getitem ht.typeIs entry_tuple_getitem ?_ (args_tuple_getitem _ _)))
 show wpAny _ _ (Builtin.Tuple.tupleItemsOf (.ref t) >>= _) _ _ s
 refine wpAny_bind (tupleItemsOf_ ht ?_)
 refine wpAny_bind (wpAny_typeOf hTs ?_)
 rw [if_pos (by decide)]
 refine wpAny_bind (sliceApplied_gen hs pl pu ?_)
 have hno : ¬ ((((sIx items.size 0 lo : Nat) : Int) == 0 && (1 : Int) == 1 && (sIx items.size items.size hi - sIx items.size 0 lo) == items.size) = true) := by
  intro q
  rw [Bool.and_eq_true, Bool.and_eq_true] at q
  have q1 : ((sIx items.size 0 lo : Nat) : Int) = 0 := eq_of_beq q.1.1
  have q2 : sIx items.size items.size hi - sIx items.size 0 lo = items.size := eq_of_beq q.2
  exact hw ⟨by omega, by omega⟩
 show wpAny _ _ (if (((sIx items.size 0 lo : Nat) : Int) == 0 && (1 : Int) == 1 && (sIx items.size items.size hi - sIx items.size 0 lo) == items.size) = true then _ else _) _ _ s
 rw [if_neg hno, qfv]
 first
  | exact wpAny_bind (m := Builtin.Tuple.tupleExact _) (wpAny_newObj_type (wpAny_pure ⟨_, rfl, wpAny_pure h⟩) htake)
  | exact wpAny_bind (m := Builtin.Tuple.tupleExact _) (wpAny_newObj_type (wpAny_bind (wpAny_pure (wpAny_pure ⟨_, rfl, wpAny_pure h⟩))) htake)
  | exact wpAny_bind (wpAny_bind (m := Builtin.Tuple.tupleExact _) (wpAny_newObj_type (wpAny_pure (wpAny_pure ⟨_, rfl, wpAny_pure h⟩)) htake))
  | exact wpAny_bind (wpAny_bind (m := Builtin.Tuple.tupleExact _) (wpAny_newObj_type (wpAny_pure ⟨_, rfl, wpAny_pure h⟩) htake))
end
end HT
namespace L2
open PySem PySem.Spec PyProof.Rows
abbrev TO := St -> Hp -> (Option Int -> Hp -> Prop) -> Prop
def PO (X : Cx) (e : Option Expr) (t : TO) : Prop :=
 ∀ (pins : List (Addr × Obj)) (s : Shared) (Z : St) (H : Hp) (Q : Option Int -> Hp -> Prop), Inv X pins Z H s -> t Z H Q ->
  wpAny (model X.prog X.w) X.A (evalPart e X.env) (fun u s' => ∃ o H', Inv X pins Z H' s' /\ IsPart u o /\ Q o H') X.xe s
def qhs : TO := fun _ H Q => Q none H
def qlc (t : TE) : TO := fun Z H Q => t Z H fun x H1 => ∃ i, x = .int i /\ Q (some i) H1
theorem qdj {ns : List Int} : ∀ {us : List Value}, qN (ns.map V.int) us -> IntsAre us ns := by
 induction ns with
 | nil => intro us r; rw [List.map_nil] at r; cases r; exact .nil
 | cons n ns ih =>
  intro us r
  rw [mC_] at r
  cases r with
  | cons r1 r2 =>
   obtain ⟨t, e⟩ := r1
   subst e
   exact .cons n t (ih r2)
section
variable {X : Cx} {e : Expr} {te : TE} {lo hi : Option Expr} {tl th : TO} {pos p2 : Pos}
theorem qht : PO X none qhs := by
 intro pins s Z H Q I h
 rw [evalPart_none]
 exact wpAny_pure ⟨none, H, I, .none, h⟩
theorem qhu (h : PE X e te) : PO X (some e) (qlc te) := by
 intro pins s Z H Q I hw
 rw [evalPart_some]
 refine thn (h pins s Z H _ I hw) fun u s1 ⟨x, H1, I1, r1, q1⟩ => ?_
 obtain ⟨i, rfl, q⟩ := q1
 obtain ⟨t, rfl⟩ := r1
 exact ⟨some i, H1, I1, .int i t, q⟩
def SlR (X : Cx) (r : V -> Option Int -> Option Int -> Hp -> VK -> Prop) : Prop :=
 ∀ (pins : List (Addr × Obj)) (s : Shared) (Z : St) (H : Hp) (x : V) (v vl vu : Value) (lo hi : Option Int) (sl : Addr) (Q : VK), Inv X pins Z H s -> jf x v -> s.heap.IsSliceOf sl vl vu .none -> IsPart vl lo -> IsPart vu hi -> r x lo hi H Q ->
  ∃ T id, typeLookup (.type T) "__getitem__" = pure (some (.builtin id)) /\ s.TypeIs v T /\ wpAny (model X.prog X.w) X.A (getItem v (.ref sl)) (EP X pins Z Q) X.xe s
theorem SlR.or {r r' : V -> Option Int -> Option Int -> Hp -> VK -> Prop} (h : SlR X r) (h' : SlR X r') : SlR X (fun x lo hi H Q => r x lo hi H Q \/ r' x lo hi H Q) := by
 intro pins s Z H x v vl vu lo hi sl Q I rx hs pl pu q
 rcases q with q | q
 ·exact h pins s Z H x v vl vu lo hi sl Q I rx hs pl pu q
 ·exact h' pins s Z H x v vl vu lo hi sl Q I rx hs pl pu q
def tSl (r : V -> Option Int -> Option Int -> Hp -> VK -> Prop) (te : TE) (tl th : TO) : TE := fun Z H Q => te Z H fun x H1 => tl Z H1 fun l H2 => th Z H2 fun u H3 => r x l u H3 Q
theorem qfw {r : V -> Option Int -> Option Int -> Hp -> VK -> Prop} (hr : SlR X r) (he : PE X e te) (hl : PO X lo tl) (hu : PO X hi th) : PE X (.Subscript e (.Slice lo hi none p2) pos) (tSl r te tl th) := by
 intro pins s Z H Q I h
 refine Subscript_ (thn (he pins s Z H _ I h) fun v s1 ⟨x, H1, I1, r1, q1⟩ => ?_)
 refine wpAny_Slice (thn (hl pins s1 Z H1 _ I1 q1) fun vl s2 ⟨l, H2, I2, pl, q2⟩ => thn (hu pins s2 Z H2 _ I2 q2) fun vu s3 ⟨u, H3, I3, pu, q3⟩ => ?_)
 rw [evalPart_none]
 refine wpAny_pure ?_
 have I4 : Inv X pins Z H3 { s3 with heap := s3.heap.push { cls := .type "slice", data := .fields #[vl, vu, .none] } } := I3.kept (t' := s3.toks) fun b ob q => Heap.get?_push_of_some _ q
 obtain ⟨T, id, hT, ht, hg⟩ := hr pins { s3 with heap := s3.heap.push { cls := .type "slice", data := .fields #[vl, vu, .none] } } Z H3 x v vl vu l u s3.heap.objs.size Q I4 r1 (Heap.IsSliceOf.new ..) pl pu q3
 show wpAny (model X.prog X.w) X.A (subscriptTail e (.Slice lo hi none p2) v (.ref s3.heap.objs.size)) (EP X pins Z Q) X.xe { s3 with heap := s3.heap.push { cls := .type "slice", data := .fields #[vl, vu, .none] } }
 exact tail_any (ops := [.ref s3.heap.objs.size, v]) ht hT hg (by with_unfolding_all rfl)
def qfj (xs : List V) (lo hi : Option Int) : List V := (xs.drop (HT.sIx xs.length 0 lo)).take (HT.sIx xs.length xs.length hi - HT.sIx xs.length 0 lo)
theorem vR (xs : List V) (lo hi : Option Int) : (qfj xs lo hi).length <= xs.length := by
 unfold qfj
 rw [List.length_take, List.length_drop]
 omega
def qlW (K : PySem.W.Frag) : V -> Option Int -> Option Int -> Hp -> VK -> Prop := fun x lo hi H Q => ∃ a xs, x = .ref a /\ SqT K H a xs /\
 ¬ (HT.sIx xs.length 0 lo = 0 /\ HT.sIx xs.length xs.length hi = xs.length) /\ ∀ p, H p = none -> Q (.ref p) (upd H p (.tup (qfj xs lo hi)))
theorem sl_tup : SlR X (qlW X.K) := by
 intro pins s Z H x v vl vu lo hi sl Q I rx hs pl pu h
 obtain ⟨a, xs, rfl, hx, hw, q⟩ := h
 cases rx
 obtain ⟨its, r, ht, hz⟩ := I.tuple hx
 have hlen : its.toArray.size = xs.length := by rw [sT_]; exact r.length.symm
 refine ⟨"tuple", _, PyProof.Rows.slot_tuple_getitem.lookup, ht.typeIs, ?_⟩
 refine HT.getItem_tuple_cut ht hs pl pu (by rw [hlen]; exact hw) ?_ (by rw [hlen]; exact hz)
 rw [hlen]
 refine ⟨.ref s.heap.objs.size, _, I.laid (t' := s.toks) (o := .tup (qfj xs lo hi)) (fun b ob q => Heap.get?_push_of_some _ q) (Nat.le_refl _) ?_, rfl, q _ (I.hok.fresh (Nat.le_refl _))⟩
 exact ⟨Nat.le_trans (vR xs lo hi) hz, _, (r.drop (HT.sIx xs.length 0 lo)).take (HT.sIx xs.length xs.length hi - HT.sIx xs.length 0 lo), IsTup.new _ _⟩
def qju (K : PySem.W.Frag) : R2 := fun x y H Q => ∃ a b xs ys, x = .ref a /\ y = .ref b /\ SqT K H a xs /\ SqT K H b ys /\ xs ≠ [] /\ xs.length + ys.length <= sizeLine /\
 (ys = [] -> Q (.ref a) H) /\ (ys ≠ [] -> ∀ p, H p = none -> Q (.ref p) (upd H p (.tup (xs ++ ys))))
theorem qN.nil_iff {xs : List V} {us : List Value} (r : qN xs us) : us = [] ↔ xs = [] := by
 cases r with
 | nil => simp
 | cons _ _ => simp
theorem qhv : OpR X (binaryOp .Add) (qju X.K) := by
 intro pins s Z H x y v u Q I rx ry h
 obtain ⟨a, b, xs, ys, rfl, rfl, ha, hb, hx, hz, q1, q2⟩ := h
 cases rx
 cases ry
 obtain ⟨its, r1, p1, _⟩ := I.tuple ha
 obtain ⟨its2, r2, p2, _⟩ := I.tuple hb
 refine HT.cat_tup p1 p2 (fun z => hx (r1.nil_iff.mp z)) (fun z => ⟨.ref a, H, I, rfl, q1 (r2.nil_iff.mp z)⟩) (fun z => ?_) (by rw [<- r1.length, <- r2.length]; exact hz)
 refine ⟨.ref s.heap.objs.size, _, I.laid (t' := s.toks) (o := .tup (xs ++ ys)) (fun b ob q => Heap.get?_push_of_some _ q) (Nat.le_refl _) ?_, rfl, q2 (fun w => z (r2.nil_iff.mpr w)) _ (I.hok.fresh (Nat.le_refl _))⟩
 exact ⟨by rw [lA_]; exact hz, _, r1.append r2, IsTup.new _ _⟩
end
end L2
namespace L2
open PySem PySem.Spec PyProof.Rows
def ixN (n : Nat) (i : Int) : Option Nat := if 0 <= i then (if i < n then some i.toNat else none) else if -(n : Int) <= i then some (i + n).toNat else none
def atI {α : Type} (xs : List α) (i : Int) : Option α := (ixN xs.length i).bind fun j => xs[j]?
theorem qd1 {n : Nat} {i : Int} {j : Nat} (h : ixN n i = some j) : seqIndex? i n = some j /\ j < n /\ -(n : Int) <= i /\ i < n := by
 unfold ixN at h
 by_cases h0 : 0 <= i
 ·rw [if_pos h0] at h
  by_cases h1 : i < n
  ·rw [if_pos h1] at h
   have e : i.toNat = j := Option.some.inj h
   exact ⟨by rw [seqIndex_of h0 h1, e], by omega, by omega, h1⟩
  ·rw [if_neg h1] at h; cases h
 ·rw [if_neg h0] at h
  by_cases h1 : -(n : Int) <= i
  ·rw [if_pos h1] at h
   have e : (i + n).toNat = j := Option.some.inj h
   exact ⟨by rw [seqIndex_neg (by omega) h1, e], by omega, h1, by omega⟩
  ·rw [if_neg h1] at h; cases h
theorem qd2 {α : Type} {xs : List α} {i : Int} {v : α} (h : atI xs i = some v) : ∃ j, seqIndex? i xs.length = some j /\ xs[j]? = some v /\ j < xs.length /\ -(xs.length : Int) <= i /\ i < xs.length := by
 unfold atI at h
 cases e : ixN xs.length i with
 | none => rw [e] at h; cases h
 | some j =>
  rw [e] at h
  obtain ⟨h1, h2, h3, h4⟩ := qd1 e
  exact ⟨j, h1, h, h2, h3, h4⟩
def qb0 (b : Expr) : Prop := ∀ o i, subscripted b false o i = operate [o, i] (getItem o i)
def IxR (X : Cx) (r : R2) : Prop :=
 ∀ (value slice : Expr) (pins : List (Addr × Obj)) (s : Shared) (Z : St) (H : Hp) (x y : V) (v u : Value) (Q : VK), Inv X pins Z H s -> jf x v -> jf y u -> r x y H Q ->
  subscripted slice false v u = operate [v, u] (getItem v u) -> wpAny (model X.prog X.w) X.A (subscriptTail value slice v u) (EP X pins Z Q) X.xe s
def MtR (X : Cx) (id : String) (r : V -> List V -> Hp -> VK -> Prop) : Prop :=
 ∀ (pins : List (Addr × Obj)) (s : Shared) (Z : St) (H : Hp) (x : V) (xs : List V) (v : Value) (us : List Value) (Q : VK), Inv X pins Z H s -> jf x v -> qN xs us -> r x xs H Q ->
  wpAny (model X.prog X.w) X.A (call (.builtin id) (v :: us)) (EP X pins Z Q) X.xe s
section
variable {X : Cx} {a b : Expr} {ta tb : TE} {pos : Pos}
theorem IxR.or {r r' : R2} (h : IxR X r) (h' : IxR X r') : IxR X (fun x y H Q => r x y H Q \/ r' x y H Q) := by
 intro value slice pins s Z H x y v u Q I rx ry q hs
 rcases q with q | q
 ·exact h value slice pins s Z H x y v u Q I rx ry q hs
 ·exact h' value slice pins s Z H x y v u Q I rx ry q hs
theorem MtR.or {id : String} {r r' : V -> List V -> Hp -> VK -> Prop} (h : MtR X id r) (h' : MtR X id r') : MtR X id (fun x xs H Q => r x xs H Q \/ r' x xs H Q) := by
 intro pins s Z H x xs v us Q I rx rs q
 rcases q with q | q
 ·exact h pins s Z H x xs v us Q I rx rs q
 ·exact h' pins s Z H x xs v us Q I rx rs q
theorem qjv {r : R2} (hr : IxR X r) (ha : PE X a ta) (hb : PE X b tb) (hs : qb0 b) : PE X (.Subscript a b pos) (tOp r ta tb) := by
 intro pins s Z H Q I h
 exact Subscript_ (qk4 ha hb I h fun v u s2 x y H2 I2 rx ry q => hr a b pins s2 Z H2 x y v u Q I2 rx ry q (hs _ _))
def qld (K : PySem.W.Frag) : R2 := fun x y H Q => ∃ p xs i v, x = .ref p /\ y = .int i /\ SqL K H p xs /\ atI xs i = some v /\ Q v H
def qle (K : PySem.W.Frag) : R2 := fun x y H Q => ∃ p xs i v, x = .ref p /\ y = .int i /\ SqT K H p xs /\ atI xs i = some v /\ Q v H
theorem qd3 : IxR X (qld X.K) := by
 intro value slice pins s Z H x y v u Q I rx ry h hs
 obtain ⟨p, xs, i, z, rfl, rfl, hq, he, q⟩ := h
 cases rx
 obtain ⟨t, rfl⟩ := ry
 obtain ⟨its, r, pl, hz⟩ := I.list hq
 obtain ⟨j, h1, h2, h3, h4, h5⟩ := qd2 he
 obtain ⟨w, ew, rw'⟩ := r.get h2
 have hl := r.length
 have hn := qbb
 have fin : EP X pins Z Q w s := ⟨z, H, I, rw', q⟩
 by_cases h0 : 0 <= i
 ·have hj : i.toNat = j := by
   rw [seqIndex_of h0 h5] at h1
   exact Option.some.inj h1
  exact item_listR pl.isList h0 (by omega) (by rw [hj]; simpa using ew) fin hs
 ·have hj : (i + (its.toArray.size : Int)).toNat = j := by
   rw [seqIndex_neg (by omega) h4] at h1
   rw [sT_, <- hl]
   exact Option.some.inj h1
  exact subscriptTail_builtinR (x := w) pl.isList.typeIs slot_list_getitem.lookup
   (wpAny_getItem_list_neg (Q := fun r s' => r = w /\ EP X pins Z Q r s') pl.isList (by omega) (by rw [sT_] <;> omega) (by omega) (by rw [hj]; simpa using ew) ⟨rfl, fin⟩) hs
theorem qjw : IxR X (qle X.K) := by
 intro value slice pins s Z H x y v u Q I rx ry h hs
 obtain ⟨p, xs, i, z, rfl, rfl, hq, he, q⟩ := h
 cases rx
 obtain ⟨t, rfl⟩ := ry
 obtain ⟨its, r, pl, hz⟩ := I.tuple hq
 obtain ⟨j, h1, h2, h3, h4, h5⟩ := qd2 he
 obtain ⟨w, ew, rw'⟩ := r.get h2
 have hl := r.length
 have hn := qbb
 have fin : EP X pins Z Q w s := ⟨z, H, I, rw', q⟩
 exact subscriptTail_builtinR (x := w) pl.typeIs slot_tuple_getitem.lookup
  (getItem_tuple (j := j) (Q := fun r s' => r = w /\ EP X pins Z Q r s') pl (by omega) (by omega) (by rw [sT_, <- hl]; exact h1) (by simpa using ew) ⟨rfl, fin⟩) hs
theorem qdk (its : List Value) (n j : Nat) (u : Value) : Obj.mapSeq (·.setIfInBounds j u) { cls := .type "list", data := .seq its.toArray n } = { cls := .type "list", data := .seq (its.set j u).toArray n } := by
 simp [Obj.mapSeq]
theorem Inv.lst {pins : List (Addr × Obj)} {Z : St} {H : Hp} {s : Shared} {p : Addr} {xs : List V} (I : Inv X pins Z H s) (h : H p = some (.lst xs)) :
  ∃ (its : List Value) (n : Nat), qN xs its /\ s.heap.get? p = some { cls := .type "list", data := .seq its.toArray n } /\ xs.length <= sizeLine := by
 obtain ⟨z, its, n, r, e⟩ := I.hok p _ h
 exact ⟨its, n, r, e, z⟩
theorem Inv.lstUpd {pins : List (Addr × Obj)} {Z : St} {H : Hp} {s : Shared} {p : Addr} {xs ys : List V} {its its' : List Value} {n n' : Nat} {f : Obj -> Obj} (I : Inv X pins Z H s) (h : H p = some (.lst xs))
  (ho : s.heap.get? p = some { cls := .type "list", data := .seq its.toArray n }) (hf : f { cls := .type "list", data := .seq its.toArray n } = { cls := .type "list", data := .seq its'.toArray n' }) (r : qN ys its') (hz : ys.length <= sizeLine) (t : Nat) :
  Inv X pins Z (upd H p (.lst ys)) { s with heap := s.heap.update p f, toks := t } := by
 have e : (s.heap.update p f).get? p = some { cls := .type "list", data := .seq its'.toArray n' } := by
  rw [Heap.get?_update_self f ho (by rw [hf] <;> rfl), hf]
 refine I.write (x := p) (e := p) (by rw [h]; trivial) (.inl rfl) (fun b u hb q => (Heap.get?_update_other _ _ (Ne.symm hb)).trans q) ⟨_, e⟩ ?_
 exact ⟨hz, its', n', r, e⟩
def qlf : V -> V -> V -> Hp -> (Hp -> Prop) -> Prop := fun o i v H Q => ∃ p xs k j, o = .ref p /\ i = .int k /\ H p = some (.lst xs) /\ ixN xs.length k = some j /\ Q (upd H p (.lst (xs.set j v)))
theorem qfx : qlR X qlf := by
 intro pins s Z H o i v ov iv u Q I ro ri rv h
 obtain ⟨p, xs, k, j, rfl, rfl, hp, hj, q⟩ := h
 cases ro
 obtain ⟨t, rfl⟩ := ri
 obtain ⟨its, n, r, ho, hz⟩ := I.lst hp
 obtain ⟨h1, h2, h3, h4⟩ := qd1 hj
 have hl := r.length
 have hn := qbb
 have I' : Inv X pins Z (upd H p (.lst (xs.set j v))) { s with heap := s.heap.update p (Obj.mapSeq (·.setIfInBounds j u)) } :=
  I.lstUpd hp ho (qdk its n j u) (r.set rv j) (by rw [lS_]; exact hz) s.toks
 by_cases h0 : 0 <= k
 ·have hk : k.toNat = j := by
   rw [seqIndex_of h0 h4] at h1
   exact Option.some.inj h1
  exact PySem.W.ki_setAt ho h0 (by omega) (by rw [sT_, <- hl]; exact h4) (by rw [hk]; exact ⟨_, I', q⟩)
 ·have hk : (k + (its.toArray.size : Int)).toNat = j := by
   rw [seqIndex_neg (by omega) h3] at h1
   rw [sT_, <- hl]
   exact Option.some.inj h1
  exact PySem.W.ki_setBack ho (by omega) (by rw [sT_, <- hl]; exact h3) (by omega) (by rw [hk]; exact ⟨_, I', q⟩)
theorem qbi (lo hi : Option Int) (n : Nat) : (sliceBounds lo hi none n).1 = ((HT.sIx n 0 lo : Nat) : Int) /\ (sliceBounds lo hi none n).2.1 = ((HT.sIx n n hi : Nat) : Int) /\ (sliceBounds lo hi none n).2.2 = 1 := by
 refine ⟨?_, ?_, rfl⟩
 ·cases lo with
  | none => simp [sliceBounds, HT.sIx]
  | some i =>
   simp only [sliceBounds, HT.sIx, Option.getD_none, show (1 : Int) > 0 by decide, if_true]
   by_cases h : i < 0
   ·simp only [h, if_true] <;> omega
   ·simp only [h, if_false] <;> omega
 ·cases hi with
  | none => simp [sliceBounds, HT.sIx]
  | some i =>
   simp only [sliceBounds, HT.sIx, Option.getD_none, show (1 : Int) > 0 by decide, if_true]
   by_cases h : i < 0
   ·simp only [h, if_true] <;> omega
   ·simp only [h, if_false] <;> omega
theorem qav (its : List Value) (lo hi : Option Int) : slicePick its.toArray lo hi none = ((its.drop (HT.sIx its.length 0 lo)).take (HT.sIx its.length its.length hi - HT.sIx its.length 0 lo)).toArray := by
 obtain ⟨h1, h2, h3⟩ := qbi lo hi its.toArray.size
 unfold slicePick
 rw [h1, h2, h3]
 simp only [sliceRange_one, pick_run, sT_] <;> rfl
def qmH (K : PySem.W.Frag) : V -> Option Int -> Option Int -> Hp -> VK -> Prop := fun x lo hi H Q => ∃ a xs, x = .ref a /\ SqL K H a xs /\ ∀ p, H p = none -> Q (.ref p) (upd H p (.lst (qfj xs lo hi)))
theorem qhw : SlR X (qmH X.K) := by
 intro pins s Z H x v vl vu lo hi sl Q I rx hs pl pu h
 obtain ⟨a, xs, rfl, hx, q⟩ := h
 cases rx
 obtain ⟨its, r, ht, hz⟩ := I.list hx
 have hlen := r.length
 refine ⟨"list", _, slot_list_getitem.lookup, ht.isList.typeIs, ?_⟩
 refine wpAny_getItem_list_slice ht.isList hs pl pu .none (by simp) ?_ (by rw [sT_] <;> omega)
 rw [qav, <- hlen]
 refine ⟨.ref s.heap.objs.size, _, I.laid (t' := s.toks) (o := .lst (qfj xs lo hi)) (fun b ob q => Heap.get?_push_of_some _ q) (Nat.le_refl _) ?_, rfl, q _ (I.hok.fresh (Nat.le_refl _))⟩
 exact ⟨Nat.le_trans (vR xs lo hi) hz, _, 0, (r.drop (HT.sIx xs.length 0 lo)).take (HT.sIx xs.length xs.length hi - HT.sIx xs.length 0 lo), Heap.get?_push_size _ rfl⟩
def qmI : V -> Bool
 | .non => true
 | .bl _ => true
 | .int _ => true
 | .str _ => true
 | _ => false
def eqV : V -> V -> Bool
 | .non, .non => true
 | .bl a, .bl b => a == b
 | .bl a, .int b => (if a then 1 else 0) == b
 | .int a, .bl b => a == (if b then 1 else 0)
 | .int a, .int b => a == b
 | .str a, .str b => a == b
 | _, _ => false
theorem qbj : yC X (.builtin "len") (fun xs H Q => ∃ p ys, xs = [.ref p] /\ (SqL X.K H p ys \/ SqT X.K H p ys) /\ Q (.int ys.length) H) := by
 intro pins s Z H xs us Q I r h
 obtain ⟨p, ys, rfl, hq, q⟩ := h
 obtain ⟨u, rfl, rx⟩ := qho r
 cases rx
 have hn := qbb
 rcases hq with hq | hq
 ·obtain ⟨its, r', pl, hz⟩ := I.list hq
  have hlen := r'.length
  exact Calls.call_len_list pl.isList (by simp only [sT_] <;> omega) ⟨.int ys.length, H, I.tok _, ⟨s.toks + 1, by rw [sT_, hlen]⟩, q⟩
 ·obtain ⟨its, r', pl, hz⟩ := I.tuple hq
  have hlen := r'.length
  exact len_tuple pl (by simp only [sT_] <;> omega) ⟨.int ys.length, H, I.tok _, ⟨s.toks + 1, by rw [sT_, hlen]⟩, q⟩
theorem qbk : yC X (.builtin "len") (fun xs H Q => ∃ z, xs = [.str z] /\ z.length <= sizeLine /\ Q (.int z.length) H) := by
 intro pins s Z H xs us Q I r h
 obtain ⟨z, rfl, hz, q⟩ := h
 obtain ⟨u, rfl, t, rfl⟩ := qho r
 have hn := qbb
 exact len_str (by omega) ⟨.int z.length, H, I.tok _, ⟨_, rfl⟩, q⟩
theorem yC.or {f : Value} {r r' : List V -> Hp -> VK -> Prop} (h : yC X f r) (h' : yC X f r') : yC X f (fun xs H Q => r xs H Q \/ r' xs H Q) := by
 intro pins s Z H xs us Q I rs q
 rcases q with q | q
 ·exact h pins s Z H xs us Q I rs q
 ·exact h' pins s Z H xs us Q I rs q
theorem qaw : yC X (.type "tuple") (fun xs H Q => ∃ p ys, xs = [.ref p] /\ ((SqL X.K H p ys /\ ∀ l, H l = none -> Q (.ref l) (upd H l (.tup ys))) \/ (SqT X.K H p ys /\ Q (.ref p) H))) := by
 intro pins s Z H xs us Q I r h
 obtain ⟨p, ys, rfl, h⟩ := h
 obtain ⟨u, rfl, rx⟩ := qho r
 cases rx
 rcases h with ⟨hq, q⟩ | ⟨hq, q⟩
 ·obtain ⟨its, r', pl, hz⟩ := I.list hq
  have hlen := r'.length
  refine call_tuple_list pl.isList (fun h' kp => ?_) (by simp only [sT_] <;> omega)
  have I1 : Inv X pins Z H { s with heap := h' } := I.kept (t' := s.toks) kp
  have I2 : Inv X pins Z (upd H h'.objs.size (.tup ys)) { s with heap := h'.push { cls := .type "tuple", data := .seq its.toArray } } :=
   I1.laid (t' := s.toks) (fun b o e => Heap.get?_push_of_some _ e) (Nat.le_refl _) (show jQ X.prog X.w _ _ _ (.tup ys) from ⟨hz, its, r', IsTup.new _ _⟩)
  exact ⟨.ref h'.objs.size, _, I2, rfl, q _ (I1.hok.fresh (Nat.le_refl _))⟩
 ·obtain ⟨its, r', pl, hz⟩ := I.tuple hq
  exact call_tuple_same pl ⟨.ref p, H, I, rfl, q⟩
def tyV (K : PySem.W.Frag) (T : String) (x : V) (H : Hp) : Prop := match x with
 | .str _ => T = "str"
 | .int _ => T = "int"
 | .ref p => (T = "list" /\ ∃ xs, SqL K H p xs) \/ (T = "tuple" /\ ∃ o, K.lookup p = some o /\ o.cls = .type "tuple" /\ o.dict = none) \/
   (T = "dict" /\ ((∃ kvs, H p = some (.dK kvs)) \/ ∃ kvs, H p = some (.dT kvs))) \/ (T = "set" /\ ∃ S n, H p = some (.set S n))
 | _ => False
theorem qjx {pins : List (Addr × Obj)} {Z : St} {H : Hp} {s : Shared} {T : String} {x : V} {v : Value} (I : Inv X pins Z H s) (r : jf x v) (ty : tyV X.K T x H) :
  s.TypeIs v T /\ ∀ a, v = .ref a -> ∃ ob, s.heap.get? a = some ob /\ ob.dict = none := by
 cases x with
 | str z =>
  obtain ⟨t, rfl⟩ := r
  cases (show T = "str" from ty)
  exact ⟨typeIs_str s z t, fun _ e => nomatch e⟩
 | int i =>
  obtain ⟨t, rfl⟩ := r
  cases (show T = "int" from ty)
  exact ⟨typeIs_int s i t, fun _ e => nomatch e⟩
 | ref p =>
  cases r
  rcases ty with ⟨rfl, xs, hq⟩ | ⟨rfl, o, hk, hc, hd⟩ | ⟨rfl, hk⟩ | ⟨rfl, S, n, hk⟩
  ·obtain ⟨its, _, pl, _⟩ := I.list hq
   refine ⟨pl.isList.typeIs, fun a e => ?_⟩
   cases e
   obtain ⟨o, n, e, c, hd, _⟩ := pl
   exact ⟨o, e, hd⟩
  ·refine ⟨⟨o, I.kIn p o hk, hc⟩, fun a e => ?_⟩
   cases e
   exact ⟨o, I.kIn _ o hk, hd⟩
  ·have z : ∃ o, s.heap.get? p = some o /\ o.ExactDict := by
    rcases hk with ⟨kvs, hk⟩ | ⟨kvs, hk⟩
    ·obtain ⟨_, _, _, _, o, _, _, e, ex, _⟩ := I.hok p _ hk
     exact ⟨o, e, ex⟩
    ·obtain ⟨_, _, _, _, o, _, _, e, ex, _⟩ := I.hok p _ hk
     exact ⟨o, e, ex⟩
   obtain ⟨o, e, ex⟩ := z
   refine ⟨⟨o, e, ex.1⟩, fun a e2 => ?_⟩
   cases e2
   exact ⟨o, e, ex.2.1⟩
  ·obtain ⟨o, _, _, _, e, ex, _⟩ := I.hok p _ hk
   refine ⟨⟨o, e, ex.1⟩, fun a e2 => ?_⟩
   cases e2
   exact ⟨o, e, ex.2.1⟩
 | _ => exact False.elim ty
def tBM (K : PySem.W.Frag) (T : String) (r : V -> List V -> Hp -> VK -> Prop) (to : TE) (t : TA) : TE := fun Z H Q => to Z H fun x H1 => tyV K T x H1 /\ t Z H1 fun xs H2 => r x xs H2 Q
variable {o e : Expr} {es : List Expr} {to : TE} {t : TA} {name : Str} {apos cpos : Pos} {T id : String} {r : V -> List V -> Hp -> VK -> Prop}
theorem qlg (pa : PlainAttrs T) (slot : Slot T name id) (hty : typeOf (.builtin id) = pure (.type "method_descriptor")) (hm : MtR X id r) (ho : PE X o to) (ha : PA X (e :: es) t)
  (hbase : attributeBase o name X.env (eval o X.env) = eval o X.env := by rfl)
  (hfew : ((backTo cpos (starEach (e :: es) X.env)).all (fun x => !x.1) && (backToKw cpos (keywordEach [] X.env)).all (fun x => x.1.isSome)
   && decide ((e :: es).length + ([] : List Keyword).length + (if ([] : List Keyword).isEmpty then 0 else 1) < 30)) = true := by rfl)
  (hline : (apos.endLine == cpos.line) = true := by rfl) (hs : starEach (e :: es) X.env = (false, eval e X.env) :: starEach es X.env := by rfl) (hplain : (backTo cpos (starEach es X.env)).any (·.1) = false := by rfl) :
  PE X (.Call (.Attribute o name apos) (e :: es) [] cpos) (tBM X.K T r to t) := by
 intro pins s Z H Q I h
 refine wpAny_Call_method_late hbase hfew hline rfl (thn (ho pins s Z H _ I h) fun v s1 ⟨x, H1, I1, r1, ty, q1⟩ => ?_)
 obtain ⟨h1, h2⟩ := qjx I1 r1 ty
 refine ⟨T, id, pa, slot, hty, h1, h2, ?_⟩
 have hA := ha cpos pins s1 Z H1 _ I1 q1
 rw [hs] at hA |-
 refine Calls.callWith_builtin (by show (false || (backTo cpos (starEach es X.env)).any (·.1)) = false; rw [hplain] <;> rfl) (Calls.evalArgs_plain ?_)
 exact thn hA fun us s2 ⟨vs, H2, I2, r2, q2⟩ => hm pins s2 Z H2 x vs v us Q I2 r1 r2 q2
/- xs.append(e), list.index on a module's tuple .. are MtR facts of 06m -/
end
end L2
namespace L2
open PySem PySem.Spec PyProof.Rows
def MtM (X : Cx) (id : String) (r : V -> List V -> Hp -> VK -> Prop) : Prop :=
 ∀ (pins : List (Addr × Obj)) (s : Shared) (Z : St) (H : Hp) (x : V) (xs : List V) (v : Value) (us : List Value) (Q : VK), Inv X pins Z H s -> jf x v -> qN xs us -> r x xs H Q ->
  wpAny (model X.prog X.w) X.A (call (.builtin id) (v :: us)) (EP X pins Z Q) X.xe s
theorem qN.one : ∀ {x : V} {us : List Value}, qN [x] us -> ∃ u, us = [u] /\ jf x u
 | _, _, .cons r .nil => ⟨_, rfl, r⟩
theorem qN.two : ∀ {x y : V} {us : List Value}, qN [x, y] us -> ∃ u v, us = [u, v] /\ jf x u /\ jf y v
 | _, _, _, .cons r (.cons q .nil) => ⟨_, _, rfl, r, q⟩
theorem qN.eraseIdx : ∀ {xs : List V} {us : List Value} (i : Nat), qN xs us -> qN (xs.eraseIdx i) (us.eraseIdx i)
 | _, _, _, .nil => .nil
 | _, _, 0, .cons _ t => t
 | _, _, i + 1, .cons r t => .cons r (qN.eraseIdx i t)
theorem qN.reverse {xs : List V} {us : List Value} (h : qN xs us) : qN xs.reverse us.reverse := by
 induction h with
 | nil => exact .nil
 | cons r t ih => rw [List.reverse_cons, List.reverse_cons]; exact qN.append ih (.cons r .nil)
theorem qN.rep {xs : List V} {us : List Value} (h : qN xs us) : ∀ k : Nat, qN (List.replicate k xs).flatten (List.replicate k us).flatten
 | 0 => .nil
 | k + 1 => by
  rw [rS_, rS_, List.flatten_cons, List.flatten_cons]
  exact qN.append h (qN.rep h k)
theorem vS (its : List Value) : ∀ (k : Nat) (acc : List Value),
  List.foldl (fun x1 x2 => x1 ++ x2) acc.toArray (List.replicate k its.toArray) = (acc ++ (List.replicate k its).flatten).toArray
 | 0, acc => by simp
 | k + 1, acc => by
  have e : acc.toArray ++ its.toArray = (acc ++ its).toArray := by simp
  have e2 : (acc ++ its) ++ (List.replicate k its).flatten = acc ++ (List.replicate (k + 1) its).flatten := by
   rw [rS_, List.flatten_cons, aA_]
  rw [<- e2, <- vS its k (acc ++ its), <- e, rS_, fo_]
section
variable {X : Cx} {pins : List (Addr × Obj)} {Z : St} {H : Hp} {s : Shared} {l b : Addr} {xs ys zs : List V}
theorem Inv.lset {its its' : List Value} {n : Nat} {f : Array Value -> Array Value} {t' : Nat} (I : Inv X pins Z H s) (hH : H l = some (.lst xs))
  (e : s.heap.get? l = some { cls := .type "list", data := .seq its.toArray n }) (hf : f its.toArray = its'.toArray) (hv : qN ys its') (hz : ys.length <= sizeLine) :
  Inv X pins Z (upd H l (.lst ys)) { s with heap := s.heap.update l (Obj.mapSeq f), toks := t' } := by
 have q := PySem.IsL.update e f
 rw [hf] at q
 refine I.write (x := l) (e := l) (by rw [hH]; exact trivial) (.inl rfl) (fun b' u hb hu => (Heap.get?_update_other s.heap (Obj.mapSeq f) (Ne.symm hb)).trans hu) ⟨_, q⟩ ?_
 exact ⟨hz, its', _, hv, q⟩
theorem Inv.lnew {its : List Value} {t' : Nat} (I : Inv X pins Z H s) (hv : qN ys its) (hz : ys.length <= sizeLine) :
  Inv X pins Z (upd H s.heap.objs.size (.lst ys)) { s with heap := s.heap.push { cls := .type "list", data := .seq its.toArray }, toks := t' } :=
 I.laid (fun _ _ q => Heap.get?_push_of_some _ q) (Nat.le_refl _) ⟨hz, its, 0, hv, Heap.get?_push_size _ rfl⟩
theorem Inv.fresh (I : Inv X pins Z H s) : H s.heap.objs.size = none := I.hok.fresh (Nat.le_refl _)
theorem Inv.lstM (I : Inv X pins Z H s) (hH : H l = some (.lst xs)) : xs.length <= sizeLine /\ ∃ (its : List Value) (n : Nat), qN xs its /\ xs.length = its.length /\ s.heap.get? l = some { cls := .type "list", data := .seq its.toArray n } := by
 obtain ⟨z, its, n, r, e⟩ := I.hok l _ hH
 exact ⟨z, its, n, r, r.length, e⟩
theorem qcw {n : Nat} (h : n <= sizeLine) : Builtin.List.listTooLong n = false := by
 unfold Builtin.List.listTooLong
 exact decide_eq_false (by omega)
end
section
variable {X : Cx}
def qhx : V -> List V -> Hp -> VK -> Prop := fun x vs H Q => ∃ l xs y, x = .ref l /\ vs = [y] /\ H l = some (.lst xs) /\ xs.length < sizeLine /\ Q .non (upd H l (.lst (xs ++ [y])))
theorem vT : MtM X "list.append" qhx := by
 intro pins s Z H x vs v us Q I rx rv h
 obtain ⟨l, xs, y, rfl, rfl, hH, hz, q⟩ := h
 cases rx
 obtain ⟨u, rfl, ru⟩ := rv.one
 obtain ⟨z, its, n, r, hl, e⟩ := I.lstM hH
 refine call_meets F.slot_list_append ⟨_, e, rfl⟩ F.entry_list_append (F.args_list_append_2 _ _) (PySem.list_append l its.toArray n u (by rw [sT_]; omega)) ⟨e, ?_⟩
 refine ⟨.non, _, I.lset (its' := its ++ [u]) hH e (by simp) (r.append (.cons ru .nil)) ?_, rfl, q⟩
 rw [lA_, List.length_singleton]
 omega
def qhy : V -> List V -> Hp -> VK -> Prop := fun x vs H Q => ∃ l b xs zs, x = .ref l /\ vs = [.ref b] /\ H l = some (.lst xs) /\ H b = some (.lst zs) /\ xs.length + zs.length <= sizeLine /\ Q .non (upd H l (.lst (xs ++ zs)))
theorem qjy : MtM X "list.extend" qhy := by
 intro pins s Z H x vs v us Q I rx rv h
 obtain ⟨l, b, xs, zs, rfl, rfl, hH, hB, hz, q⟩ := h
 cases rx
 obtain ⟨u, rfl, ru⟩ := rv.one
 cases ru
 obtain ⟨z, its, n, r, hl, e⟩ := I.lstM hH
 obtain ⟨z2, its2, n2, r2, hl2, e2⟩ := I.lstM hB
 have hsz : its.toArray.size + its2.toArray.size <= sizeLine := by rw [sT_, sT_]; omega
 have hlong : ¬ (!its.toArray.isEmpty && Builtin.List.listTooLong (its.toArray.size + its2.toArray.size)) = true := by
  rw [qcw hsz, Bool.and_false]
  exact Bool.false_ne_true
 refine call_meets F.slot_list_extend ⟨_, e, rfl⟩ F.entry_list_extend (F.args_list_extend_2 _ _)
  (AutoSeq1.list_extend_list_list_0 l its.toArray n b its2.toArray n2 hlong (by rw [sT_]; omega) (by omega)) ⟨e, e2, ?_⟩
 refine ⟨.non, _, I.lset (its' := its ++ its2) hH e (by simp) (r.append r2) ?_, rfl, q⟩
 rw [lA_]
 omega
def qlX : R2 := fun x y H Q => ∃ l b xs zs, x = .ref l /\ y = .ref b /\ H l = some (.lst xs) /\ H b = some (.lst zs) /\ xs.length + zs.length <= sizeLine /\ ∀ p, H p = none -> Q (.ref p) (upd H p (.lst (xs ++ zs)))
theorem qjz : OpR X (binaryOp .Add) qlX := by
 intro pins s Z H x y v u Q I rx ry h
 obtain ⟨l, b, xs, zs, rfl, rfl, hH, hB, hz, q⟩ := h
 cases rx
 cases ry
 obtain ⟨z, its, n, r, hl, e⟩ := I.lstM hH
 obtain ⟨z2, its2, n2, r2, hl2, e2⟩ := I.lstM hB
 refine PySem.P.add_list e e2 ?_ (by rw [sT_, sT_]; omega)
 have ea : its.toArray ++ its2.toArray = (its ++ its2).toArray := by simp
 rw [ea]
 exact ⟨.ref _, _, I.lnew (t' := s.toks) (r.append r2) (by rw [lA_]; omega), rfl, q _ I.fresh⟩
def qlY : R2 := fun x y H Q => ∃ l k xs, x = .ref l /\ y = .int k /\ H l = some (.lst xs) /\ -(2 ^ 63) <= k /\ k < 2 ^ 63 /\ xs.length * k.toNat <= sizeLine /\
 ∀ p, H p = none -> Q (.ref p) (upd H p (.lst (List.replicate k.toNat xs).flatten))
theorem qb1 {α : Type} (xs : List α) (k : Nat) : (List.replicate k xs).flatten.length = k * xs.length := by
 induction k with
 | zero => simp
 | succ k ih => rw [rS_, List.flatten_cons, lA_, ih, Nat.succ_mul, Nat.add_comm]
theorem qgu : OpR X (binaryOp .Mult) qlY := by
 intro pins s Z H x y v u Q I rx ry h
 obtain ⟨l, k, xs, rfl, rfl, hH, h1, h2, hz, q⟩ := h
 cases rx
 obtain ⟨t, rfl⟩ := ry
 obtain ⟨z, its, n, r, hl, e⟩ := I.lstM hH
 have hlen : its.toArray.size * k.toNat <= sizeLine := by rw [sT_, <- hl]; exact hz
 have hcap : ¬ its.toArray.size * k.toNat > (2 ^ 63 - 1) / 8 := by
  have : (sizeLine : Nat) <= (2 ^ 63 - 1) / 8 := by decide
  omega
 have hfit : ¬ (!Builtin.List.listFitsIndex k) = true := by
  rw [fitsIndex_both h1 h2]
  exact Bool.false_ne_true
 have hlong : ¬ Builtin.List.listTooLong (its.toArray.size * k.toNat) = true := by
  rw [qcw hlen]
  exact Bool.false_ne_true
 have hnew : List.foldl (fun x1 x2 => x1 ++ x2) #[] (List.replicate (if its.toArray.isEmpty = true then 0 else k.toNat) its.toArray) = (List.replicate k.toNat its).flatten.toArray := by
  have f0 : ∀ m : Nat, List.foldl (fun x1 x2 => x1 ++ x2) #[] (List.replicate m its.toArray) = (List.replicate m its).flatten.toArray := fun m => by
   have := vS its m []
   rw [List.nil_append] at this
   exact this
  rw [f0]
  cases its with
  | nil => simp
  | cons a r' => rw [if_neg (by simp)]
 refine wpAny_binaryOp_repeat_ref (T := "list") (U := "int") (by decide) ⟨_, e, rfl⟩ (fun s' => typeIs_int s' k t) noFill_list_mul F.fills_int_mul F.slot_int_rmul repeat_list F.slot_int_index.lookup
  (call_meets F.slot_int_rmul (typeIs_int s k t) F.entry_int_rmul (F.args_int_rmul_2 _ _) (int___rmul___int_list k t l its.toArray n)
   ⟨e, rfl, ⟨_, e, rfl⟩, call_meets F.slot_list_mul ⟨_, e, rfl⟩ F.entry_list_mul (F.args_list_mul_2 _ _) (AutoListH.list___mul___list_int_3 l its.toArray n k t hfit hcap hlong) ⟨e, ?_⟩⟩)
 rw [hnew]
 exact ⟨.ref _, _, I.lnew (t' := s.toks) (r.rep k.toNat) (by rw [qb1, Nat.mul_comm]; exact hz), rfl, q _ I.fresh⟩
end
section
variable {prog : Program} {w : World} {A : Around} {E : Value -> Shared -> Prop} {s : Shared}
set_option maxRecDepth 100000 in
end
section
variable {X : Cx}
end
end L2
namespace Att
open PySem PySem.W PySem.Calls PyProof.Rows
theorem vU {P : Params} {h : Heap} : ∀ (ns : List Int) (vs : List Value), WellAll P h vs (ns.map WData.int) -> IntsAre vs ns := by
 intro ns
 induction ns with
 | nil =>
  intro vs w
  rw [List.map_nil] at w
  cases w
  exact .nil
 | cons n ns ih =>
  intro vs w
  rw [mC_] at w
  cases w with
  | cons a b =>
   cases a
   exact .cons _ _ (ih _ b)
theorem qd4 {l : OpenLaw} {n : Nat} (hn : l.most = some n) {P : Params} {h : Heap} {args : List WData} {vals : List Value}
  (hpre : l.row.toRowW.claim.pre args = true) (hwl : WellAll P h vals args) :
  ∃ a vs ns, vals = [Value.ref a] /\ args = [WData.list (ns.map WData.int)] /\ h.get? a = some { cls := .type "list", data := .seq vs.toArray } /\ IntsAre vs ns /\ ns.length <= n := by
 have hsh : WShape.hasAll [] args [.list .int] = true := (pre_splitW hpre).1
 have hc : l.pre.holds [] { args := args } = true := (pre_splitW hpre).2
 obtain ⟨d, r, rfl, h1, h2⟩ := hasAllW_cons hsh
 obtain rfl := hasAllW_nil h2
 obtain ⟨xs, rfl, h3⟩ := hasW_list h1
 obtain ⟨ns, rfl⟩ := items_int h3
 have hlen : ns.length <= n := by
  unfold OpenLaw.pre at hc
  have h4 : (WTm.not (.lt (.lit (.int (n : Int))) (.len (.arg 0)))).holds [] { args := [.list (ns.map .int)] } = true := by
   have h4 := (holds_andW hc).1
   rw [hn] at h4
   exact h4
  have h5 := condW_of h4 (w_not (w_lt w_lit (w_len_list (w_arg rfl))))
  rw [lM_] at h5
  refine Nat.le_of_not_lt fun q => ?_
  have q' : (n : Int) < ((ns.length : Nat) : Int) := by omega
  first
   | (rw [decide_eq_true q'] at h5; exact absurd h5 (by decide))
   | (simp at h5; omega)
 cases hwl with
 | cons w1 w2 =>
  cases w2
  cases w1 with
  | list ho hall => exact ⟨_, _, ns, rfl, rfl, ho, vU ns _ hall, hlen⟩
theorem qd5 (l : OpenLaw) (args : List WData) : l.row.toRowW.claim.post args (.bool true) args = true :=
 postW_of (r := l.row.toRowW) (X := (true == true))
  (show WShape.has [] (.bool true) .bool = true by first | rfl | decide | simp [WShape.has, WShape.arms, WShape.armsAll])
  (show (WTm.eq .res (.lit (.bool true))).value [] { args := args, res := some (.bool true), after := args } = some (.bool (true == true)) from w_eq_bool (w_res rfl) w_lit) rfl
theorem attach_call {l : OpenLaw} {n : Nat} {q : Program} {loose : List Str} {XP : (Str -> Option Value) -> Heap -> Prop} {YP : World -> Heap -> Prop} {d : DefRec}
  (hn : l.most = some n) (hdf : d.params.defaults = [])
  (call : ∀ (w : World) (s₀ s₁ : Shared) (mg mb : Str -> Option Value) (fa : Addr) (o : Obj) (pm cd doc : Value) (a : Addr) (vs : List Value) (ns : List Int),
   Ground q loose [] XP w s₀ mg mb s₁.heap -> YP w s₁.heap ->
   s₁.heap.get? fa = some o -> o.data = .func (docDef d.name d.params d.body d.scope pm cd doc) -> s₁.heap.CodeRec cd d.name -> mg d.name = some (.ref fa) ->
   s₁.heap.get? a = some { cls := .type "list", data := .seq vs.toArray } -> IntsAre vs ns -> ns.length <= n -> s₁.gens = #[] ->
   codeAny (model l.prog w) callerA (.call (.ref fa) ⟨[.ref a], []⟩) (fun r s' => r = .ok (.ret (.bool true)) /\ OldK s₁.heap s'.heap /\ s'.os = s₁.os /\ AllBare s'.gens) s₁) :
  WalkO q loose XP YP l.row.toRowW d [] (fun f vs => PySem.call f vs) := by
 intro w s₀ s₁ mg mb G Y fa o pm cd doc dV kV ho hd hcd hD hmg hg args vals as hpre hlay hrd hwl hlo
 obtain rfl : dV = .none := Dflts.none hD hdf
 obtain rfl : kV = .none := Dflts.noKw hD
 obtain ⟨a, vs, ns, rfl, rfl, hobj, hints, hlen⟩ := qd4 hn hpre hwl
 refine enter_call (codeAny_mono (call w s₀ s₁ mg mb fa o pm cd doc a vs ns G Y ho (fd_plain hd) hcd hmg hobj hints hlen hg) fun r s' hq => ?_)
 obtain ⟨rfl, h2, h3, h4⟩ := hq
 exact ⟨.inl ⟨.bool true, .bool true, [], rfl, fun _ => rfl, .bool true, qd5 l _, fun _ => ⟨List.Pairwise.nil, fun _ hm => (nomatch hm)⟩⟩, h2, h3, h4⟩
section
variable {prog : Program} {w : World} {A : Around} {E : Value -> Shared -> Prop} {s : Shared} {K : Frag}
end
end Att
namespace L2
open PySem PySem.Spec PyProof.Rows
theorem qbl : ∀ {vs : List Value} {ns : List Int}, IntsAre vs ns -> qN (ns.map V.int) vs
 | _, _, .nil => .nil
 | _, _, .cons n t h => .cons ⟨t, rfl⟩ (qbl h)
def qkI (H : Hp) : Prop := ∀ b, H b = none \/ (∃ o xs, H b = some (.frz o (.lst xs))) \/ ∃ pos q, H b = some (.lam pos q)
def qkJ : Option (Addr × Addr × Pos × Str) -> Hp
 | some (_, Pt, pos, q) => fun b => if b = Pt then some (.lam pos q) else none
 | none => fun _ => none
theorem qfy {P : Program} {w : World} {K : PySem.W.Frag} {mg mb : Str -> Option Value} {CX : CXT} {k : Nat} {fa a : Addr} {fd : FuncData} {x : Str} {sp : Sp} {s₁ : Shared} {vs : List Value} {ns : List Int} {lm : Option (Addr × Addr × Pos × Str)}
  (KX : K.In s₁.heap) (hns : s₁.heap.Ns mainGlobals mg) (hb : s₁.heap.Ns builtinsNs mb) (hbb : ∀ x : Str, x ≠ "__name__" -> mb x = bootBuiltins x) (hlim : s₁.heap.NoLimit)
  (hbm : ∃ bm ob, mg "__builtins__" = some (.ref bm) /\ bm ≠ builtinsNs /\ s₁.heap.get? bm = some ob /\ ob.cls = .type "module" /\ ob.dict = some builtinsNs /\ ob.data = .plain)
  (hlm : ∀ c Pt pos q, lm = some (c, Pt, pos, q) -> PySem.W.CodeHd s₁.heap c Pt /\ s₁.heap.get? Pt = some (PySem.W.tabObj #[]) /\ K.lookup Pt = none)
  (hg : s₁.gens = #[])
  (ha : s₁.heap.get? a = some { cls := .type "list", data := .seq vs.toArray }) (hi : IntsAre vs ns) (hl : ns.length <= sizeLine) (hr : yT k callerA)
  (F : ∀ base : Heap, K.In base -> base.Ns mainGlobals mg -> wS P w K mg base CX k fa fd [x] sp) (hbind : ∀ (s : Shared) (u : Value), BindsTo s fd ⟨[u], []⟩ [(x, u)])
  (hsp : ∀ H : Hp, qkI H -> (∀ c Pt pos q, lm = some (c, Pt, pos, q) -> H Pt = some (.lam pos q)) -> SqL K H a (ns.map V.int) -> sp [.ref a] H (fun v _ => v = .bl true) fun _ _ _ => False)
  (hCX : ∀ H e s', CX [] H s₁ (fun _ _ _ => False) e s' -> False) :
  codeAny (model P w) callerA (.call (.ref fa) ⟨[.ref a], []⟩) (fun r s' => r = .ok (.ret (.bool true)) /\ OldK s₁.heap s'.heap /\ s'.os = s₁.os /\ AllBare s'.gens) s₁ := by
 have rv := qbl hi
 have lenV := hi.length
 have core : ∀ H : Hp, qkI H -> (∀ c Pt pos q, lm = some (c, Pt, pos, q) -> H Pt = some (.lam pos q)) -> SqL K H a (ns.map V.int) -> HOk P w H s₁.heap ->
   (∀ b u, H b = some u -> K.lookup b = none /\ ((∃ o xs, u = .frz o (.lst xs)) \/ ∃ c pos q, lm = some (c, b, pos, q) /\ u = .lam pos q)) ->
   codeAny (model P w) callerA (.call (.ref fa) ⟨[.ref a], []⟩) (fun r s' => r = .ok (.ret (.bool true)) /\ OldK s₁.heap s'.heap /\ s'.os = s₁.os /\ AllBare s'.gens) s₁ := by
  intro H hO hT hS hok hA
  have base_of : ∀ {b : Addr} {o : Obj}, s₁.heap.get? b = some o -> H b = none -> (qfl s₁.heap H).get? b = some o := fun e n => qfm e n
  have noD : ∀ {b : Addr} {o : Obj}, s₁.heap.get? b = some o -> (∀ its n, o.data ≠ .seq its n) -> (∀ f, o.data ≠ .fields f) -> H b = none := fun {b o} e d1 d2 => by
   cases q : H b with
   | none => rfl
   | some u =>
    rcases (hA b u q).2 with ⟨ob, xs, rfl⟩ | ⟨c, pos, q', hl2, rfl⟩
    ·obtain ⟨e1, _, its, n, _, e2⟩ := hok b _ q
     rw [e] at e2; cases e2
     exact (d1 _ _ rfl).elim
    ·have e2 := (hlm _ _ _ _ hl2).2.1
     rw [e] at e2; cases e2
     exact (d2 _ rfl).elim
  have nsK : ∀ {b : Addr} {m : Str -> Option Value}, s₁.heap.Ns b m -> (qfl s₁.heap H).Ns b m := fun {b m} ⟨o, es, ep, e, d, r⟩ => ⟨o, es, ep, base_of e (noD e (fun _ _ z => by rw [d] at z; cases z) fun _ z => by rw [d] at z; cases z), d, r⟩
  have hKb : K.In (qfl s₁.heap H) := fun b o e => base_of (KX b o e) (by
   cases q : H b with
   | none => rfl
   | some u => rw [(hA b u q).1] at e; cases e)
  have hM : Mod K mg (qfl s₁.heap H) := ⟨hKb, nsK hns, ⟨mb, nsK hb, hbb⟩, let ⟨mc, h1, h2⟩ := hlim; ⟨mc, nsK h1, h2⟩,
   let ⟨bm, ob, b1, b2, b3, b4, b5, b6⟩ := hbm; ⟨bm, ob, b1, b2, base_of b3 (noD b3 (fun _ _ z => by rw [b6] at z; cases z) fun _ z => by rw [b6] at z; cases z), b4, b5, b6⟩⟩
  have e0 : qjp P w K mg (qfl s₁.heap H) callerA [] s₁ H := ⟨rfl, hM, fun b o e => qg8 e, Nat.le_of_eq (qdN _ _), trivial, fun b hb => absurd (show b ∈ ([] : List Addr) from hb) (by simp), hok, .of_eq hg⟩
  refine codeAny_mono ((F _ hKb (nsK hns)).run callerA [] s₁ H ⟨[.ref a], []⟩ [.ref a] [.ref a] _ _ hr e0 (hbind s₁ (.ref a)) (.cons rfl .nil) (hsp H hO hT hS)) fun r s' h => ?_
  cases r with
  | error e => exact (hCX H e s' h).elim
  | ok fl =>
   cases fl with
   | next => exact False.elim h
   | brk => exact False.elim h
   | cont => exact False.elim h
   | ret u =>
    obtain ⟨v, H', os, bare, un, hok', r', q⟩ := h
    have q' : v = .bl true := q
    subst q'
    obtain rfl : u = Value.bool true := r'
    have asIt : ∀ b o, s₁.heap.get? b = some o -> asItWas s₁.heap s'.heap b o := fun b o e => by
     cases q : H b with
     | none => exact .inl (un.keep b o e q (by intro z; exact absurd (show b ∈ ([] : List Addr) from z) (by simp)) (by simp))
     | some u =>
      rcases (hA b u q).2 with ⟨ob, xs, rfl⟩ | ⟨c, pos, q2, hl2, rfl⟩
      ·have z2 := un.frzs b ob _ q
       obtain ⟨e1, _⟩ := hok b _ q
       obtain ⟨e2, _⟩ := hok' b _ z2
       rw [e] at e1; cases e1
       exact .inl e2
      ·obtain ⟨hc, e2, _⟩ := hlm _ _ _ _ hl2
       rw [e] at e2; cases e2
       rcases hok' b _ (un.tbls b pos q2 q) with z | ⟨c', oc, vs', t, _, _, _, z⟩
       ·exact .inl z
       ·exact .inr (.inl ⟨(hc.tab e).isCodeTable, rfl, #[], _, rfl, by rw [Array.empty_append]; exact z⟩)
    exact ⟨rfl, ⟨asIt, fun b o e => un.there b o e (by simp)⟩, os, bare⟩
 let T : Hp := qkJ lm
 have hTb : ∀ b u, T b = some u -> ∃ c pos q, lm = some (c, b, pos, q) /\ u = .lam pos q := fun b u z => by
  cases hq : lm with
  | none => simp only [T, hq, qkJ] at z; cases z
  | some p =>
   obtain ⟨c, Pt, pos, q⟩ := p
   simp only [T, hq, qkJ] at z
   by_cases hbp : b = Pt
   ·rw [if_pos hbp] at z; cases z
    exact ⟨c, pos, q, by rw [hbp], rfl⟩
   ·rw [if_neg hbp] at z; cases z
 have hTa : T a = none := by
  cases q : T a with
  | none => rfl
  | some u =>
   obtain ⟨c, pos, q2, hl2, _⟩ := hTb a u q
   have := (hlm _ _ _ _ hl2).2.1
   rw [ha] at this; cases this
 have hTt : ∀ c Pt pos q, lm = some (c, Pt, pos, q) -> T Pt = some (.lam pos q) := fun c Pt pos q e => by
  simp only [T, e, qkJ, if_true]
 cases hk : K.lookup a with
 | some o =>
  have e := KX a o hk
  rw [ha] at e
  cases e
  refine core T (fun b => ?_) hTt (.inr ⟨_, vs.toArray, _, hk, rfl, rfl, rfl, by rw [sT_, lenV]; exact hl, by simpa using rv⟩) (fun b u z => ?_) (fun b u z => ?_)
  ·cases q : T b with
   | none => exact .inl rfl
   | some u => obtain ⟨_, pos, q2, _, rfl⟩ := hTb b u q; exact .inr (.inr ⟨pos, q2, rfl⟩)
  ·obtain ⟨c, pos, q2, hl2, rfl⟩ := hTb b u z
   exact .inl (hlm _ _ _ _ hl2).2.1
  ·obtain ⟨c, pos, q2, hl2, rfl⟩ := hTb b u z
   exact ⟨(hlm _ _ _ _ hl2).2.2, .inr ⟨c, pos, q2, hl2, rfl⟩⟩
 | none =>
  refine core (upd T a (.frz { cls := .type "list", data := .seq vs.toArray } (.lst (ns.map V.int)))) (fun b => ?_) (fun c Pt pos q e => ?_) (.inl (.inr ⟨{ cls := .type "list", data := .seq vs.toArray }, qo⟩)) (fun b u z => ?_) (fun b u z => ?_)
  ·by_cases hb : b = a
   ·subst hb; exact .inr (.inl ⟨_, _, qo⟩)
   ·rw [qj hb]
    cases q : T b with
    | none => exact .inl rfl
    | some u => obtain ⟨_, pos, q2, _, rfl⟩ := hTb b u q; exact .inr (.inr ⟨pos, q2, rfl⟩)
  ·have h1 := hTt c Pt pos q e
   rw [qj (qA h1 hTa)]
   exact h1
  ·by_cases hb : b = a
   ·subst hb
    rw [qo] at z; cases z
    exact ⟨ha, by rw [lM_]; exact hl, vs, _, rv, ha⟩
   ·rw [qj hb] at z
    obtain ⟨c, pos, q2, hl2, rfl⟩ := hTb b u z
    exact .inl (hlm _ _ _ _ hl2).2.1
  ·by_cases hb : b = a
   ·subst hb
    rw [qo] at z; cases z
    exact ⟨hk, .inl ⟨_, _, rfl⟩⟩
   ·rw [qj hb] at z
    obtain ⟨c, pos, q2, hl2, rfl⟩ := hTb b u z
    exact ⟨(hlm _ _ _ _ hl2).2.2, .inr ⟨c, pos, q2, hl2, rfl⟩⟩
end L2
namespace L2
open PySem PySem.Spec PyProof.Rows
end L2
/- THE LAST THEOREM (shape; LID, My.* are yours):
   My.Adr: a structure of the addresses that your layer names (classes, functions); My.Txt K t: a structure (Prop) of the equations over K;
   My.txt_mk : {K} {implicit addresses ..} (e1 : nsIn K mainGlobals "law" = some (some (.ref f))) (e2 : K.lookup f = some ⟨oc, od, .func (fnOf "law" "law" params body scope dV kV doc pm an cdv ct), sl⟩) (e3 : codeIn K cdv "law" = true) .. : ∃ t, My.Txt K t
set_option maxRecDepth 100000 in
set_option maxHeartbeats 0 in
theorem PySem.Challenge.cw_LID_holds : PySem.Challenge.rw_LID.Holds := by
 w_on; o_law; k_head; (case hw => w_witness2)
 k_fill
 refine L2.walk_of (l := PySem.Challenge.rw_LID) (n := 63) (k := 40) (x := "script") (CX := fun w => ..) (sp := fun _ => My.sp_law) rfl (by decide) rfl ⟨rfl, by decide, by decide⟩ (fun w h Y => PySem.W.kIn_of Y) ?F ?S ?C
 case F =>
  intro w mg fa h KX G hmg
  have T : ∃ t, My.Txt (L2.KOf KX) t := by
   dsimp only [L2.KOf]                          -- K must stand as «<heap const> w.params» for k_is
   refine' My.txt_mk ?e1 ?e2 ?e3 ..
   (case e1 => PySem.W.k_is)                    -- in the order: a name -> its address -> its object -> its parts
   (case e2 => PySem.W.k_is)
   ..
  obtain ⟨t, T⟩ := T
  have e0 := hmg.symm.trans (PySem.W.mg_of KX G T.law)
  cases e0                                       -- fa is the law's own address
  exact ⟨_, fun s u => .of_eq rfl, fun base kb nb => My.law_fn T kb nb⟩     -- if «.of_eq rfl» comes too early: refine' ⟨_, ?b, fun base kb nb => My.law_fn T kb nb⟩; exact fun s u => .of_eq rfl
 case S => exact fun w H a ns hl hO hS => ..
 case C => exact ..
(the tactic k_is has no namespace: write k_is) -/
namespace L2
open PySem PySem.Spec PyProof.Rows
def qw (s : Stmt) : Arguments := match s with
 | .FunctionDef _ a _ _ _ _ _ _ _ _ => a
 | _ => { posonlyargs := [], args := [], vararg := none, kwonlyargs := [], kw_defaults := [], kwarg := none, defaults := [] }
def qt (s : Stmt) : List Stmt := match s with
 | .FunctionDef _ _ b _ _ _ _ _ _ _ => b
 | _ => []
def qe (s : Stmt) : Scope := match s with
 | .FunctionDef _ _ _ _ _ _ sc _ _ _ => sc
 | _ => { kind := .function, names := [], isGenerator := false, isCoroutine := false }
abbrev CX0 : CXT := fun _ _ _ _ _ _ => False
abbrev E0 : XK := fun _ _ _ => False
theorem qhz {X : Cx} : qaa CX0 X E0 := fun _ _ _ _ _ _ _ h => h.elim
structure Fun (K : PySem.W.Frag) (x qual : Str) (st : Stmt) (f : Addr) (fd : FuncData) : Prop where
 ex : ∃ (oc : Value) (od : Option Addr) (kV doc pm : Value) (an : Option Addr) (cdv ct : Value) (osl : Array (Option Value)),
  fd = PySem.W.fnOf x qual (qw st) (qt st) (qe st) .none kV doc pm an cdv ct /\ K.lookup f = some ⟨oc, od, .func fd, osl⟩ /\ PySem.W.codeIn K cdv qual = true
 kp : PySem.W.keepIn K (.ref f) = true
section
variable {P : Program} {w : World} {K : PySem.W.Frag} {mg : Str -> Option Value} {base : Heap}
theorem Fun.ok {x qual : Str} {st : Stmt} {f : Addr} {fd : FuncData} {N ps : List Str} {k : Nat} {sp : Sp} (F : Fun K x qual st f fd) (S : qv N ps (qe st)) (len : ∀ vs H Q E, sp vs H Q E -> vs.length = ps.length)
  (hbody : ∀ (cdv : Value) (A : Around) (outer : List Env) (s : Shared) (H : Hp) (vs : List V) (Q : VK) (E : XK), yT k (A.deeper (envOfC qual (qe st) s.heap.objs.size f cdv)) -> sp vs H Q E ->
   ∃ t, PSs (qfu CX0 P w K mg base N qual (qe st) f cdv A outer s H E).nox (qt st) t /\ t { nx := fun _ H' => Q .non H', rt := Q } (zx N vs) H) : wS P w K mg base CX0 (k + 1) f fd ps sp := by
 obtain ⟨oc, od, kV, doc, pm, an, cdv, ct, osl, rfl, lk, hcd⟩ := F.ex
 refine qjs lk hcd S len fun A outer s H vs Q E hr hsp => ?_
 obtain ⟨t, h, q⟩ := hbody cdv A outer s H vs Q E hr hsp
 exact ⟨t, h.nox, q⟩
theorem Fun.binds {x qual : Str} {st : Stmt} {f : Addr} {fd : FuncData} {ps : List Str} (F : Fun K x qual st f fd)
  (h : ∀ (kV doc pm : Value) (an : Option Addr) (cdv ct : Value) (us : List Value), us.length = ps.length -> bindArgs (PySem.W.fnOf x qual (qw st) (qt st) (qe st) .none kV doc pm an cdv ct) ⟨us, []⟩ = pure (ps.zip us)) : uw K fd ps [] := by
 obtain ⟨oc, od, kV, doc, pm, an, cdv, ct, osl, rfl, lk, hcd⟩ := F.ex
 exact .all (h kV doc pm an cdv ct)
theorem qO {x qual : Str} {st : Stmt} {f : Addr} {oc : Value} {od an : Option Addr} {osl : Array (Option Value)} {kV doc pm cdv ct : Value} (l : K.lookup f = some ⟨oc, od, .func (PySem.W.fnOf x qual (qw st) (qt st) (qe st) .none kV doc pm an cdv ct), osl⟩)
  (c : PySem.W.codeIn K cdv qual = true) (k : PySem.W.keepIn K (.ref f) = true) : Fun K x qual st f (PySem.W.fnOf x qual (qw st) (qt st) (qe st) .none kV doc pm an cdv ct) := ⟨⟨oc, od, kV, doc, pm, an, cdv, ct, osl, rfl, l, c⟩, k⟩
end
section
variable {X : Cx}
theorem pv (i : Nat) {x : Str} {pos : Pos} (hN : X.N[i]? = some x := by rfl) (hv : Vis X.env.scope x := by first | exact Or.inl rfl | exact Or.inr (Or.inl rfl) | exact Or.inr (Or.inr rfl)) (hd : (x == ("__debug__" : Str)) = false := by decide)
  (hcd : (x == ("__classdict__" : Str)) = false := by decide) : PE X (.Name x pos) (qlP i) := vq hN hv hd hcd
end
theorem qiI {A B : Prop} (h : B) : if false = true then A else B := by
 rw [if_neg Bool.false_ne_true]
 exact h
theorem qiJ {A B : Prop} (h : A) : if true = true then A else B := by
 rw [if_pos rfl]
 exact h
def zX (H H' : Hp) : Prop := ∀ b o, H b = some o -> H' b = some o
theorem zX.refl (H : Hp) : zX H H := fun _ _ h => h
theorem zX.trans {H H1 H2 : Hp} (a : zX H H1) (b : zX H1 H2) : zX H H2 := fun c o h => b c o (a c o h)
theorem zX.free {H H' : Hp} (e : zX H H') {l : Addr} (h : H' l = Option.none) : H l = Option.none := by
 cases q : H l with
 | none => rfl
 | some o =>
  rw [e l o q] at h
  cases h
end L2
namespace L2.Sk
open PySem PySem.Spec PyProof.Rows
inductive D where
 | non | bl (b : Bool) | int (i : Int) | str (x : Str) | tup (xs : List D) | lst (xs : List D) | dic (kvs : List (Key × Int)) | fz (ns : List Int)
 | exc (n : Str)
abbrev Fr0 := PySem.W.Frag
def qgv : FuncBody -> Option Pos
 | .stmts [_, _, .Return (some (.Call _ _ [⟨_, .Lambda _ _ _ pos, _⟩] _)) _] => some pos
 | _ => none
def wT (K : Fr0) : Option (Addr × Addr × Pos) := match PySem.W.tabIn K "dearest_first", PySem.W.nsIn K mainGlobals "dearest_first" with
 | some (c, P), some (some (.ref f)) => (match K.lookup f with
  | some ⟨_, _, .func fd, _⟩ => (qgv fd.body).map fun pos => (c, P, pos)
  | _ => none)
 | _, _ => none
abbrev qiK : Str := "dearest_first.<locals>.<lambda>"
def qlZ (K : Fr0) (H : Hp) (Io : Addr -> Prop) : Prop := ∀ c P pos, wT K = some (c, P, pos) -> H P = some (.lam pos qiK) /\ ¬ Io P
abbrev qd6 (K : Fr0) (H : Hp) : Prop := qlZ K H fun _ => False
structure XK6 (K : Fr0) (D : Addr) : Prop where
 ga : PySem.W.findIn K (.ref D) "__getattribute__" = some (some (.builtin "BaseException.__getattribute__"))
 gt : PySem.W.findIn K (.ref D) "__getattr__" = some none
 cl : PySem.W.findIn K (.ref D) "__class__" = some (some (.builtin "object.__class__"))
 ob : PySem.W.mroIn K D (.type "object") = some true
 be : PySem.W.subIn K (.ref D) (.type "BaseException") = some true
 is : (PySem.W.clsIn K D).isSome = true
 no : ∀ T ∈ ["int", "bool", "str", "tuple", "list", "dict"], PySem.W.kitOne K (.ref D) (.type T) = some false
def vV (K : Fr0) (n : Str) : Option Addr := match PySem.W.nsIn K mainGlobals n with
 | some (some (.ref C)) => some C
 | _ => none
def clR (K : Fr0) (RN : List Str) (n : Str) : Option Addr := if RN.contains n then vV K n else none
def qmJ (K : Fr0) (H : Hp) (a : Addr) (n : Str) : Prop := ∃ C, vV K n = some C /\ XK6 K C /\ ∃ o vs, H a = some (.frz o (.own a)) /\ o.cls = .ref C /\ o.data = .fields vs
def ul (K : Fr0) (H : Hp) (a : Addr) (xs : List V) : Prop :=
 H a = some (.tup xs) \/ ∃ (o : Obj) (its : Array Value) (n : Nat), K.lookup a = some o /\ o.cls = .type "tuple" /\ o.data = .seq its n /\ its.size <= sizeLine /\ qN xs its.toList
def qjA (K : Fr0) (H : Hp) (a : Addr) (xs : List V) : Prop :=
 (∃ o, H a = some (.frz o (.lst xs))) \/ ∃ (o : Obj) (its : Array Value) (n : Nat), K.lookup a = some o /\ o.cls = .type "list" /\ o.dict = none /\ o.data = .seq its n /\ its.size <= sizeLine /\ qN xs its.toList
theorem ul.sq {K : Fr0} {H : Hp} {a : Addr} {xs : List V} (h : ul K H a xs) : SqT K H a xs := by
 rcases h with h | h
 ·exact .inl (.inl h)
 ·exact .inr h
theorem qjA.sq {K : Fr0} {H : Hp} {a : Addr} {xs : List V} (h : qjA K H a xs) : SqL K H a xs := by
 rcases h with h | h
 ·exact .inl (.inr h)
 ·exact .inr h
mutual
def Is (K : Fr0) (A : Addr -> Prop) (H : Hp) : D -> V -> Prop
 | .non, v => v = .non
 | .bl b, v => v = .bl b
 | .int i, v => v = .int i
 | .str x, v => v = .str x
 | .tup ds, v => ∃ a xs, v = .ref a /\ ul K H a xs /\ IsL K A H ds xs
 | .lst ds, v => ∃ a xs, v = .ref a /\ A a /\ H a = some (.lst xs) /\ IsL K A H ds xs
 | .dic kvs, v => ∃ a, v = .ref a /\ A a /\ H a = some (.dK (kvs.map fun p => (p.1, V.int p.2)))
 | .fz ns, v => ∃ a, v = .ref a /\ qjA K H a (ns.map V.int)
 | .exc n, v => ∃ a, v = .ref a /\ qmJ K H a n
def IsL (K : Fr0) (A : Addr -> Prop) (H : Hp) : List D -> List V -> Prop
 | [], xs => xs = []
 | d :: ds, xs => ∃ x ys, xs = x :: ys /\ Is K A H d x /\ IsL K A H ds ys
end
mutual
def imm : D -> Bool
 | .tup ds => immL ds
 | .lst _ => false
 | .dic _ => false
 | .fz _ => false
 | _ => true
def immL : List D -> Bool
 | [] => true
 | d :: ds => imm d && immL ds
end
structure Ext (A : Addr -> Prop) (H H' : Hp) : Prop where
 tup : ∀ b xs, H b = some (.tup xs) -> H' b = some (.tup xs)
 frz : ∀ b o u, H b = some (.frz o u) -> H' b = some (.frz o u)
 at_ : ∀ b o, A b -> H b = some o -> H' b = some o
theorem Ext.refl {A : Addr -> Prop} {H : Hp} : Ext A H H := ⟨fun _ _ h => h, fun _ _ _ h => h, fun _ _ _ h => h⟩
theorem Ext.of_same {A : Addr -> Prop} {H H' : Hp} (s : zX H H') : Ext A H H' := ⟨fun b xs h => s b _ h, fun b o u h => s b _ h, fun b o _ h => s b o h⟩
mutual
theorem Is.ext {K : Fr0} {A B : Addr -> Prop} {H H' : Hp} (e : Ext A H H') (hAB : ∀ a, A a -> (H a).isSome = true -> B a) : ∀ {d : D} {v : V}, Is K A H d v -> Is K B H' d v
 | .non, _, h => h
 | .bl _, _, h => h
 | .int _, _, h => h
 | .str _, _, h => h
 | .tup ds, _, ⟨a, xs, hv, h, r⟩ => ⟨a, xs, hv, h.elim (fun h => .inl (e.tup _ _ h)) .inr, IsL.ext e hAB r⟩
 | .lst ds, _, ⟨a, xs, hv, hA, h, r⟩ => ⟨a, xs, hv, hAB a hA (by rw [h]; rfl), e.at_ _ _ hA h, IsL.ext e hAB r⟩
 | .dic kvs, _, ⟨a, hv, hA, h⟩ => ⟨a, hv, hAB a hA (by rw [h]; rfl), e.at_ _ _ hA h⟩
 | .fz ns, _, ⟨a, hv, h⟩ => ⟨a, hv, h.elim (fun ⟨o, h⟩ => .inl ⟨o, e.frz _ _ _ h⟩) .inr⟩
 | .exc n, _, ⟨a, hv, C, hc, hk, o, vs, h, r⟩ => ⟨a, hv, C, hc, hk, o, vs, e.frz _ _ _ h, r⟩
theorem IsL.ext {K : Fr0} {A B : Addr -> Prop} {H H' : Hp} (e : Ext A H H') (hAB : ∀ a, A a -> (H a).isSome = true -> B a) : ∀ {ds : List D} {xs : List V}, IsL K A H ds xs -> IsL K B H' ds xs
 | [], _, h => h
 | _ :: _, _, ⟨x, ys, hx, h, r⟩ => ⟨x, ys, hx, Is.ext e hAB h, IsL.ext e hAB r⟩
end
mutual
theorem Is.imm {K : Fr0} {A B : Addr -> Prop} {H : Hp} : ∀ {d : D} {v : V}, imm d = true -> Is K A H d v -> Is K B H d v
 | .non, _, _, h => h
 | .bl _, _, _, h => h
 | .int _, _, _, h => h
 | .str _, _, _, h => h
 | .tup ds, _, i, ⟨a, xs, hv, h, r⟩ => ⟨a, xs, hv, h, IsL.imm (by simpa [Sk.imm] using i) r⟩
 | .lst _, _, i, _ => by simp [Sk.imm] at i
 | .dic _, _, i, _ => by simp [Sk.imm] at i
 | .fz _, _, i, _ => by simp [Sk.imm] at i
 | .exc _, _, _, h => h
theorem IsL.imm {K : Fr0} {A B : Addr -> Prop} {H : Hp} : ∀ {ds : List D} {xs : List V}, immL ds = true -> IsL K A H ds xs -> IsL K B H ds xs
 | [], _, _, h => h
 | d :: ds, _, i, ⟨x, ys, hx, h, r⟩ => by
  have i' : Sk.imm d = true /\ immL ds = true := by simpa [immL] using i
  exact ⟨x, ys, hx, Is.imm i'.1 h, IsL.imm i'.2 r⟩
end
theorem IsL.length {K : Fr0} {A : Addr -> Prop} {H : Hp} : ∀ {ds : List D} {xs : List V}, IsL K A H ds xs -> xs.length = ds.length
 | [], _, h => by rw [h]; rfl
 | _ :: _, _, ⟨x, ys, hx, _, r⟩ => by rw [hx, lC_, lC_, IsL.length r]
theorem IsL.get {K : Fr0} {A : Addr -> Prop} {H : Hp} : ∀ {ds : List D} {xs : List V} {i : Nat} {d : D}, IsL K A H ds xs -> ds[i]? = some d -> ∃ x, xs[i]? = some x /\ Is K A H d x
 | [], _, _, _, _, h => by simp at h
 | e :: _, _, 0, d, ⟨x, ys, hx, h, r⟩, hd => by
  have e1 : e = d := by simpa using hd
  subst e1
  exact ⟨x, by rw [hx]; rfl, h⟩
 | _ :: ds, _, i + 1, d, ⟨x, ys, hx, h, r⟩, hd => by
  obtain ⟨y, h1, h2⟩ := IsL.get (i := i) (d := d) r (by simpa using hd)
  exact ⟨y, by rw [hx]; simpa using h1, h2⟩
theorem IsL.append {K : Fr0} {A : Addr -> Prop} {H : Hp} : ∀ {ds es : List D} {xs ys : List V}, IsL K A H ds xs -> IsL K A H es ys -> IsL K A H (ds ++ es) (xs ++ ys)
 | [], _, _, _, h, g => by rw [h]; exact g
 | _ :: _, _, _, _, ⟨x, zs, hx, h, r⟩, g => ⟨x, zs ++ _, by rw [hx]; rfl, h, IsL.append r g⟩
theorem IsL.take {K : Fr0} {A : Addr -> Prop} {H : Hp} : ∀ {ds : List D} {xs : List V} (n : Nat), IsL K A H ds xs -> IsL K A H (ds.take n) (xs.take n)
 | _, _, 0, _ => by simp [IsL]
 | [], _, _ + 1, h => by rw [h]; simp [IsL]
 | _ :: _, _, n + 1, ⟨x, ys, hx, h, r⟩ => by rw [hx]; exact ⟨x, ys.take n, rfl, h, IsL.take n r⟩
theorem IsL.drop {K : Fr0} {A : Addr -> Prop} {H : Hp} : ∀ {ds : List D} {xs : List V} (n : Nat), IsL K A H ds xs -> IsL K A H (ds.drop n) (xs.drop n)
 | _, _, 0, h => h
 | [], _, _ + 1, h => by rw [h]; simp [IsL]
 | _ :: _, _, n + 1, ⟨x, ys, hx, h, r⟩ => by rw [hx]; exact IsL.drop n r
theorem IsL.one {K : Fr0} {A : Addr -> Prop} {H : Hp} {d : D} {v : V} (h : Is K A H d v) : IsL K A H [d] [v] := ⟨v, [], rfl, h, rfl⟩
theorem IsL.set {K : Fr0} {A : Addr -> Prop} {H : Hp} {d : D} {v : V} (hd : Is K A H d v) : ∀ {ds : List D} {xs : List V} (n : Nat), IsL K A H ds xs -> IsL K A H (ds.set n d) (xs.set n v)
 | [], _, _, h => by rw [h]; simp [IsL]
 | _ :: _, _, 0, ⟨x, ys, hx, h, r⟩ => by rw [hx]; exact ⟨v, ys, rfl, hd, r⟩
 | _ :: _, _, n + 1, ⟨x, ys, hx, h, r⟩ => by rw [hx]; exact ⟨x, ys.set n v, rfl, h, IsL.set hd n r⟩
abbrev Env := List (Option D)
structure Exn where
 cls : Str
 val : D
inductive R (α : Type) where
 | ok (a : α) | exc (x : Exn) (ρ : Env) | bad
structure Fc where
 O : List Nat
 P : List Nat
 B : Addr -> Prop
 H0 : Hp
 Io : Addr -> Prop
 E : Exn -> Hp -> Prop
 S : Nat -> Option (Option V)
def Cl (O : List Nat) (Z : St) (a : Addr) : Prop := ∀ j ∈ O, Z[j]? ≠ some (some (.ref a))
def Cn (c : Fc) (Z : St) (a : Addr) : Prop := c.B a /\ Cl c.O Z a
structure Rep (K : Fr0) (c : Fc) (ρ : Env) (Z : St) (H : Hp) : Prop where
 len : ρ.length = Z.length
 val : ∀ i d, ρ[i]? = some (some d) -> ∃ v, Z[i]? = some (some v) /\
  ((i ∈ c.O /\ ∃ ds a xs, d = .lst ds /\ v = .ref a /\ H a = some (.lst xs) /\ IsL K (Cn c Z) H ds xs) \/ (i ∉ c.O /\ Is K (Cn c Z) H d v))
 own : ∀ j ∈ c.O, ∀ v, Z[j]? = some (some v) -> ∃ a xs, v = .ref a /\ H a = some (.lst xs) /\ (c.H0 a = none \/ (j ∈ c.P /\ c.Io a))
 inj : ∀ i j a, i ∈ c.O -> j ∈ c.O -> Z[i]? = some (some (.ref a)) -> Z[j]? = some (some (.ref a)) -> i = j
 b0 : (∀ a, c.H0 a = none -> c.B a) /\ qlZ K c.H0 c.Io
 kp : ∀ b o, c.H0 b = some o -> ¬ c.Io b -> H b = some o
 dm : ∀ b, H b = none -> c.H0 b = none
 pO : ∀ j ∈ c.P, j ∈ c.O
 ps : ∀ j ∈ c.P, Z[j]? = c.S j
theorem Rep.tb {K : Fr0} {c : Fc} {ρ : Env} {Z : St} {H : Hp} (r : Rep K c ρ Z H) : qd6 K H := fun q P pos e => ⟨r.kp P _ (r.b0.2 q P pos e).1 (r.b0.2 q P pos e).2, fun z => z⟩
structure Gr (O : List Nat) (Z : St) (H H' : Hp) : Prop where
 ext : Ext (Cl O Z) H H'
 dom : ∀ b, H' b = none -> H b = none
theorem Gr.refl {O : List Nat} {Z : St} {H : Hp} : Gr O Z H H := ⟨Ext.refl, fun _ h => h⟩
theorem Gr.of_same {O : List Nat} {Z : St} {H H' : Hp} (s : zX H H') : Gr O Z H H' := ⟨Ext.of_same s, fun _ h => s.free h⟩
theorem Gr.trans {O : List Nat} {Z : St} {H H1 H2 : Hp} (a : Gr O Z H H1) (b : Gr O Z H1 H2) : Gr O Z H H2 :=
 ⟨⟨fun c xs h => b.ext.tup c xs (a.ext.tup c xs h), fun c o u h => b.ext.frz c o u (a.ext.frz c o u h), fun c o hc h => b.ext.at_ c o hc (a.ext.at_ c o hc h)⟩, fun c h => a.dom c (b.dom c h)⟩
theorem Gr.cn {c : Fc} {Z : St} {H H' : Hp} (g : Gr c.O Z H H') : Ext (Cn c Z) H H' := ⟨g.ext.tup, g.ext.frz, fun b o hb h => g.ext.at_ b o hb.2 h⟩
theorem Gr.is {K : Fr0} {c : Fc} {Z : St} {H H' : Hp} {d : D} {v : V} (g : Gr c.O Z H H') (h : Is K (Cn c Z) H d v) : Is K (Cn c Z) H' d v := Is.ext g.cn (fun _ h _ => h) h
theorem Gr.isL {K : Fr0} {c : Fc} {Z : St} {H H' : Hp} {d : List D} {v : List V} (g : Gr c.O Z H H') (h : IsL K (Cn c Z) H d v) : IsL K (Cn c Z) H' d v := IsL.ext g.cn (fun _ h _ => h) h
theorem Rep.new {K : Fr0} {c : Fc} {ρ : Env} {Z : St} {H : Hp} (r : Rep K c ρ Z H) {a : Addr} (h : H a = none) : Cn c Z a :=
 ⟨r.b0.1 a (r.dm a h), fun j hj e => by obtain ⟨b, xs, e1, e2, _⟩ := r.own j hj _ e; cases e1; rw [h] at e2; cases e2⟩
theorem Rep.same {K : Fr0} {c : Fc} {ρ : Env} {Z : St} {H H' : Hp} (r : Rep K c ρ Z H) (s : zX H H') : Rep K c ρ Z H' where
 len := r.len
 val := fun i d h => by
  obtain ⟨v, h1, h2⟩ := r.val i d h
  refine ⟨v, h1, ?_⟩
  rcases h2 with ⟨hi, ds, a, xs, h3, h5, h6, h7⟩ | ⟨hi, h3⟩
  ·exact .inl ⟨hi, ds, a, xs, h3, h5, s _ _ h6, IsL.ext (Ext.of_same s) (fun _ h _ => h) h7⟩
  ·exact .inr ⟨hi, Is.ext (Ext.of_same s) (fun _ h _ => h) h3⟩
 own := fun j hj v h => by
  obtain ⟨a, xs, h1, h2, h3⟩ := r.own j hj v h
  exact ⟨a, xs, h1, s _ _ h2, h3⟩
 inj := r.inj
 b0 := r.b0
 kp := fun b o h1 h2 => s _ _ (r.kp b o h1 h2)
 dm := fun b h => r.dm b (s.free h)
 pO := r.pO
 ps := r.ps
theorem Rep.get {K : Fr0} {c : Fc} {ρ : Env} {Z : St} {H : Hp} (r : Rep K c ρ Z H) {i : Nat} {d : D} (hi : i ∉ c.O) (h : ρ[i]? = some (some d)) : ∃ v, Z[i]? = some (some v) /\ Is K (Cn c Z) H d v := by
 obtain ⟨v, h1, h2⟩ := r.val i d h
 rcases h2 with ⟨h3, _⟩ | ⟨_, h3⟩
 ·exact absurd h3 hi
 ·exact ⟨v, h1, h3⟩
theorem Rep.getO {K : Fr0} {c : Fc} {ρ : Env} {Z : St} {H : Hp} (r : Rep K c ρ Z H) {i : Nat} {d : D} (hi : i ∈ c.O) (h : ρ[i]? = some (some d)) :
  ∃ ds a xs, d = .lst ds /\ Z[i]? = some (some (.ref a)) /\ H a = some (.lst xs) /\ IsL K (Cn c Z) H ds xs := by
 obtain ⟨v, h1, h2⟩ := r.val i d h
 rcases h2 with ⟨_, ds, a, xs, h3, h5, h6, h7⟩ | ⟨h3, _⟩
 ·subst h5; exact ⟨ds, a, xs, h3, h1, h6, h7⟩
 ·exact absurd hi h3
abbrev M (α : Type) := Env -> R (α × Env)
def Wp (K : Fr0) (c : Fc) (Z : St) (H : Hp) (Q : VK) : R (D × Env) -> Prop
 | .ok (d, ρ) => ∀ v H', Rep K c ρ Z H' -> Is K (Cn c Z) H' d v -> Gr c.O Z H H' -> Q v H'
 | .exc x ρ => ∀ H', Rep K c ρ Z H' -> Gr c.O Z H H' -> c.E x H'
 | .bad => False
def WpB (K : Fr0) (c : Fc) (Z : St) (H : Hp) (Q : Bool -> Hp -> Prop) : R (Bool × Env) -> Prop
 | .ok (b, ρ) => ∀ H', Rep K c ρ Z H' -> Gr c.O Z H H' -> Q b H'
 | .exc x ρ => ∀ H', Rep K c ρ Z H' -> Gr c.O Z H H' -> c.E x H'
 | .bad => False
def WpL (K : Fr0) (c : Fc) (Z : St) (H : Hp) (Q : List V -> Hp -> Prop) : R (List D × Env) -> Prop
 | .ok (ds, ρ) => ∀ vs H', Rep K c ρ Z H' -> IsL K (Cn c Z) H' ds vs -> Gr c.O Z H H' -> Q vs H'
 | .exc x ρ => ∀ H', Rep K c ρ Z H' -> Gr c.O Z H H' -> c.E x H'
 | .bad => False
def DE (X : Cx) (c : Fc) (e : Expr) (f : M D) : Prop := ∃ t, PE X e t /\ ∀ ρ Z H Q, Rep X.K c ρ Z H -> Wp X.K c Z H Q (f ρ) -> t Z H Q
def DT (X : Cx) (c : Fc) (e : Expr) (f : M Bool) : Prop := ∃ t, PT X e t /\ ∀ ρ Z H Q, Rep X.K c ρ Z H -> WpB X.K c Z H Q (f ρ) -> t Z H Q
def DA (X : Cx) (c : Fc) (es : List Expr) (f : M (List D)) : Prop := ∃ t, PA X es t /\ ∀ ρ Z H Q, Rep X.K c ρ Z H -> WpL X.K c Z H Q (f ρ) -> t Z H Q
def ret {α : Type} (a : α) : M α := fun ρ => .ok (a, ρ)
def bnd {α β : Type} (f : M α) (k : α -> M β) : M β := fun ρ => match f ρ with
 | .ok (a, ρ') => k a ρ'
 | .exc x ρ' => .exc x ρ'
 | .bad => .bad
def lift {α : Type} : Option α -> M α
 | some a => ret a
 | none => fun _ => .bad
theorem qgw {α β : Type} {f : M α} {k : α -> M β} {ρ ρ' : Env} {a : α} (h : f ρ = .ok (a, ρ')) : bnd f k ρ = k a ρ' := by unfold bnd; rw [h]
section
variable {K : Fr0} {c : Fc} {Z : St} {H H1 : Hp} {Q : VK} {QB : Bool -> Hp -> Prop} {QL : List V -> Hp -> Prop} {r : R (D × Env)}
theorem Wp.gr : ∀ {r : R (D × Env)}, Wp K c Z H Q r -> Gr c.O Z H H1 -> Wp K c Z H1 Q r
 | .ok (d, ρ), h, g => fun v H' hr hi hg => h v H' hr hi (g.trans hg)
 | .exc x ρ, h, g => fun H' hr hg => h H' hr (g.trans hg)
 | .bad, h, _ => h
theorem WpB.gr : ∀ {r : R (Bool × Env)}, WpB K c Z H QB r -> Gr c.O Z H H1 -> WpB K c Z H1 QB r
 | .ok (d, ρ), h, g => fun H' hr hg => h H' hr (g.trans hg)
 | .exc x ρ, h, g => fun H' hr hg => h H' hr (g.trans hg)
 | .bad, h, _ => h
theorem WpL.gr : ∀ {r : R (List D × Env)}, WpL K c Z H QL r -> Gr c.O Z H H1 -> WpL K c Z H1 QL r
 | .ok (d, ρ), h, g => fun v H' hr hi hg => h v H' hr hi (g.trans hg)
 | .exc x ρ, h, g => fun H' hr hg => h H' hr (g.trans hg)
 | .bad, h, _ => h
theorem Wp.bnd {f : M D} {k : D -> M D} {ρ : Env} {Q' : VK} (h : Wp K c Z H Q (bnd f k ρ)) (hQ : ∀ d ρ' v H', Rep K c ρ' Z H' -> Is K (Cn c Z) H' d v -> Gr c.O Z H H' -> Wp K c Z H' Q (k d ρ') -> Q' v H') : Wp K c Z H Q' (f ρ) := by
 unfold Sk.bnd at h
 cases e : f ρ with
 | ok p => rw [e] at h; exact fun v H' hr hi hg => hQ p.1 p.2 v H' hr hi hg (h.gr hg)
 | exc x ρ' => rw [e] at h; exact h
 | bad => rw [e] at h; exact h
theorem Wp.bndB {f : M D} {k : D -> M Bool} {ρ : Env} {Q' : VK} (h : WpB K c Z H QB (Sk.bnd f k ρ)) (hQ : ∀ d ρ' v H', Rep K c ρ' Z H' -> Is K (Cn c Z) H' d v -> Gr c.O Z H H' -> WpB K c Z H' QB (k d ρ') -> Q' v H') : Wp K c Z H Q' (f ρ) := by
 unfold Sk.bnd at h
 cases e : f ρ with
 | ok p => rw [e] at h; exact fun v H' hr hi hg => hQ p.1 p.2 v H' hr hi hg (h.gr hg)
 | exc x ρ' => rw [e] at h; exact h
 | bad => rw [e] at h; exact h
theorem Wp.bndL {f : M D} {k : D -> M (List D)} {ρ : Env} {Q' : VK} (h : WpL K c Z H QL (Sk.bnd f k ρ)) (hQ : ∀ d ρ' v H', Rep K c ρ' Z H' -> Is K (Cn c Z) H' d v -> Gr c.O Z H H' -> WpL K c Z H' QL (k d ρ') -> Q' v H') : Wp K c Z H Q' (f ρ) := by
 unfold Sk.bnd at h
 cases e : f ρ with
 | ok p => rw [e] at h; exact fun v H' hr hi hg => hQ p.1 p.2 v H' hr hi hg (h.gr hg)
 | exc x ρ' => rw [e] at h; exact h
 | bad => rw [e] at h; exact h
theorem WpB.bnd {f : M Bool} {k : Bool -> M D} {ρ : Env} {Q' : Bool -> Hp -> Prop} (h : Wp K c Z H Q (Sk.bnd f k ρ)) (hQ : ∀ d ρ' H', Rep K c ρ' Z H' -> Gr c.O Z H H' -> Wp K c Z H' Q (k d ρ') -> Q' d H') : WpB K c Z H Q' (f ρ) := by
 unfold Sk.bnd at h
 cases e : f ρ with
 | ok p => rw [e] at h; exact fun H' hr hg => hQ p.1 p.2 H' hr hg (h.gr hg)
 | exc x ρ' => rw [e] at h; exact h
 | bad => rw [e] at h; exact h
theorem WpB.bndB {f : M Bool} {k : Bool -> M Bool} {ρ : Env} {Q' : Bool -> Hp -> Prop} (h : WpB K c Z H QB (Sk.bnd f k ρ)) (hQ : ∀ d ρ' H', Rep K c ρ' Z H' -> Gr c.O Z H H' -> WpB K c Z H' QB (k d ρ') -> Q' d H') : WpB K c Z H Q' (f ρ) := by
 unfold Sk.bnd at h
 cases e : f ρ with
 | ok p => rw [e] at h; exact fun H' hr hg => hQ p.1 p.2 H' hr hg (h.gr hg)
 | exc x ρ' => rw [e] at h; exact h
 | bad => rw [e] at h; exact h
theorem WpL.bnd {f : M (List D)} {k : List D -> M D} {ρ : Env} {Q' : List V -> Hp -> Prop} (h : Wp K c Z H Q (Sk.bnd f k ρ)) (hQ : ∀ d ρ' v H', Rep K c ρ' Z H' -> IsL K (Cn c Z) H' d v -> Gr c.O Z H H' -> Wp K c Z H' Q (k d ρ') -> Q' v H') : WpL K c Z H Q' (f ρ) := by
 unfold Sk.bnd at h
 cases e : f ρ with
 | ok p => rw [e] at h; exact fun v H' hr hi hg => hQ p.1 p.2 v H' hr hi hg (h.gr hg)
 | exc x ρ' => rw [e] at h; exact h
 | bad => rw [e] at h; exact h
theorem WpL.bndL {f : M (List D)} {k : List D -> M (List D)} {ρ : Env} {Q' : List V -> Hp -> Prop} (h : WpL K c Z H QL (Sk.bnd f k ρ)) (hQ : ∀ d ρ' v H', Rep K c ρ' Z H' -> IsL K (Cn c Z) H' d v -> Gr c.O Z H H' -> WpL K c Z H' QL (k d ρ') -> Q' v H') : WpL K c Z H Q' (f ρ) := by
 unfold Sk.bnd at h
 cases e : f ρ with
 | ok p => rw [e] at h; exact fun v H' hr hi hg => hQ p.1 p.2 v H' hr hi hg (h.gr hg)
 | exc x ρ' => rw [e] at h; exact h
 | bad => rw [e] at h; exact h
theorem Wp.lift {o : Option D} {ρ : Env} (h : Wp K c Z H Q (Sk.lift o ρ)) : ∃ d, o = some d /\ ∀ v H', Rep K c ρ Z H' -> Is K (Cn c Z) H' d v -> Gr c.O Z H H' -> Q v H' := by
 cases o with
 | none => exact h.elim
 | some d => exact ⟨d, rfl, h⟩
end
section
variable {X : Cx} {c : Fc} {a b e : Expr} {pos : Pos}
theorem qp {i j pos} : DE X c (.Constant (.int i) j pos) (ret (.int i)) := ⟨_, qiZ, fun _ _ H Q r h => h _ H r rfl .refl⟩
theorem qbm {i j pos} : DE X c (.Constant (.bool i) j pos) (ret (.bl i)) := ⟨_, qkT, fun _ _ H Q r h => h _ H r rfl .refl⟩
theorem uL {j pos} : DE X c (.Constant .none j pos) (ret .non) := ⟨_, qi0, fun _ _ H Q r h => h _ H r rfl .refl⟩
def dv (i : Nat) : M D := fun ρ => match ρ[i]? with
 | some (some d) => .ok (d, ρ)
 | _ => .bad
theorem qa (i : Nat) {x : Str} (ho : i ∉ c.O := by exact of_decide_eq_false rfl) (hN : X.N[i]? = some x := by rfl) (hv : Vis X.env.scope x := by first | exact Or.inl rfl | exact Or.inr (Or.inl rfl) | exact Or.inr (Or.inr rfl)) (hd : (x == ("__debug__" : Str)) = false := by decide)
  (hcd : (x == ("__classdict__" : Str)) = false := by decide) : DE X c (.Name x pos) (dv i) := by
 refine ⟨_, vq hN hv hd hcd, fun ρ Z H Q r h => ?_⟩
 unfold dv at h
 split at h
 ·rename_i d e
  obtain ⟨v, h1, h2⟩ := r.get ho e
  exact ⟨v, h1, h v H r h2 .refl⟩
 ·exact h.elim
theorem qd7 {x : Str} {v : V} {u : Value} {d : D} (hg : Gl X x) (hm : X.mg x = some u) (rv : jf v u) (hd : ∀ H A, Is X.K A H d v) (hdb : (x == ("__debug__" : Str)) = false := by decide) : DE X c (.Name x pos) (ret d) :=
 ⟨_, qha hg hm rv hdb, fun _ _ H Q r h => h _ H r (hd _ _) .refl⟩
theorem qg : DA X c [] (ret []) := ⟨_, qbd, fun _ _ H Q r h => h _ H r rfl .refl⟩
def qc (f : M D) (g : M (List D)) : M (List D) := bnd f fun d => bnd g fun ds => ret (d :: ds)
theorem qd {es : List Expr} {f : M D} {g : M (List D)} (ha : DE X c e f) (hr : DA X c es g) (hs : starEach (e :: es) X.env = (false, eval e X.env) :: starEach es X.env := by rfl) : DA X c (e :: es) (qc f g) := by
 obtain ⟨ta, pa, wa⟩ := ha
 obtain ⟨tr, pr, wr⟩ := hr
 refine ⟨_, uv pa pr hs, fun ρ Z H Q r h => wa ρ Z H _ r (Wp.bndL h fun d ρ1 v H1 r1 i1 g1 h1 => wr ρ1 Z H1 _ r1 (WpL.bndL h1 fun ds ρ2 vs H2 r2 i2 g2 h2 => ?_))⟩
 exact h2 _ H2 r2 ⟨v, vs, rfl, g2.is i1, i2⟩ .refl
def qI (n : Nat) : Bool := decide (n <= sizeLine)
def um (f : M (List D)) : M D := bnd f fun ds => lift (if qI ds.length then some (.tup ds) else none)
def qbn (f : M (List D)) : M D := bnd f fun ds => lift (if qI ds.length then some (.lst ds) else none)
theorem qs {H : Hp} {p : Addr} (h : H p = none) (o : HO) : zX H (upd H p o) := fun b u q => by rw [qj (qA q h)]; exact q
theorem Rep.laid {K : Fr0} {ρ : Env} {Z : St} {H : Hp} (r : Rep K c ρ Z H) {p : Addr} (h : H p = none) (o : HO) : Rep K c ρ Z (upd H p o) := r.same (qs h o)
theorem zE {p : Bool} {d e : D} (h : (if p then some d else none) = some e) : p = true /\ d = e := by
 cases p with
 | true => exact ⟨rfl, by simpa using h⟩
 | false => simp at h
theorem yk {es : List Expr} {x1} {f : M (List D)} (h : DA X c es f) : DE X c (.Tuple es x1 pos) (um f) := by
 obtain ⟨t, p, w⟩ := h
 refine ⟨_, qjo p, fun ρ Z H Q r h => w ρ Z H _ r (WpL.bnd h fun ds ρ1 vs H1 r1 i1 g1 h1 => ?_)⟩
 obtain ⟨d, e, h2⟩ := h1.lift
 obtain ⟨e1, e2⟩ := zE e
 subst e2
 refine ⟨by rw [i1.length]; exact of_decide_eq_true e1, fun p hp => h2 _ _ (r1.laid hp _) ⟨p, vs, rfl, .inl qo, IsL.ext (Ext.of_same (qs hp _)) (fun _ h _ => h) i1⟩ (.of_same (qs hp _))⟩
theorem vW {es : List Expr} {f : M (List D)} (h : DA X c es f) : DE X c (.List es pos) (qbn f) := by
 obtain ⟨t, p, w⟩ := h
 refine ⟨_, qgt p, fun ρ Z H Q r h => w ρ Z H _ r (WpL.bnd h fun ds ρ1 vs H1 r1 i1 g1 h1 => ?_)⟩
 obtain ⟨d, e, h2⟩ := h1.lift
 obtain ⟨e1, e2⟩ := zE e
 subst e2
 refine ⟨by rw [i1.length]; exact of_decide_eq_true e1, fun p hp => h2 _ _ (r1.laid hp _) ⟨p, vs, rfl, r1.new hp, qo, IsL.ext (Ext.of_same (qs hp _)) (fun _ h _ => h) i1⟩ (.of_same (qs hp _))⟩
def OpS (K : Fr0) (F : D -> D -> Option D) (r : R2) : Prop := ∀ (A : Addr -> Prop) (H : Hp) (x y d : D) (v u : V) (Q : VK), (∀ a, H a = none -> A a) -> Is K A H x v -> Is K A H y u -> F x y = some d ->
 (∀ w H', zX H H' -> Is K A H' d w -> Q w H') -> r v u H Q
def d2 (F : D -> D -> Option D) (f g : M D) : M D := bnd f fun x => bnd g fun y => lift (F x y)
theorem op2 {r : R2} {F : D -> D -> Option D} {f g : M D} {ta tb : TE} (hF : OpS X.K F r) (wa : ∀ ρ Z H Q, Rep X.K c ρ Z H -> Wp X.K c Z H Q (f ρ) -> ta Z H Q) (wb : ∀ ρ Z H Q, Rep X.K c ρ Z H -> Wp X.K c Z H Q (g ρ) -> tb Z H Q) :
  ∀ ρ Z H Q, Rep X.K c ρ Z H -> Wp X.K c Z H Q (d2 F f g ρ) -> tOp r ta tb Z H Q := fun ρ Z H Q rp h => wa ρ Z H _ rp (Wp.bnd h fun x ρ1 v H1 r1 i1 g1 h1 => wb ρ1 Z H1 _ r1 (Wp.bnd h1 fun y ρ2 u H2 r2 i2 g2 h2 => by
 obtain ⟨d, e, h3⟩ := h2.lift
 exact hF _ H2 x y d v u Q (fun a ha => r2.new ha) (g2.is i1) i2 e fun w H' s i => h3 w H' (r2.same s) i (.of_same s)))
theorem qr {op : Operator} {r : R2} {F : D -> D -> Option D} {f g : M D} (ho : OpR X (binaryOp op) r) (hF : OpS X.K F r) (ha : DE X c a f) (hb : DE X c b g) : DE X c (.BinOp a op b pos) (d2 F f g) := by
 obtain ⟨ta, pa, wa⟩ := ha
 obtain ⟨tb, pb, wb⟩ := hb
 exact ⟨_, qjg ho pa pb, op2 hF wa wb⟩
theorem vt {op : CmpOp} {r : R2} {F : D -> D -> Option D} {f g : M D} (ho : OpR X (compareOp op) r) (hF : OpS X.K F r) (ha : DE X c a f) (hb : DE X c b g) (hm : behindInMarks op b = false) : DE X c (.Compare a [op] [b] pos) (d2 F f g) := by
 obtain ⟨ta, pa, wa⟩ := ha
 obtain ⟨tb, pb, wb⟩ := hb
 exact ⟨_, qhm ho pa pb hm, op2 hF wa wb⟩
def asB : D -> Option Bool
 | .bl b => some b
 | _ => none
def tst (f : M D) : M Bool := bnd f fun d => lift (asB d)
theorem qcx {K : Fr0} {Z : St} {H : Hp} {QB : Bool -> Hp -> Prop} {o : Option Bool} {ρ : Env} (h : WpB K c Z H QB (lift o ρ)) : ∃ b, o = some b /\ ∀ H', Rep K c ρ Z H' -> Gr c.O Z H H' -> QB b H' := by
 cases o with
 | none => exact h.elim
 | some d => exact ⟨d, rfl, h⟩
theorem qax {d : D} {b : Bool} (h : asB d = some b) : d = .bl b := by
 cases d <;> simp [asB] at h
 subst h; rfl
theorem zZ {op : CmpOp} {r : R2} {F : D -> D -> Option D} {f g : M D} (ho : OpR X (compareOp op) r) (hF : OpS X.K F r) (ha : DE X c a f) (hb : DE X c b g) (hm : behindInMarks op b = false) : DT X c (.Compare a [op] [b] pos) (tst (d2 F f g)) := by
 obtain ⟨ta, pa, wa⟩ := ha
 obtain ⟨tb, pb, wb⟩ := hb
 refine ⟨_, qhn ho pa pb hm, fun ρ Z H Q rp h => op2 hF wa wb ρ Z H _ rp (Wp.bndB h fun d ρ1 v H1 r1 i1 g1 h1 => ?_)⟩
 obtain ⟨b, e, h2⟩ := qcx h1
 have := qax e
 subst this
 exact ⟨b, i1, h2 H1 r1 .refl⟩
theorem yU {f : M D} (h : DE X c e f) (he : ∀ whole, isTrue e X.env whole = (do let v <- whole; standAt e.pos; holding [v] (truthy v)) := by intro _; rfl) : DT X c e (tst f) := by
 obtain ⟨t, p, w⟩ := h
 refine ⟨_, qi1 p he, fun ρ Z H Q rp h => w ρ Z H _ rp (Wp.bndB h fun d ρ1 v H1 r1 i1 g1 h1 => ?_)⟩
 obtain ⟨b, e, h2⟩ := qcx h1
 have := qax e
 subst this
 exact ⟨b, i1, h2 H1 r1 .refl⟩
def qdl (f : M Bool) : M Bool := bnd f fun b => ret (!b)
theorem vv {f : M Bool} (h : DT X c a f) : DT X c (.UnaryOp .Not a pos) (qdl f) := by
 obtain ⟨t, p, w⟩ := h
 exact ⟨_, qi4 p, fun ρ Z H Q rp h => w ρ Z H _ rp (WpB.bndB h fun d ρ1 H1 r1 g1 h1 => h1 H1 r1 .refl)⟩
def DW (X : Cx) (c : Fc) (e : Expr) (f : M Bool) : Prop := ∃ t, PW X e t /\ ∀ ρ Z H Q, Rep X.K c ρ Z H -> WpB X.K c Z H Q (f ρ) -> t Z H Q
theorem DW.dt {f : M Bool} (h : DW X c e f) : DT X c e f := by
 obtain ⟨t, p, w⟩ := h
 exact ⟨t, p.pt, w⟩
def qcy (f g : M Bool) : M Bool := bnd f fun b => if b then g else ret false
def tor (f g : M Bool) : M Bool := bnd f fun b => if b then ret true else g
variable {wR : List Expr}
theorem qd8 {f : M Bool} (h : DT X c a f) : DW X c (.BoolOp .And [a] pos) f := by
 obtain ⟨t, p, w⟩ := h
 exact ⟨t, qhc p, w⟩
theorem qac {f : M Bool} (h : DT X c a f) : DW X c (.BoolOp .Or [a] pos) f := by
 obtain ⟨t, p, w⟩ := h
 exact ⟨t, qi2 p, w⟩
theorem qgx {f g : M Bool} (ha : DT X c a f) (hb : DW X c (.BoolOp .And (b :: wR) pos) g) : DW X c (.BoolOp .And (a :: b :: wR) pos) (qcy f g) := by
 obtain ⟨ta, pa, wa⟩ := ha
 obtain ⟨tb, pb, wb⟩ := hb
 refine ⟨_, qi3 pa pb, fun ρ Z H Q rp h => wa ρ Z H _ rp (WpB.bndB h fun d ρ1 H1 r1 g1 h1 => ?_)⟩
 cases d with
 | true => exact qiJ (wb ρ1 Z H1 Q r1 (by simpa using h1))
 | false => exact qiI ((by simpa using h1 : WpB X.K c Z H1 Q (ret false ρ1)) H1 r1 .refl)
theorem qdm {f g : M Bool} (ha : DT X c a f) (hb : DW X c (.BoolOp .Or (b :: wR) pos) g) : DW X c (.BoolOp .Or (a :: b :: wR) pos) (tor f g) := by
 obtain ⟨ta, pa, wa⟩ := ha
 obtain ⟨tb, pb, wb⟩ := hb
 refine ⟨_, qkU pa pb, fun ρ Z H Q rp h => wa ρ Z H _ rp (WpB.bndB h fun d ρ1 H1 r1 g1 h1 => ?_)⟩
 cases d with
 | true => exact qiJ ((by simpa using h1 : WpB X.K c Z H1 Q (ret true ρ1)) H1 r1 .refl)
 | false => exact qiI (wb ρ1 Z H1 Q r1 (by simpa using h1))
def qkK (f : M D) : M D := bnd f fun d => bnd (lift (asB d)) fun b => ret (.bl (!b))
def qfz (f g : M D) : M D := bnd f fun d => bnd (lift (asB d)) fun b => if b then g else ret (.bl false)
def dor (f g : M D) : M D := bnd f fun d => bnd (lift (asB d)) fun b => if b then ret (.bl true) else g
theorem qd9 {K : Fr0} {Z : St} {H : Hp} {Q : VK} {d : D} {k : Bool -> M D} {ρ : Env} (h : Wp K c Z H Q (bnd (lift (asB d)) k ρ)) : ∃ b, d = .bl b /\ Wp K c Z H Q (k b ρ) := by
 unfold bnd at h
 cases e : asB d with
 | none => rw [e] at h; exact h.elim
 | some b => rw [e] at h; exact ⟨b, qax e, h⟩
theorem qad {op} {f : M D} (h : DE X c a f) : DE X c (.BoolOp op [a] pos) f := by
 obtain ⟨t, p, w⟩ := h
 exact ⟨t, qi5 p, w⟩
theorem qjB {f : M D} (h : DE X c a f) : DE X c (.UnaryOp .Not a pos) (qkK f) := by
 obtain ⟨t, p, w⟩ := h
 refine ⟨_, qi7 p, fun ρ Z H Q rp h => w ρ Z H _ rp (Wp.bnd h fun d ρ1 v H1 r1 i1 g1 h1 => ?_)⟩
 obtain ⟨b, e, h2⟩ := qd9 h1
 subst e
 exact ⟨b, i1, h2 _ H1 r1 rfl .refl⟩
theorem qcz {f g : M D} (ha : DE X c a f) (hb : DE X c (.BoolOp .And (b :: wR) pos) g) : DE X c (.BoolOp .And (a :: b :: wR) pos) (qfz f g) := by
 obtain ⟨ta, pa, wa⟩ := ha
 obtain ⟨tb, pb, wb⟩ := hb
 refine ⟨_, qi6 pa pb, fun ρ Z H Q rp h => wa ρ Z H _ rp (Wp.bnd h fun d ρ1 v H1 r1 i1 g1 h1 => ?_)⟩
 obtain ⟨k, e, h2⟩ := qd9 h1
 subst e
 refine ⟨k, i1, ?_⟩
 cases k with
 | true => exact qiJ (wb ρ1 Z H1 Q r1 (by simpa using h2))
 | false => exact qiI ((by simpa using h2 : Wp X.K c Z H1 Q (ret (.bl false) ρ1)) _ H1 r1 rfl .refl)
theorem qjC {f g : M D} (ha : DE X c a f) (hb : DE X c (.BoolOp .Or (b :: wR) pos) g) : DE X c (.BoolOp .Or (a :: b :: wR) pos) (dor f g) := by
 obtain ⟨ta, pa, wa⟩ := ha
 obtain ⟨tb, pb, wb⟩ := hb
 refine ⟨_, qkX pa pb, fun ρ Z H Q rp h => wa ρ Z H _ rp (Wp.bnd h fun d ρ1 v H1 r1 i1 g1 h1 => ?_)⟩
 obtain ⟨k, e, h2⟩ := qd9 h1
 subst e
 refine ⟨k, i1, ?_⟩
 cases k with
 | true => exact qiJ ((by simpa using h2 : Wp X.K c Z H1 Q (ret (.bl true) ρ1)) _ H1 r1 rfl .refl)
 | false => exact qiI (wb ρ1 Z H1 Q r1 (by simpa using h2))
def dif (f : M Bool) (g k : M D) : M D := bnd f fun b => if b then g else k
theorem qfA {t : Expr} {f : M Bool} {g k : M D} (ht : DT X c t f) (ha : DE X c a g) (hb : DE X c b k) : DE X c (.IfExp t a b pos) (dif f g k) := by
 obtain ⟨tt, pt, wt⟩ := ht
 obtain ⟨ta, pa, wa⟩ := ha
 obtain ⟨tb, pb, wb⟩ := hb
 refine ⟨_, qfo pt pa pb, fun ρ Z H Q rp h => wt ρ Z H _ rp (WpB.bnd h fun d ρ1 H1 r1 g1 h1 => ?_)⟩
 cases d with
 | true => exact qiJ (wa ρ1 Z H1 Q r1 (by simpa using h1))
 | false => exact qiI (wb ρ1 Z H1 Q r1 (by simpa using h1))
def qay (K : Fr0) (F : List D -> Option D) (r : List V -> Hp -> VK -> Prop) : Prop := ∀ (A : Addr -> Prop) (H : Hp) (xs : List D) (d : D) (vs : List V) (Q : VK), (∀ a, H a = none -> A a) -> IsL K A H xs vs -> F xs = some d ->
 (∀ w H', zX H H' -> Is K A H' d w -> Q w H') -> r vs H Q
def zq (F : List D -> Option D) (f : M (List D)) : M D := bnd f fun ds => lift (F ds)
theorem qlh {r : List V -> Hp -> VK -> Prop} {F : List D -> Option D} {f : M (List D)} {t : TA} (hF : qay X.K F r) (w : ∀ ρ Z H Q, Rep X.K c ρ Z H -> WpL X.K c Z H Q (f ρ) -> t Z H Q) :
  ∀ ρ Z H Q, Rep X.K c ρ Z H -> Wp X.K c Z H Q (zq F f ρ) -> tCB r t Z H Q := fun ρ Z H Q rp h => w ρ Z H _ rp (WpL.bnd h fun ds ρ1 vs H1 r1 i1 g1 h1 => by
 obtain ⟨d, e, h3⟩ := h1.lift
 exact hF _ H1 ds d vs Q (fun a ha => r1.new ha) i1 e fun w H' s i => h3 w H' (r1.same s) i (.of_same s))
theorem zd {id : String} {x : Str} {p : Pos} {es : List Expr} {r : List V -> Hp -> VK -> Prop} {F : List D -> Option D} {f : M (List D)} (hc : yC X (.builtin id) r) (hF : qay X.K F r) (hg : Gl X x) (hm : X.mg x = none) (hv : bootBuiltins x = some (.builtin id)) (ha : DA X c (e :: es) f) (hn : x ≠ "__name__" := by decide) (hdb : (x == ("__debug__" : Str)) = false := by decide)
  (he : starEach (e :: es) X.env = (false, eval e X.env) :: starEach es X.env := by rfl) (hpl : (backTo pos (starEach es X.env)).any (·.1) = false := by rfl) : DE X c (.Call (.Name x p) (e :: es) [] pos) (zq F f) := by
 obtain ⟨t, pa, w⟩ := ha
 exact ⟨_, qcv hc hg hm hv pa hn hdb he hpl, qlh hF w⟩
theorem qP {r : R2} {F : D -> D -> Option D} {f g : M D} (hr : IxR X r) (hF : OpS X.K F r) (ha : DE X c a f) (hb : DE X c b g) (hs : qb0 b := by intro _ _; rfl) : DE X c (.Subscript a b pos) (d2 F f g) := by
 obtain ⟨ta, pa, wa⟩ := ha
 obtain ⟨tb, pb, wb⟩ := hb
 exact ⟨_, qjv hr pa pb hs, op2 hF wa wb⟩
end
inductive Fl where
 | nx (ρ : Env) | rt (d : D) (ρ : Env) | bk (ρ : Env) | ct (ρ : Env)
structure GrS (O : List Nat) (Z : St) (H : Hp) (Z' : St) (H' : Hp) : Prop where
 ext : Ext (Cl O Z) H H'
 cl : ∀ b, Cl O Z b -> (H b).isSome = true -> Cl O Z' b
 dom : ∀ b, H' b = none -> H b = none
theorem qdn {H H' : Hp} {b : Addr} (dom : H' b = none -> H b = none) (h : (H b).isSome = true) : (H' b).isSome = true := by
 cases e : H' b with
 | none => rw [dom e] at h; cases h
 | some o => rfl
theorem GrS.refl {O : List Nat} {Z : St} {H : Hp} : GrS O Z H Z H := ⟨Ext.refl, fun _ h _ => h, fun _ h => h⟩
theorem Gr.s {O : List Nat} {Z : St} {H H' : Hp} (g : Gr O Z H H') : GrS O Z H Z H' := ⟨g.ext, fun _ h _ => h, g.dom⟩
theorem GrS.trans {O : List Nat} {Z Z1 Z2 : St} {H H1 H2 : Hp} (a : GrS O Z H Z1 H1) (b : GrS O Z1 H1 Z2 H2) : GrS O Z H Z2 H2 :=
 ⟨⟨fun c xs h => b.ext.tup c xs (a.ext.tup c xs h), fun c o u h => b.ext.frz c o u (a.ext.frz c o u h), fun c o hc h => b.ext.at_ c o (a.cl c hc (by rw [h]; rfl)) (a.ext.at_ c o hc h)⟩,
  fun c hc h => b.cl c (a.cl c hc h) (qdn (a.dom c) h), fun c h => a.dom c (b.dom c h)⟩
theorem GrS.is {K : Fr0} {c : Fc} {Z Z' : St} {H H' : Hp} {d : D} {v : V} (g : GrS c.O Z H Z' H') (h : Is K (Cn c Z) H d v) : Is K (Cn c Z') H' d v :=
 Is.ext ⟨g.ext.tup, g.ext.frz, fun b o hb h => g.ext.at_ b o hb.2 h⟩ (fun a ha hs => ⟨ha.1, g.cl a ha.2 hs⟩) h
theorem GrS.isL {K : Fr0} {c : Fc} {Z Z' : St} {H H' : Hp} {d : List D} {v : List V} (g : GrS c.O Z H Z' H') (h : IsL K (Cn c Z) H d v) : IsL K (Cn c Z') H' d v :=
 IsL.ext ⟨g.ext.tup, g.ext.frz, fun b o hb h => g.ext.at_ b o hb.2 h⟩ (fun a ha hs => ⟨ha.1, g.cl a ha.2 hs⟩) h
def WpS (K : Fr0) (c : Fc) (Z : St) (H : Hp) (D : qdO) : R Fl -> Prop
 | .ok (.nx ρ) => ∀ Z' H', Rep K c ρ Z' H' -> GrS c.O Z H Z' H' -> D.nx Z' H'
 | .ok (.rt d ρ) => ∀ v Z' H', Rep K c ρ Z' H' -> Is K c.B H' d v -> GrS c.O Z H Z' H' -> D.rt v H'
 | .ok (.bk ρ) => ∀ Z' H', Rep K c ρ Z' H' -> GrS c.O Z H Z' H' -> D.bk Z' H'
 | .ok (.ct ρ) => ∀ Z' H', Rep K c ρ Z' H' -> GrS c.O Z H Z' H' -> D.ct Z' H'
 | .exc x ρ => ∀ Z' H', Rep K c ρ Z' H' -> GrS c.O Z H Z' H' -> c.E x H'
 | .bad => False
abbrev MS := Env -> R Fl
def DS (X : Cx) (c : Fc) (st : Stmt) (f : MS) : Prop := ∃ t, PS X st t /\ ∀ ρ Z H D, Rep X.K c ρ Z H -> WpS X.K c Z H D (f ρ) -> t D Z H
def DSs (X : Cx) (c : Fc) (st : List Stmt) (f : MS) : Prop := ∃ t, PSs X st t /\ ∀ ρ Z H D, Rep X.K c ρ Z H -> WpS X.K c Z H D (f ρ) -> t D Z H
theorem WpS.gr {K : Fr0} {c : Fc} {Z Z1 : St} {H H1 : Hp} {D : qdO} : ∀ {r : R Fl}, WpS K c Z H D r -> GrS c.O Z H Z1 H1 -> WpS K c Z1 H1 D r
 | .ok (.nx ρ), h, g => fun Z' H' hr hg => h Z' H' hr (g.trans hg)
 | .ok (.rt d ρ), h, g => fun v Z' H' hr hi hg => h v Z' H' hr hi (g.trans hg)
 | .ok (.bk ρ), h, g => fun Z' H' hr hg => h Z' H' hr (g.trans hg)
 | .ok (.ct ρ), h, g => fun Z' H' hr hg => h Z' H' hr (g.trans hg)
 | .exc x ρ, h, g => fun Z' H' hr hg => h Z' H' hr (g.trans hg)
 | .bad, h, _ => h
def sbnd {α : Type} (f : M α) (k : α -> MS) : MS := fun ρ => match f ρ with
 | .ok (a, ρ') => k a ρ'
 | .exc x ρ' => .exc x ρ'
 | .bad => .bad
section
variable {K : Fr0} {c : Fc} {Z : St} {H : Hp} {D : qdO}
theorem Wp.sbnd {f : M Sk.D} {k : Sk.D -> MS} {ρ : Env} {Q' : VK} (h : WpS K c Z H D (sbnd f k ρ)) (hQ : ∀ d ρ' v H', Rep K c ρ' Z H' -> Is K (Cn c Z) H' d v -> Gr c.O Z H H' -> WpS K c Z H' D (k d ρ') -> Q' v H') : Wp K c Z H Q' (f ρ) := by
 unfold Sk.sbnd at h
 cases e : f ρ with
 | ok p => rw [e] at h; exact fun v H' hr hi hg => hQ p.1 p.2 v H' hr hi hg (h.gr hg.s)
 | exc x ρ' => rw [e] at h; exact fun H' hr hg => h Z H' hr hg.s
 | bad => rw [e] at h; exact h
theorem WpB.sbnd {f : M Bool} {k : Bool -> MS} {ρ : Env} {Q' : Bool -> Hp -> Prop} (h : WpS K c Z H D (sbnd f k ρ)) (hQ : ∀ d ρ' H', Rep K c ρ' Z H' -> Gr c.O Z H H' -> WpS K c Z H' D (k d ρ') -> Q' d H') : WpB K c Z H Q' (f ρ) := by
 unfold Sk.sbnd at h
 cases e : f ρ with
 | ok p => rw [e] at h; exact fun H' hr hg => hQ p.1 p.2 H' hr hg (h.gr hg.s)
 | exc x ρ' => rw [e] at h; exact fun H' hr hg => h Z H' hr hg.s
 | bad => rw [e] at h; exact h
theorem WpL.sbnd {f : M (List Sk.D)} {k : List Sk.D -> MS} {ρ : Env} {Q' : List V -> Hp -> Prop} (h : WpS K c Z H D (sbnd f k ρ)) (hQ : ∀ d ρ' v H', Rep K c ρ' Z H' -> IsL K (Cn c Z) H' d v -> Gr c.O Z H H' -> WpS K c Z H' D (k d ρ') -> Q' v H') : WpL K c Z H Q' (f ρ) := by
 unfold Sk.sbnd at h
 cases e : f ρ with
 | ok p => rw [e] at h; exact fun v H' hr hi hg => hQ p.1 p.2 v H' hr hi hg (h.gr hg.s)
 | exc x ρ' => rw [e] at h; exact fun H' hr hg => h Z H' hr hg.s
 | bad => rw [e] at h; exact h
end
def qS (f g : MS) : MS := fun ρ => match f ρ with
 | .ok (.nx ρ') => g ρ'
 | r => r
theorem WpS.mono_nx {K : Fr0} {c : Fc} {Z : St} {H : Hp} {D : qdO} {f g : MS} {ρ : Env} {N : St -> Hp -> Prop} (h : WpS K c Z H D (qS f g ρ)) (hN : ∀ ρ' Z' H', Rep K c ρ' Z' H' -> GrS c.O Z H Z' H' -> WpS K c Z' H' D (g ρ') -> N Z' H') :
  WpS K c Z H { D with nx := N } (f ρ) := by
 unfold qS at h
 cases e : f ρ with
 | ok fl =>
  rw [e] at h
  cases fl with
  | nx ρ' => exact fun Z' H' hr hg => hN ρ' Z' H' hr hg (h.gr hg)
  | rt d ρ' => exact h
  | bk ρ' => exact h
  | ct ρ' => exact h
 | exc x ρ' => rw [e] at h; exact h
 | bad => rw [e] at h; exact h
section
variable {X : Cx} {c : Fc} {a b e : Expr} {pos : Pos} {st : Stmt} {sts : List Stmt}
theorem qhA : DSs X c [] (fun ρ => .ok (.nx ρ)) := ⟨_, qhd, fun ρ Z H D r h => h Z H r .refl⟩
theorem qi {f : MS} (h : DS X c st f) : DSs X c [st] f := by
 obtain ⟨t, p, w⟩ := h
 exact ⟨t, qhe p, w⟩
theorem qf {f g : MS} (h : DS X c st f) (hr : DSs X c sts g) : DSs X c (st :: sts) (qS f g) := by
 obtain ⟨t, p, w⟩ := h
 obtain ⟨t2, p2, w2⟩ := hr
 exact ⟨_, qfp p p2, fun ρ Z H D r h => w ρ Z H _ r (h.mono_nx fun ρ' Z' H' r' g' h' => w2 ρ' Z' H' D r' h')⟩
def j8 (f : M D) : MS := sbnd f fun d ρ => .ok (.rt d ρ)
theorem Is.cn {K : Fr0} {Z : St} {H : Hp} {d : D} {v : V} (h : Is K (Cn c Z) H d v) : Is K c.B H d v := Is.ext Ext.refl (fun _ h _ => h.1) h
theorem qH {f : M D} (h : DE X c e f) : DS X c (.Return (some e) pos) (j8 f) := by
 obtain ⟨t, p, w⟩ := h
 exact ⟨_, qi8 p, fun ρ Z H D r h => w ρ Z H _ r (Wp.sbnd h fun d ρ1 v H1 r1 i1 g1 h1 => h1 v Z H1 r1 i1.cn .refl)⟩
def yo (f : M D) : MS := sbnd f fun _ ρ => .ok (.nx ρ)
theorem yV {f : M D} (h : DE X c e f) (hs : swapsWith e none pos.line X.env = pure false := by rfl) : DS X c (.Expr e pos) (yo f) := by
 obtain ⟨t, p, w⟩ := h
 exact ⟨_, qhf p hs, fun ρ Z H D r h => w ρ Z H _ r (Wp.sbnd h fun d ρ1 v H1 r1 i1 g1 h1 => h1 Z H1 r1 .refl)⟩
def sif (f : M Bool) (g k : MS) : MS := sbnd f fun b => if b then g else k
theorem vx {t : Expr} {s1 s2 : List Stmt} {f : M Bool} {g k : MS} (ht : DT X c t f) (ha : DSs X c s1 g) (hb : DSs X c s2 k) : DS X c (.If t s1 s2 pos) (sif f g k) := by
 obtain ⟨tt, pt, wt⟩ := ht
 obtain ⟨ta, pa, wa⟩ := ha
 obtain ⟨tb, pb, wb⟩ := hb
 refine ⟨_, qk0 pt pa pb, fun ρ Z H D rp h => wt ρ Z H _ rp (WpB.sbnd h fun d ρ1 H1 r1 g1 h1 => ?_)⟩
 cases d with
 | true => exact qiJ (wa ρ1 Z H1 D r1 (by simpa using h1))
 | false => exact qiI (wb ρ1 Z H1 D r1 (by simpa using h1))
theorem qfB : DS X c st (fun _ => .bad) := ⟨_, qfq, fun ρ Z H D rp h => h.elim⟩
theorem qY {α : Type} {l : List α} {i j : Nat} {v : α} (h : j ≠ i) : (l.set i v)[j]? = l[j]? := List.getElem?_set_ne (Ne.symm h)
theorem Cl.set {O : List Nat} {Z : St} {i : Nat} {v : Option V} (hi : i ∉ O) (a : Addr) : Cl O (Z.set i v) a ↔ Cl O Z a := by
 constructor
 ·intro h j hj
  have e : j ≠ i := fun e => hi (e ▸ hj)
  have := h j hj
  rw [qY e] at this
  exact this
 ·intro h j hj
  have e : j ≠ i := fun e => hi (e ▸ hj)
  rw [qY e]
  exact h j hj
theorem Rep.set {K : Fr0} {ρ : Env} {Z : St} {H : Hp} {i : Nat} {d : D} {v : V} (r : Rep K c ρ Z H) (hi : i ∉ c.O) (h : Is K (Cn c Z) H d v) : Rep K c (ρ.set i (some d)) (Z.set i (some v)) H where
 len := by rw [lS_, lS_]; exact r.len
 val := fun j e hj => by
  have up : ∀ {d' : D} {v' : V}, Is K (Cn c Z) H d' v' -> Is K (Cn c (Z.set i (some v))) H d' v' := fun h => Is.ext Ext.refl (fun a ha _ => ⟨ha.1, (Cl.set hi a).mpr ha.2⟩) h
  by_cases e1 : j = i
  ·subst e1
   have hl : j < ρ.length := by
    have := (gI_.mp hj).1
    rwa [lS_] at this
   rw [List.getElem?_set_self hl] at hj
   cases hj
   refine ⟨v, List.getElem?_set_self (by rw [<- r.len]; exact hl), .inr ⟨hi, up h⟩⟩
  ·rw [qY e1] at hj
   obtain ⟨w, h1, h2⟩ := r.val j e hj
   refine ⟨w, by rw [qY e1]; exact h1, ?_⟩
   rcases h2 with ⟨hj2, ds, a, xs, h3, h5, h6, h7⟩ | ⟨h3, h4⟩
   ·exact .inl ⟨hj2, ds, a, xs, h3, h5, h6, IsL.ext Ext.refl (fun a ha _ => ⟨ha.1, (Cl.set hi a).mpr ha.2⟩) h7⟩
   ·exact .inr ⟨h3, up h4⟩
 own := fun j hj w h => by
  have e1 : j ≠ i := fun e => hi (e ▸ hj)
  rw [qY e1] at h
  exact r.own j hj w h
 inj := fun j k a hj hk h1 h2 => by
  have e1 : j ≠ i := fun e => hi (e ▸ hj)
  have e2 : k ≠ i := fun e => hi (e ▸ hk)
  rw [qY e1] at h1
  rw [qY e2] at h2
  exact r.inj j k a hj hk h1 h2
 b0 := r.b0
 kp := r.kp
 dm := r.dm
 pO := r.pO
 ps := fun j hj => by
  have e : j ≠ i := fun e => hi (e ▸ r.pO j hj)
  rw [qY e]; exact r.ps j hj
theorem GrS.set {O : List Nat} {Z : St} {H : Hp} {i : Nat} {v : Option V} (hi : i ∉ O) : GrS O Z H (Z.set i v) H := ⟨Ext.refl, fun b h _ => (Cl.set hi b).mpr h, fun _ h => h⟩
def zY (i : Nat) (f : M D) : MS := sbnd f fun d ρ => .ok (.nx (ρ.set i (some d)))
theorem qZ {i : Nat} {x : Str} {pos' : Pos} {f : M D} (hN : X.N.Nodup) (he : DE X c e f) (ho : i ∉ c.O := by exact of_decide_eq_false rfl) (hi : X.N[i]? = some x := by rfl) (hx : Loc X.env.scope x := by first | exact Or.inl rfl | exact Or.inr rfl) (hs : swapsWith e (some (.Name x pos')) pos.line X.env = pure false := by rfl) (hf : X.fn x = true \/ X.env.scope.names.lookup x = some .local := by first | exact .inl rfl | exact .inr rfl | assumption) :
  DS X c (.Assign [.Name x pos'] e pos) (zY i f) := by
 obtain ⟨t, p, w⟩ := he
 refine ⟨_, qdP hN hi hx p hs hf, fun ρ Z H D r h => w ρ Z H _ r (Wp.sbnd h fun d ρ1 v H1 r1 i1 g1 h1 => ?_)⟩
 exact h1 _ H1 (r1.set ho i1) (.set ho)
def DG (X : Cx) (c : Fc) (tg : Expr) (f : D -> Env -> Option Env) : Prop := ∃ g, PG X tg g /\ ∀ ρ Z H d v ρ' (N : St -> Hp -> Prop), Rep X.K c ρ Z H -> Is X.K (Cn c Z) H d v -> f d ρ = some ρ' ->
 (∀ Z', Rep X.K c ρ' Z' H -> GrS c.O Z H Z' H -> (∀ j ∈ c.O, Z'[j]? = Z[j]?) -> N Z' H) -> g v Z H N
def qk (i : Nat) : D -> Env -> Option Env := fun d ρ => some (ρ.set i (some d))
theorem qx {i : Nat} {x : Str} (hN : X.N.Nodup) (ho : i ∉ c.O := by exact of_decide_eq_false rfl) (hi : X.N[i]? = some x := by rfl) (hx : Loc X.env.scope x := by first | exact Or.inl rfl | exact Or.inr rfl) (hf : X.fn x = true \/ X.env.scope.names.lookup x = some .local := by first | exact .inl rfl | exact .inr rfl | assumption) {p : Pos} : DG X c (.Name x p) (qk i) := by
 refine ⟨_, qhg hN hi hx hf, fun ρ Z H d v ρ' N r h e k => ?_⟩
 cases e
 exact k _ (r.set ho h) (.set ho) fun j hj => qY fun e => ho (e ▸ hj)
def DGs (X : Cx) (c : Fc) (tgs : List Expr) (f : List D -> Env -> Option Env) : Prop := ∃ g, PGs X tgs g /\ ∀ ρ Z H ds vs ρ' (N : St -> Hp -> Prop), Rep X.K c ρ Z H -> IsL X.K (Cn c Z) H ds vs -> f ds ρ = some ρ' ->
 (∀ Z', Rep X.K c ρ' Z' H -> GrS c.O Z H Z' H -> (∀ j ∈ c.O, Z'[j]? = Z[j]?) -> N Z' H) -> g vs Z H N
def vy : List D -> Env -> Option Env
 | [], ρ => some ρ
 | _, _ => none
def qD (f : D -> Env -> Option Env) (g : List D -> Env -> Option Env) : List D -> Env -> Option Env
 | d :: ds, ρ => (f d ρ).bind (g ds)
 | _, _ => none
theorem yD : DGs X c [] vy := by
 refine ⟨_, qhh, fun ρ Z H ds vs ρ' N r h e k => ?_⟩
 cases ds with
 | nil =>
  cases e
  exact ⟨h, k Z r .refl fun _ _ => rfl⟩
 | cons d ds => cases e
theorem qE {tg : Expr} {tgs : List Expr} {f : D -> Env -> Option Env} {g : List D -> Env -> Option Env} (h1 : DG X c tg f) (h2 : DGs X c tgs g)
  (hs : (assignEach (tg :: tgs) X.env).map (·.2) = assign tg X.env :: (assignEach tgs X.env).map (·.2) := by rfl) : DGs X c (tg :: tgs) (qD f g) := by
 obtain ⟨t1, p1, w1⟩ := h1
 obtain ⟨t2, p2, w2⟩ := h2
 refine ⟨_, qfr p1 p2 hs, fun ρ Z H ds vs ρ' N r h e k => ?_⟩
 cases ds with
 | nil => cases e
 | cons d ds =>
  obtain ⟨v, ws, rfl, i1, i2⟩ := h
  have e' : (f d ρ).bind (g ds) = some ρ' := e
  cases e1 : f d ρ with
  | none => rw [e1] at e'; cases e'
  | some ρ1 =>
   rw [e1] at e'
   exact ⟨v, ws, rfl, w1 ρ Z H d v ρ1 _ r i1 e1 fun Z1 r1 g1 o1 => w2 ρ1 Z1 H ds ws ρ' N r1 (g1.isL i2) e' fun Z2 r2 g2 o2 => k Z2 r2 (g1.trans g2) fun j hj => (o2 j hj).trans (o1 j hj)⟩
def vz (n : Nat) (g : List D -> Env -> Option Env) : D -> Env -> Option Env
 | .tup ds, ρ => if ds.length = n then g ds ρ else none
 | _, _ => none
theorem uM {es : List Expr} {k n : Nat} {p : Pos} {g : List D -> Env -> Option Env} (hc : X.calm = true) (h : DGs X c es g) (hn : (assignEach es X.env).length = n := by rfl) (hst : (assignEach es X.env).findIdx? (·.1) = none := by rfl) : DG X c (.Tuple es k p) (vz n g) := by
 obtain ⟨t, p, w⟩ := h
 refine ⟨_, qjb (n := n) hc p hn hst, fun ρ Z H d v ρ' N r h e q => ?_⟩
 cases d with
 | tup ds =>
  obtain ⟨a, xs, rfl, ta, il⟩ := h
  have e' : (if ds.length = n then g ds ρ else none) = some ρ' := e
  by_cases hl : ds.length = n
  ·rw [if_pos hl] at e'
   exact ⟨a, xs, rfl, ta.sq, by rw [il.length]; exact hl, w ρ Z H ds xs ρ' N r il e' q⟩
  ·rw [if_neg hl] at e'; cases e'
 | _ => cases e
def qhB (f : M D) (g : D -> Env -> Option Env) : MS := sbnd f fun d ρ => match g d ρ with
 | some ρ' => .ok (.nx ρ')
 | none => .bad
theorem qea {tg : Expr} {f : M D} {g : D -> Env -> Option Env} (he : DE X c e f) (hg : DG X c tg g) (hs : swapsWithSole [tg] e pos.line X.env = pure false := by rfl) (hw : swappedStores [tg] e X.env = pure none := by rfl) (h1 : (assignEach [tg] X.env).map (·.2) = [assign tg X.env] := by rfl) : DS X c (.Assign [tg] e pos) (qhB f g) := by
 obtain ⟨t, p, w⟩ := he
 obtain ⟨t2, p2, w2⟩ := hg
 refine ⟨_, qgr p p2 hs hw h1, fun ρ Z H D r h => w ρ Z H _ r (Wp.sbnd h fun d ρ1 v H1 r1 i1 g1 h1 => ?_)⟩
 cases e : g d ρ1 with
 | none => rw [e] at h1; exact h1.elim
 | some ρ2 =>
  rw [e] at h1
  exact w2 ρ1 Z H1 d v ρ2 _ r1 i1 e fun Z' r2 g2 _ => h1 Z' H1 r2 g2
end
section
variable {K : Fr0}
def iiD (g : Int -> Int -> D) : D -> D -> Option D
 | .int i, .int j => some (g i j)
 | _, _ => none
def qiL (C : Int -> Int -> Bool) (g : Int -> Int -> D) : D -> D -> Option D
 | .int i, .int j => if C i j then some (g i j) else none
 | _, _ => none
theorem vX {g : Int -> Int -> V} {gD : Int -> Int -> D} (hg : ∀ A H i j, Is K A H (gD i j) (g i j)) : OpS K (iiD gD) (rI0 g) := by
 intro A H x y d v u Q hn ix iy e k
 cases x <;> cases y <;> simp only [iiD] at e <;> try (cases e; done)
 rename_i i j
 cases (Option.some.inj e)
 cases (show v = .int i from ix)
 cases (show u = .int j from iy)
 exact ⟨i, j, rfl, rfl, k _ H (zX.refl H) (hg _ _ _ _)⟩
theorem qgy {C : Int -> Int -> Prop} {CB : Int -> Int -> Bool} {g : Int -> Int -> V} {gD : Int -> Int -> D} (hC : ∀ i j, CB i j = true -> C i j) (hg : ∀ A H i j, Is K A H (gD i j) (g i j)) : OpS K (qiL CB gD) (rI C g) := by
 intro A H x y d v u Q hn ix iy e k
 cases x <;> cases y <;> simp only [qiL] at e <;> try (cases e; done)
 rename_i i j
 obtain ⟨e1, e2⟩ := zE e
 subst e2
 cases (show v = .int i from ix)
 cases (show u = .int j from iy)
 exact ⟨i, j, rfl, rfl, hC i j e1, k _ H (zX.refl H) (hg _ _ _ _)⟩
def qae : D -> D -> Option D := iiD fun i j => .int (i - j)
theorem u8 : OpS K qae (rI0 fun i j => .int (i - j)) := vX fun _ _ _ _ => rfl
def jB (i : Int) : Bool := decide (-(2 ^ 64) < i) && decide (i < 2 ^ 64)
theorem qbo {i : Int} (h : jB i = true) : -(2 ^ 64) < i /\ i < 2 ^ 64 := by
 unfold jB at h
 rw [Bool.and_eq_true] at h
 exact ⟨of_decide_eq_true h.1, of_decide_eq_true h.2⟩
def qeb (i j : Int) : Bool := jB i || jB j
theorem qfC {i j : Int} (h : qeb i j = true) : qji i j := by
 unfold qeb at h
 rw [Bool.or_eq_true] at h
 rcases h with h | h
 ·exact .inl (qbo h)
 ·exact .inr (qbo h)
def qdo (i j : Int) : Bool := decide (0 < j) && decide (j < 1606938044258990275541962092341162602522202993782792835301376)
theorem qcA {i j : Int} (h : qdo i j = true) : qjh i j := by
 unfold qdo at h
 rw [Bool.and_eq_true] at h
 exact ⟨of_decide_eq_true h.1, of_decide_eq_true h.2⟩
def vA : D -> D -> Option D := qiL qdo fun i j => .int (i / j)
theorem uN : OpS K vA (rI qjh fun i j => .int (i / j)) := qgy (fun _ _ => qcA) fun _ _ _ _ => rfl
def qaf : D -> D -> Option D := qiL (fun _ j => decide (0 < j)) fun i j => .int (i % j)
theorem u9 : OpS K qaf (rI (fun _ j => 0 < j) fun i j => .int (i % j)) := qgy (fun _ _ h => of_decide_eq_true h) fun _ _ _ _ => rfl
def ltD : D -> D -> Option D := iiD fun i j => .bl (decide (i < j))
def leD : D -> D -> Option D := iiD fun i j => .bl (decide (i <= j))
def gtD : D -> D -> Option D := iiD fun i j => .bl (decide (j < i))
def geD : D -> D -> Option D := iiD fun i j => .bl (decide (j <= i))
theorem qgz : OpS K ltD (rI0 fun i j => .bl (decide (i < j))) := vX fun _ _ _ _ => rfl
theorem qec : OpS K leD (rI0 fun i j => .bl (decide (i <= j))) := vX fun _ _ _ _ => rfl
theorem vY : OpS K gtD (rI0 fun i j => .bl (decide (j < i))) := vX fun _ _ _ _ => rfl
theorem qed : OpS K geD (rI0 fun i j => .bl (decide (j <= i))) := vX fun _ _ _ _ => rfl
def sc2 : D -> D -> Option Bool
 | .non, .non => some true | .non, .int _ => some false | .int _, .non => some false | .non, .bl _ => some false | .bl _, .non => some false | .non, .str _ => some false | .str _, .non => some false
 | .int i, .int j => some (decide (i = j)) | .bl i, .bl j => some (decide (i = j)) | .str i, .str j => some (decide (i = j))
 | .int _, .str _ => some false | .str _, .int _ => some false | .bl _, .str _ => some false | .str _, .bl _ => some false
 | _, _ => none
def eqS (x y : D) : Option D := (sc2 x y).map D.bl
def neS (x y : D) : Option D := (sc2 x y).map fun b => D.bl (!b)
theorem qgA {A : Addr -> Prop} {H : Hp} {x y : D} {v u : V} {b : Bool} (ix : Is K A H x v) (iy : Is K A H y u) (e : sc2 x y = some b) : qk6 v u = true /\ decide (v = u) = b := by
 cases x <;> cases y <;> simp only [sc2] at e <;> first
  | (cases e; done)
  | (cases ix; cases iy; cases e; exact ⟨rfl, rfl⟩)
  | (cases ix; cases iy; cases e; exact ⟨rfl, by simp⟩)
  | (cases ix; cases iy; cases e; exact ⟨rfl, by rw [Bool.eq_iff_iff]; simp⟩)
theorem qhC : OpS K eqS rEq := by
 intro A H x y d v u Q hn ix iy e k
 unfold eqS at e
 cases e1 : sc2 x y with
 | none => rw [e1] at e; cases e
 | some b =>
  rw [e1] at e
  cases e
  obtain ⟨h1, h2⟩ := qgA ix iy e1
  exact ⟨h1, by rw [h2]; exact k _ H (zX.refl H) rfl⟩
theorem qhD : OpS K neS rNe := by
 intro A H x y d v u Q hn ix iy e k
 unfold neS at e
 cases e1 : sc2 x y with
 | none => rw [e1] at e; cases e
 | some b =>
  rw [e1] at e
  cases e
  obtain ⟨h1, h2⟩ := qgA ix iy e1
  exact ⟨h1, by rw [h2]; exact k _ H (zX.refl H) rfl⟩
def yM : D -> Bool
 | .non => true
 | _ => false
theorem vJ {A : Addr -> Prop} {H : Hp} {x : D} {v : V} (ix : Is K A H x v) : decide (v = V.non) = yM x := by
 cases x with
 | non => cases ix; rfl
 | bl b => cases ix; rfl
 | int i => cases ix; rfl
 | str s => cases ix; rfl
 | tup ds => obtain ⟨a, xs, rfl, _⟩ := ix; rfl
 | lst ds => obtain ⟨a, xs, rfl, _⟩ := ix; rfl
 | dic ds => obtain ⟨a, rfl, _⟩ := ix; rfl
 | fz ds => obtain ⟨a, rfl, _⟩ := ix; rfl
 | exc ds => obtain ⟨a, rfl, _⟩ := ix; rfl
def isN (x y : D) : Option D := if yM y then some (.bl (yM x)) else none
def qjD (x y : D) : Option D := if yM y then some (.bl (!yM x)) else none
theorem vZ : OpS K isN (fun x y H Q => y = .non /\ Q (.bl (decide (x = .non))) H) := by
 intro A H x y d v u Q hn ix iy e k
 obtain ⟨e1, e2⟩ := zE e
 subst e2
 have h := vJ iy
 rw [e1] at h
 refine ⟨of_decide_eq_true h, ?_⟩
 rw [vJ ix]
 exact k _ H (zX.refl H) rfl
theorem qfD : OpS K qjD (fun x y H Q => y = .non /\ Q (.bl (!decide (x = .non))) H) := by
 intro A H x y d v u Q hn ix iy e k
 obtain ⟨e1, e2⟩ := zE e
 subst e2
 have h := vJ iy
 rw [e1] at h
 refine ⟨of_decide_eq_true h, ?_⟩
 rw [vJ ix]
 exact k _ H (zX.refl H) rfl
def ixD : D -> D -> Option D
 | .tup ds, .int i => atI ds i
 | .lst ds, .int i => atI ds i
 | .fz ns, .int i => (atI ns i).map D.int
 | _, _ => none
theorem IsL.atI {A : Addr -> Prop} {H : Hp} {ds : List D} {xs : List V} {i : Int} {d : D} (h : IsL K A H ds xs) (e : L2.atI ds i = some d) : ∃ v, L2.atI xs i = some v /\ Is K A H d v := by
 unfold L2.atI at e |-
 rw [h.length]
 cases e1 : ixN ds.length i with
 | none => rw [e1] at e; cases e
 | some j =>
  rw [e1] at e
  exact h.get e
theorem qy : OpS K ixD (fun x y H Q => qld K x y H Q \/ qle K x y H Q) := by
 intro A H x y d v u Q hn ix iy e k
 cases x <;> cases y <;> simp only [ixD] at e <;> try (cases e; done)
 ·rename_i ds i
  cases iy
  obtain ⟨a, xs, rfl, ta, il⟩ := ix
  obtain ⟨w, h1, h2⟩ := il.atI e
  exact .inr ⟨a, xs, i, w, rfl, rfl, ta.sq, h1, k w H (zX.refl H) h2⟩
 ·rename_i ds i
  cases iy
  obtain ⟨a, xs, rfl, _, ta, il⟩ := ix
  obtain ⟨w, h1, h2⟩ := il.atI e
  exact .inl ⟨a, xs, i, w, rfl, rfl, .inl (.inl ta), h1, k w H (zX.refl H) h2⟩
 ·rename_i ns i
  cases iy
  obtain ⟨a, rfl, ta⟩ := ix
  cases e1 : L2.atI ns i with
  | none => rw [e1] at e; cases e
  | some m =>
   rw [e1] at e
   cases e
   have h1 : L2.atI (ns.map V.int) i = some (V.int m) := by
    unfold L2.atI at e1 |-
    rw [lM_]
    cases e2 : ixN ns.length i with
    | none => rw [e2] at e1; cases e1
    | some j =>
     rw [e2] at e1
     have e3 : ns[j]? = some m := e1
     show (ns.map V.int)[j]? = some (V.int m)
     rw [gM_, e3]; rfl
   exact .inl ⟨a, _, i, .int m, rfl, rfl, ta.sq, h1, k _ H (zX.refl H) rfl⟩
theorem IsL.inv1 {A : Addr -> Prop} {H : Hp} {d : D} {vs : List V} (h : IsL K A H [d] vs) : ∃ v, vs = [v] /\ Is K A H d v := by
 obtain ⟨x, ys, e1, e2, e3⟩ := h
 have e3' : ys = [] := e3
 exact ⟨x, by rw [e1, e3'], e2⟩
theorem IsL.inv2 {A : Addr -> Prop} {H : Hp} {d d' : D} {vs : List V} (h : IsL K A H [d, d'] vs) : ∃ v w, vs = [v, w] /\ Is K A H d v /\ Is K A H d' w := by
 obtain ⟨x, ys, e1, e2, e3⟩ := h
 obtain ⟨w, e4, e5⟩ := IsL.inv1 e3
 exact ⟨x, w, by rw [e1, e4], e2, e5⟩
def qm4 : List D -> Option D
 | [.int i] => some (.int (if i < 0 then -i else i))
 | _ => none
def qb2 : List D -> Option D
 | [.int i, .int j] => some (.int (if j > i then j else i))
 | _ => none
def qfE : List D -> Option D
 | [.int i, .int j] => some (.int (if j < i then j else i))
 | _ => none
theorem qbp : qay K qb2 (fun xs H Q => ∃ i j, xs = [.int i, .int j] /\ Q (.int (if j > i then j else i)) H) := by
 intro A H xs d vs Q hn h e k
 unfold qb2 at e
 split at e
 ·rename_i i j
  obtain ⟨v, w, rfl, e2, e3⟩ := IsL.inv2 h
  cases e2; cases e3; cases e
  exact ⟨i, j, rfl, k _ H (zX.refl H) rfl⟩
 ·cases e
theorem qee : qay K qfE (fun xs H Q => ∃ i j, xs = [.int i, .int j] /\ Q (.int (if j < i then j else i)) H) := by
 intro A H xs d vs Q hn h e k
 unfold qfE at e
 split at e
 ·rename_i i j
  obtain ⟨v, w, rfl, e2, e3⟩ := IsL.inv2 h
  cases e2; cases e3; cases e
  exact ⟨i, j, rfl, k _ H (zX.refl H) rfl⟩
 ·cases e
def v0 : List D -> Option D
 | [.int i, .int j] => if qdo i j then some (.tup [.int (i / j), .int (i % j)]) else none
 | _ => none
theorem qbq : qay K v0 (fun xs H Q => ∃ i j, xs = [.int i, .int j] /\ qjh i j /\ ∀ p, H p = none -> Q (.ref p) (upd H p (.tup [.int (i / j), .int (i % j)]))) := by
 intro A H xs d vs Q hn h e k
 unfold v0 at e
 split at e
 ·rename_i i j
  obtain ⟨v, w, rfl, e2, e3⟩ := IsL.inv2 h
  cases e2; cases e3
  obtain ⟨e6, e7⟩ := zE e
  subst e7
  exact ⟨i, j, rfl, qcA e6, fun p hp => k _ _ (qs hp _) ⟨p, _, rfl, .inl qo, _, _, rfl, rfl, _, _, rfl, rfl, rfl⟩⟩
 ·cases e
def qmK : List D -> Option D
 | [.int i] => some (.int i)
 | [.bl b] => some (.int (if b then 1 else 0))
 | _ => none
def qaz : List D -> Option D
 | [.tup ds] => some (.int ds.length)
 | [.lst ds] => some (.int ds.length)
 | [.fz ns] => some (.int ns.length)
 | [.str x] => if qI x.length then some (.int x.length) else none
 | _ => none
def ql0 (K : Fr0) : List V -> Hp -> VK -> Prop := fun xs H Q => (∃ p ys, xs = [.ref p] /\ (SqL K H p ys \/ SqT K H p ys) /\ Q (.int ys.length) H) \/ (∃ z, xs = [.str z] /\ z.length <= sizeLine /\ Q (.int z.length) H)
theorem jR {X : Cx} : yC X (.builtin "len") (ql0 X.K) := yC.or qbj qbk
theorem jS : qay K qaz (ql0 K) := by
 intro A H xs d vs Q hn h e k
 unfold qaz at e
 split at e
 ·obtain ⟨v, rfl, a, zs, rfl, ta, il⟩ := IsL.inv1 h
  cases e
  exact .inl ⟨a, zs, rfl, .inr ta.sq, by rw [il.length]; exact k _ H (zX.refl H) rfl⟩
 ·obtain ⟨v, rfl, a, zs, rfl, _, ta, il⟩ := IsL.inv1 h
  cases e
  exact .inl ⟨a, zs, rfl, .inl (.inl (.inl ta)), by rw [il.length]; exact k _ H (zX.refl H) rfl⟩
 ·obtain ⟨v, rfl, a, rfl, ta⟩ := IsL.inv1 h
  cases e
  exact .inl ⟨a, _, rfl, .inl ta.sq, by rw [lM_]; exact k _ H (zX.refl H) rfl⟩
 ·rename_i z
  obtain ⟨v, rfl, e2⟩ := IsL.inv1 h
  cases e2
  obtain ⟨e4, e5⟩ := zE e
  subst e5
  exact .inr ⟨z, rfl, of_decide_eq_true e4, k _ H (zX.refl H) rfl⟩
 ·cases e
def ql1 : List D -> Option D
 | [.tup ds] => some (.tup ds)
 | [.lst ds] => some (.tup ds)
 | _ => none
end
end L2.Sk
namespace L2.Sk
open PySem PySem.Spec PySem.Calls PyProof.Rows PySem.W
def qgB (h : Heap) (a D : Addr) : Prop := ∃ o, h.get? a = some o /\ o.cls = .ref D
theorem qgB.looks {M : Model} {h : Heap} {a D : Addr} (I : qgB h a D) : Looks M h (typeOf (.ref a)) (.ref D) := by
 obtain ⟨o, h1, h2⟩ := I
 rw [<- h2]
 exact (Looks.ld h1).andThen .now
section
variable {prog : Program} {w : World} {A : Around} {E : Value -> Shared -> Prop} {K : Frag} {h : Heap} {g : Array GenState} {d : Drawn} {t : Nat} {os : OsState} {a D : Addr}
theorem qjE (hm : mroIn K D (.type "object") = some true) {tp : Value} {R : Result -> Shared -> Prop} (X : K.In h) (I : qgB h a D) (hq : R (.ok (.ret (.ref D))) ⟨h, g, d, t, os⟩) :
  codeAny (model prog w) A (.call (.builtin "getset_descriptor.__get__") ⟨[.builtin "object.__class__", .ref a, tp], []⟩) R ⟨h, g, d, t, os⟩ := by
 have L0 := I.looks (M := model prog w)
 have L1 := looks_mroIn (M := model prog w) X hm
 have hT5 : (⟨h, g, d, t, os⟩ : Shared).TypeIs (.builtin "object.__class__") "getset_descriptor" := F.typeOf_object_class
 refine codeAny_call_builtin F.slot_gs_get.plain F.entry_gs_get (F.slot_gs_get.check _ _ _ _ _ _ _ _ hT5 (F.args_gs_get _ _ _) ?_)
 have eo : ".".intercalate ("object.__class__".cutAt '.').dropLast = "object" := by decide +kernel
 repeat (any_goals (first | assumption | with_reducible refine L0.at ?_ | with_reducible refine L1.at ?_ | wp_step))
 rw [eo]
 refine L1.at ?_
 repeat (any_goals (first | assumption | with_reducible refine L0.at ?_ | wp_step))
 refine ⟨Code.quiet_builtin _ (by decide +kernel), codeAny_builtin F.entry_object_class ?_⟩
 repeat (any_goals (first | assumption | with_reducible refine L0.at ?_ | wp_step))
theorem qfF (ha : findIn K (.ref D) "__class__" = some (some (.builtin "object.__class__"))) (hm : mroIn K D (.type "object") = some true) {tk : Tok} {Q : Fin -> Shared -> Prop} (X : K.In h) (I : qgB h a D) (hq : Q (.done (.ret (.ref D))) ⟨h, g, d, t, os⟩) :
  wpAny (model prog w) A (Builtin.«object.__getattribute__» ⟨[.ref a, .str "__class__" tk], []⟩) Q E ⟨h, g, d, t, os⟩ := by
 have L0 := I.looks (M := model prog w)
 have L1 := looks_findIn (M := model prog w) X ha
 have hT5 : (⟨h, g, d, t, os⟩ : Shared).TypeIs (.builtin "object.__class__") "getset_descriptor" := F.typeOf_object_class
 have f5 := F.typeOf_object_class
 have f6 := F.slot_gs_get.lookup
 have f7 := F.slot_gs_set.lookup
 repeat (any_goals (first | assumption | with_reducible refine L0.at ?_ | with_reducible refine L1.at ?_ | wp_step))
 refine qjE hm X I ?_
 repeat (any_goals (first | assumption | wp_step))
theorem qfG (hb : Looks (model prog w) h (isSubtype (.ref D) (.type "BaseException")) true) {nameV : Value} {Q : Unit -> Shared -> Prop} (I : qgB h a D) (hq : Q () ⟨h, g, d, t, os⟩) : wpAny (model prog w) A (checkBuiltinCall "BaseException.__getattribute__" ⟨[.ref a, nameV], []⟩) Q E ⟨h, g, d, t, os⟩ := by
 have hk : builtinKind "BaseException.__getattribute__" = some .slot := by decide +kernel
 have hsplit : splitId "BaseException.__getattribute__" = some ("BaseException", "__getattribute__") := by decide +kernel
 have L0 := I.looks (M := model prog w)
 have ha := F.args_bexc_ga (.ref a) nameV
 simp only [checkBuiltinCall, hk, hsplit]
 refine wpAny_bind ?_
 ·unfold isInstance
  repeat (first | with_reducible refine L0.at ?_ | with_reducible refine hb.at ?_ | wp_step)
  exact hq
theorem qli (FA : ExcAttrFacts "ValueError") (hga : findIn K (.ref D) "__getattribute__" = some (some (.builtin "BaseException.__getattribute__"))) (hgt : findIn K (.ref D) "__getattr__" = some none) (ha : findIn K (.ref D) "__class__" = some (some (.builtin "object.__class__"))) (hm : mroIn K D (.type "object") = some true)
  (hb : Looks (model prog w) h (isSubtype (.ref D) (.type "BaseException")) true) {tk : Tok} {fill expr : Bool} {Q : Value -> Shared -> Prop} (X : K.In h) (I : qgB h a D) (hq : Q (.ref D) ⟨h, g, d, t, os⟩) :
  wpAny (model prog w) A (getAttrBy (.ref a) (.str "__class__" tk) fill expr) Q E ⟨h, g, d, t, os⟩ := by
 have L0 := I.looks (M := model prog w)
 have L1 := looks_findIn (M := model prog w) X hga
 have L2 := looks_findIn (M := model prog w) X hgt
 have f3 := FA.ga.bind (.ref a)
 have hx0 : (expr && onTheHeap (Value.builtin "BaseException.__getattribute__")) = false := by cases expr <;> rfl
 have hx2 : (Value.builtin "BaseException.__getattribute__" == Value.builtin "object.__getattribute__") = false := by decide +kernel
 have hx1 : (onTheHeap (Value.ref D) && Value.builtin "BaseException.__getattribute__" == Value.builtin "object.__getattribute__") = false := by rw [hx2]; rfl
 repeat (any_goals (first | assumption | with_reducible refine L0.at ?_ | with_reducible refine L1.at ?_ | with_reducible refine L2.at ?_ | wp_step))
 refine codeAny_call_builtin FA.ga.plain F.entry_bexc_ga (qfG hb I (qfF ha hm X I ?_))
 repeat (any_goals (first | assumption | wp_step))
theorem qhE (FA : ExcAttrFacts "ValueError") (hga : findIn K (.ref D) "__getattribute__" = some (some (.builtin "BaseException.__getattribute__"))) (hgt : findIn K (.ref D) "__getattr__" = some none) (ha : findIn K (.ref D) "__class__" = some (some (.builtin "object.__class__"))) (hm : mroIn K D (.type "object") = some true)
  (hb : Looks (model prog w) h (isSubtype (.ref D) (.type "BaseException")) true) {Q : Option Value -> Shared -> Prop} (X : K.In h) (I : qgB h a D) (hq : Q (some (.ref D)) ⟨h, g, d, t + 1, os⟩) :
  wpAny (model prog w) A (getAttr? (.ref a) "__class__") Q E ⟨h, g, d, t, os⟩ := by
 unfold getAttr? getAttrBy?
 repeat (any_goals (first | assumption | with_reducible apply qli FA hga hgt ha hm hb X I | wp_step))
end
theorem qfH {K : Frag} {a D : Addr} (c : XK6 K D) : KitX K (.ref a) (.ref D) (fun h => qgB h a D) where
 ty := fun _ _ _ I => I.looks
 it := fun _ _ X _ => by
  obtain ⟨cdD, hcD⟩ := Option.isSome_iff_exists.mp c.is
  unfold clsIn at hcD
  split at hcD
  ·rename_i c' d' cd' sl' ho
   intro A' Q' E' s' k q
   unfold isType loadHead
   exact wpAny_bind (wpAny_loadPart (k _ _ (X _ _ ho)) (wpAny_pure q))
  ·cases hcD
 ne := fun h tp dd its n sl X htp => by
  obtain ⟨cdD, hcD⟩ := Option.isSome_iff_exists.mp c.is
  refine Bool.eq_false_iff.mpr fun q => ?_
  have e : D = tp := Value.ref.inj (beq_iff_eq.mp q)
  subst e
  unfold clsIn at hcD
  split at hcD
  ·rename_i c' d' cd' sl' ho
   have z := (X _ _ ho).symm.trans htp
   cases z
  ·cases hcD
 ca := fun {prog w A E Q s} X p k => by
  have I := p
  obtain ⟨h, g, d, t, os⟩ := s
  exact qhE PySem.F.attrBase_ValueError.toExcAttrFacts c.ga c.gt c.cl c.ob (looks_subIn X c.be) X I k
theorem qdp {X : Cx} {pins : List (Addr × Obj)} {Z : St} {H : Hp} {s : Shared} {A : Around} {E : Value -> Shared -> Prop} {Q : Value -> Shared -> Prop} {a C : Addr} {c : Value} {b : Bool} (I : Inv X pins Z H s) (xc : XK6 X.K C) (hH : ∃ o vs, H a = some (.frz o (.own a)) /\ o.cls = .ref C /\ o.data = .fields vs)
  (e : kitOne X.K (.ref C) c = some b) (h : ∀ tk, Q (.bool b) { s with toks := tk }) : wpAny (model X.prog X.w) A (call (.builtin "isinstance") [.ref a, c]) Q E s := by
 obtain ⟨o, vs, h1, h2, _⟩ := hH
 obtain ⟨p, _⟩ := (show jQ X.prog X.w H s.heap a (.frz o (.own a)) from I.hok a _ h1)
 exact kia_one (qfH xc) I.kIn ⟨o, p, h2⟩ e (fun z => nomatch z) h
end L2.Sk
namespace L2.Sk
open PySem PySem.Spec PyProof.Rows
def tyD : D -> String
 | .non => "NoneType"
 | .bl _ => "bool"
 | .int _ => "int"
 | .str _ => "str"
 | .tup _ => "tuple"
 | .lst _ => "list"
 | .dic _ => "dict"
 | .fz _ => "list"
 | .exc _ => "exc"
def qb3 (t T : String) : Bool := t == T || (t == "bool" && T == "int")
def qdq : List String := ["NoneType", "bool", "int", "str", "tuple", "list", "dict"]
theorem qhF (d : D) (h : ∀ C, d ≠ .exc C) : tyD d ∈ qdq := by
 cases d <;> first | (simp [tyD, qdq]; done) | exact absurd rfl (h _)
structure qiM (K : Fr0) (T : String) : Prop where
 ok : ∀ t ∈ qdq, PySem.W.kitOne K (.type t) (.type T) = some (qb3 t T)
 ex : T ∈ ["int", "bool", "str", "tuple", "list", "dict"]
 nx : qb3 "exc" T = false
theorem qhG {K : Fr0} : qiM K "int" := ⟨fun t ht => by
 simp only [qdq, List.mem_cons, nN_, or_false] at ht
 rcases ht with rfl | rfl | rfl | rfl | rfl | rfl | rfl <;> kernel_rfl, by decide, by decide⟩
theorem qfI {K : Fr0} : qiM K "bool" := ⟨fun t ht => by
 simp only [qdq, List.mem_cons, nN_, or_false] at ht
 rcases ht with rfl | rfl | rfl | rfl | rfl | rfl | rfl <;> kernel_rfl, by decide, by decide⟩
theorem qbr {K : Fr0} : qiM K "tuple" := ⟨fun t ht => by
 simp only [qdq, List.mem_cons, nN_, or_false] at ht
 rcases ht with rfl | rfl | rfl | rfl | rfl | rfl | rfl <;> kernel_rfl, by decide, by decide⟩
section
variable {X : Cx} {pins : List (Addr × Obj)} {Z : St} {H : Hp} {s : Shared} {A : Addr -> Prop} {E : Value -> Shared -> Prop} {Q : Value -> Shared -> Prop}
theorem qjF {d : D} {v : V} {u : Value} {T : String} (I : Inv X pins Z H s) (h : Is X.K A H d v) (rv : jf v u) (kt : qiM X.K T) (hQ : ∀ tk, Q (.bool (qb3 (tyD d) T)) { s with toks := tk }) :
  wpAny (model X.prog X.w) X.A (call (.builtin "isinstance") [u, .type T]) Q E s := by
 by_cases hx : ∃ C, d = .exc C
 ·obtain ⟨C, rfl⟩ := hx
  obtain ⟨a, rfl, xa⟩ := h
  cases (show u = Value.ref a from rv)
  have q : ∀ tk, Q (.bool false) { s with toks := tk } := fun tk => by
   have := hQ tk
   rw [show tyD (.exc C) = "exc" from rfl, kt.nx] at this
   exact this
  obtain ⟨D0, h0, h1, h2⟩ := xa
  exact qdp I h1 h2 (h1.no T kt.ex) q
 have e := kt.ok (tyD d) (qhF d fun C hC => hx ⟨C, hC⟩)
 cases d with
 | exc C => exact absurd ⟨C, rfl⟩ hx
 | non => cases h; exact yj I rv .non e hQ
 | bl b => cases h; exact yj I rv (.bl b) e hQ
 | int i => cases h; exact yj I rv (.int i) e hQ
 | str x => cases h; exact yj I rv (.str x) e hQ
 | tup ds =>
  obtain ⟨a, xs, rfl, ta, il⟩ := h
  cases (show u = Value.ref a from rv)
  obtain ⟨its, r, p, z⟩ := I.tuple ta.sq
  obtain ⟨o, h1, h2, _⟩ := p
  exact PySem.W.kia_one PySem.W.kitx_tuple I.kIn ⟨o, h1, h2⟩ e (fun z => nomatch z) hQ
 | lst ds =>
  obtain ⟨a, xs, rfl, hA, ta, il⟩ := h
  exact yj I rv (.lst ta) e hQ
 | dic kvs =>
  obtain ⟨a, rfl, hA, ta⟩ := h
  exact yj I rv (.dK ta) e hQ
 | fz ns =>
  obtain ⟨a, rfl, ta⟩ := h
  cases (show u = Value.ref a from rv)
  obtain ⟨its, r, p, z⟩ := I.list ta.sq
  obtain ⟨o, h1, h2, _⟩ := p.isList
  exact PySem.W.kia_one PySem.W.kitx_list I.kIn ⟨o, h1, h2⟩ e (fun z => nomatch z) hQ
end
def qhH (T : String) (f : M D) : M D := bnd f fun d => ret (.bl (qb3 (tyD d) T))
section
variable {X : Cx} {c : Fc} {a b e : Expr} {pos : Pos}
def qmL (K : Fr0) (T : String) : List V -> Hp -> VK -> Prop := fun xs H Q => ∃ v d A, xs = [v, .ty T] /\ Is K A H d v /\ Q (.bl (qb3 (tyD d) T)) H
theorem qfJ {T : String} (kt : qiM X.K T) : yC X (.builtin "isinstance") (qmL X.K T) := by
 intro pins s Z H xs us Q I r h
 obtain ⟨v, d, A, rfl, hi, q⟩ := h
 obtain ⟨u, w, rfl, r1, r2⟩ := qN.two r
 cases (show w = Value.type T from r2)
 exact qjF I hi r1 kt fun tk => ⟨.bl _, H, I.tok tk, rfl, q⟩
theorem qcB {T : String} {x : Str} {p p2 : Pos} {f : M D} (kt : qiM X.K T) (hg : Gl X "isinstance") (hm : X.mg "isinstance" = none) (hg2 : Gl X x) (hm2 : X.mg x = none) (hv2 : bootBuiltins x = some (.type T)) (ha : DE X c a f)
  (hv : bootBuiltins "isinstance" = some (.builtin "isinstance") := by first | rfl | exact PySem.boot_isinstance) (hn2 : x ≠ "__name__" := by decide) (hdb2 : (x == ("__debug__" : Str)) = false := by decide)
  (he : starEach [a, .Name x p2] X.env = (false, eval a X.env) :: starEach [.Name x p2] X.env := by rfl) (hpl : (backTo pos (starEach [.Name x p2] X.env)).any (·.1) = false := by rfl) : DE X c (.Call (.Name "isinstance" p) [a, .Name x p2] [] pos) (qhH T f) := by
 obtain ⟨t, pa, w⟩ := ha
 refine ⟨_, qcv (qfJ kt) hg hm hv (uv pa (uv (qhb (v := .ty T) hg2 hm2 hv2 rfl hn2 hdb2) qbd (by rfl)) he) (by decide) (by decide) he hpl, fun ρ Z H Q r h => w ρ Z H _ r (Wp.bnd h fun d ρ1 v H1 r1 i1 g1 h1 => ?_)⟩
 exact ⟨v, d, _, rfl, i1, h1 _ H1 r1 rfl .refl⟩
end
def uO : List D -> Option (List Bool)
 | [] => some []
 | .bl b :: r => (uO r).map (b :: ·)
 | _ => none
def vB : List D -> Option (List Int)
 | [] => some []
 | .int i :: r => (vB r).map (i :: ·)
 | _ => none
theorem v3 {K : Fr0} {A : Addr -> Prop} {H : Hp} : ∀ {ds : List D} {xs : List V} {bs : List Bool}, IsL K A H ds xs -> uO ds = some bs -> xs = bs.map V.bl
 | [], _, _, h, e => by cases e; exact h
 | .bl b :: r, _, bs, ⟨x, ys, hx, h1, h2⟩, e => by
  cases h1
  cases e1 : uO r with
  | none => simp [uO, e1] at e
  | some l =>
   simp [uO, e1] at e
   subst e
   rw [hx, v3 h2 e1]; rfl
 | .non :: _, _, _, _, e => by cases e
 | .int _ :: _, _, _, _, e => by cases e
 | .str _ :: _, _, _, _, e => by cases e
 | .tup _ :: _, _, _, _, e => by cases e
 | .lst _ :: _, _, _, _, e => by cases e
 | .dic _ :: _, _, _, _, e => by cases e
 | .fz _ :: _, _, _, _, e => by cases e
 | .exc _ :: _, _, _, _, e => by cases e
theorem qag {K : Fr0} {A : Addr -> Prop} {H : Hp} : ∀ {ds : List D} {xs : List V} {bs : List Int}, IsL K A H ds xs -> vB ds = some bs -> xs = bs.map V.int
 | [], _, _, h, e => by cases e; exact h
 | .int b :: r, _, bs, ⟨x, ys, hx, h1, h2⟩, e => by
  cases h1
  cases e1 : vB r with
  | none => simp [vB, e1] at e
  | some l =>
   simp [vB, e1] at e
   subst e
   rw [hx, qag h2 e1]; rfl
 | .non :: _, _, _, _, e => by cases e
 | .bl _ :: _, _, _, _, e => by cases e
 | .str _ :: _, _, _, _, e => by cases e
 | .tup _ :: _, _, _, _, e => by cases e
 | .lst _ :: _, _, _, _, e => by cases e
 | .dic _ :: _, _, _, _, e => by cases e
 | .fz _ :: _, _, _, _, e => by cases e
 | .exc _ :: _, _, _, _, e => by cases e
theorem qfK {bs : List Bool} : ∀ {us : List Value}, qN (bs.map V.bl) us -> LSm.BoolsAre us bs := by
 induction bs with
 | nil => intro us r; rw [List.map_nil] at r; cases r; exact .nil
 | cons b bs ih =>
  intro us r
  rw [mC_] at r
  cases r with
  | cons r1 r2 =>
   cases (show _ = Value.bool b from r1)
   exact .cons b (ih r2)
section
variable {X : Cx}
theorem qfL (hc : X.calm = true) : yC X (.builtin "all") (fun xs H Q => ∃ (p : Addr) (bs : List Bool), xs = [.ref p] /\ H p = some (.lst (bs.map V.bl)) /\ Q (.bl (bs.all id)) H) := by
 intro pins s Z H xs us Q I r h
 obtain ⟨p, bs, rfl, hp, q⟩ := h
 obtain ⟨u, rfl, ru⟩ := qN.one r
 cases ru
 obtain ⟨its, rv, pl, hz⟩ := I.list (SqL.of hp)
 have hl := pl.isList
 have hb := qfK rv
 have hlt : p < s.heap.objs.size := by obtain ⟨_, e, _⟩ := hl; exact Heap.lt_size e
 refine call_all_walk (wpAny_pyIter_list hl ?_)
 refine ⟨s.heap.objs.size, [s.heap.objs.size, p], [s.heap.objs.size], its.toArray.size, _, _, fun i => (bs[i]?).getD true, rfl, Walks.list (A := X.A.in1) (I.ok.hd hc) _ p (Nat.ne_of_lt hlt) its.toArray,
  ⟨⟨_, Heap.get?_push_size _ rfl, rfl, rfl⟩, hl.push _⟩, fun i v s' Q' E' hP hQ => ?_, fun h' tk hk => ?_⟩
 ·obtain ⟨b, e, rfl⟩ := hb.get i v (by simpa using hP)
  simp only [e, Option.getD_some] at hQ
  exact wpAny_truthy_bool hQ
 ·have e : ((List.range its.toArray.size).all fun i => (bs[i]?).getD true) = bs.all id := by
   rw [sT_, hb.length]; exact LSm.range_all bs
  rw [e]
  exact ⟨.bl _, H, I.kept (LSm.kept_iter hk), rfl, q⟩
end
def qiN : List D -> Option D
 | [.lst ds] => (uO ds).map fun bs => .bl (bs.all id)
 | _ => none
section
variable {K : Fr0}
theorem qef : qay K qiN (fun xs H Q => ∃ (p : Addr) (bs : List Bool), xs = [.ref p] /\ H p = some (.lst (bs.map V.bl)) /\ Q (.bl (bs.all id)) H) := by
 intro A H xs d vs Q hn h e k
 unfold qiN at e
 split at e
 ·obtain ⟨v, rfl, a, zs, rfl, _, ta, il⟩ := IsL.inv1 h
  obtain ⟨bs, h1, h2⟩ := Option.map_eq_some_iff.mp e
  subst h2
  rw [v3 il h1] at ta
  exact ⟨a, bs, rfl, ta, k _ H (zX.refl H) rfl⟩
 ·cases e
end
section
variable {X : Cx}
def qgC (K : Fr0) : R2 := fun x y H Q => ∃ a b ys, x = .ref a /\ y = .ref b /\ SqT K H a [] /\ SqT K H b ys /\ Q (.ref b) H
theorem qfM : OpR X (binaryOp .Add) (qgC X.K) := by
 intro pins s Z H x y v u Q I rx ry h
 obtain ⟨a, b, ys, rfl, rfl, ha, hb, q⟩ := h
 cases rx
 cases ry
 obtain ⟨its, r1, p1, _⟩ := I.tuple ha
 obtain ⟨its2, r2, p2, _⟩ := I.tuple hb
 cases r1
 obtain ⟨⟨cls, dd, data, sl⟩, ho, hc, n, hd⟩ := id p1
 obtain ⟨⟨cls2, dd2, data2, sl2⟩, ho2, hc2, n2, hd2⟩ := id p2
 simp only at hc hd hc2 hd2
 subst hc hd hc2 hd2
 exact concat_meets ⟨_, ho, rfl⟩ ⟨_, ho2, rfl⟩ noFill_tuple_add seq_tuple_add PySem.F.slot_tuple_add PySem.F.entry_tuple_add (PySem.F.args_tuple_add_2 _ _)
   (tuple_addW0 a b [].toArray its2.toArray n n2 dd dd2 sl sl2 (by simp)) ⟨ho, ho2, ⟨.ref b, H, I, rfl, q⟩⟩
def qjG (K : Fr0) : R2 := fun x y H Q => (∃ i j, x = .int i /\ y = .int j /\ Q (.int (i + j)) H) \/ ((∃ i j, x = .str i /\ y = .str j /\ i.length + j.length <= sizeLine /\ Q (.str (i ++ j)) H) \/ (qgC K x y H Q \/ (qju K x y H Q \/ qlX x y H Q)))
theorem qQ : OpR X (binaryOp .Add) (qjG X.K) := OpR.or qjj (OpR.or qdg (OpR.or qfM (OpR.or qhv qjz)))
end
def zP : D -> D -> Option D
 | .int i, .int j => some (.int (i + j))
 | .str x, .str y => if qI (x.length + y.length) then some (.str (x ++ y)) else none
 | .tup xs, .tup ys => if qI (xs.length + ys.length) then some (.tup (xs ++ ys)) else none
 | .lst xs, .lst ys => if qI (xs.length + ys.length) then some (.lst (xs ++ ys)) else none
 | _, _ => none
theorem qR {K : Fr0} : OpS K zP (qjG K) := by
 intro A H x y d v u Q hn ix iy e k
 cases x <;> cases y <;> simp only [zP] at e <;> try (cases e; done)
 ·rename_i i j
  cases ix; cases iy; cases e
  exact .inl ⟨i, j, rfl, rfl, k _ H (zX.refl H) rfl⟩
 ·rename_i i j
  cases ix; cases iy
  obtain ⟨e1, e2⟩ := zE e
  subst e2
  exact .inr (.inl ⟨i, j, rfl, rfl, of_decide_eq_true e1, k _ H (zX.refl H) rfl⟩)
 ·rename_i ds es
  obtain ⟨a, xs, rfl, ta, il⟩ := ix
  obtain ⟨b, ys, rfl, tb, jl⟩ := iy
  obtain ⟨e1, e2⟩ := zE e
  subst e2
  have hs : xs.length + ys.length <= sizeLine := by rw [il.length, jl.length]; exact of_decide_eq_true e1
  refine .inr (.inr ?_)
  cases ds with
  | nil =>
   have hx : xs = [] := il
   subst hx
   exact .inl ⟨a, b, ys, rfl, rfl, ta.sq, tb.sq, k _ H (zX.refl H) ⟨b, ys, rfl, tb, jl⟩⟩
  | cons d0 ds =>
   refine .inr (.inl ⟨a, b, xs, ys, rfl, rfl, ta.sq, tb.sq, ?_, hs, fun hy => ?_, fun hy p hp => ?_⟩)
   ·obtain ⟨x, zs, hx, _⟩ := il
    rw [hx]; simp
   ·subst hy
    cases es with
    | nil => rw [List.append_nil] at k; exact k _ H (zX.refl H) ⟨a, xs, rfl, ta, il⟩
    | cons e0 es => obtain ⟨_, _, hx, _⟩ := jl; cases hx
   ·exact k _ _ (qs hp _) ⟨p, xs ++ ys, rfl, .inl qo, IsL.ext (Ext.of_same (qs hp _)) (fun _ h _ => h) (IsL.append il jl)⟩
 ·rename_i ds es
  obtain ⟨a, xs, rfl, hA, ta, il⟩ := ix
  obtain ⟨b, ys, rfl, hB, tb, jl⟩ := iy
  obtain ⟨e1, e2⟩ := zE e
  subst e2
  have hs : xs.length + ys.length <= sizeLine := by rw [il.length, jl.length]; exact of_decide_eq_true e1
  exact .inr (.inr (.inr (.inr ⟨a, b, xs, ys, rfl, rfl, ta, tb, hs, fun p hp => k _ _ (qs hp _) ⟨p, xs ++ ys, rfl, hn p hp, qo, IsL.ext (Ext.of_same (qs hp _)) (fun _ h _ => h) (IsL.append il jl)⟩⟩)))
section
variable {X : Cx}
def ql2 (K : Fr0) : V -> Option Int -> Option Int -> Hp -> VK -> Prop := fun x lo hi H Q => ∃ a xs, x = .ref a /\ SqT K H a xs /\ (HT.sIx xs.length 0 lo = 0 /\ HT.sIx xs.length xs.length hi = xs.length) /\ Q (.ref a) H
theorem ux {prog : Program} {w : World} {A : Around} {E : Value -> Shared -> Prop} {s : Shared} {t sl : Addr} {items : Array Value} {vl vu : Value} {lo hi : Option Int} {Q : Value -> Shared -> Prop} (ht : IsTup s.heap t items) (hs : s.heap.IsSliceOf sl vl vu .none) (pl : IsPart vl lo) (pu : IsPart vu hi)
  (hw : HT.sIx items.size 0 lo = 0 /\ HT.sIx items.size items.size hi = items.size) (h : Q (.ref t) s) : wpAny (model prog w) A (getItem (.ref t) (.ref sl)) Q E s := by
 obtain ⟨os, hos, hcs, hds⟩ := id hs
 have hTs : s.TypeIs (.ref sl) "slice" := ⟨os, hos, hcs⟩
 unfold getItem
 try with_reducible refine wpAny_holding ?_
 first | refine wpAny_bind (wpAny_pure ?_) | skip
 refine wpAny_bind (wpAny_sequenceKey ht.typeIs (by decide) ?_)
 refine wpAny_bind (wpAny_callSpecial?_slot (name := Str.ofString "__getitem__") ht.typeIs PyProof.Rows.slot_tuple_getitem
  (wpAny_call_entry PyProof.Rows.slot_tuple_getitem ht.typeIs entry_tuple_getitem ?_ (args_tuple_getitem _ _)))
 show wpAny _ _ (Builtin.Tuple.tupleItemsOf (.ref t) >>= _) _ _ s
 refine wpAny_bind (tupleItemsOf_ ht ?_)
 refine wpAny_bind (wpAny_typeOf hTs ?_)
 rw [if_pos (by decide)]
 refine wpAny_bind (HT.sliceApplied_gen hs pl pu ?_)
 have hyes : (((HT.sIx items.size 0 lo : Nat) : Int) == 0 && (1 : Int) == 1 && (HT.sIx items.size items.size hi - HT.sIx items.size 0 lo) == items.size) = true := by
  rw [hw.1, hw.2]; simp
 show wpAny _ _ (if (((HT.sIx items.size 0 lo : Nat) : Int) == 0 && (1 : Int) == 1 && (HT.sIx items.size items.size hi - HT.sIx items.size 0 lo) == items.size) = true then _ else _) _ _ s
 rw [if_pos hyes]
 refine wpAny_bind (m := Builtin.Tuple.tupleIsExact (.ref t)) ?_
 unfold Builtin.Tuple.tupleIsExact
 refine wpAny_bind (wpAny_typeOf ht.typeIs ?_)
 refine wpAny_pure ?_
 rw [if_pos (by decide)]
 exact wpAny_bind (wpAny_rule (wpAny_pure ⟨_, rfl, wpAny_pure h⟩))
theorem qfN : SlR X (ql2 X.K) := by
 intro pins s Z H x v vl vu lo hi sl Q I rx hs pl pu h
 obtain ⟨a, xs, rfl, hx, hw, q⟩ := h
 cases rx
 obtain ⟨its, r, ht, hz⟩ := I.tuple hx
 have hlen : its.toArray.size = xs.length := by rw [sT_]; exact r.length.symm
 refine ⟨"tuple", _, PyProof.Rows.slot_tuple_getitem.lookup, ht.typeIs, ?_⟩
 exact ux ht hs pl pu (by rw [hlen]; exact hw) ⟨.ref a, H, I, rfl, q⟩
theorem qjH : SlR X (fun x lo hi H Q => ql2 X.K x lo hi H Q \/ qlW X.K x lo hi H Q) := SlR.or qfN sl_tup
end
def qbW (xs : List D) (lo hi : Option Int) : List D := (xs.drop (HT.sIx xs.length 0 lo)).take (HT.sIx xs.length xs.length hi - HT.sIx xs.length 0 lo)
def slD (x : D) (lo hi : Option Int) : Option D := match x with
 | .tup ds => some (.tup (qbW ds lo hi))
 | _ => none
section
variable {X : Cx} {c : Fc} {a b e : Expr} {pos p2 : Pos}
def DO (X : Cx) (c : Fc) (e : Option Expr) (f : M (Option Int)) : Prop := ∃ t, PO X e t /\ ∀ ρ Z H Q, Rep X.K c ρ Z H -> (∀ o ρ', f ρ = .ok (o, ρ') -> ∀ H', Rep X.K c ρ' Z H' -> Gr c.O Z H H' -> Q o H') -> (∀ x ρ', f ρ = .exc x ρ' -> ∀ H', Rep X.K c ρ' Z H' -> Gr c.O Z H H' -> c.E x H') -> f ρ ≠ .bad -> t Z H Q
theorem qaA : DO X c none (ret none) := ⟨_, qht, fun ρ Z H Q r h _ _ => h none ρ rfl H r .refl⟩
def asI : D -> Option Int
 | .int i => some i
 | _ => none
def vC (f : M D) : M (Option Int) := bnd f fun d => match d with
 | .int i => ret (some i)
 | _ => fun _ => .bad
theorem qaB {f : M D} (h : DE X c e f) : DO X c (some e) (vC f) := by
 obtain ⟨t, p, w⟩ := h
 refine ⟨_, qhu p, fun ρ Z H Q r h1 h2 h3 => w ρ Z H _ r ?_⟩
 unfold vC bnd at h1 h2 h3
 cases e1 : f ρ with
 | ok q =>
  obtain ⟨d, ρ'⟩ := q
  rw [e1] at h1 h2 h3
  intro v H' r' i' g'
  cases d <;> simp only [ret] at h1 h2 h3 <;> try (exact absurd rfl h3)
  rename_i i
  exact ⟨i, i', h1 (some i) ρ' rfl H' r' g'⟩
 | exc x ρ' => rw [e1] at h2; exact fun H' r' g' => h2 x ρ' rfl H' r' g'
 | bad => rw [e1] at h3; exact absurd rfl h3
def dsl (f : M D) (g k : M (Option Int)) : M D := bnd f fun d => bnd g fun l => bnd k fun u => lift (slD d l u)
end
def zf (X : Cx) (scope : Scope) (N' : List Str) (fp : List Addr) (cl : List (Str × Addr)) (C : Addr) (s₀ : Shared) (H₀ : Hp) (pn : List (Addr × Obj)) : Cx where
 prog := X.prog
 w := X.w
 K := X.K
 mg := X.mg
 base := X.base
 A := X.A
 N := N'
 s₀ := s₀
 H₀ := H₀
 env := compEnvC scope cl C X.env
 outer := X.stack
 stack := X.stack
 ex := fp
 fn := fun _ => false
 calm := X.calm
 pn := pn
 xe := fun _ _ => False
def PF (X : Cx) (ifs : List Expr) (t : TT) : Prop := ∀ (pins : List (Addr × Obj)) (s : Shared) (Z : St) (H : Hp) (Q : Bool -> Hp -> Prop), Inv X pins Z H s -> t Z H Q ->
 wpAny (model X.prog X.w) X.A (forIn ifs true fun c r => if r = true then do let ok <- isTrue c X.env (eval c X.env); pure (ForInStep.yield ok) else pure (ForInStep.yield r)) (TP X pins Z Q) X.xe s
theorem qjI {X : Cx} : PF X [] (fun _ H Q => Q true H) := fun pins s Z H Q I h => wpAny_tests_nil ⟨H, I, h⟩
theorem qjJ {X : Cx} {e : Expr} {t : TT} (h : PT X e t) : PF X [e] t := fun pins s Z H Q I hw => wpAny_tests_one (h pins s Z H Q I hw)
structure CompScope (X : Cx) (scope : Scope) (N' : List Str) (nt : Nat) (fr : List Nat) : Prop where
 kind : scope.kind = .function
 nocell : ∀ y ∈ scope.names, y.2 ≠ .cell
 names : ∀ y ∈ scope.names, y.2 = .local -> scope.names.lookup y.1 = some .local
 frees : ∀ y ∈ scope.names, y.2 = .free -> X.env.kindOf y.1 = some .cell
 len : N'.length = nt + fr.length
 slot : ∀ i j, fr[i]? = some j -> ∃ x, N'[nt + i]? = some x /\ X.N[j]? = some x /\ scope.names.lookup x = some .free
theorem va {env : PySem.Env} : ∀ (names : List (Str × NameKind)) (cs : List (Str × Addr)), (∀ y ∈ names, y.2 = .free -> ∃ a, env.cells.lookup y.1 = some a) -> (∀ n a, cs.lookup n = some a -> env.cells.lookup n = some a) ->
  ∃ cl, (forIn names cs fun x r => match x with | (name, kind) => if (kind == NameKind.free) = true then do let a <- cellOf env name; pure (ForInStep.yield ((name, a) :: r)) else pure (ForInStep.yield r) : Sem (List (Str × Addr))) = pure cl /\
   (∀ n a, cl.lookup n = some a -> env.cells.lookup n = some a) /\ (∀ n, (∃ a, cs.lookup n = some a) -> ∃ a, cl.lookup n = some a) /\ ∀ y ∈ names, y.2 = .free -> ∃ a, cl.lookup y.1 = some a
 | [], cs, _, h => ⟨cs, rfl, h, fun _ h => h, fun y hy => by cases hy⟩
 | (n, k) :: r, cs, hf, h => by
  have hr : ∀ y ∈ r, y.2 = .free -> ∃ a, env.cells.lookup y.1 = some a := fun y hy => hf y (mM _ hy)
  rw [List.forIn_cons]
  by_cases hk : k = .free
  ·subst hk
   obtain ⟨a, ha⟩ := hf (n, .free) mS_ rfl
   have ha' : env.cells.lookup n = some a := ha
   have hcell : cellOf env n = pure a := by unfold cellOf; rw [ha']
   obtain ⟨cl, e1, e2, e3, e4⟩ := va r ((n, a) :: cs) hr (fun m b hm => by
    rw [List.lookup_cons] at hm
    cases e : m == n with
    | true => rw [e] at hm; cases hm; rw [eq_of_beq e]; exact ha'
    | false => rw [e] at hm; exact h m b hm)
   refine ⟨cl, ?_, e2, fun m ⟨b, hm⟩ => e3 m ?_, fun y hy hyf => ?_⟩
   ·show ((if (NameKind.free == NameKind.free) = true then _ else _) >>= _) = _
    rw [if_pos (by rfl), hcell]
    exact e1
   ·rw [List.lookup_cons]
    cases e : m == n with
    | true => exact ⟨a, rfl⟩
    | false => exact ⟨b, hm⟩
   ·rcases List.mem_cons.mp hy with rfl | hy
    ·exact e3 n ⟨a, by rw [List.lookup_cons]; simp⟩
    ·exact e4 y hy hyf
  ·have hb : (k == NameKind.free) = false := by simpa using hk
   obtain ⟨cl, e1, e2, e3, e4⟩ := va r cs hr h
   refine ⟨cl, ?_, e2, e3, fun y hy hyf => ?_⟩
   ·show ((if (k == NameKind.free) = true then _ else _) >>= _) = _
    rw [hb, if_neg Bool.false_ne_true]
    exact e1
   ·rcases List.mem_cons.mp hy with rfl | hy
    ·exact absurd hyf hk
    ·exact e4 y hy hyf
theorem closureFor_ok {env : PySem.Env} {scope : Scope} (hf : ∀ y ∈ scope.names, y.2 = .free -> ∃ a, env.cells.lookup y.1 = some a) :
  ∃ cl, closureFor scope env = pure cl /\ (∀ n a, cl.lookup n = some a -> env.cells.lookup n = some a) /\ ∀ y ∈ scope.names, y.2 = .free -> ∃ a, cl.lookup y.1 = some a := by
 obtain ⟨cl, e1, e2, _, e4⟩ := va scope.names [] hf (fun n a h => by cases h)
 refine ⟨cl, ?_, e2, e4⟩
 unfold closureFor
 show (forIn scope.names [] _ >>= _) = _
 have e5 : (forIn scope.names [] fun x r => match x with | (name, kind) => if (kind == NameKind.free) = true then do let a <- cellOf env name; pure (ForInStep.yield ((name, a) :: r)) else pure (ForInStep.yield r) : Sem (List (Str × Addr))) = pure cl := e1
 first
  | (rw [e5]; rfl)
  | (simp only [bind_pure_comp, e5]; rfl)
theorem jT {env : PySem.Env} : ∀ {names : List (Str × NameKind)} {x : Str}, names.lookup x = some .free -> env.scope.kind = .function -> env.kindOf x = some .cell ->
  (names.map fun (n, k) => if (k == NameKind.free && env.scope.kind == .function && env.kindOf n == some .cell) then (n, NameKind.cell) else (n, k)).lookup x = some .cell
 | [], _, h, _, _ => by simp at h
 | (n, k) :: r, x, h, hk, hx => by
  have ih := @jT env r x
  show List.lookup x ((if (k == NameKind.free && env.scope.kind == .function && env.kindOf n == some .cell) = true then (n, NameKind.cell) else (n, k)) :: _) = _
  cases hxn : x == n with
  | true =>
   have e : x = n := eq_of_beq hxn
   subst e
   simp only [List.lookup_cons, hxn] at h
   cases h
   rw [if_pos (by rw [hk, hx]; rfl)]
   simp only [List.lookup_cons, hxn]
  | false =>
   simp only [List.lookup_cons, hxn] at h
   by_cases hc : (k == NameKind.free && env.scope.kind == .function && env.kindOf n == some .cell) = true
   ·rw [if_pos hc]; simp only [List.lookup_cons, hxn]; exact ih h hk hx
   ·rw [if_neg hc]; simp only [List.lookup_cons, hxn]; exact ih h hk hx
theorem jg {env : PySem.Env} : ∀ {names : List (Str × NameKind)} {x : Str} {q : NameKind}, (names.map fun (n, k) => if (k == NameKind.free && env.scope.kind == .function && env.kindOf n == some .cell) then (n, NameKind.cell) else (n, k)).lookup x = some q ->
  q = .cell \/ q = .free -> (∀ y ∈ names, y.2 ≠ .cell) -> ∃ k, (x, k) ∈ names /\ k = .free
 | [], _, _, h, _, _ => by simp at h
 | (n, k) :: r, x, q, h, hq, hc => by
  have ih := @jg env r x q
  have h' : List.lookup x ((if (k == NameKind.free && env.scope.kind == .function && env.kindOf n == some .cell) = true then (n, NameKind.cell) else (n, k)) :: (r.map fun (n, k) => if (k == NameKind.free && env.scope.kind == .function && env.kindOf n == some .cell) then (n, NameKind.cell) else (n, k))) = some q := h
  have hr : ∀ y ∈ r, y.2 ≠ .cell := fun y hy => hc y (mM _ hy)
  by_cases hcd : (k == NameKind.free && env.scope.kind == .function && env.kindOf n == some .cell) = true
  ·rw [if_pos hcd] at h'
   cases hxn : x == n with
   | true =>
    have e : x = n := eq_of_beq hxn
    subst e
    refine ⟨k, mS_, ?_⟩
    rw [Bool.and_eq_true, Bool.and_eq_true] at hcd
    exact eq_of_beq hcd.1.1
   | false =>
    simp only [List.lookup_cons, hxn] at h'
    obtain ⟨k', m, e⟩ := ih h' hq hr
    exact ⟨k', mM _ m, e⟩
  ·rw [if_neg hcd] at h'
   cases hxn : x == n with
   | true =>
    have e : x = n := eq_of_beq hxn
    subst e
    simp only [List.lookup_cons, hxn] at h'
    cases h'
    rcases hq with rfl | rfl
    ·exact absurd rfl (hc (x, .cell) mS_)
    ·exact ⟨.free, mS_, rfl⟩
   | false =>
    simp only [List.lookup_cons, hxn] at h'
    obtain ⟨k', m, e⟩ := ih h' hq hr
    exact ⟨k', mM _ m, e⟩
def qC (nt : Nat) (fr : List Nat) (Z : St) : St := List.replicate nt none ++ fr.map fun j => (Z[j]?).join
def qhI (X : Cx) (tg : Expr) (ifs : List Expr) (elt : Expr) (scope : Scope) (N' : List Str) (wi : TI) (nt : Nat) (fr : List Nat) : TE := fun Z H Q => wi Z H fun J H1 => ∀ acc fp cl C s₀ H₀ pn, H1 acc = none ->
 ∃ (g : TG) (tt : TT) (te : TE), PG (zf X scope N' fp cl C s₀ H₀ pn) tg g /\ PF (zf X scope N' fp cl C s₀ H₀ pn) ifs tt /\ PE (zf X scope N' fp cl C s₀ H₀ pn) elt te /\
 ∃ W : Nat -> Nat -> St -> Hp -> Prop, (∃ m, W 0 m (qC nt fr Z) (upd H1 acc (.lst []))) /\
 ∀ i m Z' H', W i m Z' H' -> (J.stop i H' /\ Q (.ref acc) H') \/ (J.go i H' /\ ∀ x H'', J.yld i H' x H'' -> g x Z' H'' fun Z2 H2 => tt Z2 H2 fun b H3 =>
  if b = true then te Z2 H3 fun y H4 => ∃ ys, H4 acc = some (.lst ys) /\ ys.length < sizeLine /\ ∃ m', m' < m /\ W (i + 1) m' Z2 (upd H4 acc (.lst (ys ++ [y]))) else ∃ m', m' < m /\ W (i + 1) m' Z2 H3)
section
variable {X : Cx} {tg iter elt : Expr} {ifs : List Expr} {scope : Scope} {pos : Pos} {wi : TI} {N' : List Str} {nt : Nat} {fr : List Nat}
theorem v4 {prog : Program} {w : World} {A : Around} {R : Result -> Shared -> Prop} {s : Shared} {it acc : Value} {env : PySem.Env} (I : Nat -> Shared -> Prop)
  (turn : ∀ n s, I n s -> wpAny (model prog w) A (pyNext it) (fun r s₁ => match r with
   | none => R (.ok .next) s₁
   | some v => wpAny (model prog w) A (letOwnedTupleGo tg it v) (fun _ s₁' => wpAny (model prog w) A (assign tg env v) (fun _ s₂ =>
     wpAny (model prog w) A (forIn ifs true fun c r => if r = true then do let ok <- isTrue c env (eval c env); pure (ForInStep.yield ok) else pure (ForInStep.yield r)) (fun ok s₃ =>
      if ok = true then wpAny (model prog w) A (eval elt env) (fun x s₄ =>
       wpAny (model prog w) A (call (.builtin "list.append") [acc, x]) (fun _ s₅ => ∃ m, m < n /\ I m s₅) (fun _ _ => False) s₄) (fun _ _ => False) s₃
      else ∃ m, m < n /\ I m s₃) (fun _ _ => False) s₂) (fun _ _ => False) s₁') (fun _ _ => False) s₁) (fun _ _ => False) s)
  (n : Nat) (h : I n s) : codeAny (model prog w) A (.compLoop (.ListComp elt [⟨tg, iter, ifs, 0⟩] scope pos) 0 it acc env) R s := by
 refine codeAny_loop rfl I (fun n s hI => ?_) n h
 show wpAny _ A ((compTurn (.ListComp elt [⟨tg, iter, ifs, 0⟩] scope pos) 0 it acc env).onRaise (fun x => do noteFrame x env; theTreesLotGoes x)) _ _ s
 refine wpAny_noted ?_
 rw [compTurn_list]
 refine wpAny_bind (wpAny_standAt (wpAny_bind (wpAny_mono (turn n s hI) (fun r s₁ h₁ => ?_) fun _ _ h' => h'.elim)))
 cases r with
 | none => exact wpAny_pure h₁
 | some v =>
  refine wpAny_bind (wpAny_mono h₁ (fun _ s₁' h₁' => ?_) fun _ _ h' => h'.elim)
  refine wpAny_bind (wpAny_mono h₁' (fun _ s₂ h₂ => wpAny_bind (wpAny_mono h₂ (fun ok s₃ h₃ => ?_) fun _ _ h' => h'.elim)) fun _ _ h' => h'.elim)
  cases ok with
  | false => exact wpAny_pure ⟨rfl, h₃⟩
  | true =>
   exact wpAny_bind (wpAny_bind (wpAny_mono h₃ (fun x s₄ h₄ => wpAny_bind (wpAny_mono h₄ (fun _ s₅ h₅ => wpAny_pure (wpAny_pure ⟨rfl, h₅⟩)) fun _ _ h' => h'.elim)) fun _ _ h' => h'.elim))
theorem qah {pins : List (Addr × Obj)} {Z : St} {H : Hp} {s : Shared} {h₁ : Heap} {tk : Nat} {fp : List Addr} {cl : List (Str × Addr)} (S : CompScope X scope N' nt fr) (I : Inv X pins Z H s) (hfp : ∀ b ∈ fp, qbV X pins H b)
  (hex : ∀ b ∈ fp, ∃ o, s.heap.get? b = some o) (cl1 : ∀ n a, cl.lookup n = some a -> X.env.cells.lookup n = some a) (cl2 : ∀ y ∈ scope.names, y.2 = .free -> ∃ a, cl.lookup y.1 = some a)
  (hns : ∃ m, h₁.Ns s.heap.objs.size m) (old : ∀ b o, s.heap.get? b = some o -> h₁.get? b = some o) :
  Inv (zf X scope N' fp cl s.heap.objs.size s H (X.pn ++ pins)) [] (qC nt fr Z) H { s with heap := h₁, toks := tk } := by
 have stkB : ∀ b ∈ frs X.stack, b = X.env.locals \/ b ∈ X.fs := fun b hb => List.mem_cons.mp (I.stkSub b hb)
 have hC : ∀ b o, s.heap.get? b = some o -> b ≠ s.heap.objs.size := fun b o e => Nat.ne_of_lt (Heap.lt_size e)
 obtain ⟨m, hn⟩ := hns
 refine ⟨⟨I.ok.mod, S.kind, I.ok.glob, I.ok.blt, Nat.le_refl _, fun x y c h1 h2 => I.ok.inj x y c (cl1 x c h1) (cl1 y c h2), fun x hx => ?_, fun x c hx => ?_, I.ok.hd, I.ok.frames, .inl rfl, fun b hb => ⟨?_, fun x c hx => (hfp b hb).2.2.2.2.1 x c (cl1 x c hx)⟩, I.bs, Nat.le_trans I.ok.bsz I.sz, fun b o e hb => ?_, fun b hb hb2 => ?_, I.stack, I.stkFree⟩,
  rfl, I.bare, Un.kept old, ⟨m, hn, fun i x v h1 h2 h3 => ?_⟩, fun x c hx => ?_, I.hok.fresh (Nat.le_refl _), fun x c hx => I.freeC x c (cl1 x c hx), fun p hp => ?_, I.hok.kept old, ?_⟩
 ·have hx' : ∃ k, (x, k) ∈ scope.names /\ k = .free := by
   rcases hx with hx | hx
   ·exact jg (env := X.env) (q := .cell) hx (.inl rfl) S.nocell
   ·exact jg (env := X.env) (q := .free) hx (.inr rfl) S.nocell
  obtain ⟨k, m, rfl⟩ := hx'
  exact cl2 (x, .free) m rfl
 ·have hx' : false = true := hx
  cases hx'
 ·obtain ⟨o, e⟩ := hex b hb
  exact hC b o e
 ·obtain ⟨f0, f1, f2, f3, f4, f5⟩ := hfp b hb
  rcases f3 with z | z
  ·exact I.ok.noex b o e z
  ·exact absurd (Nat.lt_of_lt_of_le (Heap.lt_size e) (Nat.le_trans I.ok.bsz z)) (Nat.lt_irrefl _)
 ·obtain ⟨f0, f1, f2, f3, f4, f5⟩ := hfp b hb
  rcases stkB b hb2 with z | z
  ·exact f1 z
  ·exact f2 z
 ·-- names
  have hi : nt <= i := by
   apply Nat.le_of_not_lt
   intro hlt
   unfold qC at h2
   rw [List.getElem?_append_left (by simpa using hlt), List.getElem?_replicate] at h2
   split at h2 <;> cases h2
  have h2' : (fr.map fun j => (Z[j]?).join)[i - nt]? = some (some v) := by
   unfold qC at h2
   rw [List.getElem?_append_right (by simpa using hi), List.length_replicate] at h2
   exact h2
  rw [gM_] at h2'
  cases ej : fr[i - nt]? with
  | none => rw [ej] at h2'; cases h2'
  | some j =>
   rw [ej] at h2'
   have hσ : (Z[j]?).join = some v := by simpa using h2'
   have hσ' : Z[j]? = some (some v) := by
    cases e : Z[j]? with
    | none => rw [e] at hσ; cases hσ
    | some o =>
     rw [e] at hσ
     have : o = some v := hσ
     rw [this]
   obtain ⟨y, hy1, hy2, hy3⟩ := S.slot (i - nt) j ej
   have hii : nt + (i - nt) = i := by omega
   rw [hii] at hy1
   have exy : y = x := by
    have h1' : N'[i]? = some x := h1
    rw [h1'] at hy1
    exact (Option.some.inj hy1).symm
   subst exy
   have hmem : (y, NameKind.free) ∈ scope.names := PySem.mem_of_lookup hy3
   have hcellk : X.env.kindOf y = some .cell := S.frees (y, .free) hmem rfl
   obtain ⟨m0, hn0, hl0⟩ := I.loc
   obtain ⟨u, ru, lk⟩ := hl0 j y v hy2 hσ' (.inr (.inl hcellk))
   refine ⟨u, ru, .inr ⟨.inl (jT hy3 I.ok.kind hcellk), ?_⟩⟩
   rcases lk with ⟨k1, _⟩ | ⟨_, c, e, z⟩
   ·rw [hcellk] at k1; cases k1
   ·obtain ⟨a, ea⟩ := cl2 (y, .free) hmem rfl
    have ea' := cl1 y a ea
    rw [e] at ea'
    cases ea'
    obtain ⟨o, ho, hd⟩ := z
    exact ⟨c, ea, o, old _ _ ho, hd⟩
 ·obtain ⟨v, o, ho, hd⟩ := I.cell x c (cl1 x c hx)
  exact ⟨v, o, old _ _ ho, hd⟩
 ·have hp' : p ∈ X.pn ++ pins := by
   rcases mA_.mp (show p ∈ (X.pn ++ pins) ++ [] from hp) with z | z
   ·exact z
   ·cases z
  obtain ⟨e, n, ne, nf, d⟩ := I.pin p hp'
  refine ⟨old _ _ e, n, hC _ _ e, fun z => ?_, d⟩
  rcases stkB p.1 z with z | z
  ·exact ne z
  ·exact nf z
 ·show (qC nt fr Z).length = N'.length
  unfold qC
  rw [lA_, List.length_replicate, lM_, S.len]
theorem qcC {pins : List (Addr × Obj)} {Z Z' : St} {H H' : Hp} {s s' : Shared} {h' : Heap} {fp : List Addr} {cl : List (Str × Addr)} (I : Inv X pins Z H s) (hfp : ∀ b ∈ fp, qbV X pins H b)
  (J : Inv (zf X scope N' fp cl s.heap.objs.size s H (X.pn ++ pins)) [] Z' H' s') (sb : Heap.SameBut s.heap.objs.size s'.heap h') : Inv X pins Z H' { s' with heap := h' } := by
 have hC : H' s.heap.objs.size = none := J.free
 have u := J.base
 have big : ∀ b o, s.heap.get? b = some o -> b ≠ s.heap.objs.size := fun b o e => Nat.ne_of_lt (Heap.lt_size e)
 have get' : ∀ b, b ≠ s.heap.objs.size -> h'.get? b = s'.heap.get? b := fun b hb => sb.2 b hb
 have u2 : Un (frs X.stack) fp H H' s.heap h' :=
  ⟨fun b o e n hb hx => (get' b (big b o e)).trans (u.keep b o e n hb hx), fun b o e n hb hx => by
   obtain ⟨sl, q⟩ := u.slot b o e n hb hx
   exact ⟨sl, (get' b (big b o e)).trans q⟩, u.free, fun b o e hx => by
   obtain ⟨o', q⟩ := u.there b o e hx
   exact ⟨o', (get' b (big b o e)).trans q⟩, u.tups, u.frzs, u.tbls⟩
 refine I.call' (s' := { s' with heap := h' }) (ch := fp) J.os u2 (fun b o e => ?_) J.bare (fun b hb => ?_)
 ·refine (J.hok b o e).stay (fun c v hc q => ?_) (fun _ q => q) fun _ _ q => q
  refine (get' c ?_).trans q
  rintro rfl
  rcases hc with hc | hc
  ·rw [<- hc, hC] at e; cases e
  ·rw [hC] at hc; cases hc
 ·obtain ⟨f0, f1, f2, f3, f4, f5⟩ := hfp b hb
  exact ⟨f3, f1, f4, f5⟩
theorem qhJ (hc : X.calm = true) (hi : PI X tg iter wi) (S : CompScope X scope N' nt fr)
  (hs : ∀ x, foldedSetIterable iter X.env x = pure x := by intro _; rfl) : PE X (.ListComp elt [⟨tg, iter, ifs, 0⟩] scope pos) (qhI X tg ifs elt scope N' wi nt fr) := by
 intro pins s Z H Q I hw
 obtain ⟨cl, hcl, cl1, cl2⟩ := closureFor_ok (env := X.env) (scope := scope) (fun y hy hf => I.ok.has y.1 (.inl (S.frees y hy hf)))
 rw [eval_ListComp]
 refine wpAny_comprehension_free (use := none) rfl hs hcl S.kind S.names (thn (hi pins s Z H _ I hw) fun v s1 h1 => thn h1 fun itv s2 h2 => ?_)
 obtain ⟨it, fp, tn, J, H2, e, I2, T, st2, f2, hR⟩ := h2
 subst e
 have hacc : H2 s2.heap.objs.size = none := I2.hok.fresh (Nat.le_refl _)
 refine wpAny_newObj_type (wpAny_newFunctionEnv S.nocell (by intro y hy; simp at hy) (fun h₁ hns₁ hsb₁ => ?_) S.kind)
 dsimp only at hns₁ hsb₁ |-
 have I3 : Inv X pins Z (upd H2 s2.heap.objs.size (.lst [])) { s2 with heap := s2.heap.push { cls := .type "list", dict := none, data := .seq ([] : List Value).toArray } } :=
  I2.lnew (t' := s2.toks) (its := []) .nil (Nat.zero_le _)
 generalize hs3 : ({ s2 with heap := s2.heap.push { cls := .type "list", dict := none, data := .seq ([] : List Value).toArray } } : Shared) = s3 at I3
 have hh3 : s2.heap.push { cls := .type "list", dict := none, data := .seq ([] : List Value).toArray } = s3.heap := by rw [<- hs3]
 rw [hh3] at hns₁ hsb₁
 have old : ∀ b o, s3.heap.get? b = some o -> h₁.get? b = some o := fun b o q => hsb₁.extBut b o (Nat.ne_of_lt (Heap.lt_size q)) (Heap.get?_push_of_some _ q)
 have objs2 : ∀ b ∈ fp, ∃ o, s2.heap.get? b = some o := fun b hb => by
  obtain ⟨o, q, _⟩ := T.obj 0 _ st2 b hb
  exact ⟨o, q⟩
 have keep23 : ∀ b o, s2.heap.get? b = some o -> s3.heap.get? b = some o := fun b o q => by rw [<- hh3]; exact Heap.get?_push_of_some _ q
 have fpne : ∀ b ∈ fp, b ≠ s2.heap.objs.size := fun b hb => by
  obtain ⟨o, q⟩ := objs2 b hb
  exact Nat.ne_of_lt (Heap.lt_size q)
 have f3 : ∀ b ∈ fp, qbV X pins (upd H2 s2.heap.objs.size (.lst [])) b := fun b hb => ⟨by rw [qj (fpne b hb)]; exact (f2 b hb).1, (f2 b hb).2⟩
 have J0 : Inv (zf X scope N' fp cl s3.heap.objs.size s3 (upd H2 s2.heap.objs.size (.lst [])) (X.pn ++ pins)) [] (qC nt fr Z) (upd H2 s2.heap.objs.size (.lst [])) { s3 with heap := h₁, toks := s3.toks } :=
  qah S I3 f3 (fun b hb => (objs2 b hb).imp fun o q => keep23 b o q) cl1 cl2 ⟨_, hns₁⟩ old
 obtain ⟨g, tt, te, hg, hf, he, W, ⟨m0, w0⟩, turn⟩ := hR s2.heap.objs.size fp cl s3.heap.objs.size s3 (upd H2 s2.heap.objs.size (.lst [])) (X.pn ++ pins) hacc
 have T0 : tn 0 h₁ := T.keep 0 _ _ st2 fun b hb o q => old b o (keep23 b o q)
 have s3e : ∀ tk : Nat, ({ s2 with heap := h₁, toks := tk } : Shared) = { s3 with heap := h₁, toks := tk } := fun tk => by rw [<- hs3]
 have loop : ∀ tk : Nat, codeAny (model X.prog X.w) X.A (.compLoop (.ListComp elt [⟨tg, iter, ifs, 0⟩] scope pos) 0 (.ref it) (.ref s2.heap.objs.size) (compEnvC scope cl s3.heap.objs.size X.env))
   (compPost (model X.prog X.w) X.A X.xe none (EP X pins Z Q) (.ref s2.heap.objs.size) s3.heap.objs.size) { s3 with heap := h₁, toks := tk } := fun tk => by
  have stat : ∀ {H' : Hp}, (∀ b ∈ fp, H' b = none) -> ∀ b ∈ fp, qbV (zf X scope N' fp cl s3.heap.objs.size s3 (upd H2 s2.heap.objs.size (.lst [])) (X.pn ++ pins)) [] H' b := fun {H'} hn b hb => by
   obtain ⟨o, q⟩ := objs2 b hb
   have hbC : b ≠ s3.heap.objs.size := Nat.ne_of_lt (Heap.lt_size (keep23 b o q))
   refine ⟨hn b hb, hbC, fun z => ?_, .inl hb, fun x c hx => (f2 b hb).2.2.2.2.1 x c (cl1 x c hx), fun p hp => ?_⟩
   ·rcases List.mem_cons.mp (I2.stkSub b z) with z | z
    ·exact (f2 b hb).2.1 z
    ·exact (f2 b hb).2.2.1 z
   ·have hp' : p ∈ X.pn ++ pins := by
     rcases mA_.mp (show p ∈ (X.pn ++ pins) ++ [] from hp) with z | z
     ·exact z
     ·cases z
    exact (f2 b hb).2.2.2.2.2 p hp'
  have fr0 : ∀ b ∈ fp, upd H2 s2.heap.objs.size (.lst []) b = none := fun b hb => (f3 b hb).1
  refine v4 (fun n s' => ∃ i Z' H', Inv (zf X scope N' fp cl s3.heap.objs.size s3 (upd H2 s2.heap.objs.size (.lst [])) (X.pn ++ pins)) [] Z' H' s' /\ tn i s'.heap /\ (∀ b ∈ fp, H' b = none) /\ W i n Z' H') ?_ m0
   ⟨0, qC nt fr Z, _, J0.tok tk, T0, fr0, w0⟩
  rintro n s4 ⟨i, Z4, H4, J4, st4, fr4, w4⟩
  rcases turn i n Z4 H4 w4 with ⟨stop, qn⟩ | ⟨go, step⟩
  ·refine thn (T.done (zf X scope N' fp cl s3.heap.objs.size s3 (upd H2 s2.heap.objs.size (.lst [])) (X.pn ++ pins)) rfl rfl rfl hc i [] s4 Z4 H4 _ J4 (stat fr4) st4 stop) fun r s5 ⟨hr, J5⟩ => ?_
   subst hr
   obtain ⟨m5, n5, _⟩ := J5.loc
   refine ⟨m5, n5, fun h' sb => ⟨.ref s2.heap.objs.size, H4, qcC I3 f3 J5 sb, rfl, qn⟩⟩
  ·refine thn (T.item (zf X scope N' fp cl s3.heap.objs.size s3 (upd H2 s2.heap.objs.size (.lst [])) (X.pn ++ pins)) rfl rfl rfl hc i [] s4 Z4 H4 _ J4 (stat fr4) st4 go) fun r s5 ⟨u, hr, h5⟩ => ?_
   subst hr
   refine thn h5 fun _ s6 ⟨x, H6, J6, r6, y6, st6, fr6⟩ => ?_
   have J6' := J6.pinned (stat fr6) (T.obj _ _ st6)
   have again : ∀ {Z7 : St} {H7 : Hp} {s7 : Shared}, Inv (zf X scope N' fp cl s3.heap.objs.size s3 (upd H2 s2.heap.objs.size (.lst [])) (X.pn ++ pins)) ([] ++ w5 fp s6.heap) Z7 H7 s7 -> (∃ m', m' < n /\ W (i + 1) m' Z7 H7) ->
     ∃ m, m < n /\ ∃ i Z' H', Inv (zf X scope N' fp cl s3.heap.objs.size s3 (upd H2 s2.heap.objs.size (.lst [])) (X.pn ++ pins)) [] Z' H' s7 /\ tn i s7.heap /\ (∀ b ∈ fp, H' b = none) /\ W i m Z' H' := fun {Z7 H7 s7} I7 hm => by
    obtain ⟨m', hm, w7⟩ := hm
    refine ⟨m', hm, i + 1, Z7, H7, I7.unpinned, T.keep _ _ _ st6 fun b hb o q => (I7.pin (b, o) (mr_ _ (mr_ _ (jI hb q)))).1, fun b hb => ?_, w7⟩
    obtain ⟨o, q, d⟩ := T.obj _ _ st6 b hb
    exact (I7.pin (b, o) (mr_ _ (mr_ _ (jI hb q)))).2.1
   refine thn (hg _ s6 Z4 H6 x u _ J6' r6 (step x H6 y6)) fun _ s7 ⟨Z7, H7, J7, q7⟩ => ?_
   refine thn (hf _ s7 Z7 H7 _ J7 q7) fun ok s8 ⟨H8, J8, q8⟩ => ?_
   cases ok with
   | false =>
    rw [if_neg Bool.false_ne_true] at q8 |-
    exact again J8 q8
   | true =>
    rw [if_pos rfl] at q8 |-
    refine thn (he _ s8 Z7 H8 _ J8 q8) fun z s9 ⟨y, H9, J9, r9, ys, hys, hz, hm⟩ => ?_
    refine thn (vT _ s9 Z7 H9 (.ref s2.heap.objs.size) [y] (.ref s2.heap.objs.size) [z] (fun _ H' => H' = upd H9 s2.heap.objs.size (.lst (ys ++ [y]))) J9 rfl (.cons r9 .nil) ⟨_, ys, y, rfl, rfl, hys, hz, rfl⟩) fun _ s10 ⟨_, H10, J10, _, e10⟩ => ?_
    subst e10
    exact again J10 hm
 have zx : ∀ tk : Nat, codeAny (model X.prog X.w) X.A (.compStart (.ListComp elt [⟨tg, iter, ifs, 0⟩] scope pos) 0 (.ref it) (.ref s2.heap.objs.size) (compEnvC scope cl s3.heap.objs.size X.env))
   (compPost (model X.prog X.w) X.A X.xe none (EP X pins Z Q) (.ref s2.heap.objs.size) s3.heap.objs.size) { s3 with heap := h₁, toks := tk } := fun tk =>
  codeAny_compStart_list (loop tk) (T.self X.A 0 _ _ _ T0 (loop tk))
 have fin := zx (s2.toks + ([] : List (Str × Value)).length)
 rw [<- s3e] at fin
 rw [<- hh3] at fin
 rw [hh3] at fin |-
 exact fin
end
structure qfO (K : Fr0) (A : Addr -> Prop) (H : Hp) (ds : List D) (J : It) : Prop where
 go : ∀ H' i d, Ext A H H' -> ds[i]? = some d -> J.go i H'
 yl : ∀ H' i d x H'', Ext A H H' -> ds[i]? = some d -> J.yld i H' x H'' -> zX H' H'' /\ Is K A H'' d x
 stop : ∀ H', Ext A H H' -> J.stop ds.length H'
def CnT (c : Fc) (Z : St) (H : Hp) (a : Addr) : Prop := Cn c Z a /\ (H a).isSome = true
def WpI (K : Fr0) (c : Fc) (Z : St) (H : Hp) (Q : It -> Hp -> Prop) : R (List D × Env) -> Prop
 | .ok (ds, ρ) => ∀ J H', Rep K c ρ Z H' -> qfO K (CnT c Z H') H' ds J -> Gr c.O Z H H' -> Q J H'
 | .exc x ρ => ∀ H', Rep K c ρ Z H' -> Gr c.O Z H H' -> c.E x H'
 | .bad => False
def DI (X : Cx) (c : Fc) (tg it : Expr) (f : M (List D)) : Prop := ∃ w, PI X tg it w /\ ∀ ρ Z H Q, Rep X.K c ρ Z H -> WpI X.K c Z H Q (f ρ) -> w Z H Q
section
variable {X : Cx} {c : Fc} {tg a b e : Expr} {pos : Pos}
def qmM (K : Fr0) (tl : TE) : TI := fun Z H R => tl Z H fun x H1 => (∃ a, x = .ref a /\ (∃ xs, SqL K H1 a xs) /\ R (Itl K a) H1) \/ (∃ a, x = .ref a /\ (∃ xs, SqT K H1 a xs) /\ R (Itt K a) H1)
theorem qjK {tl : TE} (hl : PE X e tl) : PI X tg e (qmM X.K tl) := by
 intro pins s Z H R I h
 refine thn (hl pins s Z H _ I h) fun v s1 ⟨x, H1, I1, r1, q1⟩ => ?_
 rcases q1 with ⟨a, e, ⟨xs, hq⟩, q⟩ | ⟨a, e, ⟨xs, hq⟩, q⟩
 ·subst e
  cases r1
  obtain ⟨its, rv, p, hz⟩ := I1.list hq
  refine wpAny_pyIter_list p.isList ?_
  refine ⟨s1.heap.objs.size, [s1.heap.objs.size], _, _, H1, rfl, I1.kept (t' := s1.toks) fun b o e => Heap.get?_push_of_some _ e, qdQ a _, ⟨_, Heap.get?_push_size _ rfl, rfl, rfl⟩, fun b hb => ?_, q⟩
  have e : b = s1.heap.objs.size := by simpa using hb
  subst e
  exact I1.fpOk (Nat.le_refl _) (I1.hok.fresh (Nat.le_refl _))
 ·subst e
  cases r1
  obtain ⟨its, rv, p, hz⟩ := I1.tuple hq
  refine wpAny_pyIter_tuple (show s1.heap.IsTuple a its.toArray from p) ?_
  refine ⟨s1.heap.objs.size, [s1.heap.objs.size], _, _, H1, rfl, I1.kept (t' := s1.toks) fun b o e => Heap.get?_push_of_some _ e, qde a _, ⟨_, Heap.get?_push_size _ rfl, rfl, rfl⟩, fun b hb => ?_, q⟩
  have e : b = s1.heap.objs.size := by simpa using hb
  subst e
  exact I1.fpOk (Nat.le_refl _) (I1.hok.fresh (Nat.le_refl _))
def qjL : D -> Option (List D)
 | .tup ds => some ds
 | .lst ds => some ds
 | .fz ns => some (ns.map .int)
 | _ => none
theorem SqL.inj {K : Fr0} {H : Hp} {a : Addr} {xs ys : List V} (h : H a = some (.lst xs)) (q : SqL K H a ys) (hk : ∀ o, K.lookup a = some o -> False) : ys = xs := by
 rcases q with (q | ⟨o, q⟩) | ⟨o, _, _, q, _⟩
 ·rw [h] at q; cases q; rfl
 ·rw [h] at q; cases q
 ·exact (hk o q).elim
theorem qaC {K : Fr0} {A : Addr -> Prop} {H : Hp} : ∀ ns : List Int, IsL K A H (ns.map .int) (ns.map V.int)
 | [] => rfl
 | n :: ns => ⟨.int n, ns.map V.int, rfl, rfl, qaC ns⟩
theorem qeg {K : Fr0} {A : Addr -> Prop} {H : Hp} {ds : List D} {xs : List V} {a : Addr} (hs : ∀ H', Ext A H H' -> SqL K H' a xs) (il : IsL K A H ds xs) : qfO K A H ds (Itl K a) where
 go := fun H' i d ex hd => by
  obtain ⟨x, h1, h2⟩ := il.get hd
  exact ⟨xs, x, hs H' ex, h1⟩
 yl := fun H' i d x H'' ex hd y => by
  obtain ⟨e, y⟩ := y
  subst e
  obtain ⟨x', h1, h2⟩ := il.get hd
  have h3 := y xs (hs _ ex)
  rw [h1] at h3
  cases h3
  exact ⟨zX.refl _, Is.ext ex (fun _ h _ => h) h2⟩
 stop := fun H' ex => ⟨xs, hs H' ex, by rw [il.length]; exact Nat.le_refl _⟩
theorem qjM {K : Fr0} {A : Addr -> Prop} {H : Hp} {ds : List D} {xs : List V} {a : Addr} (hs : ul K H a xs) (il : IsL K A H ds xs) : qfO K A H ds (Itt K a) where
 go := fun H' i d ex hd => by
  obtain ⟨x, h1, h2⟩ := il.get hd
  exact ⟨xs, x, (hs.elim (fun h => .inl (ex.tup _ _ h)) .inr : ul K H' a xs).sq, h1⟩
 yl := fun H' i d x H'' ex hd y => by
  obtain ⟨e, y⟩ := y
  subst e
  obtain ⟨x', h1, h2⟩ := il.get hd
  have h3 := y xs (hs.elim (fun h => .inl (ex.tup _ _ h)) .inr : ul K _ a xs).sq
  rw [h1] at h3
  cases h3
  exact ⟨zX.refl _, Is.ext ex (fun _ h _ => h) h2⟩
 stop := fun H' ex => ⟨xs, (hs.elim (fun h => .inl (ex.tup _ _ h)) .inr : ul K H' a xs).sq, by rw [il.length]; exact Nat.le_refl _⟩
def wP (f : M D) : M (List D) := bnd f fun d => lift (qjL d)
theorem vK {K : Fr0} {Z : St} {H : Hp} {Q : It -> Hp -> Prop} {o : Option (List D)} {ρ : Env} (h : WpI K c Z H Q (lift o ρ)) : ∃ ds, o = some ds /\ ∀ J H', Rep K c ρ Z H' -> qfO K (CnT c Z H') H' ds J -> Gr c.O Z H H' -> Q J H' := by
 cases o with
 | none => exact h.elim
 | some d => exact ⟨d, rfl, h⟩
theorem WpI.gr {K : Fr0} {Z : St} {H H1 : Hp} {Q : It -> Hp -> Prop} : ∀ {r : R (List D × Env)}, WpI K c Z H Q r -> Gr c.O Z H H1 -> WpI K c Z H1 Q r
 | .ok (d, ρ), h, g => fun v H' hr hi hg => h v H' hr hi (g.trans hg)
 | .exc x ρ, h, g => fun H' hr hg => h H' hr (g.trans hg)
 | .bad, h, _ => h
theorem Wp.bndI {K : Fr0} {Z : St} {H : Hp} {Q : It -> Hp -> Prop} {f : M D} {k : D -> M (List D)} {ρ : Env} {Q' : VK} (h : WpI K c Z H Q (Sk.bnd f k ρ)) (hQ : ∀ d ρ' v H', Rep K c ρ' Z H' -> Is K (Cn c Z) H' d v -> Gr c.O Z H H' -> WpI K c Z H' Q (k d ρ') -> Q' v H') : Wp K c Z H Q' (f ρ) := by
 unfold Sk.bnd at h
 cases e : f ρ with
 | ok p => rw [e] at h; exact fun v H' hr hi hg => hQ p.1 p.2 v H' hr hi hg (h.gr hg)
 | exc x ρ' => rw [e] at h; exact h
 | bad => rw [e] at h; exact h
theorem WpL.bndI {K : Fr0} {Z : St} {H : Hp} {Q : It -> Hp -> Prop} {f : M (List D)} {k : List D -> M (List D)} {ρ : Env} {Q' : List V -> Hp -> Prop} (h : WpI K c Z H Q (Sk.bnd f k ρ)) (hQ : ∀ d ρ' v H', Rep K c ρ' Z H' -> IsL K (Cn c Z) H' d v -> Gr c.O Z H H' -> WpI K c Z H' Q (k d ρ') -> Q' v H') : WpL K c Z H Q' (f ρ) := by
 unfold Sk.bnd at h
 cases e : f ρ with
 | ok p => rw [e] at h; exact fun v H' hr hi hg => hQ p.1 p.2 v H' hr hi hg (h.gr hg)
 | exc x ρ' => rw [e] at h; exact h
 | bad => rw [e] at h; exact h
theorem Is.tr {K : Fr0} {A : Addr -> Prop} {H : Hp} {d : D} {v : V} (h : Is K A H d v) : Is K (fun a => A a /\ (H a).isSome = true) H d v := Is.ext Ext.refl (fun a h1 h2 => ⟨h1, h2⟩) h
theorem uP {f : M D} (h : DE X c e f) : DI X c tg e (wP f) := by
 obtain ⟨t, p, w⟩ := h
 refine ⟨_, qjK p, fun ρ Z H Q r h => w ρ Z H _ r (Wp.bndI h fun d ρ1 v H1 r1 i1 g1 h1 => ?_)⟩
 obtain ⟨ds, e, h2⟩ := vK h1
 have i2 : Is X.K (CnT c Z H1) H1 d v := i1.tr
 cases d <;> simp only [qjL] at e <;> try (cases e; done)
 ·cases e
  obtain ⟨a, xs, rfl, ta, il⟩ := i2
  exact .inr ⟨a, rfl, ⟨xs, ta.sq⟩, h2 _ H1 r1 (qjM ta il) .refl⟩
 ·cases e
  obtain ⟨a, xs, rfl, hA, ta, il⟩ := i2
  exact .inl ⟨a, rfl, ⟨xs, .inl (.inl ta)⟩, h2 _ H1 r1 (qeg (fun H' ex => .inl (.inl (ex.at_ _ _ hA ta))) il) .refl⟩
 ·cases e
  obtain ⟨a, rfl, ta⟩ := i2
  exact .inl ⟨a, rfl, ⟨_, ta.sq⟩, h2 _ H1 r1 (qeg (fun H' ex => (ta.elim (fun ⟨o, h⟩ => .inl ⟨o, ex.frz _ _ _ h⟩) .inr : qjA X.K H' a _).sq) (qaC _)) .refl⟩
def qaD (lo : Int) (n : Nat) : List D := (List.range n).map fun i => .int (lo + (i : Nat))
theorem qjN {K : Fr0} {A : Addr -> Prop} {H : Hp} (lo : Int) (n : Nat) : qfO K A H (qaD lo n) (Itr lo n) where
 go := fun H' i d ex hd => by
  have : i < (qaD lo n).length := (gI_.mp hd).1
  show i < n
  simpa [qaD] using this
 yl := fun H' i d x H'' ex hd y => by
  obtain ⟨e, y⟩ := y
  subst e
  subst y
  refine ⟨zX.refl _, ?_⟩
  unfold qaD at hd
  rw [gM_] at hd
  cases e2 : (List.range n)[i]? with
  | none => rw [e2] at hd; cases hd
  | some j =>
   rw [e2] at hd
   have hj : j = i := by
    have := (gI_.mp e2).2
    simpa using this.symm
   subst hj
   cases hd
   rfl
 stop := fun H' ex => by show n <= (qaD lo n).length; simp [qaD]
def qgD : List D -> Option (List D)
 | [.int j] => if decide (-(2 ^ 62) <= j) && decide (j < 2 ^ 62) then some (qaD 0 j.toNat) else none
 | _ => none
def uy (f : M (List D)) : M (List D) := bnd f fun ds => lift (qgD ds)
theorem yp {f : M (List D)} {p : Pos} (hg : Gl X "range") (hm : X.mg "range" = none) (ha : DA X c [a] f) (hs : starEach [a] X.env = [(false, eval a X.env)] := by rfl) : DI X c tg (.Call (.Name "range" p) [a] [] pos) (uy f) := by
 obtain ⟨t, p, w⟩ := ha
 refine ⟨_, qdR hg hm p hs, fun ρ Z H Q r h => w ρ Z H _ r (WpL.bndI h fun ds ρ1 vs H1 r1 i1 g1 h1 => ?_)⟩
 obtain ⟨es, e, h2⟩ := vK h1
 unfold qgD at e
 split at e
 ·rename_i j
  obtain ⟨v, rfl, e2⟩ := IsL.inv1 i1
  cases e2
  by_cases hb : (decide (-(2 ^ 62) <= j) && decide (j < 2 ^ 62)) = true
  ·rw [if_pos hb] at e
   cases e
   rw [Bool.and_eq_true] at hb
   exact ⟨j, rfl, of_decide_eq_true hb.1, of_decide_eq_true hb.2, h2 _ H1 r1 (qjN 0 _) .refl⟩
  ·rw [if_neg hb] at e
   cases e
 ·cases e
def jU (g : D -> Env -> Option Env) (b : MS) : List D -> MS
 | [], ρ => .ok (.nx ρ)
 | d :: ds, ρ => match g d ρ with
  | none => .bad
  | some ρ1 => match b ρ1 with
   | .ok (.nx ρ2) => jU g b ds ρ2
   | .ok (.ct ρ2) => jU g b ds ρ2
   | .ok (.bk ρ2) => .ok (.nx ρ2)
   | .ok (.rt r ρ2) => .ok (.rt r ρ2)
   | .exc x ρ2 => .exc x ρ2
   | .bad => .bad
def qa7 (f : M (List D)) (g : D -> Env -> Option Env) (b : MS) : MS := sbnd f fun ds => jU g b ds
theorem WpI.sbnd {K : Fr0} {Z : St} {H : Hp} {D' : qdO} {f : M (List D)} {k : List D -> MS} {ρ : Env} {Q' : It -> Hp -> Prop} (h : WpS K c Z H D' (Sk.sbnd f k ρ))
  (hQ : ∀ ds ρ' J H', Rep K c ρ' Z H' -> qfO K (CnT c Z H') H' ds J -> Gr c.O Z H H' -> WpS K c Z H' D' (k ds ρ') -> Q' J H') : WpI K c Z H Q' (f ρ) := by
 unfold Sk.sbnd at h
 cases e : f ρ with
 | ok p => rw [e] at h; exact fun v H' hr hi hg => hQ p.1 p.2 v H' hr hi hg (h.gr hg.s)
 | exc x ρ' => rw [e] at h; exact fun H' hr hg => h Z H' hr hg.s
 | bad => rw [e] at h; exact h
theorem GrS.extT {Z Z' : St} {H H' : Hp} (g : GrS c.O Z H Z' H') : Ext (CnT c Z H) H H' := ⟨g.ext.tup, g.ext.frz, fun b o hb h => g.ext.at_ b o hb.1.2 h⟩
theorem GrS.cnT {Z Z' : St} {H H' : Hp} (g : GrS c.O Z H Z' H') {a : Addr} (h : CnT c Z H a) : Cn c Z' a := ⟨h.1.1, g.cl a h.1.2 h.2⟩
theorem vb {α : Type} {l : List α} {i : Nat} (h : i < l.length) : l.drop i = l[i] :: l.drop (i + 1) := List.drop_eq_getElem_cons h
theorem yW {it : Expr} {body : List Stmt} {f : M (List D)} {g : D -> Env -> Option Env} {b : MS} (hp : PassesOwn (model X.prog X.w) X.A X.env X.xe) (hc : X.calm = true) (hi : DI X c tg it f) (hg : DG X c tg g) (hb : DSs X c body b)
  (hs : ∀ x, foldedSetIterable it X.env x = pure x := by intro _; rfl) : DS X c (.For tg it body [] pos) (qa7 f g b) := by
 obtain ⟨wi, pi, wI⟩ := hi
 obtain ⟨tg', pg, wg⟩ := hg
 obtain ⟨tb, pb, wb⟩ := hb
 refine ⟨_, qjf hp hc pi pg pb hs, fun ρ Z H D' r h => wI ρ Z H _ r (WpI.sbnd h fun ds ρ1 J H1 r1 iok g1 h1 => ?_)⟩
 refine ⟨fun i m Z' H' => m = ds.length - i /\ i <= ds.length /\ ∃ ρ', Rep X.K c ρ' Z' H' /\ GrS c.O Z H1 Z' H' /\ WpS X.K c Z' H' D' (jU g b (ds.drop i) ρ'), ⟨ds.length, by simp, Nat.zero_le _, ρ1, r1, .refl, by simpa using h1⟩, ?_⟩
 rintro i m Z' H' ⟨rfl, hi, ρ', r', gs, w⟩
 by_cases hlt : i < ds.length
 ·refine .inr ⟨iok.go H' i ds[i] gs.extT (by simp [hlt]), fun Z2 H2 => ∃ ρ2, Rep X.K c ρ2 Z2 H2 /\ GrS c.O Z H1 Z2 H2 /\ WpS X.K c Z2 H2 D' (jU g b (ds.drop (i + 1)) ρ2), fun Z2 H2 n => ⟨ds.length - (i + 1), by omega, rfl, hlt, n⟩, fun x H'' y => ?_⟩
  obtain ⟨sm, ix⟩ := iok.yl H' i ds[i] x H'' gs.extT (by simp [hlt]) y
  rw [vb hlt] at w
  unfold jU at w
  have gs2 : GrS c.O Z H1 Z' H'' := gs.trans (Gr.of_same sm).s
  have ix2 : Is X.K (Cn c Z') H'' ds[i] x := Is.ext Ext.refl (fun a ha _ => gs2.cnT ha) ix
  cases e1 : g ds[i] ρ' with
  | none => simp only [e1] at w; exact w.elim
  | some ρ2 =>
   simp only [e1] at w
   refine wg ρ' Z' H'' ds[i] x ρ2 _ (r'.same sm) ix2 e1 fun Z2 r2 g2 _ => wb ρ2 Z2 H'' _ r2 ?_
   have w2 := w.gr ((Gr.of_same sm).s.trans g2)
   have gs3 : GrS c.O Z H1 Z2 H'' := gs2.trans g2
   cases e2 : b ρ2 with
   | ok fl =>
    cases fl with
    | nx ρ3 => simp only [e2] at w2; exact fun Z3 H3 r3 g3 => ⟨ρ3, r3, gs3.trans g3, w2.gr g3⟩
    | ct ρ3 => simp only [e2] at w2; exact fun Z3 H3 r3 g3 => ⟨ρ3, r3, gs3.trans g3, w2.gr g3⟩
    | bk ρ3 => simp only [e2] at w2; exact w2
    | rt d ρ3 => simp only [e2] at w2; exact w2
   | exc x ρ3 => simp only [e2] at w2; exact w2
   | bad => simp only [e2] at w2; exact w2
 ·have hie : i = ds.length := by omega
  subst hie
  rw [List.drop_of_length_le (Nat.le_refl _)] at w
  exact .inl ⟨iok.stop H' gs.extT, w Z' H' r' .refl⟩
end
def cin (B0 : Addr -> Prop) (H1 : Hp) (O' : List Nat) (Io' : Addr -> Prop) (acc : Addr) (S' : Nat -> Option (Option V)) : Fc where
 O := O'
 P := O'
 B := fun a => B0 a /\ a ≠ acc
 H0 := upd H1 acc (.lst [])
 Io := fun a => Io' a \/ a = acc
 E := fun _ _ => False
 S := S'
def zb (g : D -> Env -> Option Env) (t : M Bool) (e : M D) : List D -> List D -> Env -> R (List D × Env)
 | [], acc, ρ => .ok (acc, ρ)
 | d :: ds, acc, ρ => match g d ρ with
  | none => .bad
  | some ρ1 => match t ρ1 with
   | .ok (true, ρ2) => match e ρ2 with
    | .ok (y, ρ3) => if qI (acc.length + 1) then zb g t e ds (acc ++ [y]) ρ3 else .bad
    | _ => .bad
   | .ok (false, ρ2) => zb g t e ds acc ρ2
   | _ => .bad
def jC (nt : Nat) (fr : List Nat) (ρ : Env) : Env := List.replicate nt none ++ fr.map fun j => (ρ[j]?).join
def qiO (fo : Option (Nat × Nat)) (ρe ρ : Env) : Env := match fo with
 | none => ρ
 | some (i, j) => ρ.set j (ρe[i]?).join
def yE (nt : Nat) (fr : List Nat) (fo : Option (Nat × Nat)) (f : M (List D)) (g : D -> Env -> Option Env) (t : M Bool) (e : M D) : M D := bnd f fun ds ρ => match zb g t e ds [] (jC nt fr ρ) with
 | .ok (ys, ρe) => .ok (.lst ys, qiO fo ρe ρ)
 | _ => .bad
def DF (X : Cx) (c : Fc) (ifs : List Expr) (f : M Bool) : Prop := ∃ t, PF X ifs t /\ ∀ ρ Z H Q, Rep X.K c ρ Z H -> WpB X.K c Z H Q (f ρ) -> t Z H Q
def foO (fo : Option (Nat × Nat)) : List Nat := match fo with
 | none => []
 | some (i, _) => [i]
section
variable {X : Cx} {c : Fc} {tg a b e : Expr} {pos : Pos}
theorem qgE : DF X c [] (ret true) := ⟨_, qjI, fun ρ Z H Q r h => h H r .refl⟩
theorem qcD {f : M Bool} (h : DT X c e f) : DF X c [e] f := by
 obtain ⟨t, p, w⟩ := h
 exact ⟨_, qjJ p, w⟩
theorem WpI.bnd {K : Fr0} {Z : St} {H : Hp} {Q : VK} {f : M (List D)} {k : List D -> M D} {ρ : Env} {Q' : It -> Hp -> Prop} (h : Wp K c Z H Q (Sk.bnd f k ρ))
  (hQ : ∀ ds ρ' J H', Rep K c ρ' Z H' -> qfO K (CnT c Z H') H' ds J -> Gr c.O Z H H' -> Wp K c Z H' Q (k ds ρ') -> Q' J H') : WpI K c Z H Q' (f ρ) := by
 unfold Sk.bnd at h
 cases e : f ρ with
 | ok p => rw [e] at h; exact fun v H' hr hi hg => hQ p.1 p.2 v H' hr hi hg (h.gr hg)
 | exc x ρ' => rw [e] at h; exact h
 | bad => rw [e] at h; exact h
theorem Rep.grow {K : Fr0} {B0 : Addr -> Prop} {H1 : Hp} {O' : List Nat} {Io' : Addr -> Prop} {acc : Addr} {S' : Nat -> Option (Option V)} {ρ : Env} {Z : St} {H : Hp} {xs ys : List V} (r : Rep K (cin B0 H1 O' Io' acc S') ρ Z H) (h : H acc = some (.lst xs)) (ho : ∀ j ∈ O', Z[j]? ≠ some (some (.ref acc))) :
  Rep K (cin B0 H1 O' Io' acc S') ρ Z (upd H acc (.lst ys)) := by
 have ext : Ext (fun a => a ≠ acc) H (upd H acc (.lst ys)) := ⟨fun b zs hb => by rw [qj (vw hb h (by intro z; cases z))]; exact hb, fun b o u hb => by rw [qj (vw hb h (by intro z; cases z))]; exact hb, fun b o hb hq => by rw [qj hb]; exact hq⟩
 have cnext : Ext (Cn (cin B0 H1 O' Io' acc S') Z) H (upd H acc (.lst ys)) := ⟨ext.tup, ext.frz, fun b o hb hq => ext.at_ b o hb.1.2 hq⟩
 refine ⟨r.len, fun i d hd => ?_, fun j hj v hv => ?_, r.inj, r.b0, fun b o hb hio => ?_, fun b hb => ?_, r.pO, r.ps⟩
 ·obtain ⟨v, h1, h2⟩ := r.val i d hd
  refine ⟨v, h1, ?_⟩
  rcases h2 with ⟨hi, ds, a, zs, h3, h5, h6, h7⟩ | ⟨hi, h3⟩
  ·subst h5
   have ne : a ≠ acc := fun e => ho i hi (by rw [h1, e])
   exact .inl ⟨hi, ds, a, zs, h3, rfl, by rw [qj ne]; exact h6, IsL.ext cnext (fun _ h _ => h) h7⟩
  ·exact .inr ⟨hi, Is.ext cnext (fun _ h _ => h) h3⟩
 ·obtain ⟨a, zs, h1, h2, h3⟩ := r.own j hj v hv
  subst h1
  have ne : a ≠ acc := fun e => ho j hj (by rw [hv, e])
  exact ⟨a, zs, rfl, by rw [qj ne]; exact h2, h3⟩
 ·have ne : b ≠ acc := fun e => hio (.inr e)
  rw [qj ne]
  exact r.kp b o hb hio
 ·by_cases e : b = acc
  ·subst e; rw [qo] at hb; cases hb
  ·rw [qj e] at hb; exact r.dm b hb
theorem v5 {α : Type} {o : Option (Option α)} {a : α} (h : o.join = some a) : o = some (some a) := by
 cases o with
 | none => cases h
 | some x => have : x = some a := h; rw [this]
def qhK (c : Fc) (nt : Nat) (fr : List Nat) (fo : Option (Nat × Nat)) : Prop := match fo with
 | none => ∀ j ∈ fr, j ∉ c.O
 | some (i, j) => j ∈ c.O /\ nt <= i /\ fr[i - nt]? = some j /\ ∀ k j', fr[k]? = some j' -> nt + k ≠ i -> j' ∉ c.O
def qa8 (Z : St) (fo : Option (Nat × Nat)) (a : Addr) : Prop := match fo with
 | none => False
 | some (_, j) => Z[j]? = some (some (.ref a))
theorem vc {nt : Nat} {fr : List Nat} {Z : St} {k j : Nat} (h : fr[k]? = some j) : (qC nt fr Z)[nt + k]? = some (Z[j]?).join := by
 unfold qC
 rw [List.getElem?_append_right (by simp), List.length_replicate, gM_, show nt + k - nt = k by omega, h]
 rfl
theorem qdr {nt : Nat} {fr : List Nat} {ρ : Env} {i : Nat} {d : D} (hd : (jC nt fr ρ)[i]? = some (some d)) : ∃ k j, i = nt + k /\ fr[k]? = some j /\ ρ[j]? = some (some d) := by
 have hi : nt <= i := by
  apply Nat.le_of_not_lt
  intro hlt
  unfold jC at hd
  rw [List.getElem?_append_left (by simpa using hlt), List.getElem?_replicate] at hd
  split at hd <;> cases hd
 unfold jC at hd
 rw [List.getElem?_append_right (by simpa using hi), List.length_replicate, gM_] at hd
 cases ej : fr[i - nt]? with
 | none => rw [ej] at hd; cases hd
 | some j =>
  rw [ej] at hd
  exact ⟨i - nt, j, by omega, ej, v5 (by simpa using hd)⟩
theorem jJ {nt : Nat} {fr : List Nat} {Z : St} {i : Nat} {d : V} (hd : (qC nt fr Z)[i]? = some (some d)) : ∃ k j, i = nt + k /\ fr[k]? = some j /\ Z[j]? = some (some d) := by
 have hi : nt <= i := by
  apply Nat.le_of_not_lt
  intro hlt
  unfold qC at hd
  rw [List.getElem?_append_left (by simpa using hlt), List.getElem?_replicate] at hd
  split at hd <;> cases hd
 unfold qC at hd
 rw [List.getElem?_append_right (by simpa using hi), List.length_replicate, gM_] at hd
 cases ej : fr[i - nt]? with
 | none => rw [ej] at hd; cases hd
 | some j =>
  rw [ej] at hd
  exact ⟨i - nt, j, by omega, ej, v5 (by simpa using hd)⟩
theorem Rep.entry {K : Fr0} {nt : Nat} {fr : List Nat} {fo : Option (Nat × Nat)} {acc : Addr} {ρ : Env} {Z : St} {H : Hp} (r : Rep K c ρ Z H) (hn : H acc = none) (hfo : qhK c nt fr fo) :
  Rep K (cin (Cn c Z) H (foO fo) (qa8 Z fo) acc fun j => (qC nt fr Z)[j]?) (jC nt fr ρ) (qC nt fr Z) (upd H acc (.lst [])) := by
 have sm : zX H (upd H acc (.lst [])) := qs hn _
 have ownI : ∀ i ∈ foO fo, ∀ v, (qC nt fr Z)[i]? = some (some v) -> ∃ j, fo = some (i, j) /\ j ∈ c.O /\ Z[j]? = some (some v) := fun i hi v hv => by
  cases fo with
  | none => cases hi
  | some p =>
   obtain ⟨i', j'⟩ := p
   have e : i = i' := by simpa [foO] using hi
   subst e
   obtain ⟨h1, h2, h3, h4⟩ := hfo
   obtain ⟨k, j, e1, e2, e3⟩ := jJ hv
   have hk : k = i - nt := by omega
   subst hk
   rw [h3] at e2
   cases e2
   exact ⟨j', rfl, h1, e3⟩
 have clI : ∀ a, Cl c.O Z a -> Cl (foO fo) (qC nt fr Z) a := fun a ha i hi e => by
  obtain ⟨j, _, hj, e2⟩ := ownI i hi _ e
  exact ha j hj e2
 refine ⟨by simp [jC, qC], fun i d hd => ?_, fun i hi v hv => ?_, fun i j a hi hj h1 h2 => ?_, ⟨fun a ha => ?_, fun q P pos eP => ?_⟩, fun b o hb hio => ?_, fun b hb => ?_, fun _ h => h, fun _ _ => rfl⟩
 ·obtain ⟨k, j, e1, e2, e3⟩ := qdr hd
  subst e1
  by_cases hO : nt + k ∈ foO fo
  ·obtain ⟨v, hv⟩ : ∃ v, Z[j]? = some (some v) := by
    obtain ⟨v, h1, _⟩ := r.val j d e3
    exact ⟨v, h1⟩
   have hc : (qC nt fr Z)[nt + k]? = some (some v) := by rw [vc e2, hv]; rfl
   obtain ⟨j', f1, f2, f3⟩ := ownI _ hO v hc
   subst f1
   obtain ⟨g1, g2, g3, g4⟩ := hfo
   rw [show nt + k - nt = k by omega, e2] at g3
   cases g3
   obtain ⟨ds, a, xs, h1, h3, h4, h5⟩ := r.getO g1 e3
   rw [hv] at h3
   cases h3
   exact ⟨.ref a, hc, .inl ⟨hO, ds, a, xs, h1, rfl, sm _ _ h4, IsL.ext (Ext.of_same sm) (fun b hb hs => ⟨⟨hb, fun e => by subst e; rw [hn] at hs; cases hs⟩, clI b hb.2⟩) h5⟩⟩
  ·have hj : j ∉ c.O := by
    cases fo with
    | none => exact hfo j (List.mem_of_getElem? e2)
    | some p =>
     obtain ⟨i', j'⟩ := p
     exact hfo.2.2.2 k j e2 (fun e => hO (by simp [foO, e]))
   obtain ⟨v, h1, h2⟩ := r.get hj e3
   refine ⟨v, by rw [vc e2, h1]; rfl, .inr ⟨hO, ?_⟩⟩
   refine Is.ext (Ext.of_same sm) (fun a ha hs => ⟨⟨ha, fun e => ?_⟩, clI a ha.2⟩) h2
   subst e; rw [hn] at hs; cases hs
 ·obtain ⟨j, f1, f2, f3⟩ := ownI i hi v hv
  obtain ⟨a, xs, h1, h2, h3⟩ := r.own j f2 v f3
  subst h1 f1
  exact ⟨a, xs, rfl, sm _ _ h2, .inr ⟨hi, .inl f3⟩⟩
 ·cases fo with
  | none => cases hi
  | some p =>
   obtain ⟨i', j'⟩ := p
   have e : i = i' := by simpa [foO, cin] using hi
   have e2 : j = i' := by simpa [foO, cin] using hj
   rw [e, e2]
 ·have ha' : upd H acc (.lst []) a = none := ha
  by_cases e : a = acc
  ·subst e; rw [qo] at ha'; cases ha'
  ·rw [qj e] at ha'; exact ⟨r.new ha', e⟩
 ·have hP := (r.tb q P pos eP).1
  refine ⟨sm _ _ hP, fun z => ?_⟩
  rcases z with z | z
  ·cases fo with
   | none => exact z
   | some p =>
    obtain ⟨b, xs, e1, e2, _⟩ := r.own _ hfo.1 _ z
    cases e1
    rw [hP] at e2; cases e2
  ·rw [z, hn] at hP; cases hP
 ·exact hb
 ·exact hb
theorem Rep.leave {K : Fr0} {nt : Nat} {fr : List Nat} {fo : Option (Nat × Nat)} {acc : Addr} {ρ ρe : Env} {Z Ze : St} {H H' : Hp} (r : Rep K c ρ Z H) (hn : H acc = none) (hfo : qhK c nt fr fo) (hf : ∀ i j, fo = some (i, j) -> Ze[i]? = (qC nt fr Z)[i]?)
  (q : Rep K (cin (Cn c Z) H (foO fo) (qa8 Z fo) acc fun j => (qC nt fr Z)[j]?) ρe Ze H') : Rep K c (qiO fo ρe ρ) Z H' /\ Gr c.O Z H H' := by
 have kp : ∀ b o, H b = some o -> ¬ qa8 Z fo b -> H' b = some o := fun b o hb hio => q.kp b o (by show upd H acc (.lst []) b = some o; rw [qj (qA hb hn)]; exact hb) fun z => z.elim hio fun e => absurd e (qA hb hn)
 have clean : ∀ b, Cl c.O Z b -> ¬ qa8 Z fo b := fun b hb hio => by
  cases fo with
  | none => exact hio
  | some p => exact hb p.2 hfo.1 hio
 have dom : ∀ b, H' b = none -> H b = none := fun b hb => by
  have := q.dm b hb
  by_cases e : b = acc
  ·subst e; exact hn
  ·have this : upd H acc (.lst []) b = none := this
   rw [qj e] at this; exact this
 have notT : ∀ b xs, H b = some (.tup xs) -> ¬ qa8 Z fo b := fun b xs hb hio => by
  cases fo with
  | none => exact hio
  | some p =>
   obtain ⟨a, ys, e1, e2, _⟩ := r.own p.2 hfo.1 _ hio
   cases e1; rw [hb] at e2; cases e2
 have notF : ∀ b o u, H b = some (.frz o u) -> ¬ qa8 Z fo b := fun b o u hb hio => by
  cases fo with
  | none => exact hio
  | some p =>
   obtain ⟨a, ys, e1, e2, _⟩ := r.own p.2 hfo.1 _ hio
   cases e1; rw [hb] at e2; cases e2
 have gr : Gr c.O Z H H' := ⟨⟨fun b xs hb => kp b _ hb (notT b xs hb), fun b o u hb => kp b _ hb (notF b o u hb), fun b o hc hb => kp b o hb (clean b hc)⟩, dom⟩
 refine ⟨⟨?_, fun k d hd => ?_, fun j hj v hv => ?_, r.inj, r.b0, fun b o hb hio => ?_, fun b hb => r.dm b (dom b hb), r.pO, r.ps⟩, gr⟩
 ·cases fo with
  | none => exact r.len
  | some p => show (ρ.set _ _).length = _; rw [lS_]; exact r.len
 ·-- an old slot, or the one that came qiO
  have oldSlot : ρ[k]? = some (some d) -> (∀ i, fo ≠ some (i, k)) -> ∃ v, Z[k]? = some (some v) /\ ((k ∈ c.O /\ ∃ ds a xs, d = .lst ds /\ v = .ref a /\ H' a = some (.lst xs) /\ IsL K (Cn c Z) H' ds xs) \/ (k ∉ c.O /\ Is K (Cn c Z) H' d v)) := fun hk hne => by
   obtain ⟨v, h1, h2⟩ := r.val k d hk
   refine ⟨v, h1, ?_⟩
   rcases h2 with ⟨hi, ds, a, xs, h3, h5, h6, h7⟩ | ⟨hi, h3⟩
   ·subst h5
    refine .inl ⟨hi, ds, a, xs, h3, rfl, kp a _ h6 (fun hio => ?_), gr.isL h7⟩
    cases fo with
    | none => exact hio
    | some p =>
     obtain ⟨i', j'⟩ := p
     have e := r.inj k j' a hi hfo.1 h1 hio
     exact hne i' (by rw [e])
   ·exact .inr ⟨hi, gr.is h3⟩
  cases fo with
  | none => exact oldSlot hd (fun i e => by cases e)
  | some p =>
   obtain ⟨i', j'⟩ := p
   have hd' : (ρ.set j' (ρe[i']?).join)[k]? = some (some d) := hd
   by_cases e : k = j'
   ·subst e
    have hl : k < ρ.length := by
     have := (gI_.mp hd').1
     rwa [lS_] at this
    rw [List.getElem?_set_self hl] at hd'
    have he : ρe[i']? = some (some d) := v5 (Option.some.inj hd')
    obtain ⟨ds, a, xs, h1, h3, h4, h5⟩ := q.getO (show i' ∈ foO (some (i', k)) by simp [foO]) he
    have h3' := hf i' k rfl
    rw [h3] at h3'
    obtain ⟨k2, j2, e1, e2, e3⟩ := jJ h3'.symm
    have hk2 : k2 = i' - nt := by omega
    subst hk2
    rw [hfo.2.2.1] at e2
    cases e2
    exact ⟨.ref a, e3, .inl ⟨hfo.1, ds, a, xs, h1, rfl, h4, IsL.ext Ext.refl (fun b hb _ => hb.1.1) h5⟩⟩
   ·rw [qY e] at hd'
    exact oldSlot hd' (fun i e2 => e (by cases e2; rfl))
 ·obtain ⟨a, xs, h1, h2, h3⟩ := r.own j hj v hv
  subst h1
  by_cases hio : qa8 Z fo a
  ·cases fo with
   | none => exact hio.elim
   | some p =>
    obtain ⟨i', j'⟩ := p
    have hc : (qC nt fr Z)[i']? = some (some (.ref a)) := by
     have := vc (Z := Z) (nt := nt) hfo.2.2.1
     rw [show nt + (i' - nt) = i' by have := hfo.2.1; omega] at this
     rw [this]
     have hio' : Z[j']? = some (some (.ref a)) := hio
     rw [hio']; rfl
    have h3' := hf i' j' rfl
    rw [hc] at h3'
    obtain ⟨a', ys, e1, e2, _⟩ := q.own i' (by simp [foO, cin]) _ h3'
    cases e1
    exact ⟨a, ys, rfl, e2, h3⟩
  ·exact ⟨a, xs, rfl, kp a _ h2 hio, h3⟩
 ·by_cases hio2 : qa8 Z fo b
  ·cases fo with
   | none => exact hio2.elim
   | some p =>
    obtain ⟨a, ys, e1, e2, e3⟩ := r.own p.2 hfo.1 _ hio2
    cases e1
    rcases e3 with e3 | e3
    ·rw [hb] at e3; cases e3
    ·exact absurd e3.2 hio
  ·exact kp b o (r.kp b o hb hio) hio2
theorem qaE {it elt : Expr} {ifs : List Expr} {scope : Scope} {N' : List Str} {nt : Nat} {fr : List Nat} {fo : Option (Nat × Nat)} {f : M (List D)} {g : D -> Env -> Option Env} {t : M Bool} {k : M D} (hc : X.calm = true) (hi : DI X c tg it f) (S : CompScope X scope N' nt fr)
  (hfo : qhK c nt fr fo)
  (hb : ∀ fp cl C s₀ H₀ pn B0 H1 Io' acc S', DG (zf X scope N' fp cl C s₀ H₀ pn) (cin B0 H1 (foO fo) Io' acc S') tg g /\ DF (zf X scope N' fp cl C s₀ H₀ pn) (cin B0 H1 (foO fo) Io' acc S') ifs t /\ DE (zf X scope N' fp cl C s₀ H₀ pn) (cin B0 H1 (foO fo) Io' acc S') elt k)
  (hs : ∀ x, foldedSetIterable it X.env x = pure x := by intro _; rfl) : DE X c (.ListComp elt [⟨tg, it, ifs, 0⟩] scope pos) (yE nt fr fo f g t k) := by
 obtain ⟨wi, pi, wI⟩ := hi
 refine ⟨_, qhJ hc pi S hs, fun ρ Z H Q r h => wI ρ Z H _ r (WpI.bnd h fun ds ρ1 J H1 r1 iok g1 h1 => ?_)⟩
 intro acc fp cl C s₀ H₀ pn hn
 obtain ⟨⟨tg', pg, wg⟩, ⟨tt, pt, wt⟩, ⟨te, pe, we⟩⟩ := hb fp cl C s₀ H₀ pn (Cn c Z) H1 (qa8 Z fo) acc fun j => (qC nt fr Z)[j]?
 refine ⟨tg', tt, te, pg, pt, pe, ?_⟩
 cases ew : zb g t k ds [] (jC nt fr ρ1) with
 | exc x ρ' => rw [ew] at h1; exact h1.elim
 | bad => rw [ew] at h1; exact h1.elim
 | ok p =>
  rw [ew] at h1
  obtain ⟨ys, ρe⟩ := p
  have h1 : ∀ v H', Rep X.K c (qiO fo ρe ρ1) Z H' -> Is X.K (Cn c Z) H' (.lst ys) v -> Gr c.O Z H1 H' -> Q v H' := h1
  have accO : ∀ j ∈ foO fo, (qC nt fr Z)[j]? ≠ some (some (.ref acc)) := fun j hj e => by
   have r0 := r1.entry (acc := acc) hn hfo
   cases fo with
   | none => cases hj
   | some p =>
    obtain ⟨i', j'⟩ := p
    have e2 : j = i' := by simpa [foO] using hj
    subst e2
    obtain ⟨k2, j2, e1, e2, e3⟩ := jJ e
    have hk2 : k2 = j - nt := by omega
    subst hk2
    rw [hfo.2.2.1] at e2
    cases e2
    obtain ⟨a, us, e4, e5, _⟩ := r1.own j' hfo.1 _ e3
    cases e4; rw [hn] at e5; cases e5
  refine ⟨fun i m Z' H' => m = ds.length - i /\ i <= ds.length /\ ∃ ρ' zs xs, Rep X.K (cin (Cn c Z) H1 (foO fo) (qa8 Z fo) acc fun j => (qC nt fr Z)[j]?) ρ' Z' H' /\ (∀ j ∈ foO fo, Z'[j]? = (qC nt fr Z)[j]?) /\ H' acc = some (.lst xs) /\ IsL X.K (Cn (cin (Cn c Z) H1 (foO fo) (qa8 Z fo) acc fun j => (qC nt fr Z)[j]?) Z') H' zs xs /\ zb g t k (ds.drop i) zs ρ' = .ok (ys, ρe),
   ⟨ds.length, by simp, Nat.zero_le _, jC nt fr ρ1, [], [], r1.entry hn hfo, fun _ _ => rfl, qo, rfl, by simpa using ew⟩, ?_⟩
  rintro i m Z' H' ⟨rfl, hi, ρ', zs, xs, r', so, ha, iz, w⟩
  obtain ⟨_, gr⟩ := r1.leave hn hfo (fun i j e => so i (by rw [e]; simp [foO])) r'
  have ex : Ext (CnT c Z H1) H1 H' := ⟨gr.ext.tup, gr.ext.frz, fun b o hb hq => gr.ext.at_ b o hb.1.2 hq⟩
  have accC : ∀ τ : St, (∀ j ∈ foO fo, τ[j]? = (qC nt fr Z)[j]?) -> Cl (foO fo) τ acc := fun τ hτ j hj e => accO j hj (by rw [<- hτ j hj]; exact e)
  by_cases hlt : i < ds.length
  ·refine .inr ⟨iok.go H' i ds[i] ex (by simp [hlt]), fun x H'' y => ?_⟩
   obtain ⟨sm, ix⟩ := iok.yl H' i ds[i] x H'' ex (by simp [hlt]) y
   rw [vb hlt] at w
   unfold zb at w
   have ix2 : Is X.K (Cn (cin (Cn c Z) H1 (foO fo) (qa8 Z fo) acc fun j => (qC nt fr Z)[j]?) Z') H'' ds[i] x := Is.ext Ext.refl (fun a ha _ => ⟨⟨ha.1, fun e => by
    have := ha.2
    rw [e, hn] at this; cases this⟩, fun j hj e => by
     rw [so j hj] at e
     cases fo with
     | none => cases hj
     | some p =>
      obtain ⟨i', j'⟩ := p
      have e2 : j = i' := by simpa [foO, cin] using hj
      subst e2
      obtain ⟨k2, j2, e1, e2, e3⟩ := jJ e
      have hk2 : k2 = j - nt := by omega
      subst hk2
      rw [hfo.2.2.1] at e2
      cases e2
      exact ha.1.2 j' hfo.1 e3⟩) ix
   cases e1 : g ds[i] ρ' with
   | none => simp only [e1] at w; cases w
   | some ρ2 =>
    simp only [e1] at w
    refine wg ρ' Z' H'' ds[i] x ρ2 _ (r'.same sm) ix2 e1 fun Z2 r2 g2 o2 => ?_
    have so2 : ∀ j ∈ foO fo, Z2[j]? = (qC nt fr Z)[j]? := fun j hj => (o2 j hj).trans (so j hj)
    have ha2 : H'' acc = some (.lst xs) := sm _ _ ha
    have iz2 := g2.isL (IsL.ext (Ext.of_same sm) (fun _ h _ => h) iz)
    cases e2 : t ρ2 with
    | exc x ρ3 => simp only [e2] at w; cases w
    | bad => simp only [e2] at w; cases w
    | ok p2 =>
     obtain ⟨bb, ρ3⟩ := p2
     refine wt ρ2 Z2 H'' _ r2 ?_
     rw [e2]
     intro H3 r3 g3
     have ha3 : H3 acc = some (.lst xs) := g3.ext.at_ _ _ (accC Z2 so2) ha2
     have iz3 := g3.isL iz2
     cases bb with
     | false =>
      rw [if_neg Bool.false_ne_true]
      simp only [e2] at w
      exact ⟨ds.length - (i + 1), by omega, rfl, hlt, ρ3, zs, xs, r3, so2, ha3, iz3, w⟩
     | true =>
      rw [if_pos rfl]
      simp only [e2] at w
      cases e3 : k ρ3 with
      | exc x ρ4 => simp only [e3] at w; cases w
      | bad => simp only [e3] at w; cases w
      | ok p3 =>
       obtain ⟨d4, ρ4⟩ := p3
       simp only [e3] at w
       refine we ρ3 Z2 H3 _ r3 ?_
       rw [e3]
       intro y4 H4 r4 i4 g4
       have ha4 : H4 acc = some (.lst xs) := g4.ext.at_ _ _ (accC Z2 so2) ha3
       have hsz : qI (zs.length + 1) = true := by
        cases e5 : qI (zs.length + 1) with
        | true => rfl
        | false => rw [e5] at w; simp at w
       rw [if_pos hsz] at w
       have hsz' : zs.length + 1 <= sizeLine := of_decide_eq_true hsz
       have r5 := r4.grow (ys := xs ++ [y4]) ha4 (fun j hj e => accC Z2 so2 j hj e)
       have ext5 : Ext (Cn (cin (Cn c Z) H1 (foO fo) (qa8 Z fo) acc fun j => (qC nt fr Z)[j]?) Z2) H4 (upd H4 acc (.lst (xs ++ [y4]))) := ⟨fun b us hb => by rw [qj (vw hb ha4 (by intro z; cases z))]; exact hb, fun b o u hb => by rw [qj (vw hb ha4 (by intro z; cases z))]; exact hb, fun b o hb hq => by rw [qj hb.1.2]; exact hq⟩
       refine ⟨xs, ha4, by rw [iz3.length]; omega, ds.length - (i + 1), by omega, rfl, hlt, ρ4, zs ++ [d4], xs ++ [y4], r5, so2, qo, ?_, w⟩
       exact IsL.append (IsL.ext ext5 (fun _ h _ => h) (g4.isL iz3)) (IsL.one (Is.ext ext5 (fun _ h _ => h) i4))
  ·have hie : i = ds.length := by omega
   subst hie
   rw [List.drop_of_length_le (Nat.le_refl _)] at w
   unfold zb at w
   cases w
   obtain ⟨r6, g6⟩ := r1.leave hn hfo (fun i j e => so i (by rw [e]; simp [foO])) r'
   exact .inl ⟨iok.stop H' ex, h1 _ H' r6 ⟨acc, xs, rfl, r1.new hn, ha, IsL.ext Ext.refl (fun a ha hs => ha.1.1) iz⟩ g6⟩
end
theorem Rep.io {K : Fr0} {c : Fc} {ρ : Env} {Z : St} {H H' : Hp} {i : Nat} {a : Addr} {bs : List D} {xs : List V} (r : Rep K c ρ Z H) (hi : i ∈ c.O) (hs : Z[i]? = some (some (.ref a))) (kp : ∀ b o, b ≠ a -> H b = some o -> H' b = some o)
  (ha : H' a = some (.lst xs)) (him : True) (il : IsL K (Cn c Z) H' bs xs) (dm : ∀ b, H' b = none -> H b = none) : Rep K c (ρ.set i (some (.lst bs))) Z H' /\ Gr c.O Z H H' := by
 obtain ⟨a', xs0, e0, h0, hown⟩ := r.own i hi _ hs
 cases e0
 have gr : Gr c.O Z H H' := ⟨⟨fun b us hb => kp b _ (vw hb h0 (by intro z; cases z)) hb, fun b o u hb => kp b _ (vw hb h0 (by intro z; cases z)) hb, fun b o hc hb => kp b o (fun e => hc i hi (by rw [hs, e])) hb⟩, dm⟩
 refine ⟨⟨by rw [lS_]; exact r.len, fun k d hk => ?_, fun j hj v hv => ?_, r.inj, r.b0, fun b o hb hio => ?_, fun b hb => r.dm b (dm b hb), r.pO, r.ps⟩, gr⟩
 ·by_cases e : k = i
  ·subst e
   have hl : k < ρ.length := by
    have := (gI_.mp hk).1
    rwa [lS_] at this
   rw [List.getElem?_set_self hl] at hk
   cases hk
   exact ⟨.ref a, hs, .inl ⟨hi, bs, a, xs, rfl, rfl, ha, il⟩⟩
  ·rw [qY e] at hk
   obtain ⟨v, h1, h2⟩ := r.val k d hk
   refine ⟨v, h1, ?_⟩
   rcases h2 with ⟨hk2, ds, b, ys, h3, h5, h6, h7⟩ | ⟨hk2, h3⟩
   ·subst h5
    have ne : b ≠ a := fun e2 => e (r.inj k i a hk2 hi (by rw [h1, e2]) hs)
    exact .inl ⟨hk2, ds, b, ys, h3, rfl, kp b _ ne h6, gr.isL h7⟩
   ·exact .inr ⟨hk2, gr.is h3⟩
 ·obtain ⟨b, ys, h1, h2, h3⟩ := r.own j hj v hv
  subst h1
  by_cases e : b = a
  ·subst e; exact ⟨b, xs, rfl, ha, h3⟩
  ·exact ⟨b, ys, rfl, kp b _ e h2, h3⟩
 ·have ne : b ≠ a := fun e => by
   subst e
   rcases hown with z | z
   ·rw [hb] at z; cases z
   ·exact hio z.2
  exact kp b o ne (r.kp b o hb hio)
def zg (i : Nat) (ρ : Env) : Option (List D) := match ρ[i]? with
 | some (some (.lst ds)) => some ds
 | _ => none
theorem qeh {i : Nat} {ρ : Env} {ds : List D} (h : zg i ρ = some ds) : ρ[i]? = some (some (.lst ds)) := by
 unfold zg at h
 split at h
 ·rename_i e; cases h; exact e
 ·cases h
theorem Rep.getLO {K : Fr0} {c : Fc} {ρ : Env} {Z : St} {H : Hp} (r : Rep K c ρ Z H) {i : Nat} {ds : List D} (hi : i ∈ c.O) (h : zg i ρ = some ds) :
  ∃ a xs, True /\ Z[i]? = some (some (.ref a)) /\ H a = some (.lst xs) /\ IsL K (Cn c Z) H ds xs := by
 obtain ⟨ds', a, xs, h1, h3, h4, h5⟩ := r.getO hi (qeh h)
 cases h1
 exact ⟨a, xs, trivial, h3, h4, h5⟩
theorem jt {H : Hp} {a b : Addr} {o u : HO} (h : b ≠ a) (hb : H b = some o) : upd H a u b = some o := by rw [qj h]; exact hb
theorem qei {H : Hp} {a b : Addr} {u : HO} (h : upd H a u b = none) : H b = none := by
 by_cases e : b = a
 ·subst e; rw [qo] at h; cases h
 ·rw [qj e] at h; exact h
section
variable {X : Cx} {c : Fc} {a b e : Expr} {pos : Pos}
def zM (i : Nat) (f : M D) : M D := fun ρ => match zg i ρ with
 | none => .bad
 | some _ => (bnd f fun d ρ => match zg i ρ with
  | some ds => if imm d && qI (ds.length + 1) then .ok (.non, ρ.set i (some (.lst (ds ++ [d])))) else .bad
  | none => .bad) ρ
theorem v6 {i : Nat} {x : Str} {p1 apos : Pos} {f : M D} (he : DE X c e f) (ho : i ∈ c.O := by exact of_decide_eq_true rfl) (hN : X.N[i]? = some x := by rfl) (hv : Vis X.env.scope x := by first | exact Or.inl rfl | exact Or.inr (Or.inl rfl) | exact Or.inr (Or.inr rfl)) (hd : (x == ("__debug__" : Str)) = false := by decide) (hcd : (x == ("__classdict__" : Str)) = false := by decide)
  (hbase : attributeBase (.Name x p1) "append" X.env (eval (.Name x p1) X.env) = eval (.Name x p1) X.env := by rfl)
  (hfew : ((backTo pos (starEach [e] X.env)).all (fun x => !x.1) && (backToKw pos (keywordEach [] X.env)).all (fun x => x.1.isSome)
   && decide ([e].length + ([] : List Keyword).length + (if ([] : List Keyword).isEmpty then 0 else 1) < 30)) = true := by rfl)
  (hline : (apos.endLine == pos.line) = true := by rfl) (hs : starEach [e] X.env = (false, eval e X.env) :: starEach [] X.env := by rfl) (hplain : (backTo pos (starEach [] X.env)).any (·.1) = false := by rfl) :
  DE X c (.Call (.Attribute (.Name x p1) "append" apos) [e] [] pos) (zM i f) := by
 obtain ⟨t, p, w⟩ := he
 refine ⟨_, qlg PySem.F.plainAttrs_list PySem.F.slot_list_append PySem.F.type_list_append vT (vq hN hv hd hcd) (uv p qbd hs) hbase hfew hline hs hplain, fun ρ Z H Q r h => ?_⟩
 unfold zM at h
 cases e0 : zg i ρ with
 | none => rw [e0] at h; exact h.elim
 | some ds0 =>
  simp only [e0] at h
  obtain ⟨l, xs0, _, hl, hH, _⟩ := r.getLO ho e0
  refine ⟨.ref l, hl, .inl ⟨rfl, xs0, .inl (.inl hH)⟩, w ρ Z H _ r (Wp.bnd h fun d ρ1 v H1 r1 i1 g1 h1 => ?_)⟩
  cases e1 : zg i ρ1 with
  | none => simp only [e1] at h1; exact h1.elim
  | some ds =>
   simp only [e1] at h1
   by_cases hb : (imm d && qI (ds.length + 1)) = true
   ·rw [if_pos hb] at h1
    rw [Bool.and_eq_true] at hb
    obtain ⟨l', xs, him, hl', hH', il⟩ := r1.getLO ho e1
    rw [hl] at hl'
    cases hl'
    have hsz : ds.length + 1 <= sizeLine := of_decide_eq_true hb.2
    have ext : Ext (Cn c Z) H1 (upd H1 l (.lst (xs ++ [v]))) := ⟨fun b us hb => jt (vw hb hH' (by intro z; cases z)) hb, fun b o u hb => jt (vw hb hH' (by intro z; cases z)) hb, fun b o hb hq => jt (fun e => hb.2 i ho (by rw [hl, e])) hq⟩
    obtain ⟨r2, g2⟩ := r1.io (H' := upd H1 l (.lst (xs ++ [v]))) (bs := ds ++ [d]) ho hl (fun b o hb ho => jt hb ho) qo trivial
     (IsL.append (IsL.ext ext (fun _ h _ => h) il) (IsL.one (Is.ext ext (fun _ h _ => h) i1))) (fun b hb => qei hb)
    exact ⟨l, xs, v, rfl, rfl, hH', by rw [il.length]; omega, h1 _ _ r2 rfl g2⟩
   ·rw [if_neg hb] at h1; exact h1.elim
def qb4 (i : Nat) (k f : M D) : MS := sbnd f fun d ρ => match zg i ρ with
 | none => .bad
 | some _ => (sbnd k fun j ρ => match j, zg i ρ with
  | .int n, some ds => match ixN ds.length n with
   | some q => if imm d then .ok (.nx (ρ.set i (some (.lst (ds.set q d))))) else .bad
   | none => .bad
  | _, _ => .bad) ρ
theorem qej {i : Nat} {x : Str} {p1 p2 : Pos} {ke : Expr} {f k : M D} (he : DE X c e f) (hk : DE X c ke k) (ho : i ∈ c.O := by exact of_decide_eq_true rfl) (hN : X.N[i]? = some x := by rfl) (hv : Vis X.env.scope x := by first | exact Or.inl rfl | exact Or.inr (Or.inl rfl) | exact Or.inr (Or.inr rfl)) (hd : (x == ("__debug__" : Str)) = false := by decide) (hcd : (x == ("__classdict__" : Str)) = false := by decide)
  (ha : ∀ v, assign (.Subscript (.Name x p1) ke p2) X.env v = (do
   let ov <- holding [v] (eval (.Name x p1) X.env)
   let iv <- holding [v, ov] (eval ke X.env)
   standAt p2
   holding [v, ov, iv] (setItem ov iv v)
   release [v, ov, iv] []) := by intro _; rfl)
  (hs : swapsWithSole [.Subscript (.Name x p1) ke p2] e pos.line X.env = pure false := by rfl) (hw : swappedStores [.Subscript (.Name x p1) ke p2] e X.env = pure none := by rfl) (h1 : (assignEach [.Subscript (.Name x p1) ke p2] X.env).map (·.2) = [assign (.Subscript (.Name x p1) ke p2) X.env] := by rfl) :
  DS X c (.Assign [.Subscript (.Name x p1) ke p2] e pos) (qb4 i k f) := by
 obtain ⟨t, p, w⟩ := he
 obtain ⟨tk, pk, wk⟩ := hk
 refine ⟨_, qgr p (qjc (vq hN hv hd hcd) pk qfx ha) hs hw h1, fun ρ Z H D r h => w ρ Z H _ r (Wp.sbnd h fun d ρ1 v H1 r1 i1 g1 h1 => ?_)⟩
 cases e0 : zg i ρ1 with
 | none => simp only [e0] at h1; exact h1.elim
 | some ds0 =>
  simp only [e0] at h1
  obtain ⟨l, xs0, _, hl, hH, _⟩ := r1.getLO ho e0
  refine ⟨.ref l, hl, wk ρ1 Z H1 _ r1 (Wp.sbnd h1 fun j ρ2 u H2 r2 i2 g2 h2 => ?_)⟩
  cases j with
  | int n =>
   cases e1 : zg i ρ2 with
   | none => simp only [e1] at h2; exact h2.elim
   | some ds =>
    simp only [e1] at h2
    cases e2 : ixN ds.length n with
    | none => simp only [e2] at h2; exact h2.elim
    | some q =>
     simp only [e2] at h2
     by_cases hb : imm d = true
     ·rw [if_pos hb] at h2
      obtain ⟨l', xs, him, hl', hH', il⟩ := r2.getLO ho e1
      rw [hl] at hl'
      cases hl'
      cases i2
      have i3 := g2.is i1
      have ext : Ext (Cn c Z) H2 (upd H2 l (.lst (xs.set q v))) := ⟨fun b us hb => jt (vw hb hH' (by intro z; cases z)) hb, fun b o u hb => jt (vw hb hH' (by intro z; cases z)) hb, fun b o hb hq => jt (fun e => hb.2 i ho (by rw [hl, e])) hq⟩
      obtain ⟨r3, g3⟩ := r2.io (H' := upd H2 l (.lst (xs.set q v))) (bs := ds.set q d) ho hl (fun b o hb ho => jt hb ho) qo trivial
       (IsL.set (Is.ext ext (fun _ h _ => h) i3) q (IsL.ext ext (fun _ h _ => h) il)) (fun b hb => qei hb)
      exact ⟨l, xs, n, q, rfl, rfl, hH', by rw [il.length]; exact e2, h2 Z _ r3 g3.s⟩
     ·rw [if_neg hb] at h2; exact h2.elim
  | _ => exact h2.elim
structure qfP (K : Fr0) (c : Fc) (ρ : Env) (Z : St) (H : Hp) (a : Addr) : Prop where
 val : ∀ i d v, ρ[i]? = some (some d) -> i ∉ c.O -> Z[i]? = some (some v) -> Is K (fun b => Cn c Z b /\ b ≠ a) H d v
 cont : ∀ i ds b xs, ρ[i]? = some (some (.lst ds)) -> i ∈ c.O -> Z[i]? = some (some (.ref b)) -> H b = some (.lst xs) -> IsL K (Cn c Z) H ds xs -> IsL K (fun b => Cn c Z b /\ b ≠ a) H ds xs
 own : ∀ j ∈ c.O, Z[j]? ≠ some (some (.ref a))
 new : c.H0 a = none
theorem Is.fresh {K : Fr0} {A : Addr -> Prop} {H : Hp} {d : D} {v : V} {a : Addr} (h : Is K A H d v) (hn : H a = none) : Is K (fun b => A b /\ b ≠ a) H d v := Is.ext Ext.refl (fun b h1 h2 => ⟨h1, fun e => by rw [e, hn] at h2; cases h2⟩) h
theorem Rep.apart {K : Fr0} {ρ : Env} {Z : St} {H : Hp} {a : Addr} {o : HO} (r : Rep K c ρ Z H) (hn : H a = none) : qfP K c ρ Z (upd H a o) a where
 val := fun i d v h1 h2 h3 => by
  obtain ⟨w, h4, h5⟩ := r.get h2 h1
  rw [h3] at h4
  cases h4
  exact Is.ext (Ext.of_same (qs hn _)) (fun _ h _ => h) (h5.fresh hn)
 cont := fun i ds b xs h1 h2 h3 h4 _ => by
  obtain ⟨ds', a', ys, e1, e2, e3, e4⟩ := r.getO h2 h1
  cases e1
  rw [h3] at e2
  cases e2
  have := qs hn o _ _ e3
  rw [h4] at this
  cases this
  exact IsL.ext (Ext.of_same (qs hn _)) (fun b hb hs => ⟨hb, fun e => by rw [e, hn] at hs; cases hs⟩) e4
 own := fun j hj e => (r.new hn).2 j hj e
 new := r.dm a hn
theorem Rep.apart_same {K : Fr0} {ρ : Env} {Z : St} {H H' : Hp} {a : Addr} (r : Rep K c ρ Z H) (hn : H a = none) (sm : zX H H') : qfP K c ρ Z H' a where
 val := fun i d v h1 h2 h3 => by
  obtain ⟨w, h4, h5⟩ := r.get h2 h1
  rw [h3] at h4
  cases h4
  exact Is.ext (Ext.of_same sm) (fun _ h _ => h) (h5.fresh hn)
 cont := fun i ds b xs h1 h2 h3 h4 _ => by
  obtain ⟨ds', a', ys, e1, e2, e3, e4⟩ := r.getO h2 h1
  cases e1
  rw [h3] at e2
  cases e2
  have := sm _ _ e3
  rw [h4] at this
  cases this
  exact IsL.ext (Ext.of_same sm) (fun b hb hs => ⟨hb, fun e => by rw [e, hn] at hs; cases hs⟩) e4
 own := fun j hj e => (r.new hn).2 j hj e
 new := r.dm a hn
def WpN (K : Fr0) (c : Fc) (Z : St) (H : Hp) (Q : VK) : R (List D × Env) -> Prop
 | .ok (ds, ρ) => ∀ a xs H', H a = none -> Rep K c ρ Z H' -> qfP K c ρ Z H' a -> H' a = some (.lst xs) -> True -> IsL K (fun b => Cn c Z b /\ b ≠ a) H' ds xs -> Gr c.O Z H H' -> Q (.ref a) H'
 | .exc x ρ => ∀ H', Rep K c ρ Z H' -> Gr c.O Z H H' -> c.E x H'
 | .bad => False
def DN (X : Cx) (c : Fc) (e : Expr) (f : M (List D)) : Prop := ∃ t, PE X e t /\ ∀ ρ Z H Q, Rep X.K c ρ Z H -> WpN X.K c Z H Q (f ρ) -> t Z H Q
theorem WpN.gr {K : Fr0} {Z : St} {H H1 : Hp} {Q : VK} : ∀ {r : R (List D × Env)}, WpN K c Z H Q r -> Gr c.O Z H H1 -> WpN K c Z H1 Q r
 | .ok (d, ρ), h, g => fun a xs H' hn h1 h2 h3 h4 h5 hg => h a xs H' (g.dom a hn) h1 h2 h3 h4 h5 (g.trans hg)
 | .exc x ρ, h, g => fun H' hr hg => h H' hr (g.trans hg)
 | .bad, h, _ => h
theorem WpL.bndN {K : Fr0} {Z : St} {H : Hp} {Q : VK} {f : M (List D)} {k : List D -> M (List D)} {ρ : Env} {Q' : List V -> Hp -> Prop} (h : WpN K c Z H Q (Sk.bnd f k ρ)) (hQ : ∀ d ρ' v H', Rep K c ρ' Z H' -> IsL K (Cn c Z) H' d v -> Gr c.O Z H H' -> WpN K c Z H' Q (k d ρ') -> Q' v H') : WpL K c Z H Q' (f ρ) := by
 unfold Sk.bnd at h
 cases e : f ρ with
 | ok p => rw [e] at h; exact fun v H' hr hi hg => hQ p.1 p.2 v H' hr hi hg (h.gr hg)
 | exc x ρ' => rw [e] at h; exact h
 | bad => rw [e] at h; exact h
def qiP (f : M (List D)) : M (List D) := bnd f fun ds => lift (if immL ds && qI ds.length then some ds else none)
theorem qgF {es : List Expr} {f : M (List D)} (h : DA X c es f) : DN X c (.List es pos) (qiP f) := by
 obtain ⟨t, p, w⟩ := h
 refine ⟨_, qgt p, fun ρ Z H Q r h => w ρ Z H _ r (WpL.bndN h fun ds ρ1 vs H1 r1 i1 g1 h1 => ?_)⟩
 by_cases hb : (immL ds && qI ds.length) = true
 ·rw [if_pos hb] at h1
  rw [Bool.and_eq_true] at hb
  refine ⟨by rw [i1.length]; exact of_decide_eq_true hb.2, fun p hp => ?_⟩
  exact h1 p vs _ hp (r1.laid hp _) (r1.apart hp) qo trivial (IsL.ext (Ext.of_same (qs hp _)) (fun b h hs => ⟨h, fun e => by rw [e, hp] at hs; cases hs⟩) i1) (.of_same (qs hp _))
 ·rw [if_neg hb] at h1; exact h1.elim
theorem Cl.setO {O : List Nat} {Z : St} {i : Nat} {a b : Addr} (h : Cl O Z b) (hb : b ≠ a) : Cl O (Z.set i (some (.ref a))) b := fun j hj e => by
 by_cases hji : j = i
 ·subst hji
  have hl : j < Z.length := by
   have := (gI_.mp e).1
   rwa [lS_] at this
  rw [List.getElem?_set_self hl] at e
  cases e
  exact hb rfl
 ·rw [qY hji] at e
  exact h j hj e
theorem Rep.setO {K : Fr0} {ρ : Env} {Z : St} {H : Hp} {i : Nat} {a : Addr} {ds : List D} {xs : List V} (r : Rep K c ρ Z H) (hi : i ∈ c.O) (hP : i ∉ c.P) (ap : qfP K c ρ Z H a) (ha : H a = some (.lst xs)) (him : True) (il : IsL K (fun b => Cn c Z b /\ b ≠ a) H ds xs) :
  Rep K c (ρ.set i (some (.lst ds))) (Z.set i (some (.ref a))) H where
 len := by rw [lS_, lS_]; exact r.len
 val := fun j e hj => by
  by_cases e1 : j = i
  ·subst e1
   have hl : j < ρ.length := by
    have := (gI_.mp hj).1
    rwa [lS_] at this
   rw [List.getElem?_set_self hl] at hj
   cases hj
   exact ⟨.ref a, List.getElem?_set_self (by rw [<- r.len]; exact hl), .inl ⟨hi, ds, a, xs, rfl, rfl, ha, IsL.ext Ext.refl (fun b hb _ => ⟨hb.1.1, hb.1.2.setO hb.2⟩) il⟩⟩
  ·rw [qY e1] at hj
   obtain ⟨w, h1, h2⟩ := r.val j e hj
   refine ⟨w, by rw [qY e1]; exact h1, ?_⟩
   rcases h2 with ⟨g1, ds', b', xs', g3, g5, g6, g7⟩ | ⟨h3, h4⟩
   ·subst g3 g5
    exact .inl ⟨g1, ds', b', xs', rfl, rfl, g6, IsL.ext Ext.refl (fun b hb _ => ⟨hb.1.1, hb.1.2.setO hb.2⟩) (ap.cont j ds' b' xs' hj g1 h1 g6 g7)⟩
   ·exact .inr ⟨h3, Is.ext Ext.refl (fun b hb _ => ⟨hb.1.1, hb.1.2.setO hb.2⟩) (ap.val j e w hj h3 h1)⟩
 own := fun j hj w h => by
  by_cases e1 : j = i
  ·subst e1
   have hl : j < Z.length := by
    have := (gI_.mp h).1
    rwa [lS_] at this
   rw [List.getElem?_set_self hl] at h
   cases h
   exact ⟨a, xs, rfl, ha, .inl ap.new⟩
  ·rw [qY e1] at h
   exact r.own j hj w h
 inj := fun j k b hj hk h1 h2 => by
  by_cases e1 : j = i
  ·by_cases e2 : k = i
   ·rw [e1, e2]
   ·subst e1
    have hl : j < Z.length := by
     have := (gI_.mp h1).1
     rwa [lS_] at this
    rw [List.getElem?_set_self hl] at h1
    cases h1
    rw [qY e2] at h2
    exact absurd h2 (ap.own k hk)
  ·by_cases e2 : k = i
   ·subst e2
    have hl : k < Z.length := by
     have := (gI_.mp h2).1
     rwa [lS_] at this
    rw [List.getElem?_set_self hl] at h2
    cases h2
    rw [qY e1] at h1
    exact absurd h1 (ap.own j hj)
   ·rw [qY e1] at h1
    rw [qY e2] at h2
    exact r.inj j k b hj hk h1 h2
 b0 := r.b0
 kp := r.kp
 dm := r.dm
 pO := r.pO
 ps := fun j hj => by
  have e : j ≠ i := fun e => hP (e ▸ hj)
  rw [qY e]; exact r.ps j hj
def vE (i : Nat) (f : M (List D)) : MS := sbnd f fun ds ρ => .ok (.nx (ρ.set i (some (.lst ds))))
theorem v7 {i : Nat} {x : Str} {pos' : Pos} {f : M (List D)} (hN : X.N.Nodup) (he : DN X c e f) (ho : i ∈ c.O := by exact of_decide_eq_true rfl) (hP : i ∉ c.P := by exact of_decide_eq_false rfl) (hi : X.N[i]? = some x := by rfl) (hx : Loc X.env.scope x := by first | exact Or.inl rfl | exact Or.inr rfl) (hs : swapsWith e (some (.Name x pos')) pos.line X.env = pure false := by rfl) (hf : X.fn x = true \/ X.env.scope.names.lookup x = some .local := by first | exact .inl rfl | exact .inr rfl | assumption) :
  DS X c (.Assign [.Name x pos'] e pos) (vE i f) := by
 obtain ⟨t, p, w⟩ := he
 refine ⟨_, qdP hN hi hx p hs hf, fun ρ Z H D r h => w ρ Z H _ r ?_⟩
 unfold vE sbnd at h
 cases ef : f ρ with
 | bad => rw [ef] at h; exact h
 | exc z ρ' => rw [ef] at h; exact fun H' hr hg => h Z H' hr hg.s
 | ok q =>
  rw [ef] at h
  intro a xs H' hn r' ap ha him il g'
  exact h _ H' (r'.setO ho hP ap ha him il) ⟨g'.ext, fun b hb hs => hb.setO (fun e => by rw [e, hn] at hs; exact absurd hs (by simp)), g'.dom⟩
def qjO (i : Nat) : M D := fun ρ => match zg i ρ with
 | some ds => .ok (.int ds.length, ρ)
 | none => .bad
def qds (i : Nat) : M D := fun ρ => match zg i ρ with
 | some ds => .ok (.tup ds, ρ)
 | none => .bad
theorem qek {i : Nat} {x : Str} {p p1 : Pos} (hg : Gl X "tuple") (hm : X.mg "tuple" = none) (hb : bootBuiltins "tuple" = some (.type "tuple") := by first | rfl | exact PySem.boot_tuple) (ho : i ∈ c.O := by exact of_decide_eq_true rfl) (hN : X.N[i]? = some x := by rfl) (hv : Vis X.env.scope x := by first | exact Or.inl rfl | exact Or.inr (Or.inl rfl) | exact Or.inr (Or.inr rfl)) (hd : (x == ("__debug__" : Str)) = false := by decide) (hcd : (x == ("__classdict__" : Str)) = false := by decide) :
  DE X c (.Call (.Name "tuple" p) [.Name x p1] [] pos) (qds i) := by
 refine ⟨_, qdZ qaw hg hm hb (uv (vq hN hv hd hcd) qbd), fun ρ Z H Q r h => ?_⟩
 unfold qds at h
 cases e0 : zg i ρ with
 | none => simp only [e0] at h; exact h.elim
 | some ds =>
  simp only [e0] at h
  obtain ⟨l, xs, him, hl, hH, il⟩ := r.getLO ho e0
  refine ⟨.ref l, hl, l, xs, rfl, .inl ⟨.inl (.inl hH), fun p hp => h _ _ (r.laid hp _) ⟨p, xs, rfl, .inl qo, ?_⟩ (.of_same (qs hp _))⟩⟩
  exact IsL.ext (Ext.of_same (qs hp _)) (fun _ h _ => h) il
def qjP (i : Nat) (g : M D) : M D := fun ρ => match zg i ρ with
 | none => .bad
 | some _ => (bnd g fun k ρ => match k, zg i ρ with
  | .int n, some ds => match atI ds n with
   | some d => .ok (d, ρ)
   | none => .bad
  | _, _ => .bad) ρ
theorem qjQ {i : Nat} {x : Str} {p1 : Pos} {g : M D} (hb : DE X c b g) (hs : qb0 b := by intro _ _; rfl) (ho : i ∈ c.O := by exact of_decide_eq_true rfl) (hN : X.N[i]? = some x := by rfl) (hv : Vis X.env.scope x := by first | exact Or.inl rfl | exact Or.inr (Or.inl rfl) | exact Or.inr (Or.inr rfl)) (hd : (x == ("__debug__" : Str)) = false := by decide) (hcd : (x == ("__classdict__" : Str)) = false := by decide) :
  DE X c (.Subscript (.Name x p1) b pos) (qjP i g) := by
 obtain ⟨tb, pb, wb⟩ := hb
 refine ⟨_, qjv qd3 (vq hN hv hd hcd) pb hs, fun ρ Z H Q r h => ?_⟩
 unfold qjP at h
 cases e0 : zg i ρ with
 | none => simp only [e0] at h; exact h.elim
 | some ds0 =>
  simp only [e0] at h
  obtain ⟨l, xs0, _, hl, hH, _⟩ := r.getLO ho e0
  refine ⟨.ref l, hl, wb ρ Z H _ r (Wp.bnd h fun k ρ1 v H1 r1 i1 g1 h1 => ?_)⟩
  cases k with
  | int n =>
   cases e1 : zg i ρ1 with
   | none => simp only [e1] at h1; exact h1.elim
   | some ds =>
    simp only [e1] at h1
    cases e2 : atI ds n with
    | none => simp only [e2] at h1; exact h1.elim
    | some d =>
     simp only [e2] at h1
     obtain ⟨l', xs, him, hl', hH', il⟩ := r1.getLO ho e1
     rw [hl] at hl'
     cases hl'
     cases i1
     obtain ⟨w, h3, h4⟩ := il.atI e2
     exact ⟨l, xs, n, w, rfl, rfl, .inl (.inl hH'), h3, h1 w H1 r1 h4 .refl⟩
  | _ => exact h1.elim
end
def cfn (O P : List Nat) (A : Addr -> Prop) (H : Hp) (Io : Addr -> Prop) (E : Exn -> Hp -> Prop) (S : Nat -> Option (Option V)) : Fc where
 O := O
 P := P
 B := fun a => A a \/ H a = none
 H0 := H
 Io := Io
 E := E
 S := S
def j9 (n : Nat) (ds : List D) : Env := ds.map some ++ List.replicate (n - ds.length) none
def spD (K : Fr0) (F : List D -> R D) : Sp := fun vs H Q _ => ∃ ds A, IsL K A H ds vs /\ qd6 K H /\ match F ds with
 | .ok d => ∀ v H', zX H H' -> Is K (fun a => A a \/ H a = none) H' d v -> Q v H'
 | _ => False
def qgG (K : Fr0) (F : List D -> List D -> R (D × List D)) : Sp := fun vs H Q _ => ∃ (bs ds : List D) (A : Addr -> Prop) (a : Addr) (xs vs' : List V), vs = .ref a :: vs' /\ H a = some (.lst xs) /\ qd6 K H /\ IsL K A H bs xs /\ ¬ A a /\ IsL K A H ds vs' /\ match F bs ds with
 | .ok (d, bs') => ∀ v H' xs', (∀ b o, b ≠ a -> H b = some o -> H' b = some o) -> (∀ b, H' b = none -> H b = none) -> H' a = some (.lst xs') -> True -> IsL K (fun b => A b \/ H b = none) H' bs' xs' -> Is K (fun b => A b \/ H b = none) H' d v -> Q v H'
 | _ => False
def dfn (n p : Nat) (body : MS) (ds : List D) : R D := if ds.length = p then match body (j9 n ds) with
 | .ok (.rt d _) => .ok d
 | .ok (.nx _) => .ok .non
 | _ => .bad else .bad
def qaF (n p : Nat) (body : MS) (bs ds : List D) : R (D × List D) := if ds.length + 1 = p then match body (j9 n (.lst bs :: ds)) with
 | .ok (.rt d ρ) => match zg 0 ρ with
  | some bs' => .ok (d, bs')
  | none => .bad
 | .ok (.nx ρ) => match zg 0 ρ with
  | some bs' => .ok (.non, bs')
  | none => .bad
 | _ => .bad else .bad
theorem uQ {N : List Str} {vs : List V} {i : Nat} {v : V} (h : (zx N vs)[i]? = some (some v)) : vs[i]? = some v := by
 unfold zx at h
 by_cases hi : i < vs.length
 ·rw [List.getElem?_append_left (by simpa using hi), gM_] at h
  cases e : vs[i]? with
  | none => rw [e] at h; cases h
  | some w => rw [e] at h; cases h; rfl
 ·rw [List.getElem?_append_right (by simpa using hi), List.getElem?_replicate] at h
  split at h <;> cases h
theorem vL {N : List Str} {vs : List V} {i : Nat} {v : V} (h : vs[i]? = some v) : (zx N vs)[i]? = some (some v) := by
 unfold zx
 have hi : i < vs.length := (gI_.mp h).1
 rw [List.getElem?_append_left (by simpa using hi), gM_, h]; rfl
theorem qbs {n : Nat} {ds : List D} {i : Nat} {d : D} (h : (j9 n ds)[i]? = some (some d)) : ds[i]? = some d := by
 unfold j9 at h
 by_cases hi : i < ds.length
 ·rw [List.getElem?_append_left (by simpa using hi), gM_] at h
  cases e : ds[i]? with
  | none => rw [e] at h; cases h
  | some w => rw [e] at h; cases h; rfl
 ·rw [List.getElem?_append_right (by simpa using hi), List.getElem?_replicate] at h
  split at h <;> cases h
theorem v8 {K : Fr0} {N : List Str} {O : List Nat} {A : Addr -> Prop} {H : Hp} {E : Exn -> Hp -> Prop} {ds : List D} {vs : List V} (il : IsL K A H ds vs) (tb : qd6 K H) (hO : ∀ i ∈ O, ds.length <= i) :
  Rep K (cfn O [] A H (fun _ => False) E fun _ => none) (j9 N.length ds) (zx N vs) H where
 len := by unfold j9 zx; simp [il.length]
 val := fun i d h => by
  have h1 := qbs h
  obtain ⟨v, h2, h3⟩ := il.get h1
  have hi : i ∉ O := fun z => by
   have := (gI_.mp h1).1
   have := hO i z
   omega
  refine ⟨v, vL h2, .inr ⟨hi, Is.ext Ext.refl (fun a ha _ => ⟨.inl ha, fun j hj e => ?_⟩) h3⟩⟩
  have := (gI_.mp (uQ e)).1
  have := hO j hj
  rw [il.length] at *
  omega
 own := fun j hj v h => by
  have := (gI_.mp (uQ h)).1
  have := hO j hj
  rw [il.length] at *
  omega
 inj := fun i j a hi hj h1 h2 => by
  have := (gI_.mp (uQ h1)).1
  have := hO i hi
  rw [il.length] at *
  omega
 b0 := ⟨fun a h => .inr h, tb⟩
 kp := fun b o h _ => h
 dm := fun b h => h
 pO := fun j hj => by cases hj
 ps := fun j hj => by cases hj
section
variable {P : Program} {w : World} {K : PySem.W.Frag} {mg : Str -> Option Value} {base : Heap}
theorem qG {x qual : Str} {st : Stmt} {f : Addr} {fd : FuncData} {N ps : List Str} {k : Nat} {O : List Nat} {body : MS} (F : Fun K x qual st f fd) (S : qv N ps (qe st)) (hO : ∀ i ∈ O, ps.length <= i)
  (hb : ∀ (cdv : Value) (A : Around) (outer : List PySem.Env) (s : Shared) (H : Hp) (E : XK) (B : Addr -> Prop), yT k (A.deeper (envOfC qual (qe st) s.heap.objs.size f cdv)) ->
   DSs (qfu CX0 P w K mg base N qual (qe st) f cdv A outer s H E).nox (cfn O [] B H (fun _ => False) (fun _ _ => False) fun _ => none) (qt st) body) :
  wS P w K mg base CX0 (k + 1) f fd ps (spD K (dfn N.length ps.length body)) := by
 refine F.ok S (fun vs H Q E h => ?_) (fun cdv A outer s H vs Q E hr h => ?_)
 ·obtain ⟨ds, B, il, _, h⟩ := h
  unfold dfn at h
  by_cases e : ds.length = ps.length
  ·rw [il.length]; exact e
  ·rw [if_neg e] at h; exact h.elim
 ·obtain ⟨ds, B, il, tb, h⟩ := h
  obtain ⟨t, p, wt⟩ := hb cdv A outer s H E B hr
  refine ⟨t, p, ?_⟩
  unfold dfn at h
  by_cases e : ds.length = ps.length
  ·rw [if_pos e] at h
   refine wt (j9 N.length ds) (zx N vs) H _ (v8 il tb (fun i hi => by rw [e]; exact hO i hi)) ?_
   have same : ∀ {ρ : Env} {Z : St} {H' : Hp}, Rep K (cfn O [] B H (fun _ => False) (fun _ _ => False) fun _ => none) ρ Z H' -> zX H H' := fun r b o hb => r.kp b o hb fun z => z
   cases eb : body (j9 N.length ds) with
   | bad => rw [eb] at h; exact h.elim
   | exc z ρ => rw [eb] at h; exact h.elim
   | ok fl =>
    rw [eb] at h
    cases fl with
    | nx ρ => exact fun Z' H' r' _ => h .non H' (same r') rfl
    | rt d ρ => exact fun v Z' H' r' i' _ => h v H' (same r') i'
    | bk ρ => exact h.elim
    | ct ρ => exact h.elim
  ·rw [if_neg e] at h; exact h.elim
theorem qjR {x qual : Str} {st : Stmt} {f : Addr} {fd : FuncData} {N ps : List Str} {k : Nat} {O : List Nat} {body : MS} (F : Fun K x qual st f fd) (S : qv N ps (qe st)) (hO : ∀ i ∈ O, i = 0 \/ ps.length <= i) (h0 : 0 ∈ O)
  (hb : ∀ (cdv : Value) (A : Around) (outer : List PySem.Env) (s : Shared) (H : Hp) (E : XK) (B Io : Addr -> Prop) (S : Nat -> Option (Option V)), yT k (A.deeper (envOfC qual (qe st) s.heap.objs.size f cdv)) ->
   DSs (qfu CX0 P w K mg base N qual (qe st) f cdv A outer s H E).nox (cfn O [0] B H Io (fun _ _ => False) S) (qt st) body) :
  wS P w K mg base CX0 (k + 1) f fd ps (qgG K (qaF N.length ps.length body)) := by
 refine F.ok S (fun vs H Q E h => ?_) (fun cdv A outer s H vs Q E hr h => ?_)
 ·obtain ⟨bs, ds, B, a, xs, vs', rfl, ha, him, ib, nA, il, h⟩ := h
  unfold qaF at h
  by_cases e : ds.length + 1 = ps.length
  ·rw [lC_, il.length]; exact e
  ·rw [if_neg e] at h; exact h.elim
 ·obtain ⟨bs, ds, B, a, xs, vs', rfl, ha, him, ib, nA, il, h⟩ := h
  obtain ⟨t, p, wt⟩ := hb cdv A outer s H E B (fun b => b = a) (fun j => (zx N (.ref a :: vs'))[j]?) hr
  refine ⟨t, p, ?_⟩
  unfold qaF at h
  by_cases e : ds.length + 1 = ps.length
  ·rw [if_pos e] at h
   have only : ∀ j ∈ O, ∀ v, (zx N (.ref a :: vs'))[j]? = some (some v) -> j = 0 /\ v = .ref a := fun j hj v hv => by
    have h1 := uQ hv
    rcases hO j hj with z | z
    ·subst z; cases h1; exact ⟨rfl, rfl⟩
    ·have := (gI_.mp h1).1
     rw [lC_, il.length] at this
     omega
   have r0 : Rep K (cfn O [0] B H (fun b => b = a) (fun _ _ => False) fun j => (zx N (.ref a :: vs'))[j]?) (j9 N.length (.lst bs :: ds)) (zx N (.ref a :: vs')) H := by
    refine ⟨by unfold j9 zx; simp [il.length], fun i d hd => ?_, fun j hj v hv => ?_, fun i j b hi hj h1 h2 => ?_, ⟨fun b hb => .inr hb, fun q P pos eP => ⟨(him q P pos eP).1, fun z => by have := (him q P pos eP).1; rw [z, ha] at this; cases this⟩⟩, fun b o hb _ => hb, fun b hb => hb, fun j hj => ?_, fun _ _ => rfl⟩
    ·have h1 := qbs hd
     cases i with
     | zero =>
      cases h1
      exact ⟨.ref a, vL rfl, .inl ⟨h0, bs, a, xs, rfl, rfl, ha, IsL.ext Ext.refl (fun b hb _ => ⟨.inl hb, fun j hj e2 => by obtain ⟨_, e3⟩ := only j hj _ e2; cases e3; exact nA hb⟩) ib⟩⟩
     | succ i =>
      have h1' : ds[i]? = some d := by simpa using h1
      obtain ⟨v, h2, h3⟩ := il.get h1'
      have hi : i + 1 ∉ O := fun z => by
       have h4 := (gI_.mp h1').1
       rcases hO _ z with q | q
       ·cases q
       ·omega
      refine ⟨v, vL (by simpa using h2), .inr ⟨hi, Is.ext Ext.refl (fun b hb _ => ⟨.inl hb, fun j hj e2 => ?_⟩) h3⟩⟩
      obtain ⟨_, e3⟩ := only j hj _ e2
      cases e3
      exact nA hb
    ·obtain ⟨rfl, rfl⟩ := only j hj v hv
     exact ⟨a, xs, rfl, ha, .inr ⟨by simp [cfn], rfl⟩⟩
    ·rw [(only i hi _ h1).1, (only j hj _ h2).1]
    ·have : j = 0 := by simpa [cfn] using hj
     rw [this]; exact h0
   refine wt _ _ H _ r0 ?_
   have fin : ∀ {ρ : Env} {Z : St} {H' : Hp} {bs' : List D}, Rep K (cfn O [0] B H (fun b => b = a) (fun _ _ => False) fun j => (zx N (.ref a :: vs'))[j]?) ρ Z H' -> zg 0 ρ = some bs' ->
     ∃ xs', H' a = some (.lst xs') /\ True /\ IsL K (fun b => B b \/ H b = none) H' bs' xs' := fun {ρ Z H' bs'} r e1 => by
    obtain ⟨l, ys, h1, h2, h3, h4⟩ := r.getLO h0 e1
    have h5 := r.ps 0 (by simp [cfn])
    have h6 : (cfn O [0] B H (fun b => b = a) (fun _ _ => False) fun j => (zx N (.ref a :: vs'))[j]?).S 0 = some (some (.ref a)) := vL rfl
    rw [h2, h6] at h5
    cases h5
    exact ⟨ys, h3, h1, IsL.ext Ext.refl (fun b hb _ => hb.1) h4⟩
   have kps : ∀ {ρ : Env} {Z : St} {H' : Hp}, Rep K (cfn O [0] B H (fun b => b = a) (fun _ _ => False) fun j => (zx N (.ref a :: vs'))[j]?) ρ Z H' -> ∀ b o, b ≠ a -> H b = some o -> H' b = some o := fun r b o hb ho => r.kp b o ho hb
   cases eb : body (j9 N.length (.lst bs :: ds)) with
   | bad => rw [eb] at h; exact h.elim
   | exc z ρ => rw [eb] at h; exact h.elim
   | ok fl =>
    rw [eb] at h
    cases fl with
    | nx ρ =>
     cases eg : zg 0 ρ with
     | none => simp only [eg] at h
     | some bs' =>
      simp only [eg] at h
      exact fun Z' H' r' _ => by
       obtain ⟨xs', h1, h2, h3⟩ := fin r' eg
       exact h .non H' xs' (kps r') (fun b hb => r'.dm b hb) h1 h2 h3 rfl
    | rt d ρ =>
     cases eg : zg 0 ρ with
     | none => simp only [eg] at h
     | some bs' =>
      simp only [eg] at h
      exact fun v Z' H' r' i' _ => by
       obtain ⟨xs', h1, h2, h3⟩ := fin r' eg
       exact h v H' xs' (kps r') (fun b hb => r'.dm b hb) h1 h2 h3 i'
    | bk ρ => exact h.elim
    | ct ρ => exact h.elim
  ·rw [if_neg e] at h; exact h.elim
end
section
variable {X : Cx} {c : Fc} {a b e : Expr} {pos : Pos}
def ql (F : List D -> R D) (g : M (List D)) : M D := bnd g fun ds ρ => match F ds with
 | .ok d => .ok (d, ρ)
 | _ => .bad
theorem qhL {k : Nat} {f : Addr} {fd : FuncData} {ps : List Str} {F : List D -> R D} {x : Str} {p : Pos} {es : List Expr} {g : M (List D)} (G : wS X.prog X.w X.K X.mg X.base CX0 k f fd ps (spD X.K F)) (hr : yT k X.A) (hg : Gl X x) (hm : X.mg x = some (.ref f)) (hk : PySem.W.keepIn X.K (.ref f) = true) (hb : uw X.K fd ps [])
  (ha : DA X c (e :: es) g) (hd : (x == ("__debug__" : Str)) = false := by decide) (he : starEach (e :: es) X.env = (false, eval e X.env) :: starEach es X.env := by rfl) (hpl : (backTo pos (starEach es X.env)).any (·.1) = false := by rfl) : DE X c (.Call (.Name x p) (e :: es) [] pos) (ql F g) := by
 obtain ⟨t, pa, w⟩ := ha
 refine ⟨_, qau G hr hg hm hk hb .nil qhz pa hd he hpl, fun ρ Z H Q r h => w ρ Z H _ r (WpL.bnd h fun ds ρ1 vs H1 r1 i1 g1 h1 => ?_)⟩
 rw [List.append_nil]
 refine ⟨ds, Cn c Z, i1, r1.tb, ?_⟩
 cases ef : F ds with
 | bad => simp only [ef] at h1; exact h1.elim
 | exc z ρ' => simp only [ef] at h1; exact h1.elim
 | ok d =>
  simp only [ef] at h1
  exact fun v H' sm i => h1 v H' (r1.same sm) (Is.ext Ext.refl (fun a ha _ => ha.elim id r1.new) i) (.of_same sm)
def qV (F : List D -> List D -> R (D × List D)) (i : Nat) (g : M (List D)) : M D := fun ρ => match zg i ρ with
 | none => .bad
 | some _ => (bnd g fun ds ρ => match zg i ρ with
  | none => .bad
  | some bs => match F bs ds with
   | .ok (d, bs') => .ok (d, ρ.set i (some (.lst bs')))
   | _ => .bad) ρ
theorem qel {k i : Nat} {f : Addr} {fd : FuncData} {ps : List Str} {F : List D -> List D -> R (D × List D)} {x y : Str} {p p1 : Pos} {es : List Expr} {g : M (List D)} (G : wS X.prog X.w X.K X.mg X.base CX0 k f fd ps (qgG X.K F)) (hr : yT k X.A) (hg : Gl X x) (hm : X.mg x = some (.ref f)) (hk : PySem.W.keepIn X.K (.ref f) = true) (hb : uw X.K fd ps [])
  (ha : DA X c es g) (ho : i ∈ c.O := by exact of_decide_eq_true rfl) (hN : X.N[i]? = some y := by rfl) (hv : Vis X.env.scope y := by first | exact Or.inl rfl | exact Or.inr (Or.inl rfl) | exact Or.inr (Or.inr rfl)) (hdy : (y == ("__debug__" : Str)) = false := by decide) (hcd : (y == ("__classdict__" : Str)) = false := by decide)
  (hd : (x == ("__debug__" : Str)) = false := by decide) (he : starEach (.Name y p1 :: es) X.env = (false, eval (.Name y p1) X.env) :: starEach es X.env := by rfl) (hpl : (backTo pos (starEach es X.env)).any (·.1) = false := by rfl) : DE X c (.Call (.Name x p) (.Name y p1 :: es) [] pos) (qV F i g) := by
 obtain ⟨t, pa, w⟩ := ha
 refine ⟨_, qau G hr hg hm hk hb .nil qhz (uv (vq hN hv hdy hcd) pa he) hd he hpl, fun ρ Z H Q r h => ?_⟩
 unfold qV at h
 cases e0 : zg i ρ with
 | none => simp only [e0] at h; exact h.elim
 | some ds0 =>
  simp only [e0] at h
  obtain ⟨l, xs0, _, hl, hH, _⟩ := r.getLO ho e0
  refine ⟨.ref l, hl, w ρ Z H _ r (WpL.bnd h fun ds ρ1 vs H1 r1 i1 g1 h1 => ?_)⟩
  show qgG X.K F (.ref l :: vs ++ []) H1 Q E0
  rw [List.append_nil]
  cases e1 : zg i ρ1 with
  | none => simp only [e1] at h1; exact h1.elim
  | some bs =>
   simp only [e1] at h1
   obtain ⟨l', xs, him, hl', hH', il⟩ := r1.getLO ho e1
   rw [hl] at hl'
   cases hl'
   refine ⟨bs, ds, Cn c Z, l, xs, vs, rfl, hH', r1.tb, il, fun hc => hc.2 i ho hl, i1, ?_⟩
   cases ef : F bs ds with
   | bad => simp only [ef] at h1; exact h1.elim
   | exc z ρ' => simp only [ef] at h1; exact h1.elim
   | ok q =>
    obtain ⟨d, bs'⟩ := q
    simp only [ef] at h1
    intro v H' xs' kp dm ha2 him2 il2 i2
    obtain ⟨r2, g2⟩ := r1.io (bs := bs') ho hl kp ha2 him2 (IsL.ext Ext.refl (fun a ha _ => ha.elim id r1.new) il2) dm
    exact h1 v H' r2 (Is.ext Ext.refl (fun a ha _ => ha.elim id r1.new) i2) g2
end
def qfQ : Key -> PyData
 | .inl i => .int i
 | .inr x => .str x
mutual
def ju : D -> PyData
 | .non => .none
 | .bl b => .bool b
 | .int i => .int i
 | .str x => .str x
 | .tup ds => .tuple (toPDs ds)
 | .lst ds => .list (toPDs ds)
 | .dic kvs => .dict (kvs.map fun p => (qfQ p.1, .int p.2))
 | .fz ns => .list (ns.map .int)
 | .exc _ => .dict [(.int (2 ^ 2000), .none)]
def toPDs : List D -> List PyData
 | [] => []
 | d :: ds => ju d :: toPDs ds
end
mutual
def noL : D -> Bool
 | .tup ds => noLs ds
 | .lst _ => false
 | .fz _ => false
 | _ => true
def noLs : List D -> Bool
 | [] => true
 | d :: ds => noL d && noLs ds
end
mutual
def noX : D -> Bool
 | .tup ds => noXs ds
 | .lst ds => noXs ds
 | .exc _ => false
 | _ => true
def noXs : List D -> Bool
 | [] => true
 | d :: ds => noX d && noXs ds
end
mutual
theorem qgH : ∀ {d : D}, (ju d).showable = true -> noX d = true
 | .non, _ => rfl
 | .bl _, _ => rfl
 | .int _, _ => rfl
 | .str _, _ => rfl
 | .tup ds, h => by unfold noX; exact noXs_sh (by simpa [ju, PyData.showable] using h)
 | .lst ds, h => by unfold noX; exact noXs_sh (by simpa [ju, PyData.showable] using h)
 | .dic _, _ => rfl
 | .fz _, _ => rfl
 | .exc _, h => by
  have e : (PyData.dict [(.int (2 ^ 2000), .none)]).showable = false := by decide +kernel
  rw [show ju (.exc _) = PyData.dict [(.int (2 ^ 2000), .none)] from rfl, e] at h
  cases h
theorem noXs_sh : ∀ {ds : List D}, PyData.showableAll (toPDs ds) = true -> noXs ds = true
 | [], _ => rfl
 | d :: ds, h => by
  have h' : (ju d).showable = true /\ PyData.showableAll (toPDs ds) = true := by simpa [toPDs, PyData.showableAll] using h
  unfold noXs
  rw [qgH h'.1, noXs_sh h'.2]; rfl
end
mutual
theorem qem : ∀ {d : D}, (ju d).canLay0 = true -> noX d = true
 | .non, _ => rfl
 | .bl _, _ => rfl
 | .int _, _ => rfl
 | .str _, _ => rfl
 | .tup ds, h => by unfold noX; exact noXs_lay (by simpa [ju, PyData.canLay0] using h)
 | .lst ds, h => by unfold noX; exact noXs_lay (by simpa [ju, PyData.canLay0] using h)
 | .dic _, _ => rfl
 | .fz _, _ => rfl
 | .exc _, h => by simp [ju, PyData.canLay0] at h
theorem noXs_lay : ∀ {ds : List D}, PyData.canLayAll0 (toPDs ds) = true -> noXs ds = true
 | [], _ => rfl
 | d :: ds, h => by
  have h' : (ju d).canLay0 = true /\ PyData.canLayAll0 (toPDs ds) = true := by simpa [toPDs, PyData.canLayAll0] using h
  unfold noXs
  rw [qem h'.1, noXs_lay h'.2]; rfl
end
theorem uR {h : Heap} : ∀ {ns : List Int} {us : List Value}, qN (ns.map V.int) us -> ∃ as, ReadsAll h us (ns.map .int) as
 | [], us, r => by
  rw [List.map_nil] at r; cases r; exact ⟨[], .nil⟩
 | n :: ns, us, r => by
  rw [mC_] at r
  cases r with
  | cons r1 r2 =>
   obtain ⟨t, e⟩ := r1
   subst e
   obtain ⟨as, q⟩ := uR (ns := ns) r2
   exact ⟨[] ++ as, .cons (.int n t) q⟩
theorem qb5 {α : Type} {x : α} {l l' : List α} (h1 : x ∉ l) (h2 : x ∉ l') : x ∉ l ++ l' := fun h => (mA_.mp h).elim h1 h2
theorem v9 {P : Program} {w : World} {h : Heap} : ∀ {kvs : List (Key × Int)} {es : List DictEntry} {vs : List (Key × Value)}, KV (kvs.map fun p => (p.1, V.int p.2)) vs -> Pairs (qat P w) es vs ->
  ReadsAll h (es.map (·.key)) ((kvs.map fun p => (qfQ p.1, PyData.int p.2)).map (·.1)) [] /\ ReadsAll h (es.map (·.val)) ((kvs.map fun p => (qfQ p.1, PyData.int p.2)).map (·.2)) []
 | [], es, vs, r, p => by
  have r' : KV ([] : List (Key × V)) vs := r
  unfold KV at r'
  cases r'
  cases p
  exact ⟨.nil, .nil⟩
 | (k, i) :: kvs, es, vs, r, p => by
  have r' : KV ((k, V.int i) :: kvs.map fun p => (p.1, V.int p.2)) vs := r
  unfold KV at r'
  cases r' with
  | cons r1 r2 =>
   cases p with
   | cons p1 p2 p3 =>
    obtain ⟨q1, q2⟩ := v9 (h := h) (kvs := kvs) r2 p3
    obtain ⟨e1, t, e2⟩ := r1
    have hk : ∀ {e : DictEntry} {kv : Key × Value}, k = kv.1 -> (qat P w).is kv.1 e.key = true -> Reads h e.key (qfQ k) [] := fun {e kv} hk hi => by
     subst hk
     rcases qU hi with ⟨i, t, e1, e2⟩ | ⟨x, t, e1, e2⟩
     ·rw [e1, e2]; exact .int i t
     ·rw [e1, e2]; exact .str x t
    refine ⟨.cons (as := []) (bs := []) (hk e1 p1) q1, .cons (as := []) (bs := []) ?_ q2⟩
    show Reads h _ (.int i) []
    dsimp only
    rw [p2, e2]
    exact .int i t
section
variable {X : Cx} {pins : List (Addr × Obj)} {Z : St} {H : Hp} {s : Shared} {A : Addr -> Prop}
mutual
theorem ud (I : Inv X pins Z H s) : ∀ {d : D} {v : V} {u : Value}, noX d = true -> Is X.K A H d v -> jf v u -> ∃ as, Reads s.heap u (ju d) as /\ (noL d = true -> sysModules ∉ as)
 | .non, _, _, _, h, r => by cases h; cases r; exact ⟨[], .none, by simp⟩
 | .bl b, _, _, _, h, r => by cases h; cases r; exact ⟨[], .bool b, by simp⟩
 | .int i, _, _, _, h, r => by cases h; obtain ⟨t, rfl⟩ := r; exact ⟨[], .int i t, by simp⟩
 | .str x, _, _, _, h, r => by cases h; obtain ⟨t, rfl⟩ := r; exact ⟨[], .str x t, by simp⟩
 | .tup ds, _, _, nx, ⟨a, xs, hv, ta, il⟩, r => by
  subst hv
  cases r
  obtain ⟨its, rv, p, _⟩ := I.tuple ta.sq
  obtain ⟨o, h1, h2, n, h3⟩ := p
  obtain ⟨as, q, nl⟩ := readsL_of I (by simpa [noX] using nx) il rv
  exact ⟨as, .tuple h1 h2 h3 (by simpa using q), fun z => nl (by simpa [noL] using z)⟩
 | .lst ds, _, _, nx, ⟨a, xs, hv, _, ta, il⟩, r => by
  subst hv
  cases r
  obtain ⟨its, rv, p, _⟩ := I.list (SqL.of ta)
  obtain ⟨o, h1, h2, n, h3⟩ := p.isList
  obtain ⟨as, q, nl⟩ := readsL_of I (by simpa [noX] using nx) il rv
  exact ⟨a :: as, .list h1 h2 h3 (by simpa using q), fun z => by simp [noL] at z⟩
 | .dic kvs, _, _, _, ⟨a, hv, _, ta⟩, r => by
  subst hv
  cases r
  obtain ⟨hz, hS, vs, rk, o, es, ep, h1, h2, h3, h4, h5, h6⟩ := (show jQ X.prog X.w H s.heap a (.dK _) from I.hok a _ ta)
  obtain ⟨q1, q2⟩ := v9 (h := s.heap) rk h5
  refine ⟨_, Reads.dict (as := []) (bs := []) h1 h2.1 h3 q1 q2, fun _ hm => ?_⟩
  have : sysModules = a := by simpa using hm
  rw [<- this] at hS
  simp at hS
 | .exc _, _, _, nx, _, _ => by simp [noX] at nx
 | .fz ns, _, _, _, ⟨a, hv, ta⟩, r => by
  subst hv
  cases r
  obtain ⟨its, rv, p, _⟩ := I.list ta.sq
  obtain ⟨o, h1, h2, n, h3⟩ := p.isList
  obtain ⟨as, q⟩ := uR rv
  exact ⟨a :: as, .list h1 h2 h3 (by simpa using q), fun z => by simp [noL] at z⟩
theorem readsL_of (I : Inv X pins Z H s) : ∀ {ds : List D} {xs : List V} {us : List Value}, noXs ds = true -> IsL X.K A H ds xs -> qN xs us -> ∃ as, ReadsAll s.heap us (toPDs ds) as /\ (noLs ds = true -> sysModules ∉ as)
 | [], _, _, _, h, r => by cases h; cases r; exact ⟨[], .nil, by simp⟩
 | d :: ds, _, _, nx, ⟨x, ys, hx, h1, h2⟩, r => by
  subst hx
  cases r with
  | cons r1 r2 =>
   have nx' : noX d = true /\ noXs ds = true := by simpa [noXs] using nx
   obtain ⟨as, q1, n1⟩ := ud I nx'.1 h1 r1
   obtain ⟨bs, q2, n2⟩ := readsL_of I nx'.2 h2 r2
   exact ⟨as ++ bs, .cons q1 q2, fun z => by
    have z' : noL d = true /\ noLs ds = true := by simpa [noLs] using z
    exact qb5 (n1 z'.1) (n2 z'.2)⟩
end
end
def qai (d : D) : Bool := (ju d).showable && decide ((ju d).shown.length <= sizeLine) && decide ((ju d).depth <= 50) && (!(ju d).hasDict || noL d)
def qjS (K : Fr0) : List V -> Hp -> VK -> Prop := fun xs H Q => ∃ v d A, xs = [v] /\ Is K A H d v /\ qai d = true /\ Q (.str (ju d).shown) H
section
variable {X : Cx}
theorem qaj {k : Nat} (hr : yT k X.A) : yC X (.builtin "repr") (qjS X.K) := by
 intro pins s Z H xs us Q I r h
 obtain ⟨v, d, A, rfl, hi, ok, q⟩ := h
 obtain ⟨u, rfl, ru⟩ := qN.one r
 unfold qai at ok
 simp only [Bool.and_eq_true, decide_eq_true_eq] at ok
 obtain ⟨⟨⟨o1, o2⟩, o3⟩, o4⟩ := ok
 obtain ⟨as, rd, nl⟩ := ud I (qgH o1) hi ru
 have hun := hr.un
 have big : ∀ a, u = .ref a -> wpAny (model X.prog X.w) X.A (call (.builtin "repr") [u]) (EP X pins Z Q) X.xe s := fun a e => by
  subst e
  refine repr_of_reads' rd o1 (fun hd => nl ?_) hr.gd (by omega) (fun _ _ e => e) (fun h' u tk hk => ⟨.str _, H, I.kept hk, ⟨_, rfl⟩, q⟩) o2
  rw [hd] at o4
  simpa using o4
 cases d with
 | non => cases hi; cases ru; exact PySem.P.repr_of_none ⟨.str _, H, I.tok _, ⟨_, rfl⟩, q⟩
 | bl b => cases hi; cases ru; exact PySem.P.repr_of_bool ⟨.str _, H, I.tok _, ⟨s.toks, by cases b <;> rfl⟩, q⟩
 | int i =>
  cases hi; obtain ⟨t, rfl⟩ := ru
  exact PySem.P.repr_of_int (of_decide_eq_true o1) ⟨.str _, H, I.tok _, ⟨_, rfl⟩, q⟩
 | str x => cases hi; obtain ⟨t, rfl⟩ := ru; exact PySem.P.repr_of_str ⟨.str _, H, I.tok _, ⟨_, rfl⟩, q⟩ o2
 | tup ds => obtain ⟨a, zs, rfl, _⟩ := hi; exact big a ru
 | lst ds => obtain ⟨a, zs, rfl, _⟩ := hi; exact big a ru
 | dic kvs => obtain ⟨a, rfl, _⟩ := hi; exact big a ru
 | fz ns => obtain ⟨a, rfl, _⟩ := hi; exact big a ru
 | exc C => obtain ⟨a, rfl, _⟩ := hi; exact big a ru
end
def wd : List D -> Option D
 | [d] => if qai d then some (.str (ju d).shown) else none
 | _ => none
theorem qak {K : Fr0} : qay K wd (qjS K) := by
 intro A H xs d vs Q hn h e k
 unfold wd at e
 split at e
 ·rename_i d0
  obtain ⟨v, rfl, e2⟩ := IsL.inv1 h
  obtain ⟨e6, e7⟩ := zE e
  subst e7
  exact ⟨v, d0, A, rfl, e2, e6, k _ H (zX.refl H) rfl⟩
 ·cases e
def qcE (d : D) : Bool := (ju d).canLay0 && decide ((ju d).depth <= 50)
def qgI (K : Fr0) (neg : Bool) : R2 := fun x y H Q => ∃ d e A, Is K A H d x /\ Is K A H e y /\ qcE d = true /\ qcE e = true /\ Q (.bl (if neg then !PyData.eqv (ju d) (ju e) else PyData.eqv (ju d) (ju e))) H
section
variable {X : Cx}
theorem qaG {d : D} (h : qcE d = true) : SeqAt.shaped (ju d) = true := by
 unfold qcE at h
 unfold SeqAt.shaped
 simp only [Bool.and_eq_true, decide_eq_true_eq] at h |-
 exact ⟨h.1, by omega⟩
theorem qcF {d : D} (h : qcE d = true) : noX d = true := by
 unfold qcE at h
 rw [Bool.and_eq_true] at h
 exact qem h.1
theorem qjT {k : Nat} (hr : yT k X.A) : OpR X (compareOp .Eq) (qgI X.K false) := by
 intro pins s Z H x y v u Q I rx ry h
 obtain ⟨d, e, A, h1, h2, o1, o2, q⟩ := h
 obtain ⟨as, r1, _⟩ := ud I (qcF o1) h1 rx
 obtain ⟨bs, r2, _⟩ := ud I (qcF o2) h2 ry
 exact SeqAt.compareEq_shaped r1 r2 (qaG o1) (qaG o2) hr.units ⟨.bl _, H, I, rfl, by simpa using q⟩
theorem qjU {k : Nat} (hr : yT k X.A) : OpR X (compareOp .NotEq) (qgI X.K true) := by
 intro pins s Z H x y v u Q I rx ry h
 obtain ⟨d, e, A, h1, h2, o1, o2, q⟩ := h
 obtain ⟨as, r1, _⟩ := ud I (qcF o1) h1 rx
 obtain ⟨bs, r2, _⟩ := ud I (qcF o2) h2 ry
 exact SeqAt.compareNe_shaped r1 r2 (qaG o1) (qaG o2) hr.units ⟨.bl _, H, I, rfl, by simpa using q⟩
end
def eqA (x y : D) : Option D := if qcE x && qcE y then some (.bl (PyData.eqv (ju x) (ju y))) else none
def neA (x y : D) : Option D := if qcE x && qcE y then some (.bl (!PyData.eqv (ju x) (ju y))) else none
theorem qhM {K : Fr0} : OpS K eqA (qgI K false) := by
 intro A H x y d v u Q hn ix iy e k
 obtain ⟨e1, e2⟩ := zE e
 rw [Bool.and_eq_true] at e1
 subst e2
 exact ⟨x, y, A, ix, iy, e1.1, e1.2, k _ H (zX.refl H) rfl⟩
theorem qhN {K : Fr0} : OpS K neA (qgI K true) := by
 intro A H x y d v u Q hn ix iy e k
 obtain ⟨e1, e2⟩ := zE e
 rw [Bool.and_eq_true] at e1
 subst e2
 exact ⟨x, y, A, ix, iy, e1.1, e1.2, k _ H (zX.refl H) rfl⟩
section
variable {X : Cx} {c : Fc} {a b e : Expr} {pos : Pos}
def ql3 (i : Nat) (g : M D) : M D := fun ρ => match zg i ρ with
 | none => .bad
 | some _ => (bnd g fun y ρ => match zg i ρ with
  | none => .bad
  | some ds => lift (neA (.lst ds) y) ρ) ρ
end
section
variable {prog : Program} {w : World} {A : Around} {E : Value -> Shared -> Prop} {s : Shared}
theorem qhO {it tu : Addr} {k : Nat} {arr : Array Value} {x : Value} {Q : Value -> Shared -> Prop} (hI : s.heap.IsTupleIter it tu k) (hT : s.heap.IsTuple tu arr) (hx : arr[k]? = some x)
  (q : ∀ h', h'.IsTupleIter it tu (k + 1) -> Heap.SameBut it s.heap h' -> Q x { s with heap := h' }) : wpAny (model prog w) A (Builtin.SmallTypes.nextOf (.ref it)) Q E s := by
 obtain ⟨ob, e1, e2, e3⟩ := id hI
 obtain ⟨ot, f1, _, m, f2⟩ := hT
 unfold Builtin.SmallTypes.nextOf
 refine wpAny_bind (wpAny_callSpecial?_slot (name := Str.ofString "__next__") hI.typeIs F.slot_tuple_iterator_next (wpAny_call_entry F.slot_tuple_iterator_next hI.typeIs F.entry_tuple_iterator_next ?_ (F.args_tuple_iterator_next_1 _)))
 show wpAny (model prog w) _ (field (Value.ref it) 0 >>= _) _ _ s
 refine wpAny_bind (wpAny_field e1 e3 (x := Value.ref tu) rfl ?_)
 show wpAny (model prog w) _ (if (Value.ref tu == Value.none) = true then _ else _) _ _ s
 rw [if_neg (show ¬ ((Value.ref tu == Value.none) = true) from Bool.false_ne_true)]
 show wpAny (model prog w) _ (field (Value.ref it) 1 >>= _) _ _ s
 refine wpAny_bind (wpAny_field e1 e3 (x := Value.int k 0) rfl ?_)
 show wpAny (model prog w) _ (seqItems? (Value.ref tu) >>= _) _ _ s
 refine wpAny_bind (wpAny_seqItems f1 f2 ?_)
 simp only [Int.toNat_natCast, hx]
 refine wpAny_bind (wpAny_setField e1 e3 (by simp) (wpAny_pure ⟨x, rfl, wpAny_pure (q _ ?_ (Heap.SameBut.update ..))⟩))
 exact ⟨_, Heap.get?_update_self _ e1 (Obj.isFreed_of_fields (Obj.data_mapFields e3 _)), (Obj.cls_mapFields ..).trans e2, by rw [Obj.data_mapFields e3]; simp [rawInt]⟩
theorem qhP {it tu : Addr} {k : Nat} {arr : Array Value} {Q : Value -> Shared -> Prop} (hh : A.handled = none) (hI : s.heap.IsTupleIter it tu k) (hT : s.heap.IsTuple tu arr) (hx : arr[k]? = none)
  (q : ∀ h' e, Heap.ExtBut it s.heap h' -> (∃ o, h'.get? e = some o /\ o.cls = .type "StopIteration") -> E (.ref e) { s with heap := h' }) : wpAny (model prog w) A (Builtin.SmallTypes.nextOf (.ref it)) Q E s := by
 obtain ⟨ob, e1, e2, e3⟩ := id hI
 obtain ⟨ot, f1, _, m, f2⟩ := hT
 unfold Builtin.SmallTypes.nextOf
 refine wpAny_bind (wpAny_callSpecial?_slot (name := Str.ofString "__next__") hI.typeIs F.slot_tuple_iterator_next (wpAny_call_entry F.slot_tuple_iterator_next hI.typeIs F.entry_tuple_iterator_next ?_ (F.args_tuple_iterator_next_1 _)))
 show wpAny (model prog w) _ (field (Value.ref it) 0 >>= _) _ _ s
 refine wpAny_bind (wpAny_field e1 e3 (x := Value.ref tu) rfl ?_)
 show wpAny (model prog w) _ (if (Value.ref tu == Value.none) = true then _ else _) _ _ s
 rw [if_neg (show ¬ ((Value.ref tu == Value.none) = true) from Bool.false_ne_true)]
 show wpAny (model prog w) _ (field (Value.ref it) 1 >>= _) _ _ s
 refine wpAny_bind (wpAny_field e1 e3 (x := Value.int k 0) rfl ?_)
 show wpAny (model prog w) _ (seqItems? (Value.ref tu) >>= _) _ _ s
 refine wpAny_bind (wpAny_seqItems f1 f2 ?_)
 simp only [Int.toNat_natCast, hx]
 refine wpAny_bind (wpAny_rule (wpAny_bind (wpAny_setField e1 e3 (by simp) ?_)))
 show wpAny (model prog w) _ (newExc (Value.type "StopIteration") [] >>= _) _ _ _
 refine wpAny_bind ?_
 simp only [newExc, newTuple]
 refine wpAny_bind (wpAny_newObj_type ?_ (by size_fits))
 refine wpAny_bind (m := firstArgMember _ _) (wpAny_of_eq (a := Value.none) (by first | rfl | (simp only [firstArgMember]; rfl)) ?_)
 refine wpAny_newObj_type ?_ (by size_fits)
 simp only [raiseNew]
 refine wpAny_bind (wpAny_handled ?_)
 first | rw [show A.in1.handled = none from hh] | rw [hh]
 exact wpAny_bind (wpAny_pure (wpAny_throw (q _ _ (((Heap.SameBut.update ..).extBut.push _).push _) ⟨_, Heap.get?_push_size _ rfl, rfl⟩)))
end
theorem ue {prog : Program} {w : World} {A : Around} (hh : A.handled = none) (it tu : Addr) (hne : tu ≠ it) (arr : Array Value) :
  Draws prog w A it [it, tu] arr.size (fun i x => arr[i]? = some x) (fun i h => h.IsTupleIter it tu i /\ h.IsTuple tu arr) where
 live := fun i h st => by obtain ⟨⟨o, e, _⟩, _⟩ := st; exact ⟨o, e⟩
 frame := fun i h h' st k => by
  obtain ⟨h1, o, e, r⟩ := st
  exact ⟨h1.at fun o q => k it (by simp) o q, o, k tu (by simp) o e, r⟩
 item := fun i s Q E hi st q => qhO st.1 st.2 (Array.getElem?_eq_getElem hi) fun h' h1 sb => q _ h' s.toks (Array.getElem?_eq_getElem hi) ⟨h1, by
  obtain ⟨o, e, r⟩ := st.2
  exact ⟨o, sb.extBut _ _ hne e, r⟩⟩ sb
 done := fun s Q E st q => qhP hh st.1 st.2 (Array.getElem?_eq_none (Nat.le_refl _)) q
structure ZAp (z TI TO i1 i2 : Addr) (fp1 fp2 : List Addr) : Prop where
 zTI : z ≠ TI
 zTO : z ≠ TO
 zi1 : z ≠ i1
 zi2 : z ≠ i2
 IO : TI ≠ TO
 Ii1 : TI ≠ i1
 Ii2 : TI ≠ i2
 Oi1 : TO ≠ i1
 Oi2 : TO ≠ i2
 ii : i1 ≠ i2
 z1 : z ∉ fp1
 z2 : z ∉ fp2
 O1 : TO ∉ fp1
 O2 : TO ∉ fp2
 i21 : i2 ∉ fp1
 i12 : i1 ∉ fp2
section
variable {prog : Program} {w : World} {A : Around} {E : Value -> Shared -> Prop} {s : Shared} {z TI TO i1 i2 : Addr} {fp1 fp2 : List Addr} {n1 n2 k : Nat} {P1 P2 : Nat -> Value -> Prop} {S1 S2 : Nat -> Heap -> Prop}
theorem jz {fp : List Addr} {a : Addr} {h h' : Heap} (sb : Heap.SameBut a h h') (ha : a ∉ fp) : ∀ b ∈ fp, ∀ o, h.get? b = some o -> h'.get? b = some o := fun b hb o e => sb.extBut _ _ (fun q => ha (q ▸ hb)) e
theorem qjV (D1 : Draws prog w A i1 fp1 n1 P1 S1) (D2 : Draws prog w A i2 fp2 n2 P2 S2) (ap : ZAp z TI TO i1 i2 fp1 fp2) {p q : Value} (zz : IsZip s.heap z TI TO .none) (zI : IsPair s.heap TI (.ref i1) (.ref i2)) (zO : IsPair s.heap TO p q)
  (t1 : S1 k s.heap) (t2 : S2 k s.heap) (l1 : k < n1) (l2 : k < n2) {Q : Value -> Shared -> Prop}
  (fin : ∀ x y h' tk, P1 k x -> P2 k y -> IsZip h' z TI TO (rawInt s.heap.objs.size) -> IsPair h' TO x y -> S1 (k + 1) h' -> S2 (k + 1) h' -> IsPair h' s.heap.objs.size x y ->
   (∀ c o, c ≠ z -> c ≠ TO -> c ≠ i1 -> c ≠ i2 -> s.heap.get? c = some o -> h'.get? c = some o) -> Q (.ref s.heap.objs.size) { s with heap := h', toks := tk }) :
  wpAny (model prog w) A (Builtin.«zip.__next__» ⟨[.ref z], []⟩) (fun r s' => ∃ v, r = .done (.ret v) /\ Q v s') E s := by
 show wpAny (model prog w) A (field (Value.ref z) 2 >>= _) _ _ _
 refine wpAny_bind (wpAny_field zz rfl (x := Value.bool false) rfl ?_)
 show wpAny (model prog w) A (field (Value.ref z) 3 >>= _) _ _ _
 refine wpAny_bind (wpAny_field zz rfl (x := Value.ref TI) rfl (wpAny_bind (wpAny_seqItems zI rfl ?_)))
 show wpAny (model prog w) A (Builtin.SmallTypes.ownedTupleIsFree (Value.ref z) >>= _) _ _ _
 refine wpAny_bind ?_
 unfold Builtin.SmallTypes.ownedTupleIsFree
 refine wpAny_bind (wpAny_field zz rfl (x := Value.none) rfl (wpAny_pure ?_))
 simp only [if_true]
 refine wpAny_bind (wpAny_rule (wpAny_bind (wpAny_field zz rfl (x := Value.ref TO) rfl (wpAny_bind (wpAny_setField_rec zz (by simp) fun h1 zz1 b1 => ?_)))))
 replace zz1 : IsZip h1 z TI TO .ellipsis := zz1
 refine wpAny_bind ?_
 simp only [List.zipIdx_cons, List.zipIdx_nil, List.forIn_cons, List.forIn_nil]
 refine wpAny_bind (wpAny_bind (wpAny_onRaise ?_))
 show wpAny (model prog w) A (Builtin.SmallTypes.nextOf (Value.ref i1) >>= _) _ _ _
 refine wpAny_bind (D1.item k _ _ _ l1 (D1.frame _ _ _ t1 (jz b1 ap.z1)) fun x h2 tk2 px u1 b2 => wpAny_pure ?_)
 have zO2 : IsPair h2 TO p q := b2.extBut _ _ ap.Oi1 (b1.extBut _ _ ap.zTO.symm zO)
 refine wpAny_bind (wpAny_seqItems zO2 rfl (wpAny_bind (wpAny_updateSeq_pair zO2 fun h3 zO3 b3 => ?_)))
 replace zO3 : IsPair h3 TO x q := zO3
 refine wpAny_bind (wpAny_letGo (wpAny_pure (wpAny_bind (wpAny_bind (wpAny_onRaise ?_)))))
 show wpAny (model prog w) A (Builtin.SmallTypes.nextOf (Value.ref i2) >>= _) _ _ _
 have t2' : S2 k h3 := D2.frame _ _ _ (D2.frame _ _ _ (D2.frame _ _ _ t2 (jz b1 ap.z2)) (jz b2 ap.i12)) (jz b3 ap.O2)
 refine wpAny_bind (D2.item k _ _ _ l2 t2' fun y h4 tk4 py u2 b4 => wpAny_pure ?_)
 have zO4 : IsPair h4 TO x q := b4.extBut _ _ ap.Oi2 zO3
 refine wpAny_bind (wpAny_seqItems zO4 rfl (wpAny_bind (wpAny_updateSeq_pair zO4 fun h5 zO5 b5 => ?_)))
 replace zO5 : IsPair h5 TO x y := zO5
 refine wpAny_bind (wpAny_letGo (wpAny_pure (wpAny_pure (wpAny_bind (wpAny_seqItems zO5 rfl (wpAny_bind (wpAny_newTuple ?_)))))))
 have sz : h5.objs.size = s.heap.objs.size := by rw [b5.1, b4.1, b3.1, b2.1, b1.1]
 have zz5 : IsZip h5 z TI TO .ellipsis := b5.extBut _ _ ap.zTO (b4.extBut _ _ ap.zi2 (b3.extBut _ _ ap.zTO (b2.extBut _ _ ap.zi1 zz1)))
 have keep5 : ∀ c o, c ≠ z -> c ≠ TO -> c ≠ i1 -> c ≠ i2 -> s.heap.get? c = some o -> h5.get? c = some o := fun c o c1 c2 c3 c4 e => b5.extBut _ _ c2 (b4.extBut _ _ c4 (b3.extBut _ _ c2 (b2.extBut _ _ c3 (b1.extBut _ _ c1 e))))
 have v1 : S1 (k + 1) h5 := D1.frame _ _ _ (D1.frame _ _ _ (D1.frame _ _ _ u1 (jz b3 ap.O1)) (jz b4 ap.i21)) (jz b5 ap.O1)
 have v2 : S2 (k + 1) h5 := D2.frame _ _ _ u2 (jz b5 ap.O2)
 have lz : z < h5.objs.size := Heap.lt_size zz5
 show wpAny (model prog w) A (Builtin.SmallTypes.ownedTupleHandOut (Value.ref z) (Value.ref h5.objs.size) >>= _) _ _ _
 refine wpAny_bind ?_
 unfold Builtin.SmallTypes.ownedTupleHandOut
 have zz6 : IsZip (h5.push { cls := .type "tuple", data := .seq #[x, y] }) z TI TO .ellipsis := Heap.get?_push_of_some _ zz5
 refine wpAny_bind (wpAny_setField_rec zz6 (by simp) fun h7 zz7 b7 => ?_)
 replace zz7 : IsZip h7 z TI TO (rawInt h5.objs.size) := zz7
 refine wpAny_setField_rec zz7 (by simp) fun h8 zz8 b8 => ?_
 replace zz8 : IsZip h8 z TI TO (rawInt h5.objs.size) := zz8
 have up : ∀ c o, c ≠ z -> h5.get? c = some o -> h8.get? c = some o := fun c o c1 e => b8.extBut _ _ c1 (b7.extBut _ _ c1 (Heap.get?_push_of_some _ e))
 have new8 : IsPair h8 h5.objs.size x y := b8.extBut _ _ (Nat.ne_of_gt lz) (b7.extBut _ _ (Nat.ne_of_gt lz) (Heap.get?_push_size _ rfl))
 rw [sz] at zz8 new8
 refine wpAny_pure ⟨_, rfl, ?_⟩
 show Q (Value.ref h5.objs.size) _
 rw [sz]
 exact fin x y h8 tk4 px py zz8 (up _ _ ap.zTO.symm zO5) (D1.frame _ _ _ v1 fun b hb o e => up b o (fun q => ap.z1 (q ▸ hb)) e) (D2.frame _ _ _ v2 fun b hb o e => up b o (fun q => ap.z2 (q ▸ hb)) e) new8 fun c o c1 c2 c3 c4 e => up c o c1 (keep5 c o c1 c2 c3 c4 e)
theorem qfR (hh : A.handled = none) (D1 : Draws prog w A i1 fp1 n1 P1 S1) (D2 : Draws prog w A i2 fp2 n2 P2 S2) (ap : ZAp z TI TO i1 i2 fp1 fp2) {p q : Value} (zz : IsZip s.heap z TI TO .none) (zI : IsPair s.heap TI (.ref i1) (.ref i2)) (zO : IsPair s.heap TO p q)
  (t1 : S1 k s.heap) (t2 : S2 k s.heap) (hk : k = min n1 n2) {Q : Fin -> Shared -> Prop}
  (fin : ∀ h' tk e, (∀ c o, c ≠ z -> c ≠ TO -> c ≠ i1 -> c ≠ i2 -> s.heap.get? c = some o -> h'.get? c = some o) -> (∃ o, h'.get? e = some o /\ o.cls = .type "StopIteration") -> E (.ref e) { s with heap := h', toks := tk }) :
  wpAny (model prog w) A (Builtin.«zip.__next__» ⟨[.ref z], []⟩) Q E s := by
 show wpAny (model prog w) A (field (Value.ref z) 2 >>= _) _ _ _
 refine wpAny_bind (wpAny_field zz rfl (x := Value.bool false) rfl ?_)
 show wpAny (model prog w) A (field (Value.ref z) 3 >>= _) _ _ _
 refine wpAny_bind (wpAny_field zz rfl (x := Value.ref TI) rfl (wpAny_bind (wpAny_seqItems zI rfl ?_)))
 show wpAny (model prog w) A (Builtin.SmallTypes.ownedTupleIsFree (Value.ref z) >>= _) _ _ _
 refine wpAny_bind ?_
 unfold Builtin.SmallTypes.ownedTupleIsFree
 refine wpAny_bind (wpAny_field zz rfl (x := Value.none) rfl (wpAny_pure ?_))
 simp only [if_true]
 refine wpAny_bind (wpAny_rule (wpAny_bind (wpAny_field zz rfl (x := Value.ref TO) rfl (wpAny_bind (wpAny_setField_rec zz (by simp) fun h1 zz1 b1 => ?_)))))
 replace zz1 : IsZip h1 z TI TO .ellipsis := zz1
 refine wpAny_bind ?_
 simp only [List.zipIdx_cons, List.zipIdx_nil, List.forIn_cons, List.forIn_nil]
 refine wpAny_bind (wpAny_bind (wpAny_onRaise ?_))
 show wpAny (model prog w) A (Builtin.SmallTypes.nextOf (Value.ref i1) >>= _) _ _ _
 have t1' : S1 k h1 := D1.frame _ _ _ t1 (jz b1 ap.z1)
 by_cases h12 : n1 <= n2
 ·have e1 : k = n1 := by rw [hk]; exact Nat.min_eq_left h12
  rw [e1] at t1'
  refine wpAny_bind (D1.done _ _ _ t1' fun h2 e b2 he => ?_)
  obtain ⟨oe, f1, f2⟩ := he
  have zz2 : IsZip h2 z TI TO .ellipsis := b2 _ _ ap.zi1 zz1
  have ez : e ≠ z := fun x => by subst x; rw [zz2] at f1; cases f1; simp at f2
  refine wpAny_setField_rec zz2 (by simp) fun h3 _ b3 => ?_
  exact fin h3 s.toks e (fun c o c1 _ c3 _ x => b3.extBut _ _ c1 (b2 _ _ c3 (b1.extBut _ _ c1 x))) ⟨oe, b3.extBut _ _ ez f1, f2⟩
 ·have e1 : k = n2 := by rw [hk]; exact Nat.min_eq_right (by omega)
  refine wpAny_bind (D1.item k _ _ _ (by omega) t1' fun x h2 tk2 px u1 b2 => wpAny_pure ?_)
  have zO2 : IsPair h2 TO p q := b2.extBut _ _ ap.Oi1 (b1.extBut _ _ ap.zTO.symm zO)
  refine wpAny_bind (wpAny_seqItems zO2 rfl (wpAny_bind (wpAny_updateSeq_pair zO2 fun h3 zO3 b3 => ?_)))
  refine wpAny_bind (wpAny_letGo (wpAny_pure (wpAny_bind (wpAny_bind (wpAny_onRaise ?_)))))
  show wpAny (model prog w) A (Builtin.SmallTypes.nextOf (Value.ref i2) >>= _) _ _ _
  have t2' : S2 k h3 := D2.frame _ _ _ (D2.frame _ _ _ (D2.frame _ _ _ t2 (jz b1 ap.z2)) (jz b2 ap.i12)) (jz b3 ap.O2)
  rw [e1] at t2'
  refine wpAny_bind (D2.done _ _ _ t2' fun h4 e b4 he => ?_)
  obtain ⟨oe, f1, f2⟩ := he
  have zz4 : IsZip h4 z TI TO .ellipsis := b4 _ _ ap.zi2 (b3.extBut _ _ ap.zTO (b2.extBut _ _ ap.zi1 zz1))
  have ez : e ≠ z := fun x => by subst x; rw [zz4] at f1; cases f1; simp at f2
  refine wpAny_setField_rec zz4 (by simp) fun h5 _ b5 => ?_
  exact fin h5 tk2 e (fun c o c1 c2 c3 c4 x => b5.extBut _ _ c1 (b4 _ _ c4 (b3.extBut _ _ c2 (b2.extBut _ _ c3 (b1.extBut _ _ c1 x))))) ⟨oe, b5.extBut _ _ ez f1, f2⟩
theorem qfS {l1 l2 : Addr} {xs ys : Array Value} {Q : Value -> Shared -> Prop} (t1 : s.heap.IsTuple l1 xs) (t2 : s.heap.IsTuple l2 ys)
  (fin : ∀ h', IsZip h' (s.heap.objs.size + 4) (s.heap.objs.size + 2) (s.heap.objs.size + 3) .none -> IsPair h' (s.heap.objs.size + 2) (.ref s.heap.objs.size) (.ref (s.heap.objs.size + 1)) -> IsPair h' (s.heap.objs.size + 3) .none .none ->
   h'.IsTupleIter s.heap.objs.size l1 0 -> h'.IsTupleIter (s.heap.objs.size + 1) l2 0 -> (∀ c o, s.heap.get? c = some o -> h'.get? c = some o) -> Q (.ref (s.heap.objs.size + 4)) { s with heap := h' }) :
  wpAny (model prog w) A (call (.type "zip") [.ref l1, .ref l2]) Q E s := by
 have meets : Meets (Builtin.«zip.__new__» ⟨[.type "zip", .ref l1, .ref l2], []⟩) (fun _ R s => s.heap.IsTuple l1 xs /\ s.heap.IsTuple l2 ys /\
   R (.ok (.ret (.ref (s.heap.objs.size + 4)))) { s with heap := ((((s.heap.push { cls := .type "tuple_iterator", data := .fields #[.ref l1, .int 0 0] }).push { cls := .type "tuple_iterator", data := .fields #[.ref l2, .int 0 0] }).push { cls := .type "tuple", data := .seq #[.ref s.heap.objs.size, .ref (s.heap.objs.size + 1)] }).push { cls := .type "tuple", data := .seq #[.none, .none] }).push { cls := .type "zip", data := .fields #[.none, .bool false, .bool false, .ref (s.heap.objs.size + 2), .ref (s.heap.objs.size + 3)] } }) :=
  .of_wp fun prog w A R s h => by
   obtain ⟨hp, g, d, tk, os⟩ := s
   obtain ⟨ha, hb, h⟩ := h
   have hsub := sub_zip
   have hA : Heap.IsTuple (Shared.heap ⟨hp, g, d, tk, os⟩) l1 xs := ha
   have hB : Heap.IsTuple (Shared.heap ⟨hp.push { cls := .type "tuple_iterator", data := .fields #[.ref l1, .int 0 0] }, g, d, tk, os⟩) l2 ys := by
    obtain ⟨o, e, r⟩ := hb
    exact ⟨o, Heap.get?_push_of_some _ e, r⟩
   wp_walk using wpAny_pyIter_tuple hA, wpAny_pyIter_tuple hB
   simp only [Heap.size_push] at *
   exact ⟨_, rfl, h⟩
 refine callType_new F.called_zip (by decide) (F.typeCall_zip_2 _ _) (F.newCall_zip_2 _ _) (fun obj => F.args_object_init_3 obj _ _) F.entry_zip_new meets ⟨t1, t2, ?_⟩
 generalize e1 : s.heap.push { cls := .type "tuple_iterator", data := .fields #[.ref l1, .int 0 0] } = m1
 have s1 : m1.objs.size = s.heap.objs.size + 1 := by rw [<- e1, Heap.size_push]
 have q1 : m1.get? s.heap.objs.size = some { cls := .type "tuple_iterator", data := .fields #[.ref l1, .int 0 0] } := by rw [<- e1]; exact Heap.get?_push_size _ rfl
 have k1 : ∀ c o, s.heap.get? c = some o -> m1.get? c = some o := fun c o x => by rw [<- e1]; exact Heap.get?_push_of_some _ x
 generalize e2 : m1.push { cls := .type "tuple_iterator", data := .fields #[.ref l2, .int 0 0] } = m2
 have s2 : m2.objs.size = s.heap.objs.size + 2 := by rw [<- e2, Heap.size_push, s1]
 have q2 : m2.get? (s.heap.objs.size + 1) = some { cls := .type "tuple_iterator", data := .fields #[.ref l2, .int 0 0] } := by rw [<- e2, <- s1]; exact Heap.get?_push_size _ rfl
 have k2 : ∀ c o, m1.get? c = some o -> m2.get? c = some o := fun c o x => by rw [<- e2]; exact Heap.get?_push_of_some _ x
 generalize e3 : m2.push { cls := .type "tuple", data := .seq #[.ref s.heap.objs.size, .ref (s.heap.objs.size + 1)] } = m3
 have s3 : m3.objs.size = s.heap.objs.size + 3 := by rw [<- e3, Heap.size_push, s2]
 have q3 : m3.get? (s.heap.objs.size + 2) = some { cls := .type "tuple", data := .seq #[.ref s.heap.objs.size, .ref (s.heap.objs.size + 1)] } := by rw [<- e3, <- s2]; exact Heap.get?_push_size _ rfl
 have k3 : ∀ c o, m2.get? c = some o -> m3.get? c = some o := fun c o x => by rw [<- e3]; exact Heap.get?_push_of_some _ x
 generalize e4 : m3.push { cls := .type "tuple", data := .seq #[.none, .none] } = m4
 have s4 : m4.objs.size = s.heap.objs.size + 4 := by rw [<- e4, Heap.size_push, s3]
 have q4 : m4.get? (s.heap.objs.size + 3) = some { cls := .type "tuple", data := .seq #[.none, .none] } := by rw [<- e4, <- s3]; exact Heap.get?_push_size _ rfl
 have k4 : ∀ c o, m3.get? c = some o -> m4.get? c = some o := fun c o x => by rw [<- e4]; exact Heap.get?_push_of_some _ x
 generalize e5 : m4.push { cls := .type "zip", data := .fields #[.none, .bool false, .bool false, .ref (s.heap.objs.size + 2), .ref (s.heap.objs.size + 3)] } = m5
 have q5 : m5.get? (s.heap.objs.size + 4) = some { cls := .type "zip", data := .fields #[.none, .bool false, .bool false, .ref (s.heap.objs.size + 2), .ref (s.heap.objs.size + 3)] } := by rw [<- e5, <- s4]; exact Heap.get?_push_size _ rfl
 have k5 : ∀ c o, m4.get? c = some o -> m5.get? c = some o := fun c o x => by rw [<- e5]; exact Heap.get?_push_of_some _ x
 show _ /\ _
 exact ⟨⟨_, q5, rfl⟩, fin m5 q5 (k5 _ _ (k4 _ _ q3)) (k5 _ _ q4) ⟨_, k5 _ _ (k4 _ _ (k3 _ _ (k2 _ _ q1))), rfl, rfl⟩ ⟨_, k5 _ _ (k4 _ _ (k3 _ _ q2)), rfl, rfl⟩ fun c o x => k5 _ _ (k4 _ _ (k3 _ _ (k2 _ _ (k1 _ _ x))))⟩
end
section
variable {X : Cx} {pins : List (Addr × Obj)} {Z : St} {H : Hp} {s : Shared} {h' : Heap}
theorem qen {ch : List Addr} {T : Addr} {o : HO} {t' : Nat} (I : Inv X pins Z H s) (k : ∀ b u, b ∉ ch -> s.heap.get? b = some u -> h'.get? b = some u) (hf : ∀ b ∈ ch, qbV X pins H b) (hT : s.heap.objs.size <= T) (new : jQ X.prog X.w (upd H T o) h' T o) :
  Inv X pins Z (upd H T o) { s with heap := h', toks := t' } := by
 have hn : H T = none := I.hok.fresh hT
 have nch : ∀ b u, H b = some u -> b ∉ ch := fun b u e z => by rw [(hf b z).1] at e; cases e
 refine I.step (g' := s.gens) (d' := s.drawn) (ch := ch) (fun b hb => ⟨(hf b hb).2.2.2.1, (hf b hb).2.1, (hf b hb).2.2.2.2.1, (hf b hb).2.2.2.2.2⟩) (fun b u _ _ hc e _ => k b u hc e) (fun b u _ _ hc e _ => ⟨u.slots, k b u hc e⟩) (fun b u hc e n => ?_)
  (fun b u hc e => ⟨u, k b u hc e⟩) (fun b xs e => by rw [qj (qA e hn)]; exact e) (fun b u xs e => by rw [qj (qA e hn)]; exact e) (fun b ps y e => by rw [qj (qA e hn)]; exact e) (fun m hm => ?_) (fun b u e => ?_) I.bare
 ·rw [qj (Nat.ne_of_lt (Nat.lt_of_lt_of_le (Heap.lt_size e) hT))]; exact n
 ·obtain ⟨ob, es, ep, ho, r⟩ := hm
  exact ⟨ob, es, ep, k _ ob (fun z => (hf _ z).2.1 rfl) ho, r⟩
 ·by_cases hb : b = T
  ·subst hb; rw [qo] at e; cases e; exact new
  ·rw [qj hb] at e
   refine (I.hok b u e).stay (fun c v hc q => k c v ?_ q) (fun c q => by rw [qj (qA q hn)]; exact q) (fun c xs q => by rw [qj (qA q hn)]; exact q) fun c ob y q => by rw [qj (qA q hn)]; exact q
   rcases hc with z | z
   ·rw [z]; exact nch b u e
   ·exact nch c _ z
theorem qeo {ch : List Addr} {t' : Nat} (I : Inv X pins Z H s) (k : ∀ b u, b ∉ ch -> s.heap.get? b = some u -> h'.get? b = some u) (hf : ∀ b ∈ ch, qbV X pins H b) : Inv X pins Z H { s with heap := h', toks := t' } := by
 have nch : ∀ b u, H b = some u -> b ∉ ch := fun b u e z => by rw [(hf b z).1] at e; cases e
 refine I.step (g' := s.gens) (d' := s.drawn) (ch := ch) (fun b hb => ⟨(hf b hb).2.2.2.1, (hf b hb).2.1, (hf b hb).2.2.2.2.1, (hf b hb).2.2.2.2.2⟩) (fun b u _ _ hc e _ => k b u hc e) (fun b u _ _ hc e _ => ⟨u.slots, k b u hc e⟩) (fun b u hc e n => n)
  (fun b u hc e => ⟨u, k b u hc e⟩) (fun b xs e => e) (fun b u xs e => e) (fun _ _ _ e => e) (fun m hm => ?_) (fun b u e => ?_) I.bare
 ·obtain ⟨ob, es, ep, ho, r⟩ := hm
  exact ⟨ob, es, ep, k _ ob (fun z => (hf _ z).2.1 rfl) ho, r⟩
 ·refine (I.hok b u e).stay (fun c v hc q => k c v ?_ q) (fun c q => q) fun c xs q => q
  rcases hc with z | z
  ·rw [z]; exact nch b u e
  ·exact nch c _ z
end
def Itz (K : Fr0) (a1 a2 : Addr) (xs ys : List V) : It :=
 ⟨fun i H => i < min xs.length ys.length /\ SqT K H a1 xs /\ SqT K H a2 ys, fun i H x H' => ∃ p u v, H p = none /\ xs[i]? = some u /\ ys[i]? = some v /\ x = .ref p /\ H' = upd H p (.tup [u, v]), fun i H => i = min xs.length ys.length /\ SqT K H a1 xs /\ SqT K H a2 ys⟩
def ZSt (z TI TO i1 i2 a1 a2 : Addr) (i : Nat) (h : Heap) : Prop := IsZip h z TI TO .none /\ IsPair h TI (.ref i1) (.ref i2) /\ (∃ p q, IsPair h TO p q) /\ h.IsTupleIter i1 a1 i /\ h.IsTupleIter i2 a2 i
theorem qfT {P : Program} {w : World} {K : Fr0} {es : List Expr} {kk : Nat} {pos : Pos} {z TI TO i1 i2 a1 a2 : Addr} {xs ys : List V} (ap : ZAp z TI TO i1 i2 [i1, a1] [i2, a2]) (n1 : a1 ≠ i1) (n2 : a2 ≠ i2) :
  qiH P w K (.Tuple es kk pos) (Itz K a1 a2 xs ys) [z, TI, TO, i1, i2] z (ZSt z TI TO i1 i2 a1 a2) where
 mem := by simp
 obj := fun i h st b hb => by
  obtain ⟨h1, h2, ⟨p, q, h3⟩, ⟨o4, h4, c4, d4⟩, ⟨o5, h5, c5, d5⟩⟩ := st
  simp only [List.mem_cons, nN_, or_false] at hb
  rcases hb with rfl | rfl | rfl | rfl | rfl
  ·exact ⟨_, h1, fun v e => by cases (show Data.fields _ = Data.cell v from e)⟩
  ·exact ⟨_, h2, fun v e => by cases (show Data.seq _ _ = Data.cell v from e)⟩
  ·exact ⟨_, h3, fun v e => by cases (show Data.seq _ _ = Data.cell v from e)⟩
  ·exact ⟨_, h4, fun v e => by rw [d4] at e; cases e⟩
  ·exact ⟨_, h5, fun v e => by rw [d5] at e; cases e⟩
 keep := fun i h h' st k => by
  obtain ⟨h1, h2, ⟨p, q, h3⟩, h4, h5⟩ := st
  exact ⟨k z (by simp) _ h1, k TI (by simp) _ h2, ⟨p, q, k TO (by simp) _ h3⟩, h4.at fun o e => k i1 (by simp) o e, h5.at fun o e => k i2 (by simp) o e⟩
 item := by
  intro X hP hw hK hc i pins s Z H E I hf st hg
  subst hP hw hK
  obtain ⟨hlt, hx, hy⟩ := hg
  obtain ⟨h1, h2, ⟨p, q, h3⟩, h4, h5⟩ := st
  obtain ⟨it1, r1, p1, z1⟩ := I.tuple hx
  obtain ⟨it2, r2, p2, z2⟩ := I.tuple hy
  have l1 : i < it1.toArray.size := by rw [sT_, <- r1.length]; omega
  have l2 : i < it2.toArray.size := by rw [sT_, <- r2.length]; omega
  have hT : s.TypeIs (.ref z) "zip" := ⟨_, h1, rfl⟩
  have hh : X.A.in1.handled = none := I.ok.hd hc
  unfold pyNext
  refine wpAny_bind (wpAny_attempt (wpAny_callSpecial?_slot (name := Str.ofString "__next__") hT F.slot_zip_next (wpAny_call_entry F.slot_zip_next hT F.entry_zip_next
   (qjV (ue hh i1 a1 n1 it1.toArray) (ue hh i2 a2 n2 it2.toArray) ap h1 h2 h3 ⟨h4, p1⟩ ⟨h5, p2⟩ l1 l2 fun x y h' tk px py zz zO u1 u2 new kp => wpAny_pure ?_) (F.args_zip_next_1 _))))
  refine ⟨.ref s.heap.objs.size, rfl, wpAny_letOwnedTupleGo_zip zz fun h2' zz2 sb => ?_⟩
  obtain ⟨xv, hxv⟩ : ∃ v, xs[i]? = some v := ⟨xs[i]'(by omega), gG (by omega)⟩
  obtain ⟨yv, hyv⟩ : ∃ v, ys[i]? = some v := ⟨ys[i]'(by omega), gG (by omega)⟩
  obtain ⟨x', ex, rx⟩ := r1.get hxv
  obtain ⟨y', ey, ry⟩ := r2.get hyv
  have exx : x' = x := by
   have : it1.toArray[i]? = some x := px
   rw [List.getElem?_toArray, ex] at this
   exact Option.some.inj this
  have eyy : y' = y := by
   have : it2.toArray[i]? = some y := py
   rw [List.getElem?_toArray, ey] at this
   exact Option.some.inj this
  subst exx eyy
  have lz : z < s.heap.objs.size := Heap.lt_size h1
  have keep : ∀ b u, b ∉ [z, TI, TO, i1, i2] -> s.heap.get? b = some u -> h2'.get? b = some u := fun b u hb e => by
   simp only [List.mem_cons, nN_, or_false, not_or] at hb
   exact sb.extBut _ _ hb.1 (kp b u hb.1 hb.2.2.1 hb.2.2.2.1 hb.2.2.2.2 e)
  have I2 : Inv X pins Z (upd H s.heap.objs.size (.tup [xv, yv])) { s with heap := h2', toks := tk } :=
   qen I keep hf (Nat.le_refl _) ⟨by show 2 <= sizeLine; decide, [x', y'], .cons rx (.cons ry .nil), ⟨_, sb.extBut _ _ (Nat.ne_of_gt lz) new, rfl, _, rfl⟩⟩
  refine ⟨.ref s.heap.objs.size, upd H s.heap.objs.size (.tup [xv, yv]), I2, rfl, ⟨s.heap.objs.size, xv, yv, I.hok.fresh (Nat.le_refl _), hxv, hyv, rfl, rfl⟩, ?_, fun b hb => ?_⟩
  ·exact ⟨zz2, sb.extBut _ _ ap.zTI.symm (kp _ _ ap.zTI.symm ap.IO ap.Ii1 ap.Ii2 h2), ⟨_, _, sb.extBut _ _ ap.zTO.symm zO⟩, u1.1.at fun o e => sb.extBut _ _ ap.zi1.symm e, u2.1.at fun o e => sb.extBut _ _ ap.zi2.symm e⟩
  ·have hb1 : b ≠ s.heap.objs.size := by
    simp only [List.mem_cons, nN_, or_false] at hb
    obtain ⟨o4, g4, _⟩ := h4
    obtain ⟨o5, g5, _⟩ := h5
    rcases hb with rfl | rfl | rfl | rfl | rfl
    ·exact Nat.ne_of_lt (Heap.lt_size h1)
    ·exact Nat.ne_of_lt (Heap.lt_size h2)
    ·exact Nat.ne_of_lt (Heap.lt_size h3)
    ·exact Nat.ne_of_lt (Heap.lt_size g4)
    ·exact Nat.ne_of_lt (Heap.lt_size g5)
   rw [qj hb1]
   exact (hf b hb).1
 done := by
  intro X hP hw hK hc i pins s Z H E I hf st hg
  subst hP hw hK
  obtain ⟨hlt, hx, hy⟩ := hg
  obtain ⟨h1, h2, ⟨p, q, h3⟩, h4, h5⟩ := st
  obtain ⟨it1, r1, p1, z1⟩ := I.tuple hx
  obtain ⟨it2, r2, p2, z2⟩ := I.tuple hy
  have hT : s.TypeIs (.ref z) "zip" := ⟨_, h1, rfl⟩
  have hh : X.A.in1.handled = none := I.ok.hd hc
  unfold pyNext
  refine wpAny_bind (wpAny_attempt (wpAny_callSpecial?_slot (name := Str.ofString "__next__") hT F.slot_zip_next (wpAny_call_entry F.slot_zip_next hT F.entry_zip_next
   (qfR hh (ue hh i1 a1 n1 it1.toArray) (ue hh i2 a2 n2 it2.toArray) ap h1 h2 h3 ⟨h4, p1⟩ ⟨h5, p2⟩ (by rw [sT_, sT_, <- r1.length, <- r2.length]; exact hlt) fun h' tk e kp he => ?_) (F.args_zip_next_1 _))))
  obtain ⟨o, ho, hcl⟩ := he
  refine wpAny_bind (wpAny_isInstance (T := "StopIteration") (b := true) ⟨o, ho, hcl⟩ isSubtype_stop (wpAny_pure ⟨rfl, qeo I (fun b u hb e => ?_) hf⟩))
  simp only [List.mem_cons, nN_, or_false, not_or] at hb
  exact kp b u hb.1 hb.2.2.1 hb.2.2.2.1 hb.2.2.2.2 e
 self := fun A i s Q E st h => wpAny_pyIter_zip st.1 h
section
variable {X : Cx} {c : Fc} {a b e : Expr} {pos : Pos} {es : List Expr} {kk : Nat} {tp : Pos}
theorem qhQ (n l1 l2 : Nat) (h1 : l1 < n) (h2 : l2 < n) : ZAp (n + 4) (n + 2) (n + 3) n (n + 1) [n, l1] [n + 1, l2] := by
 refine ⟨?_, ?_, ?_, ?_, ?_, ?_, ?_, ?_, ?_, ?_, ?_, ?_, ?_, ?_, ?_, ?_⟩ <;> simp only [List.mem_cons, nN_, or_false, not_or, ne_eq] <;> (unfold Addr at *) <;> omega
def qmN (K : Fr0) (ta : TA) : TI := fun Z H R => ta Z H fun vs H1 => ∃ a1 a2 xs ys, vs = [.ref a1, .ref a2] /\ SqT K H1 a1 xs /\ SqT K H1 a2 ys /\ R (Itz K a1 a2 xs ys) H1
theorem qjW {ta : TA} {p : Pos} (hg : Gl X "zip") (hm : X.mg "zip" = none) (ha : PA X [a, b] ta) (hs : starEach [a, b] X.env = [(false, eval a X.env), (false, eval b X.env)] := by rfl) (hs2 : starEach [b] X.env = [(false, eval b X.env)] := by rfl) :
  PI X (.Tuple es kk tp) (.Call (.Name "zip" p) [a, b] [] pos) (qmN X.K ta) := by
 intro pins s Z H R I h
 refine Call_ (vP I hg hm PyProof.Rows.boot_zip (PyProof.Rows.callWith_type1 (thn (ha pos pins s Z H _ I h) fun us s1 ⟨vs, H1, I1, r1, q1⟩ => ?_) (by rw [hs, hs2]) (by rw [hs2]; rfl)))
 obtain ⟨a1, a2, xs, ys, e1, hx, hy, q⟩ := q1
 subst e1
 obtain ⟨u1, u2, rfl, ru1, ru2⟩ := qN.two r1
 cases (show u1 = Value.ref a1 from ru1)
 cases (show u2 = Value.ref a2 from ru2)
 obtain ⟨it1, v1, p1, z1⟩ := I1.tuple hx
 obtain ⟨it2, v2, p2, z2⟩ := I1.tuple hy
 refine qfS (show s1.heap.IsTuple a1 it1.toArray from p1) (show s1.heap.IsTuple a2 it2.toArray from p2) fun h' zz zI zO g1 g2 kp => ?_
 refine wpAny_pyIter_zip zz ?_
 have la1 : a1 < s1.heap.objs.size := by obtain ⟨o, e, _⟩ := p1; exact Heap.lt_size e
 have la2 : a2 < s1.heap.objs.size := by obtain ⟨o, e, _⟩ := p2; exact Heap.lt_size e
 have ap : ZAp (s1.heap.objs.size + 4) (s1.heap.objs.size + 2) (s1.heap.objs.size + 3) s1.heap.objs.size (s1.heap.objs.size + 1) [s1.heap.objs.size, a1] [s1.heap.objs.size + 1, a2] := by
  exact qhQ _ _ _ la1 la2
 refine ⟨s1.heap.objs.size + 4, [s1.heap.objs.size + 4, s1.heap.objs.size + 2, s1.heap.objs.size + 3, s1.heap.objs.size, s1.heap.objs.size + 1], _, _, H1, rfl, I1.kept (t' := s1.toks) kp, qfT (xs := xs) (ys := ys) ap (Nat.ne_of_lt la1) (Nat.ne_of_lt (Nat.lt_succ_of_lt la2)), ⟨zz, zI, ⟨_, _, zO⟩, g1, g2⟩, fun b hb => ?_, q⟩
 simp only [List.mem_cons, nN_, or_false] at hb
 have hb2 : s1.heap.objs.size <= b := by
  rcases hb with e | e | e | e | e <;> rw [e]
  ·exact Nat.le_add_right _ _
  ·exact Nat.le_add_right _ _
  ·exact Nat.le_add_right _ _
  ·exact Nat.le_refl _
  ·exact Nat.le_add_right _ _
 exact I1.fpOk hb2 (I1.hok.fresh hb2)
def qcG : List D -> List D -> List D
 | x :: xs, y :: ys => .tup [x, y] :: qcG xs ys
 | _, _ => []
theorem qcH : ∀ {xs ys : List D} {i : Nat} {d : D}, (qcG xs ys)[i]? = some d -> ∃ x y, xs[i]? = some x /\ ys[i]? = some y /\ d = .tup [x, y]
 | [], _, _, _, h => by simp [qcG] at h
 | _ :: _, [], _, _, h => by simp [qcG] at h
 | x :: xs, y :: ys, 0, d, h => by
  have : D.tup [x, y] = d := by simpa [qcG] using h
  exact ⟨x, y, rfl, rfl, this.symm⟩
 | x :: xs, y :: ys, i + 1, d, h => by
  obtain ⟨u, v, h1, h2, h3⟩ := qcH (xs := xs) (ys := ys) (i := i) (d := d) (by simpa [qcG] using h)
  exact ⟨u, v, by simpa using h1, by simpa using h2, h3⟩
theorem qaH : ∀ (xs ys : List D), (qcG xs ys).length = min xs.length ys.length
 | [], ys => by simp [qcG]
 | _ :: _, [] => by simp [qcG]
 | x :: xs, y :: ys => by simp [qcG, qaH xs ys]
theorem qjX {K : Fr0} {A : Addr -> Prop} {H : Hp} {ds es : List D} {xs ys : List V} {a1 a2 : Addr} (t1 : ul K H a1 xs) (t2 : ul K H a2 ys) (i1 : IsL K A H ds xs) (i2 : IsL K A H es ys) : qfO K A H (qcG ds es) (Itz K a1 a2 xs ys) where
 go := fun H' i d ex hd => by
  have hl : i < (qcG ds es).length := (gI_.mp hd).1
  rw [qaH, <- i1.length, <- i2.length] at hl
  exact ⟨hl, (t1.elim (fun h => .inl (ex.tup _ _ h)) .inr : ul K H' a1 xs).sq, (t2.elim (fun h => .inl (ex.tup _ _ h)) .inr : ul K H' a2 ys).sq⟩
 yl := fun H' i d x H'' ex hd y => by
  obtain ⟨p, u, v, hp, hu, hv, rfl, rfl⟩ := y
  obtain ⟨dx, dy, h1, h2, rfl⟩ := qcH hd
  obtain ⟨u', g1, g2⟩ := i1.get h1
  obtain ⟨v', g3, g4⟩ := i2.get h2
  rw [hu] at g1
  rw [hv] at g3
  cases g1
  cases g3
  have sm := qs hp (.tup [u, v])
  exact ⟨sm, p, [u, v], rfl, .inl qo, u, [v], rfl, Is.ext (Ext.of_same sm) (fun _ h _ => h) (Is.ext ex (fun _ h _ => h) g2), v, [], rfl, Is.ext (Ext.of_same sm) (fun _ h _ => h) (Is.ext ex (fun _ h _ => h) g4), rfl⟩
 stop := fun H' ex => ⟨by rw [qaH, i1.length, i2.length], (t1.elim (fun h => .inl (ex.tup _ _ h)) .inr : ul K H' a1 xs).sq, (t2.elim (fun h => .inl (ex.tup _ _ h)) .inr : ul K H' a2 ys).sq⟩
def qkL : List D -> Option (List D)
 | [.tup xs, .tup ys] => some (qcG xs ys)
 | _ => none
def qjY (f : M (List D)) : M (List D) := bnd f fun ds => lift (qkL ds)
theorem qjZ {f : M (List D)} {p : Pos} (hg : Gl X "zip") (hm : X.mg "zip" = none) (ha : DA X c [a, b] f) (hs : starEach [a, b] X.env = [(false, eval a X.env), (false, eval b X.env)] := by rfl) (hs2 : starEach [b] X.env = [(false, eval b X.env)] := by rfl) :
  DI X c (.Tuple es kk tp) (.Call (.Name "zip" p) [a, b] [] pos) (qjY f) := by
 obtain ⟨t, pa, w⟩ := ha
 refine ⟨_, qjW hg hm pa hs hs2, fun ρ Z H Q r h => w ρ Z H _ r (WpL.bndI h fun ds ρ1 vs H1 r1 i1 g1 h1 => ?_)⟩
 obtain ⟨es', e, h2⟩ := vK h1
 unfold qkL at e
 split at e
 ·obtain ⟨v, u, rfl, j1, j2⟩ := IsL.inv2 i1
  cases e
  obtain ⟨a1, xs, rfl, t1, il1⟩ := Is.tr j1
  obtain ⟨a2, ys, rfl, t2, il2⟩ := Is.tr j2
  exact ⟨a1, a2, xs, ys, rfl, t1.sq, t2.sq, h2 _ H1 r1 (qjX t1 t2 il1 il2) .refl⟩
 ·cases e
end
theorem qaI : fillsNumberSlot (.type "tuple") "mul" = pure false := by
 first | kernel_rfl | (unfold fillsNumberSlot; kernel_rfl) | decide +kernel
theorem qdt : seqRepeat? (.type "tuple") = pure (some (.builtin "tuple.__mul__")) := by
 first | kernel_rfl | (unfold seqRepeat?; kernel_rfl) | decide +kernel
theorem qbt (a : Int) (t : Tok) (l : Addr) (dd : Option Addr) (items : Array Value) (n : Nat) (sl : Array (Option Value)) :
  Meets (Builtin.«int.__rmul__» ⟨[.int a t, .ref l], []⟩) (fun _ R s => s.heap.get? l = some { cls := .type "tuple", dict := dd, data := .seq items n, slots := sl } /\ R (.ok (.ret .notImplemented)) s) :=
 .of_wp fun prog w A R s h => by
  obtain ⟨hp, g, d, tk, os⟩ := s
  obtain ⟨hl, h⟩ := h
  wp_walk using wpAny_loadPart' hl
  exact ⟨_, rfl, h⟩
theorem qj0 (l : Addr) (dd : Option Addr) (items : Array Value) (n : Nat) (sl : Array (Option Value)) (k : Int) (t : Tok) (h0 : ¬ items.isEmpty = true) (h1 : ¬ (k == 1) = true) (h2 : ¬ k <= 0) (h3 : ¬ (decide (k < -(2 ^ 63)) || decide (k >= 2 ^ 63)) = true)
  (h4 : ¬ (items.size : Int) * k > (2 ^ 63 - 1) / 8) (h5 : ¬ Builtin.Tuple.tupleTooMany ((items.size : Int) * k) = true) (h6 : ((List.replicate k.toNat items).foldl (· ++ ·) #[]).size <= sizeLine) :
  Meets (Builtin.«tuple.__mul__» ⟨[.ref l, .int k t], []⟩) (fun _ R s => s.heap.get? l = some { cls := .type "tuple", dict := dd, data := .seq items n, slots := sl } /\
   R (.ok (.ret (.ref s.heap.objs.size))) { s with heap := s.heap.push { cls := .type "tuple", data := .seq ((List.replicate k.toNat items).foldl (· ++ ·) #[]) } }) :=
 .of_wp fun prog w A R s h => by
  obtain ⟨hp, g, d, tk, os⟩ := s
  obtain ⟨hl, h⟩ := h
  have f1 := AutoSeq1.idx_int
  have f2 := AutoSeq1.sub_tuple_tuple
  have h01 : ¬ (items.isEmpty || k == 1) = true := by simp only [Bool.or_eq_true, not_or]; exact ⟨h0, h1⟩
  have h02 : ¬ (decide (k <= 0) || items.isEmpty) = true := by simp only [Bool.or_eq_true, decide_eq_true_eq, not_or]; exact ⟨h2, h0⟩
  wp_walk using wpAny_loadPart' hl
  rw [if_neg h3]
  wp_walk using wpAny_loadPart' hl
  rw [if_neg h4]
  wp_walk using wpAny_loadPart' hl
  exact ⟨_, rfl, h⟩
section
variable {X : Cx}
def qj1 (K : Fr0) : R2 := fun x y H Q => ∃ a xs k, x = .ref a /\ y = .int k /\ SqT K H a xs /\ xs ≠ [] /\ 2 <= k /\ xs.length * k.toNat <= sizeLine /\ ∀ p, H p = none -> Q (.ref p) (upd H p (.tup (List.replicate k.toNat xs).flatten))
theorem qhR : OpR X (binaryOp .Mult) (qj1 X.K) := by
 intro pins s Z H x y v u Q I rx ry h
 obtain ⟨a, xs, k, rfl, rfl, hx, hne, hk, hz, q⟩ := h
 cases rx
 obtain ⟨t, rfl⟩ := ry
 obtain ⟨its, r, p1, _⟩ := I.tuple hx
 obtain ⟨⟨cls, dd, data, sl⟩, ho, hc, n, hd⟩ := id p1
 simp only at hc hd
 subst hc hd
 have hl := r.length
 have hnew : List.foldl (fun x1 x2 => x1 ++ x2) #[] (List.replicate k.toNat its.toArray) = (List.replicate k.toNat its).flatten.toArray := by
  have := vS its k.toNat []
  rw [List.nil_append] at this
  exact this
 have hlen : (List.replicate k.toNat its).flatten.length = k.toNat * its.length := qb1 its k.toNat
 have hsl : (sizeLine : Nat) = 16777216 := sizeLine_eq
 have e0 : ¬ its.toArray.isEmpty = true := by
  intro e
  have : its = [] := by simpa using e
  rw [this] at hl
  exact hne (List.length_eq_zero_iff.mp hl)
 have pos1 : 1 <= its.length := by
  cases its with
  | nil => simp at e0
  | cons z zs => simp
 have kk : ((k.toNat : Nat) : Int) = k := Int.toNat_of_nonneg (by omega)
 have mm : (its.toArray.size : Int) * k = ((its.length * k.toNat : Nat) : Int) := by rw [sT_, Int.natCast_mul, kk]
 have zz : its.length * k.toNat <= sizeLine := by rw [<- hl]; exact hz
 have kle : k.toNat <= its.length * k.toNat := Nat.le_mul_of_pos_left _ pos1
 have T1 : s.TypeIs (.ref a) "tuple" := ⟨_, ho, rfl⟩
 refine wpAny_binaryOp_repeat_ref (T := "tuple") (U := "int") (by decide) T1 (fun s' => typeIs_int s' k t) qaI F.fills_int_mul F.slot_int_rmul qdt F.slot_int_index.lookup
  (call_meets F.slot_int_rmul (typeIs_int s k t) F.entry_int_rmul (F.args_int_rmul_2 _ _) (qbt k t a dd its.toArray n sl)
   ⟨ho, rfl, T1, call_meets F.slot_tuple_mul T1 F.entry_tuple_mul (F.args_tuple_mul_2 _ _) (qj0 a dd its.toArray n sl k t e0 (by simp; omega) (by omega) (by simp; omega) (by rw [mm]; omega) ?_ (by rw [hnew, sT_, hlen, Nat.mul_comm]; exact zz)) ⟨ho, ?_⟩⟩)
 ·rw [mm]
  show ¬ decide (((its.length * k.toNat : Nat) : Int) > (sizeLine : Int)) = true
  rw [decide_eq_true_eq]
  omega
 ·rw [hnew]
  refine ⟨.ref s.heap.objs.size, _, I.laid (t' := s.toks) (o := .tup (List.replicate k.toNat xs).flatten) (fun b ob q => Heap.get?_push_of_some _ q) (Nat.le_refl _) ?_, rfl, q _ (I.hok.fresh (Nat.le_refl _))⟩
  exact ⟨by rw [qb1, Nat.mul_comm]; exact hz, _, r.rep k.toNat, IsTup.new _ _⟩
def qj2 (K : Fr0) : R2 := fun x y H Q => (rI qji (fun i j => .int (i * j))) x y H Q \/ (qj1 K x y H Q \/ qlY x y H Q)
theorem zr : OpR X (binaryOp .Mult) (qj2 X.K) := OpR.or qjk (OpR.or qhR qgu)
end
def je : D -> D -> Option D
 | .int i, .int j => if qeb i j then some (.int (i * j)) else none
 | .tup ds, .int k => if (!ds.isEmpty && decide (2 <= k)) && qI (ds.length * k.toNat) then some (.tup (List.replicate k.toNat ds).flatten) else none
 | .lst ds, .int k => if (decide (-(2 ^ 62) <= k) && decide (k < 2 ^ 62)) && qI (ds.length * k.toNat) then some (.lst (List.replicate k.toNat ds).flatten) else none
 | _, _ => none
theorem IsL.rep {K : Fr0} {A : Addr -> Prop} {H : Hp} {ds : List D} {xs : List V} (h : IsL K A H ds xs) : ∀ k : Nat, IsL K A H (List.replicate k ds).flatten (List.replicate k xs).flatten
 | 0 => by simp [IsL]
 | k + 1 => by
  rw [rS_, rS_, List.flatten_cons, List.flatten_cons]
  exact IsL.append h (IsL.rep h k)
theorem qT {K : Fr0} : OpS K je (qj2 K) := by
 intro A H x y d v u Q hn ix iy e k
 cases x <;> cases y <;> simp only [je] at e <;> try (cases e; done)
 ·rename_i i j
  obtain ⟨e1, e2⟩ := zE e
  subst e2
  cases ix; cases iy
  exact .inl ⟨i, j, rfl, rfl, qfC e1, k _ H (zX.refl H) rfl⟩
 ·rename_i ds j
  obtain ⟨a, xs, rfl, ta, il⟩ := ix
  cases iy
  obtain ⟨e1, e2⟩ := zE e
  subst e2
  rw [Bool.and_eq_true, Bool.and_eq_true] at e1
  obtain ⟨⟨e3, e4⟩, e5⟩ := e1
  refine .inr (.inl ⟨a, xs, j, rfl, rfl, ta.sq, fun z => ?_, of_decide_eq_true e4, by rw [il.length]; exact of_decide_eq_true e5, fun p hp => k _ _ (qs hp _) ⟨p, _, rfl, .inl qo, IsL.ext (Ext.of_same (qs hp _)) (fun _ h _ => h) (IsL.rep il _)⟩⟩)
  have := il.length
  rw [z] at this
  have : ds = [] := List.length_eq_zero_iff.mp this.symm
  rw [this] at e3
  simp at e3
 ·rename_i ds j
  obtain ⟨a, xs, rfl, _, ta, il⟩ := ix
  cases iy
  obtain ⟨e1, e2⟩ := zE e
  subst e2
  rw [Bool.and_eq_true, Bool.and_eq_true] at e1
  obtain ⟨⟨e3, e4⟩, e5⟩ := e1
  have e3' := of_decide_eq_true e3
  have e4' := of_decide_eq_true e4
  refine .inr (.inr ⟨a, j, xs, rfl, rfl, ta, by omega, by omega, by rw [il.length]; exact of_decide_eq_true e5, fun p hp => k _ _ (qs hp _) ⟨p, _, rfl, hn p hp, qo, IsL.ext (Ext.of_same (qs hp _)) (fun _ h _ => h) (IsL.rep il _)⟩⟩)
def qgJ : D -> Option D
 | .int i => some (.int (-i))
 | _ => none
def d1 (F : D -> Option D) (f : M D) : M D := bnd f fun x => lift (F x)
section
variable {X : Cx} {c : Fc} {a b e : Expr} {pos : Pos}
theorem qj3 {f : M D} (h : DE X c a f) : DE X c (.UnaryOp .USub a pos) (d1 qgJ f) := by
 obtain ⟨t, p, w⟩ := h
 refine ⟨_, qk5 qjl p, fun ρ Z H Q r h => w ρ Z H _ r (Wp.bnd h fun d ρ1 v H1 r1 i1 g1 h1 => ?_)⟩
 obtain ⟨d', e, h2⟩ := h1.lift
 cases d <;> simp only [qgJ] at e <;> try (cases e; done)
 rename_i i
 cases e
 cases i1
 exact ⟨i, rfl, h2 _ H1 r1 rfl .refl⟩
def qiQ (i j : Nat) (f : M (List D)) : MS := sbnd f fun ds ρ => match ds with
 | [d, e] => .ok (.nx ((ρ.set i (some d)).set j (some e)))
 | _ => .bad
theorem qj4 {i j : Nat} {x y : Str} {f : M (List D)} {px py pt : Pos} {kt k2 pt2} (hN : X.N.Nodup) (ha : DA X c [a, b] f) (hw : swappedStores [.Tuple [.Name x px, .Name y py] kt pt] (.Tuple [a, b] k2 pt2) X.env = pure (some [x, y])) (hc : X.calm = true := by rfl) (hi : X.N[i]? = some x := by rfl) (hj : X.N[j]? = some y := by rfl) (hij : i ≠ j := by decide)
  (hx : X.env.scope.names.lookup x = some .local := by rfl) (hy : X.env.scope.names.lookup y = some .local := by rfl) (ho : i ∉ c.O := by exact of_decide_eq_false rfl) (hp : j ∉ c.O := by exact of_decide_eq_false rfl)
  (hs : swapsWithSole [.Tuple [.Name x px, .Name y py] kt pt] (.Tuple [a, b] k2 pt2) pos.line X.env = pure false := by rfl) :
  DS X c (.Assign [.Tuple [.Name x px, .Name y py] kt pt] (.Tuple [a, b] k2 pt2) pos) (qiQ i j f) := by
 obtain ⟨t, p, w⟩ := ha
 refine ⟨_, qjd hc hN hi hj hij hx hy p hw hs, fun ρ Z H D r h => w ρ Z H _ r (WpL.sbnd h fun ds ρ1 vs H1 r1 i1 g1 h1 => ?_)⟩
 match ds, i1, h1 with
 | [], _, h1 => exact h1.elim
 | [_], _, h1 => exact h1.elim
 | [d, e], i1, h1 =>
  obtain ⟨v, u, rfl, j1, j2⟩ := IsL.inv2 i1
  refine ⟨v, u, rfl, h1 _ H1 ((r1.set ho j1).set hp ?_) ((GrS.set ho).trans (GrS.set hp))⟩
  exact (GrS.set (H := H1) ho).is j2
 | _ :: _ :: _ :: _, _, h1 => exact h1.elim
mutual
def immF : D -> Bool
 | .tup ds => immFs ds
 | .lst _ => false
 | .dic _ => false
 | _ => true
def immFs : List D -> Bool
 | [] => true
 | d :: ds => immF d && immFs ds
end
mutual
theorem Is.immF {K : Fr0} {A B : Addr -> Prop} {H : Hp} : ∀ {d : D} {v : V}, immF d = true -> Is K A H d v -> Is K B H d v
 | .non, _, _, h => h
 | .bl _, _, _, h => h
 | .int _, _, _, h => h
 | .str _, _, _, h => h
 | .tup ds, _, i, ⟨a, xs, hv, h, r⟩ => ⟨a, xs, hv, h, IsL.immF (by simpa [Sk.immF] using i) r⟩
 | .lst _, _, i, _ => by simp [Sk.immF] at i
 | .dic _, _, i, _ => by simp [Sk.immF] at i
 | .fz _, _, _, h => h
 | .exc _, _, _, h => h
theorem IsL.immF {K : Fr0} {A B : Addr -> Prop} {H : Hp} : ∀ {ds : List D} {xs : List V}, immFs ds = true -> IsL K A H ds xs -> IsL K B H ds xs
 | [], _, _, h => h
 | d :: ds, _, i, ⟨x, ys, hx, h, r⟩ => by
  have i' : Sk.immF d = true /\ immFs ds = true := by simpa [immFs] using i
  exact ⟨x, ys, hx, Is.immF i'.1 h, IsL.immF i'.2 r⟩
end
def qaJ (F : List D -> R D) (g : M (List D)) : M (List D) := bnd g fun ds ρ => if immFs ds then match F ds with
 | .ok (.lst bs) => if immL bs then .ok (bs, ρ) else .bad
 | _ => .bad else .bad
theorem qhS {k : Nat} {f : Addr} {fd : FuncData} {ps : List Str} {F : List D -> R D} {x : Str} {p : Pos} {es : List Expr} {g : M (List D)} (G : wS X.prog X.w X.K X.mg X.base CX0 k f fd ps (spD X.K F)) (hr : yT k X.A) (hg : Gl X x) (hm : X.mg x = some (.ref f)) (hk : PySem.W.keepIn X.K (.ref f) = true) (hb : uw X.K fd ps [])
  (ha : DA X c (e :: es) g) (hd : (x == ("__debug__" : Str)) = false := by decide) (he : starEach (e :: es) X.env = (false, eval e X.env) :: starEach es X.env := by rfl) (hpl : (backTo pos (starEach es X.env)).any (·.1) = false := by rfl) : DN X c (.Call (.Name x p) (e :: es) [] pos) (qaJ F g) := by
 obtain ⟨t, pa, w⟩ := ha
 refine ⟨_, qau G hr hg hm hk hb .nil qhz pa hd he hpl, fun ρ Z H Q r h => w ρ Z H _ r (WpL.bndN h fun ds ρ1 vs H1 r1 i1 g1 h1 => ?_)⟩
 rw [List.append_nil]
 by_cases him : immFs ds = true
 ·rw [if_pos him] at h1
  refine ⟨ds, fun _ => False, IsL.immF him i1, r1.tb, ?_⟩
  cases ef : F ds with
  | bad => simp only [ef] at h1; exact h1.elim
  | exc z ρ' => simp only [ef] at h1; exact h1.elim
  | ok d =>
   cases d with
   | lst bs =>
    simp only [ef] at h1
    by_cases hb2 : immL bs = true
    ·rw [if_pos hb2] at h1
     intro v H' sm i
     obtain ⟨a, xs, rfl, hA, ha2, il⟩ := i
     have hn : H1 a = none := hA.elim False.elim id
     exact h1 a xs H' hn (r1.same sm) (r1.apart_same hn sm) ha2 trivial (IsL.imm hb2 il) (.of_same sm)
    ·rw [if_neg hb2] at h1; exact h1.elim
   | _ => simp only [ef] at h1; exact h1.elim
 ·rw [if_neg him] at h1; exact h1.elim
end
structure qhT (outer : Scope) (N : List Str) (scope : Scope) (N' : List Str) (nt : Nat) (fr : List Nat) : Prop where
 kind : scope.kind = .function
 nocell : ∀ y ∈ scope.names, y.2 ≠ .cell
 names : ∀ y ∈ scope.names, y.2 = .local -> scope.names.lookup y.1 = some .local
 frees : ∀ y ∈ scope.names, y.2 = .free -> outer.names.lookup y.1 = some .cell
 len : N'.length = nt + fr.length
 slots : ∀ p ∈ fr.zipIdx, N'[nt + p.2]? = N[p.1]? /\ ((N[p.1]?).bind fun x => scope.names.lookup x) = some .free
theorem qhT.ok {X : Cx} {outer : Scope} {N : List Str} {scope : Scope} {N' : List Str} {nt : Nat} {fr : List Nat} (S : qhT outer N scope N' nt fr) (h1 : X.env.scope = outer) (h2 : X.N = N) : CompScope X scope N' nt fr := by
 subst h1 h2
 refine ⟨S.kind, S.nocell, S.names, S.frees, S.len, fun i j h => ?_⟩
 have hm : (j, i) ∈ fr.zipIdx := by
  rw [List.mem_iff_getElem?]
  refine ⟨i, ?_⟩
  rw [List.getElem?_zipIdx, h]
  simp
 obtain ⟨h3, h4⟩ := S.slots (j, i) hm
 cases e : X.N[j]? with
 | none =>
  have h4' : ((X.N[j]?).bind fun x => scope.names.lookup x) = some .free := h4
  rw [e] at h4'; cases h4'
 | some x =>
  have h4' : ((X.N[j]?).bind fun x => scope.names.lookup x) = some .free := h4
  rw [e] at h4'
  exact ⟨x, by
    have h3' : N'[nt + i]? = X.N[j]? := h3
    rw [h3', e], rfl, h4'⟩
structure qL (P : Program) (w : World) (K : PySem.W.Frag) (mg : Str -> Option Value) (base : Heap) (k : Nat) (x : Str) (ps : List Str) (sp : Sp) : Prop where
 ex : ∃ f fd, wS P w K mg base CX0 k f fd ps sp /\ mg x = some (.ref f) /\ PySem.W.keepIn K (.ref f) = true /\ uw K fd ps []
theorem wf : bootBuiltins "len" = some (.builtin "len") := by decide +kernel
theorem qep : bootBuiltins "max" = some (.builtin "max") := by decide +kernel
theorem qj5 : bootBuiltins "min" = some (.builtin "min") := by decide +kernel
theorem qj6 : bootBuiltins "all" = some (.builtin "all") := by decide +kernel
theorem qeq : bootBuiltins "divmod" = some (.builtin "divmod") := by decide +kernel
theorem qer : bootBuiltins "repr" = some (.builtin "repr") := by decide +kernel
theorem qj7 : bootBuiltins "int" = some (.type "int") := by decide +kernel
theorem qhU : bootBuiltins "bool" = some (.type "bool") := by decide +kernel
theorem vM : bootBuiltins "tuple" = some (.type "tuple") := by decide +kernel
theorem jD : bootBuiltins "isinstance" = some (.builtin "isinstance") := by decide +kernel
def qal : MS := fun ρ => .ok (.nx ρ)
def qcI : MS := fun _ => .bad
theorem zL {X : Cx} {c : Fc} : DSs X c [] qal := qhA
theorem wj {X : Cx} {c : Fc} {st : Stmt} : DS X c st qcI := qfB
theorem qz {X : Cx} : IxR X (fun x y H Q => qld X.K x y H Q \/ qle X.K x y H Q) := qd3.or qjw
theorem qhV {c : Fc} {nt : Nat} {fr : List Nat} {i j : Nat} (h1 : j ∈ c.O) (h2 : nt <= i) (h3 : fr[i - nt]? = some j) (h4 : ∀ p ∈ fr.zipIdx, nt + p.2 ≠ i -> p.1 ∉ c.O) : qhK c nt fr (some (i, j)) :=
 ⟨h1, h2, h3, fun k j' h hk => h4 (j', k) (by rw [List.mem_iff_getElem?]; exact ⟨k, by rw [List.getElem?_zipIdx, h]; simp⟩) hk⟩
def eqB (x y : D) : Option D := match sc2 x y with
 | some b => some (.bl b)
 | none => eqA x y
def neB (x y : D) : Option D := match sc2 x y with
 | some b => some (.bl (!b))
 | none => neA x y
theorem qes {X : Cx} {k : Nat} (hr : yT k X.A) : OpR X (compareOp .Eq) (fun x y H Q => rEq x y H Q \/ qgI X.K false x y H Q) := OpR.or qk7 (qjT hr)
theorem qet {X : Cx} {k : Nat} (hr : yT k X.A) : OpR X (compareOp .NotEq) (fun x y H Q => rNe x y H Q \/ qgI X.K true x y H Q) := OpR.or qk8 (qjU hr)
theorem qb6 {K : Fr0} : OpS K eqB (fun x y H Q => rEq x y H Q \/ qgI K false x y H Q) := by
 intro A H x y d v u Q hn ix iy e k
 unfold eqB at e
 cases e1 : sc2 x y with
 | some b => simp only [e1] at e; exact .inl (qhC A H x y d v u Q hn ix iy (by unfold eqS; rw [e1]; exact e) k)
 | none => simp only [e1] at e; exact .inr (qhM A H x y d v u Q hn ix iy e k)
theorem qb7 {K : Fr0} : OpS K neB (fun x y H Q => rNe x y H Q \/ qgI K true x y H Q) := by
 intro A H x y d v u Q hn ix iy e k
 unfold neB at e
 cases e1 : sc2 x y with
 | some b => simp only [e1] at e; exact .inl (qhD A H x y d v u Q hn ix iy (by unfold neS; rw [e1]; exact e) k)
 | none => simp only [e1] at e; exact .inr (qhN A H x y d v u Q hn ix iy e k)
end L2.Sk
namespace L2.Sk
section
variable {α β : Type} {ρ : Env} {f g k : M D} {t u : M Bool} {l m : M (List D)} {p q r : MS}
theorem qhW (a : α) : ret a ρ = .ok (a, ρ) := rfl
theorem qeu (o : Option α) : lift o ρ = match o with | some a => .ok (a, ρ) | none => .bad := by cases o <;> rfl
theorem qlj {f : M α} {k : α -> M β} : bnd f k ρ = match f ρ with | .ok (a, ρ') => k a ρ' | .exc x ρ' => .exc x ρ' | .bad => .bad := rfl
theorem ql4 (i : Nat) : dv i ρ = match ρ[i]? with | some (some d) => .ok (d, ρ) | _ => .bad := rfl
theorem jV : qc f l ρ = match f ρ with | .ok (d, ρ1) => (match l ρ1 with | .ok (ds, ρ2) => .ok (d :: ds, ρ2) | .exc x ρ' => .exc x ρ' | .bad => .bad) | .exc x ρ' => .exc x ρ' | .bad => .bad := by
 simp only [qc, bnd, sbnd]
 cases f ρ with
 | ok z =>
  obtain ⟨z1, ρ1⟩ := z
  simp only [ret]
  cases l ρ1 with
  | ok z => obtain ⟨z2, ρ2⟩ := z; rfl
  | exc x ρ' => rfl
  | bad => rfl
 | exc x ρ' => rfl
 | bad => rfl
theorem wm : um l ρ = match l ρ with | .ok (ds, ρ1) => (if qI ds.length then .ok (.tup ds, ρ1) else .bad) | .exc x ρ' => .exc x ρ' | .bad => .bad := by
 simp only [um, bnd, sbnd]
 cases l ρ with
 | ok z =>
  obtain ⟨z1, ρ1⟩ := z
  cases h : qI z1.length <;> simp [h, lift, ret]
 | exc x ρ' => rfl
 | bad => rfl
theorem qgK : qbn l ρ = match l ρ with | .ok (ds, ρ1) => (if qI ds.length then .ok (.lst ds, ρ1) else .bad) | .exc x ρ' => .exc x ρ' | .bad => .bad := by
 simp only [qbn, bnd, sbnd]
 cases l ρ with
 | ok z =>
  obtain ⟨z1, ρ1⟩ := z
  cases h : qI z1.length <;> simp [h, lift, ret]
 | exc x ρ' => rfl
 | bad => rfl
theorem qgL : qiP l ρ = match l ρ with | .ok (ds, ρ1) => (if immL ds && qI ds.length then .ok (ds, ρ1) else .bad) | .exc x ρ' => .exc x ρ' | .bad => .bad := by
 simp only [qiP, bnd, sbnd]
 cases l ρ with
 | ok z =>
  obtain ⟨z1, ρ1⟩ := z
  cases h : (immL z1 && qI z1.length) <;> simp [h, lift, ret]
 | exc x ρ' => rfl
 | bad => rfl
theorem qkM (F : D -> D -> Option D) : d2 F f g ρ = match f ρ with | .ok (x, ρ1) => (match g ρ1 with | .ok (y, ρ2) => (match F x y with | some d => .ok (d, ρ2) | none => .bad) | .exc x ρ' => .exc x ρ' | .bad => .bad) | .exc x ρ' => .exc x ρ' | .bad => .bad := by
 simp only [d2, bnd, sbnd]
 cases f ρ with
 | ok z =>
  obtain ⟨z1, ρ1⟩ := z
  dsimp only <;>
  cases g ρ1 with
  | ok z => obtain ⟨z2, ρ2⟩ := z; (dsimp only; cases F z1 z2 <;> rfl)
  | exc x ρ' => rfl
  | bad => rfl
 | exc x ρ' => rfl
 | bad => rfl
theorem qlk (F : D -> Option D) : d1 F f ρ = match f ρ with | .ok (x, ρ1) => (match F x with | some d => .ok (d, ρ1) | none => .bad) | .exc x ρ' => .exc x ρ' | .bad => .bad := by
 simp only [d1, bnd, sbnd]
 cases f ρ with
 | ok z =>
  obtain ⟨z1, ρ1⟩ := z
  (dsimp only; cases F z1 <;> rfl)
 | exc x ρ' => rfl
 | bad => rfl
theorem qaK (F : List D -> Option D) : zq F l ρ = match l ρ with | .ok (xs, ρ1) => (match F xs with | some d => .ok (d, ρ1) | none => .bad) | .exc x ρ' => .exc x ρ' | .bad => .bad := by
 simp only [zq, bnd, sbnd]
 cases l ρ with
 | ok z =>
  obtain ⟨z1, ρ1⟩ := z
  (dsimp only; cases F z1 <;> rfl)
 | exc x ρ' => rfl
 | bad => rfl
theorem jE (F : List D -> R D) : ql F l ρ = match l ρ with | .ok (xs, ρ1) => (match F xs with | .ok d => .ok (d, ρ1) | _ => .bad) | .exc x ρ' => .exc x ρ' | .bad => .bad := by
 simp only [ql, bnd, sbnd]
 cases l ρ with
 | ok z =>
  obtain ⟨z1, ρ1⟩ := z
  cases F z1 <;> rfl
 | exc x ρ' => rfl
 | bad => rfl
theorem qgM (T : String) : qhH T f ρ = match f ρ with | .ok (d, ρ1) => .ok (.bl (qb3 (tyD d) T), ρ1) | .exc x ρ' => .exc x ρ' | .bad => .bad := by
 simp only [qhH, bnd, sbnd]
 cases f ρ with
 | ok z =>
  obtain ⟨z1, ρ1⟩ := z
  rfl
 | exc x ρ' => rfl
 | bad => rfl
theorem qhX : tst f ρ = match f ρ with | .ok (d, ρ1) => (match asB d with | some b => .ok (b, ρ1) | none => .bad) | .exc x ρ' => .exc x ρ' | .bad => .bad := by
 simp only [tst, bnd, sbnd]
 cases f ρ with
 | ok z =>
  obtain ⟨z1, ρ1⟩ := z
  (dsimp only; cases asB z1 <;> rfl)
 | exc x ρ' => rfl
 | bad => rfl
theorem yX (b : Bool) : asB (.bl b) = some b := rfl
theorem qam : qdl t ρ = match t ρ with | .ok (b, ρ1) => .ok (!b, ρ1) | .exc x ρ' => .exc x ρ' | .bad => .bad := by
 simp only [qdl, bnd, sbnd]
 cases t ρ with
 | ok z =>
  obtain ⟨z1, ρ1⟩ := z
  rfl
 | exc x ρ' => rfl
 | bad => rfl
theorem qcJ : qcy t u ρ = match t ρ with | .ok (b, ρ1) => (bif b then u ρ1 else .ok (false, ρ1)) | .exc x ρ' => .exc x ρ' | .bad => .bad := by
 simp only [qcy, bnd, sbnd]
 cases t ρ with
 | ok z =>
  obtain ⟨z1, ρ1⟩ := z
  cases z1 <;> rfl
 | exc x ρ' => rfl
 | bad => rfl
theorem qdu : tor t u ρ = match t ρ with | .ok (b, ρ1) => (bif b then .ok (true, ρ1) else u ρ1) | .exc x ρ' => .exc x ρ' | .bad => .bad := by
 simp only [tor, bnd, sbnd]
 cases t ρ with
 | ok z =>
  obtain ⟨z1, ρ1⟩ := z
  cases z1 <;> rfl
 | exc x ρ' => rfl
 | bad => rfl
theorem qcK : qfz f g ρ = match f ρ with | .ok (d, ρ1) => (match asB d with | some b => (bif b then g ρ1 else .ok (.bl false, ρ1)) | none => .bad) | .exc x ρ' => .exc x ρ' | .bad => .bad := by
 simp only [qfz, bnd, sbnd]
 cases f ρ with
 | ok z =>
  obtain ⟨z1, ρ1⟩ := z
  simp only [qeu]
  cases asB z1 with
  | none => rfl
  | some b => cases b <;> rfl
 | exc x ρ' => rfl
 | bad => rfl
theorem qhY : dor f g ρ = match f ρ with | .ok (d, ρ1) => (match asB d with | some b => (bif b then .ok (.bl true, ρ1) else g ρ1) | none => .bad) | .exc x ρ' => .exc x ρ' | .bad => .bad := by
 simp only [dor, bnd, sbnd]
 cases f ρ with
 | ok z =>
  obtain ⟨z1, ρ1⟩ := z
  simp only [qeu]
  cases asB z1 with
  | none => rfl
  | some b => cases b <;> rfl
 | exc x ρ' => rfl
 | bad => rfl
theorem qgN : qkK f ρ = match f ρ with | .ok (d, ρ1) => (match asB d with | some b => .ok (.bl (!b), ρ1) | none => .bad) | .exc x ρ' => .exc x ρ' | .bad => .bad := by
 simp only [qkK, bnd, sbnd]
 cases f ρ with
 | ok z =>
  obtain ⟨z1, ρ1⟩ := z
  simp only [qeu]
  cases asB z1 with
  | none => rfl
  | some b => cases b <;> rfl
 | exc x ρ' => rfl
 | bad => rfl
theorem qfU : dif t f g ρ = match t ρ with | .ok (b, ρ1) => (bif b then f ρ1 else g ρ1) | .exc x ρ' => .exc x ρ' | .bad => .bad := by
 simp only [dif, bnd, sbnd]
 cases t ρ with
 | ok z =>
  obtain ⟨z1, ρ1⟩ := z
  cases z1 <;> rfl
 | exc x ρ' => rfl
 | bad => rfl
theorem qfV : sif t p q ρ = match t ρ with | .ok (b, ρ1) => (bif b then p ρ1 else q ρ1) | .exc x ρ' => .exc x ρ' | .bad => .bad := by
 simp only [sif, bnd, sbnd]
 cases t ρ with
 | ok z =>
  obtain ⟨z1, ρ1⟩ := z
  cases z1 <;> rfl
 | exc x ρ' => rfl
 | bad => rfl
theorem qgO : qS p q ρ = match p ρ with | .ok (.nx ρ') => q ρ' | z => z := by
 unfold qS
 cases p ρ with
 | ok z => cases z <;> rfl
 | exc x ρ' => rfl
 | bad => rfl
theorem wn : j8 f ρ = match f ρ with | .ok (d, ρ1) => .ok (.rt d ρ1) | .exc x ρ' => .exc x ρ' | .bad => .bad := by
 simp only [j8, bnd, sbnd]
 cases f ρ with
 | ok z =>
  obtain ⟨z1, ρ1⟩ := z
  rfl
 | exc x ρ' => rfl
 | bad => rfl
theorem qan (i : Nat) : zY i f ρ = match f ρ with | .ok (d, ρ1) => .ok (.nx (ρ1.set i (some d))) | .exc x ρ' => .exc x ρ' | .bad => .bad := by
 simp only [zY, bnd, sbnd]
 cases f ρ with
 | ok z =>
  obtain ⟨z1, ρ1⟩ := z
  rfl
 | exc x ρ' => rfl
 | bad => rfl
theorem qaL (i : Nat) : vE i l ρ = match l ρ with | .ok (ds, ρ1) => .ok (.nx (ρ1.set i (some (.lst ds)))) | .exc x ρ' => .exc x ρ' | .bad => .bad := by
 simp only [vE, bnd, sbnd]
 cases l ρ with
 | ok z =>
  obtain ⟨z1, ρ1⟩ := z
  rfl
 | exc x ρ' => rfl
 | bad => rfl
theorem qaM : yo f ρ = match f ρ with | .ok (_, ρ1) => .ok (.nx ρ1) | .exc x ρ' => .exc x ρ' | .bad => .bad := by
 simp only [yo, bnd, sbnd]
 cases f ρ with
 | ok z =>
  obtain ⟨z1, ρ1⟩ := z
  rfl
 | exc x ρ' => rfl
 | bad => rfl
theorem qgP : qal ρ = .ok (.nx ρ) := rfl
theorem qgQ (i j : Nat) : qiQ i j l ρ = match l ρ with | .ok ([d, e], ρ1) => .ok (.nx ((ρ1.set i (some d)).set j (some e))) | .ok _ => .bad | .exc x ρ' => .exc x ρ' | .bad => .bad := by
 simp only [qiQ, bnd, sbnd]
 cases l ρ with
 | ok z =>
  obtain ⟨z1, ρ1⟩ := z
  match z1 with
  | [] => rfl
  | [_] => rfl
  | [_, _] => rfl
  | _ :: _ :: _ :: _ => rfl
 | exc x ρ' => rfl
 | bad => rfl
theorem qev (G : D -> Env -> Option Env) : qhB f G ρ = match f ρ with | .ok (d, ρ1) => (match G d ρ1 with | some ρ2 => .ok (.nx ρ2) | none => .bad) | .exc x ρ' => .exc x ρ' | .bad => .bad := by
 simp only [qhB, bnd, sbnd]
 cases f ρ with
 | ok z =>
  obtain ⟨z1, ρ1⟩ := z
  dsimp only <;>
  cases G z1 ρ1 <;> rfl
 | exc x ρ' => rfl
 | bad => rfl
theorem uq (G : D -> Env -> Option Env) (b : MS) : qa7 l G b ρ = match l ρ with | .ok (ds, ρ1) => jU G b ds ρ1 | .exc x ρ' => .exc x ρ' | .bad => .bad := by
 simp only [qa7, bnd, sbnd]
 cases l ρ with
 | ok z =>
  obtain ⟨z1, ρ1⟩ := z
  rfl
 | exc x ρ' => rfl
 | bad => rfl
theorem qew : wP f ρ = match f ρ with | .ok (d, ρ1) => (match qjL d with | some ds => .ok (ds, ρ1) | none => .bad) | .exc x ρ' => .exc x ρ' | .bad => .bad := by
 simp only [wP, bnd, sbnd]
 cases f ρ with
 | ok z =>
  obtain ⟨z1, ρ1⟩ := z
  (dsimp only; cases qjL z1 <;> rfl)
 | exc x ρ' => rfl
 | bad => rfl
theorem qex : uy l ρ = match l ρ with | .ok (d, ρ1) => (match qgD d with | some ds => .ok (ds, ρ1) | none => .bad) | .exc x ρ' => .exc x ρ' | .bad => .bad := by
 simp only [uy, bnd, sbnd]
 cases l ρ with
 | ok z =>
  obtain ⟨z1, ρ1⟩ := z
  (dsimp only; cases qgD z1 <;> rfl)
 | exc x ρ' => rfl
 | bad => rfl
theorem qey : qjY l ρ = match l ρ with | .ok (d, ρ1) => (match qkL d with | some ds => .ok (ds, ρ1) | none => .bad) | .exc x ρ' => .exc x ρ' | .bad => .bad := by
 simp only [qjY, bnd, sbnd]
 cases l ρ with
 | ok z =>
  obtain ⟨z1, ρ1⟩ := z
  (dsimp only; cases qkL z1 <;> rfl)
 | exc x ρ' => rfl
 | bad => rfl
theorem qaN {nt : Nat} {fr : List Nat} {fo : Option (Nat × Nat)} {G : D -> Env -> Option Env} {e : M D} : yE nt fr fo l G t e ρ = match l ρ with
  | .ok (ds, ρ1) => (match zb G t e ds [] (jC nt fr ρ1) with | .ok (ys, ρe) => .ok (.lst ys, qiO fo ρe ρ1) | _ => .bad) | .exc x ρ' => .exc x ρ' | .bad => .bad := by
 simp only [yE, bnd, sbnd]
 cases l ρ with
 | ok z =>
  obtain ⟨z1, ρ1⟩ := z
  dsimp only <;>
  cases zb G t e z1 [] (jC nt fr ρ1) with
  | ok z => obtain ⟨z2, ρ2⟩ := z; rfl
  | exc x ρ' => rfl
  | bad => rfl
 | exc x ρ' => rfl
 | bad => rfl
theorem qbu (F : List D -> List D -> R (D × List D)) (i : Nat) : qV F i l ρ = match zg i ρ with
  | none => .bad
  | some _ => (match l ρ with
   | .ok (ds, ρ1) => (match zg i ρ1 with
    | none => .bad
    | some bs => (match F bs ds with | .ok (d, bs') => .ok (d, ρ1.set i (some (.lst bs'))) | _ => .bad))
   | .exc x ρ' => .exc x ρ' | .bad => .bad) := by
 simp only [qV, bnd]
 cases zg i ρ with
 | none => rfl
 | some _ =>
  dsimp only <;>
  cases l ρ with
  | ok z =>
   obtain ⟨z1, ρ1⟩ := z
   dsimp only <;>
   cases zg i ρ1 with
   | none => rfl
   | some bs =>
    dsimp only <;>
    cases F bs z1 with
    | ok z => obtain ⟨z2, z3⟩ := z; rfl
    | exc x ρ' => rfl
    | bad => rfl
  | exc x ρ' => rfl
  | bad => rfl
theorem qb8 (F : List D -> R D) : qaJ F l ρ = match l ρ with
  | .ok (ds, ρ1) => (if immFs ds then (match F ds with | .ok (.lst bs) => (if immL bs then .ok (bs, ρ1) else .bad) | _ => .bad) else .bad) | .exc x ρ' => .exc x ρ' | .bad => .bad := by
 simp only [qaJ, bnd, sbnd]
 cases l ρ with
 | ok z =>
  obtain ⟨z1, ρ1⟩ := z
  dsimp only <;>
  cases immFs z1 with
  | false => rfl
  | true =>
   simp only [if_true]
   cases F z1 with
   | ok z => cases z <;> rfl
   | exc x ρ' => rfl
   | bad => rfl
 | exc x ρ' => rfl
 | bad => rfl
theorem qgR (i : Nat) : qjP i f ρ = match zg i ρ with
  | none => .bad
  | some _ => (match f ρ with
   | .ok (k, ρ1) => (match k, zg i ρ1 with
    | .int n, some ds => (match atI ds n with | some d => .ok (d, ρ1) | none => .bad)
    | _, _ => .bad)
   | .exc x ρ' => .exc x ρ' | .bad => .bad) := by
 simp only [qjP, bnd]
 cases zg i ρ with
 | none => rfl
 | some _ =>
  dsimp only <;>
  cases f ρ with
  | ok z =>
   obtain ⟨z1, ρ1⟩ := z
   dsimp only <;>
   cases z1 <;> cases zg i ρ1 <;> try rfl
  | exc x ρ' => rfl
  | bad => rfl
theorem qb9 (i : Nat) : qb4 i k f ρ = match f ρ with
  | .ok (d, ρ1) => (match zg i ρ1 with
   | none => .bad
   | some _ => (match k ρ1 with
    | .ok (j, ρ2) => (match j, zg i ρ2 with
     | .int n, some ds => (match ixN ds.length n with
      | some q => if imm d then .ok (.nx (ρ2.set i (some (.lst (ds.set q d))))) else .bad
      | none => .bad)
     | _, _ => .bad)
    | .exc x ρ' => .exc x ρ' | .bad => .bad))
  | .exc x ρ' => .exc x ρ' | .bad => .bad := by
 simp only [qb4, bnd, sbnd]
 cases f ρ with
 | ok z =>
  obtain ⟨z1, ρ1⟩ := z
  dsimp only <;>
  cases zg i ρ1 with
  | none => rfl
  | some _ =>
   dsimp only <;>
   cases k ρ1 with
   | ok z =>
    obtain ⟨z2, ρ2⟩ := z
    dsimp only <;>
    cases z2 <;> cases zg i ρ2 <;> try rfl
   | exc x ρ' => rfl
   | bad => rfl
 | exc x ρ' => rfl
 | bad => rfl
theorem qez (i : Nat) : qjO i ρ = match zg i ρ with | some ds => .ok (.int ds.length, ρ) | none => .bad := by
 unfold qjO
 cases zg i ρ <;> rfl
theorem qca (i : Nat) : qds i ρ = match zg i ρ with | some ds => .ok (.tup ds, ρ) | none => .bad := by
 unfold qds
 cases zg i ρ <;> rfl
theorem qgS (i : Nat) : ql3 i f ρ = match zg i ρ with
  | none => .bad
  | some _ => (match f ρ with
   | .ok (y, ρ1) => (match zg i ρ1 with
    | none => .bad
    | some ds => (match neA (.lst ds) y with | some d => .ok (d, ρ1) | none => .bad))
   | .exc x ρ' => .exc x ρ' | .bad => .bad) := by
 simp only [ql3, bnd]
 cases zg i ρ with
 | none => rfl
 | some _ =>
  dsimp only <;>
  cases f ρ with
  | ok z =>
   obtain ⟨z1, ρ1⟩ := z
   dsimp only <;>
   cases zg i ρ1 with
   | none => rfl
   | some ds => (dsimp only; cases neA (.lst ds) z1 <;> rfl)
  | exc x ρ' => rfl
  | bad => rfl
theorem wo (i : Nat) : zM i f ρ = match zg i ρ with
  | none => .bad
  | some _ => (match f ρ with
   | .ok (d, ρ1) => (match zg i ρ1 with
    | some ds => if imm d && qI (ds.length + 1) then .ok (.non, ρ1.set i (some (.lst (ds ++ [d])))) else .bad
    | none => .bad)
   | .exc x ρ' => .exc x ρ' | .bad => .bad) := by
 simp only [zM, bnd]
 cases zg i ρ with
 | none => rfl
 | some _ =>
  dsimp only <;>
  cases f ρ with
  | ok z =>
   obtain ⟨z1, ρ1⟩ := z
   dsimp only <;>
   cases zg i ρ1 <;> rfl
  | exc x ρ' => rfl
  | bad => rfl
theorem qj8 {g k : M (Option Int)} : dsl f g k ρ = match f ρ with
  | .ok (d, ρ1) => (match g ρ1 with
   | .ok (lo, ρ2) => (match k ρ2 with
    | .ok (hi, ρ3) => (match slD d lo hi with | some x => .ok (x, ρ3) | none => .bad)
    | .exc x ρ' => .exc x ρ' | .bad => .bad)
   | .exc x ρ' => .exc x ρ' | .bad => .bad)
  | .exc x ρ' => .exc x ρ' | .bad => .bad := by
 simp only [dsl, bnd, sbnd]
 cases f ρ with
 | ok z =>
  obtain ⟨z1, ρ1⟩ := z
  dsimp only <;>
  cases g ρ1 with
  | ok z =>
   obtain ⟨z2, ρ2⟩ := z
   dsimp only <;>
   cases k ρ2 with
   | ok z => obtain ⟨z3, ρ3⟩ := z; (dsimp only; cases slD z1 z2 z3 <;> rfl)
   | exc x ρ' => rfl
   | bad => rfl
  | exc x ρ' => rfl
  | bad => rfl
 | exc x ρ' => rfl
 | bad => rfl
theorem qeA : vC f ρ = match f ρ with | .ok (.int i, ρ1) => .ok (some i, ρ1) | .ok _ => .bad | .exc x ρ' => .exc x ρ' | .bad => .bad := by
 simp only [vC, bnd, sbnd]
 cases f ρ with
 | ok z =>
  obtain ⟨z1, ρ1⟩ := z
  cases z1 <;> rfl
 | exc x ρ' => rfl
 | bad => rfl
end
theorem yS {n : Nat} (h : n <= 1000000) : qI n = true := by
 unfold qI
 exact decide_eq_true (Nat.le_trans h (by rw [PySem.sizeLine_eq]; decide))
theorem qhZ {n p : Nat} {body : MS} {ds : List D} {d : D} {ρ : Env} (h : ds.length = p) (e : body (j9 n ds) = .ok (.rt d ρ)) : dfn n p body ds = .ok d := by
 unfold dfn; rw [if_pos h, e]
theorem qgT {n p : Nat} {body : MS} {bs ds bs' : List D} {d : D} {ρ : Env} (h : ds.length + 1 = p) (e : body (j9 n (.lst bs :: ds)) = .ok (.rt d ρ)) (g : zg 0 ρ = some bs') : qaF n p body bs ds = .ok (d, bs') := by
 unfold qaF; rw [if_pos h, e]; simp only [g]
end L2.Sk
namespace L2.Sk
open PySem PySem.Spec PyProof.Rows
section
variable {prog : Program} {w : World} {A : Around} {E : Value -> Shared -> Prop} {s : Shared}
theorem qeB {l : Addr} {xs : Array Value} {Q : Value -> Shared -> Prop} (t1 : s.heap.IsTuple l xs)
  (fin : ∀ h', IsEnum h' (s.heap.objs.size + 1) s.heap.objs.size 0 .none -> h'.IsTupleIter s.heap.objs.size l 0 -> (∀ c o, s.heap.get? c = some o -> h'.get? c = some o) -> Q (.ref (s.heap.objs.size + 1)) { s with heap := h' }) :
  wpAny (model prog w) A (call (.type "enumerate") [.ref l]) Q E s := by
 have meets : Meets (Builtin.«enumerate.__new__» ⟨[.type "enumerate", .ref l], []⟩) (fun _ R s => s.heap.IsTuple l xs /\
   R (.ok (.ret (.ref (s.heap.objs.size + 1)))) { s with heap := (s.heap.push { cls := .type "tuple_iterator", data := .fields #[.ref l, .int 0 0] }).push { cls := .type "enumerate", data := .fields #[.none, .bool false, .ref s.heap.objs.size, rawInt 0, .none, .none] } }) :=
  .of_wp fun prog w A R s h => by
   obtain ⟨hp, g, d, tk, os⟩ := s
   obtain ⟨ha, h⟩ := h
   have hsub := sub_enumerate
   have hA : Heap.IsTuple (Shared.heap ⟨hp, g, d, tk, os⟩) l xs := ha
   obtain ⟨o, ho, _⟩ := id ha
   have ho' : hp.get? l = some o := ho
   wp_walk using AutoSeq1.wpAny_loadPart' ho'
   refine wpAny_stack_any fun st => wpAny_pure ?_
   split
   ·rename_i c _ _ _ _ _
    cases (c == Value.type "enumerate")
    ·wp_walk using AutoSeq1.wpAny_loadPart' ho', wpAny_pyIter_tuple hA
     simp only [Heap.size_push] at *
     exact ⟨_, rfl, h⟩
    ·wp_walk using AutoSeq1.wpAny_loadPart' ho', wpAny_pyIter_tuple hA
     simp only [Heap.size_push] at *
     exact ⟨_, rfl, h⟩
   ·wp_walk using AutoSeq1.wpAny_loadPart' ho', wpAny_pyIter_tuple hA
    simp only [Heap.size_push] at *
    exact ⟨_, rfl, h⟩
 refine callType_new F.called_enumerate (by decide) (F.typeCall_enumerate_1 _) (F.newCall_enumerate_1 _) (fun obj => F.args_object_init_2 obj _) F.entry_enumerate_new meets ⟨t1, ?_⟩
 generalize e1 : s.heap.push { cls := .type "tuple_iterator", data := .fields #[.ref l, .int 0 0] } = m1
 have s1 : m1.objs.size = s.heap.objs.size + 1 := by rw [<- e1, Heap.size_push]
 have q1 : m1.get? s.heap.objs.size = some { cls := .type "tuple_iterator", data := .fields #[.ref l, .int 0 0] } := by rw [<- e1]; exact Heap.get?_push_size _ rfl
 have k1 : ∀ c o, s.heap.get? c = some o -> m1.get? c = some o := fun c o x => by rw [<- e1]; exact Heap.get?_push_of_some _ x
 generalize e2 : m1.push { cls := .type "enumerate", data := .fields #[.none, .bool false, .ref s.heap.objs.size, rawInt 0, .none, .none] } = m2
 have q2 : m2.get? (s.heap.objs.size + 1) = some { cls := .type "enumerate", data := .fields #[.none, .bool false, .ref s.heap.objs.size, rawInt 0, .none, .none] } := by rw [<- e2, <- s1]; exact Heap.get?_push_size _ rfl
 have k2 : ∀ c o, m1.get? c = some o -> m2.get? c = some o := fun c o x => by rw [<- e2]; exact Heap.get?_push_of_some _ x
 show _ /\ _
 exact ⟨⟨_, q2, rfl⟩, fin m2 q2 ⟨_, k2 _ _ q1, rfl, rfl⟩ fun c o x => k2 _ _ (k1 _ _ x)⟩
end
def Ite (K : Fr0) (a : Addr) (xs : List V) : It :=
 ⟨fun i H => i < xs.length /\ SqT K H a xs, fun i H x H' => ∃ p u, H p = none /\ xs[i]? = some u /\ x = .ref p /\ H' = upd H p (.tup [.int i, u]), fun i H => i = xs.length /\ SqT K H a xs⟩
def ESt (z i1 a1 : Addr) (i : Nat) (h : Heap) : Prop := (∃ old, IsEnum h z i1 i old) /\ h.IsTupleIter i1 a1 i
theorem qeC {P : Program} {w : World} {K : Fr0} {es : List Expr} {kk : Nat} {pos : Pos} {z i1 a1 : Addr} {xs : List V} (zi : z ≠ i1) (za : z ≠ a1) (n1 : a1 ≠ i1) :
  qiH P w K (.Tuple es kk pos) (Ite K a1 xs) [z, i1] z (ESt z i1 a1) where
 mem := by simp
 obj := fun i h st b hb => by
  obtain ⟨⟨old, h1⟩, ⟨o4, h4, c4, d4⟩⟩ := st
  simp only [List.mem_cons, nN_, or_false] at hb
  rcases hb with rfl | rfl
  ·exact ⟨_, h1, fun v e => by cases (show Data.fields _ = Data.cell v from e)⟩
  ·exact ⟨_, h4, fun v e => by rw [d4] at e; cases e⟩
 keep := fun i h h' st k => by
  obtain ⟨⟨old, h1⟩, h4⟩ := st
  exact ⟨⟨old, k z (by simp) _ h1⟩, h4.at fun o e => k i1 (by simp) o e⟩
 item := by
  intro X hP hw hK hc i pins s Z H E I hf st hg
  subst hP hw hK
  obtain ⟨hlt, hx⟩ := hg
  obtain ⟨⟨old, h1⟩, h4⟩ := st
  obtain ⟨it1, r1, p1, z1⟩ := I.tuple hx
  have l1 : i < it1.toArray.size := by rw [sT_, <- r1.length]; omega
  have hh : X.A.in1.handled = none := I.ok.hd hc
  refine wpAny_pyNext_enum_itemD (ue hh i1 a1 n1 it1.toArray) h1 ⟨h4, p1⟩ l1 zi (by simp [zi, za]) fun x h' tk px ho u1 new hsz kp => ?_
  refine ⟨.ref s.heap.objs.size, rfl, wpAny_letOwnedTupleGo_enum ho fun h2' zz2 sb => ?_⟩
  obtain ⟨xv, hxv⟩ : ∃ v, xs[i]? = some v := ⟨xs[i]'(by omega), gG (by omega)⟩
  obtain ⟨x', ex, rx⟩ := r1.get hxv
  have exx : x' = x := by
   have : it1.toArray[i]? = some x := px
   rw [List.getElem?_toArray, ex] at this
   exact Option.some.inj this
  subst exx
  have lz : z < s.heap.objs.size := Heap.lt_size h1
  have keep : ∀ b u, b ∉ [z, i1] -> s.heap.get? b = some u -> h2'.get? b = some u := fun b u hb e => by
   simp only [List.mem_cons, nN_, or_false, not_or] at hb
   exact (sb.2 b hb.1).trans (kp b u hb.1 hb.2 e)
  have I2 : Inv X pins Z (upd H s.heap.objs.size (.tup [.int i, xv])) { s with heap := h2', toks := tk + 1 } :=
   qen I keep hf (Nat.le_refl _) ⟨by show 2 <= sizeLine; decide, [.int i tk, x'], .cons ⟨tk, rfl⟩ (.cons rx .nil), ⟨_, (sb.2 _ (Nat.ne_of_gt lz)).trans new, rfl, _, rfl⟩⟩
  refine ⟨.ref s.heap.objs.size, upd H s.heap.objs.size (.tup [.int i, xv]), I2, rfl, ⟨s.heap.objs.size, xv, I.hok.fresh (Nat.le_refl _), hxv, rfl, rfl⟩, ?_, fun b hb => ?_⟩
  ·exact ⟨⟨_, by simpa using zz2⟩, u1.1.at fun o e => (sb.2 i1 zi.symm).trans e⟩
  ·have hb1 : b ≠ s.heap.objs.size := by
    simp only [List.mem_cons, nN_, or_false] at hb
    obtain ⟨o4, g4, _⟩ := h4
    rcases hb with rfl | rfl
    ·exact Nat.ne_of_lt (Heap.lt_size h1)
    ·exact Nat.ne_of_lt (Heap.lt_size g4)
   rw [qj hb1]
   exact (hf b hb).1
 done := by
  intro X hP hw hK hc i pins s Z H E I hf st hg
  subst hP hw hK
  obtain ⟨hlt, hx⟩ := hg
  obtain ⟨⟨old, h1⟩, h4⟩ := st
  obtain ⟨it1, r1, p1, z1⟩ := I.tuple hx
  have hh : X.A.in1.handled = none := I.ok.hd hc
  have e : i = it1.toArray.size := by rw [sT_, <- r1.length]; exact hlt
  subst e
  refine wpAny_pyNext_enum_endD (ue hh i1 a1 n1 it1.toArray) h1 ⟨h4, p1⟩ fun h' kp => ⟨rfl, qeo (t' := s.toks) I (fun b u hb e => ?_) hf⟩
  simp only [List.mem_cons, nN_, or_false, not_or] at hb
  exact kp b u hb.2 e
 self := fun A i s Q E st h => by
  obtain ⟨⟨old, h1⟩, _⟩ := st
  exact wpAny_pyIter_enum h1 h
section
variable {X : Cx} {c : Fc} {a b e : Expr} {pos : Pos} {es : List Expr} {kk : Nat} {tp : Pos}
def qll (K : Fr0) (ta : TA) : TI := fun Z H R => ta Z H fun vs H1 => ∃ a1 xs, vs = [.ref a1] /\ SqT K H1 a1 xs /\ R (Ite K a1 xs) H1
theorem qh0 {ta : TA} {p : Pos} (hg : Gl X "enumerate") (hm : X.mg "enumerate" = none) (ha : PA X [a] ta) (hs : starEach [a] X.env = [(false, eval a X.env)] := by rfl) :
  PI X (.Tuple es kk tp) (.Call (.Name "enumerate" p) [a] [] pos) (qll X.K ta) := by
 intro pins s Z H R I h
 refine Call_ (vP I hg hm PyProof.Rows.boot_enumerate (PyProof.Rows.callWith_type1 (thn (ha pos pins s Z H _ I h) fun us s1 ⟨vs, H1, I1, r1, q1⟩ => ?_) (by rw [hs]; rfl) (by rfl)))
 obtain ⟨a1, xs, e1, hx, q⟩ := q1
 subst e1
 obtain ⟨u1, rfl, ru1⟩ := qN.one r1
 cases (show u1 = Value.ref a1 from ru1)
 obtain ⟨it1, v1, p1, z1⟩ := I1.tuple hx
 refine qeB (show s1.heap.IsTuple a1 it1.toArray from p1) fun h' zz g1 kp => ?_
 refine wpAny_pyIter_enum zz ?_
 have la1 : a1 < s1.heap.objs.size := by obtain ⟨o, e, _⟩ := p1; exact Heap.lt_size e
 refine ⟨s1.heap.objs.size + 1, [s1.heap.objs.size + 1, s1.heap.objs.size], _, _, H1, rfl, I1.kept (t' := s1.toks) kp, qeC (xs := xs) (Nat.succ_ne_self _) (Nat.ne_of_gt (Nat.lt_succ_of_lt la1)) (Nat.ne_of_lt la1), ⟨⟨_, zz⟩, g1⟩, fun b hb => ?_, q⟩
 simp only [List.mem_cons, nN_, or_false] at hb
 have hb2 : s1.heap.objs.size <= b := by
  rcases hb with e | e <;> rw [e]
  ·exact Nat.le_add_right _ _
  ·exact Nat.le_refl _
 exact I1.fpOk hb2 (I1.hok.fresh hb2)
def uz (k : Nat) : List D -> List D
 | [] => []
 | x :: xs => .tup [.int (k : Nat), x] :: uz (k + 1) xs
theorem wv : ∀ (k : Nat) (xs : List D), (uz k xs).length = xs.length
 | _, [] => rfl
 | k, x :: xs => by simp [uz, wv (k + 1) xs]
theorem qbv : ∀ {xs : List D} {k i : Nat} {d : D}, (uz k xs)[i]? = some d -> ∃ x, xs[i]? = some x /\ d = .tup [.int ((k + i : Nat) : Int), x]
 | [], _, _, _, h => by simp [uz] at h
 | x :: xs, k, 0, d, h => by
  have : D.tup [.int (k : Nat), x] = d := by simpa [uz] using h
  exact ⟨x, rfl, this.symm⟩
 | x :: xs, k, i + 1, d, h => by
  obtain ⟨y, h1, h2⟩ := qbv (xs := xs) (k := k + 1) (i := i) (d := d) (by simpa [uz] using h)
  exact ⟨y, by simpa using h1, by rw [h2]; congr 4; omega⟩
theorem qh1 {K : Fr0} {A : Addr -> Prop} {H : Hp} {ds : List D} {xs : List V} {a1 : Addr} (t1 : ul K H a1 xs) (i1 : IsL K A H ds xs) : qfO K A H (uz 0 ds) (Ite K a1 xs) where
 go := fun H' i d ex hd => by
  have hl : i < (uz 0 ds).length := (gI_.mp hd).1
  rw [wv, <- i1.length] at hl
  exact ⟨hl, (t1.elim (fun h => .inl (ex.tup _ _ h)) .inr : ul K H' a1 xs).sq⟩
 yl := fun H' i d x H'' ex hd y => by
  obtain ⟨p, u, hp, hu, rfl, rfl⟩ := y
  obtain ⟨dx, h1, rfl⟩ := qbv hd
  obtain ⟨u', g1, g2⟩ := i1.get h1
  rw [hu] at g1
  cases g1
  have sm := qs hp (.tup [.int i, u])
  exact ⟨sm, p, [.int i, u], rfl, .inl qo, .int i, [u], rfl, by rw [Nat.zero_add]; rfl, u, [], rfl, Is.ext (Ext.of_same sm) (fun _ h _ => h) (Is.ext ex (fun _ h _ => h) g2), rfl⟩
 stop := fun H' ex => ⟨by rw [wv, i1.length], (t1.elim (fun h => .inl (ex.tup _ _ h)) .inr : ul K H' a1 xs).sq⟩
def qeD : List D -> Option (List D)
 | [.tup xs] => some (uz 0 xs)
 | _ => none
def qeE (f : M (List D)) : M (List D) := bnd f fun ds => lift (qeD ds)
theorem qh2 {f : M (List D)} {p : Pos} (hg : Gl X "enumerate") (hm : X.mg "enumerate" = none) (ha : DA X c [a] f) (hs : starEach [a] X.env = [(false, eval a X.env)] := by rfl) :
  DI X c (.Tuple es kk tp) (.Call (.Name "enumerate" p) [a] [] pos) (qeE f) := by
 obtain ⟨t, pa, w⟩ := ha
 refine ⟨_, qh0 hg hm pa hs, fun ρ Z H Q r h => w ρ Z H _ r (WpL.bndI h fun ds ρ1 vs H1 r1 i1 g1 h1 => ?_)⟩
 obtain ⟨es', e, h2⟩ := vK h1
 unfold qeD at e
 split at e
 ·obtain ⟨v, rfl, j1⟩ := IsL.inv1 i1
  cases e
  obtain ⟨a1, xs, rfl, t1, il1⟩ := Is.tr j1
  exact ⟨a1, xs, rfl, t1.sq, h2 _ H1 r1 (qh1 t1 il1) .refl⟩
 ·cases e
end
def vD : D -> V
 | .bl b => .bl b
 | .int i => .int i
 | .str x => .str x
 | _ => .non
def flD : D -> Bool
 | .non => true
 | .bl _ => true
 | .int _ => true
 | .str _ => true
 | _ => false
def sqD : D -> Option (List D)
 | .tup ds => some ds
 | .lst ds => some ds
 | _ => none
def inD (x y : D) : Option D := match sqD y with
 | some ds => if flD x && ds.all flD then some (.bl (ds.any fun d => eqV (vD d) (vD x))) else none
 | none => none
theorem qcb {l : M (List D)} {ρ : Env} : qeE l ρ = match l ρ with | .ok (d, ρ1) => (match qeD d with | some ds => .ok (ds, ρ1) | none => .bad) | .exc x ρ' => .exc x ρ' | .bad => .bad := by
 simp only [qeE, bnd]
 cases l ρ with
 | ok z => obtain ⟨z1, ρ1⟩ := z; (dsimp only; cases qeD z1 <;> rfl)
 | exc x ρ' => rfl
 | bad => rfl
section
variable {X : Cx} {tg iter elt : Expr} {ifs : List Expr} {scope : Scope} {pos : Pos} {wi : TI} {N' : List Str} {nt : Nat} {fr : List Nat}
theorem qh3 {i : Nat} {x : Str} {pos' spos : Pos} (hN : X.N.Nodup) (hix : X.N[i]? = some x) (hx : Loc X.env.scope x) (hfx : X.fn x = true \/ X.env.scope.names.lookup x = some .local) (hc : X.calm = true) (hi : PI X tg iter wi) (S : CompScope X scope N' nt fr)
  (hsw : swapsWith (.ListComp elt [⟨tg, iter, ifs, 0⟩] scope pos) (some (.Name x pos')) spos.line X.env = pure true)
  (hs : ∀ x, foldedSetIterable iter X.env x = pure x := by intro _; rfl) : PS X (.Assign [.Name x pos'] (.ListComp elt [⟨tg, iter, ifs, 0⟩] scope pos) spos) (fun D Z H => qhI X tg ifs elt scope N' wi nt fr Z H fun v H' => D.nx (Z.set i (some v)) H') := by
 intro pins s Z H D I hw
 obtain ⟨cl, hcl, cl1, cl2⟩ := closureFor_ok (env := X.env) (scope := scope) (fun y hy hf => I.ok.has y.1 (.inl (S.frees y hy hf)))
 rw [exec_Assign_Name_used _ _ _ _ hsw]
 refine wpAny_bind (wpAny_standAt (wpAny_bind ?_))
 show wpAny (model X.prog X.w) X.A (comprehension (.ListComp elt [⟨tg, iter, ifs, 0⟩] scope pos) scope X.env _ (newList []) false (eval iter X.env) (some (assign (.Name x pos') X.env)) >>= fun _ => pure ()) _ _ s
 refine wpAny_bind (thn (Q := fun _ s' => SP X pins D .next s') ?_ fun _ s' q => wpAny_pure (wpAny_pure q))
 refine wpAny_comprehension_free (use := some (assign (.Name x pos') X.env)) rfl hs hcl S.kind S.names (thn (hi pins s Z H _ I hw) fun v s1 h1 => thn h1 fun itv s2 h2 => ?_)
 obtain ⟨it, fp, tn, J, H2, e, I2, T, st2, f2, hR⟩ := h2
 subst e
 have hacc : H2 s2.heap.objs.size = none := I2.hok.fresh (Nat.le_refl _)
 refine wpAny_newObj_type (wpAny_newFunctionEnv S.nocell (by intro y hy; simp at hy) (fun h₁ hns₁ hsb₁ => ?_) S.kind)
 dsimp only at hns₁ hsb₁ |-
 have I3 : Inv X pins Z (upd H2 s2.heap.objs.size (.lst [])) { s2 with heap := s2.heap.push { cls := .type "list", dict := none, data := .seq ([] : List Value).toArray } } :=
  I2.lnew (t' := s2.toks) (its := []) .nil (Nat.zero_le _)
 generalize hs3 : ({ s2 with heap := s2.heap.push { cls := .type "list", dict := none, data := .seq ([] : List Value).toArray } } : Shared) = s3 at I3
 have hh3 : s2.heap.push { cls := .type "list", dict := none, data := .seq ([] : List Value).toArray } = s3.heap := by rw [<- hs3]
 rw [hh3] at hns₁ hsb₁
 have old : ∀ b o, s3.heap.get? b = some o -> h₁.get? b = some o := fun b o q => hsb₁.extBut b o (Nat.ne_of_lt (Heap.lt_size q)) (Heap.get?_push_of_some _ q)
 have objs2 : ∀ b ∈ fp, ∃ o, s2.heap.get? b = some o := fun b hb => by
  obtain ⟨o, q, _⟩ := T.obj 0 _ st2 b hb
  exact ⟨o, q⟩
 have keep23 : ∀ b o, s2.heap.get? b = some o -> s3.heap.get? b = some o := fun b o q => by rw [<- hh3]; exact Heap.get?_push_of_some _ q
 have fpne : ∀ b ∈ fp, b ≠ s2.heap.objs.size := fun b hb => by
  obtain ⟨o, q⟩ := objs2 b hb
  exact Nat.ne_of_lt (Heap.lt_size q)
 have f3 : ∀ b ∈ fp, qbV X pins (upd H2 s2.heap.objs.size (.lst [])) b := fun b hb => ⟨by rw [qj (fpne b hb)]; exact (f2 b hb).1, (f2 b hb).2⟩
 have J0 : Inv (zf X scope N' fp cl s3.heap.objs.size s3 (upd H2 s2.heap.objs.size (.lst [])) (X.pn ++ pins)) [] (qC nt fr Z) (upd H2 s2.heap.objs.size (.lst [])) { s3 with heap := h₁, toks := s3.toks } :=
  qah S I3 f3 (fun b hb => (objs2 b hb).imp fun o q => keep23 b o q) cl1 cl2 ⟨_, hns₁⟩ old
 obtain ⟨g, tt, te, hg, hf, he, W, ⟨m0, w0⟩, turn⟩ := hR s2.heap.objs.size fp cl s3.heap.objs.size s3 (upd H2 s2.heap.objs.size (.lst [])) (X.pn ++ pins) hacc
 have T0 : tn 0 h₁ := T.keep 0 _ _ st2 fun b hb o q => old b o (keep23 b o q)
 have s3e : ∀ tk : Nat, ({ s2 with heap := h₁, toks := tk } : Shared) = { s3 with heap := h₁, toks := tk } := fun tk => by rw [<- hs3]
 have loop : ∀ tk : Nat, codeAny (model X.prog X.w) X.A (.compLoop (.ListComp elt [⟨tg, iter, ifs, 0⟩] scope pos) 0 (.ref it) (.ref s2.heap.objs.size) (compEnvC scope cl s3.heap.objs.size X.env))
   (compPost (model X.prog X.w) X.A X.xe (some (assign (.Name x pos') X.env)) (fun _ s' => SP X pins D .next s') (.ref s2.heap.objs.size) s3.heap.objs.size) { s3 with heap := h₁, toks := tk } := fun tk => by
  have stat : ∀ {H' : Hp}, (∀ b ∈ fp, H' b = none) -> ∀ b ∈ fp, qbV (zf X scope N' fp cl s3.heap.objs.size s3 (upd H2 s2.heap.objs.size (.lst [])) (X.pn ++ pins)) [] H' b := fun {H'} hn b hb => by
   obtain ⟨o, q⟩ := objs2 b hb
   have hbC : b ≠ s3.heap.objs.size := Nat.ne_of_lt (Heap.lt_size (keep23 b o q))
   refine ⟨hn b hb, hbC, fun z => ?_, .inl hb, fun x c hx => (f2 b hb).2.2.2.2.1 x c (cl1 x c hx), fun p hp => ?_⟩
   ·rcases List.mem_cons.mp (I2.stkSub b z) with z | z
    ·exact (f2 b hb).2.1 z
    ·exact (f2 b hb).2.2.1 z
   ·have hp' : p ∈ X.pn ++ pins := by
     rcases mA_.mp (show p ∈ (X.pn ++ pins) ++ [] from hp) with z | z
     ·exact z
     ·cases z
    exact (f2 b hb).2.2.2.2.2 p hp'
  have fr0 : ∀ b ∈ fp, upd H2 s2.heap.objs.size (.lst []) b = none := fun b hb => (f3 b hb).1
  refine v4 (fun n s' => ∃ i Z' H', Inv (zf X scope N' fp cl s3.heap.objs.size s3 (upd H2 s2.heap.objs.size (.lst [])) (X.pn ++ pins)) [] Z' H' s' /\ tn i s'.heap /\ (∀ b ∈ fp, H' b = none) /\ W i n Z' H') ?_ m0
   ⟨0, qC nt fr Z, _, J0.tok tk, T0, fr0, w0⟩
  rintro n s4 ⟨i, Z4, H4, J4, st4, fr4, w4⟩
  rcases turn i n Z4 H4 w4 with ⟨stop, qn⟩ | ⟨go, step⟩
  ·refine thn (T.done (zf X scope N' fp cl s3.heap.objs.size s3 (upd H2 s2.heap.objs.size (.lst [])) (X.pn ++ pins)) rfl rfl rfl hc i [] s4 Z4 H4 _ J4 (stat fr4) st4 stop) fun r s5 ⟨hr, J5⟩ => ?_
   subst hr
   obtain ⟨m5, n5, _⟩ := J5.loc
   have I5 : Inv X pins Z H4 s5 := qcC I3 f3 J5 (Heap.SameBut.refl ..)
   have lC : X.env.locals ≠ s3.heap.objs.size := Nat.ne_of_lt I3.lt
   have cC : ∀ y c, X.env.cells.lookup y = some c -> c ≠ s3.heap.objs.size := fun y c hy => by
    obtain ⟨v, o, ho, _⟩ := I3.cell y c hy
    exact Nat.ne_of_lt (Heap.lt_size ho)
   have pC : ∀ p ∈ X.pn ++ pins, p.1 ≠ s3.heap.objs.size := fun p hp => Nat.ne_of_lt (Heap.lt_size (I3.pin p hp).1)
   refine wpAny_assign_Name (qa9 (v := .ref s2.heap.objs.size) I5 hN hix hx rfl (fun s'' I6 ⟨a, sb, ha⟩ => ?_) hfx)
   have aC : s3.heap.objs.size ≠ a := by
    rcases ha with rfl | ha
    ·exact lC.symm
    ·exact (cC _ _ ha).symm
   exact ⟨m5, n5.sameBut sb aC, fun h' sb' => ⟨_, H4, I6.turned (t' := s''.toks) (fun b o hb q => (sb'.2 b hb).trans q) J5.free lC.symm (.inr I3.sz) cC pC, qn⟩⟩
  ·refine thn (T.item (zf X scope N' fp cl s3.heap.objs.size s3 (upd H2 s2.heap.objs.size (.lst [])) (X.pn ++ pins)) rfl rfl rfl hc i [] s4 Z4 H4 _ J4 (stat fr4) st4 go) fun r s5 ⟨u, hr, h5⟩ => ?_
   subst hr
   refine thn h5 fun _ s6 ⟨x, H6, J6, r6, y6, st6, fr6⟩ => ?_
   have J6' := J6.pinned (stat fr6) (T.obj _ _ st6)
   have again : ∀ {Z7 : St} {H7 : Hp} {s7 : Shared}, Inv (zf X scope N' fp cl s3.heap.objs.size s3 (upd H2 s2.heap.objs.size (.lst [])) (X.pn ++ pins)) ([] ++ w5 fp s6.heap) Z7 H7 s7 -> (∃ m', m' < n /\ W (i + 1) m' Z7 H7) ->
     ∃ m, m < n /\ ∃ i Z' H', Inv (zf X scope N' fp cl s3.heap.objs.size s3 (upd H2 s2.heap.objs.size (.lst [])) (X.pn ++ pins)) [] Z' H' s7 /\ tn i s7.heap /\ (∀ b ∈ fp, H' b = none) /\ W i m Z' H' := fun {Z7 H7 s7} I7 hm => by
    obtain ⟨m', hm, w7⟩ := hm
    refine ⟨m', hm, i + 1, Z7, H7, I7.unpinned, T.keep _ _ _ st6 fun b hb o q => (I7.pin (b, o) (mr_ _ (mr_ _ (jI hb q)))).1, fun b hb => ?_, w7⟩
    obtain ⟨o, q, d⟩ := T.obj _ _ st6 b hb
    exact (I7.pin (b, o) (mr_ _ (mr_ _ (jI hb q)))).2.1
   refine thn (hg _ s6 Z4 H6 x u _ J6' r6 (step x H6 y6)) fun _ s7 ⟨Z7, H7, J7, q7⟩ => ?_
   refine thn (hf _ s7 Z7 H7 _ J7 q7) fun ok s8 ⟨H8, J8, q8⟩ => ?_
   cases ok with
   | false =>
    rw [if_neg Bool.false_ne_true] at q8 |-
    exact again J8 q8
   | true =>
    rw [if_pos rfl] at q8 |-
    refine thn (he _ s8 Z7 H8 _ J8 q8) fun z s9 ⟨y, H9, J9, r9, ys, hys, hz, hm⟩ => ?_
    refine thn (vT _ s9 Z7 H9 (.ref s2.heap.objs.size) [y] (.ref s2.heap.objs.size) [z] (fun _ H' => H' = upd H9 s2.heap.objs.size (.lst (ys ++ [y]))) J9 rfl (.cons r9 .nil) ⟨_, ys, y, rfl, rfl, hys, hz, rfl⟩) fun _ s10 ⟨_, H10, J10, _, e10⟩ => ?_
    subst e10
    exact again J10 hm
 have zx : ∀ tk : Nat, codeAny (model X.prog X.w) X.A (.compStart (.ListComp elt [⟨tg, iter, ifs, 0⟩] scope pos) 0 (.ref it) (.ref s2.heap.objs.size) (compEnvC scope cl s3.heap.objs.size X.env))
   (compPost (model X.prog X.w) X.A X.xe (some (assign (.Name x pos') X.env)) (fun _ s' => SP X pins D .next s') (.ref s2.heap.objs.size) s3.heap.objs.size) { s3 with heap := h₁, toks := tk } := fun tk =>
  codeAny_compStart_list (loop tk) (T.self X.A 0 _ _ _ T0 (loop tk))
 have fin := zx (s2.toks + ([] : List (Str × Value)).length)
 rw [<- s3e] at fin
 rw [<- hh3] at fin
 rw [hh3] at fin |-
 exact fin
end
section
variable {X : Cx} {c : Fc}
def DC (X : Cx) (c : Fc) (tg it elt : Expr) (ifs : List Expr) (scope : Scope) (N' : List Str) (nt : Nat) (fr : List Nat) (f : M D) : Prop := ∃ wi, PI X tg it wi /\ ∀ ρ Z H Q, Rep X.K c ρ Z H -> Wp X.K c Z H Q (f ρ) -> qhI X tg ifs elt scope N' wi nt fr Z H Q
theorem qeF {it elt tg : Expr} {ifs : List Expr} {scope : Scope} {N' : List Str} {nt : Nat} {fr : List Nat} {fo : Option (Nat × Nat)} {f : M (List D)} {g : D -> Env -> Option Env} {t : M Bool} {k : M D} (hc : X.calm = true) (hi : DI X c tg it f) (S : CompScope X scope N' nt fr)
  (hfo : qhK c nt fr fo)
  (hb : ∀ fp cl C s₀ H₀ pn B0 H1 Io' acc S', DG (zf X scope N' fp cl C s₀ H₀ pn) (cin B0 H1 (foO fo) Io' acc S') tg g /\ DF (zf X scope N' fp cl C s₀ H₀ pn) (cin B0 H1 (foO fo) Io' acc S') ifs t /\ DE (zf X scope N' fp cl C s₀ H₀ pn) (cin B0 H1 (foO fo) Io' acc S') elt k)
  : DC X c tg it elt ifs scope N' nt fr (yE nt fr fo f g t k) := by
 obtain ⟨wi, pi, wI⟩ := hi
 refine ⟨wi, pi, fun ρ Z H Q r h => wI ρ Z H _ r (WpI.bnd h fun ds ρ1 J H1 r1 iok g1 h1 => ?_)⟩
 intro acc fp cl C s₀ H₀ pn hn
 obtain ⟨⟨tg', pg, wg⟩, ⟨tt, pt, wt⟩, ⟨te, pe, we⟩⟩ := hb fp cl C s₀ H₀ pn (Cn c Z) H1 (qa8 Z fo) acc fun j => (qC nt fr Z)[j]?
 refine ⟨tg', tt, te, pg, pt, pe, ?_⟩
 cases ew : zb g t k ds [] (jC nt fr ρ1) with
 | exc x ρ' => rw [ew] at h1; exact h1.elim
 | bad => rw [ew] at h1; exact h1.elim
 | ok p =>
  rw [ew] at h1
  obtain ⟨ys, ρe⟩ := p
  have h1 : ∀ v H', Rep X.K c (qiO fo ρe ρ1) Z H' -> Is X.K (Cn c Z) H' (.lst ys) v -> Gr c.O Z H1 H' -> Q v H' := h1
  have accO : ∀ j ∈ foO fo, (qC nt fr Z)[j]? ≠ some (some (.ref acc)) := fun j hj e => by
   have r0 := r1.entry (acc := acc) hn hfo
   cases fo with
   | none => cases hj
   | some p =>
    obtain ⟨i', j'⟩ := p
    have e2 : j = i' := by simpa [foO] using hj
    subst e2
    obtain ⟨k2, j2, e1, e2, e3⟩ := jJ e
    have hk2 : k2 = j - nt := by omega
    subst hk2
    rw [hfo.2.2.1] at e2
    cases e2
    obtain ⟨a, us, e4, e5, _⟩ := r1.own j' hfo.1 _ e3
    cases e4; rw [hn] at e5; cases e5
  refine ⟨fun i m Z' H' => m = ds.length - i /\ i <= ds.length /\ ∃ ρ' zs xs, Rep X.K (cin (Cn c Z) H1 (foO fo) (qa8 Z fo) acc fun j => (qC nt fr Z)[j]?) ρ' Z' H' /\ (∀ j ∈ foO fo, Z'[j]? = (qC nt fr Z)[j]?) /\ H' acc = some (.lst xs) /\ IsL X.K (Cn (cin (Cn c Z) H1 (foO fo) (qa8 Z fo) acc fun j => (qC nt fr Z)[j]?) Z') H' zs xs /\ zb g t k (ds.drop i) zs ρ' = .ok (ys, ρe),
   ⟨ds.length, by simp, Nat.zero_le _, jC nt fr ρ1, [], [], r1.entry hn hfo, fun _ _ => rfl, qo, rfl, by simpa using ew⟩, ?_⟩
  rintro i m Z' H' ⟨rfl, hi, ρ', zs, xs, r', so, ha, iz, w⟩
  obtain ⟨_, gr⟩ := r1.leave hn hfo (fun i j e => so i (by rw [e]; simp [foO])) r'
  have ex : Ext (CnT c Z H1) H1 H' := ⟨gr.ext.tup, gr.ext.frz, fun b o hb hq => gr.ext.at_ b o hb.1.2 hq⟩
  have accC : ∀ τ : St, (∀ j ∈ foO fo, τ[j]? = (qC nt fr Z)[j]?) -> Cl (foO fo) τ acc := fun τ hτ j hj e => accO j hj (by rw [<- hτ j hj]; exact e)
  by_cases hlt : i < ds.length
  ·refine .inr ⟨iok.go H' i ds[i] ex (by simp [hlt]), fun x H'' y => ?_⟩
   obtain ⟨sm, ix⟩ := iok.yl H' i ds[i] x H'' ex (by simp [hlt]) y
   rw [vb hlt] at w
   unfold zb at w
   have ix2 : Is X.K (Cn (cin (Cn c Z) H1 (foO fo) (qa8 Z fo) acc fun j => (qC nt fr Z)[j]?) Z') H'' ds[i] x := Is.ext Ext.refl (fun a ha _ => ⟨⟨ha.1, fun e => by
    have := ha.2
    rw [e, hn] at this; cases this⟩, fun j hj e => by
     rw [so j hj] at e
     cases fo with
     | none => cases hj
     | some p =>
      obtain ⟨i', j'⟩ := p
      have e2 : j = i' := by simpa [foO, cin] using hj
      subst e2
      obtain ⟨k2, j2, e1, e2, e3⟩ := jJ e
      have hk2 : k2 = j - nt := by omega
      subst hk2
      rw [hfo.2.2.1] at e2
      cases e2
      exact ha.1.2 j' hfo.1 e3⟩) ix
   cases e1 : g ds[i] ρ' with
   | none => simp only [e1] at w; cases w
   | some ρ2 =>
    simp only [e1] at w
    refine wg ρ' Z' H'' ds[i] x ρ2 _ (r'.same sm) ix2 e1 fun Z2 r2 g2 o2 => ?_
    have so2 : ∀ j ∈ foO fo, Z2[j]? = (qC nt fr Z)[j]? := fun j hj => (o2 j hj).trans (so j hj)
    have ha2 : H'' acc = some (.lst xs) := sm _ _ ha
    have iz2 := g2.isL (IsL.ext (Ext.of_same sm) (fun _ h _ => h) iz)
    cases e2 : t ρ2 with
    | exc x ρ3 => simp only [e2] at w; cases w
    | bad => simp only [e2] at w; cases w
    | ok p2 =>
     obtain ⟨bb, ρ3⟩ := p2
     refine wt ρ2 Z2 H'' _ r2 ?_
     rw [e2]
     intro H3 r3 g3
     have ha3 : H3 acc = some (.lst xs) := g3.ext.at_ _ _ (accC Z2 so2) ha2
     have iz3 := g3.isL iz2
     cases bb with
     | false =>
      rw [if_neg Bool.false_ne_true]
      simp only [e2] at w
      exact ⟨ds.length - (i + 1), by omega, rfl, hlt, ρ3, zs, xs, r3, so2, ha3, iz3, w⟩
     | true =>
      rw [if_pos rfl]
      simp only [e2] at w
      cases e3 : k ρ3 with
      | exc x ρ4 => simp only [e3] at w; cases w
      | bad => simp only [e3] at w; cases w
      | ok p3 =>
       obtain ⟨d4, ρ4⟩ := p3
       simp only [e3] at w
       refine we ρ3 Z2 H3 _ r3 ?_
       rw [e3]
       intro y4 H4 r4 i4 g4
       have ha4 : H4 acc = some (.lst xs) := g4.ext.at_ _ _ (accC Z2 so2) ha3
       have hsz : qI (zs.length + 1) = true := by
        cases e5 : qI (zs.length + 1) with
        | true => rfl
        | false => rw [e5] at w; simp at w
       rw [if_pos hsz] at w
       have hsz' : zs.length + 1 <= sizeLine := of_decide_eq_true hsz
       have r5 := r4.grow (ys := xs ++ [y4]) ha4 (fun j hj e => accC Z2 so2 j hj e)
       have ext5 : Ext (Cn (cin (Cn c Z) H1 (foO fo) (qa8 Z fo) acc fun j => (qC nt fr Z)[j]?) Z2) H4 (upd H4 acc (.lst (xs ++ [y4]))) := ⟨fun b us hb => by rw [qj (vw hb ha4 (by intro z; cases z))]; exact hb, fun b o u hb => by rw [qj (vw hb ha4 (by intro z; cases z))]; exact hb, fun b o hb hq => by rw [qj hb.1.2]; exact hq⟩
       refine ⟨xs, ha4, by rw [iz3.length]; omega, ds.length - (i + 1), by omega, rfl, hlt, ρ4, zs ++ [d4], xs ++ [y4], r5, so2, qo, ?_, w⟩
       exact IsL.append (IsL.ext ext5 (fun _ h _ => h) (g4.isL iz3)) (IsL.one (Is.ext ext5 (fun _ h _ => h) i4))
  ·have hie : i = ds.length := by omega
   subst hie
   rw [List.drop_of_length_le (Nat.le_refl _)] at w
   unfold zb at w
   cases w
   obtain ⟨r6, g6⟩ := r1.leave hn hfo (fun i j e => so i (by rw [e]; simp [foO])) r'
   exact .inl ⟨iok.stop H' ex, h1 _ H' r6 ⟨acc, xs, rfl, r1.new hn, ha, IsL.ext Ext.refl (fun a ha hs => ha.1.1) iz⟩ g6⟩
theorem qeG {i : Nat} {x : Str} {pos' spos pos : Pos} {tg it elt : Expr} {ifs : List Expr} {scope : Scope} {N' : List Str} {nt : Nat} {fr : List Nat} {f : M D} (hN : X.N.Nodup) (h : DC X c tg it elt ifs scope N' nt fr f) (hc : X.calm = true) (S : CompScope X scope N' nt fr)
  (ho : i ∉ c.O := by exact of_decide_eq_false rfl) (hix : X.N[i]? = some x := by rfl) (hx : Loc X.env.scope x := by first | exact Or.inl rfl | exact Or.inr rfl) (hfx : X.fn x = true \/ X.env.scope.names.lookup x = some .local := by first | exact .inl rfl | exact .inr rfl | assumption)
  (hsw : swapsWith (.ListComp elt [⟨tg, it, ifs, 0⟩] scope pos) (some (.Name x pos')) spos.line X.env = pure true := by rfl) (hs : ∀ x, foldedSetIterable it X.env x = pure x := by intro _; rfl) :
  DS X c (.Assign [.Name x pos'] (.ListComp elt [⟨tg, it, ifs, 0⟩] scope pos) spos) (zY i f) := by
 obtain ⟨wi, pi, w⟩ := h
 refine ⟨_, qh3 hN hix hx hfx hc pi S hsw hs, fun ρ Z H D r h => w ρ Z H _ r (Wp.sbnd h fun d ρ1 v H1 r1 i1 g1 h1 => ?_)⟩
 exact h1 _ H1 (r1.set ho i1) (.set ho)
end
def qeH : List Int -> Int
 | [] => 0
 | [n] => n
 | n :: m :: ns => max n (qeH (m :: ns))
theorem qcL : ∀ (n : Int) (ns : List Int), qeH (n :: ns) ∈ n :: ns
 | n, [] => mS_
 | n, m :: ns => by
  have h := qcL m ns
  show max n (qeH (m :: ns)) ∈ _
  rw [Int.max_def]
  split
  ·exact mM _ h
  ·exact mS_
theorem qeI : ∀ (n : Int) (ns : List Int), ∀ k ∈ n :: ns, k <= qeH (n :: ns)
 | n, [] => fun k hk => by
  have : k = n := by simpa using hk
  rw [this]; exact Int.le_refl _
 | n, m :: ns => fun k hk => by
  have h := qeI m ns
  show k <= max n (qeH (m :: ns))
  rcases List.mem_cons.mp hk with rfl | hk
  ·exact Int.le_max_left ..
  ·exact Int.le_trans (h k hk) (Int.le_max_right ..)
theorem qh4 {ns : List Int} {z : Int} (h1 : z ∈ ns) (h2 : ∀ n ∈ ns, n <= z) : qeH ns = z := by
 cases ns with
 | nil => cases h1
 | cons n ns => exact Int.le_antisymm (h2 _ (qcL n ns)) (qeI n ns z h1)
theorem qbw {zs : Array (Int × Tok)} {i : Nat} (h : i < zs.size) : (zs.toList.map (·.1))[i]? = some (numAt zs i) := by
 have h' : i < zs.toList.length := by simpa using h
 rw [gM_, gG h']
 simp [numAt, h]
section
variable {X : Cx}
theorem qeJ (hc : X.calm = true) : yC X (.builtin "max") (fun xs H Q => ∃ (p : Addr) (ns : List Int), xs = [.ref p] /\ H p = some (.lst (ns.map V.int)) /\ ns ≠ [] /\ Q (.int (qeH ns)) H) := by
 intro pins s Z H xs us Q I r h
 obtain ⟨p, ns, rfl, hp, hne, q⟩ := h
 obtain ⟨u, rfl, ru⟩ := qN.one r
 cases ru
 obtain ⟨its, rv, pl, hz⟩ := I.list (SqL.of hp)
 have hl := pl.isList
 have hi : IntsAre its ns := qdj rv
 obtain ⟨zs, hx⟩ := hi.allInts.items
 have hl' : s.heap.IsList p (intItems zs) := hx ▸ hl
 have e1 : ns = zs.toList.map (·.1) := by
  rw [<- nums_intItems, <- hx]
  exact (show numsOf its.toArray.toList = ns from hi.numsOf).symm
 have hsz : 0 < zs.size := by
  cases hzz : zs.toList with
  | nil => rw [hzz] at e1; exact absurd e1 hne
  | cons a b =>
   have : zs.size = zs.toList.length := by simp
   rw [this, hzz]; simp
 refine max_intList (I.ok.hd hc) hl' hsz fun v h' tk hv hk => ?_
 obtain ⟨t, rfl⟩ := intItems_at hv
 obtain ⟨b1, b2⟩ := argBest_gt (numAt zs) (zs.size - 1)
 have e2 : qeH ns = numAt zs (argBest (fun i j => decide (numAt zs i > numAt zs j)) (zs.size - 1)) := by
  refine qh4 ?_ fun n hn => ?_
  ·rw [e1]
   exact List.mem_of_getElem? (qbw (by omega))
  ·rw [e1] at hn
   obtain ⟨j, hj⟩ := List.mem_iff_getElem?.mp hn
   have hj2 : j < zs.size := by
    have := (gI_.mp hj).1
    simpa using this
   rw [qbw hj2] at hj
   cases hj
   exact b2 j (by omega)
 rw [<- e2]
 exact ⟨.int _, H, I.kept hk, ⟨_, rfl⟩, q⟩
end
def qeK : List D -> Option D
 | [.lst ds] => match vB ds with
  | some (n :: ns) => some (.int (qeH (n :: ns)))
  | _ => none
 | _ => none
theorem qdv {K : Fr0} : qay K qeK (fun xs H Q => ∃ (p : Addr) (ns : List Int), xs = [.ref p] /\ H p = some (.lst (ns.map V.int)) /\ ns ≠ [] /\ Q (.int (qeH ns)) H) := by
 intro A H xs d vs Q hn h e k
 unfold qeK at e
 split at e
 ·obtain ⟨v, rfl, a, zs, rfl, _, ta, il⟩ := IsL.inv1 h
  split at e
  ·rename_i n ns hi
   cases e
   rw [qag il hi] at ta
   exact ⟨a, n :: ns, rfl, ta, by simp, k _ H (zX.refl H) rfl⟩
  ·cases e
 ·cases e
def yg (t : M Bool) (b : MS) : Nat -> MS
 | 0, _ => .bad
 | n + 1, ρ => match t ρ with
  | .ok (true, ρ1) => match b ρ1 with
   | .ok (.nx ρ2) => yg t b n ρ2
   | .ok (.ct ρ2) => yg t b n ρ2
   | .ok (.bk ρ2) => .ok (.nx ρ2)
   | .ok (.rt d ρ2) => .ok (.rt d ρ2)
   | .exc x ρ2 => .exc x ρ2
   | .bad => .bad
  | .ok (false, ρ1) => .ok (.nx ρ1)
  | .exc x ρ1 => .exc x ρ1
  | .bad => .bad
open Classical in
noncomputable def uS (t : M Bool) (b : MS) : MS := fun ρ => if h : ∃ n, yg t b n ρ ≠ .bad then yg t b h.choose ρ else .bad
theorem uf {t : M Bool} {b : MS} : ∀ {n : Nat} {ρ : Env} (k : Nat), yg t b n ρ ≠ .bad -> yg t b (n + k) ρ = yg t b n ρ
 | 0, ρ, k, h => absurd rfl h
 | n + 1, ρ, k, h => by
  have e : n + 1 + k = (n + k) + 1 := by omega
  rw [e]
  unfold yg at h |-
  cases et : t ρ with
  | ok p =>
   obtain ⟨v, ρ1⟩ := p
   rw [et] at h
   cases v with
   | false => rfl
   | true =>
    dsimp only at h |-
    cases eb : b ρ1 with
    | ok fl =>
     rw [eb] at h
     cases fl with
     | nx ρ2 => exact uf k h
     | ct ρ2 => exact uf k h
     | bk ρ2 => rfl
     | rt d ρ2 => rfl
    | exc x ρ2 => rfl
    | bad => rfl
  | exc x ρ1 => rfl
  | bad => rfl
theorem qbx {t : M Bool} {b : MS} {n : Nat} {ρ : Env} {r : R Fl} (h : yg t b n ρ = r) (hb : r ≠ .bad) : uS t b ρ = r := by
 have hx : ∃ n, yg t b n ρ ≠ .bad := ⟨n, by rw [h]; exact hb⟩
 unfold uS
 rw [dif_pos hx]
 have hc := hx.choose_spec
 generalize hx.choose = m at hc
 rcases Nat.le_total m n with hl | hl
 ·obtain ⟨k, rfl⟩ := Nat.exists_eq_add_of_le hl
  rw [<- uf k hc]; exact h
 ·obtain ⟨k, rfl⟩ := Nat.exists_eq_add_of_le hl
  rw [uf k (by rw [h]; exact hb)]; exact h
theorem qdw {t : M Bool} {b : MS} {ρ : Env} : ∃ n, uS t b ρ = yg t b n ρ := by
 unfold uS
 split
 ·exact ⟨_, rfl⟩
 ·exact ⟨0, rfl⟩
section
variable {X : Cx} {c : Fc} {pos : Pos}
theorem qcM {e : Expr} {body : List Stmt} {t : M Bool} {b : MS} (hp : PassesOwn (model X.prog X.w) X.A X.env X.xe) (ht : DT X c e t) (hb : DSs X c body b) : DS X c (.While e body [] pos) (uS t b) := by
 obtain ⟨tc, pc, wc⟩ := ht
 obtain ⟨tb, pb, wb⟩ := hb
 refine ⟨_, qfs hp pc pb, fun ρ Z H D' r h => ?_⟩
 obtain ⟨n, en⟩ := qdw (t := t) (b := b) (ρ := ρ)
 rw [en] at h
 refine ⟨fun m Z' H' => ∃ ρ', Rep X.K c ρ' Z' H' /\ WpS X.K c Z' H' D' (yg t b m ρ'), ⟨n, ρ, r, h⟩, ?_⟩
 rintro m Z' H' ⟨ρ', r', w⟩
 cases m with
 | zero => exact w.elim
 | succ m =>
  unfold yg at w
  refine wc ρ' Z' H' _ r' ?_
  cases et : t ρ' with
  | bad => rw [et] at w; exact w
  | exc x ρ1 => rw [et] at w; exact fun H1 r1 g1 => w Z' H1 r1 g1.s
  | ok p =>
   obtain ⟨v, ρ1⟩ := p
   rw [et] at w
   intro H1 r1 g1
   cases v with
   | false =>
    rw [if_neg Bool.false_ne_true]
    exact w Z' H1 r1 g1.s
   | true =>
    rw [if_pos rfl]
    dsimp only at w
    refine ⟨fun Z2 H2 => ∃ ρ2, Rep X.K c ρ2 Z2 H2 /\ WpS X.K c Z2 H2 D' (yg t b m ρ2), fun Z2 H2 q => ⟨m, Nat.lt_succ_self m, q⟩, wb ρ1 Z' H1 _ r1 ?_⟩
    have w2 := w.gr g1.s
    cases e2 : b ρ1 with
    | ok fl =>
     cases fl with
     | nx ρ3 => simp only [e2] at w2; exact fun Z3 H3 r3 g3 => ⟨ρ3, r3, w2.gr g3⟩
     | ct ρ3 => simp only [e2] at w2; exact fun Z3 H3 r3 g3 => ⟨ρ3, r3, w2.gr g3⟩
     | bk ρ3 => simp only [e2] at w2; exact w2
     | rt d ρ3 => simp only [e2] at w2; exact w2
    | exc x ρ3 => simp only [e2] at w2; exact w2
    | bad => simp only [e2] at w2; exact w2
end
def qiR (K : Fr0) (a : Addr) (ns : List Int) : Prop := ∃ (o : Obj) (its : Array Value) (n : Nat), K.lookup a = some o /\ o.cls = .type "tuple" /\ o.data = .seq its n /\ its.size <= sizeLine /\ qN (ns.map V.int) its.toList
theorem qiR.is {K : Fr0} {a : Addr} {ns : List Int} (h : qiR K a ns) (H : Hp) (A : Addr -> Prop) : Is K A H (.tup (ns.map .int)) (.ref a) := ⟨a, _, rfl, .inr h, qaC ns⟩
theorem qfW {X : Cx} {c : Fc} {x : Str} {a : Addr} {ns : List Int} {pos : Pos} (hg : Gl X x) (hm : X.mg x = some (.ref a)) (ht : qiR X.K a ns) (hdb : (x == ("__debug__" : Str)) = false := by decide) : DE X c (.Name x pos) (ret (.tup (ns.map .int))) :=
 qd7 (v := .ref a) hg hm rfl (fun H A => ht.is H A) hdb
theorem qlm {K : Fr0} {a : Addr} {od : Option Addr} {its : Array Value} {n : Nat} {sl : Array (Option Value)} {i j : Int} {t u : Tok} (h : K.lookup a = some ⟨.type "tuple", od, .seq its n, sl⟩) (e : its.toList = [.int i t, .int j u]) : qiR K a [i, j] :=
 ⟨_, its, n, h, rfl, rfl, by
  have : its.size = 2 := by rw [<- Array.length_toList, e]; rfl
  rw [this]; decide, by rw [e]; exact .cons ⟨t, rfl⟩ (.cons ⟨u, rfl⟩ .nil)⟩
def qln (h : Heap) (e T : Addr) (cls : Value) : Prop :=
 ∃ oe vs oT ts a0, h.get? e = some oe /\ (oe.cls = cls /\ vs[2]? = some .none /\ vs[0]? = some a0) /\ oe.data = .fields vs /\ vs[1]? = some (.ref T) /\ T ≠ e /\ h.get? T = some oT /\ oT.data = .fields ts /\ ts[3]? = some .none
def CX1 (P : Program) (w : World) : CXT := fun outer H s E u s' => ∃ e T C H', u = .ref e /\ s'.os = s.os /\ AllBare s'.gens /\ Un (frs outer) [] H H' s.heap s'.heap /\ HOk P w H' s'.heap /\
 s.heap.get? e = none /\ s.heap.get? T = none /\ H' e = none /\ H' T = none /\ qln s'.heap e T (.ref C) /\ E (.ref C) none H'
structure Lft (h h' : Heap) (ch fs : List Addr) : Prop where
 keep : ∀ b o, b ∉ ch -> b ∉ fs -> h.get? b = some o -> h'.get? b = some o
 slot : ∀ b o, b ∈ fs -> h.get? b = some o -> ∃ sl, h'.get? b = some { o with slots := sl }
section
variable {M : Model} {A : Around} {E : Value -> Shared -> Prop} {s : Shared}
end
section
variable {X : Cx} {pins : List (Addr × Obj)} {Z : St} {H : Hp} {s : Shared}
end
structure XC (base : Heap) (C : Addr) (bm : List Value) : Prop where
 hasBase : bm.contains (.type "BaseException") = true
 ex : ∃ nm q N bs hdct sn sub ab col dd k0 k1 k2 k3 k5 newId initId B bmB mN, base.get? C = some (excClassObj nm q C N bs bm hdct sn sub ab col dd k0 k1 k2 k3 k5 newId) /\ base.Ns N mN /\ mN "__init__" = none /\ OwnTail base bmB bm /\ ExcBaseFacts B newId initId bmB
section
variable {X : Cx} {c : Fc} {e : Expr} {es : List Expr} {pos cpos np : Pos}
structure XL2 (X : Cx) (c : Fc) (cl : Str -> Option Addr) (E : XK) : Prop where
 pass : qaa (CX1 X.prog X.w) X E
 wish : ∀ x C H', cl x.cls = some C -> c.E x H' -> E (.ref C) none H'
def qj9 (x : Str) (f : M (List D)) : MS := fun ρ => match f ρ with
 | .ok (ds, ρ') => if qI ds.length then .exc ⟨x, .non⟩ ρ' else .bad
 | .exc z ρ' => .exc z ρ'
 | .bad => .bad
def spX (K : Fr0) (cl : Str -> Option Addr) (F : List D -> R D) : Sp := fun vs H Q E => ∃ ds A, IsL K A H ds vs /\ qd6 K H /\ match F ds with
 | .ok d => ∀ v H', zX H H' -> Is K (fun a => A a \/ H a = none) H' d v -> Q v H'
 | .exc x _ => ∃ C, cl x.cls = some C /\ ∀ H', zX H H' -> E (.ref C) none H'
 | .bad => False
def qgU (RN : List Str) (F : List D -> R D) (g : M (List D)) : M D := bnd g fun ds ρ => match F ds with
 | .ok d => .ok (d, ρ)
 | .exc x _ => if RN.contains x.cls then .exc x ρ else .bad
 | .bad => .bad
def qcN (F : List D -> R D) (g : M (List D)) : M D := bnd g fun ds ρ => match F ds with
 | .ok d => .ok (d, ρ)
 | _ => .bad
theorem qfX {k : Nat} {f : Addr} {fd : FuncData} {ps : List Str} {F : List D -> R D} {x : Str} {p : Pos} {g : M (List D)} {cl : Str -> Option Addr}
  (G : wS X.prog X.w X.K X.mg X.base (CX1 X.prog X.w) k f fd ps (spX X.K cl F)) (hr : yT k X.A) (hg : Gl X x) (hm : X.mg x = some (.ref f)) (hk : PySem.W.keepIn X.K (.ref f) = true) (hb : uw X.K fd ps [])
  (ha : DA X c (e :: es) g) (hd : (x == ("__debug__" : Str)) = false := by decide) (he : starEach (e :: es) X.env = (false, eval e X.env) :: starEach es X.env := by rfl) (hpl : (backTo pos (starEach es X.env)).any (·.1) = false := by rfl) : DE X c (.Call (.Name x p) (e :: es) [] pos) (qcN F g) := by
 obtain ⟨t, pa, w⟩ := ha
 refine ⟨_, qau (E := fun _ _ _ => False) G hr hg hm hk hb .nil (fun _ _ _ _ _ _ _ ⟨_, _, _, _, _, _, _, _, _, _, _, _, _, _, z⟩ => z.elim) pa hd he hpl, fun ρ Z H Q r h => w ρ Z H _ r (WpL.bnd h fun ds ρ1 vs H1 r1 i1 g1 h1 => ?_)⟩
 rw [List.append_nil]
 refine ⟨ds, Cn c Z, i1, r1.tb, ?_⟩
 cases ef : F ds with
 | bad => simp only [ef] at h1; exact h1.elim
 | exc z ρ' => simp only [ef] at h1; exact h1.elim
 | ok d =>
  simp only [ef] at h1
  exact fun v H' sm i => h1 v H' (r1.same sm) (Is.ext Ext.refl (fun a ha _ => ha.elim id r1.new) i) (.of_same sm)
end
section
variable {P : Program} {w : World} {K : PySem.W.Frag} {mg : Str -> Option Value} {base : Heap}
structure qh5 (P : Program) (w : World) (K : PySem.W.Frag) (mg : Str -> Option Value) (base : Heap) (k : Nat) (x : Str) (ps : List Str) (sp : Sp) : Prop where
 ex : ∃ f fd, wS P w K mg base (CX1 P w) k f fd ps sp /\ mg x = some (.ref f) /\ PySem.W.keepIn K (.ref f) = true /\ uw K fd ps []
end
section
variable {M : Model} {A : Around} {E : Value -> Shared -> Prop}
variable {nm q nm' q' : Str} {C S N N' : Addr} {bs bm bs' bm' : List Value} {hdct hdct' : Bool} {sn sn' : List Str} {sub sub' : List Value} {ab ab' : Bool} {col col' : Option Bool} {dd dd' : Option Addr} {k0 k1 k2 k3 k5 j0 j1 j2 j3 j5 : Option Value} {newId newId' : String}
end
end L2.Sk
namespace L2
open PySem PySem.Spec PyProof.Rows
def yr (A : Around) (H : Hp) : Prop := ∃ e oe u vs, A.handled = some (.ref e) /\ H e = some (.frz oe u) /\ oe.data = .fields vs /\ vs[2]? = some .none
def qka (A : Around) (sp : Sp) (dvs : List V) (E : XK) (t : TA) : TE := fun Z H Q => t Z H fun vs H1 => yr A H1 /\ sp (vs ++ dvs) H1 Q E
structure uA (k : Nat) (A : Around) : Prop where
 dp : A.depth + 3 * k + 5 < recursionLimit
 un : A.units + 16 * k + 200 < cLine
 gd : A.guards = some []
theorem uA.mono {j k : Nat} {A : Around} (r : uA k A) (h : j <= k) : uA j A := ⟨by have := r.dp; omega, by have := r.un; omega, r.gd⟩
theorem uA.deeper {k : Nat} {A : Around} (r : uA (k + 1) A) (env : Env) : uA k (A.deeper env) :=
 ⟨by have := r.dp; show A.depth + 1 + 3 * k + 5 < _; omega, by have := r.un; show A.units + 3 + 16 * k + 200 < _; omega, r.gd⟩
theorem uA.depth {k : Nat} {A : Around} (r : uA k A) : A.depth < recursionLimit := by have := r.dp; omega
structure qfY (P : Program) (w : World) (K : PySem.W.Frag) (mg : Str -> Option Value) (base : Heap) (CX : CXT) (k : Nat) (f : Addr) (fd : FuncData) (ps : List Str) (sp : Sp) : Prop where
 len : ∀ vs H Q E, sp vs H Q E -> vs.length = ps.length
 run : ∀ (A : Around) (outer : List Env) (s : Shared) (H : Hp) (args : Args) (us : List Value) (vs : List V) (Q : VK) (E : XK), uA k A -> yr A H -> qjp P w K mg base A outer s H -> BindsTo s fd args (ps.zip us) -> qN vs us -> sp vs H Q E ->
  codeAny (model P w) A (.call (.ref f) args) (CR CX outer P w H s Q E) s
section
variable {X : Cx} {CX : CXT} {k : Nat} {f C : Addr} {fd : FuncData} {ps : List Str} {sp : Sp} {dvs : List V} {ds : List Value} {E : XK} {x m : Str} {p pos apos : Pos} {e o : Expr} {es : List Expr} {ta : TE} {t : TA}
theorem qh6 {pins : List (Addr × Obj)} {Z : St} {H : Hp} {s : Shared} {Q : VK} {us : List Value} {vs : List V} (F : qfY X.prog X.w X.K X.mg X.base CX k f fd ps sp) (hr : uA k X.A) (hb : uw X.K fd ps ds) (hd : qN dvs ds) (hx : qaa CX X E)
  (I : Inv X pins Z H s) (r : qN vs us) (al : yr X.A H) (h : sp (vs ++ dvs) H Q E) : wpAny (model X.prog X.w) X.A (call (.ref f) us) (EP X pins Z Q) X.xe s := by
 have r2 : qN (vs ++ dvs) (us ++ ds) := r.append hd
 have hl : (us ++ ds).length = ps.length := by rw [<- r2.length]; exact F.len _ _ _ _ h
 refine wpAny_call (codeAny_mono (F.run X.A X.stack s H ⟨us, []⟩ (us ++ ds) (vs ++ dvs) Q E hr al I.env0 (hb s us I.kIn hl) r2 h) fun r s' hq => ?_)
 cases r with
 | error e => exact hx pins Z H s e s' I hq
 | ok fl =>
  cases fl with
  | ret u => exact I.after hq
  | next => exact False.elim hq
  | brk => exact False.elim hq
  | cont => exact False.elim hq
theorem qfZ (F : qfY X.prog X.w X.K X.mg X.base CX k f fd ps sp) (hr : uA k X.A) (hg : Gl X x) (hm : X.mg x = some (.ref f)) (hk : PySem.W.keepIn X.K (.ref f) = true) (hb : uw X.K fd ps ds) (hd : qN dvs ds) (hx : qaa CX X E)
  (ha : PA X (e :: es) t) (hdb : (x == ("__debug__" : Str)) = false := by decide) (he : starEach (e :: es) X.env = (false, eval e X.env) :: starEach es X.env := by rfl) (hpl : (backTo pos (starEach es X.env)).any (·.1) = false := by rfl) :
  PE X (.Call (.Name x p) (e :: es) [] pos) (qka X.A sp dvs E t) := by
 intro pins s Z H Q I h
 refine wpAny_Call_Name_kw (qbX I hg hm ?_ hdb)
 refine PySem.W.callWith_K (h₀ := X.base) I.ok.mod.kin hk (thn (ha pos pins s Z H _ I h) fun us s1 ⟨vs, H1, I1, r, q⟩ => ⟨I1.kIn, ?_⟩) he hpl
 exact qh6 F hr hb hd hx I1 r q.1 q.2
end
end L2
namespace L2.Sk
open PySem PySem.Spec PyProof.Rows
def isT (b : Bool) : Value -> Bool
 | .bool a => a == b
 | _ => false
section
variable {X : Cx}
end
def ql5 (x : D) (ys : List D) : Option D := match x, ys with
 | .lst ds, [.bl b] => (uO ds).map fun bs => .int (bs.countP (· == b))
 | _, _ => none
def qkb (F : D -> List D -> Option D) (f : M D) (g : M (List D)) : M D := bnd f fun x => match x with
 | .lst ds => bnd g fun ys => lift (F (.lst ds) ys)
 | _ => fun _ => .bad
section
variable {X : Cx} {c : Fc} {o e : Expr} {es : List Expr} {apos cpos : Pos}
end
def isI (b : Int) : Value -> Bool
 | .int a _ => a == b
 | _ => false
section
variable {X : Cx}
end
def ql6 (x : D) (ys : List D) : Option D := match x, ys with
 | .lst ds, [.int b] => (vB ds).map fun ns => .int (ns.countP (· == b))
 | _, _ => none
section
variable {X : Cx} {pins : List (Addr × Obj)} {Z : St} {H : Hp} {s : Shared} {xe : Value -> Shared -> Prop}
theorem un_held {H' : Hp} {h' : Heap} {e : Addr} {o : HO} (u : Un (frs X.stack) [] H H' s.heap h') (he : s.heap.get? e = none) (hHe : H' e = none) : Un (frs X.stack) [] H (upd H' e o) s.heap h' := by
 have ne : ∀ b ob, s.heap.get? b = some ob -> b ≠ e := fun b ob q z => by rw [z, he] at q; cases q
 have ne' : ∀ b u, H' b = some u -> b ≠ e := fun b u q z => by rw [z, hHe] at q; cases q
 refine ⟨u.keep, u.slot, fun b ob q n hx => by rw [qj (ne b ob q)]; exact u.free b ob q n hx, u.there, fun b xs q => ?_, fun b ob w q => ?_, fun b ps y q => ?_⟩
 ·have := u.tups b xs q
  rw [qj (ne' b _ this)]; exact this
 ·have := u.frzs b ob w q
  rw [qj (ne' b _ this)]; exact this
 ·have := u.tbls b ps y q
  rw [qj (ne' b _ this)]; exact this
end
structure qm5 (K : Fr0) (base : Heap) (RN : List Str) (S : Addr) : Prop where
 sup : ∃ bm, XC base S bm
 own : ∀ n C, clR K RN n = some C -> ∃ bm, XC base C bm /\ (Value.ref C :: bm).contains (.ref S) = true
 ki : ∀ n C, clR K RN n = some C -> XK6 K C
def ch (H6 : Hp) : Fc := ⟨[], [], fun a => H6 a = none, H6, fun _ => False, fun _ _ => False, fun _ => none⟩
section
variable {X : Cx} {c : Fc} {pos np hpos p1 p2 p3 p4 : Pos} {body : List Stmt}
end
end L2.Sk
namespace L2.Sk
open PySem PySem.Spec PyProof.Rows PySem.W
def bmV : List Value := [.type "ValueError", .type "Exception", .type "BaseException", .type "object"]
def qdx (K : Fr0) (C S : Addr) : Bool := match K.lookup C with
 | some ⟨_, _, .cls cd, _⟩ => cd.mro.contains (.ref S)
 | _ => false
theorem qkN {K : Fr0} {h : Heap} {C S : Addr} (X : K.In h) (q : excIn K C bmV "ValueError.__new__" = true) (hs : qdx K C S = true) : ∃ bm, XC h C bm /\ (Value.ref C :: bm).contains (.ref S) = true := by
 unfold excIn at q
 split at q
 ·rename_i dd cd sl ho
  split at q
  ·rename_i C' bm k0 k1 k2 k3 n k5 hm hl
   simp only [Bool.and_eq_true, beq_iff_eq, Bool.not_eq_true'] at q
   obtain ⟨⟨⟨⟨⟨e1, e2⟩, hdel⟩, ht⟩, hok⟩, hni⟩ := q
   subst e1 e2
   unfold qdx at hs
   rw [ho] at hs
   dsimp only at hs
   rw [hm] at hs
   obtain ⟨nm, bs, mro, ns, qn, hd, sn, sub, ab, col, del⟩ := cd
   dsimp only at hm hdel hok hni
   subst hm hdel
   have hz : sl = #[k0, k1, k2, k3, some (.builtin _), k5] := Array.toList_inj.mp hl
   subst hz
   have hT := tail_of_in X ht
   refine ⟨bm, ⟨hT.hasType (by decide +kernel), nm, qn, ns, bs, hd, sn, sub, ab, col, dd, k0, k1, k2, k3, k5, _, "ValueError.__init__", "ValueError", bmV, _, X _ _ ho, .of_isNs (isNs_of_in X hok), nsMap_none_of_in X hok hni, hT, PySem.F.excBase_ValueError⟩, hs⟩
  ·cases q
 ·cases q
def qh7 (K : Fr0) (D : Addr) : Bool :=
 findIn K (.ref D) "__getattribute__" == some (some (.builtin "BaseException.__getattribute__")) && findIn K (.ref D) "__getattr__" == some none &&
 findIn K (.ref D) "__class__" == some (some (.builtin "object.__class__")) && mroIn K D (.type "object") == some true && subIn K (.ref D) (.type "BaseException") == some true && (clsIn K D).isSome &&
 (["int", "bool", "str", "tuple", "list", "dict"].all fun T => kitOne K (.ref D) (.type T) == some false)
theorem qkc {K : Fr0} {D : Addr} (h : qh7 K D = true) : XK6 K D := by
 unfold qh7 at h
 simp only [Bool.and_eq_true, beq_iff_eq] at h
 obtain ⟨⟨⟨⟨⟨⟨h1, h2⟩, h3⟩, h4⟩, h5⟩, h6⟩, h7⟩ := h
 exact ⟨h1, h2, h3, h4, h5, h6, fun T hT => by simpa using List.all_eq_true.mp h7 T hT⟩
def qf0 (n m : Str) : Bool := n == m || m == "SackError"
def qkd (K : Fr0) (S : Addr) (TN : List Str) (n : Str) : Bool := match vV K n with
 | some C => excIn K C bmV "ValueError.__new__" && qdx K C S && qh7 K C && kitOne K (.ref C) (.type "ValueError") == some true &&
  TN.all fun m => match vV K m with
   | some Cm => kitOne K (.ref C) (.ref Cm) == some (qf0 n m)
   | none => false
 | none => false
def ql7 (K : Fr0) (RN TN : List Str) : Bool := match vV K "SackError" with
 | some S => excIn K S bmV "ValueError.__new__" && qdx K S S && RN.all (qkd K S TN)
 | none => false
structure XT (K : Fr0) (mg : Str -> Option Value) (RN TN : List Str) : Prop where
 all : ql7 K RN TN = true
 mgc : ∀ n C, vV K n = some C -> mg n = some (.ref C)
section
variable {K : Fr0} {mg : Str -> Option Value} {RN TN : List Str}
theorem XT.sup (t : XT K mg RN TN) : ∃ S, vV K "SackError" = some S /\ excIn K S bmV "ValueError.__new__" = true /\ qdx K S S = true /\ RN.all (qkd K S TN) = true := by
 have h := t.all
 unfold ql7 at h
 split at h
 ·rename_i S e
  simp only [Bool.and_eq_true] at h
  exact ⟨S, e, h.1.1, h.1.2, h.2⟩
 ·cases h
theorem XT.row (t : XT K mg RN TN) {S : Addr} (hS : vV K "SackError" = some S) {n : Str} (hn : RN.contains n = true) : qkd K S TN n = true := by
 obtain ⟨S', e, _, _, h⟩ := t.sup
 rw [hS] at e
 cases e
 exact List.all_eq_true.mp h n (by simpa using hn)
theorem XT.cls (t : XT K mg RN TN) {n : Str} {C : Addr} (h : clR K RN n = some C) : vV K n = some C /\ ∃ S, vV K "SackError" = some S /\ excIn K C bmV "ValueError.__new__" = true /\ qdx K C S = true /\ XK6 K C /\ kitOne K (.ref C) (.type "ValueError") = some true /\
  ∀ m ∈ TN, ∃ Cm, vV K m = some Cm /\ kitOne K (.ref C) (.ref Cm) = some (qf0 n m) := by
 unfold clR at h
 split at h
 ·rename_i hn
  obtain ⟨S, hS, _⟩ := t.sup
  have r := t.row hS hn
  unfold qkd at r
  rw [h] at r
  simp only [Bool.and_eq_true, beq_iff_eq] at r
  obtain ⟨⟨⟨⟨r1, r2⟩, r3⟩, r4⟩, r5⟩ := r
  refine ⟨h, S, hS, r1, r2, qkc r3, r4, fun m hm => ?_⟩
  have := List.all_eq_true.mp r5 m hm
  split at this
  ·rename_i Cm e
   exact ⟨Cm, e, by simpa using this⟩
  ·cases this
 ·cases h
theorem XT.has (t : XT K mg RN TN) {n : Str} (hn : RN.contains n = true) : ∃ C, clR K RN n = some C := by
 obtain ⟨S, hS, _⟩ := t.sup
 have r := t.row hS hn
 unfold qkd at r
 split at r
 ·rename_i C e
  exact ⟨C, by unfold clR; rw [if_pos hn]; exact e⟩
 ·cases r
end
def ql8 (RN : List Str) (m : Str) (f : M D) : M D := bnd f fun d => match d with
 | .exc n => if RN.contains n then ret (.bl (m == "ValueError" || qf0 n m)) else fun _ => .bad
 | _ => fun _ => .bad
section
variable {X : Cx} {c : Fc} {a b e : Expr} {pos : Pos} {RN TN : List Str}
end
section
variable {P : Program} {w : World} {K : PySem.W.Frag} {mg : Str -> Option Value} {base : Heap}
structure qh8 (P : Program) (w : World) (K : PySem.W.Frag) (mg : Str -> Option Value) (base : Heap) (k : Nat) (x : Str) (ps : List Str) (sp : Sp) : Prop where
 ex : ∃ f fd, qfY P w K mg base CX0 k f fd ps sp /\ mg x = some (.ref f) /\ PySem.W.keepIn K (.ref f) = true /\ uw K fd ps []
end
end L2.Sk
namespace L2.Sk
open PySem PySem.Spec PyProof.Rows
section
variable {ρ : Env} {f g : M D} {l : M (List D)} {p q : MS} {RN : List Str}
theorem qcO (F : List D -> R D) : qgU RN F l ρ = match l ρ with | .ok (xs, ρ1) => (match F xs with | .ok d => .ok (d, ρ1) | .exc x _ => (if RN.contains x.cls then .exc x ρ1 else .bad) | .bad => .bad) | .exc x ρ' => .exc x ρ' | .bad => .bad := by
 simp only [qgU, bnd]
 cases l ρ with
 | ok z => obtain ⟨z1, ρ1⟩ := z; cases F z1 <;> rfl
 | exc x ρ' => rfl
 | bad => rfl
theorem qcP (F : List D -> R D) : qcN F l ρ = match l ρ with | .ok (xs, ρ1) => (match F xs with | .ok d => .ok (d, ρ1) | _ => .bad) | .exc x ρ' => .exc x ρ' | .bad => .bad := by
 simp only [qcN, bnd]
 cases l ρ with
 | ok z => obtain ⟨z1, ρ1⟩ := z; cases F z1 <;> rfl
 | exc x ρ' => rfl
 | bad => rfl
theorem qcQ (x : Str) : qj9 x l ρ = match l ρ with | .ok (ds, ρ') => (if qI ds.length then .exc ⟨x, .non⟩ ρ' else .bad) | .exc z ρ' => .exc z ρ' | .bad => .bad := rfl
theorem qgV (m : Str) : ql8 RN m f ρ = match f ρ with | .ok (.exc n, ρ1) => (if RN.contains n then .ok (.bl (m == "ValueError" || qf0 n m), ρ1) else .bad) | .ok _ => .bad | .exc x ρ' => .exc x ρ' | .bad => .bad := by
 simp only [ql8, bnd]
 cases f ρ with
 | ok z =>
  obtain ⟨z1, ρ1⟩ := z
  cases z1 <;> first | rfl | (dsimp only; split <;> rfl)
 | exc x ρ' => rfl
 | bad => rfl
theorem qeL (F : D -> List D -> Option D) : qkb F f l ρ = match f ρ with
  | .ok (.lst ds, ρ1) => (match l ρ1 with | .ok (ys, ρ2) => (match F (.lst ds) ys with | some d => .ok (d, ρ2) | none => .bad) | .exc x ρ' => .exc x ρ' | .bad => .bad)
  | .ok _ => .bad | .exc x ρ' => .exc x ρ' | .bad => .bad := by
 simp only [qkb, bnd]
 cases f ρ with
 | ok z =>
  obtain ⟨z1, ρ1⟩ := z
  cases z1 with
  | lst ds =>
   show bnd l (fun ys => lift (F (D.lst ds) ys)) ρ1 = (match l ρ1 with | .ok (ys, ρ2) => (match F (.lst ds) ys with | some d => .ok (d, ρ2) | none => .bad) | .exc x ρ' => .exc x ρ' | .bad => .bad)
   unfold bnd
   cases l ρ1 with
   | ok z => obtain ⟨z2, ρ2⟩ := z; (dsimp only; cases F (.lst ds) z2 <;> rfl)
   | exc x ρ' => rfl
   | bad => rfl
  | _ => rfl
 | exc x ρ' => rfl
 | bad => rfl
end
def unO (_ : Nat) (c : Fc) : Fc := { c with O := [], P := [], B := fun _ => True }
theorem Gr.unSame {c : Fc} {Z : St} {H H' : Hp} {i : Nat} (g : Gr (unO i c).O Z H H') : zX H H' := fun b o h => g.ext.at_ b o (fun j hj => by cases hj) h
theorem Rep.un {K : Fr0} {c : Fc} {ρ : Env} {Z : St} {H : Hp} {i : Nat} (r : Rep K c ρ Z H) (_ : i ∈ c.O) : Rep K (unO i c) ρ Z H := by
 have all : ∀ b : Addr, Cn (unO i c) Z b := fun b => ⟨trivial, fun j hj => by cases hj⟩
 refine ⟨r.len, fun k d hk => ?_, fun j hj => (by cases hj), fun k j a hk => (by cases hk), ⟨fun _ _ => trivial, r.b0.2⟩, r.kp, r.dm, fun j hj => (by cases hj), fun j hj => (by cases hj)⟩
 obtain ⟨v, h1, h2⟩ := r.val k d hk
 refine ⟨v, h1, .inr ⟨fun z => (by cases z), ?_⟩⟩
 rcases h2 with ⟨hk2, ds, a, xs, h3, h5, h6, h7⟩ | ⟨hk2, h3⟩
 ·subst h3 h5
  exact ⟨a, xs, rfl, all a, h6, IsL.ext Ext.refl (fun b _ _ => all b) h7⟩
 ·exact Is.ext Ext.refl (fun b _ _ => all b) h3
theorem Gr.un {c : Fc} {Z : St} {H H' : Hp} {i : Nat} (g : Gr (unO i c).O Z H H') : Gr c.O Z H H' := .of_same g.unSame
theorem Rep.re {K : Fr0} {c : Fc} {ρ : Env} {Z : St} {H H' : Hp} {i : Nat} (r : Rep K c ρ Z H) (_ : i ∈ c.O) (_ : Rep K (unO i c) ρ Z H') (g : Gr (unO i c).O Z H H') : Rep K c ρ Z H' := r.same g.unSame
open Classical in
noncomputable def qcc (f : M D) : M D := fun ρ => match f ρ with
 | .ok (d, ρ') => if imm d = true /\ ρ' = ρ then .ok (d, ρ) else .bad
 | .exc x ρ' => if ρ' = ρ then .exc x ρ else .bad
 | .bad => .bad
open Classical in
open Classical in
section
variable {X : Cx} {c : Fc} {e : Expr} {pos : Pos}
theorem qh9 {i : Nat} {f : M D} (h : DE X (unO i c) e f) (ho : i ∈ c.O := by exact of_decide_eq_true rfl) : DE X c e (qcc f) := by
 obtain ⟨t, p, w⟩ := h
 refine ⟨t, p, fun ρ Z H Q r h => w ρ Z H Q (r.un ho) ?_⟩
 unfold qcc at h
 cases ef : f ρ with
 | bad => rw [ef] at h; exact h.elim
 | exc x ρ' =>
  rw [ef] at h
  simp only at h
  split at h
  ·rename_i e1
   subst e1
   exact fun H' r' g' => h H' (r.re ho r' g') g'.un
  ·exact h.elim
 | ok q =>
  obtain ⟨d, ρ'⟩ := q
  rw [ef] at h
  simp only at h
  split at h
  ·rename_i e1
   obtain ⟨e1, e2⟩ := e1
   subst e2
   exact fun v H' r' i' g' => h v H' (r.re ho r' g') (Is.imm e1 i') g'.un
  ·exact h.elim
def qm6 : List D -> Option (List D)
 | [.int i, .int j] => if decide (-(2 ^ 62) <= i) && decide (i < 2 ^ 62) && decide (-(2 ^ 62) <= j) && decide (j < 2 ^ 62) then some (qaD i (j - i).toNat) else none
 | _ => none
theorem XL2.un {i : Nat} {cl : Str -> Option Addr} {E : XK} (L : XL2 X c cl E) : XL2 X (unO i c) cl E := ⟨L.pass, L.wish⟩
def qgW (i n : Nat) (g : D -> Env -> Option Env) (b : MS) : Nat -> MS
 | 0, ρ => match zg i ρ with
  | some ds => if ds.length <= n then .ok (.nx ρ) else .bad
  | none => .bad
 | m + 1, ρ => match zg i ρ with
  | some ds => match ds[n - (m + 1)]? with
   | none => .bad
   | some d => match g d ρ with
    | none => .bad
    | some ρ1 => match b ρ1 with
     | .ok (.nx ρ2) => qgW i n g b m ρ2
     | .ok (.ct ρ2) => qgW i n g b m ρ2
     | .ok (.bk ρ2) => .ok (.nx ρ2)
     | .ok (.rt r ρ2) => .ok (.rt r ρ2)
     | .exc x ρ2 => .exc x ρ2
     | .bad => .bad
  | none => .bad
end
section
variable {ρ : Env} {f : M D} {t : M Bool} {n : M (List D)}
open Classical in
theorem qia : qcc f ρ = match f ρ with | .ok (d, ρ') => (if imm d = true /\ ρ' = ρ then .ok (d, ρ) else .bad) | .exc x ρ' => (if ρ' = ρ then .exc x ρ else .bad) | .bad => .bad := rfl
open Classical in
open Classical in
end
def inA (x y : D) : Option D := match sqD y with
 | some ds => if qcE x && qcE y then some (.bl ((toPDs ds).any fun y => PyData.eqv y (ju x))) else none
 | none => none
section
variable {X : Cx}
end
section
variable {prog : Program} {w : World} {A : Around} {R : Result -> Shared -> Prop} {I : Addr} {fp wr : List Addr} {n : Nat} {P : Nat -> Value -> Prop} {St : Nat -> Heap -> Prop}
end
section
variable {prog : Program} {w : World} {A : Around} {E : Value -> Shared -> Prop} {s : Shared}
end
def qke : List D -> Option (List (List Int))
 | [] => some []
 | .tup ts :: r => match vB ts, qke r with
  | some n, some ns => some (n :: ns)
  | _, _ => none
 | _ => none
def qlo (ns : List (List Int)) (i : Nat) : List Int := (ns[i]?).getD []
def qlp (ns : List (List Int)) : Nat := argBest (fun i j => HT.lexLt (qlo ns i) (qlo ns j)) (ns.length - 1)
def qmO : List D -> Option D
 | [.lst ds] => match qke ds with
  | some (n :: ns) => some (.tup ((qlo (n :: ns) (qlp (n :: ns))).map .int))
  | _ => none
 | _ => none
section
variable {X : Cx}
end
def ql9 (x : D) (ys : List D) : Option D := match x, ys with
 | .lst ds, [d] => if ds.all qcE && qcE d then (ds.findIdx? fun e => PyData.eqv (ju e) (ju d)).map fun j => .int j else none
 | _, _ => none
section
variable {prog : Program} {w : World} {A : Around} {E : Value -> Shared -> Prop} {s : Shared}
end
section
variable {X : Cx} {c : Fc} {a b e : Expr} {pos : Pos} {es : List Expr} {kk : Nat} {tp : Pos}
end
section
variable {X : Cx} {c : Fc} {a b e : Expr} {pos : Pos} {es : List Expr} {kk : Nat} {tp : Pos}
def qkf : List D -> Option (List D)
 | [.lst xs] => some (uz 0 xs)
 | _ => none
def qkg (f : M (List D)) : M (List D) := bnd f fun ds => lift (qkf ds)
end
section
variable {X : Cx} {c : Fc} {pos : Pos}
end
section
variable {prog : Program} {w : World} {A : Around} {E : Value -> Shared -> Prop} {s : Shared}
end
theorem yr.laid {A : Around} {H : Hp} {p : Addr} {o : HO} (x : yr A H) (h : H p = none) : yr A (upd H p o) := by
 obtain ⟨e, oe, u, vs, h1, h2, h3⟩ := x
 exact ⟨e, oe, u, vs, h1, by rw [qj (qA h2 h)]; exact h2, h3⟩
theorem yr.rep {K : Fr0} {c : Fc} {A : Around} (x : yr A c.H0) (hio : ∀ a, ¬ c.Io a) (ρ : Env) (Z : St) (H : Hp) (r : Rep K c ρ Z H) : yr A H := by
 obtain ⟨e, oe, u, vs, h1, h2, h3⟩ := x
 exact ⟨e, oe, u, vs, h1, r.kp _ _ h2 (hio e), h3⟩
end L2.Sk
namespace L2
open PySem PySem.Spec PyProof.Rows L2.Sk
structure qmP (P : Program) (w : World) (K : PySem.W.Frag) (tg : Expr) (J : It) (fp : List Addr) (it : Addr) (tn : Nat -> Heap -> Prop) : Prop where
 mem : it ∈ fp
 obj : ∀ i h, tn i h -> ∀ b ∈ fp, ∃ o, h.get? b = some o /\ ∀ v, o.data ≠ .cell v
 keep : ∀ i h h', tn i h -> (∀ b ∈ fp, ∀ o, h.get? b = some o -> h'.get? b = some o) -> tn i h'
 item : ∀ (X : Cx), X.prog = P -> X.w = w -> X.K = K -> yr X.A X.H₀ -> ∀ (i : Nat) (pins : List (Addr × Obj)) (s : Shared) (Z : St) (H : Hp) (E : Value -> Shared -> Prop), Inv X pins Z H s -> (∀ b ∈ fp, qbV X pins H b) -> tn i s.heap -> J.go i H ->
  wpAny (model P w) X.A (pyNext (.ref it)) (fun r s1 => ∃ u, r = some u /\
   wpAny (model P w) X.A (letOwnedTupleGo tg (.ref it) u) (fun _ s2 => ∃ x H', Inv X pins Z H' s2 /\ jf x u /\ J.yld i H x H' /\ tn (i + 1) s2.heap /\ ∀ b ∈ fp, H' b = none) E s1) E s
 done : ∀ (X : Cx), X.prog = P -> X.w = w -> X.K = K -> yr X.A X.H₀ -> ∀ (i : Nat) (pins : List (Addr × Obj)) (s : Shared) (Z : St) (H : Hp) (E : Value -> Shared -> Prop), Inv X pins Z H s -> (∀ b ∈ fp, qbV X pins H b) -> tn i s.heap -> J.stop i H ->
  wpAny (model P w) X.A (pyNext (.ref it)) (fun r s1 => r = none /\ Inv X pins Z H s1) E s
 self : ∀ (A : Around) (i : Nat) (s : Shared) (Q : Value -> Shared -> Prop) (E : Value -> Shared -> Prop), tn i s.heap -> Q (.ref it) s -> wpAny (model P w) A (pyIter (.ref it)) Q E s
section
variable {X : Cx} {tg : Expr}
end
end L2
namespace L2.Sk
open PySem PySem.Spec PyProof.Rows
section
variable {X : Cx} {tg iter elt : Expr} {ifs : List Expr} {scope : Scope} {pos : Pos} {wi : TI} {N' : List Str} {nt : Nat} {fr : List Nat}
end
section
variable {X : Cx} {c : Fc} {tg a b e : Expr} {pos : Pos}
end
theorem uA.units {k : Nat} {A : Around} (r : uA k A) : A.units + 64 < cLine := by have := r.un; omega
section
variable {X : Cx} {c : Fc} {e : Expr} {es : List Expr} {pos : Pos}
theorem qf1 {k : Nat} {f : Addr} {fd : FuncData} {ps : List Str} {F : List D -> R D} {x : Str} {p : Pos} {g : M (List D)} (hal : ∀ ρ Z H, Rep X.K c ρ Z H -> yr X.A H)
  (G : qfY X.prog X.w X.K X.mg X.base CX0 k f fd ps (spD X.K F)) (hr : uA k X.A) (hg : Gl X x) (hm : X.mg x = some (.ref f)) (hk : PySem.W.keepIn X.K (.ref f) = true) (hb : uw X.K fd ps [])
  (ha : DA X c (e :: es) g) (hd : (x == ("__debug__" : Str)) = false := by decide) (he : starEach (e :: es) X.env = (false, eval e X.env) :: starEach es X.env := by rfl) (hpl : (backTo pos (starEach es X.env)).any (·.1) = false := by rfl) : DE X c (.Call (.Name x p) (e :: es) [] pos) (ql F g) := by
 obtain ⟨t, pa, w⟩ := ha
 refine ⟨_, qfZ (E := fun _ _ _ => False) G hr hg hm hk hb .nil (fun _ _ _ _ _ _ _ z => z.elim) pa hd he hpl, fun ρ Z H Q r h => w ρ Z H _ r (WpL.bnd h fun ds ρ1 vs H1 r1 i1 g1 h1 => ⟨hal _ _ _ r1, ?_⟩)⟩
 rw [List.append_nil]
 refine ⟨ds, Cn c Z, i1, r1.tb, ?_⟩
 cases ef : F ds with
 | bad => simp only [ef] at h1; exact h1.elim
 | exc z ρ' => simp only [ef] at h1; exact h1.elim
 | ok d =>
  simp only [ef] at h1
  exact fun v H' sm i => h1 v H' (r1.same sm) (Is.ext Ext.refl (fun a ha _ => ha.elim id r1.new) i) (.of_same sm)
end
section
variable {prog : Program} {w : World} {A : Around} {R : Result -> Shared -> Prop} {I : Addr} {fp wr : List Addr} {n : Nat} {P : Nat -> Value -> Prop} {St : Nat -> Heap -> Prop} {dv : Value}
end
section
variable {prog : Program} {w : World} {A : Around} {E : Value -> Shared -> Prop} {s : Shared}
end
section
variable {prog : Program} {w : World} {A : Around} {R : Result -> Shared -> Prop} {I : Addr} {fp wr : List Addr} {n : Nat} {P : Nat -> Value -> Prop} {St : Nat -> Heap -> Prop} {dv : Value}
end
section
variable {prog : Program} {w : World} {A : Around} {E : Value -> Shared -> Prop} {s : Shared}
end
section
variable {prog : Program} {w : World} {A : Around} {E : Value -> Shared -> Prop} {s : Shared}
end
section
variable {X : Cx}
end
section
variable {X : Cx} {c : Fc} {a b e : Expr} {pos : Pos}
def qgX (F : List D -> List D -> Option D) (f g : M (List D)) : M D := bnd f fun xs => bnd g fun zs => lift (F xs zs)
def CallKS (K : Fr0) (F : List D -> List D -> Option D) (r : List V -> List V -> Hp -> VK -> Prop) : Prop := ∀ A H xs zs d vs ws (Q : VK), (∀ a, H a = none -> A a) -> IsL K A H xs vs -> IsL K A H zs ws -> F xs zs = some d -> (∀ u H', zX H H' -> Is K A H' d u -> Q u H') -> r vs ws H Q
end
def qmQ (xs zs : List D) : Option D := match xs, zs with
 | [.lst ds], [z] => (vB ds).map fun ns => if ns = [] then z else .int (qeH ns)
 | _, _ => none
def slB (x : D) (lo hi : Option Int) : Option D := match x with
 | .tup ds => some (.tup (qbW ds lo hi))
 | .lst ds => some (.lst (qbW ds lo hi))
 | _ => none
def qeM (f : M D) (g k : M (Option Int)) : M D := bnd f fun d => bnd g fun l => bnd k fun u => lift (slB d l u)
section
variable {X : Cx} {c : Fc} {a b e : Expr} {pos p2 : Pos}
theorem uT {lo hi : Option Expr} {f : M D} {g k : M (Option Int)} (ha : DE X c a f) (hl : DO X c lo g) (hu : DO X c hi k) : DE X c (.Subscript a (.Slice lo hi none p2) pos) (qeM f g k) := by
 obtain ⟨ta, pa, wa⟩ := ha
 obtain ⟨tl, pl, wl⟩ := hl
 obtain ⟨tu, pu, wu⟩ := hu
 refine ⟨_, qfw (SlR.or qjH qhw) pa pl pu, fun ρ Z H Q r h => wa ρ Z H _ r (Wp.bnd h fun d ρ1 v H1 r1 i1 g1 h1 => ?_)⟩
 refine wl ρ1 Z H1 _ r1 (fun l ρ2 e2 H2 r2 g2 => ?_) (fun x ρ2 e2 H2 r2 g2 => ?_) (fun e2 => ?_)
 ·rw [qgw e2] at h1
  have h1 := h1.gr g2
  refine wu ρ2 Z H2 _ r2 (fun u ρ3 e3 H3 r3 g3 => ?_) (fun x ρ3 e3 H3 r3 g3 => ?_) (fun e3 => ?_)
  ·rw [qgw e3] at h1
   obtain ⟨d', e4, h4⟩ := h1.lift
   have i3 := g3.is (g2.is i1)
   clear h1
   cases d <;> simp only [slB] at e4 <;> try (cases e4; done)
   ·rename_i ds
    cases e4
    obtain ⟨a, xs, rfl, ta, il⟩ := i3
    refine .inl ?_
    by_cases hw : HT.sIx xs.length 0 l = 0 /\ HT.sIx xs.length xs.length u = xs.length
    ·refine .inl ⟨a, xs, rfl, ta.sq, hw, h4 _ H3 r3 ⟨a, xs, rfl, ta, ?_⟩ g3⟩
     have e5 : qbW ds l u = ds := by
      unfold qbW
      rw [<- il.length, hw.1, hw.2]
      simp [il.length]
     rw [e5]; exact il
    ·refine .inr ⟨a, xs, rfl, ta.sq, hw, fun p hp => h4 _ _ (r3.laid hp _) ⟨p, qfj xs l u, rfl, .inl qo, ?_⟩ (g3.trans (.of_same (qs hp _)))⟩
     refine IsL.ext (Ext.of_same (qs hp _)) (fun _ h _ => h) ?_
     unfold qbW qfj
     rw [<- il.length]
     exact IsL.take _ (IsL.drop _ il)
   ·rename_i ds
    cases e4
    obtain ⟨a, xs, rfl, hA, ta, il⟩ := i3
    refine .inr ⟨a, xs, rfl, .inl (.inl ta), fun p hp => h4 _ _ (r3.laid hp _) ⟨p, qfj xs l u, rfl, r3.new hp, qo, ?_⟩ (g3.trans (.of_same (qs hp _)))⟩
    refine IsL.ext (Ext.of_same (qs hp _)) (fun _ h _ => h) ?_
    unfold qbW qfj
    rw [<- il.length]
    exact IsL.take _ (IsL.drop _ il)
  ·unfold bnd at h1; rw [e3] at h1; exact h1 H3 r3 g3
  ·unfold bnd at h1; rw [e3] at h1; exact h1
 ·unfold bnd at h1; rw [e2] at h1; exact h1 H2 r2 g2
 ·unfold bnd at h1; rw [e2] at h1; exact h1
theorem Wp.bndN {K : Fr0} {Z : St} {H : Hp} {Q : VK} {f : M D} {k : D -> M (List D)} {ρ : Env} {Q' : VK} (h : WpN K c Z H Q (Sk.bnd f k ρ)) (hQ : ∀ d ρ' v H', Rep K c ρ' Z H' -> Is K (Cn c Z) H' d v -> Gr c.O Z H H' -> WpN K c Z H' Q (k d ρ') -> Q' v H') : Wp K c Z H Q' (f ρ) := by
 unfold Sk.bnd at h
 cases e : f ρ with
 | ok p => rw [e] at h; exact fun v H' hr hi hg => hQ p.1 p.2 v H' hr hi hg (h.gr hg)
 | exc x ρ' => rw [e] at h; exact h
 | bad => rw [e] at h; exact h
def qib (x y : D) : Option (List D) := match x, y with
 | .lst ds, .int k => if (decide (-(2 ^ 62) <= k) && decide (k < 2 ^ 62)) && (qI (ds.length * k.toNat) && immL ds) then some (List.replicate k.toNat ds).flatten else none
 | _, _ => none
def qkh (f g : M D) : M (List D) := bnd f fun x => bnd g fun y => lift (qib x y)
theorem qf2 {K : Fr0} {Z : St} {H : Hp} {Q : VK} {o : Option (List D)} {ρ : Env} (h : WpN K c Z H Q (lift o ρ)) : ∃ ds, o = some ds /\ WpN K c Z H Q (.ok (ds, ρ)) := by
 cases o with
 | none => exact h.elim
 | some d => exact ⟨d, rfl, h⟩
theorem qki {f g : M D} (ha : DE X c a f) (hb : DE X c b g) : DN X c (.BinOp a .Mult b pos) (qkh f g) := by
 obtain ⟨ta, pa, wa⟩ := ha
 obtain ⟨tb, pb, wb⟩ := hb
 refine ⟨_, qjg qgu pa pb, fun ρ Z H Q r h => wa ρ Z H _ r (Wp.bndN h fun x ρ1 v H1 r1 i1 g1 h1 => wb ρ1 Z H1 _ r1 (Wp.bndN h1 fun y ρ2 u H2 r2 i2 g2 h2 => ?_))⟩
 obtain ⟨ds', e, h3⟩ := qf2 h2
 have i1' := g2.is i1
 unfold qib at e
 split at e
 ·rename_i ds k
  obtain ⟨p, xs, rfl, hA, hp, il⟩ := i1'
  have iu : u = V.int k := i2
  subst iu
  split at e
  ·rename_i hb
   simp only [Bool.and_eq_true, decide_eq_true_eq] at hb
   obtain ⟨⟨b1, b2⟩, b3, b4⟩ := hb
   have b3 : ds.length * k.toNat <= sizeLine := of_decide_eq_true b3
   cases e
   refine ⟨p, k, xs, rfl, rfl, hp, by omega, by omega, by rw [il.length]; exact b3, fun q hq => ?_⟩
   exact h3 q _ _ hq (r2.laid hq _) (r2.apart hq) qo trivial (IsL.ext (Ext.of_same (qs hq _)) (fun _ h _ => h) (IsL.rep (IsL.imm b4 il) _)) (.of_same (qs hq _))
  ·cases e
 ·cases e
def qmR (f : M D) : M (List D) := bnd f fun x => lift (match x with
 | .lst ds => if immL ds then some ds else none
 | .tup ds => if immL ds then some ds else none
 | _ => none)
def qeN (i : Nat) (f : M D) : M D := fun ρ => match zg i ρ with
 | none => .bad
 | some _ => (bnd f fun d ρ => match d, zg i ρ with
  | .lst es, some ds => if immL es && qI (ds.length + es.length) then .ok (.non, ρ.set i (some (.lst (ds ++ es)))) else .bad
  | _, _ => .bad) ρ
theorem qf3 {pins : List (Addr × Obj)} {Z : St} {H : Hp} {s : Shared} (I : Inv X pins Z H s) (j : Nat) : Inv X pins (Z.set j none) H s := by
 refine ⟨I.ok, I.os, I.bare, I.base, ?_, I.cell, I.free, I.freeC, I.pin, I.hok, by rw [lS_]; exact I.len⟩
 obtain ⟨m, hn, hl⟩ := I.loc
 refine ⟨m, hn, fun i x v e1 e2 e3 => ?_⟩
 by_cases hij : j = i
 ·subst hij
  rw [List.getElem?_set] at e2
  simp only [if_true] at e2
  split at e2 <;> cases e2
 ·rw [List.getElem?_set_ne hij] at e2
  exact hl i x v e1 e2 e3
def qf4 (i j : Nat) : MS := fun ρ => match zg j ρ with
 | some ds => .ok (.nx ((ρ.set i (some (.lst ds))).set j none))
 | none => .bad
theorem Rep.moved {K : Fr0} {ρ : Env} {Z : St} {H : Hp} {i j : Nat} {ds : List D} (r : Rep K c ρ Z H) (hj : j ∈ c.O) (hP : j ∉ c.P) (hi : i ∉ c.O) (hd : ρ[j]? = some (some (.lst ds))) (hil : i < Z.length) : ∃ a, Z[j]? = some (some (.ref a)) /\
  Rep K c ((ρ.set i (some (.lst ds))).set j none) ((Z.set i (some (.ref a))).set j none) H /\ GrS c.O Z H ((Z.set i (some (.ref a))).set j none) H := by
 obtain ⟨ds', a, xs, e1, hσ, hH, il⟩ := r.getO hj hd
 cases e1
 have hij : i ≠ j := fun e => hi (e ▸ hj)
 have hB : c.B a := by
  obtain ⟨a', _, e2, _, e3⟩ := r.own j hj _ hσ
  cases e2
  exact r.b0.1 a (e3.resolve_right fun z => hP z.1)
 have get : ∀ k, k ≠ i -> k ≠ j -> ((Z.set i (some (.ref a))).set j none)[k]? = Z[k]? := fun k h1 h2 => by
  rw [List.getElem?_set_ne (Ne.symm h2), List.getElem?_set_ne (Ne.symm h1)]
 have getj : ∀ {v : V}, ((Z.set i (some (.ref a))).set j none)[j]? ≠ some (some v) := fun {v} e => by
  rw [List.getElem?_set] at e
  simp only [if_true] at e
  split at e <;> cases e
 have cl : ∀ b, Cl c.O Z b -> Cl c.O ((Z.set i (some (.ref a))).set j none) b := fun b hb k hk e => by
  by_cases h2 : k = j
  ·subst h2; exact getj e
  ·exact hb k hk (by rw [<- get k (fun e => hi (e ▸ hk)) h2]; exact e)
 have cla : Cl c.O ((Z.set i (some (.ref a))).set j none) a := fun k hk e => by
  by_cases h2 : k = j
  ·subst h2; exact getj e
  ·rw [get k (fun e => hi (e ▸ hk)) h2] at e
   exact h2 (r.inj k j a hk hj e hσ)
 refine ⟨a, hσ, ⟨?_, fun k d hk => ?_, fun k hk v hv => ?_, fun k l b hk hl h1 h2 => ?_, r.b0, r.kp, r.dm, r.pO, fun k hk => ?_⟩, ⟨Ext.refl, fun b hb _ => cl b hb, fun _ h => h⟩⟩
 ·simp only [lS_]; exact r.len
 ·have kj : k ≠ j := fun e => by
   subst e
   rw [List.getElem?_set] at hk
   simp only [if_true] at hk
   split at hk <;> cases hk
  rw [List.getElem?_set_ne (Ne.symm kj)] at hk
  by_cases ki : k = i
  ·subst ki
   rw [List.getElem?_set_self (by rw [r.len]; exact hil)] at hk
   cases hk
   refine ⟨.ref a, by rw [List.getElem?_set_ne (Ne.symm kj), List.getElem?_set_self hil], .inr ⟨hi, a, xs, rfl, ⟨hB, cla⟩, hH, IsL.ext Ext.refl (fun b hb _ => ⟨hb.1, cl b hb.2⟩) il⟩⟩
  ·rw [List.getElem?_set_ne (Ne.symm ki)] at hk
   obtain ⟨v, h1, h2⟩ := r.val k d hk
   refine ⟨v, by rw [get k ki kj]; exact h1, ?_⟩
   rcases h2 with ⟨g1, ds2, b2, xs2, g3, g5, g6, g7⟩ | ⟨h3, h4⟩
   ·exact .inl ⟨g1, ds2, b2, xs2, g3, g5, g6, IsL.ext Ext.refl (fun b hb _ => ⟨hb.1, cl b hb.2⟩) g7⟩
   ·exact .inr ⟨h3, Is.ext Ext.refl (fun b hb _ => ⟨hb.1, cl b hb.2⟩) h4⟩
 ·have kj : k ≠ j := fun e => by subst e; exact getj hv
  rw [get k (fun e => hi (e ▸ hk)) kj] at hv
  exact r.own k hk v hv
 ·have kj : k ≠ j := fun e => by subst e; exact getj h1
  have lj : l ≠ j := fun e => by subst e; exact getj h2
  rw [get k (fun e => hi (e ▸ hk)) kj] at h1
  rw [get l (fun e => hi (e ▸ hl)) lj] at h2
  exact r.inj k l b hk hl h1 h2
 ·have kO := r.pO k hk
  rw [get k (fun e => hi (e ▸ kO)) (fun e => hP (e ▸ hk))]
  exact r.ps k hk
theorem qic {i j : Nat} {x y : Str} {pos' p1 : Pos} (hN : X.N.Nodup) (hj : j ∈ c.O := by exact of_decide_eq_true rfl) (hP : j ∉ c.P := by exact of_decide_eq_false rfl) (ho : i ∉ c.O := by exact of_decide_eq_false rfl) (hi : X.N[i]? = some x := by rfl) (hjN : X.N[j]? = some y := by rfl) (hx : Loc X.env.scope x := by first | exact Or.inl rfl | exact Or.inr rfl)
  (hv : Vis X.env.scope y := by first | exact Or.inl rfl | exact Or.inr (Or.inl rfl) | exact Or.inr (Or.inr rfl)) (hd : (y == ("__debug__" : Str)) = false := by decide) (hcd : (y == ("__classdict__" : Str)) = false := by decide)
  (hs : swapsWith (.Name y p1) (some (.Name x pos')) pos.line X.env = pure false := by rfl) (hf : X.fn x = true \/ X.env.scope.names.lookup x = some .local := by first | exact .inl rfl | exact .inr rfl | assumption) :
  DS X c (.Assign [.Name x pos'] (.Name y p1) pos) (qf4 i j) := by
 refine ⟨fun D Z H => Z.length = X.N.length -> ∃ v, Z[j]? = some (some v) /\ D.nx ((Z.set i (some v)).set j none) H, ?_, fun ρ Z H D r h hl => ?_⟩
 ·intro pins s Z H D I hq
  obtain ⟨v, hσ, q⟩ := hq I.len
  have p := qdP (pos := pos) (pos' := pos') hN hi hx (vq (pos := p1) hjN hv hd hcd) hs hf pins s Z H ({ D with nx := fun Z' H' => Z' = Z.set i (some v) /\ H' = H } : qdO) I ⟨v, hσ, rfl, rfl⟩
  refine wpAny_mono p (fun fl s1 h1 => ?_) (fun _ _ z => z)
  cases fl with
  | next =>
   obtain ⟨Z1, H1, I1, rfl, rfl⟩ := h1
   exact ⟨_, _, qf3 I1 j, q⟩
  | brk => exact h1
  | cont => exact h1
  | ret u => exact h1
 ·unfold qf4 at h
  cases e0 : zg j ρ with
  | none => rw [e0] at h; exact h.elim
  | some ds =>
   rw [e0] at h
   have hd : ρ[j]? = some (some (.lst ds)) := by
    unfold zg at e0
    split at e0
    ·rename_i z e; cases e0; exact e
    ·cases e0
   have hil : i < Z.length := by rw [hl]; exact (gI_.mp hi).1
   obtain ⟨a, hσ, r2, g2⟩ := r.moved hj hP ho hd hil
   exact ⟨.ref a, hσ, h _ H r2 g2⟩
def qma (f : M (List D)) : M (List D) := fun ρ => match f ρ with
 | .ok ([.tup _], _) => qeE f ρ
 | _ => qkg f ρ
end
section
variable {ρ : Env} {f g : M D} {l k : M (List D)}
theorem qkO (F : List D -> List D -> Option D) : qgX F l k ρ = match l ρ with | .ok (xs, ρ1) => (match k ρ1 with | .ok (zs, ρ2) => (match F xs zs with | some d => .ok (d, ρ2) | none => .bad) | .exc x ρ' => .exc x ρ' | .bad => .bad) | .exc x ρ' => .exc x ρ' | .bad => .bad := by
 simp only [qgX, bnd]
 cases l ρ with
 | ok z =>
  obtain ⟨z1, ρ1⟩ := z
  dsimp only
  cases k ρ1 with
  | ok z => obtain ⟨z2, ρ2⟩ := z; (dsimp only; cases F z1 z2 <;> rfl)
  | exc x ρ' => rfl
  | bad => rfl
 | exc x ρ' => rfl
 | bad => rfl
theorem qkj : qkh f g ρ = match f ρ with | .ok (x, ρ1) => (match g ρ1 with | .ok (y, ρ2) => (match qib x y with | some ds => .ok (ds, ρ2) | none => .bad) | .exc x ρ' => .exc x ρ' | .bad => .bad) | .exc x ρ' => .exc x ρ' | .bad => .bad := by
 simp only [qkh, bnd]
 cases f ρ with
 | ok z =>
  obtain ⟨z1, ρ1⟩ := z
  dsimp only
  cases g ρ1 with
  | ok z => obtain ⟨z2, ρ2⟩ := z; (dsimp only; cases qib z1 z2 <;> rfl)
  | exc x ρ' => rfl
  | bad => rfl
 | exc x ρ' => rfl
 | bad => rfl
theorem qkk (i : Nat) : qeN i f ρ = match zg i ρ with
  | none => .bad
  | some _ => (match f ρ with | .ok (d, ρ1) => (match d, zg i ρ1 with | .lst es, some ds => (if immL es && qI (ds.length + es.length) then .ok (.non, ρ1.set i (some (.lst (ds ++ es)))) else .bad) | _, _ => .bad) | .exc x ρ' => .exc x ρ' | .bad => .bad) := by
 unfold qeN
 cases zg i ρ with
 | none => rfl
 | some z =>
  simp only [bnd]
  cases f ρ with
  | ok z => obtain ⟨z1, ρ1⟩ := z; rfl
  | exc x ρ' => rfl
  | bad => rfl
theorem qmb (p q : M (Option Int)) : qeM f p q ρ = match f ρ with | .ok (d, ρ1) => (match p ρ1 with | .ok (l, ρ2) => (match q ρ2 with | .ok (u, ρ3) => (match slB d l u with | some r => .ok (r, ρ3) | none => .bad) | .exc x ρ' => .exc x ρ' | .bad => .bad) | .exc x ρ' => .exc x ρ' | .bad => .bad) | .exc x ρ' => .exc x ρ' | .bad => .bad := by
 simp only [qeM, bnd]
 cases f ρ with
 | ok z =>
  obtain ⟨z1, ρ1⟩ := z
  dsimp only
  cases p ρ1 with
  | ok z =>
   obtain ⟨z2, ρ2⟩ := z
   dsimp only
   cases q ρ2 with
   | ok z => obtain ⟨z3, ρ3⟩ := z; (dsimp only; cases slB z1 z2 z3 <;> rfl)
   | exc x ρ' => rfl
   | bad => rfl
  | exc x ρ' => rfl
  | bad => rfl
 | exc x ρ' => rfl
 | bad => rfl
end
section
variable {X : Cx} {c : Fc} {e : Expr} {es : List Expr} {pos : Pos}
theorem dC {k j : Nat} {ps : List Str} {F : List D -> R D} {x : Str} {p : Pos} {g : M (List D)} (C : qL X.prog X.w X.K X.mg X.base k x ps (spD X.K F)) (hr : yT j X.A) (ha : DA X c (e :: es) g)
  (hk : k <= j := by decide) (hg : Gl X x := by rfl) (hd : (x == ("__debug__" : Str)) = false := by decide) (he : starEach (e :: es) X.env = (false, eval e X.env) :: starEach es X.env := by rfl) (hpl : (backTo pos (starEach es X.env)).any (·.1) = false := by rfl) : DE X c (.Call (.Name x p) (e :: es) [] pos) (ql F g) := by
 obtain ⟨f, fd, G, m, kk, b⟩ := C.ex
 exact qhL G (hr.mono hk) hg m kk b ha hd he hpl
theorem nC {k j : Nat} {ps : List Str} {F : List D -> R D} {x : Str} {p : Pos} {g : M (List D)} (C : qL X.prog X.w X.K X.mg X.base k x ps (spD X.K F)) (hr : yT j X.A) (ha : DA X c (e :: es) g)
  (hk : k <= j := by decide) (hg : Gl X x := by rfl) (hd : (x == ("__debug__" : Str)) = false := by decide) (he : starEach (e :: es) X.env = (false, eval e X.env) :: starEach es X.env := by rfl) (hpl : (backTo pos (starEach es X.env)).any (·.1) = false := by rfl) : DN X c (.Call (.Name x p) (e :: es) [] pos) (qaJ F g) := by
 obtain ⟨f, fd, G, m, kk, b⟩ := C.ex
 exact qhS G (hr.mono hk) hg m kk b ha hd he hpl
theorem iC {k j i : Nat} {ps : List Str} {F : List D -> List D -> R (D × List D)} {x y : Str} {p p1 : Pos} {g : M (List D)} (C : qL X.prog X.w X.K X.mg X.base k x ps (qgG X.K F)) (hr : yT j X.A) (ha : DA X c es g)
  (hk : k <= j := by decide) (hg : Gl X x := by rfl) (ho : i ∈ c.O := by exact of_decide_eq_true rfl) (hN : X.N[i]? = some y := by rfl) (hv : Vis X.env.scope y := by first | exact Or.inl rfl | exact Or.inr (Or.inl rfl) | exact Or.inr (Or.inr rfl)) (hdy : (y == ("__debug__" : Str)) = false := by decide) (hcd : (y == ("__classdict__" : Str)) = false := by decide)
  (hd : (x == ("__debug__" : Str)) = false := by decide) (he : starEach (.Name y p1 :: es) X.env = (false, eval (.Name y p1) X.env) :: starEach es X.env := by rfl) (hpl : (backTo pos (starEach es X.env)).any (·.1) = false := by rfl) : DE X c (.Call (.Name x p) (.Name y p1 :: es) [] pos) (qV F i g) := by
 obtain ⟨f, fd, G, m, kk, b⟩ := C.ex
 exact qel G (hr.mono hk) hg m kk b ha ho hN hv hdy hcd hd he hpl
theorem pC {k j : Nat} {ps : List Str} {F : List D -> R D} {x : Str} {p : Pos} {g : M (List D)} {cl : Str -> Option Addr} (C : qh5 X.prog X.w X.K X.mg X.base k x ps (spX X.K cl F)) (hr : yT j X.A) (ha : DA X c (e :: es) g)
  (hk : k <= j := by decide) (hg : Gl X x := by rfl) (hd : (x == ("__debug__" : Str)) = false := by decide) (he : starEach (e :: es) X.env = (false, eval e X.env) :: starEach es X.env := by rfl) (hpl : (backTo pos (starEach es X.env)).any (·.1) = false := by rfl) : DE X c (.Call (.Name x p) (e :: es) [] pos) (qcN F g) := by
 obtain ⟨f, fd, G, m, kk, b⟩ := C.ex
 exact qfX G (hr.mono hk) hg m kk b ha hd he hpl
theorem lC {k j : Nat} {ps : List Str} {F : List D -> R D} {x : Str} {p : Pos} {g : M (List D)} (hal : ∀ ρ Z H, Rep X.K c ρ Z H -> yr X.A H) (C : qh8 X.prog X.w X.K X.mg X.base k x ps (spD X.K F)) (hr : uA j X.A) (ha : DA X c (e :: es) g)
  (hk : k <= j := by decide) (hg : Gl X x := by rfl) (hd : (x == ("__debug__" : Str)) = false := by decide) (he : starEach (e :: es) X.env = (false, eval e X.env) :: starEach es X.env := by rfl) (hpl : (backTo pos (starEach es X.env)).any (·.1) = false := by rfl) : DE X c (.Call (.Name x p) (e :: es) [] pos) (ql F g) := by
 obtain ⟨f, fd, G, m, kk, b⟩ := C.ex
 exact qf1 hal G (hr.mono hk) hg m kk b ha hd he hpl
theorem gI {x : Str} {i : Int} (h : ∃ t, X.mg x = some (.int i t)) (hg : Gl X x := by rfl) (hd : (x == ("__debug__" : Str)) = false := by decide) : DE X c (.Name x pos) (ret (.int i)) := by
 obtain ⟨t, h⟩ := h
 exact qd7 (v := .int i) (d := .int i) hg h ⟨_, rfl⟩ (fun _ _ => rfl) hd
theorem gT {x : Str} {ns : List Int} (h : ∃ a, X.mg x = some (.ref a) /\ qiR X.K a ns) (hg : Gl X x := by rfl) (hd : (x == ("__debug__" : Str)) = false := by decide) : DE X c (.Name x pos) (ret (.tup (ns.map .int))) := by
 obtain ⟨a, h1, h2⟩ := h
 exact qfW hg h1 h2 hd
end
theorem nd (N : List Str) (h : N.Nodup := by decide +kernel) : N.Nodup := h
theorem cs {X : Cx} (N N' : List Str) (nt : Nat) (fr : List Nat) (outer : Scope) {scope : Scope} (h0 : scope.kind = .function := by rfl) (h1 : ∀ y ∈ scope.names, y.2 ≠ .cell := by decide +kernel) (h2 : ∀ y ∈ scope.names, y.2 = .local -> scope.names.lookup y.1 = some .local := by decide +kernel)
  (h3 : ∀ y ∈ scope.names, y.2 = .free -> outer.names.lookup y.1 = some .cell := by decide +kernel) (h4 : N'.length = nt + fr.length := by rfl) (h5 : ∀ p ∈ fr.zipIdx, N'[nt + p.2]? = N[p.1]? /\ ((N[p.1]?).bind fun x => scope.names.lookup x) = some .free := by decide +kernel)
  (h6 : X.env.scope = outer := by rfl) (h7 : X.N = N := by rfl) : CompScope X scope N' nt fr := qhT.ok (outer := outer) (N := N) ⟨h0, h1, h2, h3, h4, h5⟩ h6 h7
theorem f0 {c : Fc} {nt : Nat} (fr O : List Nat) (e : c.O = O := by rfl) (h : ∀ j ∈ fr, j ∉ O := by decide) : qhK c nt fr none := fun j hj => by rw [e]; exact h j hj
theorem f1 {c : Fc} (nt : Nat) (fr O : List Nat) (i j : Nat) (e : c.O = O := by rfl) (h1 : j ∈ O := by decide) (h2 : nt <= i := by decide) (h3 : fr[i - nt]? = some j := by rfl) (h4 : ∀ p ∈ fr.zipIdx, nt + p.2 ≠ i -> p.1 ∉ O := by decide) : qhK c nt fr (some (i, j)) :=
 qhV (by rw [e]; exact h1) h2 h3 (by rw [e]; exact h4)
section
variable {X : Cx} {c : Fc}
end
end L2.Sk
namespace L2.Sk
open PySem PySem.Spec PyProof.Rows
section
variable {X : Cx} {c : Fc} {a b e : Expr} {pos : Pos}
def qeO (i : Nat) (f : M D) : M D := fun ρ => match zg i ρ with
 | none => .bad
 | some _ => (bnd f fun d ρ => match zg i ρ with
  | some ds => if qI (ds.length + 1) then .ok (.non, ρ.set i (some (.lst (d :: ds)))) else .bad
  | none => .bad) ρ
end
section
variable {prog : Program} {w : World} {A : Around} {E : Value -> Shared -> Prop} {s : Shared}
end
section
variable {X : Cx} {c : Fc} {a e : Expr} {pos : Pos} {tg : Expr}
def qlq : List D -> Option (List D)
 | [.tup xs] => some xs.reverse
 | _ => none
def qmc (f : M (List D)) : M (List D) := bnd f fun ds => lift (qlq ds)
theorem qmd {l : M (List D)} {ρ : Env} : qmc l ρ = match l ρ with | .ok (d, ρ1) => (match qlq d with | some ds => .ok (ds, ρ1) | none => .bad) | .exc x ρ' => .exc x ρ' | .bad => .bad := by
 simp only [qmc, bnd]
 cases l ρ with
 | ok z => obtain ⟨z1, ρ1⟩ := z; (dsimp only; cases qlq z1 <;> rfl)
 | exc x ρ' => rfl
 | bad => rfl
theorem qkl {f : M D} {ρ : Env} (i : Nat) : qeO i f ρ = match zg i ρ with
  | none => .bad
  | some _ => (match f ρ with
   | .ok (d, ρ1) => (match zg i ρ1 with | some ds => (if qI (ds.length + 1) then .ok (.non, ρ1.set i (some (.lst (d :: ds)))) else .bad) | none => .bad)
   | .exc x ρ' => .exc x ρ' | .bad => .bad) := by
 unfold qeO
 cases zg i ρ with
 | none => rfl
 | some z =>
  simp only [bnd]
  cases f ρ with
  | ok z => obtain ⟨z1, ρ1⟩ := z; rfl
  | exc x ρ' => rfl
  | bad => rfl
end
end L2.Sk
namespace HT
open PySem PySem.Spec PyProof.Rows
section
variable {prog : Program} {w : World} {A : Around} {E : Value -> Shared -> Prop} {s : Shared}
end
end HT
namespace L2
open PySem PySem.Spec PyProof.Rows
section
variable {X : Cx} {e : Expr} {te : TE} {ste : Expr} {ts : TO} {pos p2 : Pos}
end
end L2
namespace L2.Sk
open PySem PySem.Spec PyProof.Rows
theorem IsL.rev {K : Fr0} {A : Addr -> Prop} {H : Hp} : ∀ {ds : List D} {xs : List V}, IsL K A H ds xs -> IsL K A H ds.reverse xs.reverse := by
 intro ds
 induction ds with
 | nil =>
  intro xs h
  cases xs with
  | nil => exact h
  | cons x xs => exact absurd h.length (by simp)
 | cons d ds ih =>
  intro xs h
  obtain ⟨x, ys, rfl, h1, h2⟩ := h
  rw [List.reverse_cons, List.reverse_cons]
  have one : IsL K A H [d] [x] := ⟨x, [], rfl, h1, IsL.take 0 h2⟩
  exact IsL.append (ih h2) one
def qlr : D -> Option D
 | .tup ds => some (.tup ds.reverse)
 | .lst ds => some (.lst ds.reverse)
 | _ => none
def qkm (f : M D) : M D := bnd f fun d => lift (qlr d)
section
variable {X : Cx} {c : Fc} {a : Expr} {pos p2 p3 p4 : Pos} {cj : Nat}
theorem qls {f : M D} {ρ : Env} : qkm f ρ = match f ρ with | .ok (d, ρ1) => (match qlr d with | some x => .ok (x, ρ1) | none => .bad) | .exc x ρ' => .exc x ρ' | .bad => .bad := by
 simp only [qkm, bnd]
 cases f ρ with
 | ok z => obtain ⟨z1, ρ1⟩ := z; (dsimp only; cases qlr z1 <;> rfl)
 | exc x ρ' => rfl
 | bad => rfl
end
section
variable {X : Cx} {c : Fc}
end
end L2.Sk
namespace L2
open PySem PySem.Spec PyProof.Rows
def qmS (X : Cx) (Pt : Addr) (q : Str) (params : Arguments) (body : Expr) (scope : Scope) (pos : Pos) : TE := fun _ H Q => H Pt = some (.lam pos q) /\
 ∀ (f c : Addr) (oc : Obj) (vs : Array Value) (t : Tok) (cl : List (Str × Addr)) (pm ctv : Value) (H1 : Hp), zX H H1 -> H1 f = some (.frz (PySem.W.kla_obj "<lambda>" q params body scope cl pm c ctv) (.own f)) -> H1 c = some (.frz oc (.own c)) ->
  oc.data = .fields vs -> vs[1]? = some (.str q t) -> (∀ n a, cl.lookup n = some a -> X.env.cells.lookup n = some a) -> (∀ y ∈ scope.names, y.2 = .free -> ∃ a, cl.lookup y.1 = some a) -> Q (.ref f) H1
section
variable {X : Cx} {pins : List (Addr × Obj)} {Z : St} {H : Hp} {s : Shared}
theorem uU {H : Hp} {a : Addr} {o : HO} (h : H a = none) : zX H (upd H a o) := fun b u q => by rw [qj (qA q h)]; exact q
theorem qkn {c0 Pt : Addr} {q : Str} {params : Arguments} {body : Expr} {scope : Scope} {pos : Pos} (hq : X.env.qual ++ "<lambda>" = q) (hcode : X.env.code = .ref c0) (hC : PySem.W.codeHdIn X.K c0 Pt = true)
  (hfr : ∀ y ∈ scope.names, y.2 = .free -> X.env.kindOf y.1 = some .cell) (hdef : defaultsOf params X.env = ([], [])) : PE X (.Lambda params body scope pos) (qmS X Pt q params body scope pos) := by
 intro pins s Z H Q I ⟨hP, h⟩
 obtain ⟨cl, hcl, cl1, cl2⟩ := Sk.closureFor_ok (env := X.env) (scope := scope) (fun y hy hf => I.ok.has y.1 (.inl (hfr y hy hf)))
 have C : PySem.W.CodeHd s.heap c0 Pt := PySem.W.codeHd_of_K I.kIn hC
 have hg : s.heap.Ns mainGlobals X.mg := I.mod.glob.keeps I.bk
 obtain ⟨bm, ob, b1, b2, b3, b4, b5, b6⟩ := I.mod.bm
 have b3' := I.bk _ _ b3
 have hPo : ∃ ps, s.heap.get? Pt = some (PySem.W.tabObj ps) := by
  rcases I.hok Pt _ hP with e | ⟨_, _, _, _, _, _, _, e⟩
  ·exact ⟨_, e⟩
  ·exact ⟨_, e⟩
 obtain ⟨ps0, hPo⟩ := hPo
 have hgP : mainGlobals ≠ Pt := fun z => by
  obtain ⟨o, es, ep, e, hd, _⟩ := hg
  rw [z, hPo] at e; cases e; cases hd
 have hbP : bm ≠ Pt := fun z => by rw [z, hPo] at b3'; cases b3'; cases b4
 have hbG : bm ≠ mainGlobals := fun z => by
  obtain ⟨o, es, ep, e, hd, _⟩ := hg
  rw [z, e] at b3'; cases b3'; rw [hd] at b6; cases b6
 have hB : s.heap.BuiltinsAt X.mg Pt := ⟨bm, ob, b1, b2, hbG, hbP, b3', b4, b5, b6⟩
 refine PySem.W.kla_eval hdef ?_
 rw [hq]
 rcases I.hok Pt _ hP with e | ⟨c', oc, vs, t, h1, h2, h3, e⟩
 ·refine PySem.W.kla_makeFunction hcl I.ok.glob hg hcode C e trivial rfl hgP hB fun c' ctv h' tk hx hge hlt hrec htb => ?_
  obtain ⟨c2, oc, vs, t, e2, hoc, hd, hv⟩ := hrec
  cases e2
  have htb' : h'.get? Pt = some { cls := .none, data := .fields #[rawInt pos.line, rawInt pos.col, .ref c'] } := by simpa using htb
  have hHc : H c' = none := I.hok.fresh hge
  have hsz : s.heap.objs.size <= h'.objs.size := Nat.le_trans hge (Nat.le_of_lt hlt)
  have hHf : H h'.objs.size = none := I.hok.fresh hsz
  have hfc : h'.objs.size ≠ c' := Nat.ne_of_gt hlt
  have hH2f : upd H c' (.frz oc (.own c')) h'.objs.size = none := by rw [qj hfc]; exact hHf
  let fo : Obj := PySem.W.kla_obj "<lambda>" q params body scope cl ((X.mg "__name__").getD .none) c' ctv
  have sm : zX H (upd (upd H c' (.frz oc (.own c'))) h'.objs.size (.frz fo (.own h'.objs.size))) := fun b u z => uU hH2f b u (uU hHc b u z)
  have keep : ∀ b o, b ≠ Pt -> s.heap.get? b = some o -> (h'.push fo).get? b = some o := fun b o hb z => Heap.get?_push_of_some _ (hx b o hb z)
  have nP : ∀ b, H b = none -> b ≠ Pt := fun b z w => by rw [w, hP] at z; cases z
  have un : Un X.fs [] H (upd (upd H c' (.frz oc (.own c'))) h'.objs.size (.frz fo (.own h'.objs.size))) s.heap (h'.push fo) := by
   refine ⟨fun b o z n _ _ => keep b o (nP b n) z, fun b o z n _ _ => ⟨o.slots, keep b o (nP b n) z⟩, fun b o z n _ => ?_, fun b o z _ => ?_, fun b xs z => sm _ _ z, fun b o u z => sm _ _ z, fun b p u z => sm _ _ z⟩
   ·have hlt2 := Heap.lt_size z
    rw [qj (Nat.ne_of_lt (Nat.lt_of_lt_of_le hlt2 hsz)), qj (Nat.ne_of_lt (Nat.lt_of_lt_of_le hlt2 hge))]
    exact n
   ·by_cases hb : b = Pt
    ·exact ⟨_, by rw [hb]; exact Heap.get?_push_of_some _ htb'⟩
    ·exact ⟨o, keep b o hb z⟩
  have hf1 : (upd (upd H c' (.frz oc (.own c'))) h'.objs.size (.frz fo (.own h'.objs.size))) c' = some (.frz oc (.own c')) := by rw [qj hfc.symm, qo]
  have hok : HOk X.prog X.w (upd (upd H c' (.frz oc (.own c'))) h'.objs.size (.frz fo (.own h'.objs.size))) (h'.push fo) := fun b u z => by
   by_cases hb1 : b = h'.objs.size
   ·subst hb1
    rw [qo] at z; cases z
    exact ⟨Heap.get?_push_size _ rfl, _, Heap.get?_push_size _ rfl⟩
   ·rw [qj hb1] at z
    by_cases hb2 : b = c'
    ·subst hb2
     rw [qo] at z; cases z
     exact ⟨Heap.get?_push_of_some _ hoc, _, Heap.get?_push_of_some _ hoc⟩
    ·rw [qj hb2] at z
     by_cases hb3 : b = Pt
     ·subst hb3
      rw [hP] at z; cases z
      exact .inr ⟨c', oc, vs, t, hf1, hd, hv, Heap.get?_push_of_some _ htb'⟩
     ·refine (I.hok b u z).stay (fun c v hc r => keep c v (fun w => ?_) r) (fun c r => sm _ _ r) (fun c xs r => sm _ _ r) fun c o y r => sm _ _ r
      rcases hc with hc | hc
      ·exact hb3 (hc ▸ w)
      ·rw [w, hP] at hc; cases hc
  exact ⟨.ref h'.objs.size, _, I.un un hok, rfl, h h'.objs.size c' oc vs t cl ((X.mg "__name__").getD .none) ctv _ sm qo hf1 hd hv cl1 cl2⟩
 ·have ht : TriplesOk (#[rawInt pos.line, rawInt pos.col, .ref c'] : Array Value).toList := trivial
  have hf : codeAmong pos (#[rawInt pos.line, rawInt pos.col, .ref c'] : Array Value).toList = some (.ref c') := by
   show (if ((pos.line : Int) == pos.line && (pos.col : Int) == pos.col) = true then _ else _) = _
   rw [if_pos (by simp)]
  refine PySem.W.kla_makeFunctionHit hcl I.ok.glob hg hcode C e ht hf hB fun ctv h' tk hk hsz => ?_
  have hHf : H h'.objs.size = none := I.hok.fresh hsz
  have J := I.laid (t' := tk) (o := .frz (PySem.W.kla_obj "<lambda>" q params body scope cl ((X.mg "__name__").getD .none) c' ctv) (.own h'.objs.size)) (fun b o z => Heap.get?_push_of_some _ (hk b o z)) hsz
   (show jQ X.prog X.w _ (h'.push (PySem.W.kla_obj "<lambda>" q params body scope cl ((X.mg "__name__").getD .none) c' ctv)) h'.objs.size (.frz _ (.own _)) from ⟨Heap.get?_push_size _ rfl, _, Heap.get?_push_size _ rfl⟩)
  exact ⟨.ref h'.objs.size, _, J, rfl, h h'.objs.size c' oc vs t cl ((X.mg "__name__").getD .none) ctv _ (uU hHf) qo (uU hHf _ _ h1) h2 h3 cl1 cl2⟩
def qeP (X : Cx) (N' : List Str) (q : Str) (scope : Scope) (cl : List (Str × Addr)) (f c : Addr) (A : Around) (s : Shared) (H : Hp) : Cx where
 prog := X.prog
 w := X.w
 K := X.K
 mg := X.mg
 base := X.base
 A := A.deeper (PySem.W.envX q scope s.heap.objs.size f (.ref c) cl)
 N := N'
 s₀ := s
 H₀ := H
 env := PySem.W.envX q scope s.heap.objs.size f (.ref c) cl
 outer := X.stack
 stack := PySem.W.envX q scope s.heap.objs.size f (.ref c) cl :: X.stack
 ex := []
 fn := fun _ => false
 calm := true
 pn := []
 xe := fun _ _ => False
theorem qeQ {N' : List Str} {fr : List Nat} {q x : Str} {scope : Scope} {cl : List (Str × Addr)} {f c : Addr} {A : Around} {h1 : Heap} {tk : Nat} {v : V} {u : Value} {ws : List V} (S : Sk.CompScope X scope N' 1 fr) (I : Inv X pins Z H s)
  (cl1 : ∀ n a, cl.lookup n = some a -> X.env.cells.lookup n = some a) (cl2 : ∀ y ∈ scope.names, y.2 = .free -> ∃ a, cl.lookup y.1 = some a) (hA : A.handled = none) (hAf : A.frames = some X.stack)
  (hx : N'[0]? = some x) (hxl : scope.names.lookup x = some .local) (rv : jf v u) (hwl : ws.length = fr.length) (hws : ∀ (k j : Nat), fr[k]? = some j -> ∃ y, ws[k]? = some y /\ Z[j]? = some (some y))
  (hns : h1.Ns s.heap.objs.size fun y => ([(x, u)] : List (Str × Value)).reverse.lookup y) (old : ∀ b o, s.heap.get? b = some o -> h1.get? b = some o) :
  Inv (qeP X N' q scope cl f c A s H) [] (zx N' (v :: ws)) H { s with heap := h1, toks := tk } := by
 have noA : ∀ b : Addr, b ∉ (qeP X N' q scope cl f c A s H).ex := fun b z => absurd (show b ∈ ([] : List Addr) from z) (by simp)
 have hN : N'.length = (v :: ws).length := by rw [S.len, lC_, hwl]; omega
 have hst : zx N' (v :: ws) = (v :: ws).map some := by
  unfold zx
  rw [hN, Nat.sub_self]
  simp
 refine ⟨⟨I.ok.mod, S.kind, rfl, rfl, Nat.le_refl _, fun x y c h1 h2 => I.ok.inj x y c (cl1 x c h1) (cl1 y c h2), fun y hy => ?_, fun y c hy => ?_, fun _ => hA, Around.frames_deeper hAf, .inr ⟨rfl, rfl⟩, fun b z => absurd z (noA b), I.bs, Nat.le_trans I.ok.bsz I.sz, fun b _ _ => noA b, fun b z => absurd z (noA b), I.stack, I.stkFree⟩,
  rfl, I.bare, Un.kept old, ⟨_, hns, fun i y w e1 e2 e3 => ?_⟩, fun y c hy => ?_, I.hok.fresh (Nat.le_refl _), fun y c hy => I.freeC y c (cl1 y c hy), fun p hp => absurd (show p ∈ ([] : List (Addr × Obj)) from hp) (by simp), I.hok.kept old, ?_⟩
 ·have hy : scope.names.lookup y = some .cell \/ scope.names.lookup y = some .free := hy
  rcases hy with hy | hy
  ·exact absurd rfl (S.nocell _ (PySem.mem_of_lookup hy))
  ·exact cl2 (y, .free) (PySem.mem_of_lookup hy) rfl
 ·have hy' : false = true := hy
  cases hy'
 ·rw [hst] at e2
  cases i with
  | zero =>
   have e1' : N'[0]? = some y := e1
   rw [hx] at e1'; cases e1'
   have e2' : some v = some w := by simpa using e2
   cases e2'
   refine ⟨u, rv, .inl ⟨hxl, ?_⟩⟩
   simp
  | succ i =>
   have e2' : ws[i]? = some w := by simpa using e2
   have hi : i < fr.length := by rw [<- hwl]; exact (gI_.mp e2').1
   obtain ⟨j, hj⟩ : ∃ j, fr[i]? = some j := ⟨_, gG hi⟩
   obtain ⟨y', g1, g2⟩ := hws i j hj
   rw [e2'] at g1; cases g1
   obtain ⟨z, z1, z2, z3⟩ := S.slot i j hj
   have hz : z = y := by
    have e1' : N'[i + 1]? = some y := e1
    rw [Nat.add_comm 1 i, e1'] at z1
    exact (Option.some.inj z1).symm
   subst hz
   have hmem : (z, NameKind.free) ∈ scope.names := PySem.mem_of_lookup z3
   have hck : X.env.kindOf z = some .cell := S.frees (z, .free) hmem rfl
   obtain ⟨m0, hn0, hl0⟩ := I.loc
   obtain ⟨u', ru, lk⟩ := hl0 j z w z2 g2 (.inr (.inl hck))
   refine ⟨u', ru, .inr ⟨.inr z3, ?_⟩⟩
   rcases lk with ⟨k1, _⟩ | ⟨_, c', e, y1⟩
   ·rw [hck] at k1; cases k1
   ·obtain ⟨a, ea⟩ := cl2 (z, .free) hmem rfl
    have ea' := cl1 z a ea
    rw [e] at ea'
    cases ea'
    obtain ⟨o, ho, hd⟩ := y1
    exact ⟨c', ea, o, old _ _ ho, hd⟩
 ·obtain ⟨w, o, ho, hd⟩ := I.cell y c (cl1 y c hy)
  exact ⟨w, o, old _ _ ho, hd⟩
 ·rw [hst, lM_, <- hN]; rfl
theorem qf5 {N' : List Str} {fr : List Nat} {q x : Str} {params : Arguments} {body : Expr} {scope : Scope} {cl : List (Str × Addr)} {f c : Addr} {oc : Obj} {vs : Array Value} {t : Tok} {pm ctv : Value} {A : Around} {v : V} {u : Value} {ws : List V} {te : TE} {Q : VK}
  (S : Sk.CompScope X scope N' 1 fr) (I : Inv X pins Z H s) (hf : H f = some (.frz (PySem.W.kla_obj "<lambda>" q params body scope cl pm c ctv) (.own f))) (hc : H c = some (.frz oc (.own c))) (hd : oc.data = .fields vs) (hv : vs[1]? = some (.str q t))
  (cl1 : ∀ n a, cl.lookup n = some a -> X.env.cells.lookup n = some a) (cl2 : ∀ y ∈ scope.names, y.2 = .free -> ∃ a, cl.lookup y.1 = some a) (hA : A.handled = none) (hAf : A.frames = some X.stack) (hdp : A.depth < recursionLimit)
  (hb : ∀ u, bindArgs (PySem.W.kla_fn "<lambda>" q params body scope cl pm (.ref c) ctv) ⟨[u], []⟩ = pure [(x, u)])
  (hx : N'[0]? = some x) (hxl : scope.names.lookup x = some .local) (hco : scope.isCoroutine = false) (hgen : scope.isGenerator = false)
  (rv : jf v u) (hwl : ws.length = fr.length) (hws : ∀ (k j : Nat), fr[k]? = some j -> ∃ y, ws[k]? = some y /\ Z[j]? = some (some y))
  (he : PE (qeP X N' q scope cl f c A s H) body te) (hq : te (zx N' (v :: ws)) H Q) : wpAny (model X.prog X.w) A (call (.ref f) [u]) (CE X.stack X.prog X.w H s Q) (fun _ _ => False) s := by
 refine wpAny_call (PySem.W.kla_callFunE hdp (I.hok f _ hf).1 rfl hco hgen rfl ⟨c, oc, vs, t, rfl, (I.hok c _ hc).1, hd, hv⟩ ?_)
 rw [hb]
 refine wpAny_pure (wpAny_newFunctionEnv S.nocell (fun y hy => ?_) (fun h1 hns hsb => ⟨I.nolimit.fresh _ hsb, ?_⟩) S.kind)
 ·have e : y = (x, u) := by simpa using hy
  rw [e]; exact hxl
 ·show codeAny _ _ (.expr body (PySem.W.envX q scope s.heap.objs.size f (.ref c) cl)) _ _
  have old : ∀ b o, s.heap.get? b = some o -> h1.get? b = some o := fun b o e => hsb.extBut b o (Nat.ne_of_lt (Heap.lt_size e)) (Heap.get?_push_of_some _ e)
  have J := qeQ (q := q) (f := f) (c := c) (h1 := h1) (tk := s.toks + ([(x, u)] : List (Str × Value)).length) S I cl1 cl2 hA hAf hx hxl rv hwl hws hns old
  exact PySem.W.kla_codeExpr (wpAny_mono (he [] _ _ H Q J hq) (fun v' s' ⟨y, H', J', r', q'⟩ => ⟨y, H', J'.os, J'.bare, J'.base, J'.hok, r', q'⟩) fun _ _ z => z.elim)
end
end L2
namespace L2.Srt
open PySem PySem.W PyProof.Rows
def yB {α : Type} (cmp : Nat -> Nat -> Bool) : KasT α -> α
 | .ret a => a
 | .ask i j k => yB cmp (k (cmp i j))
theorem yt {α β : Type} {cmp : Nat -> Nat -> Bool} {f : α -> KasT β} : ∀ t : KasT α, yB cmp (t.bind f) = yB cmp (f (yB cmp t))
 | .ret _ => rfl
 | .ask i j k => yt (k (cmp i j))
def vN {α : Type} (n : Nat) (R : α -> Prop) : KasT α -> Prop
 | .ret a => R a
 | .ask i j k => i < n /\ j < n /\ ∀ b, vN n R (k b)
theorem vN.bind {α β : Type} {n : Nat} {R : α -> Prop} {R' : β -> Prop} {f : α -> KasT β} (hf : ∀ a, R a -> vN n R' (f a)) : ∀ {t : KasT α}, vN n R t -> vN n R' (t.bind f)
 | .ret _, h => hf _ h
 | .ask _ _ _, ⟨h1, h2, h3⟩ => ⟨h1, h2, fun b => vN.bind hf (h3 b)⟩
theorem vN.run {α : Type} {n : Nat} {R : α -> Prop} {cmp : Nat -> Nat -> Bool} : ∀ {t : KasT α}, vN n R t -> R (yB cmp t)
 | .ret _, h => h
 | .ask i j k, h => vN.run (t := k (cmp i j)) (h.2.2 (cmp i j))
def Pl (n : Nat) (p : Array Nat) : Prop := p.size = n /\ p.toList.Perm (List.range n)
theorem Pl.of_perm {n : Nat} {p q : Array Nat} (h : Pl n p) (hq : q.Perm p) : Pl n q := ⟨hq.size_eq.trans h.1, (Array.perm_iff_toList_perm.mp hq).trans h.2⟩
theorem Pl.lt {n : Nat} {p : Array Nat} (h : Pl n p) (hn : 0 < n) (k : Nat) : p.getD k 0 < n := by
 by_cases hk : k < p.size
 ·have e : p.getD k 0 = p[k] := by simp [Array.getD, hk]
  rw [e]
  have hm : p[k] ∈ p.toList := by simp
  exact mR_.mp (h.2.mem_iff.mp hm)
 ·have e : p.getD k 0 = 0 := by simp [Array.getD, hk]
  rw [e]; exact hn
theorem Pl.rev {n : Nat} {p : Array Nat} (h : Pl n p) (i j : Nat) : Pl n (kas_rev p i j) := h.of_perm (mirror_perm _ _ _ _)
theorem qaO {n : Nat} (hn : 0 < n) {p : Array Nat} (h : Pl n p) : ∀ f m, vN n (fun _ => True) (kas_asc p f m)
 | 0, _ => True.intro
 | f + 1, m => ⟨h.lt hn _, h.lt hn _, fun c => by
  dsimp only
  split
  ·exact True.intro
  ·exact qaO hn h f (m + 1)⟩
theorem uV {n : Nat} (hn : 0 < n) : ∀ f {p : Array Nat} (_ : Pl n p) m q, vN n (fun r => Pl n r.1) (kas_desc f p m q)
 | 0, _, h, _, _ => h
 | f + 1, p, h, m, q => ⟨h.lt hn _, h.lt hn _, fun c => by
  dsimp only
  split
  ·split
   ·exact uV hn f (h.rev _ _) _ _
   ·exact uV hn f h _ _
  ·refine ⟨h.lt hn _, h.lt hn _, fun d => ?_⟩
   dsimp only
   split
   ·exact h
   ·exact uV hn f h _ _⟩
theorem qao {n : Nat} (hn : 0 < n) {p : Array Nat} (h : Pl n p) (m nrem : Nat) : vN n (fun r => Pl n r.2) (kas_tail3 m nrem p) :=
 vN.bind (R := fun _ => True) (n := n) (R' := fun r : Nat × Array Nat => Pl n r.2) (f := fun k => .ret (k, kas_rev p 0 m)) (fun _ _ => h.rev 0 m) (qaO hn (h.rev _ _) _ _)
theorem uW {n : Nat} (hn : 0 < n) {p : Array Nat} (h : Pl n p) (m nrem : Nat) : vN n (fun r => Pl n r.2) (kas_descPart m nrem p) :=
 vN.bind (R := fun r => Pl n r.1) (fun r hr => by
  split
  ·exact qao hn (hr.rev _ _) _ _
  ·exact qao hn hr _ _) (uV hn _ h _ _)
theorem qdy {n : Nat} (hn : 0 < n) {p : Array Nat} (h : Pl n p) (nrem : Nat) : vN n (fun r => Pl n r.2) (kas_count nrem p) :=
 vN.bind (R := fun _ => True) (fun m _ => by
  split
  ·exact h
  ·split
   ·refine ⟨h.lt hn _, h.lt hn _, fun c => ?_⟩
    dsimp only
    split
    ·exact h
    ·exact uW hn (h.rev _ _) _ _
   ·exact uW hn h _ _) (qaO hn h _ _)
theorem vd {n : Nat} (hn : 0 < n) {p : Array Nat} (h : Pl n p) (k : Nat) : ∀ f l r, vN n (fun _ => True) (kas_place p k f l r)
 | 0, _, _ => True.intro
 | f + 1, l, r => by
  unfold kas_place
  split
  ·exact True.intro
  ·refine ⟨h.lt hn _, h.lt hn _, fun c => ?_⟩
   dsimp only
   split
   ·exact vd hn h k f _ _
   ·exact vd hn h k f _ _
theorem qcR {n : Nat} (hn : 0 < n) : ∀ f {p : Array Nat} (_ : Pl n p) k, vN n (Pl n) (kas_bin f p k)
 | 0, _, h, _ => h
 | f + 1, p, h, k => vN.bind (R := fun _ => True) (fun l _ => qcR hn f (h.of_perm (bubble_perm _ _ _)) _) (vd hn h k _ _ _)
theorem fits_sort {n : Nat} (hn : 0 < n) : vN n (Pl n) (kas_sort n) :=
 vN.bind (R := fun r => Pl n r.2) (fun r hr => by
  split
  ·exact qcR hn _ hr _
  ·exact hr) (qdy hn ⟨by simp, by simp⟩ _)
def ord (ks : List Int) : List Nat := if ks.length < 2 then List.range ks.length else (yB (fun i j => decide (ks.getD i 0 < ks.getD j 0)) (kas_sort ks.length)).toList
theorem ord_perm (ks : List Int) : (ord ks).Perm (List.range ks.length) := by
 unfold ord
 split
 ·exact .refl _
 ·exact (vN.run (fits_sort (by omega))).2
def qko {α : Type} [Inhabited α] (ks : List Int) (xs : List α) : List α := (ord ks).map fun i => xs.getD i default
theorem map_getD_range {α : Type} (d : α) (xs : List α) : (List.range xs.length).map (fun i => xs.getD i d) = xs := by
 refine List.ext_getElem (by simp) fun i h1 h2 => ?_
 simp at h1 |-
 simp [h1]
theorem byKeys_perm {α : Type} [Inhabited α] {ks : List Int} {xs : List α} (h : ks.length = xs.length) : (qko ks xs).Perm xs := by
 have := (ord_perm ks).map fun i => xs.getD i default
 rw [h, map_getD_range] at this
 exact this
section
variable {prog : Program} {w : World} {A : Around} {s : Shared}
theorem qby {vs : List Value} {ks : List Int} (hk : IntsAre vs ks) {i : Nat} (hi : i < ks.length) : ∃ t, vs.getD i Value.none = .int (ks.getD i 0) t := by
 obtain ⟨t, e⟩ := hk.get i ks[i] (gG hi)
 exact ⟨t, by simp [List.getD, e, hi]⟩
theorem wp_run {α : Type} {vs : List Value} {ks : List Int} {R : α -> Prop} {G : α -> Shared -> Prop} (hk : IntsAre vs ks) : ∀ {t : KasT α}, vN ks.length R t -> G (yB (fun i j => decide (ks.getD i 0 < ks.getD j 0)) t) s -> t.kasWp (kas_ask prog w A oneType' vs) G s
 | .ret _, _, h => h
 | .ask i j k, ⟨h1, h2, h3⟩, h => by
  obtain ⟨t1, e1⟩ := qby hk h1
  obtain ⟨t2, e2⟩ := qby hk h2
  show wpAny (model prog w) A (keyLt' oneType' (vs.getD i Value.none) (vs.getD j Value.none)) _ _ s
  rw [e1, e2]
  exact kat_lt_int (wp_run hk (h3 _) h)
end
end L2.Srt
set_option maxHeartbeats 1000000
namespace L2
open PySem PySem.Spec PyProof.Rows
structure SS (X : Cx) (H0 : Hp) (s0 : Shared) (H : Hp) (s : Shared) : Prop where
 os : s.os = s0.os
 bare : AllBare s.gens
 un : Un (frs X.stack) [] H0 H s0.heap s.heap
 hok : HOk X.prog X.w H s.heap
 same : zX H0 H
section
variable {X : Cx} {pins : List (Addr × Obj)} {Z : St} {H0 H : Hp} {s0 s : Shared} {h' : Heap} {b a kS : Addr}
theorem SS.inv (z : SS X H0 s0 H s) (I : Inv X pins Z H0 s0) : Inv X pins Z H s := by
 obtain ⟨hh, g, d, t, os'⟩ := s
 obtain rfl : os' = s0.os := z.os
 exact I.call (h' := hh) (g' := g) (d' := d) (t' := t) (ch := []) z.un z.hok z.bare (fun b z => absurd z (by simp))
theorem SS.of (I : Inv X pins Z H s) : SS X H s H s := ⟨rfl, I.bare, .refl, I.hok, fun _ _ h => h⟩
theorem SS.kept (z : SS X H0 s0 H s) (k : ∀ b u, s.heap.get? b = some u -> h'.get? b = some u) (tk : Nat) : SS X H0 s0 H { s with heap := h', toks := tk } :=
 ⟨z.os, z.bare, z.un.trans (Un.kept k), z.hok.kept k, z.same⟩
theorem SS.poke (z : SS X H0 s0 H s) (hb : H b = none) (hb0 : s0.heap.objs.size <= b) (sb : Heap.SameBut b s.heap h') (tk : Nat) : SS X H0 s0 H { s with heap := h', toks := tk } := by
 have ne : ∀ c o, s0.heap.get? c = some o -> c ≠ b := fun c o e => Nat.ne_of_lt (Nat.lt_of_lt_of_le (Heap.lt_size e) hb0)
 refine ⟨z.os, z.bare, ⟨fun c o e n f x => (sb.2 c (ne c o e)).trans (z.un.keep c o e n f x), fun c o e n f x => ?_, z.un.free, fun c o e x => ?_, z.un.tups, z.un.frzs, z.un.tbls⟩, fun c u q => ?_, z.same⟩
 ·obtain ⟨sl, q⟩ := z.un.slot c o e n f x
  exact ⟨sl, (sb.2 c (ne c o e)).trans q⟩
 ·obtain ⟨o', q⟩ := z.un.there c o e x
  exact ⟨o', (sb.2 c (ne c o e)).trans q⟩
 ·refine (z.hok c u q).stay (fun d v hd r => (sb.2 d ?_).trans r) (fun _ q => q) fun _ _ q => q
  rintro rfl
  rcases hd with rfl | hd
  ·rw [hb] at q; cases q
  ·rw [hb] at hd; cases hd
theorem SS.call {Q : VK} {u : Value} {s' : Shared} (z : SS X H0 s0 H s) (h : CE X.stack X.prog X.w H s Q u s') (hq : ∀ v H', Q v H' -> zX H H') : ∃ v H', jf v u /\ Q v H' /\ SS X H0 s0 H' s' /\ Un (frs X.stack) [] H H' s.heap s'.heap := by
 obtain ⟨v, H', os, bare, un, hok, r, q⟩ := h
 exact ⟨v, H', r, q, ⟨os.trans z.os, bare, z.un.trans un, hok, fun b o e => hq v H' q b o (z.same b o e)⟩, un⟩
end
section
variable {X : Cx} {H0 H : Hp} {s0 s : Shared} {a kS : Addr} {A : Around} {E : Value -> Shared -> Prop} {f : Value} {vs : List Value} {ks : List Int} {e1 : Nat} {P : PySem.Fin -> Shared -> Prop}
abbrev qid (ks : List Int) (vs : List Value) : List Value := (Srt.ord ks).map fun i => vs.getD i Value.none
theorem qcS (h : ks.length = vs.length) : (qid ks vs).length = vs.length := by
 rw [lM_, (Srt.ord_perm ks).length_eq, lR_, h]
abbrev qie (X : Cx) (H0 : Hp) (s0 : Shared) (A : Around) (f v : Value) (k : Int) : Prop := ∀ s' H', SS X H0 s0 H' s' ->
 wpAny (model X.prog X.w) A (call f [v]) (fun u s2 => (∃ t, u = .int k t) /\ ∃ H2, SS X H0 s0 H2 s2 /\ Un (frs X.stack) [] H' H2 s'.heap s2.heap) (fun _ _ => False) s'
abbrev qcT (X : Cx) (H0 : Hp) (s0 : Shared) (a : Addr) (out : List Value) (P : PySem.Fin -> Shared -> Prop) : Prop :=
 ∀ H' s' c, SS X H0 s0 H' s' -> H' a = none -> s'.heap.get? a = some (seqObj "list" out.toArray c) -> P (.done (.ret .none)) s'
theorem qcU {st : SortSt} {out : List Value} {kA : Array Value} {e : Nat} (z : SS X H0 s0 H s) (gk : s.heap.get? kS = some (seqObj "list" kA e)) (ga : s.heap.get? a = some (seqObj "list" #[] e1)) (nk : H kS = none) (na : H a = none)
  (lk : s0.heap.objs.size <= kS) (la : s0.heap.objs.size <= a) (hka : kS ≠ a) (hkz : kA.size < 64) (hoz : out.length < 64) (ho : (arrOf st).map (·.2) = out.toArray) (hf : failedOf st = none) (fin : qcT X H0 s0 a out P) :
  wpAny (model X.prog X.w) A (ksk_tail a false e1 (.ref kS) st) P E s := by
 have sb1 := Heap.SameBut.update s.heap kS (Obj.mapSeq fun _ => (#[] : Array Value))
 have ga1 := (sb1.2 a hka.symm).trans ga
 have z1 := z.poke nk lk sb1 s.toks
 have sb2 := Heap.SameBut.update (s.heap.update kS (Obj.mapSeq fun _ => (#[] : Array Value))) a (Obj.mapSeq fun _ => out.toArray)
 have z2 := z1.poke na la sb2 s.toks
 unfold ksk_tail
 dsimp only
 rw [ho]
 refine wpAny_bind (listUpdate_at gk rfl ?_ (by rw [sizeLine_eq]; omega) (Nat.zero_le _))
 refine wpAny_bind (wpAny_letGo (wpAny_bind (seqEpoch_at ga1 rfl ?_)))
 refine wpAny_bind (listUpdate_at ga1 rfl ?_ (Nat.zero_le _) (by show (out.toArray).size <= _; rw [sT_, sizeLine_eq]; omega))
 rw [hf]
 simp only [bne_self_eq_false, Bool.false_eq_true, if_false]
 exact wpAny_pure (fin H _ _ z2 na (get?_update_seq ga1 fun _ => out.toArray))
theorem qif {kA : Array Value} {e : Nat} (z : SS X H0 s0 H s) (gk : s.heap.get? kS = some (seqObj "list" kA e)) (ga : s.heap.get? a = some (seqObj "list" #[] e1)) (nk : H kS = none) (na : H a = none)
  (lk : s0.heap.objs.size <= kS) (la : s0.heap.objs.size <= a) (hka : kS ≠ a) (hk : IntsAre kA.toList ks) (hlen : ks.length = vs.length) (h64 : vs.length < 64) (fin : qcT X H0 s0 a (qid ks vs) P) :
  wpAny (model X.prog X.w) A (ksk_end a false vs.toArray e1 (.ref kS) kA) P E s := by
 have hkz : kA.size = vs.length := by
  have h1 := hk.length
  rw [Array.length_toList] at h1
  omega
 unfold ksk_end
 dsimp only
 rw [if_neg (by decide)]
 by_cases h2 : vs.length < 2
 ·have h2' : vs.toArray.size < 2 := by rw [sT_]; exact h2
  rw [if_pos h2', if_pos h2']
  refine wpAny_bind (wpAny_pure ?_)
  rw [StateT.run_pure]
  refine wpAny_bind (wpAny_pure ?_)
  dsimp only
  refine qcU z gk ga nk na lk la hka (by omega) (by rw [qcS hlen]; exact h64) ?_ rfl fin
  have e0 : qid ks vs = vs := by
   show (Srt.ord ks).map _ = vs
   unfold Srt.ord
   rw [if_pos (by omega), hlen]
   exact Srt.map_getD_range _ vs
  rw [e0]
  apply Array.toList_inj.mp
  show ((kA.zip vs.toArray).map (·.2)).toList = vs.toArray.toList
  rw [Array.toList_map, ksk_zip, List.map_snd_zip (Nat.le_of_eq (by rw [Array.length_toList]; exact hkz.symm))]
 ·have h2' : ¬ vs.toArray.size < 2 := by rw [sT_]; exact h2
  rw [if_neg h2', if_neg h2', ksk_kind hk (by omega)]
  refine wpAny_bind (wpAny_pure ?_)
  have ekA : kA = kA.toList.toArray := by simp
  rw [ekA]
  have hl : kA.toList.length = vs.length := by rw [Array.length_toList]; exact hkz
  refine wpAny_bind (wpAny_mono (PySem.W.kat_run (Q := fun st' s' => s' = s /\ (arrOf st').map (·.2) = (qid ks vs).toArray /\ failedOf st' = none) (G := fun p s' => s' = s /\ p.toList = Srt.ord ks) hl (by omega) h64 (fun p st' s' a1 a2 a3 a4 => ?_) ?_) ?_ fun _ _ x => x)
  ·refine ⟨a4.1, ?_, a3⟩
   rw [PySem.W.kat_snds hl a2, a4.2]
  ·have ft := Srt.fits_sort (n := ks.length) (by omega)
   rw [<- hlen]
   refine Srt.wp_run hk ft ⟨rfl, ?_⟩
   unfold Srt.ord
   rw [if_neg (by omega)]
  ·rintro ⟨⟨⟩, st'⟩ s' ⟨rfl, h3, h4⟩
   dsimp only
   exact qcU z gk ga nk na lk la hka (by omega) (by rw [qcS hlen]; exact h64) h3 h4 fin
theorem qf6 (z : SS X H0 s0 H s) (gk : s.heap.get? kS = some (seqObj "list" #[] 0)) (ga : s.heap.get? a = some (seqObj "list" #[] e1)) (nk : H kS = none) (na : H a = none)
  (lk : s0.heap.objs.size <= kS) (la : s0.heap.objs.size <= a) (hka : kS ≠ a) (hlen : ks.length = vs.length) (h64 : vs.length < 64) (hfr : ∀ b ∈ frs X.stack, b < s0.heap.objs.size)
  (turn : ∀ (i : Nat) (v : Value) (k : Int), vs[i]? = some v -> ks[i]? = some k -> qie X H0 s0 A f v k) (fin : qcT X H0 s0 a (qid ks vs) P) : wpAny (model X.prog X.w) A (ksk_rest a f false vs.toArray e1 (.ref kS)) P E s := by
 have nf : ∀ c, s0.heap.objs.size <= c -> c ∉ frs X.stack := fun c hc hm => absurd (Nat.lt_of_lt_of_le (hfr c hm) hc) (Nat.lt_irrefl _)
 unfold ksk_rest
 refine wpAny_bind (wpAny_rule ?_)
 rw [List.forIn_toArray]
 refine wpAny_bind (ksk_fold (fun i s' => ∃ H' kA e, SS X H0 s0 H' s' /\ H' kS = none /\ H' a = none /\ s'.heap.get? kS = some (seqObj "list" kA e) /\ s'.heap.get? a = some (seqObj "list" #[] e1) /\ IntsAre kA.toList (ks.take i)) vs 0 s
  ⟨H, #[], 0, z, nk, na, gk, ga, by simpa using IntsAre.nil⟩ ?step ?done)
 case step =>
  rintro j x s' hx ⟨H', kA, e, z', k1, a1, g1, g2, hi⟩
  rw [Nat.zero_add] at hi |-
  have hj : j < vs.length := (gI_.mp hx).1
  obtain ⟨k, hkj⟩ : ∃ k, ks[j]? = some k := ⟨_, gG (by omega)⟩
  have hz : kA.size <= vs.length := by
   have h1 := hi.length
   rw [Array.length_toList, List.length_take] at h1
   omega
  refine wpAny_bind (wpAny_attempt (wpAny_mono (turn j x k hx hkj s' H' z') (fun v s2 hv => ?_) fun _ _ hF => hF.elim))
  obtain ⟨⟨t, rfl⟩, H2, z2, u2⟩ := hv
  dsimp only
  have gk2 := u2.keep kS _ g1 k1 (nf kS lk) (by simp)
  have ga2 := u2.keep a _ g2 a1 (nf a la) (by simp)
  have nk2 := u2.free kS _ g1 k1 (by simp)
  have na2 := u2.free a _ g2 a1 (by simp)
  have sb := Heap.SameBut.update s2.heap kS (Obj.mapSeq (·.push (.int k t)))
  refine wpAny_bind (listUpdate_at gk2 rfl ?_ (by rw [sizeLine_eq]; omega) (by show (kA.push _).size <= _; rw [Array.size_push, sizeLine_eq]; omega))
  refine wpAny_pure ⟨rfl, H2, kA.push (.int k t), _, z2.poke nk2 lk sb s2.toks, nk2, na2, get?_update_seq gk2 (·.push (.int k t)), (sb.2 a hka.symm).trans ga2, ?_⟩
  have ek : ks.take (j + 1) = ks.take j ++ [k] := by rw [List.take_add_one, hkj]; simp
  have ea : (kA.push (Value.int k t)).toList = kA.toList ++ [Value.int k t] := by simp
  rw [ea, ek]
  exact ksk_snoc hi
 case done =>
  rintro s' ⟨H', kA, e, z', k1, a1, g1, g2, hi⟩
  have e3 : ks.take (0 + vs.length) = ks := List.take_of_length_le (by omega)
  rw [e3] at hi
  refine wpAny_bind (listItems_at g1 rfl ?_)
  exact qif z' g1 g2 k1 a1 lk la hka hi hlen h64 fin
theorem qf7 {n : Nat} (z : SS X H0 s0 H s) (ho : s.heap.get? a = some (seqObj "list" vs.toArray n)) (na : H a = none) (la : s0.heap.objs.size <= a) (hs0 : s0.heap.objs.size <= s.heap.objs.size) (hlen : ks.length = vs.length) (h64 : vs.length < 64) (hfr : ∀ b ∈ frs X.stack, b < s0.heap.objs.size)
  (turn : ∀ (i : Nat) (v : Value) (k : Int), vs[i]? = some v -> ks[i]? = some k -> qie X H0 s0 A f v k) (fin : qcT X H0 s0 a (qid ks vs) P) : wpAny (model X.prog X.w) A (ksk_tree a f false) P E s := by
 have hlt : a < s.heap.objs.size := Heap.lt_size ho
 have sb := Heap.SameBut.update s.heap a (Obj.mapSeq fun _ => (#[] : Array Value))
 obtain ⟨e1, ho1⟩ : ∃ e1, (s.heap.update a (Obj.mapSeq fun _ => (#[] : Array Value))).get? a = some (seqObj "list" #[] e1) := ⟨_, get?_update_seq ho fun _ => #[]⟩
 have z1 := z.poke na la sb s.toks
 have hsz : ((s.heap.update a (Obj.mapSeq fun _ => (#[] : Array Value))).push (seqObj "tuple" vs.toArray 0)).objs.size = s.heap.objs.size + 1 := by rw [size_push', Heap.size_update]
 unfold ksk_tree
 refine wpAny_bind (listItems_at ho rfl (wpAny_bind (listUpdate_at ho rfl ?_ (by rw [sT_, sizeLine_eq]; omega) (Nat.zero_le _))))
 refine wpAny_bind (seqEpoch_at ho1 rfl (wpAny_bind (wpAny_newTuple ?_ (by show vs.length <= _; rw [sizeLine_eq]; omega))))
 refine wpAny_bind (wpAny_newList (wpAny_holding ?_) (Nat.zero_le _))
 have kp : ∀ b u, (s.heap.update a (Obj.mapSeq fun _ => (#[] : Array Value))).get? b = some u -> (((s.heap.update a (Obj.mapSeq fun _ => (#[] : Array Value))).push (seqObj "tuple" vs.toArray 0)).push (seqObj "list" #[] 0)).get? b = some u :=
  fun b u q => Heap.get?_push_of_some _ (Heap.get?_push_of_some _ q)
 have z3 := z1.kept kp s.toks
 refine qf6 (kS := ((s.heap.update a (Obj.mapSeq fun _ => (#[] : Array Value))).push (seqObj "tuple" vs.toArray 0)).objs.size) z3 (Heap.get?_push_size _ rfl) (kp _ _ ho1) ?_ na (by rw [hsz]; omega) la (by rw [hsz]; exact Nat.ne_of_gt (Nat.lt_succ_of_lt hlt)) hlen h64 hfr turn fin
 cases q : H ((s.heap.update a (Obj.mapSeq fun _ => (#[] : Array Value))).push (seqObj "tuple" vs.toArray 0)).objs.size with
 | none => rfl
 | some u =>
  have := z.hok.lt q
  rw [hsz] at this
  exact absurd (Nat.lt_of_succ_lt this) (Nat.lt_irrefl _)
end
section
variable {X : Cx} {pins : List (Addr × Obj)} {Z : St} {H : Hp} {s : Shared} {l f : Addr} {vs : List Value} {ks : List Int} {Q : Value -> Shared -> Prop} {E : Value -> Shared -> Prop}
theorem qdz (I : Inv X pins Z H s) (hl : s.heap.IsList l vs.toArray) (hlen : ks.length = vs.length) (h64 : vs.length < 64) (turn : ∀ (i : Nat) (v : Value) (k : Int), vs[i]? = some v -> ks[i]? = some k -> qie X H s X.A.in1.in1 (.ref f) v k)
  (fin : ∀ D H' s' c, s.heap.objs.size <= D -> SS X H s H' s' -> H' D = none -> s'.heap.get? D = some (seqObj "list" (qid ks vs).toArray c) -> Q (.ref D) s') : wpAny (model X.prog X.w) X.A (call (.builtin "sorted") [.ref l] [(Str.ofString "key", .ref f)]) Q E s := by
 refine call_function_entry_kw kind_sorted plain_sorted entry_sorted (ksk_s1 _ _) ?_
 unfold Builtin.«sorted»
 refine wpAny_bind (m := checkCount "sorted" 1 1 _) (wpAny_pure (wpAny_bind (collect_list hl ?_ (by rw [sizeLine_eq]; omega))))
 refine wpAny_bind (wpAny_newList ?_ (by rw [sizeLine_eq]; omega))
 have hsz : ((s.heap.push (seqObj "list" #[] 0)).update s.heap.objs.size (Obj.mapSeq (· ++ vs.toArray))).objs.size = s.heap.objs.size + 1 := by rw [Heap.size_update, size_push']
 have hD : (((s.heap.push (seqObj "list" #[] 0)).update s.heap.objs.size (Obj.mapSeq (· ++ vs.toArray))).push (seqObj "list" vs.toArray 0)).get? (s.heap.objs.size + 1) = some (seqObj "list" vs.toArray 0) := by rw [<- hsz]; exact Heap.get?_push_size _ rfl
 have keep : ∀ b o, s.heap.get? b = some o -> (((s.heap.push (seqObj "list" #[] 0)).update s.heap.objs.size (Obj.mapSeq (· ++ vs.toArray))).push (seqObj "list" vs.toArray 0)).get? b = some o := fun b o q => by
  have hb := Heap.lt_size q
  rw [Heap.get?_push_ne _ _ _ (by rw [hsz]; exact Nat.ne_of_lt (Nat.lt_succ_of_lt hb)), Heap.get?_update_ne _ _ _ _ (Nat.ne_of_lt hb), Heap.get?_push_ne _ _ _ (Nat.ne_of_lt hb)]
  exact q
 have z := (SS.of I).kept keep s.toks
 have hfr : ∀ b ∈ frs X.stack, b < s.heap.objs.size := fun b hb => by
  obtain ⟨_, o, ho, _⟩ := I.stack.mem hb
  exact Heap.lt_size ho
 have hszs : s.heap.objs.size <= (((s.heap.push (seqObj "list" #[] 0)).update s.heap.objs.size (Obj.mapSeq (· ++ vs.toArray))).push (seqObj "list" vs.toArray 0)).objs.size := by rw [size_push', hsz]; omega
 show wpAny _ _ _ _ _ { s with heap := ((s.heap.push (seqObj "list" #[] 0)).update s.heap.objs.size (Obj.mapSeq (· ++ vs.toArray))).push (seqObj "list" vs.toArray 0) }
 rw [hsz]
 refine wpAny_bind (wpAny_holding (wpAny_call_entry_kw slot_list_sort ⟨_, hD, rfl⟩ entry_list_sort ?body (ksk_l1 _ _)))
 case body =>
  show wpAny (model X.prog X.w) X.A.in1.in1 (Builtin.«list.sort» ⟨[.ref (s.heap.objs.size + 1)], [(Str.ofString "key", .ref f)]⟩) _ _ _
  rw [ksk_t1]
  refine qf7 (X := X) (H0 := H) (s0 := s) (H := H) z hD (I.hok.fresh (Nat.le_succ _)) (Nat.le_succ _) hszs hlen h64 hfr turn fun H' s' c z' n' g' => ⟨_, rfl, ?_⟩
  exact wpAny_pure ⟨_, rfl, fin _ H' s' c (Nat.le_succ _) z' n' g'⟩
end
end L2
set_option maxHeartbeats 1000000
namespace L2
open PySem PySem.Spec PyProof.Rows
def CallKS (X : Cx) (f : Value) (ks : List Str) (r : St -> List V -> List V -> Hp -> VK -> Prop) : Prop := ∀ (pins : List (Addr × Obj)) (s : Shared) (Z : St) (H : Hp) (xs : List V) (us : List Value) (zs : List V) (ws : List Value) (Q : VK),
 Inv X pins Z H s -> qN xs us -> qN zs ws -> r Z xs zs H Q -> wpAny (model X.prog X.w) X.A (call f us (ks.zip ws)) (EP X pins Z Q) X.xe s
theorem qeR {X : Cx} {x : Str} {p pos : Pos} {e : Expr} {es : List Expr} {kws : List Keyword} {t tk : TA} {id : String} {ks : List Str} {r : St -> List V -> List V -> Hp -> VK -> Prop} (hc : CallKS X (.builtin id) ks r) (hg : Gl X x) (hm : X.mg x = none) (hv : bootBuiltins x = some (.builtin id)) (ha : PA X (e :: es) t) (hkw : PK X kws tk)
  (hall : (backToKw pos (keywordEach kws X.env)).all (·.1.isSome) = true := by rfl) (hks : (backToKw pos (keywordEach kws X.env)).filterMap (·.1) = ks := by rfl) (hn : x ≠ "__name__" := by decide) (hdb : (x == ("__debug__" : Str)) = false := by decide)
  (he : starEach (e :: es) X.env = (false, eval e X.env) :: starEach es X.env := by rfl) (hpl : ((backTo pos (starEach (e :: es) X.env)).any (·.1) || (backToKw pos (keywordEach kws X.env)).any (·.1.isNone)) = false := by rfl) :
  PE X (.Call (.Name x p) (e :: es) kws pos) (fun Z H Q => t Z H fun vs H1 => tk Z H1 fun zs H2 => r Z vs zs H2 Q) := by
 intro pins s Z H Q I h
 refine wpAny_Call_Name_kw (vP I hg hm hv ?_ hn hdb)
 refine PySem.W.callWith_of (P := fun _ => True) hpl (fun _ _ => ⟨.machine, .inr (.inl rfl), .now⟩) (evalArgs_kw2 hall (thn (ha pos pins s Z H _ I h) fun us s1 ⟨vs, H1, I1, r1, q1⟩ => ?_) he)
 refine thn (hkw pos pins s1 Z H1 _ I1 q1) fun ws s2 ⟨zs, H2, I2, rz, q2⟩ => ⟨trivial, ?_⟩
 rw [hks, List.nil_append]
 exact hc pins s2 Z H2 vs us zs ws Q I2 r1 rz q2
def qkp (X : Cx) (N' : List Str) (fr : List Nat) (q : Str) (params : Arguments) (body : Expr) (scope : Scope) : St -> List V -> List V -> Hp -> VK -> Prop := fun Z xs zs H Q =>
 ∃ (a f kc : Addr) (ys : List V) (oc : Obj) (vs : Array Value) (t : Tok) (cl : List (Str × Addr)) (pm ctv : Value) (ks : List Int) (ws : List V), xs = [.ref a] /\ zs = [.ref f] /\ SqL X.K H a ys /\ ys.length < 64 /\ ks.length = ys.length /\
  H f = some (.frz (PySem.W.kla_obj "<lambda>" q params body scope cl pm kc ctv) (.own f)) /\ H kc = some (.frz oc (.own kc)) /\ oc.data = .fields vs /\ vs[1]? = some (.str q t) /\
  (∀ n a, cl.lookup n = some a -> X.env.cells.lookup n = some a) /\ (∀ y ∈ scope.names, y.2 = .free -> ∃ a, cl.lookup y.1 = some a) /\ ws.length = fr.length /\ (∀ (k j : Nat), fr[k]? = some j -> ∃ y, ws[k]? = some y /\ Z[j]? = some (some y)) /\
  (∀ (i : Nat) (y : V) (k : Int), ys[i]? = some y -> ks[i]? = some k -> ∀ H' s', zX H H' -> ∃ tb, PE (qeP X N' q scope cl f kc X.A.in1.in1 s' H') body tb /\ tb (zx N' (y :: ws)) H' (fun v H2 => v = .int k /\ zX H' H2)) /\
  ∀ H' p, zX H H' -> H' p = none -> Q (.ref p) (upd H' p (.lst ((Srt.ord ks).map fun i => ys.getD i .non)))
theorem qbz {ys : List V} {its : List Value} (r : qN ys its) : ∀ l : List Nat, (∀ i ∈ l, i < ys.length) -> qN (l.map fun i => ys.getD i .non) (l.map fun i => its.getD i Value.none)
 | [], _ => .nil
 | i :: l, h => by
  refine .cons ?_ (qbz r l fun j hj => h j (mM _ hj))
  have hi := h i mS_
  obtain ⟨u, hu, rv⟩ := r.get (gG hi)
  have e1 : ys.getD i V.non = ys[i] := by simp [hi]
  have e2 : its.getD i Value.none = u := by simp [List.getD, hu]
  show jf (ys.getD i V.non) (its.getD i Value.none)
  rw [e1, e2]
  exact rv
section
variable {X : Cx} {N' : List Str} {fr : List Nat} {q x : Str} {params : Arguments} {body : Expr} {scope : Scope} {k : Nat}
theorem qdA (S : Sk.CompScope X scope N' 1 fr) (hc : X.calm = true) (hr : yT k X.A) (hb : ∀ cl pm cd ctv u, bindArgs (PySem.W.kla_fn "<lambda>" q params body scope cl pm cd ctv) ⟨[u], []⟩ = pure [(x, u)])
  (hx : N'[0]? = some x) (hxl : scope.names.lookup x = some .local) (hco : scope.isCoroutine = false) (hgen : scope.isGenerator = false) : CallKS X (.builtin "sorted") [Str.ofString "key"] (qkp X N' fr q params body scope) := by
 intro pins s Z H xs us zs wz Q I rx rz h
 obtain ⟨a, f, kc, ys, oc, vs, t, cl, pm, ctv, ks, ws, rfl, rfl, hs, h64, hlen, hf, hk, hd, hv, cl1, cl2, hwl, hws, key, hq⟩ := h
 cases rx with
 | cons ra rr =>
 cases rr
 cases rz with
 | cons rf rr =>
 cases rr
 cases ra
 cases rf
 obtain ⟨its, r, ht, hz⟩ := I.list hs
 have hl := r.length
 refine qdz (ks := ks) I ht.isList (by omega) (by omega) (fun i v k' hvi hki s' H' z => ?_) fun D H' s' c hD z' n' g' => ?_
 ·have hi : i < ys.length := by rw [hl]; exact (gI_.mp hvi).1
  obtain ⟨u, hu, ry⟩ := r.get (gG hi)
  rw [hvi] at hu; cases hu
  obtain ⟨tb, pb, qb⟩ := key i ys[i] k' (gG hi) hki H' s' z.same
  refine thn (qf5 (A := X.A.in1.in1) S (z.inv I) (z.same _ _ hf) (z.same _ _ hk) hd hv cl1 cl2 (I.ok.hd hc) I.ok.frames hr.depth (hb _ _ _ _) hx hxl hco hgen ry hwl hws pb qb) fun u s2 ce => ?_
  obtain ⟨v', H2, r2, ⟨rfl, sm⟩, z2, u2⟩ := z.call ce fun v H' q => q.2
  obtain ⟨t2, rfl⟩ := r2
  exact ⟨⟨t2, rfl⟩, H2, z2, u2⟩
 ·have hpl : ∀ i ∈ Srt.ord ks, i < ys.length := fun i hi => by
   have := (Srt.ord_perm ks).mem_iff.mp hi
   rw [<- hlen]; exact mR_.mp this
  have hnone : s.heap.get? D = none := Heap.get?_none_of_le hD
  have rp := qbz r (Srt.ord ks) hpl
  have ol : ((Srt.ord ks).map fun i => ys.getD i V.non).length <= sizeLine := by
   rw [lM_, (Srt.ord_perm ks).length_eq, lR_, sizeLine_eq]; omega
  have ne' : ∀ c u, H' c = some u -> c ≠ D := fun c u q z => by rw [z, n'] at q; cases q
  have hok : HOk X.prog X.w (upd H' D (.lst ((Srt.ord ks).map fun i => ys.getD i .non))) s'.heap := fun b u e => by
   by_cases hbD : b = D
   ·subst hbD
    rw [qo] at e; cases e
    exact ⟨ol, _, _, rp, g'⟩
   ·rw [qj hbD] at e
    exact (z'.hok b u e).stay (fun _ _ _ q => q) (fun c q => by rw [qj (ne' c _ q)]; exact q) (fun c xs q => by rw [qj (ne' c _ q)]; exact q) fun c ob y q => by rw [qj (ne' c _ q)]; exact q
  have un := Sk.un_held (o := .lst ((Srt.ord ks).map fun i => ys.getD i .non)) z'.un hnone n'
  have zz : SS X H s (upd H' D (.lst ((Srt.ord ks).map fun i => ys.getD i .non))) s' := ⟨z'.os, z'.bare, un, hok, fun b o e => uU n' b o (z'.same b o e)⟩
  exact ⟨.ref D, _, zz.inv I, rfl, hq H' D z'.same n'⟩
end
end L2
namespace L2.Sk
open PySem PySem.Spec PyProof.Rows
def qiS (ρ : Env) : List Nat -> Option (List D)
 | [] => some []
 | j :: fr => match ρ[j]?, qiS ρ fr with
  | some (some d), some ds => some (d :: ds)
  | _, _ => none
def ww (g : M D) (n : Nat) (cs : List D) : List D -> Option (List Int)
 | [] => some []
 | d :: ds => match g (j9 n (d :: cs)), ww g n cs ds with
  | .ok (.int k, _), some ks => some (k :: ks)
  | _, _ => none
def qdB (l : List Nat) (ds : List D) : List D := l.map fun i => ds.getD i .non
def qcV (n : Nat) (fr : List Nat) (f g : M D) : M D := bnd f fun d ρ => match d with
 | .lst ds => if ds.length < 64 then match qiS ρ fr with
   | some cs => match ww g n cs ds with
    | some ks => .ok (.lst (qdB (Srt.ord ks) ds), ρ)
    | none => .bad
   | none => .bad
  else .bad
 | _ => .bad
theorem qbA {g : M D} {n : Nat} {cs : List D} : ∀ {ds : List D} {ks : List Int}, ww g n cs ds = some ks -> ks.length = ds.length
 | [], ks, h => by cases h; rfl
 | d :: ds, ks, h => by
  unfold ww at h
  split at h
  ·rename_i e2; cases h; rw [lC_, lC_, qbA e2]
  ·cases h
theorem qbB {g : M D} {n : Nat} {cs : List D} : ∀ {ds : List D} {ks : List Int} {i : Nat} {d : D} {k : Int}, ww g n cs ds = some ks -> ds[i]? = some d -> ks[i]? = some k -> ∃ ρ, g (j9 n (d :: cs)) = .ok (.int k, ρ)
 | [], _, _, _, _, _, h, _ => by simp at h
 | d0 :: ds, ks, i, d, k, h, h1, h2 => by
  unfold ww at h
  split at h
  ·rename_i k0 ρ0 ks0 e1 e2
   cases h
   cases i with
   | zero =>
    have a1 : d0 = d := by simpa using h1
    have a2 : k0 = k := by simpa using h2
    subst a1 a2
    exact ⟨_, e1⟩
   | succ i => exact qbB e2 (by simpa using h1) (by simpa using h2)
  ·cases h
theorem qeS {K : Fr0} {c : Fc} {ρ : Env} {Z : St} {H : Hp} (r : Rep K c ρ Z H) : ∀ {fr : List Nat} {cs : List D}, qiS ρ fr = some cs -> (∀ j ∈ fr, j ∉ c.O) ->
  ∃ ws, ws.length = fr.length /\ (∀ (k j : Nat), fr[k]? = some j -> ∃ y, ws[k]? = some y /\ Z[j]? = some (some y)) /\ IsL K (Cn c Z) H cs ws
 | [], cs, h, _ => by cases h; exact ⟨[], rfl, fun k j e => by simp at e, rfl⟩
 | j0 :: fr, cs, h, ho => by
  unfold qiS at h
  split at h
  ·rename_i d ds e1 e2
   cases h
   obtain ⟨ws, a1, a2, a3⟩ := qeS r e2 fun j hj => ho j (mM _ hj)
   obtain ⟨v, b1, b2⟩ := r.get (ho j0 mS_) e1
   refine ⟨v :: ws, by rw [lC_, lC_, a1], fun k j e => ?_, v, ws, rfl, b2, a3⟩
   cases k with
   | zero =>
    have : j0 = j := by simpa using e
    subst this
    exact ⟨v, rfl, b1⟩
   | succ k => exact a2 k j (by simpa using e)
  ·cases h
theorem IsL.pick {K : Fr0} {A : Addr -> Prop} {H : Hp} {ds : List D} {xs : List V} (il : IsL K A H ds xs) : ∀ l : List Nat, (∀ i ∈ l, i < ds.length) -> IsL K A H (qdB l ds) (l.map fun i => xs.getD i .non)
 | [], _ => rfl
 | i :: l, h => by
  have hi := h i mS_
  obtain ⟨y, hy, iy⟩ := il.get (gG hi)
  refine ⟨xs.getD i .non, _, rfl, ?_, IsL.pick il l fun j hj => h j (mM _ hj)⟩
  have e1 : ds.getD i D.non = ds[i] := by simp [hi]
  have e2 : xs.getD i V.non = y := by simp [List.getD, hy]
  rw [e2]
  show Is K A H (ds.getD i D.non) y
  rw [e1]
  exact iy
section
variable {X : Cx} {c : Fc} {e : Expr} {p pos kpos lpos : Pos} {N' : List Str} {fr : List Nat} {x : Str} {params : Arguments} {body : Expr} {scope : Scope} {k : Nat} {c0 Pt : Addr}
theorem qf8 {f g : M D} (he : DE X c e f) (S : CompScope X scope N' 1 fr) (hfo : ∀ j ∈ fr, j ∉ c.O) (hr : yT k X.A) (hg : Gl X "sorted") (hm : X.mg "sorted" = none) (hcode : X.env.code = .ref c0) (hC : PySem.W.codeHdIn X.K c0 Pt = true) (hlm : wT X.K = some (c0, Pt, lpos))
  (hb : ∀ cl f kc s' H' B, DE (qeP X N' qiK scope cl f kc X.A.in1.in1 s' H') (cfn [] [] B H' (fun _ => False) (fun _ _ => False) fun _ => none) body g)
  (hc : X.calm = true := by rfl) (hq : X.env.qual ++ "<lambda>" = qiK := by rfl) (hdef : defaultsOf params X.env = ([], []) := by rfl)
  (hbind : ∀ cl pm cd ctv u, bindArgs (PySem.W.kla_fn "<lambda>" qiK params body scope cl pm cd ctv) ⟨[u], []⟩ = pure [(x, u)] := by intros; rfl)
  (hx : N'[0]? = some x := by rfl) (hxl : scope.names.lookup x = some .local := by rfl) (hco : scope.isCoroutine = false := by rfl) (hgen : scope.isGenerator = false := by rfl)
  (hst : starEach [e] X.env = (false, eval e X.env) :: starEach [] X.env := by rfl) (hpl : ((backTo pos (starEach [e] X.env)).any (·.1) || (backToKw pos (keywordEach [⟨some "key", .Lambda params body scope lpos, kpos⟩] X.env)).any (·.1.isNone)) = false := by rfl) :
  DE X c (.Call (.Name "sorted" p) [e] [⟨some "key", .Lambda params body scope lpos, kpos⟩] pos) (qcV N'.length fr f g) := by
 obtain ⟨te, pe, we⟩ := he
 refine ⟨_, qeR (qdA S hc hr hbind hx hxl hco hgen) hg hm rfl (uv pe qbd hst) (qhr (qkn hq hcode hC S.frees hdef) qjr) (he := hst) (hpl := hpl), fun ρ Z H Q r h => ?_⟩
 refine we ρ Z H _ r (Wp.bnd h fun d ρ1 v H1 r1 i1 g1 h1 => ?_)
 refine ⟨(r1.tb _ _ _ hlm).1, fun f kc oc vs t cl pm ctv H2 sm hf hk hd hv cl1 cl2 => ?_⟩
 have r2 := r1.same sm
 cases d <;> try exact h1.elim
 rename_i ds
 by_cases h64 : ds.length < 64
 case neg => simp only [h64, if_false] at h1; exact h1.elim
 simp only [h64, if_true] at h1
 cases hcp : qiS ρ1 fr with
 | none => simp only [hcp] at h1; exact h1.elim
 | some cs =>
  simp only [hcp] at h1
  cases hks : ww g N'.length cs ds with
  | none => simp only [hks] at h1; exact h1.elim
  | some ks =>
   simp only [hks] at h1
   obtain ⟨ws, w1, w2, w3⟩ := qeS r2 hcp hfo
   have hl := qbA hks
   have i2 : Is X.K (Cn c Z) H2 (.lst ds) v := Is.ext (Ext.of_same sm) (fun _ h _ => h) i1
   obtain ⟨a, ys, rfl, hA, ta, il⟩ := i2
   have hyl := il.length
   refine ⟨a, f, kc, ys, oc, vs, t, cl, pm, ctv, ks, ws, rfl, rfl, .inl (.inl ta), by omega, by omega, hf, hk, hd, hv, cl1, cl2, w1, w2, fun i y k' hy hki H' s' sm' => ?_, fun H' p' sm' hp => ?_⟩
   ·obtain ⟨tb, pb, wb⟩ := hb cl f kc s' H' (Cn c Z)
    have hi : i < ds.length := by rw [<- hyl]; exact (gI_.mp hy).1
    obtain ⟨y', e1, e2⟩ := il.get (gG hi)
    rw [hy] at e1; cases e1
    obtain ⟨ρ', eg⟩ := qbB hks (gG hi) hki
    have il' : IsL X.K (Cn c Z) H' (ds[i] :: cs) (y :: ws) := ⟨y, ws, rfl, Is.ext (Ext.of_same sm') (fun _ h _ => h) e2, IsL.ext (Ext.of_same sm') (fun _ h _ => h) w3⟩
    refine ⟨tb, pb, wb (j9 N'.length (ds[i] :: cs)) (zx N' (y :: ws)) H' _ (v8 il' (r2.same sm').tb fun i hi => by cases hi) ?_⟩
    rw [eg]
    exact fun v' H3 r3 i3 g3 => ⟨i3, fun b o q => g3.ext.at_ b o (fun j hj => by cases hj) q⟩
   ·have r3 := r2.same sm'
    have hpl : ∀ i ∈ Srt.ord ks, i < ds.length := fun i hi => by
     have := (Srt.ord_perm ks).mem_iff.mp hi
     rw [<- hl]; exact mR_.mp this
    have ip := IsL.pick (IsL.ext (Ext.of_same sm') (fun _ h _ => h) il) (Srt.ord ks) hpl
    have smA : zX H1 (upd H' p' (.lst ((Srt.ord ks).map fun i => ys.getD i .non))) := fun b o q => qs hp _ b o (sm' b o (sm b o q))
    exact h1 _ _ (r3.laid hp _) ⟨p', _, rfl, r3.new hp, qo, IsL.ext (Ext.of_same (qs hp _)) (fun _ h _ => h) ip⟩ (.of_same smA)
theorem qf9 {n : Nat} {fr : List Nat} {f g : M D} {ρ ρ1 : Env} {ds cs : List D} {ks : List Int} (h : f ρ = .ok (.lst ds, ρ1)) (h64 : ds.length < 64) (hc : qiS ρ1 fr = some cs) (hk : ww g n cs ds = some ks) : qcV n fr f g ρ = .ok (.lst (qdB (Srt.ord ks) ds), ρ1) := by
 unfold qcV bnd
 simp only [h, h64, if_true, hc, hk]
end
end L2.Sk
namespace L2
open PySem PySem.Spec PyProof.Rows
theorem walk_lam {l : PySem.W.OpenLaw} {n k : Nat} {q : Program} {loose : List Str} {XP : (Str -> Option Value) -> Heap -> Prop} {YP : World -> Heap -> Prop} {d : DefRec} {K : Params -> PySem.W.Frag} {CX : World -> CXT} {sp : World -> Sp} {x : Str}
  (hn : l.most = some n) (hn2 : n <= sizeLine) (hdf : d.params.defaults = []) (hr : yT k callerA)
  (hY : ∀ (w : World) (h : Heap), YP w h -> (K w.params).In h) {lm : World -> Option (Addr × Addr × Pos × Str)}
  (hlm : ∀ (w : World) (mean : ExcName -> Option Value) (mg mb : Str -> Option Value) (h : Heap) (c Pt : Addr) (pos : Pos) (z : Str), Top q (PySem.W.looseW q loose) mean mg mb h -> (K w.params).In h -> lm w = some (c, Pt, pos, z) ->
   PySem.W.CodeHd h c Pt /\ h.get? Pt = some (PySem.W.tabObj #[]) /\ (K w.params).lookup Pt = none)
  (F : ∀ (w : World) (mg : Str -> Option Value) (fa : Addr) (h : Heap), (K w.params).In h -> h.Ns mainGlobals mg -> mg d.name = some (.ref fa) ->
   ∃ fd : FuncData, (∀ (s : Shared) (u : Value), BindsTo s fd ⟨[u], []⟩ [(x, u)]) /\
    ∀ base : Heap, (K w.params).In base -> base.Ns mainGlobals mg -> wS l.prog w (K w.params) mg base (CX w) k fa fd [x] (sp w))
  (hsp : ∀ (w : World) (H : Hp) (a : Addr) (ns : List Int), ns.length <= n -> qkI H -> (∀ c Pt pos z, lm w = some (c, Pt, pos, z) -> H Pt = some (.lam pos z)) -> SqL (K w.params) H a (ns.map V.int) -> sp w [.ref a] H (fun v _ => v = .bl true) fun _ _ _ => False)
  (hCX : ∀ (w : World) (H : Hp) (s : Shared) (e : Value) (s' : Shared), CX w [] H s (fun _ _ _ => False) e s' -> False) :
  PySem.W.WalkO q loose XP YP l.row.toRowW d [] (fun f vs => PySem.call f vs) := by
 refine Att.attach_call hn hdf fun w s₀ s₁ mg mb fa o pm cd doc a vs ns G Y ho hd hcd hmg hobj hints hlen hg => ?_
 have KX := hY w _ Y
 obtain ⟨fd, hb, hF⟩ := F w mg fa _ KX G.T.g hmg
 exact qfy (lm := lm w) KX G.T.g G.T.b G.T.builtins G.T.nolimit G.T.bmain (fun c Pt pos z => hlm w _ mg mb _ c Pt pos z G.T KX) hg hobj hints (Nat.le_trans hlen hn2) hr hF hb (fun H hO hT hS => hsp w H a ns hlen hO hT hS) fun H e s' => hCX w H s₁ e s'
end L2
namespace L2.Sk
open PySem PySem.Spec PyProof.Rows
theorem qig {K : Fr0} {c Pt : Addr} {pos : Pos} (hl : wT K = some (c, Pt, pos)) : PySem.W.tabIn K "dearest_first" = some (c, Pt) := by
 unfold wT at hl
 split at hl
 ·rename_i c' P' f e1 e2
  split at hl
  ·cases h3 : qgv (FuncData.body _) with
   | none => rw [h3] at hl; cases hl
   | some p3 => rw [h3] at hl; cases hl; exact e1
  ·cases hl
 ·cases hl
theorem lam_table {q : Program} {loose : List Str} {mean : ExcName -> Option Value} {mg mb : Str -> Option Value} {h : Heap} {K : Fr0} {c Pt : Addr} {pos : Pos} {d : DefRec} (T : Top q loose mean mg mb h) (X : K.In h) (hl : wT K = some (c, Pt, pos))
  (hd : (recsOf q).find? (fun e => e.name == ("dearest_first" : Str)) = some d) (hK : PySem.W.noTabs K = true) : PySem.W.CodeHd h c Pt /\ h.get? Pt = some (PySem.W.tabObj #[]) /\ K.lookup Pt = none := by
 have ht := qig hl
 obtain ⟨h1, h2⟩ := PySem.W.tab_of T X hd ht
 refine ⟨h1, h2, ?_⟩
 cases e : K.lookup Pt with
 | none => rfl
 | some o =>
  have e2 := X _ _ e
  rw [h2] at e2
  cases e2
  have h3 := List.all_eq_true.mp hK (Pt, PySem.W.tabObj #[]) (PySem.W.mem_of_lookupK e)
  exact absurd (show false = true from h3) Bool.false_ne_true
section
variable {P : Program} {w : World} {K : PySem.W.Frag} {mg : Str -> Option Value} {base : Heap}
theorem qga {x qual : Str} {st : Stmt} {f : Addr} {fd : FuncData} {N ps : List Str} {k : Nat} {O : List Nat} {body : MS} (F : Fun K x qual st f fd) (S : qv N ps (qe st)) (hO : ∀ i ∈ O, ps.length <= i)
  (hb : ∀ (A : Around) (outer : List PySem.Env) (s : Shared) (H : Hp) (E : XK) (B : Addr -> Prop), yT k (A.deeper (envOfC qual (qe st) s.heap.objs.size f fd.code)) ->
   DSs (qfu CX0 P w K mg base N qual (qe st) f fd.code A outer s H E).nox (cfn O [] B H (fun _ => False) (fun _ _ => False) fun _ => none) (qt st) body) :
  wS P w K mg base CX0 (k + 1) f fd ps (spD K (dfn N.length ps.length body)) := by
 obtain ⟨oc, od, kV, doc, pm, an, cdv, ct, osl, rfl, lk, hcd⟩ := F.ex
 refine qjs lk hcd S (fun vs H Q E h => ?_) fun A outer s H vs Q E hr h => ?_
 ·obtain ⟨ds, B, il, _, h⟩ := h
  unfold dfn at h
  by_cases e : ds.length = ps.length
  ·rw [il.length]; exact e
  ·rw [if_neg e] at h; exact h.elim
 ·obtain ⟨ds, B, il, tb, h⟩ := h
  obtain ⟨t, p, wt⟩ := hb A outer s H E B hr
  refine ⟨t, p.nox, ?_⟩
  unfold dfn at h
  by_cases e : ds.length = ps.length
  ·rw [if_pos e] at h
   refine wt (j9 N.length ds) (zx N vs) H _ (v8 il tb (fun i hi => by rw [e]; exact hO i hi)) ?_
   have same : ∀ {ρ : Env} {Z : St} {H' : Hp}, Rep K (cfn O [] B H (fun _ => False) (fun _ _ => False) fun _ => none) ρ Z H' -> zX H H' := fun r b o hb => r.kp b o hb fun z => z
   cases eb : body (j9 N.length ds) with
   | bad => rw [eb] at h; exact h.elim
   | exc z ρ => rw [eb] at h; exact h.elim
   | ok fl =>
    rw [eb] at h
    cases fl with
    | nx ρ => exact fun Z' H' r' _ => h .non H' (same r') rfl
    | rt d ρ => exact fun v Z' H' r' i' _ => h v H' (same r') i'
    | bk ρ => exact h.elim
    | ct ρ => exact h.elim
  ·rw [if_neg e] at h; exact h.elim
end
section
variable {X : Cx} {c : Fc} {a b e : Expr} {pos : Pos}
def qlt (i : Nat) (f : M D) : M D := fun ρ => match zg i ρ with
 | none => .bad
 | some _ => (bnd f fun d ρ => match d, (zg i ρ).bind vB with
  | .int b, some ns => match ns.findIdx? (· == b) with
   | some j => .ok (.non, ρ.set i (some (.lst ((ns.eraseIdx j).map D.int))))
   | none => .bad
  | _, _ => .bad) ρ
end
end L2.Sk
namespace L2.Sk
namespace Law
open PySem PySem.Spec PyProof.Rows
set_option maxHeartbeats 4000000
theorem qgY (ds : List D) (r : Env) : zg 0 (some (.lst ds) :: r) = some ds := rfl
theorem qgZ (i : Nat) (o : Option D) (r : Env) : zg (i + 1) (o :: r) = zg i r := rfl
theorem ix0 (a b c : D) : ixD (.tup [a, b, c]) (.int 0) = some a := rfl
theorem ix1 (a b c : D) : ixD (.tup [a, b, c]) (.int 1) = some b := rfl
theorem ix2 (a b c : D) : ixD (.tup [a, b, c]) (.int 2) = some c := rfl
theorem qcd (i j : Int) : neB (.int i) (.int j) = some (.bl (!decide (i = j))) := rfl
theorem wy (i j : Int) : eqB (.int i) (.int j) = some (.bl (decide (i = j))) := rfl
theorem wA (ds : List D) : qb3 (tyD (.tup ds)) "tuple" = true := rfl
theorem uX (ds : List D) : qaz [.tup ds] = some (.int ds.length) := rfl
theorem qcW (d : D) : isN d .non = some (.bl (yM d)) := rfl
theorem qeT (d : D) : qjD d .non = some (.bl (!yM d)) := rfl
theorem ve (i j : Int) : gtD (.int i) (.int j) = some (.bl (decide (j < i))) := rfl
theorem qce (i j : Int) : ltD (.int i) (.int j) = some (.bl (decide (i < j))) := rfl
theorem qcf (i j : Int) : leD (.int i) (.int j) = some (.bl (decide (i <= j))) := rfl
local macro_rules | `(tactic| push_cast [$xs,*]) => `(tactic| simp only [j9, qhW, ql4, jV, wm, qgK, qgL, qkM, qlk, qaK, jE, qgM, qhX, yX, qam, qcJ, qdu, qcK, qhY, qgN, qfU, qfV, wn, qan, qaL, qaM, qgP, qgQ, qev, uq, qew, qex, qey, qbu, qb8, qgR, qb9, qez, qca, qgS, wo, qj8, qeA, lC_, lN_, mC_, List.map_nil, List.replicate, List.nil_append, List.cons_append, List.append_nil, List.getElem?_cons_zero, List.getElem?_cons_succ, List.set_cons_zero, List.set_cons_succ, Nat.reduceAdd, Nat.reduceSub, Nat.sub_self, Nat.zero_add, reduceIte, Bool.not_true, Bool.not_false, Bool.false_eq_true, if_true, if_false, ite_true, ite_false, cond_true, cond_false, decide_true, decide_false, ix0, ix1, ix2, wA, uX, qcd, wy, qcW, qeT, ve, qce, qcf, qgY, qgZ, qcO, qcP, qcQ, qgV, qeL, qcb, $xs,*])
theorem ug {n p : Nat} {body : MS} {ds : List D} {d : D} (h : ds.length = p) (e : ∃ ρ, body (j9 n ds) = .ok (.rt d ρ)) : dfn n p body ds = .ok d := by
 obtain ⟨ρ, e⟩ := e
 exact qhZ h e
def qeU : D -> Bool
 | .int _ => true
 | _ => false
def yh : D -> Bool
 | .int i => decide (0 <= i)
 | _ => false
def qeV : D -> Bool
 | .int i => decide (0 < i)
 | _ => false
def ur : D -> Bool
 | .tup [a, b, c] => qeV a && yh b && (yM c || yh c)
 | _ => false
theorem qmT {ds : List D} (h : ds.length = 3) : ∃ a b c, ds = [a, b, c] := by
 match ds, h with
 | [a, b, c], _ => exact ⟨a, b, c, rfl⟩
theorem qdC {ds : List D} (h : ds.length ≠ 3) : ur (.tup ds) = false := by
 match ds, h with
 | [], _ => rfl
 | [_], _ => rfl
 | [_, _], _ => rfl
 | [a, b, c], h => exact absurd rfl h
 | _ :: _ :: _ :: _ :: _, _ => rfl
theorem qq {p q : MS} {ρ ρ' : Env} (h : p ρ = .ok (.nx ρ')) : qS p q ρ = q ρ' := by rw [qgO, h]
theorem wB {p q : MS} {ρ ρ' : Env} {d : D} (h : p ρ = .ok (.rt d ρ')) : qS p q ρ = .ok (.rt d ρ') := by rw [qgO, h]
theorem qkq {e : M D} {f : D -> D} : ∀ (ds acc : List D) (o : Option D), (∀ d ∈ ds, e [some d] = .ok (f d, [some d])) -> acc.length + ds.length <= 1000 -> ∃ ρ', zb (qk 0) (ret true) e ds acc [o] = .ok (acc ++ ds.map f, ρ')
 | [], acc, o, _, _ => ⟨[o], by simp [zb]⟩
 | d :: ds, acc, o, h, hl => by
  have hl' : acc.length + (ds.length + 1) <= 1000 := hl
  obtain ⟨ρ', q⟩ := qkq ds (acc ++ [f d]) (some d) (fun x hx => h x (mM _ hx)) (by rw [lA_, List.length_singleton]; omega)
  refine ⟨ρ', ?_⟩
  unfold zb
  simp only [qk, List.set_cons_zero, ret, h d mS_, yS (show acc.length + 1 <= 1000000 by omega), if_true, q]
  simp
theorem qbC (f : D -> Bool) : ∀ ds : List D, uO (ds.map fun d => D.bl (f d)) = some (ds.map f)
 | [] => rfl
 | d :: ds => by simp [uO, qbC f ds]
theorem all_map {ds : List D} {f : D -> Bool} : qiN [.lst (ds.map fun d => D.bl (f d))] = some (.bl (ds.all f)) := by
 simp only [qiN, qbC, Option.map_some]
 congr 2
 rw [List.all_map]
 rfl
theorem qih {F : List D -> R D} {f : D -> Bool} {xs : M (List D)} {ds : List D} {ρ : Env} (hx : xs ρ = .ok (ds, ρ)) (hF : ∀ d ∈ ds, F [d] = .ok (.bl (f d))) (hl : ds.length <= 1000) :
  zq qiN (qc (yE 1 [] none xs (qk 0) (ret true) (ql F (qc (dv 0) (ret [])))) (ret [])) ρ = .ok (.bl (ds.all f), ρ) := by
 obtain ⟨ρ', q⟩ := qkq (e := ql F (qc (dv 0) (ret []))) (f := fun d => D.bl (f d)) ds [] none (fun x hm => by push_cast []; rw [hF x hm]) (by simpa using hl)
 have q' : zb (qk 0) (ret true) (ql F (qc (dv 0) (ret []))) ds [] (jC 1 [] ρ) = .ok ([] ++ ds.map fun d => D.bl (f d), ρ') := q
 simp only [qaK, jV, qaN, hx, q', qhW, List.nil_append, all_map]
 rfl
def uB : D -> Bool
 | .tup ds => decide (ds.length <= 12) && ds.all ur
 | _ => false
def leI : D -> D -> Bool
 | .int i, .int j => decide (i <= j)
 | _, _ => false
def qlu (k x : D) : Bool := match k with
 | .tup [_, _, m] => yh x && (yM m || leI x m)
 | _ => false
def qcX : List D -> List D -> Bool
 | k :: ks, x :: xs => qlu k x && qcX ks xs
 | _, _ => true
def qme : D -> D -> Bool
 | .tup xs, .tup ks => decide (xs.length = ks.length) && qcX ks xs
 | _, _ => false
theorem qg0 {ds : List D} {i : Nat} {d : D} (h : ds[i]? = some d) : ixD (.tup ds) (.int (i : Nat)) = some d := by
 have hi : i < ds.length := (gI_.mp h).1
 show atI ds (i : Int) = some d
 unfold atI ixN
 rw [if_pos (by omega), if_pos (by omega)]
 simpa using h
theorem uh {l : M (List D)} {ρ ρ1 : Env} {j : Int} (e : l ρ = .ok ([.int j], ρ1)) (h0 : 0 <= j) (h : j <= 1000000) : uy l ρ = .ok (qaD 0 j.toNat, ρ1) := by
 have h1 : (-(2 ^ 62) <= j) := by omega
 have h2 : (j < 2 ^ 62) := by omega
 have e2 : qgD [.int j] = some (qaD 0 j.toNat) := by
  simp only [qgD, h1, h2, decide_true, Bool.and_self, if_true]
 have e3 : uy l ρ = lift (qgD [.int j]) ρ1 := by
  show bnd l (fun ds => lift (qgD ds)) ρ = _
  rw [qlj, e]
 rw [e3, e2]
 rfl
theorem qeW {n m : Int} (h0 : 0 < m) (h1 : m < 1606938044258990275541962092341162602522202993782792835301376) : v0 [.int n, .int m] = some (.tup [.int (n / m), .int (n % m)]) := by
 simp only [v0, qdo, h0, h1, decide_true, Bool.and_self, if_true]
theorem at0 (d : D) (r : List D) : atI (d :: r) 0 = some d := by
 unfold atI ixN
 rw [if_pos (by omega), if_pos (by simp)]
 rfl
theorem qmU : ixN 1 0 = some 0 := by decide
theorem yF (i j : Int) : zP (.int i) (.int j) = some (.int (i + j)) := rfl
theorem uY (i j : Int) : qae (.int i) (.int j) = some (.int (i - j)) := rfl
theorem qkr {ds : List D} {k : Int} (h0 : 0 <= k) (h1 : k < ds.length) : ∃ d ∈ ds, ixD (.lst ds) (.int k) = some d := by
 obtain ⟨i, rfl⟩ := Int.eq_ofNat_of_zero_le h0
 have hi : i < ds.length := by omega
 refine ⟨ds[i], List.getElem_mem hi, ?_⟩
 show atI ds (i : Int) = _
 unfold atI ixN
 rw [if_pos (by omega), if_pos (by omega)]
 show ds[(i : Int).toNat]? = _
 rw [Int.toNat_natCast, gG hi]
theorem qcY (j : Nat) : (qaD 0 j).length = j := by simp [qaD]
theorem ui {i j : Int} (h : 0 < j) : qaf (.int i) (.int j) = some (.int (i % j)) := by
 simp only [qaf, qiL, h, decide_true, if_true]
theorem qbD {i j : Int} (h : 0 < j) (h1 : j < 1606938044258990275541962092341162602522202993782792835301376) : vA (.int i) (.int j) = some (.int (i / j)) := by
 simp only [vA, qiL, qdo, h, h1, decide_true, Bool.and_self, if_true]
theorem qeX {i j : Int} (h : jB i = true) : je (.int i) (.int j) = some (.int (i * j)) := by
 simp only [je, qeb, h, Bool.true_or, if_true]
theorem qgb {i j : Int} (h : jB j = true) : je (.int i) (.int j) = some (.int (i * j)) := by
 simp only [je, qeb, h, Bool.or_true, if_true]
def facts : List Int := [48271, 69621, 16807, 39373, 30269, 40014, 40692, 50021, 61687, 71993, 83869, 95561, 30307]
structure qfk (w e : Nat) (d : D) : Prop where
 lv : (ju d).leavesShort 40 = true
 sh : (ju d).showable = true
 wt : (ju d).weight <= w
 dp : (ju d).depth <= e
theorem qaP {w e : Nat} : ∀ ds : List D, (∀ d ∈ ds, qfk w e d) -> PyData.leavesShortAll 40 (toPDs ds) = true /\ PyData.showableAll (toPDs ds) = true /\ PyData.weightAll (toPDs ds) <= ds.length * (w + 1) /\ PyData.depthAll (toPDs ds) <= e
 | [], _ => ⟨rfl, rfl, Nat.zero_le _, Nat.zero_le _⟩
 | d :: ds, h => by
  obtain ⟨h1, h2, h3, h4⟩ := qaP ds fun x hx => h x (mM _ hx)
  have g := h d mS_
  have g3 := g.wt
  have g4 := g.dp
  simp only [toPDs, PyData.leavesShortAll, PyData.showableAll, PyData.weightAll, PyData.depthAll, h1, h2, g.lv, g.sh, Bool.and_self, true_and, lC_, Nat.succ_mul]
  omega
theorem qkP {w e n : Nat} {ds : List D} (h : ∀ d ∈ ds, qfk w e d) (hl : ds.length <= n) : qfk (n * (w + 1)) (e + 1) (.tup ds) := by
 obtain ⟨h1, h2, h3, h4⟩ := qaP ds h
 refine ⟨?_, ?_, ?_, ?_⟩
 ·simp only [ju, PyData.leavesShort, h1]
 ·simp only [ju, PyData.showable, h2]
 ·simp only [ju, PyData.weight]
  exact Nat.le_trans h3 (Nat.mul_le_mul_right _ hl)
 ·simp only [ju, PyData.depth]
  omega
theorem qgc {w e n : Nat} {ds : List D} (h : ∀ d ∈ ds, qfk w e d) (hl : ds.length <= n) : qfk (n * (w + 1)) (e + 1) (.lst ds) := by
 obtain ⟨h1, h2, h3, h4⟩ := qaP ds h
 refine ⟨?_, ?_, ?_, ?_⟩
 ·simp only [ju, PyData.leavesShort, h1]
 ·simp only [ju, PyData.showable, h2]
 ·simp only [ju, PyData.weight]
  exact Nat.le_trans h3 (Nat.mul_le_mul_right _ hl)
 ·simp only [ju, PyData.depth]
  omega
def dl (d : D) : Bool := !(ju d).hasDict || noL d
def plain (d : D) : Bool := !(ju d).hasDict && noL d
theorem qii {w e : Nat} {d : D} (h : qfk w e d) (hw : w <= 100000) (he : e <= 50) (hd : dl d = true) : qai d = true := by
 have h1 := PyData.shown_le 40 (by omega) _ h.lv
 have h2 : (40 + 2) * (ju d).weight <= 42 * 100000 := Nat.mul_le_mul_left _ (Nat.le_trans h.wt hw)
 have h3 := h.dp
 have e1 : (ju d).shown.length <= sizeLine := by rw [PySem.sizeLine_eq]; omega
 have e2 : (ju d).depth <= 50 := by omega
 unfold dl at hd
 simp only [qai, h.sh, e1, e2, decide_true, Bool.true_and, hd]
theorem qbE : ∀ xs : List D, (∀ d ∈ xs, plain d = true) -> PyData.hasDictAll (toPDs xs) = false /\ noLs xs = true
 | [], _ => ⟨rfl, rfl⟩
 | x :: xs, h => by
  obtain ⟨h1, h2⟩ := qbE xs fun y hy => h y (mM _ hy)
  have g := h x mS_
  unfold plain at g
  rw [Bool.and_eq_true, Bool.not_eq_true'] at g
  simp [toPDs, PyData.hasDictAll, noLs, h1, h2, g.1, g.2]
theorem neg_int (i : Int) : qgJ (.int i) = some (.int (-i)) := rfl
theorem uZ {xs ys : List D} (h : xs.length + ys.length <= 1000000) : zP (.tup xs) (.tup ys) = some (.tup (xs ++ ys)) := by
 simp only [zP, yS h, if_true]
def pt (p : Int) : D -> Int
 | .tup [.int a, .int b, _] => if p = 0 then a else b
 | _ => 0
def num : D -> Int
 | .int x => x
 | _ => 0
def qlv (p : Int) : List D -> List D -> List Int
 | k :: ks, x :: xs => (pt p k * num x) :: qlv p ks xs
 | _, _ => []
theorem qcZ : ∀ ns : List Int, vB (ns.map D.int) = some ns
 | [] => rfl
 | n :: ns => by simp [vB, qcZ ns]
theorem qgd {i : Int} (h : i.natAbs < 10 ^ 39) : qfk 130 0 (.int i) := by
 have hl : i.natAbs.log2 < 130 := by
  by_cases h0 : i.natAbs = 0
  ·rw [h0]; decide
  ·refine (Nat.log2_lt h0).mpr (Nat.lt_of_lt_of_le h (by decide +kernel))
 refine ⟨?_, ?_, ?_, Nat.le_refl _⟩
 ·show decide ((PyData.shown (.int i)).length <= 40) = true
  refine decide_eq_true ?_
  have e := int_text_length_le10 (k := 39) (by decide) h
  show (Str.ofString (toString i)).length <= 40
  rw [PySem.ofString_length]
  exact e
 ·show decide (i.natAbs.log2 < 1920) = true
  exact decide_eq_true (by omega)
 ·show (if (i == 0) = true then 0 else i.natAbs.log2 + 1) <= 130
  split <;> omega
theorem qij (x : Str) : neB (.str x) (.str x) = some (.bl false) := by
 show some (D.bl (!decide (x = x))) = _
 rw [decide_eq_true rfl]; rfl
theorem qlw {F : List D -> R D} {f g h : M D} {ρ : Env} {a b c d : D} (hf : f ρ = .ok (a, ρ)) (hg : g ρ = .ok (b, ρ)) (hh : h ρ = .ok (c, ρ)) (e : F [a, b, c] = .ok d) : ql F (qc f (qc g (qc h (ret [])))) ρ = .ok (d, ρ) := by
 have e1 : qc h (ret []) ρ = .ok ([c], ρ) := by rw [jV, hh]; rfl
 have e2 : qc g (qc h (ret [])) ρ = .ok ([b, c], ρ) := by rw [jV, hg]; dsimp only; rw [e1]
 have e3 : qc f (qc g (qc h (ret []))) ρ = .ok ([a, b, c], ρ) := by rw [jV, hf]; dsimp only; rw [e2]
 rw [jE, e3]
 dsimp only
 rw [e]
theorem qap {F : List D -> Option D} {f : M D} {ρ : Env} {a d : D} (hf : f ρ = .ok (a, ρ)) (e : F [a] = some d) : zq F (qc f (ret [])) ρ = .ok (d, ρ) := by
 have e0 : qc f (ret []) ρ = .ok ([a], ρ) := by rw [jV, hf]; rfl
 rw [qaK, e0]
 dsimp only
 rw [e]
theorem qge (i j : Int) : qb2 [.int i, .int j] = some (.int (if j > i then j else i)) := rfl
theorem sl_tup (xs : List D) (a b : Option Int) : slD (.tup xs) a b = some (.tup (qbW xs a b)) := rfl
theorem qik {α : Type} {e : M D} {t : M Bool} {k f : α -> D} {p : α -> Bool} {r : Env} : ∀ (as : List α) (acc : List D) (o : Option D), (∀ a ∈ as, t (some (k a) :: r) = .ok (p a, some (k a) :: r)) -> (∀ a ∈ as, p a = true -> e (some (k a) :: r) = .ok (f a, some (k a) :: r)) -> acc.length + as.length <= 1000000 ->
  ∃ o', zb (qk 0) t e (as.map k) acc (o :: r) = .ok (acc ++ (as.filter p).map f, o' :: r)
 | [], acc, o, _, _, _ => ⟨o, by simp [zb]⟩
 | a :: as, acc, o, ht, he, hl => by
  have hl' : acc.length + (as.length + 1) <= 1000000 := hl
  have h1 := ht a mS_
  rw [mC_]
  unfold zb
  simp only [qk, List.set_cons_zero, h1]
  cases hp : p a with
  | false =>
   obtain ⟨o', q⟩ := qik as acc (some (k a)) (fun x hx => ht x (mM _ hx)) (fun x hx => he x (mM _ hx)) (by omega)
   refine ⟨o', ?_⟩
   simp only [q, ft_, hp, Bool.false_eq_true, if_false]
  | true =>
   obtain ⟨o', q⟩ := qik as (acc ++ [f a]) (some (k a)) (fun x hx => ht x (mM _ hx)) (fun x hx => he x (mM _ hx)) (by rw [lA_, List.length_singleton]; omega)
   refine ⟨o', ?_⟩
   simp only [he a mS_ hp, yS (show acc.length + 1 <= 1000000 by omega), if_true, q, ft_, hp, mC_, aA_, List.singleton_append]
theorem qg1 {α : Type} {e : M D} {t : M Bool} {k : α -> D} {xs : M (List D)} {ρ r : Env} {fr : List Nat} (as : List α) (p : α -> Bool) (f : α -> D) (hx : xs ρ = .ok (as.map k, ρ)) (hr : jC 1 fr ρ = none :: r) (hl : as.length <= 1000000)
  (ht : ∀ a ∈ as, t (some (k a) :: r) = .ok (p a, some (k a) :: r)) (he : ∀ a ∈ as, p a = true -> e (some (k a) :: r) = .ok (f a, some (k a) :: r)) : yE 1 fr none xs (qk 0) t e ρ = .ok (.lst ((as.filter p).map f), ρ) := by
 obtain ⟨o', q⟩ := qik as [] none ht he (by simpa using hl)
 rw [qaN, hx]
 simp only [hr, q, List.nil_append]
 rfl
theorem qcg {α : Type} (as : List α) : as.filter (fun _ => true) = as := by simp
theorem wC {α β : Type} {G : D -> Env -> Option Env} {b : MS} {k : α -> D} {step : β -> α -> β} {Inv : Nat -> β -> Env -> Prop} : ∀ (as : List α) (n : Nat) (s : β) (ρ : Env), Inv n s ρ ->
  (∀ a ∈ as, ∀ m s ρ, n <= m -> m < n + as.length -> Inv m s ρ -> ∃ ρ1 ρ2, G (k a) ρ = some ρ1 /\ b ρ1 = .ok (.nx ρ2) /\ Inv (m + 1) (step s a) ρ2) ->
  ∃ ρ', jU G b (as.map k) ρ = .ok (.nx ρ') /\ Inv (n + as.length) (as.foldl step s) ρ'
 | [], n, s, ρ, h, _ => ⟨ρ, rfl, h⟩
 | a :: as, n, s, ρ, h, H => by
  obtain ⟨ρ1, ρ2, h1, h2, h3⟩ := H a mS_ n s ρ (Nat.le_refl _) (by rw [lC_]; omega) h
  obtain ⟨ρ', q, w⟩ := wC as (n + 1) (step s a) ρ2 h3 fun x hx m s ρ m1 m2 => H x (mM _ hx) m s ρ (by omega) (by rw [lC_]; omega)
  refine ⟨ρ', ?_, ?_⟩
  ·rw [mC_]
   unfold jU
   simp only [h1, h2]
   exact q
  ·rw [lC_, show n + (as.length + 1) = n + 1 + as.length by omega]
   exact w
theorem qch {f : M D} {ρ : Env} {a : D} (hf : f ρ = .ok (a, ρ)) : qc f (ret []) ρ = .ok ([a], ρ) := by rw [jV, hf]; rfl
theorem qdD {f g : M D} {ρ : Env} {a b : D} (hf : f ρ = .ok (a, ρ)) (hg : g ρ = .ok (b, ρ)) : qc f (qc g (ret [])) ρ = .ok ([a, b], ρ) := by rw [jV, hf]; simp only [qch hg]
theorem qil {f g h : M D} {ρ : Env} {a b c : D} (hf : f ρ = .ok (a, ρ)) (hg : g ρ = .ok (b, ρ)) (hh : h ρ = .ok (c, ρ)) : qc f (qc g (qc h (ret []))) ρ = .ok ([a, b, c], ρ) := by rw [jV, hf]; simp only [qdD hg hh]
theorem qlx {f g : M D} {ρ : Env} {a b : D} (hf : f ρ = .ok (a, ρ)) (hg : g ρ = .ok (b, ρ)) : um (qc f (qc g (ret []))) ρ = .ok (.tup [a, b], ρ) := by rw [wm, qdD hf hg]; simp only [lC_, lN_, yS (show 0 + 1 + 1 <= 1000000 by omega), if_true]
theorem qly {f g h : M D} {ρ : Env} {a b c : D} (hf : f ρ = .ok (a, ρ)) (hg : g ρ = .ok (b, ρ)) (hh : h ρ = .ok (c, ρ)) : um (qc f (qc g (qc h (ret [])))) ρ = .ok (.tup [a, b, c], ρ) := by rw [wm, qil hf hg hh]; simp only [lC_, lN_, yS (show 0 + 1 + 1 + 1 <= 1000000 by omega), if_true]
theorem qeY {F : List D -> R D} {f : M D} {ρ : Env} {a d : D} (hf : f ρ = .ok (a, ρ)) (e : F [a] = .ok d) : ql F (qc f (ret [])) ρ = .ok (d, ρ) := by rw [jE, qch hf]; simp only [e]
theorem yN {F : List D -> R D} {f g : M D} {ρ : Env} {a b d : D} (hf : f ρ = .ok (a, ρ)) (hg : g ρ = .ok (b, ρ)) (e : F [a, b] = .ok d) : ql F (qc f (qc g (ret []))) ρ = .ok (d, ρ) := by rw [jE, qdD hf hg]; simp only [e]
theorem qh {F : D -> D -> Option D} {f g : M D} {ρ : Env} {a b d : D} (hf : f ρ = .ok (a, ρ)) (hg : g ρ = .ok (b, ρ)) (e : F a b = some d) : d2 F f g ρ = .ok (d, ρ) := by rw [qkM, hf]; simp only [hg, e]
theorem zF {f : M D} {ρ : Env} {b : Bool} (hf : f ρ = .ok (.bl b, ρ)) : tst f ρ = .ok (b, ρ) := by rw [qhX, hf]; rfl
theorem qlz {t : M Bool} {p q : MS} {ρ : Env} (h : t ρ = .ok (true, ρ)) : sif t p q ρ = p ρ := by rw [qfV, h]; rfl
theorem qkQ {t : M Bool} {p q : MS} {ρ : Env} (h : t ρ = .ok (false, ρ)) : sif t p q ρ = q ρ := by rw [qfV, h]; rfl
theorem qbF {i : Nat} {f : M D} {ρ : Env} {ds : List D} {d : D} (h : zg i ρ = some ds) (hf : f ρ = .ok (d, ρ)) (hi : imm d = true) (hl : ds.length < 1000000) : yo (zM i f) ρ = .ok (.nx (ρ.set i (some (.lst (ds ++ [d]))))) := by
 simp only [qaM, wo, h, hf, hi, yS (show ds.length + 1 <= 1000000 by omega), Bool.and_self, if_true]
theorem zt {G : D -> Env -> Option Env} {b : MS} {d : D} {ds : List D} {ρ ρ1 ρ2 : Env} (h1 : G d ρ = some ρ1) (h2 : b ρ1 = .ok (.nx ρ2)) : jU G b (d :: ds) ρ = jU G b ds ρ2 := by
 show (match G d ρ with | none => R.bad | some ρ1 => _) = _
 rw [h1]
 simp only [h2]
def mD : Option Int -> D
 | none => .non
 | some j => .int j
abbrev Kd := Int × Int × Option Int
def kD (x : Kd) : D := .tup [.int x.1, .int x.2.1, mD x.2.2]
theorem qks (m : Option Int) : imm (mD m) = true := by cases m <;> rfl
theorem qaQ {α : Type} {f : α -> D} : ∀ {as : List α}, (∀ a ∈ as, imm (f a) = true) -> immL (as.map f) = true
 | [], _ => rfl
 | a :: as, h => by simp only [mC_, immL, h a mS_, qaQ fun x hx => h x (mM _ hx), Bool.and_self]
def okK (x : Kd) : Prop := 0 < x.1 /\ 0 <= x.2.1 /\ (∀ j, x.2.2 = some j -> 0 <= j)
theorem qeZ {x : Kd} (h : okK x) : ur (kD x) = true := by
 obtain ⟨a, b, m⟩ := x
 obtain ⟨h1, h2, h3⟩ := h
 have e1 : qeV (.int a) = true := decide_eq_true h1
 have e2 : yh (.int b) = true := decide_eq_true h2
 cases m with
 | none => simp only [kD, mD, ur, e1, e2, yM, Bool.true_and, Bool.true_or]
 | some j =>
  have e3 : yh (.int j) = true := decide_eq_true (h3 j rfl)
  simp only [kD, mD, ur, e1, e2, e3, Bool.true_and, Bool.or_true]
theorem qdE {ks : List Kd} (h : ∀ x ∈ ks, okK x) (hl : ks.length <= 12) : uB (.tup (ks.map kD)) = true := by
 have : (ks.map kD).all ur = true := by
  rw [List.all_map]
  exact List.all_eq_true.mpr fun x hx => qeZ (h x hx)
 simp only [uB, lM_, hl, decide_true, this, Bool.true_and]
theorem qkt {α : Type} {ds : List α} {n : Nat} {d : α} (h : ds[n]? = some d) : atI ds (n : Int) = some d := by
 unfold atI ixN
 have hl := (gI_.mp h).1
 rw [if_pos (by omega), if_pos (by omega)]
 show ds[(n : Int).toNat]? = _
 rw [Int.toNat_natCast]; exact h
theorem qe0 {α : Type} {e : M D} {t : M Bool} {u v f : α -> D} {p : α -> Bool} {r : Env} : ∀ (as : List α) (acc : List D) (o o' : Option D), (∀ a ∈ as, t (some (u a) :: some (v a) :: r) = .ok (p a, some (u a) :: some (v a) :: r)) -> (∀ a ∈ as, p a = true -> e (some (u a) :: some (v a) :: r) = .ok (f a, some (u a) :: some (v a) :: r)) -> acc.length + as.length <= 1000000 ->
  ∃ o1 o2, zb (vz 2 (qD (qk 0) (qD (qk 1) vy))) t e (as.map fun a => .tup [u a, v a]) acc (o :: o' :: r) = .ok (acc ++ (as.filter p).map f, o1 :: o2 :: r)
 | [], acc, o, o', _, _, _ => ⟨o, o', by simp [zb]⟩
 | a :: as, acc, o, o', ht, he, hl => by
  have hl' : acc.length + (as.length + 1) <= 1000000 := hl
  have h1 := ht a mS_
  rw [mC_]
  unfold zb
  have hg : vz 2 (qD (qk 0) (qD (qk 1) vy)) (.tup [u a, v a]) (o :: o' :: r) = some (some (u a) :: some (v a) :: r) := rfl
  simp only [hg, h1]
  cases hp : p a with
  | false =>
   obtain ⟨o1, o2, q⟩ := qe0 as acc (some (u a)) (some (v a)) (fun x hx => ht x (mM _ hx)) (fun x hx => he x (mM _ hx)) (by omega)
   refine ⟨o1, o2, ?_⟩
   simp only [q, ft_, hp, Bool.false_eq_true, if_false]
  | true =>
   obtain ⟨o1, o2, q⟩ := qe0 as (acc ++ [f a]) (some (u a)) (some (v a)) (fun x hx => ht x (mM _ hx)) (fun x hx => he x (mM _ hx)) (by rw [lA_, List.length_singleton]; omega)
   refine ⟨o1, o2, ?_⟩
   simp only [he a mS_ hp, yS (show acc.length + 1 <= 1000000 by omega), if_true, q, ft_, hp, mC_, aA_, List.singleton_append]
theorem qim {α : Type} {e : M D} {t : M Bool} {u v : α -> D} {xs : M (List D)} {ρ r : Env} {fr : List Nat} (as : List α) (p : α -> Bool) (f : α -> D) (hx : xs ρ = .ok (as.map fun a => .tup [u a, v a], ρ)) (hr : jC 2 fr ρ = none :: none :: r) (hl : as.length <= 1000000)
  (ht : ∀ a ∈ as, t (some (u a) :: some (v a) :: r) = .ok (p a, some (u a) :: some (v a) :: r)) (he : ∀ a ∈ as, p a = true -> e (some (u a) :: some (v a) :: r) = .ok (f a, some (u a) :: some (v a) :: r)) : yE 2 fr none xs (vz 2 (qD (qk 0) (qD (qk 1) vy))) t e ρ = .ok (.lst ((as.filter p).map f), ρ) := by
 obtain ⟨o1, o2, q⟩ := qe0 as [] none none ht he (by simpa using hl)
 rw [qaN, hx]
 simp only [hr, q, List.nil_append]
 rfl
def kAt (ks : List Kd) (p : Nat) : Kd := (ks[p]?).getD (1, 0, none)
theorem qin {ks : List Kd} {p : Nat} (h : p < ks.length) : ks[p]? = some (kAt ks p) := by
 unfold kAt
 rw [gG h]
 rfl
theorem qmf (n : Nat) : qaD 0 n = (List.range n).map fun i => D.int (i : Nat) := by
 unfold qaD
 refine mL_ fun i _ => ?_
 rw [Int.zero_add]
theorem qbG {ks : List Kd} : ∀ (l : List Kd) (k : Nat), (∀ i, i < l.length -> l[i]? = ks[k + i]?) -> uz k (l.map kD) = (List.range l.length).map fun i => .tup [.int ((k + i : Nat) : Int), kD (kAt ks (k + i))]
 | [], _, _ => rfl
 | x :: l, k, h => by
  have h0 := h 0 (by simp)
  have e0 : kAt ks (k + 0) = x := by unfold kAt; rw [<- h0]; rfl
  rw [mC_, lC_, List.range_succ_eq_map, mC_, mm_, e0]
  show D.tup [.int (k : Nat), kD x] :: uz (k + 1) (l.map kD) = _
  rw [qbG l (k + 1) fun i hi => by
   have := h (i + 1) (by rw [lC_]; omega)
   rw [show k + 1 + i = k + (i + 1) by omega, <- this]
   rfl]
  congr 1
  refine mL_ fun i _ => ?_
  show D.tup [.int ((k + 1 + i : Nat) : Int), kD (kAt ks (k + 1 + i))] = D.tup [.int ((k + (i + 1) : Nat) : Int), kD (kAt ks (k + (i + 1)))]
  rw [show k + 1 + i = k + (i + 1) by omega]
theorem qku (ks : List Kd) : uz 0 (ks.map kD) = (List.range ks.length).map fun i => .tup [.int (i : Nat), kD (kAt ks i)] := by
 rw [qbG (ks := ks) ks 0 fun i _ => by rw [Nat.zero_add]]
 refine mL_ fun i _ => ?_
 rw [Nat.zero_add]
theorem qe1 {i : Int} (h : i.natAbs < 10 ^ 39) : qfk 130 0 (.int i) := qgd h
theorem qgf {α : Type} {f : α -> D} {l : List α} {w e : Nat} (h : ∀ a ∈ l, qfk w e (f a) /\ plain (f a) = true) (hl : l.length <= 12) (hw : 12 * (w + 1) <= 100000) (he : e + 1 <= 50) : wd [.lst (l.map f)] = some (.str (ju (.lst (l.map f))).shown) := by
 have hn : qfk (12 * (w + 1)) (e + 1) (.lst (l.map f)) := qgc (fun d hd => by
  obtain ⟨a, ha, rfl⟩ := mP_.mp hd
  exact (h a ha).1) (by rw [lM_]; exact hl)
 have hp := qbE (l.map f) fun d hd => by
  obtain ⟨a, ha, rfl⟩ := mP_.mp hd
  exact (h a ha).2
 have : qai (.lst (l.map f)) = true := qii hn hw he (by
  show (!(ju (.lst (l.map f))).hasDict || noL (.lst (l.map f))) = true
  simp only [ju, PyData.hasDict, hp.1, Bool.not_false, Bool.true_or])
 simp only [wd, this, if_true]
def uI (T B : Nat) : Nat := T / Nat.gcd T B
def uJ (T B : Nat) : Nat := B / Nat.gcd T B
def frD (t b : Nat) : D := .tup [.int (t : Nat), .int (b : Nat)]
def wQ (T B : Nat) : D := frD (uI T B) (uJ T B)
theorem vO (T : Nat) {B : Nat} (hB : 0 < B) : ∃ g, 0 < g /\ T = g * uI T B /\ B = g * uJ T B /\ 0 < uJ T B /\ uJ T B <= B /\ uI T B <= T := by
 have hg : 0 < Nat.gcd T B := Nat.gcd_pos_of_pos_right _ hB
 have h1 : T = Nat.gcd T B * uI T B := (Nat.mul_div_cancel' (Nat.gcd_dvd_left T B)).symm
 have h2 : B = Nat.gcd T B * uJ T B := (Nat.mul_div_cancel' (Nat.gcd_dvd_right T B)).symm
 refine ⟨Nat.gcd T B, hg, h1, h2, ?_, Nat.div_le_self _ _, Nat.div_le_self _ _⟩
 apply Nat.pos_of_ne_zero
 intro z
 rw [z, Nat.mul_zero] at h2
 omega
theorem qkv {T B T' B' : Nat} (hB : 0 < B) (hB' : 0 < B') (h : T * B' = T' * B) : uI T B = uI T' B' /\ uJ T B = uJ T' B' := by
 have hg : 0 < Nat.gcd T B := Nat.gcd_pos_of_pos_right _ hB
 have hg' : 0 < Nat.gcd T' B' := Nat.gcd_pos_of_pos_right _ hB'
 have t1 : T = Nat.gcd T B * uI T B := (Nat.mul_div_cancel' (Nat.gcd_dvd_left T B)).symm
 have b1 : B = Nat.gcd T B * uJ T B := (Nat.mul_div_cancel' (Nat.gcd_dvd_right T B)).symm
 have t2 : T' = Nat.gcd T' B' * uI T' B' := (Nat.mul_div_cancel' (Nat.gcd_dvd_left T' B')).symm
 have b2 : B' = Nat.gcd T' B' * uJ T' B' := (Nat.mul_div_cancel' (Nat.gcd_dvd_right T' B')).symm
 have key : Nat.gcd T B * B' = Nat.gcd T' B' * B := by
  rw [<- Nat.gcd_mul_right T B' B, <- Nat.gcd_mul_right T' B B', h, Nat.mul_comm B B']
 generalize Nat.gcd T B = g at *
 generalize Nat.gcd T' B' = g' at *
 generalize uI T B = t at *
 generalize uJ T B = b at *
 generalize uI T' B' = t' at *
 generalize uJ T' B' = b' at *
 subst t1 b1 t2 b2
 have hgg : 0 < g * g' := Nat.mul_pos hg hg'
 have eb : b = b' := by
  refine Nat.eq_of_mul_eq_mul_left hgg ?_
  grind
 subst eb
 have hb : 0 < b := by
  apply Nat.pos_of_ne_zero
  intro z
  subst z
  simp at hB
 refine ⟨?_, rfl⟩
 refine Nat.eq_of_mul_eq_mul_left (Nat.mul_pos hgg hb) ?_
 grind
theorem qio {T B T' B' : Nat} (hB : 0 < B) (hB' : 0 < B') (h : T * B' = T' * B) : wQ T B = wQ T' B' := by
 obtain ⟨e1, e2⟩ := qkv hB hB' h
 unfold wQ
 rw [e1, e2]
theorem qgg (a : Nat) {b : Nat} (h : 0 < b) : qaf (.int (a : Nat)) (.int (b : Nat)) = some (.int ((a % b : Nat) : Int)) := by
 rw [ui (by omega)]
 rfl
theorem u0 (a : Nat) {b : Nat} (h : 0 < b) (h1 : b < 1606938044258990275541962092341162602522202993782792835301376) : vA (.int (a : Nat)) (.int (b : Nat)) = some (.int ((a / b : Nat) : Int)) := by
 rw [qbD (by omega) (by omega)]
 rfl
theorem qip {n : Nat} (h : n <= 18000000000000000000) : jB (n : Int) = true := by
 unfold jB
 rw [Bool.and_eq_true, decide_eq_true_eq, decide_eq_true_eq]
 constructor <;> omega
theorem qkw {a : Nat} (b : Nat) (h : a <= 18000000000000000000) : je (.int (a : Nat)) (.int (b : Nat)) = some (.int ((a * b : Nat) : Int)) := by
 rw [qeX (qip h)]
 rfl
theorem u3 (a : Nat) {b : Nat} (h : b <= 18000000000000000000) : je (.int (a : Nat)) (.int (b : Nat)) = some (.int ((a * b : Nat) : Int)) := by
 rw [qgb (qip h)]
 rfl
theorem qiT (a b : Nat) : zP (.int (a : Nat)) (.int (b : Nat)) = some (.int ((a + b : Nat) : Int)) := rfl
theorem qgh (t b : Nat) : ixD (frD t b) (.int 0) = some (.int (t : Nat)) := rfl
theorem qdF (t b : Nat) : ixD (frD t b) (.int 1) = some (.int (b : Nat)) := rfl
theorem qmg {t u : M Bool} {ρ : Env} (h1 : t ρ = .ok (false, ρ)) (h2 : u ρ = .ok (false, ρ)) : tor t u ρ = .ok (false, ρ) := by rw [qdu, h1]; exact h2
theorem qlA {t u : M Bool} {ρ : Env} (h1 : t ρ = .ok (true, ρ)) : tor t u ρ = .ok (true, ρ) := by rw [qdu, h1]; rfl
theorem qkx {t u : M Bool} {ρ : Env} (h1 : t ρ = .ok (false, ρ)) : qcy t u ρ = .ok (false, ρ) := by rw [qcJ, h1]; rfl
theorem qky {t u : M Bool} {ρ : Env} {b : Bool} (h1 : t ρ = .ok (true, ρ)) (h2 : u ρ = .ok (b, ρ)) : qcy t u ρ = .ok (b, ρ) := by rw [qcJ, h1]; exact h2
theorem qkz {F : List D -> R D} {f g h : M D} {ρ : Env} {a b c d : D} (hf : f ρ = .ok (a, ρ)) (hg : g ρ = .ok (b, ρ)) (hh : h ρ = .ok (c, ρ)) (e : F [a, b, c] = .ok d) : ql F (qc f (qc g (qc h (ret [])))) ρ = .ok (d, ρ) := qlw hf hg hh e
theorem qc0 (xs : List D) (j : Nat) (h : j <= xs.length) : qbW xs none (some (j : Int)) = xs.take j := by
 unfold qbW
 rw [HT.sIx_none, HT.sIx_nat, Nat.min_eq_left h]
 simp
theorem qc1 (xs : List D) (j : Nat) (h : j <= xs.length) : qbW xs (some (j : Int)) none = xs.drop j := by
 unfold qbW
 rw [HT.sIx_none, HT.sIx_nat, Nat.min_eq_left h]
 exact List.take_of_length_le (by simp)
theorem yO {i : Nat} {f : M D} {ρ ρ1 : Env} {d : D} (h : f ρ = .ok (d, ρ1)) : zY i f ρ = .ok (.nx (ρ1.set i (some d))) := by rw [qan, h]
theorem jW {f : M D} {ρ ρ1 : Env} {d : D} (h : f ρ = .ok (d, ρ1)) : j8 f ρ = .ok (.rt d ρ1) := by rw [wn, h]
theorem qbH {b : MS} {i : Nat} {ρ : Env} (hi : i < ρ.length) : ∀ (ds : List D) (o : Option D), (∀ d ∈ ds, b (ρ.set i (some d)) = .ok (.nx (ρ.set i (some d)))) -> ∃ o', jU (qk i) b ds (ρ.set i o) = .ok (.nx (ρ.set i o'))
 | [], o, _ => ⟨o, rfl⟩
 | d :: ds, o, h => by
  obtain ⟨o', q⟩ := qbH hi ds (some d) fun x hx => h x (mM _ hx)
  refine ⟨o', ?_⟩
  unfold jU
  have e : qk i d (ρ.set i o) = some (ρ.set i (some d)) := by
   show some ((ρ.set i o).set i (some d)) = _
   rw [List.set_set]
  rw [e]
  simp only [h d mS_]
  exact q
def big : Nat := 1606938044258990275541962092341162602522202993782792835301376
def Mx : Nat := 18000000000000000000
abbrev Nk := Nat × Nat × Option Nat
def nk (x : Nk) : Kd := ((x.1 : Int), (x.2.1 : Int), x.2.2.map fun m : Nat => (m : Int))
def tK (x : Nk) : D := kD (nk x)
def nAt (ks : List Nk) (p : Nat) : Nk := ks.getD p (0, 0, none)
def qW (ks : List Nk) : Nat := ks.foldl (fun p x => p * x.1) 1
def qci (ks : List Nk) (p : Nat) : Int := -((nAt ks p).2.1 : Int) * ((qW ks / (nAt ks p).1 : Nat) : Int)
def plN (ks : List Nk) : List Nat := (List.range ks.length).filter fun i => decide (0 < (nAt ks i).2.1)
def u4 (ks : List Nk) : List Nat := (Srt.ord ((plN ks).map (qci ks))).map fun i => (plN ks).getD i 0
def goN (x : Nk) (r : Nat) : Bool := match x.2.2 with
 | some m => decide (m * x.1 <= r)
 | none => false
def mN (x : Nk) : Nat := x.2.2.getD 0
def shN (x : Nk) (r : Nat) : Nat × Nat := if goN x r then (mN x, 1) else (uI r x.1, uJ r x.1)
def bhN (x : Nk) (r : Nat) : Nat := if goN x r then r - mN x * x.1 else 0
def shS (ks : List Nk) (s : Nat × List (Nat × Nat)) (p : Nat) : Nat × List (Nat × Nat) := (bhN (nAt ks p) s.1, s.2.set p (shN (nAt ks p) s.1))
def shs (ks : List Nk) (r : Nat) : List (Nat × Nat) := ((u4 ks).foldl (shS ks) (r, List.replicate ks.length (0, 1))).2
def swS (s : Nat × Nat) (z : Nk × Nat × Nat) : Nat × Nat := (s.1 * z.2.2 + z.2.1 * z.1.2.1 * s.2, s.2 * z.2.2)
def swN (ks : List Nk) (r : Nat) : Nat × Nat := (ks.zip (shs ks r)).foldl swS (0, 1)
def fr (p : Nat × Nat) : D := frD p.1 p.2
theorem yY {ks : List Nk} {p : Nat} (h : p < ks.length) : ks[p]? = some (nAt ks p) := by
 unfold nAt
 simp [h]
theorem zN {ks : List Nk} {p : Nat} (h : p < ks.length) : nAt ks p ∈ ks := List.mem_of_getElem? (yY h)
theorem qdG {ks : List Nk} {p : Nat} (h : p < ks.length) : ixD (.tup (ks.map tK)) (.int (p : Nat)) = some (tK (nAt ks p)) := qg0 (by rw [gM_, yY h]; rfl)
theorem tk0 (x : Nk) : ixD (tK x) (.int 0) = some (.int (x.1 : Nat)) := rfl
theorem tk1 (x : Nk) : ixD (tK x) (.int 1) = some (.int (x.2.1 : Nat)) := rfl
theorem tk2 (x : Nk) : ixD (tK x) (.int 2) = some (mD (x.2.2.map fun m : Nat => (m : Int))) := rfl
theorem qg2 (ks : List Nk) : ks.map tK = (ks.map nk).map kD := by rw [mm_]; rfl
theorem qlB {x : Nk} (h : 0 < x.1) : okK (nk x) := ⟨by show (0 : Int) < (x.1 : Int); omega, by show (0 : Int) <= (x.2.1 : Int); omega, fun j e => by
 obtain ⟨m, _, hm⟩ := Option.map_eq_some_iff.mp (show x.2.2.map (fun m : Nat => (m : Int)) = some j from e)
 omega⟩
theorem qc2 {ks : List Nk} (h : ∀ x ∈ ks, 0 < x.1) (hl : ks.length <= 12) : uB (.tup (ks.map tK)) = true := by
 rw [qg2]
 exact qdE (fun x hx => by obtain ⟨y, hy, rfl⟩ := mP_.mp hx; exact qlB (h y hy)) (by rw [lM_]; exact hl)
theorem qiq (ks : List Nk) : uz 0 (ks.map tK) = (List.range ks.length).map fun i => .tup [.int (i : Nat), tK (nAt ks i)] := by
 rw [qg2, qku, lM_]
 refine mL_ fun i hi => ?_
 have hi' := mR_.mp hi
 have e : kAt (ks.map nk) i = nk (nAt ks i) := by
  have h1 := qin (ks := ks.map nk) (p := i) (by rw [lM_]; exact hi')
  rw [gM_, yY hi'] at h1
  exact (Option.some.inj h1).symm
 rw [e]
 rfl
theorem wD (ks : List Nk) : (u4 ks).Perm (plN ks) := Srt.byKeys_perm (α := Nat) (ks := (plN ks).map (qci ks)) (xs := plN ks) (by rw [lM_])
theorem u5 {ks : List Nk} {p : Nat} : p ∈ u4 ks ↔ p < ks.length /\ 0 < (nAt ks p).2.1 := by
 rw [(wD ks).mem_iff]
 unfold plN
 rw [List.mem_filter, mR_, decide_eq_true_eq]
theorem qaq (ks : List Nk) : (u4 ks).Nodup := (wD ks).nodup_iff.mpr ((List.nodup_range).sublist List.filter_sublist)
theorem qbI {α : Type} {g : M D} {n : Nat} {cs : List D} {k : α -> D} {key : α -> Int} : ∀ {as : List α}, (∀ a ∈ as, ∃ ρ, g (j9 n (k a :: cs)) = .ok (.int (key a), ρ)) -> ww g n cs (as.map k) = some (as.map key)
 | [], _ => rfl
 | a :: as, h => by
  obtain ⟨ρ, e⟩ := h a mS_
  rw [mC_, mC_]
  unfold ww
  rw [e, qbI fun b hb => h b (mM _ hb)]
theorem qe2 {α : Type} {k : α -> D} {l : List Nat} {as : List α} (d : α) (h : ∀ i ∈ l, i < as.length) : qdB l (as.map k) = (l.map fun i => as.getD i d).map k := by
 unfold qdB
 rw [mm_]
 refine mL_ fun i hi => ?_
 have hi' := h i hi
 show (as.map k).getD i D.non = k (as.getD i d)
 simp [hi']
theorem wE (r : Nat) {w : Nat} (h : 0 < w) : 0 < uJ r w /\ uJ r w <= w := by
 obtain ⟨g, g0, e1, e2, e3, e4, e5⟩ := vO r h
 exact ⟨e3, e4⟩
theorem qkA {x : Nk} (h : 0 < x.1) (r : Nat) : 0 < (shN x r).2 /\ (shN x r).2 <= x.1 := by
 unfold shN
 split
 ·exact ⟨Nat.one_pos, h⟩
 ·exact wE r h
theorem qe3 (ks : List Nk) : ∀ (l : List Nat) (s : Nat × List (Nat × Nat)), (l.foldl (shS ks) s).2.length = s.2.length
 | [], s => rfl
 | p :: l, s => by
  rw [fo_, qe3 ks l]
  exact lS_
theorem qaR (ks : List Nk) (r : Nat) : (shs ks r).length = ks.length := by
 unfold shs
 rw [qe3]
 exact List.length_replicate
theorem qg3 {ks : List Nk} (h : ∀ x ∈ ks, 0 < x.1) : ∀ (l : List Nat) (s : Nat × List (Nat × Nat)), (∀ p ∈ l, p < ks.length) -> (∀ (i : Nat) (z : Nat × Nat), s.2[i]? = some z -> 0 < z.2 /\ z.2 <= (nAt ks i).1) ->
  ∀ (i : Nat) (z : Nat × Nat), (l.foldl (shS ks) s).2[i]? = some z -> 0 < z.2 /\ z.2 <= (nAt ks i).1
 | [], s, _, hs => hs
 | p :: l, s, hl, hs => by
  rw [fo_]
  refine qg3 h l _ (fun q hq => hl q (mM _ hq)) fun i z e => ?_
  have e' : (s.2.set p (shN (nAt ks p) s.1))[i]? = some z := e
  rw [List.getElem?_set] at e'
  split at e'
  ·rename_i hpi
   subst hpi
   split at e'
   ·cases e'
    exact qkA (h _ (zN (hl p mS_))) _
   ·cases e'
  ·exact hs i z e'
theorem qkB {ks : List Nk} (h : ∀ x ∈ ks, 0 < x.1) (r : Nat) : ∀ (i : Nat) (z : Nat × Nat), (shs ks r)[i]? = some z -> 0 < z.2 /\ z.2 <= (nAt ks i).1 := by
 refine qg3 h (u4 ks) _ (fun p hp => (u5.mp hp).1) fun i z e => ?_
 have e' : (List.replicate ks.length ((0 : Nat), (1 : Nat)))[i]? = some z := e
 rw [List.getElem?_replicate] at e'
 split at e'
 ·rename_i hi
  cases e'
  exact ⟨Nat.one_pos, h _ (zN hi)⟩
 ·cases e'
theorem qe4 {ks : List Nk} (h : ∀ x ∈ ks, 0 < x.1) (r : Nat) : ∀ z ∈ ks.zip (shs ks r), 0 < z.2.2 /\ z.2.2 <= z.1.1 := fun z hz => by
 obtain ⟨i, hi⟩ := List.mem_iff_getElem?.mp hz
 rw [List.getElem?_zip_eq_some] at hi
 have hl : i < ks.length := (gI_.mp hi.1).1
 have := qkB h r i z.2 hi.2
 rw [yY hl] at hi
 have e : nAt ks i = z.1 := Option.some.inj hi.1
 rw [e] at this
 exact this
theorem qdH (p : Nat) : ∀ ks : List Nk, ks.foldl (fun p x => p * x.1) p = p * qW ks := by
 intro ks
 induction ks generalizing p with
 | nil => simp [qW]
 | cons x ks ih =>
  unfold qW
  rw [fo_, fo_, ih, ih (1 * x.1), Nat.one_mul, Nat.mul_assoc]
theorem zj (x : Nk) (ks : List Nk) : qW (x :: ks) = x.1 * qW ks := by
 show (x :: ks).foldl (fun p x => p * x.1) 1 = _
 rw [fo_, qdH, Nat.one_mul]
theorem wF {ks : List Nk} (h : ∀ x ∈ ks, 0 < x.1) : 0 < qW ks := by
 induction ks with
 | nil => exact Nat.one_pos
 | cons x ks ih =>
  rw [zj]
  exact Nat.mul_pos (h x mS_) (ih fun y hy => h y (mM _ hy))
theorem qc3 {ks : List Nk} (h : ∀ x ∈ ks, 0 < x.1) {x : Nk} (hx : x ∈ ks) : x.1 <= qW ks := by
 induction ks with
 | nil => cases hx
 | cons y ks ih =>
  rw [zj]
  have hp := wF fun z hz => h z (mM _ hz)
  rcases List.mem_cons.mp hx with e | hx
  ·subst e; exact Nat.le_mul_of_pos_right _ hp
  ·exact Nat.le_trans (ih (fun z hz => h z (mM _ hz)) hx) (Nat.le_mul_of_pos_left _ (h y mS_))
theorem qe5 : ∀ (l : List (Nk × Nat × Nat)) (s : Nat × Nat), (∀ z ∈ l, 0 < z.2.2 /\ z.2.2 <= z.1.1) -> 0 < s.2 -> 0 < (l.foldl swS s).2 /\ (l.foldl swS s).2 <= s.2 * qW (l.map (·.1))
 | [], s, _, h => ⟨h, by simp [qW]⟩
 | z :: l, s, hz, h => by
  obtain ⟨h1, h2⟩ := hz z mS_
  rw [fo_, mC_, zj]
  obtain ⟨a1, a2⟩ := qe5 l (swS s z) (fun y hy => hz y (mM _ hy)) (Nat.mul_pos h h1)
  refine ⟨a1, Nat.le_trans a2 ?_⟩
  show s.2 * z.2.2 * _ <= s.2 * (z.1.1 * _)
  rw [Nat.mul_assoc]
  exact Nat.mul_le_mul_left _ (Nat.mul_le_mul_right _ h2)
theorem qir (T : Nat) {B : Nat} (hB : 0 < B) : uI T B / uJ T B = T / B := by
 obtain ⟨g, g0, e1, e2, e3, e4, e5⟩ := vO T hB
 generalize uI T B = t at *
 generalize uJ T B = b at *
 rw [e1, e2, Nat.mul_div_mul_left _ _ g0]
theorem qis (T u : Nat) {B c : Nat} (hB : 0 < B) (hc : 0 < c) : wQ (uI T B * c + u * uJ T B) (uJ T B * c) = wQ (T * c + u * B) (B * c) := by
 obtain ⟨g, g0, e1, e2, e3, _, _⟩ := vO T hB
 refine qio (Nat.mul_pos e3 hc) (Nat.mul_pos hB hc) ?_
 generalize uI T B = t at *
 generalize uJ T B = b at *
 rw [e1, e2]
 grind
theorem qe6 {ks : List Nk} {l : List (Nat × Nat)} (h : l.length = ks.length) : (ks.zip l).map (·.1) = ks := List.map_fst_zip (by omega)
end Law
end L2.Sk
namespace L2.Srt
open PySem PySem.W PyProof.Rows
section
variable (ks : List Int)
abbrev kk (i : Nat) : Int := ks.getD i 0
abbrev cm (i j : Nat) : Bool := decide (ks.getD i 0 < ks.getD j 0)
def Lx (i j : Nat) : Prop := kk ks i < kk ks j \/ (kk ks i = kk ks j /\ i < j)
theorem Lx.le {i j : Nat} (h : Lx ks i j) : kk ks i <= kk ks j := by rcases h with h | h <;> omega
structure qc4 (n m : Nat) (p : Array Nat) : Prop where
 sz : p.size = n
 mn : m <= n
 id : ∀ k, m <= k -> k < n -> p.getD k 0 = k
 lo : ∀ k, k < m -> p.getD k 0 < m
 so : ∀ i j, i < j -> j < m -> Lx ks (p.getD i 0) (p.getD j 0)
end
theorem vf {p q : Array Nat} {k j : Nat} (h : p[k]? = q[j]?) : p.getD k 0 = q.getD j 0 := by
 rw [Array.getD_eq_getD_getElem?, Array.getD_eq_getD_getElem?, h]
theorem qaS {p : Array Nat} {i j : Nat} (hj : j <= p.size) (hij : i <= j) (k : Nat) : (kas_rev p i j).getD k 0 = if i <= k /\ k < j then p.getD (i + j - 1 - k) 0 else p.getD k 0 := by
 have h := getElem?_mirror (xs := p) (i := i) (j := j) hj ((j - i) / 2) (by omega) k
 unfold kas_rev
 by_cases hk : i <= k /\ k < j
 ·rw [if_pos hk]
  by_cases hm : (i <= k /\ k < i + (j - i) / 2) \/ (j - (j - i) / 2 <= k /\ k < j)
  ·rw [if_pos hm] at h
   exact vf h
  ·rw [if_neg hm] at h
   have e : i + j - 1 - k = k := by omega
   rw [e]
   exact vf h
 ·rw [if_neg hk]
  rw [if_neg (by omega)] at h
  exact vf h
theorem qaT (p : Array Nat) (i j : Nat) : (kas_rev p i j).size = p.size := mirror_size _ _ _ _
theorem qit {p : Array Nat} {k l : Nat} (hk : k < p.size) (hl : l <= k) (j : Nat) : (bubble p k (k - l)).getD j 0 = if j = l then p.getD k 0 else if l < j /\ j <= k then p.getD (j - 1) 0 else p.getD j 0 := by
 have h := getElem?_bubble (xs := p) (src := k) hk (k - l) (by omega) j
 rw [show k - (k - l) = l by omega] at h
 by_cases h1 : j = l
 ·rw [if_pos h1] at h |-
  exact vf h
 ·rw [if_neg h1] at h |-
  by_cases h2 : l < j /\ j <= k
  ·rw [if_pos h2] at h |-
   exact vf h
  ·rw [if_neg h2] at h |-
   exact vf h
section
variable {ks : List Int}
theorem qe7 {n : Nat} {p : Array Nat} : ∀ (f m : Nat), f = n - m -> 1 <= m -> qc4 ks n m p -> ∃ m', yB (cm ks) (kas_asc p f m) = m' /\ m <= m' /\ qc4 ks n m' p /\ (m' < n -> kk ks (p.getD m' 0) < kk ks (p.getD (m' - 1) 0))
 | 0, m, hf, h1, S => ⟨m, rfl, Nat.le_refl _, S, fun h => by omega⟩
 | f + 1, m, hf, h1, S => by
  show ∃ m', yB (cm ks) (if cm ks (p.getD m 0) (p.getD (m - 1) 0) = true then KasT.ret m else kas_asc p f (m + 1)) = m' /\ _
  by_cases c : kk ks (p.getD m 0) < kk ks (p.getD (m - 1) 0)
  ·rw [if_pos (decide_eq_true c)]
   exact ⟨m, rfl, Nat.le_refl _, S, fun _ => c⟩
  ·rw [if_neg (by simpa using c)]
   have hid : p.getD m 0 = m := S.id m (Nat.le_refl _) (by omega)
   have S' : qc4 ks n (m + 1) p := by
    refine ⟨S.sz, by omega, fun k a b => S.id k (by omega) b, fun k a => ?_, fun i j a b => ?_⟩
    ·by_cases e : k < m
     ·have := S.lo k e; omega
     ·have : k = m := by omega
      rw [this, hid]; omega
    ·by_cases e : j < m
     ·exact S.so i j a e
     ·have ej : j = m := by omega
      subst ej
      have l1 := S.lo i a
      have k1 : kk ks (p.getD i 0) <= kk ks (p.getD (j - 1) 0) := by
       by_cases e2 : i = j - 1
       ·rw [e2]; exact Int.le_refl _
       ·exact (S.so i (j - 1) (by omega) (by omega)).le
      have c' : kk ks (p.getD (j - 1) 0) <= kk ks (p.getD j 0) := Int.not_lt.mp c
      unfold Lx
      rw [hid] at c' |-
      omega
   obtain ⟨m', e1, e2, e3, e4⟩ := qe7 f (m + 1) (by omega) (by omega) S'
   exact ⟨m', e1, by omega, e3, e4⟩
structure Dwn (ks : List Int) (n m q : Nat) (p : Array Nat) : Prop where
 sz : p.size = n
 mn : m <= n
 qm : q + 1 <= m
 id : ∀ k, m <= k -> k < n -> p.getD k 0 = k
 lo : ∀ k, k < m -> p.getD k 0 < m
 a1 : ∀ i j, i < m - (q + 1) -> m - (q + 1) <= j -> j < m -> kk ks (p.getD j 0) < kk ks (p.getD i 0)
 a2 : ∀ i j, i < j -> j < m - (q + 1) -> Lx ks (p.getD j 0) (p.getD i 0)
 bl : ∀ i j, m - (q + 1) <= i -> i < j -> j < m -> kk ks (p.getD i 0) = kk ks (p.getD j 0) /\ p.getD i 0 < p.getD j 0
theorem Dwn.turned {n m q : Nat} {p : Array Nat} (d : Dwn ks n m q p) : (kas_rev p (m - (q + 1)) m).size = n /\ (∀ k, m <= k -> k < n -> (kas_rev p (m - (q + 1)) m).getD k 0 = k) /\ (∀ k, k < m -> (kas_rev p (m - (q + 1)) m).getD k 0 < m) /\
  (∀ i j, i < j -> j < m -> Lx ks ((kas_rev p (m - (q + 1)) m).getD j 0) ((kas_rev p (m - (q + 1)) m).getD i 0)) /\ (∀ i, i < m -> kk ks (p.getD (m - 1) 0) <= kk ks ((kas_rev p (m - (q + 1)) m).getD i 0)) := by
 have hqm := d.qm
 have hs : m <= p.size := by rw [d.sz]; exact d.mn
 have g := fun k => qaS (p := p) (i := m - (q + 1)) (j := m) hs (by omega) k
 refine ⟨by rw [qaT, d.sz], fun k a b => ?_, fun k a => ?_, fun i j a b => ?_, fun i a => ?_⟩
 ·rw [g, if_neg (by omega)]; exact d.id k a b
 ·rw [g]
  split
  ·exact d.lo _ (by omega)
  ·exact d.lo k a
 ·rw [g i, g j]
  by_cases hi : m - (q + 1) <= i
  ·rw [if_pos ⟨by omega, b⟩, if_pos ⟨hi, by omega⟩]
   have := d.bl (m - (q + 1) + m - 1 - j) (m - (q + 1) + m - 1 - i) (by omega) (by omega) (by omega)
   exact .inr ⟨this.1, this.2⟩
  ·rw [if_neg (show ¬ (m - (q + 1) <= i /\ i < m) by omega)]
   by_cases hj : m - (q + 1) <= j
   ·rw [if_pos ⟨hj, b⟩]
    exact .inl (d.a1 i _ (by omega) (by omega) (by omega))
   ·rw [if_neg (by omega)]
    exact d.a2 i j a (by omega)
 ·have key : ∀ j, m - (q + 1) <= j -> j < m -> kk ks (p.getD (m - 1) 0) = kk ks (p.getD j 0) := fun j h1 h2 => by
   by_cases e : j = m - 1
   ·rw [e]
   ·exact (d.bl j (m - 1) h1 (by omega) (by omega)).1.symm
  rw [g i]
  by_cases hi : m - (q + 1) <= i
  ·rw [if_pos ⟨hi, a⟩]
   exact Int.le_of_eq (key _ (by omega) (by omega))
  ·rw [if_neg (by omega)]
   exact Int.le_of_lt (d.a1 i (m - 1) (by omega) (by omega) (by omega))
theorem Dwn.next {n m : Nat} {p : Array Nat} (hsz : p.size = n) (hm : 1 <= m) (hmn : m < n) (hid : ∀ k, m <= k -> k < n -> p.getD k 0 = k) (hlo : ∀ k, k < m -> p.getD k 0 < m) (ho : ∀ i j, i < j -> j < m -> Lx ks (p.getD j 0) (p.getD i 0))
  (hk : ∀ i, i < m -> kk ks (p.getD m 0) < kk ks (p.getD i 0)) : Dwn ks n (m + 1) 0 p := by
 refine ⟨hsz, hmn, by omega, fun k a b => hid k (by omega) b, fun k a => ?_, fun i j a b c => ?_, fun i j a b => ho i j a (by omega), fun i j a b c => by omega⟩
 ·by_cases e : k < m
  ·have := hlo k e; omega
  ·have : k = m := by omega
   rw [this, hid m (Nat.le_refl _) hmn]; omega
 ·have : j = m := by omega
  subst this
  exact hk i (by omega)
theorem qmh {n m : Nat} {p : Array Nat} (d : Dwn ks n m 0 p) : ∀ k, (kas_rev p (m - (0 + 1)) m).getD k 0 = p.getD k 0 := fun k => by
 have hqm := d.qm
 rw [qaS (by rw [d.sz]; exact d.mn) (by omega)]
 split
 ·congr 1; omega
 ·rfl
theorem qaU {n : Nat} : ∀ (f m q : Nat) {p : Array Nat}, f = n - m -> Dwn ks n m q p -> ∃ r, yB (cm ks) (kas_desc f p m q) = r /\ Dwn ks n r.2.1 r.2.2 r.1
 | 0, m, q, p, hf, d => ⟨(p, m, q), rfl, d⟩
 | f + 1, m, q, p, hf, d => by
  show ∃ r, yB (cm ks) (if cm ks (p.getD m 0) (p.getD (m - 1) 0) = true then (if q > 0 then kas_desc f (kas_rev p (m - (q + 1)) m) (m + 1) 0 else kas_desc f p (m + 1) 0)
   else .ask (p.getD (m - 1) 0) (p.getD m 0) fun c => if c = true then .ret (p, m, q) else kas_desc f p (m + 1) (q + 1)) = r /\ _
  have hmn : m < n := by have := d.mn; omega
  have hqm := d.qm
  have hid := d.id m (Nat.le_refl _) hmn
  obtain ⟨t1, t2, t3, t4, t5⟩ := d.turned
  by_cases c : kk ks (p.getD m 0) < kk ks (p.getD (m - 1) 0)
  ·rw [if_pos (decide_eq_true c)]
   by_cases hq : q > 0
   ·rw [if_pos hq]
    have hm' : (kas_rev p (m - (q + 1)) m).getD m 0 = p.getD m 0 := by rw [t2 m (Nat.le_refl _) hmn, hid]
    exact qaU f (m + 1) 0 (by omega) (Dwn.next t1 (by omega) hmn t2 t3 t4 fun i hi => by rw [hm']; exact Int.lt_of_lt_of_le c (t5 i hi))
   ·rw [if_neg hq]
    have e : q = 0 := by omega
    subst e
    have g := qmh d
    refine qaU f (m + 1) 0 (by omega) (Dwn.next d.sz (by omega) hmn d.id d.lo (fun i j a b => ?_) fun i hi => ?_)
    ·have := t4 i j a b
     rw [g, g] at this
     exact this
    ·have := t5 i hi
     rw [g] at this
     exact Int.lt_of_lt_of_le c this
  ·rw [if_neg (by simpa using c)]
   show ∃ r, yB (cm ks) (if cm ks (p.getD (m - 1) 0) (p.getD m 0) = true then .ret (p, m, q) else kas_desc f p (m + 1) (q + 1)) = r /\ _
   by_cases c2 : kk ks (p.getD (m - 1) 0) < kk ks (p.getD m 0)
   ·rw [if_pos (decide_eq_true c2)]
    exact ⟨(p, m, q), rfl, d⟩
   ·rw [if_neg (by simpa using c2)]
    have ek : kk ks (p.getD (m - 1) 0) = kk ks (p.getD m 0) := by
     have a1 : kk ks (p.getD (m - 1) 0) <= kk ks (p.getD m 0) := Int.not_lt.mp c
     have a2 : kk ks (p.getD m 0) <= kk ks (p.getD (m - 1) 0) := Int.not_lt.mp c2
     omega
    refine qaU f (m + 1) (q + 1) (by omega) ⟨d.sz, hmn, by omega, fun k a b => d.id k (by omega) b, fun k a => ?_, fun i j a b c => ?_, fun i j a b => d.a2 i j a (by omega), fun i j a b c => ?_⟩
    ·by_cases e : k < m
     ·have := d.lo k e; omega
     ·have : k = m := by omega
      rw [this, hid]; omega
    ·by_cases e : j < m
     ·exact d.a1 i j (by omega) (by omega) e
     ·have : j = m := by omega
      subst this
      rw [<- ek]
      exact d.a1 i (j - 1) (by omega) (by omega) (by omega)
    ·by_cases e : j < m
     ·exact d.bl i j (by omega) b e
     ·have : j = m := by omega
      subst this
      have l1 := d.lo i b
      refine ⟨?_, by rw [hid]; exact l1⟩
      rw [<- ek]
      by_cases e2 : i = j - 1
      ·rw [e2]
      ·exact (d.bl i (j - 1) (by omega) (by omega) (by omega)).1
theorem qc5 {n m : Nat} {p : Array Nat} (hsz : p.size = n) (hm : 1 <= m) (hmn : m <= n) (hid : ∀ k, m <= k -> k < n -> p.getD k 0 = k) (hlo : ∀ k, k < m -> p.getD k 0 < m) (ho : ∀ i j, i < j -> j < m -> Lx ks (p.getD j 0) (p.getD i 0)) :
  qc4 ks n (yB (cm ks) (kas_tail3 m n p)).1 (yB (cm ks) (kas_tail3 m n p)).2 /\ 1 <= (yB (cm ks) (kas_tail3 m n p)).1 := by
 have g := fun k => qaS (p := p) (i := 0) (j := m) (by rw [hsz]; exact hmn) (Nat.zero_le _) k
 have S : qc4 ks n m (kas_rev p 0 m) := by
  refine ⟨by rw [qaT, hsz], hmn, fun k a b => ?_, fun k a => ?_, fun i j a b => ?_⟩
  ·rw [g, if_neg (by omega)]; exact hid k a b
  ·rw [g, if_pos ⟨Nat.zero_le _, a⟩]; exact hlo _ (by omega)
  ·rw [g, g, if_pos ⟨Nat.zero_le _, by omega⟩, if_pos ⟨Nat.zero_le _, b⟩]
   exact ho _ _ (by omega) (by omega)
 obtain ⟨m', e1, e2, e3, _⟩ := qe7 (n - m) m rfl hm S
 have e : yB (cm ks) (kas_tail3 m n p) = (m', kas_rev p 0 m) := by
  unfold kas_tail3
  rw [yt, e1]
  rfl
 rw [e]
 exact ⟨e3, by show 1 <= m'; omega⟩
theorem wG {n m : Nat} {p : Array Nat} (d : Dwn ks n (m + 1) 0 p) : qc4 ks n (yB (cm ks) (kas_descPart m n p)).1 (yB (cm ks) (kas_descPart m n p)).2 /\ 1 <= (yB (cm ks) (kas_descPart m n p)).1 := by
 obtain ⟨r, e1, e2⟩ := qaU (n - (m + 1)) (m + 1) 0 rfl d
 obtain ⟨t1, t2, t3, t4, _⟩ := e2.turned
 have hqm := e2.qm
 unfold kas_descPart
 rw [yt, e1]
 by_cases hq : r.2.2 > 0
 ·rw [if_pos hq]
  exact qc5 t1 (by omega) e2.mn t2 t3 t4
 ·rw [if_neg hq]
  obtain ⟨p', m', q'⟩ := r
  have e : q' = 0 := by show q' = 0; have : ¬ q' > 0 := hq; omega
  subst e
  have g := qmh e2
  refine qc5 e2.sz (by omega) e2.mn e2.id e2.lo fun i j a b => ?_
  have := t4 i j a b
  rw [g, g] at this
  exact this
theorem qgi {n : Nat} (hn : 1 <= n) : qc4 ks n (yB (cm ks) (kas_count n (List.toArray (List.range n)))).1 (yB (cm ks) (kas_count n (List.toArray (List.range n)))).2 /\ 1 <= (yB (cm ks) (kas_count n (List.toArray (List.range n)))).1 := by
 have hr : ∀ k, k < n -> (List.toArray (List.range n)).getD k 0 = k := fun k hk => by simp [Array.getD, hk]
 have S1 : qc4 ks n 1 (List.toArray (List.range n)) := ⟨by simp, hn, fun k _ b => hr k b, fun k a => by rw [hr k (by omega)]; exact a, fun i j a b => by omega⟩
 obtain ⟨m, e1, e2, e3, e4⟩ := qe7 (n - 1) 1 rfl (Nat.le_refl _) S1
 unfold kas_count
 rw [yt, e1]
 by_cases h1 : m = n
 ·rw [if_pos (by rw [h1]; simp)]
  exact ⟨e3, e2⟩
 ·rw [if_neg (by simpa using h1)]
  have hmn : m < n := by have := e3.mn; omega
  have hk := e4 hmn
  by_cases h2 : m > 1
  ·rw [if_pos h2]
   show qc4 ks n (yB (cm ks) (if cm ks ((List.toArray (List.range n)).getD 0 0) ((List.toArray (List.range n)).getD (m - 1) 0) = true then .ret (m, List.toArray (List.range n)) else kas_descPart m n (kas_rev (List.toArray (List.range n)) 0 m))).1 _ /\ _
   by_cases c : kk ks ((List.toArray (List.range n)).getD 0 0) < kk ks ((List.toArray (List.range n)).getD (m - 1) 0)
   ·rw [show yB (cm ks) (KasT.ask ((List.toArray (List.range n)).getD 0 0) ((List.toArray (List.range n)).getD (m - 1) 0) fun c => if c = true then .ret (m, List.toArray (List.range n)) else kas_descPart m n (kas_rev (List.toArray (List.range n)) 0 m)) = yB (cm ks) (if cm ks ((List.toArray (List.range n)).getD 0 0) ((List.toArray (List.range n)).getD (m - 1) 0) = true then .ret (m, List.toArray (List.range n)) else kas_descPart m n (kas_rev (List.toArray (List.range n)) 0 m)) from rfl, if_pos (decide_eq_true c)]
    exact ⟨e3, e2⟩
   ·rw [show yB (cm ks) (KasT.ask ((List.toArray (List.range n)).getD 0 0) ((List.toArray (List.range n)).getD (m - 1) 0) fun c => if c = true then .ret (m, List.toArray (List.range n)) else kas_descPart m n (kas_rev (List.toArray (List.range n)) 0 m)) = yB (cm ks) (if cm ks ((List.toArray (List.range n)).getD 0 0) ((List.toArray (List.range n)).getD (m - 1) 0) = true then .ret (m, List.toArray (List.range n)) else kas_descPart m n (kas_rev (List.toArray (List.range n)) 0 m)) from rfl, if_neg (by simpa using c)]
    generalize hp : List.toArray (List.range n) = p at *
    have g := fun k => qaS (p := p) (i := 0) (j := m) (by rw [e3.sz]; omega) (Nat.zero_le _) k
    have al : ∀ i, i < m -> kk ks (p.getD i 0) = kk ks (p.getD 0 0) := fun i hi => by
     have c' : kk ks (p.getD (m - 1) 0) <= kk ks (p.getD 0 0) := Int.not_lt.mp c
     have a1 : kk ks (p.getD 0 0) <= kk ks (p.getD i 0) := by
      by_cases e : i = 0
      ·rw [e]; exact Int.le_refl _
      ·exact (e3.so 0 i (by omega) hi).le
     have a2 : kk ks (p.getD i 0) <= kk ks (p.getD (m - 1) 0) := by
      by_cases e : i = m - 1
      ·rw [e]; exact Int.le_refl _
      ·exact (e3.so i (m - 1) (by omega) (by omega)).le
     omega
    refine wG (Dwn.next (by rw [qaT, e3.sz]) (by omega) hmn (fun k a b => by rw [g, if_neg (by omega)]; exact e3.id k a b) (fun k a => by rw [g, if_pos ⟨Nat.zero_le _, a⟩]; exact e3.lo _ (by omega)) (fun i j a b => ?_) fun i hi => ?_)
    ·rw [g, g, if_pos ⟨Nat.zero_le _, b⟩, if_pos ⟨Nat.zero_le _, by omega⟩]
     exact e3.so _ _ (by omega) (by omega)
    ·have h9 := al (m - 1) (by omega)
     rw [g m, g i, if_neg (by omega), if_pos ⟨Nat.zero_le _, hi⟩, al (0 + m - 1 - i) (by omega), <- h9]
     exact hk
  ·rw [if_neg h2]
   have em : m = 1 := by omega
   subst em
   exact wG (Dwn.next e3.sz (Nat.le_refl _) hmn e3.id e3.lo (fun i j a b => by omega) fun i hi => by
    have : i = 0 := by omega
    subst this
    exact hk)
theorem qaV {n k : Nat} {p : Array Nat} (S : qc4 ks n k p) : ∀ (f l r : Nat), r - l <= f -> l <= r -> r <= k -> (∀ i, i < l -> kk ks (p.getD i 0) <= kk ks (p.getD k 0)) -> (∀ i, r <= i -> i < k -> kk ks (p.getD k 0) < kk ks (p.getD i 0)) ->
  ∃ l', yB (cm ks) (kas_place p k f l r) = l' /\ l' <= k /\ (∀ i, i < l' -> kk ks (p.getD i 0) <= kk ks (p.getD k 0)) /\ (∀ i, l' <= i -> i < k -> kk ks (p.getD k 0) < kk ks (p.getD i 0))
 | 0, l, r, hf, h1, h2, a, b => ⟨l, rfl, by omega, a, fun i c d => b i (by omega) d⟩
 | f + 1, l, r, hf, h1, h2, a, b => by
  have mono : ∀ i j, i <= j -> j < k -> kk ks (p.getD i 0) <= kk ks (p.getD j 0) := fun i j hij hj => by
   by_cases e : i = j
   ·rw [e]; exact Int.le_refl _
   ·exact (S.so i j (by omega) hj).le
  unfold kas_place
  by_cases hge : l >= r
  ·rw [if_pos hge]
   exact ⟨l, rfl, by omega, a, fun i c d => b i (by omega) d⟩
  ·rw [if_neg hge]
   show ∃ l', yB (cm ks) (if cm ks (p.getD k 0) (p.getD ((l + r) / 2) 0) = true then kas_place p k f l ((l + r) / 2) else kas_place p k f ((l + r) / 2 + 1) r) = l' /\ _
   by_cases c : kk ks (p.getD k 0) < kk ks (p.getD ((l + r) / 2) 0)
   ·rw [if_pos (decide_eq_true c)]
    exact qaV S f l ((l + r) / 2) (by omega) (by omega) (by omega) a fun i x y => Int.lt_of_lt_of_le c (mono _ _ x y)
   ·rw [if_neg (by simpa using c)]
    exact qaV S f ((l + r) / 2 + 1) r (by omega) (by omega) h2 (fun i x => Int.le_trans (mono i ((l + r) / 2) (by omega) (by omega)) (Int.not_lt.mp c)) b
theorem qg4 {n : Nat} : ∀ (f k : Nat) {p : Array Nat}, f = n - k -> qc4 ks n k p -> qc4 ks n n (yB (cm ks) (kas_bin f p k))
 | 0, k, p, hf, S => by
  have : k = n := by have := S.mn; omega
  subst this
  exact S
 | f + 1, k, p, hf, S => by
  have hkn : k < n := by omega
  have hid := S.id k (Nat.le_refl _) hkn
  obtain ⟨l, e1, e2, e3, e4⟩ := qaV S k 0 k (by omega) (Nat.zero_le _) (Nat.le_refl _) (fun i h => by omega) (fun i h1 h2 => by omega)
  show qc4 ks n n (yB (cm ks) ((kas_place p k k 0 k).bind fun l => kas_bin f (bubble p k (k - l)) (k + 1)))
  rw [yt, e1]
  have g := fun j => qit (p := p) (k := k) (l := l) (by rw [S.sz]; exact hkn) e2 j
  refine qg4 f (k + 1) (by omega) ⟨by rw [bubble_size, S.sz], hkn, fun j a b => ?_, fun j a => ?_, fun i j a b => ?_⟩
  ·rw [g, if_neg (by omega), if_neg (by omega)]; exact S.id j (by omega) b
  ·rw [g]
   split
   ·rw [hid]; omega
   ·split
    ·have := S.lo (j - 1) (by omega); omega
    ·have := S.lo j (by omega); omega
  ·rw [g i, g j]
   have lk : ∀ z, z < k -> z < l -> Lx ks (p.getD z 0) (p.getD k 0) := fun z hz hl => by
    have h1 := e3 z hl
    have h2 := S.lo z hz
    unfold Lx
    rw [hid] at h1 |-
    omega
   have gk : ∀ z, l <= z -> z < k -> Lx ks (p.getD k 0) (p.getD z 0) := fun z hl hz => .inl (e4 z hl hz)
   by_cases hi : i = l
   ·rw [if_pos hi, if_neg (by omega), if_pos ⟨by omega, by omega⟩]
    exact gk _ (by omega) (by omega)
   ·rw [if_neg hi]
    by_cases hj : j = l
    ·rw [if_pos hj, if_neg (by omega)]
     exact lk i (by omega) (by omega)
    ·rw [if_neg hj]
     by_cases hi2 : l < i /\ i <= k
     ·rw [if_pos hi2, if_pos ⟨by omega, by omega⟩]
      exact S.so _ _ (by omega) (by omega)
     ·rw [if_neg hi2]
      by_cases hj2 : l < j /\ j <= k
      ·rw [if_pos hj2]
       exact S.so _ _ (by omega) (by omega)
      ·rw [if_neg hj2]
       exact S.so _ _ a (by omega)
theorem qiu {n : Nat} (hn : 1 <= n) : qc4 ks n n (yB (cm ks) (kas_sort n)) := by
 obtain ⟨S, h1⟩ := qgi (ks := ks) hn
 unfold kas_sort
 rw [yt]
 by_cases h : (yB (cm ks) (kas_count n (List.toArray (List.range n)))).1 < n
 ·rw [if_pos h]
  have e : max (yB (cm ks) (kas_count n (List.toArray (List.range n)))).1 1 = (yB (cm ks) (kas_count n (List.toArray (List.range n)))).1 := by omega
  rw [e]
  exact qg4 _ _ rfl S
 ·rw [if_neg h]
  have e : (yB (cm ks) (kas_count n (List.toArray (List.range n)))).1 = n := by have := S.mn; omega
  rw [e] at S
  exact S
end
theorem ord_sorted (ks : List Int) : (ord ks).Pairwise (Lx ks) := by
 unfold ord
 split
 ·rename_i h
  match hk : ks.length, h with
  | 0, _ => exact List.Pairwise.nil
  | 1, _ => exact List.pairwise_singleton _ _
 ·have S := qiu (ks := ks) (n := ks.length) (by omega)
  rw [List.pairwise_iff_getElem]
  intro i j hi hj hij
  have hz := S.sz
  rw [Array.length_toList] at hi hj
  have := S.so i j hij (by rw [<- hz]; exact hj)
  have e1 : (yB (cm ks) (kas_sort ks.length)).getD i 0 = (yB (cm ks) (kas_sort ks.length)).toList[i]'(by rw [Array.length_toList]; exact hi) := by simp [Array.getD, hi]
  have e2 : (yB (cm ks) (kas_sort ks.length)).getD j 0 = (yB (cm ks) (kas_sort ks.length)).toList[j]'(by rw [Array.length_toList]; exact hj) := by simp [Array.getD, hj]
  rw [e1, e2] at this
  exact this
end L2.Srt
namespace L2.Sk
namespace Law
open PySem PySem.Spec PyProof.Rows
set_option maxHeartbeats 4000000
def Rx (ks : List Nk) (i j : Nat) : Prop := (nAt ks j).2.1 * (nAt ks i).1 < (nAt ks i).2.1 * (nAt ks j).1 \/ ((nAt ks j).2.1 * (nAt ks i).1 = (nAt ks i).2.1 * (nAt ks j).1 /\ i < j)
theorem qbJ {ks : List Nk} {x : Nk} (h : x ∈ ks) : x.1 ∣ qW ks := by
 induction ks with
 | nil => cases h
 | cons y ks ih =>
  rw [zj]
  rcases List.mem_cons.mp h with e | h
  ·subst e; exact Nat.dvd_mul_right _ _
  ·exact Nat.dvd_trans (ih h) (Nat.dvd_mul_left _ _)
theorem qlC {a b p q v w P : Nat} (hv : 0 < v) (hw : 0 < w) (hP : 0 < P) (h1 : v * p = P) (h2 : w * q = P) : (b * q < a * p ↔ b * v < a * w) /\ (b * q = a * p ↔ b * v = a * w) := by
 have e1 : b * q * (v * w) = b * v * P := by rw [<- h2]; simp only [Nat.mul_comm, Nat.mul_left_comm]
 have e2 : a * p * (v * w) = a * w * P := by rw [<- h1]; simp only [Nat.mul_comm, Nat.mul_left_comm]
 have hvw : 0 < v * w := Nat.mul_pos hv hw
 constructor
 ·constructor
  ·intro h
   have := Nat.mul_lt_mul_of_pos_right h hvw
   rw [e1, e2] at this
   exact Nat.lt_of_mul_lt_mul_right this
  ·intro h
   have := Nat.mul_lt_mul_of_pos_right h hP
   rw [<- e1, <- e2] at this
   exact Nat.lt_of_mul_lt_mul_right this
 ·constructor
  ·intro h
   have : b * v * P = a * w * P := by rw [<- e1, <- e2, h]
   exact Nat.eq_of_mul_eq_mul_right hP this
  ·intro h
   have : b * q * (v * w) = a * p * (v * w) := by rw [e1, e2, h]
   exact Nat.eq_of_mul_eq_mul_right hvw this
theorem qiv {ks : List Nk} (hw : ∀ x ∈ ks, 0 < x.1) {i j : Nat} (hi : i < ks.length) (hj : j < ks.length) :
  (qci ks i < qci ks j ↔ (nAt ks j).2.1 * (nAt ks i).1 < (nAt ks i).2.1 * (nAt ks j).1) /\ (qci ks i = qci ks j ↔ (nAt ks j).2.1 * (nAt ks i).1 = (nAt ks i).2.1 * (nAt ks j).1) := by
 have a1 := zN hi
 have a2 := zN hj
 have d1 : (nAt ks i).1 * (qW ks / (nAt ks i).1) = qW ks := Nat.mul_div_cancel' (qbJ a1)
 have d2 : (nAt ks j).1 * (qW ks / (nAt ks j).1) = qW ks := Nat.mul_div_cancel' (qbJ a2)
 obtain ⟨c1, c2⟩ := qlC (a := (nAt ks i).2.1) (b := (nAt ks j).2.1) (hw _ a1) (hw _ a2) (wF hw) d1 d2
 have e : ∀ p, qci ks p = -(((nAt ks p).2.1 * (qW ks / (nAt ks p).1) : Nat) : Int) := fun p => by
  unfold qci
  rw [Int.neg_mul]
  rfl
 rw [e i, e j, <- c1, <- c2]
 constructor <;> omega
theorem qiw (ks : List Nk) : (plN ks).Pairwise (· < ·) := (List.pairwise_lt_range).sublist List.filter_sublist
theorem qe8 {ks : List Nk} {p : Nat} : p ∈ plN ks ↔ p < ks.length /\ 0 < (nAt ks p).2.1 := by
 unfold plN
 rw [List.mem_filter, mR_, decide_eq_true_eq]
theorem wH {ks : List Nk} (hw : ∀ x ∈ ks, 0 < x.1) : (u4 ks).Pairwise (Rx ks) := by
 unfold u4
 rw [List.pairwise_map]
 refine (Srt.ord_sorted ((plN ks).map (qci ks))).imp_of_mem fun {a b} ha hb hab => ?_
 have la : a < (plN ks).length := by
  have := (Srt.ord_perm _).mem_iff.mp ha
  rw [lM_] at this
  exact mR_.mp this
 have lb : b < (plN ks).length := by
  have := (Srt.ord_perm _).mem_iff.mp hb
  rw [lM_] at this
  exact mR_.mp this
 have ea : (plN ks).getD a 0 = (plN ks)[a] := by simp [la]
 have eb : (plN ks).getD b 0 = (plN ks)[b] := by simp [lb]
 have ka : ((plN ks).map (qci ks)).getD a 0 = qci ks ((plN ks)[a]) := by simp [la]
 have kb : ((plN ks).map (qci ks)).getD b 0 = qci ks ((plN ks)[b]) := by simp [lb]
 have ma := (qe8.mp (List.getElem_mem la)).1
 have mb := (qe8.mp (List.getElem_mem lb)).1
 obtain ⟨k1, k2⟩ := qiv hw ma mb
 rw [ea, eb]
 unfold Srt.Lx Srt.kk at hab
 rw [ka, kb] at hab
 rcases hab with h | ⟨h, hlt⟩
 ·exact .inl (k1.mp h)
 ·exact .inr ⟨k2.mp h, List.pairwise_iff_getElem.mp (qiw ks) a b la lb hlt⟩
theorem Rx.le {ks : List Nk} {i j : Nat} (h : Rx ks i j) : (nAt ks j).2.1 * (nAt ks i).1 <= (nAt ks i).2.1 * (nAt ks j).1 := by rcases h with h | h <;> omega
def ya (t b : Nat) (x : Nk) : Nat := x.2.1 * b - x.1 * t
def bdN (t b : Nat) : List Nk -> Nat -> Option Nat
 | [], T => some T
 | x :: ks, T => if x.1 * t < x.2.1 * b then (match x.2.2 with
  | none => none
  | some m => bdN t b ks (T + ya t b x * m)) else bdN t b ks T
def spN (ks : List Nk) : List Nat -> Nat -> Nat × Nat
 | [], _ => (0, 1)
 | p :: l, r => if goN (nAt ks p) r then spN ks l (bhN (nAt ks p) r) else (uI (nAt ks p).2.1 (nAt ks p).1, uJ (nAt ks p).2.1 (nAt ks p).1)
theorem qaW {t b : Nat} : ∀ (ks : List Nk) (T : Nat), (∀ x ∈ ks, x.1 * t < x.2.1 * b -> x.2.2.isSome = true) -> bdN t b ks T = some (T + (ks.map fun x => ya t b x * mN x).sum)
 | [], T, _ => by simp [bdN]
 | x :: ks, T, h => by
  have ih := fun T => qaW ks T fun y hy => h y (mM _ hy)
  unfold bdN
  rw [mC_, List.sum_cons]
  by_cases c : x.1 * t < x.2.1 * b
  ·rw [if_pos c]
   obtain ⟨m, hm⟩ := Option.isSome_iff_exists.mp (h x mS_ c)
   have e : mN x = m := by unfold mN; rw [hm]; rfl
   rw [hm, e]
   simp only [ih]
   congr 1
   omega
  ·rw [if_neg c, ih]
   have : ya t b x = 0 := by unfold ya; omega
   rw [this]
   simp
theorem qc6 (ks : List Nk) : (List.range ks.length).map (nAt ks) = ks := by
 refine List.ext_getElem (by simp) fun i h1 h2 => ?_
 have := yY (ks := ks) (p := i) h2
 rw [gG h2] at this
 simp [(Option.some.inj this)]
theorem qar {f : Nat -> Nat} {q : Nat -> Bool} : ∀ l : List Nat, (∀ i ∈ l, q i = false -> f i = 0) -> ((l.filter q).map f).sum = (l.map f).sum
 | [], _ => rfl
 | i :: l, h => by
  have ih := qar (f := f) (q := q) l fun j hj => h j (mM _ hj)
  cases c : q i with
  | true => rw [List.filter_cons_of_pos c, mC_, mC_, List.sum_cons, List.sum_cons, ih]
  | false =>
   rw [List.filter_cons_of_neg (by rw [c]; simp), mC_, List.sum_cons, ih, h i mS_ c, Nat.zero_add]
theorem qc7 {ks : List Nk} {f : Nat -> Nat} (h : ∀ i, (nAt ks i).2.1 = 0 -> f i = 0) : ((List.range ks.length).map f).sum = ((u4 ks).map f).sum := by
 rw [((wD ks).map f).sum_nat]
 unfold plN
 rw [qar]
 intro i _ hi
 refine h i ?_
 simpa using hi
theorem qg5 {B : Nat} {v : Nat -> Nat} {u : Nat -> Nk × Nat × Nat} : ∀ (l : List Nat) (s : Nat × Nat) (A : Nat), s.1 * B = s.2 * A -> (∀ i ∈ l, (u i).2.1 * B = v i * (u i).2.2) -> ((l.map u).foldl swS s).1 * B = ((l.map u).foldl swS s).2 * (A + (l.map fun i => v i * (u i).1.2.1).sum)
 | [], s, A, h, _ => by simpa using h
 | i :: l, s, A, h, hv => by
  have h1 := hv i mS_
  have := qg5 (B := B) (v := v) (u := u) l (swS s (u i)) (A + v i * (u i).1.2.1) (by
   show (s.1 * (u i).2.2 + (u i).2.1 * (u i).1.2.1 * s.2) * B = s.2 * (u i).2.2 * (A + v i * (u i).1.2.1)
   generalize (u i).2.2 = z2 at *
   generalize (u i).2.1 = z1 at *
   generalize (u i).1.2.1 = g at *
   generalize v i = w at *
   have a1 : s.1 * z2 * B = s.2 * A * z2 := by rw [<- h]; simp only [Nat.mul_comm, Nat.mul_left_comm]
   have a2 : z1 * g * s.2 * B = w * z2 * g * s.2 := by rw [<- h1]; simp only [Nat.mul_comm, Nat.mul_left_comm]
   rw [Nat.add_mul, a1, a2, Nat.mul_add]
   simp only [Nat.mul_comm, Nat.mul_left_comm]) fun j hj => hv j (mM _ hj)
  rw [mC_, fo_, mC_, List.sum_cons]
  rw [Nat.add_assoc] at this
  exact this
theorem wJ {ks : List Nk} : ∀ (l : List Nat) (s : Nat × List (Nat × Nat)) (p : Nat), p ∉ l -> (l.foldl (shS ks) s).2.getD p (0, 1) = s.2.getD p (0, 1)
 | [], s, p, _ => rfl
 | q :: l, s, p, h => by
  rw [fo_, wJ l _ p fun hp => h (mM _ hp)]
  show (s.2.set q _).getD p (0, 1) = _
  have : q ≠ p := fun e => h (by rw [e]; exact mS_)
  simp [List.getD, List.getElem?_set, this]
theorem qe9 {F : List (Nat × Nat)} {p : Nat} {z : Nat × Nat} (h : p < F.length) : (F.set p z).getD p (0, 1) = z := by simp [List.getD, h]
theorem sh0 {x : Nk} (h : 0 < x.1) : (shN x 0).1 = 0 /\ bhN x 0 = 0 := by
 unfold shN bhN
 cases c : goN x 0 with
 | false =>
  refine ⟨?_, by simp⟩
  show uI 0 x.1 = 0
  unfold uI
  rw [Nat.zero_div]
 | true =>
  refine ⟨?_, by simp⟩
  show mN x = 0
  unfold goN at c
  unfold mN
  cases e : x.2.2 with
  | none => rfl
  | some m =>
   rw [e] at c
   have : m * x.1 <= 0 := by simpa using c
   rcases Nat.mul_eq_zero.mp (Nat.le_zero.mp this) with h0 | h0
   ·exact h0
   ·omega
theorem qc8 {ks : List Nk} (hw : ∀ x ∈ ks, 0 < x.1) : ∀ (l : List Nat) (F : List (Nat × Nat)), (∀ p ∈ l, p < ks.length) -> F.length = ks.length -> l.Nodup -> ∀ p ∈ l, ((l.foldl (shS ks) (0, F)).2.getD p (0, 1)).1 = 0
 | [], F, _, _, _, p, hp => by cases hp
 | q :: l, F, hl, hF, hn, p, hp => by
  have hq := hl q mS_
  obtain ⟨s0, b0⟩ := sh0 (hw _ (zN hq))
  rw [fo_]
  have es : shS ks (0, F) q = (0, F.set q (shN (nAt ks q) 0)) := by
   show (bhN (nAt ks q) 0, _) = _
   rw [b0]
  rw [es]
  obtain ⟨n1, n2⟩ := List.nodup_cons.mp hn
  rcases List.mem_cons.mp hp with e | hp
  ·subst e
   rw [wJ l _ p n1, qe9 (by rw [hF]; exact hq)]
   exact s0
  ·exact qc8 hw l _ (fun y hy => hl y (mM _ hy)) (by rw [lS_]; exact hF) n2 p hp
theorem qbK (T : Nat) {B : Nat} (hB : 0 < B) : T * uJ T B = B * uI T B := by
 obtain ⟨g, g0, e1, e2, e3, _, _⟩ := vO T hB
 generalize uI T B = t at *
 generalize uJ T B = b at *
 rw [e1, e2]
 simp only [Nat.mul_comm, Nat.mul_left_comm]
theorem qix (T : Nat) {B : Nat} (hB : 0 < B) : Nat.gcd (uI T B) (uJ T B) = 1 := by
 have hg : 0 < Nat.gcd T B := Nat.gcd_pos_of_pos_right _ hB
 show Nat.gcd (T / Nat.gcd T B) (B / Nat.gcd T B) = 1
 rw [Nat.gcd_div (Nat.gcd_dvd_left T B) (Nat.gcd_dvd_right T B)]
 exact Nat.div_self hg
theorem qc9 {gp wp gx wx t b : Nat} (hx : 0 < wx) (e : gx * b = wx * t) : (gx * wp <= gp * wx -> wp * t <= gp * b) /\ (gp * wx <= gx * wp -> gp * b <= wp * t) := by
 constructor
 ·intro h
  have a1 : gx * wp * b <= gp * wx * b := Nat.mul_le_mul_right _ h
  have a2 : gx * wp * b = wp * t * wx := by
   rw [Nat.mul_right_comm, e]
   simp only [Nat.mul_comm, Nat.mul_left_comm]
  have a3 : gp * wx * b = gp * b * wx := Nat.mul_right_comm _ _ _
  rw [a2, a3] at a1
  exact Nat.le_of_mul_le_mul_right a1 hx
 ·intro h
  have a1 : gp * wx * b <= gx * wp * b := Nat.mul_le_mul_right _ h
  have a2 : gx * wp * b = wp * t * wx := by
   rw [Nat.mul_right_comm, e]
   simp only [Nat.mul_comm, Nat.mul_left_comm]
  have a3 : gp * wx * b = gp * b * wx := Nat.mul_right_comm _ _ _
  rw [a2, a3] at a1
  exact Nat.le_of_mul_le_mul_right a1 hx
def pv (p a : Nat) (v : Nat -> Nat) (q : Nat) : Nat := if q = p then a else v q
theorem qgj (p a : Nat) (v : Nat -> Nat) : pv p a v p = a := if_pos rfl
theorem qgk {p q a : Nat} {v : Nat -> Nat} (h : q ≠ p) : pv p a v q = v q := if_neg h
structure qmi (ks : List Nk) (l : List Nat) (r : Nat) (F : List (Nat × Nat)) (t b : Nat) : Prop where
 b0 : 0 < b
 g1 : Nat.gcd t b = 1
 at' : (t = 0 /\ b = 1) \/ ∃ x ∈ l, (nAt ks x).2.1 * b = (nAt ks x).1 * t
 fin : ∀ p ∈ l, (nAt ks p).1 * t < (nAt ks p).2.1 * b -> (nAt ks p).2.2.isSome = true
 sum : ∃ (B : Nat) (v : Nat -> Nat), 0 < B /\ (∀ p ∈ l, ((l.foldl (shS ks) (r, F)).2.getD p (0, 1)).1 * B = v p * ((l.foldl (shS ks) (r, F)).2.getD p (0, 1)).2) /\ b * (l.map fun p => v p * (nAt ks p).2.1).sum = B * (r * t + (l.map fun p => ya t b (nAt ks p) * mN (nAt ks p)).sum)
theorem vg {f : Nat -> Nat} : ∀ l : List Nat, (∀ p ∈ l, f p = 0) -> (l.map f).sum = 0
 | [], _ => rfl
 | p :: l, h => by rw [mC_, List.sum_cons, h p mS_, vg l fun q hq => h q (mM _ hq)]
theorem qlD {ks : List Nk} (hw : ∀ x ∈ ks, 0 < x.1) : ∀ (l : List Nat) (r : Nat) (F : List (Nat × Nat)), (∀ p ∈ l, p < ks.length) -> F.length = ks.length -> l.Nodup -> l.Pairwise (Rx ks) -> qmi ks l r F (spN ks l r).1 (spN ks l r).2
 | [], r, F, _, _, _, _ => ⟨Nat.one_pos, by simp [spN], .inl ⟨rfl, rfl⟩, fun p hp => (nN_ hp).elim, 1, fun _ => 0, Nat.one_pos, fun p hp => (nN_ hp).elim, by simp [spN]⟩
 | p :: l, r, F, hl, hF, hn, hs => by
  have hp := hl p mS_
  have hl' : ∀ y ∈ l, y < ks.length := fun y hy => hl y (mM _ hy)
  obtain ⟨n1, n2⟩ := List.nodup_cons.mp hn
  obtain ⟨s1, s2⟩ := List.pairwise_cons.mp hs
  have w0 := hw _ (zN hp)
  cases c : goN (nAt ks p) r with
  | true =>
   have e1 : spN ks (p :: l) r = spN ks l (bhN (nAt ks p) r) := by
    show (if goN (nAt ks p) r then _ else _) = _
    rw [if_pos c]
   have eb : bhN (nAt ks p) r = r - mN (nAt ks p) * (nAt ks p).1 := by unfold bhN; rw [if_pos c]
   have es : shN (nAt ks p) r = (mN (nAt ks p), 1) := by unfold shN; rw [if_pos c]
   have hm : (nAt ks p).2.2.isSome = true /\ mN (nAt ks p) * (nAt ks p).1 <= r := by
    unfold goN at c
    unfold mN
    cases em : (nAt ks p).2.2 with
    | none => rw [em] at c; cases c
    | some m => rw [em] at c; exact ⟨rfl, by simpa using c⟩
   have d := qlD hw l (bhN (nAt ks p) r) (F.set p (shN (nAt ks p) r)) hl' (by rw [lS_]; exact hF) n2 s2
   rw [e1]
   generalize spN ks l (bhN (nAt ks p) r) = tb at *
   obtain ⟨t, b⟩ := tb
   simp only at d |-
   obtain ⟨b0, g1, ha, hf, B, v, hB, hv, hsum⟩ := d
   have hge : (nAt ks p).1 * t <= (nAt ks p).2.1 * b := by
    rcases ha with ⟨rfl, rfl⟩ | ⟨x, hx, ex⟩
    ·simp
    ·exact (qc9 (hw _ (zN (hl' x hx))) ex).1 (s1 x hx).le
   have hfold : (p :: l).foldl (shS ks) (r, F) = l.foldl (shS ks) (bhN (nAt ks p) r, F.set p (shN (nAt ks p) r)) := rfl
   refine ⟨b0, g1, ?_, fun q hq => ?_, B, pv p (B * mN (nAt ks p)) v, hB, fun q hq => ?_, ?_⟩
   ·rcases ha with h | ⟨x, hx, ex⟩
    ·exact .inl h
    ·exact .inr ⟨x, mM _ hx, ex⟩
   ·rcases List.mem_cons.mp hq with e | hq
    ·subst e; exact fun _ => hm.1
    ·exact hf q hq
   ·rw [hfold]
    rcases List.mem_cons.mp hq with e | hq
    ·subst e
     rw [wJ l _ q n1]
     show ((F.set q (shN (nAt ks q) r)).getD q (0, 1)).1 * B = _ * ((F.set q (shN (nAt ks q) r)).getD q (0, 1)).2
     rw [qe9 (by rw [hF]; exact hp), es, qgj]
     simp only [Nat.mul_one]
     exact Nat.mul_comm _ _
    ·have : q ≠ p := fun e => n1 (e ▸ hq)
     rw [qgk this]
     exact hv q hq
   ·have ev : (l.map fun q => pv p (B * mN (nAt ks p)) v q * (nAt ks q).2.1) = l.map fun q => v q * (nAt ks q).2.1 := mL_ fun q hq => by
     have : q ≠ p := fun e => n1 (e ▸ hq)
     rw [qgk this]
    rw [mC_, mC_, List.sum_cons, List.sum_cons, ev, qgj, Nat.mul_add, hsum, eb]
    generalize (l.map fun p => ya t b (nAt ks p) * mN (nAt ks p)).sum = S at *
    unfold ya
    generalize mN (nAt ks p) = m at *
    generalize (nAt ks p).1 = w at *
    generalize (nAt ks p).2.1 = g at *
    obtain ⟨q, rfl⟩ : ∃ q, r = m * w + q := ⟨r - m * w, by omega⟩
    obtain ⟨z, hz⟩ : ∃ z, g * b = w * t + z := ⟨g * b - w * t, by omega⟩
    rw [hz, Nat.add_sub_cancel_left, Nat.add_sub_cancel_left]
    have : b * (B * m * g) = B * (m * (w * t + z)) := by
     rw [<- hz]
     simp only [Nat.mul_comm, Nat.mul_left_comm]
    rw [this, <- Nat.mul_add]
    congr 1
    rw [Nat.mul_add, Nat.add_mul]
    have a1 : m * (w * t) = m * w * t := (Nat.mul_assoc _ _ _).symm
    have a2 : z * m = m * z := Nat.mul_comm _ _
    omega
  | false =>
   have e1 : spN ks (p :: l) r = (uI (nAt ks p).2.1 (nAt ks p).1, uJ (nAt ks p).2.1 (nAt ks p).1) := by
    show (if goN (nAt ks p) r then _ else _) = _
    rw [if_neg (by rw [c]; simp)]
   have eb : bhN (nAt ks p) r = 0 := by unfold bhN; rw [if_neg (by rw [c]; simp)]
   have es : shN (nAt ks p) r = (uI r (nAt ks p).1, uJ r (nAt ks p).1) := by unfold shN; rw [if_neg (by rw [c]; simp)]
   have hfold : (p :: l).foldl (shS ks) (r, F) = l.foldl (shS ks) (0, F.set p (shN (nAt ks p) r)) := by rw [<- eb]; rfl
   rw [e1]
   have ex := qbK (nAt ks p).2.1 w0
   have er := qbK r w0
   have lb := wE (nAt ks p).2.1 w0
   have lr := wE r w0
   have gg := qix (nAt ks p).2.1 w0
   simp only
   generalize uI (nAt ks p).2.1 (nAt ks p).1 = t at *
   generalize uJ (nAt ks p).2.1 (nAt ks p).1 = b at *
   have hle : ∀ q ∈ l, (nAt ks q).2.1 * b <= (nAt ks q).1 * t := fun q hq => (qc9 w0 ex).2 (s1 q hq).le
   have m0 : ∀ q ∈ p :: l, ya t b (nAt ks q) = 0 := fun q hq => by
    unfold ya
    rcases List.mem_cons.mp hq with e | hq
    ·subst e; omega
    ·have := hle q hq; omega
   refine ⟨lb.1, gg, .inr ⟨p, mS_, ex⟩, fun q hq h => ?_, uJ r (nAt ks p).1, pv p (uI r (nAt ks p).1) (fun _ => 0), lr.1, fun q hq => ?_, ?_⟩
   ·have := m0 q hq
    unfold ya at this
    omega
   ·rw [hfold]
    rcases List.mem_cons.mp hq with e | hq
    ·subst e
     rw [wJ l _ q n1]
     show ((F.set q (shN (nAt ks q) r)).getD q (0, 1)).1 * _ = _ * ((F.set q (shN (nAt ks q) r)).getD q (0, 1)).2
     rw [qe9 (by rw [hF]; exact hp), es, qgj]
    ·have : q ≠ p := fun e => n1 (e ▸ hq)
     rw [qgk this, Nat.zero_mul, qc8 hw l _ hl' (by rw [lS_]; exact hF) n2 q hq, Nat.zero_mul]
   ·rw [vg (p :: l) (f := fun q => ya t b (nAt ks q) * mN (nAt ks q)) fun q hq => by rw [m0 q hq, Nat.zero_mul]]
    rw [mC_, List.sum_cons, vg l (f := fun q => pv p (uI r (nAt ks p).1) (fun _ => 0) q * (nAt ks q).2.1) fun q hq => by
     have : q ≠ p := fun e => n1 (e ▸ hq)
     rw [qgk this, Nat.zero_mul], qgj, Nat.add_zero, Nat.add_zero]
    generalize uI r (nAt ks p).1 = u at *
    generalize uJ r (nAt ks p).1 = B at *
    generalize (nAt ks p).1 = w at *
    generalize (nAt ks p).2.1 = g at *
    have a1 : b * (u * g) = u * (g * b) := by simp only [Nat.mul_comm, Nat.mul_left_comm]
    have a2 : B * (r * t) = r * B * t := by simp only [Nat.mul_comm, Nat.mul_left_comm]
    rw [a1, a2, ex, er]
    simp only [Nat.mul_comm, Nat.mul_left_comm]
def yP (ks : List Nk) (r : Nat) : Nat × Nat := spN ks (u4 ks) r
theorem qgl {ks : List Nk} (hw : ∀ x ∈ ks, 0 < x.1) (r : Nat) : 0 < (yP ks r).2 /\ Nat.gcd (yP ks r).1 (yP ks r).2 = 1 := by
 have d := qlD hw (u4 ks) r (List.replicate ks.length (0, 1)) (fun p hp => (u5.mp hp).1) List.length_replicate (qaq ks) (wH hw)
 exact ⟨d.b0, d.g1⟩
theorem qcj {ks : List Nk} (hw : ∀ x ∈ ks, 0 < x.1) (r : Nat) : ∃ T, bdN (yP ks r).1 (yP ks r).2 ks (r * (yP ks r).1) = some T /\ T * (swN ks r).2 = (swN ks r).1 * (yP ks r).2 := by
 have d := qlD hw (u4 ks) r (List.replicate ks.length (0, 1)) (fun p hp => (u5.mp hp).1) List.length_replicate (qaq ks) (wH hw)
 have d' : qmi ks (u4 ks) r (List.replicate ks.length (0, 1)) (yP ks r).1 (yP ks r).2 := d
 generalize (yP ks r).1 = t at *
 generalize (yP ks r).2 = b at *
 obtain ⟨b0, g1, ha, hf, B, v, hB, hv, hsum⟩ := d'
 refine ⟨_, qaW ks _ fun x hx hlt => ?_, ?_⟩
 ·obtain ⟨i, hi⟩ := List.mem_iff_getElem?.mp hx
  have hil : i < ks.length := (gI_.mp hi).1
  rw [yY hil] at hi
  cases hi
  refine hf i (u5.mpr ⟨hil, ?_⟩) hlt
  refine Nat.pos_of_ne_zero fun e => ?_
  rw [e, Nat.zero_mul] at hlt
  omega
 ·have e1 : (ks.map fun x => ya t b x * mN x) = (List.range ks.length).map fun i => ya t b (nAt ks i) * mN (nAt ks i) := by
   conv => lhs; rw [<- qc6 ks]
   rw [mm_]
   rfl
  rw [e1, qc7 (f := fun i => ya t b (nAt ks i) * mN (nAt ks i)) fun i h => by
   unfold ya
   rw [h, Nat.zero_mul, Nat.zero_sub, Nat.zero_mul]]
  let v' : Nat -> Nat := fun i => if i ∈ u4 ks then v i else 0
  have hz : ks.zip (shs ks r) = (List.range ks.length).map fun i => (nAt ks i, (shs ks r).getD i (0, 1)) := by
   refine List.ext_getElem (by simp [qaR]) fun i h1 h2 => ?_
   have hi : i < ks.length := by simpa using h2
   have := yY hi
   rw [gG hi] at this
   have hi2 : i < (shs ks r).length := by rw [qaR]; exact hi
   simp [Option.some.inj this, hi2]
  have val := qg5 (B := B) (v := v') (u := fun i => (nAt ks i, (shs ks r).getD i (0, 1))) (List.range ks.length) (0, 1) 0 (by simp) fun i hi => by
   show ((shs ks r).getD i (0, 1)).1 * B = v' i * ((shs ks r).getD i (0, 1)).2
   by_cases hd : i ∈ u4 ks
   ·show _ = (if i ∈ u4 ks then v i else 0) * _
    rw [if_pos hd]
    exact hv i hd
   ·show _ = (if i ∈ u4 ks then v i else 0) * _
    rw [if_neg hd, Nat.zero_mul]
    have : (shs ks r).getD i (0, 1) = (List.replicate ks.length ((0 : Nat), (1 : Nat))).getD i (0, 1) := wJ (u4 ks) _ i hd
    rw [this]
    have hi' : i < ks.length := mR_.mp hi
    simp [List.getD, hi']
  rw [<- hz, qc7 (f := fun i => v' i * (nAt ks i).2.1) fun i h => by rw [h, Nat.mul_zero]] at val
  have ev : ((u4 ks).map fun i => v' i * (nAt ks i).2.1) = (u4 ks).map fun i => v i * (nAt ks i).2.1 := mL_ fun i hi => by
   show (if i ∈ u4 ks then v i else 0) * _ = _
   rw [if_pos hi]
  rw [ev] at val
  have val' : (swN ks r).1 * B = (swN ks r).2 * ((u4 ks).map fun i => v i * (nAt ks i).2.1).sum := by
   have : (ks.zip (shs ks r)).foldl swS (0, 1) = swN ks r := rfl
   rw [this, Nat.zero_add] at val
   exact val
  generalize ((u4 ks).map fun i => v i * (nAt ks i).2.1).sum = X at *
  generalize (r * t + ((u4 ks).map fun i => ya t b (nAt ks i) * mN (nAt ks i)).sum) = Y at *
  generalize (swN ks r).1 = N at *
  generalize (swN ks r).2 = Dn at *
  have : B * (Y * Dn) = B * (N * b) := by
   have a1 : B * (Y * Dn) = B * Y * Dn := (Nat.mul_assoc _ _ _).symm
   have a2 : B * (N * b) = N * B * b := by simp only [Nat.mul_comm, Nat.mul_left_comm]
   rw [a1, a2, <- hsum, val']
   simp only [Nat.mul_comm, Nat.mul_left_comm]
  exact Nat.eq_of_mul_eq_mul_left hB this
def uK (n : Nat) (f : Nat -> Nat) : Nat := ((List.range n).map f).sum
theorem zu (n : Nat) (f : Nat -> Nat) : uK (n + 1) f = uK n f + f n := by
 unfold uK
 rw [List.range_succ, List.map_append, List.sum_append]
 simp
theorem qas {n : Nat} {f g : Nat -> Nat} (h : ∀ p, p < n -> f p = g p) : uK n f = uK n g := by
 unfold uK
 rw [mL_ fun p hp => h p (mR_.mp hp)]
theorem qfa {f g : Nat -> Nat} : ∀ n : Nat, (∀ p, p < n -> f p <= g p) -> uK n f <= uK n g
 | 0, _ => Nat.le_refl _
 | n + 1, h => by
  rw [zu, zu]
  have := qfa n fun p hp => h p (by omega)
  have := h n (by omega)
  omega
theorem qda {f g : Nat -> Nat} : ∀ n : Nat, uK n (fun p => f p + g p) = uK n f + uK n g
 | 0 => rfl
 | n + 1 => by
  rw [zu, zu, zu, qda n]
  omega
theorem qaX {f : Nat -> Nat} (c : Nat) : ∀ n : Nat, uK n (fun p => c * f p) = c * uK n f
 | 0 => rfl
 | n + 1 => by
  rw [zu, zu, qaX c n, Nat.mul_add]
theorem qaY {f g : Nat -> Nat} {p c : Nat} (hp : f p = g p + c) (hq : ∀ q, q ≠ p -> f q = g q) : ∀ n : Nat, (p < n -> uK n f = uK n g + c) /\ (n <= p -> uK n f = uK n g)
 | 0 => ⟨fun h => absurd h (Nat.not_lt_zero _), fun _ => rfl⟩
 | n + 1 => by
  obtain ⟨a, b⟩ := qaY hp hq n
  rw [zu, zu]
  refine ⟨fun h => ?_, fun h => ?_⟩
  ·by_cases e : n = p
   ·subst e
    rw [b (Nat.le_refl _), hp]
    omega
   ·rw [a (by omega), hq n e]
    omega
  ·rw [b (by omega), hq n (by omega)]
def okY (ks : List Nk) (y : Nat -> Nat) : Prop := ∀ p, p < ks.length -> ∀ m, (nAt ks p).2.2 = some m -> y p <= m
def wY (ks : List Nk) (y : Nat -> Nat) : Nat := uK ks.length fun p => (nAt ks p).1 * y p
def gY (ks : List Nk) (y : Nat -> Nat) : Nat := uK ks.length fun p => (nAt ks p).2.1 * y p
theorem qck {t b : Nat} : ∀ (ks : List Nk) (T T' : Nat), bdN t b ks T = some T' -> (∀ x ∈ ks, x.1 * t < x.2.1 * b -> x.2.2.isSome = true)
 | [], T, T', _, x, hx, _ => by cases hx
 | y :: ks, T, T', e, x, hx, c => by
  unfold bdN at e
  rcases List.mem_cons.mp hx with rfl | hx
  ·rw [if_pos c] at e
   cases em : x.2.2 with
   | none => rw [em] at e; cases e
   | some m => rfl
  ·split at e
   ·cases em : y.2.2 with
    | none => rw [em] at e; cases e
    | some m => rw [em] at e; exact qck ks _ T' e x hx c
   ·exact qck ks _ T' e x hx c
theorem qdI {ks : List Nk} {t b r T : Nat} {y : Nat -> Nat} (hy : okY ks y) (hr : wY ks y <= r) (e : bdN t b ks (r * t) = some T) : gY ks y * b <= T := by
 have hf := qck ks _ _ e
 rw [qaW ks _ hf] at e
 have e' := Option.some.inj e
 have e1 : (ks.map fun x => ya t b x * mN x).sum = uK ks.length fun i => ya t b (nAt ks i) * mN (nAt ks i) := by
  conv => lhs; rw [<- qc6 ks]
  rw [mm_]
  rfl
 rw [e1] at e'
 have h1 : gY ks y * b = uK ks.length fun p => b * ((nAt ks p).2.1 * y p) := by
  rw [qaX, Nat.mul_comm]
  rfl
 have h2 : (uK ks.length fun p => b * ((nAt ks p).2.1 * y p)) <= uK ks.length fun p => t * ((nAt ks p).1 * y p) + ya t b (nAt ks p) * mN (nAt ks p) := by
  refine qfa _ fun p hp => ?_
  have a1 : b * ((nAt ks p).2.1 * y p) = (nAt ks p).2.1 * b * y p := by simp only [Nat.mul_comm, Nat.mul_left_comm]
  have a2 : t * ((nAt ks p).1 * y p) = (nAt ks p).1 * t * y p := by simp only [Nat.mul_comm, Nat.mul_left_comm]
  rw [a1, a2]
  by_cases c : (nAt ks p).1 * t < (nAt ks p).2.1 * b
  ·obtain ⟨m, hm⟩ := Option.isSome_iff_exists.mp (hf _ (zN hp) c)
   have em : mN (nAt ks p) = m := by unfold mN; rw [hm]; rfl
   have ym := hy p hp m hm
   rw [em]
   have a3 : (nAt ks p).2.1 * b = (nAt ks p).1 * t + ya t b (nAt ks p) := by unfold ya; omega
   rw [a3, Nat.add_mul]
   have := Nat.mul_le_mul_left (ya t b (nAt ks p)) ym
   omega
  ·have : (nAt ks p).2.1 * b * y p <= (nAt ks p).1 * t * y p := Nat.mul_le_mul_right _ (by omega)
   omega
 rw [qda, qaX (f := fun p => (nAt ks p).1 * y p), <- h1] at h2
 have h3 : t * wY ks y <= r * t := by rw [Nat.mul_comm r]; exact Nat.mul_le_mul_left _ hr
 have h4 : (uK ks.length fun p => (nAt ks p).1 * y p) = wY ks y := rfl
 rw [h4] at h2
 omega
theorem qmV {ks : List Nk} (hw : ∀ x ∈ ks, 0 < x.1) {r : Nat} {y : Nat -> Nat} (hy : okY ks y) (hr : wY ks y <= r) : gY ks y * (swN ks r).2 <= (swN ks r).1 := by
 obtain ⟨T, e, c⟩ := qcj hw r
 obtain ⟨b0, _⟩ := qgl hw r
 have h := qdI hy hr e
 generalize (yP ks r).2 = b at *
 generalize (swN ks r).1 = N at *
 generalize (swN ks r).2 = Dn at *
 have : gY ks y * Dn * b <= N * b := by
  rw [<- c, Nat.mul_right_comm]
  exact Nat.mul_le_mul_right _ h
 exact Nat.le_of_mul_le_mul_right this b0
def top (i : Nat) : Stmt := PySem.Challenge.pw_sackloads_k74_never_in.main.body.getD i (.Pass ⟨0, 0, 0, 0⟩)
abbrev jh : Stmt := top 40
abbrev qM : Stmt := top 27
abbrev qF : Stmt := top 28
abbrev ji : Stmt := top 29
abbrev zy : Stmt := top 31
abbrev qJ : Stmt := top 24
abbrev zk : Stmt := top 25
abbrev zQ : Stmt := top 30
abbrev jK : Stmt := top 9
abbrev jL : Stmt := top 10
abbrev zR : Stmt := top 14
abbrev yu : Stmt := top 11
abbrev jj : Stmt := top 12
abbrev zS : Stmt := top 13
abbrev zA : Stmt := top 32
abbrev vh : Stmt := top 26
abbrev zB : Stmt := top 33
abbrev zC : Stmt := top 34
abbrev jk : Stmt := top 17
abbrev jm : Stmt := top 16
abbrev jn : Stmt := top 19
abbrev jM : Stmt := top 18
abbrev jo : Stmt := top 36
abbrev zT : Stmt := top 15
abbrev jp : Stmt := top 37
abbrev jN : Stmt := top 43
abbrev zU : Stmt := top 42
abbrev zV : Stmt := top 41
abbrev jO : Stmt := top 39
abbrev vi : Stmt := top 44
structure Txt (K : PySem.W.Frag) (mg : Str -> Option Value) : Prop where
 b_all : mg "all" = none
 b_bool : mg "bool" = none
 b_divmod : mg "divmod" = none
 b_enumerate : mg "enumerate" = none
 b_int : mg "int" = none
 b_isinstance : mg "isinstance" = none
 b_len : mg "len" = none
 b_max : mg "max" = none
 b_min : mg "min" = none
 b_range : mg "range" = none
 b_repr : mg "repr" = none
 b_sorted : mg "sorted" = none
 b_tuple : mg "tuple" = none
 b_zip : mg "zip" = none
 c_BOTTOM : ∃ t, mg "BOTTOM" = some (.int 1 t)
 c_KINDS_AT_MOST : ∃ t, mg "KINDS_AT_MOST" = some (.int 12 t)
 c_MOST : ∃ t, mg "MOST" = some (.int 2 t)
 c_NOTHING : ∃ a, mg "NOTHING" = some (.ref a) /\ qiR K a [0, 1]
 c_TOP : ∃ t, mg "TOP" = some (.int 0 t)
 c_WEIGHT : ∃ t, mg "WEIGHT" = some (.int 0 t)
 c_WORTH : ∃ t, mg "WORTH" = some (.int 1 t)
noncomputable def yG : MS :=
  (qS (qhB (zq v0 (qc (qjP 0 (ret (.int 0))) (qc (dv 1) (ret [])))) (vz 2 (qD (qk 2) (qD (qk 3) vy))))
  (qS (qb4 0 (ret (.int 0)) (dv 2))
  (j8 (dv 3))))
noncomputable def qu : List D -> List D -> R (D × List D) := qaF 4 2 yG
noncomputable def jq : MS :=
  (qS (zY 1 (ret (.int 1)))
  (qS (qa7 (wP (dv 0)) (qk 2) (zY 1 (d2 je (dv 1) (d2 ixD (dv 2) (ret (.int 0))))))
  (j8 (dv 1))))
noncomputable def zD : List D -> R D := dfn 3 1 jq
noncomputable def z0 : MS :=
  (qS (zY 1 (ql zD (qc (dv 0) (ret []))))
  (qS (zY 2 (yE 2 [] none (qeE (qc (dv 0) (ret []))) (vz 2 (qD (qk 0) (qD (qk 1) vy))) (tst (d2 gtD (d2 ixD (dv 1) (ret (.int 1))) (ret (.int 0)))) (dv 0)))
  (j8 (qcV 3 [1, 0] (dv 2) (d2 je (d1 qgJ (d2 ixD (d2 ixD (dv 2) (dv 0)) (ret (.int 1)))) (d2 vA (dv 1) (d2 ixD (d2 ixD (dv 2) (dv 0)) (ret (.int 0)))))))))
noncomputable def zv : List D -> R D := dfn 3 1 z0
noncomputable def uC : MS :=
  (j8 (qfz (d2 qjD (d2 ixD (dv 0) (ret (.int 2))) (ret .non)) (d2 leD (d2 je (d2 ixD (dv 0) (ret (.int 2))) (d2 ixD (dv 0) (ret (.int 0)))) (dv 1))))
noncomputable def jX : List D -> R D := dfn 2 2 uC
noncomputable def yH : MS :=
  (j8 (dif (tst (ql jX (qc (dv 0) (qc (dv 1) (ret []))))) (d2 qae (dv 1) (d2 je (d2 ixD (dv 0) (ret (.int 2))) (d2 ixD (dv 0) (ret (.int 0))))) (ret (.int 0))))
noncomputable def ja : List D -> R D := dfn 2 2 yH
noncomputable def jb : MS :=
  (qS (uS (tst (d2 gtD (dv 1) (ret (.int 0)))) (qS (zY 2 (d2 qaf (dv 0) (dv 1)))
  (qS (zY 0 (dv 1))
  (zY 1 (dv 2)))))
  (j8 (dv 0)))
noncomputable def zl : List D -> R D := dfn 3 2 jb
noncomputable def yi : MS :=
  (qS (zY 2 (ql zl (qc (dv 0) (qc (dv 1) (ret [])))))
  (j8 (um (qc (d2 vA (dv 0) (dv 2)) (qc (d2 vA (dv 1) (dv 2)) (ret []))))))
noncomputable def zG : List D -> R D := dfn 3 2 yi
noncomputable def yZ : MS :=
  (j8 (dif (tst (ql jX (qc (dv 0) (qc (dv 1) (ret []))))) (um (qc (d2 ixD (dv 0) (ret (.int 2))) (qc (ret (.int 1)) (ret [])))) (ql zG (qc (dv 1) (qc (d2 ixD (dv 0) (ret (.int 0))) (ret []))))))
noncomputable def jv : List D -> R D := dfn 2 2 yZ
noncomputable def vj : MS :=
  (j8 (qfz (qhH "int" (dv 0)) (qkK (qhH "bool" (dv 0)))))
noncomputable def yw : List D -> R D := dfn 1 1 vj
noncomputable def vk : MS :=
  (j8 (qfz (ql yw (qc (dv 0) (ret []))) (d2 geD (dv 0) (ret (.int 0)))))
noncomputable def jr : List D -> R D := dfn 1 1 vk
noncomputable def jw : MS :=
  (sif (qdl (tst (ql jr (qc (dv 0) (ret []))))) qcI qal)
noncomputable def yb : List D -> R D := dfn 1 1 jw
noncomputable def wK : MS :=
  (qS (sif (tor (qdl (tst (qhH "tuple" (dv 0)))) (tst (d2 neB (zq qaz (qc (dv 0) (ret []))) (ret (.int 3))))) (j8 (ret (.bl false))) qal)
  (qS (sif (tor (qdl (tst (ql jr (qc (d2 ixD (dv 0) (ret (.int 0))) (ret []))))) (tst (d2 eqB (d2 ixD (dv 0) (ret (.int 0))) (ret (.int 0))))) (j8 (ret (.bl false))) qal)
  (j8 (qfz (ql jr (qc (d2 ixD (dv 0) (ret (.int 1))) (ret []))) (dor (d2 isN (d2 ixD (dv 0) (ret (.int 2))) (ret .non)) (ql jr (qc (d2 ixD (dv 0) (ret (.int 2))) (ret []))))))))
noncomputable def y0 : List D -> R D := dfn 1 1 wK
noncomputable def vm : MS :=
  (qS (sif (tor (qdl (tst (qhH "tuple" (dv 0)))) (tst (d2 gtD (zq qaz (qc (dv 0) (ret []))) (ret (.int 12))))) (j8 (ret (.bl false))) qal)
  (j8 (zq qiN (qc (yE 1 [] none (wP (dv 0)) (qk 0) (ret true) (ql y0 (qc (dv 0) (ret [])))) (ret [])))))
noncomputable def uj : List D -> R D := dfn 1 1 vm
noncomputable def jx : MS :=
  (sif (qdl (tst (ql uj (qc (dv 0) (ret []))))) qcI qal)
noncomputable def yc : List D -> R D := dfn 1 1 jx
noncomputable def yI : MS :=
  (qS (yo (ql yc (qc (dv 0) (ret []))))
  (qS (yo (ql yb (qc (dv 1) (ret []))))
  (qS (vE 2 (qkh (qbn (qc (ret (.tup [.int 0, .int 1])) (ret []))) (zq qaz (qc (dv 0) (ret [])))))
  (qS (zY 3 (dv 1))
  (qS (qa7 (wP (ql zv (qc (dv 0) (ret [])))) (qk 4) (qS (qb4 2 (dv 4) (ql jv (qc (d2 ixD (dv 0) (dv 4)) (qc (dv 3) (ret [])))))
  (zY 3 (ql ja (qc (d2 ixD (dv 0) (dv 4)) (qc (dv 3) (ret [])))))))
  (j8 (qds 2)))))))
noncomputable def jc : List D -> R D := dfn 5 2 yI
noncomputable def qcl : MS :=
  (j8 (ql zG (qc (d2 zP (d2 je (d2 ixD (dv 0) (ret (.int 0))) (d2 ixD (dv 1) (ret (.int 1)))) (d2 je (d2 ixD (dv 1) (ret (.int 0))) (d2 ixD (dv 0) (ret (.int 1))))) (qc (d2 je (d2 ixD (dv 0) (ret (.int 1))) (d2 ixD (dv 1) (ret (.int 1)))) (ret [])))))
noncomputable def vn : List D -> R D := dfn 2 2 qcl
noncomputable def yJ : MS :=
  (qS (zY 2 (ret (.tup [.int 0, .int 1])))
  (qS (qa7 (qjY (qc (dv 0) (qc (ql jc (qc (dv 0) (qc (dv 1) (ret [])))) (ret [])))) (vz 2 (qD (qk 3) (qD (qk 4) vy))) (zY 2 (ql vn (qc (dv 2) (qc (um (qc (d2 je (d2 ixD (dv 4) (ret (.int 0))) (d2 ixD (dv 3) (ret (.int 1)))) (qc (d2 ixD (dv 4) (ret (.int 1))) (ret [])))) (ret []))))))
  (j8 (dv 2))))
noncomputable def jF : List D -> R D := dfn 5 2 yJ
noncomputable def yK : MS :=
  (qS (zY 2 (ql jF (qc (dv 0) (qc (dv 1) (ret [])))))
  (j8 (d2 vA (d2 ixD (dv 2) (ret (.int 0))) (d2 ixD (dv 2) (ret (.int 1))))))
noncomputable def jd : List D -> R D := dfn 3 2 yK
noncomputable def uD : MS :=
  (j8 (d2 zP (d2 zP (qeM (dv 0) (ret none) (vC (dv 1))) (um (qc (dv 2) (ret [])))) (qeM (dv 0) (vC (d2 zP (dv 1) (ret (.int 1)))) (ret none))))
noncomputable def jY : List D -> R D := dfn 3 3 uD
noncomputable def uE : MS :=
  (j8 (um (qc (d2 ixD (dv 0) (ret (.int 0))) (qc (d2 ixD (dv 0) (ret (.int 1))) (qc (dv 1) (ret []))))))
noncomputable def jZ : List D -> R D := dfn 2 2 uE
noncomputable def uF : MS :=
  (j8 (dif (tst (d2 isN (d2 ixD (dv 0) (ret (.int 2))) (ret .non))) (ret .non) (d2 qae (d2 ixD (dv 0) (ret (.int 2))) (dv 1))))
noncomputable def j4 : List D -> R D := dfn 2 2 uF
noncomputable def vo : MS :=
  (j8 (dor (d2 isN (d2 ixD (dv 0) (ret (.int 2))) (ret .non)) (d2 gtD (d2 ixD (dv 0) (ret (.int 2))) (ret (.int 0)))))
noncomputable def js : List D -> R D := dfn 1 1 vo
noncomputable def uG : MS :=
  (qS (zY 4 (d2 ixD (dv 0) (dv 1)))
  (qS (sif (tor (qdl (tst (ql js (qc (dv 4) (ret []))))) (tst (d2 gtD (d2 ixD (dv 4) (ret (.int 0))) (dv 2)))) (j8 (ret (.bl false))) qal)
  (qS (zY 5 (ql jY (qc (dv 0) (qc (dv 1) (qc (ql jZ (qc (dv 4) (qc (ql j4 (qc (dv 4) (qc (ret (.int 1)) (ret [])))) (ret [])))) (ret []))))))
  (j8 (d2 geD (d2 zP (d2 ixD (dv 4) (ret (.int 1))) (ql jd (qc (dv 5) (qc (d2 qae (dv 2) (d2 ixD (dv 4) (ret (.int 0)))) (ret []))))) (dv 3))))))
noncomputable def yL : List D -> R D := dfn 6 4 uG
noncomputable def jy : MS :=
  (sif (qdl (tst (ql yw (qc (dv 0) (ret []))))) qcI qal)
noncomputable def y2 : List D -> R D := dfn 1 1 jy
noncomputable def vp : MS :=
  (qS (yo (ql yc (qc (dv 0) (ret []))))
  (qS (yo (ql yb (qc (dv 1) (ret []))))
  (qS (yo (ql y2 (qc (dv 2) (ret []))))
  (j8 (yE 1 [0, 1, 2] none (uy (qc (zq qaz (qc (dv 0) (ret []))) (ret []))) (qk 0) (qdl (tst (ql yL (qc (dv 1) (qc (dv 0) (qc (dv 2) (qc (dv 3) (ret [])))))))) (dv 0))))))
noncomputable def zW : List D -> R D := dfn 3 3 vp
noncomputable def yx : MS :=
  (qS (qhB (d2 ixD (dv 0) (dv 3)) (vz 3 (qD (qk 4) (qD (qk 5) (qD (qk 6) vy)))))
  (qS (sif (tor (tst (d2 eqB (dv 6) (ret (.int 0)))) (tst (d2 gtD (dv 4) (dv 1)))) (j8 (ret (.bl true))) qal)
  (qS (zY 7 (um (qc (dv 4) (qc (dv 5) (qc (dif (tst (d2 isN (dv 6) (ret .non))) (ret .non) (d2 qae (dv 6) (ret (.int 1)))) (ret []))))))
  (j8 (d2 ltD (d2 zP (dv 5) (ql jd (qc (d2 zP (d2 zP (qeM (dv 0) (ret none) (vC (dv 3))) (um (qc (dv 7) (ret [])))) (qeM (dv 0) (vC (d2 zP (dv 3) (ret (.int 1)))) (ret none))) (qc (d2 qae (dv 1) (dv 4)) (ret []))))) (dv 2))))))
noncomputable def jP : List D -> R D := dfn 8 4 yx
noncomputable def y3 : MS :=
  (qS (zY 2 (qbn (qc (um (qc (um (ret [])) (qc (ret (.int 0)) (qc (ret (.int 0)) (ret []))))) (ret []))))
  (qS (qa7 (wP (dv 0)) (vz 3 (qD (qk 3) (qD (qk 4) (qD (qk 5) vy)))) (qS (vE 6 (qiP (ret [])))
  (qS (qa7 (wP (dv 2)) (vz 3 (qD (qk 7) (qD (qk 8) (qD (qk 9) vy)))) (qS (zY 10 (ret (.int 0)))
  (uS (qcy (tst (d2 leD (d2 zP (dv 8) (d2 je (dv 10) (dv 3))) (dv 1))) (tor (tst (d2 isN (dv 5) (ret .non))) (tst (d2 leD (dv 10) (dv 5))))) (qS (yo (zM 6 (um (qc (d2 zP (dv 7) (um (qc (dv 10) (ret [])))) (qc (d2 zP (dv 8) (d2 je (dv 10) (dv 3))) (qc (d2 zP (dv 9) (d2 je (dv 10) (dv 4))) (ret [])))))))
  (zY 10 (d2 zP (dv 10) (ret (.int 1))))))))
  (qf4 2 6))))
  (j8 (dv 2))))
noncomputable def yd : List D -> R D := dfn 11 2 y3
noncomputable def ye : MS :=
  (qS (vE 2 (qiP (ret [])))
  (qS (qa7 (uy (qc (qV qu 0 (qc (d2 zP (dv 1) (ret (.int 1))) (ret []))) (ret []))) (qk 3) (qS (qiQ 4 5 (qc (d2 zP (ret (.int 1)) (qV qu 0 (qc (ret (.int 9)) (ret [])))) (qc (qV qu 0 (qc (ret (.int 10)) (ret []))) (ret []))))
  (yo (zM 2 (um (qc (dv 4) (qc (dv 5) (qc (d2 ixD (qbn (qc (ret .non) (qc (ret (.int 0)) (qc (ret (.int 1)) (qc (ret (.int 1)) (qc (ret (.int 2)) (qc (ret (.int 3)) (qc (ret (.int 5)) (ret []))))))))) (qV qu 0 (qc (ret (.int 7)) (ret [])))) (ret [])))))))))
  (j8 (qds 2))))
noncomputable def yf : List D -> List D -> R (D × List D) := qaF 6 2 ye
noncomputable def uk : MS :=
  (qS (zY 2 (d2 zP (d2 je (ret (.int 7919)) (dv 1)) (ret (.int 13))))
  (qS (sif (tst (d2 ltD (dv 1) (zq qaz (qc (dv 0) (ret []))))) (zY 2 (d2 ixD (dv 0) (dv 1))) qal)
  (qS (sif (tst (d2 eqB (d2 qaf (dv 2) (ret (.int 2))) (ret (.int 0)))) (j8 (qbn (qc (d2 vA (dv 2) (ret (.int 2))) (ret [])))) qal)
  (qS (zY 3 (ret (.int 0)))
  (qS (qa7 (uy (qc (ret (.int 16)) (ret []))) (qk 4) (qS (zY 5 (d2 qaf (d2 zP (d2 zP (d2 je (d2 qaf (dv 2) (ret (.int 2147483647))) (ret (.int 48271))) (d2 je (ret (.int 7919)) (dv 4))) (ret (.int 1))) (ret (.int 2147483647))))
  (qS (zY 5 (d2 qaf (d2 je (dv 5) (dv 5)) (ret (.int 2147483629))))
  (zY 3 (d2 zP (d2 je (dv 3) (ret (.int 2147483647))) (d2 qaf (d2 je (dv 5) (d2 zP (dv 5) (ret (.int 13)))) (ret (.int 2147483647))))))))
  (j8 (qbn (qc (dv 3) (ret [])))))))))
noncomputable def yy : List D -> R D := dfn 6 2 uk
noncomputable def qiy : MS :=
  (qS (qa7 (uy (qc (zq qb2 (qc (ret (.int 1)) (qc (zq qfE (qc (zq qaz (qc (dv 0) (ret []))) (qc (ret (.int 3)) (ret [])))) (ret [])))) (ret []))) (qk 1) (qS (vE 2 (qaJ yy (qc (dv 0) (qc (dv 1) (ret [])))))
  (qS (qhB (um (qc (qV yf 2 (qc (ret (.int 4)) (ret []))) (qc (qV qu 2 (qc (ret (.int 17)) (ret []))) (ret [])))) (vz 2 (qD (qk 3) (qD (qk 4) vy))))
  (qS (zY 5 (ql yd (qc (dv 3) (qc (dv 4) (ret [])))))
  (qS (zY 6 (zq qeK (qc (yE 3 [] none (wP (dv 5)) (vz 3 (qD (qk 0) (qD (qk 1) (qD (qk 2) vy)))) (ret true) (dv 2)) (ret []))))
  (qa7 (wP (qbn (qc (ret (.int 0)) (qc (dv 6) (qc (d2 zP (dv 6) (ret (.int 1))) (qc (zq qb2 (qc (ret (.int 0)) (qc (d2 qae (dv 6) (qV qu 2 (qc (ret (.int 5)) (ret [])))) (ret [])))) (qc (qV qu 2 (qc (ret (.int 40)) (ret []))) (ret [])))))))) (qk 7) (qS (zY 8 (yE 1 [3, 4, 7] none (uy (qc (zq qaz (qc (dv 3) (ret []))) (ret []))) (qk 0) (tst (ql jP (qc (dv 1) (qc (dv 2) (qc (dv 3) (qc (dv 0) (ret []))))))) (dv 0)))
  (qS (qa7 (uy (qc (ret (.int 2)) (ret []))) (qk 9) (qS (vE 10 (qaJ zW (qc (dv 3) (qc (dv 4) (qc (dv 7) (ret []))))))
  (qS (sif (tst (d2 neB (qcc (zq wd (qc (dv 10) (ret [])))) (zq wd (qc (dv 8) (ret []))))) (j8 (ret (.bl false))) qal)
  (yo (zM 10 (ret (.int 0)))))))
  (qa7 (wP (dv 8)) (qk 11) (sif (tst (d2 neB (yE 3 [7, 11] none (wP (dv 5)) (vz 3 (qD (qk 0) (qD (qk 1) (qD (qk 2) vy)))) (qcy (tst (d2 geD (dv 2) (dv 3))) (tst (d2 gtD (d2 ixD (dv 0) (dv 4)) (ret (.int 0))))) (ret (.int 1))) (qbn (ret [])))) (j8 (ret (.bl false))) qal))))))))))
  (j8 (ret (.bl true))))
noncomputable def qcm : List D -> R D := dfn 12 1 qiy
local macro_rules | `(tactic| push_cast [$xs,*]) => `(tactic| simp only [j9, qhW, ql4, jV, wm, qgK, qgL, qkM, qlk, qaK, jE, qgM, qhX, yX, qam, qcJ, qdu, qcK, qhY, qgN, qfU, qfV, wn, qan, qaL, qaM, qgP, qgQ, qev, uq, qew, qex, qey, qbu, qb8, qgR, qb9, qez, qca, qgS, wo, qj8, qeA, lC_, lN_, mC_, List.map_nil, List.replicate, List.nil_append, List.cons_append, List.append_nil, List.getElem?_cons_zero, List.getElem?_cons_succ, List.set_cons_zero, List.set_cons_succ, Nat.reduceAdd, Nat.reduceSub, Nat.sub_self, Nat.zero_add, reduceIte, Bool.not_true, Bool.not_false, Bool.false_eq_true, if_true, if_false, ite_true, ite_false, cond_true, cond_false, decide_true, decide_false, ix0, ix1, ix2, wA, uX, qcd, wy, qcW, qeT, ve, qce, qcf, qgY, qgZ, qcO, qcP, qcQ, qgV, qeL, qcb, $xs,*])
theorem u6 (d : D) : yw [d] = .ok (.bl (qeU d)) := by
 unfold yw vj
 refine ug rfl ⟨[some d], ?_⟩
 push_cast []
 cases d <;> rfl
theorem jG (d : D) : jr [d] = .ok (.bl (yh d)) := by
 unfold jr vk
 refine ug rfl ⟨[some d], ?_⟩
 push_cast []
 rw [u6]
 cases d <;> rfl
theorem qbL (d : D) : y0 [d] = .ok (.bl (ur d)) := by
 unfold y0 wK
 refine ug rfl ⟨[some d], ?_⟩
 cases d with
 | tup ds =>
  by_cases h : ds.length = 3
  ·obtain ⟨a, b, c, rfl⟩ := qmT h
   refine (qq (ρ' := [some (.tup [a, b, c])]) rfl).trans ?_
   by_cases hp : qeV a = true
   ·refine (qq (ρ' := [some (.tup [a, b, c])]) ?_).trans ?_
    ·cases a with
     | int i =>
      have h2 : 0 < i := of_decide_eq_true hp
      have h0 : 0 <= i := by omega
      have h1 : ¬ i = 0 := by omega
      push_cast [ix0, jG, yh, wy, yX, h0, h1, decide_true, decide_false]
     | _ => exact absurd hp (by simp [qeV])
    ·push_cast [ix1, ix2, jG, qcW, ur, hp, yX, Bool.true_and]
     cases hb : yh b <;> cases hc : yM c <;> rfl
   ·refine (wB (d := .bl false) (ρ' := [some (.tup [a, b, c])]) ?_).trans ?_
    ·cases a with
     | int i =>
      have h2 : ¬ 0 < i := fun z => hp (decide_eq_true z)
      push_cast [ix0, jG, yh, wy, yX]
      by_cases h0 : 0 <= i
      ·have h1 : i = 0 := by omega
       subst h1; rfl
      ·simp only [h0, decide_false]
       rfl
     | _ => rfl
    ·have hp' : qeV a = false := by simpa using hp
     simp only [ur, hp', Bool.false_and]
  ·refine (wB (d := .bl false) (ρ' := [some (.tup ds)]) ?_).trans ?_
   ·push_cast []
    have h3 : ¬ ((ds.length : Int) = 3) := by omega
    simp only [wA, uX, qcd, h3, decide_false, yX]
    rfl
   ·rw [qdC h]
 | _ => rfl
theorem qaZ (d : D) : uj [d] = .ok (.bl (uB d)) := by
 unfold uj vm
 refine ug rfl ⟨[some d], ?_⟩
 cases d with
 | tup ds =>
  by_cases h : ds.length <= 12
  ·have h2 : ¬ ((12 : Int) < (ds.length : Int)) := by omega
   refine (qq (ρ' := [some (.tup ds)]) ?_).trans ?_
   ·push_cast [wA, uX, ve, h2, decide_false, yX]
   ·rw [wn, qih (F := y0) (f := ur) (xs := wP (dv 0)) (ds := ds) (ρ := [some (.tup ds)]) rfl (fun d _ => qbL d) (by omega)]
    simp only [uB, h, decide_true, Bool.true_and]
  ·have h2 : ((12 : Int) < (ds.length : Int)) := by omega
   refine (wB (d := .bl false) (ρ' := [some (.tup ds)]) ?_).trans ?_
   ·push_cast [wA, uX, ve, h2, decide_true, yX]
   ·simp only [uB, h, decide_false, Bool.false_and]
 | _ => rfl
theorem y7 (d : D) (h : uB d = true) : yc [d] = .ok .non := by
 have e : jx [some d] = .ok (.nx [some d]) := by
  unfold jx
  push_cast [qaZ, h, yX]
 show (match jx [some d] with | .ok (.rt d _) => R.ok d | .ok (.nx _) => .ok .non | _ => .bad) = _
 rw [e]
theorem y8 (n : Nat) : yb [.int (n : Nat)] = .ok .non := by
 have h : yh (.int (n : Nat)) = true := by
  show decide (0 <= (n : Int)) = true
  exact decide_eq_true (by omega)
 have e : jw [some (.int (n : Nat))] = .ok (.nx [some (.int (n : Nat))]) := by
  unfold jw
  push_cast [jG, h, yX]
 show (match jw [some (.int (n : Nat))] with | .ok (.rt d _) => R.ok d | .ok (.nx _) => .ok .non | _ => .bad) = _
 rw [e]
theorem wL (n : Int) : y2 [.int n] = .ok .non := by
 have h : qeU (.int n) = true := rfl
 have e : jy [some (.int n)] = .ok (.nx [some (.int n)]) := by
  unfold jy
  push_cast [u6, h, yX]
 show (match jy [some (.int n)] with | .ok (.rt d _) => R.ok d | .ok (.nx _) => .ok .non | _ => .bad) = _
 rw [e]
theorem ex1 {F : List D -> R D} {l : M (List D)} {ρ : Env} {ds : List D} {d : D} (hl : l ρ = .ok (ds, ρ)) (h : F ds = .ok d) : yo (ql F l) ρ = .ok (.nx ρ) := by
 rw [qaM, jE, hl]
 simp only [h]
theorem cx2 {F : List D -> R D} {f g : M D} {ρ : Env} {a b d : D} (hf : f ρ = .ok (a, ρ)) (hg : g ρ = .ok (b, ρ)) (e : F [a, b] = .ok d) : ql F (qc f (qc g (ret []))) ρ = .ok (d, ρ) := by
 rw [jE, qdD hf hg]
 simp only [e]
theorem cp2 {F : List D -> R D} {f g : M D} {ρ : Env} {a b d : D} (hf : f ρ = .ok (a, ρ)) (hg : g ρ = .ok (b, ρ)) (e : F [a, b] = .ok d) : ql F (qc f (qc g (ret []))) ρ = .ok (d, ρ) := by
 rw [jE, qdD hf hg]
 simp only [e]
theorem qmW {f g : M D} {ρ : Env} {d : D} (hf : f ρ = .ok (.bl true, ρ)) (hg : g ρ = .ok (d, ρ)) : qfz f g ρ = .ok (d, ρ) := by
 rw [qcK, hf]
 exact hg
theorem qmX {f g : M D} {ρ : Env} (hf : f ρ = .ok (.bl false, ρ)) : qfz f g ρ = .ok (.bl false, ρ) := by
 rw [qcK, hf]
 rfl
theorem qlE {t : M Bool} {f g : M D} {ρ : Env} {d : D} (ht : t ρ = .ok (true, ρ)) (hf : f ρ = .ok (d, ρ)) : dif t f g ρ = .ok (d, ρ) := by
 rw [qfU, ht]
 exact hf
theorem qkR {t : M Bool} {f g : M D} {ρ : Env} {d : D} (ht : t ρ = .ok (false, ρ)) (hg : g ρ = .ok (d, ρ)) : dif t f g ρ = .ok (d, ρ) := by
 rw [qfU, ht]
 exact hg
theorem gt0 (n : Nat) : gtD (.int (n : Nat)) (.int 0) = some (.bl (decide (0 < n))) := by
 rw [ve]
 congr 2
 rw [decide_eq_decide]
 omega
theorem leN (a b : Nat) : leD (.int (a : Nat)) (.int (b : Nat)) = some (.bl (decide (a <= b))) := by
 rw [qcf]
 congr 2
 rw [decide_eq_decide]
 omega
theorem qiz : ∀ (b a : Nat) (o : Option D), ∃ n o', yg (tst (d2 gtD (dv 1) (ret (.int 0)))) (qS (zY 2 (d2 qaf (dv 0) (dv 1))) (qS (zY 0 (dv 1)) (zY 1 (dv 2)))) n [some (.int (a : Nat)), some (.int (b : Nat)), o] = .ok (.nx [some (.int (Nat.gcd a b : Nat)), some (.int 0), o']) := by
 intro b
 induction b using Nat.strongRecOn with
 | _ b ih =>
  intro a o
  by_cases h : 0 < b
  ·obtain ⟨n, o', q⟩ := ih (a % b) (Nat.mod_lt _ h) b (some (.int ((a % b : Nat) : Int)))
   refine ⟨n + 1, o', ?_⟩
   unfold yg
   have t : tst (d2 gtD (dv 1) (ret (.int 0))) [some (.int (a : Nat)), some (.int (b : Nat)), o] = .ok (true, [some (.int (a : Nat)), some (.int (b : Nat)), o]) := zF (qh rfl rfl (by rw [gt0, decide_eq_true h]))
   have s : (qS (zY 2 (d2 qaf (dv 0) (dv 1))) (qS (zY 0 (dv 1)) (zY 1 (dv 2)))) [some (.int (a : Nat)), some (.int (b : Nat)), o] = .ok (.nx [some (.int (b : Nat)), some (.int ((a % b : Nat) : Int)), some (.int ((a % b : Nat) : Int))]) := by
    refine (qq (ρ' := [some (.int (a : Nat)), some (.int (b : Nat)), some (.int ((a % b : Nat) : Int))]) ?_).trans rfl
    rw [qan, qh rfl rfl (qgg a h)]
    rfl
   simp only [t, s]
   have e : Nat.gcd a b = Nat.gcd b (a % b) := by
    rw [Nat.gcd_comm a b, Nat.gcd_rec b a, Nat.gcd_comm]
   rw [e]
   exact q
  ·have e : b = 0 := by omega
   subst e
   refine ⟨1, o, ?_⟩
   unfold yg
   have t : tst (d2 gtD (dv 1) (ret (.int 0))) [some (.int (a : Nat)), some (.int ((0 : Nat) : Int)), o] = .ok (false, [some (.int (a : Nat)), some (.int ((0 : Nat) : Int)), o]) := zF (qh rfl rfl (by rw [gt0]; rfl))
   simp only [t]
   rw [Nat.gcd_zero_right]
   rfl
theorem y9 (a b : Nat) : zl [.int (a : Nat), .int (b : Nat)] = .ok (.int (Nat.gcd a b : Nat)) := by
 unfold zl jb
 obtain ⟨n, o', q⟩ := qiz b a none
 refine ug rfl ⟨[some (.int (Nat.gcd a b : Nat)), some (.int 0), o'], ?_⟩
 exact (qq (qbx q (by intro z; cases z))).trans rfl
theorem yz (T : Nat) {B : Nat} (hB : 0 < B) (hb : B < big) : zG [.int (T : Nat), .int (B : Nat)] = .ok (wQ T B) := by
 have hg : 0 < Nat.gcd T B := Nat.gcd_pos_of_pos_right _ hB
 have hg2 : Nat.gcd T B < big := Nat.lt_of_le_of_lt (Nat.gcd_le_right _ hB) hb
 unfold zG yi
 refine ug rfl ⟨[some (.int (T : Nat)), some (.int (B : Nat)), some (.int (Nat.gcd T B : Nat))], ?_⟩
 refine (qq (ρ' := [some (.int (T : Nat)), some (.int (B : Nat)), some (.int (Nat.gcd T B : Nat))]) ?_).trans ?_
 ·show zY 2 _ [some (.int (T : Nat)), some (.int (B : Nat)), none] = _
  rw [qan, yN rfl rfl (y9 T B)]
  rfl
 ·rw [wn, qlx (qh rfl rfl (u0 T hg hg2)) (qh rfl rfl (u0 B hg hg2))]
  rfl
theorem qdJ {t b u c : Nat} (h1 : c <= Mx) (h2 : u <= Mx \/ b <= Mx) (hb : 0 < b) (hc : 0 < c) (hl : b * c < big) : vn [frD t b, frD u c] = .ok (wQ (t * c + u * b) (b * c)) := by
 unfold vn qcl
 let ρ : Env := [some (frD t b), some (frD u c)]
 refine ug rfl ⟨ρ, ?_⟩
 show j8 _ ρ = _
 have e2 : je (.int (u : Nat)) (.int (b : Nat)) = some (.int ((u * b : Nat) : Int)) := h2.elim (fun h => qkw b h) (fun h => u3 u h)
 rw [wn, yN (qh (qh (qh rfl rfl (qgh t b)) (qh rfl rfl (qdF u c)) (u3 t h1)) (qh (qh rfl rfl (qgh u c)) (qh rfl rfl (qdF t b)) e2) (qiT _ _)) (qh (qh rfl rfl (qdF t b)) (qh rfl rfl (qdF u c)) (u3 b h1)) (yz _ (Nat.mul_pos hb hc) hl)]
theorem uo {ks : List Nk} (hw : ∀ x ∈ ks, x.1 <= Mx) : zD [.tup (ks.map tK)] = .ok (.int (qW ks : Nat)) := by
 unfold zD jq
 let S : Option D := some (.tup (ks.map tK))
 obtain ⟨ρ', q, o2, rfl⟩ := wC (G := qk 2) (b := (zY 1 (d2 je (dv 1) (d2 ixD (dv 2) (ret (.int 0)))))) (k := tK) (step := fun (p : Nat) (x : Nk) => p * x.1) (Inv := fun n p ρ => ∃ o2, ρ = [S, some (.int (p : Nat)), o2]) ks 0 1 [S, some (.int 1), none] ⟨none, rfl⟩ (fun x hx n p ρ _ _ => by
  rintro ⟨o2, rfl⟩
  refine ⟨[S, some (.int (p : Nat)), some (tK x)], [S, some (.int ((p * x.1 : Nat) : Int)), some (tK x)], rfl, ?_, _, rfl⟩
  rw [qan, qh rfl (qh rfl rfl (tk0 x)) (u3 p (hw x hx))]
  rfl)
 refine ug rfl ⟨[S, some (.int (qW ks : Nat)), o2], ?_⟩
 refine (qq (ρ' := [S, some (.int 1), none]) rfl).trans ((qq (ρ' := [S, some (.int (qW ks : Nat)), o2]) ?_).trans rfl)
 rw [uq]
 exact q
theorem u7 {ks : List Nk} (hw : ∀ x ∈ ks, 0 < x.1) (hl : ks.length <= 12) (hp : qW ks <= Mx) : zv [.tup (ks.map tK)] = .ok (.lst ((u4 ks).map fun i => D.int (i : Nat))) := by
 have hwM : ∀ x ∈ ks, x.1 <= Mx := fun x hx => Nat.le_trans (qc3 hw hx) hp
 let S : Option D := some (.tup (ks.map tK))
 let P : Option D := some (.int (qW ks : Nat))
 let L : Option D := some (.lst ((plN ks).map fun i => D.int (i : Nat)))
 unfold zv z0
 refine ug rfl ⟨[S, P, L], ?_⟩
 refine (qq (ρ' := [S, P, none]) (yO (qeY rfl (uo hwM)))).trans ?_
 refine (qq (ρ' := [S, P, L]) ?_).trans ?_
 ·refine yO (i := 2) (ρ := [S, P, none]) (ρ1 := [S, P, none]) (d := .lst ((plN ks).map fun i => D.int (i : Nat))) ?_
  refine qim (u := fun i : Nat => D.int (i : Nat)) (v := fun i => tK (nAt ks i)) (r := []) (List.range ks.length) (fun i => decide (0 < (nAt ks i).2.1)) (fun i => D.int (i : Nat)) ?_ rfl (by rw [lR_]; omega) (fun i hi => zF (qh (qh rfl rfl (tk1 _)) rfl (gt0 _))) (fun i _ _ => rfl)
  rw [qcb]
  show (match qeD [D.tup (ks.map tK)] with | some ds => R.ok (ds, [S, P, none]) | none => .bad) = _
  rw [<- qiq]
  rfl
 ·refine jW ?_
  have hks : ww (d2 je (d1 qgJ (d2 ixD (d2 ixD (dv 2) (dv 0)) (ret (.int 1)))) (d2 vA (dv 1) (d2 ixD (d2 ixD (dv 2) (dv 0)) (ret (.int 0))))) 3 [.int (qW ks : Nat), .tup (ks.map tK)] ((plN ks).map fun i => D.int (i : Nat)) = some ((plN ks).map (qci ks)) := by
   refine qbI fun i hi => ?_
   have hi' : i < ks.length := by
    unfold plN at hi
    exact mR_.mp (List.mem_filter.mp hi).1
   have hx := zN hi'
   let ρ : Env := [some (.int (i : Nat)), P, S]
   refine ⟨ρ, ?_⟩
   show (d2 je (d1 qgJ (d2 ixD (d2 ixD (dv 2) (dv 0)) (ret (.int 1)))) (d2 vA (dv 1) (d2 ixD (d2 ixD (dv 2) (dv 0)) (ret (.int 0))))) ρ = _
   have hq : qW ks / (nAt ks i).1 <= 18000000000000000000 := Nat.le_trans (Nat.div_le_self _ _) hp
   have e1 : d1 qgJ (d2 ixD (d2 ixD (dv 2) (dv 0)) (ret (.int 1))) ρ = .ok (.int (-((nAt ks i).2.1 : Int)), ρ) := by
    have e0 : d2 ixD (d2 ixD (dv 2) (dv 0)) (ret (.int 1)) ρ = .ok (.int ((nAt ks i).2.1 : Nat), ρ) := qh (qh rfl rfl (qdG hi')) rfl (tk1 _)
    rw [qlk, e0]
    rfl
   exact qh e1 (qh rfl (qh (qh rfl rfl (qdG hi')) rfl (tk0 _)) (u0 _ (hw _ hx) (Nat.lt_of_le_of_lt (hwM _ hx) (by decide)))) (qgb (qip hq))
  have h64 : ((plN ks).map fun i => D.int (i : Nat)).length < 64 := by
   rw [lM_]
   have := List.length_filter_le (fun i => decide (0 < (nAt ks i).2.1)) (List.range ks.length)
   rw [lR_] at this
   unfold plN
   omega
  have hk := qf9 (n := 3) (fr := [1, 0]) (f := dv 2) (g := (d2 je (d1 qgJ (d2 ixD (d2 ixD (dv 2) (dv 0)) (ret (.int 1)))) (d2 vA (dv 1) (d2 ixD (d2 ixD (dv 2) (dv 0)) (ret (.int 0)))))) (ρ := [S, P, L]) (ρ1 := [S, P, L]) rfl h64 (cs := [.int (qW ks : Nat), .tup (ks.map tK)]) rfl hks
  have hp2 : qdB (Srt.ord ((plN ks).map (qci ks))) ((plN ks).map fun i => D.int (i : Nat)) = (u4 ks).map fun i => D.int (i : Nat) := by
   refine qe2 0 fun i hi => ?_
   have := (Srt.ord_perm _).mem_iff.mp hi
   rw [lM_] at this
   exact mR_.mp this
  rw [hp2] at hk
  exact hk
theorem qlF (w g m : Nat) : ixD (tK (w, g, some m)) (.int 2) = some (.int (m : Nat)) := rfl
theorem qiA (w g m r : Nat) : d2 ixD (dv 0) (ret (.int 2)) [some (tK (w, g, some m)), some (.int (r : Nat))] = .ok (.int (m : Nat), [some (tK (w, g, some m)), some (.int (r : Nat))]) := qh rfl rfl (qlF w g m)
theorem qkC (w g m r : Nat) : d2 qjD (d2 ixD (dv 0) (ret (.int 2))) (ret .non) [some (tK (w, g, some m)), some (.int (r : Nat))] = .ok (.bl true, [some (tK (w, g, some m)), some (.int (r : Nat))]) := qh (qiA w g m r) rfl rfl
theorem qg6 (w g m r : Nat) (h : w <= Mx) : d2 je (d2 ixD (dv 0) (ret (.int 2))) (d2 ixD (dv 0) (ret (.int 0))) [some (tK (w, g, some m)), some (.int (r : Nat))] = .ok (.int ((m * w : Nat) : Int), [some (tK (w, g, some m)), some (.int (r : Nat))]) := qh (qiA w g m r) (qh rfl rfl (tk0 (w, g, some m))) (u3 m h)
theorem qlG (w g m r : Nat) (h : w <= Mx) : d2 leD (d2 je (d2 ixD (dv 0) (ret (.int 2))) (d2 ixD (dv 0) (ret (.int 0)))) (dv 1) [some (tK (w, g, some m)), some (.int (r : Nat))] = .ok (.bl (decide (m * w <= r)), [some (tK (w, g, some m)), some (.int (r : Nat))]) := qh (qg6 w g m r h) rfl (leN _ _)
theorem qkD (w g m r : Nat) (h : w <= Mx) (hr : m * w <= r) : d2 qae (dv 1) (d2 je (d2 ixD (dv 0) (ret (.int 2))) (d2 ixD (dv 0) (ret (.int 0)))) [some (tK (w, g, some m)), some (.int (r : Nat))] = .ok (.int ((r - m * w : Nat) : Int), [some (tK (w, g, some m)), some (.int (r : Nat))]) := by
 refine qh rfl (qg6 w g m r h) ?_
 rw [uY]
 congr 2
 omega
theorem qiB (w g r : Nat) : d2 qjD (d2 ixD (dv 0) (ret (.int 2))) (ret .non) [some (tK (w, g, none)), some (.int (r : Nat))] = .ok (.bl false, [some (tK (w, g, none)), some (.int (r : Nat))]) := qh (qh rfl rfl (tk2 (w, g, none))) rfl rfl
theorem qmj (w g m r : Nat) : goN (w, g, some m) r = decide (m * w <= r) := rfl
theorem qlH (w g r : Nat) : goN (w, g, none) r = false := rfl
theorem ut {x : Nk} (h : x.1 <= Mx) (r : Nat) : jX [tK x, .int (r : Nat)] = .ok (.bl (goN x r)) := by
 obtain ⟨w, g, m⟩ := x
 unfold jX uC
 cases m with
 | none =>
  rw [qlH]
  exact ug rfl ⟨[some (tK (w, g, none)), some (.int (r : Nat))], jW (qmX (qiB w g r))⟩
 | some m =>
  rw [qmj]
  exact ug rfl ⟨[some (tK (w, g, some m)), some (.int (r : Nat))], jW (qmW (qkC w g m r) (qlG w g m r h))⟩
theorem qg7 : Mx < big := by decide
theorem qlI {x : Nk} {r : Nat} (h : goN x r = true) : shN x r = (mN x, 1) := by unfold shN; rw [h]; rfl
theorem qlJ {x : Nk} {r : Nat} (h : goN x r = false) : shN x r = (uI r x.1, uJ r x.1) := by unfold shN; rw [h]; rfl
theorem qlK {x : Nk} {r : Nat} (h : goN x r = true) : bhN x r = r - mN x * x.1 := by unfold bhN; rw [h]; rfl
theorem qlL {x : Nk} {r : Nat} (h : goN x r = false) : bhN x r = 0 := by unfold bhN; rw [h]; rfl
theorem wN {x : Nk} (h0 : 0 < x.1) (h : x.1 <= Mx) (r : Nat) : jv [tK x, .int (r : Nat)] = .ok (fr (shN x r)) := by
 have t := zF (yN (ρ := [some (tK x), some (.int (r : Nat))]) (f := dv 0) (g := dv 1) rfl rfl (ut h r))
 unfold jv yZ
 cases hg : goN x r with
 | true =>
  rw [qlI hg]
  rw [hg] at t
  obtain ⟨w, g, m⟩ := x
  cases m with
  | none => rw [qlH] at hg; cases hg
  | some m => exact ug rfl ⟨[some (tK (w, g, some m)), some (.int (r : Nat))], jW (qlE t (qlx (qiA w g m r) rfl))⟩
 | false =>
  rw [qlJ hg]
  rw [hg] at t
  exact ug rfl ⟨[some (tK x), some (.int (r : Nat))], jW (qkR t (yN rfl (qh rfl rfl (tk0 x)) (yz r h0 (Nat.lt_of_le_of_lt h qg7))))⟩
theorem vF {x : Nk} (h : x.1 <= Mx) (r : Nat) : ja [tK x, .int (r : Nat)] = .ok (.int (bhN x r : Nat)) := by
 have t := zF (yN (ρ := [some (tK x), some (.int (r : Nat))]) (f := dv 0) (g := dv 1) rfl rfl (ut h r))
 unfold ja yH
 cases hg : goN x r with
 | true =>
  rw [qlK hg]
  rw [hg] at t
  obtain ⟨w, g, m⟩ := x
  cases m with
  | none => rw [qlH] at hg; cases hg
  | some m =>
   rw [qmj] at hg
   exact ug rfl ⟨[some (tK (w, g, some m)), some (.int (r : Nat))], jW (qlE t (qkD w g m r h (of_decide_eq_true hg)))⟩
 | false =>
  rw [qlL hg]
  rw [hg] at t
  exact ug rfl ⟨[some (tK x), some (.int (r : Nat))], jW (qkR t rfl)⟩
theorem qmY (n : Nat) : (List.replicate n [D.tup [.int 0, .int 1]]).flatten = (List.replicate n ((0 : Nat), (1 : Nat))).map fr := by
 induction n with
 | zero => rfl
 | succ n ih => rw [rS_, List.flatten_cons, ih, rS_]; rfl
theorem qiC (n : Nat) (hn : n <= 12) : qib (.lst [.tup [.int 0, .int 1]]) (.int (n : Nat)) = some ((List.replicate n ((0 : Nat), (1 : Nat))).map fr) := by
 unfold qib
 have c0 : (2 : Int) ^ 62 = 4611686018427387904 := by decide
 have c1 : decide (-(2 ^ 62) <= ((n : Nat) : Int)) = true := decide_eq_true (by rw [c0]; omega)
 have c2 : decide (((n : Nat) : Int) < 2 ^ 62) = true := decide_eq_true (by rw [c0]; omega)
 have c3 : qI ([D.tup [.int 0, .int 1]].length * ((n : Nat) : Int).toNat) = true := yS (by rw [Int.toNat_natCast]; simp only [lC_, lN_]; omega)
 have c4 : immL [D.tup [.int 0, .int 1]] = true := rfl
 simp only [c1, c2, c3, c4, Bool.and_self, if_true]
 rw [Int.toNat_natCast, qmY]
theorem qiD {f g : M D} {ρ : Env} {x y : D} {ds : List D} (hf : f ρ = .ok (x, ρ)) (hg : g ρ = .ok (y, ρ)) (e : qib x y = some ds) : qkh f g ρ = .ok (ds, ρ) := by
 rw [qkj, hf]
 simp only [hg, e]
theorem qiE {i : Nat} {k f : M D} {ρ : Env} {L : List (Nat × Nat)} {q : Nat} {v : Nat × Nat} (hf : f ρ = .ok (fr v, ρ)) (hk : k ρ = .ok (.int (q : Nat), ρ)) (hL : zg i ρ = some (L.map fr)) (hq : q < L.length) : qb4 i k f ρ = .ok (.nx (ρ.set i (some (.lst ((L.set q v).map fr))))) := by
 have e : ixN (L.map fr).length ((q : Nat) : Int) = some q := by
  unfold ixN
  rw [lM_, if_pos (by omega), if_pos (by omega), Int.toNat_natCast]
 have him : imm (fr v) = true := rfl
 rw [qb9, hf]
 simp only [hL, hk, e, him, if_true, List.map_set]
theorem vG {ks : List Nk} (hw : ∀ x ∈ ks, 0 < x.1) (hl : ks.length <= 12) (hp : qW ks <= Mx) (r : Nat) : jc [.tup (ks.map tK), .int (r : Nat)] = .ok (.tup ((shs ks r).map fr)) := by
 have hwM : ∀ x ∈ ks, x.1 <= Mx := fun x hx => Nat.le_trans (qc3 hw hx) hp
 let S : Option D := some (.tup (ks.map tK))
 let R0 : Option D := some (.int (r : Nat))
 let L0 : List (Nat × Nat) := List.replicate ks.length (0, 1)
 obtain ⟨ρ', q, o4, hlen, rfl⟩ := wC (G := qk 4) (b := (qS (qb4 2 (dv 4) (ql jv (qc (d2 ixD (dv 0) (dv 4)) (qc (dv 3) (ret []))))) (zY 3 (ql ja (qc (d2 ixD (dv 0) (dv 4)) (qc (dv 3) (ret []))))))) (k := fun i : Nat => D.int (i : Nat)) (step := shS ks) (Inv := fun n s ρ => ∃ o4, s.2.length = ks.length /\ ρ = [S, R0, some (.lst (s.2.map fr)), some (.int (s.1 : Nat)), o4]) (u4 ks) 0 (r, L0) [S, R0, some (.lst (L0.map fr)), R0, none] ⟨none, List.length_replicate, rfl⟩ (fun p hp' n s ρ _ _ => by
  rintro ⟨o4, hs, rfl⟩
  have hpl := (u5.mp hp').1
  have hx := zN hpl
  let ρ1 : Env := [S, R0, some (.lst (s.2.map fr)), some (.int (s.1 : Nat)), some (.int (p : Nat))]
  let ρ2 : Env := [S, R0, some (.lst ((s.2.set p (shN (nAt ks p) s.1)).map fr)), some (.int (s.1 : Nat)), some (.int (p : Nat))]
  refine ⟨ρ1, [S, R0, some (.lst ((s.2.set p (shN (nAt ks p) s.1)).map fr)), some (.int (bhN (nAt ks p) s.1 : Nat)), some (.int (p : Nat))], rfl, ?_, _, (lS_).trans hs, rfl⟩
  refine (qq (ρ' := ρ2) ?_).trans ?_
  ·exact qiE (ρ := ρ1) (i := 2) (yN (qh rfl rfl (qdG hpl)) rfl (wN (hw _ hx) (hwM _ hx) s.1)) rfl rfl (by rw [hs]; exact hpl)
  ·exact yO (yN (qh rfl rfl (qdG hpl)) rfl (vF (hwM _ hx) s.1)))
 unfold jc yI
 refine ug rfl ⟨[S, R0, some (.lst ((shs ks r).map fr)), some (.int (((u4 ks).foldl (shS ks) (r, L0)).1 : Nat)), o4], ?_⟩
 refine (qq (ρ' := [S, R0, none, none, none]) (ex1 rfl (y7 _ (qc2 hw hl)))).trans ?_
 refine (qq (ρ' := [S, R0, none, none, none]) (ex1 rfl (y8 r))).trans ?_
 refine (qq (ρ' := [S, R0, some (.lst (L0.map fr)), none, none]) ?_).trans ?_
 ·have a1 : qbn (qc (ret (.tup [.int 0, .int 1])) (ret [])) [S, R0, none, none, none] = .ok (.lst [.tup [.int 0, .int 1]], [S, R0, none, none, none]) := by push_cast [yS (show 1 <= 1000000 by omega)]
  have a2 : zq qaz (qc (dv 0) (ret [])) [S, R0, none, none, none] = .ok (.int (ks.length : Nat), [S, R0, none, none, none]) := qap rfl (by
   show some (D.int ((ks.map tK).length : Nat)) = _
   rw [lM_])
  rw [qaL, qiD a1 a2 (qiC ks.length hl)]
  rfl
 refine (qq (ρ' := [S, R0, some (.lst (L0.map fr)), R0, none]) rfl).trans ?_
 refine (qq (ρ' := [S, R0, some (.lst ((shs ks r).map fr)), some (.int (((u4 ks).foldl (shS ks) (r, L0)).1 : Nat)), o4]) ?_).trans ?_
 ·have e0 : wP (ql zv (qc (dv 0) (ret []))) [S, R0, some (.lst (L0.map fr)), R0, none] = .ok ((u4 ks).map fun i => D.int (i : Nat), [S, R0, some (.lst (L0.map fr)), R0, none]) := by
   rw [qew, qeY rfl (u7 hw hl hp)]
   rfl
  rw [uq, e0]
  exact q
 ·rw [wn, qca]
  rfl
theorem qgm (ks : List Nk) (l : List (Nat × Nat)) : qcG (ks.map tK) (l.map fr) = (ks.zip l).map fun z => D.tup [tK z.1, fr z.2] := by
 induction ks generalizing l with
 | nil => rfl
 | cons x ks ih =>
  cases l with
  | nil => rfl
  | cons y l => rw [mC_, mC_, List.zip_cons_cons, mC_, <- ih]; rfl
theorem vH {ks : List Nk} (hw : ∀ x ∈ ks, 0 < x.1) (hg : ∀ x ∈ ks, x.2.1 <= Mx) (hl : ks.length <= 12) (hp : qW ks <= Mx) (r : Nat) : jF [.tup (ks.map tK), .int (r : Nat)] = .ok (wQ (swN ks r).1 (swN ks r).2) := by
 have hz := qe4 hw r
 let S : Option D := some (.tup (ks.map tK))
 let R0 : Option D := some (.int (r : Nat))
 have main : ∀ (l : List (Nk × Nat × Nat)) (s : Nat × Nat) (o3 o4 : Option D), (∀ z ∈ l, z ∈ ks.zip (shs ks r)) -> 0 < s.2 -> s.2 * qW (l.map (·.1)) <= Mx -> ∃ p3 p4, jU (vz 2 (qD (qk 3) (qD (qk 4) vy))) (zY 2 (ql vn (qc (dv 2) (qc (um (qc (d2 je (d2 ixD (dv 4) (ret (.int 0))) (d2 ixD (dv 3) (ret (.int 1)))) (qc (d2 ixD (dv 4) (ret (.int 1))) (ret [])))) (ret []))))) (l.map fun z => D.tup [tK z.1, fr z.2]) [S, R0, some (wQ s.1 s.2), o3, o4] = .ok (.nx [S, R0, some (wQ (l.foldl swS s).1 (l.foldl swS s).2), p3, p4]) := by
  intro l
  induction l with
  | nil => intro s o3 o4 _ _ _; exact ⟨o3, o4, rfl⟩
  | cons z l ih =>
   intro s o3 o4 hm hs hb
   have hzm := hm z mS_
   obtain ⟨z1, z2⟩ := hz z hzm
   have hzk : z.1 ∈ ks := (List.of_mem_zip (show (z.1, z.2) ∈ ks.zip (shs ks r) from hzm)).1
   have hlp : ∀ x ∈ l.map (·.1), 0 < x.1 := fun x hx => by
    obtain ⟨y, hy, rfl⟩ := mP_.mp hx
    exact hw _ (List.of_mem_zip (show (y.1, y.2) ∈ ks.zip (shs ks r) from hm y (mM _ hy))).1
   have hpp := wF hlp
   rw [mC_, zj] at hb
   have hb2 : s.2 * z.2.2 * qW (l.map (·.1)) <= Mx := by
    refine Nat.le_trans ?_ hb
    rw [Nat.mul_assoc]
    exact Nat.mul_le_mul_left _ (Nat.mul_le_mul_right _ z2)
   have hsz : s.2 * z.2.2 <= Mx := Nat.le_trans (Nat.le_mul_of_pos_right _ hpp) hb2
   have hs1 : s.2 <= Mx := Nat.le_trans (Nat.le_mul_of_pos_right _ z1) hsz
   have hz3 : z.2.2 <= Mx := Nat.le_trans (Nat.le_mul_of_pos_left _ hs) hsz
   obtain ⟨l1, l2⟩ := wE s.1 hs
   obtain ⟨p3, p4, e⟩ := ih (swS s z) (some (tK z.1)) (some (fr z.2)) (fun y hy => hm y (mM _ hy)) (Nat.mul_pos hs z1) hb2
   refine ⟨p3, p4, ?_⟩
   rw [mC_, zt (ρ1 := [S, R0, some (wQ s.1 s.2), some (tK z.1), some (fr z.2)]) (ρ2 := [S, R0, some (wQ (swS s z).1 (swS s z).2), some (tK z.1), some (fr z.2)]) rfl ?_]
   ·exact e
   ·let ρ1 : Env := [S, R0, some (wQ s.1 s.2), some (tK z.1), some (fr z.2)]
    have ea : vn [wQ s.1 s.2, frD (z.2.1 * z.1.2.1) z.2.2] = .ok (wQ (swS s z).1 (swS s z).2) := by
     have := qdJ (t := uI s.1 s.2) (b := uJ s.1 s.2) (u := z.2.1 * z.1.2.1) (c := z.2.2) hz3 (.inr (Nat.le_trans l2 hs1)) l1 z1 (Nat.lt_of_le_of_lt (Nat.le_trans (Nat.mul_le_mul_right _ l2) hsz) qg7)
     rw [qis _ _ hs z1] at this
     exact this
    have et : um (qc (d2 je (d2 ixD (dv 4) (ret (.int 0))) (d2 ixD (dv 3) (ret (.int 1)))) (qc (d2 ixD (dv 4) (ret (.int 1))) (ret []))) ρ1 = .ok (frD (z.2.1 * z.1.2.1) z.2.2, ρ1) :=
     qlx (qh (qh rfl rfl (qgh _ _)) (qh rfl rfl (tk1 _)) (u3 _ (hg _ hzk))) (qh rfl rfl (qdF _ _))
    exact yO (ρ := ρ1) (yN rfl et ea)
 obtain ⟨p3, p4, q⟩ := main (ks.zip (shs ks r)) (0, 1) none none (fun _ h => h) Nat.one_pos (by rw [Nat.one_mul, qe6 (qaR ks r)]; exact hp)
 unfold jF yJ
 refine ug rfl ⟨[S, R0, some (wQ (swN ks r).1 (swN ks r).2), p3, p4], ?_⟩
 refine (qq (ρ' := [S, R0, some (wQ 0 1), none, none]) rfl).trans ((qq (ρ' := [S, R0, some (wQ (swN ks r).1 (swN ks r).2), p3, p4]) ?_).trans rfl)
 have e0 : (qjY (qc (dv 0) (qc (ql jc (qc (dv 0) (qc (dv 1) (ret [])))) (ret [])))) [S, R0, some (wQ 0 1), none, none] = .ok ((ks.zip (shs ks r)).map fun z => D.tup [tK z.1, fr z.2], [S, R0, some (wQ 0 1), none, none]) := by
  rw [qey, qdD rfl (cp2 rfl rfl (vG hw hl hp r)), <- qgm]
  rfl
 rw [uq, e0]
 exact q
theorem qlM {ks : List Nk} (hw : ∀ x ∈ ks, 0 < x.1) (hp : qW ks <= Mx) (r : Nat) : 0 < (swN ks r).2 /\ (swN ks r).2 <= Mx := by
 obtain ⟨a1, a2⟩ := qe5 (ks.zip (shs ks r)) (0, 1) (qe4 hw r) Nat.one_pos
 rw [Nat.one_mul, qe6 (qaR ks r)] at a2
 exact ⟨a1, Nat.le_trans a2 hp⟩
theorem yQ {ks : List Nk} (hw : ∀ x ∈ ks, 0 < x.1) (hg : ∀ x ∈ ks, x.2.1 <= Mx) (hl : ks.length <= 12) (hp : qW ks <= Mx) (r : Nat) : jd [.tup (ks.map tK), .int (r : Nat)] = .ok (.int ((swN ks r).1 / (swN ks r).2 : Nat)) := by
 obtain ⟨s1, s2⟩ := qlM hw hp r
 obtain ⟨l1, l2⟩ := wE (swN ks r).1 s1
 let S : Option D := some (.tup (ks.map tK))
 let R0 : Option D := some (.int (r : Nat))
 unfold jd yK
 refine ug rfl ⟨[S, R0, some (wQ (swN ks r).1 (swN ks r).2)], ?_⟩
 refine (qq (ρ' := [S, R0, some (wQ (swN ks r).1 (swN ks r).2)]) (yO (ρ1 := [S, R0, none]) (cx2 rfl rfl (vH hw hg hl hp r)))).trans ?_
 ·refine jW ?_
  have := u0 (uI (swN ks r).1 (swN ks r).2) l1 (Nat.lt_of_le_of_lt (Nat.le_trans l2 s2) (by decide))
  rw [qir _ s1] at this
  exact qh (qh rfl rfl (qgh _ _)) (qh rfl rfl (qdF _ _)) this
def wO (x : Nk) : Nk := (x.1, x.2.1, x.2.2.map (· - 1))
def j6 (x : Nk) : Bool := match x.2.2 with
 | none => true
 | some m => decide (0 < m)
def qbM (ks : List Nk) (r : Nat) : Nat := (swN ks r).1 / (swN ks r).2
def zH (ks : List Nk) (p : Nat) : List Nk := ks.set p (wO (nAt ks p))
def qcn (ks : List Nk) (p R : Nat) (u : Int) : Bool := j6 (nAt ks p) && decide ((nAt ks p).1 <= R) && decide (u <= ((nAt ks p).2.1 : Int) + (qbM (zH ks p) (R - (nAt ks p).1) : Nat))
theorem qbN (ks : List Nk) (p : Nat) (y : Nk) (h : y.1 = (nAt ks p).1) : qW (ks.set p y) = qW ks := by
 induction ks generalizing p with
 | nil => rfl
 | cons x ks ih =>
  cases p with
  | zero =>
   rw [List.set_cons_zero, zj, zj, h]
   rfl
  | succ p =>
   rw [List.set_cons_succ, zj, zj, ih p (by rw [h]; simp [nAt])]
theorem yA {ks : List Nk} {p : Nat} (hp : p < ks.length) {P : Nat -> Nat -> Prop} (h : ∀ x ∈ ks, P x.1 x.2.1) : ∀ x ∈ zH ks p, P x.1 x.2.1 := fun x hx => by
 rcases List.mem_or_eq_of_mem_set hx with hx | rfl
 ·exact h x hx
 ·show P (nAt ks p).1 (nAt ks p).2.1
  exact h _ (zN hp)
theorem orF {f g : M D} {ρ : Env} {d : D} (hf : f ρ = .ok (.bl false, ρ)) (hg : g ρ = .ok (d, ρ)) : dor f g ρ = .ok (d, ρ) := by
 rw [qhY, hf]
 exact hg
theorem qa0 (x : Nk) : js [tK x] = .ok (.bl (j6 x)) := by
 obtain ⟨w, g, m⟩ := x
 unfold js vo
 cases m with
 | none => exact ug rfl ⟨[some (tK (w, g, none))], rfl⟩
 | some m =>
  have e1 : d2 ixD (dv 0) (ret (.int 2)) [some (tK (w, g, some m))] = .ok (.int (m : Nat), [some (tK (w, g, some m))]) := qh rfl rfl (qlF w g m)
  have e2 : d2 isN (d2 ixD (dv 0) (ret (.int 2))) (ret .non) [some (tK (w, g, some m))] = .ok (.bl false, [some (tK (w, g, some m))]) := qh e1 rfl rfl
  have e3 : d2 gtD (d2 ixD (dv 0) (ret (.int 2))) (ret (.int 0)) [some (tK (w, g, some m))] = .ok (.bl (decide (0 < m)), [some (tK (w, g, some m))]) := qh e1 rfl (gt0 m)
  exact ug rfl ⟨[some (tK (w, g, some m))], jW (orF e2 e3)⟩
theorem wU (x : Nk) (h : j6 x = true) : j4 [tK x, .int 1] = .ok (mD ((wO x).2.2.map fun m : Nat => (m : Int))) := by
 obtain ⟨w, g, m⟩ := x
 unfold j4 uF
 cases m with
 | none => exact ug rfl ⟨[some (tK (w, g, none)), some (.int 1)], rfl⟩
 | some m =>
  have hm : 0 < m := of_decide_eq_true h
  have e1 : d2 ixD (dv 0) (ret (.int 2)) [some (tK (w, g, some m)), some (.int 1)] = .ok (.int (m : Nat), [some (tK (w, g, some m)), some (.int 1)]) := qh rfl rfl (qlF w g m)
  have e2 : tst (d2 isN (d2 ixD (dv 0) (ret (.int 2))) (ret .non)) [some (tK (w, g, some m)), some (.int 1)] = .ok (false, [some (tK (w, g, some m)), some (.int 1)]) := zF (qh e1 rfl rfl)
  have e3 : qae (.int (m : Nat)) (.int 1) = some (.int ((m - 1 : Nat) : Int)) := by
   rw [uY]
   congr 2
   omega
  exact ug rfl ⟨[some (tK (w, g, some m)), some (.int 1)], jW (qkR e2 (qh e1 rfl e3))⟩
theorem wV (x : Nk) (m : Option Nat) : jZ [tK x, mD (m.map fun m : Nat => (m : Int))] = .ok (tK (x.1, x.2.1, m)) := by
 unfold jZ uE
 exact ug rfl ⟨[some (tK x), some (mD (m.map fun m : Nat => (m : Int)))], jW (qly (qh rfl rfl (tk0 x)) (qh rfl rfl (tk1 x)) rfl)⟩
theorem qbO {α : Type} (xs : List α) (p : Nat) (y : α) (h : p < xs.length) : xs.take p ++ [y] ++ xs.drop (p + 1) = xs.set p y := by
 rw [List.set_eq_take_append_cons_drop, if_pos h, aA_]
 rfl
theorem wW {ks : List Nk} {p : Nat} (hp : p < ks.length) (hl : ks.length <= 12) (y : Nk) : jY [.tup (ks.map tK), .int (p : Nat), tK y] = .ok (.tup ((ks.set p y).map tK)) := by
 unfold jY uD
 let ρ : Env := [some (.tup (ks.map tK)), some (.int (p : Nat)), some (tK y)]
 have l0 : (ks.map tK).length = ks.length := lM_ _
 have c1 : qbW (ks.map tK) none (some ((p : Nat) : Int)) = (ks.map tK).take p := qc0 _ p (by omega)
 have c2 : qbW (ks.map tK) (some (((p + 1 : Nat) : Int))) none = (ks.map tK).drop (p + 1) := qc1 _ (p + 1) (by omega)
 have a1 : qeM (dv 0) (ret none) (vC (dv 1)) ρ = .ok (.tup ((ks.map tK).take p), ρ) := by
  rw [<- c1]
  rfl
 have a2 : qeM (dv 0) (vC (d2 zP (dv 1) (ret (.int 1)))) (ret none) ρ = .ok (.tup ((ks.map tK).drop (p + 1)), ρ) := by
  rw [<- c2]
  rfl
 have a3 : um (qc (dv 2) (ret [])) ρ = .ok (.tup [tK y], ρ) := by
  rw [wm, qch rfl]
  rfl
 have z1 : ((ks.map tK).take p).length + [tK y].length <= 1000000 := by
  rw [List.length_take, l0]
  simp only [lC_, lN_]
  omega
 have z2 : ((ks.map tK).take p ++ [tK y]).length + ((ks.map tK).drop (p + 1)).length <= 1000000 := by
  rw [lA_, List.length_take, List.length_drop, l0]
  simp only [lC_, lN_]
  omega
 have a4 := qh (qh a1 a3 (uZ z1)) a2 (uZ z2)
 rw [qbO _ _ _ (by rw [l0]; exact hp), <- List.map_set] at a4
 exact ug rfl ⟨ρ, jW a4⟩
theorem qfb (i j : Int) : geD (.int i) (.int j) = some (.bl (decide (j <= i))) := rfl
theorem gtN (a b : Nat) : gtD (.int (a : Nat)) (.int (b : Nat)) = some (.bl (!decide (a <= b))) := by
 rw [ve]
 congr 2
 rw [<- decide_not, decide_eq_decide]
 omega
theorem wX {ks : List Nk} (hw : ∀ x ∈ ks, 0 < x.1) (hg : ∀ x ∈ ks, x.2.1 <= Mx) (hl : ks.length <= 12) (hp : qW ks <= Mx) {p : Nat} (hpl : p < ks.length) (R : Nat) (u : Int) : yL [.tup (ks.map tK), .int (p : Nat), .int (R : Nat), .int u] = .ok (.bl (qcn ks p R u)) := by
 let x := nAt ks p
 let A : Option D := some (.tup (ks.map tK))
 let B : Option D := some (.int (p : Nat))
 let C : Option D := some (.int (R : Nat))
 let U : Option D := some (.int u)
 have hx := zN hpl
 unfold yL uG
 let ρ1 : Env := [A, B, C, U, some (tK x), none]
 have s1 : zY 4 (d2 ixD (dv 0) (dv 1)) [A, B, C, U, none, none] = .ok (.nx ρ1) := yO (qh rfl rfl (qdG hpl))
 have t1 : tst (ql js (qc (dv 4) (ret []))) ρ1 = .ok (j6 x, ρ1) := zF (qeY rfl (qa0 x))
 have t2 : tst (d2 gtD (d2 ixD (dv 4) (ret (.int 0))) (dv 2)) ρ1 = .ok (!decide (x.1 <= R), ρ1) := zF (qh (qh rfl rfl (tk0 x)) rfl (gtN _ _))
 by_cases hc : j6 x = true /\ x.1 <= R
 ·obtain ⟨h1, h2⟩ := hc
  have tt : tor (qdl (tst (ql js (qc (dv 4) (ret []))))) (tst (d2 gtD (d2 ixD (dv 4) (ret (.int 0))) (dv 2))) ρ1 = .ok (false, ρ1) := by
   rw [h1] at t1
   rw [decide_eq_true h2] at t2
   refine qmg ?_ t2
   rw [qam, t1]
   rfl
  let lt := zH ks p
  let ρ2 : Env := [A, B, C, U, some (tK x), some (.tup (lt.map tK))]
  have s3 : zY 5 (ql jY (qc (dv 0) (qc (dv 1) (qc (ql jZ (qc (dv 4) (qc (ql j4 (qc (dv 4) (qc (ret (.int 1)) (ret [])))) (ret [])))) (ret []))))) ρ1 = .ok (.nx ρ2) :=
   yO (qkz rfl rfl (yN rfl (yN rfl rfl (wU x h1)) (wV x _)) (wW hpl hl (wO x)))
  have hwL : ∀ y ∈ lt, 0 < y.1 := yA (P := fun a _ => 0 < a) hpl hw
  have hgL : ∀ y ∈ lt, y.2.1 <= Mx := yA (P := fun _ b => b <= Mx) hpl hg
  have hlL : lt.length <= 12 := by show (ks.set p _).length <= 12; rw [lS_]; exact hl
  have hpL : qW lt <= Mx := by
   have : qW lt = qW ks := qbN ks p _ rfl
   rw [this]; exact hp
  have e4 : qae (.int (R : Nat)) (.int (x.1 : Nat)) = some (.int ((R - x.1 : Nat) : Int)) := by
   rw [uY]
   congr 2
   omega
  have s4 := qh (F := geD) (qh (F := zP) (qh (F := ixD) (f := dv 4) (g := ret (.int 1)) (ρ := ρ2) rfl rfl (tk1 x)) (cx2 (f := dv 5) (ρ := ρ2) rfl (qh (F := qae) (f := dv 2) (g := d2 ixD (dv 4) (ret (.int 0))) rfl (qh rfl rfl (tk0 x)) e4) (yQ hwL hgL hlL hpL (R - x.1))) (yF _ _)) (g := dv 3) rfl (qfb _ _)
  have em : qcn ks p R u = decide (u <= (x.2.1 : Int) + (qbM lt (R - x.1) : Nat)) := by
   show (j6 x && decide (x.1 <= R) && decide (u <= (x.2.1 : Int) + (qbM lt (R - x.1) : Nat))) = _
   rw [h1, decide_eq_true h2]
   rfl
  rw [em]
  refine ug rfl ⟨ρ2, ?_⟩
  refine (qq s1).trans ((qq (ρ' := ρ1) (qkQ tt)).trans ((qq s3).trans (jW s4)))
 ·have tt : tor (qdl (tst (ql js (qc (dv 4) (ret []))))) (tst (d2 gtD (d2 ixD (dv 4) (ret (.int 0))) (dv 2))) ρ1 = .ok (true, ρ1) := by
   cases h1 : j6 x with
   | false =>
    rw [h1] at t1
    refine qlA ?_
    rw [qam, t1]
    rfl
   | true =>
    rw [h1] at t1
    have h2 : ¬ x.1 <= R := fun z => hc ⟨h1, z⟩
    rw [decide_eq_false h2] at t2
    rw [qdu, qam, t1]
    exact t2
  have em : qcn ks p R u = false := by
   show (j6 x && decide (x.1 <= R) && _) = false
   cases h1 : j6 x with
   | false => rfl
   | true =>
    have h2 : ¬ x.1 <= R := fun z => hc ⟨h1, z⟩
    rw [decide_eq_false h2]
    rfl
  rw [em]
  refine ug rfl ⟨ρ1, ?_⟩
  exact (qq s1).trans (wB (qlz tt))
theorem cp4 {F : List D -> R D} {f g h k : M D} {ρ : Env} {a b c z d : D} (hf : f ρ = .ok (a, ρ)) (hg : g ρ = .ok (b, ρ)) (hh : h ρ = .ok (c, ρ)) (hk : k ρ = .ok (z, ρ)) (e : F [a, b, c, z] = .ok d) : ql F (qc f (qc g (qc h (qc k (ret []))))) ρ = .ok (d, ρ) := by
 have a4 : qc f (qc g (qc h (qc k (ret [])))) ρ = .ok ([a, b, c, z], ρ) := by
  rw [jV, hf]
  simp only [qil hg hh hk]
 rw [jE, a4]
 simp only [e]
theorem qa1 {ks : List Nk} (hw : ∀ x ∈ ks, 0 < x.1) (hg : ∀ x ∈ ks, x.2.1 <= Mx) (hl : ks.length <= 12) (hp : qW ks <= Mx) (R : Nat) (u : Int) : zW [.tup (ks.map tK), .int (R : Nat), .int u] = .ok (.lst (((List.range ks.length).filter fun p => !qcn ks p R u).map fun p => D.int (p : Nat))) := by
 let A : Option D := some (.tup (ks.map tK))
 let C : Option D := some (.int (R : Nat))
 let U : Option D := some (.int u)
 unfold zW vp
 refine ug rfl ⟨[A, C, U], ?_⟩
 refine (qq (ρ' := [A, C, U]) (ex1 rfl (y7 _ (qc2 hw hl)))).trans ?_
 refine (qq (ρ' := [A, C, U]) (ex1 rfl (y8 R))).trans ?_
 refine (qq (ρ' := [A, C, U]) (ex1 rfl (wL u))).trans (jW ?_)
 refine qg1 (k := fun p : Nat => D.int (p : Nat)) (r := [A, C, U]) (List.range ks.length) (fun p => !qcn ks p R u) (fun p => D.int (p : Nat)) ?_ rfl (by rw [lR_]; omega) (fun p hp' => ?_) (fun p _ _ => rfl)
 ·have e : qc (zq qaz (qc (dv 0) (ret []))) (ret []) [A, C, U] = .ok ([.int ((ks.length : Nat) : Int)], [A, C, U]) := qch (qap rfl (by
   show some (D.int ((ks.map tK).length : Nat)) = _
   rw [lM_]))
  rw [uh (j := ((ks.length : Nat) : Int)) e (by omega) (by omega), Int.toNat_natCast, qmf]
 ·have t := zF (cp4 (f := dv 1) (g := dv 0) (h := dv 2) (k := dv 3) (ρ := [some (D.int (p : Nat)), A, C, U]) rfl rfl rfl rfl (wX hw hg hl hp (mR_.mp hp') R u))
  rw [qam, t]
theorem uH {n m : Int} (h0 : 0 < m) (h1 : m < 1606938044258990275541962092341162602522202993782792835301376) : qu [.int n] [.int m] = .ok (.int (n % m), [.int (n / m)]) := by
 unfold qu
 refine qgT (ρ := [some (.lst [.int (n / m)]), some (.int m), some (.int (n / m)), some (.int (n % m))]) rfl ?_ rfl
 unfold yG
 refine (qq (ρ' := [some (.lst [.int n]), some (.int m), some (.int (n / m)), some (.int (n % m))]) ?_).trans ?_
 ·push_cast [at0, qeW h0 h1, vz, qD, qk, vy, Option.bind_some]
 ·refine (qq (ρ' := [some (.lst [.int (n / m)]), some (.int m), some (.int (n / m)), some (.int (n % m))]) ?_).trans rfl
  push_cast [qmU, imm]
theorem qdb {i : Int} (h0 : 0 <= i) (h1 : i < 3000000000) : jB i = true := by
 unfold jB
 rw [Bool.and_eq_true, decide_eq_true_eq, decide_eq_true_eq]
 constructor <;> omega
theorem qdc (A B : Option D) (x : Int) : ∀ (ds : List D) (s : Int) (o o' : Option D), (∀ d ∈ ds, ∃ j : Int, d = .int j) -> ∃ s' o1 o2, jU (qk 4) (qS (zY 5 (d2 qaf (d2 zP (d2 zP (d2 je (d2 qaf (dv 2) (ret (.int 2147483647))) (ret (.int 48271))) (d2 je (ret (.int 7919)) (dv 4))) (ret (.int 1))) (ret (.int 2147483647)))) (qS (zY 5 (d2 qaf (d2 je (dv 5) (dv 5)) (ret (.int 2147483629)))) (zY 3 (d2 zP (d2 je (dv 3) (ret (.int 2147483647))) (d2 qaf (d2 je (dv 5) (d2 zP (dv 5) (ret (.int 13)))) (ret (.int 2147483647))))))) ds [A, B, some (.int x), some (.int s), o, o'] = .ok (.nx [A, B, some (.int x), some (.int s'), o1, o2])
 | [], s, o, o', _ => ⟨s, o, o', rfl⟩
 | d :: ds, s, o, o', h => by
  obtain ⟨j, rfl⟩ := h d mS_
  let p : Int := (x % 2147483647 * 48271 + 7919 * j + 1) % 2147483647
  let q : Int := p * p % 2147483629
  have f48 : jB 48271 = true := by decide
  have f79 : jB 7919 = true := by decide
  have f21 : jB 2147483647 = true := by decide
  have fp : jB p = true := qdb (Int.emod_nonneg _ (by omega)) (by have := Int.emod_lt_of_pos (x % 2147483647 * 48271 + 7919 * j + 1) (show (0 : Int) < 2147483647 by omega); simp only [p]; omega)
  have fq : jB q = true := qdb (Int.emod_nonneg _ (by omega)) (by have := Int.emod_lt_of_pos (p * p) (show (0 : Int) < 2147483629 by omega); simp only [q]; omega)
  obtain ⟨s', o1, o2, e⟩ := qdc A B x ds (s * 2147483647 + q * (q + 13) % 2147483647) (some (.int j)) (some (.int q)) fun y hy => h y (mM _ hy)
  refine ⟨s', o1, o2, ?_⟩
  have st : (qS (zY 5 (d2 qaf (d2 zP (d2 zP (d2 je (d2 qaf (dv 2) (ret (.int 2147483647))) (ret (.int 48271))) (d2 je (ret (.int 7919)) (dv 4))) (ret (.int 1))) (ret (.int 2147483647)))) (qS (zY 5 (d2 qaf (d2 je (dv 5) (dv 5)) (ret (.int 2147483629)))) (zY 3 (d2 zP (d2 je (dv 3) (ret (.int 2147483647))) (d2 qaf (d2 je (dv 5) (d2 zP (dv 5) (ret (.int 13)))) (ret (.int 2147483647))))))) [A, B, some (.int x), some (.int s), some (.int j), o'] = .ok (.nx [A, B, some (.int x), some (.int (s * 2147483647 + q * (q + 13) % 2147483647)), some (.int j), some (.int q)]) := by
   refine (qq (ρ' := [A, B, some (.int x), some (.int s), some (.int j), some (.int p)]) ?_).trans ?_
   ·push_cast [ui (j := 2147483647) (by decide), qgb f48, qeX f79, yF, p]
   refine (qq (ρ' := [A, B, some (.int x), some (.int s), some (.int j), some (.int q)]) ?_).trans ?_
   ·push_cast [qeX fp, ui (j := 2147483629) (by decide), q]
   ·push_cast [qgb f21, yF, qeX fq, ui (j := 2147483647) (by decide)]
  unfold jU
  simp only [qk, List.set_cons_zero, List.set_cons_succ, st]
  exact e
theorem qkE (ns : List Int) (i : Int) (h0 : 0 <= i) : ∃ n, yy [.fz ns, .int i] = .ok (.lst [.int n]) := by
 have f79 : jB 7919 = true := by decide
 have s1 : ∃ x, (sif (tst (d2 ltD (dv 1) (zq qaz (qc (dv 0) (ret []))))) (zY 2 (d2 ixD (dv 0) (dv 1))) qal) [some (.fz ns), some (.int i), some (.int (7919 * i + 13)), none, none, none] = .ok (.nx [some (.fz ns), some (.int i), some (.int x), none, none, none]) := by
  by_cases h : i < ns.length
  ·obtain ⟨j, rfl⟩ := Int.eq_ofNat_of_zero_le h0
   have hj : j < ns.length := by omega
   have e : ixD (.fz ns) (.int (j : Int)) = some (.int ns[j]) := by
    show (atI ns (j : Int)).map D.int = _
    rw [qkt (gG hj)]; rfl
   refine ⟨ns[j], ?_⟩
   push_cast [e, qaz, h]
  ·refine ⟨7919 * i + 13, ?_⟩
   push_cast [qaz, h]
 obtain ⟨x, e1⟩ := s1
 have s0 : (zY 2 (d2 zP (d2 je (ret (.int 7919)) (dv 1)) (ret (.int 13)))) [some (.fz ns), some (.int i), none, none, none, none] = .ok (.nx [some (.fz ns), some (.int i), some (.int (7919 * i + 13)), none, none, none]) := by
  push_cast [qeX f79, yF]
 by_cases hx : x % 2 = 0
 ·refine ⟨x / 2, ?_⟩
  unfold yy uk
  refine ug rfl ⟨[some (.fz ns), some (.int i), some (.int x), none, none, none], ?_⟩
  refine (qq s0).trans ((qq e1).trans (wB ?_))
  push_cast [ui (j := 2) (by decide), hx, qbD (j := 2) (by decide) (by decide), yS (show 1 <= 1000000 by omega)]
 ·obtain ⟨s', o1, o2, q⟩ := qdc (some (.fz ns)) (some (.int i)) x (qaD 0 16) 0 none none fun d hd => by
   unfold qaD at hd
   obtain ⟨k, hk, rfl⟩ := mP_.mp hd
   exact ⟨_, rfl⟩
  refine ⟨s', ?_⟩
  unfold yy uk
  refine ug rfl ⟨[some (.fz ns), some (.int i), some (.int x), some (.int s'), o1, o2], ?_⟩
  refine (qq s0).trans ((qq e1).trans ?_)
  refine (qq (ρ' := [some (.fz ns), some (.int i), some (.int x), none, none, none]) ?_).trans ?_
  ·push_cast [ui (j := 2) (by decide), hx]
  refine (qq (ρ' := [some (.fz ns), some (.int i), some (.int x), some (.int 0), none, none]) ?_).trans ?_
  ·push_cast []
  refine (qq (ρ' := [some (.fz ns), some (.int i), some (.int x), some (.int s'), o1, o2]) ?_).trans ?_
  ·rw [uq, uh (j := 16) (ρ1 := [some (.fz ns), some (.int i), some (.int x), some (.int 0), none, none]) rfl (by omega) (by omega)]
   exact q
  ·push_cast [yS (show 1 <= 1000000 by omega)]
def lsK (x : Kd) : Prop := 1 <= x.1 /\ x.1 <= 9 /\ 0 <= x.2.1 /\ x.2.1 <= 9 /\ ∀ j, x.2.2 = some j -> 0 <= j /\ j <= 5
theorem lsK.ok {x : Kd} (h : lsK x) : okK x := ⟨by have := h.1; omega, h.2.2.1, fun j e => (h.2.2.2.2 j e).1⟩
theorem qiF (n : Int) (M : Option D) (ks : List Kd) (hk : ∀ k ∈ ks, lsK k) (hl : ks.length < 12) (o3 o4 o5 : Option D) : ∃ n' k p4 p5, lsK k /\ (qS (qiQ 4 5 (qc (d2 zP (ret (.int 1)) (qV qu 0 (qc (ret (.int 9)) (ret [])))) (qc (qV qu 0 (qc (ret (.int 10)) (ret []))) (ret [])))) (yo (zM 2 (um (qc (dv 4) (qc (dv 5) (qc (d2 ixD (qbn (qc (ret .non) (qc (ret (.int 0)) (qc (ret (.int 1)) (qc (ret (.int 1)) (qc (ret (.int 2)) (qc (ret (.int 3)) (qc (ret (.int 5)) (ret []))))))))) (qV qu 0 (qc (ret (.int 7)) (ret [])))) (ret [])))))))) [some (.lst [.int n]), M, some (.lst (ks.map kD)), o3, o4, o5] = .ok (.nx [some (.lst [.int n']), M, some (.lst ((ks ++ [k]).map kD)), o3, p4, p5]) := by
 let n1 := n / 9
 let n2 := n1 / 10
 obtain ⟨m, hm, em⟩ := qkr (ds := [.non, .int 0, .int 1, .int 1, .int 2, .int 3, .int 5]) (k := n2 % 7) (by omega) (by simp; omega)
 have hm2 : ∃ y : Option Int, m = mD y /\ ∀ j, y = some j -> 0 <= j /\ j <= 5 := by
  simp only [List.mem_cons, nN_, or_false] at hm
  rcases hm with rfl | rfl | rfl | rfl | rfl | rfl | rfl
  ·exact ⟨none, rfl, fun j e => by cases e⟩
  ·exact ⟨some 0, rfl, fun j e => by cases e; omega⟩
  ·exact ⟨some 1, rfl, fun j e => by cases e; omega⟩
  ·exact ⟨some 1, rfl, fun j e => by cases e; omega⟩
  ·exact ⟨some 2, rfl, fun j e => by cases e; omega⟩
  ·exact ⟨some 3, rfl, fun j e => by cases e; omega⟩
  ·exact ⟨some 5, rfl, fun j e => by cases e; omega⟩
 obtain ⟨y, rfl, hy⟩ := hm2
 refine ⟨n2 / 7, (1 + n % 9, n1 % 10, y), some (.int (1 + n % 9)), some (.int (n1 % 10)), ⟨by show 1 <= 1 + n % 9; omega, by show 1 + n % 9 <= 9; omega, by show 0 <= n1 % 10; omega, by show n1 % 10 <= 9; omega, hy⟩, ?_⟩
 refine (qq (ρ' := [some (.lst [.int n2]), M, some (.lst (ks.map kD)), o3, some (.int (1 + n % 9)), some (.int (n1 % 10))]) ?_).trans ?_
 ·push_cast [uH (m := 9) (by decide) (by decide), uH (m := 10) (by decide) (by decide), yF, n1, n2]
 ·push_cast [yS (show 7 <= 1000000 by omega), uH (m := 7) (by decide) (by decide), em, yS (show 3 <= 1000000 by omega), imm, immL, qks, Bool.and_self, lM_, yS (show ks.length + 1 <= 1000000 by omega), List.map_append]
  rfl
theorem qfc (M : Option D) : ∀ (ds : List D) (n : Int) (ks : List Kd) (o3 o4 o5 : Option D), (∀ k ∈ ks, lsK k) -> ks.length + ds.length <= 12 ->
  ∃ (n' : Int) (ks' : List Kd) (p3 p4 p5 : Option D), jU (qk 3) (qS (qiQ 4 5 (qc (d2 zP (ret (.int 1)) (qV qu 0 (qc (ret (.int 9)) (ret [])))) (qc (qV qu 0 (qc (ret (.int 10)) (ret []))) (ret [])))) (yo (zM 2 (um (qc (dv 4) (qc (dv 5) (qc (d2 ixD (qbn (qc (ret .non) (qc (ret (.int 0)) (qc (ret (.int 1)) (qc (ret (.int 1)) (qc (ret (.int 2)) (qc (ret (.int 3)) (qc (ret (.int 5)) (ret []))))))))) (qV qu 0 (qc (ret (.int 7)) (ret [])))) (ret [])))))))) ds [some (.lst [.int n]), M, some (.lst (ks.map kD)), o3, o4, o5] = .ok (.nx [some (.lst [.int n']), M, some (.lst (ks'.map kD)), p3, p4, p5]) /\ (∀ k ∈ ks', lsK k) /\ ks'.length = ks.length + ds.length
 | [], n, ks, o3, o4, o5, h, hl => ⟨n, ks, o3, o4, o5, rfl, h, rfl⟩
 | d :: ds, n, ks, o3, o4, o5, h, hl => by
  have hl' : ks.length + (ds.length + 1) <= 12 := hl
  obtain ⟨n1, k, p4, p5, gk, e⟩ := qiF n M ks h (by omega) (some d) o4 o5
  obtain ⟨n', ks', q3, q4, q5, q, g, l⟩ := qfc M ds n1 (ks ++ [k]) (some d) p4 p5 (fun x hx => (mA_.mp hx).elim (h x) fun hx => by
   rw [List.mem_singleton] at hx; subst hx; exact gk) (by rw [lA_, List.length_singleton]; omega)
  refine ⟨n', ks', q3, q4, q5, ?_, g, by rw [l, lA_, List.length_singleton, lC_]; omega⟩
  unfold jU
  simp only [qk, List.set_cons_zero, List.set_cons_succ, e]
  exact q
theorem qbP (n m : Int) (h0 : 0 <= m) (h1 : m <= 12) : ∃ (n' : Int) (ks : List Kd), (∀ k ∈ ks, lsK k) /\ (ks.length : Int) <= m /\ yf [.int n] [.int m] = .ok (.tup (ks.map kD), [.int n']) := by
 have b1 : 0 <= n % (m + 1) := Int.emod_nonneg _ (by omega)
 have b2 : n % (m + 1) < m + 1 := Int.emod_lt_of_pos _ (by omega)
 obtain ⟨n', ks, p3, p4, p5, q, hk, hl⟩ := qfc (some (.int m)) (qaD 0 (n % (m + 1)).toNat) (n / (m + 1)) [] none none none (fun _ h => by cases h) (by rw [qcY]; simp; omega)
 rw [qcY] at hl
 refine ⟨n', ks, hk, by rw [hl]; simp; omega, ?_⟩
 unfold yf
 refine qgT (ρ := [some (.lst [.int n']), some (.int m), some (.lst (ks.map kD)), p3, p4, p5]) rfl ?_ rfl
 unfold ye
 refine (qq (ρ' := [some (.lst [.int n]), some (.int m), some (.lst []), none, none, none]) ?_).trans ?_
 ·push_cast [immL, yS (show 0 <= 1000000 by omega), Bool.and_self]
 refine (qq (ρ' := [some (.lst [.int n']), some (.int m), some (.lst (ks.map kD)), p3, p4, p5]) ?_).trans ?_
 ·rw [uq, uh (j := n % (m + 1)) (ρ1 := [some (.lst [.int (n / (m + 1))]), some (.int m), some (.lst []), none, none, none]) ?_ b1 (by omega)]
  ·exact q
  ·push_cast [yF, uH (m := m + 1) (by omega) (by omega)]
 ·push_cast []
theorem qmZ {t : M Bool} {b : MS} {n : Nat} {ρ ρ1 ρ2 : Env} (h : t ρ = .ok (true, ρ1)) (hb : b ρ1 = .ok (.nx ρ2)) : yg t b (n + 1) ρ = yg t b n ρ2 := by
 show (match t ρ with | .ok (true, ρ1) => _ | .ok (false, ρ1) => _ | .exc x ρ' => _ | .bad => _) = _
 rw [h]
 simp only [hb]
theorem qmk {t : M Bool} {b : MS} {n : Nat} {ρ ρ1 : Env} (h : t ρ = .ok (false, ρ1)) : yg t b (n + 1) ρ = .ok (.nx ρ1) := by
 show (match t ρ with | .ok (true, ρ1) => _ | .ok (false, ρ1) => _ | .exc x ρ' => _ | .bad => _) = _
 rw [h]
theorem qml {t u : M Bool} {ρ : Env} {b : Bool} (h1 : t ρ = .ok (false, ρ)) (h2 : u ρ = .ok (b, ρ)) : tor t u ρ = .ok (b, ρ) := by
 rw [qdu, h1]
 exact h2
def iE (n : Nat) : D := .int (n : Nat)
abbrev En := List Nat × Nat × Nat
def eD (e : En) : D := .tup [.tup (e.1.map iE), .int (e.2.1 : Nat), .int (e.2.2 : Nat)]
theorem qlN (e : En) : imm (eD e) = true := by
 have : immL (e.1.map iE) = true := qaQ fun _ _ => rfl
 simp only [eD, imm, immL, this, Bool.and_self]
structure okE (ks : List Nk) (r i : Nat) (e : En) : Prop where
 len : e.1.length = i
 mo : ∀ p, p < i -> ∀ m, (nAt ks p).2.2 = some m -> e.1.getD p 0 <= m
 we : e.2.1 = uK i fun p => (nAt ks p).1 * e.1.getD p 0
 ge : e.2.2 = uK i fun p => (nAt ks p).2.1 * e.1.getD p 0
 fit : e.2.1 <= r
def exE (x : Nk) (e : En) (o : Nat) : En := (e.1 ++ [o], e.2.1 + o * x.1, e.2.2 + o * x.2.1)
theorem okE.more {ks : List Nk} {r i : Nat} {e : En} (h : okE ks r i e) {o : Nat} (hm : ∀ m, (nAt ks i).2.2 = some m -> o <= m) (hf : e.2.1 + o * (nAt ks i).1 <= r) : okE ks r (i + 1) (exE (nAt ks i) e o) := by
 have g1 : ∀ p, p < i -> (e.1 ++ [o]).getD p 0 = e.1.getD p 0 := fun p hp => by
  have : p < e.1.length := by rw [h.len]; exact hp
  simp [List.getD, List.getElem?_append_left this]
 have g2 : (e.1 ++ [o]).getD i 0 = o := by
  have : e.1.length <= i := by rw [h.len]; exact Nat.le_refl _
  simp [List.getD, List.getElem?_append_right this, h.len]
 refine ⟨by show (e.1 ++ [o]).length = i + 1; rw [lA_, h.len]; rfl, fun p hp m em => ?_, ?_, ?_, hf⟩
 ·show (e.1 ++ [o]).getD p 0 <= m
  by_cases c : p < i
  ·rw [g1 p c]; exact h.mo p c m em
  ·have : p = i := by omega
   subst this
   rw [g2]; exact hm m em
 ·show e.2.1 + o * (nAt ks i).1 = uK (i + 1) fun p => (nAt ks p).1 * (e.1 ++ [o]).getD p 0
  rw [zu, g2, Nat.mul_comm o, h.we]
  congr 1
  exact qas fun p hp => by rw [g1 p hp]
 ·show e.2.2 + o * (nAt ks i).2.1 = uK (i + 1) fun p => (nAt ks p).2.1 * (e.1 ++ [o]).getD p 0
  rw [zu, g2, Nat.mul_comm o, h.ge]
  congr 1
  exact qas fun p hp => by rw [g1 p hp]
noncomputable def whT : M Bool := (qcy (tst (d2 leD (d2 zP (dv 8) (d2 je (dv 10) (dv 3))) (dv 1))) (tor (tst (d2 isN (dv 5) (ret .non))) (tst (d2 leD (dv 10) (dv 5)))))
noncomputable def whB : MS := (qS (yo (zM 6 (um (qc (d2 zP (dv 7) (um (qc (dv 10) (ret [])))) (qc (d2 zP (dv 8) (d2 je (dv 10) (dv 3))) (qc (d2 zP (dv 9) (d2 je (dv 10) (dv 4))) (ret []))))))) (zY 10 (d2 zP (dv 10) (ret (.int 1)))))
noncomputable def qmm : MS := (qS (zY 10 (ret (.int 0))) (uS (qcy (tst (d2 leD (d2 zP (dv 8) (d2 je (dv 10) (dv 3))) (dv 1))) (tor (tst (d2 isN (dv 5) (ret .non))) (tst (d2 leD (dv 10) (dv 5))))) (qS (yo (zM 6 (um (qc (d2 zP (dv 7) (um (qc (dv 10) (ret [])))) (qc (d2 zP (dv 8) (d2 je (dv 10) (dv 3))) (qc (d2 zP (dv 9) (d2 je (dv 10) (dv 4))) (ret []))))))) (zY 10 (d2 zP (dv 10) (ret (.int 1)))))))
noncomputable def ouB : MS := (qS (vE 6 (qiP (ret []))) (qS (qa7 (wP (dv 2)) (vz 3 (qD (qk 7) (qD (qk 8) (qD (qk 9) vy)))) (qS (zY 10 (ret (.int 0))) (uS (qcy (tst (d2 leD (d2 zP (dv 8) (d2 je (dv 10) (dv 3))) (dv 1))) (tor (tst (d2 isN (dv 5) (ret .non))) (tst (d2 leD (dv 10) (dv 5))))) (qS (yo (zM 6 (um (qc (d2 zP (dv 7) (um (qc (dv 10) (ret [])))) (qc (d2 zP (dv 8) (d2 je (dv 10) (dv 3))) (qc (d2 zP (dv 9) (d2 je (dv 10) (dv 4))) (ret []))))))) (zY 10 (d2 zP (dv 10) (ret (.int 1)))))))) (qf4 2 6)))
abbrev nO (n : Nat) : Option D := some (.int (n : Nat))
abbrev mO (x : Nk) : Option D := some (mD (x.2.2.map fun m : Nat => (m : Int)))
abbrev lO (L : List En) : Option D := some (.lst (L.map eD))
section
variable {ks : List Nk} {r i : Nat} (hw : ∀ x ∈ ks, 0 < x.1 /\ x.1 <= 9 /\ x.2.1 <= 9) (hi : i < ks.length) (hr : r <= 16) (S Fd : Option D)
include hw hi hr
theorem qmn {e : En} (he : okE ks r i e) (L : List En) (o : Nat) : whT [S, nO r, Fd, nO (nAt ks i).1, nO (nAt ks i).2.1, mO (nAt ks i), lO L, some (.tup (e.1.map iE)), nO e.2.1, nO e.2.2, nO o] = .ok (decide (e.2.1 + o * (nAt ks i).1 <= r) && (match (nAt ks i).2.2 with | none => true | some m => decide (o <= m)), [S, nO r, Fd, nO (nAt ks i).1, nO (nAt ks i).2.1, mO (nAt ks i), lO L, some (.tup (e.1.map iE)), nO e.2.1, nO e.2.2, nO o]) := by
 obtain ⟨w0, w9, _⟩ := hw _ (zN hi)
 have wM : (nAt ks i).1 <= 18000000000000000000 := by omega
 generalize nAt ks i = x at *
 let ρ : Env := [S, nO r, Fd, nO x.1, nO x.2.1, mO x, lO L, some (.tup (e.1.map iE)), nO e.2.1, nO e.2.2, nO o]
 have c1 : tst (d2 leD (d2 zP (dv 8) (d2 je (dv 10) (dv 3))) (dv 1)) ρ = .ok (decide (e.2.1 + o * x.1 <= r), ρ) := zF (qh (qh rfl (qh rfl rfl (u3 o wM)) (qiT _ _)) rfl (leN _ _))
 by_cases c : e.2.1 + o * x.1 <= r
 ·rw [decide_eq_true c] at c1 |-
  refine qky c1 ?_
  obtain ⟨w, g, m⟩ := x
  cases m with
  | none => exact qlA (zF (qh (d := .bl true) rfl rfl rfl))
  | some m => exact qml (zF (qh (d := .bl false) rfl rfl rfl)) (zF (qh (a := .int (o : Nat)) (b := .int (m : Nat)) rfl rfl (leN _ _)))
 ·rw [decide_eq_false c] at c1 |-
  exact qkx c1
theorem qm0 {e : En} (he : okE ks r i e) (hl : e.1.length <= 12) {L : List En} (hL : L.length < 1000000) (o : Nat) : whB [S, nO r, Fd, nO (nAt ks i).1, nO (nAt ks i).2.1, mO (nAt ks i), lO L, some (.tup (e.1.map iE)), nO e.2.1, nO e.2.2, nO o] = .ok (.nx [S, nO r, Fd, nO (nAt ks i).1, nO (nAt ks i).2.1, mO (nAt ks i), lO (L ++ [exE (nAt ks i) e o]), some (.tup (e.1.map iE)), nO e.2.1, nO e.2.2, nO (o + 1)]) := by
 obtain ⟨w0, w9, g9⟩ := hw _ (zN hi)
 have wM : (nAt ks i).1 <= 18000000000000000000 := by omega
 have gM : (nAt ks i).2.1 <= 18000000000000000000 := by omega
 generalize nAt ks i = x at *
 let ρ : Env := [S, nO r, Fd, nO x.1, nO x.2.1, mO x, lO L, some (.tup (e.1.map iE)), nO e.2.1, nO e.2.2, nO o]
 have t1 : um (qc (dv 10) (ret [])) ρ = .ok (.tup [iE o], ρ) := by
  rw [wm, qch rfl]
  rfl
 have c1 : d2 zP (dv 7) (um (qc (dv 10) (ret []))) ρ = .ok (.tup ((e.1 ++ [o]).map iE), ρ) := by
  rw [List.map_append]
  exact qh rfl t1 (uZ (by rw [lM_]; simp only [lC_, lN_]; omega))
 have c2 : d2 zP (dv 8) (d2 je (dv 10) (dv 3)) ρ = .ok (.int ((e.2.1 + o * x.1 : Nat) : Int), ρ) := qh rfl (qh rfl rfl (u3 o wM)) (qiT _ _)
 have c3 : d2 zP (dv 9) (d2 je (dv 10) (dv 4)) ρ = .ok (.int ((e.2.2 + o * x.2.1 : Nat) : Int), ρ) := qh rfl (qh rfl rfl (u3 o gM)) (qiT _ _)
 have ap := qbF (i := 6) (ds := L.map eD) (ρ := ρ) rfl (qly c1 c2 c3) (qlN (exE x e o)) (by rw [lM_]; exact hL)
 have em : L.map eD ++ [.tup [.tup ((e.1 ++ [o]).map iE), .int ((e.2.1 + o * x.1 : Nat) : Int), .int ((e.2.2 + o * x.2.1 : Nat) : Int)]] = (L ++ [exE x e o]).map eD := by
  rw [List.map_append (f := eD)]
  rfl
 rw [em] at ap
 exact (qq ap).trans (yO (ρ := [S, nO r, Fd, nO x.1, nO x.2.1, mO x, lO (L ++ [exE x e o]), some (.tup (e.1.map iE)), nO e.2.1, nO e.2.2, nO o]) (qh (d := .int ((o + 1 : Nat) : Int)) rfl rfl (qiT o 1)))
theorem qm1 {e : En} (he : okE ks r i e) (hl : e.1.length <= 12) : ∀ (k o : Nat) (L : List En), k = r + 1 - o -> o <= r + 1 -> L.length + k < 1000000 -> ∃ (n : Nat) (L' : List En) (o' : Nat), (∀ z ∈ L', okE ks r (i + 1) z) /\ L'.length <= k /\ (o = 0 -> L' ≠ []) /\
  yg whT whB n [S, nO r, Fd, nO (nAt ks i).1, nO (nAt ks i).2.1, mO (nAt ks i), lO L, some (.tup (e.1.map iE)), nO e.2.1, nO e.2.2, nO o] = .ok (.nx [S, nO r, Fd, nO (nAt ks i).1, nO (nAt ks i).2.1, mO (nAt ks i), lO (L ++ L'), some (.tup (e.1.map iE)), nO e.2.1, nO e.2.2, nO o']) := by
 intro k
 obtain ⟨w0, w9, g9⟩ := hw _ (zN hi)
 induction k with
 | zero =>
  intro o L hk ho hL
  have : o = r + 1 := by omega
  have c : ¬ e.2.1 + o * (nAt ks i).1 <= r := by
   have : o * 1 <= o * (nAt ks i).1 := Nat.mul_le_mul_left _ w0
   omega
  have t := qmn hw hi hr S Fd he L o
  rw [decide_eq_false c, Bool.false_and] at t
  exact ⟨1, [], o, fun z hz => (nN_ hz).elim, Nat.le_refl _, fun h => by omega, by rw [List.append_nil]; exact qmk t⟩
 | succ k ih =>
  intro o L hk ho hL
  have t := qmn hw hi hr S Fd he L o
  cases c : (decide (e.2.1 + o * (nAt ks i).1 <= r) && (match (nAt ks i).2.2 with | none => true | some m => decide (o <= m))) with
  | false =>
   rw [c] at t
   refine ⟨1, [], o, fun z hz => (nN_ hz).elim, Nat.zero_le _, fun h => ?_, by rw [List.append_nil]; exact qmk t⟩
   subst h
   have h1 := he.fit
   rw [decide_eq_true (show e.2.1 + 0 * (nAt ks i).1 <= r by omega), Bool.true_and] at c
   cases em : (nAt ks i).2.2 with
   | none => rw [em] at c; cases c
   | some m => rw [em] at c; exact absurd c (by simp)
  | true =>
   rw [c] at t
   obtain ⟨c1, c2⟩ := (Bool.and_eq_true _ _).mp c
   have c1 := of_decide_eq_true c1
   have hb := qm0 hw hi hr S Fd he hl (L := L) (by omega) o
   have ho2 : o <= r := by
    have : o * 1 <= o * (nAt ks i).1 := Nat.mul_le_mul_left _ w0
    omega
   obtain ⟨n, L', o', q1, q2, q3, q4⟩ := ih (o + 1) (L ++ [exE (nAt ks i) e o]) (by omega) (by omega) (by rw [lA_, List.length_singleton]; omega)
   refine ⟨n + 1, exE (nAt ks i) e o :: L', o', fun z hz => ?_, by rw [lC_]; omega, fun _ => List.cons_ne_nil _ _, ?_⟩
   ·rcases List.mem_cons.mp hz with rfl | hz
    ·exact he.more (fun m em => by rw [em] at c2; exact of_decide_eq_true c2) c1
    ·exact q1 z hz
   ·rw [qmZ t hb, q4, aA_]
    rfl
theorem qmo : ∀ (es L : List En) (o7 o8 o9 o10 : Option D), (∀ e ∈ es, okE ks r i e) -> i <= 12 -> L.length + es.length * (r + 1) < 1000000 -> ∃ (L' : List En) (p7 p8 p9 p10 : Option D), (∀ z ∈ L', okE ks r (i + 1) z) /\ L'.length <= es.length * (r + 1) /\ (es ≠ [] -> L' ≠ []) /\
  jU (vz 3 (qD (qk 7) (qD (qk 8) (qD (qk 9) vy)))) qmm (es.map eD) [S, nO r, Fd, nO (nAt ks i).1, nO (nAt ks i).2.1, mO (nAt ks i), lO L, o7, o8, o9, o10] = .ok (.nx [S, nO r, Fd, nO (nAt ks i).1, nO (nAt ks i).2.1, mO (nAt ks i), lO (L ++ L'), p7, p8, p9, p10])
 | [], L, o7, o8, o9, o10, _, _, _ => ⟨[], o7, o8, o9, o10, fun z hz => (nN_ hz).elim, Nat.zero_le _, fun h => absurd rfl h, by rw [List.append_nil]; rfl⟩
 | e :: es, L, o7, o8, o9, o10, he, h12, hL => by
  rw [lC_, Nat.add_mul, Nat.one_mul] at hL
  have h0 := he e mS_
  obtain ⟨n, L1, o', q1, q2, q3, q4⟩ := qm1 hw hi hr S Fd h0 (by rw [h0.len]; exact h12) (r + 1) 0 L rfl (Nat.zero_le _) (by omega)
  obtain ⟨L2, p7, p8, p9, p10, w1, w2, w3, w4⟩ := qmo es (L ++ L1) (some (.tup (e.1.map iE))) (nO e.2.1) (nO e.2.2) (nO o') (fun z hz => he z (mM _ hz)) h12 (by rw [lA_]; omega)
  refine ⟨L1 ++ L2, p7, p8, p9, p10, fun z hz => (mA_.mp hz).elim (q1 z) (w1 z), ?_, fun _ h => q3 rfl (List.append_eq_nil_iff.mp h).1, ?_⟩
  ·rw [lA_, lC_, Nat.add_mul, Nat.one_mul]
   omega
  ·have st : qmm [S, nO r, Fd, nO (nAt ks i).1, nO (nAt ks i).2.1, mO (nAt ks i), lO L, some (.tup (e.1.map iE)), nO e.2.1, nO e.2.2, o10] = .ok (.nx [S, nO r, Fd, nO (nAt ks i).1, nO (nAt ks i).2.1, mO (nAt ks i), lO (L ++ L1), some (.tup (e.1.map iE)), nO e.2.1, nO e.2.2, nO o']) :=
    (qq (ρ' := [S, nO r, Fd, nO (nAt ks i).1, nO (nAt ks i).2.1, mO (nAt ks i), lO L, some (.tup (e.1.map iE)), nO e.2.1, nO e.2.2, nO 0]) rfl).trans (qbx q4 (by intro h; cases h))
   rw [mC_, zt (ρ1 := [S, nO r, Fd, nO (nAt ks i).1, nO (nAt ks i).2.1, mO (nAt ks i), lO L, some (.tup (e.1.map iE)), nO e.2.1, nO e.2.2, o10]) rfl st, <- aA_]
   exact w4
end
theorem qmp {ks : List Nk} {r : Nat} (hw : ∀ x ∈ ks, 0 < x.1 /\ x.1 <= 9 /\ x.2.1 <= 9) (hl : ks.length <= 4) (hr : r <= 16) (S : Option D) : ∀ (l : List Nk) (i : Nat) (es : List En) (o3 o4 o5 o6 o7 o8 o9 o10 : Option D), ks.drop i = l -> i <= ks.length -> (∀ e ∈ es, okE ks r i e) -> es ≠ [] -> es.length <= 17 ^ i ->
  ∃ (es' : List En) (p3 p4 p5 p6 p7 p8 p9 p10 : Option D), (∀ e ∈ es', okE ks r ks.length e) /\ es' ≠ [] /\ es'.length <= 83521 /\ jU (vz 3 (qD (qk 3) (qD (qk 4) (qD (qk 5) vy)))) ouB (l.map tK) [S, nO r, lO es, o3, o4, o5, o6, o7, o8, o9, o10] = .ok (.nx [S, nO r, lO es', p3, p4, p5, p6, p7, p8, p9, p10])
 | [], i, es, o3, o4, o5, o6, o7, o8, o9, o10, hd, hil, he, hne, hlen => by
  have h1 : ks.length <= i := List.drop_eq_nil_iff.mp hd
  have e : i = ks.length := by omega
  have : 17 ^ i <= 17 ^ 4 := Nat.pow_le_pow_right (by decide) (by omega)
  subst e
  exact ⟨es, o3, o4, o5, o6, o7, o8, o9, o10, he, hne, Nat.le_trans hlen this, rfl⟩
 | x :: l, i, es, o3, o4, o5, o6, o7, o8, o9, o10, hd, hil, he, hne, hlen => by
  have hi : i < ks.length := by
   refine Nat.lt_of_not_le fun h => ?_
   rw [List.drop_eq_nil_iff.mpr h] at hd
   cases hd
  rw [List.drop_eq_getElem_cons hi] at hd
  have ex : nAt ks i = x := by
   have h1 := yY hi
   rw [gG hi] at h1
   rw [<- Option.some.inj h1]
   exact (List.cons.inj hd).1
  have h17 : 17 ^ i <= 17 ^ 3 := Nat.pow_le_pow_right (by decide) (by omega)
  have hm : es.length * (r + 1) <= 17 ^ i * 17 := Nat.mul_le_mul hlen (by omega)
  have hm2 : 17 ^ i * 17 <= 17 ^ 3 * 17 := Nat.mul_le_mul_right _ h17
  have h3 : (17 : Nat) ^ 3 * 17 = 83521 := by decide
  obtain ⟨L, p7, p8, p9, p10, q1, q2, q3, q4⟩ := qmo hw hi hr S (lO es) es [] o7 o8 o9 o10 he (by omega) (by rw [lN_]; omega)
  rw [ex] at q4
  obtain ⟨es', z3, z4, z5, z6, z7, z8, z9, z10, w1, w2, w3, w4⟩ := qmp hw hl hr S l (i + 1) L (nO x.1) (nO x.2.1) (mO x) none p7 p8 p9 p10 (List.cons.inj hd).2 (by omega) q1 (q3 hne) (by rw [Nat.pow_succ]; omega)
  refine ⟨es', z3, z4, z5, z6, z7, z8, z9, z10, w1, w2, w3, ?_⟩
  have st : ouB [S, nO r, lO es, nO x.1, nO x.2.1, mO x, o6, o7, o8, o9, o10] = .ok (.nx [S, nO r, lO L, nO x.1, nO x.2.1, mO x, none, p7, p8, p9, p10]) := by
   refine (qq (ρ' := [S, nO r, lO es, nO x.1, nO x.2.1, mO x, lO [], o7, o8, o9, o10]) rfl).trans ?_
   refine (qq (ρ' := [S, nO r, lO es, nO x.1, nO x.2.1, mO x, lO L, p7, p8, p9, p10]) ?_).trans rfl
   exact q4
  rw [mC_, zt (ρ1 := [S, nO r, lO es, nO x.1, nO x.2.1, mO x, o6, o7, o8, o9, o10]) rfl st]
  exact w4
theorem qgn {ks : List Nk} {r : Nat} (hw : ∀ x ∈ ks, 0 < x.1 /\ x.1 <= 9 /\ x.2.1 <= 9) (hl : ks.length <= 4) (hr : r <= 16) : ∃ es : List En, (∀ e ∈ es, okE ks r ks.length e) /\ es ≠ [] /\ es.length <= 83521 /\ yd [.tup (ks.map tK), .int (r : Nat)] = .ok (.lst (es.map eD)) := by
 obtain ⟨es, p3, p4, p5, p6, p7, p8, p9, p10, h1, h2, h3, h4⟩ := qmp hw hl hr (some (.tup (ks.map tK))) ks 0 [([], 0, 0)] none none none none none none none none rfl (Nat.zero_le _) (fun e he => by
  rw [List.mem_singleton] at he
  subst he
  exact ⟨rfl, fun p hp => absurd hp (Nat.not_lt_zero _), rfl, rfl, Nat.zero_le _⟩) (List.cons_ne_nil _ _) (by decide)
 refine ⟨es, h1, h2, h3, ?_⟩
 unfold yd y3
 refine ug rfl ⟨[some (.tup (ks.map tK)), nO r, lO es, p3, p4, p5, p6, p7, p8, p9, p10], ?_⟩
 refine (qq (ρ' := [some (.tup (ks.map tK)), nO r, lO [([], 0, 0)], none, none, none, none, none, none, none, none]) rfl).trans ?_
 refine (qq (ρ' := [some (.tup (ks.map tK)), nO r, lO es, p3, p4, p5, p6, p7, p8, p9, p10]) ?_).trans rfl
 exact h4
theorem qfd {ks : List Nk} {p q : Nat} {y : Nk} (hp : p < ks.length) : nAt (ks.set p y) q = if q = p then y else nAt ks q := by
 unfold nAt
 by_cases c : q = p
 ·subst c
  rw [if_pos rfl]
  simp [List.getD, hp]
 ·rw [if_neg c]
  have : p ≠ q := fun h => c h.symm
  simp [List.getD, List.getElem?_set, this]
theorem qkF {ks : List Nk} (hw : ∀ x ∈ ks, 0 < x.1) {r q : Nat} {u : Int} (hq : q < ks.length) (h : qcn ks q r u = false) {e : En} (he : okE ks r ks.length e) (hx : 0 < e.1.getD q 0) : (e.2.2 : Int) < u := by
 let y : Nat -> Nat := fun p => if p = q then e.1.getD q 0 - 1 else e.1.getD p 0
 have yq : y q = e.1.getD q 0 - 1 := if_pos rfl
 have yn : ∀ p, p ≠ q -> y p = e.1.getD p 0 := fun p hp => if_neg hp
 have hl : (zH ks q).length = ks.length := lS_
 have nq : nAt (zH ks q) q = wO (nAt ks q) := by unfold zH; rw [qfd hq, if_pos rfl]
 have nn : ∀ p, p ≠ q -> nAt (zH ks q) p = nAt ks p := fun p hp => by unfold zH; rw [qfd hq, if_neg hp]
 have hwl : ∀ x ∈ zH ks q, 0 < x.1 := yA (P := fun a _ => 0 < a) hq hw
 have hy : okY (zH ks q) y := fun p hp m em => by
  rw [hl] at hp
  by_cases c : p = q
  ·subst c
   rw [nq] at em
   obtain ⟨m0, e0, e1⟩ := Option.map_eq_some_iff.mp (show (nAt ks p).2.2.map (· - 1) = some m from em)
   have := he.mo p hp m0 e0
   rw [yq]
   omega
  ·rw [yn p c]
   rw [nn p c] at em
   exact he.mo p hp m em
 have hW : uK ks.length (fun p => (nAt ks p).1 * e.1.getD p 0) = wY (zH ks q) y + (nAt ks q).1 := by
  unfold wY
  rw [hl]
  refine (qaY (p := q) ?_ (fun p hp => ?_) ks.length).1 hq
  ·rw [nq, yq]
   show _ = (nAt ks q).1 * _ + _
   obtain ⟨z, hz⟩ : ∃ z, e.1.getD q 0 = z + 1 := ⟨e.1.getD q 0 - 1, by omega⟩
   rw [hz, Nat.add_sub_cancel, Nat.mul_add, Nat.mul_one]
  ·rw [nn p hp, yn p hp]
 have hG : uK ks.length (fun p => (nAt ks p).2.1 * e.1.getD p 0) = gY (zH ks q) y + (nAt ks q).2.1 := by
  unfold gY
  rw [hl]
  refine (qaY (p := q) ?_ (fun p hp => ?_) ks.length).1 hq
  ·rw [nq, yq]
   show _ = (nAt ks q).2.1 * _ + _
   obtain ⟨z, hz⟩ : ∃ z, e.1.getD q 0 = z + 1 := ⟨e.1.getD q 0 - 1, by omega⟩
   rw [hz, Nat.add_sub_cancel, Nat.mul_add, Nat.mul_one]
  ·rw [nn p hp, yn p hp]
 have f1 := he.fit
 rw [he.we, hW] at f1
 rw [he.ge, hG]
 have hb : gY (zH ks q) y <= qbM (zH ks q) (r - (nAt ks q).1) := by
  have := qmV hwl hy (r := r - (nAt ks q).1) (by omega)
  have hpos : 0 < (swN (zH ks q) (r - (nAt ks q).1)).2 := by
   obtain ⟨a1, a2⟩ := qe5 ((zH ks q).zip (shs (zH ks q) (r - (nAt ks q).1))) (0, 1) (qe4 hwl _) Nat.one_pos
   exact a1
  exact (Nat.le_div_iff_mul_le hpos).mpr this
 have ht : j6 (nAt ks q) = true := by
  unfold j6
  cases em : (nAt ks q).2.2 with
  | none => rfl
  | some m =>
   have := he.mo q hq m em
   exact decide_eq_true (by omega)
 unfold qcn at h
 rw [ht, decide_eq_true (show (nAt ks q).1 <= r by omega), Bool.true_and, Bool.true_and] at h
 have := of_decide_eq_false h
 omega
theorem qfe {a b : Nat} (h : b <= a) : qae (.int (a : Nat)) (.int (b : Nat)) = some (.int ((a - b : Nat) : Int)) := by
 rw [uY]
 congr 2
 omega
theorem qa2 {ks : List Nk} (hw : ∀ x ∈ ks, 0 < x.1) (hg : ∀ x ∈ ks, x.2.1 <= Mx) (hl : ks.length <= 12) (hp : qW ks <= Mx) {p : Nat} (hpl : p < ks.length) (R : Nat) (u : Int) : jP [.tup (ks.map tK), .int (R : Nat), .int u, .int (p : Nat)] = .ok (.bl (!qcn ks p R u)) := by
 let T : Option D := some (.tup (ks.map tK))
 let U0 : Option D := some (.int u)
 let ρ : Env := [T, nO R, U0, nO p, nO (nAt ks p).1, nO (nAt ks p).2.1, mO (nAt ks p), none]
 have e0 : qhB (d2 ixD (dv 0) (dv 3)) (vz 3 (qD (qk 4) (qD (qk 5) (qD (qk 6) vy)))) [T, nO R, U0, nO p, none, none, none, none] = .ok (.nx ρ) := by
  rw [qev, qh (F := ixD) (f := dv 0) (g := dv 3) rfl rfl (qdG hpl)]
  rfl
 have c1 : tst (d2 eqB (dv 6) (ret (.int 0))) ρ = .ok (!j6 (nAt ks p), ρ) := by
  refine zF (qh (a := mD ((nAt ks p).2.2.map fun m : Nat => (m : Int))) rfl rfl ?_)
  unfold j6
  cases em : (nAt ks p).2.2 with
  | none => rfl
  | some m =>
   show eqB (.int (m : Nat)) (.int 0) = some (.bl (!decide (0 < m)))
   rw [wy]
   congr 2
   rw [<- decide_not, decide_eq_decide]
   omega
 have c2 : tst (d2 gtD (dv 4) (dv 1)) ρ = .ok (!decide ((nAt ks p).1 <= R), ρ) := zF (qh rfl rfl (gtN _ _))
 unfold jP
 cases ht : j6 (nAt ks p) with
 | false =>
  rw [ht] at c1
  refine ug rfl ⟨ρ, ?_⟩
  unfold yx qcn
  rw [ht]
  exact (qq e0).trans (wB ((qlz (qlA c1)).trans rfl))
 | true =>
  rw [ht] at c1
  by_cases hR : (nAt ks p).1 <= R
  ·rw [decide_eq_true hR] at c2
   let ρ2 : Env := [T, nO R, U0, nO p, nO (nAt ks p).1, nO (nAt ks p).2.1, mO (nAt ks p), some (tK (wO (nAt ks p)))]
   have e2 : zY 7 (um (qc (dv 4) (qc (dv 5) (qc (dif (tst (d2 isN (dv 6) (ret .non))) (ret .non) (d2 qae (dv 6) (ret (.int 1)))) (ret []))))) ρ = .ok (.nx ρ2) := by
    have d3 : dif (tst (d2 isN (dv 6) (ret .non))) (ret .non) (d2 qae (dv 6) (ret (.int 1))) ρ = .ok (mD ((wO (nAt ks p)).2.2.map fun m : Nat => (m : Int)), ρ) := by
     have i1 : tst (d2 isN (dv 6) (ret .non)) ρ = .ok (yM (mD ((nAt ks p).2.2.map fun m : Nat => (m : Int))), ρ) := zF (qh rfl rfl (qcW _))
     have i2 : d2 qae (dv 6) (ret (.int 1)) ρ = (match qae (mD ((nAt ks p).2.2.map fun m : Nat => (m : Int))) (.int 1) with | some d => .ok (d, ρ) | none => .bad) := by
      rw [qkM]
      rfl
     unfold wO
     unfold j6 at ht
     cases em : (nAt ks p).2.2 with
     | none =>
      rw [em] at i1
      exact qlE i1 rfl
     | some m =>
      rw [em] at i1 i2 ht
      have hm : 0 < m := of_decide_eq_true ht
      refine qkR i1 (i2.trans ?_)
      rw [show qae (mD ((some m).map fun m : Nat => (m : Int))) (.int 1) = some (.int ((m - 1 : Nat) : Int)) from qfe hm]
      rfl
    exact yO (qly rfl rfl d3)
   have l0 : (ks.map tK).length = ks.length := lM_ _
   have k1 : qbW (ks.map tK) none (some ((p : Nat) : Int)) = (ks.map tK).take p := qc0 _ p (by omega)
   have k2 : qbW (ks.map tK) (some (((p + 1 : Nat) : Int))) none = (ks.map tK).drop (p + 1) := qc1 _ (p + 1) (by omega)
   have a1 : qeM (dv 0) (ret none) (vC (dv 3)) ρ2 = .ok (.tup ((ks.map tK).take p), ρ2) := by
    rw [<- k1]
    rfl
   have a2 : qeM (dv 0) (vC (d2 zP (dv 3) (ret (.int 1)))) (ret none) ρ2 = .ok (.tup ((ks.map tK).drop (p + 1)), ρ2) := by
    rw [<- k2]
    rfl
   have a3 : um (qc (dv 7) (ret [])) ρ2 = .ok (.tup [tK (wO (nAt ks p))], ρ2) := by
    rw [wm, qch rfl]
    rfl
   have z1 : ((ks.map tK).take p).length + [tK (wO (nAt ks p))].length <= 1000000 := by
    rw [List.length_take, l0]
    simp only [lC_, lN_]
    omega
   have z2 : ((ks.map tK).take p ++ [tK (wO (nAt ks p))]).length + ((ks.map tK).drop (p + 1)).length <= 1000000 := by
    rw [lA_, List.length_take, List.length_drop, l0]
    simp only [lC_, lN_]
    omega
   have a4 := qh (qh a1 a3 (uZ z1)) a2 (uZ z2)
   rw [qbO _ _ _ (by rw [l0]; exact hpl), <- List.map_set] at a4
   have pl : qW (zH ks p) <= Mx := by
    unfold zH
    rw [qbN ks p (wO (nAt ks p)) rfl]
    exact hp
   have wb := yQ (yA (P := fun a _ => 0 < a) hpl hw) (yA (P := fun _ b => b <= Mx) hpl hg) (by rw [zH, lS_]; exact hl) pl (R - (nAt ks p).1)
   have a5 := yN a4 (qh (F := qae) (f := dv 1) (g := dv 4) (ρ := ρ2) rfl rfl (qfe hR)) wb
   refine ug rfl ⟨ρ2, ?_⟩
   unfold yx
   refine (qq e0).trans ((qq (qkQ (qmg c1 c2))).trans ((qq e2).trans (jW (qh (qh (a := .int ((nAt ks p).2.1 : Nat)) rfl a5 (qiT _ _)) rfl ?_))))
   rw [qce]
   congr 2
   unfold qcn
   rw [ht, decide_eq_true hR, Bool.true_and, Bool.true_and, <- decide_not, decide_eq_decide]
   show ((((nAt ks p).2.1 + qbM (zH ks p) (R - (nAt ks p).1) : Nat) : Int) < u) ↔ _
   omega
  ·rw [decide_eq_false hR] at c2
   refine ug rfl ⟨ρ, ?_⟩
   unfold yx qcn
   rw [ht, decide_eq_false hR]
   exact (qq e0).trans (wB ((qlz (qml c1 c2)).trans rfl))
theorem qff {α : Type} {e : M D} {t : M Bool} {u v z f : α -> D} {p : α -> Bool} {r : Env} : ∀ (as : List α) (acc : List D) (o o' o'' : Option D), (∀ a ∈ as, t (some (u a) :: some (v a) :: some (z a) :: r) = .ok (p a, some (u a) :: some (v a) :: some (z a) :: r)) -> (∀ a ∈ as, p a = true -> e (some (u a) :: some (v a) :: some (z a) :: r) = .ok (f a, some (u a) :: some (v a) :: some (z a) :: r)) -> acc.length + as.length <= 1000000 ->
  ∃ o1 o2 o3, zb (vz 3 (qD (qk 0) (qD (qk 1) (qD (qk 2) vy)))) t e (as.map fun a => .tup [u a, v a, z a]) acc (o :: o' :: o'' :: r) = .ok (acc ++ (as.filter p).map f, o1 :: o2 :: o3 :: r)
 | [], acc, o, o', o'', _, _, _ => ⟨o, o', o'', by simp [zb]⟩
 | a :: as, acc, o, o', o'', ht, he, hl => by
  have hl' : acc.length + (as.length + 1) <= 1000000 := hl
  have h1 := ht a mS_
  have hg : vz 3 (qD (qk 0) (qD (qk 1) (qD (qk 2) vy))) (.tup [u a, v a, z a]) (o :: o' :: o'' :: r) = some (some (u a) :: some (v a) :: some (z a) :: r) := rfl
  rw [mC_]
  unfold zb
  simp only [hg, h1]
  cases hp : p a with
  | false =>
   obtain ⟨o1, o2, o3, q⟩ := qff as acc (some (u a)) (some (v a)) (some (z a)) (fun x hx => ht x (mM _ hx)) (fun x hx => he x (mM _ hx)) (by omega)
   refine ⟨o1, o2, o3, ?_⟩
   simp only [q, ft_, hp, Bool.false_eq_true, if_false]
  | true =>
   obtain ⟨o1, o2, o3, q⟩ := qff as (acc ++ [f a]) (some (u a)) (some (v a)) (some (z a)) (fun x hx => ht x (mM _ hx)) (fun x hx => he x (mM _ hx)) (by rw [lA_, List.length_singleton]; omega)
   refine ⟨o1, o2, o3, ?_⟩
   simp only [he a mS_ hp, yS (show acc.length + 1 <= 1000000 by omega), if_true, q, ft_, hp, mC_, aA_, List.singleton_append]
theorem qfg {α : Type} {e : M D} {t : M Bool} {u v z : α -> D} {xs : M (List D)} {ρ r : Env} {fr : List Nat} (as : List α) (p : α -> Bool) (f : α -> D) (hx : xs ρ = .ok (as.map fun a => .tup [u a, v a, z a], ρ)) (hr : jC 3 fr ρ = none :: none :: none :: r) (hl : as.length <= 1000000)
  (ht : ∀ a ∈ as, t (some (u a) :: some (v a) :: some (z a) :: r) = .ok (p a, some (u a) :: some (v a) :: some (z a) :: r)) (he : ∀ a ∈ as, p a = true -> e (some (u a) :: some (v a) :: some (z a) :: r) = .ok (f a, some (u a) :: some (v a) :: some (z a) :: r)) : yE 3 fr none xs (vz 3 (qD (qk 0) (qD (qk 1) (qD (qk 2) vy)))) t e ρ = .ok (.lst ((as.filter p).map f), ρ) := by
 obtain ⟨o1, o2, o3, q⟩ := qff as [] none none none ht he (by simpa using hl)
 rw [qaN, hx]
 simp only [hr, q, List.nil_append]
 rfl
theorem qgo {es : List En} (h : es ≠ []) : ∃ b : Int, qeK [.lst (es.map fun e => D.int (e.2.2 : Nat))] = some (.int b) := by
 cases es with
 | nil => exact absurd rfl h
 | cons a l =>
  have := qcZ ((a :: l).map fun e : En => ((e.2.2 : Nat) : Int))
  rw [mm_] at this
  simp only [Function.comp_def, mC_] at this
  exact ⟨_, by simp only [mC_, qeK, this]; rfl⟩
theorem qgp {f : M D} {ρ : Env} {d : D} (hf : f ρ = .ok (d, ρ)) (hi : imm d = true) : qcc f ρ = .ok (d, ρ) := by
 rw [qia, hf]
 simp only [hi, and_self, if_true]
theorem qfh : ∀ ks : List Nk, immFs (ks.map tK) = true
 | [] => rfl
 | x :: ks => by
  rw [mC_]
  have : immF (tK x) = true := by
   obtain ⟨w, g, m⟩ := x
   cases m <;> rfl
  simp only [immFs, this, qfh ks, Bool.and_self]
def qdK (ks : List Nk) (R : Nat) (u : Int) : List Nat := (List.range ks.length).filter fun p => !qcn ks p R u
section
variable {ks : List Nk} (hk : ∀ x ∈ ks, 0 < x.1 /\ x.1 <= 9 /\ x.2.1 <= 9) (hl : ks.length <= 4) (hp : qW ks <= Mx) {R : Nat} {es : List En} (he : ∀ e ∈ es, okE ks R ks.length e) (hel : es.length <= 83521)
include hk hl hp he hel
theorem qm2 (A I B b6 o8 o9 o10 o11 : Option D) (u : Int) : ∃ p8 p9 p10 p11, (qS (zY 8 (yE 1 [3, 4, 7] none (uy (qc (zq qaz (qc (dv 3) (ret []))) (ret []))) (qk 0) (tst (ql jP (qc (dv 1) (qc (dv 2) (qc (dv 3) (qc (dv 0) (ret []))))))) (dv 0))) (qS (qa7 (uy (qc (ret (.int 2)) (ret []))) (qk 9) (qS (vE 10 (qaJ zW (qc (dv 3) (qc (dv 4) (qc (dv 7) (ret [])))))) (qS (sif (tst (d2 neB (qcc (zq wd (qc (dv 10) (ret [])))) (zq wd (qc (dv 8) (ret []))))) (j8 (ret (.bl false))) qal) (yo (zM 10 (ret (.int 0))))))) (qa7 (wP (dv 8)) (qk 11) (sif (tst (d2 neB (yE 3 [7, 11] none (wP (dv 5)) (vz 3 (qD (qk 0) (qD (qk 1) (qD (qk 2) vy)))) (qcy (tst (d2 geD (dv 2) (dv 3))) (tst (d2 gtD (d2 ixD (dv 0) (dv 4)) (ret (.int 0))))) (ret (.int 1))) (qbn (ret [])))) (j8 (ret (.bl false))) qal)))) [A, I, B, some (.tup (ks.map tK)), nO R, lO es, b6, some (.int u), o8, o9, o10, o11] = .ok (.nx [A, I, B, some (.tup (ks.map tK)), nO R, lO es, b6, some (.int u), p8, p9, p10, p11]) := by
 have hw : ∀ x ∈ ks, 0 < x.1 := fun x hx => (hk x hx).1
 have hg : ∀ x ∈ ks, x.2.1 <= Mx := fun x hx => Nat.le_trans (hk x hx).2.2 (by decide)
 have hl12 : ks.length <= 12 := by omega
 let T : Option D := some (.tup (ks.map tK))
 let U0 : Option D := some (.int u)
 let Q : Option D := some (.lst ((qdK ks R u).map iE))
 let ρ0 : Env := [A, I, B, T, nO R, lO es, b6, U0, o8, o9, o10, o11]
 let ρ8 : Env := [A, I, B, T, nO R, lO es, b6, U0, Q, o9, o10, o11]
 have e8 : (zY 8 (yE 1 [3, 4, 7] none (uy (qc (zq qaz (qc (dv 3) (ret []))) (ret []))) (qk 0) (tst (ql jP (qc (dv 1) (qc (dv 2) (qc (dv 3) (qc (dv 0) (ret []))))))) (dv 0))) ρ0 = .ok (.nx ρ8) := by
  refine yO (qg1 (r := [T, nO R, U0]) (k := iE) (List.range ks.length) (fun p => !qcn ks p R u) iE ?_ rfl (by rw [lR_]; omega) (fun p hp' => ?_) fun p _ _ => rfl)
  ·have el : zq qaz (qc (dv 3) (ret [])) ρ0 = .ok (.int ((ks.length : Nat) : Int), ρ0) := qap rfl (by
    show some (D.int ((ks.map tK).length : Nat)) = _
    rw [lM_])
   rw [uh (j := ((ks.length : Nat) : Int)) (qch el) (by omega) (by omega), Int.toNat_natCast, qmf]
   rfl
  ·exact zF (cp4 rfl rfl rfl rfl (qa2 hw hg hl12 hp (mR_.mp hp') R u))
 have dl : (qdK ks R u).length <= 12 := by
  unfold qdK
  have := List.length_filter_le (fun p => !qcn ks p R u) (List.range ks.length)
  rw [lR_] at this
  omega
 have dm : ∀ q ∈ qdK ks R u, q < ks.length /\ qcn ks q R u = false := fun q hq => by
  obtain ⟨a, b⟩ := List.mem_filter.mp hq
  exact ⟨mR_.mp a, by simpa using b⟩
 have rp : wd [.lst ((qdK ks R u).map iE)] = some (.str (ju (.lst ((qdK ks R u).map iE))).shown) := qgf (w := 130) (e := 0) (fun q hq => ⟨qe1 (by
  have := (dm q hq).1
  rw [Int.natAbs_natCast]
  exact Nat.lt_of_lt_of_le this (Nat.le_trans hl (by decide))), rfl⟩) dl (by decide) (by decide)
 let ρ10 : Option D -> Option D -> Env := fun a b => [A, I, B, T, nO R, lO es, b6, U0, Q, a, b, o11]
 have turn : ∀ (a b : Option D), ∃ b', (qS (vE 10 (qaJ zW (qc (dv 3) (qc (dv 4) (qc (dv 7) (ret [])))))) (qS (sif (tst (d2 neB (qcc (zq wd (qc (dv 10) (ret [])))) (zq wd (qc (dv 8) (ret []))))) (j8 (ret (.bl false))) qal) (yo (zM 10 (ret (.int 0)))))) (ρ10 a b) = .ok (.nx (ρ10 a b')) := fun a b => by
  refine ⟨some (.lst ((qdK ks R u).map iE ++ [.int 0])), ?_⟩
  have en : qaJ zW (qc (dv 3) (qc (dv 4) (qc (dv 7) (ret [])))) (ρ10 a b) = .ok ((qdK ks R u).map iE, ρ10 a b) := by
   rw [qb8, qil (f := dv 3) (g := dv 4) (h := dv 7) (ρ := ρ10 a b) rfl rfl rfl]
   have i1 : immFs [.tup (ks.map tK), .int (R : Nat), .int u] = true := by
    simp only [immFs, immF, qfh ks, Bool.and_self]
   have i2 : immL ((qdK ks R u).map iE) = true := qaQ fun _ _ => rfl
   have f := qa1 hw hg hl12 hp R u
   have f' : zW [.tup (ks.map tK), .int (R : Nat), .int u] = .ok (.lst ((qdK ks R u).map iE)) := f
   simp only [i1, if_true, f', i2]
  refine (qq (ρ' := ρ10 a Q) (by rw [qaL, en]; rfl)).trans ?_
  refine (qq (ρ' := ρ10 a Q) (qkQ (zF (qh (qgp (qap (f := dv 10) (ρ := ρ10 a Q) rfl rp) rfl) (qap (f := dv 8) rfl rp) (qij _))))).trans ?_
  exact qbF (i := 10) (ds := (qdK ks R u).map iE) (ρ := ρ10 a Q) rfl rfl rfl (by rw [lM_]; omega)
 obtain ⟨b1, t1⟩ := turn (some (.int 0)) o10
 obtain ⟨b2, t2⟩ := turn (some (.int 1)) b1
 have step : ∀ d ∈ (qdK ks R u).map iE, (sif (tst (d2 neB (yE 3 [7, 11] none (wP (dv 5)) (vz 3 (qD (qk 0) (qD (qk 1) (qD (qk 2) vy)))) (qcy (tst (d2 geD (dv 2) (dv 3))) (tst (d2 gtD (d2 ixD (dv 0) (dv 4)) (ret (.int 0))))) (ret (.int 1))) (qbn (ret [])))) (j8 (ret (.bl false))) qal) ((ρ10 (some (.int 1)) b2).set 11 (some d)) = .ok (.nx ((ρ10 (some (.int 1)) b2).set 11 (some d))) := fun d hd => by
  obtain ⟨q, hq, rfl⟩ := mP_.mp hd
  obtain ⟨q1, q2⟩ := dm q hq
  have none' : es.filter (fun e => decide (u <= (e.2.2 : Int)) && decide (0 < e.1.getD q 0)) = [] := by
   rw [List.filter_eq_nil_iff]
   intro e hm hh
   obtain ⟨h1, h2⟩ := (Bool.and_eq_true _ _).mp hh
   have := qkF hw q1 q2 (he e hm) (of_decide_eq_true h2)
   have := of_decide_eq_true h1
   omega
  have c := qfg (ρ := [A, I, B, T, nO R, lO es, b6, U0, Q, some (.int 1), b2, some (iE q)]) (fr := [7, 11]) (r := [U0, some (iE q)]) (xs := wP (dv 5)) (t := qcy (tst (d2 geD (dv 2) (dv 3))) (tst (d2 gtD (d2 ixD (dv 0) (dv 4)) (ret (.int 0))))) (e := ret (.int 1)) (u := fun e : En => .tup (e.1.map iE)) (v := fun e => .int (e.2.1 : Nat)) (z := fun e => .int (e.2.2 : Nat)) es (fun e => decide (u <= (e.2.2 : Int)) && decide (0 < e.1.getD q 0)) (fun _ => .int 1) rfl rfl (by omega) (fun e hm => by
   have hlen := (he e hm).len
   have g1 : tst (d2 geD (dv 2) (dv 3)) [some (.tup (e.1.map iE)), some (.int (e.2.1 : Nat)), some (.int (e.2.2 : Nat)), U0, some (iE q)] = .ok (decide (u <= (e.2.2 : Int)), [some (.tup (e.1.map iE)), some (.int (e.2.1 : Nat)), some (.int (e.2.2 : Nat)), U0, some (iE q)]) := zF (qh rfl rfl (qfb _ _))
   have hq2 : q < e.1.length := by rw [hlen]; exact q1
   have g2 : tst (d2 gtD (d2 ixD (dv 0) (dv 4)) (ret (.int 0))) [some (.tup (e.1.map iE)), some (.int (e.2.1 : Nat)), some (.int (e.2.2 : Nat)), U0, some (iE q)] = .ok (decide (0 < e.1.getD q 0), [some (.tup (e.1.map iE)), some (.int (e.2.1 : Nat)), some (.int (e.2.2 : Nat)), U0, some (iE q)]) := zF (qh (qh rfl rfl (qg0 (d := iE (e.1.getD q 0)) (by
    rw [gM_, gG hq2]
    simp [List.getD, hq2]))) rfl (gt0 _))
   cases hu : decide (u <= (e.2.2 : Int)) with
   | false => rw [hu] at g1; exact qkx g1
   | true => rw [hu] at g1; exact qky g1 g2) (fun _ _ _ => rfl)
  rw [none'] at c
  exact qkQ (zF (qh c rfl rfl))
 obtain ⟨p11, e11⟩ := qbH (b := (sif (tst (d2 neB (yE 3 [7, 11] none (wP (dv 5)) (vz 3 (qD (qk 0) (qD (qk 1) (qD (qk 2) vy)))) (qcy (tst (d2 geD (dv 2) (dv 3))) (tst (d2 gtD (d2 ixD (dv 0) (dv 4)) (ret (.int 0))))) (ret (.int 1))) (qbn (ret [])))) (j8 (ret (.bl false))) qal)) (i := 11) (ρ := ρ10 (some (.int 1)) b2) (by simp [ρ10]) ((qdK ks R u).map iE) o11 step
 refine ⟨Q, some (.int 1), b2, p11, ?_⟩
 refine (qq e8).trans ((qq (ρ' := ρ10 (some (.int 1)) b2) ?_).trans e11)
 rw [uq, uh (j := 2) (ρ1 := ρ8) rfl (by decide) (by decide)]
 show jU (qk 9) _ [.int 0, .int 1] _ = _
 rw [zt (ρ1 := ρ10 (some (.int 0)) o10) rfl t1, zt (ρ1 := ρ10 (some (.int 1)) b1) rfl t2]
 rfl
end
theorem qbQ : ∀ ks : List Kd, (∀ k ∈ ks, lsK k) -> ∃ ns : List Nk, ks.map kD = ns.map tK /\ ns.length = ks.length /\ ∀ x ∈ ns, 0 < x.1 /\ x.1 <= 9 /\ x.2.1 <= 9
 | [], _ => ⟨[], rfl, rfl, fun x hx => by cases hx⟩
 | k :: ks, h => by
  obtain ⟨ns, e1, e2, e3⟩ := qbQ ks fun x hx => h x (mM _ hx)
  obtain ⟨w, g, m⟩ := k
  obtain ⟨h1, h2, h3, h4, h5⟩ := h (w, g, m) mS_
  have h1 : 1 <= w := h1
  have h2 : w <= 9 := h2
  have h3 : 0 <= g := h3
  have h4 : g <= 9 := h4
  refine ⟨(w.toNat, g.toNat, m.map Int.toNat) :: ns, ?_, by rw [lC_, lC_, e2], fun x hx => ?_⟩
  ·rw [mC_, mC_, e1]
   congr 1
   show D.tup [.int w, .int g, mD m] = D.tup [.int (w.toNat : Nat), .int (g.toNat : Nat), mD ((m.map Int.toNat).map fun m : Nat => (m : Int))]
   have a1 : ((w.toNat : Nat) : Int) = w := Int.toNat_of_nonneg (by omega)
   have a2 : ((g.toNat : Nat) : Int) = g := Int.toNat_of_nonneg (by omega)
   rw [a1, a2]
   cases m with
   | none => rfl
   | some j =>
    have a3 : ((j.toNat : Nat) : Int) = j := Int.toNat_of_nonneg (h5 j rfl).1
    show D.tup [.int w, .int g, .int j] = D.tup [.int w, .int g, .int (j.toNat : Nat)]
    rw [a3]
  ·rcases List.mem_cons.mp hx with rfl | hx
   ·exact ⟨by show 0 < w.toNat; omega, by show w.toNat <= 9; omega, by show g.toNat <= 9; omega⟩
   ·exact e3 x hx
theorem qfi : ∀ (ks : List Nk) (n : Nat), (∀ x ∈ ks, x.1 <= 9) -> ks.length <= n -> qW ks <= 9 ^ n
 | [], n, _, _ => Nat.one_le_pow n 9 (by decide)
 | x :: ks, n, h, hl => by
  rw [lC_] at hl
  obtain ⟨m, rfl⟩ : ∃ m, n = m + 1 := ⟨n - 1, by omega⟩
  rw [zj, Nat.pow_succ, Nat.mul_comm]
  exact Nat.mul_le_mul (qfi ks m (fun y hy => h y (mM _ hy)) (by omega)) (h x mS_)
theorem qdd {b : MS} {ns : List Int} (hb : ∀ (i : Int) (r : Env), 0 <= i -> r.length = 10 -> ∃ r', r'.length = 10 /\ b ([some (.fz ns), some (.int i)] ++ r) = .ok (.nx ([some (.fz ns), some (.int i)] ++ r'))) : ∀ (ds : List D) (o1 : Option D) (r : Env), r.length = 10 -> (∀ d ∈ ds, ∃ i : Int, d = .int i /\ 0 <= i) -> ∃ ρ, jU (qk 1) b ds ([some (.fz ns), o1] ++ r) = .ok (.nx ρ)
 | [], o1, r, _, _ => ⟨_, rfl⟩
 | d :: ds, o1, r, hr, h => by
  obtain ⟨i, rfl, h0⟩ := h d mS_
  obtain ⟨r', hr', e⟩ := hb i r h0 hr
  obtain ⟨ρ, q⟩ := qdd hb ds (some (.int i)) r' hr' fun y hy => h y (mM _ hy)
  exact ⟨ρ, (zt rfl e).trans q⟩
theorem qiG {b : MS} {ns : List Int} (hn : ns.length <= 63) (hb : ∀ (i : Int) (r : Env), 0 <= i -> r.length = 10 -> ∃ r', r'.length = 10 /\ b ([some (.fz ns), some (.int i)] ++ r) = .ok (.nx ([some (.fz ns), some (.int i)] ++ r'))) :
  dfn 12 1 (qS (qa7 (uy (qc (zq qb2 (qc (ret (.int 1)) (qc (zq qfE (qc (zq qaz (qc (dv 0) (ret []))) (qc (ret (.int 3)) (ret [])))) (ret [])))) (ret []))) (qk 1) b) (j8 (ret (.bl true)))) [.fz ns] = .ok (.bl true) := by
 let j : Int := if (if (3 : Int) < (ns.length : Int) then (3 : Int) else (ns.length : Int)) > 1 then (if (3 : Int) < (ns.length : Int) then (3 : Int) else (ns.length : Int)) else 1
 have hj0 : 0 <= j := by simp only [j]; split <;> split <;> omega
 have hj1 : j <= 6 := by simp only [j]; split <;> split <;> omega
 obtain ⟨ρ, q⟩ := qdd hb (qaD 0 j.toNat) none [none, none, none, none, none, none, none, none, none, none] rfl fun d hd => by
  unfold qaD at hd
  obtain ⟨k, hk, rfl⟩ := mP_.mp hd
  exact ⟨_, rfl, by omega⟩
 refine ug rfl ⟨ρ, (qq (ρ' := ρ) ?_).trans rfl⟩
 rw [uq, uh (j := j) (ρ1 := [some (.fz ns), none, none, none, none, none, none, none, none, none, none, none]) rfl hj0 (by omega)]
 exact q
theorem law_true (ns : List Int) (hn : ns.length <= 63) : qcm [.fz ns] = .ok (.bl true) := by
 unfold qcm qiy
 refine qiG hn fun i r h0 hr => ?_
 match r, hr with
 | [o2, o3, o4, o5, o6, o7, o8, o9, o10, o11], _ =>
  obtain ⟨n, eb⟩ := qkE ns i h0
  obtain ⟨n1, kd, hkd, hkl, e1⟩ := qbP n 4 (by omega) (by omega)
  obtain ⟨ks, z1, z2, hk⟩ := qbQ kd hkd
  have hl : ks.length <= 4 := by omega
  rw [z1] at e1
  have hp : qW ks <= Mx := Nat.le_trans (qfi ks 4 (fun x hx => (hk x hx).2.1) hl) (by decide)
  let A : Option D := some (.fz ns)
  let I : Option D := some (.int i)
  let T : Option D := some (.tup (ks.map tK))
  let n2 := n1 / 17
  obtain ⟨R, hR, eR⟩ : ∃ R : Nat, R <= 16 /\ n1 % 17 = (R : Int) := ⟨(n1 % 17).toNat, by omega, by omega⟩
  obtain ⟨es, he, hne, hel, eL⟩ := qgn hk hl hR
  obtain ⟨b, eB⟩ := qgo hne
  let b6 : Option D := some (.int b)
  let n3 := n2 / 5
  let n4 := n3 / 40
  let B : Option D := some (.lst [.int n4])
  let m5 : Int := if b - n2 % 5 > 0 then b - n2 % 5 else 0
  have st := qm2 hk hl hp he hel A I B b6
  obtain ⟨a8, a9, a10, a11, s1⟩ := st o8 o9 o10 o11 0
  obtain ⟨b8, b9, b10, b11, s2⟩ := st a8 a9 a10 a11 b
  obtain ⟨c8, c9, c10, c11, s3⟩ := st b8 b9 b10 b11 (b + 1)
  obtain ⟨d8, d9, d10, d11, s4⟩ := st c8 c9 c10 c11 m5
  obtain ⟨e8, e9, e10, e11, s5⟩ := st d8 d9 d10 d11 (n3 % 40)
  refine ⟨[B, T, nO R, lO es, b6, some (.int (n3 % 40)), e8, e9, e10, e11], rfl, ?_⟩
  show qS _ _ [A, I, o2, o3, o4, o5, o6, o7, o8, o9, o10, o11] = _
  refine (qq (ρ' := [A, I, some (.lst [.int n]), o3, o4, o5, o6, o7, o8, o9, o10, o11]) ?_).trans ?_
  ·push_cast [A, I, eb, immFs, immF, immL, imm, Bool.and_self]
  refine (qq (ρ' := [A, I, some (.lst [.int n2]), T, nO R, o5, o6, o7, o8, o9, o10, o11]) ?_).trans ?_
  ·push_cast [e1, uH (m := 17) (by decide) (by decide), yS (show 2 <= 1000000 by omega), eR, A, I, T, nO, n2]
   rfl
  refine (qq (ρ' := [A, I, some (.lst [.int n2]), T, nO R, lO es, o6, o7, o8, o9, o10, o11]) (yO (yN rfl rfl eL))).trans ?_
  refine (qq (ρ' := [A, I, some (.lst [.int n2]), T, nO R, lO es, b6, o7, o8, o9, o10, o11]) (yO (qap (a := .lst (es.map fun e => D.int (e.2.2 : Nat))) ?_ eB))).trans ?_
  ·have c := qfg (ρ := [A, I, some (.lst [.int n2]), T, nO R, lO es, o6, o7, o8, o9, o10, o11]) (fr := []) (r := []) (xs := wP (dv 5)) (t := ret true) (e := dv 2) (u := fun e : En => .tup (e.1.map iE)) (v := fun e => .int (e.2.1 : Nat)) (z := fun e => .int (e.2.2 : Nat)) es (fun _ => true) (fun e => .int (e.2.2 : Nat)) rfl rfl (by omega) (fun _ _ => rfl) (fun _ _ _ => rfl)
   rw [qcg] at c
   exact c
  have el : wP (qbn (qc (ret (.int 0)) (qc (dv 6) (qc (d2 zP (dv 6) (ret (.int 1))) (qc (zq qb2 (qc (ret (.int 0)) (qc (d2 qae (dv 6) (qV qu 2 (qc (ret (.int 5)) (ret [])))) (ret [])))) (qc (qV qu 2 (qc (ret (.int 40)) (ret []))) (ret []))))))) [A, I, some (.lst [.int n2]), T, nO R, lO es, b6, o7, o8, o9, o10, o11] = .ok ([.int 0, .int b, .int (b + 1), .int m5, .int (n3 % 40)], [A, I, B, T, nO R, lO es, b6, o7, o8, o9, o10, o11]) := by
   push_cast [uH (m := 5) (by decide) (by decide), uH (m := 40) (by decide) (by decide), yF, uY, qge, yS (show 5 <= 1000000 by omega), qjL, b6, B, n4, n3, m5]
  rw [uq, el]
  show jU (qk 7) _ _ _ = _
  rw [zt (ρ1 := [A, I, B, T, nO R, lO es, b6, some (.int 0), o8, o9, o10, o11]) rfl s1, zt (ρ1 := [A, I, B, T, nO R, lO es, b6, some (.int b), a8, a9, a10, a11]) rfl s2, zt (ρ1 := [A, I, B, T, nO R, lO es, b6, some (.int (b + 1)), b8, b9, b10, b11]) rfl s3, zt (ρ1 := [A, I, B, T, nO R, lO es, b6, some (.int m5), c8, c9, c10, c11]) rfl s4, zt (ρ1 := [A, I, B, T, nO R, lO es, b6, some (.int (n3 % 40)), d8, d9, d10, d11]) rfl s5]
  rfl
section
variable {P : Program} {w : World} {K : PySem.W.Frag} {mg : Str -> Option Value} {base : Heap}
variable {f : Addr} {fd : FuncData}
set_option maxHeartbeats 4000000
theorem ua : qv ["box", "many", "left", "digit"] ["box", "many"] (qe jh) := ⟨rfl, rfl, rfl, by decide +kernel, rfl, by decide +kernel, by decide +kernel⟩
section
variable (P : Program) (w : World) (K : Fr0) (mg : Str -> Option Value) (base : Heap)
abbrev Q0 : Prop := qL P w K mg base 1 "_law_take" ["box", "many"] (qgG K qu)
abbrev Q1 : Prop := qL P w K mg base 1 "weights_product" ["store"] (spD K zD)
abbrev Q2 : Prop := qL P w K mg base 2 "dearest_first" ["store"] (spD K zv)
abbrev Q3 : Prop := qL P w K mg base 1 "all_go_in" ["kind", "room"] (spD K jX)
abbrev Q4 : Prop := qL P w K mg base 2 "room_behind" ["kind", "room"] (spD K ja)
abbrev Q5 : Prop := qL P w K mg base 1 "greatest_divisor" ["one", "other"] (spD K zl)
abbrev Q6 : Prop := qL P w K mg base 2 "lowest_terms" ["top", "bottom"] (spD K zG)
abbrev Q7 : Prop := qL P w K mg base 3 "best_share" ["kind", "room"] (spD K jv)
abbrev Q8 : Prop := qL P w K mg base 1 "is_whole" ["thing"] (spD K yw)
abbrev Q9 : Prop := qL P w K mg base 2 "is_count" ["thing"] (spD K jr)
abbrev Q10 : Prop := qL P w K mg base 3 "need_count" ["thing"] (spD K yb)
abbrev Q11 : Prop := qL P w K mg base 3 "is_kind" ["thing"] (spD K y0)
abbrev Q12 : Prop := qL P w K mg base 4 "is_store" ["thing"] (spD K uj)
abbrev Q13 : Prop := qL P w K mg base 5 "need_store" ["thing"] (spD K yc)
abbrev Q14 : Prop := qL P w K mg base 6 "best_shares" ["store", "room"] (spD K jc)
abbrev Q15 : Prop := qL P w K mg base 3 "added" ["one", "other"] (spD K vn)
abbrev Q16 : Prop := qL P w K mg base 7 "share_worth" ["store", "room"] (spD K jF)
abbrev Q17 : Prop := qL P w K mg base 8 "whole_bound" ["store", "room"] (spD K jd)
abbrev Q18 : Prop := qL P w K mg base 1 "with_kind" ["store", "place", "kind"] (spD K jY)
abbrev Q19 : Prop := qL P w K mg base 1 "with_most" ["kind", "most"] (spD K jZ)
abbrev Q20 : Prop := qL P w K mg base 1 "most_left" ["kind", "times"] (spD K j4)
abbrev Q21 : Prop := qL P w K mg base 1 "is_there" ["kind"] (spD K js)
abbrev Q22 : Prop := qL P w K mg base 9 "may_be_in" ["store", "place", "room", "u"] (spD K yL)
abbrev Q23 : Prop := qL P w K mg base 2 "need_whole" ["thing"] (spD K y2)
abbrev Q24 : Prop := qL P w K mg base 10 "never_in" ["store", "room", "u"] (spD K zW)
abbrev Q25 : Prop := qL P w K mg base 9 "_law_due" ["store", "room", "u", "place"] (spD K jP)
abbrev Q26 : Prop := qL P w K mg base 1 "_law_loads" ["store", "room"] (spD K yd)
abbrev Q27 : Prop := qL P w K mg base 2 "_law_store" ["box", "most"] (qgG K yf)
abbrev Q28 : Prop := qL P w K mg base 1 "_law_box" ["script", "k"] (spD K yy)
end
theorem q0 (F : Fun K "_law_take" "_law_take" jh f fd) (m : mg "_law_take" = some (.ref f)) (T : Txt K mg) : Q0 P w K mg base := by
 refine ⟨f, fd, ?_, m, F.kp, F.binds fun _ _ _ _ _ _ us hl => match us, hl with | [_, _], _ => rfl⟩
 show wS P w K mg base CX0 1 f fd ["box", "many"] (qgG K (qaF (["box", "many", "left", "digit"] : List Str).length (["box", "many"] : List Str).length yG))
 refine qjR (N := ["box", "many", "left", "digit"]) (ps := ["box", "many"]) (k := 0) (O := [0]) (body := yG) F ua ?a ?a0 ?b
 case a => decide
 case a0 => decide
 intro cdv A outer s H E B Io S hr
 exact (qf (qea (zd qbZ qbq rfl T.b_divmod qeq (qd (qjQ (i := 0) qp) (qd (qa 1) qg))) (uM (n := 2) rfl (qE (qx (i := 2) ua.nd) (qE (qx (i := 3) ua.nd) yD))))
   (qf (qej (i := 0) (qa 2) qp)
   (qi (qH (qa 3)))))
theorem zn : qv ["store", "product", "kind"] ["store"] (qe qM) := ⟨rfl, rfl, rfl, by decide +kernel, rfl, by decide +kernel, by decide +kernel⟩
theorem q1 (F : Fun K "weights_product" "weights_product" qM f fd) (m : mg "weights_product" = some (.ref f)) (T : Txt K mg) : Q1 P w K mg base := by
 refine ⟨f, fd, ?_, m, F.kp, F.binds fun _ _ _ _ _ _ us hl => match us, hl with | [_], _ => rfl⟩
 exact qG (N := ["store", "product", "kind"]) (O := []) (body := jq) F zn (by decide) fun cdv A outer s H E B hr => (qf (qZ (i := 1) zn.nd qp)
   (qf (yW PassesOwn.never rfl (uP (qa 0)) (qx (i := 2) zn.nd) (qi (qZ (i := 1) zn.nd (qr zr qT (qa 1) (qP qz qy (qa 2) (gI T.c_WEIGHT))))))
   (qi (qH (qa 1)))))
theorem jA : qv ["store", "product", "places"] ["store"] (qe qF) := ⟨rfl, rfl, rfl, by decide +kernel, rfl, by decide +kernel, by decide +kernel⟩
theorem q2 (F : Fun K "dearest_first" "dearest_first" qF f fd) (m : mg "dearest_first" = some (.ref f)) (T : Txt K mg) {c0 Pt : Addr} (hcc : fd.code = .ref c0) (hch : PySem.W.codeHdIn K c0 Pt = true) (hlm : wT K = some (c0, Pt, ⟨67, 30, 67, 100⟩)) (C_weights_product : Q1 P w K mg base) : Q2 P w K mg base := by
 refine ⟨f, fd, ?_, m, F.kp, F.binds fun _ _ _ _ _ _ us hl => match us, hl with | [_], _ => rfl⟩
 show wS P w K mg base CX0 2 f fd ["store"] (spD K (dfn (["store", "product", "places"] : List Str).length (["store"] : List Str).length z0))
 refine qga (N := ["store", "product", "places"]) (ps := ["store"]) (k := 1) (O := []) (body := z0) F jA ?a ?b
 case a => decide
 intro A outer s H E B hr
 exact (qf (qZ (i := 1) jA.nd (dC C_weights_product hr (qd (qa 0) qg)))
   (qf (qeG (i := 2) jA.nd (qeF (fo := none) rfl (qh2 rfl T.b_enumerate (qd (qa 0) qg)) (cs ["store", "product", "places"] ["place", "kind"] 2 [] (qe qF)) (f0 [] []) (fun _ _ _ _ _ _ _ _ _ _ _ => ⟨(uM (n := 2) rfl (qE (qx (i := 0) (nd ["place", "kind"])) (qE (qx (i := 1) (nd ["place", "kind"])) yD))), (qcD (zZ qbY vY (qP qz qy (qa 1) (gI T.c_WORTH)) qp (qX _))), (qa 0)⟩)) rfl (cs ["store", "product", "places"] ["place", "kind"] 2 [] (qe qF)))
   (qi (qH (qf8 (N' := ["place", "product", "store"]) (fr := [1, 0]) (qa 2) (cs ["store", "product", "places"] ["place", "product", "store"] 1 [1, 0] (qe qF)) (f0 (nt := 0) [1, 0] []) hr rfl T.b_sorted hcc hch hlm (fun _ _ _ _ _ _ => (qr zr qT (qj3 (qP qz qy (qP qz qy (qa 2) (qa 0)) (gI T.c_WORTH))) (qr vQ uN (qa 1) (qP qz qy (qP qz qy (qa 2) (qa 0)) (gI T.c_WEIGHT))))))))))
theorem qbR : qv ["kind", "room"] ["kind", "room"] (qe ji) := ⟨rfl, rfl, rfl, by decide +kernel, rfl, by decide +kernel, by decide +kernel⟩
theorem q3 (F : Fun K "all_go_in" "all_go_in" ji f fd) (m : mg "all_go_in" = some (.ref f)) (T : Txt K mg) : Q3 P w K mg base := by
 refine ⟨f, fd, ?_, m, F.kp, F.binds fun _ _ _ _ _ _ us hl => match us, hl with | [_, _], _ => rfl⟩
 exact qG (N := ["kind", "room"]) (O := []) (body := uC) F qbR (by decide) fun cdv A outer s H E B hr => (qi (qH (qcz (vt qhl qfD (qP qz qy (qa 0) (gI T.c_MOST)) uL (qX _)) (qad (vt qhj qec (qr zr qT (qP qz qy (qa 0) (gI T.c_MOST)) (qP qz qy (qa 0) (gI T.c_WEIGHT))) (qa 1) (qX _))))))
theorem wZ : qv ["kind", "room"] ["kind", "room"] (qe zy) := ⟨rfl, rfl, rfl, by decide +kernel, rfl, by decide +kernel, by decide +kernel⟩
theorem q4 (F : Fun K "room_behind" "room_behind" zy f fd) (m : mg "room_behind" = some (.ref f)) (T : Txt K mg) (C_all_go_in : Q3 P w K mg base) : Q4 P w K mg base := by
 refine ⟨f, fd, ?_, m, F.kp, F.binds fun _ _ _ _ _ _ us hl => match us, hl with | [_, _], _ => rfl⟩
 exact qG (N := ["kind", "room"]) (O := []) (body := yH) F wZ (by decide) fun cdv A outer s H E B hr => (qi (qH (qfA (yU (dC C_all_go_in hr (qd (qa 0) (qd (qa 1) qg)))) (qr w6 u8 (qa 1) (qr zr qT (qP qz qy (qa 0) (gI T.c_MOST)) (qP qz qy (qa 0) (gI T.c_WEIGHT)))) qp)))
theorem ze : qv ["one", "other", "rest"] ["one", "other"] (qe qJ) := ⟨rfl, rfl, rfl, by decide +kernel, rfl, by decide +kernel, by decide +kernel⟩
theorem q5 (F : Fun K "greatest_divisor" "greatest_divisor" qJ f fd) (m : mg "greatest_divisor" = some (.ref f)) (T : Txt K mg) : Q5 P w K mg base := by
 refine ⟨f, fd, ?_, m, F.kp, F.binds fun _ _ _ _ _ _ us hl => match us, hl with | [_, _], _ => rfl⟩
 exact qG (N := ["one", "other", "rest"]) (O := []) (body := jb) F ze (by decide) fun cdv A outer s H E B hr => (qf (qcM PassesOwn.never (zZ qbY vY (qa 1) qp (qX _)) (qf (qZ (i := 2) ze.nd (qr w8 u9 (qa 0) (qa 1)))
   (qf (qZ (i := 0) ze.nd (qa 1))
   (qi (qZ (i := 1) ze.nd (qa 2))))))
   (qi (qH (qa 0))))
theorem ub : qv ["top", "bottom", "divisor"] ["top", "bottom"] (qe zk) := ⟨rfl, rfl, rfl, by decide +kernel, rfl, by decide +kernel, by decide +kernel⟩
theorem q6 (F : Fun K "lowest_terms" "lowest_terms" zk f fd) (m : mg "lowest_terms" = some (.ref f)) (T : Txt K mg) (C_greatest_divisor : Q5 P w K mg base) : Q6 P w K mg base := by
 refine ⟨f, fd, ?_, m, F.kp, F.binds fun _ _ _ _ _ _ us hl => match us, hl with | [_, _], _ => rfl⟩
 exact qG (N := ["top", "bottom", "divisor"]) (O := []) (body := yi) F ub (by decide) fun cdv A outer s H E B hr => (qf (qZ (i := 2) ub.nd (dC C_greatest_divisor hr (qd (qa 0) (qd (qa 1) qg))))
   (qi (qH (yk (qd (qr vQ uN (qa 0) (qa 2)) (qd (qr vQ uN (qa 1) (qa 2)) qg))))))
theorem qa3 : qv ["kind", "room"] ["kind", "room"] (qe zQ) := ⟨rfl, rfl, rfl, by decide +kernel, rfl, by decide +kernel, by decide +kernel⟩
theorem q7 (F : Fun K "best_share" "best_share" zQ f fd) (m : mg "best_share" = some (.ref f)) (T : Txt K mg) (C_all_go_in : Q3 P w K mg base) (C_lowest_terms : Q6 P w K mg base) : Q7 P w K mg base := by
 refine ⟨f, fd, ?_, m, F.kp, F.binds fun _ _ _ _ _ _ us hl => match us, hl with | [_, _], _ => rfl⟩
 exact qG (N := ["kind", "room"]) (O := []) (body := yZ) F qa3 (by decide) fun cdv A outer s H E B hr => (qi (qH (qfA (yU (dC C_all_go_in hr (qd (qa 0) (qd (qa 1) qg)))) (yk (qd (qP qz qy (qa 0) (gI T.c_MOST)) (qd qp qg))) (dC C_lowest_terms hr (qd (qa 1) (qd (qP qz qy (qa 0) (gI T.c_WEIGHT)) qg))))))
theorem qco : qv ["thing"] ["thing"] (qe jK) := ⟨rfl, rfl, rfl, by decide +kernel, rfl, by decide +kernel, by decide +kernel⟩
theorem q8 (F : Fun K "is_whole" "is_whole" jK f fd) (m : mg "is_whole" = some (.ref f)) (T : Txt K mg) : Q8 P w K mg base := by
 refine ⟨f, fd, ?_, m, F.kp, F.binds fun _ _ _ _ _ _ us hl => match us, hl with | [_], _ => rfl⟩
 exact qG (N := ["thing"]) (O := []) (body := vj) F qco (by decide) fun cdv A outer s H E B hr => (qi (qH (qcz (qcB qhG rfl T.b_isinstance rfl T.b_int qj7 (qa 0) jD) (qad (qjB (qcB qfI rfl T.b_isinstance rfl T.b_bool qhU (qa 0) jD))))))
theorem qcp : qv ["thing"] ["thing"] (qe jL) := ⟨rfl, rfl, rfl, by decide +kernel, rfl, by decide +kernel, by decide +kernel⟩
theorem q9 (F : Fun K "is_count" "is_count" jL f fd) (m : mg "is_count" = some (.ref f)) (T : Txt K mg) (C_is_whole : Q8 P w K mg base) : Q9 P w K mg base := by
 refine ⟨f, fd, ?_, m, F.kp, F.binds fun _ _ _ _ _ _ us hl => match us, hl with | [_], _ => rfl⟩
 exact qG (N := ["thing"]) (O := []) (body := vk) F qcp (by decide) fun cdv A outer s H E B hr => (qi (qH (qcz (dC C_is_whole hr (qd (qa 0) qg)) (qad (vt qhk qed (qa 0) qp (qX _))))))
theorem qa4 : qv ["thing"] ["thing"] (qe zR) := ⟨rfl, rfl, rfl, by decide +kernel, rfl, by decide +kernel, by decide +kernel⟩
theorem q10 (F : Fun K "need_count" "need_count" zR f fd) (m : mg "need_count" = some (.ref f)) (T : Txt K mg) (C_is_count : Q9 P w K mg base) : Q10 P w K mg base := by
 refine ⟨f, fd, ?_, m, F.kp, F.binds fun _ _ _ _ _ _ us hl => match us, hl with | [_], _ => rfl⟩
 exact qG (N := ["thing"]) (O := []) (body := jw) F qa4 (by decide) fun cdv A outer s H E B hr => (qi (vx (vv (yU (dC C_is_count hr (qd (qa 0) qg)))) (qi wj) zL))
theorem qdL : qv ["thing"] ["thing"] (qe yu) := ⟨rfl, rfl, rfl, by decide +kernel, rfl, by decide +kernel, by decide +kernel⟩
theorem q11 (F : Fun K "is_kind" "is_kind" yu f fd) (m : mg "is_kind" = some (.ref f)) (T : Txt K mg) (C_is_count : Q9 P w K mg base) : Q11 P w K mg base := by
 refine ⟨f, fd, ?_, m, F.kp, F.binds fun _ _ _ _ _ _ us hl => match us, hl with | [_], _ => rfl⟩
 exact qG (N := ["thing"]) (O := []) (body := wK) F qdL (by decide) fun cdv A outer s H E B hr => (qf (vx (DW.dt (qdm (vv (yU (qcB qbr rfl T.b_isinstance rfl T.b_tuple vM (qa 0) jD))) (qac (zZ (qet hr) qb7 (zd jR jS rfl T.b_len wf (qd (qa 0) qg)) qp (qX _))))) (qi (qH qbm)) zL)
   (qf (vx (DW.dt (qdm (vv (yU (dC C_is_count hr (qd (qP qz qy (qa 0) (gI T.c_WEIGHT)) qg)))) (qac (zZ (qes hr) qb6 (qP qz qy (qa 0) (gI T.c_WEIGHT)) qp (qX _))))) (qi (qH qbm)) zL)
   (qi (qH (qcz (dC C_is_count hr (qd (qP qz qy (qa 0) (gI T.c_WORTH)) qg)) (qad (qjC (vt qba vZ (qP qz qy (qa 0) (gI T.c_MOST)) uL (qX _)) (qad (dC C_is_count hr (qd (qP qz qy (qa 0) (gI T.c_MOST)) qg))))))))))
theorem qcq : qv ["thing"] ["thing"] (qe jj) := ⟨rfl, rfl, rfl, by decide +kernel, rfl, by decide +kernel, by decide +kernel⟩
theorem q12 (F : Fun K "is_store" "is_store" jj f fd) (m : mg "is_store" = some (.ref f)) (T : Txt K mg) (C_is_kind : Q11 P w K mg base) : Q12 P w K mg base := by
 refine ⟨f, fd, ?_, m, F.kp, F.binds fun _ _ _ _ _ _ us hl => match us, hl with | [_], _ => rfl⟩
 exact qG (N := ["thing"]) (O := []) (body := vm) F qcq (by decide) fun cdv A outer s H E B hr => (qf (vx (DW.dt (qdm (vv (yU (qcB qbr rfl T.b_isinstance rfl T.b_tuple vM (qa 0) jD))) (qac (zZ qbY vY (zd jR jS rfl T.b_len wf (qd (qa 0) qg)) (gI T.c_KINDS_AT_MOST) (qX _))))) (qi (qH qbm)) zL)
   (qi (qH (zd (qfL rfl) qef rfl T.b_all qj6 (qd (qaE (fo := none) rfl (uP (qa 0)) (cs ["thing"] ["part"] 1 [] (qe jj)) (f0 [] []) (fun _ _ _ _ _ _ _ _ _ _ _ => ⟨(qx (i := 0) (nd ["part"])), qgE, (dC C_is_kind hr (qd (qa 0) qg))⟩)) qg)))))
theorem qa5 : qv ["thing"] ["thing"] (qe zS) := ⟨rfl, rfl, rfl, by decide +kernel, rfl, by decide +kernel, by decide +kernel⟩
theorem q13 (F : Fun K "need_store" "need_store" zS f fd) (m : mg "need_store" = some (.ref f)) (T : Txt K mg) (C_is_store : Q12 P w K mg base) : Q13 P w K mg base := by
 refine ⟨f, fd, ?_, m, F.kp, F.binds fun _ _ _ _ _ _ us hl => match us, hl with | [_], _ => rfl⟩
 exact qG (N := ["thing"]) (O := []) (body := jx) F qa5 (by decide) fun cdv A outer s H E B hr => (qi (vx (vv (yU (dC C_is_store hr (qd (qa 0) qg)))) (qi wj) zL))
theorem zJ : qv ["store", "room", "shares", "left", "place"] ["store", "room"] (qe zA) := ⟨rfl, rfl, rfl, by decide +kernel, rfl, by decide +kernel, by decide +kernel⟩
theorem q14 (F : Fun K "best_shares" "best_shares" zA f fd) (m : mg "best_shares" = some (.ref f)) (T : Txt K mg) (C_dearest_first : Q2 P w K mg base) (C_room_behind : Q4 P w K mg base) (C_best_share : Q7 P w K mg base) (C_need_count : Q10 P w K mg base) (C_need_store : Q13 P w K mg base) : Q14 P w K mg base := by
 refine ⟨f, fd, ?_, m, F.kp, F.binds fun _ _ _ _ _ _ us hl => match us, hl with | [_, _], _ => rfl⟩
 exact qG (N := ["store", "room", "shares", "left", "place"]) (O := [2]) (body := yI) F zJ (by decide) fun cdv A outer s H E B hr => (qf (yV (dC C_need_store hr (qd (qa 0) qg)))
   (qf (yV (dC C_need_count hr (qd (qa 1) qg)))
   (qf (v7 (i := 2) zJ.nd (qki (vW (qd (gT (ns := [0, 1]) T.c_NOTHING) qg)) (zd jR jS rfl T.b_len wf (qd (qa 0) qg))))
   (qf (qZ (i := 3) zJ.nd (qa 1))
   (qf (yW PassesOwn.never rfl (uP (dC C_dearest_first hr (qd (qa 0) qg))) (qx (i := 4) zJ.nd) (qf (qej (i := 2) (dC C_best_share hr (qd (qP qz qy (qa 0) (qa 4)) (qd (qa 3) qg))) (qa 4))
   (qi (qZ (i := 3) zJ.nd (dC C_room_behind hr (qd (qP qz qy (qa 0) (qa 4)) (qd (qa 3) qg)))))))
   (qi (qH (qek (i := 2) rfl T.b_tuple vM))))))))
theorem qgq : qv ["one", "other"] ["one", "other"] (qe vh) := ⟨rfl, rfl, rfl, by decide +kernel, rfl, by decide +kernel, by decide +kernel⟩
theorem q15 (F : Fun K "added" "added" vh f fd) (m : mg "added" = some (.ref f)) (T : Txt K mg) (C_lowest_terms : Q6 P w K mg base) : Q15 P w K mg base := by
 refine ⟨f, fd, ?_, m, F.kp, F.binds fun _ _ _ _ _ _ us hl => match us, hl with | [_, _], _ => rfl⟩
 exact qG (N := ["one", "other"]) (O := []) (body := qcl) F qgq (by decide) fun cdv A outer s H E B hr => (qi (qH (dC C_lowest_terms hr (qd (qr qQ qR (qr zr qT (qP qz qy (qa 0) (gI T.c_TOP)) (qP qz qy (qa 1) (gI T.c_BOTTOM))) (qr zr qT (qP qz qy (qa 1) (gI T.c_TOP)) (qP qz qy (qa 0) (gI T.c_BOTTOM)))) (qd (qr zr qT (qP qz qy (qa 0) (gI T.c_BOTTOM)) (qP qz qy (qa 1) (gI T.c_BOTTOM))) qg)))))
theorem zK : qv ["store", "room", "total", "kind", "share"] ["store", "room"] (qe zB) := ⟨rfl, rfl, rfl, by decide +kernel, rfl, by decide +kernel, by decide +kernel⟩
theorem q16 (F : Fun K "share_worth" "share_worth" zB f fd) (m : mg "share_worth" = some (.ref f)) (T : Txt K mg) (C_best_shares : Q14 P w K mg base) (C_added : Q15 P w K mg base) : Q16 P w K mg base := by
 refine ⟨f, fd, ?_, m, F.kp, F.binds fun _ _ _ _ _ _ us hl => match us, hl with | [_, _], _ => rfl⟩
 exact qG (N := ["store", "room", "total", "kind", "share"]) (O := []) (body := yJ) F zK (by decide) fun cdv A outer s H E B hr => (qf (qZ (i := 2) zK.nd (gT (ns := [0, 1]) T.c_NOTHING))
   (qf (yW PassesOwn.never rfl (qjZ rfl T.b_zip (qd (qa 0) (qd (dC C_best_shares hr (qd (qa 0) (qd (qa 1) qg))) qg))) (uM (n := 2) rfl (qE (qx (i := 3) zK.nd) (qE (qx (i := 4) zK.nd) yD))) (qi (qZ (i := 2) zK.nd (dC C_added hr (qd (qa 2) (qd (yk (qd (qr zr qT (qP qz qy (qa 4) (gI T.c_TOP)) (qP qz qy (qa 3) (gI T.c_WORTH))) (qd (qP qz qy (qa 4) (gI T.c_BOTTOM)) qg))) qg))))))
   (qi (qH (qa 2)))))
theorem uu : qv ["store", "room", "total"] ["store", "room"] (qe zC) := ⟨rfl, rfl, rfl, by decide +kernel, rfl, by decide +kernel, by decide +kernel⟩
theorem q17 (F : Fun K "whole_bound" "whole_bound" zC f fd) (m : mg "whole_bound" = some (.ref f)) (T : Txt K mg) (C_share_worth : Q16 P w K mg base) : Q17 P w K mg base := by
 refine ⟨f, fd, ?_, m, F.kp, F.binds fun _ _ _ _ _ _ us hl => match us, hl with | [_, _], _ => rfl⟩
 exact qG (N := ["store", "room", "total"]) (O := []) (body := yK) F uu (by decide) fun cdv A outer s H E B hr => (qf (qZ (i := 2) uu.nd (dC C_share_worth hr (qd (qa 0) (qd (qa 1) qg))))
   (qi (qH (qr vQ uN (qP qz qy (qa 2) (gI T.c_TOP)) (qP qz qy (qa 2) (gI T.c_BOTTOM))))))
theorem qbS : qv ["store", "place", "kind"] ["store", "place", "kind"] (qe jk) := ⟨rfl, rfl, rfl, by decide +kernel, rfl, by decide +kernel, by decide +kernel⟩
theorem q18 (F : Fun K "with_kind" "with_kind" jk f fd) (m : mg "with_kind" = some (.ref f)) (T : Txt K mg) : Q18 P w K mg base := by
 refine ⟨f, fd, ?_, m, F.kp, F.binds fun _ _ _ _ _ _ us hl => match us, hl with | [_, _, _], _ => rfl⟩
 exact qG (N := ["store", "place", "kind"]) (O := []) (body := uD) F qbS (by decide) fun cdv A outer s H E B hr => (qi (qH (qr qQ qR (qr qQ qR (uT (qa 0) qaA (qaB (qa 1))) (yk (qd (qa 2) qg))) (uT (qa 0) (qaB (qr qQ qR (qa 1) qp)) qaA))))
theorem qbT : qv ["kind", "most"] ["kind", "most"] (qe jm) := ⟨rfl, rfl, rfl, by decide +kernel, rfl, by decide +kernel, by decide +kernel⟩
theorem q19 (F : Fun K "with_most" "with_most" jm f fd) (m : mg "with_most" = some (.ref f)) (T : Txt K mg) : Q19 P w K mg base := by
 refine ⟨f, fd, ?_, m, F.kp, F.binds fun _ _ _ _ _ _ us hl => match us, hl with | [_, _], _ => rfl⟩
 exact qG (N := ["kind", "most"]) (O := []) (body := uE) F qbT (by decide) fun cdv A outer s H E B hr => (qi (qH (yk (qd (qP qz qy (qa 0) (gI T.c_WEIGHT)) (qd (qP qz qy (qa 0) (gI T.c_WORTH)) (qd (qa 1) qg))))))
theorem qbU : qv ["kind", "times"] ["kind", "times"] (qe jn) := ⟨rfl, rfl, rfl, by decide +kernel, rfl, by decide +kernel, by decide +kernel⟩
theorem q20 (F : Fun K "most_left" "most_left" jn f fd) (m : mg "most_left" = some (.ref f)) (T : Txt K mg) : Q20 P w K mg base := by
 refine ⟨f, fd, ?_, m, F.kp, F.binds fun _ _ _ _ _ _ us hl => match us, hl with | [_, _], _ => rfl⟩
 exact qG (N := ["kind", "times"]) (O := []) (body := uF) F qbU (by decide) fun cdv A outer s H E B hr => (qi (qH (qfA (zZ qba vZ (qP qz qy (qa 0) (gI T.c_MOST)) uL (qX _)) uL (qr w6 u8 (qP qz qy (qa 0) (gI T.c_MOST)) (qa 1)))))
theorem qcr : qv ["kind"] ["kind"] (qe jM) := ⟨rfl, rfl, rfl, by decide +kernel, rfl, by decide +kernel, by decide +kernel⟩
theorem q21 (F : Fun K "is_there" "is_there" jM f fd) (m : mg "is_there" = some (.ref f)) (T : Txt K mg) : Q21 P w K mg base := by
 refine ⟨f, fd, ?_, m, F.kp, F.binds fun _ _ _ _ _ _ us hl => match us, hl with | [_], _ => rfl⟩
 exact qG (N := ["kind"]) (O := []) (body := vo) F qcr (by decide) fun cdv A outer s H E B hr => (qi (qH (qjC (vt qba vZ (qP qz qy (qa 0) (gI T.c_MOST)) uL (qX _)) (qad (vt qbY vY (qP qz qy (qa 0) (gI T.c_MOST)) qp (qX _))))))
theorem uc : qv ["store", "place", "room", "u", "kind", "left"] ["store", "place", "room", "u"] (qe jo) := ⟨rfl, rfl, rfl, by decide +kernel, rfl, by decide +kernel, by decide +kernel⟩
theorem q22 (F : Fun K "may_be_in" "may_be_in" jo f fd) (m : mg "may_be_in" = some (.ref f)) (T : Txt K mg) (C_whole_bound : Q17 P w K mg base) (C_with_kind : Q18 P w K mg base) (C_with_most : Q19 P w K mg base) (C_most_left : Q20 P w K mg base) (C_is_there : Q21 P w K mg base) : Q22 P w K mg base := by
 refine ⟨f, fd, ?_, m, F.kp, F.binds fun _ _ _ _ _ _ us hl => match us, hl with | [_, _, _, _], _ => rfl⟩
 exact qG (N := ["store", "place", "room", "u", "kind", "left"]) (O := []) (body := uG) F uc (by decide) fun cdv A outer s H E B hr => (qf (qZ (i := 4) uc.nd (qP qz qy (qa 0) (qa 1)))
   (qf (vx (DW.dt (qdm (vv (yU (dC C_is_there hr (qd (qa 4) qg)))) (qac (zZ qbY vY (qP qz qy (qa 4) (gI T.c_WEIGHT)) (qa 2) (qX _))))) (qi (qH qbm)) zL)
   (qf (qZ (i := 5) uc.nd (dC C_with_kind hr (qd (qa 0) (qd (qa 1) (qd (dC C_with_most hr (qd (qa 4) (qd (dC C_most_left hr (qd (qa 4) (qd qp qg))) qg))) qg)))))
   (qi (qH (vt qhk qed (qr qQ qR (qP qz qy (qa 4) (gI T.c_WORTH)) (dC C_whole_bound hr (qd (qa 5) (qd (qr w6 u8 (qa 2) (qP qz qy (qa 4) (gI T.c_WEIGHT))) qg)))) (qa 3) (qX _)))))))
theorem qa6 : qv ["thing"] ["thing"] (qe zT) := ⟨rfl, rfl, rfl, by decide +kernel, rfl, by decide +kernel, by decide +kernel⟩
theorem q23 (F : Fun K "need_whole" "need_whole" zT f fd) (m : mg "need_whole" = some (.ref f)) (T : Txt K mg) (C_is_whole : Q8 P w K mg base) : Q23 P w K mg base := by
 refine ⟨f, fd, ?_, m, F.kp, F.binds fun _ _ _ _ _ _ us hl => match us, hl with | [_], _ => rfl⟩
 exact qG (N := ["thing"]) (O := []) (body := jy) F qa6 (by decide) fun cdv A outer s H E B hr => (qi (vx (vv (yU (dC C_is_whole hr (qd (qa 0) qg)))) (qi wj) zL))
theorem qcs : qv ["store", "room", "u"] ["store", "room", "u"] (qe jp) := ⟨rfl, rfl, rfl, by decide +kernel, rfl, by decide +kernel, by decide +kernel⟩
theorem q24 (F : Fun K "never_in" "never_in" jp f fd) (m : mg "never_in" = some (.ref f)) (T : Txt K mg) (C_may_be_in : Q22 P w K mg base) (C_need_whole : Q23 P w K mg base) (C_need_count : Q10 P w K mg base) (C_need_store : Q13 P w K mg base) : Q24 P w K mg base := by
 refine ⟨f, fd, ?_, m, F.kp, F.binds fun _ _ _ _ _ _ us hl => match us, hl with | [_, _, _], _ => rfl⟩
 exact qG (N := ["store", "room", "u"]) (O := []) (body := vp) F qcs (by decide) fun cdv A outer s H E B hr => (qf (yV (dC C_need_store hr (qd (qa 0) qg)))
   (qf (yV (dC C_need_count hr (qd (qa 1) qg)))
   (qf (yV (dC C_need_whole hr (qd (qa 2) qg)))
   (qi (qH (qaE (fo := none) rfl (yp rfl T.b_range (qd (zd jR jS rfl T.b_len wf (qd (qa 0) qg)) qg)) (cs ["store", "room", "u"] ["place", "store", "room", "u"] 1 [0, 1, 2] (qe jp)) (f0 [0, 1, 2] []) (fun _ _ _ _ _ _ _ _ _ _ _ => ⟨(qx (i := 0) (nd ["place", "store", "room", "u"])), (qcD (vv (yU (dC C_may_be_in hr (qd (qa 1) (qd (qa 0) (qd (qa 2) (qd (qa 3) qg)))))))), (qa 0)⟩)))))))
theorem j7 : qv ["store", "room", "u", "place", "heft", "gain", "most", "fewer"] ["store", "room", "u", "place"] (qe jN) := ⟨rfl, rfl, rfl, by decide +kernel, rfl, by decide +kernel, by decide +kernel⟩
theorem q25 (F : Fun K "_law_due" "_law_due" jN f fd) (m : mg "_law_due" = some (.ref f)) (T : Txt K mg) (C_whole_bound : Q17 P w K mg base) : Q25 P w K mg base := by
 refine ⟨f, fd, ?_, m, F.kp, F.binds fun _ _ _ _ _ _ us hl => match us, hl with | [_, _, _, _], _ => rfl⟩
 exact qG (N := ["store", "room", "u", "place", "heft", "gain", "most", "fewer"]) (O := []) (body := yx) F j7 (by decide) fun cdv A outer s H E B hr => (qf (qea (qP qz qy (qa 0) (qa 3)) (uM (n := 3) rfl (qE (qx (i := 4) j7.nd) (qE (qx (i := 5) j7.nd) (qE (qx (i := 6) j7.nd) yD)))))
   (qf (vx (DW.dt (qdm (zZ (qes hr) qb6 (qa 6) qp (qX _)) (qac (zZ qbY vY (qa 4) (qa 1) (qX _))))) (qi (qH qbm)) zL)
   (qf (qZ (i := 7) j7.nd (yk (qd (qa 4) (qd (qa 5) (qd (qfA (zZ qba vZ (qa 6) uL (qX _)) uL (qr w6 u8 (qa 6) qp)) qg)))))
   (qi (qH (vt qjm qgz (qr qQ qR (qa 5) (dC C_whole_bound hr (qd (qr qQ qR (qr qQ qR (uT (qa 0) qaA (qaB (qa 3))) (yk (qd (qa 7) qg))) (uT (qa 0) (qaB (qr qQ qR (qa 3) qp)) qaA)) (qd (qr w6 u8 (qa 1) (qa 4)) qg)))) (qa 2) (qX _)))))))
theorem qB : qv ["store", "room", "found", "heft", "gain", "most", "longer", "load", "heavy", "dear", "often"] ["store", "room"] (qe zU) := ⟨rfl, rfl, rfl, by decide +kernel, rfl, by decide +kernel, by decide +kernel⟩
theorem q26 (F : Fun K "_law_loads" "_law_loads" zU f fd) (m : mg "_law_loads" = some (.ref f)) (T : Txt K mg) : Q26 P w K mg base := by
 refine ⟨f, fd, ?_, m, F.kp, F.binds fun _ _ _ _ _ _ us hl => match us, hl with | [_, _], _ => rfl⟩
 exact qG (N := ["store", "room", "found", "heft", "gain", "most", "longer", "load", "heavy", "dear", "often"]) (O := [6]) (body := y3) F qB (by decide) fun cdv A outer s H E B hr => (qf (qZ (i := 2) qB.nd (vW (qd (yk (qd (yk qg) (qd qp (qd qp qg)))) qg)))
   (qf (yW PassesOwn.never rfl (uP (qa 0)) (uM (n := 3) rfl (qE (qx (i := 3) qB.nd) (qE (qx (i := 4) qB.nd) (qE (qx (i := 5) qB.nd) yD)))) (qf (v7 (i := 6) qB.nd (qgF qg))
   (qf (yW PassesOwn.never rfl (uP (qa 2)) (uM (n := 3) rfl (qE (qx (i := 7) qB.nd) (qE (qx (i := 8) qB.nd) (qE (qx (i := 9) qB.nd) yD)))) (qf (qZ (i := 10) qB.nd qp)
   (qi (qcM PassesOwn.never (DW.dt (qgx (zZ qhj qec (qr qQ qR (qa 8) (qr zr qT (qa 10) (qa 3))) (qa 1) (qX _)) (qd8 (DW.dt (qdm (zZ qba vZ (qa 5) uL (qX _)) (qac (zZ qhj qec (qa 10) (qa 5) (qX _)))))))) (qf (yV (v6 (i := 6) (yk (qd (qr qQ qR (qa 7) (yk (qd (qa 10) qg))) (qd (qr qQ qR (qa 8) (qr zr qT (qa 10) (qa 3))) (qd (qr qQ qR (qa 9) (qr zr qT (qa 10) (qa 4))) qg))))))
   (qi (qZ (i := 10) qB.nd (qr qQ qR (qa 10) qp))))))))
   (qi (qic (i := 2) (j := 6) qB.nd)))))
   (qi (qH (qa 2)))))
theorem jH : qv ["box", "most", "found", "k", "heft", "gain"] ["box", "most"] (qe zV) := ⟨rfl, rfl, rfl, by decide +kernel, rfl, by decide +kernel, by decide +kernel⟩
theorem q27 (F : Fun K "_law_store" "_law_store" zV f fd) (m : mg "_law_store" = some (.ref f)) (T : Txt K mg) (C__law_take : Q0 P w K mg base) : Q27 P w K mg base := by
 refine ⟨f, fd, ?_, m, F.kp, F.binds fun _ _ _ _ _ _ us hl => match us, hl with | [_, _], _ => rfl⟩
 show wS P w K mg base CX0 2 f fd ["box", "most"] (qgG K (qaF (["box", "most", "found", "k", "heft", "gain"] : List Str).length (["box", "most"] : List Str).length ye))
 refine qjR (N := ["box", "most", "found", "k", "heft", "gain"]) (ps := ["box", "most"]) (k := 1) (O := [0, 2]) (body := ye) F jH ?a ?a0 ?b
 case a => decide
 case a0 => decide
 intro cdv A outer s H E B Io S hr
 exact (qf (v7 (i := 2) jH.nd (qgF qg))
   (qf (yW PassesOwn.never rfl (yp rfl T.b_range (qd (iC (i := 0) C__law_take hr (qd (qr qQ qR (qa 1) qp) qg)) qg)) (qx (i := 3) jH.nd) (qf (qj4 (i := 4) (j := 5) jH.nd (qd (qr qQ qR qp (iC (i := 0) C__law_take hr (qd qp qg))) (qd (iC (i := 0) C__law_take hr (qd qp qg)) qg)) rfl)
   (qi (yV (v6 (i := 2) (yk (qd (qa 4) (qd (qa 5) (qd (qP qz qy (vW (qd uL (qd qp (qd qp (qd qp (qd qp (qd qp (qd qp qg)))))))) (iC (i := 0) C__law_take hr (qd qp qg))) qg)))))))))
   (qi (qH (qek (i := 2) rfl T.b_tuple vM)))))
theorem zw : qv ["script", "k", "here", "number", "j", "part"] ["script", "k"] (qe jO) := ⟨rfl, rfl, rfl, by decide +kernel, rfl, by decide +kernel, by decide +kernel⟩
theorem q28 (F : Fun K "_law_box" "_law_box" jO f fd) (m : mg "_law_box" = some (.ref f)) (T : Txt K mg) : Q28 P w K mg base := by
 refine ⟨f, fd, ?_, m, F.kp, F.binds fun _ _ _ _ _ _ us hl => match us, hl with | [_, _], _ => rfl⟩
 exact qG (N := ["script", "k", "here", "number", "j", "part"]) (O := []) (body := uk) F zw (by decide) fun cdv A outer s H E B hr => (qf (qZ (i := 2) zw.nd (qr qQ qR (qr zr qT qp (qa 1)) qp))
   (qf (vx (zZ qjm qgz (qa 1) (zd jR jS rfl T.b_len wf (qd (qa 0) qg)) (qX _)) (qi (qZ (i := 2) zw.nd (qP qz qy (qa 0) (qa 1)))) zL)
   (qf (vx (zZ (qes hr) qb6 (qr w8 u9 (qa 2) qp) qp (qX _)) (qi (qH (vW (qd (qr vQ uN (qa 2) qp) qg)))) zL)
   (qf (qZ (i := 3) zw.nd qp)
   (qf (yW PassesOwn.never rfl (yp rfl T.b_range (qd qp qg)) (qx (i := 4) zw.nd) (qf (qZ (i := 5) zw.nd (qr w8 u9 (qr qQ qR (qr qQ qR (qr zr qT (qr w8 u9 (qa 2) qp) qp) (qr zr qT qp (qa 4))) qp) qp))
   (qf (qZ (i := 5) zw.nd (qr w8 u9 (qr zr qT (qa 5) (qa 5)) qp))
   (qi (qZ (i := 3) zw.nd (qr qQ qR (qr zr qT (qa 3) qp) (qr w8 u9 (qr zr qT (qa 5) (qr qQ qR (qa 5) qp)) qp)))))))
   (qi (qH (vW (qd (qa 3) qg)))))))))
theorem yR : qv ["script", "k", "box", "store", "room", "some", "best", "u", "due", "turn", "found", "place"] ["script"] (qe vi) := ⟨rfl, rfl, rfl, by decide +kernel, rfl, by decide +kernel, by decide +kernel⟩
theorem qkG (F : Fun K "law" "law" vi f fd) (T : Txt K mg) (C__law_take : Q0 P w K mg base) (C_never_in : Q24 P w K mg base) (C__law_due : Q25 P w K mg base) (C__law_loads : Q26 P w K mg base) (C__law_store : Q27 P w K mg base) (C__law_box : Q28 P w K mg base) : wS P w K mg base CX0 11 f fd ["script"] (spD K qcm) := by
 exact qG (N := ["script", "k", "box", "store", "room", "some", "best", "u", "due", "turn", "found", "place"]) (O := [2, 10]) (body := qiy) F yR (by decide) fun cdv A outer s H E B hr => (qf (yW PassesOwn.never rfl (yp rfl T.b_range (qd (zd (qbc rfl) qbp rfl T.b_max qep (qd qp (qd (zd (qdW rfl) qee rfl T.b_min qj5 (qd (zd jR jS rfl T.b_len wf (qd (qa 0) qg)) (qd qp qg))) qg))) qg)) (qx (i := 1) yR.nd) (qf (v7 (i := 2) yR.nd (nC C__law_box hr (qd (qa 0) (qd (qa 1) qg))))
   (qf (qea (yk (qd (iC (i := 2) C__law_store hr (qd qp qg)) (qd (iC (i := 2) C__law_take hr (qd qp qg)) qg))) (uM (n := 2) rfl (qE (qx (i := 3) yR.nd) (qE (qx (i := 4) yR.nd) yD))))
   (qf (qZ (i := 5) yR.nd (dC C__law_loads hr (qd (qa 3) (qd (qa 4) qg))))
   (qf (qZ (i := 6) yR.nd (zd (qeJ rfl) qdv rfl T.b_max qep (qd (qaE (fo := none) rfl (uP (qa 5)) (cs ["script", "k", "box", "store", "room", "some", "best", "u", "due", "turn", "found", "place"] ["load", "heavy", "dear"] 3 [] (qe vi)) (f0 [] [2, 10]) (fun _ _ _ _ _ _ _ _ _ _ _ => ⟨(uM (n := 3) rfl (qE (qx (i := 0) (nd ["load", "heavy", "dear"])) (qE (qx (i := 1) (nd ["load", "heavy", "dear"])) (qE (qx (i := 2) (nd ["load", "heavy", "dear"])) yD)))), qgE, (qa 2)⟩)) qg)))
   (qi (yW PassesOwn.never rfl (uP (vW (qd qp (qd (qa 6) (qd (qr qQ qR (qa 6) qp) (qd (zd (qbc rfl) qbp rfl T.b_max qep (qd qp (qd (qr w6 u8 (qa 6) (iC (i := 2) C__law_take hr (qd qp qg))) qg))) (qd (iC (i := 2) C__law_take hr (qd qp qg)) qg))))))) (qx (i := 7) yR.nd) (qf (qeG (i := 8) yR.nd (qeF (fo := none) rfl (yp rfl T.b_range (qd (zd jR jS rfl T.b_len wf (qd (qa 3) qg)) qg)) (cs ["script", "k", "box", "store", "room", "some", "best", "u", "due", "turn", "found", "place"] ["place", "store", "room", "u"] 1 [3, 4, 7] (qe vi)) (f0 [3, 4, 7] [2, 10]) (fun _ _ _ _ _ _ _ _ _ _ _ => ⟨(qx (i := 0) (nd ["place", "store", "room", "u"])), (qcD (yU (dC C__law_due hr (qd (qa 1) (qd (qa 2) (qd (qa 3) (qd (qa 0) qg))))))), (qa 0)⟩)) rfl (cs ["script", "k", "box", "store", "room", "some", "best", "u", "due", "turn", "found", "place"] ["place", "store", "room", "u"] 1 [3, 4, 7] (qe vi)))
   (qf (yW PassesOwn.never rfl (yp rfl T.b_range (qd qp qg)) (qx (i := 9) yR.nd) (qf (v7 (i := 10) yR.nd (nC C_never_in hr (qd (qa 3) (qd (qa 4) (qd (qa 7) qg)))))
   (qf (vx (zZ (qet hr) qb7 (qh9 (i := 10) (zd (qaj hr) qak rfl T.b_repr qer (qd (qa 10) qg))) (zd (qaj hr) qak rfl T.b_repr qer (qd (qa 8) qg)) (qX _)) (qi (qH qbm)) zL)
   (qi (yV (v6 (i := 10) qp))))))
   (qi (yW PassesOwn.never rfl (uP (qa 8)) (qx (i := 11) yR.nd) (qi (vx (zZ (qet hr) qb7 (qaE (fo := none) rfl (uP (qa 5)) (cs ["script", "k", "box", "store", "room", "some", "best", "u", "due", "turn", "found", "place"] ["load", "heavy", "dear", "u", "place"] 3 [7, 11] (qe vi)) (f0 [7, 11] [2, 10]) (fun _ _ _ _ _ _ _ _ _ _ _ => ⟨(uM (n := 3) rfl (qE (qx (i := 0) (nd ["load", "heavy", "dear", "u", "place"])) (qE (qx (i := 1) (nd ["load", "heavy", "dear", "u", "place"])) (qE (qx (i := 2) (nd ["load", "heavy", "dear", "u", "place"])) yD)))), (qcD (DW.dt (qgx (zZ qhk qed (qa 2) (qa 3) (qX _)) (qd8 (zZ qbY vY (qP qz qy (qa 0) (qa 4)) qp (qX _)))))), qp⟩)) (vW qg) (qX _)) (qi (qH qbm)) zL)))))))))))))
   (qi (qH qbm)))
end
theorem all_mk {l : PySem.W.OpenLaw} {w : World} {K : PySem.W.Frag} {h : Heap} {mg : Str -> Option Value} {fa f0 f1 f2 f3 f4 f5 f6 f7 f8 f9 f10 f11 f12 f13 f14 f15 f16 f17 f18 f19 f20 f21 f22 f23 f24 f25 f26 f27 f28 f29 : Addr} (X : K.In h) (G : h.Ns mainGlobals mg) (hfa : mg "law" = some (.ref fa))
  {od0 an0 od1 an1 od2 an2 od3 an3 od4 an4 od5 an5 od6 an6 od7 an7 od8 an8 od9 an9 od10 an10 od11 an11 od12 an12 od13 an13 od14 an14 od15 an15 od16 an16 od17 an17 od18 an18 od19 an19 od20 an20 od21 an21 od22 an22 od23 an23 od24 an24 od25 an25 od26 an26 od27 an27 od28 an28 od29 an29 : Option Addr} {sl0 sl1 sl2 sl3 sl4 sl5 sl6 sl7 sl8 sl9 sl10 sl11 sl12 sl13 sl14 sl15 sl16 sl17 sl18 sl19 sl20 sl21 sl22 sl23 sl24 sl25 sl26 sl27 sl28 sl29 : Array (Option Value)} {oc0 kV0 dc0 pm0 cd0 ct0 oc1 kV1 dc1 pm1 cd1 ct1 oc2 kV2 dc2 pm2 cd2 ct2 oc3 kV3 dc3 pm3 cd3 ct3 oc4 kV4 dc4 pm4 cd4 ct4 oc5 kV5 dc5 pm5 cd5 ct5 oc6 kV6 dc6 pm6 cd6 ct6 oc7 kV7 dc7 pm7 cd7 ct7 oc8 kV8 dc8 pm8 cd8 ct8 oc9 kV9 dc9 pm9 cd9 ct9 oc10 kV10 dc10 pm10 cd10 ct10 oc11 kV11 dc11 pm11 cd11 ct11 oc12 kV12 dc12 pm12 cd12 ct12 oc13 kV13 dc13 pm13 cd13 ct13 oc14 kV14 dc14 pm14 cd14 ct14 oc15 kV15 dc15 pm15 cd15 ct15 oc16 kV16 dc16 pm16 cd16 ct16 oc17 kV17 dc17 pm17 cd17 ct17 oc18 kV18 dc18 pm18 cd18 ct18 oc19 kV19 dc19 pm19 cd19 ct19 oc20 kV20 dc20 pm20 cd20 ct20 oc21 kV21 dc21 pm21 cd21 ct21 oc22 kV22 dc22 pm22 cd22 ct22 oc23 kV23 dc23 pm23 cd23 ct23 oc24 kV24 dc24 pm24 cd24 ct24 oc25 kV25 dc25 pm25 cd25 ct25 oc26 kV26 dc26 pm26 cd26 ct26 oc27 kV27 dc27 pm27 cd27 ct27 oc28 kV28 dc28 pm28 cd28 ct28 oc29 kV29 dc29 pm29 cd29 ct29 : Value} {tk_BOTTOM : Tok} {tk_KINDS_AT_MOST : Tok} {tk_MOST : Tok} {qa_NOTHING : Addr} {qd_NOTHING : Option Addr} {qi_NOTHING : Array Value} {qn_NOTHING : Nat} {qs_NOTHING : Array (Option Value)} {tk_NOTHING_0 : Tok} {tk_NOTHING_1 : Tok} {tk_TOP : Tok} {tk_WEIGHT : Tok} {tk_WORTH : Tok} {lc0 Pt : Addr} {kc1 : Value} {kc2 : Option Addr} {kvs : Array Value} {kc3 : Array (Option Value)}
  (a0 : PySem.W.nsIn K mainGlobals "_law_take" = some (some (.ref f0))) (l0 : K.lookup f0 = some ⟨oc0, od0, .func (PySem.W.fnOf "_law_take" "_law_take" (qw jh) (qt jh) (qe jh) .none kV0 dc0 pm0 an0 cd0 ct0), sl0⟩) (c0 : PySem.W.codeIn K cd0 "_law_take" = true) (k0 : PySem.W.keepIn K (.ref f0) = true)
  (a1 : PySem.W.nsIn K mainGlobals "weights_product" = some (some (.ref f1))) (l1 : K.lookup f1 = some ⟨oc1, od1, .func (PySem.W.fnOf "weights_product" "weights_product" (qw qM) (qt qM) (qe qM) .none kV1 dc1 pm1 an1 cd1 ct1), sl1⟩) (c1 : PySem.W.codeIn K cd1 "weights_product" = true) (k1 : PySem.W.keepIn K (.ref f1) = true)
  (a2 : PySem.W.nsIn K mainGlobals "dearest_first" = some (some (.ref f2))) (l2 : K.lookup f2 = some ⟨oc2, od2, .func (PySem.W.fnOf "dearest_first" "dearest_first" (qw qF) (qt qF) (qe qF) .none kV2 dc2 pm2 an2 cd2 ct2), sl2⟩) (c2 : PySem.W.codeIn K cd2 "dearest_first" = true) (k2 : PySem.W.keepIn K (.ref f2) = true)
  (a3 : PySem.W.nsIn K mainGlobals "all_go_in" = some (some (.ref f3))) (l3 : K.lookup f3 = some ⟨oc3, od3, .func (PySem.W.fnOf "all_go_in" "all_go_in" (qw ji) (qt ji) (qe ji) .none kV3 dc3 pm3 an3 cd3 ct3), sl3⟩) (c3 : PySem.W.codeIn K cd3 "all_go_in" = true) (k3 : PySem.W.keepIn K (.ref f3) = true)
  (a4 : PySem.W.nsIn K mainGlobals "room_behind" = some (some (.ref f4))) (l4 : K.lookup f4 = some ⟨oc4, od4, .func (PySem.W.fnOf "room_behind" "room_behind" (qw zy) (qt zy) (qe zy) .none kV4 dc4 pm4 an4 cd4 ct4), sl4⟩) (c4 : PySem.W.codeIn K cd4 "room_behind" = true) (k4 : PySem.W.keepIn K (.ref f4) = true)
  (a5 : PySem.W.nsIn K mainGlobals "greatest_divisor" = some (some (.ref f5))) (l5 : K.lookup f5 = some ⟨oc5, od5, .func (PySem.W.fnOf "greatest_divisor" "greatest_divisor" (qw qJ) (qt qJ) (qe qJ) .none kV5 dc5 pm5 an5 cd5 ct5), sl5⟩) (c5 : PySem.W.codeIn K cd5 "greatest_divisor" = true) (k5 : PySem.W.keepIn K (.ref f5) = true)
  (a6 : PySem.W.nsIn K mainGlobals "lowest_terms" = some (some (.ref f6))) (l6 : K.lookup f6 = some ⟨oc6, od6, .func (PySem.W.fnOf "lowest_terms" "lowest_terms" (qw zk) (qt zk) (qe zk) .none kV6 dc6 pm6 an6 cd6 ct6), sl6⟩) (c6 : PySem.W.codeIn K cd6 "lowest_terms" = true) (k6 : PySem.W.keepIn K (.ref f6) = true)
  (a7 : PySem.W.nsIn K mainGlobals "best_share" = some (some (.ref f7))) (l7 : K.lookup f7 = some ⟨oc7, od7, .func (PySem.W.fnOf "best_share" "best_share" (qw zQ) (qt zQ) (qe zQ) .none kV7 dc7 pm7 an7 cd7 ct7), sl7⟩) (c7 : PySem.W.codeIn K cd7 "best_share" = true) (k7 : PySem.W.keepIn K (.ref f7) = true)
  (a8 : PySem.W.nsIn K mainGlobals "is_whole" = some (some (.ref f8))) (l8 : K.lookup f8 = some ⟨oc8, od8, .func (PySem.W.fnOf "is_whole" "is_whole" (qw jK) (qt jK) (qe jK) .none kV8 dc8 pm8 an8 cd8 ct8), sl8⟩) (c8 : PySem.W.codeIn K cd8 "is_whole" = true) (k8 : PySem.W.keepIn K (.ref f8) = true)
  (a9 : PySem.W.nsIn K mainGlobals "is_count" = some (some (.ref f9))) (l9 : K.lookup f9 = some ⟨oc9, od9, .func (PySem.W.fnOf "is_count" "is_count" (qw jL) (qt jL) (qe jL) .none kV9 dc9 pm9 an9 cd9 ct9), sl9⟩) (c9 : PySem.W.codeIn K cd9 "is_count" = true) (k9 : PySem.W.keepIn K (.ref f9) = true)
  (a10 : PySem.W.nsIn K mainGlobals "need_count" = some (some (.ref f10))) (l10 : K.lookup f10 = some ⟨oc10, od10, .func (PySem.W.fnOf "need_count" "need_count" (qw zR) (qt zR) (qe zR) .none kV10 dc10 pm10 an10 cd10 ct10), sl10⟩) (c10 : PySem.W.codeIn K cd10 "need_count" = true) (k10 : PySem.W.keepIn K (.ref f10) = true)
  (a11 : PySem.W.nsIn K mainGlobals "is_kind" = some (some (.ref f11))) (l11 : K.lookup f11 = some ⟨oc11, od11, .func (PySem.W.fnOf "is_kind" "is_kind" (qw yu) (qt yu) (qe yu) .none kV11 dc11 pm11 an11 cd11 ct11), sl11⟩) (c11 : PySem.W.codeIn K cd11 "is_kind" = true) (k11 : PySem.W.keepIn K (.ref f11) = true)
  (a12 : PySem.W.nsIn K mainGlobals "is_store" = some (some (.ref f12))) (l12 : K.lookup f12 = some ⟨oc12, od12, .func (PySem.W.fnOf "is_store" "is_store" (qw jj) (qt jj) (qe jj) .none kV12 dc12 pm12 an12 cd12 ct12), sl12⟩) (c12 : PySem.W.codeIn K cd12 "is_store" = true) (k12 : PySem.W.keepIn K (.ref f12) = true)
  (a13 : PySem.W.nsIn K mainGlobals "need_store" = some (some (.ref f13))) (l13 : K.lookup f13 = some ⟨oc13, od13, .func (PySem.W.fnOf "need_store" "need_store" (qw zS) (qt zS) (qe zS) .none kV13 dc13 pm13 an13 cd13 ct13), sl13⟩) (c13 : PySem.W.codeIn K cd13 "need_store" = true) (k13 : PySem.W.keepIn K (.ref f13) = true)
  (a14 : PySem.W.nsIn K mainGlobals "best_shares" = some (some (.ref f14))) (l14 : K.lookup f14 = some ⟨oc14, od14, .func (PySem.W.fnOf "best_shares" "best_shares" (qw zA) (qt zA) (qe zA) .none kV14 dc14 pm14 an14 cd14 ct14), sl14⟩) (c14 : PySem.W.codeIn K cd14 "best_shares" = true) (k14 : PySem.W.keepIn K (.ref f14) = true)
  (a15 : PySem.W.nsIn K mainGlobals "added" = some (some (.ref f15))) (l15 : K.lookup f15 = some ⟨oc15, od15, .func (PySem.W.fnOf "added" "added" (qw vh) (qt vh) (qe vh) .none kV15 dc15 pm15 an15 cd15 ct15), sl15⟩) (c15 : PySem.W.codeIn K cd15 "added" = true) (k15 : PySem.W.keepIn K (.ref f15) = true)
  (a16 : PySem.W.nsIn K mainGlobals "share_worth" = some (some (.ref f16))) (l16 : K.lookup f16 = some ⟨oc16, od16, .func (PySem.W.fnOf "share_worth" "share_worth" (qw zB) (qt zB) (qe zB) .none kV16 dc16 pm16 an16 cd16 ct16), sl16⟩) (c16 : PySem.W.codeIn K cd16 "share_worth" = true) (k16 : PySem.W.keepIn K (.ref f16) = true)
  (a17 : PySem.W.nsIn K mainGlobals "whole_bound" = some (some (.ref f17))) (l17 : K.lookup f17 = some ⟨oc17, od17, .func (PySem.W.fnOf "whole_bound" "whole_bound" (qw zC) (qt zC) (qe zC) .none kV17 dc17 pm17 an17 cd17 ct17), sl17⟩) (c17 : PySem.W.codeIn K cd17 "whole_bound" = true) (k17 : PySem.W.keepIn K (.ref f17) = true)
  (a18 : PySem.W.nsIn K mainGlobals "with_kind" = some (some (.ref f18))) (l18 : K.lookup f18 = some ⟨oc18, od18, .func (PySem.W.fnOf "with_kind" "with_kind" (qw jk) (qt jk) (qe jk) .none kV18 dc18 pm18 an18 cd18 ct18), sl18⟩) (c18 : PySem.W.codeIn K cd18 "with_kind" = true) (k18 : PySem.W.keepIn K (.ref f18) = true)
  (a19 : PySem.W.nsIn K mainGlobals "with_most" = some (some (.ref f19))) (l19 : K.lookup f19 = some ⟨oc19, od19, .func (PySem.W.fnOf "with_most" "with_most" (qw jm) (qt jm) (qe jm) .none kV19 dc19 pm19 an19 cd19 ct19), sl19⟩) (c19 : PySem.W.codeIn K cd19 "with_most" = true) (k19 : PySem.W.keepIn K (.ref f19) = true)
  (a20 : PySem.W.nsIn K mainGlobals "most_left" = some (some (.ref f20))) (l20 : K.lookup f20 = some ⟨oc20, od20, .func (PySem.W.fnOf "most_left" "most_left" (qw jn) (qt jn) (qe jn) .none kV20 dc20 pm20 an20 cd20 ct20), sl20⟩) (c20 : PySem.W.codeIn K cd20 "most_left" = true) (k20 : PySem.W.keepIn K (.ref f20) = true)
  (a21 : PySem.W.nsIn K mainGlobals "is_there" = some (some (.ref f21))) (l21 : K.lookup f21 = some ⟨oc21, od21, .func (PySem.W.fnOf "is_there" "is_there" (qw jM) (qt jM) (qe jM) .none kV21 dc21 pm21 an21 cd21 ct21), sl21⟩) (c21 : PySem.W.codeIn K cd21 "is_there" = true) (k21 : PySem.W.keepIn K (.ref f21) = true)
  (a22 : PySem.W.nsIn K mainGlobals "may_be_in" = some (some (.ref f22))) (l22 : K.lookup f22 = some ⟨oc22, od22, .func (PySem.W.fnOf "may_be_in" "may_be_in" (qw jo) (qt jo) (qe jo) .none kV22 dc22 pm22 an22 cd22 ct22), sl22⟩) (c22 : PySem.W.codeIn K cd22 "may_be_in" = true) (k22 : PySem.W.keepIn K (.ref f22) = true)
  (a23 : PySem.W.nsIn K mainGlobals "need_whole" = some (some (.ref f23))) (l23 : K.lookup f23 = some ⟨oc23, od23, .func (PySem.W.fnOf "need_whole" "need_whole" (qw zT) (qt zT) (qe zT) .none kV23 dc23 pm23 an23 cd23 ct23), sl23⟩) (c23 : PySem.W.codeIn K cd23 "need_whole" = true) (k23 : PySem.W.keepIn K (.ref f23) = true)
  (a24 : PySem.W.nsIn K mainGlobals "never_in" = some (some (.ref f24))) (l24 : K.lookup f24 = some ⟨oc24, od24, .func (PySem.W.fnOf "never_in" "never_in" (qw jp) (qt jp) (qe jp) .none kV24 dc24 pm24 an24 cd24 ct24), sl24⟩) (c24 : PySem.W.codeIn K cd24 "never_in" = true) (k24 : PySem.W.keepIn K (.ref f24) = true)
  (a25 : PySem.W.nsIn K mainGlobals "_law_due" = some (some (.ref f25))) (l25 : K.lookup f25 = some ⟨oc25, od25, .func (PySem.W.fnOf "_law_due" "_law_due" (qw jN) (qt jN) (qe jN) .none kV25 dc25 pm25 an25 cd25 ct25), sl25⟩) (c25 : PySem.W.codeIn K cd25 "_law_due" = true) (k25 : PySem.W.keepIn K (.ref f25) = true)
  (a26 : PySem.W.nsIn K mainGlobals "_law_loads" = some (some (.ref f26))) (l26 : K.lookup f26 = some ⟨oc26, od26, .func (PySem.W.fnOf "_law_loads" "_law_loads" (qw zU) (qt zU) (qe zU) .none kV26 dc26 pm26 an26 cd26 ct26), sl26⟩) (c26 : PySem.W.codeIn K cd26 "_law_loads" = true) (k26 : PySem.W.keepIn K (.ref f26) = true)
  (a27 : PySem.W.nsIn K mainGlobals "_law_store" = some (some (.ref f27))) (l27 : K.lookup f27 = some ⟨oc27, od27, .func (PySem.W.fnOf "_law_store" "_law_store" (qw zV) (qt zV) (qe zV) .none kV27 dc27 pm27 an27 cd27 ct27), sl27⟩) (c27 : PySem.W.codeIn K cd27 "_law_store" = true) (k27 : PySem.W.keepIn K (.ref f27) = true)
  (a28 : PySem.W.nsIn K mainGlobals "_law_box" = some (some (.ref f28))) (l28 : K.lookup f28 = some ⟨oc28, od28, .func (PySem.W.fnOf "_law_box" "_law_box" (qw jO) (qt jO) (qe jO) .none kV28 dc28 pm28 an28 cd28 ct28), sl28⟩) (c28 : PySem.W.codeIn K cd28 "_law_box" = true) (k28 : PySem.W.keepIn K (.ref f28) = true)
  (a29 : PySem.W.nsIn K mainGlobals "law" = some (some (.ref f29))) (l29 : K.lookup f29 = some ⟨oc29, od29, .func (PySem.W.fnOf "law" "law" (qw vi) (qt vi) (qe vi) .none kV29 dc29 pm29 an29 cd29 ct29), sl29⟩) (c29 : PySem.W.codeIn K cd29 "law" = true) (k29 : PySem.W.keepIn K (.ref f29) = true)
  (zb_all : PySem.W.nsIn K mainGlobals "all" = some none)
  (zb_bool : PySem.W.nsIn K mainGlobals "bool" = some none)
  (zb_divmod : PySem.W.nsIn K mainGlobals "divmod" = some none)
  (zb_enumerate : PySem.W.nsIn K mainGlobals "enumerate" = some none)
  (zb_int : PySem.W.nsIn K mainGlobals "int" = some none)
  (zb_isinstance : PySem.W.nsIn K mainGlobals "isinstance" = some none)
  (zb_len : PySem.W.nsIn K mainGlobals "len" = some none)
  (zb_max : PySem.W.nsIn K mainGlobals "max" = some none)
  (zb_min : PySem.W.nsIn K mainGlobals "min" = some none)
  (zb_range : PySem.W.nsIn K mainGlobals "range" = some none)
  (zb_repr : PySem.W.nsIn K mainGlobals "repr" = some none)
  (zb_sorted : PySem.W.nsIn K mainGlobals "sorted" = some none)
  (zb_tuple : PySem.W.nsIn K mainGlobals "tuple" = some none)
  (zb_zip : PySem.W.nsIn K mainGlobals "zip" = some none)
  (zg_BOTTOM : PySem.W.nsIn K mainGlobals "BOTTOM" = some (some (.int 1 tk_BOTTOM)))
  (zg_KINDS_AT_MOST : PySem.W.nsIn K mainGlobals "KINDS_AT_MOST" = some (some (.int 12 tk_KINDS_AT_MOST)))
  (zg_MOST : PySem.W.nsIn K mainGlobals "MOST" = some (some (.int 2 tk_MOST)))
  (zg_NOTHING : PySem.W.nsIn K mainGlobals "NOTHING" = some (some (.ref qa_NOTHING))) (zl_NOTHING : K.lookup qa_NOTHING = some ⟨.type "tuple", qd_NOTHING, .seq qi_NOTHING qn_NOTHING, qs_NOTHING⟩) (zv_NOTHING : qi_NOTHING.toList = [.int 0 tk_NOTHING_0, .int 1 tk_NOTHING_1])
  (zg_TOP : PySem.W.nsIn K mainGlobals "TOP" = some (some (.int 0 tk_TOP)))
  (zg_WEIGHT : PySem.W.nsIn K mainGlobals "WEIGHT" = some (some (.int 0 tk_WEIGHT)))
  (zg_WORTH : PySem.W.nsIn K mainGlobals "WORTH" = some (some (.int 1 tk_WORTH)))
  (zc : cd2 = .ref lc0) (zo : K.lookup lc0 = some ⟨kc1, kc2, .fields kvs, kc3⟩) (zp : kvs[11]? = some (.ref Pt)) (zm : wT K = some (lc0, Pt, ⟨67, 30, 67, 100⟩)) (zh : PySem.W.codeHdIn K lc0 Pt = true) :
  ∃ fd : FuncData, (∀ (s : Shared) (v : Value), BindsTo s fd ⟨[v], []⟩ [("script", v)]) /\ ∀ base : Heap, K.In base -> base.Ns mainGlobals mg -> wS l.prog w K mg base CX0 11 fa fd ["script"] (spD K qcm) := by
 have e := hfa.symm.trans (PySem.W.mg_of X G a29)
 cases e
 have T : Txt K mg := ⟨PySem.W.mg_none_of X G zb_all, PySem.W.mg_none_of X G zb_bool, PySem.W.mg_none_of X G zb_divmod, PySem.W.mg_none_of X G zb_enumerate, PySem.W.mg_none_of X G zb_int, PySem.W.mg_none_of X G zb_isinstance, PySem.W.mg_none_of X G zb_len, PySem.W.mg_none_of X G zb_max, PySem.W.mg_none_of X G zb_min, PySem.W.mg_none_of X G zb_range, PySem.W.mg_none_of X G zb_repr, PySem.W.mg_none_of X G zb_sorted, PySem.W.mg_none_of X G zb_tuple, PySem.W.mg_none_of X G zb_zip, ⟨_, PySem.W.mg_of X G zg_BOTTOM⟩, ⟨_, PySem.W.mg_of X G zg_KINDS_AT_MOST⟩, ⟨_, PySem.W.mg_of X G zg_MOST⟩, ⟨_, PySem.W.mg_of X G zg_NOTHING, qlm zl_NOTHING zv_NOTHING⟩, ⟨_, PySem.W.mg_of X G zg_TOP⟩, ⟨_, PySem.W.mg_of X G zg_WEIGHT⟩, ⟨_, PySem.W.mg_of X G zg_WORTH⟩⟩
 refine ⟨PySem.W.fnOf "law" "law" (qw vi) (qt vi) (qe vi) .none kV29 dc29 pm29 an29 cd29 ct29, fun s v => .of_eq rfl, fun base hB _ => ?_⟩
 have C__law_take := q0 (P := l.prog) (w := w) (base := base) (qO (st := jh) l0 c0 k0) (PySem.W.mg_of X G a0) T
 have C_weights_product := q1 (P := l.prog) (w := w) (base := base) (qO (st := qM) l1 c1 k1) (PySem.W.mg_of X G a1) T
 have C_dearest_first := q2 (P := l.prog) (w := w) (base := base) (qO (st := qF) l2 c2 k2) (PySem.W.mg_of X G a2) T zc zh zm C_weights_product
 have C_all_go_in := q3 (P := l.prog) (w := w) (base := base) (qO (st := ji) l3 c3 k3) (PySem.W.mg_of X G a3) T
 have C_room_behind := q4 (P := l.prog) (w := w) (base := base) (qO (st := zy) l4 c4 k4) (PySem.W.mg_of X G a4) T C_all_go_in
 have C_greatest_divisor := q5 (P := l.prog) (w := w) (base := base) (qO (st := qJ) l5 c5 k5) (PySem.W.mg_of X G a5) T
 have C_lowest_terms := q6 (P := l.prog) (w := w) (base := base) (qO (st := zk) l6 c6 k6) (PySem.W.mg_of X G a6) T C_greatest_divisor
 have C_best_share := q7 (P := l.prog) (w := w) (base := base) (qO (st := zQ) l7 c7 k7) (PySem.W.mg_of X G a7) T C_all_go_in C_lowest_terms
 have C_is_whole := q8 (P := l.prog) (w := w) (base := base) (qO (st := jK) l8 c8 k8) (PySem.W.mg_of X G a8) T
 have C_is_count := q9 (P := l.prog) (w := w) (base := base) (qO (st := jL) l9 c9 k9) (PySem.W.mg_of X G a9) T C_is_whole
 have C_need_count := q10 (P := l.prog) (w := w) (base := base) (qO (st := zR) l10 c10 k10) (PySem.W.mg_of X G a10) T C_is_count
 have C_is_kind := q11 (P := l.prog) (w := w) (base := base) (qO (st := yu) l11 c11 k11) (PySem.W.mg_of X G a11) T C_is_count
 have C_is_store := q12 (P := l.prog) (w := w) (base := base) (qO (st := jj) l12 c12 k12) (PySem.W.mg_of X G a12) T C_is_kind
 have C_need_store := q13 (P := l.prog) (w := w) (base := base) (qO (st := zS) l13 c13 k13) (PySem.W.mg_of X G a13) T C_is_store
 have C_best_shares := q14 (P := l.prog) (w := w) (base := base) (qO (st := zA) l14 c14 k14) (PySem.W.mg_of X G a14) T C_dearest_first C_room_behind C_best_share C_need_count C_need_store
 have C_added := q15 (P := l.prog) (w := w) (base := base) (qO (st := vh) l15 c15 k15) (PySem.W.mg_of X G a15) T C_lowest_terms
 have C_share_worth := q16 (P := l.prog) (w := w) (base := base) (qO (st := zB) l16 c16 k16) (PySem.W.mg_of X G a16) T C_best_shares C_added
 have C_whole_bound := q17 (P := l.prog) (w := w) (base := base) (qO (st := zC) l17 c17 k17) (PySem.W.mg_of X G a17) T C_share_worth
 have C_with_kind := q18 (P := l.prog) (w := w) (base := base) (qO (st := jk) l18 c18 k18) (PySem.W.mg_of X G a18) T
 have C_with_most := q19 (P := l.prog) (w := w) (base := base) (qO (st := jm) l19 c19 k19) (PySem.W.mg_of X G a19) T
 have C_most_left := q20 (P := l.prog) (w := w) (base := base) (qO (st := jn) l20 c20 k20) (PySem.W.mg_of X G a20) T
 have C_is_there := q21 (P := l.prog) (w := w) (base := base) (qO (st := jM) l21 c21 k21) (PySem.W.mg_of X G a21) T
 have C_may_be_in := q22 (P := l.prog) (w := w) (base := base) (qO (st := jo) l22 c22 k22) (PySem.W.mg_of X G a22) T C_whole_bound C_with_kind C_with_most C_most_left C_is_there
 have C_need_whole := q23 (P := l.prog) (w := w) (base := base) (qO (st := zT) l23 c23 k23) (PySem.W.mg_of X G a23) T C_is_whole
 have C_never_in := q24 (P := l.prog) (w := w) (base := base) (qO (st := jp) l24 c24 k24) (PySem.W.mg_of X G a24) T C_may_be_in C_need_whole C_need_count C_need_store
 have C__law_due := q25 (P := l.prog) (w := w) (base := base) (qO (st := jN) l25 c25 k25) (PySem.W.mg_of X G a25) T C_whole_bound
 have C__law_loads := q26 (P := l.prog) (w := w) (base := base) (qO (st := zU) l26 c26 k26) (PySem.W.mg_of X G a26) T
 have C__law_store := q27 (P := l.prog) (w := w) (base := base) (qO (st := zV) l27 c27 k27) (PySem.W.mg_of X G a27) T C__law_take
 have C__law_box := q28 (P := l.prog) (w := w) (base := base) (qO (st := jO) l28 c28 k28) (PySem.W.mg_of X G a28) T
 exact qkG (P := l.prog) (w := w) (base := base) (qO (st := vi) l29 c29 k29) T C__law_take C_never_in C__law_due C__law_loads C__law_store C__law_box
theorem qlO {K : Fr0} {H : Hp} {a : Addr} {ns : List Int} (hO : qkI H) (hS : SqL K H a (ns.map V.int)) : qjA K H a (ns.map V.int) := by
 rcases hS with (h | h) | h
 ·rcases hO a with z | z
  ·rw [h] at z; cases z
  ·rcases z with ⟨_, _, z⟩ | ⟨_, _, z⟩ <;> (rw [h] at z; cases z)
 ·exact .inl h
 ·exact .inr h
theorem walk {l : PySem.W.OpenLaw} {q : Program} {loose : List Str} {XP : (Str -> Option Value) -> Heap -> Prop} {YP : World -> Heap -> Prop} {d : DefRec} {K : Params -> PySem.W.Frag} (hn : l.most = some 63) (hdf : d.params.defaults = [])
  (hY : ∀ (w : World) (h : Heap), YP w h -> (K w.params).In h) (hlm : ∀ (w : World) (mean : ExcName -> Option Value) (mg mb : Str -> Option Value) (h : Heap) (c Pt : Addr) (pos : Pos), Top q (PySem.W.looseW q loose) mean mg mb h -> (K w.params).In h -> wT (K w.params) = some (c, Pt, pos) -> PySem.W.CodeHd h c Pt /\ h.get? Pt = some (PySem.W.tabObj #[]) /\ (K w.params).lookup Pt = none) (hlaw : ∀ ns : List Int, ns.length <= 63 -> qcm [.fz ns] = .ok (.bl true))
  (F : ∀ (w : World) (mg : Str -> Option Value) (fa : Addr) (h : Heap), (K w.params).In h -> h.Ns mainGlobals mg -> mg d.name = some (.ref fa) ->
   ∃ fd : FuncData, (∀ (s : Shared) (u : Value), BindsTo s fd ⟨[u], []⟩ [("script", u)]) /\ ∀ base : Heap, (K w.params).In base -> base.Ns mainGlobals mg -> wS l.prog w (K w.params) mg base CX0 11 fa fd ["script"] (spD (K w.params) qcm)) :
  PySem.W.WalkO q loose XP YP l.row.toRowW d [] (fun f vs => PySem.call f vs) :=
 L2.walk_lam (n := 63) (k := 11) (x := "script") (CX := fun _ => CX0) (sp := fun w => spD (K w.params) qcm) (lm := fun w => (wT (K w.params)).map fun z => (z.1, z.2.1, z.2.2, qiK)) hn (by decide) hdf ⟨rfl, by decide, by decide, rfl⟩ hY (fun w mean mg mb h c Pt pos z T X e => by
  cases el : wT (K w.params) with
  | none => rw [el] at e; cases e
  | some p => obtain ⟨c', P', pos'⟩ := p; rw [el] at e; cases e; exact hlm w mean mg mb h _ _ _ T X el) F (fun w H a ns hl hO hT hS => by
  refine ⟨[.fz ns], fun _ => False, ⟨.ref a, [], rfl, ⟨a, rfl, qlO hO hS⟩, rfl⟩, fun c P pos e => ⟨hT c P pos qiK (by rw [e]; rfl), fun z => z⟩, ?_⟩
  rw [hlaw ns hl]
  exact fun v H' _ h => h) fun _ _ _ _ _ z => z
end Law
end L2.Sk
open PySem PySem.W PyProof.Rows
set_option maxRecDepth 100000 in
set_option maxHeartbeats 0 in
theorem PySem.Challenge.cw_sackloads_k74_never_in_holds : PySem.Challenge.rw_sackloads_k74_never_in.Holds := by
 w_on; o_law; k_head; (case hw => w_witness2)
 k_fill
 refine L2.Sk.Law.walk (l := PySem.Challenge.rw_sackloads_k74_never_in) rfl rfl (fun w h Y => by first | exact PySem.W.kIn_of Y | exact PySem.W.km_in_of Y) ?hlm0 L2.Sk.Law.law_true ?F
 case hlm0 =>
  intro w mean mg mb h c Pt pos T X e
  refine L2.Sk.lam_table T X e (d := ?d) ?e1 ?e2
  (case e1 => rfl)
  (case e2 => kernel_rfl)
 case F =>
  intro w mg fa h KX G hmg
  refine' L2.Sk.Law.all_mk KX G hmg ?a0 ?l0 ?c0 ?k0 ?a1 ?l1 ?c1 ?k1 ?a2 ?l2 ?c2 ?k2 ?a3 ?l3 ?c3 ?k3 ?a4 ?l4 ?c4 ?k4 ?a5 ?l5 ?c5 ?k5 ?a6 ?l6 ?c6 ?k6 ?a7 ?l7 ?c7 ?k7 ?a8 ?l8 ?c8 ?k8 ?a9 ?l9 ?c9 ?k9 ?a10 ?l10 ?c10 ?k10 ?a11 ?l11 ?c11 ?k11 ?a12 ?l12 ?c12 ?k12 ?a13 ?l13 ?c13 ?k13 ?a14 ?l14 ?c14 ?k14 ?a15 ?l15 ?c15 ?k15 ?a16 ?l16 ?c16 ?k16 ?a17 ?l17 ?c17 ?k17 ?a18 ?l18 ?c18 ?k18 ?a19 ?l19 ?c19 ?k19 ?a20 ?l20 ?c20 ?k20 ?a21 ?l21 ?c21 ?k21 ?a22 ?l22 ?c22 ?k22 ?a23 ?l23 ?c23 ?k23 ?a24 ?l24 ?c24 ?k24 ?a25 ?l25 ?c25 ?k25 ?a26 ?l26 ?c26 ?k26 ?a27 ?l27 ?c27 ?k27 ?a28 ?l28 ?c28 ?k28 ?a29 ?l29 ?c29 ?k29 ?zb_all ?zb_bool ?zb_divmod ?zb_enumerate ?zb_int ?zb_isinstance ?zb_len ?zb_max ?zb_min ?zb_range ?zb_repr ?zb_sorted ?zb_tuple ?zb_zip ?zg_BOTTOM ?zg_KINDS_AT_MOST ?zg_MOST ?zg_NOTHING ?zl_NOTHING ?zv_NOTHING ?zg_TOP ?zg_WEIGHT ?zg_WORTH ?zc ?zo ?zp ?zm ?zh
  (case a0 => k_is)
  (case l0 => k_is)
  (case c0 => k_is)
  (case k0 => k_is)
  (case a1 => k_is)
  (case l1 => k_is)
  (case c1 => k_is)
  (case k1 => k_is)
  (case a2 => k_is)
  (case l2 => k_is)
  (case c2 => k_is)
  (case k2 => k_is)
  (case a3 => k_is)
  (case l3 => k_is)
  (case c3 => k_is)
  (case k3 => k_is)
  (case a4 => k_is)
  (case l4 => k_is)
  (case c4 => k_is)
  (case k4 => k_is)
  (case a5 => k_is)
  (case l5 => k_is)
  (case c5 => k_is)
  (case k5 => k_is)
  (case a6 => k_is)
  (case l6 => k_is)
  (case c6 => k_is)
  (case k6 => k_is)
  (case a7 => k_is)
  (case l7 => k_is)
  (case c7 => k_is)
  (case k7 => k_is)
  (case a8 => k_is)
  (case l8 => k_is)
  (case c8 => k_is)
  (case k8 => k_is)
  (case a9 => k_is)
  (case l9 => k_is)
  (case c9 => k_is)
  (case k9 => k_is)
  (case a10 => k_is)
  (case l10 => k_is)
  (case c10 => k_is)
  (case k10 => k_is)
  (case a11 => k_is)
  (case l11 => k_is)
  (case c11 => k_is)
  (case k11 => k_is)
  (case a12 => k_is)
  (case l12 => k_is)
  (case c12 => k_is)
  (case k12 => k_is)
  (case a13 => k_is)
  (case l13 => k_is)
  (case c13 => k_is)
  (case k13 => k_is)
  (case a14 => k_is)
  (case l14 => k_is)
  (case c14 => k_is)
  (case k14 => k_is)
  (case a15 => k_is)
  (case l15 => k_is)
  (case c15 => k_is)
  (case k15 => k_is)
  (case a16 => k_is)
  (case l16 => k_is)
  (case c16 => k_is)
  (case k16 => k_is)
  (case a17 => k_is)
  (case l17 => k_is)
  (case c17 => k_is)
  (case k17 => k_is)
  (case a18 => k_is)
  (case l18 => k_is)
  (case c18 => k_is)
  (case k18 => k_is)
  (case a19 => k_is)
  (case l19 => k_is)
  (case c19 => k_is)
  (case k19 => k_is)
  (case a20 => k_is)
  (case l20 => k_is)
  (case c20 => k_is)
  (case k20 => k_is)
  (case a21 => k_is)
  (case l21 => k_is)
  (case c21 => k_is)
  (case k21 => k_is)
  (case a22 => k_is)
  (case l22 => k_is)
  (case c22 => k_is)
  (case k22 => k_is)
  (case a23 => k_is)
  (case l23 => k_is)
  (case c23 => k_is)
  (case k23 => k_is)
  (case a24 => k_is)
  (case l24 => k_is)
  (case c24 => k_is)
  (case k24 => k_is)
  (case a25 => k_is)
  (case l25 => k_is)
  (case c25 => k_is)
  (case k25 => k_is)
  (case a26 => k_is)
  (case l26 => k_is)
  (case c26 => k_is)
  (case k26 => k_is)
  (case a27 => k_is)
  (case l27 => k_is)
  (case c27 => k_is)
  (case k27 => k_is)
  (case a28 => k_is)
  (case l28 => k_is)
  (case c28 => k_is)
  (case k28 => k_is)
  (case a29 => k_is)
  (case l29 => k_is)
  (case c29 => k_is)
  (case k29 => k_is)
  (case zb_all => k_is)
  (case zb_bool => k_is)
  (case zb_divmod => k_is)
  (case zb_enumerate => k_is)
  (case zb_int => k_is)
  (case zb_isinstance => k_is)
  (case zb_len => k_is)
  (case zb_max => k_is)
  (case zb_min => k_is)
  (case zb_range => k_is)
  (case zb_repr => k_is)
  (case zb_sorted => k_is)
  (case zb_tuple => k_is)
  (case zb_zip => k_is)
  (case zg_BOTTOM => k_is)
  (case zg_KINDS_AT_MOST => k_is)
  (case zg_MOST => k_is)
  (case zg_NOTHING => k_is)
  (case zl_NOTHING => k_is)
  (case zv_NOTHING => rfl)
  (case zg_TOP => k_is)
  (case zg_WEIGHT => k_is)
  (case zg_WORTH => k_is)
  (case zc => rfl)
  (case zo => k_is)
  (case zp => rfl)
  (case zm => kernel_rfl)
  (case zh => kernel_rfl)
