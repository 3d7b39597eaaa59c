import PyProof.Rows.All
import Wide.All
import OpenK.AllK
import Wide.FinOn
import Lean
import PyProof.EqAt
import PyProof.EqKinds
import PyProof.TupleCall
import PySem.Challenge.RW_sackloads_k25_prices_and_bounds
def PySem.W.Fast.tw2474681684068107466 : Nat := 0
def PySem.W.Fast.tw2469108804628197252 : Nat := 0
def PySem.W.Fast.tw13017871908676248032 : Nat := 0
def PySem.W.Fast.tw15913134454360283372 : Nat := 0
def PySem.W.Fast.tw16012118936141313639 : Nat := 0
def PySem.W.Fast.tw8300926509208178542 : Nat := 0
set_option linter.all false
set_option Elab.async false
set_option maxRecDepth 100000
open List renaming mem_cons_of_mem → mM, mem_cons_self → mS_, getElem?_eq_getElem → gG, length_cons → lC_, length_map → lM_, length_append → lA_, getElem?_map → gM_, map_cons → mC_, mem_append → mA_, length_range → lR_, length_nil → lN_, size_toArray → sT_, mem_range → mR_, mem_map → mP_, map_map → mm_, replicate_succ → rS_, length_set → lS_, not_mem_nil → nN_, map_congr_left → mL_, append_assoc → aA_, getElem?_eq_some_iff → gI_, foldl_cons → fo_, mem_append_right → mr_, filter_cons → ft_
namespace L2
open PySem PySem.Spec PyProof.Rows
abbrev Key := Sum Int Str
def qbF : Key -> Value -> Bool
 | .inl k, v => Value.isInt k v
 | .inr x, v => Value.isStrOf x v
def qnI (w : World) : Key -> Int
 | .inl k => hashInt k
 | .inr x => hashStr w x
theorem zC : ∀ {k : Key} {v : Value}, qbF k v = true -> (∃ i t, k = Sum.inl i /\ v = Value.int i t) \/ (∃ x t, k = Sum.inr x /\ v = Value.str x t)
 | .inl i, v, h => by
  obtain ⟨t, e⟩ := Value.isInt_shape (k := i) (v := v) h
  exact .inl ⟨i, t, rfl, e⟩
 | .inr x, v, h => by
  obtain ⟨t, e⟩ := Value.isStrOf_shape (x := x) (v := v) h
  exact .inr ⟨x, t, rfl, e⟩
theorem qey (i : Int) (t : Tok) : qbF (.inl i) (.int i t) = true := by simp [qbF, Value.isInt]
theorem qez (x : Str) (t : Tok) : qbF (.inr x) (.str x t) = true := by simp [qbF, Value.isStrOf]
theorem qkk (a b : Int) : decide ((Sum.inl a : Key) = Sum.inl b) = (a == b) := by
 by_cases e : a = b
 ·subst e; simp
 ·have h : ¬ (Sum.inl a : Key) = Sum.inl b := fun q => e (Sum.inl.inj q)
  rw [decide_eq_false h]
  exact (beq_eq_false_iff_ne.mpr e).symm
theorem qkl (a b : Str) : decide ((Sum.inr a : Key) = Sum.inr b) = decide (a = b) := by
 by_cases e : a = b
 ·subst e; simp
 ·have h : ¬ (Sum.inr a : Key) = Sum.inr b := fun q => e (Sum.inr.inj q)
  rw [decide_eq_false h, decide_eq_false e]
theorem qkm (a : Int) (b : Str) : decide ((Sum.inl a : Key) = Sum.inr b) = false := decide_eq_false (fun q => nomatch q)
theorem qkn (a : Str) (b : Int) : decide ((Sum.inr a : Key) = Sum.inl b) = false := decide_eq_false (fun q => nomatch q)
def w5 (prog : Program) (w : World) : PySem.KeyKind prog w Key where
 is := qbF
 hash := qnI w
 inj := fun v a b ha hb => by
  rcases zC ha with ⟨i, t, rfl, rfl⟩ | ⟨x, t, rfl, rfl⟩
  ·rcases zC hb with ⟨j, u, rfl, e⟩ | ⟨y, u, rfl, e⟩
   ·injection e with e1 _; rw [e1]
   ·exact nomatch e
  ·rcases zC hb with ⟨j, u, rfl, e⟩ | ⟨y, u, rfl, e⟩
   ·exact nomatch e
   ·injection e with e1 _; rw [e1]
 byValue := fun k v h => by
  rcases zC h with ⟨i, t, rfl, rfl⟩ | ⟨x, t, rfl, rfl⟩ <;> rfl
 pyHash := fun hv h => by
  rcases zC hv with ⟨i, t, rfl, rfl⟩ | ⟨x, t, rfl, rfl⟩
  ·exact wpAny_pyHash_int h
  ·exact wpAny_pyHash_str h
 eqBool := fun hu hv h => by
  rcases zC hu with ⟨i, t, rfl, rfl⟩ | ⟨x, t, rfl, rfl⟩
  ·rcases zC hv with ⟨j, u, rfl, rfl⟩ | ⟨y, u, rfl, rfl⟩
   ·rw [qkk] at h; exact wpAny_eqBool_int h
   ·rw [qkm] at h; exact SeqAt.EqAt.int_str i t y u _ _ _ _ h
  ·rcases zC hv with ⟨j, u, rfl, rfl⟩ | ⟨y, u, rfl, rfl⟩
   ·rw [qkn] at h; exact SeqAt.EqAt.str_int x t j u _ _ _ _ h
   ·rw [qkl] at h; exact wpAny_eqBool_str h
 «strs» := fun k x t v h => by
  rcases zC h with ⟨i, u, rfl, e⟩ | ⟨y, u, rfl, e⟩
  ·exact nomatch e
  ·injection e with e1 _
   subst e1
   cases v <;> rfl
end L2
namespace L2
open PySem PySem.Spec PyProof.Rows
inductive V where
 | non | bl (b : Bool) | int (i : Int) | str (x : Str) | byt (b : Array UInt8) | flt (b : UInt64) | ref (a : Addr) | ty (n : String)
 deriving DecidableEq
def jE : V -> Value -> Prop
 | .non, u => u = Value.none
 | .bl b, u => u = Value.bool b
 | .int i, u => ∃ t, u = Value.int i t
 | .str x, u => ∃ t, u = Value.str x t
 | .byt b, u => ∃ t, u = Value.bytes b t
 | .flt b, u => ∃ t, u = Value.float b t
 | .ref a, u => u = Value.ref a
 | .ty n, u => u = Value.type n
abbrev zb : List V -> List Value -> Prop := Paired jE
theorem zb.length {xs : List V} {us : List Value} (r : zb xs us) : xs.length = us.length := Paired.length r
theorem zb.get : ∀ {xs : List V} {us : List Value} {i : Nat} {x : V}, zb xs us -> xs[i]? = some x -> ∃ u, us[i]? = some u /\ jE x u
 | _, _, _, _, .nil, e => by simp at e
 | _, _, 0, _, .cons r _, e => by simp at e; subst e; exact ⟨_, rfl, r⟩
 | _, _, i + 1, x, .cons _ t, e => by
  obtain ⟨u, h1, h2⟩ := zb.get (i := i) (x := x) t (by simpa using e)
  exact ⟨u, by simpa using h1, h2⟩
theorem zb.set {x : V} {u : Value} (r : jE x u) : ∀ {xs : List V} {us : List Value} (i : Nat), zb xs us -> zb (xs.set i x) (us.set i u)
 | _, _, _, .nil => .nil
 | _, _, 0, .cons _ t => .cons r t
 | _, _, i + 1, .cons q t => .cons q (zb.set r i t)
theorem zb.append : ∀ {xs ys : List V} {us ws : List Value}, zb xs us -> zb ys ws -> zb (xs ++ ys) (us ++ ws)
 | _, _, _, _, .nil, s => s
 | _, _, _, _, .cons r t, s => .cons r (zb.append t s)
theorem zb.take : ∀ {xs : List V} {us : List Value} (n : Nat), zb xs us -> zb (xs.take n) (us.take n)
 | _, _, 0, _ => .nil
 | _, _, _ + 1, .nil => .nil
 | _, _, n + 1, .cons r t => .cons r (zb.take n t)
theorem zb.drop : ∀ {xs : List V} {us : List Value} (n : Nat), zb xs us -> zb (xs.drop n) (us.drop n)
 | _, _, 0, r => r
 | _, _, _ + 1, .nil => .nil
 | _, _, n + 1, .cons _ t => zb.drop n t
def qmd : Option V -> Option Value -> Prop
 | some v, some u => jE v u
 | none, none => True
 | _, _ => False
def KV {κ : Type} : List (κ × V) -> List (κ × Value) -> Prop := Paired fun (p : κ × V) (q : κ × Value) => p.1 = q.1 /\ jE p.2 q.2
def kV : Key -> V
 | .inl i => .int i
 | .inr x => .str x
inductive HO where
 /-- a list -/
 | lst (xs : List V)
 /-- a tuple (never changes) -/
 | tup (xs : List V)
 /-- a dict whose keys are ints and texts; one whose keys are tuples of ints and texts (the empty one is both) -/
 | dK (kvs : List (Key × V)) | dT (kvs : List (List Key × V))
 /-- a set of ints: its members, its size -/
 | set (S : Int -> Bool) (n : Nat)
 /-- an instance of the class at C, its dict at dx, its attributes -/
 | ins (C dx : Addr) (fs : List (Str × V))
 /-- the dict of the instance at x -/
 | own (x : Addr)
 /-- the dict of an exception -/
 | xd (fs : List (Str × V))
 /-- a bound method, f of x -/
 | met (f x : Addr)
 /-- a range object lo, lo + 1, .. below hi -/
 | rng (lo hi : Int)
 /-- a thing that is known to the object (the script; a dict while a loop walks it): read, never written while it is so -/
 | frz (o : Obj) (u : HO)
 /-- a code object's table -/
 | tbl (ps : Array Value)
 /-- any other thing, by what is true of its one object (a def of one's own: SetO a S n := HO.ext fun h => ..) -/
 | ext (φ : Heap -> Prop)
 /-- the table of a code object in which at most one lambda's code stands -/
 | lam (pos : Pos) (q : Str)
abbrev Hp := Addr -> Option HO
def upd (H : Hp) (a : Addr) (o : HO) : Hp := fun b => if b = a then some o else H b
theorem qt {H : Hp} {a : Addr} {o : HO} : upd H a o a = some o := by unfold upd; rw [if_pos rfl]
theorem qp {H : Hp} {a b : Addr} {o : HO} (h : b ≠ a) : upd H a o b = H b := by unfold upd; rw [if_neg h]
theorem vC {H : Hp} {a b : Addr} {o u : HO} (h : H a = some o) (h' : H b = some u) (d : o ≠ u) : a ≠ b := by
 intro e; subst e; rw [h] at h'; exact d (Option.some.inj h')
theorem qH {H : Hp} {a b : Addr} {o : HO} (h : H a = some o) (h' : H b = none) : a ≠ b := by
 intro e; subst e; rw [h] at h'; cases h'
section
variable (P : Program) (w : World)
def yq (H : Hp) (h : Heap) (a : Addr) : HO -> Prop
 | .lst xs => xs.length <= sizeLine /\ ∃ (its : List Value) (n : Nat), zb xs its /\ h.get? a = some { cls := .type "list", data := .seq its.toArray n }
 | .tup xs => xs.length <= sizeLine /\ ∃ its : List Value, zb xs its /\ IsTup h a its.toArray
 | .dK kvs => kvs.length <= sizeLine /\ (a == sysModules) = false /\ ∃ vs, KV kvs vs /\ h.DictOf (w5 P w) a vs
 | .dT kvs => kvs.length <= sizeLine /\ (a == sysModules) = false /\ ∃ xs : List (List Key × Addr × Value),
   Paired (fun (p : List Key × V) (q : List Key × Addr × Value) => p.1 = q.1 /\ H q.2.1 = some (.tup (p.1.map kV)) /\ jE p.2 q.2.2) kvs xs /\
   ∃ o es ep, h.get? a = some o /\ o.ExactDict /\ o.data = .dict es ep /\ es.toList = xs.map (entryOfKey (tupleKind (w5 P w))) /\ (xs.map (·.1)).Nodup
 | .set S n => h.SetOf (intKind P w) a S n
 | .ins C dx fs => H dx = some (.own a) /\ fs.length <= 1000 /\ dx ≠ a /\ h.get? a = some (PySem.W.instObj C dx) /\
   ∃ mA, h.Ns1 dx mA /\ (∀ f, qmd (fs.lookup f) (mA f)) /\ PySem.Within mA (fs.map (·.1))
 | .own _ => ∃ o, h.get? a = some o
 | .xd fs => ∃ mA, h.Ns1 a mA /\ ∀ f, qmd (fs.lookup f) (mA f)
 | .rng lo hi => ∃ t u v, h.get? a = some { cls := .type "range", data := .fields #[.int lo t, .int hi u, .int 1 v] }
 | .frz o u => h.get? a = some o /\ yq H h a u
 | .tbl ps => h.get? a = some { cls := .none, data := .fields ps }
 | .met f x => h.get? a = some (PySem.W.methodObj (.ref f) (.ref x))
 | .lam pos q => h.get? a = some { cls := .none, data := .fields #[] } \/ ∃ (c : Addr) (oc : Obj) (vs : Array Value) (t : Tok), H c = some (.frz oc (.own c)) /\ oc.data = .fields vs /\ vs[1]? = some (.str q t) /\
   h.get? a = some { cls := .none, data := .fields #[rawInt pos.line, rawInt pos.col, .ref c] }
 | .ext φ => φ h /\ (∃ o, h.get? a = some o) /\ ∀ h1 h2 : Heap, φ h1 -> (∀ o, h1.get? a = some o -> h2.get? a = some o) -> φ h2
def HOk (H : Hp) (h : Heap) : Prop := ∀ a o, H a = some o -> yq P w H h a o
end
section
variable {P : Program} {w : World} {H H' : Hp} {h h' : Heap} {a : Addr} {o : HO}
theorem yq.lt (x : yq P w H h a o) : a < h.objs.size := by
 cases o with
 | lst xs => obtain ⟨_, _, _, _, e⟩ := x; exact Heap.lt_size e
 | tup xs => obtain ⟨_, _, _, p⟩ := x; exact p.lt
 | dK kvs => obtain ⟨_, _, _, _, o, _, _, e, _⟩ := x; exact Heap.lt_size e
 | dT kvs => obtain ⟨_, _, _, _, o, _, _, e, _⟩ := x; exact Heap.lt_size e
 | set S n => obtain ⟨o, _, _, _, e, _⟩ := x; exact Heap.lt_size e
 | ins C dx fs => obtain ⟨_, _, _, e, _⟩ := x; exact Heap.lt_size e
 | own y => obtain ⟨_, e⟩ := x; exact Heap.lt_size e
 | xd fs => obtain ⟨_, ⟨_, _, _, e, _⟩, _⟩ := x; exact Heap.lt_size e
 | rng lo hi => obtain ⟨_, _, _, e⟩ := x; exact Heap.lt_size e
 | frz ob u => obtain ⟨e, _⟩ := x; exact Heap.lt_size e
 | tbl ps => exact Heap.lt_size (show h.get? a = some _ from x)
 | met f y => exact Heap.lt_size (show h.get? a = some _ from x)
 | ext φ => obtain ⟨_, ⟨_, e⟩, _⟩ := x; exact Heap.lt_size e
 | lam pos q =>
  rcases x with e | ⟨_, _, _, _, _, _, _, e⟩
  ·exact Heap.lt_size e
  ·exact Heap.lt_size e
theorem Paired.mapP {α β : Type} {F G : α -> β -> Prop} : ∀ {lQ : List α} {lK : List β}, Paired F lQ lK -> (∀ a b, F a b -> G a b) -> Paired G lQ lK
 | _, _, .nil, _ => .nil
 | _, _, .cons r t, f => .cons (f _ _ r) (Paired.mapP t f)
theorem yq.stay (x : yq P w H h a o) (k : ∀ b u, (b = a \/ H b = some (.own a)) -> h.get? b = some u -> h'.get? b = some u)
  (ho : ∀ b, H b = some (.own a) -> H' b = some (.own a)) (ht : ∀ b xs, H b = some (.tup xs) -> H' b = some (.tup xs)) (hz : ∀ b ob u, H b = some (.frz ob u) -> H' b = some (.frz ob u) := by exact fun _ _ _ q => q) : yq P w H' h' a o := by
 induction o with
 | lst xs => obtain ⟨z, its, n, r, e⟩ := x; exact ⟨z, its, n, r, k _ _ (.inl rfl) e⟩
 | tup xs => obtain ⟨z, its, r, ob, e, c⟩ := x; exact ⟨z, its, r, ob, k _ _ (.inl rfl) e, c⟩
 | dK kvs => obtain ⟨z, y, vs, r, ob, es, ep, e, c⟩ := x; exact ⟨z, y, vs, r, ob, es, ep, k _ _ (.inl rfl) e, c⟩
 | dT kvs =>
  obtain ⟨z, y, xs, r, ob, es, ep, e, c⟩ := x
  exact ⟨z, y, xs, Paired.mapP r fun p q z => ⟨z.1, ht _ _ z.2.1, z.2.2⟩, ob, es, ep, k _ _ (.inl rfl) e, c⟩
 | set S n => obtain ⟨ob, es, ep, t, e, c⟩ := x; exact ⟨ob, es, ep, t, k _ _ (.inl rfl) e, c⟩
 | ins C dx fs =>
  obtain ⟨d, z, ne, e, mA, ⟨od, es, ep, e2, c⟩, r⟩ := x
  exact ⟨ho _ d, z, ne, k _ _ (.inl rfl) e, mA, ⟨od, es, ep, k _ _ (.inr d) e2, c⟩, r⟩
 | own y => obtain ⟨ob, e⟩ := x; exact ⟨ob, k _ _ (.inl rfl) e⟩
 | xd fs => obtain ⟨mA, ⟨od, es, ep, e, c⟩, r⟩ := x; exact ⟨mA, ⟨od, es, ep, k _ _ (.inl rfl) e, c⟩, r⟩
 | rng lo hi => obtain ⟨t, u, v, e⟩ := x; exact ⟨t, u, v, k _ _ (.inl rfl) e⟩
 | frz ob u ih => obtain ⟨e, q⟩ := x; exact ⟨k _ _ (.inl rfl) e, ih q⟩
 | tbl ps =>
  have e : h.get? a = some { cls := .none, data := .fields ps } := x
  show h'.get? a = some { cls := .none, data := .fields ps }
  exact k a _ (.inl rfl) e
 | met f y =>
  have e : h.get? a = some (PySem.W.methodObj (.ref f) (.ref y)) := x
  show h'.get? a = some (PySem.W.methodObj (.ref f) (.ref y))
  exact k a _ (.inl rfl) e
 | ext φ => obtain ⟨p, ⟨o, e⟩, st⟩ := x; exact ⟨st _ _ p fun o q => k _ _ (.inl rfl) q, ⟨o, k _ _ (.inl rfl) e⟩, st⟩
 | lam pos q =>
  rcases x with e | ⟨c, oc, vs, t, h1, h2, h3, e⟩
  ·exact .inl (k _ _ (.inl rfl) e)
  ·exact .inr ⟨c, oc, vs, t, hz _ _ _ h1, h2, h3, k _ _ (.inl rfl) e⟩
theorem HOk.lt (x : HOk P w H h) (e : H a = some o) : a < h.objs.size := (x a o e).lt
theorem HOk.fresh (x : HOk P w H h) (e : h.objs.size <= a) : H a = none := by
 cases q : H a with
 | none => rfl
 | some u => exact absurd (Nat.lt_of_lt_of_le (x.lt q) e) (Nat.lt_irrefl _)
theorem HOk.kept (x : HOk P w H h) (k : ∀ b u, h.get? b = some u -> h'.get? b = some u) : HOk P w H h' := fun a o e =>
 (x a o e).stay (fun b u _ q => k b u q) (fun _ q => q) fun _ _ q => q
theorem HOk.laid (x : HOk P w H h) (k : ∀ b u, h.get? b = some u -> h'.get? b = some u) (hp : h.objs.size <= a) (new : yq P w (upd H a o) h' a o) : HOk P w (upd H a o) h' := fun b u e => by
 have hn := x.fresh hp
 by_cases hb : b = a
 ·subst hb; rw [qt] at e; cases e; exact new
 ·rw [qp hb] at e
  exact (x b u e).stay (fun c v _ q => k c v q) (fun c q => by rw [qp (qH q hn)]; exact q) (fun c xs q => by rw [qp (qH q hn)]; exact q) fun c ob z q => by rw [qp (qH q hn)]; exact q
end
def Rd (H : Hp) (a : Addr) (u : HO) : Prop := H a = some u \/ ∃ o, H a = some (.frz o u)
theorem Rd.ok {P : Program} {w : World} {H : Hp} {h : Heap} {a : Addr} {u : HO} (r : Rd H a u) (x : HOk P w H h) : yq P w H h a u := by
 rcases r with r | ⟨o, r⟩
 ·exact x a u r
 ·obtain ⟨_, q⟩ := x a _ r
  exact q
def Mut : Option HO -> Prop
 | some (.lst _) => True
 | some (.dK _) => True
 | some (.dT _) => True
 | some (.set _ _) => True
 | some (.ins _ _ _) => True
 | some (.ext _) => True
 | _ => False
section
variable {P : Program} {w : World} {H : Hp} {h h' : Heap} {x e : Addr} {o' : HO}
theorem HOk.write (ok : HOk P w H h) (mu : Mut (H x)) (he : e = x \/ H e = some (.own x)) (k : ∀ b u, b ≠ e -> h.get? b = some u -> h'.get? b = some u) (heo : ∃ u, h'.get? e = some u)
  (new : yq P w (upd H x o') h' x o') : HOk P w (upd H x o') h' := fun b u q => by
 have nown : ∀ c y, H c = some (.own y) -> c ≠ x := fun c y r z => by subst z; rw [r] at mu; exact mu
 have ntup : ∀ c xs, H c = some (.tup xs) -> c ≠ x := fun c xs r z => by subst z; rw [r] at mu; exact mu
 have nfrz : ∀ c ob y, H c = some (.frz ob y) -> c ≠ x := fun c ob y r z => by subst z; rw [r] at mu; exact mu
 by_cases hb : b = x
 ·subst hb; rw [qt] at q; cases q; exact new
 ·rw [qp hb] at q
  by_cases hbe : b = e
  ·have q' : H b = some (.own x) := by
    rcases he with z | z
    ·exact absurd (hbe.trans z) hb
    ·rw [hbe]; exact z
   rw [q] at q'; cases q'
   obtain ⟨v, hv⟩ := heo
   exact ⟨v, by rw [hbe]; exact hv⟩
  ·refine (ok b u q).stay (fun c v hc r => k c v ?_ r) (fun c r => by rw [qp (nown c b r)]; exact r) (fun c xs r => by rw [qp (ntup c xs r)]; exact r) fun c ob z r => by rw [qp (nfrz c ob z r)]; exact r
   rcases hc with rfl | hc
   ·exact hbe
   ·rintro rfl
    rcases he with z | z
    ·exact nown c b hc z
    ·rw [hc] at z; cases z; exact hb rfl
end
structure Un (fs ex : List Addr) (H H' : Hp) (h h' : Heap) : Prop where
 keep : ∀ b o, h.get? b = some o -> H b = none -> b ∉ fs -> b ∉ ex -> h'.get? b = some o
 slot : ∀ b o, h.get? b = some o -> H b = none -> b ∈ fs -> b ∉ ex -> ∃ sl, h'.get? b = some { o with slots := sl }
 free : ∀ b o, h.get? b = some o -> H b = none -> b ∉ ex -> H' b = none
 there : ∀ b o, h.get? b = some o -> b ∉ ex -> ∃ o', h'.get? b = some o'
 tups : ∀ b xs, H b = some (.tup xs) -> H' b = some (.tup xs)
 frzs : ∀ b o u, H b = some (.frz o u) -> H' b = some (.frz o u)
 tbls : ∀ b pos q, H b = some (.lam pos q) -> H' b = some (.lam pos q)
section
variable {fs fs' ex ex' : List Addr} {H H1 H2 : Hp} {h h1 h2 h' : Heap} {a x e : Addr} {o : HO}
theorem Un.any (u : Un fs ex H H1 h h1) {b : Addr} {ob : Obj} (q : h.get? b = some ob) (n : H b = none) (hx : b ∉ ex) : ∃ sl, h1.get? b = some { ob with slots := sl } := by
 by_cases hb : b ∈ fs
 ·exact u.slot b ob q n hb hx
 ·exact ⟨ob.slots, u.keep b ob q n hb hx⟩
theorem Un.trans (a : Un fs ex H H1 h h1) (b : Un fs ex H1 H2 h1 h2) : Un fs ex H H2 h h2 where
 keep := fun c ob q n hc hx => b.keep c ob (a.keep c ob q n hc hx) (a.free c ob q n hx) hc hx
 slot := fun c ob q n hc hx => by
  obtain ⟨sl, e1⟩ := a.slot c ob q n hc hx
  obtain ⟨sl', e2⟩ := b.slot c _ e1 (a.free c ob q n hx) hc hx
  exact ⟨sl', e2⟩
 free := fun c ob q n hx => by
  obtain ⟨o', e1⟩ := a.there c ob q hx
  exact b.free c o' e1 (a.free c ob q n hx) hx
 there := fun c ob q hx => by
  obtain ⟨o', e1⟩ := a.there c ob q hx
  exact b.there c o' e1 hx
 tups := fun c xs q => b.tups c xs (a.tups c xs q)
 frzs := fun c ob xs q => b.frzs c ob xs (a.frzs c ob xs q)
 tbls := fun c ps x q => b.tbls c ps x (a.tbls c ps x q)
theorem Un.kept (k : ∀ b u, h.get? b = some u -> h'.get? b = some u) : Un fs ex H H h h' :=
 ⟨fun b ob q _ _ _ => k b ob q, fun b ob q _ _ _ => ⟨ob.slots, k b ob q⟩, fun _ _ _ n _ => n, fun b ob q _ => ⟨ob, k b ob q⟩, fun _ _ q => q, fun _ _ _ q => q, fun _ _ _ q => q⟩
theorem Un.refl : Un fs ex H H h h := Un.kept fun _ _ q => q
theorem Un.laid (k : ∀ b u, h.get? b = some u -> h'.get? b = some u) (hp : h.objs.size <= a) (hn : H a = none) : Un fs ex H (upd H a o) h h' where
 keep := fun b u q _ _ _ => k b u q
 slot := fun b u q _ _ _ => ⟨u.slots, k b u q⟩
 free := fun b u q n _ => by rw [qp (Nat.ne_of_lt (Nat.lt_of_lt_of_le (Heap.lt_size q) hp))]; exact n
 there := fun b u q _ => ⟨u, k b u q⟩
 tups := fun b xs q => by rw [qp (qH q hn)]; exact q
 frzs := fun b u xs q => by rw [qp (qH q hn)]; exact q
 tbls := fun b ps x q => by rw [qp (qH q hn)]; exact q
theorem Un.write (mu : Mut (H x)) (he : e = x \/ H e = some (.own x)) (k : ∀ b u, b ≠ e -> h.get? b = some u -> h'.get? b = some u) (heo : ∃ u, h'.get? e = some u) : Un fs ex H (upd H x o) h h' := by
 have hx : ∀ b, H b = none -> b ≠ x := fun b n z => by subst z; rw [n] at mu; exact mu
 have hb : ∀ b, H b = none -> b ≠ e := fun b n z => by
  subst z
  rcases he with r | r
  ·exact hx b n r
  ·rw [n] at r; cases r
 have hm : ∀ b u, H b = some u -> ¬ Mut (some u) -> b ≠ x := fun b u q nm z => by subst z; rw [q] at mu; exact nm mu
 refine ⟨fun b u q n _ _ => k b u (hb b n) q, fun b u q n _ _ => ⟨u.slots, k b u (hb b n) q⟩, fun b u q n _ => by rw [qp (hx b n)]; exact n, fun b u q _ => ?_,
  fun b xs q => by rw [qp (hm b _ q fun z => z)]; exact q, fun b u xs q => by rw [qp (hm b _ q fun z => z)]; exact q, fun b ps x q => by rw [qp (hm b _ q fun z => z)]; exact q⟩
 by_cases hbe : b = e
 ·subst hbe; exact heo
 ·exact ⟨u, k b u hbe q⟩
end
def trk (h : Heap) (H : Hp) : List Addr := (List.range h.objs.size).filter fun a => (H a).isSome
def qgt (h : Heap) (H : Hp) : Heap := PySem.W.hideAll h (trk h H)
theorem qeA (h : Heap) (H : Hp) : (qgt h H).objs.size = h.objs.size := PySem.W.hideAll_size _ _
theorem qgu {h : Heap} {H : Hp} {b : Addr} {o : Obj} (e : h.get? b = some o) (n : H b = none) : (qgt h H).get? b = some o :=
 PySem.W.hideAll_get _ e fun hm => by
  have q : (H b).isSome = true := (List.mem_filter.mp hm).2
  rw [n] at q; simp at q
theorem qiy {h : Heap} {H : Hp} {b : Addr} {o : Obj} (e : (qgt h H).get? b = some o) : h.get? b = some o /\ H b = none := by
 have e' : h.get? b = some o := PySem.W.of_hideAll (trk h H) e
 refine ⟨e', ?_⟩
 cases q : H b with
 | none => rfl
 | some x =>
  have hm : b ∈ trk h H := List.mem_filter.mpr ⟨mR_.mpr (Heap.lt_size e'), by simp [q]⟩
  have z : (qgt h H).get? b = none := PySem.W.hideAll_none (trk h H) hm
  rw [z] at e; cases e
def qiz (g h : Heap) (L : Addr) : List (Addr × Obj) := (List.range h.objs.size).filterMap fun a => if a = L \/ (g.get? a).isSome = true then none else (h.get? a).map fun o => (a, o)
def qaC (g h : Heap) (L d : Addr) : List (Addr × Obj) := (qiz g h L).filter fun p => decide (p.1 ≠ d)
end L2
namespace L2
open PySem PySem.Spec PyProof.Rows
structure Mod (K : PySem.W.Frag) (mg : Str -> Option Value) (base : Heap) : Prop where
 kin : K.In base
 glob : base.Ns mainGlobals mg
 blt : ∃ mb, base.Ns builtinsNs mb /\ ∀ x : Str, x ≠ "__name__" -> mb x = bootBuiltins x
 nolimit : base.NoLimit
 bm : ∃ bm ob, mg "__builtins__" = some (.ref bm) /\ bm ≠ builtinsNs /\ base.get? bm = some ob /\ ob.cls = .type "module" /\ ob.dict = some builtinsNs /\ ob.data = .plain
structure Cx where
 prog : Program
 w : World
 K : PySem.W.Frag
 mg : Str -> Option Value
 base : Heap
 A : Around
 N : List Str
 s₀ : Shared
 H₀ : Hp
 env : Env
 outer : List Env
 stack : List Env
 ex : List Addr
 fn : Str -> Bool
 calm : Bool
 pn : List (Addr × Obj)
 xe : Value -> Shared -> Prop
def frs (l : List Env) : List Addr := l.filterMap (·.frame)
abbrev Cx.fs (X : Cx) : List Addr := frs X.outer
def Vis (sc : Scope) (x : Str) : Prop := sc.names.lookup x = some .local \/ sc.names.lookup x = some .cell \/ sc.names.lookup x = some .free
def Loc (sc : Scope) (x : Str) : Prop := sc.names.lookup x = some .local \/ sc.names.lookup x = some .cell
def qnJ (env : Env) (h : Heap) (m : Str -> Option Value) (x : Str) (u : Value) : Prop :=
 (env.kindOf x = some .local /\ m x = some u) \/ ((env.kindOf x = some .cell \/ env.kindOf x = some .free) /\ ∃ c, env.cells.lookup x = some c /\ h.IsCell c (some u))
structure Cx.Ok (X : Cx) : Prop where
 mod : Mod X.K X.mg X.base
 kind : X.env.scope.kind = .function
 glob : X.env.globals = mainGlobals
 blt : X.env.builtins = builtinsNs
 above : X.s₀.heap.objs.size <= X.env.locals
 inj : ∀ x y c, X.env.cells.lookup x = some c -> X.env.cells.lookup y = some c -> x = y
 has : ∀ x, (X.env.kindOf x = some .cell \/ X.env.kindOf x = some .free) -> ∃ c, X.env.cells.lookup x = some c
 cab : ∀ x c, X.fn x = true -> X.env.cells.lookup x = some c -> X.s₀.heap.objs.size <= c
 hd : X.calm = true -> X.A.handled = none
 frames : X.A.frames = some X.stack
 stk : X.stack = X.outer \/ (X.stack = X.env :: X.outer /\ X.env.frame = some X.env.locals)
 exf : ∀ b ∈ X.ex, b ≠ X.env.locals /\ ∀ x c, X.env.cells.lookup x = some c -> c ≠ b
 bs : ∀ b o, X.base.get? b = some o -> X.s₀.heap.get? b = some o /\ X.H₀ b = none
 bsz : X.base.objs.size <= X.s₀.heap.objs.size
 noex : ∀ b o, X.base.get? b = some o -> b ∉ X.ex
 exfs : ∀ b ∈ X.ex, b ∉ X.fs
 funs : X.s₀.heap.FunFrames X.base X.outer
 frf : ∀ b ∈ X.fs, X.H₀ b = none
structure Inv (X : Cx) (pins : List (Addr × Obj)) (Z : List (Option V)) (H : Hp) (s : Shared) : Prop where
 ok : X.Ok
 os : s.os = X.s₀.os
 bare : AllBare s.gens
 base : Un X.fs X.ex X.H₀ H X.s₀.heap s.heap
 loc : ∃ m, s.heap.Ns X.env.locals m /\ ∀ (i : Nat) (x : Str) (v : V), X.N[i]? = some x -> Z[i]? = some (some v) -> Vis X.env.scope x -> ∃ u, jE v u /\ qnJ X.env s.heap m x u
 cell : ∀ x c, X.env.cells.lookup x = some c -> ∃ v, s.heap.IsCell c v
 free : H X.env.locals = none
 freeC : ∀ x c, X.env.cells.lookup x = some c -> H c = none
 pin : ∀ p ∈ X.pn ++ pins, s.heap.get? p.1 = some p.2 /\ H p.1 = none /\ p.1 ≠ X.env.locals /\ p.1 ∉ X.fs /\ ∀ v, p.2.data ≠ .cell v
 hok : HOk X.prog X.w H s.heap
 len : Z.length = X.N.length
section
variable {X : Cx} {pins : List (Addr × Obj)} {Z : List (Option V)} {H H' : Hp} {s : Shared} {h' : Heap}
theorem Cx.Ok.nofr (ok : X.Ok) {b : Addr} {o : Obj} (e : X.base.get? b = some o) : b ∉ X.fs := fun hb => by
 have := (ok.funs.mem hb).1
 rw [e] at this; cases this
theorem Inv.bs (I : Inv X pins Z H s) : ∀ b o, X.base.get? b = some o -> s.heap.get? b = some o /\ H b = none := fun b o e =>
 ⟨I.base.keep b o (I.ok.bs b o e).1 (I.ok.bs b o e).2 (I.ok.nofr e) (I.ok.noex b o e), I.base.free b o (I.ok.bs b o e).1 (I.ok.bs b o e).2 (I.ok.noex b o e)⟩
theorem Inv.bk (I : Inv X pins Z H s) : ∀ b o, X.base.get? b = some o -> s.heap.get? b = some o := fun b o e => (I.bs b o e).1
theorem Inv.mod (I : Inv X pins Z H s) : Mod X.K X.mg X.base := I.ok.mod
theorem Inv.kIn (I : Inv X pins Z H s) : X.K.In s.heap := I.ok.mod.kin.keeps I.bk
theorem Inv.nolimit (I : Inv X pins Z H s) : s.heap.NoLimit := I.ok.mod.nolimit.keeps I.bk
theorem Inv.lt (I : Inv X pins Z H s) : X.env.locals < s.heap.objs.size := let ⟨_, hn, _⟩ := I.loc; hn.lt
theorem Inv.sz (I : Inv X pins Z H s) : X.s₀.heap.objs.size <= s.heap.objs.size := Nat.le_trans I.ok.above (Nat.le_of_lt I.lt)
theorem Inv.nofs (I : Inv X pins Z H s) {a : Addr} (h : s.heap.objs.size <= a) : a ∉ X.fs := fun hb => by
 obtain ⟨_, o, ho, _⟩ := I.ok.funs.mem hb
 exact absurd (Nat.lt_of_lt_of_le (Heap.lt_size ho) (Nat.le_trans I.sz h)) (Nat.lt_irrefl _)
theorem Inv.cne (I : Inv X pins Z H s) : ∀ x c, X.env.cells.lookup x = some c -> c ≠ X.env.locals := fun x c e z => by
 obtain ⟨v, o, ho, hd⟩ := I.cell x c e
 obtain ⟨m, ⟨o', es, ep, ho', hd', _⟩, _⟩ := I.loc
 rw [z, ho'] at ho; cases ho; rw [hd'] at hd; cases hd
theorem Inv.funs (I : Inv X pins Z H s) : s.heap.FunFrames X.base X.outer := by
 have all : ∀ (l : List Env), (∀ b ∈ frs l, b ∈ X.fs) -> X.s₀.heap.FunFrames X.base l -> s.heap.FunFrames X.base l := by
  intro l
  induction l with
  | nil => intro _ _; trivial
  | cons env r ih =>
   intro hs hl
   obtain ⟨hk, ⟨L, o, hf, hn, ho, hd⟩, hr⟩ := hl
   have hL : L ∈ X.fs := hs L (by unfold frs; rw [List.filterMap_cons, hf]; exact mS_)
   obtain ⟨sl, e⟩ := I.base.slot L o ho (I.ok.frf L hL) hL fun z => I.ok.exfs L z hL
   exact ⟨hk, ⟨L, _, hf, hn, e, hd⟩, ih (fun b hb => hs b (by unfold frs; rw [List.filterMap_cons, hf]; exact mM _ hb)) hr⟩
 exact all X.outer (fun _ hb => hb) I.ok.funs
theorem Inv.stack (I : Inv X pins Z H s) : s.heap.FunFrames X.base X.stack := by
 rcases I.ok.stk with e | ⟨e, hf⟩
 ·rw [e]; exact I.funs
 ·rw [e]
  obtain ⟨m, hn, _⟩ := I.loc
  refine .cons (by rw [I.ok.kind]; decide) hf hn ?_ I.funs
  exact Heap.get?_none_of_le (Nat.le_trans I.ok.bsz I.ok.above)
theorem Inv.stkSub (I : Inv X pins Z H s) : ∀ b ∈ frs X.stack, b ∈ X.env.locals :: X.fs := fun b hb => by
 rcases I.ok.stk with e | ⟨e, hf⟩
 ·rw [e] at hb; exact mM _ hb
 ·rw [e] at hb
  unfold frs at hb
  rw [List.filterMap_cons, hf] at hb
  exact hb
theorem Inv.stkFree (I : Inv X pins Z H s) : ∀ b ∈ frs X.stack, H b = none := fun b hb => by
 rcases List.mem_cons.mp (I.stkSub b hb) with e | hb
 ·rw [e]; exact I.free
 ·obtain ⟨_, o, ho, _⟩ := I.ok.funs.mem hb
  exact I.base.free b o ho (I.ok.frf b hb) fun z => I.ok.exfs b z hb
theorem Inv.step {g' : Array GenState} {t' : Nat} {d' : Drawn} {ch : List Addr} (I : Inv X pins Z H s)
  (hch : ∀ b ∈ ch, (b ∈ X.ex \/ X.s₀.heap.objs.size <= b) /\ b ≠ X.env.locals /\ (∀ x c, X.env.cells.lookup x = some c -> c ≠ b) /\ ∀ p ∈ X.pn ++ pins, p.1 ≠ b)
  (keep : ∀ b o, b ≠ X.env.locals -> b ∉ X.fs -> b ∉ ch -> s.heap.get? b = some o -> H b = none -> h'.get? b = some o)
  (slot : ∀ b o, b ≠ X.env.locals -> b ∈ X.fs -> b ∉ ch -> s.heap.get? b = some o -> H b = none -> ∃ sl, h'.get? b = some { o with slots := sl }) (free : ∀ b o, b ∉ ch -> s.heap.get? b = some o -> H b = none -> H' b = none)
  (there : ∀ b o, b ∉ ch -> s.heap.get? b = some o -> ∃ o', h'.get? b = some o')
  (tups : ∀ b xs, H b = some (.tup xs) -> H' b = some (.tup xs)) (frzs : ∀ b o u, H b = some (.frz o u) -> H' b = some (.frz o u)) (tbls : ∀ b pos q, H b = some (.lam pos q) -> H' b = some (.lam pos q))
  (ns : ∀ m, s.heap.Ns X.env.locals m -> h'.Ns X.env.locals m) (hok : HOk X.prog X.w H' h') (hg : AllBare g') :
  Inv X pins Z H' { s with heap := h', gens := g', drawn := d', toks := t' } := by
 have neL : ∀ b o, X.s₀.heap.get? b = some o -> b ≠ X.env.locals := fun b o e => Nat.ne_of_lt (Nat.lt_of_lt_of_le (Heap.lt_size e) I.ok.above)
 have neC : ∀ b o, X.s₀.heap.get? b = some o -> b ∉ X.ex -> b ∉ ch := fun b o e hx hb => by
  rcases (hch b hb).1 with z | z
  ·exact hx z
  ·exact absurd (Nat.lt_of_lt_of_le (Heap.lt_size e) z) (Nat.lt_irrefl _)
 have cellK : ∀ x c, X.env.cells.lookup x = some c -> ∀ v, s.heap.IsCell c v -> h'.IsCell c v := fun x c e v ⟨o, ho, hd⟩ => by
  have nch : c ∉ ch := fun z => (hch c z).2.2.1 x c e rfl
  by_cases hc : c ∈ X.fs
  ·obtain ⟨sl, q⟩ := slot c o (I.cne x c e) hc nch ho (I.freeC x c e)
   exact ⟨_, q, hd⟩
  ·exact ⟨o, keep c o (I.cne x c e) hc nch ho (I.freeC x c e), hd⟩
 refine ⟨I.ok, I.os, hg, ⟨fun b o e n hb hx => ?_, fun b o e n hb hx => ?_, fun b o e n hx => ?_, fun b o e hx => ?_, fun b xs e => tups b xs (I.base.tups b xs e), fun b o xs e => frzs b o xs (I.base.frzs b o xs e), fun b ps x e => tbls b ps x (I.base.tbls b ps x e)⟩, ?_, fun x c e => ?_, ?_, fun x c e => ?_, fun p hp => ?_, hok, I.len⟩
 ·exact keep b o (neL b o e) hb (neC b o e hx) (I.base.keep b o e n hb hx) (I.base.free b o e n hx)
 ·obtain ⟨sl, e1⟩ := I.base.slot b o e n hb hx
  obtain ⟨sl', e2⟩ := slot b _ (neL b o e) hb (neC b o e hx) e1 (I.base.free b o e n hx)
  exact ⟨sl', e2⟩
 ·obtain ⟨o', e1⟩ := I.base.there b o e hx
  exact free b o' (neC b o e hx) e1 (I.base.free b o e n hx)
 ·obtain ⟨o', e1⟩ := I.base.there b o e hx
  exact there b o' (neC b o e hx) e1
 ·obtain ⟨m, hn, hl⟩ := I.loc
  refine ⟨m, ns m hn, fun i x v e1 e2 e3 => ?_⟩
  obtain ⟨u, r, l⟩ := hl i x v e1 e2 e3
  refine ⟨u, r, ?_⟩
  rcases l with l | ⟨k, c, e, z⟩
  ·exact .inl l
  ·exact .inr ⟨k, c, e, cellK x c e _ z⟩
 ·obtain ⟨v, z⟩ := I.cell x c e
  exact ⟨v, cellK x c e v z⟩
 ·obtain ⟨m, ⟨o, _, _, ho, _⟩, _⟩ := I.loc
  exact free _ o (fun z => (hch _ z).2.1 rfl) ho I.free
 ·obtain ⟨v, o, ho, hd⟩ := I.cell x c e
  exact free c o (fun z => (hch c z).2.2.1 x c e rfl) ho (I.freeC x c e)
 ·obtain ⟨e, n, ne, nf, d⟩ := I.pin p hp
  have nch : p.1 ∉ ch := fun z => (hch p.1 z).2.2.2 p hp rfl
  exact ⟨keep p.1 p.2 ne nf nch e n, free p.1 p.2 nch e n, ne, nf, d⟩
theorem Inv.un {t' : Nat} (I : Inv X pins Z H s) (u : Un X.fs [] H H' s.heap h') (hok : HOk X.prog X.w H' h') : Inv X pins Z H' { s with heap := h', toks := t' } := by
 obtain ⟨m, ⟨o, es, ep, ho, r⟩, _⟩ := id I.loc
 obtain ⟨sl, hL⟩ := u.any ho I.free (by simp)
 exact I.step (g' := s.gens) (d' := s.drawn) (ch := []) (fun _ z => nomatch z) (fun b o _ hb _ e n => u.keep b o e n hb (by simp)) (fun b o _ hb _ e n => u.slot b o e n hb (by simp)) (fun b o _ e n => u.free b o e n (by simp)) (fun b o _ e => u.there b o e (by simp)) u.tups u.frzs u.tbls (fun m' hm => by
  obtain ⟨o', es', ep', ho', r'⟩ := hm
  rw [ho] at ho'; cases ho'
  exact ⟨_, es', ep', hL, r'⟩) hok I.bare
theorem Inv.call {g' : Array GenState} {t' : Nat} {d' : Drawn} {ch : List Addr} (I : Inv X pins Z H s) (u : Un (frs X.stack) ch H H' s.heap h') (hok : HOk X.prog X.w H' h') (hg : AllBare g')
  (hch : ∀ b ∈ ch, (b ∈ X.ex \/ X.s₀.heap.objs.size <= b) /\ b ≠ X.env.locals /\ (∀ x c, X.env.cells.lookup x = some c -> c ≠ b) /\ ∀ p ∈ X.pn ++ pins, p.1 ≠ b) :
  Inv X pins Z H' { s with heap := h', gens := g', drawn := d', toks := t' } := by
 obtain ⟨m, ⟨o, es, ep, ho, r⟩, _⟩ := id I.loc
 obtain ⟨sl, hL⟩ := u.any ho I.free fun z => (hch _ z).2.1 rfl
 exact I.step (ch := ch) hch (fun b o hL hb hc e n => u.keep b o e n (fun z => (List.mem_cons.mp (I.stkSub b z)).elim hL hb) hc) (fun b o _ _ hc e n => u.any e n hc) (fun b o hc e n => u.free b o e n hc) (fun b o hc e => u.there b o e hc) u.tups u.frzs u.tbls (fun m' hm => by
  obtain ⟨o', es', ep', ho', r'⟩ := hm
  rw [ho] at ho'; cases ho'
  exact ⟨_, es', ep', hL, r'⟩) hok hg
theorem Inv.turned {t' : Nat} {it : Addr} (I : Inv X pins Z H s) (k : ∀ b o, b ≠ it -> s.heap.get? b = some o -> h'.get? b = some o) (hn : H it = none) (hL : it ≠ X.env.locals)
  (h1 : it ∈ X.ex \/ X.s₀.heap.objs.size <= it) (h2 : ∀ x c, X.env.cells.lookup x = some c -> c ≠ it) (h3 : ∀ p ∈ X.pn ++ pins, p.1 ≠ it) : Inv X pins Z H { s with heap := h', toks := t' } := by
 have nit : ∀ b u, H b = some u -> b ≠ it := fun b u e z => by rw [z, hn] at e; cases e
 refine I.step (g' := s.gens) (d' := s.drawn) (ch := [it]) (fun b hb => ?_) (fun b o _ _ hc e _ => k b o (fun z => hc (by simp [z])) e) (fun b o _ _ hc e _ => ⟨o.slots, k b o (fun z => hc (by simp [z])) e⟩) (fun _ _ _ _ n => n)
  (fun b o hc e => ⟨o, k b o (fun z => hc (by simp [z])) e⟩) (fun _ _ e => e) (fun _ _ _ e => e) (fun _ _ _ e => e) (fun m hm => ?_) (fun b u e => ?_) I.bare
 ·have e : b = it := by simpa using hb
  subst e
  exact ⟨h1, hL, h2, h3⟩
 ·obtain ⟨o, es, ep, ho, r⟩ := hm
  exact ⟨o, es, ep, k _ o (Ne.symm hL) ho, r⟩
 ·refine (I.hok b u e).stay (fun c v hc q => k c v ?_ q) (fun _ q => q) fun _ _ q => q
  rcases hc with z | z
  ·rw [z]; exact nit b u e
  ·exact nit c _ z
theorem Inv.tok (I : Inv X pins Z H s) (t : Nat) : Inv X pins Z H { s with toks := t } := I.un (h' := s.heap) (t' := t) Un.refl I.hok
theorem Inv.kept {t' : Nat} (I : Inv X pins Z H s) (k : ∀ b u, s.heap.get? b = some u -> h'.get? b = some u) : Inv X pins Z H { s with heap := h', toks := t' } := I.un (Un.kept k) (I.hok.kept k)
theorem Inv.laid {a : Addr} {o : HO} {t' : Nat} (I : Inv X pins Z H s) (k : ∀ b u, s.heap.get? b = some u -> h'.get? b = some u) (hp : s.heap.objs.size <= a) (new : yq X.prog X.w (upd H a o) h' a o) :
  Inv X pins Z (upd H a o) { s with heap := h', toks := t' } := I.un (Un.laid k hp (I.hok.fresh hp)) (I.hok.laid k hp new)
theorem Inv.write {x e : Addr} {o : HO} {t' : Nat} (I : Inv X pins Z H s) (mu : Mut (H x)) (he : e = x \/ H e = some (.own x)) (k : ∀ b u, b ≠ e -> s.heap.get? b = some u -> h'.get? b = some u) (heo : ∃ u, h'.get? e = some u)
  (new : yq X.prog X.w (upd H x o) h' x o) : Inv X pins Z (upd H x o) { s with heap := h', toks := t' } := I.un (Un.write mu he k heo) (I.hok.write mu he k heo new)
theorem Inv.pins_of {pins' : List (Addr × Obj)} (I : Inv X pins Z H s) (h : ∀ p ∈ pins', s.heap.get? p.1 = some p.2 /\ H p.1 = none /\ p.1 ≠ X.env.locals /\ p.1 ∉ X.fs /\ ∀ v, p.2.data ≠ .cell v) : Inv X pins' Z H s :=
 ⟨I.ok, I.os, I.bare, I.base, I.loc, I.cell, I.free, I.freeC, fun p hp => (mA_.mp hp).elim (fun z => I.pin p (List.mem_append_left _ z)) (h p), I.hok, I.len⟩
theorem qc7 {N : List Str} (hN : N.Nodup) {i j : Nat} {x : Str} (a : N[i]? = some x) (b : N[j]? = some x) : i = j := by
 obtain ⟨h1, e1⟩ := gI_.mp a
 obtain ⟨h2, e2⟩ := gI_.mp b
 exact (List.getElem_inj hN).mp (e1.trans e2.symm)
theorem qbG {M : Model} {A : Around} {E : Value -> Shared -> Prop} {i : Nat} {x : Str} {v : V} {u : Value} {Q : Unit -> Shared -> Prop} (I : Inv X pins Z H s) (hN : X.N.Nodup) (hi : X.N[i]? = some x) (hx : Loc X.env.scope x) (r : jE v u)
  (h : ∀ s', Inv X pins (Z.set i (some v)) H s' -> (∃ a, Heap.SameBut a s.heap s'.heap /\ (a = X.env.locals \/ X.env.cells.lookup x = some a)) -> Q () s') (hf : X.fn x = true \/ X.env.scope.names.lookup x = some .local := by first | exact .inl rfl | exact .inr rfl | assumption) : wpAny M A (storeName X.env x u) Q E s := by
 obtain ⟨m, hn, hl⟩ := id I.loc
 have hcls : (X.env.scope.kind == .class || (X.env.scope.kind == .module && X.env.locals != X.env.globals)) = false := by rw [I.ok.kind]; rfl
 have hiσ : i < Z.length := by rw [I.len]; exact (gI_.mp hi).1
 have cne := I.cne
 have tracked : ∀ {a : Addr} {h' : Heap}, (∃ o, s.heap.get? a = some o /\ H a = none) -> Heap.SameBut a s.heap h' -> HOk X.prog X.w H h' := fun {a h'} ha hs b ob e => by
  obtain ⟨_, _, hfree⟩ := ha
  refine (I.hok b ob e).stay (fun c w' hc q => (hs.2 c ?_).trans q) (fun _ q => q) fun _ _ q => q
  rintro rfl
  rcases hc with rfl | hc
  ·rw [hfree] at e; cases e
  ·rw [hfree] at hc; cases hc
 rcases hx with hk | hk
 ·refine wpAny_storeName_local hk hn (fun h' hn' hs => ?_) hcls
  obtain ⟨oL, _, _, hoL, _⟩ := id hn
  refine h _ ⟨I.ok, I.os, I.bare, ⟨fun b o e n hb hx => ?_, fun b o e n hb hx => ?_, I.base.free, fun b o e hx => ?_, I.base.tups, I.base.frzs, I.base.tbls⟩, ⟨_, hn', fun j y v' e1 e2 e3 => ?_⟩, fun y c e => ?_, I.free, I.freeC, fun p hp => ?_, tracked ⟨oL, hoL, I.free⟩ hs, by simpa using I.len⟩ ⟨_, hs, .inl rfl⟩
  ·exact (hs.2 b (Nat.ne_of_lt (Nat.lt_of_lt_of_le (Heap.lt_size e) I.ok.above))).trans (I.base.keep b o e n hb hx)
  ·obtain ⟨sl, e1⟩ := I.base.slot b o e n hb hx
   exact ⟨sl, (hs.2 b (Nat.ne_of_lt (Nat.lt_of_lt_of_le (Heap.lt_size e) I.ok.above))).trans e1⟩
  ·obtain ⟨o', e1⟩ := I.base.there b o e hx
   exact ⟨o', (hs.2 b (Nat.ne_of_lt (Nat.lt_of_lt_of_le (Heap.lt_size e) I.ok.above))).trans e1⟩
  ·by_cases hj : j = i
   ·subst hj
    rw [hi] at e1; cases e1
    rw [List.getElem?_set_self hiσ] at e2
    cases e2
    exact ⟨u, r, .inl ⟨hk, by simp⟩⟩
   ·rw [List.getElem?_set_ne (Ne.symm hj)] at e2
    obtain ⟨u', r', q⟩ := hl j y v' e1 e2 e3
    refine ⟨u', r', ?_⟩
    rcases q with ⟨k, e⟩ | ⟨k, c, e, z⟩
    ·refine .inl ⟨k, ?_⟩
     have : y ≠ x := fun e => hj (qc7 hN e1 (e ▸ hi))
     simp [this, e]
    ·exact .inr ⟨k, c, e, z.sameBut hs (cne y c e)⟩
  ·obtain ⟨w', z⟩ := I.cell y c e
   exact ⟨w', z.sameBut hs (cne y c e)⟩
  ·obtain ⟨e, n, ne, nf, d⟩ := I.pin p hp
   exact ⟨(hs.2 p.1 ne).trans e, n, ne, nf, d⟩
 ·have hfn : X.fn x = true := by
   rcases hf with z | z
   ·exact z
   ·rw [z] at hk; cases hk
  obtain ⟨c, hc⟩ := I.ok.has x (.inl hk)
  obtain ⟨w', z⟩ := I.cell x c hc
  refine wpAny_storeName_cell I.ok.kind hk hc z (fun h' hc' hs => ?_)
  obtain ⟨oc, hoc, hocd⟩ := id z
  refine h { s with heap := h' } ⟨I.ok, I.os, I.bare, ⟨fun b o e n hb hx => ?_, fun b o e n hb hx => ?_, I.base.free, fun b o e hx => ?_, I.base.tups, I.base.frzs, I.base.tbls⟩, ⟨m, hn.sameBut hs (Ne.symm (cne x c hc)), fun j y v' e1 e2 e3 => ?_⟩, fun y c' e => ?_, I.free, I.freeC, fun p hp => ?_, tracked ⟨oc, hoc, I.freeC x c hc⟩ hs, by simpa using I.len⟩ ⟨c, hs, .inr hc⟩
  ·exact (hs.2 b (Nat.ne_of_lt (Nat.lt_of_lt_of_le (Heap.lt_size e) (I.ok.cab x c hfn hc)))).trans (I.base.keep b o e n hb hx)
  ·obtain ⟨sl, e1⟩ := I.base.slot b o e n hb hx
   exact ⟨sl, (hs.2 b (Nat.ne_of_lt (Nat.lt_of_lt_of_le (Heap.lt_size e) (I.ok.cab x c hfn hc)))).trans e1⟩
  ·obtain ⟨o', e1⟩ := I.base.there b o e hx
   exact ⟨o', (hs.2 b (Nat.ne_of_lt (Nat.lt_of_lt_of_le (Heap.lt_size e) (I.ok.cab x c hfn hc)))).trans e1⟩
  ·by_cases hj : j = i
   ·subst hj
    rw [hi] at e1; cases e1
    rw [List.getElem?_set_self hiσ] at e2
    cases e2
    exact ⟨u, r, .inr ⟨.inl hk, c, hc, hc'⟩⟩
   ·rw [List.getElem?_set_ne (Ne.symm hj)] at e2
    obtain ⟨u', r', q⟩ := hl j y v' e1 e2 e3
    refine ⟨u', r', ?_⟩
    rcases q with q | ⟨k, c', e, z'⟩
    ·exact .inl q
    ·refine .inr ⟨k, c', e, z'.sameBut hs ?_⟩
     rintro rfl
     exact hj (qc7 hN e1 (I.ok.inj _ _ _ e hc ▸ hi))
  ·by_cases hcc : c' = c
   ·subst hcc; exact ⟨_, hc'⟩
   ·obtain ⟨w2, z2⟩ := I.cell y c' e
    exact ⟨w2, z2.sameBut hs hcc⟩
  ·obtain ⟨e, n, ne, nf, d⟩ := I.pin p hp
   refine ⟨(hs.2 p.1 ?_).trans e, n, ne, nf, d⟩
   intro q
   rw [q, hoc] at e
   have q' : oc = p.2 := Option.some.inj e
   exact d w' (by rw [<- q']; exact hocd)
theorem vE {M : Model} {A : Around} {E : Value -> Shared -> Prop} {i : Nat} {x : Str} {v : V} {u : Value} {Q : Unit -> Shared -> Prop} (I : Inv X pins Z H s) (hN : X.N.Nodup) (hi : X.N[i]? = some x) (hx : Loc X.env.scope x) (r : jE v u)
  (h : ∀ s', Inv X pins (Z.set i (some v)) H s' -> Q () s') (hf : X.fn x = true \/ X.env.scope.names.lookup x = some .local := by first | exact .inl rfl | exact .inr rfl | assumption) : wpAny M A (storeName X.env x u) Q E s :=
 qbG I hN hi hx r (fun s' I' _ => h s' I') hf
theorem Inv.call' {s' : Shared} {ch : List Addr} (I : Inv X pins Z H s) (ho : s'.os = s.os) (u : Un (frs X.stack) ch H H' s.heap s'.heap) (hok : HOk X.prog X.w H' s'.heap) (hg : AllBare s'.gens)
  (hch : ∀ b ∈ ch, (b ∈ X.ex \/ X.s₀.heap.objs.size <= b) /\ b ≠ X.env.locals /\ (∀ x c, X.env.cells.lookup x = some c -> c ≠ b) /\ ∀ p ∈ X.pn ++ pins, p.1 ≠ b) : Inv X pins Z H' s' := by
 obtain ⟨h', g', d', t', o'⟩ := s'
 have e : o' = s.os := ho
 subst e
 exact I.call (g' := g') (t' := t') (d' := d') u hok hg hch
end
abbrev XK := Value -> Option Addr -> Hp -> Prop
abbrev St := List (Option V)
abbrev VK := V -> Hp -> Prop
abbrev TE := St -> Hp -> VK -> Prop
abbrev TT := St -> Hp -> (Bool -> Hp -> Prop) -> Prop
abbrev TA := St -> Hp -> (List V -> Hp -> Prop) -> Prop
structure qeB where
 nx : St -> Hp -> Prop
 rt : VK
 bk : St -> Hp -> Prop := fun _ _ => False
 ct : St -> Hp -> Prop := fun _ _ => False
abbrev TS := qeB -> St -> Hp -> Prop
def EP (X : Cx) (pins : List (Addr × Obj)) (Z : St) (Q : VK) (u : Value) (s' : Shared) : Prop := ∃ v H', Inv X pins Z H' s' /\ jE v u /\ Q v H'
def TP (X : Cx) (pins : List (Addr × Obj)) (Z : St) (Q : Bool -> Hp -> Prop) (b : Bool) (s' : Shared) : Prop := ∃ H', Inv X pins Z H' s' /\ Q b H'
def AP (X : Cx) (pins : List (Addr × Obj)) (Z : St) (Q : List V -> Hp -> Prop) (us : List Value) (s' : Shared) : Prop := ∃ vs H', Inv X pins Z H' s' /\ zb vs us /\ Q vs H'
def SP (X : Cx) (pins : List (Addr × Obj)) (D : qeB) (f : Flow) (s' : Shared) : Prop :=
 match f with
 | .next => ∃ Z' H', Inv X pins Z' H' s' /\ D.nx Z' H'
 | .brk => ∃ Z' H', Inv X pins Z' H' s' /\ D.bk Z' H'
 | .cont => ∃ Z' H', Inv X pins Z' H' s' /\ D.ct Z' H'
 | .ret u => ∃ v Z' H', Inv X pins Z' H' s' /\ jE v u /\ D.rt v H'
def PE (X : Cx) (e : Expr) (t : TE) : Prop :=
 ∀ (pins : List (Addr × Obj)) (s : Shared) (Z : St) (H : Hp) (Q : VK), Inv X pins Z H s -> t Z H Q -> wpAny (model X.prog X.w) X.A (eval e X.env) (EP X pins Z Q) X.xe s
def PT (X : Cx) (e : Expr) (t : TT) : Prop :=
 ∀ (pins : List (Addr × Obj)) (s : Shared) (Z : St) (H : Hp) (Q : Bool -> Hp -> Prop), Inv X pins Z H s -> t Z H Q -> wpAny (model X.prog X.w) X.A (isTrue e X.env (eval e X.env)) (TP X pins Z Q) X.xe s
def PW (X : Cx) (e : Expr) (t : TT) : Prop :=
 ∀ (whole : Sem Value) (pins : List (Addr × Obj)) (s : Shared) (Z : St) (H : Hp) (Q : Bool -> Hp -> Prop), Inv X pins Z H s -> t Z H Q -> wpAny (model X.prog X.w) X.A (isTrue e X.env whole) (TP X pins Z Q) X.xe s
theorem PW.pt {X : Cx} {e : Expr} {t : TT} (h : PW X e t) : PT X e t := h _
def PA (X : Cx) (es : List Expr) (t : TA) : Prop :=
 ∀ (pos : Pos) (pins : List (Addr × Obj)) (s : Shared) (Z : St) (H : Hp) (Q : List V -> Hp -> Prop), Inv X pins Z H s -> t Z H Q -> wpAny (model X.prog X.w) X.A (spliced (backTo pos (starEach es X.env))) (AP X pins Z Q) X.xe s
def PS (X : Cx) (st : Stmt) (t : TS) : Prop :=
 ∀ (pins : List (Addr × Obj)) (s : Shared) (Z : St) (H : Hp) (D : qeB), Inv X pins Z H s -> t D Z H -> wpAny (model X.prog X.w) X.A (exec st X.env) (SP X pins D) X.xe s
def PSs (X : Cx) (st : List Stmt) (t : TS) : Prop :=
 ∀ (pins : List (Addr × Obj)) (s : Shared) (Z : St) (H : Hp) (D : qeB), Inv X pins Z H s -> t D Z H -> wpAny (model X.prog X.w) X.A (execs st X.env) (SP X pins D) X.xe s
theorem thn {α : Type} {t : Sem α} {Q Q' : α -> Shared -> Prop} {M : Model} {A : Around} {E : Value -> Shared -> Prop} {s : Shared} (h : wpAny M A t Q E s) (hQ : ∀ a s, Q a s -> Q' a s) : wpAny M A t Q' E s := wpAny_mono h hQ fun _ _ x => x
end L2
namespace L2
open PySem PySem.Spec PyProof.Rows
section
variable {X : Cx}
theorem bin {a b : Expr} {ta tb : TE} (ha : PE X a ta) (hb : PE X b tb) {pins : List (Addr × Obj)} {s : Shared} {Z : St} {H : Hp} {R : V -> V -> Hp -> Prop} (I : Inv X pins Z H s) (h : ta Z H fun x H1 => tb Z H1 fun y H2 => R x y H2)
  {α : Type} {Q : α -> Shared -> Prop} {f : Value -> Value -> Sem α}
  (hf : ∀ v u s2 x y H2, Inv X pins Z H2 s2 -> jE x v -> jE y u -> R x y H2 -> wpAny (model X.prog X.w) X.A (f v u) Q X.xe s2) :
  wpAny (model X.prog X.w) X.A (eval a X.env) (fun v sQ => wpAny (model X.prog X.w) X.A (eval b X.env) (fun u sV => wpAny (model X.prog X.w) X.A (f v u) Q X.xe sV) X.xe sQ) X.xe s := by
 refine thn (ha pins s Z H _ I h) fun v s1 ⟨x, H1, I1, r1, q1⟩ => ?_
 refine thn (hb pins s1 Z H1 _ I1 q1) fun u s2 ⟨y, H2, I2, r2, q2⟩ => ?_
 exact hf v u s2 x y H2 I2 r1 r2 q2
def qm9 (i : Nat) : TE := fun Z H Q => ∃ v, Z[i]? = some (some v) /\ Q v H
def tC (v : V) : TE := fun _ H Q => Q v H
theorem uy {i : Nat} {x : Str} {pos : Pos} (hN : X.N[i]? = some x) (hv : Vis X.env.scope x) (hd : (x == ("__debug__" : Str)) = false := by decide) (hcd : (x == ("__classdict__" : Str)) = false := by decide) : PE X (.Name x pos) (qm9 i) := by
 intro pins s Z H Q I h
 obtain ⟨v, e, h⟩ := h
 obtain ⟨m, hn, hl⟩ := I.loc
 obtain ⟨u, r, l⟩ := hl i x v hN e hv
 have fin : EP X pins Z Q u s := ⟨v, H, I, r, h⟩
 rcases l with ⟨hk, hm⟩ | ⟨hk, c, hc, hcell⟩
 ·exact wpAny_Name (wpAny_loadName_local I.ok.kind hk hn hm fin) hd
 ·rcases hk with hk | hk
  ·exact wpAny_Name (wpAny_loadName_cell I.ok.kind hk hc hcell fin) hd
  ·exact wpAny_Name (wpAny_loadName_free I.ok.kind hk hc hcell fin hcd) hd
theorem qko {i j pos} : PE X (.Constant (.int i) j pos) (tC (.int i)) := fun _ _ _ H _ I h => wpAny_Constant_int ⟨.int i, H, I.tok _, ⟨_, rfl⟩, h⟩
theorem qme {b j pos} : PE X (.Constant (.bool b) j pos) (tC (.bl b)) := fun _ _ _ H _ I h => Constant_bool ⟨.bl b, H, I, rfl, h⟩
theorem qkp {j pos} : PE X (.Constant .none j pos) (tC .non) := fun _ _ _ H _ I h => Constant_none ⟨.non, H, I, rfl, h⟩
theorem qkq {x j pos} : PE X (.Constant (.str x) j pos) (tC (.str x)) := fun _ _ _ H _ I h => Calls.Constant_str ⟨.str x, H, I.tok _, ⟨_, rfl⟩, h⟩
def Gl (X : Cx) (x : Str) : Prop := X.env.kindOf x = some .globalImplicit
theorem qaZ {E : Value -> Shared -> Prop} {pins : List (Addr × Obj)} {s : Shared} {Z : St} {H : Hp} {x : Str} {u : Value} {pos : Pos} {Q : Value -> Shared -> Prop} (I : Inv X pins Z H s) (hg : Gl X x) (hm : X.mg x = some u) (h : Q u s)
  (hd : (x == ("__debug__" : Str)) = false := by decide) : wpAny (model X.prog X.w) X.A (eval (.Name x pos) X.env) Q E s :=
 Calls.Name_function_global I.ok.kind hg (Calls.loadGlobal_global (by rw [I.ok.glob]; exact I.mod.glob.keeps I.bk) hm h) hd
theorem qaJ {E : Value -> Shared -> Prop} {pins : List (Addr × Obj)} {s : Shared} {Z : St} {H : Hp} {x : Str} {u : Value} {pos : Pos} {Q : Value -> Shared -> Prop} (I : Inv X pins Z H s) (hg : Gl X x) (hm : X.mg x = none) (hv : bootBuiltins x = some u) (h : Q u s)
  (hn : x ≠ "__name__" := by decide) (hd : (x == ("__debug__" : Str)) = false := by decide) : wpAny (model X.prog X.w) X.A (eval (.Name x pos) X.env) Q E s := by
 obtain ⟨mb, h1, h2⟩ := I.mod.blt
 exact Calls.Name_function_global I.ok.kind hg (Calls.loadGlobal_builtin (by rw [I.ok.glob]; exact I.mod.glob.keeps I.bk) hm (by rw [I.ok.blt]; exact h1.keeps I.bk) ((h2 x hn).trans hv) h) hd
theorem qcx {x : Str} {v : V} {u : Value} {pos : Pos} (hg : Gl X x) (hm : X.mg x = some u) (r : jE v u) (hd : (x == ("__debug__" : Str)) = false := by decide) : PE X (.Name x pos) (tC v) :=
 fun _ _ _ H _ I h => qaZ I hg hm ⟨v, H, I, r, h⟩ hd
theorem qeC {x : Str} {v : V} {u : Value} {pos : Pos} (hg : Gl X x) (hm : X.mg x = none) (hv : bootBuiltins x = some u) (r : jE v u) (hn : x ≠ "__name__" := by decide) (hd : (x == ("__debug__" : Str)) = false := by decide) : PE X (.Name x pos) (tC v) :=
 fun _ _ _ H _ I h => qaJ I hg hm hv ⟨v, H, I, r, h⟩ hn hd
variable {a b : Expr} {ta tb : TE} {pos : Pos}
def PC (X : Cx) (op : CmpOp) (a b : Expr) (t : TE) : Prop :=
 ∀ (pins : List (Addr × Obj)) (s : Shared) (Z : St) (H : Hp) (Q : VK), Inv X pins Z H s -> t Z H Q ->
  wpAny (model X.prog X.w) X.A (eval a X.env) (fun v sQ => wpAny (model X.prog X.w) X.A (eval b X.env) (fun u sV => wpAny (model X.prog X.w) X.A (compareOp op v u) (EP X pins Z Q) X.xe sV) X.xe sQ) X.xe s
theorem qgv (b : Expr) {op : CmpOp} (h : op ≠ .In) (h2 : op ≠ .NotIn) : behindInMarks op b = false := by
 have e1 : (op == CmpOp.In) = false := by cases op <;> first | rfl | exact absurd rfl h
 have e2 : (op == CmpOp.NotIn) = false := by cases op <;> first | rfl | exact absurd rfl h2
 cases b <;> simp [behindInMarks, e1, e2]
def tB (t : TE) : TT := fun Z H Q => t Z H fun x H1 => ∃ c, x = .bl c /\ Q c H1
theorem qna {op : CmpOp} {t : TE} (h : PC X op a b t) (h1 : behindInMarks op b = false := by first | exact qgv _ (by decide) (by decide) | rfl) : PT X (.Compare a [op] [b] pos) (tB t) := by
 intro pins s Z H Q I hw
 refine wpAny_isTrue_Compare1 (thn (h pins s Z H _ I hw) fun v s1 h1 => thn h1 fun u s2 h2 => thn h2 fun c s3 ⟨x, H1, I1, r1, q1⟩ => ?_) h1
 obtain ⟨d, rfl, q⟩ := q1
 cases r1
 exact wpAny_truthy_bool ⟨H1, I1, q⟩
theorem qkr {e : Expr} {t : TE} (h : PE X e t) (he : ∀ whole, isTrue e X.env whole = (do let v <- whole; standAt e.pos; holding [v] (truthy v)) := by intro _; rfl) : PT X e (tB t) := by
 intro pins s Z H Q I hw
 refine isTrue_plain (thn (h pins s Z H _ I hw) fun v s1 ⟨x, H1, I1, r1, q1⟩ => ?_) (he _)
 obtain ⟨d, rfl, q⟩ := q1
 cases r1
 exact wpAny_truthy_bool ⟨H1, I1, q⟩
variable {tA tB' : TT} {qaC : List Expr}
def qnK (t u : TT) : TT := fun Z H Q => t Z H fun c H1 => if c = true then u Z H1 Q else Q false H1
def tOr (t u : TT) : TT := fun Z H Q => t Z H fun c H1 => if c = true then Q true H1 else u Z H1 Q
def qnL (t : TT) : TT := fun Z H Q => t Z H fun c H1 => Q (!c) H1
theorem qiA (ha : PT X a tA) : PW X (.BoolOp .And [a] pos) tA := by
 intro wh pins s Z H Q I h
 refine isTrue_and (thn (ha pins s Z H Q I h) fun c s1 e => ?_)
 cases c with
 | true => exact isTrue_and_nil e
 | false => exact e
theorem qks (ha : PT X a tA) : PW X (.BoolOp .Or [a] pos) tA := by
 intro wh pins s Z H Q I h
 refine isTrue_or (thn (ha pins s Z H Q I h) fun c s1 e => ?_)
 cases c with
 | false => exact isTrue_or_nil e
 | true => exact e
theorem qkt (ha : PT X a tA) (hb : PW X (.BoolOp .And (b :: qaC) pos) tB') : PW X (.BoolOp .And (a :: b :: qaC) pos) (qnK tA tB') := by
 intro wh pins s Z H Q I h
 refine isTrue_and (thn (ha pins s Z H _ I h) fun c s1 ⟨H1, I1, q1⟩ => ?_)
 cases c with
 | true => exact hb wh pins s1 Z H1 Q I1 q1
 | false => exact ⟨H1, I1, q1⟩
theorem qmf (ha : PT X a tA) (hb : PW X (.BoolOp .Or (b :: qaC) pos) tB') : PW X (.BoolOp .Or (a :: b :: qaC) pos) (tOr tA tB') := by
 intro wh pins s Z H Q I h
 refine isTrue_or (thn (ha pins s Z H _ I h) fun c s1 ⟨H1, I1, q1⟩ => ?_)
 cases c with
 | true => exact ⟨H1, I1, q1⟩
 | false => exact hb wh pins s1 Z H1 Q I1 q1
theorem qku (ha : PT X a tA) : PT X (.UnaryOp .Not a pos) (qnL tA) := by
 intro pins s Z H Q I h
 exact isTrue_not (ha pins s Z H (fun c H1 => Q (!c) H1) I h)
def qmg (ta tb : TE) : TE := fun Z H Q => ta Z H fun x H1 => ∃ c, x = .bl c /\ if c = true then tb Z H1 Q else Q (.bl false) H1
def qnM (ta tb : TE) : TE := fun Z H Q => ta Z H fun x H1 => ∃ c, x = .bl c /\ if c = true then Q (.bl true) H1 else tb Z H1 Q
def qmh (ta : TE) : TE := fun Z H Q => ta Z H fun x H1 => ∃ c, x = .bl c /\ Q (.bl (!c)) H1
theorem qkv {op} {t : TE} (h : PE X a t) : PE X (.BoolOp op [a] pos) t := fun pins s Z H Q I hw => BoolOp_one (h pins s Z H Q I hw)
theorem qkw (ha : PE X a ta) (hb : PE X (.BoolOp .And (b :: qaC) pos) tb) : PE X (.BoolOp .And (a :: b :: qaC) pos) (qmg ta tb) := by
 intro pins s Z H Q I h
 refine BoolOp_and (thn (ha pins s Z H _ I h) fun v s1 ⟨x, H1, I1, r1, q1⟩ => ?_)
 obtain ⟨c, rfl, q1⟩ := q1
 cases r1
 refine wpAny_truthy_bool ?_
 cases c with
 | true => exact hb pins s1 Z H1 Q I1 q1
 | false => exact ⟨.bl false, H1, I1, rfl, q1⟩
theorem qmi (ha : PE X a ta) (hb : PE X (.BoolOp .Or (b :: qaC) pos) tb) : PE X (.BoolOp .Or (a :: b :: qaC) pos) (qnM ta tb) := by
 intro pins s Z H Q I h
 refine BoolOp_or (thn (ha pins s Z H _ I h) fun v s1 ⟨x, H1, I1, r1, q1⟩ => ?_)
 obtain ⟨c, rfl, q1⟩ := q1
 cases r1
 refine wpAny_truthy_bool ?_
 cases c with
 | false => exact hb pins s1 Z H1 Q I1 q1
 | true => exact ⟨.bl true, H1, I1, rfl, q1⟩
theorem qkx (ha : PE X a ta) : PE X (.UnaryOp .Not a pos) (qmh ta) := by
 intro pins s Z H Q I h
 refine UnaryOp_ (thn (ha pins s Z H _ I h) fun v s1 ⟨x, H1, I1, r1, q1⟩ => ?_)
 obtain ⟨c, rfl, q1⟩ := q1
 cases r1
 exact not_of (wpAny_truthy_bool ⟨.bl (!c), H1, I1, rfl, q1⟩)
def tIf (t : TT) (ta tb : TE) : TE := fun Z H Q => t Z H fun c H1 => if c = true then ta Z H1 Q else tb Z H1 Q
theorem qgw {c : Expr} (hc : PT X c tA) (ha : PE X a ta) (hb : PE X b tb) : PE X (.IfExp c a b pos) (tIf tA ta tb) := by
 intro pins s Z H Q I h
 refine wpAny_IfExp (thn (hc pins s Z H _ I h) fun d s1 ⟨H1, I1, q1⟩ => ?_)
 cases d with
 | true => exact ha pins s1 Z H1 Q I1 q1
 | false => exact hb pins s1 Z H1 Q I1 q1
end
end L2
namespace L2
open PySem PySem.Spec PyProof.Rows
def SqL (K : PySem.W.Frag) (H : Hp) (a : Addr) (xs : List V) : Prop :=
 Rd H a (.lst xs) \/
  ∃ (o : Obj) (its : Array Value) (n : Nat), K.lookup a = some o /\ o.cls = .type "list" /\ o.dict = none /\ o.data = .seq its n /\ its.size <= sizeLine /\ zb xs its.toList
def SqT (K : PySem.W.Frag) (H : Hp) (a : Addr) (xs : List V) : Prop :=
 Rd H a (.tup xs) \/
  ∃ (o : Obj) (its : Array Value) (n : Nat), K.lookup a = some o /\ o.cls = .type "tuple" /\ o.data = .seq its n /\ its.size <= sizeLine /\ zb xs its.toList
def qnN : Value -> Option V
 | .none => some .non
 | .bool b => some (.bl b)
 | .int i _ => some (.int i)
 | .str x _ => some (.str x)
 | .bytes b _ => some (.byt b)
 | .float b _ => some (.flt b)
 | .ref a => some (.ref a)
 | .type n => some (.ty n)
 | _ => none
theorem jE.abs {x : V} {u : Value} (r : jE x u) : qnN u = some x := by
 cases x with
 | non => cases r; rfl
 | bl _ => cases r; rfl
 | int _ => obtain ⟨t, rfl⟩ := r; rfl
 | str _ => obtain ⟨t, rfl⟩ := r; rfl
 | byt _ => obtain ⟨t, rfl⟩ := r; rfl
 | flt _ => obtain ⟨t, rfl⟩ := r; rfl
 | ref _ => cases r; rfl
 | ty _ => cases r; rfl
theorem jE.inj {x y : V} {u : Value} (r : jE x u) (q : jE y u) : x = y := Option.some.inj (r.abs.symm.trans q.abs)
theorem zb.inj : ∀ {xs ys : List V} {us : List Value}, zb xs us -> zb ys us -> xs = ys
 | _, _, _, .nil, .nil => rfl
 | _, _, _, .cons r t, .cons r' t' => by rw [r.inj r', zb.inj t t']
section
variable {X : Cx} {pins : List (Addr × Obj)} {Z : St} {H : Hp} {s : Shared} {a : Addr} {xs ys : List V}
theorem SqL.of {K : PySem.W.Frag} (h : H a = some (.lst xs)) : SqL K H a xs := .inl (.inl h)
theorem Inv.list (I : Inv X pins Z H s) (h : SqL X.K H a xs) : ∃ its : List Value, zb xs its /\ PlainL s.heap a its.toArray /\ xs.length <= sizeLine := by
 rcases h with h | ⟨o, its, n, hk, hc, hd, hs, hz, r⟩
 ·obtain ⟨z, its, n, r, e⟩ := h.ok I.hok
  exact ⟨its, r, ⟨_, n, e, rfl, rfl, rfl⟩, z⟩
 ·refine ⟨its.toList, r, ⟨o, n, I.kIn a o hk, hc, hd, by simpa using hs⟩, ?_⟩
  have e := r.length
  simp only [Array.length_toList] at e
  omega
theorem Inv.tuple (I : Inv X pins Z H s) (h : SqT X.K H a xs) : ∃ its : List Value, zb xs its /\ IsTup s.heap a its.toArray /\ xs.length <= sizeLine := by
 rcases h with h | ⟨o, its, n, hk, hc, hs, hz, r⟩
 ·obtain ⟨z, its, r, p⟩ := h.ok I.hok
  exact ⟨its, r, p, z⟩
 ·refine ⟨its.toList, r, ⟨o, I.kIn a o hk, hc, n, by simpa using hs⟩, ?_⟩
  have e := r.length
  simp only [Array.length_toList] at e
  omega
theorem Inv.list_inj (I : Inv X pins Z H s) (h : SqL X.K H a xs) (h' : SqL X.K H a ys) : xs = ys := by
 obtain ⟨its, r, ⟨o, n, e, _, _, d⟩, _⟩ := I.list h
 obtain ⟨its', r', ⟨o', n', e', _, _, d'⟩, _⟩ := I.list h'
 rw [e] at e'; cases e'
 rw [d] at d'
 injection d' with d1 _
 have : its = its' := by simpa using congrArg Array.toList d1
 subst this
 exact r.inj r'
theorem Inv.tuple_inj (I : Inv X pins Z H s) (h : SqT X.K H a xs) (h' : SqT X.K H a ys) : xs = ys := by
 obtain ⟨its, r, ⟨o, e, _, n, d⟩, _⟩ := I.tuple h
 obtain ⟨its', r', ⟨o', e', _, n', d'⟩, _⟩ := I.tuple h'
 rw [e] at e'; cases e'
 rw [d] at d'
 injection d' with d1 _
 have : its = its' := by simpa using congrArg Array.toList d1
 subst this
 exact r.inj r'
end
abbrev Cx.wish (X : Cx) (E : Value -> Shared -> Prop) : Cx := { X with xe := E }
abbrev Cx.nox (X : Cx) : Cx := X.wish fun _ _ => False
theorem Cx.Ok.wish {X : Cx} (ok : X.Ok) (E : Value -> Shared -> Prop) : (X.wish E).Ok :=
 ⟨ok.mod, ok.kind, ok.glob, ok.blt, ok.above, ok.inj, ok.has, ok.cab, ok.hd, ok.frames, ok.stk, ok.exf, ok.bs, ok.bsz, ok.noex, ok.exfs, ok.funs, ok.frf⟩
theorem Cx.Ok.unwish {X : Cx} {E : Value -> Shared -> Prop} (ok : (X.wish E).Ok) : X.Ok :=
 ⟨ok.mod, ok.kind, ok.glob, ok.blt, ok.above, ok.inj, ok.has, ok.cab, ok.hd, ok.frames, ok.stk, ok.exf, ok.bs, ok.bsz, ok.noex, ok.exfs, ok.funs, ok.frf⟩
section
variable {X : Cx} {pins : List (Addr × Obj)} {Z : St} {H : Hp} {s : Shared} {E : Value -> Shared -> Prop}
theorem Inv.wish (I : Inv X pins Z H s) (E : Value -> Shared -> Prop) : Inv (X.wish E) pins Z H s := ⟨I.ok.wish E, I.os, I.bare, I.base, I.loc, I.cell, I.free, I.freeC, I.pin, I.hok, I.len⟩
theorem Inv.unwish (I : Inv (X.wish E) pins Z H s) : Inv X pins Z H s := ⟨I.ok.unwish, I.os, I.bare, I.base, I.loc, I.cell, I.free, I.freeC, I.pin, I.hok, I.len⟩
theorem SP.unwish {D : qeB} {f : Flow} {s' : Shared} (h : SP (X.wish E) pins D f s') : SP X pins D f s' := by
 cases f with
 | next => obtain ⟨Z', H', I, q⟩ := h; exact ⟨Z', H', I.unwish, q⟩
 | brk => obtain ⟨Z', H', I, q⟩ := h; exact ⟨Z', H', I.unwish, q⟩
 | cont => obtain ⟨Z', H', I, q⟩ := h; exact ⟨Z', H', I.unwish, q⟩
 | ret u => obtain ⟨v, Z', H', I, r, q⟩ := h; exact ⟨v, Z', H', I.unwish, r, q⟩
theorem PE.nox {e : Expr} {t : TE} (h : PE X.nox e t) : PE X e t := fun pins s Z H Q I hw =>
 wpAny_mono (h pins s Z H Q (I.wish _) hw) (fun _ _ ⟨v, H', I', r, q⟩ => ⟨v, H', I'.unwish, r, q⟩) fun _ _ z => False.elim z
theorem PT.nox {e : Expr} {t : TT} (h : PT X.nox e t) : PT X e t := fun pins s Z H Q I hw =>
 wpAny_mono (h pins s Z H Q (I.wish _) hw) (fun _ _ ⟨H', I', q⟩ => ⟨H', I'.unwish, q⟩) fun _ _ z => False.elim z
theorem PSs.nox {st : List Stmt} {t : TS} (h : PSs X.nox st t) : PSs X st t := fun pins s Z H D I hw =>
 wpAny_mono (h pins s Z H D (I.wish _) hw) (fun _ _ q => q.unwish) fun _ _ z => False.elim z
end
section
variable {X : Cx} {st : Stmt} {qaC : List Stmt} {t u : TS} {e : Expr} {te : TE} {pos : Pos}
def qmj : TS := fun D Z H => D.nx Z H
def qnO (t u : TS) : TS := fun D Z H => t { D with nx := u D } Z H
theorem qiB : PSs X [] qmj := fun _ _ Z H _ I h => wpAny_execs_nil ⟨Z, H, I, h⟩
theorem qgx (h1 : PS X st t) (h2 : PSs X qaC u) : PSs X (st :: qaC) (qnO t u) := by
 intro pins s Z H D I h
 refine wpAny_execs_cons (thn (h1 pins s Z H { D with nx := u D } I h) fun f s1 q => ?_)
 cases f with
 | next =>
  obtain ⟨Z', H', I', q⟩ := q
  exact h2 pins s1 Z' H' D I' q
 | ret v => exact q
 | brk => exact q
 | cont => exact q
theorem qeD (h1 : PS X st t) : PSs X [st] t := by
 intro pins s Z H D I h
 refine wpAny_execs_cons (thn (h1 pins s Z H D I h) fun f s1 q => ?_)
 cases f with
 | next => exact wpAny_execs_nil q
 | ret v => exact q
 | brk => exact q
 | cont => exact q
theorem Inv.quiet {pins : List (Addr × Obj)} {Z : St} {H : Hp} {s : Shared} (I : Inv X pins Z H s) : interactive X.env = false := by simp [interactive, I.ok.kind]
def qmk (te : TE) : TS := fun D Z H => te Z H fun _ H1 => D.nx Z H1
theorem qiC (he : PE X e te) (hs : swapsWith e none pos.line X.env = pure false := by rfl) : PS X (.Expr e pos) (qmk te) := by
 intro pins s Z H D I h
 exact wpAny_Expr_any (thn (he pins s Z H _ I h) fun v s1 ⟨x, H1, I1, r1, q1⟩ => ⟨Z, H1, I1, q1⟩) I.quiet hs
def qnP (te : TE) : TS := fun D Z H => te Z H D.rt
theorem qhG (he : PE X e te) : PS X (.Return (some e) pos) (qnP te) := by
 intro pins s Z H D I h
 exact wpAny_Return_some (thn (he pins s Z H _ I h) fun v s1 ⟨x, H1, I1, r1, q1⟩ => ⟨x, Z, H1, I1, r1, q1⟩)
def qnQ (c : TT) (t u : TS) : TS := fun D Z H => c Z H fun b H1 => if b = true then t D Z H1 else u D Z H1
theorem qml {c : Expr} {a b : List Stmt} {tc : TT} (hc : PT X c tc) (ha : PSs X a t) (hb : PSs X b u) : PS X (.If c a b pos) (qnQ tc t u) := by
 intro pins s Z H D I h
 refine wpAny_If (thn (hc pins s Z H _ I h) fun d s1 ⟨H1, I1, q1⟩ => ?_)
 cases d with
 | true => exact ha pins s1 Z H1 D I1 q1
 | false => exact hb pins s1 Z H1 D I1 q1
end
abbrev TG := V -> St -> Hp -> (St -> Hp -> Prop) -> Prop
abbrev TGs := List V -> St -> Hp -> (St -> Hp -> Prop) -> Prop
def PG (X : Cx) (target : Expr) (t : TG) : Prop :=
 ∀ (pins : List (Addr × Obj)) (s : Shared) (Z : St) (H : Hp) (v : V) (u : Value) (Q : St -> Hp -> Prop), Inv X pins Z H s -> jE v u -> t v Z H Q ->
  wpAny (model X.prog X.w) X.A (assign target X.env u) (fun _ s' => ∃ Z' H', Inv X pins Z' H' s' /\ Q Z' H') X.xe s
def PGs (X : Cx) (ts : List Expr) (t : TGs) : Prop :=
 ∀ (pins : List (Addr × Obj)) (s : Shared) (Z : St) (H : Hp) (vs : List V) (us : List Value) (Q : St -> Hp -> Prop), Inv X pins Z H s -> zb vs us -> t vs Z H Q ->
  wpAny (model X.prog X.w) X.A (assignInOrder ((assignEach ts X.env).map (·.2)) us) (fun _ s' => ∃ Z' H', Inv X pins Z' H' s' /\ Q Z' H') X.xe s
abbrev qmm := V -> V -> V -> Hp -> (Hp -> Prop) -> Prop
def qnb (X : Cx) (t : qmm) : Prop :=
 ∀ (pins : List (Addr × Obj)) (s : Shared) (Z : St) (H : Hp) (o i v : V) (ov iv u : Value) (Q : Hp -> Prop), Inv X pins Z H s -> jE o ov -> jE i iv -> jE v u -> t o i v H Q ->
  wpAny (model X.prog X.w) X.A (setItem ov iv u) (fun _ s' => ∃ H', Inv X pins Z H' s' /\ Q H') X.xe s
section
variable {X : Cx} {pos : Pos}
def qky (i : Nat) : TG := fun v Z H Q => Q (Z.set i (some v)) H
theorem qiD {i : Nat} {x : Str} (hN : X.N.Nodup) (hi : X.N[i]? = some x) (hx : Loc X.env.scope x) (hf : X.fn x = true \/ X.env.scope.names.lookup x = some .local := by first | exact .inl rfl | exact .inr rfl | assumption) : PG X (.Name x pos) (qky i) := by
 intro pins s Z H v u Q I r h
 exact wpAny_assign_Name (vE I hN hi hx r (fun s' I' => ⟨_, H, I', h⟩) hf)
def qnR : TGs := fun vs Z H Q => vs = [] /\ Q Z H
def qmn (t : TG) (u : TGs) : TGs := fun vs Z H Q => ∃ v r, vs = v :: r /\ t v Z H fun Z' H' => u r Z' H' Q
theorem qiE : PGs X [] qnR := by
 intro pins s Z H vs us Q I r h
 obtain ⟨e, h⟩ := h
 subst e
 cases r
 exact assignInOrder_nil ⟨Z, H, I, h⟩
theorem qgy {e : Expr} {es : List Expr} {t : TG} {u : TGs} (h1 : PG X e t) (h2 : PGs X es u)
  (hs : (assignEach (e :: es) X.env).map (·.2) = assign e X.env :: (assignEach es X.env).map (·.2) := by rfl) : PGs X (e :: es) (qmn t u) := by
 intro pins s Z H vs us Q I r h
 obtain ⟨v, vr, e1, h⟩ := h
 subst e1
 cases r with
 | cons r rr =>
  rw [hs]
  refine assignInOrder_cons (thn (h1 pins s Z H _ _ _ I r h) fun _ s1 ⟨Z1, H1, I1, q1⟩ => ?_)
  exact h2 pins s1 Z1 H1 _ _ Q I1 rr q1
def qnS (K : PySem.W.Frag) (n : Nat) (t : TGs) : TG := fun v Z H Q => ∃ a xs, v = .ref a /\ SqT K H a xs /\ xs.length = n /\ t xs Z H Q
theorem qkz {es : List Expr} {k : Nat} {t : TGs} {n : Nat} (hc : X.calm = true) (h : PGs X es t)
  (hn : (assignEach es X.env).length = n := by rfl) (hst : (assignEach es X.env).findIdx? (·.1) = none := by rfl) : PG X (.Tuple es k pos) (qnS X.K n t) := by
 intro pins s Z H v u Q I r hw
 obtain ⟨a, xs, e1, hq, hl, hw⟩ := hw
 subst e1
 cases r
 obtain ⟨its, rv, ht, hz⟩ := I.tuple hq
 refine assign_Tuple_tuple (I.ok.hd hc) ht (by simp [hn, <- hl, rv.length]) hst fun h' hx => ?_
 have I1 : Inv X pins Z H { s with heap := h' } := I.kept (t' := s.toks) fun b o e => hx b o (Nat.ne_of_lt (Heap.lt_size e)) e
 exact h pins _ Z H xs _ Q I1 (by simpa using rv) hw
def qnT (to ti : TE) (t : qmm) : TG := fun v Z H Q => to Z H fun o H1 => ti Z H1 fun i H2 => t o i v H2 fun H3 => Q Z H3
theorem qkA {o i : Expr} {to ti : TE} {t : qmm} (ho : PE X o to) (hi : PE X i ti) (hs : qnb X t)
  (ha : ∀ v, assign (.Subscript o i pos) X.env v = (do
   let ov <- holding [v] (eval o X.env)
   let iv <- holding [v, ov] (eval i X.env)
   standAt pos
   holding [v, ov, iv] (setItem ov iv v)
   release [v, ov, iv] []) := by intro _; rfl) : PG X (.Subscript o i pos) (qnT to ti t) := by
 intro pins s Z H v u Q I r h
 rw [ha]
 refine wpAny_bind (wpAny_holding (thn (ho pins s Z H _ I h) fun ov s1 ⟨x, H1, I1, r1, q1⟩ => ?_))
 refine wpAny_bind (wpAny_holding (thn (hi pins s1 Z H1 _ I1 q1) fun iv s2 ⟨y, H2, I2, r2, q2⟩ => ?_))
 refine wpAny_bind (wpAny_standAt (wpAny_bind (wpAny_holding (thn (hs pins s2 Z H2 x y v ov iv u _ I2 r1 r2 r q2) fun _ s3 ⟨H3, I3, q3⟩ => ?_))))
 exact wpAny_release ⟨Z, H3, I3, q3⟩
def qnc (te : TE) (g : TG) : TS := fun D Z H => te Z H fun x H1 => g x Z H1 D.nx
theorem qhH {tg e : Expr} {te : TE} {g : TG} (he : PE X e te) (hg : PG X tg g) (hs : swapsWithSole [tg] e pos.line X.env = pure false := by rfl) (hw : swappedStores [tg] e X.env = pure none := by rfl)
  (h1 : (assignEach [tg] X.env).map (·.2) = [assign tg X.env] := by rfl) : PS X (.Assign [tg] e pos) (qnc te g) := by
 intro pins s Z H D I h
 refine wpAny_Assign_stores (thn (he pins s Z H _ I h) fun v s1 ⟨x, H1, I1, r1, q1⟩ => ?_) hs hw
 rw [h1]
 exact thn (hg pins s1 Z H1 x v _ I1 r1 q1) fun _ s2 q => q
theorem qhI {i : Nat} {x : Str} {e : Expr} {te : TE} {pos' : Pos} (hN : X.N.Nodup) (hi : X.N[i]? = some x) (hx : Loc X.env.scope x) (he : PE X e te) (hs : swapsWith e (some (.Name x pos')) pos.line X.env = pure false := by rfl) (hf : X.fn x = true \/ X.env.scope.names.lookup x = some .local := by first | exact .inl rfl | exact .inr rfl | assumption) :
  PS X (.Assign [.Name x pos'] e pos) (qnc te (qky i)) := by
 intro pins s Z H D I h
 refine wpAny_Assign_Name (thn (he pins s Z H _ I h) fun v s1 ⟨y, H1, I1, r1, q1⟩ => ?_) hs
 exact vE I1 hN hi hx r1 (fun s2 I2 => ⟨_, H1, I2, q1⟩) hf
def qnU (i j : Nat) (ta : TA) : TS := fun D Z H => ta Z H fun vs H1 => ∃ v w, vs = [v, w] /\ D.nx ((Z.set i (some v)).set j (some w)) H1
theorem qkB {i j : Nat} {x y : Str} {a b : Expr} {ta : TA} {px py pt : Pos} {kt k2 pt2} (hc : X.calm = true) (hN : X.N.Nodup) (hi : X.N[i]? = some x) (hj : X.N[j]? = some y) (hij : i ≠ j)
  (hx : X.env.scope.names.lookup x = some .local) (hy : X.env.scope.names.lookup y = some .local) (ha : PA X [a, b] ta)
  (hw : swappedStores [.Tuple [.Name x px, .Name y py] kt pt] (.Tuple [a, b] k2 pt2) X.env = pure (some [x, y]))
  (hs : swapsWithSole [.Tuple [.Name x px, .Name y py] kt pt] (.Tuple [a, b] k2 pt2) pos.line X.env = pure false := by rfl) :
  PS X (.Assign [.Tuple [.Name x px, .Name y py] kt pt] (.Tuple [a, b] k2 pt2) pos) (qnU i j ta) := by
 intro pins s Z H D I h
 rw [exec_Assign_arm]
 refine wpAny_bind (wpAny_standAt ?_)
 rw [hs]
 refine wpAny_bind (wpAny_pure ?_)
 rw [if_neg (by decide)]
 refine wpAny_bind (Tuple_ (thn (ha _ pins s Z H _ I h) fun us s1 ⟨vs, H1, I1, r1, q1⟩ => ?_))
 obtain ⟨v, w, e1, q1⟩ := q1
 subst e1
 obtain ⟨u1, u2, rfl, rv, rw'⟩ : ∃ u1 u2, us = [u1, u2] /\ jE v u1 /\ jE w u2 := by
  cases r1 with
  | cons p q =>
   cases q with
   | cons p' q' =>
    cases q'
    exact ⟨_, _, rfl, p, p'⟩
 refine wpAny_newObj_type ?_ (by show 2 <= sizeLine; decide)
 have I2 : Inv X pins Z H1 { s1 with heap := s1.heap.push { cls := .type "tuple", data := .seq [u1, u2].toArray } } := I1.kept (t' := s1.toks) fun b o e => Heap.get?_push_of_some _ e
 rw [hw]
 refine wpAny_bind (wpAny_pure ?_)
 show wpAny (model X.prog X.w) X.A (do rule "assign.swapped-stores"; let items <- unpackItems (.ref s1.heap.objs.size) 2 none; assignInOrder [fun v => bindName X.env y v, fun v => bindName X.env x v] items.reverse; pure Flow.next) _ _ _
 refine wpAny_bind (wpAny_rule (wpAny_bind (unpackItems_tuple (items := #[u1, u2]) (I.ok.hd hc) (IsTup.new s1.heap _) fun h' hx' => ?_)))
 have I3 := I2.kept (h' := h') (t' := s1.toks) fun b o e => hx' b o (Nat.ne_of_lt (Heap.lt_size e)) e
 show wpAny _ _ (assignInOrder [fun v => bindName X.env y v, fun v => bindName X.env x v] [u2, u1] >>= fun _ => pure Flow.next) _ _ _
 refine wpAny_bind (assignInOrder_cons (wpAny_bindName (vE I3 hN hj (.inl hy) rw' (fun s2 I4 => ?_) (.inr hy))))
 refine assignInOrder_cons (wpAny_bindName (vE I4 hN hi (.inl hx) rv (fun s3 I5 => assignInOrder_nil (wpAny_pure ?_)) (.inr hx)))
 rw [List.set_comm _ _ (Ne.symm hij)] at I5
 exact ⟨_, H1, I5, q1⟩
end
section
variable {X : Cx} {pos : Pos}
def qkC (c : TT) (tb : TS) : TS := fun D Z H => ∃ W : Nat -> St -> Hp -> Prop, (∃ m, W m Z H) /\ ∀ m Z H, W m Z H ->
 c Z H fun b H1 => if b = true then ∃ N : St -> Hp -> Prop, (∀ Z' H', N Z' H' -> ∃ m', m' < m /\ W m' Z' H') /\ tb { D with nx := N, ct := N, bk := D.nx } Z H1 else D.nx Z H1
theorem qgz {c : Expr} {body : List Stmt} {tc : TT} {tb : TS} (hp : PassesOwn (model X.prog X.w) X.A X.env X.xe) (hc : PT X c tc) (hb : PSs X body tb) : PS X (.While c body [] pos) (qkC tc tb) := by
 intro pins s Z H D I h
 obtain ⟨W, ⟨m0, w0⟩, turn⟩ := h
 refine wpAny_While (codeAny_whileLoop (fun n s' => ∃ Z' H', Inv X pins Z' H' s' /\ W n Z' H') ?_ m0 ⟨Z, H, I, w0⟩)
 rintro n s1 ⟨Z1, H1, I1, w1⟩
 refine wpAny_passesOwn hp (thn (hc pins s1 Z1 H1 _ I1 (turn n Z1 H1 w1)) fun b s2 ⟨H2, I2, q2⟩ => ?_)
 cases b with
 | true =>
  obtain ⟨N, hN, q2⟩ := q2
  rw [if_pos rfl]
  refine wpAny_passesOwn hp (thn (hb pins s2 Z1 H2 _ I2 q2) fun f s3 q3 => ?_)
  cases f with
  | next =>
   obtain ⟨Z3, H3, I3, n3⟩ := q3
   obtain ⟨m', hm, w3⟩ := hN Z3 H3 n3
   exact ⟨m', hm, Z3, H3, I3, w3⟩
  | cont =>
   obtain ⟨Z3, H3, I3, n3⟩ := q3
   obtain ⟨m', hm, w3⟩ := hN Z3 H3 n3
   exact ⟨m', hm, Z3, H3, I3, w3⟩
  | brk => exact q3
  | ret v => exact q3
 | false =>
  rw [if_neg Bool.false_ne_true]
  exact wpAny_execs_nil ⟨Z1, H2, I2, q2⟩
end
structure It where
 go : Nat -> Hp -> Prop
 yld : Nat -> Hp -> V -> Hp -> Prop
 stop : Nat -> Hp -> Prop
def qct (X : Cx) (pins : List (Addr × Obj)) (H : Hp) (b : Addr) : Prop :=
 H b = none /\ b ≠ X.env.locals /\ b ∉ X.fs /\ (b ∈ X.ex \/ X.s₀.heap.objs.size <= b) /\ (∀ x c, X.env.cells.lookup x = some c -> c ≠ b) /\ ∀ p ∈ X.pn ++ pins, p.1 ≠ b
theorem Inv.fpOk {X : Cx} {pins : List (Addr × Obj)} {Z : St} {H H' : Hp} {s : Shared} {b : Addr} (I : Inv X pins Z H s) (hb : s.heap.objs.size <= b) (hn : H' b = none) : qct X pins H' b := by
 refine ⟨hn, Nat.ne_of_gt (Nat.lt_of_lt_of_le I.lt hb), I.nofs hb, .inr (Nat.le_trans I.sz hb), fun x c e z => ?_, fun p hp z => ?_⟩
 ·obtain ⟨v, q⟩ := I.cell x c e
  exact absurd (Nat.lt_of_lt_of_le q.lt (by rw [z]; exact hb)) (Nat.lt_irrefl _)
 ·exact absurd (Nat.lt_of_lt_of_le (Heap.lt_size (I.pin p hp).1) (by rw [z]; exact hb)) (Nat.lt_irrefl _)
structure qkD (P : Program) (w : World) (K : PySem.W.Frag) (tg : Expr) (J : It) (fp : List Addr) (it : Addr) (tn : Nat -> Heap -> Prop) : Prop where
 mem : it ∈ fp
 obj : ∀ i h, tn i h -> ∀ b ∈ fp, ∃ o, h.get? b = some o /\ ∀ v, o.data ≠ .cell v
 keep : ∀ i h h', tn i h -> (∀ b ∈ fp, ∀ o, h.get? b = some o -> h'.get? b = some o) -> tn i h'
 item : ∀ (X : Cx), X.prog = P -> X.w = w -> X.K = K -> X.calm = true -> ∀ (i : Nat) (pins : List (Addr × Obj)) (s : Shared) (Z : St) (H : Hp) (E : Value -> Shared -> Prop), Inv X pins Z H s -> (∀ b ∈ fp, qct X pins H b) -> tn i s.heap -> J.go i H ->
  wpAny (model P w) X.A (pyNext (.ref it)) (fun r s1 => ∃ u, r = some u /\
   wpAny (model P w) X.A (letOwnedTupleGo tg (.ref it) u) (fun _ s2 => ∃ x H', Inv X pins Z H' s2 /\ jE x u /\ J.yld i H x H' /\ tn (i + 1) s2.heap /\ ∀ b ∈ fp, H' b = none) E s1) E s
 done : ∀ (X : Cx), X.prog = P -> X.w = w -> X.K = K -> X.calm = true -> ∀ (i : Nat) (pins : List (Addr × Obj)) (s : Shared) (Z : St) (H : Hp) (E : Value -> Shared -> Prop), Inv X pins Z H s -> (∀ b ∈ fp, qct X pins H b) -> tn i s.heap -> J.stop i H ->
  wpAny (model P w) X.A (pyNext (.ref it)) (fun r s1 => r = none /\ Inv X pins Z H s1) E s
 self : ∀ (A : Around) (i : Nat) (s : Shared) (Q : Value -> Shared -> Prop) (E : Value -> Shared -> Prop), tn i s.heap -> Q (.ref it) s -> wpAny (model P w) A (pyIter (.ref it)) Q E s
abbrev TI := St -> Hp -> (It -> Hp -> Prop) -> Prop
def PIE (X : Cx) (pins : List (Addr × Obj)) (Z : St) (tg : Expr) (R : It -> Hp -> Prop) (itv : Value) (s2 : Shared) : Prop :=
 ∃ (it : Addr) (fp : List Addr) (tn : Nat -> Heap -> Prop) (J : It) (H' : Hp), itv = .ref it /\ Inv X pins Z H' s2 /\ qkD X.prog X.w X.K tg J fp it tn /\ tn 0 s2.heap /\ (∀ b ∈ fp, qct X pins H' b) /\ R J H'
def PI (X : Cx) (tg iter : Expr) (wi : TI) : Prop :=
 ∀ (pins : List (Addr × Obj)) (s : Shared) (Z : St) (H : Hp) (R : It -> Hp -> Prop), Inv X pins Z H s -> wi Z H R ->
  wpAny (model X.prog X.w) X.A (eval iter X.env) (fun v s1 => wpAny (model X.prog X.w) X.A (pyIter v) (PIE X pins Z tg R) X.xe s1) X.xe s
theorem qiF {M : Model} {A : Around} {E : Value -> Shared -> Prop} {s : Shared} {tg : Expr} {it : Addr} {u : Value} {o : Obj} {n : String} {vs : Array Value} {Q : Unit -> Shared -> Prop} (ho : s.heap.get? it = some o) (hc : o.cls = .type n) (hd : o.data = .fields vs)
  (hn : ["enumerate", "zip", "dict_itemiterator", "dict_reverseitemiterator", "odict_iterator", "itertools.zip_longest", "itertools.pairwise"].contains n = false) (hQ : Q () s) : wpAny M A (letOwnedTupleGo tg (.ref it) u) Q E s := by
 unfold letOwnedTupleGo
 cases tg <;> first
  | exact wpAny_pure hQ
  | (cases u <;> first
    | exact wpAny_pure hQ
    | (refine wpAny_bind (wpAny_load ho ?_)
       rw [hc, hd]
       show wpAny M A (if (["enumerate", "zip", "dict_itemiterator", "dict_reverseitemiterator", "odict_iterator", "itertools.zip_longest", "itertools.pairwise"].contains n && vs[0]? == some (rawInt _)) = true then _ else _) Q E s
       rw [if_neg (by intro h; rw [hn, Bool.false_and] at h; cases h)]
       exact wpAny_pure hQ))
def Itl (K : PySem.W.Frag) (a : Addr) : It :=
 ⟨fun i H => ∃ xs x, SqL K H a xs /\ xs[i]? = some x, fun i H x H' => H' = H /\ ∀ xs, SqL K H a xs -> xs[i]? = some x, fun i H => ∃ xs, SqL K H a xs /\ xs.length <= i⟩
def Itt (K : PySem.W.Frag) (a : Addr) : It :=
 ⟨fun i H => ∃ xs x, SqT K H a xs /\ xs[i]? = some x, fun i H x H' => H' = H /\ ∀ xs, SqT K H a xs -> xs[i]? = some x, fun i H => ∃ xs, SqT K H a xs /\ xs.length <= i⟩
def Itr (lo : Int) (n : Nat) : It := ⟨fun i _ => i < n, fun i H x H' => H' = H /\ x = .int (lo + i), fun i _ => n <= i⟩
theorem qeE {P : Program} {w : World} {K : PySem.W.Frag} {tg : Expr} (a it : Addr) : qkD P w K tg (Itl K a) [it] it (fun i h => h.IsListIter it a i) where
 mem := by simp
 obj := fun i h st b hb => by
  have e : b = it := by simpa using hb
  subst e
  obtain ⟨o, e, c, d⟩ := st
  exact ⟨o, e, fun v z => by rw [d] at z; cases z⟩
 keep := fun i h h' st k => st.at fun o e => k it (by simp) o e
 item := by
  intro X hP hw hK hc i pins s Z H E I hf st hg
  subst hP hw hK
  obtain ⟨xs, x, hq, hx⟩ := hg
  obtain ⟨its, rv, p, hz⟩ := I.list hq
  obtain ⟨u, hu, ru⟩ := rv.get hx
  obtain ⟨f0, f1, f2, f3, f4, f5⟩ := hf it (by simp)
  refine wpAny_pyNext_list_item st p.isList (x := u) (by simpa using hu) fun h' st' sb => ?_
  have I1 : Inv X pins Z H { s with heap := h' } := I.turned (t' := s.toks) (fun b o hb e => (sb.2 b hb).trans e) f0 f1 f3 f4 f5
  obtain ⟨o, e, c, d⟩ := id st'
  exact ⟨u, rfl, qiF (s := { s with heap := h' }) e c d (by decide) ⟨x, H, I1, ru, ⟨rfl, fun ys hy => by rw [I.list_inj hy hq]; exact hx⟩, st', fun b hb => (hf b hb).1⟩⟩
 done := by
  intro X hP hw hK hc i pins s Z H E I hf st hg
  subst hP hw hK
  obtain ⟨xs, hq, hx⟩ := hg
  obtain ⟨its, rv, p, hz⟩ := I.list hq
  obtain ⟨f0, f1, f2, f3, f4, f5⟩ := hf it (by simp)
  have hl := rv.length
  exact wpAny_pyNext_list_end (I.ok.hd hc) st p.isList (by simp; omega) fun h' eb => ⟨rfl, I.turned (t' := s.toks) (fun b o hb e => eb b o hb e) f0 f1 f3 f4 f5⟩
 self := fun _ _ _ _ _ st h => wpAny_pyIter_listiter st h
theorem qdW {P : Program} {w : World} {K : PySem.W.Frag} {tg : Expr} (a it : Addr) : qkD P w K tg (Itt K a) [it] it (fun i h => h.IsTupleIter it a i) where
 mem := by simp
 obj := fun i h st b hb => by
  have e : b = it := by simpa using hb
  subst e
  obtain ⟨o, e, c, d⟩ := st
  exact ⟨o, e, fun v z => by rw [d] at z; cases z⟩
 keep := fun i h h' st k => st.at fun o e => k it (by simp) o e
 item := by
  intro X hP hw hK hc i pins s Z H E I hf st hg
  subst hP hw hK
  obtain ⟨xs, x, hq, hx⟩ := hg
  obtain ⟨its, rv, p, hz⟩ := I.tuple hq
  obtain ⟨u, hu, ru⟩ := rv.get hx
  obtain ⟨f0, f1, f2, f3, f4, f5⟩ := hf it (by simp)
  refine wpAny_pyNext_tuple_item st (show s.heap.IsTuple a its.toArray from p) (x := u) (by simpa using hu) fun h' st' sb => ?_
  have I1 : Inv X pins Z H { s with heap := h' } := I.turned (t' := s.toks) (fun b o hb e => (sb.2 b hb).trans e) f0 f1 f3 f4 f5
  obtain ⟨o, e, c, d⟩ := id st'
  exact ⟨u, rfl, qiF (s := { s with heap := h' }) e c d (by decide) ⟨x, H, I1, ru, ⟨rfl, fun ys hy => by rw [I.tuple_inj hy hq]; exact hx⟩, st', fun b hb => (hf b hb).1⟩⟩
 done := by
  intro X hP hw hK hc i pins s Z H E I hf st hg
  subst hP hw hK
  obtain ⟨xs, hq, hx⟩ := hg
  obtain ⟨its, rv, p, hz⟩ := I.tuple hq
  obtain ⟨f0, f1, f2, f3, f4, f5⟩ := hf it (by simp)
  have hl := rv.length
  exact wpAny_pyNext_tuple_end (I.ok.hd hc) st (show s.heap.IsTuple a its.toArray from p) (by simp; omega) fun h' eb => ⟨rfl, I.turned (t' := s.toks) (fun b o hb e => eb b o hb e) f0 f1 f3 f4 f5⟩
 self := fun _ _ _ _ _ st h => wpAny_pyIter_tupleiter st h
theorem qdX {P : Program} {w : World} {K : PySem.W.Frag} {tg : Expr} (it : Addr) (lo : Int) (n : Nat) : qkD P w K tg (Itr lo n) [it] it (fun i h => IsRangeIter h it (lo + (i : Nat) * 1) ((n : Int) - (i : Nat)) 1) where
 mem := by simp
 obj := fun i h st b hb => by
  have e : b = it := by simpa using hb
  subst e
  exact ⟨_, st, fun v z => by
   have z' : Data.fields _ = Data.cell v := z
   cases z'⟩
 keep := fun i h h' st k => k it (by simp) _ st
 item := by
  intro X hP hw hK hc i pins s Z H E I hf st hg
  subst hP hw hK
  obtain ⟨f0, f1, f2, f3, f4, f5⟩ := hf it (by simp)
  have W := Walks.range (prog := X.prog) (w := X.w) (I.ok.hd hc) it lo 1 n
  refine W.item i s _ _ hg st fun v h' tk hv st' kk => ?_
  obtain ⟨t, rfl⟩ := hv
  have I1 : Inv X pins Z H { s with heap := h', toks := tk } := I.turned (fun b o hb e => kk b o (by simpa using hb) e) f0 f1 f3 f4 f5
  refine ⟨_, rfl, qiF (s := { s with heap := h', toks := tk }) (n := "range_iterator") st' rfl rfl (by decide) ⟨.int (lo + i), H, I1, ⟨t, ?_⟩, ⟨rfl, rfl⟩, st', fun b hb => (hf b hb).1⟩⟩
  rw [Int.mul_one]
 done := by
  intro X hP hw hK hc i pins s Z H E I hf st hg
  subst hP hw hK
  obtain ⟨f0, f1, f2, f3, f4, f5⟩ := hf it (by simp)
  exact wpAny_pyNext_range_end (I.ok.hd hc) st (by have : n <= i := hg; omega) fun h' eb => ⟨rfl, I.turned (t' := s.toks) (fun b o hb e => eb b o hb e) f0 f1 f3 f4 f5⟩
 self := fun _ _ _ _ _ st h => wpAny_pyIter_rangeiter st h
end L2
namespace L2
open PySem PySem.Spec PyProof.Rows
section
variable {X : Cx} {tg : Expr}
theorem qgA {pins : List (Addr × Obj)} {Z : St} {H : Hp} {s : Shared} {R : It -> Hp -> Prop} {E : Value -> Shared -> Prop} {lo hi : Int} {t u v : Tok} {tk : Nat} (I : Inv X pins Z H s) (h1 : -(2 ^ 62) <= lo) (h2 : lo < 2 ^ 62) (h3 : -(2 ^ 62) <= hi) (h4 : hi < 2 ^ 62)
  (q : R (Itr lo (hi - lo).toNat) H) : wpAny (model X.prog X.w) X.A (pyIter (.ref s.heap.objs.size)) (PIE X pins Z tg R) E { s with heap := s.heap.push { cls := .type "range", data := .fields #[.int lo t, .int hi u, .int 1 v] }, toks := tk } := by
 refine wpAny_pyIter_range (IsRange.new ..) (small_one h1 h2 h3 h4) ?_
 have I1 : Inv X pins Z H { s with heap := s.heap.push { cls := .type "range", data := .fields #[.int lo t, .int hi u, .int 1 v] }, toks := tk } := I.kept fun b o e => Heap.get?_push_of_some _ e
 refine ⟨(s.heap.push { cls := .type "range", data := .fields #[.int lo t, .int hi u, .int 1 v] }).objs.size, [(s.heap.push { cls := .type "range", data := .fields #[.int lo t, .int hi u, .int 1 v] }).objs.size], _, _, H, rfl,
  I1.kept (t' := tk) fun b o e => Heap.get?_push_of_some _ e, qdX _ lo (hi - lo).toNat, ?_, fun b hb => ?_, q⟩
 ·have e1 : lo + ((0 : Nat) : Int) * 1 = lo := by simp
  have e2 : (((hi - lo).toNat : Nat) : Int) - ((0 : Nat) : Int) = Builtin.Range.rangeSize lo hi 1 := by rw [rangeSize_one]; split <;> omega
  show IsRangeIter _ _ (lo + ((0 : Nat) : Int) * 1) ((((hi - lo).toNat : Nat) : Int) - ((0 : Nat) : Int)) 1
  rw [e1, e2]
  exact Heap.get?_push_size _ rfl
 ·have e : b = (s.heap.push { cls := .type "range", data := .fields #[.int lo t, .int hi u, .int 1 v] }).objs.size := by simpa using hb
  subst e
  exact I1.fpOk (Nat.le_refl _) (I1.hok.fresh (Nat.le_refl _))
def qmo (ta : TA) : TI := fun Z H R => ta Z H fun vs H1 => ∃ j : Int, vs = [.int j] /\ -(2 ^ 62) <= j /\ j < 2 ^ 62 /\ R (Itr 0 j.toNat) H1
theorem qeF {a : Expr} {ta : TA} {p pos : Pos} (hg : Gl X "range") (hm : X.mg "range" = none) (ha : PA X [a] ta) (hs : starEach [a] X.env = [(false, eval a X.env)] := by rfl) : PI X tg (.Call (.Name "range" p) [a] [] pos) (qmo ta) := by
 intro pins s Z H R I h
 refine Call_ (qaJ I hg hm boot_range (PyProof.Rows.callWith_type1 (thn (ha pos pins s Z H _ I h) fun us s1 ⟨vs, H1, I1, r1, q1⟩ => ?_) hs rfl))
 obtain ⟨j, e, q1, q2, q⟩ := q1
 subst e
 cases r1 with
 | cons r rr =>
  cases rr
  obtain ⟨t, rfl⟩ := r
  exact call_range_1 (qgA I1 (by omega) (by omega) q1 q2 (by simpa using q))
def qnV (wi : TI) (g : TG) (tb : TS) : TS := fun D Z H => wi Z H fun J H1 => ∃ W : Nat -> Nat -> St -> Hp -> Prop, (∃ m, W 0 m Z H1) /\ ∀ i m Z H, W i m Z H ->
 (J.stop i H /\ D.nx Z H) \/ (J.go i H /\ ∃ N : St -> Hp -> Prop, (∀ Z' H', N Z' H' -> ∃ m', m' < m /\ W (i + 1) m' Z' H') /\ ∀ x H', J.yld i H x H' -> g x Z H' fun Z2 H2 => tb { D with nx := N, ct := N, bk := D.nx } Z2 H2)
def qaK (fp : List Addr) (h : Heap) : List (Addr × Obj) := fp.filterMap fun b => (h.get? b).map fun o => (b, o)
theorem yt {fp : List Addr} {h : Heap} {b : Addr} {o : Obj} (hb : b ∈ fp) (e : h.get? b = some o) : (b, o) ∈ qaK fp h := List.mem_filterMap.mpr ⟨b, hb, by rw [e]; rfl⟩
theorem qeG {fp : List Addr} {h : Heap} {p : Addr × Obj} (hp : p ∈ qaK fp h) : p.1 ∈ fp /\ h.get? p.1 = some p.2 := by
 obtain ⟨b, hb, e⟩ := List.mem_filterMap.mp hp
 cases q : h.get? b with
 | none => rw [q] at e; cases e
 | some o =>
  rw [q] at e
  have e' : (b, o) = p := Option.some.inj e
  subst e'
  exact ⟨hb, q⟩
theorem Inv.pinned {pins : List (Addr × Obj)} {Z : St} {H : Hp} {s : Shared} {fp : List Addr} (I : Inv X pins Z H s) (hf : ∀ b ∈ fp, qct X pins H b) (ho : ∀ b ∈ fp, ∃ o, s.heap.get? b = some o /\ ∀ v, o.data ≠ .cell v) : Inv X (pins ++ qaK fp s.heap) Z H s :=
 I.pins_of fun p hp => (mA_.mp hp).elim (fun z => I.pin p (mr_ _ z)) fun z => by
  obtain ⟨hb, e⟩ := qeG z
  obtain ⟨f0, f1, f2, _⟩ := hf p.1 hb
  obtain ⟨o, e', d⟩ := ho p.1 hb
  rw [e] at e'; cases e'
  exact ⟨e, f0, f1, f2, d⟩
theorem Inv.unpinned {pins pl : List (Addr × Obj)} {Z : St} {H : Hp} {s : Shared} (I : Inv X (pins ++ pl) Z H s) : Inv X pins Z H s := I.pins_of fun p hp => I.pin p (mr_ _ (List.mem_append_left _ hp))
theorem qhJ {iter : Expr} {body : List Stmt} {wi : TI} {g : TG} {tb : TS} {pos : Pos} (hp : PassesOwn (model X.prog X.w) X.A X.env X.xe) (hc : X.calm = true) (hi : PI X tg iter wi) (hg : PG X tg g) (hb : PSs X body tb)
  (hs : ∀ x, foldedSetIterable iter X.env x = pure x := by intro _; rfl) : PS X (.For tg iter body [] pos) (qnV wi g tb) := by
 intro pins s Z H D I h
 refine wpAny_For (thn (hi pins s Z H _ I h) fun v s1 h1 => thn h1 fun itv s2 h2 => ?_) hs
 obtain ⟨it, fp, tn, J, H2, e, I2, T, st2, f2, W, ⟨m0, w0⟩, turn⟩ := h2
 subst e
 have stat : ∀ {H' : Hp}, (∀ b ∈ fp, H' b = none) -> ∀ b ∈ fp, qct X pins H' b := fun hn b hb => ⟨hn b hb, (f2 b hb).2⟩
 refine codeAny_forLoop_any (fun n s' => ∃ i Z' H', Inv X pins Z' H' s' /\ tn i s'.heap /\ (∀ b ∈ fp, H' b = none) /\ W i n Z' H') ?_ m0 ⟨0, Z, H2, I2, st2, fun b hb => (f2 b hb).1, w0⟩
 rintro n s3 ⟨i, Z3, H3, I3, st3, fr3, w3⟩
 rcases turn i n Z3 H3 w3 with ⟨stop, qn⟩ | ⟨go, N, hN, step⟩
 ·refine wpAny_passesOwn hp (thn (T.done X rfl rfl rfl hc i pins s3 Z3 H3 X.xe I3 (stat fr3) st3 stop) fun r s4 ⟨hr, I4⟩ => ?_)
  subst hr
  exact wpAny_execs_nil ⟨Z3, H3, I4, qn⟩
 ·refine wpAny_passesOwn hp (thn (T.item X rfl rfl rfl hc i pins s3 Z3 H3 X.xe I3 (stat fr3) st3 go) fun r s4 ⟨u, hr, h4⟩ => ?_)
  subst hr
  refine wpAny_passesOwn hp (thn h4 fun _ s5 ⟨x, H5, I5, r5, y5, st5, fr5⟩ => ?_)
  have I5' := I5.pinned (stat fr5) (T.obj _ _ st5)
  refine wpAny_passesOwn hp (thn (hg _ s5 Z3 H5 x u _ I5' r5 (step x H5 y5)) fun _ s6 ⟨Z6, H6, I6, q6⟩ => ?_)
  refine wpAny_passesOwn hp (thn (hb _ s6 Z6 H6 _ I6 q6) fun f s7 q7 => ?_)
  have again : ∀ {Z7 : St} {H7 : Hp}, Inv X (pins ++ qaK fp s5.heap) Z7 H7 s7 -> N Z7 H7 -> ∃ m, m < n /\ ∃ i Z' H', Inv X pins Z' H' s7 /\ tn i s7.heap /\ (∀ b ∈ fp, H' b = none) /\ W i m Z' H' := fun {Z7 H7} I7 n7 => by
   obtain ⟨m', hm, w7⟩ := hN Z7 H7 n7
   refine ⟨m', hm, i + 1, Z7, H7, I7.unpinned, T.keep _ _ _ st5 fun b hb o e => (I7.pin (b, o) (mr_ _ (mr_ _ (yt hb e)))).1, fun b hb => ?_, w7⟩
   obtain ⟨o, e, d⟩ := T.obj _ _ st5 b hb
   exact (I7.pin (b, o) (mr_ _ (mr_ _ (yt hb e)))).2.1
  cases f with
  | next => obtain ⟨Z7, H7, I7, n7⟩ := q7; exact again I7 n7
  | cont => obtain ⟨Z7, H7, I7, n7⟩ := q7; exact again I7 n7
  | brk => obtain ⟨Z7, H7, I7, q7⟩ := q7; exact ⟨Z7, H7, I7.unpinned, q7⟩
  | ret v => obtain ⟨x7, Z7, H7, I7, r7, q7⟩ := q7; exact ⟨x7, Z7, H7, I7.unpinned, r7, q7⟩
end
end L2
namespace L2
open PySem PySem.Spec PyProof.Rows
abbrev R2 := V -> V -> Hp -> VK -> Prop
def OpR (X : Cx) (f : Value -> Value -> Sem Value) (r : R2) : Prop :=
 ∀ (pins : List (Addr × Obj)) (s : Shared) (Z : St) (H : Hp) (x y : V) (v u : Value) (Q : VK), Inv X pins Z H s -> jE x v -> jE y u -> r x y H Q ->
  wpAny (model X.prog X.w) X.A (f v u) (EP X pins Z Q) X.xe s
def UnR (X : Cx) (f : Value -> Sem Value) (r : V -> Hp -> VK -> Prop) : Prop :=
 ∀ (pins : List (Addr × Obj)) (s : Shared) (Z : St) (H : Hp) (x : V) (v : Value) (Q : VK), Inv X pins Z H s -> jE x v -> r x H Q ->
  wpAny (model X.prog X.w) X.A (f v) (EP X pins Z Q) X.xe s
def yY (X : Cx) (f : Value) (r : List V -> Hp -> VK -> Prop) : Prop :=
 ∀ (pins : List (Addr × Obj)) (s : Shared) (Z : St) (H : Hp) (xs : List V) (us : List Value) (Q : VK), Inv X pins Z H s -> zb xs us -> r xs H Q ->
  wpAny (model X.prog X.w) X.A (call f us) (EP X pins Z Q) X.xe s
def tOp (r : R2) (ta tb : TE) : TE := fun Z H Q => ta Z H fun x H1 => tb Z H1 fun y H2 => r x y H2 Q
def tUn (r : V -> Hp -> VK -> Prop) (ta : TE) : TE := fun Z H Q => ta Z H fun x H1 => r x H1 Q
def rI (C : Int -> Int -> Prop) (g : Int -> Int -> V) : R2 := fun x y H Q => ∃ i j, x = .int i /\ y = .int j /\ C i j /\ Q (g i j) H
def rI0 (g : Int -> Int -> V) : R2 := fun x y H Q => ∃ i j, x = .int i /\ y = .int j /\ Q (g i j) H
def rU (g : Int -> V) : V -> Hp -> VK -> Prop := fun x H Q => ∃ i, x = .int i /\ Q (g i) H
section
variable {X : Cx} {a b c : Expr} {ta tb tc : TE} {pos : Pos}
theorem qmp (ha : PE X a ta) (hb : PE X b tb) {pins : List (Addr × Obj)} {s : Shared} {Z : St} {H : Hp} {R : V -> V -> Hp -> Prop} (I : Inv X pins Z H s)
  (h : ta Z H fun x H1 => tb Z H1 fun y H2 => R x y H2) {Q : Value -> Shared -> Prop} {f : Value -> Value -> Sem Value}
  (hf : ∀ v u s2 x y H2, Inv X pins Z H2 s2 -> jE x v -> jE y u -> R x y H2 -> wpAny (model X.prog X.w) X.A (f v u) Q X.xe s2) :
  wpAny (model X.prog X.w) X.A (eval a X.env) (fun v sQ => wpAny (model X.prog X.w) X.A (eval b X.env) (fun u sV => wpAny (model X.prog X.w) X.A (f v u) Q X.xe sV) X.xe sQ) X.xe s := by
 refine thn (ha pins s Z H _ I h) fun v s1 ⟨x, H1, I1, r1, q1⟩ => ?_
 refine thn (hb pins s1 Z H1 _ I1 q1) fun u s2 ⟨y, H2, I2, r2, q2⟩ => ?_
 exact hf v u s2 x y H2 I2 r1 r2 q2
theorem qkE {op : Operator} {r : R2} (ho : OpR X (binaryOp op) r) (ha : PE X a ta) (hb : PE X b tb) : PE X (.BinOp a op b pos) (tOp r ta tb) := by
 intro pins s Z H Q I h
 exact wpAny_BinOp (qmp ha hb I h fun v u s2 x y H2 I2 rx ry q => ho pins s2 Z H2 x y v u Q I2 rx ry q)
theorem qmq {op : UnaryOp} {r : V -> Hp -> VK -> Prop} (ho : UnR X (unaryOp op) r) (ha : PE X a ta) : PE X (.UnaryOp op a pos) (tUn r ta) := by
 intro pins s Z H Q I h
 exact UnaryOp_ (thn (ha pins s Z H _ I h) fun v s1 ⟨x, H1, I1, r1, q1⟩ => ho pins s1 Z H1 x v Q I1 r1 q1)
theorem opI {f : Value -> Value -> Sem Value} {C : Int -> Int -> Prop} {g : Int -> Int -> Int}
  (rule : ∀ (i j : Int) (t u : Tok) (s : Shared) (Q : Value -> Shared -> Prop) (E : Value -> Shared -> Prop), C i j -> Q (.int (g i j) s.toks) { s with toks := s.toks + 1 } -> wpAny (model X.prog X.w) X.A (f (.int i t) (.int j u)) Q E s) :
  OpR X f (rI C fun i j => .int (g i j)) := by
 intro pins s Z H x y v u Q I rx ry h
 obtain ⟨i, j, rfl, rfl, hc, q⟩ := h
 obtain ⟨t, rfl⟩ := rx
 obtain ⟨t', rfl⟩ := ry
 exact rule i j t t' s _ _ hc ⟨.int (g i j), H, I.tok _, ⟨_, rfl⟩, q⟩
theorem qnd {f : Value -> Value -> Sem Value} {g : Int -> Int -> Int}
  (rule : ∀ (i j : Int) (t u : Tok) (s : Shared) (Q : Value -> Shared -> Prop) (E : Value -> Shared -> Prop), Q (.int (g i j) s.toks) { s with toks := s.toks + 1 } -> wpAny (model X.prog X.w) X.A (f (.int i t) (.int j u)) Q E s) :
  OpR X f (rI0 fun i j => .int (g i j)) := by
 intro pins s Z H x y v u Q I rx ry h
 obtain ⟨i, j, rfl, rfl, q⟩ := h
 obtain ⟨t, rfl⟩ := rx
 obtain ⟨t', rfl⟩ := ry
 exact rule i j t t' s _ _ ⟨.int (g i j), H, I.tok _, ⟨_, rfl⟩, q⟩
theorem ql4 {f : Value -> Value -> Sem Value} {g : Int -> Int -> Bool}
  (rule : ∀ (i j : Int) (t u : Tok) (s : Shared) (Q : Value -> Shared -> Prop) (E : Value -> Shared -> Prop), Q (.bool (g i j)) s -> wpAny (model X.prog X.w) X.A (f (.int i t) (.int j u)) Q E s) :
  OpR X f (rI0 fun i j => .bl (g i j)) := by
 intro pins s Z H x y v u Q I rx ry h
 obtain ⟨i, j, rfl, rfl, q⟩ := h
 obtain ⟨t, rfl⟩ := rx
 obtain ⟨t', rfl⟩ := ry
 exact rule i j t t' s _ _ ⟨.bl (g i j), H, I, rfl, q⟩
def qkF (i j : Int) : Prop := 0 < j /\ j < 1606938044258990275541962092341162602522202993782792835301376
theorem qne {i j : Int} (h1 : 0 < j) (h2 : j < 1606938044258990275541962092341162602522202993782792835301376) : Builtin.divisionGoesByPylong i j = false := by
 refine PyProof.noPylong_of_log2 ?_
 have h0 : j.natAbs ≠ 0 := by omega
 have h3 : j.natAbs < 2 ^ 200 := by
   have : (2 : Nat) ^ 200 = 1606938044258990275541962092341162602522202993782792835301376 := by decide +kernel
   omega
 have := (Nat.log2_lt h0).mpr h3
 omega
def qnf (i j : Int) : Prop := 0 <= j /\ j <= 1000000 /\ i.natAbs < 2 ^ 64
def qkG (i j : Int) : Prop := (-(2 ^ 64) < i /\ i < 2 ^ 64) \/ (-(2 ^ 64) < j /\ j < 2 ^ 64)
theorem qkG.ok {i j : Int} (h : qkG i j) : IntMulOk i j := by
 rcases h with ⟨h1, h2⟩ | ⟨h1, h2⟩
 ·exact .of_left (intBits_le_64 h1 h2)
 ·exact .of_right (intBits_le_64 h1 h2)
theorem qkH : OpR X (binaryOp .Add) (rI0 fun i j => .int (i + j)) := qnd fun _ _ _ _ _ _ _ q => add_int q
theorem qbH : OpR X (binaryOp .Sub) (rI0 fun i j => .int (i - j)) := qnd fun _ _ _ _ _ _ _ q => sub_int q
theorem qkI : OpR X (binaryOp .Mult) (rI qkG fun i j => .int (i * j)) := opI fun _ _ _ _ _ _ _ hc q => mul_int q hc.ok
theorem uB : OpR X (binaryOp .FloorDiv) (rI qkF fun i j => .int (i / j)) := opI fun i j _ _ _ _ _ hc q => by
 have h1 : (0 : Int) < j := hc.1
 have h2 : j < 1606938044258990275541962092341162602522202993782792835301376 := hc.2
 exact floordiv_int (by omega) (by rw [Int.fdiv_eq_ediv_of_nonneg i (by omega)]; exact q) (.inl (qne h1 h2))
theorem w6 : OpR X (binaryOp .Mod) (rI (fun _ j => 0 < j) fun i j => .int (i % j)) := opI fun i j _ _ _ _ _ hc q => by
 have h1 : (0 : Int) < j := hc
 exact mod_int' (by omega) (by rw [Int.fmod_eq_emod_of_nonneg i (by omega)]; exact q)
theorem qhK : OpR X (binaryOp .Pow) (rI qnf fun i j => .int (i ^ j.toNat)) := opI fun _ _ _ _ _ _ _ hc q => pow_int_small hc.1 hc.2.1 hc.2.2 q
theorem unI {f : Value -> Sem Value} {g : Int -> Int}
  (rule : ∀ (i : Int) (t : Tok) (s : Shared) (Q : Value -> Shared -> Prop) (E : Value -> Shared -> Prop), Q (.int (g i) s.toks) { s with toks := s.toks + 1 } -> wpAny (model X.prog X.w) X.A (f (.int i t)) Q E s) :
  UnR X f (rU fun i => .int (g i)) := by
 intro pins s Z H x v Q I rx h
 obtain ⟨i, rfl, q⟩ := h
 obtain ⟨t, rfl⟩ := rx
 exact rule i t s _ _ ⟨.int (g i), H, I.tok _, ⟨_, rfl⟩, q⟩
theorem qkJ : UnR X (unaryOp .USub) (rU fun i => .int (-i)) := unI fun _ _ _ _ _ q => neg_int q
end
def qmr : V -> V -> Bool
 | .non, .non => true | .non, .int _ => true | .int _, .non => true | .non, .bl _ => true | .bl _, .non => true | .non, .str _ => true | .str _, .non => true
 | .int _, .int _ => true | .bl _, .bl _ => true | .str _, .str _ => true | .byt _, .byt _ => true
 | .int _, .str _ => true | .str _, .int _ => true | .bl _, .str _ => true | .str _, .bl _ => true
 | _, _ => false
def rEq : R2 := fun x y H Q => qmr x y = true /\ Q (.bl (decide (x = y))) H
def rNe : R2 := fun x y H Q => qmr x y = true /\ Q (.bl (!decide (x = y))) H
theorem qeH {i j : Int} : decide (V.int i = V.int j) = (i == j) := by
 rw [Bool.eq_iff_iff]
 simp
theorem qhL {i j : Bool} : decide (V.bl i = V.bl j) = (i == j) := by
 rw [Bool.eq_iff_iff]
 simp
theorem qeI {i j : Str} : decide (V.str i = V.str j) = (i == j) := by
 rw [Bool.eq_iff_iff]
 simp
theorem qeJ {i j : Array UInt8} : decide (V.byt i = V.byt j) = (i.toList == j.toList) := by
 rw [Bool.eq_iff_iff]
 cases i
 cases j
 simp
section
variable {X : Cx} {a b c : Expr} {ta tb tc : TE} {pos : Pos}
theorem zd {pins : List (Addr × Obj)} {Z : St} {H : Hp} {s : Shared} {Q : VK} {k k' : Bool} (I : Inv X pins Z H s) (q : Q (.bl k) H) (e : k = k') : EP X pins Z Q (.bool k') s := by
 subst e
 exact ⟨.bl k, H, I, rfl, q⟩
theorem qms : OpR X (compareOp .Eq) rEq := by
 intro pins s Z H x y v u Q I rx ry h
 obtain ⟨hs, q⟩ := h
 cases x with
 | non =>
  cases rx
  cases y with
  | non => cases ry; exact PySem.EqNone.eq_none_none (zd I q (by simp))
  | bl j => cases ry; exact PySem.EqNone.eq_none_bool (zd I q (by simp))
  | int j => obtain ⟨t', rfl⟩ := ry; exact PySem.EqNone.eq_none_int (zd I q (by simp))
  | str j => obtain ⟨t', rfl⟩ := ry; exact PySem.EqNone.eq_none_str (zd I q (by simp))
  | _ => exact absurd (show false = true from hs) Bool.false_ne_true
 | bl i =>
  cases rx
  cases y with
  | non => cases ry; exact PySem.EqNone.eq_bool_none (zd I q (by simp))
  | bl j => cases ry; exact eq_bool (zd I q qhL)
  | str j => obtain ⟨t', rfl⟩ := ry; exact PySem.EqMixed.eq_bool_str (zd I q (by simp))
  | _ => exact absurd (show false = true from hs) Bool.false_ne_true
 | int i =>
  obtain ⟨t, rfl⟩ := rx
  cases y with
  | non => cases ry; exact PySem.EqNone.eq_int_none (zd I q (by simp))
  | int j => obtain ⟨t', rfl⟩ := ry; exact eq_int (zd I q qeH)
  | str j => obtain ⟨t', rfl⟩ := ry; exact PySem.EqMixed.eq_int_str (zd I q (by simp))
  | _ => exact absurd (show false = true from hs) Bool.false_ne_true
 | str i =>
  obtain ⟨t, rfl⟩ := rx
  cases y with
  | non => cases ry; exact PySem.EqNone.eq_str_none (zd I q (by simp))
  | bl j => cases ry; exact PySem.EqMixed.eq_str_bool (zd I q (by simp))
  | int j => obtain ⟨t', rfl⟩ := ry; exact PySem.EqMixed.eq_str_int (zd I q (by simp))
  | str j => obtain ⟨t', rfl⟩ := ry; exact eq_str (zd I q qeI)
  | _ => exact absurd (show false = true from hs) Bool.false_ne_true
 | byt i =>
  obtain ⟨t, rfl⟩ := rx
  cases y with
  | byt j => obtain ⟨t', rfl⟩ := ry; exact PySem.W.eq_bytes (zd I q qeJ)
  | _ => exact absurd (show false = true from hs) Bool.false_ne_true
 | _ => cases y <;> exact absurd (show false = true from hs) Bool.false_ne_true
theorem qkK : OpR X (compareOp .NotEq) rNe := by
 intro pins s Z H x y v u Q I rx ry h
 obtain ⟨hs, q⟩ := h
 cases x with
 | non =>
  cases rx
  cases y with
  | non => cases ry; exact PySem.EqNone.ne_none_none (zd I q (by simp))
  | bl j => cases ry; exact PySem.EqNone.ne_none_bool (zd I q (by simp))
  | int j => obtain ⟨t', rfl⟩ := ry; exact PySem.EqNone.ne_none_int (zd I q (by simp))
  | str j => obtain ⟨t', rfl⟩ := ry; exact PySem.EqNone.ne_none_str (zd I q (by simp))
  | _ => exact absurd (show false = true from hs) Bool.false_ne_true
 | bl i =>
  cases rx
  cases y with
  | non => cases ry; exact PySem.EqNone.ne_bool_none (zd I q (by simp))
  | bl j => cases ry; exact ne_bool (zd I q (congrArg not qhL))
  | str j => obtain ⟨t', rfl⟩ := ry; exact PySem.EqMixed.ne_bool_str (zd I q (by simp))
  | _ => exact absurd (show false = true from hs) Bool.false_ne_true
 | int i =>
  obtain ⟨t, rfl⟩ := rx
  cases y with
  | non => cases ry; exact PySem.EqNone.ne_int_none (zd I q (by simp))
  | int j => obtain ⟨t', rfl⟩ := ry; exact ne_int (zd I q (congrArg not qeH))
  | str j => obtain ⟨t', rfl⟩ := ry; exact PySem.EqMixed.ne_int_str (zd I q (by simp))
  | _ => exact absurd (show false = true from hs) Bool.false_ne_true
 | str i =>
  obtain ⟨t, rfl⟩ := rx
  cases y with
  | non => cases ry; exact PySem.EqNone.ne_str_none (zd I q (by simp))
  | bl j => cases ry; exact PySem.EqMixed.ne_str_bool (zd I q (by simp))
  | int j => obtain ⟨t', rfl⟩ := ry; exact PySem.EqMixed.ne_str_int (zd I q (by simp))
  | str j => obtain ⟨t', rfl⟩ := ry; exact ne_str (zd I q (congrArg not qeI))
  | _ => exact absurd (show false = true from hs) Bool.false_ne_true
 | byt i =>
  obtain ⟨t, rfl⟩ := rx
  cases y with
  | byt j => obtain ⟨t', rfl⟩ := ry; exact PySem.W.ne_bytes (zd I q (congrArg not qeJ))
  | _ => exact absurd (show false = true from hs) Bool.false_ne_true
 | _ => cases y <;> exact absurd (show false = true from hs) Bool.false_ne_true
theorem qmt : OpR X (compareOp .Lt) (rI0 fun i j => .bl (decide (i < j))) := ql4 fun _ _ _ _ _ _ _ q => lt_int q
theorem qkL : OpR X (compareOp .LtE) (rI0 fun i j => .bl (decide (i <= j))) := ql4 fun _ _ _ _ _ _ _ q => le_int q
theorem qbI : OpR X (compareOp .Gt) (rI0 fun i j => .bl (decide (j < i))) := ql4 fun _ _ _ _ _ _ _ q => gt_int q
theorem qiG : OpR X (compareOp .GtE) (rI0 fun i j => .bl (decide (j <= i))) := ql4 fun _ _ _ _ _ _ _ q => ge_int q
theorem qeK : OpR X (compareOp .Is) (fun x y H Q => y = .non /\ Q (.bl (decide (x = .non))) H) := by
 intro pins s Z H x y v u Q I rx ry h
 obtain ⟨rfl, q⟩ := h
 cases ry
 refine is_none_gen (zd I q ?_)
 cases x <;> first
  | (cases rx; rfl)
  | (obtain ⟨t, rfl⟩ := rx; rfl)
theorem qeL : OpR X (compareOp .IsNot) (fun x y H Q => y = .non /\ Q (.bl (!decide (x = .non))) H) := by
 intro pins s Z H x y v u Q I rx ry h
 obtain ⟨rfl, q⟩ := h
 cases ry
 refine isnot_none_gen (zd I q ?_)
 cases x <;> first
  | (cases rx; rfl)
  | (obtain ⟨t, rfl⟩ := rx; rfl)
theorem OpR.or {f : Value -> Value -> Sem Value} {r r' : R2} (h : OpR X f r) (h' : OpR X f r') : OpR X f (fun x y H Q => r x y H Q \/ r' x y H Q) := by
 intro pins s Z H x y v u Q I rx ry q
 rcases q with q | q
 ·exact h pins s Z H x y v u Q I rx ry q
 ·exact h' pins s Z H x y v u Q I rx ry q
theorem qM (b : Expr) {op : CmpOp} (h : op ≠ .In := by decide) (h2 : op ≠ .NotIn := by decide) : behindInMarks op b = false := by
 have e1 : (op == CmpOp.In) = false := by cases op <;> first | rfl | exact absurd rfl h
 have e2 : (op == CmpOp.NotIn) = false := by cases op <;> first | rfl | exact absurd rfl h2
 cases b <;> simp [behindInMarks, e1, e2]
theorem qiH {op : CmpOp} {r : R2} (ho : OpR X (compareOp op) r) (ha : PE X a ta) (hb : PE X b tb) (hm : behindInMarks op b = false) : PE X (.Compare a [op] [b] pos) (tOp r ta tb) := by
 intro pins s Z H Q I h
 exact wpAny_Compare1 (qmp ha hb I h fun v u s2 x y H2 I2 rx ry q => ho pins s2 Z H2 x y v u Q I2 rx ry q) hm
def qmu (t : TE) : TT := fun Z H Q => t Z H fun x H' => ∃ k, x = .bl k /\ Q k H'
theorem qeM {op : CmpOp} {r : R2} (ho : OpR X (compareOp op) r) (ha : PE X a ta) (hb : PE X b tb) (hm : behindInMarks op b = false) : PT X (.Compare a [op] [b] pos) (qmu (tOp r ta tb)) := by
 intro pins s Z H Q I h
 refine wpAny_isTrue_Compare1 (thn (ha pins s Z H _ I h) fun v s1 ⟨x, H1, I1, r1, q1⟩ => thn (hb pins s1 Z H1 _ I1 q1) fun u s2 ⟨y, H2, I2, r2, q2⟩ =>
  thn (ho pins s2 Z H2 x y v u _ I2 r1 r2 q2) fun c s3 ⟨z, H3, I3, r3, k, e, q3⟩ => ?_) hm
 subst e
 cases r3
 exact wpAny_truthy_bool ⟨H3, I3, q3⟩
theorem qbJ : (sizeLine : Nat) < 2 ^ 63 := by rw [sizeLine_eq]; decide
theorem qdY : OpR X (binaryOp .Add) (fun x y H Q => ∃ i j, x = .str i /\ y = .str j /\ i.length + j.length <= sizeLine /\ Q (.str (i ++ j)) H) := by
 intro pins s Z H x y v u Q I rx ry h
 obtain ⟨i, j, rfl, rfl, hz, q⟩ := h
 obtain ⟨t, rfl⟩ := rx
 obtain ⟨t', rfl⟩ := ry
 exact add_str (fun t' tk => ⟨.str (i ++ j), H, I.tok _, ⟨_, rfl⟩, q⟩) hz
theorem qgB {x : V} {us : List Value} (r : zb [x] us) : ∃ u, us = [u] /\ jE x u := by
 cases r with
 | cons r1 r2 => cases r2; exact ⟨_, rfl, r1⟩
theorem qiI {x y : V} {us : List Value} (r : zb [x, y] us) : ∃ u w', us = [u, w'] /\ jE x u /\ jE y w' := by
 cases r with
 | cons r1 r2 =>
  cases r2 with
  | cons r3 r4 => cases r4; exact ⟨_, _, rfl, r1, r3⟩
theorem qgC : yY X (.builtin "abs") (fun xs H Q => ∃ i, xs = [.int i] /\ Q (.int (if i < 0 then -i else i)) H) := by
 intro pins s Z H xs us Q I r h
 obtain ⟨i, rfl, q⟩ := h
 obtain ⟨u, rfl, t, rfl⟩ := qgB r
 exact call_abs_int fun u tk => ⟨.int (if i < 0 then -i else i), H, I.tok _, ⟨_, rfl⟩, q⟩
theorem qbK (hc : X.calm = true) : yY X (.builtin "max") (fun xs H Q => ∃ i j, xs = [.int i, .int j] /\ Q (.int (if j > i then j else i)) H) := by
 intro pins s Z H xs us Q I r h
 obtain ⟨i, j, rfl, q⟩ := h
 obtain ⟨u, w', rfl, ⟨t, rfl⟩, ⟨t', rfl⟩⟩ := qiI r
 refine max_two_ints (I.ok.hd hc) fun h' tk k => ⟨_, H, I.kept k, ?_, q⟩
 by_cases hj : j > i
 ·rw [if_pos hj, if_pos hj]; exact ⟨_, rfl⟩
 ·rw [if_neg hj, if_neg hj]; exact ⟨_, rfl⟩
theorem qeN (hc : X.calm = true) : yY X (.builtin "min") (fun xs H Q => ∃ i j, xs = [.int i, .int j] /\ Q (.int (if j < i then j else i)) H) := by
 intro pins s Z H xs us Q I r h
 obtain ⟨i, j, rfl, q⟩ := h
 obtain ⟨u, w', rfl, ⟨t, rfl⟩, ⟨t', rfl⟩⟩ := qiI r
 refine min_two_ints (I.ok.hd hc) fun h' tk k => ⟨_, H, I.kept k, ?_, q⟩
 by_cases hj : j < i
 ·rw [if_pos hj, if_pos hj]; exact ⟨_, rfl⟩
 ·rw [if_neg hj, if_neg hj]; exact ⟨_, rfl⟩
theorem qcy : yY X (.builtin "divmod") (fun xs H Q => ∃ i j, xs = [.int i, .int j] /\ qkF i j /\ ∀ p, H p = none -> Q (.ref p) (upd H p (.tup [.int (i / j), .int (i % j)]))) := by
 intro pins s Z H xs us Q I r h
 obtain ⟨i, j, rfl, ⟨h1, h2⟩, q⟩ := h
 obtain ⟨u, w', rfl, ⟨t, rfl⟩, ⟨t', rfl⟩⟩ := qiI r
 refine divmod_int (by omega) ?_ (.inl (qne h1 h2))
 rw [Int.fdiv_eq_ediv_of_nonneg i (by omega), Int.fmod_eq_emod_of_nonneg i (by omega)]
 have hn : H s.heap.objs.size = none := I.hok.fresh (Nat.le_refl _)
 refine ⟨.ref s.heap.objs.size, _, ?_, rfl, q _ hn⟩
 refine I.laid (fun b o e => Heap.get?_push_of_some _ e) (Nat.le_refl _) ⟨by simp only [lC_, lN_]; rw [sizeLine_eq]; decide, [.int (i / j) s.toks, .int (i % j) (s.toks + 1)], .cons ⟨_, rfl⟩ (.cons ⟨_, rfl⟩ .nil), ?_⟩
 exact ⟨_, Heap.get?_push_size s.heap rfl, rfl, 0, rfl⟩
end
end L2
namespace L2
open PySem PySem.Spec PyProof.Rows
structure qmv (h : Heap) (x dx C : Addr) (mA : Str -> Option Value) : Prop where
 obj : h.get? x = some (PySem.W.instObj C dx)
 ns : h.Ns1 dx mA
 ne : dx ≠ x
theorem qeO {h : Heap} {dx : Addr} {mA : Str -> Option Value} (n : h.Ns1 dx mA) : ∃ od, h.get? dx = some od /\ ∀ name, PySem.W.lookIn name od = some (mA name) := by
 obtain ⟨o, es, ep, ho, hd, hk, _, hm⟩ := n
 refine ⟨o, ho, fun name => ?_⟩
 have e := hm name
 unfold nsFind findBy at e
 rw [<- Array.find?_toList] at e
 unfold PySem.W.lookIn
 rw [hd]
 dsimp only
 split
 ·rename_i y q
  rw [q] at e
  exact congrArg some e
 ·rename_i q
  rw [q] at e
  have a : es.toList.any (·.refKey) = false := by
   rw [List.any_eq_false]
   intro y hy
   obtain ⟨z, t, hkey⟩ := hk y (Array.mem_toList_iff.mp hy)
   simp [DictEntry.refKey, hkey]
  have a' : ¬ es.toList.any (·.refKey) = true := by rw [a]; exact Bool.false_ne_true
  rw [if_neg a']
  exact congrArg some e
theorem qmv.look {h : Heap} {x dx C : Addr} {mA : Str -> Option Value} (I : qmv h x dx C mA) : ∃ od, PySem.W.InstAt h x (PySem.W.instObj C dx) C (some od) /\ ∀ name, PySem.W.lookIn name od = some (mA name) :=
 let ⟨od, ho, hl⟩ := qeO I.ns
 ⟨od, ⟨I.obj, rfl, rfl, ho⟩, hl⟩
section
variable {prog : Program} {w : World} {A : Around} {E : Value -> Shared -> Prop} {s : Shared} {K : PySem.W.Frag} {x dx C f : Addr} {mA : Str -> Option Value} {name : Str} {v : Value}
end
def qnW (f : Str) (v : V) : List (Str × V) -> List (Str × V)
 | [] => [(f, v)]
 | (g, x) :: r => if g = f then (g, v) :: r else (g, x) :: qnW f v r
section
variable {P : Program} {w : World} {H H' : Hp} {h h' : Heap} {a C dx : Addr} {fs fs' : List (Str × V)}
theorem qiJ (hok : HOk P w H h) (e : H a = some (.ins C dx fs)) : ∃ mA, qmv h a dx C mA /\ (∀ f, qmd (fs.lookup f) (mA f)) /\ PySem.Within mA (fs.map (·.1)) /\ fs.length <= 1000 /\ H dx = some (.own a) := by
 obtain ⟨d, z, ne, ob, mA, n, r, q⟩ := (show yq P w H h a (.ins C dx fs) from hok a _ e)
 exact ⟨mA, ⟨ob, n, ne⟩, r, q, z, d⟩
end
structure Cls (K : PySem.W.Frag) (C : Addr) : Prop where
 pg : PySem.W.plainGet K C Str.empty = true
 hd : PySem.W.hasDictIn K C = true
 po : PySem.W.plainOver K C = true
 sa : PySem.W.findIn K (.ref C) "__setattr__" = some (some (.builtin "object.__setattr__"))
theorem Cls.get {K : PySem.W.Frag} {C : Addr} (c : Cls K C) (f : Str) : PySem.W.plainGet K C f = true := c.pg
structure Con (K : PySem.W.Frag) (C : Addr) (f : Str) (v : V) (u : Value) : Prop where
 at_ : PySem.W.findIn K (.ref C) f = some (some u)
 rel : jE v u
 get : PySem.W.specialIn K u "__get__" = some none
 cp : PySem.W.copiedNames.contains f = false
structure qok (K : PySem.W.Frag) (C : Addr) (m : Str) (f : Addr) : Prop where
 at_ : PySem.W.findIn K (.ref C) m = some (some (.ref f))
 fn : PySem.W.isFn K (.ref f) = true
 kp : PySem.W.keepIn K (.ref f) = true
section
variable {X : Cx} {pins : List (Addr × Obj)} {Z : St} {H : Hp} {s : Shared} {a C dx : Addr} {fs : List (Str × V)} {f : Str} {v : V} {A : Around} {E : Value -> Shared -> Prop}
end
section
variable {X : Cx} {o e value : Expr} {f : Str} {pos pos' tpos : Pos} {ta tv : TE}
end
section
variable {X : Cx} {pins : List (Addr × Obj)} {Z : St} {H : Hp} {s : Shared} {A : Around} {E : Value -> Shared -> Prop} {Q : Value -> Shared -> Prop} {c : Value} {b : Bool}
inductive qet (K : PySem.W.Frag) (H : Hp) : V -> Value -> Prop where
 | non : qet K H .non (.type "NoneType")
 | bl (x : Bool) : qet K H (.bl x) (.type "bool")
 | int (i : Int) : qet K H (.int i) (.type "int")
 | str (x : Str) : qet K H (.str x) (.type "str")
 | flt (x : UInt64) : qet K H (.flt x) (.type "float")
 | lst {a : Addr} {xs : List V} (e : H a = some (.lst xs)) : qet K H (.ref a) (.type "list")
 | frz {a : Addr} {o : Obj} {xs : List V} (e : H a = some (.frz o (.lst xs))) : qet K H (.ref a) (.type "list")
 | tup {a : Addr} {xs : List V} (e : H a = some (.tup xs)) : qet K H (.ref a) (.type "tuple")
 | dK {a : Addr} {kvs : List (Key × V)} (e : H a = some (.dK kvs)) : qet K H (.ref a) (.type "dict")
 | dT {a : Addr} {kvs : List (List Key × V)} (e : H a = some (.dT kvs)) : qet K H (.ref a) (.type "dict")
 | ins {a C dx : Addr} {fs : List (Str × V)} (e : H a = some (.ins C dx fs)) (cl : Cls K C) (ha : PySem.W.findIn K (.ref C) "__class__" = some (some (.builtin "object.__class__")))
   (hn : PySem.W.specialIn K (.builtin "object.__class__") "__get__" = some (some (.builtin "getset_descriptor.__get__"))) (htk : PySem.W.takesIn K (.builtin "object.__class__") = some true)
   (hm : PySem.W.mroIn K C (.type "object") = some true) : qet K H (.ref a) (.ref C)
theorem yZ {x : V} {u t : Value} (I : Inv X pins Z H s) (rx : jE x u) (ty : qet X.K H x t) (e : PySem.W.kitOne X.K t c = some b) (h : ∀ tk, Q (.bool b) { s with toks := tk }) :
  wpAny (model X.prog X.w) A (call (.builtin "isinstance") [u, c]) Q E s := by
 cases ty with
 | non => cases (show u = Value.none from rx); exact PySem.W.kia_one PySem.W.kitx_none I.kIn True.intro e (fun z => nomatch z) h
 | bl y => cases (show u = Value.bool y from rx); exact PySem.W.kia_one PySem.W.kitx_bool I.kIn True.intro e (fun z => nomatch z) h
 | int i => obtain ⟨t, q⟩ := (show ∃ t, u = Value.int i t from rx); cases q; exact PySem.W.kia_one PySem.W.kitx_int I.kIn True.intro e (fun z => nomatch z) h
 | str y => obtain ⟨t, q⟩ := (show ∃ t, u = Value.str y t from rx); cases q; exact PySem.W.kia_one PySem.W.kitx_str I.kIn True.intro e (fun z => nomatch z) h
 | flt y => obtain ⟨t, q⟩ := (show ∃ t, u = Value.float y t from rx); cases q; exact PySem.W.kia_one PySem.W.kitx_float I.kIn True.intro e (fun z => nomatch z) h
 | @lst a xs ea =>
  cases (show u = Value.ref a from rx)
  obtain ⟨_, _, n, _, h1⟩ := (show yq X.prog X.w H s.heap a (.lst xs) from I.hok a _ ea)
  exact PySem.W.kia_one PySem.W.kitx_list I.kIn ⟨_, h1, rfl⟩ e (fun z => nomatch z) h
 | @frz a ob xs ea =>
  cases (show u = Value.ref a from rx)
  obtain ⟨_, _, _, n, _, h1⟩ := (show yq X.prog X.w H s.heap a (.frz ob (.lst xs)) from I.hok a _ ea)
  exact PySem.W.kia_one PySem.W.kitx_list I.kIn ⟨_, h1, rfl⟩ e (fun z => nomatch z) h
 | @tup a xs ea =>
  cases (show u = Value.ref a from rx)
  obtain ⟨_, _, _, p⟩ := (show yq X.prog X.w H s.heap a (.tup xs) from I.hok a _ ea)
  obtain ⟨o, h1, h2, _⟩ := p
  exact PySem.W.kia_one PySem.W.kitx_tuple I.kIn ⟨o, h1, h2⟩ e (fun z => nomatch z) h
 | @dK a kvs ea =>
  cases (show u = Value.ref a from rx)
  obtain ⟨_, _, vs, _, p⟩ := (show yq X.prog X.w H s.heap a (.dK kvs) from I.hok a _ ea)
  obtain ⟨o, es, ep, h1, h2, _⟩ := p
  exact PySem.W.kia_one PySem.W.kitx_dict I.kIn ⟨o, h1, h2.1⟩ e (fun z => nomatch z) h
 | @dT a kvs ea =>
  cases (show u = Value.ref a from rx)
  obtain ⟨_, _, xs, _, o, es, ep, h1, h2, _⟩ := (show yq X.prog X.w H s.heap a (.dT kvs) from I.hok a _ ea)
  exact PySem.W.kia_one PySem.W.kitx_dict I.kIn ⟨o, h1, h2.1⟩ e (fun z => nomatch z) h
 | @ins a C dx fs ea cl ha hn htk hm =>
  cases (show u = Value.ref a from rx)
  obtain ⟨mA, O, _⟩ := qiJ I.hok ea
  obtain ⟨od, J, _⟩ := O.look
  exact PySem.W.kia_one (PySem.W.kitx_own (cl.get _) cl.hd ha hn htk hm) I.kIn J e (fun z => nomatch z) h
end
end L2
namespace L2
open PySem PySem.Spec PyProof.Rows
structure uc (k : Nat) (A : Around) : Prop where
 hd : A.handled = none
 dp : A.depth + 3 * k + 5 < recursionLimit
 un : A.units + 16 * k + 200 < cLine
 gd : A.guards = some []
theorem uc.mono {j k : Nat} {A : Around} (r : uc k A) (h : j <= k) : uc j A := ⟨r.hd, by have := r.dp; omega, by have := r.un; omega, r.gd⟩
theorem uc.deeper {k : Nat} {A : Around} (r : uc (k + 1) A) (env : Env) : uc k (A.deeper env) :=
 ⟨r.hd, by have := r.dp; show A.depth + 1 + 3 * k + 5 < _; omega, by have := r.un; show A.units + 3 + 16 * k + 200 < _; omega, r.gd⟩
theorem uc.depth {k : Nat} {A : Around} (r : uc k A) : A.depth < recursionLimit := by have := r.dp; omega
theorem uc.units {k : Nat} {A : Around} (r : uc k A) : A.units + 64 < cLine := by have := r.un; omega
def qmw : TA := fun _ H Q => Q [] H
def qgD (ta : TE) (tr : TA) : TA := fun Z H Q => ta Z H fun x H1 => tr Z H1 fun xs H2 => Q (x :: xs) H2
section
variable {X : Cx} {e : Expr} {es : List Expr} {te : TE} {t : TA} {pos : Pos}
theorem va : PA X [] qmw := fun _ _ _ _ H Q I h => Calls.spliced_nil ⟨[], H, I, .nil, h⟩
theorem jF (ha : PE X e te) (hr : PA X es t) (hs : starEach (e :: es) X.env = (false, eval e X.env) :: starEach es X.env := by rfl) : PA X (e :: es) (qgD te t) := by
 intro pos pins s Z H Q I h
 rw [hs]
 show wpAny _ _ (spliced ((false, eval e X.env) :: backTo pos (starEach es X.env))) _ _ s
 refine Calls.spliced_cons (thn (ha pins s Z H _ I h) fun u s1 ⟨x, H1, I1, r1, q1⟩ => ?_)
 exact thn (hr pos pins s1 Z H1 _ I1 q1) fun us s2 ⟨xs, H2, I2, r2, q2⟩ => ⟨x :: xs, H2, I2, .cons r1 r2, q2⟩
def qnX (t : TA) : TE := fun Z H Q => t Z H fun xs H1 => xs.length <= sizeLine /\ ∀ p, H1 p = none -> Q (.ref p) (upd H1 p (.tup xs))
def qnY (t : TA) : TE := fun Z H Q => t Z H fun xs H1 => xs.length <= sizeLine /\ ∀ p, H1 p = none -> Q (.ref p) (upd H1 p (.lst xs))
theorem qkM {x1} (h : PA X es t) : PE X (.Tuple es x1 pos) (qnX t) := by
 intro pins s Z H Q I hq
 refine wpAny_Tuple_spliced (thn (h pos pins s Z H _ I hq) fun us s1 ⟨xs, H1, I1, r, z, q⟩ => ⟨by rw [<- r.length]; exact z, ?_⟩)
 have hf : H1 s1.heap.objs.size = none := I1.hok.fresh (Nat.le_refl _)
 refine ⟨.ref s1.heap.objs.size, upd H1 s1.heap.objs.size (.tup xs), I1.laid (t' := s1.toks) (fun b u e => Heap.get?_push_of_some _ e) (Nat.le_refl _) ?_, rfl, q _ hf⟩
 exact ⟨z, us, r, ⟨_, Heap.get?_push_size _ rfl, rfl, _, rfl⟩⟩
theorem qhM (h : PA X es t) : PE X (.List es pos) (qnY t) := by
 intro pins s Z H Q I hq
 refine wpAny_List_spliced (thn (h pos pins s Z H _ I hq) fun us s1 ⟨xs, H1, I1, r, z, q⟩ => ⟨by rw [<- r.length]; exact z, ?_⟩)
 have hf : H1 s1.heap.objs.size = none := I1.hok.fresh (Nat.le_refl _)
 refine ⟨.ref s1.heap.objs.size, upd H1 s1.heap.objs.size (.lst xs), I1.laid (t' := s1.toks) (fun b u e => Heap.get?_push_of_some _ e) (Nat.le_refl _) ?_, rfl, q _ hf⟩
 exact ⟨z, us, 0, r, Heap.get?_push_size _ rfl⟩
end
abbrev Sp := List V -> Hp -> VK -> XK -> Prop
abbrev CXT := List Env -> Hp -> Shared -> XK -> Value -> Shared -> Prop
structure qkb (P : Program) (w : World) (K : PySem.W.Frag) (mg : Str -> Option Value) (base : Heap) (A : Around) (outer : List Env) (s : Shared) (H : Hp) : Prop where
 frames : A.frames = some outer
 mod : Mod K mg base
 bs : ∀ b o, base.get? b = some o -> s.heap.get? b = some o /\ H b = none
 bsz : base.objs.size <= s.heap.objs.size
 funs : s.heap.FunFrames base outer
 frf : ∀ b ∈ frs outer, H b = none
 hok : HOk P w H s.heap
 bare : AllBare s.gens
def CE (outer : List Env) (P : Program) (w : World) (H : Hp) (s : Shared) (Q : VK) (u : Value) (s' : Shared) : Prop :=
 ∃ v H', s'.os = s.os /\ AllBare s'.gens /\ Un (frs outer) [] H H' s.heap s'.heap /\ HOk P w H' s'.heap /\ jE v u /\ Q v H'
def CR (CX : CXT) (outer : List Env) (P : Program) (w : World) (H : Hp) (s : Shared) (Q : VK) (E : XK) (r : Result) (s' : Shared) : Prop :=
 match r with
 | .ok (.ret u) => CE outer P w H s Q u s'
 | .ok _ => False
 | .error e => CX outer H s E e s'
structure u8 (P : Program) (w : World) (K : PySem.W.Frag) (mg : Str -> Option Value) (base : Heap) (CX : CXT) (k : Nat) (f : Addr) (fd : FuncData) (ps : List Str) (sp : Sp) : Prop where
 len : ∀ vs H Q E, sp vs H Q E -> vs.length = ps.length
 run : ∀ (A : Around) (outer : List Env) (s : Shared) (H : Hp) (args : Args) (us : List Value) (vs : List V) (Q : VK) (E : XK), uc k A -> qkb P w K mg base A outer s H -> BindsTo s fd args (ps.zip us) -> zb vs us -> sp vs H Q E ->
  codeAny (model P w) A (.call (.ref f) args) (CR CX outer P w H s Q E) s
theorem u8.mono {P : Program} {w : World} {K : PySem.W.Frag} {mg : Str -> Option Value} {base : Heap} {CX : CXT} {j k : Nat} {f : Addr} {fd : FuncData} {ps : List Str} {sp : Sp} (F : u8 P w K mg base CX j f fd ps sp) (h : j <= k) :
  u8 P w K mg base CX k f fd ps sp := ⟨F.len, fun A outer s H args us vs Q E hr => F.run A outer s H args us vs Q E (hr.mono h)⟩
section
variable {X : Cx} {pins : List (Addr × Obj)} {Z : St} {H : Hp} {s s' : Shared}
theorem Inv.env0 (I : Inv X pins Z H s) : qkb X.prog X.w X.K X.mg X.base X.A X.stack s H :=
 ⟨I.ok.frames, I.ok.mod, I.bs, Nat.le_trans I.ok.bsz I.sz, I.stack, I.stkFree, I.hok, I.bare⟩
theorem Inv.after {Q : VK} {u : Value} (I : Inv X pins Z H s) (h : CE X.stack X.prog X.w H s Q u s') : EP X pins Z Q u s' := by
 obtain ⟨v, H', os, bare, un, hok, r, q⟩ := h
 obtain ⟨hh, g, d, t, os'⟩ := s'
 obtain rfl : os' = s.os := os
 exact ⟨v, H', I.call (h' := hh) (g' := g) (d' := d) (t' := t) (ch := []) un hok bare (fun b z => absurd z (by simp)), r, q⟩
end
def qmx (sp : Sp) (dvs : List V) (E : XK) (t : TA) : TE := fun Z H Q => t Z H fun vs H1 => sp (vs ++ dvs) H1 Q E
def uC (K : PySem.W.Frag) (fd : FuncData) (ps : List Str) (ds : List Value) : Prop :=
 ∀ (s : Shared) (us : List Value), K.In s.heap -> (us ++ ds).length = ps.length -> BindsTo s fd ⟨us, []⟩ (ps.zip (us ++ ds))
theorem uC.all {K : PySem.W.Frag} {fd : FuncData} {ps : List Str} (h : ∀ us : List Value, us.length = ps.length -> bindArgs fd ⟨us, []⟩ = pure (ps.zip us)) : uC K fd ps [] := fun s us _ hl => by
 rw [List.append_nil] at hl |-
 exact .of_eq (h us hl)
def w8 (CX : CXT) (X : Cx) (E : XK) : Prop := ∀ (pins : List (Addr × Obj)) (Z : St) (H : Hp) (s : Shared) (e : Value) (s' : Shared), Inv X pins Z H s -> CX X.stack H s E e s' -> X.xe e s'
section
variable {X : Cx} {CX : CXT} {k : Nat} {f C : Addr} {fd : FuncData} {ps : List Str} {sp : Sp} {dvs : List V} {ds : List Value} {E : XK} {x m : Str} {p pos apos : Pos} {e o : Expr} {es : List Expr} {ta : TE} {t : TA}
theorem qkN {pins : List (Addr × Obj)} {Z : St} {H : Hp} {s : Shared} {Q : VK} {us : List Value} {vs : List V} (F : u8 X.prog X.w X.K X.mg X.base CX k f fd ps sp) (hr : uc k X.A) (hb : uC X.K fd ps ds) (hd : zb dvs ds) (hx : w8 CX X E)
  (I : Inv X pins Z H s) (r : zb vs us) (h : sp (vs ++ dvs) H Q E) : wpAny (model X.prog X.w) X.A (call (.ref f) us) (EP X pins Z Q) X.xe s := by
 have r2 : zb (vs ++ dvs) (us ++ ds) := r.append hd
 have hl : (us ++ ds).length = ps.length := by rw [<- r2.length]; exact F.len _ _ _ _ h
 refine wpAny_call (codeAny_mono (F.run X.A X.stack s H ⟨us, []⟩ (us ++ ds) (vs ++ dvs) Q E hr I.env0 (hb s us I.kIn hl) r2 h) fun r s' hq => ?_)
 cases r with
 | error e => exact hx pins Z H s e s' I hq
 | ok fl =>
  cases fl with
  | ret u => exact I.after hq
  | next => exact False.elim hq
  | brk => exact False.elim hq
  | cont => exact False.elim hq
theorem w9 (F : u8 X.prog X.w X.K X.mg X.base CX k f fd ps sp) (hr : uc k X.A) (hg : Gl X x) (hm : X.mg x = some (.ref f)) (hk : PySem.W.keepIn X.K (.ref f) = true) (hb : uC X.K fd ps ds) (hd : zb dvs ds) (hx : w8 CX X E)
  (ha : PA X (e :: es) t) (hdb : (x == ("__debug__" : Str)) = false := by decide) (he : starEach (e :: es) X.env = (false, eval e X.env) :: starEach es X.env := by rfl) (hpl : (backTo pos (starEach es X.env)).any (·.1) = false := by rfl) :
  PE X (.Call (.Name x p) (e :: es) [] pos) (qmx sp dvs E t) := by
 intro pins s Z H Q I h
 refine wpAny_Call_Name_kw (qaZ I hg hm ?_ hdb)
 refine PySem.W.callWith_K (h₀ := X.base) I.ok.mod.kin hk (thn (ha pos pins s Z H _ I h) fun us s1 ⟨vs, H1, I1, r, q⟩ => ⟨I1.kIn, ?_⟩) he hpl
 exact qkN F hr hb hd hx I1 r q
structure Mk (K : PySem.W.Frag) (C f : Addr) : Prop where
 makes : PySem.W.makesIn K C = true
 init : PySem.W.findIn K (.ref C) "__init__" = some (some (.ref f))
 fn : PySem.W.isFn K (.ref f) = true
 kp : PySem.W.keepIn K (.ref C) = true
end
def PK (X : Cx) (kws : List Keyword) (t : TA) : Prop :=
 ∀ (pos : Pos) (pins : List (Addr × Obj)) (s : Shared) (Z : St) (H : Hp) (Q : List V -> Hp -> Prop), Inv X pins Z H s -> t Z H Q -> wpAny (model X.prog X.w) X.A (evalAll ((backToKw pos (keywordEach kws X.env)).map (·.2))) (AP X pins Z Q) X.xe s
section
variable {X : Cx} {CX : CXT} {k : Nat} {f C : Addr} {fd : FuncData} {ps ks : List Str} {sp : Sp} {E : XK} {x m : Str} {p pos apos kpos : Pos} {e o : Expr} {es : List Expr} {kws : List Keyword} {te ta : TE} {t tk : TA} {nm : Option Str}
theorem qkO : PK X [] qmw := fun _ _ _ _ H Q I h => wpAny_evalAll_nil ⟨[], H, I, .nil, h⟩
theorem qiK (ha : PE X e te) (hr : PK X kws t) : PK X (⟨nm, e, kpos⟩ :: kws) (qgD te t) := by
 intro pos pins s Z H Q I h
 show wpAny _ _ (evalAll ((do let v <- eval e X.env; standAt pos; pure v) :: (backToKw pos (keywordEach kws X.env)).map (·.2))) _ _ s
 refine wpAny_evalAll_cons (wpAny_bind (thn (ha pins s Z H _ I h) fun u s1 ⟨x, H1, I1, r1, q1⟩ => wpAny_bind (wpAny_standAt (wpAny_pure ?_))))
 exact thn (hr pos pins s1 Z H1 _ I1 q1) fun us s2 ⟨xs, H2, I2, r2, q2⟩ => ⟨x :: xs, H2, I2, .cons r1 r2, q2⟩
variable {g : List Value -> List Value -> List Value} {gV : List V -> List V -> List V}
end
structure qw (N P : List Str) (sc : Scope) : Prop where
 kind : sc.kind = .function
 co : sc.isCoroutine = false
 gen : sc.isGenerator = false
 nd : N.Nodup
 pre : N.take P.length = P
 par : ∀ x ∈ P, sc.names.lookup x = some .local \/ sc.names.lookup x = some .cell
 nofree : ∀ y ∈ sc.names, y.2 ≠ .free
theorem qbL {kindOf : Str -> Option NameKind} {x : Str} : ∀ {binds : List (Str × Value)} {m : Str -> Option Value}, (∀ v, (x, v) ∉ binds) -> bindL kindOf binds m x = m x
 | [], _, _ => rfl
 | (n, v) :: r, m, h => by
  unfold bindL
  rw [qbL fun w hw => h w (mM _ hw)]
  split
  ·have : x ≠ n := by rintro rfl; exact h v mS_
   simp [this]
  ·rfl
theorem qbM {kindOf : Str -> Option NameKind} {x : Str} : ∀ {binds : List (Str × Value)} {m : Str -> Option Value}, (∀ v, (x, v) ∉ binds) -> bindC kindOf binds m x = m x
 | [], _, _ => rfl
 | (n, v) :: r, m, h => by
  unfold bindC
  rw [qbM fun w hw => h w (mM _ hw)]
  split
  ·rfl
  ·have : x ≠ n := by rintro rfl; exact h v mS_
   simp [this]
theorem qaa {kindOf : Str -> Option NameKind} {x : Str} {v : Value} : ∀ {P : List Str} {vs : List Value} {i : Nat} {m : Str -> Option Value}, P.Nodup -> P[i]? = some x -> vs[i]? = some v -> kindOf x = some .local ->
  bindL kindOf (P.zip vs) m x = some v
 | [], _, _, _, _, h, _, _ => by simp at h
 | _ :: _, [], _, _, _, _, h, _ => by simp at h
 | p :: P, w :: vs, 0, m, nd, h1, h2, hk => by
  simp at h1 h2; subst h1; subst h2
  show bindL kindOf ((p, w) :: P.zip vs) m p = _
  unfold bindL
  rw [qbL fun v hv => (List.nodup_cons.mp nd).1 (List.of_mem_zip hv).1, if_pos hk]
  simp
 | p :: P, w :: vs, i + 1, m, nd, h1, h2, hk => by
  show bindL kindOf ((p, w) :: P.zip vs) m x = _
  unfold bindL
  exact qaa (i := i) (List.nodup_cons.mp nd).2 (by simpa using h1) (by simpa using h2) hk
theorem qab {kindOf : Str -> Option NameKind} {x : Str} {v : Value} : ∀ {P : List Str} {vs : List Value} {i : Nat} {m : Str -> Option Value}, P.Nodup -> P[i]? = some x -> vs[i]? = some v -> kindOf x ≠ some .local ->
  bindC kindOf (P.zip vs) m x = some v
 | [], _, _, _, _, h, _, _ => by simp at h
 | _ :: _, [], _, _, _, _, h, _ => by simp at h
 | p :: P, w :: vs, 0, m, nd, h1, h2, hk => by
  simp at h1 h2; subst h1; subst h2
  show bindC kindOf ((p, w) :: P.zip vs) m p = _
  unfold bindC
  rw [qbM fun v hv => (List.nodup_cons.mp nd).1 (List.of_mem_zip hv).1, if_neg hk]
  simp
 | p :: P, w :: vs, i + 1, m, nd, h1, h2, hk => by
  show bindC kindOf ((p, w) :: P.zip vs) m x = _
  unfold bindC
  exact qab (i := i) (List.nodup_cons.mp nd).2 (by simpa using h1) (by simpa using h2) hk
def zD (N : List Str) (vs : List V) : St := vs.map some ++ List.replicate (N.length - vs.length) none
def qeP (CX : CXT) (P : Program) (w : World) (K : PySem.W.Frag) (mg : Str -> Option Value) (base : Heap) (N : List Str) (qual : Str) (scope : Scope) (f : Addr) (cd : Value) (A : Around) (outer : List Env) (s : Shared) (H : Hp) (E : XK) : Cx where
 prog := P
 w := w
 K := K
 mg := mg
 base := base
 A := A.deeper (envOfC qual scope s.heap.objs.size f cd)
 N := N
 s₀ := s
 H₀ := H
 env := envOfC qual scope s.heap.objs.size f cd
 outer := outer
 stack := envOfC qual scope s.heap.objs.size f cd :: outer
 ex := []
 calm := true
 fn := fun _ => true
 pn := []
 xe := fun e s' => wpAny (model P w) (A.deeper (envOfC qual scope s.heap.objs.size f cd)) (leaving (envOfC qual scope s.heap.objs.size f cd) e) (fun _ s'' => CX outer H s E e s'') (fun e' s'' => CX outer H s E e' s'') s'
theorem wU {sc : Scope} {n : Nat} {x : Str} (h : sc.names.lookup x = some .cell) : ∃ c, (cellsFrom n sc.names []).lookup x = some c := by
 have q := PySem.W.cellsFrom_some sc.names n [] (.inl h)
 exact Option.isSome_iff_exists.mp q
theorem qeQ {CX : CXT} {P : Program} {w : World} {K : PySem.W.Frag} {mg : Str -> Option Value} {base : Heap} {N ps : List Str} {qual : Str} {scope : Scope} {f : Addr} {cd : Value} {A : Around} {outer : List Env} {s s1 : Shared} {H : Hp} {E : XK} {us : List Value} {vs : List V}
  (S : qw N ps scope) (hd : A.handled = none) (e0 : qkb P w K mg base A outer s H) (hl : vs.length = ps.length) (r : zb vs us)
  (x : InCallC s s.heap.objs.size (bindL (envOfC qual scope s.heap.objs.size f cd).kindOf (ps.zip us) fun _ => none) (cellsFrom (s.heap.objs.size + 1) scope.names []) (bindC (envOfC qual scope s.heap.objs.size f cd).kindOf (ps.zip us) fun _ => none) s1) :
  Inv (qeP CX P w K mg base N qual scope f cd A outer s H E) [] (zD N vs) H s1 := by
 have hpl : ps.length <= N.length := by have := congrArg List.length S.pre; rw [List.length_take] at this; omega
 obtain ⟨h1, tk, rfl, hk⟩ := x.done
 have noA : ∀ b : Addr, b ∉ (qeP CX P w K mg base N qual scope f cd A outer s H E).ex := fun b z => absurd (show b ∈ ([] : List Addr) from z) (by simp)
 refine ⟨⟨e0.mod, S.kind, rfl, rfl, Nat.le_refl _, fun y z c h1 h2 => ?_, fun y hy => ?_, fun y c _ h => ?_, fun _ => hd, Around.frames_deeper e0.frames, .inr ⟨rfl, rfl⟩, fun b z => absurd z (noA b), e0.bs, e0.bsz, fun b _ _ => noA b, fun b z => absurd z (noA b), e0.funs, e0.frf⟩,
  rfl, e0.bare, Un.kept hk, ⟨_, x.toInCall.ns, fun i y v h1 h2 h3 => ?_⟩, fun y c h => ⟨_, x.cell y c h⟩, e0.hok.fresh (Nat.le_refl _), fun y c h => ?_, fun p hp => absurd (show p ∈ ([] : List (Addr × Obj)) from hp) (by simp), e0.hok.kept hk, ?_⟩
 ·exact name_of_addr x.apart (PySem.mem_of_lookup h1) (PySem.mem_of_lookup h2)
 ·have hy : scope.names.lookup y = some .cell \/ scope.names.lookup y = some .free := hy
  rcases hy with hy | hy
  ·exact wU hy
  ·exact absurd rfl (S.nofree _ (PySem.mem_of_lookup hy))
 ·exact Nat.le_of_lt (x.above y c (PySem.mem_of_lookup h))
 ·have hi : i < vs.length := by
   unfold zD at h2
   by_cases hi : i < vs.length
   ·exact hi
   ·rw [List.getElem?_append_right (by simpa using hi)] at h2
    rw [List.getElem?_replicate] at h2
    split at h2 <;> cases h2
  have ha : vs[i]? = some v := by
   unfold zD at h2
   rw [List.getElem?_append_left (by simpa using hi), gM_] at h2
   cases e : vs[i]? with
   | none => rw [e] at h2; cases h2
   | some a => rw [e] at h2; cases h2; rfl
  obtain ⟨u, hu, rv⟩ := r.get ha
  have hp : ps[i]? = some y := by
   rw [<- S.pre, List.getElem?_take_of_lt (by omega)]; exact h1
  have ndP : ps.Nodup := by rw [<- S.pre]; exact S.nd.sublist (List.take_sublist _ _)
  refine ⟨u, rv, ?_⟩
  rcases S.par y (List.mem_of_getElem? hp) with k | k
  ·exact .inl ⟨k, qaa ndP hp hu k⟩
  ·obtain ⟨c, e⟩ := wU (n := s.heap.objs.size + 1) k
   refine .inr ⟨.inl k, c, e, ?_⟩
   have q := x.cell y c e
   rw [qab ndP hp hu (by show scope.names.lookup y ≠ _; rw [k]; decide)] at q
   exact q
 ·exact e0.hok.fresh (Nat.le_of_lt (x.above y c (PySem.mem_of_lookup h)))
 ·unfold zD
  show _ = N.length
  rw [lA_, lM_, List.length_replicate]
  omega
theorem qiL {CX : CXT} {P : Program} {w : World} {K : PySem.W.Frag} {mg : Str -> Option Value} {base : Heap} {k : Nat} {f : Addr} {name qual : Str} {params : Arguments} {body : List Stmt} {scope : Scope} {dV kV doc pm cdv ct oc : Value} {an od : Option Addr}
  {osl : Array (Option Value)} {N ps : List Str} {sp : Sp} (lk : K.lookup f = some ⟨oc, od, .func (PySem.W.fnOf name qual params body scope dV kV doc pm an cdv ct), osl⟩) (hcd : PySem.W.codeIn K cdv qual = true) (S : qw N ps scope)
  (len : ∀ vs H Q E, sp vs H Q E -> vs.length = ps.length)
  (hbody : ∀ (A : Around) (outer : List Env) (s : Shared) (H : Hp) (vs : List V) (Q : VK) (E : XK), uc k (A.deeper (envOfC qual scope s.heap.objs.size f cdv)) -> sp vs H Q E ->
   ∃ t, PSs (qeP CX P w K mg base N qual scope f cdv A outer s H E) body t /\ t { nx := fun _ H' => Q .non H', rt := Q } (zD N vs) H) :
  u8 P w K mg base CX (k + 1) f (PySem.W.fnOf name qual params body scope dV kV doc pm an cdv ct) ps sp := by
 refine ⟨len, fun A outer s H args us vs Q E hr e0 hb r hsp => ?_⟩
 have hl := len _ _ _ _ hsp
 have KX : K.In s.heap := e0.mod.kin.keeps fun b o e => (e0.bs b o e).1
 have lim : s.heap.NoLimit := e0.mod.nolimit.keeps fun b o e => (e0.bs b o e).1
 have hkind : ∀ y ∈ ps.zip us, scope.names.lookup y.1 = some .local \/ (scope.names.lookup y.1 = some .cell /\ ((cellsFrom (s.heap.objs.size + 1) scope.names []).lookup y.1).isSome = true) := fun ⟨n, v⟩ hy => by
  rcases S.par n (List.of_mem_zip hy).1 with q | q
  ·exact .inl q
  ·exact .inr ⟨q, PySem.W.cellsFrom_some _ _ _ (.inl q)⟩
 refine codeAny_call_function hr.depth (KX _ _ lk) rfl S.co S.gen rfl (PySem.W.codeRec_of KX hcd) (hb _ _ _ _ ?_)
 refine wpAny_newFunctionEnv_cells S.kind hkind fun env he s1 x => ?_
 subst he
 refine ⟨lim.keeps x.toInCall.keep, codeAny_func ?_⟩
 obtain ⟨t, ht, hq⟩ := hbody A outer s H vs Q E (hr.deeper _) hsp
 have I : Inv (qeP CX P w K mg base N qual scope f cdv A outer s H E) [] (zD N vs) H s1 := qeQ S hr.hd e0 hl r x
 refine wpAny_mono (ht [] s1 (zD N vs) H _ I hq) (fun fl s' hs => ?_) fun e s' hs => hs
 have fin : ∀ {Z' : St} {H' : Hp} {v : V} {u : Value}, Inv (qeP CX P w K mg base N qual scope f cdv A outer s H E) [] Z' H' s' -> jE v u -> Q v H' -> CE outer P w H s Q u s' :=
  fun {Z' H' v u} J rv q => ⟨v, H', J.os, J.bare, J.base, J.hok, rv, q⟩
 cases fl with
 | ret u =>
  obtain ⟨v, Z', H', J, rv, q⟩ := hs
  exact fin J rv q
 | next =>
  obtain ⟨Z', H', J, q⟩ := hs
  exact fin (v := V.non) (u := Value.none) J rfl q
 | brk =>
  obtain ⟨_, _, _, q⟩ := hs
  exact False.elim q
 | cont =>
  obtain ⟨_, _, _, q⟩ := hs
  exact False.elim q
end L2
namespace L2
open PySem PySem.Spec PyProof.Rows
section
variable {X : Cx} {x : Str} {p pos : Pos} {e : Expr} {es : List Expr} {t : TA} {id T : String} {r : List V -> Hp -> VK -> Prop}
def tCB (r : List V -> Hp -> VK -> Prop) (t : TA) : TE := fun Z H Q => t Z H fun vs H1 => r vs H1 Q
theorem vF (hc : yY X (.builtin id) r) (hg : Gl X x) (hm : X.mg x = none) (hv : bootBuiltins x = some (.builtin id)) (ha : PA X (e :: es) t) (hn : x ≠ "__name__" := by decide) (hdb : (x == ("__debug__" : Str)) = false := by decide)
  (he : starEach (e :: es) X.env = (false, eval e X.env) :: starEach es X.env := by rfl) (hpl : (backTo pos (starEach es X.env)).any (·.1) = false := by rfl) : PE X (.Call (.Name x p) (e :: es) [] pos) (tCB r t) := by
 intro pins s Z H Q I h
 refine wpAny_Call_Name_kw (qaJ I hg hm hv ?_ hn hdb)
 exact PyProof.Rows.callWith_builtin1 (thn (ha pos pins s Z H _ I h) fun us s1 ⟨vs, H1, I1, r1, q1⟩ => hc pins s1 Z H1 vs us Q I1 r1 q1) he hpl
theorem qeR (hc : yY X (.type T) r) (hg : Gl X x) (hm : X.mg x = none) (hv : bootBuiltins x = some (.type T)) (ha : PA X (e :: es) t) (hn : x ≠ "__name__" := by decide) (hdb : (x == ("__debug__" : Str)) = false := by decide)
  (he : starEach (e :: es) X.env = (false, eval e X.env) :: starEach es X.env := by rfl) (hpl : (backTo pos (starEach es X.env)).any (·.1) = false := by rfl) : PE X (.Call (.Name x p) (e :: es) [] pos) (tCB r t) := by
 intro pins s Z H Q I h
 refine wpAny_Call_Name_kw (qaJ I hg hm hv ?_ hn hdb)
 exact PyProof.Rows.callWith_type1 (thn (ha pos pins s Z H _ I h) fun us s1 ⟨vs, H1, I1, r1, q1⟩ => hc pins s1 Z H1 vs us Q I1 r1 q1) he hpl
end
end L2
namespace HT
open PySem PyProof.Rows
def lexLt : List Int -> List Int -> Bool
 | [], [] => false
 | [], _ :: _ => true
 | _ :: _, [] => false
 | x :: xs, y :: ys => if x = y then lexLt xs ys else decide (x < y)
section
open PySem.SeqAt
open PySem.AutoSeq1 (wpAny_loadPart')
open PySem.MeetsSeq PySem.MeetsSeq2 PySem.MeetsSeq3
end
section
variable {prog : Program} {w : World} {A : Around} {E : Value -> Shared -> Prop} {s : Shared}
theorem cat_tup {t b : Addr} {vs ws : List Value} {Q : Value -> Shared -> Prop} (ht : IsTup s.heap t vs.toArray) (hb : IsTup s.heap b ws.toArray) (hv : vs ≠ [])
  (h1 : ws = [] -> Q (.ref t) s) (h2 : ws ≠ [] -> Q (.ref s.heap.objs.size) { s with heap := s.heap.push { cls := .type "tuple", data := .seq (vs ++ ws).toArray } })
  (hsz : vs.length + ws.length <= sizeLine) : wpAny (model prog w) A (binaryOp .Add (.ref t) (.ref b)) Q E s := by
 obtain ⟨⟨cls, dd, data, sl⟩, ho, hc, n, hd⟩ := id ht
 obtain ⟨⟨cls2, dd2, data2, sl2⟩, ho2, hc2, n2, hd2⟩ := id hb
 simp only at hc hd hc2 hd2
 subst hc hd hc2 hd2
 have e : vs.toArray ++ ws.toArray = (vs ++ ws).toArray := by simp
 by_cases hw : ws = []
 ·exact concat_meets ⟨_, ho, rfl⟩ ⟨_, ho2, rfl⟩ noFill_tuple_add seq_tuple_add PySem.F.slot_tuple_add PySem.F.entry_tuple_add (PySem.F.args_tuple_add_2 _ _)
   (tuple_addW1 t b vs.toArray ws.toArray n n2 dd dd2 sl sl2 (by simpa using hv) (by simp [hw])) ⟨ho, ho2, h1 hw⟩
 ·refine concat_meets ⟨_, ho, rfl⟩ ⟨_, ho2, rfl⟩ noFill_tuple_add seq_tuple_add PySem.F.slot_tuple_add PySem.F.entry_tuple_add (PySem.F.args_tuple_add_2 _ _)
   (tuple_addW2 t b vs.toArray ws.toArray n n2 dd dd2 sl sl2 (by simpa using hv) (by simpa using hw) (by rw [sT_, sT_]; exact hsz)) ⟨ho, ho2, ?_⟩
  rw [e]
  exact h2 hw
def sIx (n d : Nat) : Option Int -> Nat
 | none => d
 | some v => if v < 0 then (v + (n : Int)).toNat else min v.toNat n
end
end HT
namespace L2
open PySem PySem.Spec PyProof.Rows
section
variable {X : Cx} {e : Expr} {te : TE} {lo hi : Option Expr} {tl th : TO} {pos p2 : Pos}
def SlR (X : Cx) (r : V -> Option Int -> Option Int -> Hp -> VK -> Prop) : Prop :=
 ∀ (pins : List (Addr × Obj)) (s : Shared) (Z : St) (H : Hp) (x : V) (v vl vu : Value) (lo hi : Option Int) (sl : Addr) (Q : VK), Inv X pins Z H s -> jE x v -> s.heap.IsSliceOf sl vl vu .none -> IsPart vl lo -> IsPart vu hi -> r x lo hi H Q ->
  ∃ T id, typeLookup (.type T) "__getitem__" = pure (some (.builtin id)) /\ s.TypeIs v T /\ wpAny (model X.prog X.w) X.A (getItem v (.ref sl)) (EP X pins Z Q) X.xe s
theorem SlR.or {r r' : V -> Option Int -> Option Int -> Hp -> VK -> Prop} (h : SlR X r) (h' : SlR X r') : SlR X (fun x lo hi H Q => r x lo hi H Q \/ r' x lo hi H Q) := by
 intro pins s Z H x v vl vu lo hi sl Q I rx hs pl pu q
 rcases q with q | q
 ·exact h pins s Z H x v vl vu lo hi sl Q I rx hs pl pu q
 ·exact h' pins s Z H x v vl vu lo hi sl Q I rx hs pl pu q
def ql5 (xs : List V) (lo hi : Option Int) : List V := (xs.drop (HT.sIx xs.length 0 lo)).take (HT.sIx xs.length xs.length hi - HT.sIx xs.length 0 lo)
theorem qcz (xs : List V) (lo hi : Option Int) : (ql5 xs lo hi).length <= xs.length := by
 unfold ql5
 rw [List.length_take, List.length_drop]
 omega
def qkP (K : PySem.W.Frag) : R2 := fun x y H Q => ∃ a b xs ys, x = .ref a /\ y = .ref b /\ SqT K H a xs /\ SqT K H b ys /\ xs ≠ [] /\ xs.length + ys.length <= sizeLine /\
 (ys = [] -> Q (.ref a) H) /\ (ys ≠ [] -> ∀ p, H p = none -> Q (.ref p) (upd H p (.tup (xs ++ ys))))
theorem zb.nil_iff {xs : List V} {us : List Value} (r : zb xs us) : us = [] ↔ xs = [] := by
 cases r with
 | nil => simp
 | cons _ _ => simp
theorem qiM : OpR X (binaryOp .Add) (qkP X.K) := by
 intro pins s Z H x y v u Q I rx ry h
 obtain ⟨a, b, xs, ys, rfl, rfl, ha, hb, hx, hz, q1, q2⟩ := h
 cases rx
 cases ry
 obtain ⟨its, r1, p1, _⟩ := I.tuple ha
 obtain ⟨its2, r2, p2, _⟩ := I.tuple hb
 refine HT.cat_tup p1 p2 (fun z => hx (r1.nil_iff.mp z)) (fun z => ⟨.ref a, H, I, rfl, q1 (r2.nil_iff.mp z)⟩) (fun z => ?_) (by rw [<- r1.length, <- r2.length]; exact hz)
 refine ⟨.ref s.heap.objs.size, _, I.laid (t' := s.toks) (o := .tup (xs ++ ys)) (fun b ob q => Heap.get?_push_of_some _ q) (Nat.le_refl _) ?_, rfl, q2 (fun w => z (r2.nil_iff.mpr w)) _ (I.hok.fresh (Nat.le_refl _))⟩
 exact ⟨by rw [lA_]; exact hz, _, r1.append r2, IsTup.new _ _⟩
end
end L2
namespace L2
open PySem PySem.Spec PyProof.Rows
def ixN (n : Nat) (i : Int) : Option Nat := if 0 <= i then (if i < n then some i.toNat else none) else if -(n : Int) <= i then some (i + n).toNat else none
def atI {α : Type} (xs : List α) (i : Int) : Option α := (ixN xs.length i).bind fun j => xs[j]?
theorem qeS {n : Nat} {i : Int} {j : Nat} (h : ixN n i = some j) : seqIndex? i n = some j /\ j < n /\ -(n : Int) <= i /\ i < n := by
 unfold ixN at h
 by_cases h0 : 0 <= i
 ·rw [if_pos h0] at h
  by_cases h1 : i < n
  ·rw [if_pos h1] at h
   have e : i.toNat = j := Option.some.inj h
   exact ⟨by rw [seqIndex_of h0 h1, e], by omega, by omega, h1⟩
  ·rw [if_neg h1] at h; cases h
 ·rw [if_neg h0] at h
  by_cases h1 : -(n : Int) <= i
  ·rw [if_pos h1] at h
   have e : (i + n).toNat = j := Option.some.inj h
   exact ⟨by rw [seqIndex_neg (by omega) h1, e], by omega, h1, by omega⟩
  ·rw [if_neg h1] at h; cases h
theorem qeT {α : Type} {xs : List α} {i : Int} {v : α} (h : atI xs i = some v) : ∃ j, seqIndex? i xs.length = some j /\ xs[j]? = some v /\ j < xs.length /\ -(xs.length : Int) <= i /\ i < xs.length := by
 unfold atI at h
 cases e : ixN xs.length i with
 | none => rw [e] at h; cases h
 | some j =>
  rw [e] at h
  obtain ⟨h1, h2, h3, h4⟩ := qeS e
  exact ⟨j, h1, h, h2, h3, h4⟩
def qcA (b : Expr) : Prop := ∀ o i, subscripted b false o i = operate [o, i] (getItem o i)
def IxR (X : Cx) (r : R2) : Prop :=
 ∀ (value slice : Expr) (pins : List (Addr × Obj)) (s : Shared) (Z : St) (H : Hp) (x y : V) (v u : Value) (Q : VK), Inv X pins Z H s -> jE x v -> jE y u -> r x y H Q ->
  subscripted slice false v u = operate [v, u] (getItem v u) -> wpAny (model X.prog X.w) X.A (subscriptTail value slice v u) (EP X pins Z Q) X.xe s
def MtR (X : Cx) (id : String) (r : V -> List V -> Hp -> VK -> Prop) : Prop :=
 ∀ (pins : List (Addr × Obj)) (s : Shared) (Z : St) (H : Hp) (x : V) (xs : List V) (v : Value) (us : List Value) (Q : VK), Inv X pins Z H s -> jE x v -> zb xs us -> r x xs H Q ->
  wpAny (model X.prog X.w) X.A (call (.builtin id) (v :: us)) (EP X pins Z Q) X.xe s
section
variable {X : Cx} {a b : Expr} {ta tb : TE} {pos : Pos}
theorem IxR.or {r r' : R2} (h : IxR X r) (h' : IxR X r') : IxR X (fun x y H Q => r x y H Q \/ r' x y H Q) := by
 intro value slice pins s Z H x y v u Q I rx ry q hs
 rcases q with q | q
 ·exact h value slice pins s Z H x y v u Q I rx ry q hs
 ·exact h' value slice pins s Z H x y v u Q I rx ry q hs
theorem MtR.or {id : String} {r r' : V -> List V -> Hp -> VK -> Prop} (h : MtR X id r) (h' : MtR X id r') : MtR X id (fun x xs H Q => r x xs H Q \/ r' x xs H Q) := by
 intro pins s Z H x xs v us Q I rx rs q
 rcases q with q | q
 ·exact h pins s Z H x xs v us Q I rx rs q
 ·exact h' pins s Z H x xs v us Q I rx rs q
theorem qkQ {r : R2} (hr : IxR X r) (ha : PE X a ta) (hb : PE X b tb) (hs : qcA b) : PE X (.Subscript a b pos) (tOp r ta tb) := by
 intro pins s Z H Q I h
 exact Subscript_ (qmp ha hb I h fun v u s2 x y H2 I2 rx ry q => hr a b pins s2 Z H2 x y v u Q I2 rx ry q (hs _ _))
def qmy (K : PySem.W.Frag) : R2 := fun x y H Q => ∃ p xs i v, x = .ref p /\ y = .int i /\ SqL K H p xs /\ atI xs i = some v /\ Q v H
def qmz (K : PySem.W.Frag) : R2 := fun x y H Q => ∃ p xs i v, x = .ref p /\ y = .int i /\ SqT K H p xs /\ atI xs i = some v /\ Q v H
theorem qeU : IxR X (qmy X.K) := by
 intro value slice pins s Z H x y v u Q I rx ry h hs
 obtain ⟨p, xs, i, z, rfl, rfl, hq, he, q⟩ := h
 cases rx
 obtain ⟨t, rfl⟩ := ry
 obtain ⟨its, r, pl, hz⟩ := I.list hq
 obtain ⟨j, h1, h2, h3, h4, h5⟩ := qeT he
 obtain ⟨w, ew, rw'⟩ := r.get h2
 have hl := r.length
 have hn := qbJ
 have fin : EP X pins Z Q w s := ⟨z, H, I, rw', q⟩
 by_cases h0 : 0 <= i
 ·have hj : i.toNat = j := by
   rw [seqIndex_of h0 h5] at h1
   exact Option.some.inj h1
  exact item_listR pl.isList h0 (by omega) (by rw [hj]; simpa using ew) fin hs
 ·have hj : (i + (its.toArray.size : Int)).toNat = j := by
   rw [seqIndex_neg (by omega) h4] at h1
   rw [sT_, <- hl]
   exact Option.some.inj h1
  exact subscriptTail_builtinR (x := w) pl.isList.typeIs slot_list_getitem.lookup
   (wpAny_getItem_list_neg (Q := fun r s' => r = w /\ EP X pins Z Q r s') pl.isList (by omega) (by rw [sT_] <;> omega) (by omega) (by rw [hj]; simpa using ew) ⟨rfl, fin⟩) hs
theorem qkR : IxR X (qmz X.K) := by
 intro value slice pins s Z H x y v u Q I rx ry h hs
 obtain ⟨p, xs, i, z, rfl, rfl, hq, he, q⟩ := h
 cases rx
 obtain ⟨t, rfl⟩ := ry
 obtain ⟨its, r, pl, hz⟩ := I.tuple hq
 obtain ⟨j, h1, h2, h3, h4, h5⟩ := qeT he
 obtain ⟨w, ew, rw'⟩ := r.get h2
 have hl := r.length
 have hn := qbJ
 have fin : EP X pins Z Q w s := ⟨z, H, I, rw', q⟩
 exact subscriptTail_builtinR (x := w) pl.typeIs slot_tuple_getitem.lookup
  (getItem_tuple (j := j) (Q := fun r s' => r = w /\ EP X pins Z Q r s') pl (by omega) (by omega) (by rw [sT_, <- hl]; exact h1) (by simpa using ew) ⟨rfl, fin⟩) hs
theorem qdZ (its : List Value) (n j : Nat) (u : Value) : Obj.mapSeq (·.setIfInBounds j u) { cls := .type "list", data := .seq its.toArray n } = { cls := .type "list", data := .seq (its.set j u).toArray n } := by
 simp [Obj.mapSeq]
theorem Inv.lst {pins : List (Addr × Obj)} {Z : St} {H : Hp} {s : Shared} {p : Addr} {xs : List V} (I : Inv X pins Z H s) (h : H p = some (.lst xs)) :
  ∃ (its : List Value) (n : Nat), zb xs its /\ s.heap.get? p = some { cls := .type "list", data := .seq its.toArray n } /\ xs.length <= sizeLine := by
 obtain ⟨z, its, n, r, e⟩ := I.hok p _ h
 exact ⟨its, n, r, e, z⟩
theorem Inv.lstUpd {pins : List (Addr × Obj)} {Z : St} {H : Hp} {s : Shared} {p : Addr} {xs ys : List V} {its its' : List Value} {n n' : Nat} {f : Obj -> Obj} (I : Inv X pins Z H s) (h : H p = some (.lst xs))
  (ho : s.heap.get? p = some { cls := .type "list", data := .seq its.toArray n }) (hf : f { cls := .type "list", data := .seq its.toArray n } = { cls := .type "list", data := .seq its'.toArray n' }) (r : zb ys its') (hz : ys.length <= sizeLine) (t : Nat) :
  Inv X pins Z (upd H p (.lst ys)) { s with heap := s.heap.update p f, toks := t } := by
 have e : (s.heap.update p f).get? p = some { cls := .type "list", data := .seq its'.toArray n' } := by
  rw [Heap.get?_update_self f ho (by rw [hf] <;> rfl), hf]
 refine I.write (x := p) (e := p) (by rw [h]; trivial) (.inl rfl) (fun b u hb q => (Heap.get?_update_other _ _ (Ne.symm hb)).trans q) ⟨_, e⟩ ?_
 exact ⟨hz, its', n', r, e⟩
def qmA : V -> V -> V -> Hp -> (Hp -> Prop) -> Prop := fun o i v H Q => ∃ p xs k j, o = .ref p /\ i = .int k /\ H p = some (.lst xs) /\ ixN xs.length k = some j /\ Q (upd H p (.lst (xs.set j v)))
theorem qgE : qnb X qmA := by
 intro pins s Z H o i v ov iv u Q I ro ri rv h
 obtain ⟨p, xs, k, j, rfl, rfl, hp, hj, q⟩ := h
 cases ro
 obtain ⟨t, rfl⟩ := ri
 obtain ⟨its, n, r, ho, hz⟩ := I.lst hp
 obtain ⟨h1, h2, h3, h4⟩ := qeS hj
 have hl := r.length
 have hn := qbJ
 have I' : Inv X pins Z (upd H p (.lst (xs.set j v))) { s with heap := s.heap.update p (Obj.mapSeq (·.setIfInBounds j u)) } :=
  I.lstUpd hp ho (qdZ its n j u) (r.set rv j) (by rw [lS_]; exact hz) s.toks
 by_cases h0 : 0 <= k
 ·have hk : k.toNat = j := by
   rw [seqIndex_of h0 h4] at h1
   exact Option.some.inj h1
  exact PySem.W.ki_setAt ho h0 (by omega) (by rw [sT_, <- hl]; exact h4) (by rw [hk]; exact ⟨_, I', q⟩)
 ·have hk : (k + (its.toArray.size : Int)).toNat = j := by
   rw [seqIndex_neg (by omega) h3] at h1
   rw [sT_, <- hl]
   exact Option.some.inj h1
  exact PySem.W.ki_setBack ho (by omega) (by rw [sT_, <- hl]; exact h3) (by omega) (by rw [hk]; exact ⟨_, I', q⟩)
theorem qbN (lo hi : Option Int) (n : Nat) : (sliceBounds lo hi none n).1 = ((HT.sIx n 0 lo : Nat) : Int) /\ (sliceBounds lo hi none n).2.1 = ((HT.sIx n n hi : Nat) : Int) /\ (sliceBounds lo hi none n).2.2 = 1 := by
 refine ⟨?_, ?_, rfl⟩
 ·cases lo with
  | none => simp [sliceBounds, HT.sIx]
  | some i =>
   simp only [sliceBounds, HT.sIx, Option.getD_none, show (1 : Int) > 0 by decide, if_true]
   by_cases h : i < 0
   ·simp only [h, if_true] <;> omega
   ·simp only [h, if_false] <;> omega
 ·cases hi with
  | none => simp [sliceBounds, HT.sIx]
  | some i =>
   simp only [sliceBounds, HT.sIx, Option.getD_none, show (1 : Int) > 0 by decide, if_true]
   by_cases h : i < 0
   ·simp only [h, if_true] <;> omega
   ·simp only [h, if_false] <;> omega
theorem qa0 (its : List Value) (lo hi : Option Int) : slicePick its.toArray lo hi none = ((its.drop (HT.sIx its.length 0 lo)).take (HT.sIx its.length its.length hi - HT.sIx its.length 0 lo)).toArray := by
 obtain ⟨h1, h2, h3⟩ := qbN lo hi its.toArray.size
 unfold slicePick
 rw [h1, h2, h3]
 simp only [sliceRange_one, pick_run, sT_] <;> rfl
def qnZ (K : PySem.W.Frag) : V -> Option Int -> Option Int -> Hp -> VK -> Prop := fun x lo hi H Q => ∃ a xs, x = .ref a /\ SqL K H a xs /\ ∀ p, H p = none -> Q (.ref p) (upd H p (.lst (ql5 xs lo hi)))
theorem qmB : SlR X (qnZ X.K) := by
 intro pins s Z H x v vl vu lo hi sl Q I rx hs pl pu h
 obtain ⟨a, xs, rfl, hx, q⟩ := h
 cases rx
 obtain ⟨its, r, ht, hz⟩ := I.list hx
 have hlen := r.length
 refine ⟨"list", _, slot_list_getitem.lookup, ht.isList.typeIs, ?_⟩
 refine wpAny_getItem_list_slice ht.isList hs pl pu .none (by simp) ?_ (by rw [sT_] <;> omega)
 rw [qa0, <- hlen]
 refine ⟨.ref s.heap.objs.size, _, I.laid (t' := s.toks) (o := .lst (ql5 xs lo hi)) (fun b ob q => Heap.get?_push_of_some _ q) (Nat.le_refl _) ?_, rfl, q _ (I.hok.fresh (Nat.le_refl _))⟩
 exact ⟨Nat.le_trans (qcz xs lo hi) hz, _, 0, (r.drop (HT.sIx xs.length 0 lo)).take (HT.sIx xs.length xs.length hi - HT.sIx xs.length 0 lo), Heap.get?_push_size _ rfl⟩
def qn0 : V -> Bool
 | .non => true
 | .bl _ => true
 | .int _ => true
 | .str _ => true
 | _ => false
def eqV : V -> V -> Bool
 | .non, .non => true
 | .bl a, .bl b => a == b
 | .bl a, .int b => (if a then 1 else 0) == b
 | .int a, .bl b => a == (if b then 1 else 0)
 | .int a, .int b => a == b
 | .str a, .str b => a == b
 | _, _ => false
theorem qbO : yY X (.builtin "len") (fun xs H Q => ∃ p ys, xs = [.ref p] /\ (SqL X.K H p ys \/ SqT X.K H p ys) /\ Q (.int ys.length) H) := by
 intro pins s Z H xs us Q I r h
 obtain ⟨p, ys, rfl, hq, q⟩ := h
 obtain ⟨u, rfl, rx⟩ := qgB r
 cases rx
 have hn := qbJ
 rcases hq with hq | hq
 ·obtain ⟨its, r', pl, hz⟩ := I.list hq
  have hlen := r'.length
  exact Calls.call_len_list pl.isList (by simp only [sT_] <;> omega) ⟨.int ys.length, H, I.tok _, ⟨s.toks + 1, by rw [sT_, hlen]⟩, q⟩
 ·obtain ⟨its, r', pl, hz⟩ := I.tuple hq
  have hlen := r'.length
  exact len_tuple pl (by simp only [sT_] <;> omega) ⟨.int ys.length, H, I.tok _, ⟨s.toks + 1, by rw [sT_, hlen]⟩, q⟩
theorem qbP : yY X (.builtin "len") (fun xs H Q => ∃ z, xs = [.str z] /\ z.length <= sizeLine /\ Q (.int z.length) H) := by
 intro pins s Z H xs us Q I r h
 obtain ⟨z, rfl, hz, q⟩ := h
 obtain ⟨u, rfl, t, rfl⟩ := qgB r
 have hn := qbJ
 exact len_str (by omega) ⟨.int z.length, H, I.tok _, ⟨_, rfl⟩, q⟩
theorem yY.or {f : Value} {r r' : List V -> Hp -> VK -> Prop} (h : yY X f r) (h' : yY X f r') : yY X f (fun xs H Q => r xs H Q \/ r' xs H Q) := by
 intro pins s Z H xs us Q I rs q
 rcases q with q | q
 ·exact h pins s Z H xs us Q I rs q
 ·exact h' pins s Z H xs us Q I rs q
theorem qa1 : yY X (.type "tuple") (fun xs H Q => ∃ p ys, xs = [.ref p] /\ ((SqL X.K H p ys /\ ∀ l, H l = none -> Q (.ref l) (upd H l (.tup ys))) \/ (SqT X.K H p ys /\ Q (.ref p) H))) := by
 intro pins s Z H xs us Q I r h
 obtain ⟨p, ys, rfl, h⟩ := h
 obtain ⟨u, rfl, rx⟩ := qgB r
 cases rx
 rcases h with ⟨hq, q⟩ | ⟨hq, q⟩
 ·obtain ⟨its, r', pl, hz⟩ := I.list hq
  have hlen := r'.length
  refine call_tuple_list pl.isList (fun h' kp => ?_) (by simp only [sT_] <;> omega)
  have I1 : Inv X pins Z H { s with heap := h' } := I.kept (t' := s.toks) kp
  have I2 : Inv X pins Z (upd H h'.objs.size (.tup ys)) { s with heap := h'.push { cls := .type "tuple", data := .seq its.toArray } } :=
   I1.laid (t' := s.toks) (fun b o e => Heap.get?_push_of_some _ e) (Nat.le_refl _) (show yq X.prog X.w _ _ _ (.tup ys) from ⟨hz, its, r', IsTup.new _ _⟩)
  exact ⟨.ref h'.objs.size, _, I2, rfl, q _ (I1.hok.fresh (Nat.le_refl _))⟩
 ·obtain ⟨its, r', pl, hz⟩ := I.tuple hq
  exact call_tuple_same pl ⟨.ref p, H, I, rfl, q⟩
def tyV (K : PySem.W.Frag) (T : String) (x : V) (H : Hp) : Prop := match x with
 | .str _ => T = "str"
 | .int _ => T = "int"
 | .ref p => (T = "list" /\ ∃ xs, SqL K H p xs) \/ (T = "tuple" /\ ∃ o, K.lookup p = some o /\ o.cls = .type "tuple" /\ o.dict = none) \/
   (T = "dict" /\ ((∃ kvs, H p = some (.dK kvs)) \/ ∃ kvs, H p = some (.dT kvs))) \/ (T = "set" /\ ∃ S n, H p = some (.set S n))
 | _ => False
theorem qkS {pins : List (Addr × Obj)} {Z : St} {H : Hp} {s : Shared} {T : String} {x : V} {v : Value} (I : Inv X pins Z H s) (r : jE x v) (ty : tyV X.K T x H) :
  s.TypeIs v T /\ ∀ a, v = .ref a -> ∃ ob, s.heap.get? a = some ob /\ ob.dict = none := by
 cases x with
 | str z =>
  obtain ⟨t, rfl⟩ := r
  cases (show T = "str" from ty)
  exact ⟨typeIs_str s z t, fun _ e => nomatch e⟩
 | int i =>
  obtain ⟨t, rfl⟩ := r
  cases (show T = "int" from ty)
  exact ⟨typeIs_int s i t, fun _ e => nomatch e⟩
 | ref p =>
  cases r
  rcases ty with ⟨rfl, xs, hq⟩ | ⟨rfl, o, hk, hc, hd⟩ | ⟨rfl, hk⟩ | ⟨rfl, S, n, hk⟩
  ·obtain ⟨its, _, pl, _⟩ := I.list hq
   refine ⟨pl.isList.typeIs, fun a e => ?_⟩
   cases e
   obtain ⟨o, n, e, c, hd, _⟩ := pl
   exact ⟨o, e, hd⟩
  ·refine ⟨⟨o, I.kIn p o hk, hc⟩, fun a e => ?_⟩
   cases e
   exact ⟨o, I.kIn _ o hk, hd⟩
  ·have z : ∃ o, s.heap.get? p = some o /\ o.ExactDict := by
    rcases hk with ⟨kvs, hk⟩ | ⟨kvs, hk⟩
    ·obtain ⟨_, _, _, _, o, _, _, e, ex, _⟩ := I.hok p _ hk
     exact ⟨o, e, ex⟩
    ·obtain ⟨_, _, _, _, o, _, _, e, ex, _⟩ := I.hok p _ hk
     exact ⟨o, e, ex⟩
   obtain ⟨o, e, ex⟩ := z
   refine ⟨⟨o, e, ex.1⟩, fun a e2 => ?_⟩
   cases e2
   exact ⟨o, e, ex.2.1⟩
  ·obtain ⟨o, _, _, _, e, ex, _⟩ := I.hok p _ hk
   refine ⟨⟨o, e, ex.1⟩, fun a e2 => ?_⟩
   cases e2
   exact ⟨o, e, ex.2.1⟩
 | _ => exact False.elim ty
def tBM (K : PySem.W.Frag) (T : String) (r : V -> List V -> Hp -> VK -> Prop) (to : TE) (t : TA) : TE := fun Z H Q => to Z H fun x H1 => tyV K T x H1 /\ t Z H1 fun xs H2 => r x xs H2 Q
variable {o e : Expr} {es : List Expr} {to : TE} {t : TA} {name : Str} {apos cpos : Pos} {T id : String} {r : V -> List V -> Hp -> VK -> Prop}
theorem qiN (pa : PlainAttrs T) (slot : Slot T name id) (hty : typeOf (.builtin id) = pure (.type "method_descriptor")) (hm : MtR X id r) (ho : PE X o to) (ha : PA X (e :: es) t)
  (hbase : attributeBase o name X.env (eval o X.env) = eval o X.env := by rfl)
  (hfew : ((backTo cpos (starEach (e :: es) X.env)).all (fun x => !x.1) && (backToKw cpos (keywordEach [] X.env)).all (fun x => x.1.isSome)
   && decide ((e :: es).length + ([] : List Keyword).length + (if ([] : List Keyword).isEmpty then 0 else 1) < 30)) = true := by rfl)
  (hline : (apos.endLine == cpos.line) = true := by rfl) (hs : starEach (e :: es) X.env = (false, eval e X.env) :: starEach es X.env := by rfl) (hplain : (backTo cpos (starEach es X.env)).any (·.1) = false := by rfl) :
  PE X (.Call (.Attribute o name apos) (e :: es) [] cpos) (tBM X.K T r to t) := by
 intro pins s Z H Q I h
 refine wpAny_Call_method_late hbase hfew hline rfl (thn (ho pins s Z H _ I h) fun v s1 ⟨x, H1, I1, r1, ty, q1⟩ => ?_)
 obtain ⟨h1, h2⟩ := qkS I1 r1 ty
 refine ⟨T, id, pa, slot, hty, h1, h2, ?_⟩
 have hA := ha cpos pins s1 Z H1 _ I1 q1
 rw [hs] at hA |-
 refine Calls.callWith_builtin (by show (false || (backTo cpos (starEach es X.env)).any (·.1)) = false; rw [hplain] <;> rfl) (Calls.evalArgs_plain ?_)
 exact thn hA fun us s2 ⟨vs, H2, I2, r2, q2⟩ => hm pins s2 Z H2 x vs v us Q I2 r1 r2 q2
/- xs.append(e), list.index on a module's tuple .. are MtR facts of 06m -/
end
end L2
namespace L2
open PySem PySem.Spec PyProof.Rows
def MtM (X : Cx) (id : String) (r : V -> List V -> Hp -> VK -> Prop) : Prop :=
 ∀ (pins : List (Addr × Obj)) (s : Shared) (Z : St) (H : Hp) (x : V) (xs : List V) (v : Value) (us : List Value) (Q : VK), Inv X pins Z H s -> jE x v -> zb xs us -> r x xs H Q ->
  wpAny (model X.prog X.w) X.A (call (.builtin id) (v :: us)) (EP X pins Z Q) X.xe s
theorem zb.one : ∀ {x : V} {us : List Value}, zb [x] us -> ∃ u, us = [u] /\ jE x u
 | _, _, .cons r .nil => ⟨_, rfl, r⟩
theorem zb.two : ∀ {x y : V} {us : List Value}, zb [x, y] us -> ∃ u v, us = [u, v] /\ jE x u /\ jE y v
 | _, _, _, .cons r (.cons q .nil) => ⟨_, _, rfl, r, q⟩
theorem zb.eraseIdx : ∀ {xs : List V} {us : List Value} (i : Nat), zb xs us -> zb (xs.eraseIdx i) (us.eraseIdx i)
 | _, _, _, .nil => .nil
 | _, _, 0, .cons _ t => t
 | _, _, i + 1, .cons r t => .cons r (zb.eraseIdx i t)
theorem zb.reverse {xs : List V} {us : List Value} (h : zb xs us) : zb xs.reverse us.reverse := by
 induction h with
 | nil => exact .nil
 | cons r t ih => rw [List.reverse_cons, List.reverse_cons]; exact zb.append ih (.cons r .nil)
theorem zb.rep {xs : List V} {us : List Value} (h : zb xs us) : ∀ k : Nat, zb (List.replicate k xs).flatten (List.replicate k us).flatten
 | 0 => .nil
 | k + 1 => by
  rw [rS_, rS_, List.flatten_cons, List.flatten_cons]
  exact zb.append h (zb.rep h k)
theorem qac (its : List Value) : ∀ (k : Nat) (acc : List Value),
  List.foldl (fun x1 x2 => x1 ++ x2) acc.toArray (List.replicate k its.toArray) = (acc ++ (List.replicate k its).flatten).toArray
 | 0, acc => by simp
 | k + 1, acc => by
  have e : acc.toArray ++ its.toArray = (acc ++ its).toArray := by simp
  have e2 : (acc ++ its) ++ (List.replicate k its).flatten = acc ++ (List.replicate (k + 1) its).flatten := by
   rw [rS_, List.flatten_cons, aA_]
  rw [<- e2, <- qac its k (acc ++ its), <- e, rS_, fo_]
section
variable {X : Cx} {pins : List (Addr × Obj)} {Z : St} {H : Hp} {s : Shared} {l b : Addr} {xs ys zs : List V}
theorem Inv.lset {its its' : List Value} {n : Nat} {f : Array Value -> Array Value} {t' : Nat} (I : Inv X pins Z H s) (hH : H l = some (.lst xs))
  (e : s.heap.get? l = some { cls := .type "list", data := .seq its.toArray n }) (hf : f its.toArray = its'.toArray) (hv : zb ys its') (hz : ys.length <= sizeLine) :
  Inv X pins Z (upd H l (.lst ys)) { s with heap := s.heap.update l (Obj.mapSeq f), toks := t' } := by
 have q := PySem.IsL.update e f
 rw [hf] at q
 refine I.write (x := l) (e := l) (by rw [hH]; exact trivial) (.inl rfl) (fun b' u hb hu => (Heap.get?_update_other s.heap (Obj.mapSeq f) (Ne.symm hb)).trans hu) ⟨_, q⟩ ?_
 exact ⟨hz, its', _, hv, q⟩
theorem Inv.lnew {its : List Value} {t' : Nat} (I : Inv X pins Z H s) (hv : zb ys its) (hz : ys.length <= sizeLine) :
  Inv X pins Z (upd H s.heap.objs.size (.lst ys)) { s with heap := s.heap.push { cls := .type "list", data := .seq its.toArray }, toks := t' } :=
 I.laid (fun _ _ q => Heap.get?_push_of_some _ q) (Nat.le_refl _) ⟨hz, its, 0, hv, Heap.get?_push_size _ rfl⟩
theorem Inv.fresh (I : Inv X pins Z H s) : H s.heap.objs.size = none := I.hok.fresh (Nat.le_refl _)
theorem Inv.lstM (I : Inv X pins Z H s) (hH : H l = some (.lst xs)) : xs.length <= sizeLine /\ ∃ (its : List Value) (n : Nat), zb xs its /\ xs.length = its.length /\ s.heap.get? l = some { cls := .type "list", data := .seq its.toArray n } := by
 obtain ⟨z, its, n, r, e⟩ := I.hok l _ hH
 exact ⟨z, its, n, r, r.length, e⟩
theorem qc8 {n : Nat} (h : n <= sizeLine) : Builtin.List.listTooLong n = false := by
 unfold Builtin.List.listTooLong
 exact decide_eq_false (by omega)
end
section
variable {X : Cx}
def qiO : V -> List V -> Hp -> VK -> Prop := fun x vs H Q => ∃ l xs y, x = .ref l /\ vs = [y] /\ H l = some (.lst xs) /\ xs.length < sizeLine /\ Q .non (upd H l (.lst (xs ++ [y])))
theorem qad : MtM X "list.append" qiO := by
 intro pins s Z H x vs v us Q I rx rv h
 obtain ⟨l, xs, y, rfl, rfl, hH, hz, q⟩ := h
 cases rx
 obtain ⟨u, rfl, ru⟩ := rv.one
 obtain ⟨z, its, n, r, hl, e⟩ := I.lstM hH
 refine call_meets F.slot_list_append ⟨_, e, rfl⟩ F.entry_list_append (F.args_list_append_2 _ _) (PySem.list_append l its.toArray n u (by rw [sT_]; omega)) ⟨e, ?_⟩
 refine ⟨.non, _, I.lset (its' := its ++ [u]) hH e (by simp) (r.append (.cons ru .nil)) ?_, rfl, q⟩
 rw [lA_, List.length_singleton]
 omega
def qiP : V -> List V -> Hp -> VK -> Prop := fun x vs H Q => ∃ l b xs zs, x = .ref l /\ vs = [.ref b] /\ H l = some (.lst xs) /\ H b = some (.lst zs) /\ xs.length + zs.length <= sizeLine /\ Q .non (upd H l (.lst (xs ++ zs)))
theorem qkT : MtM X "list.extend" qiP := by
 intro pins s Z H x vs v us Q I rx rv h
 obtain ⟨l, b, xs, zs, rfl, rfl, hH, hB, hz, q⟩ := h
 cases rx
 obtain ⟨u, rfl, ru⟩ := rv.one
 cases ru
 obtain ⟨z, its, n, r, hl, e⟩ := I.lstM hH
 obtain ⟨z2, its2, n2, r2, hl2, e2⟩ := I.lstM hB
 have hsz : its.toArray.size + its2.toArray.size <= sizeLine := by rw [sT_, sT_]; omega
 have hlong : ¬ (!its.toArray.isEmpty && Builtin.List.listTooLong (its.toArray.size + its2.toArray.size)) = true := by
  rw [qc8 hsz, Bool.and_false]
  exact Bool.false_ne_true
 refine call_meets F.slot_list_extend ⟨_, e, rfl⟩ F.entry_list_extend (F.args_list_extend_2 _ _)
  (AutoSeq1.list_extend_list_list_0 l its.toArray n b its2.toArray n2 hlong (by rw [sT_]; omega) (by omega)) ⟨e, e2, ?_⟩
 refine ⟨.non, _, I.lset (its' := its ++ its2) hH e (by simp) (r.append r2) ?_, rfl, q⟩
 rw [lA_]
 omega
def qng : R2 := fun x y H Q => ∃ l b xs zs, x = .ref l /\ y = .ref b /\ H l = some (.lst xs) /\ H b = some (.lst zs) /\ xs.length + zs.length <= sizeLine /\ ∀ p, H p = none -> Q (.ref p) (upd H p (.lst (xs ++ zs)))
theorem qkU : OpR X (binaryOp .Add) qng := by
 intro pins s Z H x y v u Q I rx ry h
 obtain ⟨l, b, xs, zs, rfl, rfl, hH, hB, hz, q⟩ := h
 cases rx
 cases ry
 obtain ⟨z, its, n, r, hl, e⟩ := I.lstM hH
 obtain ⟨z2, its2, n2, r2, hl2, e2⟩ := I.lstM hB
 refine PySem.P.add_list e e2 ?_ (by rw [sT_, sT_]; omega)
 have ea : its.toArray ++ its2.toArray = (its ++ its2).toArray := by simp
 rw [ea]
 exact ⟨.ref _, _, I.lnew (t' := s.toks) (r.append r2) (by rw [lA_]; omega), rfl, q _ I.fresh⟩
def qnh : R2 := fun x y H Q => ∃ l k xs, x = .ref l /\ y = .int k /\ H l = some (.lst xs) /\ -(2 ^ 63) <= k /\ k < 2 ^ 63 /\ xs.length * k.toNat <= sizeLine /\
 ∀ p, H p = none -> Q (.ref p) (upd H p (.lst (List.replicate k.toNat xs).flatten))
theorem qcB {α : Type} (xs : List α) (k : Nat) : (List.replicate k xs).flatten.length = k * xs.length := by
 induction k with
 | zero => simp
 | succ k ih => rw [rS_, List.flatten_cons, lA_, ih, Nat.succ_mul, Nat.add_comm]
theorem qhN : OpR X (binaryOp .Mult) qnh := by
 intro pins s Z H x y v u Q I rx ry h
 obtain ⟨l, k, xs, rfl, rfl, hH, h1, h2, hz, q⟩ := h
 cases rx
 obtain ⟨t, rfl⟩ := ry
 obtain ⟨z, its, n, r, hl, e⟩ := I.lstM hH
 have hlen : its.toArray.size * k.toNat <= sizeLine := by rw [sT_, <- hl]; exact hz
 have hcap : ¬ its.toArray.size * k.toNat > (2 ^ 63 - 1) / 8 := by
  have : (sizeLine : Nat) <= (2 ^ 63 - 1) / 8 := by decide
  omega
 have hfit : ¬ (!Builtin.List.listFitsIndex k) = true := by
  rw [fitsIndex_both h1 h2]
  exact Bool.false_ne_true
 have hlong : ¬ Builtin.List.listTooLong (its.toArray.size * k.toNat) = true := by
  rw [qc8 hlen]
  exact Bool.false_ne_true
 have hnew : List.foldl (fun x1 x2 => x1 ++ x2) #[] (List.replicate (if its.toArray.isEmpty = true then 0 else k.toNat) its.toArray) = (List.replicate k.toNat its).flatten.toArray := by
  have f0 : ∀ m : Nat, List.foldl (fun x1 x2 => x1 ++ x2) #[] (List.replicate m its.toArray) = (List.replicate m its).flatten.toArray := fun m => by
   have := qac its m []
   rw [List.nil_append] at this
   exact this
  rw [f0]
  cases its with
  | nil => simp
  | cons a r' => rw [if_neg (by simp)]
 refine wpAny_binaryOp_repeat_ref (T := "list") (U := "int") (by decide) ⟨_, e, rfl⟩ (fun s' => typeIs_int s' k t) noFill_list_mul F.fills_int_mul F.slot_int_rmul repeat_list F.slot_int_index.lookup
  (call_meets F.slot_int_rmul (typeIs_int s k t) F.entry_int_rmul (F.args_int_rmul_2 _ _) (int___rmul___int_list k t l its.toArray n)
   ⟨e, rfl, ⟨_, e, rfl⟩, call_meets F.slot_list_mul ⟨_, e, rfl⟩ F.entry_list_mul (F.args_list_mul_2 _ _) (AutoListH.list___mul___list_int_3 l its.toArray n k t hfit hcap hlong) ⟨e, ?_⟩⟩)
 rw [hnew]
 exact ⟨.ref _, _, I.lnew (t' := s.toks) (r.rep k.toNat) (by rw [qcB, Nat.mul_comm]; exact hz), rfl, q _ I.fresh⟩
end
section
variable {prog : Program} {w : World} {A : Around} {E : Value -> Shared -> Prop} {s : Shared}
set_option maxRecDepth 100000 in
end
section
variable {X : Cx}
end
end L2
namespace Att
open PySem PySem.W PySem.Calls PyProof.Rows
theorem qae {P : Params} {h : Heap} : ∀ (ns : List Int) (vs : List Value), WellAll P h vs (ns.map WData.int) -> IntsAre vs ns := by
 intro ns
 induction ns with
 | nil =>
  intro vs w
  rw [List.map_nil] at w
  cases w
  exact .nil
 | cons n ns ih =>
  intro vs w
  rw [mC_] at w
  cases w with
  | cons a b =>
   cases a
   exact .cons _ _ (ih _ b)
theorem qeV {l : OpenLaw} {n : Nat} (hn : l.most = some n) {P : Params} {h : Heap} {args : List WData} {vals : List Value}
  (hpre : l.row.toRowW.claim.pre args = true) (hwl : WellAll P h vals args) :
  ∃ a vs ns, vals = [Value.ref a] /\ args = [WData.list (ns.map WData.int)] /\ h.get? a = some { cls := .type "list", data := .seq vs.toArray } /\ IntsAre vs ns /\ ns.length <= n := by
 have hsh : WShape.hasAll [] args [.list .int] = true := (pre_splitW hpre).1
 have hc : l.pre.holds [] { args := args } = true := (pre_splitW hpre).2
 obtain ⟨d, r, rfl, h1, h2⟩ := hasAllW_cons hsh
 obtain rfl := hasAllW_nil h2
 obtain ⟨xs, rfl, h3⟩ := hasW_list h1
 obtain ⟨ns, rfl⟩ := items_int h3
 have hlen : ns.length <= n := by
  unfold OpenLaw.pre at hc
  have h4 : (WTm.not (.lt (.lit (.int (n : Int))) (.len (.arg 0)))).holds [] { args := [.list (ns.map .int)] } = true := by
   have h4 := (holds_andW hc).1
   rw [hn] at h4
   exact h4
  have h5 := condW_of h4 (w_not (w_lt w_lit (w_len_list (w_arg rfl))))
  rw [lM_] at h5
  refine Nat.le_of_not_lt fun q => ?_
  have q' : (n : Int) < ((ns.length : Nat) : Int) := by omega
  first
   | (rw [decide_eq_true q'] at h5; exact absurd h5 (by decide))
   | (simp at h5; omega)
 cases hwl with
 | cons w1 w2 =>
  cases w2
  cases w1 with
  | list ho hall => exact ⟨_, _, ns, rfl, rfl, ho, qae ns _ hall, hlen⟩
theorem qeW (l : OpenLaw) (args : List WData) : l.row.toRowW.claim.post args (.bool true) args = true :=
 postW_of (r := l.row.toRowW) (X := (true == true))
  (show WShape.has [] (.bool true) .bool = true by first | rfl | decide | simp [WShape.has, WShape.arms, WShape.armsAll])
  (show (WTm.eq .res (.lit (.bool true))).value [] { args := args, res := some (.bool true), after := args } = some (.bool (true == true)) from w_eq_bool (w_res rfl) w_lit) rfl
theorem attach_call {l : OpenLaw} {n : Nat} {q : Program} {loose : List Str} {XP : (Str -> Option Value) -> Heap -> Prop} {YP : World -> Heap -> Prop} {d : DefRec}
  (hn : l.most = some n) (hdf : d.params.defaults = [])
  (call : ∀ (w : World) (s₀ sQ : Shared) (mg mb : Str -> Option Value) (fa : Addr) (o : Obj) (pm cd doc : Value) (a : Addr) (vs : List Value) (ns : List Int),
   Ground q loose [] XP w s₀ mg mb sQ.heap -> YP w sQ.heap ->
   sQ.heap.get? fa = some o -> o.data = .func (docDef d.name d.params d.body d.scope pm cd doc) -> sQ.heap.CodeRec cd d.name -> mg d.name = some (.ref fa) ->
   sQ.heap.get? a = some { cls := .type "list", data := .seq vs.toArray } -> IntsAre vs ns -> ns.length <= n -> sQ.gens = #[] ->
   codeAny (model l.prog w) callerA (.call (.ref fa) ⟨[.ref a], []⟩) (fun r s' => r = .ok (.ret (.bool true)) /\ OldK sQ.heap s'.heap /\ s'.os = sQ.os /\ AllBare s'.gens) sQ) :
  WalkO q loose XP YP l.row.toRowW d [] (fun f vs => PySem.call f vs) := by
 intro w s₀ sQ mg mb G Y fa o pm cd doc dV kV ho hd hcd hD hmg hg args vals as hpre hlay hrd hwl hlo
 obtain rfl : dV = .none := Dflts.none hD hdf
 obtain rfl : kV = .none := Dflts.noKw hD
 obtain ⟨a, vs, ns, rfl, rfl, hobj, hints, hlen⟩ := qeV hn hpre hwl
 refine enter_call (codeAny_mono (call w s₀ sQ mg mb fa o pm cd doc a vs ns G Y ho (fd_plain hd) hcd hmg hobj hints hlen hg) fun r s' hq => ?_)
 obtain ⟨rfl, h2, h3, h4⟩ := hq
 exact ⟨.inl ⟨.bool true, .bool true, [], rfl, fun _ => rfl, .bool true, qeW l _, fun _ => ⟨List.Pairwise.nil, fun _ hm => (nomatch hm)⟩⟩, h2, h3, h4⟩
section
variable {prog : Program} {w : World} {A : Around} {E : Value -> Shared -> Prop} {s : Shared} {K : Frag}
end
end Att
namespace L2
open PySem PySem.Spec PyProof.Rows
theorem qbQ : ∀ {vs : List Value} {ns : List Int}, IntsAre vs ns -> zb (ns.map V.int) vs
 | _, _, .nil => .nil
 | _, _, .cons n t h => .cons ⟨t, rfl⟩ (qbQ h)
def ql6 (H : Hp) : Prop := ∀ b, H b = none \/ (∃ o xs, H b = some (.frz o (.lst xs))) \/ ∃ pos q, H b = some (.lam pos q)
def ql7 : Option (Addr × Addr × Pos × Str) -> Hp
 | some (_, Pt, pos, q) => fun b => if b = Pt then some (.lam pos q) else none
 | none => fun _ => none
theorem qgF {P : Program} {w : World} {K : PySem.W.Frag} {mg mb : Str -> Option Value} {CX : CXT} {k : Nat} {fa a : Addr} {fd : FuncData} {x : Str} {sp : Sp} {sQ : Shared} {vs : List Value} {ns : List Int} {lm : Option (Addr × Addr × Pos × Str)}
  (KX : K.In sQ.heap) (hns : sQ.heap.Ns mainGlobals mg) (hb : sQ.heap.Ns builtinsNs mb) (hbb : ∀ x : Str, x ≠ "__name__" -> mb x = bootBuiltins x) (hlim : sQ.heap.NoLimit)
  (hbm : ∃ bm ob, mg "__builtins__" = some (.ref bm) /\ bm ≠ builtinsNs /\ sQ.heap.get? bm = some ob /\ ob.cls = .type "module" /\ ob.dict = some builtinsNs /\ ob.data = .plain)
  (hlm : ∀ c Pt pos q, lm = some (c, Pt, pos, q) -> PySem.W.CodeHd sQ.heap c Pt /\ sQ.heap.get? Pt = some (PySem.W.tabObj #[]) /\ K.lookup Pt = none)
  (hg : sQ.gens = #[])
  (ha : sQ.heap.get? a = some { cls := .type "list", data := .seq vs.toArray }) (hi : IntsAre vs ns) (hl : ns.length <= sizeLine) (hr : uc k callerA)
  (F : ∀ base : Heap, K.In base -> base.Ns mainGlobals mg -> u8 P w K mg base CX k fa fd [x] sp) (hbind : ∀ (s : Shared) (u : Value), BindsTo s fd ⟨[u], []⟩ [(x, u)])
  (hsp : ∀ H : Hp, ql6 H -> (∀ c Pt pos q, lm = some (c, Pt, pos, q) -> H Pt = some (.lam pos q)) -> SqL K H a (ns.map V.int) -> sp [.ref a] H (fun v _ => v = .bl true) fun _ _ _ => False)
  (hCX : ∀ H e s', CX [] H sQ (fun _ _ _ => False) e s' -> False) :
  codeAny (model P w) callerA (.call (.ref fa) ⟨[.ref a], []⟩) (fun r s' => r = .ok (.ret (.bool true)) /\ OldK sQ.heap s'.heap /\ s'.os = sQ.os /\ AllBare s'.gens) sQ := by
 have rv := qbQ hi
 have lenV := hi.length
 have core : ∀ H : Hp, ql6 H -> (∀ c Pt pos q, lm = some (c, Pt, pos, q) -> H Pt = some (.lam pos q)) -> SqL K H a (ns.map V.int) -> HOk P w H sQ.heap ->
   (∀ b u, H b = some u -> K.lookup b = none /\ ((∃ o xs, u = .frz o (.lst xs)) \/ ∃ c pos q, lm = some (c, b, pos, q) /\ u = .lam pos q)) ->
   codeAny (model P w) callerA (.call (.ref fa) ⟨[.ref a], []⟩) (fun r s' => r = .ok (.ret (.bool true)) /\ OldK sQ.heap s'.heap /\ s'.os = sQ.os /\ AllBare s'.gens) sQ := by
  intro H hO hT hS hok hA
  have base_of : ∀ {b : Addr} {o : Obj}, sQ.heap.get? b = some o -> H b = none -> (qgt sQ.heap H).get? b = some o := fun e n => qgu e n
  have noD : ∀ {b : Addr} {o : Obj}, sQ.heap.get? b = some o -> (∀ its n, o.data ≠ .seq its n) -> (∀ f, o.data ≠ .fields f) -> H b = none := fun {b o} e d1 d2 => by
   cases q : H b with
   | none => rfl
   | some u =>
    rcases (hA b u q).2 with ⟨ob, xs, rfl⟩ | ⟨c, pos, q', hl2, rfl⟩
    ·obtain ⟨e1, _, its, n, _, e2⟩ := hok b _ q
     rw [e] at e2; cases e2
     exact (d1 _ _ rfl).elim
    ·have e2 := (hlm _ _ _ _ hl2).2.1
     rw [e] at e2; cases e2
     exact (d2 _ rfl).elim
  have nsK : ∀ {b : Addr} {m : Str -> Option Value}, sQ.heap.Ns b m -> (qgt sQ.heap H).Ns b m := fun {b m} ⟨o, es, ep, e, d, r⟩ => ⟨o, es, ep, base_of e (noD e (fun _ _ z => by rw [d] at z; cases z) fun _ z => by rw [d] at z; cases z), d, r⟩
  have hKb : K.In (qgt sQ.heap H) := fun b o e => base_of (KX b o e) (by
   cases q : H b with
   | none => rfl
   | some u => rw [(hA b u q).1] at e; cases e)
  have hM : Mod K mg (qgt sQ.heap H) := ⟨hKb, nsK hns, ⟨mb, nsK hb, hbb⟩, let ⟨mc, h1, h2⟩ := hlim; ⟨mc, nsK h1, h2⟩,
   let ⟨bm, ob, b1, b2, b3, b4, b5, b6⟩ := hbm; ⟨bm, ob, b1, b2, base_of b3 (noD b3 (fun _ _ z => by rw [b6] at z; cases z) fun _ z => by rw [b6] at z; cases z), b4, b5, b6⟩⟩
  have e0 : qkb P w K mg (qgt sQ.heap H) callerA [] sQ H := ⟨rfl, hM, fun b o e => qiy e, Nat.le_of_eq (qeA _ _), trivial, fun b hb => absurd (show b ∈ ([] : List Addr) from hb) (by simp), hok, .of_eq hg⟩
  refine codeAny_mono ((F _ hKb (nsK hns)).run callerA [] sQ H ⟨[.ref a], []⟩ [.ref a] [.ref a] _ _ hr e0 (hbind sQ (.ref a)) (.cons rfl .nil) (hsp H hO hT hS)) fun r s' h => ?_
  cases r with
  | error e => exact (hCX H e s' h).elim
  | ok fl =>
   cases fl with
   | next => exact False.elim h
   | brk => exact False.elim h
   | cont => exact False.elim h
   | ret u =>
    obtain ⟨v, H', os, bare, un, hok', r', q⟩ := h
    have q' : v = .bl true := q
    subst q'
    obtain rfl : u = Value.bool true := r'
    have asIt : ∀ b o, sQ.heap.get? b = some o -> asItWas sQ.heap s'.heap b o := fun b o e => by
     cases q : H b with
     | none => exact .inl (un.keep b o e q (by intro z; exact absurd (show b ∈ ([] : List Addr) from z) (by simp)) (by simp))
     | some u =>
      rcases (hA b u q).2 with ⟨ob, xs, rfl⟩ | ⟨c, pos, q2, hl2, rfl⟩
      ·have z2 := un.frzs b ob _ q
       obtain ⟨e1, _⟩ := hok b _ q
       obtain ⟨e2, _⟩ := hok' b _ z2
       rw [e] at e1; cases e1
       exact .inl e2
      ·obtain ⟨hc, e2, _⟩ := hlm _ _ _ _ hl2
       rw [e] at e2; cases e2
       rcases hok' b _ (un.tbls b pos q2 q) with z | ⟨c', oc, vs', t, _, _, _, z⟩
       ·exact .inl z
       ·exact .inr (.inl ⟨(hc.tab e).isCodeTable, rfl, #[], _, rfl, by rw [Array.empty_append]; exact z⟩)
    exact ⟨rfl, ⟨asIt, fun b o e => un.there b o e (by simp)⟩, os, bare⟩
 let T : Hp := ql7 lm
 have hTb : ∀ b u, T b = some u -> ∃ c pos q, lm = some (c, b, pos, q) /\ u = .lam pos q := fun b u z => by
  cases hq : lm with
  | none => simp only [T, hq, ql7] at z; cases z
  | some p =>
   obtain ⟨c, Pt, pos, q⟩ := p
   simp only [T, hq, ql7] at z
   by_cases hbp : b = Pt
   ·rw [if_pos hbp] at z; cases z
    exact ⟨c, pos, q, by rw [hbp], rfl⟩
   ·rw [if_neg hbp] at z; cases z
 have hTa : T a = none := by
  cases q : T a with
  | none => rfl
  | some u =>
   obtain ⟨c, pos, q2, hl2, _⟩ := hTb a u q
   have := (hlm _ _ _ _ hl2).2.1
   rw [ha] at this; cases this
 have hTt : ∀ c Pt pos q, lm = some (c, Pt, pos, q) -> T Pt = some (.lam pos q) := fun c Pt pos q e => by
  simp only [T, e, ql7, if_true]
 cases hk : K.lookup a with
 | some o =>
  have e := KX a o hk
  rw [ha] at e
  cases e
  refine core T (fun b => ?_) hTt (.inr ⟨_, vs.toArray, _, hk, rfl, rfl, rfl, by rw [sT_, lenV]; exact hl, by simpa using rv⟩) (fun b u z => ?_) (fun b u z => ?_)
  ·cases q : T b with
   | none => exact .inl rfl
   | some u => obtain ⟨_, pos, q2, _, rfl⟩ := hTb b u q; exact .inr (.inr ⟨pos, q2, rfl⟩)
  ·obtain ⟨c, pos, q2, hl2, rfl⟩ := hTb b u z
   exact .inl (hlm _ _ _ _ hl2).2.1
  ·obtain ⟨c, pos, q2, hl2, rfl⟩ := hTb b u z
   exact ⟨(hlm _ _ _ _ hl2).2.2, .inr ⟨c, pos, q2, hl2, rfl⟩⟩
 | none =>
  refine core (upd T a (.frz { cls := .type "list", data := .seq vs.toArray } (.lst (ns.map V.int)))) (fun b => ?_) (fun c Pt pos q e => ?_) (.inl (.inr ⟨{ cls := .type "list", data := .seq vs.toArray }, qt⟩)) (fun b u z => ?_) (fun b u z => ?_)
  ·by_cases hb : b = a
   ·subst hb; exact .inr (.inl ⟨_, _, qt⟩)
   ·rw [qp hb]
    cases q : T b with
    | none => exact .inl rfl
    | some u => obtain ⟨_, pos, q2, _, rfl⟩ := hTb b u q; exact .inr (.inr ⟨pos, q2, rfl⟩)
  ·have h1 := hTt c Pt pos q e
   rw [qp (qH h1 hTa)]
   exact h1
  ·by_cases hb : b = a
   ·subst hb
    rw [qt] at z; cases z
    exact ⟨ha, by rw [lM_]; exact hl, vs, _, rv, ha⟩
   ·rw [qp hb] at z
    obtain ⟨c, pos, q2, hl2, rfl⟩ := hTb b u z
    exact .inl (hlm _ _ _ _ hl2).2.1
  ·by_cases hb : b = a
   ·subst hb
    rw [qt] at z; cases z
    exact ⟨hk, .inl ⟨_, _, rfl⟩⟩
   ·rw [qp hb] at z
    obtain ⟨c, pos, q2, hl2, rfl⟩ := hTb b u z
    exact ⟨(hlm _ _ _ _ hl2).2.2, .inr ⟨c, pos, q2, hl2, rfl⟩⟩
end L2
namespace L2
open PySem PySem.Spec PyProof.Rows
end L2
/- THE LAST THEOREM (shape; LID, My.* are yours):
   My.Adr: a structure of the addresses that your layer names (classes, functions); My.Txt K t: a structure (Prop) of the equations over K;
   My.txt_mk : {K} {implicit addresses ..} (e1 : nsIn K mainGlobals "law" = some (some (.ref f))) (e2 : K.lookup f = some ⟨oc, od, .func (fnOf "law" "law" params body scope dV kV doc pm an cdv ct), sl⟩) (e3 : codeIn K cdv "law" = true) .. : ∃ t, My.Txt K t
set_option maxRecDepth 100000 in
set_option maxHeartbeats 0 in
theorem PySem.Challenge.cw_LID_holds : PySem.Challenge.rw_LID.Holds := by
 w_on; o_law; k_head; (case hw => w_witness2)
 k_fill
 refine L2.walk_of (l := PySem.Challenge.rw_LID) (n := 63) (k := 40) (x := "script") (CX := fun w => ..) (sp := fun _ => My.sp_law) rfl (by decide) rfl ⟨rfl, by decide, by decide⟩ (fun w h Y => PySem.W.kIn_of Y) ?F ?S ?C
 case F =>
  intro w mg fa h KX G hmg
  have T : ∃ t, My.Txt (L2.KOf KX) t := by
   dsimp only [L2.KOf]                          -- K must stand as «<heap const> w.params» for k_is
   refine' My.txt_mk ?e1 ?e2 ?e3 ..
   (case e1 => PySem.W.k_is)                    -- in the order: a name -> its address -> its object -> its parts
   (case e2 => PySem.W.k_is)
   ..
  obtain ⟨t, T⟩ := T
  have e0 := hmg.symm.trans (PySem.W.mg_of KX G T.law)
  cases e0                                       -- fa is the law's own address
  exact ⟨_, fun s u => .of_eq rfl, fun base kb nb => My.law_fn T kb nb⟩     -- if «.of_eq rfl» comes too early: refine' ⟨_, ?b, fun base kb nb => My.law_fn T kb nb⟩; exact fun s u => .of_eq rfl
 case S => exact fun w H a ns hl hO hS => ..
 case C => exact ..
(the tactic k_is has no namespace: write k_is) -/
namespace L2
open PySem PySem.Spec PyProof.Rows
def qA (s : Stmt) : Arguments := match s with
 | .FunctionDef _ a _ _ _ _ _ _ _ _ => a
 | _ => { posonlyargs := [], args := [], vararg := none, kwonlyargs := [], kw_defaults := [], kwarg := none, defaults := [] }
def qv (s : Stmt) : List Stmt := match s with
 | .FunctionDef _ _ b _ _ _ _ _ _ _ => b
 | _ => []
def qf (s : Stmt) : Scope := match s with
 | .FunctionDef _ _ _ _ _ _ sc _ _ _ => sc
 | _ => { kind := .function, names := [], isGenerator := false, isCoroutine := false }
abbrev CX0 : CXT := fun _ _ _ _ _ _ => False
abbrev E0 : XK := fun _ _ _ => False
theorem qiQ {X : Cx} : w8 CX0 X E0 := fun _ _ _ _ _ _ _ h => h.elim
structure Fun (K : PySem.W.Frag) (x qual : Str) (st : Stmt) (f : Addr) (fd : FuncData) : Prop where
 ex : ∃ (oc : Value) (od : Option Addr) (kV doc pm : Value) (an : Option Addr) (cdv ct : Value) (osl : Array (Option Value)),
  fd = PySem.W.fnOf x qual (qA st) (qv st) (qf st) .none kV doc pm an cdv ct /\ K.lookup f = some ⟨oc, od, .func fd, osl⟩ /\ PySem.W.codeIn K cdv qual = true
 kp : PySem.W.keepIn K (.ref f) = true
section
variable {P : Program} {w : World} {K : PySem.W.Frag} {mg : Str -> Option Value} {base : Heap}
theorem Fun.ok {x qual : Str} {st : Stmt} {f : Addr} {fd : FuncData} {N ps : List Str} {k : Nat} {sp : Sp} (F : Fun K x qual st f fd) (S : qw N ps (qf st)) (len : ∀ vs H Q E, sp vs H Q E -> vs.length = ps.length)
  (hbody : ∀ (cdv : Value) (A : Around) (outer : List Env) (s : Shared) (H : Hp) (vs : List V) (Q : VK) (E : XK), uc k (A.deeper (envOfC qual (qf st) s.heap.objs.size f cdv)) -> sp vs H Q E ->
   ∃ t, PSs (qeP CX0 P w K mg base N qual (qf st) f cdv A outer s H E).nox (qv st) t /\ t { nx := fun _ H' => Q .non H', rt := Q } (zD N vs) H) : u8 P w K mg base CX0 (k + 1) f fd ps sp := by
 obtain ⟨oc, od, kV, doc, pm, an, cdv, ct, osl, rfl, lk, hcd⟩ := F.ex
 refine qiL lk hcd S len fun A outer s H vs Q E hr hsp => ?_
 obtain ⟨t, h, q⟩ := hbody cdv A outer s H vs Q E hr hsp
 exact ⟨t, h.nox, q⟩
theorem Fun.binds {x qual : Str} {st : Stmt} {f : Addr} {fd : FuncData} {ps : List Str} (F : Fun K x qual st f fd)
  (h : ∀ (kV doc pm : Value) (an : Option Addr) (cdv ct : Value) (us : List Value), us.length = ps.length -> bindArgs (PySem.W.fnOf x qual (qA st) (qv st) (qf st) .none kV doc pm an cdv ct) ⟨us, []⟩ = pure (ps.zip us)) : uC K fd ps [] := by
 obtain ⟨oc, od, kV, doc, pm, an, cdv, ct, osl, rfl, lk, hcd⟩ := F.ex
 exact .all (h kV doc pm an cdv ct)
theorem qV {x qual : Str} {st : Stmt} {f : Addr} {oc : Value} {od an : Option Addr} {osl : Array (Option Value)} {kV doc pm cdv ct : Value} (l : K.lookup f = some ⟨oc, od, .func (PySem.W.fnOf x qual (qA st) (qv st) (qf st) .none kV doc pm an cdv ct), osl⟩)
  (c : PySem.W.codeIn K cdv qual = true) (k : PySem.W.keepIn K (.ref f) = true) : Fun K x qual st f (PySem.W.fnOf x qual (qA st) (qv st) (qf st) .none kV doc pm an cdv ct) := ⟨⟨oc, od, kV, doc, pm, an, cdv, ct, osl, rfl, l, c⟩, k⟩
end
section
variable {X : Cx}
theorem pv (i : Nat) {x : Str} {pos : Pos} (hN : X.N[i]? = some x := by rfl) (hv : Vis X.env.scope x := by first | exact Or.inl rfl | exact Or.inr (Or.inl rfl) | exact Or.inr (Or.inr rfl)) (hd : (x == ("__debug__" : Str)) = false := by decide)
  (hcd : (x == ("__classdict__" : Str)) = false := by decide) : PE X (.Name x pos) (qm9 i) := uy hN hv hd hcd
end
theorem qkc {A B : Prop} (h : B) : if false = true then A else B := by
 rw [if_neg Bool.false_ne_true]
 exact h
theorem qkd {A B : Prop} (h : A) : if true = true then A else B := by
 rw [if_pos rfl]
 exact h
def jk (H H' : Hp) : Prop := ∀ b o, H b = some o -> H' b = some o
theorem jk.refl (H : Hp) : jk H H := fun _ _ h => h
theorem jk.trans {H H1 H2 : Hp} (a : jk H H1) (b : jk H1 H2) : jk H H2 := fun c o h => b c o (a c o h)
theorem jk.free {H H' : Hp} (e : jk H H') {l : Addr} (h : H' l = Option.none) : H l = Option.none := by
 cases q : H l with
 | none => rfl
 | some o =>
  rw [e l o q] at h
  cases h
end L2
namespace L2.Sk
open PySem PySem.Spec PyProof.Rows
inductive D where
 | non | bl (b : Bool) | int (i : Int) | str (x : Str) | tup (xs : List D) | lst (xs : List D) | dic (kvs : List (Key × Int)) | fz (ns : List Int)
 | exc (n : Str)
abbrev Fr0 := PySem.W.Frag
def qhO : FuncBody -> Option Pos
 | .stmts [_, _, .Return (some (.Call _ _ [⟨_, .Lambda _ _ _ pos, _⟩] _)) _] => some pos
 | _ => none
def qaD (K : Fr0) : Option (Addr × Addr × Pos) := match PySem.W.tabIn K "dearest_first", PySem.W.nsIn K mainGlobals "dearest_first" with
 | some (c, P), some (some (.ref f)) => (match K.lookup f with
  | some ⟨_, _, .func fd, _⟩ => (qhO fd.body).map fun pos => (c, P, pos)
  | _ => none)
 | _, _ => none
abbrev qke : Str := "dearest_first.<locals>.<lambda>"
def qni (K : Fr0) (H : Hp) (Io : Addr -> Prop) : Prop := ∀ c P pos, qaD K = some (c, P, pos) -> H P = some (.lam pos qke) /\ ¬ Io P
abbrev qbR (K : Fr0) (H : Hp) : Prop := qni K H fun _ => False
theorem qbR.same {K : Fr0} {H H' : Hp} (h : qbR K H) (s : jk H H') : qbR K H' := fun c P pos e => ⟨s _ _ (h c P pos e).1, fun z => z⟩
structure XK6 (K : Fr0) (D : Addr) : Prop where
 ga : PySem.W.findIn K (.ref D) "__getattribute__" = some (some (.builtin "BaseException.__getattribute__"))
 gt : PySem.W.findIn K (.ref D) "__getattr__" = some none
 cl : PySem.W.findIn K (.ref D) "__class__" = some (some (.builtin "object.__class__"))
 ob : PySem.W.mroIn K D (.type "object") = some true
 be : PySem.W.subIn K (.ref D) (.type "BaseException") = some true
 is : (PySem.W.clsIn K D).isSome = true
 no : ∀ T ∈ ["int", "bool", "str", "tuple", "list", "dict"], PySem.W.kitOne K (.ref D) (.type T) = some false
def uD (K : Fr0) (n : Str) : Option Addr := match PySem.W.nsIn K mainGlobals n with
 | some (some (.ref C)) => some C
 | _ => none
def clR (K : Fr0) (RN : List Str) (n : Str) : Option Addr := if RN.contains n then uD K n else none
theorem qc9 {K : Fr0} {RN : List Str} {n : Str} {C : Addr} (h : clR K RN n = some C) : RN.contains n = true /\ uD K n = some C := by
 unfold clR at h
 split at h
 ·rename_i hn; exact ⟨hn, h⟩
 ·cases h
def qn1 (K : Fr0) (H : Hp) (a : Addr) (n : Str) : Prop := ∃ C, uD K n = some C /\ XK6 K C /\ ∃ o vs, H a = some (.frz o (.own a)) /\ o.cls = .ref C /\ o.data = .fields vs
def qaE (K : Fr0) (H : Hp) (a : Addr) (xs : List V) : Prop :=
 H a = some (.tup xs) \/ ∃ (o : Obj) (its : Array Value) (n : Nat), K.lookup a = some o /\ o.cls = .type "tuple" /\ o.data = .seq its n /\ its.size <= sizeLine /\ zb xs its.toList
def qkV (K : Fr0) (H : Hp) (a : Addr) (xs : List V) : Prop :=
 (∃ o, H a = some (.frz o (.lst xs))) \/ ∃ (o : Obj) (its : Array Value) (n : Nat), K.lookup a = some o /\ o.cls = .type "list" /\ o.dict = none /\ o.data = .seq its n /\ its.size <= sizeLine /\ zb xs its.toList
theorem qaE.sq {K : Fr0} {H : Hp} {a : Addr} {xs : List V} (h : qaE K H a xs) : SqT K H a xs := by
 rcases h with h | h
 ·exact .inl (.inl h)
 ·exact .inr h
theorem qkV.sq {K : Fr0} {H : Hp} {a : Addr} {xs : List V} (h : qkV K H a xs) : SqL K H a xs := by
 rcases h with h | h
 ·exact .inl (.inr h)
 ·exact .inr h
mutual
def Is (K : Fr0) (A : Addr -> Prop) (H : Hp) : D -> V -> Prop
 | .non, v => v = .non
 | .bl b, v => v = .bl b
 | .int i, v => v = .int i
 | .str x, v => v = .str x
 | .tup ds, v => ∃ a xs, v = .ref a /\ qaE K H a xs /\ IsL K A H ds xs
 | .lst ds, v => ∃ a xs, v = .ref a /\ A a /\ H a = some (.lst xs) /\ IsL K A H ds xs
 | .dic kvs, v => ∃ a, v = .ref a /\ A a /\ H a = some (.dK (kvs.map fun p => (p.1, V.int p.2)))
 | .fz ns, v => ∃ a, v = .ref a /\ qkV K H a (ns.map V.int)
 | .exc n, v => ∃ a, v = .ref a /\ qn1 K H a n
def IsL (K : Fr0) (A : Addr -> Prop) (H : Hp) : List D -> List V -> Prop
 | [], xs => xs = []
 | d :: ds, xs => ∃ x ys, xs = x :: ys /\ Is K A H d x /\ IsL K A H ds ys
end
mutual
def imm : D -> Bool
 | .tup ds => immL ds
 | .lst _ => false
 | .dic _ => false
 | .fz _ => false
 | _ => true
def immL : List D -> Bool
 | [] => true
 | d :: ds => imm d && immL ds
end
structure Ext (A : Addr -> Prop) (H H' : Hp) : Prop where
 tup : ∀ b xs, H b = some (.tup xs) -> H' b = some (.tup xs)
 frz : ∀ b o u, H b = some (.frz o u) -> H' b = some (.frz o u)
 at_ : ∀ b o, A b -> H b = some o -> H' b = some o
theorem Ext.refl {A : Addr -> Prop} {H : Hp} : Ext A H H := ⟨fun _ _ h => h, fun _ _ _ h => h, fun _ _ _ h => h⟩
theorem Ext.of_same {A : Addr -> Prop} {H H' : Hp} (s : jk H H') : Ext A H H' := ⟨fun b xs h => s b _ h, fun b o u h => s b _ h, fun b o _ h => s b o h⟩
mutual
theorem Is.ext {K : Fr0} {A B : Addr -> Prop} {H H' : Hp} (e : Ext A H H') (hAB : ∀ a, A a -> (H a).isSome = true -> B a) : ∀ {d : D} {v : V}, Is K A H d v -> Is K B H' d v
 | .non, _, h => h
 | .bl _, _, h => h
 | .int _, _, h => h
 | .str _, _, h => h
 | .tup ds, _, ⟨a, xs, hv, h, r⟩ => ⟨a, xs, hv, h.elim (fun h => .inl (e.tup _ _ h)) .inr, IsL.ext e hAB r⟩
 | .lst ds, _, ⟨a, xs, hv, hA, h, r⟩ => ⟨a, xs, hv, hAB a hA (by rw [h]; rfl), e.at_ _ _ hA h, IsL.ext e hAB r⟩
 | .dic kvs, _, ⟨a, hv, hA, h⟩ => ⟨a, hv, hAB a hA (by rw [h]; rfl), e.at_ _ _ hA h⟩
 | .fz ns, _, ⟨a, hv, h⟩ => ⟨a, hv, h.elim (fun ⟨o, h⟩ => .inl ⟨o, e.frz _ _ _ h⟩) .inr⟩
 | .exc n, _, ⟨a, hv, C, hc, hk, o, vs, h, r⟩ => ⟨a, hv, C, hc, hk, o, vs, e.frz _ _ _ h, r⟩
theorem IsL.ext {K : Fr0} {A B : Addr -> Prop} {H H' : Hp} (e : Ext A H H') (hAB : ∀ a, A a -> (H a).isSome = true -> B a) : ∀ {ds : List D} {xs : List V}, IsL K A H ds xs -> IsL K B H' ds xs
 | [], _, h => h
 | _ :: _, _, ⟨x, ys, hx, h, r⟩ => ⟨x, ys, hx, Is.ext e hAB h, IsL.ext e hAB r⟩
end
mutual
theorem Is.imm {K : Fr0} {A B : Addr -> Prop} {H : Hp} : ∀ {d : D} {v : V}, imm d = true -> Is K A H d v -> Is K B H d v
 | .non, _, _, h => h
 | .bl _, _, _, h => h
 | .int _, _, _, h => h
 | .str _, _, _, h => h
 | .tup ds, _, i, ⟨a, xs, hv, h, r⟩ => ⟨a, xs, hv, h, IsL.imm (by simpa [Sk.imm] using i) r⟩
 | .lst _, _, i, _ => by simp [Sk.imm] at i
 | .dic _, _, i, _ => by simp [Sk.imm] at i
 | .fz _, _, i, _ => by simp [Sk.imm] at i
 | .exc _, _, _, h => h
theorem IsL.imm {K : Fr0} {A B : Addr -> Prop} {H : Hp} : ∀ {ds : List D} {xs : List V}, immL ds = true -> IsL K A H ds xs -> IsL K B H ds xs
 | [], _, _, h => h
 | d :: ds, _, i, ⟨x, ys, hx, h, r⟩ => by
  have i' : Sk.imm d = true /\ immL ds = true := by simpa [immL] using i
  exact ⟨x, ys, hx, Is.imm i'.1 h, IsL.imm i'.2 r⟩
end
theorem IsL.length {K : Fr0} {A : Addr -> Prop} {H : Hp} : ∀ {ds : List D} {xs : List V}, IsL K A H ds xs -> xs.length = ds.length
 | [], _, h => by rw [h]; rfl
 | _ :: _, _, ⟨x, ys, hx, _, r⟩ => by rw [hx, lC_, lC_, IsL.length r]
theorem IsL.get {K : Fr0} {A : Addr -> Prop} {H : Hp} : ∀ {ds : List D} {xs : List V} {i : Nat} {d : D}, IsL K A H ds xs -> ds[i]? = some d -> ∃ x, xs[i]? = some x /\ Is K A H d x
 | [], _, _, _, _, h => by simp at h
 | e :: _, _, 0, d, ⟨x, ys, hx, h, r⟩, hd => by
  have e1 : e = d := by simpa using hd
  subst e1
  exact ⟨x, by rw [hx]; rfl, h⟩
 | _ :: ds, _, i + 1, d, ⟨x, ys, hx, h, r⟩, hd => by
  obtain ⟨y, h1, h2⟩ := IsL.get (i := i) (d := d) r (by simpa using hd)
  exact ⟨y, by rw [hx]; simpa using h1, h2⟩
theorem IsL.append {K : Fr0} {A : Addr -> Prop} {H : Hp} : ∀ {ds es : List D} {xs ys : List V}, IsL K A H ds xs -> IsL K A H es ys -> IsL K A H (ds ++ es) (xs ++ ys)
 | [], _, _, _, h, g => by rw [h]; exact g
 | _ :: _, _, _, _, ⟨x, zs, hx, h, r⟩, g => ⟨x, zs ++ _, by rw [hx]; rfl, h, IsL.append r g⟩
theorem IsL.take {K : Fr0} {A : Addr -> Prop} {H : Hp} : ∀ {ds : List D} {xs : List V} (n : Nat), IsL K A H ds xs -> IsL K A H (ds.take n) (xs.take n)
 | _, _, 0, _ => by simp [IsL]
 | [], _, _ + 1, h => by rw [h]; simp [IsL]
 | _ :: _, _, n + 1, ⟨x, ys, hx, h, r⟩ => by rw [hx]; exact ⟨x, ys.take n, rfl, h, IsL.take n r⟩
theorem IsL.drop {K : Fr0} {A : Addr -> Prop} {H : Hp} : ∀ {ds : List D} {xs : List V} (n : Nat), IsL K A H ds xs -> IsL K A H (ds.drop n) (xs.drop n)
 | _, _, 0, h => h
 | [], _, _ + 1, h => by rw [h]; simp [IsL]
 | _ :: _, _, n + 1, ⟨x, ys, hx, h, r⟩ => by rw [hx]; exact IsL.drop n r
theorem IsL.one {K : Fr0} {A : Addr -> Prop} {H : Hp} {d : D} {v : V} (h : Is K A H d v) : IsL K A H [d] [v] := ⟨v, [], rfl, h, rfl⟩
theorem IsL.set {K : Fr0} {A : Addr -> Prop} {H : Hp} {d : D} {v : V} (hd : Is K A H d v) : ∀ {ds : List D} {xs : List V} (n : Nat), IsL K A H ds xs -> IsL K A H (ds.set n d) (xs.set n v)
 | [], _, _, h => by rw [h]; simp [IsL]
 | _ :: _, _, 0, ⟨x, ys, hx, h, r⟩ => by rw [hx]; exact ⟨v, ys, rfl, hd, r⟩
 | _ :: _, _, n + 1, ⟨x, ys, hx, h, r⟩ => by rw [hx]; exact ⟨x, ys.set n v, rfl, h, IsL.set hd n r⟩
abbrev Env := List (Option D)
structure Exn where
 cls : Str
 val : D
inductive R (α : Type) where
 | ok (a : α) | exc (x : Exn) (U : Env) | bad
structure Fc where
 O : List Nat
 P : List Nat
 B : Addr -> Prop
 H0 : Hp
 Io : Addr -> Prop
 E : Exn -> Hp -> Prop
 S : Nat -> Option (Option V)
def Cl (O : List Nat) (Z : St) (a : Addr) : Prop := ∀ j ∈ O, Z[j]? ≠ some (some (.ref a))
def Cn (c : Fc) (Z : St) (a : Addr) : Prop := c.B a /\ Cl c.O Z a
structure Rep (K : Fr0) (c : Fc) (U : Env) (Z : St) (H : Hp) : Prop where
 len : U.length = Z.length
 val : ∀ i d, U[i]? = some (some d) -> ∃ v, Z[i]? = some (some v) /\
  ((i ∈ c.O /\ ∃ ds a xs, d = .lst ds /\ v = .ref a /\ H a = some (.lst xs) /\ IsL K (Cn c Z) H ds xs) \/ (i ∉ c.O /\ Is K (Cn c Z) H d v))
 own : ∀ j ∈ c.O, ∀ v, Z[j]? = some (some v) -> ∃ a xs, v = .ref a /\ H a = some (.lst xs) /\ (c.H0 a = none \/ (j ∈ c.P /\ c.Io a))
 inj : ∀ i j a, i ∈ c.O -> j ∈ c.O -> Z[i]? = some (some (.ref a)) -> Z[j]? = some (some (.ref a)) -> i = j
 b0 : (∀ a, c.H0 a = none -> c.B a) /\ qni K c.H0 c.Io
 kp : ∀ b o, c.H0 b = some o -> ¬ c.Io b -> H b = some o
 dm : ∀ b, H b = none -> c.H0 b = none
 pO : ∀ j ∈ c.P, j ∈ c.O
 ps : ∀ j ∈ c.P, Z[j]? = c.S j
theorem Rep.tb {K : Fr0} {c : Fc} {U : Env} {Z : St} {H : Hp} (r : Rep K c U Z H) : qbR K H := fun q P pos e => ⟨r.kp P _ (r.b0.2 q P pos e).1 (r.b0.2 q P pos e).2, fun z => z⟩
structure Gr (O : List Nat) (Z : St) (H H' : Hp) : Prop where
 ext : Ext (Cl O Z) H H'
 dom : ∀ b, H' b = none -> H b = none
theorem Gr.refl {O : List Nat} {Z : St} {H : Hp} : Gr O Z H H := ⟨Ext.refl, fun _ h => h⟩
theorem Gr.of_same {O : List Nat} {Z : St} {H H' : Hp} (s : jk H H') : Gr O Z H H' := ⟨Ext.of_same s, fun _ h => s.free h⟩
theorem Gr.trans {O : List Nat} {Z : St} {H H1 H2 : Hp} (a : Gr O Z H H1) (b : Gr O Z H1 H2) : Gr O Z H H2 :=
 ⟨⟨fun c xs h => b.ext.tup c xs (a.ext.tup c xs h), fun c o u h => b.ext.frz c o u (a.ext.frz c o u h), fun c o hc h => b.ext.at_ c o hc (a.ext.at_ c o hc h)⟩, fun c h => a.dom c (b.dom c h)⟩
theorem Gr.cn {c : Fc} {Z : St} {H H' : Hp} (g : Gr c.O Z H H') : Ext (Cn c Z) H H' := ⟨g.ext.tup, g.ext.frz, fun b o hb h => g.ext.at_ b o hb.2 h⟩
theorem Gr.is {K : Fr0} {c : Fc} {Z : St} {H H' : Hp} {d : D} {v : V} (g : Gr c.O Z H H') (h : Is K (Cn c Z) H d v) : Is K (Cn c Z) H' d v := Is.ext g.cn (fun _ h _ => h) h
theorem Gr.isL {K : Fr0} {c : Fc} {Z : St} {H H' : Hp} {d : List D} {v : List V} (g : Gr c.O Z H H') (h : IsL K (Cn c Z) H d v) : IsL K (Cn c Z) H' d v := IsL.ext g.cn (fun _ h _ => h) h
theorem Rep.new {K : Fr0} {c : Fc} {U : Env} {Z : St} {H : Hp} (r : Rep K c U Z H) {a : Addr} (h : H a = none) : Cn c Z a :=
 ⟨r.b0.1 a (r.dm a h), fun j hj e => by obtain ⟨b, xs, e1, e2, _⟩ := r.own j hj _ e; cases e1; rw [h] at e2; cases e2⟩
theorem Rep.same {K : Fr0} {c : Fc} {U : Env} {Z : St} {H H' : Hp} (r : Rep K c U Z H) (s : jk H H') : Rep K c U Z H' where
 len := r.len
 val := fun i d h => by
  obtain ⟨v, h1, h2⟩ := r.val i d h
  refine ⟨v, h1, ?_⟩
  rcases h2 with ⟨hi, ds, a, xs, h3, h5, h6, h7⟩ | ⟨hi, h3⟩
  ·exact .inl ⟨hi, ds, a, xs, h3, h5, s _ _ h6, IsL.ext (Ext.of_same s) (fun _ h _ => h) h7⟩
  ·exact .inr ⟨hi, Is.ext (Ext.of_same s) (fun _ h _ => h) h3⟩
 own := fun j hj v h => by
  obtain ⟨a, xs, h1, h2, h3⟩ := r.own j hj v h
  exact ⟨a, xs, h1, s _ _ h2, h3⟩
 inj := r.inj
 b0 := r.b0
 kp := fun b o h1 h2 => s _ _ (r.kp b o h1 h2)
 dm := fun b h => r.dm b (s.free h)
 pO := r.pO
 ps := r.ps
theorem Rep.get {K : Fr0} {c : Fc} {U : Env} {Z : St} {H : Hp} (r : Rep K c U Z H) {i : Nat} {d : D} (hi : i ∉ c.O) (h : U[i]? = some (some d)) : ∃ v, Z[i]? = some (some v) /\ Is K (Cn c Z) H d v := by
 obtain ⟨v, h1, h2⟩ := r.val i d h
 rcases h2 with ⟨h3, _⟩ | ⟨_, h3⟩
 ·exact absurd h3 hi
 ·exact ⟨v, h1, h3⟩
theorem Rep.getO {K : Fr0} {c : Fc} {U : Env} {Z : St} {H : Hp} (r : Rep K c U Z H) {i : Nat} {d : D} (hi : i ∈ c.O) (h : U[i]? = some (some d)) :
  ∃ ds a xs, d = .lst ds /\ Z[i]? = some (some (.ref a)) /\ H a = some (.lst xs) /\ IsL K (Cn c Z) H ds xs := by
 obtain ⟨v, h1, h2⟩ := r.val i d h
 rcases h2 with ⟨_, ds, a, xs, h3, h5, h6, h7⟩ | ⟨h3, _⟩
 ·subst h5; exact ⟨ds, a, xs, h3, h1, h6, h7⟩
 ·exact absurd hi h3
abbrev M (α : Type) := Env -> R (α × Env)
def Wp (K : Fr0) (c : Fc) (Z : St) (H : Hp) (Q : VK) : R (D × Env) -> Prop
 | .ok (d, U) => ∀ v H', Rep K c U Z H' -> Is K (Cn c Z) H' d v -> Gr c.O Z H H' -> Q v H'
 | .exc x U => ∀ H', Rep K c U Z H' -> Gr c.O Z H H' -> c.E x H'
 | .bad => False
def WpB (K : Fr0) (c : Fc) (Z : St) (H : Hp) (Q : Bool -> Hp -> Prop) : R (Bool × Env) -> Prop
 | .ok (b, U) => ∀ H', Rep K c U Z H' -> Gr c.O Z H H' -> Q b H'
 | .exc x U => ∀ H', Rep K c U Z H' -> Gr c.O Z H H' -> c.E x H'
 | .bad => False
def WpL (K : Fr0) (c : Fc) (Z : St) (H : Hp) (Q : List V -> Hp -> Prop) : R (List D × Env) -> Prop
 | .ok (ds, U) => ∀ vs H', Rep K c U Z H' -> IsL K (Cn c Z) H' ds vs -> Gr c.O Z H H' -> Q vs H'
 | .exc x U => ∀ H', Rep K c U Z H' -> Gr c.O Z H H' -> c.E x H'
 | .bad => False
def DE (X : Cx) (c : Fc) (e : Expr) (f : M D) : Prop := ∃ t, PE X e t /\ ∀ U Z H Q, Rep X.K c U Z H -> Wp X.K c Z H Q (f U) -> t Z H Q
def DT (X : Cx) (c : Fc) (e : Expr) (f : M Bool) : Prop := ∃ t, PT X e t /\ ∀ U Z H Q, Rep X.K c U Z H -> WpB X.K c Z H Q (f U) -> t Z H Q
def DA (X : Cx) (c : Fc) (es : List Expr) (f : M (List D)) : Prop := ∃ t, PA X es t /\ ∀ U Z H Q, Rep X.K c U Z H -> WpL X.K c Z H Q (f U) -> t Z H Q
def ret {α : Type} (a : α) : M α := fun U => .ok (a, U)
def bnd {α β : Type} (f : M α) (k : α -> M β) : M β := fun U => match f U with
 | .ok (a, U') => k a U'
 | .exc x U' => .exc x U'
 | .bad => .bad
def lift {α : Type} : Option α -> M α
 | some a => ret a
 | none => fun _ => .bad
section
variable {K : Fr0} {c : Fc} {Z : St} {H H1 : Hp} {Q : VK} {QB : Bool -> Hp -> Prop} {QL : List V -> Hp -> Prop} {r : R (D × Env)}
theorem Wp.gr : ∀ {r : R (D × Env)}, Wp K c Z H Q r -> Gr c.O Z H H1 -> Wp K c Z H1 Q r
 | .ok (d, U), h, g => fun v H' hr hi hg => h v H' hr hi (g.trans hg)
 | .exc x U, h, g => fun H' hr hg => h H' hr (g.trans hg)
 | .bad, h, _ => h
theorem WpB.gr : ∀ {r : R (Bool × Env)}, WpB K c Z H QB r -> Gr c.O Z H H1 -> WpB K c Z H1 QB r
 | .ok (d, U), h, g => fun H' hr hg => h H' hr (g.trans hg)
 | .exc x U, h, g => fun H' hr hg => h H' hr (g.trans hg)
 | .bad, h, _ => h
theorem WpL.gr : ∀ {r : R (List D × Env)}, WpL K c Z H QL r -> Gr c.O Z H H1 -> WpL K c Z H1 QL r
 | .ok (d, U), h, g => fun v H' hr hi hg => h v H' hr hi (g.trans hg)
 | .exc x U, h, g => fun H' hr hg => h H' hr (g.trans hg)
 | .bad, h, _ => h
theorem Wp.bnd {f : M D} {k : D -> M D} {U : Env} {Q' : VK} (h : Wp K c Z H Q (bnd f k U)) (hQ : ∀ d U' v H', Rep K c U' Z H' -> Is K (Cn c Z) H' d v -> Gr c.O Z H H' -> Wp K c Z H' Q (k d U') -> Q' v H') : Wp K c Z H Q' (f U) := by
 unfold Sk.bnd at h
 cases e : f U with
 | ok p => rw [e] at h; exact fun v H' hr hi hg => hQ p.1 p.2 v H' hr hi hg (h.gr hg)
 | exc x U' => rw [e] at h; exact h
 | bad => rw [e] at h; exact h
theorem Wp.bndB {f : M D} {k : D -> M Bool} {U : Env} {Q' : VK} (h : WpB K c Z H QB (Sk.bnd f k U)) (hQ : ∀ d U' v H', Rep K c U' Z H' -> Is K (Cn c Z) H' d v -> Gr c.O Z H H' -> WpB K c Z H' QB (k d U') -> Q' v H') : Wp K c Z H Q' (f U) := by
 unfold Sk.bnd at h
 cases e : f U with
 | ok p => rw [e] at h; exact fun v H' hr hi hg => hQ p.1 p.2 v H' hr hi hg (h.gr hg)
 | exc x U' => rw [e] at h; exact h
 | bad => rw [e] at h; exact h
theorem Wp.bndL {f : M D} {k : D -> M (List D)} {U : Env} {Q' : VK} (h : WpL K c Z H QL (Sk.bnd f k U)) (hQ : ∀ d U' v H', Rep K c U' Z H' -> Is K (Cn c Z) H' d v -> Gr c.O Z H H' -> WpL K c Z H' QL (k d U') -> Q' v H') : Wp K c Z H Q' (f U) := by
 unfold Sk.bnd at h
 cases e : f U with
 | ok p => rw [e] at h; exact fun v H' hr hi hg => hQ p.1 p.2 v H' hr hi hg (h.gr hg)
 | exc x U' => rw [e] at h; exact h
 | bad => rw [e] at h; exact h
theorem WpB.bnd {f : M Bool} {k : Bool -> M D} {U : Env} {Q' : Bool -> Hp -> Prop} (h : Wp K c Z H Q (Sk.bnd f k U)) (hQ : ∀ d U' H', Rep K c U' Z H' -> Gr c.O Z H H' -> Wp K c Z H' Q (k d U') -> Q' d H') : WpB K c Z H Q' (f U) := by
 unfold Sk.bnd at h
 cases e : f U with
 | ok p => rw [e] at h; exact fun H' hr hg => hQ p.1 p.2 H' hr hg (h.gr hg)
 | exc x U' => rw [e] at h; exact h
 | bad => rw [e] at h; exact h
theorem WpB.bndB {f : M Bool} {k : Bool -> M Bool} {U : Env} {Q' : Bool -> Hp -> Prop} (h : WpB K c Z H QB (Sk.bnd f k U)) (hQ : ∀ d U' H', Rep K c U' Z H' -> Gr c.O Z H H' -> WpB K c Z H' QB (k d U') -> Q' d H') : WpB K c Z H Q' (f U) := by
 unfold Sk.bnd at h
 cases e : f U with
 | ok p => rw [e] at h; exact fun H' hr hg => hQ p.1 p.2 H' hr hg (h.gr hg)
 | exc x U' => rw [e] at h; exact h
 | bad => rw [e] at h; exact h
theorem WpL.bnd {f : M (List D)} {k : List D -> M D} {U : Env} {Q' : List V -> Hp -> Prop} (h : Wp K c Z H Q (Sk.bnd f k U)) (hQ : ∀ d U' v H', Rep K c U' Z H' -> IsL K (Cn c Z) H' d v -> Gr c.O Z H H' -> Wp K c Z H' Q (k d U') -> Q' v H') : WpL K c Z H Q' (f U) := by
 unfold Sk.bnd at h
 cases e : f U with
 | ok p => rw [e] at h; exact fun v H' hr hi hg => hQ p.1 p.2 v H' hr hi hg (h.gr hg)
 | exc x U' => rw [e] at h; exact h
 | bad => rw [e] at h; exact h
theorem WpL.bndL {f : M (List D)} {k : List D -> M (List D)} {U : Env} {Q' : List V -> Hp -> Prop} (h : WpL K c Z H QL (Sk.bnd f k U)) (hQ : ∀ d U' v H', Rep K c U' Z H' -> IsL K (Cn c Z) H' d v -> Gr c.O Z H H' -> WpL K c Z H' QL (k d U') -> Q' v H') : WpL K c Z H Q' (f U) := by
 unfold Sk.bnd at h
 cases e : f U with
 | ok p => rw [e] at h; exact fun v H' hr hi hg => hQ p.1 p.2 v H' hr hi hg (h.gr hg)
 | exc x U' => rw [e] at h; exact h
 | bad => rw [e] at h; exact h
theorem Wp.lift {o : Option D} {U : Env} (h : Wp K c Z H Q (Sk.lift o U)) : ∃ d, o = some d /\ ∀ v H', Rep K c U Z H' -> Is K (Cn c Z) H' d v -> Gr c.O Z H H' -> Q v H' := by
 cases o with
 | none => exact h.elim
 | some d => exact ⟨d, rfl, h⟩
end
section
variable {X : Cx} {c : Fc} {a b e : Expr} {pos : Pos}
theorem qe {i j pos} : DE X c (.Constant (.int i) j pos) (ret (.int i)) := ⟨_, qko, fun _ _ H Q r h => h _ H r rfl .refl⟩
theorem uf {i j pos} : DE X c (.Constant (.bool i) j pos) (ret (.bl i)) := ⟨_, qme, fun _ _ H Q r h => h _ H r rfl .refl⟩
theorem yE {j pos} : DE X c (.Constant .none j pos) (ret .non) := ⟨_, qkp, fun _ _ H Q r h => h _ H r rfl .refl⟩
theorem jQ {x j pos} : DE X c (.Constant (.str x) j pos) (ret (.str x)) := ⟨_, qkq, fun _ _ H Q r h => h _ H r rfl .refl⟩
def dv (i : Nat) : M D := fun U => match U[i]? with
 | some (some d) => .ok (d, U)
 | _ => .bad
theorem qd (i : Nat) {x : Str} (ho : i ∉ c.O := by exact of_decide_eq_false rfl) (hN : X.N[i]? = some x := by rfl) (hv : Vis X.env.scope x := by first | exact Or.inl rfl | exact Or.inr (Or.inl rfl) | exact Or.inr (Or.inr rfl)) (hd : (x == ("__debug__" : Str)) = false := by decide)
  (hcd : (x == ("__classdict__" : Str)) = false := by decide) : DE X c (.Name x pos) (dv i) := by
 refine ⟨_, uy hN hv hd hcd, fun U Z H Q r h => ?_⟩
 unfold dv at h
 split at h
 ·rename_i d e
  obtain ⟨v, h1, h2⟩ := r.get ho e
  exact ⟨v, h1, h v H r h2 .refl⟩
 ·exact h.elim
theorem qeX {x : Str} {v : V} {u : Value} {d : D} (hg : Gl X x) (hm : X.mg x = some u) (rv : jE v u) (hd : ∀ H A, Is X.K A H d v) (hdb : (x == ("__debug__" : Str)) = false := by decide) : DE X c (.Name x pos) (ret d) :=
 ⟨_, qcx hg hm rv hdb, fun _ _ H Q r h => h _ H r (hd _ _) .refl⟩
theorem qg : DA X c [] (ret []) := ⟨_, va, fun _ _ H Q r h => h _ H r rfl .refl⟩
def qc (f : M D) (g : M (List D)) : M (List D) := bnd f fun d => bnd g fun ds => ret (d :: ds)
theorem qa {es : List Expr} {f : M D} {g : M (List D)} (ha : DE X c e f) (hr : DA X c es g) (hs : starEach (e :: es) X.env = (false, eval e X.env) :: starEach es X.env := by rfl) : DA X c (e :: es) (qc f g) := by
 obtain ⟨ta, pa, wa⟩ := ha
 obtain ⟨tr, pr, wr⟩ := hr
 refine ⟨_, jF pa pr hs, fun U Z H Q r h => wa U Z H _ r (Wp.bndL h fun d U1 v H1 r1 i1 g1 h1 => wr U1 Z H1 _ r1 (WpL.bndL h1 fun ds U2 vs H2 r2 i2 g2 h2 => ?_))⟩
 exact h2 _ H2 r2 ⟨v, vs, rfl, g2.is i1, i2⟩ .refl
def qQ (n : Nat) : Bool := decide (n <= sizeLine)
def yn (f : M (List D)) : M D := bnd f fun ds => lift (if qQ ds.length then some (.tup ds) else none)
def uE (f : M (List D)) : M D := bnd f fun ds => lift (if qQ ds.length then some (.lst ds) else none)
theorem qD {H : Hp} {p : Addr} (h : H p = none) (o : HO) : jk H (upd H p o) := fun b u q => by rw [qp (qH q h)]; exact q
theorem Rep.laid {K : Fr0} {U : Env} {Z : St} {H : Hp} (r : Rep K c U Z H) {p : Addr} (h : H p = none) (o : HO) : Rep K c U Z (upd H p o) := r.same (qD h o)
theorem z0 {p : Bool} {d e : D} (h : (if p then some d else none) = some e) : p = true /\ d = e := by
 cases p with
 | true => exact ⟨rfl, by simpa using h⟩
 | false => simp at h
theorem qZ {es : List Expr} {x1} {f : M (List D)} (h : DA X c es f) : DE X c (.Tuple es x1 pos) (yn f) := by
 obtain ⟨t, p, w⟩ := h
 refine ⟨_, qkM p, fun U Z H Q r h => w U Z H _ r (WpL.bnd h fun ds U1 vs H1 r1 i1 g1 h1 => ?_)⟩
 obtain ⟨d, e, h2⟩ := h1.lift
 obtain ⟨e1, e2⟩ := z0 e
 subst e2
 refine ⟨by rw [i1.length]; exact of_decide_eq_true e1, fun p hp => h2 _ _ (r1.laid hp _) ⟨p, vs, rfl, .inl qt, IsL.ext (Ext.of_same (qD hp _)) (fun _ h _ => h) i1⟩ (.of_same (qD hp _))⟩
theorem jG {es : List Expr} {f : M (List D)} (h : DA X c es f) : DE X c (.List es pos) (uE f) := by
 obtain ⟨t, p, w⟩ := h
 refine ⟨_, qhM p, fun U Z H Q r h => w U Z H _ r (WpL.bnd h fun ds U1 vs H1 r1 i1 g1 h1 => ?_)⟩
 obtain ⟨d, e, h2⟩ := h1.lift
 obtain ⟨e1, e2⟩ := z0 e
 subst e2
 refine ⟨by rw [i1.length]; exact of_decide_eq_true e1, fun p hp => h2 _ _ (r1.laid hp _) ⟨p, vs, rfl, r1.new hp, qt, IsL.ext (Ext.of_same (qD hp _)) (fun _ h _ => h) i1⟩ (.of_same (qD hp _))⟩
def OpS (K : Fr0) (F : D -> D -> Option D) (r : R2) : Prop := ∀ (A : Addr -> Prop) (H : Hp) (x y d : D) (v u : V) (Q : VK), (∀ a, H a = none -> A a) -> Is K A H x v -> Is K A H y u -> F x y = some d ->
 (∀ w H', jk H H' -> Is K A H' d w -> Q w H') -> r v u H Q
def d2 (F : D -> D -> Option D) (f g : M D) : M D := bnd f fun x => bnd g fun y => lift (F x y)
theorem op2 {r : R2} {F : D -> D -> Option D} {f g : M D} {ta tb : TE} (hF : OpS X.K F r) (wa : ∀ U Z H Q, Rep X.K c U Z H -> Wp X.K c Z H Q (f U) -> ta Z H Q) (wb : ∀ U Z H Q, Rep X.K c U Z H -> Wp X.K c Z H Q (g U) -> tb Z H Q) :
  ∀ U Z H Q, Rep X.K c U Z H -> Wp X.K c Z H Q (d2 F f g U) -> tOp r ta tb Z H Q := fun U Z H Q rp h => wa U Z H _ rp (Wp.bnd h fun x U1 v H1 r1 i1 g1 h1 => wb U1 Z H1 _ r1 (Wp.bnd h1 fun y U2 u H2 r2 i2 g2 h2 => by
 obtain ⟨d, e, h3⟩ := h2.lift
 exact hF _ H2 x y d v u Q (fun a ha => r2.new ha) (g2.is i1) i2 e fun w H' s i => h3 w H' (r2.same s) i (.of_same s)))
theorem qu {op : Operator} {r : R2} {F : D -> D -> Option D} {f g : M D} (ho : OpR X (binaryOp op) r) (hF : OpS X.K F r) (ha : DE X c a f) (hb : DE X c b g) : DE X c (.BinOp a op b pos) (d2 F f g) := by
 obtain ⟨ta, pa, wa⟩ := ha
 obtain ⟨tb, pb, wb⟩ := hb
 exact ⟨_, qkE ho pa pb, op2 hF wa wb⟩
theorem wE {op : CmpOp} {r : R2} {F : D -> D -> Option D} {f g : M D} (ho : OpR X (compareOp op) r) (hF : OpS X.K F r) (ha : DE X c a f) (hb : DE X c b g) (hm : behindInMarks op b = false) : DE X c (.Compare a [op] [b] pos) (d2 F f g) := by
 obtain ⟨ta, pa, wa⟩ := ha
 obtain ⟨tb, pb, wb⟩ := hb
 exact ⟨_, qiH ho pa pb hm, op2 hF wa wb⟩
def asB : D -> Option Bool
 | .bl b => some b
 | _ => none
def tst (f : M D) : M Bool := bnd f fun d => lift (asB d)
theorem qda {K : Fr0} {Z : St} {H : Hp} {QB : Bool -> Hp -> Prop} {o : Option Bool} {U : Env} (h : WpB K c Z H QB (lift o U)) : ∃ b, o = some b /\ ∀ H', Rep K c U Z H' -> Gr c.O Z H H' -> QB b H' := by
 cases o with
 | none => exact h.elim
 | some d => exact ⟨d, rfl, h⟩
theorem qa2 {d : D} {b : Bool} (h : asB d = some b) : d = .bl b := by
 cases d <;> simp [asB] at h
 subst h; rfl
theorem ze {op : CmpOp} {r : R2} {F : D -> D -> Option D} {f g : M D} (ho : OpR X (compareOp op) r) (hF : OpS X.K F r) (ha : DE X c a f) (hb : DE X c b g) (hm : behindInMarks op b = false) : DT X c (.Compare a [op] [b] pos) (tst (d2 F f g)) := by
 obtain ⟨ta, pa, wa⟩ := ha
 obtain ⟨tb, pb, wb⟩ := hb
 refine ⟨_, qeM ho pa pb hm, fun U Z H Q rp h => op2 hF wa wb U Z H _ rp (Wp.bndB h fun d U1 v H1 r1 i1 g1 h1 => ?_)⟩
 obtain ⟨b, e, h2⟩ := qda h1
 have := qa2 e
 subst this
 exact ⟨b, i1, h2 H1 r1 .refl⟩
theorem jR {f : M D} (h : DE X c e f) (he : ∀ whole, isTrue e X.env whole = (do let v <- whole; standAt e.pos; holding [v] (truthy v)) := by intro _; rfl) : DT X c e (tst f) := by
 obtain ⟨t, p, w⟩ := h
 refine ⟨_, qkr p he, fun U Z H Q rp h => w U Z H _ rp (Wp.bndB h fun d U1 v H1 r1 i1 g1 h1 => ?_)⟩
 obtain ⟨b, e, h2⟩ := qda h1
 have := qa2 e
 subst this
 exact ⟨b, i1, h2 H1 r1 .refl⟩
def vj (f : M Bool) : M Bool := bnd f fun b => ret (!b)
theorem yd {f : M Bool} (h : DT X c a f) : DT X c (.UnaryOp .Not a pos) (vj f) := by
 obtain ⟨t, p, w⟩ := h
 exact ⟨_, qku p, fun U Z H Q rp h => w U Z H _ rp (WpB.bndB h fun d U1 H1 r1 g1 h1 => h1 H1 r1 .refl)⟩
def DW (X : Cx) (c : Fc) (e : Expr) (f : M Bool) : Prop := ∃ t, PW X e t /\ ∀ U Z H Q, Rep X.K c U Z H -> WpB X.K c Z H Q (f U) -> t Z H Q
theorem DW.dt {f : M Bool} (h : DW X c e f) : DT X c e f := by
 obtain ⟨t, p, w⟩ := h
 exact ⟨t, p.pt, w⟩
def qbD (f g : M Bool) : M Bool := bnd f fun b => if b then g else ret false
def tor (f g : M Bool) : M Bool := bnd f fun b => if b then ret true else g
variable {qaC : List Expr}
theorem qa3 {f : M Bool} (h : DT X c a f) : DW X c (.BoolOp .And [a] pos) f := by
 obtain ⟨t, p, w⟩ := h
 exact ⟨t, qiA p, w⟩
theorem vG {f : M Bool} (h : DT X c a f) : DW X c (.BoolOp .Or [a] pos) f := by
 obtain ⟨t, p, w⟩ := h
 exact ⟨t, qks p, w⟩
theorem qdb {f g : M Bool} (ha : DT X c a f) (hb : DW X c (.BoolOp .And (b :: qaC) pos) g) : DW X c (.BoolOp .And (a :: b :: qaC) pos) (qbD f g) := by
 obtain ⟨ta, pa, wa⟩ := ha
 obtain ⟨tb, pb, wb⟩ := hb
 refine ⟨_, qkt pa pb, fun U Z H Q rp h => wa U Z H _ rp (WpB.bndB h fun d U1 H1 r1 g1 h1 => ?_)⟩
 cases d with
 | true => exact qkd (wb U1 Z H1 Q r1 (by simpa using h1))
 | false => exact qkc ((by simpa using h1 : WpB X.K c Z H1 Q (ret false U1)) H1 r1 .refl)
theorem wQ {f g : M Bool} (ha : DT X c a f) (hb : DW X c (.BoolOp .Or (b :: qaC) pos) g) : DW X c (.BoolOp .Or (a :: b :: qaC) pos) (tor f g) := by
 obtain ⟨ta, pa, wa⟩ := ha
 obtain ⟨tb, pb, wb⟩ := hb
 refine ⟨_, qmf pa pb, fun U Z H Q rp h => wa U Z H _ rp (WpB.bndB h fun d U1 H1 r1 g1 h1 => ?_)⟩
 cases d with
 | true => exact qkd ((by simpa using h1 : WpB X.K c Z H1 Q (ret true U1)) H1 r1 .refl)
 | false => exact qkc (wb U1 Z H1 Q r1 (by simpa using h1))
def qkW (f : M D) : M D := bnd f fun d => bnd (lift (asB d)) fun b => ret (.bl (!b))
def qeu (f g : M D) : M D := bnd f fun d => bnd (lift (asB d)) fun b => if b then g else ret (.bl false)
def dor (f g : M D) : M D := bnd f fun d => bnd (lift (asB d)) fun b => if b then ret (.bl true) else g
theorem qeY {K : Fr0} {Z : St} {H : Hp} {Q : VK} {d : D} {k : Bool -> M D} {U : Env} (h : Wp K c Z H Q (bnd (lift (asB d)) k U)) : ∃ b, d = .bl b /\ Wp K c Z H Q (k b U) := by
 unfold bnd at h
 cases e : asB d with
 | none => rw [e] at h; exact h.elim
 | some b => rw [e] at h; exact ⟨b, qa2 e, h⟩
theorem qaf {op} {f : M D} (h : DE X c a f) : DE X c (.BoolOp op [a] pos) f := by
 obtain ⟨t, p, w⟩ := h
 exact ⟨t, qkv p, w⟩
theorem qhP {f : M D} (h : DE X c a f) : DE X c (.UnaryOp .Not a pos) (qkW f) := by
 obtain ⟨t, p, w⟩ := h
 refine ⟨_, qkx p, fun U Z H Q rp h => w U Z H _ rp (Wp.bnd h fun d U1 v H1 r1 i1 g1 h1 => ?_)⟩
 obtain ⟨b, e, h2⟩ := qeY h1
 subst e
 exact ⟨b, i1, h2 _ H1 r1 rfl .refl⟩
theorem qag {f g : M D} (ha : DE X c a f) (hb : DE X c (.BoolOp .And (b :: qaC) pos) g) : DE X c (.BoolOp .And (a :: b :: qaC) pos) (qeu f g) := by
 obtain ⟨ta, pa, wa⟩ := ha
 obtain ⟨tb, pb, wb⟩ := hb
 refine ⟨_, qkw pa pb, fun U Z H Q rp h => wa U Z H _ rp (Wp.bnd h fun d U1 v H1 r1 i1 g1 h1 => ?_)⟩
 obtain ⟨k, e, h2⟩ := qeY h1
 subst e
 refine ⟨k, i1, ?_⟩
 cases k with
 | true => exact qkd (wb U1 Z H1 Q r1 (by simpa using h2))
 | false => exact qkc ((by simpa using h2 : Wp X.K c Z H1 Q (ret (.bl false) U1)) _ H1 r1 rfl .refl)
theorem qmC {f g : M D} (ha : DE X c a f) (hb : DE X c (.BoolOp .Or (b :: qaC) pos) g) : DE X c (.BoolOp .Or (a :: b :: qaC) pos) (dor f g) := by
 obtain ⟨ta, pa, wa⟩ := ha
 obtain ⟨tb, pb, wb⟩ := hb
 refine ⟨_, qmi pa pb, fun U Z H Q rp h => wa U Z H _ rp (Wp.bnd h fun d U1 v H1 r1 i1 g1 h1 => ?_)⟩
 obtain ⟨k, e, h2⟩ := qeY h1
 subst e
 refine ⟨k, i1, ?_⟩
 cases k with
 | true => exact qkd ((by simpa using h2 : Wp X.K c Z H1 Q (ret (.bl true) U1)) _ H1 r1 rfl .refl)
 | false => exact qkc (wb U1 Z H1 Q r1 (by simpa using h2))
def dif (f : M Bool) (g k : M D) : M D := bnd f fun b => if b then g else k
theorem qmD {t : Expr} {f : M Bool} {g k : M D} (ht : DT X c t f) (ha : DE X c a g) (hb : DE X c b k) : DE X c (.IfExp t a b pos) (dif f g k) := by
 obtain ⟨tt, pt, wt⟩ := ht
 obtain ⟨ta, pa, wa⟩ := ha
 obtain ⟨tb, pb, wb⟩ := hb
 refine ⟨_, qgw pt pa pb, fun U Z H Q rp h => wt U Z H _ rp (WpB.bnd h fun d U1 H1 r1 g1 h1 => ?_)⟩
 cases d with
 | true => exact qkd (wa U1 Z H1 Q r1 (by simpa using h1))
 | false => exact qkc (wb U1 Z H1 Q r1 (by simpa using h1))
def qa4 (K : Fr0) (F : List D -> Option D) (r : List V -> Hp -> VK -> Prop) : Prop := ∀ (A : Addr -> Prop) (H : Hp) (xs : List D) (d : D) (vs : List V) (Q : VK), (∀ a, H a = none -> A a) -> IsL K A H xs vs -> F xs = some d ->
 (∀ w H', jk H H' -> Is K A H' d w -> Q w H') -> r vs H Q
def zV (F : List D -> Option D) (f : M (List D)) : M D := bnd f fun ds => lift (F ds)
theorem qmE {r : List V -> Hp -> VK -> Prop} {F : List D -> Option D} {f : M (List D)} {t : TA} (hF : qa4 X.K F r) (w : ∀ U Z H Q, Rep X.K c U Z H -> WpL X.K c Z H Q (f U) -> t Z H Q) :
  ∀ U Z H Q, Rep X.K c U Z H -> Wp X.K c Z H Q (zV F f U) -> tCB r t Z H Q := fun U Z H Q rp h => w U Z H _ rp (WpL.bnd h fun ds U1 vs H1 r1 i1 g1 h1 => by
 obtain ⟨d, e, h3⟩ := h1.lift
 exact hF _ H1 ds d vs Q (fun a ha => r1.new ha) i1 e fun w H' s i => h3 w H' (r1.same s) i (.of_same s))
theorem zw {id : String} {x : Str} {p : Pos} {es : List Expr} {r : List V -> Hp -> VK -> Prop} {F : List D -> Option D} {f : M (List D)} (hc : yY X (.builtin id) r) (hF : qa4 X.K F r) (hg : Gl X x) (hm : X.mg x = none) (hv : bootBuiltins x = some (.builtin id)) (ha : DA X c (e :: es) f) (hn : x ≠ "__name__" := by decide) (hdb : (x == ("__debug__" : Str)) = false := by decide)
  (he : starEach (e :: es) X.env = (false, eval e X.env) :: starEach es X.env := by rfl) (hpl : (backTo pos (starEach es X.env)).any (·.1) = false := by rfl) : DE X c (.Call (.Name x p) (e :: es) [] pos) (zV F f) := by
 obtain ⟨t, pa, w⟩ := ha
 exact ⟨_, vF hc hg hm hv pa hn hdb he hpl, qmE hF w⟩
theorem qJ {r : R2} {F : D -> D -> Option D} {f g : M D} (hr : IxR X r) (hF : OpS X.K F r) (ha : DE X c a f) (hb : DE X c b g) (hs : qcA b := by intro _ _; rfl) : DE X c (.Subscript a b pos) (d2 F f g) := by
 obtain ⟨ta, pa, wa⟩ := ha
 obtain ⟨tb, pb, wb⟩ := hb
 exact ⟨_, qkQ hr pa pb hs, op2 hF wa wb⟩
end
inductive Fl where
 | nx (U : Env) | rt (d : D) (U : Env) | bk (U : Env) | ct (U : Env)
structure GrS (O : List Nat) (Z : St) (H : Hp) (Z' : St) (H' : Hp) : Prop where
 ext : Ext (Cl O Z) H H'
 cl : ∀ b, Cl O Z b -> (H b).isSome = true -> Cl O Z' b
 dom : ∀ b, H' b = none -> H b = none
theorem qd0 {H H' : Hp} {b : Addr} (dom : H' b = none -> H b = none) (h : (H b).isSome = true) : (H' b).isSome = true := by
 cases e : H' b with
 | none => rw [dom e] at h; cases h
 | some o => rfl
theorem GrS.refl {O : List Nat} {Z : St} {H : Hp} : GrS O Z H Z H := ⟨Ext.refl, fun _ h _ => h, fun _ h => h⟩
theorem Gr.s {O : List Nat} {Z : St} {H H' : Hp} (g : Gr O Z H H') : GrS O Z H Z H' := ⟨g.ext, fun _ h _ => h, g.dom⟩
theorem GrS.trans {O : List Nat} {Z Z1 Z2 : St} {H H1 H2 : Hp} (a : GrS O Z H Z1 H1) (b : GrS O Z1 H1 Z2 H2) : GrS O Z H Z2 H2 :=
 ⟨⟨fun c xs h => b.ext.tup c xs (a.ext.tup c xs h), fun c o u h => b.ext.frz c o u (a.ext.frz c o u h), fun c o hc h => b.ext.at_ c o (a.cl c hc (by rw [h]; rfl)) (a.ext.at_ c o hc h)⟩,
  fun c hc h => b.cl c (a.cl c hc h) (qd0 (a.dom c) h), fun c h => a.dom c (b.dom c h)⟩
theorem GrS.is {K : Fr0} {c : Fc} {Z Z' : St} {H H' : Hp} {d : D} {v : V} (g : GrS c.O Z H Z' H') (h : Is K (Cn c Z) H d v) : Is K (Cn c Z') H' d v :=
 Is.ext ⟨g.ext.tup, g.ext.frz, fun b o hb h => g.ext.at_ b o hb.2 h⟩ (fun a ha hs => ⟨ha.1, g.cl a ha.2 hs⟩) h
theorem GrS.isL {K : Fr0} {c : Fc} {Z Z' : St} {H H' : Hp} {d : List D} {v : List V} (g : GrS c.O Z H Z' H') (h : IsL K (Cn c Z) H d v) : IsL K (Cn c Z') H' d v :=
 IsL.ext ⟨g.ext.tup, g.ext.frz, fun b o hb h => g.ext.at_ b o hb.2 h⟩ (fun a ha hs => ⟨ha.1, g.cl a ha.2 hs⟩) h
def WpS (K : Fr0) (c : Fc) (Z : St) (H : Hp) (D : qeB) : R Fl -> Prop
 | .ok (.nx U) => ∀ Z' H', Rep K c U Z' H' -> GrS c.O Z H Z' H' -> D.nx Z' H'
 | .ok (.rt d U) => ∀ v Z' H', Rep K c U Z' H' -> Is K c.B H' d v -> GrS c.O Z H Z' H' -> D.rt v H'
 | .ok (.bk U) => ∀ Z' H', Rep K c U Z' H' -> GrS c.O Z H Z' H' -> D.bk Z' H'
 | .ok (.ct U) => ∀ Z' H', Rep K c U Z' H' -> GrS c.O Z H Z' H' -> D.ct Z' H'
 | .exc x U => ∀ Z' H', Rep K c U Z' H' -> GrS c.O Z H Z' H' -> c.E x H'
 | .bad => False
abbrev MS := Env -> R Fl
def DS (X : Cx) (c : Fc) (st : Stmt) (f : MS) : Prop := ∃ t, PS X st t /\ ∀ U Z H D, Rep X.K c U Z H -> WpS X.K c Z H D (f U) -> t D Z H
def DSs (X : Cx) (c : Fc) (st : List Stmt) (f : MS) : Prop := ∃ t, PSs X st t /\ ∀ U Z H D, Rep X.K c U Z H -> WpS X.K c Z H D (f U) -> t D Z H
theorem WpS.gr {K : Fr0} {c : Fc} {Z Z1 : St} {H H1 : Hp} {D : qeB} : ∀ {r : R Fl}, WpS K c Z H D r -> GrS c.O Z H Z1 H1 -> WpS K c Z1 H1 D r
 | .ok (.nx U), h, g => fun Z' H' hr hg => h Z' H' hr (g.trans hg)
 | .ok (.rt d U), h, g => fun v Z' H' hr hi hg => h v Z' H' hr hi (g.trans hg)
 | .ok (.bk U), h, g => fun Z' H' hr hg => h Z' H' hr (g.trans hg)
 | .ok (.ct U), h, g => fun Z' H' hr hg => h Z' H' hr (g.trans hg)
 | .exc x U, h, g => fun Z' H' hr hg => h Z' H' hr (g.trans hg)
 | .bad, h, _ => h
def sbnd {α : Type} (f : M α) (k : α -> MS) : MS := fun U => match f U with
 | .ok (a, U') => k a U'
 | .exc x U' => .exc x U'
 | .bad => .bad
section
variable {K : Fr0} {c : Fc} {Z : St} {H : Hp} {D : qeB}
theorem Wp.sbnd {f : M Sk.D} {k : Sk.D -> MS} {U : Env} {Q' : VK} (h : WpS K c Z H D (sbnd f k U)) (hQ : ∀ d U' v H', Rep K c U' Z H' -> Is K (Cn c Z) H' d v -> Gr c.O Z H H' -> WpS K c Z H' D (k d U') -> Q' v H') : Wp K c Z H Q' (f U) := by
 unfold Sk.sbnd at h
 cases e : f U with
 | ok p => rw [e] at h; exact fun v H' hr hi hg => hQ p.1 p.2 v H' hr hi hg (h.gr hg.s)
 | exc x U' => rw [e] at h; exact fun H' hr hg => h Z H' hr hg.s
 | bad => rw [e] at h; exact h
theorem WpB.sbnd {f : M Bool} {k : Bool -> MS} {U : Env} {Q' : Bool -> Hp -> Prop} (h : WpS K c Z H D (sbnd f k U)) (hQ : ∀ d U' H', Rep K c U' Z H' -> Gr c.O Z H H' -> WpS K c Z H' D (k d U') -> Q' d H') : WpB K c Z H Q' (f U) := by
 unfold Sk.sbnd at h
 cases e : f U with
 | ok p => rw [e] at h; exact fun H' hr hg => hQ p.1 p.2 H' hr hg (h.gr hg.s)
 | exc x U' => rw [e] at h; exact fun H' hr hg => h Z H' hr hg.s
 | bad => rw [e] at h; exact h
theorem WpL.sbnd {f : M (List Sk.D)} {k : List Sk.D -> MS} {U : Env} {Q' : List V -> Hp -> Prop} (h : WpS K c Z H D (sbnd f k U)) (hQ : ∀ d U' v H', Rep K c U' Z H' -> IsL K (Cn c Z) H' d v -> Gr c.O Z H H' -> WpS K c Z H' D (k d U') -> Q' v H') : WpL K c Z H Q' (f U) := by
 unfold Sk.sbnd at h
 cases e : f U with
 | ok p => rw [e] at h; exact fun v H' hr hi hg => hQ p.1 p.2 v H' hr hi hg (h.gr hg.s)
 | exc x U' => rw [e] at h; exact fun H' hr hg => h Z H' hr hg.s
 | bad => rw [e] at h; exact h
end
def qN (f g : MS) : MS := fun U => match f U with
 | .ok (.nx U') => g U'
 | r => r
theorem WpS.mono_nx {K : Fr0} {c : Fc} {Z : St} {H : Hp} {D : qeB} {f g : MS} {U : Env} {N : St -> Hp -> Prop} (h : WpS K c Z H D (qN f g U)) (hN : ∀ U' Z' H', Rep K c U' Z' H' -> GrS c.O Z H Z' H' -> WpS K c Z' H' D (g U') -> N Z' H') :
  WpS K c Z H { D with nx := N } (f U) := by
 unfold qN at h
 cases e : f U with
 | ok fl =>
  rw [e] at h
  cases fl with
  | nx U' => exact fun Z' H' hr hg => hN U' Z' H' hr hg (h.gr hg)
  | rt d U' => exact h
  | bk U' => exact h
  | ct U' => exact h
 | exc x U' => rw [e] at h; exact h
 | bad => rw [e] at h; exact h
section
variable {X : Cx} {c : Fc} {a b e : Expr} {pos : Pos} {st : Stmt} {sts : List Stmt}
theorem qiR : DSs X c [] (fun U => .ok (.nx U)) := ⟨_, qiB, fun U Z H D r h => h Z H r .refl⟩
theorem qj {f : MS} (h : DS X c st f) : DSs X c [st] f := by
 obtain ⟨t, p, w⟩ := h
 exact ⟨t, qeD p, w⟩
theorem qh {f g : MS} (h : DS X c st f) (hr : DSs X c sts g) : DSs X c (st :: sts) (qN f g) := by
 obtain ⟨t, p, w⟩ := h
 obtain ⟨t2, p2, w2⟩ := hr
 exact ⟨_, qgx p p2, fun U Z H D r h => w U Z H _ r (h.mono_nx fun U' Z' H' r' g' h' => w2 U' Z' H' D r' h')⟩
def jv (f : M D) : MS := sbnd f fun d U => .ok (.rt d U)
theorem Is.cn {K : Fr0} {Z : St} {H : Hp} {d : D} {v : V} (h : Is K (Cn c Z) H d v) : Is K c.B H d v := Is.ext Ext.refl (fun _ h _ => h.1) h
theorem qC {f : M D} (h : DE X c e f) : DS X c (.Return (some e) pos) (jv f) := by
 obtain ⟨t, p, w⟩ := h
 exact ⟨_, qhG p, fun U Z H D r h => w U Z H _ r (Wp.sbnd h fun d U1 v H1 r1 i1 g1 h1 => h1 v Z H1 r1 i1.cn .refl)⟩
def uF (f : M D) : MS := sbnd f fun _ U => .ok (.nx U)
theorem vk {f : M D} (h : DE X c e f) (hs : swapsWith e none pos.line X.env = pure false := by rfl) : DS X c (.Expr e pos) (uF f) := by
 obtain ⟨t, p, w⟩ := h
 exact ⟨_, qiC p hs, fun U Z H D r h => w U Z H _ r (Wp.sbnd h fun d U1 v H1 r1 i1 g1 h1 => h1 Z H1 r1 .refl)⟩
def sif (f : M Bool) (g k : MS) : MS := sbnd f fun b => if b then g else k
theorem jB {t : Expr} {s1 s2 : List Stmt} {f : M Bool} {g k : MS} (ht : DT X c t f) (ha : DSs X c s1 g) (hb : DSs X c s2 k) : DS X c (.If t s1 s2 pos) (sif f g k) := by
 obtain ⟨tt, pt, wt⟩ := ht
 obtain ⟨ta, pa, wa⟩ := ha
 obtain ⟨tb, pb, wb⟩ := hb
 refine ⟨_, qml pt pa pb, fun U Z H D rp h => wt U Z H _ rp (WpB.sbnd h fun d U1 H1 r1 g1 h1 => ?_)⟩
 cases d with
 | true => exact qkd (wa U1 Z H1 D r1 (by simpa using h1))
 | false => exact qkc (wb U1 Z H1 D r1 (by simpa using h1))
theorem zt {α : Type} {l : List α} {i j : Nat} {v : α} (h : j ≠ i) : (l.set i v)[j]? = l[j]? := List.getElem?_set_ne (Ne.symm h)
theorem Cl.set {O : List Nat} {Z : St} {i : Nat} {v : Option V} (hi : i ∉ O) (a : Addr) : Cl O (Z.set i v) a ↔ Cl O Z a := by
 constructor
 ·intro h j hj
  have e : j ≠ i := fun e => hi (e ▸ hj)
  have := h j hj
  rw [zt e] at this
  exact this
 ·intro h j hj
  have e : j ≠ i := fun e => hi (e ▸ hj)
  rw [zt e]
  exact h j hj
theorem Rep.set {K : Fr0} {U : Env} {Z : St} {H : Hp} {i : Nat} {d : D} {v : V} (r : Rep K c U Z H) (hi : i ∉ c.O) (h : Is K (Cn c Z) H d v) : Rep K c (U.set i (some d)) (Z.set i (some v)) H where
 len := by rw [lS_, lS_]; exact r.len
 val := fun j e hj => by
  have up : ∀ {d' : D} {v' : V}, Is K (Cn c Z) H d' v' -> Is K (Cn c (Z.set i (some v))) H d' v' := fun h => Is.ext Ext.refl (fun a ha _ => ⟨ha.1, (Cl.set hi a).mpr ha.2⟩) h
  by_cases e1 : j = i
  ·subst e1
   have hl : j < U.length := by
    have := (gI_.mp hj).1
    rwa [lS_] at this
   rw [List.getElem?_set_self hl] at hj
   cases hj
   refine ⟨v, List.getElem?_set_self (by rw [<- r.len]; exact hl), .inr ⟨hi, up h⟩⟩
  ·rw [zt e1] at hj
   obtain ⟨w, h1, h2⟩ := r.val j e hj
   refine ⟨w, by rw [zt e1]; exact h1, ?_⟩
   rcases h2 with ⟨hj2, ds, a, xs, h3, h5, h6, h7⟩ | ⟨h3, h4⟩
   ·exact .inl ⟨hj2, ds, a, xs, h3, h5, h6, IsL.ext Ext.refl (fun a ha _ => ⟨ha.1, (Cl.set hi a).mpr ha.2⟩) h7⟩
   ·exact .inr ⟨h3, up h4⟩
 own := fun j hj w h => by
  have e1 : j ≠ i := fun e => hi (e ▸ hj)
  rw [zt e1] at h
  exact r.own j hj w h
 inj := fun j k a hj hk h1 h2 => by
  have e1 : j ≠ i := fun e => hi (e ▸ hj)
  have e2 : k ≠ i := fun e => hi (e ▸ hk)
  rw [zt e1] at h1
  rw [zt e2] at h2
  exact r.inj j k a hj hk h1 h2
 b0 := r.b0
 kp := r.kp
 dm := r.dm
 pO := r.pO
 ps := fun j hj => by
  have e : j ≠ i := fun e => hi (e ▸ r.pO j hj)
  rw [zt e]; exact r.ps j hj
theorem GrS.set {O : List Nat} {Z : St} {H : Hp} {i : Nat} {v : Option V} (hi : i ∉ O) : GrS O Z H (Z.set i v) H := ⟨Ext.refl, fun b h _ => (Cl.set hi b).mpr h, fun _ h => h⟩
def zf (i : Nat) (f : M D) : MS := sbnd f fun d U => .ok (.nx (U.set i (some d)))
theorem qL {i : Nat} {x : Str} {pos' : Pos} {f : M D} (hN : X.N.Nodup) (he : DE X c e f) (ho : i ∉ c.O := by exact of_decide_eq_false rfl) (hi : X.N[i]? = some x := by rfl) (hx : Loc X.env.scope x := by first | exact Or.inl rfl | exact Or.inr rfl) (hs : swapsWith e (some (.Name x pos')) pos.line X.env = pure false := by rfl) (hf : X.fn x = true \/ X.env.scope.names.lookup x = some .local := by first | exact .inl rfl | exact .inr rfl | assumption) :
  DS X c (.Assign [.Name x pos'] e pos) (zf i f) := by
 obtain ⟨t, p, w⟩ := he
 refine ⟨_, qhI hN hi hx p hs hf, fun U Z H D r h => w U Z H _ r (Wp.sbnd h fun d U1 v H1 r1 i1 g1 h1 => ?_)⟩
 exact h1 _ H1 (r1.set ho i1) (.set ho)
def DG (X : Cx) (c : Fc) (tg : Expr) (f : D -> Env -> Option Env) : Prop := ∃ g, PG X tg g /\ ∀ U Z H d v U' (N : St -> Hp -> Prop), Rep X.K c U Z H -> Is X.K (Cn c Z) H d v -> f d U = some U' ->
 (∀ Z', Rep X.K c U' Z' H -> GrS c.O Z H Z' H -> (∀ j ∈ c.O, Z'[j]? = Z[j]?) -> N Z' H) -> g v Z H N
def qE (i : Nat) : D -> Env -> Option Env := fun d U => some (U.set i (some d))
theorem qT {i : Nat} {x : Str} (hN : X.N.Nodup) (ho : i ∉ c.O := by exact of_decide_eq_false rfl) (hi : X.N[i]? = some x := by rfl) (hx : Loc X.env.scope x := by first | exact Or.inl rfl | exact Or.inr rfl) (hf : X.fn x = true \/ X.env.scope.names.lookup x = some .local := by first | exact .inl rfl | exact .inr rfl | assumption) {p : Pos} : DG X c (.Name x p) (qE i) := by
 refine ⟨_, qiD hN hi hx hf, fun U Z H d v U' N r h e k => ?_⟩
 cases e
 exact k _ (r.set ho h) (.set ho) fun j hj => zt fun e => ho (e ▸ hj)
def DGs (X : Cx) (c : Fc) (tgs : List Expr) (f : List D -> Env -> Option Env) : Prop := ∃ g, PGs X tgs g /\ ∀ U Z H ds vs U' (N : St -> Hp -> Prop), Rep X.K c U Z H -> IsL X.K (Cn c Z) H ds vs -> f ds U = some U' ->
 (∀ Z', Rep X.K c U' Z' H -> GrS c.O Z H Z' H -> (∀ j ∈ c.O, Z'[j]? = Z[j]?) -> N Z' H) -> g vs Z H N
def qcu : List D -> Env -> Option Env
 | [], U => some U
 | _, _ => none
def zR (f : D -> Env -> Option Env) (g : List D -> Env -> Option Env) : List D -> Env -> Option Env
 | d :: ds, U => (f d U).bind (g ds)
 | _, _ => none
theorem v2 : DGs X c [] qcu := by
 refine ⟨_, qiE, fun U Z H ds vs U' N r h e k => ?_⟩
 cases ds with
 | nil =>
  cases e
  exact ⟨h, k Z r .refl fun _ _ => rfl⟩
 | cons d ds => cases e
theorem zO {tg : Expr} {tgs : List Expr} {f : D -> Env -> Option Env} {g : List D -> Env -> Option Env} (h1 : DG X c tg f) (h2 : DGs X c tgs g)
  (hs : (assignEach (tg :: tgs) X.env).map (·.2) = assign tg X.env :: (assignEach tgs X.env).map (·.2) := by rfl) : DGs X c (tg :: tgs) (zR f g) := by
 obtain ⟨t1, p1, w1⟩ := h1
 obtain ⟨t2, p2, w2⟩ := h2
 refine ⟨_, qgy p1 p2 hs, fun U Z H ds vs U' N r h e k => ?_⟩
 cases ds with
 | nil => cases e
 | cons d ds =>
  obtain ⟨v, ws, rfl, i1, i2⟩ := h
  have e' : (f d U).bind (g ds) = some U' := e
  cases e1 : f d U with
  | none => rw [e1] at e'; cases e'
  | some U1 =>
   rw [e1] at e'
   exact ⟨v, ws, rfl, w1 U Z H d v U1 _ r i1 e1 fun Z1 r1 g1 o1 => w2 U1 Z1 H ds ws U' N r1 (g1.isL i2) e' fun Z2 r2 g2 o2 => k Z2 r2 (g1.trans g2) fun j hj => (o2 j hj).trans (o1 j hj)⟩
def qcv (n : Nat) (g : List D -> Env -> Option Env) : D -> Env -> Option Env
 | .tup ds, U => if ds.length = n then g ds U else none
 | _, _ => none
theorem qaL {es : List Expr} {k n : Nat} {p : Pos} {g : List D -> Env -> Option Env} (hc : X.calm = true) (h : DGs X c es g) (hn : (assignEach es X.env).length = n := by rfl) (hst : (assignEach es X.env).findIdx? (·.1) = none := by rfl) : DG X c (.Tuple es k p) (qcv n g) := by
 obtain ⟨t, p, w⟩ := h
 refine ⟨_, qkz (n := n) hc p hn hst, fun U Z H d v U' N r h e q => ?_⟩
 cases d with
 | tup ds =>
  obtain ⟨a, xs, rfl, ta, il⟩ := h
  have e' : (if ds.length = n then g ds U else none) = some U' := e
  by_cases hl : ds.length = n
  ·rw [if_pos hl] at e'
   exact ⟨a, xs, rfl, ta.sq, by rw [il.length]; exact hl, w U Z H ds xs U' N r il e' q⟩
  ·rw [if_neg hl] at e'; cases e'
 | _ => cases e
def qgG (f : M D) (g : D -> Env -> Option Env) : MS := sbnd f fun d U => match g d U with
 | some U' => .ok (.nx U')
 | none => .bad
theorem qeZ {tg : Expr} {f : M D} {g : D -> Env -> Option Env} (he : DE X c e f) (hg : DG X c tg g) (hs : swapsWithSole [tg] e pos.line X.env = pure false := by rfl) (hw : swappedStores [tg] e X.env = pure none := by rfl) (h1 : (assignEach [tg] X.env).map (·.2) = [assign tg X.env] := by rfl) : DS X c (.Assign [tg] e pos) (qgG f g) := by
 obtain ⟨t, p, w⟩ := he
 obtain ⟨t2, p2, w2⟩ := hg
 refine ⟨_, qhH p p2 hs hw h1, fun U Z H D r h => w U Z H _ r (Wp.sbnd h fun d U1 v H1 r1 i1 g1 h1 => ?_)⟩
 cases e : g d U1 with
 | none => rw [e] at h1; exact h1.elim
 | some U2 =>
  rw [e] at h1
  exact w2 U1 Z H1 d v U2 _ r1 i1 e fun Z' r2 g2 _ => h1 Z' H1 r2 g2
end
section
variable {K : Fr0}
def iiD (g : Int -> Int -> D) : D -> D -> Option D
 | .int i, .int j => some (g i j)
 | _, _ => none
def qgH (C : Int -> Int -> Bool) (g : Int -> Int -> D) : D -> D -> Option D
 | .int i, .int j => if C i j then some (g i j) else none
 | _, _ => none
theorem qah {g : Int -> Int -> V} {gD : Int -> Int -> D} (hg : ∀ A H i j, Is K A H (gD i j) (g i j)) : OpS K (iiD gD) (rI0 g) := by
 intro A H x y d v u Q hn ix iy e k
 cases x <;> cases y <;> simp only [iiD] at e <;> try (cases e; done)
 rename_i i j
 cases (Option.some.inj e)
 cases (show v = .int i from ix)
 cases (show u = .int j from iy)
 exact ⟨i, j, rfl, rfl, k _ H (jk.refl H) (hg _ _ _ _)⟩
theorem qe0 {C : Int -> Int -> Prop} {CB : Int -> Int -> Bool} {g : Int -> Int -> V} {gD : Int -> Int -> D} (hC : ∀ i j, CB i j = true -> C i j) (hg : ∀ A H i j, Is K A H (gD i j) (g i j)) : OpS K (qgH CB gD) (rI C g) := by
 intro A H x y d v u Q hn ix iy e k
 cases x <;> cases y <;> simp only [qgH] at e <;> try (cases e; done)
 rename_i i j
 obtain ⟨e1, e2⟩ := z0 e
 subst e2
 cases (show v = .int i from ix)
 cases (show u = .int j from iy)
 exact ⟨i, j, rfl, rfl, hC i j e1, k _ H (jk.refl H) (hg _ _ _ _)⟩
def qa5 : D -> D -> Option D := iiD fun i j => .int (i - j)
theorem qai : OpS K qa5 (rI0 fun i j => .int (i - j)) := qah fun _ _ _ _ => rfl
def ye (i : Int) : Bool := decide (-(2 ^ 64) < i) && decide (i < 2 ^ 64)
theorem qbS {i : Int} (h : ye i = true) : -(2 ^ 64) < i /\ i < 2 ^ 64 := by
 unfold ye at h
 rw [Bool.and_eq_true] at h
 exact ⟨of_decide_eq_true h.1, of_decide_eq_true h.2⟩
def qcC (i j : Int) : Bool := ye i || ye j
theorem qgI {i j : Int} (h : qcC i j = true) : qkG i j := by
 unfold qcC at h
 rw [Bool.or_eq_true] at h
 rcases h with h | h
 ·exact .inl (qbS h)
 ·exact .inr (qbS h)
def qd1 (i j : Int) : Bool := decide (0 < j) && decide (j < 1606938044258990275541962092341162602522202993782792835301376)
theorem qdc {i j : Int} (h : qd1 i j = true) : qkF i j := by
 unfold qd1 at h
 rw [Bool.and_eq_true] at h
 exact ⟨of_decide_eq_true h.1, of_decide_eq_true h.2⟩
def vm : D -> D -> Option D := qgH qd1 fun i j => .int (i / j)
theorem yL : OpS K vm (rI qkF fun i j => .int (i / j)) := qe0 (fun _ _ => qdc) fun _ _ _ _ => rfl
def qcD : D -> D -> Option D := qgH (fun _ j => decide (0 < j)) fun i j => .int (i % j)
theorem vn : OpS K qcD (rI (fun _ j => 0 < j) fun i j => .int (i % j)) := qe0 (fun _ _ h => of_decide_eq_true h) fun _ _ _ _ => rfl
def ltD : D -> D -> Option D := iiD fun i j => .bl (decide (i < j))
def leD : D -> D -> Option D := iiD fun i j => .bl (decide (i <= j))
def gtD : D -> D -> Option D := iiD fun i j => .bl (decide (j < i))
def geD : D -> D -> Option D := iiD fun i j => .bl (decide (j <= i))
theorem qkX : OpS K ltD (rI0 fun i j => .bl (decide (i < j))) := qah fun _ _ _ _ => rfl
theorem qhQ : OpS K leD (rI0 fun i j => .bl (decide (i <= j))) := qah fun _ _ _ _ => rfl
theorem wF : OpS K gtD (rI0 fun i j => .bl (decide (j < i))) := qah fun _ _ _ _ => rfl
theorem qe1 : OpS K geD (rI0 fun i j => .bl (decide (j <= i))) := qah fun _ _ _ _ => rfl
def sc2 : D -> D -> Option Bool
 | .non, .non => some true | .non, .int _ => some false | .int _, .non => some false | .non, .bl _ => some false | .bl _, .non => some false | .non, .str _ => some false | .str _, .non => some false
 | .int i, .int j => some (decide (i = j)) | .bl i, .bl j => some (decide (i = j)) | .str i, .str j => some (decide (i = j))
 | .int _, .str _ => some false | .str _, .int _ => some false | .bl _, .str _ => some false | .str _, .bl _ => some false
 | _, _ => none
def eqS (x y : D) : Option D := (sc2 x y).map D.bl
def neS (x y : D) : Option D := (sc2 x y).map fun b => D.bl (!b)
theorem qhR {A : Addr -> Prop} {H : Hp} {x y : D} {v u : V} {b : Bool} (ix : Is K A H x v) (iy : Is K A H y u) (e : sc2 x y = some b) : qmr v u = true /\ decide (v = u) = b := by
 cases x <;> cases y <;> simp only [sc2] at e <;> first
  | (cases e; done)
  | (cases ix; cases iy; cases e; exact ⟨rfl, rfl⟩)
  | (cases ix; cases iy; cases e; exact ⟨rfl, by simp⟩)
  | (cases ix; cases iy; cases e; exact ⟨rfl, by rw [Bool.eq_iff_iff]; simp⟩)
theorem qiS : OpS K eqS rEq := by
 intro A H x y d v u Q hn ix iy e k
 unfold eqS at e
 cases e1 : sc2 x y with
 | none => rw [e1] at e; cases e
 | some b =>
  rw [e1] at e
  cases e
  obtain ⟨h1, h2⟩ := qhR ix iy e1
  exact ⟨h1, by rw [h2]; exact k _ H (jk.refl H) rfl⟩
theorem qe2 : OpS K neS rNe := by
 intro A H x y d v u Q hn ix iy e k
 unfold neS at e
 cases e1 : sc2 x y with
 | none => rw [e1] at e; cases e
 | some b =>
  rw [e1] at e
  cases e
  obtain ⟨h1, h2⟩ := qhR ix iy e1
  exact ⟨h1, by rw [h2]; exact k _ H (jk.refl H) rfl⟩
def y0 : D -> Bool
 | .non => true
 | _ => false
theorem wV {A : Addr -> Prop} {H : Hp} {x : D} {v : V} (ix : Is K A H x v) : decide (v = V.non) = y0 x := by
 cases x with
 | non => cases ix; rfl
 | bl b => cases ix; rfl
 | int i => cases ix; rfl
 | str s => cases ix; rfl
 | tup ds => obtain ⟨a, xs, rfl, _⟩ := ix; rfl
 | lst ds => obtain ⟨a, xs, rfl, _⟩ := ix; rfl
 | dic ds => obtain ⟨a, rfl, _⟩ := ix; rfl
 | fz ds => obtain ⟨a, rfl, _⟩ := ix; rfl
 | exc ds => obtain ⟨a, rfl, _⟩ := ix; rfl
def isN (x y : D) : Option D := if y0 y then some (.bl (y0 x)) else none
def qe3 (x y : D) : Option D := if y0 y then some (.bl (!y0 x)) else none
theorem qcE : OpS K isN (fun x y H Q => y = .non /\ Q (.bl (decide (x = .non))) H) := by
 intro A H x y d v u Q hn ix iy e k
 obtain ⟨e1, e2⟩ := z0 e
 subst e2
 have h := wV iy
 rw [e1] at h
 refine ⟨of_decide_eq_true h, ?_⟩
 rw [wV ix]
 exact k _ H (jk.refl H) rfl
theorem qdd : OpS K qe3 (fun x y H Q => y = .non /\ Q (.bl (!decide (x = .non))) H) := by
 intro A H x y d v u Q hn ix iy e k
 obtain ⟨e1, e2⟩ := z0 e
 subst e2
 have h := wV iy
 rw [e1] at h
 refine ⟨of_decide_eq_true h, ?_⟩
 rw [wV ix]
 exact k _ H (jk.refl H) rfl
def ixD : D -> D -> Option D
 | .tup ds, .int i => atI ds i
 | .lst ds, .int i => atI ds i
 | .fz ns, .int i => (atI ns i).map D.int
 | _, _ => none
theorem IsL.atI {A : Addr -> Prop} {H : Hp} {ds : List D} {xs : List V} {i : Int} {d : D} (h : IsL K A H ds xs) (e : L2.atI ds i = some d) : ∃ v, L2.atI xs i = some v /\ Is K A H d v := by
 unfold L2.atI at e |-
 rw [h.length]
 cases e1 : ixN ds.length i with
 | none => rw [e1] at e; cases e
 | some j =>
  rw [e1] at e
  exact h.get e
theorem qq : OpS K ixD (fun x y H Q => qmy K x y H Q \/ qmz K x y H Q) := by
 intro A H x y d v u Q hn ix iy e k
 cases x <;> cases y <;> simp only [ixD] at e <;> try (cases e; done)
 ·rename_i ds i
  cases iy
  obtain ⟨a, xs, rfl, ta, il⟩ := ix
  obtain ⟨w, h1, h2⟩ := il.atI e
  exact .inr ⟨a, xs, i, w, rfl, rfl, ta.sq, h1, k w H (jk.refl H) h2⟩
 ·rename_i ds i
  cases iy
  obtain ⟨a, xs, rfl, _, ta, il⟩ := ix
  obtain ⟨w, h1, h2⟩ := il.atI e
  exact .inl ⟨a, xs, i, w, rfl, rfl, .inl (.inl ta), h1, k w H (jk.refl H) h2⟩
 ·rename_i ns i
  cases iy
  obtain ⟨a, rfl, ta⟩ := ix
  cases e1 : L2.atI ns i with
  | none => rw [e1] at e; cases e
  | some m =>
   rw [e1] at e
   cases e
   have h1 : L2.atI (ns.map V.int) i = some (V.int m) := by
    unfold L2.atI at e1 |-
    rw [lM_]
    cases e2 : ixN ns.length i with
    | none => rw [e2] at e1; cases e1
    | some j =>
     rw [e2] at e1
     have e3 : ns[j]? = some m := e1
     show (ns.map V.int)[j]? = some (V.int m)
     rw [gM_, e3]; rfl
   exact .inl ⟨a, _, i, .int m, rfl, rfl, ta.sq, h1, k _ H (jk.refl H) rfl⟩
theorem IsL.inv1 {A : Addr -> Prop} {H : Hp} {d : D} {vs : List V} (h : IsL K A H [d] vs) : ∃ v, vs = [v] /\ Is K A H d v := by
 obtain ⟨x, ys, e1, e2, e3⟩ := h
 have e3' : ys = [] := e3
 exact ⟨x, by rw [e1, e3'], e2⟩
theorem IsL.inv2 {A : Addr -> Prop} {H : Hp} {d d' : D} {vs : List V} (h : IsL K A H [d, d'] vs) : ∃ v w, vs = [v, w] /\ Is K A H d v /\ Is K A H d' w := by
 obtain ⟨x, ys, e1, e2, e3⟩ := h
 obtain ⟨w, e4, e5⟩ := IsL.inv1 e3
 exact ⟨x, w, by rw [e1, e4], e2, e5⟩
def ql8 : List D -> Option D
 | [.int i] => some (.int (if i < 0 then -i else i))
 | _ => none
theorem qe4 : qa4 K ql8 (fun xs H Q => ∃ i, xs = [.int i] /\ Q (.int (if i < 0 then -i else i)) H) := by
 intro A H xs d vs Q hn h e k
 unfold ql8 at e
 split at e
 ·rename_i i
  obtain ⟨v, rfl, e2⟩ := IsL.inv1 h
  cases e2; cases e
  exact ⟨i, rfl, k _ H (jk.refl H) rfl⟩
 ·cases e
def qaF : List D -> Option D
 | [.int i, .int j] => some (.int (if j > i then j else i))
 | _ => none
def qgJ : List D -> Option D
 | [.int i, .int j] => some (.int (if j < i then j else i))
 | _ => none
theorem qbT : qa4 K qaF (fun xs H Q => ∃ i j, xs = [.int i, .int j] /\ Q (.int (if j > i then j else i)) H) := by
 intro A H xs d vs Q hn h e k
 unfold qaF at e
 split at e
 ·rename_i i j
  obtain ⟨v, w, rfl, e2, e3⟩ := IsL.inv2 h
  cases e2; cases e3; cases e
  exact ⟨i, j, rfl, k _ H (jk.refl H) rfl⟩
 ·cases e
theorem qe5 : qa4 K qgJ (fun xs H Q => ∃ i j, xs = [.int i, .int j] /\ Q (.int (if j < i then j else i)) H) := by
 intro A H xs d vs Q hn h e k
 unfold qgJ at e
 split at e
 ·rename_i i j
  obtain ⟨v, w, rfl, e2, e3⟩ := IsL.inv2 h
  cases e2; cases e3; cases e
  exact ⟨i, j, rfl, k _ H (jk.refl H) rfl⟩
 ·cases e
def qaj : List D -> Option D
 | [.int i, .int j] => if qd1 i j then some (.tup [.int (i / j), .int (i % j)]) else none
 | _ => none
theorem qbU : qa4 K qaj (fun xs H Q => ∃ i j, xs = [.int i, .int j] /\ qkF i j /\ ∀ p, H p = none -> Q (.ref p) (upd H p (.tup [.int (i / j), .int (i % j)]))) := by
 intro A H xs d vs Q hn h e k
 unfold qaj at e
 split at e
 ·rename_i i j
  obtain ⟨v, w, rfl, e2, e3⟩ := IsL.inv2 h
  cases e2; cases e3
  obtain ⟨e6, e7⟩ := z0 e
  subst e7
  exact ⟨i, j, rfl, qdc e6, fun p hp => k _ _ (qD hp _) ⟨p, _, rfl, .inl qt, _, _, rfl, rfl, _, _, rfl, rfl, rfl⟩⟩
 ·cases e
def qn2 : List D -> Option D
 | [.int i] => some (.int i)
 | [.bl b] => some (.int (if b then 1 else 0))
 | _ => none
def qaM : List D -> Option D
 | [.tup ds] => some (.int ds.length)
 | [.lst ds] => some (.int ds.length)
 | [.fz ns] => some (.int ns.length)
 | [.str x] => if qQ x.length then some (.int x.length) else none
 | _ => none
def qnj (K : Fr0) : List V -> Hp -> VK -> Prop := fun xs H Q => (∃ p ys, xs = [.ref p] /\ (SqL K H p ys \/ SqT K H p ys) /\ Q (.int ys.length) H) \/ (∃ z, xs = [.str z] /\ z.length <= sizeLine /\ Q (.int z.length) H)
theorem jq {X : Cx} : yY X (.builtin "len") (qnj X.K) := yY.or qbO qbP
theorem jH : qa4 K qaM (qnj K) := by
 intro A H xs d vs Q hn h e k
 unfold qaM at e
 split at e
 ·obtain ⟨v, rfl, a, zs, rfl, ta, il⟩ := IsL.inv1 h
  cases e
  exact .inl ⟨a, zs, rfl, .inr ta.sq, by rw [il.length]; exact k _ H (jk.refl H) rfl⟩
 ·obtain ⟨v, rfl, a, zs, rfl, _, ta, il⟩ := IsL.inv1 h
  cases e
  exact .inl ⟨a, zs, rfl, .inl (.inl (.inl ta)), by rw [il.length]; exact k _ H (jk.refl H) rfl⟩
 ·obtain ⟨v, rfl, a, rfl, ta⟩ := IsL.inv1 h
  cases e
  exact .inl ⟨a, _, rfl, .inl ta.sq, by rw [lM_]; exact k _ H (jk.refl H) rfl⟩
 ·rename_i z
  obtain ⟨v, rfl, e2⟩ := IsL.inv1 h
  cases e2
  obtain ⟨e4, e5⟩ := z0 e
  subst e5
  exact .inr ⟨z, rfl, of_decide_eq_true e4, k _ H (jk.refl H) rfl⟩
 ·cases e
def qnk : List D -> Option D
 | [.tup ds] => some (.tup ds)
 | [.lst ds] => some (.tup ds)
 | _ => none
end
end L2.Sk
namespace L2.Sk
open PySem PySem.Spec PySem.Calls PyProof.Rows PySem.W
def qhS (h : Heap) (a D : Addr) : Prop := ∃ o, h.get? a = some o /\ o.cls = .ref D
theorem qhS.looks {M : Model} {h : Heap} {a D : Addr} (I : qhS h a D) : Looks M h (typeOf (.ref a)) (.ref D) := by
 obtain ⟨o, h1, h2⟩ := I
 rw [<- h2]
 exact (Looks.ld h1).andThen .now
section
variable {prog : Program} {w : World} {A : Around} {E : Value -> Shared -> Prop} {K : Frag} {h : Heap} {g : Array GenState} {d : Drawn} {t : Nat} {os : OsState} {a D : Addr}
theorem qkY (hm : mroIn K D (.type "object") = some true) {tp : Value} {R : Result -> Shared -> Prop} (X : K.In h) (I : qhS h a D) (hq : R (.ok (.ret (.ref D))) ⟨h, g, d, t, os⟩) :
  codeAny (model prog w) A (.call (.builtin "getset_descriptor.__get__") ⟨[.builtin "object.__class__", .ref a, tp], []⟩) R ⟨h, g, d, t, os⟩ := by
 have L0 := I.looks (M := model prog w)
 have L1 := looks_mroIn (M := model prog w) X hm
 have hT5 : (⟨h, g, d, t, os⟩ : Shared).TypeIs (.builtin "object.__class__") "getset_descriptor" := F.typeOf_object_class
 refine codeAny_call_builtin F.slot_gs_get.plain F.entry_gs_get (F.slot_gs_get.check _ _ _ _ _ _ _ _ hT5 (F.args_gs_get _ _ _) ?_)
 have eo : ".".intercalate ("object.__class__".cutAt '.').dropLast = "object" := by decide +kernel
 repeat (any_goals (first | assumption | with_reducible refine L0.at ?_ | with_reducible refine L1.at ?_ | wp_step))
 rw [eo]
 refine L1.at ?_
 repeat (any_goals (first | assumption | with_reducible refine L0.at ?_ | wp_step))
 refine ⟨Code.quiet_builtin _ (by decide +kernel), codeAny_builtin F.entry_object_class ?_⟩
 repeat (any_goals (first | assumption | with_reducible refine L0.at ?_ | wp_step))
theorem qgK (ha : findIn K (.ref D) "__class__" = some (some (.builtin "object.__class__"))) (hm : mroIn K D (.type "object") = some true) {tk : Tok} {Q : Fin -> Shared -> Prop} (X : K.In h) (I : qhS h a D) (hq : Q (.done (.ret (.ref D))) ⟨h, g, d, t, os⟩) :
  wpAny (model prog w) A (Builtin.«object.__getattribute__» ⟨[.ref a, .str "__class__" tk], []⟩) Q E ⟨h, g, d, t, os⟩ := by
 have L0 := I.looks (M := model prog w)
 have L1 := looks_findIn (M := model prog w) X ha
 have hT5 : (⟨h, g, d, t, os⟩ : Shared).TypeIs (.builtin "object.__class__") "getset_descriptor" := F.typeOf_object_class
 have f5 := F.typeOf_object_class
 have f6 := F.slot_gs_get.lookup
 have f7 := F.slot_gs_set.lookup
 repeat (any_goals (first | assumption | with_reducible refine L0.at ?_ | with_reducible refine L1.at ?_ | wp_step))
 refine qkY hm X I ?_
 repeat (any_goals (first | assumption | wp_step))
theorem qgL (hb : Looks (model prog w) h (isSubtype (.ref D) (.type "BaseException")) true) {nameV : Value} {Q : Unit -> Shared -> Prop} (I : qhS h a D) (hq : Q () ⟨h, g, d, t, os⟩) : wpAny (model prog w) A (checkBuiltinCall "BaseException.__getattribute__" ⟨[.ref a, nameV], []⟩) Q E ⟨h, g, d, t, os⟩ := by
 have hk : builtinKind "BaseException.__getattribute__" = some .slot := by decide +kernel
 have hsplit : splitId "BaseException.__getattribute__" = some ("BaseException", "__getattribute__") := by decide +kernel
 have L0 := I.looks (M := model prog w)
 have ha := F.args_bexc_ga (.ref a) nameV
 simp only [checkBuiltinCall, hk, hsplit]
 refine wpAny_bind ?_
 ·unfold isInstance
  repeat (first | with_reducible refine L0.at ?_ | with_reducible refine hb.at ?_ | wp_step)
  exact hq
theorem qmF (FA : ExcAttrFacts "ValueError") (hga : findIn K (.ref D) "__getattribute__" = some (some (.builtin "BaseException.__getattribute__"))) (hgt : findIn K (.ref D) "__getattr__" = some none) (ha : findIn K (.ref D) "__class__" = some (some (.builtin "object.__class__"))) (hm : mroIn K D (.type "object") = some true)
  (hb : Looks (model prog w) h (isSubtype (.ref D) (.type "BaseException")) true) {tk : Tok} {fill expr : Bool} {Q : Value -> Shared -> Prop} (X : K.In h) (I : qhS h a D) (hq : Q (.ref D) ⟨h, g, d, t, os⟩) :
  wpAny (model prog w) A (getAttrBy (.ref a) (.str "__class__" tk) fill expr) Q E ⟨h, g, d, t, os⟩ := by
 have L0 := I.looks (M := model prog w)
 have L1 := looks_findIn (M := model prog w) X hga
 have L2 := looks_findIn (M := model prog w) X hgt
 have f3 := FA.ga.bind (.ref a)
 have hx0 : (expr && onTheHeap (Value.builtin "BaseException.__getattribute__")) = false := by cases expr <;> rfl
 have hx2 : (Value.builtin "BaseException.__getattribute__" == Value.builtin "object.__getattribute__") = false := by decide +kernel
 have hx1 : (onTheHeap (Value.ref D) && Value.builtin "BaseException.__getattribute__" == Value.builtin "object.__getattribute__") = false := by rw [hx2]; rfl
 repeat (any_goals (first | assumption | with_reducible refine L0.at ?_ | with_reducible refine L1.at ?_ | with_reducible refine L2.at ?_ | wp_step))
 refine codeAny_call_builtin FA.ga.plain F.entry_bexc_ga (qgL hb I (qgK ha hm X I ?_))
 repeat (any_goals (first | assumption | wp_step))
theorem qiT (FA : ExcAttrFacts "ValueError") (hga : findIn K (.ref D) "__getattribute__" = some (some (.builtin "BaseException.__getattribute__"))) (hgt : findIn K (.ref D) "__getattr__" = some none) (ha : findIn K (.ref D) "__class__" = some (some (.builtin "object.__class__"))) (hm : mroIn K D (.type "object") = some true)
  (hb : Looks (model prog w) h (isSubtype (.ref D) (.type "BaseException")) true) {Q : Option Value -> Shared -> Prop} (X : K.In h) (I : qhS h a D) (hq : Q (some (.ref D)) ⟨h, g, d, t + 1, os⟩) :
  wpAny (model prog w) A (getAttr? (.ref a) "__class__") Q E ⟨h, g, d, t, os⟩ := by
 unfold getAttr? getAttrBy?
 repeat (any_goals (first | assumption | with_reducible apply qmF FA hga hgt ha hm hb X I | wp_step))
end
theorem qgM {K : Frag} {a D : Addr} (c : XK6 K D) : KitX K (.ref a) (.ref D) (fun h => qhS h a D) where
 ty := fun _ _ _ I => I.looks
 it := fun _ _ X _ => by
  obtain ⟨cdD, hcD⟩ := Option.isSome_iff_exists.mp c.is
  unfold clsIn at hcD
  split at hcD
  ·rename_i c' d' cd' sl' ho
   intro A' Q' E' s' k q
   unfold isType loadHead
   exact wpAny_bind (wpAny_loadPart (k _ _ (X _ _ ho)) (wpAny_pure q))
  ·cases hcD
 ne := fun h tp dd its n sl X htp => by
  obtain ⟨cdD, hcD⟩ := Option.isSome_iff_exists.mp c.is
  refine Bool.eq_false_iff.mpr fun q => ?_
  have e : D = tp := Value.ref.inj (beq_iff_eq.mp q)
  subst e
  unfold clsIn at hcD
  split at hcD
  ·rename_i c' d' cd' sl' ho
   have z := (X _ _ ho).symm.trans htp
   cases z
  ·cases hcD
 ca := fun {prog w A E Q s} X p k => by
  have I := p
  obtain ⟨h, g, d, t, os⟩ := s
  exact qiT PySem.F.attrBase_ValueError.toExcAttrFacts c.ga c.gt c.cl c.ob (looks_subIn X c.be) X I k
theorem qaN {X : Cx} {pins : List (Addr × Obj)} {Z : St} {H : Hp} {s : Shared} {A : Around} {E : Value -> Shared -> Prop} {Q : Value -> Shared -> Prop} {a C : Addr} {c : Value} {b : Bool} (I : Inv X pins Z H s) (xc : XK6 X.K C) (hH : ∃ o vs, H a = some (.frz o (.own a)) /\ o.cls = .ref C /\ o.data = .fields vs)
  (e : kitOne X.K (.ref C) c = some b) (h : ∀ tk, Q (.bool b) { s with toks := tk }) : wpAny (model X.prog X.w) A (call (.builtin "isinstance") [.ref a, c]) Q E s := by
 obtain ⟨o, vs, h1, h2, _⟩ := hH
 obtain ⟨p, _⟩ := (show yq X.prog X.w H s.heap a (.frz o (.own a)) from I.hok a _ h1)
 exact kia_one (qgM xc) I.kIn ⟨o, p, h2⟩ e (fun z => nomatch z) h
end L2.Sk
namespace L2.Sk
open PySem PySem.Spec PyProof.Rows
def tyD : D -> String
 | .non => "NoneType"
 | .bl _ => "bool"
 | .int _ => "int"
 | .str _ => "str"
 | .tup _ => "tuple"
 | .lst _ => "list"
 | .dic _ => "dict"
 | .fz _ => "list"
 | .exc _ => "exc"
def qcF (t T : String) : Bool := t == T || (t == "bool" && T == "int")
def qd2 : List String := ["NoneType", "bool", "int", "str", "tuple", "list", "dict"]
theorem qiU (d : D) (h : ∀ C, d ≠ .exc C) : tyD d ∈ qd2 := by
 cases d <;> first | (simp [tyD, qd2]; done) | exact absurd rfl (h _)
structure qkf (K : Fr0) (T : String) : Prop where
 ok : ∀ t ∈ qd2, PySem.W.kitOne K (.type t) (.type T) = some (qcF t T)
 ex : T ∈ ["int", "bool", "str", "tuple", "list", "dict"]
 nx : qcF "exc" T = false
theorem qe6 {K : Fr0} : qkf K "int" := ⟨fun t ht => by
 simp only [qd2, List.mem_cons, nN_, or_false] at ht
 rcases ht with rfl | rfl | rfl | rfl | rfl | rfl | rfl <;> kernel_rfl, by decide, by decide⟩
theorem qde {K : Fr0} : qkf K "bool" := ⟨fun t ht => by
 simp only [qd2, List.mem_cons, nN_, or_false] at ht
 rcases ht with rfl | rfl | rfl | rfl | rfl | rfl | rfl <;> kernel_rfl, by decide, by decide⟩
theorem vH {K : Fr0} : qkf K "tuple" := ⟨fun t ht => by
 simp only [qd2, List.mem_cons, nN_, or_false] at ht
 rcases ht with rfl | rfl | rfl | rfl | rfl | rfl | rfl <;> kernel_rfl, by decide, by decide⟩
section
variable {X : Cx} {pins : List (Addr × Obj)} {Z : St} {H : Hp} {s : Shared} {A : Addr -> Prop} {E : Value -> Shared -> Prop} {Q : Value -> Shared -> Prop}
theorem qkZ {d : D} {v : V} {u : Value} {T : String} (I : Inv X pins Z H s) (h : Is X.K A H d v) (rv : jE v u) (kt : qkf X.K T) (hQ : ∀ tk, Q (.bool (qcF (tyD d) T)) { s with toks := tk }) :
  wpAny (model X.prog X.w) X.A (call (.builtin "isinstance") [u, .type T]) Q E s := by
 by_cases hx : ∃ C, d = .exc C
 ·obtain ⟨C, rfl⟩ := hx
  obtain ⟨a, rfl, xa⟩ := h
  cases (show u = Value.ref a from rv)
  have q : ∀ tk, Q (.bool false) { s with toks := tk } := fun tk => by
   have := hQ tk
   rw [show tyD (.exc C) = "exc" from rfl, kt.nx] at this
   exact this
  obtain ⟨D0, h0, h1, h2⟩ := xa
  exact qaN I h1 h2 (h1.no T kt.ex) q
 have e := kt.ok (tyD d) (qiU d fun C hC => hx ⟨C, hC⟩)
 cases d with
 | exc C => exact absurd ⟨C, rfl⟩ hx
 | non => cases h; exact yZ I rv .non e hQ
 | bl b => cases h; exact yZ I rv (.bl b) e hQ
 | int i => cases h; exact yZ I rv (.int i) e hQ
 | str x => cases h; exact yZ I rv (.str x) e hQ
 | tup ds =>
  obtain ⟨a, xs, rfl, ta, il⟩ := h
  cases (show u = Value.ref a from rv)
  obtain ⟨its, r, p, z⟩ := I.tuple ta.sq
  obtain ⟨o, h1, h2, _⟩ := p
  exact PySem.W.kia_one PySem.W.kitx_tuple I.kIn ⟨o, h1, h2⟩ e (fun z => nomatch z) hQ
 | lst ds =>
  obtain ⟨a, xs, rfl, hA, ta, il⟩ := h
  exact yZ I rv (.lst ta) e hQ
 | dic kvs =>
  obtain ⟨a, rfl, hA, ta⟩ := h
  exact yZ I rv (.dK ta) e hQ
 | fz ns =>
  obtain ⟨a, rfl, ta⟩ := h
  cases (show u = Value.ref a from rv)
  obtain ⟨its, r, p, z⟩ := I.list ta.sq
  obtain ⟨o, h1, h2, _⟩ := p.isList
  exact PySem.W.kia_one PySem.W.kitx_list I.kIn ⟨o, h1, h2⟩ e (fun z => nomatch z) hQ
end
def qev (T : String) (f : M D) : M D := bnd f fun d => ret (.bl (qcF (tyD d) T))
section
variable {X : Cx} {c : Fc} {a b e : Expr} {pos : Pos}
def qn3 (K : Fr0) (T : String) : List V -> Hp -> VK -> Prop := fun xs H Q => ∃ v d A, xs = [v, .ty T] /\ Is K A H d v /\ Q (.bl (qcF (tyD d) T)) H
theorem qgN {T : String} (kt : qkf X.K T) : yY X (.builtin "isinstance") (qn3 X.K T) := by
 intro pins s Z H xs us Q I r h
 obtain ⟨v, d, A, rfl, hi, q⟩ := h
 obtain ⟨u, w, rfl, r1, r2⟩ := zb.two r
 cases (show w = Value.type T from r2)
 exact qkZ I hi r1 kt fun tk => ⟨.bl _, H, I.tok tk, rfl, q⟩
theorem wG {T : String} {x : Str} {p p2 : Pos} {f : M D} (kt : qkf X.K T) (hg : Gl X "isinstance") (hm : X.mg "isinstance" = none) (hg2 : Gl X x) (hm2 : X.mg x = none) (hv2 : bootBuiltins x = some (.type T)) (ha : DE X c a f)
  (hv : bootBuiltins "isinstance" = some (.builtin "isinstance") := by first | rfl | exact PySem.boot_isinstance) (hn2 : x ≠ "__name__" := by decide) (hdb2 : (x == ("__debug__" : Str)) = false := by decide)
  (he : starEach [a, .Name x p2] X.env = (false, eval a X.env) :: starEach [.Name x p2] X.env := by rfl) (hpl : (backTo pos (starEach [.Name x p2] X.env)).any (·.1) = false := by rfl) : DE X c (.Call (.Name "isinstance" p) [a, .Name x p2] [] pos) (qev T f) := by
 obtain ⟨t, pa, w⟩ := ha
 refine ⟨_, vF (qgN kt) hg hm hv (jF pa (jF (qeC (v := .ty T) hg2 hm2 hv2 rfl hn2 hdb2) va (by rfl)) he) (by decide) (by decide) he hpl, fun U Z H Q r h => w U Z H _ r (Wp.bnd h fun d U1 v H1 r1 i1 g1 h1 => ?_)⟩
 exact ⟨v, d, _, rfl, i1, h1 _ H1 r1 rfl .refl⟩
end
def uz : List D -> Option (List Bool)
 | [] => some []
 | .bl b :: r => (uz r).map (b :: ·)
 | _ => none
def vo : List D -> Option (List Int)
 | [] => some []
 | .int i :: r => (vo r).map (i :: ·)
 | _ => none
theorem ug {K : Fr0} {A : Addr -> Prop} {H : Hp} : ∀ {ds : List D} {xs : List V} {bs : List Bool}, IsL K A H ds xs -> uz ds = some bs -> xs = bs.map V.bl
 | [], _, _, h, e => by cases e; exact h
 | .bl b :: r, _, bs, ⟨x, ys, hx, h1, h2⟩, e => by
  cases h1
  cases e1 : uz r with
  | none => simp [uz, e1] at e
  | some l =>
   simp [uz, e1] at e
   subst e
   rw [hx, ug h2 e1]; rfl
 | .non :: _, _, _, _, e => by cases e
 | .int _ :: _, _, _, _, e => by cases e
 | .str _ :: _, _, _, _, e => by cases e
 | .tup _ :: _, _, _, _, e => by cases e
 | .lst _ :: _, _, _, _, e => by cases e
 | .dic _ :: _, _, _, _, e => by cases e
 | .fz _ :: _, _, _, _, e => by cases e
 | .exc _ :: _, _, _, _, e => by cases e
theorem qaO {K : Fr0} {A : Addr -> Prop} {H : Hp} : ∀ {ds : List D} {xs : List V} {bs : List Int}, IsL K A H ds xs -> vo ds = some bs -> xs = bs.map V.int
 | [], _, _, h, e => by cases e; exact h
 | .int b :: r, _, bs, ⟨x, ys, hx, h1, h2⟩, e => by
  cases h1
  cases e1 : vo r with
  | none => simp [vo, e1] at e
  | some l =>
   simp [vo, e1] at e
   subst e
   rw [hx, qaO h2 e1]; rfl
 | .non :: _, _, _, _, e => by cases e
 | .bl _ :: _, _, _, _, e => by cases e
 | .str _ :: _, _, _, _, e => by cases e
 | .tup _ :: _, _, _, _, e => by cases e
 | .lst _ :: _, _, _, _, e => by cases e
 | .dic _ :: _, _, _, _, e => by cases e
 | .fz _ :: _, _, _, _, e => by cases e
 | .exc _ :: _, _, _, _, e => by cases e
theorem qgO {bs : List Bool} : ∀ {us : List Value}, zb (bs.map V.bl) us -> LSm.BoolsAre us bs := by
 induction bs with
 | nil => intro us r; rw [List.map_nil] at r; cases r; exact .nil
 | cons b bs ih =>
  intro us r
  rw [mC_] at r
  cases r with
  | cons r1 r2 =>
   cases (show _ = Value.bool b from r1)
   exact .cons b (ih r2)
section
variable {X : Cx}
theorem qgP (hc : X.calm = true) : yY X (.builtin "all") (fun xs H Q => ∃ (p : Addr) (bs : List Bool), xs = [.ref p] /\ H p = some (.lst (bs.map V.bl)) /\ Q (.bl (bs.all id)) H) := by
 intro pins s Z H xs us Q I r h
 obtain ⟨p, bs, rfl, hp, q⟩ := h
 obtain ⟨u, rfl, ru⟩ := zb.one r
 cases ru
 obtain ⟨its, rv, pl, hz⟩ := I.list (SqL.of hp)
 have hl := pl.isList
 have hb := qgO rv
 have hlt : p < s.heap.objs.size := by obtain ⟨_, e, _⟩ := hl; exact Heap.lt_size e
 refine call_all_walk (wpAny_pyIter_list hl ?_)
 refine ⟨s.heap.objs.size, [s.heap.objs.size, p], [s.heap.objs.size], its.toArray.size, _, _, fun i => (bs[i]?).getD true, rfl, Walks.list (A := X.A.in1) (I.ok.hd hc) _ p (Nat.ne_of_lt hlt) its.toArray,
  ⟨⟨_, Heap.get?_push_size _ rfl, rfl, rfl⟩, hl.push _⟩, fun i v s' Q' E' hP hQ => ?_, fun h' tk hk => ?_⟩
 ·obtain ⟨b, e, rfl⟩ := hb.get i v (by simpa using hP)
  simp only [e, Option.getD_some] at hQ
  exact wpAny_truthy_bool hQ
 ·have e : ((List.range its.toArray.size).all fun i => (bs[i]?).getD true) = bs.all id := by
   rw [sT_, hb.length]; exact LSm.range_all bs
  rw [e]
  exact ⟨.bl _, H, I.kept (LSm.kept_iter hk), rfl, q⟩
end
def qkg : List D -> Option D
 | [.lst ds] => (uz ds).map fun bs => .bl (bs.all id)
 | _ => none
section
variable {K : Fr0}
theorem qe7 : qa4 K qkg (fun xs H Q => ∃ (p : Addr) (bs : List Bool), xs = [.ref p] /\ H p = some (.lst (bs.map V.bl)) /\ Q (.bl (bs.all id)) H) := by
 intro A H xs d vs Q hn h e k
 unfold qkg at e
 split at e
 ·obtain ⟨v, rfl, a, zs, rfl, _, ta, il⟩ := IsL.inv1 h
  obtain ⟨bs, h1, h2⟩ := Option.map_eq_some_iff.mp e
  subst h2
  rw [ug il h1] at ta
  exact ⟨a, bs, rfl, ta, k _ H (jk.refl H) rfl⟩
 ·cases e
end
section
variable {X : Cx}
def qhT (K : Fr0) : R2 := fun x y H Q => ∃ a b ys, x = .ref a /\ y = .ref b /\ SqT K H a [] /\ SqT K H b ys /\ Q (.ref b) H
theorem qgQ : OpR X (binaryOp .Add) (qhT X.K) := by
 intro pins s Z H x y v u Q I rx ry h
 obtain ⟨a, b, ys, rfl, rfl, ha, hb, q⟩ := h
 cases rx
 cases ry
 obtain ⟨its, r1, p1, _⟩ := I.tuple ha
 obtain ⟨its2, r2, p2, _⟩ := I.tuple hb
 cases r1
 obtain ⟨⟨cls, dd, data, sl⟩, ho, hc, n, hd⟩ := id p1
 obtain ⟨⟨cls2, dd2, data2, sl2⟩, ho2, hc2, n2, hd2⟩ := id p2
 simp only at hc hd hc2 hd2
 subst hc hd hc2 hd2
 exact concat_meets ⟨_, ho, rfl⟩ ⟨_, ho2, rfl⟩ noFill_tuple_add seq_tuple_add PySem.F.slot_tuple_add PySem.F.entry_tuple_add (PySem.F.args_tuple_add_2 _ _)
   (tuple_addW0 a b [].toArray its2.toArray n n2 dd dd2 sl sl2 (by simp)) ⟨ho, ho2, ⟨.ref b, H, I, rfl, q⟩⟩
def qk0 (K : Fr0) : R2 := fun x y H Q => (∃ i j, x = .int i /\ y = .int j /\ Q (.int (i + j)) H) \/ ((∃ i j, x = .str i /\ y = .str j /\ i.length + j.length <= sizeLine /\ Q (.str (i ++ j)) H) \/ (qhT K x y H Q \/ (qkP K x y H Q \/ qng x y H Q)))
theorem jn : OpR X (binaryOp .Add) (qk0 X.K) := OpR.or qkH (OpR.or qdY (OpR.or qgQ (OpR.or qiM qkU)))
end
def uT : D -> D -> Option D
 | .int i, .int j => some (.int (i + j))
 | .str x, .str y => if qQ (x.length + y.length) then some (.str (x ++ y)) else none
 | .tup xs, .tup ys => if qQ (xs.length + ys.length) then some (.tup (xs ++ ys)) else none
 | .lst xs, .lst ys => if qQ (xs.length + ys.length) then some (.lst (xs ++ ys)) else none
 | _, _ => none
theorem jo {K : Fr0} : OpS K uT (qk0 K) := by
 intro A H x y d v u Q hn ix iy e k
 cases x <;> cases y <;> simp only [uT] at e <;> try (cases e; done)
 ·rename_i i j
  cases ix; cases iy; cases e
  exact .inl ⟨i, j, rfl, rfl, k _ H (jk.refl H) rfl⟩
 ·rename_i i j
  cases ix; cases iy
  obtain ⟨e1, e2⟩ := z0 e
  subst e2
  exact .inr (.inl ⟨i, j, rfl, rfl, of_decide_eq_true e1, k _ H (jk.refl H) rfl⟩)
 ·rename_i ds es
  obtain ⟨a, xs, rfl, ta, il⟩ := ix
  obtain ⟨b, ys, rfl, tb, jl⟩ := iy
  obtain ⟨e1, e2⟩ := z0 e
  subst e2
  have hs : xs.length + ys.length <= sizeLine := by rw [il.length, jl.length]; exact of_decide_eq_true e1
  refine .inr (.inr ?_)
  cases ds with
  | nil =>
   have hx : xs = [] := il
   subst hx
   exact .inl ⟨a, b, ys, rfl, rfl, ta.sq, tb.sq, k _ H (jk.refl H) ⟨b, ys, rfl, tb, jl⟩⟩
  | cons d0 ds =>
   refine .inr (.inl ⟨a, b, xs, ys, rfl, rfl, ta.sq, tb.sq, ?_, hs, fun hy => ?_, fun hy p hp => ?_⟩)
   ·obtain ⟨x, zs, hx, _⟩ := il
    rw [hx]; simp
   ·subst hy
    cases es with
    | nil => rw [List.append_nil] at k; exact k _ H (jk.refl H) ⟨a, xs, rfl, ta, il⟩
    | cons e0 es => obtain ⟨_, _, hx, _⟩ := jl; cases hx
   ·exact k _ _ (qD hp _) ⟨p, xs ++ ys, rfl, .inl qt, IsL.ext (Ext.of_same (qD hp _)) (fun _ h _ => h) (IsL.append il jl)⟩
 ·rename_i ds es
  obtain ⟨a, xs, rfl, hA, ta, il⟩ := ix
  obtain ⟨b, ys, rfl, hB, tb, jl⟩ := iy
  obtain ⟨e1, e2⟩ := z0 e
  subst e2
  have hs : xs.length + ys.length <= sizeLine := by rw [il.length, jl.length]; exact of_decide_eq_true e1
  exact .inr (.inr (.inr (.inr ⟨a, b, xs, ys, rfl, rfl, ta, tb, hs, fun p hp => k _ _ (qD hp _) ⟨p, xs ++ ys, rfl, hn p hp, qt, IsL.ext (Ext.of_same (qD hp _)) (fun _ h _ => h) (IsL.append il jl)⟩⟩)))
section
variable {X : Cx}
end
def qmG (xs : List D) (lo hi : Option Int) : List D := (xs.drop (HT.sIx xs.length 0 lo)).take (HT.sIx xs.length xs.length hi - HT.sIx xs.length 0 lo)
def slD (x : D) (lo hi : Option Int) : Option D := match x with
 | .tup ds => some (.tup (qmG ds lo hi))
 | _ => none
section
variable {X : Cx} {c : Fc} {a b e : Expr} {pos p2 : Pos}
def asI : D -> Option Int
 | .int i => some i
 | _ => none
def qk1 (f : M D) : M (Option Int) := bnd f fun d => match d with
 | .int i => ret (some i)
 | _ => fun _ => .bad
def dsl (f : M D) (g k : M (Option Int)) : M D := bnd f fun d => bnd g fun l => bnd k fun u => lift (slD d l u)
end
def zH (X : Cx) (scope : Scope) (N' : List Str) (fp : List Addr) (cl : List (Str × Addr)) (C : Addr) (s₀ : Shared) (H₀ : Hp) (pn : List (Addr × Obj)) : Cx where
 prog := X.prog
 w := X.w
 K := X.K
 mg := X.mg
 base := X.base
 A := X.A
 N := N'
 s₀ := s₀
 H₀ := H₀
 env := compEnvC scope cl C X.env
 outer := X.stack
 stack := X.stack
 ex := fp
 fn := fun _ => false
 calm := X.calm
 pn := pn
 xe := fun _ _ => False
def PF (X : Cx) (ifs : List Expr) (t : TT) : Prop := ∀ (pins : List (Addr × Obj)) (s : Shared) (Z : St) (H : Hp) (Q : Bool -> Hp -> Prop), Inv X pins Z H s -> t Z H Q ->
 wpAny (model X.prog X.w) X.A (forIn ifs true fun c r => if r = true then do let ok <- isTrue c X.env (eval c X.env); pure (ForInStep.yield ok) else pure (ForInStep.yield r)) (TP X pins Z Q) X.xe s
theorem qk2 {X : Cx} : PF X [] (fun _ H Q => Q true H) := fun pins s Z H Q I h => wpAny_tests_nil ⟨H, I, h⟩
theorem qk3 {X : Cx} {e : Expr} {t : TT} (h : PT X e t) : PF X [e] t := fun pins s Z H Q I hw => wpAny_tests_one (h pins s Z H Q I hw)
structure CompScope (X : Cx) (scope : Scope) (N' : List Str) (nt : Nat) (fr : List Nat) : Prop where
 kind : scope.kind = .function
 nocell : ∀ y ∈ scope.names, y.2 ≠ .cell
 names : ∀ y ∈ scope.names, y.2 = .local -> scope.names.lookup y.1 = some .local
 frees : ∀ y ∈ scope.names, y.2 = .free -> X.env.kindOf y.1 = some .cell
 len : N'.length = nt + fr.length
 slot : ∀ i j, fr[i]? = some j -> ∃ x, N'[nt + i]? = some x /\ X.N[j]? = some x /\ scope.names.lookup x = some .free
theorem v3 {env : PySem.Env} : ∀ (names : List (Str × NameKind)) (cs : List (Str × Addr)), (∀ y ∈ names, y.2 = .free -> ∃ a, env.cells.lookup y.1 = some a) -> (∀ n a, cs.lookup n = some a -> env.cells.lookup n = some a) ->
  ∃ cl, (forIn names cs fun x r => match x with | (name, kind) => if (kind == NameKind.free) = true then do let a <- cellOf env name; pure (ForInStep.yield ((name, a) :: r)) else pure (ForInStep.yield r) : Sem (List (Str × Addr))) = pure cl /\
   (∀ n a, cl.lookup n = some a -> env.cells.lookup n = some a) /\ (∀ n, (∃ a, cs.lookup n = some a) -> ∃ a, cl.lookup n = some a) /\ ∀ y ∈ names, y.2 = .free -> ∃ a, cl.lookup y.1 = some a
 | [], cs, _, h => ⟨cs, rfl, h, fun _ h => h, fun y hy => by cases hy⟩
 | (n, k) :: r, cs, hf, h => by
  have hr : ∀ y ∈ r, y.2 = .free -> ∃ a, env.cells.lookup y.1 = some a := fun y hy => hf y (mM _ hy)
  rw [List.forIn_cons]
  by_cases hk : k = .free
  ·subst hk
   obtain ⟨a, ha⟩ := hf (n, .free) mS_ rfl
   have ha' : env.cells.lookup n = some a := ha
   have hcell : cellOf env n = pure a := by unfold cellOf; rw [ha']
   obtain ⟨cl, e1, e2, e3, e4⟩ := v3 r ((n, a) :: cs) hr (fun m b hm => by
    rw [List.lookup_cons] at hm
    cases e : m == n with
    | true => rw [e] at hm; cases hm; rw [eq_of_beq e]; exact ha'
    | false => rw [e] at hm; exact h m b hm)
   refine ⟨cl, ?_, e2, fun m ⟨b, hm⟩ => e3 m ?_, fun y hy hyf => ?_⟩
   ·show ((if (NameKind.free == NameKind.free) = true then _ else _) >>= _) = _
    rw [if_pos (by rfl), hcell]
    exact e1
   ·rw [List.lookup_cons]
    cases e : m == n with
    | true => exact ⟨a, rfl⟩
    | false => exact ⟨b, hm⟩
   ·rcases List.mem_cons.mp hy with rfl | hy
    ·exact e3 n ⟨a, by rw [List.lookup_cons]; simp⟩
    ·exact e4 y hy hyf
  ·have hb : (k == NameKind.free) = false := by simpa using hk
   obtain ⟨cl, e1, e2, e3, e4⟩ := v3 r cs hr h
   refine ⟨cl, ?_, e2, e3, fun y hy hyf => ?_⟩
   ·show ((if (k == NameKind.free) = true then _ else _) >>= _) = _
    rw [hb, if_neg Bool.false_ne_true]
    exact e1
   ·rcases List.mem_cons.mp hy with rfl | hy
    ·exact absurd hyf hk
    ·exact e4 y hy hyf
theorem closureFor_ok {env : PySem.Env} {scope : Scope} (hf : ∀ y ∈ scope.names, y.2 = .free -> ∃ a, env.cells.lookup y.1 = some a) :
  ∃ cl, closureFor scope env = pure cl /\ (∀ n a, cl.lookup n = some a -> env.cells.lookup n = some a) /\ ∀ y ∈ scope.names, y.2 = .free -> ∃ a, cl.lookup y.1 = some a := by
 obtain ⟨cl, e1, e2, _, e4⟩ := v3 scope.names [] hf (fun n a h => by cases h)
 refine ⟨cl, ?_, e2, e4⟩
 unfold closureFor
 show (forIn scope.names [] _ >>= _) = _
 have e5 : (forIn scope.names [] fun x r => match x with | (name, kind) => if (kind == NameKind.free) = true then do let a <- cellOf env name; pure (ForInStep.yield ((name, a) :: r)) else pure (ForInStep.yield r) : Sem (List (Str × Addr))) = pure cl := e1
 first
  | (rw [e5]; rfl)
  | (simp only [bind_pure_comp, e5]; rfl)
theorem yF {env : PySem.Env} : ∀ {names : List (Str × NameKind)} {x : Str}, names.lookup x = some .free -> env.scope.kind = .function -> env.kindOf x = some .cell ->
  (names.map fun (n, k) => if (k == NameKind.free && env.scope.kind == .function && env.kindOf n == some .cell) then (n, NameKind.cell) else (n, k)).lookup x = some .cell
 | [], _, h, _, _ => by simp at h
 | (n, k) :: r, x, h, hk, hx => by
  have ih := @yF env r x
  show List.lookup x ((if (k == NameKind.free && env.scope.kind == .function && env.kindOf n == some .cell) = true then (n, NameKind.cell) else (n, k)) :: _) = _
  cases hxn : x == n with
  | true =>
   have e : x = n := eq_of_beq hxn
   subst e
   simp only [List.lookup_cons, hxn] at h
   cases h
   rw [if_pos (by rw [hk, hx]; rfl)]
   simp only [List.lookup_cons, hxn]
  | false =>
   simp only [List.lookup_cons, hxn] at h
   by_cases hc : (k == NameKind.free && env.scope.kind == .function && env.kindOf n == some .cell) = true
   ·rw [if_pos hc]; simp only [List.lookup_cons, hxn]; exact ih h hk hx
   ·rw [if_neg hc]; simp only [List.lookup_cons, hxn]; exact ih h hk hx
theorem jU {env : PySem.Env} : ∀ {names : List (Str × NameKind)} {x : Str} {q : NameKind}, (names.map fun (n, k) => if (k == NameKind.free && env.scope.kind == .function && env.kindOf n == some .cell) then (n, NameKind.cell) else (n, k)).lookup x = some q ->
  q = .cell \/ q = .free -> (∀ y ∈ names, y.2 ≠ .cell) -> ∃ k, (x, k) ∈ names /\ k = .free
 | [], _, _, h, _, _ => by simp at h
 | (n, k) :: r, x, q, h, hq, hc => by
  have ih := @jU env r x q
  have h' : List.lookup x ((if (k == NameKind.free && env.scope.kind == .function && env.kindOf n == some .cell) = true then (n, NameKind.cell) else (n, k)) :: (r.map fun (n, k) => if (k == NameKind.free && env.scope.kind == .function && env.kindOf n == some .cell) then (n, NameKind.cell) else (n, k))) = some q := h
  have hr : ∀ y ∈ r, y.2 ≠ .cell := fun y hy => hc y (mM _ hy)
  by_cases hcd : (k == NameKind.free && env.scope.kind == .function && env.kindOf n == some .cell) = true
  ·rw [if_pos hcd] at h'
   cases hxn : x == n with
   | true =>
    have e : x = n := eq_of_beq hxn
    subst e
    refine ⟨k, mS_, ?_⟩
    rw [Bool.and_eq_true, Bool.and_eq_true] at hcd
    exact eq_of_beq hcd.1.1
   | false =>
    simp only [List.lookup_cons, hxn] at h'
    obtain ⟨k', m, e⟩ := ih h' hq hr
    exact ⟨k', mM _ m, e⟩
  ·rw [if_neg hcd] at h'
   cases hxn : x == n with
   | true =>
    have e : x = n := eq_of_beq hxn
    subst e
    simp only [List.lookup_cons, hxn] at h'
    cases h'
    rcases hq with rfl | rfl
    ·exact absurd rfl (hc (x, .cell) mS_)
    ·exact ⟨.free, mS_, rfl⟩
   | false =>
    simp only [List.lookup_cons, hxn] at h'
    obtain ⟨k', m, e⟩ := ih h' hq hr
    exact ⟨k', mM _ m, e⟩
def qB (nt : Nat) (fr : List Nat) (Z : St) : St := List.replicate nt none ++ fr.map fun j => (Z[j]?).join
def qgR (X : Cx) (tg : Expr) (ifs : List Expr) (elt : Expr) (scope : Scope) (N' : List Str) (wi : TI) (nt : Nat) (fr : List Nat) : TE := fun Z H Q => wi Z H fun J H1 => ∀ acc fp cl C s₀ H₀ pn, H1 acc = none ->
 ∃ (g : TG) (tt : TT) (te : TE), PG (zH X scope N' fp cl C s₀ H₀ pn) tg g /\ PF (zH X scope N' fp cl C s₀ H₀ pn) ifs tt /\ PE (zH X scope N' fp cl C s₀ H₀ pn) elt te /\
 ∃ W : Nat -> Nat -> St -> Hp -> Prop, (∃ m, W 0 m (qB nt fr Z) (upd H1 acc (.lst []))) /\
 ∀ i m Z' H', W i m Z' H' -> (J.stop i H' /\ Q (.ref acc) H') \/ (J.go i H' /\ ∀ x H'', J.yld i H' x H'' -> g x Z' H'' fun Z2 H2 => tt Z2 H2 fun b H3 =>
  if b = true then te Z2 H3 fun y H4 => ∃ ys, H4 acc = some (.lst ys) /\ ys.length < sizeLine /\ ∃ m', m' < m /\ W (i + 1) m' Z2 (upd H4 acc (.lst (ys ++ [y]))) else ∃ m', m' < m /\ W (i + 1) m' Z2 H3)
section
variable {X : Cx} {tg iter elt : Expr} {ifs : List Expr} {scope : Scope} {pos : Pos} {wi : TI} {N' : List Str} {nt : Nat} {fr : List Nat}
theorem qak {prog : Program} {w : World} {A : Around} {R : Result -> Shared -> Prop} {s : Shared} {it acc : Value} {env : PySem.Env} (I : Nat -> Shared -> Prop)
  (turn : ∀ n s, I n s -> wpAny (model prog w) A (pyNext it) (fun r sQ => match r with
   | none => R (.ok .next) sQ
   | some v => wpAny (model prog w) A (letOwnedTupleGo tg it v) (fun _ s1' => wpAny (model prog w) A (assign tg env v) (fun _ sV =>
     wpAny (model prog w) A (forIn ifs true fun c r => if r = true then do let ok <- isTrue c env (eval c env); pure (ForInStep.yield ok) else pure (ForInStep.yield r)) (fun ok sJ =>
      if ok = true then wpAny (model prog w) A (eval elt env) (fun x sK =>
       wpAny (model prog w) A (call (.builtin "list.append") [acc, x]) (fun _ sY => ∃ m, m < n /\ I m sY) (fun _ _ => False) sK) (fun _ _ => False) sJ
      else ∃ m, m < n /\ I m sJ) (fun _ _ => False) sV) (fun _ _ => False) s1') (fun _ _ => False) sQ) (fun _ _ => False) s)
  (n : Nat) (h : I n s) : codeAny (model prog w) A (.compLoop (.ListComp elt [⟨tg, iter, ifs, 0⟩] scope pos) 0 it acc env) R s := by
 refine codeAny_loop rfl I (fun n s hI => ?_) n h
 show wpAny _ A ((compTurn (.ListComp elt [⟨tg, iter, ifs, 0⟩] scope pos) 0 it acc env).onRaise (fun x => do noteFrame x env; theTreesLotGoes x)) _ _ s
 refine wpAny_noted ?_
 rw [compTurn_list]
 refine wpAny_bind (wpAny_standAt (wpAny_bind (wpAny_mono (turn n s hI) (fun r sQ hJ => ?_) fun _ _ h' => h'.elim)))
 cases r with
 | none => exact wpAny_pure hJ
 | some v =>
  refine wpAny_bind (wpAny_mono hJ (fun _ s1' hK' => ?_) fun _ _ h' => h'.elim)
  refine wpAny_bind (wpAny_mono hK' (fun _ sV h₂ => wpAny_bind (wpAny_mono h₂ (fun ok sJ hV => ?_) fun _ _ h' => h'.elim)) fun _ _ h' => h'.elim)
  cases ok with
  | false => exact wpAny_pure ⟨rfl, hV⟩
  | true =>
   exact wpAny_bind (wpAny_bind (wpAny_mono hV (fun x sK hG => wpAny_bind (wpAny_mono hG (fun _ sY hX => wpAny_pure (wpAny_pure ⟨rfl, hX⟩)) fun _ _ h' => h'.elim)) fun _ _ h' => h'.elim))
theorem qaP {pins : List (Addr × Obj)} {Z : St} {H : Hp} {s : Shared} {hJ : Heap} {tk : Nat} {fp : List Addr} {cl : List (Str × Addr)} (S : CompScope X scope N' nt fr) (I : Inv X pins Z H s) (hfp : ∀ b ∈ fp, qct X pins H b)
  (hex : ∀ b ∈ fp, ∃ o, s.heap.get? b = some o) (cl1 : ∀ n a, cl.lookup n = some a -> X.env.cells.lookup n = some a) (cl2 : ∀ y ∈ scope.names, y.2 = .free -> ∃ a, cl.lookup y.1 = some a)
  (hns : ∃ m, hJ.Ns s.heap.objs.size m) (old : ∀ b o, s.heap.get? b = some o -> hJ.get? b = some o) :
  Inv (zH X scope N' fp cl s.heap.objs.size s H (X.pn ++ pins)) [] (qB nt fr Z) H { s with heap := hJ, toks := tk } := by
 have stkB : ∀ b ∈ frs X.stack, b = X.env.locals \/ b ∈ X.fs := fun b hb => List.mem_cons.mp (I.stkSub b hb)
 have hC : ∀ b o, s.heap.get? b = some o -> b ≠ s.heap.objs.size := fun b o e => Nat.ne_of_lt (Heap.lt_size e)
 obtain ⟨m, hn⟩ := hns
 refine ⟨⟨I.ok.mod, S.kind, I.ok.glob, I.ok.blt, Nat.le_refl _, fun x y c h1 h2 => I.ok.inj x y c (cl1 x c h1) (cl1 y c h2), fun x hx => ?_, fun x c hx => ?_, I.ok.hd, I.ok.frames, .inl rfl, fun b hb => ⟨?_, fun x c hx => (hfp b hb).2.2.2.2.1 x c (cl1 x c hx)⟩, I.bs, Nat.le_trans I.ok.bsz I.sz, fun b o e hb => ?_, fun b hb hb2 => ?_, I.stack, I.stkFree⟩,
  rfl, I.bare, Un.kept old, ⟨m, hn, fun i x v h1 h2 h3 => ?_⟩, fun x c hx => ?_, I.hok.fresh (Nat.le_refl _), fun x c hx => I.freeC x c (cl1 x c hx), fun p hp => ?_, I.hok.kept old, ?_⟩
 ·have hx' : ∃ k, (x, k) ∈ scope.names /\ k = .free := by
   rcases hx with hx | hx
   ·exact jU (env := X.env) (q := .cell) hx (.inl rfl) S.nocell
   ·exact jU (env := X.env) (q := .free) hx (.inr rfl) S.nocell
  obtain ⟨k, m, rfl⟩ := hx'
  exact cl2 (x, .free) m rfl
 ·have hx' : false = true := hx
  cases hx'
 ·obtain ⟨o, e⟩ := hex b hb
  exact hC b o e
 ·obtain ⟨f0, f1, f2, f3, f4, f5⟩ := hfp b hb
  rcases f3 with z | z
  ·exact I.ok.noex b o e z
  ·exact absurd (Nat.lt_of_lt_of_le (Heap.lt_size e) (Nat.le_trans I.ok.bsz z)) (Nat.lt_irrefl _)
 ·obtain ⟨f0, f1, f2, f3, f4, f5⟩ := hfp b hb
  rcases stkB b hb2 with z | z
  ·exact f1 z
  ·exact f2 z
 ·-- names
  have hi : nt <= i := by
   apply Nat.le_of_not_lt
   intro hlt
   unfold qB at h2
   rw [List.getElem?_append_left (by simpa using hlt), List.getElem?_replicate] at h2
   split at h2 <;> cases h2
  have h2' : (fr.map fun j => (Z[j]?).join)[i - nt]? = some (some v) := by
   unfold qB at h2
   rw [List.getElem?_append_right (by simpa using hi), List.length_replicate] at h2
   exact h2
  rw [gM_] at h2'
  cases ej : fr[i - nt]? with
  | none => rw [ej] at h2'; cases h2'
  | some j =>
   rw [ej] at h2'
   have hσ : (Z[j]?).join = some v := by simpa using h2'
   have hσ' : Z[j]? = some (some v) := by
    cases e : Z[j]? with
    | none => rw [e] at hσ; cases hσ
    | some o =>
     rw [e] at hσ
     have : o = some v := hσ
     rw [this]
   obtain ⟨y, hy1, hy2, hy3⟩ := S.slot (i - nt) j ej
   have hii : nt + (i - nt) = i := by omega
   rw [hii] at hy1
   have exy : y = x := by
    have h1' : N'[i]? = some x := h1
    rw [h1'] at hy1
    exact (Option.some.inj hy1).symm
   subst exy
   have hmem : (y, NameKind.free) ∈ scope.names := PySem.mem_of_lookup hy3
   have hcellk : X.env.kindOf y = some .cell := S.frees (y, .free) hmem rfl
   obtain ⟨m0, hn0, hl0⟩ := I.loc
   obtain ⟨u, ru, lk⟩ := hl0 j y v hy2 hσ' (.inr (.inl hcellk))
   refine ⟨u, ru, .inr ⟨.inl (yF hy3 I.ok.kind hcellk), ?_⟩⟩
   rcases lk with ⟨k1, _⟩ | ⟨_, c, e, z⟩
   ·rw [hcellk] at k1; cases k1
   ·obtain ⟨a, ea⟩ := cl2 (y, .free) hmem rfl
    have ea' := cl1 y a ea
    rw [e] at ea'
    cases ea'
    obtain ⟨o, ho, hd⟩ := z
    exact ⟨c, ea, o, old _ _ ho, hd⟩
 ·obtain ⟨v, o, ho, hd⟩ := I.cell x c (cl1 x c hx)
  exact ⟨v, o, old _ _ ho, hd⟩
 ·have hp' : p ∈ X.pn ++ pins := by
   rcases mA_.mp (show p ∈ (X.pn ++ pins) ++ [] from hp) with z | z
   ·exact z
   ·cases z
  obtain ⟨e, n, ne, nf, d⟩ := I.pin p hp'
  refine ⟨old _ _ e, n, hC _ _ e, fun z => ?_, d⟩
  rcases stkB p.1 z with z | z
  ·exact ne z
  ·exact nf z
 ·show (qB nt fr Z).length = N'.length
  unfold qB
  rw [lA_, List.length_replicate, lM_, S.len]
theorem qdf {pins : List (Addr × Obj)} {Z Z' : St} {H H' : Hp} {s s' : Shared} {h' : Heap} {fp : List Addr} {cl : List (Str × Addr)} (I : Inv X pins Z H s) (hfp : ∀ b ∈ fp, qct X pins H b)
  (J : Inv (zH X scope N' fp cl s.heap.objs.size s H (X.pn ++ pins)) [] Z' H' s') (sb : Heap.SameBut s.heap.objs.size s'.heap h') : Inv X pins Z H' { s' with heap := h' } := by
 have hC : H' s.heap.objs.size = none := J.free
 have u := J.base
 have big : ∀ b o, s.heap.get? b = some o -> b ≠ s.heap.objs.size := fun b o e => Nat.ne_of_lt (Heap.lt_size e)
 have get' : ∀ b, b ≠ s.heap.objs.size -> h'.get? b = s'.heap.get? b := fun b hb => sb.2 b hb
 have u2 : Un (frs X.stack) fp H H' s.heap h' :=
  ⟨fun b o e n hb hx => (get' b (big b o e)).trans (u.keep b o e n hb hx), fun b o e n hb hx => by
   obtain ⟨sl, q⟩ := u.slot b o e n hb hx
   exact ⟨sl, (get' b (big b o e)).trans q⟩, u.free, fun b o e hx => by
   obtain ⟨o', q⟩ := u.there b o e hx
   exact ⟨o', (get' b (big b o e)).trans q⟩, u.tups, u.frzs, u.tbls⟩
 refine I.call' (s' := { s' with heap := h' }) (ch := fp) J.os u2 (fun b o e => ?_) J.bare (fun b hb => ?_)
 ·refine (J.hok b o e).stay (fun c v hc q => ?_) (fun _ q => q) fun _ _ q => q
  refine (get' c ?_).trans q
  rintro rfl
  rcases hc with hc | hc
  ·rw [<- hc, hC] at e; cases e
  ·rw [hC] at hc; cases hc
 ·obtain ⟨f0, f1, f2, f3, f4, f5⟩ := hfp b hb
  exact ⟨f3, f1, f4, f5⟩
theorem qiV (hc : X.calm = true) (hi : PI X tg iter wi) (S : CompScope X scope N' nt fr)
  (hs : ∀ x, foldedSetIterable iter X.env x = pure x := by intro _; rfl) : PE X (.ListComp elt [⟨tg, iter, ifs, 0⟩] scope pos) (qgR X tg ifs elt scope N' wi nt fr) := by
 intro pins s Z H Q I hw
 obtain ⟨cl, hcl, cl1, cl2⟩ := closureFor_ok (env := X.env) (scope := scope) (fun y hy hf => I.ok.has y.1 (.inl (S.frees y hy hf)))
 rw [eval_ListComp]
 refine wpAny_comprehension_free (use := none) rfl hs hcl S.kind S.names (thn (hi pins s Z H _ I hw) fun v s1 h1 => thn h1 fun itv s2 h2 => ?_)
 obtain ⟨it, fp, tn, J, H2, e, I2, T, st2, f2, hR⟩ := h2
 subst e
 have hacc : H2 s2.heap.objs.size = none := I2.hok.fresh (Nat.le_refl _)
 refine wpAny_newObj_type (wpAny_newFunctionEnv S.nocell (by intro y hy; simp at hy) (fun hJ hns1 hsb1 => ?_) S.kind)
 dsimp only at hns1 hsb1 |-
 have I3 : Inv X pins Z (upd H2 s2.heap.objs.size (.lst [])) { s2 with heap := s2.heap.push { cls := .type "list", dict := none, data := .seq ([] : List Value).toArray } } :=
  I2.lnew (t' := s2.toks) (its := []) .nil (Nat.zero_le _)
 generalize hs3 : ({ s2 with heap := s2.heap.push { cls := .type "list", dict := none, data := .seq ([] : List Value).toArray } } : Shared) = s3 at I3
 have hh3 : s2.heap.push { cls := .type "list", dict := none, data := .seq ([] : List Value).toArray } = s3.heap := by rw [<- hs3]
 rw [hh3] at hns1 hsb1
 have old : ∀ b o, s3.heap.get? b = some o -> hJ.get? b = some o := fun b o q => hsb1.extBut b o (Nat.ne_of_lt (Heap.lt_size q)) (Heap.get?_push_of_some _ q)
 have objs2 : ∀ b ∈ fp, ∃ o, s2.heap.get? b = some o := fun b hb => by
  obtain ⟨o, q, _⟩ := T.obj 0 _ st2 b hb
  exact ⟨o, q⟩
 have keep23 : ∀ b o, s2.heap.get? b = some o -> s3.heap.get? b = some o := fun b o q => by rw [<- hh3]; exact Heap.get?_push_of_some _ q
 have fpne : ∀ b ∈ fp, b ≠ s2.heap.objs.size := fun b hb => by
  obtain ⟨o, q⟩ := objs2 b hb
  exact Nat.ne_of_lt (Heap.lt_size q)
 have f3 : ∀ b ∈ fp, qct X pins (upd H2 s2.heap.objs.size (.lst [])) b := fun b hb => ⟨by rw [qp (fpne b hb)]; exact (f2 b hb).1, (f2 b hb).2⟩
 have J0 : Inv (zH X scope N' fp cl s3.heap.objs.size s3 (upd H2 s2.heap.objs.size (.lst [])) (X.pn ++ pins)) [] (qB nt fr Z) (upd H2 s2.heap.objs.size (.lst [])) { s3 with heap := hJ, toks := s3.toks } :=
  qaP S I3 f3 (fun b hb => (objs2 b hb).imp fun o q => keep23 b o q) cl1 cl2 ⟨_, hns1⟩ old
 obtain ⟨g, tt, te, hg, hf, he, W, ⟨m0, w0⟩, turn⟩ := hR s2.heap.objs.size fp cl s3.heap.objs.size s3 (upd H2 s2.heap.objs.size (.lst [])) (X.pn ++ pins) hacc
 have T0 : tn 0 hJ := T.keep 0 _ _ st2 fun b hb o q => old b o (keep23 b o q)
 have s3e : ∀ tk : Nat, ({ s2 with heap := hJ, toks := tk } : Shared) = { s3 with heap := hJ, toks := tk } := fun tk => by rw [<- hs3]
 have loop : ∀ tk : Nat, codeAny (model X.prog X.w) X.A (.compLoop (.ListComp elt [⟨tg, iter, ifs, 0⟩] scope pos) 0 (.ref it) (.ref s2.heap.objs.size) (compEnvC scope cl s3.heap.objs.size X.env))
   (compPost (model X.prog X.w) X.A X.xe none (EP X pins Z Q) (.ref s2.heap.objs.size) s3.heap.objs.size) { s3 with heap := hJ, toks := tk } := fun tk => by
  have stat : ∀ {H' : Hp}, (∀ b ∈ fp, H' b = none) -> ∀ b ∈ fp, qct (zH X scope N' fp cl s3.heap.objs.size s3 (upd H2 s2.heap.objs.size (.lst [])) (X.pn ++ pins)) [] H' b := fun {H'} hn b hb => by
   obtain ⟨o, q⟩ := objs2 b hb
   have hbC : b ≠ s3.heap.objs.size := Nat.ne_of_lt (Heap.lt_size (keep23 b o q))
   refine ⟨hn b hb, hbC, fun z => ?_, .inl hb, fun x c hx => (f2 b hb).2.2.2.2.1 x c (cl1 x c hx), fun p hp => ?_⟩
   ·rcases List.mem_cons.mp (I2.stkSub b z) with z | z
    ·exact (f2 b hb).2.1 z
    ·exact (f2 b hb).2.2.1 z
   ·have hp' : p ∈ X.pn ++ pins := by
     rcases mA_.mp (show p ∈ (X.pn ++ pins) ++ [] from hp) with z | z
     ·exact z
     ·cases z
    exact (f2 b hb).2.2.2.2.2 p hp'
  have fr0 : ∀ b ∈ fp, upd H2 s2.heap.objs.size (.lst []) b = none := fun b hb => (f3 b hb).1
  refine qak (fun n s' => ∃ i Z' H', Inv (zH X scope N' fp cl s3.heap.objs.size s3 (upd H2 s2.heap.objs.size (.lst [])) (X.pn ++ pins)) [] Z' H' s' /\ tn i s'.heap /\ (∀ b ∈ fp, H' b = none) /\ W i n Z' H') ?_ m0
   ⟨0, qB nt fr Z, _, J0.tok tk, T0, fr0, w0⟩
  rintro n s4 ⟨i, Z4, H4, J4, st4, fr4, w4⟩
  rcases turn i n Z4 H4 w4 with ⟨stop, qn⟩ | ⟨go, step⟩
  ·refine thn (T.done (zH X scope N' fp cl s3.heap.objs.size s3 (upd H2 s2.heap.objs.size (.lst [])) (X.pn ++ pins)) rfl rfl rfl hc i [] s4 Z4 H4 _ J4 (stat fr4) st4 stop) fun r s5 ⟨hr, J5⟩ => ?_
   subst hr
   obtain ⟨m5, n5, _⟩ := J5.loc
   refine ⟨m5, n5, fun h' sb => ⟨.ref s2.heap.objs.size, H4, qdf I3 f3 J5 sb, rfl, qn⟩⟩
  ·refine thn (T.item (zH X scope N' fp cl s3.heap.objs.size s3 (upd H2 s2.heap.objs.size (.lst [])) (X.pn ++ pins)) rfl rfl rfl hc i [] s4 Z4 H4 _ J4 (stat fr4) st4 go) fun r s5 ⟨u, hr, h5⟩ => ?_
   subst hr
   refine thn h5 fun _ s6 ⟨x, H6, J6, r6, y6, st6, fr6⟩ => ?_
   have J6' := J6.pinned (stat fr6) (T.obj _ _ st6)
   have again : ∀ {Z7 : St} {H7 : Hp} {s7 : Shared}, Inv (zH X scope N' fp cl s3.heap.objs.size s3 (upd H2 s2.heap.objs.size (.lst [])) (X.pn ++ pins)) ([] ++ qaK fp s6.heap) Z7 H7 s7 -> (∃ m', m' < n /\ W (i + 1) m' Z7 H7) ->
     ∃ m, m < n /\ ∃ i Z' H', Inv (zH X scope N' fp cl s3.heap.objs.size s3 (upd H2 s2.heap.objs.size (.lst [])) (X.pn ++ pins)) [] Z' H' s7 /\ tn i s7.heap /\ (∀ b ∈ fp, H' b = none) /\ W i m Z' H' := fun {Z7 H7 s7} I7 hm => by
    obtain ⟨m', hm, w7⟩ := hm
    refine ⟨m', hm, i + 1, Z7, H7, I7.unpinned, T.keep _ _ _ st6 fun b hb o q => (I7.pin (b, o) (mr_ _ (mr_ _ (yt hb q)))).1, fun b hb => ?_, w7⟩
    obtain ⟨o, q, d⟩ := T.obj _ _ st6 b hb
    exact (I7.pin (b, o) (mr_ _ (mr_ _ (yt hb q)))).2.1
   refine thn (hg _ s6 Z4 H6 x u _ J6' r6 (step x H6 y6)) fun _ s7 ⟨Z7, H7, J7, q7⟩ => ?_
   refine thn (hf _ s7 Z7 H7 _ J7 q7) fun ok s8 ⟨H8, J8, q8⟩ => ?_
   cases ok with
   | false =>
    rw [if_neg Bool.false_ne_true] at q8 |-
    exact again J8 q8
   | true =>
    rw [if_pos rfl] at q8 |-
    refine thn (he _ s8 Z7 H8 _ J8 q8) fun z s9 ⟨y, H9, J9, r9, ys, hys, hz, hm⟩ => ?_
    refine thn (qad _ s9 Z7 H9 (.ref s2.heap.objs.size) [y] (.ref s2.heap.objs.size) [z] (fun _ H' => H' = upd H9 s2.heap.objs.size (.lst (ys ++ [y]))) J9 rfl (.cons r9 .nil) ⟨_, ys, y, rfl, rfl, hys, hz, rfl⟩) fun _ s10 ⟨_, H10, J10, _, e10⟩ => ?_
    subst e10
    exact again J10 hm
 have zD : ∀ tk : Nat, codeAny (model X.prog X.w) X.A (.compStart (.ListComp elt [⟨tg, iter, ifs, 0⟩] scope pos) 0 (.ref it) (.ref s2.heap.objs.size) (compEnvC scope cl s3.heap.objs.size X.env))
   (compPost (model X.prog X.w) X.A X.xe none (EP X pins Z Q) (.ref s2.heap.objs.size) s3.heap.objs.size) { s3 with heap := hJ, toks := tk } := fun tk =>
  codeAny_compStart_list (loop tk) (T.self X.A 0 _ _ _ T0 (loop tk))
 have fin := zD (s2.toks + ([] : List (Str × Value)).length)
 rw [<- s3e] at fin
 rw [<- hh3] at fin
 rw [hh3] at fin |-
 exact fin
end
structure qgS (K : Fr0) (A : Addr -> Prop) (H : Hp) (ds : List D) (J : It) : Prop where
 go : ∀ H' i d, Ext A H H' -> ds[i]? = some d -> J.go i H'
 yl : ∀ H' i d x H'', Ext A H H' -> ds[i]? = some d -> J.yld i H' x H'' -> jk H' H'' /\ Is K A H'' d x
 stop : ∀ H', Ext A H H' -> J.stop ds.length H'
def CnT (c : Fc) (Z : St) (H : Hp) (a : Addr) : Prop := Cn c Z a /\ (H a).isSome = true
def WpI (K : Fr0) (c : Fc) (Z : St) (H : Hp) (Q : It -> Hp -> Prop) : R (List D × Env) -> Prop
 | .ok (ds, U) => ∀ J H', Rep K c U Z H' -> qgS K (CnT c Z H') H' ds J -> Gr c.O Z H H' -> Q J H'
 | .exc x U => ∀ H', Rep K c U Z H' -> Gr c.O Z H H' -> c.E x H'
 | .bad => False
def DI (X : Cx) (c : Fc) (tg it : Expr) (f : M (List D)) : Prop := ∃ w, PI X tg it w /\ ∀ U Z H Q, Rep X.K c U Z H -> WpI X.K c Z H Q (f U) -> w Z H Q
section
variable {X : Cx} {c : Fc} {tg a b e : Expr} {pos : Pos}
def qn4 (K : Fr0) (tl : TE) : TI := fun Z H R => tl Z H fun x H1 => (∃ a, x = .ref a /\ (∃ xs, SqL K H1 a xs) /\ R (Itl K a) H1) \/ (∃ a, x = .ref a /\ (∃ xs, SqT K H1 a xs) /\ R (Itt K a) H1)
theorem qhU {tl : TE} (hl : PE X e tl) : PI X tg e (qn4 X.K tl) := by
 intro pins s Z H R I h
 refine thn (hl pins s Z H _ I h) fun v s1 ⟨x, H1, I1, r1, q1⟩ => ?_
 rcases q1 with ⟨a, e, ⟨xs, hq⟩, q⟩ | ⟨a, e, ⟨xs, hq⟩, q⟩
 ·subst e
  cases r1
  obtain ⟨its, rv, p, hz⟩ := I1.list hq
  refine wpAny_pyIter_list p.isList ?_
  refine ⟨s1.heap.objs.size, [s1.heap.objs.size], _, _, H1, rfl, I1.kept (t' := s1.toks) fun b o e => Heap.get?_push_of_some _ e, qeE a _, ⟨_, Heap.get?_push_size _ rfl, rfl, rfl⟩, fun b hb => ?_, q⟩
  have e : b = s1.heap.objs.size := by simpa using hb
  subst e
  exact I1.fpOk (Nat.le_refl _) (I1.hok.fresh (Nat.le_refl _))
 ·subst e
  cases r1
  obtain ⟨its, rv, p, hz⟩ := I1.tuple hq
  refine wpAny_pyIter_tuple (show s1.heap.IsTuple a its.toArray from p) ?_
  refine ⟨s1.heap.objs.size, [s1.heap.objs.size], _, _, H1, rfl, I1.kept (t' := s1.toks) fun b o e => Heap.get?_push_of_some _ e, qdW a _, ⟨_, Heap.get?_push_size _ rfl, rfl, rfl⟩, fun b hb => ?_, q⟩
  have e : b = s1.heap.objs.size := by simpa using hb
  subst e
  exact I1.fpOk (Nat.le_refl _) (I1.hok.fresh (Nat.le_refl _))
def ql9 : D -> Option (List D)
 | .tup ds => some ds
 | .lst ds => some ds
 | .fz ns => some (ns.map .int)
 | _ => none
theorem SqL.inj {K : Fr0} {H : Hp} {a : Addr} {xs ys : List V} (h : H a = some (.lst xs)) (q : SqL K H a ys) (hk : ∀ o, K.lookup a = some o -> False) : ys = xs := by
 rcases q with (q | ⟨o, q⟩) | ⟨o, _, _, q, _⟩
 ·rw [h] at q; cases q; rfl
 ·rw [h] at q; cases q
 ·exact (hk o q).elim
theorem wW {K : Fr0} {A : Addr -> Prop} {H : Hp} : ∀ ns : List Int, IsL K A H (ns.map .int) (ns.map V.int)
 | [] => rfl
 | n :: ns => ⟨.int n, ns.map V.int, rfl, rfl, wW ns⟩
theorem qe8 {K : Fr0} {A : Addr -> Prop} {H : Hp} {ds : List D} {xs : List V} {a : Addr} (hs : ∀ H', Ext A H H' -> SqL K H' a xs) (il : IsL K A H ds xs) : qgS K A H ds (Itl K a) where
 go := fun H' i d ex hd => by
  obtain ⟨x, h1, h2⟩ := il.get hd
  exact ⟨xs, x, hs H' ex, h1⟩
 yl := fun H' i d x H'' ex hd y => by
  obtain ⟨e, y⟩ := y
  subst e
  obtain ⟨x', h1, h2⟩ := il.get hd
  have h3 := y xs (hs _ ex)
  rw [h1] at h3
  cases h3
  exact ⟨jk.refl _, Is.ext ex (fun _ h _ => h) h2⟩
 stop := fun H' ex => ⟨xs, hs H' ex, by rw [il.length]; exact Nat.le_refl _⟩
theorem qk4 {K : Fr0} {A : Addr -> Prop} {H : Hp} {ds : List D} {xs : List V} {a : Addr} (hs : qaE K H a xs) (il : IsL K A H ds xs) : qgS K A H ds (Itt K a) where
 go := fun H' i d ex hd => by
  obtain ⟨x, h1, h2⟩ := il.get hd
  exact ⟨xs, x, (hs.elim (fun h => .inl (ex.tup _ _ h)) .inr : qaE K H' a xs).sq, h1⟩
 yl := fun H' i d x H'' ex hd y => by
  obtain ⟨e, y⟩ := y
  subst e
  obtain ⟨x', h1, h2⟩ := il.get hd
  have h3 := y xs (hs.elim (fun h => .inl (ex.tup _ _ h)) .inr : qaE K _ a xs).sq
  rw [h1] at h3
  cases h3
  exact ⟨jk.refl _, Is.ext ex (fun _ h _ => h) h2⟩
 stop := fun H' ex => ⟨xs, (hs.elim (fun h => .inl (ex.tup _ _ h)) .inr : qaE K H' a xs).sq, by rw [il.length]; exact Nat.le_refl _⟩
def qcG (f : M D) : M (List D) := bnd f fun d => lift (ql9 d)
theorem qa6 {K : Fr0} {Z : St} {H : Hp} {Q : It -> Hp -> Prop} {o : Option (List D)} {U : Env} (h : WpI K c Z H Q (lift o U)) : ∃ ds, o = some ds /\ ∀ J H', Rep K c U Z H' -> qgS K (CnT c Z H') H' ds J -> Gr c.O Z H H' -> Q J H' := by
 cases o with
 | none => exact h.elim
 | some d => exact ⟨d, rfl, h⟩
theorem WpI.gr {K : Fr0} {Z : St} {H H1 : Hp} {Q : It -> Hp -> Prop} : ∀ {r : R (List D × Env)}, WpI K c Z H Q r -> Gr c.O Z H H1 -> WpI K c Z H1 Q r
 | .ok (d, U), h, g => fun v H' hr hi hg => h v H' hr hi (g.trans hg)
 | .exc x U, h, g => fun H' hr hg => h H' hr (g.trans hg)
 | .bad, h, _ => h
theorem Wp.bndI {K : Fr0} {Z : St} {H : Hp} {Q : It -> Hp -> Prop} {f : M D} {k : D -> M (List D)} {U : Env} {Q' : VK} (h : WpI K c Z H Q (Sk.bnd f k U)) (hQ : ∀ d U' v H', Rep K c U' Z H' -> Is K (Cn c Z) H' d v -> Gr c.O Z H H' -> WpI K c Z H' Q (k d U') -> Q' v H') : Wp K c Z H Q' (f U) := by
 unfold Sk.bnd at h
 cases e : f U with
 | ok p => rw [e] at h; exact fun v H' hr hi hg => hQ p.1 p.2 v H' hr hi hg (h.gr hg)
 | exc x U' => rw [e] at h; exact h
 | bad => rw [e] at h; exact h
theorem WpL.bndI {K : Fr0} {Z : St} {H : Hp} {Q : It -> Hp -> Prop} {f : M (List D)} {k : List D -> M (List D)} {U : Env} {Q' : List V -> Hp -> Prop} (h : WpI K c Z H Q (Sk.bnd f k U)) (hQ : ∀ d U' v H', Rep K c U' Z H' -> IsL K (Cn c Z) H' d v -> Gr c.O Z H H' -> WpI K c Z H' Q (k d U') -> Q' v H') : WpL K c Z H Q' (f U) := by
 unfold Sk.bnd at h
 cases e : f U with
 | ok p => rw [e] at h; exact fun v H' hr hi hg => hQ p.1 p.2 v H' hr hi hg (h.gr hg)
 | exc x U' => rw [e] at h; exact h
 | bad => rw [e] at h; exact h
theorem Is.tr {K : Fr0} {A : Addr -> Prop} {H : Hp} {d : D} {v : V} (h : Is K A H d v) : Is K (fun a => A a /\ (H a).isSome = true) H d v := Is.ext Ext.refl (fun a h1 h2 => ⟨h1, h2⟩) h
theorem wH {f : M D} (h : DE X c e f) : DI X c tg e (qcG f) := by
 obtain ⟨t, p, w⟩ := h
 refine ⟨_, qhU p, fun U Z H Q r h => w U Z H _ r (Wp.bndI h fun d U1 v H1 r1 i1 g1 h1 => ?_)⟩
 obtain ⟨ds, e, h2⟩ := qa6 h1
 have i2 : Is X.K (CnT c Z H1) H1 d v := i1.tr
 cases d <;> simp only [ql9] at e <;> try (cases e; done)
 ·cases e
  obtain ⟨a, xs, rfl, ta, il⟩ := i2
  exact .inr ⟨a, rfl, ⟨xs, ta.sq⟩, h2 _ H1 r1 (qk4 ta il) .refl⟩
 ·cases e
  obtain ⟨a, xs, rfl, hA, ta, il⟩ := i2
  exact .inl ⟨a, rfl, ⟨xs, .inl (.inl ta)⟩, h2 _ H1 r1 (qe8 (fun H' ex => .inl (.inl (ex.at_ _ _ hA ta))) il) .refl⟩
 ·cases e
  obtain ⟨a, rfl, ta⟩ := i2
  exact .inl ⟨a, rfl, ⟨_, ta.sq⟩, h2 _ H1 r1 (qe8 (fun H' ex => (ta.elim (fun ⟨o, h⟩ => .inl ⟨o, ex.frz _ _ _ h⟩) .inr : qkV X.K H' a _).sq) (wW _)) .refl⟩
def qa7 (lo : Int) (n : Nat) : List D := (List.range n).map fun i => .int (lo + (i : Nat))
theorem qk5 {K : Fr0} {A : Addr -> Prop} {H : Hp} (lo : Int) (n : Nat) : qgS K A H (qa7 lo n) (Itr lo n) where
 go := fun H' i d ex hd => by
  have : i < (qa7 lo n).length := (gI_.mp hd).1
  show i < n
  simpa [qa7] using this
 yl := fun H' i d x H'' ex hd y => by
  obtain ⟨e, y⟩ := y
  subst e
  subst y
  refine ⟨jk.refl _, ?_⟩
  unfold qa7 at hd
  rw [gM_] at hd
  cases e2 : (List.range n)[i]? with
  | none => rw [e2] at hd; cases hd
  | some j =>
   rw [e2] at hd
   have hj : j = i := by
    have := (gI_.mp e2).2
    simpa using this.symm
   subst hj
   cases hd
   rfl
 stop := fun H' ex => by show n <= (qa7 lo n).length; simp [qa7]
def qhV : List D -> Option (List D)
 | [.int j] => if decide (-(2 ^ 62) <= j) && decide (j < 2 ^ 62) then some (qa7 0 j.toNat) else none
 | _ => none
def wR (f : M (List D)) : M (List D) := bnd f fun ds => lift (qhV ds)
theorem uG {f : M (List D)} {p : Pos} (hg : Gl X "range") (hm : X.mg "range" = none) (ha : DA X c [a] f) (hs : starEach [a] X.env = [(false, eval a X.env)] := by rfl) : DI X c tg (.Call (.Name "range" p) [a] [] pos) (wR f) := by
 obtain ⟨t, p, w⟩ := ha
 refine ⟨_, qeF hg hm p hs, fun U Z H Q r h => w U Z H _ r (WpL.bndI h fun ds U1 vs H1 r1 i1 g1 h1 => ?_)⟩
 obtain ⟨es, e, h2⟩ := qa6 h1
 unfold qhV at e
 split at e
 ·rename_i j
  obtain ⟨v, rfl, e2⟩ := IsL.inv1 i1
  cases e2
  by_cases hb : (decide (-(2 ^ 62) <= j) && decide (j < 2 ^ 62)) = true
  ·rw [if_pos hb] at e
   cases e
   rw [Bool.and_eq_true] at hb
   exact ⟨j, rfl, of_decide_eq_true hb.1, of_decide_eq_true hb.2, h2 _ H1 r1 (qk5 0 _) .refl⟩
  ·rw [if_neg hb] at e
   cases e
 ·cases e
def jV (g : D -> Env -> Option Env) (b : MS) : List D -> MS
 | [], U => .ok (.nx U)
 | d :: ds, U => match g d U with
  | none => .bad
  | some U1 => match b U1 with
   | .ok (.nx U2) => jV g b ds U2
   | .ok (.ct U2) => jV g b ds U2
   | .ok (.bk U2) => .ok (.nx U2)
   | .ok (.rt r U2) => .ok (.rt r U2)
   | .exc x U2 => .exc x U2
   | .bad => .bad
def qcw (f : M (List D)) (g : D -> Env -> Option Env) (b : MS) : MS := sbnd f fun ds => jV g b ds
theorem WpI.sbnd {K : Fr0} {Z : St} {H : Hp} {D' : qeB} {f : M (List D)} {k : List D -> MS} {U : Env} {Q' : It -> Hp -> Prop} (h : WpS K c Z H D' (Sk.sbnd f k U))
  (hQ : ∀ ds U' J H', Rep K c U' Z H' -> qgS K (CnT c Z H') H' ds J -> Gr c.O Z H H' -> WpS K c Z H' D' (k ds U') -> Q' J H') : WpI K c Z H Q' (f U) := by
 unfold Sk.sbnd at h
 cases e : f U with
 | ok p => rw [e] at h; exact fun v H' hr hi hg => hQ p.1 p.2 v H' hr hi hg (h.gr hg.s)
 | exc x U' => rw [e] at h; exact fun H' hr hg => h Z H' hr hg.s
 | bad => rw [e] at h; exact h
theorem GrS.extT {Z Z' : St} {H H' : Hp} (g : GrS c.O Z H Z' H') : Ext (CnT c Z H) H H' := ⟨g.ext.tup, g.ext.frz, fun b o hb h => g.ext.at_ b o hb.1.2 h⟩
theorem GrS.cnT {Z Z' : St} {H H' : Hp} (g : GrS c.O Z H Z' H') {a : Addr} (h : CnT c Z H a) : Cn c Z' a := ⟨h.1.1, g.cl a h.1.2 h.2⟩
theorem uU {α : Type} {l : List α} {i : Nat} (h : i < l.length) : l.drop i = l[i] :: l.drop (i + 1) := List.drop_eq_getElem_cons h
theorem uH {it : Expr} {body : List Stmt} {f : M (List D)} {g : D -> Env -> Option Env} {b : MS} (hp : PassesOwn (model X.prog X.w) X.A X.env X.xe) (hc : X.calm = true) (hi : DI X c tg it f) (hg : DG X c tg g) (hb : DSs X c body b)
  (hs : ∀ x, foldedSetIterable it X.env x = pure x := by intro _; rfl) : DS X c (.For tg it body [] pos) (qcw f g b) := by
 obtain ⟨wi, pi, wI⟩ := hi
 obtain ⟨tg', pg, wg⟩ := hg
 obtain ⟨tb, pb, wb⟩ := hb
 refine ⟨_, qhJ hp hc pi pg pb hs, fun U Z H D' r h => wI U Z H _ r (WpI.sbnd h fun ds U1 J H1 r1 iok g1 h1 => ?_)⟩
 refine ⟨fun i m Z' H' => m = ds.length - i /\ i <= ds.length /\ ∃ U', Rep X.K c U' Z' H' /\ GrS c.O Z H1 Z' H' /\ WpS X.K c Z' H' D' (jV g b (ds.drop i) U'), ⟨ds.length, by simp, Nat.zero_le _, U1, r1, .refl, by simpa using h1⟩, ?_⟩
 rintro i m Z' H' ⟨rfl, hi, U', r', gs, w⟩
 by_cases hlt : i < ds.length
 ·refine .inr ⟨iok.go H' i ds[i] gs.extT (by simp [hlt]), fun Z2 H2 => ∃ U2, Rep X.K c U2 Z2 H2 /\ GrS c.O Z H1 Z2 H2 /\ WpS X.K c Z2 H2 D' (jV g b (ds.drop (i + 1)) U2), fun Z2 H2 n => ⟨ds.length - (i + 1), by omega, rfl, hlt, n⟩, fun x H'' y => ?_⟩
  obtain ⟨sm, ix⟩ := iok.yl H' i ds[i] x H'' gs.extT (by simp [hlt]) y
  rw [uU hlt] at w
  unfold jV at w
  have gs2 : GrS c.O Z H1 Z' H'' := gs.trans (Gr.of_same sm).s
  have ix2 : Is X.K (Cn c Z') H'' ds[i] x := Is.ext Ext.refl (fun a ha _ => gs2.cnT ha) ix
  cases e1 : g ds[i] U' with
  | none => simp only [e1] at w; exact w.elim
  | some U2 =>
   simp only [e1] at w
   refine wg U' Z' H'' ds[i] x U2 _ (r'.same sm) ix2 e1 fun Z2 r2 g2 _ => wb U2 Z2 H'' _ r2 ?_
   have w2 := w.gr ((Gr.of_same sm).s.trans g2)
   have gs3 : GrS c.O Z H1 Z2 H'' := gs2.trans g2
   cases e2 : b U2 with
   | ok fl =>
    cases fl with
    | nx U3 => simp only [e2] at w2; exact fun Z3 H3 r3 g3 => ⟨U3, r3, gs3.trans g3, w2.gr g3⟩
    | ct U3 => simp only [e2] at w2; exact fun Z3 H3 r3 g3 => ⟨U3, r3, gs3.trans g3, w2.gr g3⟩
    | bk U3 => simp only [e2] at w2; exact w2
    | rt d U3 => simp only [e2] at w2; exact w2
   | exc x U3 => simp only [e2] at w2; exact w2
   | bad => simp only [e2] at w2; exact w2
 ·have hie : i = ds.length := by omega
  subst hie
  rw [List.drop_of_length_le (Nat.le_refl _)] at w
  exact .inl ⟨iok.stop H' gs.extT, w Z' H' r' .refl⟩
end
def cin (B0 : Addr -> Prop) (H1 : Hp) (O' : List Nat) (Io' : Addr -> Prop) (acc : Addr) (S' : Nat -> Option (Option V)) : Fc where
 O := O'
 P := O'
 B := fun a => B0 a /\ a ≠ acc
 H0 := upd H1 acc (.lst [])
 Io := fun a => Io' a \/ a = acc
 E := fun _ _ => False
 S := S'
def zI (g : D -> Env -> Option Env) (t : M Bool) (e : M D) : List D -> List D -> Env -> R (List D × Env)
 | [], acc, U => .ok (acc, U)
 | d :: ds, acc, U => match g d U with
  | none => .bad
  | some U1 => match t U1 with
   | .ok (true, U2) => match e U2 with
    | .ok (y, U3) => if qQ (acc.length + 1) then zI g t e ds (acc ++ [y]) U3 else .bad
    | _ => .bad
   | .ok (false, U2) => zI g t e ds acc U2
   | _ => .bad
def jS (nt : Nat) (fr : List Nat) (U : Env) : Env := List.replicate nt none ++ fr.map fun j => (U[j]?).join
def qgT (fo : Option (Nat × Nat)) (Ue U : Env) : Env := match fo with
 | none => U
 | some (i, j) => U.set j (Ue[i]?).join
def qbV (nt : Nat) (fr : List Nat) (fo : Option (Nat × Nat)) (f : M (List D)) (g : D -> Env -> Option Env) (t : M Bool) (e : M D) : M D := bnd f fun ds U => match zI g t e ds [] (jS nt fr U) with
 | .ok (ys, Ue) => .ok (.lst ys, qgT fo Ue U)
 | _ => .bad
def DF (X : Cx) (c : Fc) (ifs : List Expr) (f : M Bool) : Prop := ∃ t, PF X ifs t /\ ∀ U Z H Q, Rep X.K c U Z H -> WpB X.K c Z H Q (f U) -> t Z H Q
def foO (fo : Option (Nat × Nat)) : List Nat := match fo with
 | none => []
 | some (i, _) => [i]
section
variable {X : Cx} {c : Fc} {tg a b e : Expr} {pos : Pos}
theorem qk6 : DF X c [] (ret true) := ⟨_, qk2, fun U Z H Q r h => h H r .refl⟩
theorem qhW {f : M Bool} (h : DT X c e f) : DF X c [e] f := by
 obtain ⟨t, p, w⟩ := h
 exact ⟨_, qk3 p, w⟩
theorem WpI.bnd {K : Fr0} {Z : St} {H : Hp} {Q : VK} {f : M (List D)} {k : List D -> M D} {U : Env} {Q' : It -> Hp -> Prop} (h : Wp K c Z H Q (Sk.bnd f k U))
  (hQ : ∀ ds U' J H', Rep K c U' Z H' -> qgS K (CnT c Z H') H' ds J -> Gr c.O Z H H' -> Wp K c Z H' Q (k ds U') -> Q' J H') : WpI K c Z H Q' (f U) := by
 unfold Sk.bnd at h
 cases e : f U with
 | ok p => rw [e] at h; exact fun v H' hr hi hg => hQ p.1 p.2 v H' hr hi hg (h.gr hg)
 | exc x U' => rw [e] at h; exact h
 | bad => rw [e] at h; exact h
theorem Rep.grow {K : Fr0} {B0 : Addr -> Prop} {H1 : Hp} {O' : List Nat} {Io' : Addr -> Prop} {acc : Addr} {S' : Nat -> Option (Option V)} {U : Env} {Z : St} {H : Hp} {xs ys : List V} (r : Rep K (cin B0 H1 O' Io' acc S') U Z H) (h : H acc = some (.lst xs)) (ho : ∀ j ∈ O', Z[j]? ≠ some (some (.ref acc))) :
  Rep K (cin B0 H1 O' Io' acc S') U Z (upd H acc (.lst ys)) := by
 have ext : Ext (fun a => a ≠ acc) H (upd H acc (.lst ys)) := ⟨fun b zs hb => by rw [qp (vC hb h (by intro z; cases z))]; exact hb, fun b o u hb => by rw [qp (vC hb h (by intro z; cases z))]; exact hb, fun b o hb hq => by rw [qp hb]; exact hq⟩
 have cnext : Ext (Cn (cin B0 H1 O' Io' acc S') Z) H (upd H acc (.lst ys)) := ⟨ext.tup, ext.frz, fun b o hb hq => ext.at_ b o hb.1.2 hq⟩
 refine ⟨r.len, fun i d hd => ?_, fun j hj v hv => ?_, r.inj, r.b0, fun b o hb hio => ?_, fun b hb => ?_, r.pO, r.ps⟩
 ·obtain ⟨v, h1, h2⟩ := r.val i d hd
  refine ⟨v, h1, ?_⟩
  rcases h2 with ⟨hi, ds, a, zs, h3, h5, h6, h7⟩ | ⟨hi, h3⟩
  ·subst h5
   have ne : a ≠ acc := fun e => ho i hi (by rw [h1, e])
   exact .inl ⟨hi, ds, a, zs, h3, rfl, by rw [qp ne]; exact h6, IsL.ext cnext (fun _ h _ => h) h7⟩
  ·exact .inr ⟨hi, Is.ext cnext (fun _ h _ => h) h3⟩
 ·obtain ⟨a, zs, h1, h2, h3⟩ := r.own j hj v hv
  subst h1
  have ne : a ≠ acc := fun e => ho j hj (by rw [hv, e])
  exact ⟨a, zs, rfl, by rw [qp ne]; exact h2, h3⟩
 ·have ne : b ≠ acc := fun e => hio (.inr e)
  rw [qp ne]
  exact r.kp b o hb hio
 ·by_cases e : b = acc
  ·subst e; rw [qt] at hb; cases hb
  ·rw [qp e] at hb; exact r.dm b hb
theorem vI {α : Type} {o : Option (Option α)} {a : α} (h : o.join = some a) : o = some (some a) := by
 cases o with
 | none => cases h
 | some x => have : x = some a := h; rw [this]
def qgU (c : Fc) (nt : Nat) (fr : List Nat) (fo : Option (Nat × Nat)) : Prop := match fo with
 | none => ∀ j ∈ fr, j ∉ c.O
 | some (i, j) => j ∈ c.O /\ nt <= i /\ fr[i - nt]? = some j /\ ∀ k j', fr[k]? = some j' -> nt + k ≠ i -> j' ∉ c.O
def wX (Z : St) (fo : Option (Nat × Nat)) (a : Addr) : Prop := match fo with
 | none => False
 | some (_, j) => Z[j]? = some (some (.ref a))
theorem v4 {nt : Nat} {fr : List Nat} {Z : St} {k j : Nat} (h : fr[k]? = some j) : (qB nt fr Z)[nt + k]? = some (Z[j]?).join := by
 unfold qB
 rw [List.getElem?_append_right (by simp), List.length_replicate, gM_, show nt + k - nt = k by omega, h]
 rfl
theorem qd3 {nt : Nat} {fr : List Nat} {U : Env} {i : Nat} {d : D} (hd : (jS nt fr U)[i]? = some (some d)) : ∃ k j, i = nt + k /\ fr[k]? = some j /\ U[j]? = some (some d) := by
 have hi : nt <= i := by
  apply Nat.le_of_not_lt
  intro hlt
  unfold jS at hd
  rw [List.getElem?_append_left (by simpa using hlt), List.getElem?_replicate] at hd
  split at hd <;> cases hd
 unfold jS at hd
 rw [List.getElem?_append_right (by simpa using hi), List.length_replicate, gM_] at hd
 cases ej : fr[i - nt]? with
 | none => rw [ej] at hd; cases hd
 | some j =>
  rw [ej] at hd
  exact ⟨i - nt, j, by omega, ej, vI (by simpa using hd)⟩
theorem jw {nt : Nat} {fr : List Nat} {Z : St} {i : Nat} {d : V} (hd : (qB nt fr Z)[i]? = some (some d)) : ∃ k j, i = nt + k /\ fr[k]? = some j /\ Z[j]? = some (some d) := by
 have hi : nt <= i := by
  apply Nat.le_of_not_lt
  intro hlt
  unfold qB at hd
  rw [List.getElem?_append_left (by simpa using hlt), List.getElem?_replicate] at hd
  split at hd <;> cases hd
 unfold qB at hd
 rw [List.getElem?_append_right (by simpa using hi), List.length_replicate, gM_] at hd
 cases ej : fr[i - nt]? with
 | none => rw [ej] at hd; cases hd
 | some j =>
  rw [ej] at hd
  exact ⟨i - nt, j, by omega, ej, vI (by simpa using hd)⟩
theorem Rep.entry {K : Fr0} {nt : Nat} {fr : List Nat} {fo : Option (Nat × Nat)} {acc : Addr} {U : Env} {Z : St} {H : Hp} (r : Rep K c U Z H) (hn : H acc = none) (hfo : qgU c nt fr fo) :
  Rep K (cin (Cn c Z) H (foO fo) (wX Z fo) acc fun j => (qB nt fr Z)[j]?) (jS nt fr U) (qB nt fr Z) (upd H acc (.lst [])) := by
 have sm : jk H (upd H acc (.lst [])) := qD hn _
 have ownI : ∀ i ∈ foO fo, ∀ v, (qB nt fr Z)[i]? = some (some v) -> ∃ j, fo = some (i, j) /\ j ∈ c.O /\ Z[j]? = some (some v) := fun i hi v hv => by
  cases fo with
  | none => cases hi
  | some p =>
   obtain ⟨i', j'⟩ := p
   have e : i = i' := by simpa [foO] using hi
   subst e
   obtain ⟨h1, h2, h3, h4⟩ := hfo
   obtain ⟨k, j, e1, e2, e3⟩ := jw hv
   have hk : k = i - nt := by omega
   subst hk
   rw [h3] at e2
   cases e2
   exact ⟨j', rfl, h1, e3⟩
 have clI : ∀ a, Cl c.O Z a -> Cl (foO fo) (qB nt fr Z) a := fun a ha i hi e => by
  obtain ⟨j, _, hj, e2⟩ := ownI i hi _ e
  exact ha j hj e2
 refine ⟨by simp [jS, qB], fun i d hd => ?_, fun i hi v hv => ?_, fun i j a hi hj h1 h2 => ?_, ⟨fun a ha => ?_, fun q P pos eP => ?_⟩, fun b o hb hio => ?_, fun b hb => ?_, fun _ h => h, fun _ _ => rfl⟩
 ·obtain ⟨k, j, e1, e2, e3⟩ := qd3 hd
  subst e1
  by_cases hO : nt + k ∈ foO fo
  ·obtain ⟨v, hv⟩ : ∃ v, Z[j]? = some (some v) := by
    obtain ⟨v, h1, _⟩ := r.val j d e3
    exact ⟨v, h1⟩
   have hc : (qB nt fr Z)[nt + k]? = some (some v) := by rw [v4 e2, hv]; rfl
   obtain ⟨j', f1, f2, f3⟩ := ownI _ hO v hc
   subst f1
   obtain ⟨g1, g2, g3, g4⟩ := hfo
   rw [show nt + k - nt = k by omega, e2] at g3
   cases g3
   obtain ⟨ds, a, xs, h1, h3, h4, h5⟩ := r.getO g1 e3
   rw [hv] at h3
   cases h3
   exact ⟨.ref a, hc, .inl ⟨hO, ds, a, xs, h1, rfl, sm _ _ h4, IsL.ext (Ext.of_same sm) (fun b hb hs => ⟨⟨hb, fun e => by subst e; rw [hn] at hs; cases hs⟩, clI b hb.2⟩) h5⟩⟩
  ·have hj : j ∉ c.O := by
    cases fo with
    | none => exact hfo j (List.mem_of_getElem? e2)
    | some p =>
     obtain ⟨i', j'⟩ := p
     exact hfo.2.2.2 k j e2 (fun e => hO (by simp [foO, e]))
   obtain ⟨v, h1, h2⟩ := r.get hj e3
   refine ⟨v, by rw [v4 e2, h1]; rfl, .inr ⟨hO, ?_⟩⟩
   refine Is.ext (Ext.of_same sm) (fun a ha hs => ⟨⟨ha, fun e => ?_⟩, clI a ha.2⟩) h2
   subst e; rw [hn] at hs; cases hs
 ·obtain ⟨j, f1, f2, f3⟩ := ownI i hi v hv
  obtain ⟨a, xs, h1, h2, h3⟩ := r.own j f2 v f3
  subst h1 f1
  exact ⟨a, xs, rfl, sm _ _ h2, .inr ⟨hi, .inl f3⟩⟩
 ·cases fo with
  | none => cases hi
  | some p =>
   obtain ⟨i', j'⟩ := p
   have e : i = i' := by simpa [foO, cin] using hi
   have e2 : j = i' := by simpa [foO, cin] using hj
   rw [e, e2]
 ·have ha' : upd H acc (.lst []) a = none := ha
  by_cases e : a = acc
  ·subst e; rw [qt] at ha'; cases ha'
  ·rw [qp e] at ha'; exact ⟨r.new ha', e⟩
 ·have hP := (r.tb q P pos eP).1
  refine ⟨sm _ _ hP, fun z => ?_⟩
  rcases z with z | z
  ·cases fo with
   | none => exact z
   | some p =>
    obtain ⟨b, xs, e1, e2, _⟩ := r.own _ hfo.1 _ z
    cases e1
    rw [hP] at e2; cases e2
  ·rw [z, hn] at hP; cases hP
 ·exact hb
 ·exact hb
theorem Rep.leave {K : Fr0} {nt : Nat} {fr : List Nat} {fo : Option (Nat × Nat)} {acc : Addr} {U Ue : Env} {Z Ze : St} {H H' : Hp} (r : Rep K c U Z H) (hn : H acc = none) (hfo : qgU c nt fr fo) (hf : ∀ i j, fo = some (i, j) -> Ze[i]? = (qB nt fr Z)[i]?)
  (q : Rep K (cin (Cn c Z) H (foO fo) (wX Z fo) acc fun j => (qB nt fr Z)[j]?) Ue Ze H') : Rep K c (qgT fo Ue U) Z H' /\ Gr c.O Z H H' := by
 have kp : ∀ b o, H b = some o -> ¬ wX Z fo b -> H' b = some o := fun b o hb hio => q.kp b o (by show upd H acc (.lst []) b = some o; rw [qp (qH hb hn)]; exact hb) fun z => z.elim hio fun e => absurd e (qH hb hn)
 have clean : ∀ b, Cl c.O Z b -> ¬ wX Z fo b := fun b hb hio => by
  cases fo with
  | none => exact hio
  | some p => exact hb p.2 hfo.1 hio
 have dom : ∀ b, H' b = none -> H b = none := fun b hb => by
  have := q.dm b hb
  by_cases e : b = acc
  ·subst e; exact hn
  ·have this : upd H acc (.lst []) b = none := this
   rw [qp e] at this; exact this
 have notT : ∀ b xs, H b = some (.tup xs) -> ¬ wX Z fo b := fun b xs hb hio => by
  cases fo with
  | none => exact hio
  | some p =>
   obtain ⟨a, ys, e1, e2, _⟩ := r.own p.2 hfo.1 _ hio
   cases e1; rw [hb] at e2; cases e2
 have notF : ∀ b o u, H b = some (.frz o u) -> ¬ wX Z fo b := fun b o u hb hio => by
  cases fo with
  | none => exact hio
  | some p =>
   obtain ⟨a, ys, e1, e2, _⟩ := r.own p.2 hfo.1 _ hio
   cases e1; rw [hb] at e2; cases e2
 have gr : Gr c.O Z H H' := ⟨⟨fun b xs hb => kp b _ hb (notT b xs hb), fun b o u hb => kp b _ hb (notF b o u hb), fun b o hc hb => kp b o hb (clean b hc)⟩, dom⟩
 refine ⟨⟨?_, fun k d hd => ?_, fun j hj v hv => ?_, r.inj, r.b0, fun b o hb hio => ?_, fun b hb => r.dm b (dom b hb), r.pO, r.ps⟩, gr⟩
 ·cases fo with
  | none => exact r.len
  | some p => show (U.set _ _).length = _; rw [lS_]; exact r.len
 ·-- an old slot, or the one that came qgT
  have oldSlot : U[k]? = some (some d) -> (∀ i, fo ≠ some (i, k)) -> ∃ v, Z[k]? = some (some v) /\ ((k ∈ c.O /\ ∃ ds a xs, d = .lst ds /\ v = .ref a /\ H' a = some (.lst xs) /\ IsL K (Cn c Z) H' ds xs) \/ (k ∉ c.O /\ Is K (Cn c Z) H' d v)) := fun hk hne => by
   obtain ⟨v, h1, h2⟩ := r.val k d hk
   refine ⟨v, h1, ?_⟩
   rcases h2 with ⟨hi, ds, a, xs, h3, h5, h6, h7⟩ | ⟨hi, h3⟩
   ·subst h5
    refine .inl ⟨hi, ds, a, xs, h3, rfl, kp a _ h6 (fun hio => ?_), gr.isL h7⟩
    cases fo with
    | none => exact hio
    | some p =>
     obtain ⟨i', j'⟩ := p
     have e := r.inj k j' a hi hfo.1 h1 hio
     exact hne i' (by rw [e])
   ·exact .inr ⟨hi, gr.is h3⟩
  cases fo with
  | none => exact oldSlot hd (fun i e => by cases e)
  | some p =>
   obtain ⟨i', j'⟩ := p
   have hd' : (U.set j' (Ue[i']?).join)[k]? = some (some d) := hd
   by_cases e : k = j'
   ·subst e
    have hl : k < U.length := by
     have := (gI_.mp hd').1
     rwa [lS_] at this
    rw [List.getElem?_set_self hl] at hd'
    have he : Ue[i']? = some (some d) := vI (Option.some.inj hd')
    obtain ⟨ds, a, xs, h1, h3, h4, h5⟩ := q.getO (show i' ∈ foO (some (i', k)) by simp [foO]) he
    have h3' := hf i' k rfl
    rw [h3] at h3'
    obtain ⟨k2, j2, e1, e2, e3⟩ := jw h3'.symm
    have hk2 : k2 = i' - nt := by omega
    subst hk2
    rw [hfo.2.2.1] at e2
    cases e2
    exact ⟨.ref a, e3, .inl ⟨hfo.1, ds, a, xs, h1, rfl, h4, IsL.ext Ext.refl (fun b hb _ => hb.1.1) h5⟩⟩
   ·rw [zt e] at hd'
    exact oldSlot hd' (fun i e2 => e (by cases e2; rfl))
 ·obtain ⟨a, xs, h1, h2, h3⟩ := r.own j hj v hv
  subst h1
  by_cases hio : wX Z fo a
  ·cases fo with
   | none => exact hio.elim
   | some p =>
    obtain ⟨i', j'⟩ := p
    have hc : (qB nt fr Z)[i']? = some (some (.ref a)) := by
     have := v4 (Z := Z) (nt := nt) hfo.2.2.1
     rw [show nt + (i' - nt) = i' by have := hfo.2.1; omega] at this
     rw [this]
     have hio' : Z[j']? = some (some (.ref a)) := hio
     rw [hio']; rfl
    have h3' := hf i' j' rfl
    rw [hc] at h3'
    obtain ⟨a', ys, e1, e2, _⟩ := q.own i' (by simp [foO, cin]) _ h3'
    cases e1
    exact ⟨a, ys, rfl, e2, h3⟩
  ·exact ⟨a, xs, rfl, kp a _ h2 hio, h3⟩
 ·by_cases hio2 : wX Z fo b
  ·cases fo with
   | none => exact hio2.elim
   | some p =>
    obtain ⟨a, ys, e1, e2, e3⟩ := r.own p.2 hfo.1 _ hio2
    cases e1
    rcases e3 with e3 | e3
    ·rw [hb] at e3; cases e3
    ·exact absurd e3.2 hio
  ·exact kp b o (r.kp b o hb hio) hio2
theorem qiW {it elt : Expr} {ifs : List Expr} {scope : Scope} {N' : List Str} {nt : Nat} {fr : List Nat} {fo : Option (Nat × Nat)} {f : M (List D)} {g : D -> Env -> Option Env} {t : M Bool} {k : M D} (hc : X.calm = true) (hi : DI X c tg it f) (S : CompScope X scope N' nt fr)
  (hfo : qgU c nt fr fo)
  (hb : ∀ fp cl C s₀ H₀ pn B0 H1 Io' acc S', DG (zH X scope N' fp cl C s₀ H₀ pn) (cin B0 H1 (foO fo) Io' acc S') tg g /\ DF (zH X scope N' fp cl C s₀ H₀ pn) (cin B0 H1 (foO fo) Io' acc S') ifs t /\ DE (zH X scope N' fp cl C s₀ H₀ pn) (cin B0 H1 (foO fo) Io' acc S') elt k)
  (hs : ∀ x, foldedSetIterable it X.env x = pure x := by intro _; rfl) : DE X c (.ListComp elt [⟨tg, it, ifs, 0⟩] scope pos) (qbV nt fr fo f g t k) := by
 obtain ⟨wi, pi, wI⟩ := hi
 refine ⟨_, qiV hc pi S hs, fun U Z H Q r h => wI U Z H _ r (WpI.bnd h fun ds U1 J H1 r1 iok g1 h1 => ?_)⟩
 intro acc fp cl C s₀ H₀ pn hn
 obtain ⟨⟨tg', pg, wg⟩, ⟨tt, pt, wt⟩, ⟨te, pe, we⟩⟩ := hb fp cl C s₀ H₀ pn (Cn c Z) H1 (wX Z fo) acc fun j => (qB nt fr Z)[j]?
 refine ⟨tg', tt, te, pg, pt, pe, ?_⟩
 cases ew : zI g t k ds [] (jS nt fr U1) with
 | exc x U' => rw [ew] at h1; exact h1.elim
 | bad => rw [ew] at h1; exact h1.elim
 | ok p =>
  rw [ew] at h1
  obtain ⟨ys, Ue⟩ := p
  have h1 : ∀ v H', Rep X.K c (qgT fo Ue U1) Z H' -> Is X.K (Cn c Z) H' (.lst ys) v -> Gr c.O Z H1 H' -> Q v H' := h1
  have accO : ∀ j ∈ foO fo, (qB nt fr Z)[j]? ≠ some (some (.ref acc)) := fun j hj e => by
   have r0 := r1.entry (acc := acc) hn hfo
   cases fo with
   | none => cases hj
   | some p =>
    obtain ⟨i', j'⟩ := p
    have e2 : j = i' := by simpa [foO] using hj
    subst e2
    obtain ⟨k2, j2, e1, e2, e3⟩ := jw e
    have hk2 : k2 = j - nt := by omega
    subst hk2
    rw [hfo.2.2.1] at e2
    cases e2
    obtain ⟨a, us, e4, e5, _⟩ := r1.own j' hfo.1 _ e3
    cases e4; rw [hn] at e5; cases e5
  refine ⟨fun i m Z' H' => m = ds.length - i /\ i <= ds.length /\ ∃ U' zs xs, Rep X.K (cin (Cn c Z) H1 (foO fo) (wX Z fo) acc fun j => (qB nt fr Z)[j]?) U' Z' H' /\ (∀ j ∈ foO fo, Z'[j]? = (qB nt fr Z)[j]?) /\ H' acc = some (.lst xs) /\ IsL X.K (Cn (cin (Cn c Z) H1 (foO fo) (wX Z fo) acc fun j => (qB nt fr Z)[j]?) Z') H' zs xs /\ zI g t k (ds.drop i) zs U' = .ok (ys, Ue),
   ⟨ds.length, by simp, Nat.zero_le _, jS nt fr U1, [], [], r1.entry hn hfo, fun _ _ => rfl, qt, rfl, by simpa using ew⟩, ?_⟩
  rintro i m Z' H' ⟨rfl, hi, U', zs, xs, r', so, ha, iz, w⟩
  obtain ⟨_, gr⟩ := r1.leave hn hfo (fun i j e => so i (by rw [e]; simp [foO])) r'
  have ex : Ext (CnT c Z H1) H1 H' := ⟨gr.ext.tup, gr.ext.frz, fun b o hb hq => gr.ext.at_ b o hb.1.2 hq⟩
  have accC : ∀ τ : St, (∀ j ∈ foO fo, τ[j]? = (qB nt fr Z)[j]?) -> Cl (foO fo) τ acc := fun τ hτ j hj e => accO j hj (by rw [<- hτ j hj]; exact e)
  by_cases hlt : i < ds.length
  ·refine .inr ⟨iok.go H' i ds[i] ex (by simp [hlt]), fun x H'' y => ?_⟩
   obtain ⟨sm, ix⟩ := iok.yl H' i ds[i] x H'' ex (by simp [hlt]) y
   rw [uU hlt] at w
   unfold zI at w
   have ix2 : Is X.K (Cn (cin (Cn c Z) H1 (foO fo) (wX Z fo) acc fun j => (qB nt fr Z)[j]?) Z') H'' ds[i] x := Is.ext Ext.refl (fun a ha _ => ⟨⟨ha.1, fun e => by
    have := ha.2
    rw [e, hn] at this; cases this⟩, fun j hj e => by
     rw [so j hj] at e
     cases fo with
     | none => cases hj
     | some p =>
      obtain ⟨i', j'⟩ := p
      have e2 : j = i' := by simpa [foO, cin] using hj
      subst e2
      obtain ⟨k2, j2, e1, e2, e3⟩ := jw e
      have hk2 : k2 = j - nt := by omega
      subst hk2
      rw [hfo.2.2.1] at e2
      cases e2
      exact ha.1.2 j' hfo.1 e3⟩) ix
   cases e1 : g ds[i] U' with
   | none => simp only [e1] at w; cases w
   | some U2 =>
    simp only [e1] at w
    refine wg U' Z' H'' ds[i] x U2 _ (r'.same sm) ix2 e1 fun Z2 r2 g2 o2 => ?_
    have so2 : ∀ j ∈ foO fo, Z2[j]? = (qB nt fr Z)[j]? := fun j hj => (o2 j hj).trans (so j hj)
    have ha2 : H'' acc = some (.lst xs) := sm _ _ ha
    have iz2 := g2.isL (IsL.ext (Ext.of_same sm) (fun _ h _ => h) iz)
    cases e2 : t U2 with
    | exc x U3 => simp only [e2] at w; cases w
    | bad => simp only [e2] at w; cases w
    | ok p2 =>
     obtain ⟨bb, U3⟩ := p2
     refine wt U2 Z2 H'' _ r2 ?_
     rw [e2]
     intro H3 r3 g3
     have ha3 : H3 acc = some (.lst xs) := g3.ext.at_ _ _ (accC Z2 so2) ha2
     have iz3 := g3.isL iz2
     cases bb with
     | false =>
      rw [if_neg Bool.false_ne_true]
      simp only [e2] at w
      exact ⟨ds.length - (i + 1), by omega, rfl, hlt, U3, zs, xs, r3, so2, ha3, iz3, w⟩
     | true =>
      rw [if_pos rfl]
      simp only [e2] at w
      cases e3 : k U3 with
      | exc x U4 => simp only [e3] at w; cases w
      | bad => simp only [e3] at w; cases w
      | ok p3 =>
       obtain ⟨d4, U4⟩ := p3
       simp only [e3] at w
       refine we U3 Z2 H3 _ r3 ?_
       rw [e3]
       intro y4 H4 r4 i4 g4
       have ha4 : H4 acc = some (.lst xs) := g4.ext.at_ _ _ (accC Z2 so2) ha3
       have hsz : qQ (zs.length + 1) = true := by
        cases e5 : qQ (zs.length + 1) with
        | true => rfl
        | false => rw [e5] at w; simp at w
       rw [if_pos hsz] at w
       have hsz' : zs.length + 1 <= sizeLine := of_decide_eq_true hsz
       have r5 := r4.grow (ys := xs ++ [y4]) ha4 (fun j hj e => accC Z2 so2 j hj e)
       have ext5 : Ext (Cn (cin (Cn c Z) H1 (foO fo) (wX Z fo) acc fun j => (qB nt fr Z)[j]?) Z2) H4 (upd H4 acc (.lst (xs ++ [y4]))) := ⟨fun b us hb => by rw [qp (vC hb ha4 (by intro z; cases z))]; exact hb, fun b o u hb => by rw [qp (vC hb ha4 (by intro z; cases z))]; exact hb, fun b o hb hq => by rw [qp hb.1.2]; exact hq⟩
       refine ⟨xs, ha4, by rw [iz3.length]; omega, ds.length - (i + 1), by omega, rfl, hlt, U4, zs ++ [d4], xs ++ [y4], r5, so2, qt, ?_, w⟩
       exact IsL.append (IsL.ext ext5 (fun _ h _ => h) (g4.isL iz3)) (IsL.one (Is.ext ext5 (fun _ h _ => h) i4))
  ·have hie : i = ds.length := by omega
   subst hie
   rw [List.drop_of_length_le (Nat.le_refl _)] at w
   unfold zI at w
   cases w
   obtain ⟨r6, g6⟩ := r1.leave hn hfo (fun i j e => so i (by rw [e]; simp [foO])) r'
   exact .inl ⟨iok.stop H' ex, h1 _ H' r6 ⟨acc, xs, rfl, r1.new hn, ha, IsL.ext Ext.refl (fun a ha hs => ha.1.1) iz⟩ g6⟩
end
theorem Rep.io {K : Fr0} {c : Fc} {U : Env} {Z : St} {H H' : Hp} {i : Nat} {a : Addr} {bs : List D} {xs : List V} (r : Rep K c U Z H) (hi : i ∈ c.O) (hs : Z[i]? = some (some (.ref a))) (kp : ∀ b o, b ≠ a -> H b = some o -> H' b = some o)
  (ha : H' a = some (.lst xs)) (him : True) (il : IsL K (Cn c Z) H' bs xs) (dm : ∀ b, H' b = none -> H b = none) : Rep K c (U.set i (some (.lst bs))) Z H' /\ Gr c.O Z H H' := by
 obtain ⟨a', xs0, e0, h0, hown⟩ := r.own i hi _ hs
 cases e0
 have gr : Gr c.O Z H H' := ⟨⟨fun b us hb => kp b _ (vC hb h0 (by intro z; cases z)) hb, fun b o u hb => kp b _ (vC hb h0 (by intro z; cases z)) hb, fun b o hc hb => kp b o (fun e => hc i hi (by rw [hs, e])) hb⟩, dm⟩
 refine ⟨⟨by rw [lS_]; exact r.len, fun k d hk => ?_, fun j hj v hv => ?_, r.inj, r.b0, fun b o hb hio => ?_, fun b hb => r.dm b (dm b hb), r.pO, r.ps⟩, gr⟩
 ·by_cases e : k = i
  ·subst e
   have hl : k < U.length := by
    have := (gI_.mp hk).1
    rwa [lS_] at this
   rw [List.getElem?_set_self hl] at hk
   cases hk
   exact ⟨.ref a, hs, .inl ⟨hi, bs, a, xs, rfl, rfl, ha, il⟩⟩
  ·rw [zt e] at hk
   obtain ⟨v, h1, h2⟩ := r.val k d hk
   refine ⟨v, h1, ?_⟩
   rcases h2 with ⟨hk2, ds, b, ys, h3, h5, h6, h7⟩ | ⟨hk2, h3⟩
   ·subst h5
    have ne : b ≠ a := fun e2 => e (r.inj k i a hk2 hi (by rw [h1, e2]) hs)
    exact .inl ⟨hk2, ds, b, ys, h3, rfl, kp b _ ne h6, gr.isL h7⟩
   ·exact .inr ⟨hk2, gr.is h3⟩
 ·obtain ⟨b, ys, h1, h2, h3⟩ := r.own j hj v hv
  subst h1
  by_cases e : b = a
  ·subst e; exact ⟨b, xs, rfl, ha, h3⟩
  ·exact ⟨b, ys, rfl, kp b _ e h2, h3⟩
 ·have ne : b ≠ a := fun e => by
   subst e
   rcases hown with z | z
   ·rw [hb] at z; cases z
   ·exact hio z.2
  exact kp b o ne (r.kp b o hb hio)
def zJ (i : Nat) (U : Env) : Option (List D) := match U[i]? with
 | some (some (.lst ds)) => some ds
 | _ => none
theorem qe9 {i : Nat} {U : Env} {ds : List D} (h : zJ i U = some ds) : U[i]? = some (some (.lst ds)) := by
 unfold zJ at h
 split at h
 ·rename_i e; cases h; exact e
 ·cases h
theorem Rep.getLO {K : Fr0} {c : Fc} {U : Env} {Z : St} {H : Hp} (r : Rep K c U Z H) {i : Nat} {ds : List D} (hi : i ∈ c.O) (h : zJ i U = some ds) :
  ∃ a xs, True /\ Z[i]? = some (some (.ref a)) /\ H a = some (.lst xs) /\ IsL K (Cn c Z) H ds xs := by
 obtain ⟨ds', a, xs, h1, h3, h4, h5⟩ := r.getO hi (qe9 h)
 cases h1
 exact ⟨a, xs, trivial, h3, h4, h5⟩
theorem jI {H : Hp} {a b : Addr} {o u : HO} (h : b ≠ a) (hb : H b = some o) : upd H a u b = some o := by rw [qp h]; exact hb
theorem qcH {H : Hp} {a b : Addr} {u : HO} (h : upd H a u b = none) : H b = none := by
 by_cases e : b = a
 ·subst e; rw [qt] at h; cases h
 ·rw [qp e] at h; exact h
section
variable {X : Cx} {c : Fc} {a b e : Expr} {pos : Pos}
def vp (i : Nat) (f : M D) : M D := fun U => match zJ i U with
 | none => .bad
 | some _ => (bnd f fun d U => match zJ i U with
  | some ds => if imm d && qQ (ds.length + 1) then .ok (.non, U.set i (some (.lst (ds ++ [d])))) else .bad
  | none => .bad) U
theorem qfa {i : Nat} {x : Str} {p1 apos : Pos} {f : M D} (he : DE X c e f) (ho : i ∈ c.O := by exact of_decide_eq_true rfl) (hN : X.N[i]? = some x := by rfl) (hv : Vis X.env.scope x := by first | exact Or.inl rfl | exact Or.inr (Or.inl rfl) | exact Or.inr (Or.inr rfl)) (hd : (x == ("__debug__" : Str)) = false := by decide) (hcd : (x == ("__classdict__" : Str)) = false := by decide)
  (hbase : attributeBase (.Name x p1) "append" X.env (eval (.Name x p1) X.env) = eval (.Name x p1) X.env := by rfl)
  (hfew : ((backTo pos (starEach [e] X.env)).all (fun x => !x.1) && (backToKw pos (keywordEach [] X.env)).all (fun x => x.1.isSome)
   && decide ([e].length + ([] : List Keyword).length + (if ([] : List Keyword).isEmpty then 0 else 1) < 30)) = true := by rfl)
  (hline : (apos.endLine == pos.line) = true := by rfl) (hs : starEach [e] X.env = (false, eval e X.env) :: starEach [] X.env := by rfl) (hplain : (backTo pos (starEach [] X.env)).any (·.1) = false := by rfl) :
  DE X c (.Call (.Attribute (.Name x p1) "append" apos) [e] [] pos) (vp i f) := by
 obtain ⟨t, p, w⟩ := he
 refine ⟨_, qiN PySem.F.plainAttrs_list PySem.F.slot_list_append PySem.F.type_list_append qad (uy hN hv hd hcd) (jF p va hs) hbase hfew hline hs hplain, fun U Z H Q r h => ?_⟩
 unfold vp at h
 cases e0 : zJ i U with
 | none => rw [e0] at h; exact h.elim
 | some ds0 =>
  simp only [e0] at h
  obtain ⟨l, xs0, _, hl, hH, _⟩ := r.getLO ho e0
  refine ⟨.ref l, hl, .inl ⟨rfl, xs0, .inl (.inl hH)⟩, w U Z H _ r (Wp.bnd h fun d U1 v H1 r1 i1 g1 h1 => ?_)⟩
  cases e1 : zJ i U1 with
  | none => simp only [e1] at h1; exact h1.elim
  | some ds =>
   simp only [e1] at h1
   by_cases hb : (imm d && qQ (ds.length + 1)) = true
   ·rw [if_pos hb] at h1
    rw [Bool.and_eq_true] at hb
    obtain ⟨l', xs, him, hl', hH', il⟩ := r1.getLO ho e1
    rw [hl] at hl'
    cases hl'
    have hsz : ds.length + 1 <= sizeLine := of_decide_eq_true hb.2
    have ext : Ext (Cn c Z) H1 (upd H1 l (.lst (xs ++ [v]))) := ⟨fun b us hb => jI (vC hb hH' (by intro z; cases z)) hb, fun b o u hb => jI (vC hb hH' (by intro z; cases z)) hb, fun b o hb hq => jI (fun e => hb.2 i ho (by rw [hl, e])) hq⟩
    obtain ⟨r2, g2⟩ := r1.io (H' := upd H1 l (.lst (xs ++ [v]))) (bs := ds ++ [d]) ho hl (fun b o hb ho => jI hb ho) qt trivial
     (IsL.append (IsL.ext ext (fun _ h _ => h) il) (IsL.one (Is.ext ext (fun _ h _ => h) i1))) (fun b hb => qcH hb)
    exact ⟨l, xs, v, rfl, rfl, hH', by rw [il.length]; omega, h1 _ _ r2 rfl g2⟩
   ·rw [if_neg hb] at h1; exact h1.elim
def vJ (i : Nat) (k f : M D) : MS := sbnd f fun d U => match zJ i U with
 | none => .bad
 | some _ => (sbnd k fun j U => match j, zJ i U with
  | .int n, some ds => match ixN ds.length n with
   | some q => if imm d then .ok (.nx (U.set i (some (.lst (ds.set q d))))) else .bad
   | none => .bad
  | _, _ => .bad) U
theorem qcI {i : Nat} {x : Str} {p1 p2 : Pos} {ke : Expr} {f k : M D} (he : DE X c e f) (hk : DE X c ke k) (ho : i ∈ c.O := by exact of_decide_eq_true rfl) (hN : X.N[i]? = some x := by rfl) (hv : Vis X.env.scope x := by first | exact Or.inl rfl | exact Or.inr (Or.inl rfl) | exact Or.inr (Or.inr rfl)) (hd : (x == ("__debug__" : Str)) = false := by decide) (hcd : (x == ("__classdict__" : Str)) = false := by decide)
  (ha : ∀ v, assign (.Subscript (.Name x p1) ke p2) X.env v = (do
   let ov <- holding [v] (eval (.Name x p1) X.env)
   let iv <- holding [v, ov] (eval ke X.env)
   standAt p2
   holding [v, ov, iv] (setItem ov iv v)
   release [v, ov, iv] []) := by intro _; rfl)
  (hs : swapsWithSole [.Subscript (.Name x p1) ke p2] e pos.line X.env = pure false := by rfl) (hw : swappedStores [.Subscript (.Name x p1) ke p2] e X.env = pure none := by rfl) (h1 : (assignEach [.Subscript (.Name x p1) ke p2] X.env).map (·.2) = [assign (.Subscript (.Name x p1) ke p2) X.env] := by rfl) :
  DS X c (.Assign [.Subscript (.Name x p1) ke p2] e pos) (vJ i k f) := by
 obtain ⟨t, p, w⟩ := he
 obtain ⟨tk, pk, wk⟩ := hk
 refine ⟨_, qhH p (qkA (uy hN hv hd hcd) pk qgE ha) hs hw h1, fun U Z H D r h => w U Z H _ r (Wp.sbnd h fun d U1 v H1 r1 i1 g1 h1 => ?_)⟩
 cases e0 : zJ i U1 with
 | none => simp only [e0] at h1; exact h1.elim
 | some ds0 =>
  simp only [e0] at h1
  obtain ⟨l, xs0, _, hl, hH, _⟩ := r1.getLO ho e0
  refine ⟨.ref l, hl, wk U1 Z H1 _ r1 (Wp.sbnd h1 fun j U2 u H2 r2 i2 g2 h2 => ?_)⟩
  cases j with
  | int n =>
   cases e1 : zJ i U2 with
   | none => simp only [e1] at h2; exact h2.elim
   | some ds =>
    simp only [e1] at h2
    cases e2 : ixN ds.length n with
    | none => simp only [e2] at h2; exact h2.elim
    | some q =>
     simp only [e2] at h2
     by_cases hb : imm d = true
     ·rw [if_pos hb] at h2
      obtain ⟨l', xs, him, hl', hH', il⟩ := r2.getLO ho e1
      rw [hl] at hl'
      cases hl'
      cases i2
      have i3 := g2.is i1
      have ext : Ext (Cn c Z) H2 (upd H2 l (.lst (xs.set q v))) := ⟨fun b us hb => jI (vC hb hH' (by intro z; cases z)) hb, fun b o u hb => jI (vC hb hH' (by intro z; cases z)) hb, fun b o hb hq => jI (fun e => hb.2 i ho (by rw [hl, e])) hq⟩
      obtain ⟨r3, g3⟩ := r2.io (H' := upd H2 l (.lst (xs.set q v))) (bs := ds.set q d) ho hl (fun b o hb ho => jI hb ho) qt trivial
       (IsL.set (Is.ext ext (fun _ h _ => h) i3) q (IsL.ext ext (fun _ h _ => h) il)) (fun b hb => qcH hb)
      exact ⟨l, xs, n, q, rfl, rfl, hH', by rw [il.length]; exact e2, h2 Z _ r3 g3.s⟩
     ·rw [if_neg hb] at h2; exact h2.elim
  | _ => exact h2.elim
structure qfb (K : Fr0) (c : Fc) (U : Env) (Z : St) (H : Hp) (a : Addr) : Prop where
 val : ∀ i d v, U[i]? = some (some d) -> i ∉ c.O -> Z[i]? = some (some v) -> Is K (fun b => Cn c Z b /\ b ≠ a) H d v
 cont : ∀ i ds b xs, U[i]? = some (some (.lst ds)) -> i ∈ c.O -> Z[i]? = some (some (.ref b)) -> H b = some (.lst xs) -> IsL K (Cn c Z) H ds xs -> IsL K (fun b => Cn c Z b /\ b ≠ a) H ds xs
 own : ∀ j ∈ c.O, Z[j]? ≠ some (some (.ref a))
 new : c.H0 a = none
theorem Is.fresh {K : Fr0} {A : Addr -> Prop} {H : Hp} {d : D} {v : V} {a : Addr} (h : Is K A H d v) (hn : H a = none) : Is K (fun b => A b /\ b ≠ a) H d v := Is.ext Ext.refl (fun b h1 h2 => ⟨h1, fun e => by rw [e, hn] at h2; cases h2⟩) h
theorem Rep.apart {K : Fr0} {U : Env} {Z : St} {H : Hp} {a : Addr} {o : HO} (r : Rep K c U Z H) (hn : H a = none) : qfb K c U Z (upd H a o) a where
 val := fun i d v h1 h2 h3 => by
  obtain ⟨w, h4, h5⟩ := r.get h2 h1
  rw [h3] at h4
  cases h4
  exact Is.ext (Ext.of_same (qD hn _)) (fun _ h _ => h) (h5.fresh hn)
 cont := fun i ds b xs h1 h2 h3 h4 _ => by
  obtain ⟨ds', a', ys, e1, e2, e3, e4⟩ := r.getO h2 h1
  cases e1
  rw [h3] at e2
  cases e2
  have := qD hn o _ _ e3
  rw [h4] at this
  cases this
  exact IsL.ext (Ext.of_same (qD hn _)) (fun b hb hs => ⟨hb, fun e => by rw [e, hn] at hs; cases hs⟩) e4
 own := fun j hj e => (r.new hn).2 j hj e
 new := r.dm a hn
theorem Rep.apart_same {K : Fr0} {U : Env} {Z : St} {H H' : Hp} {a : Addr} (r : Rep K c U Z H) (hn : H a = none) (sm : jk H H') : qfb K c U Z H' a where
 val := fun i d v h1 h2 h3 => by
  obtain ⟨w, h4, h5⟩ := r.get h2 h1
  rw [h3] at h4
  cases h4
  exact Is.ext (Ext.of_same sm) (fun _ h _ => h) (h5.fresh hn)
 cont := fun i ds b xs h1 h2 h3 h4 _ => by
  obtain ⟨ds', a', ys, e1, e2, e3, e4⟩ := r.getO h2 h1
  cases e1
  rw [h3] at e2
  cases e2
  have := sm _ _ e3
  rw [h4] at this
  cases this
  exact IsL.ext (Ext.of_same sm) (fun b hb hs => ⟨hb, fun e => by rw [e, hn] at hs; cases hs⟩) e4
 own := fun j hj e => (r.new hn).2 j hj e
 new := r.dm a hn
def WpN (K : Fr0) (c : Fc) (Z : St) (H : Hp) (Q : VK) : R (List D × Env) -> Prop
 | .ok (ds, U) => ∀ a xs H', H a = none -> Rep K c U Z H' -> qfb K c U Z H' a -> H' a = some (.lst xs) -> True -> IsL K (fun b => Cn c Z b /\ b ≠ a) H' ds xs -> Gr c.O Z H H' -> Q (.ref a) H'
 | .exc x U => ∀ H', Rep K c U Z H' -> Gr c.O Z H H' -> c.E x H'
 | .bad => False
def DN (X : Cx) (c : Fc) (e : Expr) (f : M (List D)) : Prop := ∃ t, PE X e t /\ ∀ U Z H Q, Rep X.K c U Z H -> WpN X.K c Z H Q (f U) -> t Z H Q
theorem WpN.gr {K : Fr0} {Z : St} {H H1 : Hp} {Q : VK} : ∀ {r : R (List D × Env)}, WpN K c Z H Q r -> Gr c.O Z H H1 -> WpN K c Z H1 Q r
 | .ok (d, U), h, g => fun a xs H' hn h1 h2 h3 h4 h5 hg => h a xs H' (g.dom a hn) h1 h2 h3 h4 h5 (g.trans hg)
 | .exc x U, h, g => fun H' hr hg => h H' hr (g.trans hg)
 | .bad, h, _ => h
theorem WpL.bndN {K : Fr0} {Z : St} {H : Hp} {Q : VK} {f : M (List D)} {k : List D -> M (List D)} {U : Env} {Q' : List V -> Hp -> Prop} (h : WpN K c Z H Q (Sk.bnd f k U)) (hQ : ∀ d U' v H', Rep K c U' Z H' -> IsL K (Cn c Z) H' d v -> Gr c.O Z H H' -> WpN K c Z H' Q (k d U') -> Q' v H') : WpL K c Z H Q' (f U) := by
 unfold Sk.bnd at h
 cases e : f U with
 | ok p => rw [e] at h; exact fun v H' hr hi hg => hQ p.1 p.2 v H' hr hi hg (h.gr hg)
 | exc x U' => rw [e] at h; exact h
 | bad => rw [e] at h; exact h
def qma (f : M (List D)) : M (List D) := bnd f fun ds => lift (if immL ds && qQ ds.length then some ds else none)
theorem qk7 {es : List Expr} {f : M (List D)} (h : DA X c es f) : DN X c (.List es pos) (qma f) := by
 obtain ⟨t, p, w⟩ := h
 refine ⟨_, qhM p, fun U Z H Q r h => w U Z H _ r (WpL.bndN h fun ds U1 vs H1 r1 i1 g1 h1 => ?_)⟩
 by_cases hb : (immL ds && qQ ds.length) = true
 ·rw [if_pos hb] at h1
  rw [Bool.and_eq_true] at hb
  refine ⟨by rw [i1.length]; exact of_decide_eq_true hb.2, fun p hp => ?_⟩
  exact h1 p vs _ hp (r1.laid hp _) (r1.apart hp) qt trivial (IsL.ext (Ext.of_same (qD hp _)) (fun b h hs => ⟨h, fun e => by rw [e, hp] at hs; cases hs⟩) i1) (.of_same (qD hp _))
 ·rw [if_neg hb] at h1; exact h1.elim
theorem Cl.setO {O : List Nat} {Z : St} {i : Nat} {a b : Addr} (h : Cl O Z b) (hb : b ≠ a) : Cl O (Z.set i (some (.ref a))) b := fun j hj e => by
 by_cases hji : j = i
 ·subst hji
  have hl : j < Z.length := by
   have := (gI_.mp e).1
   rwa [lS_] at this
  rw [List.getElem?_set_self hl] at e
  cases e
  exact hb rfl
 ·rw [zt hji] at e
  exact h j hj e
theorem Rep.setO {K : Fr0} {U : Env} {Z : St} {H : Hp} {i : Nat} {a : Addr} {ds : List D} {xs : List V} (r : Rep K c U Z H) (hi : i ∈ c.O) (hP : i ∉ c.P) (ap : qfb K c U Z H a) (ha : H a = some (.lst xs)) (him : True) (il : IsL K (fun b => Cn c Z b /\ b ≠ a) H ds xs) :
  Rep K c (U.set i (some (.lst ds))) (Z.set i (some (.ref a))) H where
 len := by rw [lS_, lS_]; exact r.len
 val := fun j e hj => by
  by_cases e1 : j = i
  ·subst e1
   have hl : j < U.length := by
    have := (gI_.mp hj).1
    rwa [lS_] at this
   rw [List.getElem?_set_self hl] at hj
   cases hj
   exact ⟨.ref a, List.getElem?_set_self (by rw [<- r.len]; exact hl), .inl ⟨hi, ds, a, xs, rfl, rfl, ha, IsL.ext Ext.refl (fun b hb _ => ⟨hb.1.1, hb.1.2.setO hb.2⟩) il⟩⟩
  ·rw [zt e1] at hj
   obtain ⟨w, h1, h2⟩ := r.val j e hj
   refine ⟨w, by rw [zt e1]; exact h1, ?_⟩
   rcases h2 with ⟨g1, ds', b', xs', g3, g5, g6, g7⟩ | ⟨h3, h4⟩
   ·subst g3 g5
    exact .inl ⟨g1, ds', b', xs', rfl, rfl, g6, IsL.ext Ext.refl (fun b hb _ => ⟨hb.1.1, hb.1.2.setO hb.2⟩) (ap.cont j ds' b' xs' hj g1 h1 g6 g7)⟩
   ·exact .inr ⟨h3, Is.ext Ext.refl (fun b hb _ => ⟨hb.1.1, hb.1.2.setO hb.2⟩) (ap.val j e w hj h3 h1)⟩
 own := fun j hj w h => by
  by_cases e1 : j = i
  ·subst e1
   have hl : j < Z.length := by
    have := (gI_.mp h).1
    rwa [lS_] at this
   rw [List.getElem?_set_self hl] at h
   cases h
   exact ⟨a, xs, rfl, ha, .inl ap.new⟩
  ·rw [zt e1] at h
   exact r.own j hj w h
 inj := fun j k b hj hk h1 h2 => by
  by_cases e1 : j = i
  ·by_cases e2 : k = i
   ·rw [e1, e2]
   ·subst e1
    have hl : j < Z.length := by
     have := (gI_.mp h1).1
     rwa [lS_] at this
    rw [List.getElem?_set_self hl] at h1
    cases h1
    rw [zt e2] at h2
    exact absurd h2 (ap.own k hk)
  ·by_cases e2 : k = i
   ·subst e2
    have hl : k < Z.length := by
     have := (gI_.mp h2).1
     rwa [lS_] at this
    rw [List.getElem?_set_self hl] at h2
    cases h2
    rw [zt e1] at h1
    exact absurd h1 (ap.own j hj)
   ·rw [zt e1] at h1
    rw [zt e2] at h2
    exact r.inj j k b hj hk h1 h2
 b0 := r.b0
 kp := r.kp
 dm := r.dm
 pO := r.pO
 ps := fun j hj => by
  have e : j ≠ i := fun e => hP (e ▸ hj)
  rw [zt e]; exact r.ps j hj
def qal (i : Nat) (f : M (List D)) : MS := sbnd f fun ds U => .ok (.nx (U.set i (some (.lst ds))))
theorem qcJ {i : Nat} {x : Str} {pos' : Pos} {f : M (List D)} (hN : X.N.Nodup) (he : DN X c e f) (ho : i ∈ c.O := by exact of_decide_eq_true rfl) (hP : i ∉ c.P := by exact of_decide_eq_false rfl) (hi : X.N[i]? = some x := by rfl) (hx : Loc X.env.scope x := by first | exact Or.inl rfl | exact Or.inr rfl) (hs : swapsWith e (some (.Name x pos')) pos.line X.env = pure false := by rfl) (hf : X.fn x = true \/ X.env.scope.names.lookup x = some .local := by first | exact .inl rfl | exact .inr rfl | assumption) :
  DS X c (.Assign [.Name x pos'] e pos) (qal i f) := by
 obtain ⟨t, p, w⟩ := he
 refine ⟨_, qhI hN hi hx p hs hf, fun U Z H D r h => w U Z H _ r ?_⟩
 unfold qal sbnd at h
 cases ef : f U with
 | bad => rw [ef] at h; exact h
 | exc z U' => rw [ef] at h; exact fun H' hr hg => h Z H' hr hg.s
 | ok q =>
  rw [ef] at h
  intro a xs H' hn r' ap ha him il g'
  exact h _ H' (r'.setO ho hP ap ha him il) ⟨g'.ext, fun b hb hs => hb.setO (fun e => by rw [e, hn] at hs; exact absurd hs (by simp)), g'.dom⟩
def qbW (i : Nat) : M D := fun U => match zJ i U with
 | some ds => .ok (.int ds.length, U)
 | none => .bad
theorem qiX {i : Nat} {x : Str} {p p1 : Pos} (hg : Gl X "len") (hm : X.mg "len" = none) (ho : i ∈ c.O := by exact of_decide_eq_true rfl) (hN : X.N[i]? = some x := by rfl) (hv : Vis X.env.scope x := by first | exact Or.inl rfl | exact Or.inr (Or.inl rfl) | exact Or.inr (Or.inr rfl)) (hd : (x == ("__debug__" : Str)) = false := by decide) (hcd : (x == ("__classdict__" : Str)) = false := by decide) :
  DE X c (.Call (.Name "len" p) [.Name x p1] [] pos) (qbW i) := by
 refine ⟨_, vF jq hg hm PySem.boot_len (jF (uy hN hv hd hcd) va), fun U Z H Q r h => ?_⟩
 unfold qbW at h
 cases e0 : zJ i U with
 | none => simp only [e0] at h; exact h.elim
 | some ds =>
  simp only [e0] at h
  obtain ⟨l, xs, him, hl, hH, il⟩ := r.getLO ho e0
  exact ⟨.ref l, hl, .inl ⟨l, xs, rfl, .inl (.inl (.inl hH)), by rw [il.length]; exact h _ H r rfl .refl⟩⟩
def qd4 (i : Nat) : M D := fun U => match zJ i U with
 | some ds => .ok (.tup ds, U)
 | none => .bad
theorem qfc {i : Nat} {x : Str} {p p1 : Pos} (hg : Gl X "tuple") (hm : X.mg "tuple" = none) (hb : bootBuiltins "tuple" = some (.type "tuple") := by first | rfl | exact PySem.boot_tuple) (ho : i ∈ c.O := by exact of_decide_eq_true rfl) (hN : X.N[i]? = some x := by rfl) (hv : Vis X.env.scope x := by first | exact Or.inl rfl | exact Or.inr (Or.inl rfl) | exact Or.inr (Or.inr rfl)) (hd : (x == ("__debug__" : Str)) = false := by decide) (hcd : (x == ("__classdict__" : Str)) = false := by decide) :
  DE X c (.Call (.Name "tuple" p) [.Name x p1] [] pos) (qd4 i) := by
 refine ⟨_, qeR qa1 hg hm hb (jF (uy hN hv hd hcd) va), fun U Z H Q r h => ?_⟩
 unfold qd4 at h
 cases e0 : zJ i U with
 | none => simp only [e0] at h; exact h.elim
 | some ds =>
  simp only [e0] at h
  obtain ⟨l, xs, him, hl, hH, il⟩ := r.getLO ho e0
  refine ⟨.ref l, hl, l, xs, rfl, .inl ⟨.inl (.inl hH), fun p hp => h _ _ (r.laid hp _) ⟨p, xs, rfl, .inl qt, ?_⟩ (.of_same (qD hp _))⟩⟩
  exact IsL.ext (Ext.of_same (qD hp _)) (fun _ h _ => h) il
def qdg (i : Nat) (g : M D) : M D := fun U => match zJ i U with
 | none => .bad
 | some _ => (bnd g fun k U => match k, zJ i U with
  | .int n, some ds => match atI ds n with
   | some d => .ok (d, U)
   | none => .bad
  | _, _ => .bad) U
theorem qfd {i : Nat} {x : Str} {p1 : Pos} {g : M D} (hb : DE X c b g) (hs : qcA b := by intro _ _; rfl) (ho : i ∈ c.O := by exact of_decide_eq_true rfl) (hN : X.N[i]? = some x := by rfl) (hv : Vis X.env.scope x := by first | exact Or.inl rfl | exact Or.inr (Or.inl rfl) | exact Or.inr (Or.inr rfl)) (hd : (x == ("__debug__" : Str)) = false := by decide) (hcd : (x == ("__classdict__" : Str)) = false := by decide) :
  DE X c (.Subscript (.Name x p1) b pos) (qdg i g) := by
 obtain ⟨tb, pb, wb⟩ := hb
 refine ⟨_, qkQ qeU (uy hN hv hd hcd) pb hs, fun U Z H Q r h => ?_⟩
 unfold qdg at h
 cases e0 : zJ i U with
 | none => simp only [e0] at h; exact h.elim
 | some ds0 =>
  simp only [e0] at h
  obtain ⟨l, xs0, _, hl, hH, _⟩ := r.getLO ho e0
  refine ⟨.ref l, hl, wb U Z H _ r (Wp.bnd h fun k U1 v H1 r1 i1 g1 h1 => ?_)⟩
  cases k with
  | int n =>
   cases e1 : zJ i U1 with
   | none => simp only [e1] at h1; exact h1.elim
   | some ds =>
    simp only [e1] at h1
    cases e2 : atI ds n with
    | none => simp only [e2] at h1; exact h1.elim
    | some d =>
     simp only [e2] at h1
     obtain ⟨l', xs, him, hl', hH', il⟩ := r1.getLO ho e1
     rw [hl] at hl'
     cases hl'
     cases i1
     obtain ⟨w, h3, h4⟩ := il.atI e2
     exact ⟨l, xs, n, w, rfl, rfl, .inl (.inl hH'), h3, h1 w H1 r1 h4 .refl⟩
  | _ => exact h1.elim
end
def cfn (O P : List Nat) (A : Addr -> Prop) (H : Hp) (Io : Addr -> Prop) (E : Exn -> Hp -> Prop) (S : Nat -> Option (Option V)) : Fc where
 O := O
 P := P
 B := fun a => A a \/ H a = none
 H0 := H
 Io := Io
 E := E
 S := S
def jC (n : Nat) (ds : List D) : Env := ds.map some ++ List.replicate (n - ds.length) none
def spD (K : Fr0) (F : List D -> R D) : Sp := fun vs H Q _ => ∃ ds A, IsL K A H ds vs /\ qbR K H /\ match F ds with
 | .ok d => ∀ v H', jk H H' -> Is K (fun a => A a \/ H a = none) H' d v -> Q v H'
 | _ => False
def qew (K : Fr0) (F : List D -> List D -> R (D × List D)) : Sp := fun vs H Q _ => ∃ (bs ds : List D) (A : Addr -> Prop) (a : Addr) (xs vs' : List V), vs = .ref a :: vs' /\ H a = some (.lst xs) /\ qbR K H /\ IsL K A H bs xs /\ ¬ A a /\ IsL K A H ds vs' /\ match F bs ds with
 | .ok (d, bs') => ∀ v H' xs', (∀ b o, b ≠ a -> H b = some o -> H' b = some o) -> (∀ b, H' b = none -> H b = none) -> H' a = some (.lst xs') -> True -> IsL K (fun b => A b \/ H b = none) H' bs' xs' -> Is K (fun b => A b \/ H b = none) H' d v -> Q v H'
 | _ => False
def dfn (n p : Nat) (body : MS) (ds : List D) : R D := if ds.length = p then match body (jC n ds) with
 | .ok (.rt d _) => .ok d
 | .ok (.nx _) => .ok .non
 | _ => .bad else .bad
def v5 (n p : Nat) (body : MS) (bs ds : List D) : R (D × List D) := if ds.length + 1 = p then match body (jC n (.lst bs :: ds)) with
 | .ok (.rt d U) => match zJ 0 U with
  | some bs' => .ok (d, bs')
  | none => .bad
 | .ok (.nx U) => match zJ 0 U with
  | some bs' => .ok (.non, bs')
  | none => .bad
 | _ => .bad else .bad
theorem vK {N : List Str} {vs : List V} {i : Nat} {v : V} (h : (zD N vs)[i]? = some (some v)) : vs[i]? = some v := by
 unfold zD at h
 by_cases hi : i < vs.length
 ·rw [List.getElem?_append_left (by simpa using hi), gM_] at h
  cases e : vs[i]? with
  | none => rw [e] at h; cases h
  | some w => rw [e] at h; cases h; rfl
 ·rw [List.getElem?_append_right (by simpa using hi), List.getElem?_replicate] at h
  split at h <;> cases h
theorem wY {N : List Str} {vs : List V} {i : Nat} {v : V} (h : vs[i]? = some v) : (zD N vs)[i]? = some (some v) := by
 unfold zD
 have hi : i < vs.length := (gI_.mp h).1
 rw [List.getElem?_append_left (by simpa using hi), gM_, h]; rfl
theorem qbX {n : Nat} {ds : List D} {i : Nat} {d : D} (h : (jC n ds)[i]? = some (some d)) : ds[i]? = some d := by
 unfold jC at h
 by_cases hi : i < ds.length
 ·rw [List.getElem?_append_left (by simpa using hi), gM_] at h
  cases e : ds[i]? with
  | none => rw [e] at h; cases h
  | some w => rw [e] at h; cases h; rfl
 ·rw [List.getElem?_append_right (by simpa using hi), List.getElem?_replicate] at h
  split at h <;> cases h
theorem uI {K : Fr0} {N : List Str} {O : List Nat} {A : Addr -> Prop} {H : Hp} {E : Exn -> Hp -> Prop} {ds : List D} {vs : List V} (il : IsL K A H ds vs) (tb : qbR K H) (hO : ∀ i ∈ O, ds.length <= i) :
  Rep K (cfn O [] A H (fun _ => False) E fun _ => none) (jC N.length ds) (zD N vs) H where
 len := by unfold jC zD; simp [il.length]
 val := fun i d h => by
  have h1 := qbX h
  obtain ⟨v, h2, h3⟩ := il.get h1
  have hi : i ∉ O := fun z => by
   have := (gI_.mp h1).1
   have := hO i z
   omega
  refine ⟨v, wY h2, .inr ⟨hi, Is.ext Ext.refl (fun a ha _ => ⟨.inl ha, fun j hj e => ?_⟩) h3⟩⟩
  have := (gI_.mp (vK e)).1
  have := hO j hj
  rw [il.length] at *
  omega
 own := fun j hj v h => by
  have := (gI_.mp (vK h)).1
  have := hO j hj
  rw [il.length] at *
  omega
 inj := fun i j a hi hj h1 h2 => by
  have := (gI_.mp (vK h1)).1
  have := hO i hi
  rw [il.length] at *
  omega
 b0 := ⟨fun a h => .inr h, tb⟩
 kp := fun b o h _ => h
 dm := fun b h => h
 pO := fun j hj => by cases hj
 ps := fun j hj => by cases hj
section
variable {P : Program} {w : World} {K : PySem.W.Frag} {mg : Str -> Option Value} {base : Heap}
theorem zk {x qual : Str} {st : Stmt} {f : Addr} {fd : FuncData} {N ps : List Str} {k : Nat} {O : List Nat} {body : MS} (F : Fun K x qual st f fd) (S : qw N ps (qf st)) (hO : ∀ i ∈ O, ps.length <= i)
  (hb : ∀ (cdv : Value) (A : Around) (outer : List PySem.Env) (s : Shared) (H : Hp) (E : XK) (B : Addr -> Prop), uc k (A.deeper (envOfC qual (qf st) s.heap.objs.size f cdv)) ->
   DSs (qeP CX0 P w K mg base N qual (qf st) f cdv A outer s H E).nox (cfn O [] B H (fun _ => False) (fun _ _ => False) fun _ => none) (qv st) body) :
  u8 P w K mg base CX0 (k + 1) f fd ps (spD K (dfn N.length ps.length body)) := by
 refine F.ok S (fun vs H Q E h => ?_) (fun cdv A outer s H vs Q E hr h => ?_)
 ·obtain ⟨ds, B, il, _, h⟩ := h
  unfold dfn at h
  by_cases e : ds.length = ps.length
  ·rw [il.length]; exact e
  ·rw [if_neg e] at h; exact h.elim
 ·obtain ⟨ds, B, il, tb, h⟩ := h
  obtain ⟨t, p, wt⟩ := hb cdv A outer s H E B hr
  refine ⟨t, p, ?_⟩
  unfold dfn at h
  by_cases e : ds.length = ps.length
  ·rw [if_pos e] at h
   refine wt (jC N.length ds) (zD N vs) H _ (uI il tb (fun i hi => by rw [e]; exact hO i hi)) ?_
   have same : ∀ {U : Env} {Z : St} {H' : Hp}, Rep K (cfn O [] B H (fun _ => False) (fun _ _ => False) fun _ => none) U Z H' -> jk H H' := fun r b o hb => r.kp b o hb fun z => z
   cases eb : body (jC N.length ds) with
   | bad => rw [eb] at h; exact h.elim
   | exc z U => rw [eb] at h; exact h.elim
   | ok fl =>
    rw [eb] at h
    cases fl with
    | nx U => exact fun Z' H' r' _ => h .non H' (same r') rfl
    | rt d U => exact fun v Z' H' r' i' _ => h v H' (same r') i'
    | bk U => exact h.elim
    | ct U => exact h.elim
  ·rw [if_neg e] at h; exact h.elim
theorem qgV {x qual : Str} {st : Stmt} {f : Addr} {fd : FuncData} {N ps : List Str} {k : Nat} {O : List Nat} {body : MS} (F : Fun K x qual st f fd) (S : qw N ps (qf st)) (hO : ∀ i ∈ O, i = 0 \/ ps.length <= i) (h0 : 0 ∈ O)
  (hb : ∀ (cdv : Value) (A : Around) (outer : List PySem.Env) (s : Shared) (H : Hp) (E : XK) (B Io : Addr -> Prop) (S : Nat -> Option (Option V)), uc k (A.deeper (envOfC qual (qf st) s.heap.objs.size f cdv)) ->
   DSs (qeP CX0 P w K mg base N qual (qf st) f cdv A outer s H E).nox (cfn O [0] B H Io (fun _ _ => False) S) (qv st) body) :
  u8 P w K mg base CX0 (k + 1) f fd ps (qew K (v5 N.length ps.length body)) := by
 refine F.ok S (fun vs H Q E h => ?_) (fun cdv A outer s H vs Q E hr h => ?_)
 ·obtain ⟨bs, ds, B, a, xs, vs', rfl, ha, him, ib, nA, il, h⟩ := h
  unfold v5 at h
  by_cases e : ds.length + 1 = ps.length
  ·rw [lC_, il.length]; exact e
  ·rw [if_neg e] at h; exact h.elim
 ·obtain ⟨bs, ds, B, a, xs, vs', rfl, ha, him, ib, nA, il, h⟩ := h
  obtain ⟨t, p, wt⟩ := hb cdv A outer s H E B (fun b => b = a) (fun j => (zD N (.ref a :: vs'))[j]?) hr
  refine ⟨t, p, ?_⟩
  unfold v5 at h
  by_cases e : ds.length + 1 = ps.length
  ·rw [if_pos e] at h
   have only : ∀ j ∈ O, ∀ v, (zD N (.ref a :: vs'))[j]? = some (some v) -> j = 0 /\ v = .ref a := fun j hj v hv => by
    have h1 := vK hv
    rcases hO j hj with z | z
    ·subst z; cases h1; exact ⟨rfl, rfl⟩
    ·have := (gI_.mp h1).1
     rw [lC_, il.length] at this
     omega
   have r0 : Rep K (cfn O [0] B H (fun b => b = a) (fun _ _ => False) fun j => (zD N (.ref a :: vs'))[j]?) (jC N.length (.lst bs :: ds)) (zD N (.ref a :: vs')) H := by
    refine ⟨by unfold jC zD; simp [il.length], fun i d hd => ?_, fun j hj v hv => ?_, fun i j b hi hj h1 h2 => ?_, ⟨fun b hb => .inr hb, fun q P pos eP => ⟨(him q P pos eP).1, fun z => by have := (him q P pos eP).1; rw [z, ha] at this; cases this⟩⟩, fun b o hb _ => hb, fun b hb => hb, fun j hj => ?_, fun _ _ => rfl⟩
    ·have h1 := qbX hd
     cases i with
     | zero =>
      cases h1
      exact ⟨.ref a, wY rfl, .inl ⟨h0, bs, a, xs, rfl, rfl, ha, IsL.ext Ext.refl (fun b hb _ => ⟨.inl hb, fun j hj e2 => by obtain ⟨_, e3⟩ := only j hj _ e2; cases e3; exact nA hb⟩) ib⟩⟩
     | succ i =>
      have h1' : ds[i]? = some d := by simpa using h1
      obtain ⟨v, h2, h3⟩ := il.get h1'
      have hi : i + 1 ∉ O := fun z => by
       have h4 := (gI_.mp h1').1
       rcases hO _ z with q | q
       ·cases q
       ·omega
      refine ⟨v, wY (by simpa using h2), .inr ⟨hi, Is.ext Ext.refl (fun b hb _ => ⟨.inl hb, fun j hj e2 => ?_⟩) h3⟩⟩
      obtain ⟨_, e3⟩ := only j hj _ e2
      cases e3
      exact nA hb
    ·obtain ⟨rfl, rfl⟩ := only j hj v hv
     exact ⟨a, xs, rfl, ha, .inr ⟨by simp [cfn], rfl⟩⟩
    ·rw [(only i hi _ h1).1, (only j hj _ h2).1]
    ·have : j = 0 := by simpa [cfn] using hj
     rw [this]; exact h0
   refine wt _ _ H _ r0 ?_
   have fin : ∀ {U : Env} {Z : St} {H' : Hp} {bs' : List D}, Rep K (cfn O [0] B H (fun b => b = a) (fun _ _ => False) fun j => (zD N (.ref a :: vs'))[j]?) U Z H' -> zJ 0 U = some bs' ->
     ∃ xs', H' a = some (.lst xs') /\ True /\ IsL K (fun b => B b \/ H b = none) H' bs' xs' := fun {U Z H' bs'} r e1 => by
    obtain ⟨l, ys, h1, h2, h3, h4⟩ := r.getLO h0 e1
    have h5 := r.ps 0 (by simp [cfn])
    have h6 : (cfn O [0] B H (fun b => b = a) (fun _ _ => False) fun j => (zD N (.ref a :: vs'))[j]?).S 0 = some (some (.ref a)) := wY rfl
    rw [h2, h6] at h5
    cases h5
    exact ⟨ys, h3, h1, IsL.ext Ext.refl (fun b hb _ => hb.1) h4⟩
   have kps : ∀ {U : Env} {Z : St} {H' : Hp}, Rep K (cfn O [0] B H (fun b => b = a) (fun _ _ => False) fun j => (zD N (.ref a :: vs'))[j]?) U Z H' -> ∀ b o, b ≠ a -> H b = some o -> H' b = some o := fun r b o hb ho => r.kp b o ho hb
   cases eb : body (jC N.length (.lst bs :: ds)) with
   | bad => rw [eb] at h; exact h.elim
   | exc z U => rw [eb] at h; exact h.elim
   | ok fl =>
    rw [eb] at h
    cases fl with
    | nx U =>
     cases eg : zJ 0 U with
     | none => simp only [eg] at h
     | some bs' =>
      simp only [eg] at h
      exact fun Z' H' r' _ => by
       obtain ⟨xs', h1, h2, h3⟩ := fin r' eg
       exact h .non H' xs' (kps r') (fun b hb => r'.dm b hb) h1 h2 h3 rfl
    | rt d U =>
     cases eg : zJ 0 U with
     | none => simp only [eg] at h
     | some bs' =>
      simp only [eg] at h
      exact fun v Z' H' r' i' _ => by
       obtain ⟨xs', h1, h2, h3⟩ := fin r' eg
       exact h v H' xs' (kps r') (fun b hb => r'.dm b hb) h1 h2 h3 i'
    | bk U => exact h.elim
    | ct U => exact h.elim
  ·rw [if_neg e] at h; exact h.elim
end
section
variable {X : Cx} {c : Fc} {a b e : Expr} {pos : Pos}
def qo (F : List D -> R D) (g : M (List D)) : M D := bnd g fun ds U => match F ds with
 | .ok d => .ok (d, U)
 | _ => .bad
theorem qiY {k : Nat} {f : Addr} {fd : FuncData} {ps : List Str} {F : List D -> R D} {x : Str} {p : Pos} {es : List Expr} {g : M (List D)} (G : u8 X.prog X.w X.K X.mg X.base CX0 k f fd ps (spD X.K F)) (hr : uc k X.A) (hg : Gl X x) (hm : X.mg x = some (.ref f)) (hk : PySem.W.keepIn X.K (.ref f) = true) (hb : uC X.K fd ps [])
  (ha : DA X c (e :: es) g) (hd : (x == ("__debug__" : Str)) = false := by decide) (he : starEach (e :: es) X.env = (false, eval e X.env) :: starEach es X.env := by rfl) (hpl : (backTo pos (starEach es X.env)).any (·.1) = false := by rfl) : DE X c (.Call (.Name x p) (e :: es) [] pos) (qo F g) := by
 obtain ⟨t, pa, w⟩ := ha
 refine ⟨_, w9 G hr hg hm hk hb .nil qiQ pa hd he hpl, fun U Z H Q r h => w U Z H _ r (WpL.bnd h fun ds U1 vs H1 r1 i1 g1 h1 => ?_)⟩
 rw [List.append_nil]
 refine ⟨ds, Cn c Z, i1, r1.tb, ?_⟩
 cases ef : F ds with
 | bad => simp only [ef] at h1; exact h1.elim
 | exc z U' => simp only [ef] at h1; exact h1.elim
 | ok d =>
  simp only [ef] at h1
  exact fun v H' sm i => h1 v H' (r1.same sm) (Is.ext Ext.refl (fun a ha _ => ha.elim id r1.new) i) (.of_same sm)
def qx (F : List D -> List D -> R (D × List D)) (i : Nat) (g : M (List D)) : M D := fun U => match zJ i U with
 | none => .bad
 | some _ => (bnd g fun ds U => match zJ i U with
  | none => .bad
  | some bs => match F bs ds with
   | .ok (d, bs') => .ok (d, U.set i (some (.lst bs')))
   | _ => .bad) U
theorem qfe {k i : Nat} {f : Addr} {fd : FuncData} {ps : List Str} {F : List D -> List D -> R (D × List D)} {x y : Str} {p p1 : Pos} {es : List Expr} {g : M (List D)} (G : u8 X.prog X.w X.K X.mg X.base CX0 k f fd ps (qew X.K F)) (hr : uc k X.A) (hg : Gl X x) (hm : X.mg x = some (.ref f)) (hk : PySem.W.keepIn X.K (.ref f) = true) (hb : uC X.K fd ps [])
  (ha : DA X c es g) (ho : i ∈ c.O := by exact of_decide_eq_true rfl) (hN : X.N[i]? = some y := by rfl) (hv : Vis X.env.scope y := by first | exact Or.inl rfl | exact Or.inr (Or.inl rfl) | exact Or.inr (Or.inr rfl)) (hdy : (y == ("__debug__" : Str)) = false := by decide) (hcd : (y == ("__classdict__" : Str)) = false := by decide)
  (hd : (x == ("__debug__" : Str)) = false := by decide) (he : starEach (.Name y p1 :: es) X.env = (false, eval (.Name y p1) X.env) :: starEach es X.env := by rfl) (hpl : (backTo pos (starEach es X.env)).any (·.1) = false := by rfl) : DE X c (.Call (.Name x p) (.Name y p1 :: es) [] pos) (qx F i g) := by
 obtain ⟨t, pa, w⟩ := ha
 refine ⟨_, w9 G hr hg hm hk hb .nil qiQ (jF (uy hN hv hdy hcd) pa he) hd he hpl, fun U Z H Q r h => ?_⟩
 unfold qx at h
 cases e0 : zJ i U with
 | none => simp only [e0] at h; exact h.elim
 | some ds0 =>
  simp only [e0] at h
  obtain ⟨l, xs0, _, hl, hH, _⟩ := r.getLO ho e0
  refine ⟨.ref l, hl, w U Z H _ r (WpL.bnd h fun ds U1 vs H1 r1 i1 g1 h1 => ?_)⟩
  show qew X.K F (.ref l :: vs ++ []) H1 Q E0
  rw [List.append_nil]
  cases e1 : zJ i U1 with
  | none => simp only [e1] at h1; exact h1.elim
  | some bs =>
   simp only [e1] at h1
   obtain ⟨l', xs, him, hl', hH', il⟩ := r1.getLO ho e1
   rw [hl] at hl'
   cases hl'
   refine ⟨bs, ds, Cn c Z, l, xs, vs, rfl, hH', r1.tb, il, fun hc => hc.2 i ho hl, i1, ?_⟩
   cases ef : F bs ds with
   | bad => simp only [ef] at h1; exact h1.elim
   | exc z U' => simp only [ef] at h1; exact h1.elim
   | ok q =>
    obtain ⟨d, bs'⟩ := q
    simp only [ef] at h1
    intro v H' xs' kp dm ha2 him2 il2 i2
    obtain ⟨r2, g2⟩ := r1.io (bs := bs') ho hl kp ha2 him2 (IsL.ext Ext.refl (fun a ha _ => ha.elim id r1.new) il2) dm
    exact h1 v H' r2 (Is.ext Ext.refl (fun a ha _ => ha.elim id r1.new) i2) g2
end
def qgW : Key -> PyData
 | .inl i => .int i
 | .inr x => .str x
mutual
def jD : D -> PyData
 | .non => .none
 | .bl b => .bool b
 | .int i => .int i
 | .str x => .str x
 | .tup ds => .tuple (toPDs ds)
 | .lst ds => .list (toPDs ds)
 | .dic kvs => .dict (kvs.map fun p => (qgW p.1, .int p.2))
 | .fz ns => .list (ns.map .int)
 | .exc _ => .dict [(.int (2 ^ 2000), .none)]
def toPDs : List D -> List PyData
 | [] => []
 | d :: ds => jD d :: toPDs ds
end
mutual
def noL : D -> Bool
 | .tup ds => noLs ds
 | .lst _ => false
 | .fz _ => false
 | _ => true
def noLs : List D -> Bool
 | [] => true
 | d :: ds => noL d && noLs ds
end
mutual
def noX : D -> Bool
 | .tup ds => noXs ds
 | .lst ds => noXs ds
 | .exc _ => false
 | _ => true
def noXs : List D -> Bool
 | [] => true
 | d :: ds => noX d && noXs ds
end
mutual
theorem qhX : ∀ {d : D}, (jD d).showable = true -> noX d = true
 | .non, _ => rfl
 | .bl _, _ => rfl
 | .int _, _ => rfl
 | .str _, _ => rfl
 | .tup ds, h => by unfold noX; exact noXs_sh (by simpa [jD, PyData.showable] using h)
 | .lst ds, h => by unfold noX; exact noXs_sh (by simpa [jD, PyData.showable] using h)
 | .dic _, _ => rfl
 | .fz _, _ => rfl
 | .exc _, h => by
  have e : (PyData.dict [(.int (2 ^ 2000), .none)]).showable = false := by decide +kernel
  rw [show jD (.exc _) = PyData.dict [(.int (2 ^ 2000), .none)] from rfl, e] at h
  cases h
theorem noXs_sh : ∀ {ds : List D}, PyData.showableAll (toPDs ds) = true -> noXs ds = true
 | [], _ => rfl
 | d :: ds, h => by
  have h' : (jD d).showable = true /\ PyData.showableAll (toPDs ds) = true := by simpa [toPDs, PyData.showableAll] using h
  unfold noXs
  rw [qhX h'.1, noXs_sh h'.2]; rfl
end
mutual
theorem qff : ∀ {d : D}, (jD d).canLay0 = true -> noX d = true
 | .non, _ => rfl
 | .bl _, _ => rfl
 | .int _, _ => rfl
 | .str _, _ => rfl
 | .tup ds, h => by unfold noX; exact noXs_lay (by simpa [jD, PyData.canLay0] using h)
 | .lst ds, h => by unfold noX; exact noXs_lay (by simpa [jD, PyData.canLay0] using h)
 | .dic _, _ => rfl
 | .fz _, _ => rfl
 | .exc _, h => by simp [jD, PyData.canLay0] at h
theorem noXs_lay : ∀ {ds : List D}, PyData.canLayAll0 (toPDs ds) = true -> noXs ds = true
 | [], _ => rfl
 | d :: ds, h => by
  have h' : (jD d).canLay0 = true /\ PyData.canLayAll0 (toPDs ds) = true := by simpa [toPDs, PyData.canLayAll0] using h
  unfold noXs
  rw [qff h'.1, noXs_lay h'.2]; rfl
end
theorem vL {h : Heap} : ∀ {ns : List Int} {us : List Value}, zb (ns.map V.int) us -> ∃ as, ReadsAll h us (ns.map .int) as
 | [], us, r => by
  rw [List.map_nil] at r; cases r; exact ⟨[], .nil⟩
 | n :: ns, us, r => by
  rw [mC_] at r
  cases r with
  | cons r1 r2 =>
   obtain ⟨t, e⟩ := r1
   subst e
   obtain ⟨as, q⟩ := vL (ns := ns) r2
   exact ⟨[] ++ as, .cons (.int n t) q⟩
theorem qcK {α : Type} {x : α} {l l' : List α} (h1 : x ∉ l) (h2 : x ∉ l') : x ∉ l ++ l' := fun h => (mA_.mp h).elim h1 h2
theorem qam {P : Program} {w : World} {h : Heap} : ∀ {kvs : List (Key × Int)} {es : List DictEntry} {vs : List (Key × Value)}, KV (kvs.map fun p => (p.1, V.int p.2)) vs -> Pairs (w5 P w) es vs ->
  ReadsAll h (es.map (·.key)) ((kvs.map fun p => (qgW p.1, PyData.int p.2)).map (·.1)) [] /\ ReadsAll h (es.map (·.val)) ((kvs.map fun p => (qgW p.1, PyData.int p.2)).map (·.2)) []
 | [], es, vs, r, p => by
  have r' : KV ([] : List (Key × V)) vs := r
  unfold KV at r'
  cases r'
  cases p
  exact ⟨.nil, .nil⟩
 | (k, i) :: kvs, es, vs, r, p => by
  have r' : KV ((k, V.int i) :: kvs.map fun p => (p.1, V.int p.2)) vs := r
  unfold KV at r'
  cases r' with
  | cons r1 r2 =>
   cases p with
   | cons p1 p2 p3 =>
    obtain ⟨q1, q2⟩ := qam (h := h) (kvs := kvs) r2 p3
    obtain ⟨e1, t, e2⟩ := r1
    have hk : ∀ {e : DictEntry} {kv : Key × Value}, k = kv.1 -> (w5 P w).is kv.1 e.key = true -> Reads h e.key (qgW k) [] := fun {e kv} hk hi => by
     subst hk
     rcases zC hi with ⟨i, t, e1, e2⟩ | ⟨x, t, e1, e2⟩
     ·rw [e1, e2]; exact .int i t
     ·rw [e1, e2]; exact .str x t
    refine ⟨.cons (as := []) (bs := []) (hk e1 p1) q1, .cons (as := []) (bs := []) ?_ q2⟩
    show Reads h _ (.int i) []
    dsimp only
    rw [p2, e2]
    exact .int i t
section
variable {X : Cx} {pins : List (Addr × Obj)} {Z : St} {H : Hp} {s : Shared} {A : Addr -> Prop}
mutual
theorem uV (I : Inv X pins Z H s) : ∀ {d : D} {v : V} {u : Value}, noX d = true -> Is X.K A H d v -> jE v u -> ∃ as, Reads s.heap u (jD d) as /\ (noL d = true -> sysModules ∉ as)
 | .non, _, _, _, h, r => by cases h; cases r; exact ⟨[], .none, by simp⟩
 | .bl b, _, _, _, h, r => by cases h; cases r; exact ⟨[], .bool b, by simp⟩
 | .int i, _, _, _, h, r => by cases h; obtain ⟨t, rfl⟩ := r; exact ⟨[], .int i t, by simp⟩
 | .str x, _, _, _, h, r => by cases h; obtain ⟨t, rfl⟩ := r; exact ⟨[], .str x t, by simp⟩
 | .tup ds, _, _, nx, ⟨a, xs, hv, ta, il⟩, r => by
  subst hv
  cases r
  obtain ⟨its, rv, p, _⟩ := I.tuple ta.sq
  obtain ⟨o, h1, h2, n, h3⟩ := p
  obtain ⟨as, q, nl⟩ := readsL_of I (by simpa [noX] using nx) il rv
  exact ⟨as, .tuple h1 h2 h3 (by simpa using q), fun z => nl (by simpa [noL] using z)⟩
 | .lst ds, _, _, nx, ⟨a, xs, hv, _, ta, il⟩, r => by
  subst hv
  cases r
  obtain ⟨its, rv, p, _⟩ := I.list (SqL.of ta)
  obtain ⟨o, h1, h2, n, h3⟩ := p.isList
  obtain ⟨as, q, nl⟩ := readsL_of I (by simpa [noX] using nx) il rv
  exact ⟨a :: as, .list h1 h2 h3 (by simpa using q), fun z => by simp [noL] at z⟩
 | .dic kvs, _, _, _, ⟨a, hv, _, ta⟩, r => by
  subst hv
  cases r
  obtain ⟨hz, hS, vs, rk, o, es, ep, h1, h2, h3, h4, h5, h6⟩ := (show yq X.prog X.w H s.heap a (.dK _) from I.hok a _ ta)
  obtain ⟨q1, q2⟩ := qam (h := s.heap) rk h5
  refine ⟨_, Reads.dict (as := []) (bs := []) h1 h2.1 h3 q1 q2, fun _ hm => ?_⟩
  have : sysModules = a := by simpa using hm
  rw [<- this] at hS
  simp at hS
 | .exc _, _, _, nx, _, _ => by simp [noX] at nx
 | .fz ns, _, _, _, ⟨a, hv, ta⟩, r => by
  subst hv
  cases r
  obtain ⟨its, rv, p, _⟩ := I.list ta.sq
  obtain ⟨o, h1, h2, n, h3⟩ := p.isList
  obtain ⟨as, q⟩ := vL rv
  exact ⟨a :: as, .list h1 h2 h3 (by simpa using q), fun z => by simp [noL] at z⟩
theorem readsL_of (I : Inv X pins Z H s) : ∀ {ds : List D} {xs : List V} {us : List Value}, noXs ds = true -> IsL X.K A H ds xs -> zb xs us -> ∃ as, ReadsAll s.heap us (toPDs ds) as /\ (noLs ds = true -> sysModules ∉ as)
 | [], _, _, _, h, r => by cases h; cases r; exact ⟨[], .nil, by simp⟩
 | d :: ds, _, _, nx, ⟨x, ys, hx, h1, h2⟩, r => by
  subst hx
  cases r with
  | cons r1 r2 =>
   have nx' : noX d = true /\ noXs ds = true := by simpa [noXs] using nx
   obtain ⟨as, q1, n1⟩ := uV I nx'.1 h1 r1
   obtain ⟨bs, q2, n2⟩ := readsL_of I nx'.2 h2 r2
   exact ⟨as ++ bs, .cons q1 q2, fun z => by
    have z' : noL d = true /\ noLs ds = true := by simpa [noLs] using z
    exact qcK (n1 z'.1) (n2 z'.2)⟩
end
end
def qbY (d : D) : Bool := (jD d).showable && decide ((jD d).shown.length <= sizeLine) && decide ((jD d).depth <= 50) && (!(jD d).hasDict || noL d)
def qk8 (K : Fr0) : List V -> Hp -> VK -> Prop := fun xs H Q => ∃ v d A, xs = [v] /\ Is K A H d v /\ qbY d = true /\ Q (.str (jD d).shown) H
section
variable {X : Cx}
theorem qaQ {k : Nat} (hr : uc k X.A) : yY X (.builtin "repr") (qk8 X.K) := by
 intro pins s Z H xs us Q I r h
 obtain ⟨v, d, A, rfl, hi, ok, q⟩ := h
 obtain ⟨u, rfl, ru⟩ := zb.one r
 unfold qbY at ok
 simp only [Bool.and_eq_true, decide_eq_true_eq] at ok
 obtain ⟨⟨⟨o1, o2⟩, o3⟩, o4⟩ := ok
 obtain ⟨as, rd, nl⟩ := uV I (qhX o1) hi ru
 have hun := hr.un
 have big : ∀ a, u = .ref a -> wpAny (model X.prog X.w) X.A (call (.builtin "repr") [u]) (EP X pins Z Q) X.xe s := fun a e => by
  subst e
  refine repr_of_reads' rd o1 (fun hd => nl ?_) hr.gd (by omega) (fun _ _ e => e) (fun h' u tk hk => ⟨.str _, H, I.kept hk, ⟨_, rfl⟩, q⟩) o2
  rw [hd] at o4
  simpa using o4
 cases d with
 | non => cases hi; cases ru; exact PySem.P.repr_of_none ⟨.str _, H, I.tok _, ⟨_, rfl⟩, q⟩
 | bl b => cases hi; cases ru; exact PySem.P.repr_of_bool ⟨.str _, H, I.tok _, ⟨s.toks, by cases b <;> rfl⟩, q⟩
 | int i =>
  cases hi; obtain ⟨t, rfl⟩ := ru
  exact PySem.P.repr_of_int (of_decide_eq_true o1) ⟨.str _, H, I.tok _, ⟨_, rfl⟩, q⟩
 | str x => cases hi; obtain ⟨t, rfl⟩ := ru; exact PySem.P.repr_of_str ⟨.str _, H, I.tok _, ⟨_, rfl⟩, q⟩ o2
 | tup ds => obtain ⟨a, zs, rfl, _⟩ := hi; exact big a ru
 | lst ds => obtain ⟨a, zs, rfl, _⟩ := hi; exact big a ru
 | dic kvs => obtain ⟨a, rfl, _⟩ := hi; exact big a ru
 | fz ns => obtain ⟨a, rfl, _⟩ := hi; exact big a ru
 | exc C => obtain ⟨a, rfl, _⟩ := hi; exact big a ru
end
def qa8 : List D -> Option D
 | [d] => if qbY d then some (.str (jD d).shown) else none
 | _ => none
theorem qaR {K : Fr0} : qa4 K qa8 (qk8 K) := by
 intro A H xs d vs Q hn h e k
 unfold qa8 at e
 split at e
 ·rename_i d0
  obtain ⟨v, rfl, e2⟩ := IsL.inv1 h
  obtain ⟨e6, e7⟩ := z0 e
  subst e7
  exact ⟨v, d0, A, rfl, e2, e6, k _ H (jk.refl H) rfl⟩
 ·cases e
def qaB (d : D) : Bool := (jD d).canLay0 && decide ((jD d).depth <= 50)
def qhY (K : Fr0) (neg : Bool) : R2 := fun x y H Q => ∃ d e A, Is K A H d x /\ Is K A H e y /\ qaB d = true /\ qaB e = true /\ Q (.bl (if neg then !PyData.eqv (jD d) (jD e) else PyData.eqv (jD d) (jD e))) H
section
variable {X : Cx}
theorem qa9 {d : D} (h : qaB d = true) : SeqAt.shaped (jD d) = true := by
 unfold qaB at h
 unfold SeqAt.shaped
 simp only [Bool.and_eq_true, decide_eq_true_eq] at h |-
 exact ⟨h.1, by omega⟩
theorem qdh {d : D} (h : qaB d = true) : noX d = true := by
 unfold qaB at h
 rw [Bool.and_eq_true] at h
 exact qff h.1
theorem qk9 {k : Nat} (hr : uc k X.A) : OpR X (compareOp .Eq) (qhY X.K false) := by
 intro pins s Z H x y v u Q I rx ry h
 obtain ⟨d, e, A, h1, h2, o1, o2, q⟩ := h
 obtain ⟨as, r1, _⟩ := uV I (qdh o1) h1 rx
 obtain ⟨bs, r2, _⟩ := uV I (qdh o2) h2 ry
 exact SeqAt.compareEq_shaped r1 r2 (qa9 o1) (qa9 o2) hr.units ⟨.bl _, H, I, rfl, by simpa using q⟩
theorem qhZ {k : Nat} (hr : uc k X.A) : OpR X (compareOp .NotEq) (qhY X.K true) := by
 intro pins s Z H x y v u Q I rx ry h
 obtain ⟨d, e, A, h1, h2, o1, o2, q⟩ := h
 obtain ⟨as, r1, _⟩ := uV I (qdh o1) h1 rx
 obtain ⟨bs, r2, _⟩ := uV I (qdh o2) h2 ry
 exact SeqAt.compareNe_shaped r1 r2 (qa9 o1) (qa9 o2) hr.units ⟨.bl _, H, I, rfl, by simpa using q⟩
end
def eqA (x y : D) : Option D := if qaB x && qaB y then some (.bl (PyData.eqv (jD x) (jD y))) else none
def neA (x y : D) : Option D := if qaB x && qaB y then some (.bl (!PyData.eqv (jD x) (jD y))) else none
theorem qiZ {K : Fr0} : OpS K eqA (qhY K false) := by
 intro A H x y d v u Q hn ix iy e k
 obtain ⟨e1, e2⟩ := z0 e
 rw [Bool.and_eq_true] at e1
 subst e2
 exact ⟨x, y, A, ix, iy, e1.1, e1.2, k _ H (jk.refl H) rfl⟩
theorem qi0 {K : Fr0} : OpS K neA (qhY K true) := by
 intro A H x y d v u Q hn ix iy e k
 obtain ⟨e1, e2⟩ := z0 e
 rw [Bool.and_eq_true] at e1
 subst e2
 exact ⟨x, y, A, ix, iy, e1.1, e1.2, k _ H (jk.refl H) rfl⟩
section
variable {X : Cx} {c : Fc} {a b e : Expr} {pos : Pos}
def qex (i : Nat) (g : M D) : M D := fun U => match zJ i U with
 | none => .bad
 | some _ => (bnd g fun y U => match zJ i U with
  | none => .bad
  | some ds => lift (neA (.lst ds) y) U) U
theorem qh0 {i k : Nat} {x : Str} {p1 : Pos} {g : M D} (hr : uc k X.A) (hb : DE X c b g) (ho : i ∈ c.O := by exact of_decide_eq_true rfl) (hN : X.N[i]? = some x := by rfl) (hv : Vis X.env.scope x := by first | exact Or.inl rfl | exact Or.inr (Or.inl rfl) | exact Or.inr (Or.inr rfl)) (hd : (x == ("__debug__" : Str)) = false := by decide) (hcd : (x == ("__classdict__" : Str)) = false := by decide) :
  DT X c (.Compare (.Name x p1) [.NotEq] [b] pos) (tst (qex i g)) := by
 obtain ⟨tb, pb, wb⟩ := hb
 refine ⟨_, qeM (qhZ hr) (uy hN hv hd hcd) pb (qM _), fun U Z H Q r h => ?_⟩
 unfold tst qex bnd at h
 cases e0 : zJ i U with
 | none => simp only [e0] at h; exact h.elim
 | some ds0 =>
  simp only [e0] at h
  obtain ⟨l, xs0, _, hl, hH, _⟩ := r.getLO ho e0
  refine ⟨.ref l, hl, wb U Z H _ r ?_⟩
  cases eg : g U with
  | bad => simp only [eg] at h; exact h
  | exc z U' => simp only [eg] at h; exact h
  | ok q =>
   obtain ⟨y, U1⟩ := q
   simp only [eg] at h
   intro u H1 r1 i1 g1
   cases e1 : zJ i U1 with
   | none => simp only [e1] at h; exact h.elim
   | some ds =>
    simp only [e1] at h
    cases en : neA (.lst ds) y with
    | none => simp only [en, lift] at h; exact h.elim
    | some d =>
     simp only [en, lift, ret] at h
     obtain ⟨e3, e4⟩ := z0 en
     rw [Bool.and_eq_true] at e3
     subst e4
     obtain ⟨l', xs, him, hl', hH', il⟩ := r1.getLO ho e1
     rw [hl] at hl'
     cases hl'
     refine ⟨.lst ds, y, fun _ => True, ⟨l, xs, rfl, trivial, hH', IsL.ext Ext.refl (fun _ h _ => trivial) il⟩, Is.ext Ext.refl (fun _ _ _ => trivial) i1, e3.1, e3.2, _, rfl, ?_⟩
     exact h H1 r1 g1
end
section
variable {prog : Program} {w : World} {A : Around} {E : Value -> Shared -> Prop} {s : Shared}
theorem qi1 {it tu : Addr} {k : Nat} {arr : Array Value} {x : Value} {Q : Value -> Shared -> Prop} (hI : s.heap.IsTupleIter it tu k) (hT : s.heap.IsTuple tu arr) (hx : arr[k]? = some x)
  (q : ∀ h', h'.IsTupleIter it tu (k + 1) -> Heap.SameBut it s.heap h' -> Q x { s with heap := h' }) : wpAny (model prog w) A (Builtin.SmallTypes.nextOf (.ref it)) Q E s := by
 obtain ⟨ob, e1, e2, e3⟩ := id hI
 obtain ⟨ot, f1, _, m, f2⟩ := hT
 unfold Builtin.SmallTypes.nextOf
 refine wpAny_bind (wpAny_callSpecial?_slot (name := Str.ofString "__next__") hI.typeIs F.slot_tuple_iterator_next (wpAny_call_entry F.slot_tuple_iterator_next hI.typeIs F.entry_tuple_iterator_next ?_ (F.args_tuple_iterator_next_1 _)))
 show wpAny (model prog w) _ (field (Value.ref it) 0 >>= _) _ _ s
 refine wpAny_bind (wpAny_field e1 e3 (x := Value.ref tu) rfl ?_)
 show wpAny (model prog w) _ (if (Value.ref tu == Value.none) = true then _ else _) _ _ s
 rw [if_neg (show ¬ ((Value.ref tu == Value.none) = true) from Bool.false_ne_true)]
 show wpAny (model prog w) _ (field (Value.ref it) 1 >>= _) _ _ s
 refine wpAny_bind (wpAny_field e1 e3 (x := Value.int k 0) rfl ?_)
 show wpAny (model prog w) _ (seqItems? (Value.ref tu) >>= _) _ _ s
 refine wpAny_bind (wpAny_seqItems f1 f2 ?_)
 simp only [Int.toNat_natCast, hx]
 refine wpAny_bind (wpAny_setField e1 e3 (by simp) (wpAny_pure ⟨x, rfl, wpAny_pure (q _ ?_ (Heap.SameBut.update ..))⟩))
 exact ⟨_, Heap.get?_update_self _ e1 (Obj.isFreed_of_fields (Obj.data_mapFields e3 _)), (Obj.cls_mapFields ..).trans e2, by rw [Obj.data_mapFields e3]; simp [rawInt]⟩
theorem qi2 {it tu : Addr} {k : Nat} {arr : Array Value} {Q : Value -> Shared -> Prop} (hh : A.handled = none) (hI : s.heap.IsTupleIter it tu k) (hT : s.heap.IsTuple tu arr) (hx : arr[k]? = none)
  (q : ∀ h' e, Heap.ExtBut it s.heap h' -> (∃ o, h'.get? e = some o /\ o.cls = .type "StopIteration") -> E (.ref e) { s with heap := h' }) : wpAny (model prog w) A (Builtin.SmallTypes.nextOf (.ref it)) Q E s := by
 obtain ⟨ob, e1, e2, e3⟩ := id hI
 obtain ⟨ot, f1, _, m, f2⟩ := hT
 unfold Builtin.SmallTypes.nextOf
 refine wpAny_bind (wpAny_callSpecial?_slot (name := Str.ofString "__next__") hI.typeIs F.slot_tuple_iterator_next (wpAny_call_entry F.slot_tuple_iterator_next hI.typeIs F.entry_tuple_iterator_next ?_ (F.args_tuple_iterator_next_1 _)))
 show wpAny (model prog w) _ (field (Value.ref it) 0 >>= _) _ _ s
 refine wpAny_bind (wpAny_field e1 e3 (x := Value.ref tu) rfl ?_)
 show wpAny (model prog w) _ (if (Value.ref tu == Value.none) = true then _ else _) _ _ s
 rw [if_neg (show ¬ ((Value.ref tu == Value.none) = true) from Bool.false_ne_true)]
 show wpAny (model prog w) _ (field (Value.ref it) 1 >>= _) _ _ s
 refine wpAny_bind (wpAny_field e1 e3 (x := Value.int k 0) rfl ?_)
 show wpAny (model prog w) _ (seqItems? (Value.ref tu) >>= _) _ _ s
 refine wpAny_bind (wpAny_seqItems f1 f2 ?_)
 simp only [Int.toNat_natCast, hx]
 refine wpAny_bind (wpAny_rule (wpAny_bind (wpAny_setField e1 e3 (by simp) ?_)))
 show wpAny (model prog w) _ (newExc (Value.type "StopIteration") [] >>= _) _ _ _
 refine wpAny_bind ?_
 simp only [newExc, newTuple]
 refine wpAny_bind (wpAny_newObj_type ?_ (by size_fits))
 refine wpAny_bind (m := firstArgMember _ _) (wpAny_of_eq (a := Value.none) (by first | rfl | (simp only [firstArgMember]; rfl)) ?_)
 refine wpAny_newObj_type ?_ (by size_fits)
 simp only [raiseNew]
 refine wpAny_bind (wpAny_handled ?_)
 first | rw [show A.in1.handled = none from hh] | rw [hh]
 exact wpAny_bind (wpAny_pure (wpAny_throw (q _ _ (((Heap.SameBut.update ..).extBut.push _).push _) ⟨_, Heap.get?_push_size _ rfl, rfl⟩)))
end
theorem qdi {prog : Program} {w : World} {A : Around} (hh : A.handled = none) (it tu : Addr) (hne : tu ≠ it) (arr : Array Value) :
  Draws prog w A it [it, tu] arr.size (fun i x => arr[i]? = some x) (fun i h => h.IsTupleIter it tu i /\ h.IsTuple tu arr) where
 live := fun i h st => by obtain ⟨⟨o, e, _⟩, _⟩ := st; exact ⟨o, e⟩
 frame := fun i h h' st k => by
  obtain ⟨h1, o, e, r⟩ := st
  exact ⟨h1.at fun o q => k it (by simp) o q, o, k tu (by simp) o e, r⟩
 item := fun i s Q E hi st q => qi1 st.1 st.2 (Array.getElem?_eq_getElem hi) fun h' h1 sb => q _ h' s.toks (Array.getElem?_eq_getElem hi) ⟨h1, by
  obtain ⟨o, e, r⟩ := st.2
  exact ⟨o, sb.extBut _ _ hne e, r⟩⟩ sb
 done := fun s Q E st q => qi2 hh st.1 st.2 (Array.getElem?_eq_none (Nat.le_refl _)) q
section
variable {prog : Program} {w : World} {A : Around} {E : Value -> Shared -> Prop} {s : Shared} {z TI TO i1 i2 : Addr} {fp1 fp2 : List Addr} {n1 n2 k : Nat} {P1 P2 : Nat -> Value -> Prop} {S1 S2 : Nat -> Heap -> Prop}
end
section
variable {X : Cx} {pins : List (Addr × Obj)} {Z : St} {H : Hp} {s : Shared} {h' : Heap}
theorem qi3 {ch : List Addr} {T : Addr} {o : HO} {t' : Nat} (I : Inv X pins Z H s) (k : ∀ b u, b ∉ ch -> s.heap.get? b = some u -> h'.get? b = some u) (hf : ∀ b ∈ ch, qct X pins H b) (hT : s.heap.objs.size <= T) (new : yq X.prog X.w (upd H T o) h' T o) :
  Inv X pins Z (upd H T o) { s with heap := h', toks := t' } := by
 have hn : H T = none := I.hok.fresh hT
 have nch : ∀ b u, H b = some u -> b ∉ ch := fun b u e z => by rw [(hf b z).1] at e; cases e
 refine I.step (g' := s.gens) (d' := s.drawn) (ch := ch) (fun b hb => ⟨(hf b hb).2.2.2.1, (hf b hb).2.1, (hf b hb).2.2.2.2.1, (hf b hb).2.2.2.2.2⟩) (fun b u _ _ hc e _ => k b u hc e) (fun b u _ _ hc e _ => ⟨u.slots, k b u hc e⟩) (fun b u hc e n => ?_)
  (fun b u hc e => ⟨u, k b u hc e⟩) (fun b xs e => by rw [qp (qH e hn)]; exact e) (fun b u xs e => by rw [qp (qH e hn)]; exact e) (fun b ps y e => by rw [qp (qH e hn)]; exact e) (fun m hm => ?_) (fun b u e => ?_) I.bare
 ·rw [qp (Nat.ne_of_lt (Nat.lt_of_lt_of_le (Heap.lt_size e) hT))]; exact n
 ·obtain ⟨ob, es, ep, ho, r⟩ := hm
  exact ⟨ob, es, ep, k _ ob (fun z => (hf _ z).2.1 rfl) ho, r⟩
 ·by_cases hb : b = T
  ·subst hb; rw [qt] at e; cases e; exact new
  ·rw [qp hb] at e
   refine (I.hok b u e).stay (fun c v hc q => k c v ?_ q) (fun c q => by rw [qp (qH q hn)]; exact q) (fun c xs q => by rw [qp (qH q hn)]; exact q) fun c ob y q => by rw [qp (qH q hn)]; exact q
   rcases hc with z | z
   ·rw [z]; exact nch b u e
   ·exact nch c _ z
theorem qi4 {ch : List Addr} {t' : Nat} (I : Inv X pins Z H s) (k : ∀ b u, b ∉ ch -> s.heap.get? b = some u -> h'.get? b = some u) (hf : ∀ b ∈ ch, qct X pins H b) : Inv X pins Z H { s with heap := h', toks := t' } := by
 have nch : ∀ b u, H b = some u -> b ∉ ch := fun b u e z => by rw [(hf b z).1] at e; cases e
 refine I.step (g' := s.gens) (d' := s.drawn) (ch := ch) (fun b hb => ⟨(hf b hb).2.2.2.1, (hf b hb).2.1, (hf b hb).2.2.2.2.1, (hf b hb).2.2.2.2.2⟩) (fun b u _ _ hc e _ => k b u hc e) (fun b u _ _ hc e _ => ⟨u.slots, k b u hc e⟩) (fun b u hc e n => n)
  (fun b u hc e => ⟨u, k b u hc e⟩) (fun b xs e => e) (fun b u xs e => e) (fun _ _ _ e => e) (fun m hm => ?_) (fun b u e => ?_) I.bare
 ·obtain ⟨ob, es, ep, ho, r⟩ := hm
  exact ⟨ob, es, ep, k _ ob (fun z => (hf _ z).2.1 rfl) ho, r⟩
 ·refine (I.hok b u e).stay (fun c v hc q => k c v ?_ q) (fun c q => q) fun c xs q => q
  rcases hc with z | z
  ·rw [z]; exact nch b u e
  ·exact nch c _ z
end
section
variable {X : Cx} {c : Fc} {a b e : Expr} {pos : Pos} {es : List Expr} {kk : Nat} {tp : Pos}
def qnl : List D -> List D -> List D
 | x :: xs, y :: ys => .tup [x, y] :: qnl xs ys
 | _, _ => []
def qmH : List D -> Option (List D)
 | [.tup xs, .tup ys] => some (qnl xs ys)
 | _ => none
def qnm (f : M (List D)) : M (List D) := bnd f fun ds => lift (qmH ds)
end
theorem qba : fillsNumberSlot (.type "tuple") "mul" = pure false := by
 first | kernel_rfl | (unfold fillsNumberSlot; kernel_rfl) | decide +kernel
theorem qd5 : seqRepeat? (.type "tuple") = pure (some (.builtin "tuple.__mul__")) := by
 first | kernel_rfl | (unfold seqRepeat?; kernel_rfl) | decide +kernel
theorem qbZ (a : Int) (t : Tok) (l : Addr) (dd : Option Addr) (items : Array Value) (n : Nat) (sl : Array (Option Value)) :
  Meets (Builtin.«int.__rmul__» ⟨[.int a t, .ref l], []⟩) (fun _ R s => s.heap.get? l = some { cls := .type "tuple", dict := dd, data := .seq items n, slots := sl } /\ R (.ok (.ret .notImplemented)) s) :=
 .of_wp fun prog w A R s h => by
  obtain ⟨hp, g, d, tk, os⟩ := s
  obtain ⟨hl, h⟩ := h
  wp_walk using wpAny_loadPart' hl
  exact ⟨_, rfl, h⟩
theorem qla (l : Addr) (dd : Option Addr) (items : Array Value) (n : Nat) (sl : Array (Option Value)) (k : Int) (t : Tok) (h0 : ¬ items.isEmpty = true) (h1 : ¬ (k == 1) = true) (h2 : ¬ k <= 0) (h3 : ¬ (decide (k < -(2 ^ 63)) || decide (k >= 2 ^ 63)) = true)
  (h4 : ¬ (items.size : Int) * k > (2 ^ 63 - 1) / 8) (h5 : ¬ Builtin.Tuple.tupleTooMany ((items.size : Int) * k) = true) (h6 : ((List.replicate k.toNat items).foldl (· ++ ·) #[]).size <= sizeLine) :
  Meets (Builtin.«tuple.__mul__» ⟨[.ref l, .int k t], []⟩) (fun _ R s => s.heap.get? l = some { cls := .type "tuple", dict := dd, data := .seq items n, slots := sl } /\
   R (.ok (.ret (.ref s.heap.objs.size))) { s with heap := s.heap.push { cls := .type "tuple", data := .seq ((List.replicate k.toNat items).foldl (· ++ ·) #[]) } }) :=
 .of_wp fun prog w A R s h => by
  obtain ⟨hp, g, d, tk, os⟩ := s
  obtain ⟨hl, h⟩ := h
  have f1 := AutoSeq1.idx_int
  have f2 := AutoSeq1.sub_tuple_tuple
  have h01 : ¬ (items.isEmpty || k == 1) = true := by simp only [Bool.or_eq_true, not_or]; exact ⟨h0, h1⟩
  have h02 : ¬ (decide (k <= 0) || items.isEmpty) = true := by simp only [Bool.or_eq_true, decide_eq_true_eq, not_or]; exact ⟨h2, h0⟩
  wp_walk using wpAny_loadPart' hl
  rw [if_neg h3]
  wp_walk using wpAny_loadPart' hl
  rw [if_neg h4]
  wp_walk using wpAny_loadPart' hl
  exact ⟨_, rfl, h⟩
section
variable {X : Cx}
def qlb (K : Fr0) : R2 := fun x y H Q => ∃ a xs k, x = .ref a /\ y = .int k /\ SqT K H a xs /\ xs ≠ [] /\ 2 <= k /\ xs.length * k.toNat <= sizeLine /\ ∀ p, H p = none -> Q (.ref p) (upd H p (.tup (List.replicate k.toNat xs).flatten))
theorem qi5 : OpR X (binaryOp .Mult) (qlb X.K) := by
 intro pins s Z H x y v u Q I rx ry h
 obtain ⟨a, xs, k, rfl, rfl, hx, hne, hk, hz, q⟩ := h
 cases rx
 obtain ⟨t, rfl⟩ := ry
 obtain ⟨its, r, p1, _⟩ := I.tuple hx
 obtain ⟨⟨cls, dd, data, sl⟩, ho, hc, n, hd⟩ := id p1
 simp only at hc hd
 subst hc hd
 have hl := r.length
 have hnew : List.foldl (fun x1 x2 => x1 ++ x2) #[] (List.replicate k.toNat its.toArray) = (List.replicate k.toNat its).flatten.toArray := by
  have := qac its k.toNat []
  rw [List.nil_append] at this
  exact this
 have hlen : (List.replicate k.toNat its).flatten.length = k.toNat * its.length := qcB its k.toNat
 have hsl : (sizeLine : Nat) = 16777216 := sizeLine_eq
 have e0 : ¬ its.toArray.isEmpty = true := by
  intro e
  have : its = [] := by simpa using e
  rw [this] at hl
  exact hne (List.length_eq_zero_iff.mp hl)
 have pos1 : 1 <= its.length := by
  cases its with
  | nil => simp at e0
  | cons z zs => simp
 have kk : ((k.toNat : Nat) : Int) = k := Int.toNat_of_nonneg (by omega)
 have mm : (its.toArray.size : Int) * k = ((its.length * k.toNat : Nat) : Int) := by rw [sT_, Int.natCast_mul, kk]
 have zz : its.length * k.toNat <= sizeLine := by rw [<- hl]; exact hz
 have kle : k.toNat <= its.length * k.toNat := Nat.le_mul_of_pos_left _ pos1
 have T1 : s.TypeIs (.ref a) "tuple" := ⟨_, ho, rfl⟩
 refine wpAny_binaryOp_repeat_ref (T := "tuple") (U := "int") (by decide) T1 (fun s' => typeIs_int s' k t) qba F.fills_int_mul F.slot_int_rmul qd5 F.slot_int_index.lookup
  (call_meets F.slot_int_rmul (typeIs_int s k t) F.entry_int_rmul (F.args_int_rmul_2 _ _) (qbZ k t a dd its.toArray n sl)
   ⟨ho, rfl, T1, call_meets F.slot_tuple_mul T1 F.entry_tuple_mul (F.args_tuple_mul_2 _ _) (qla a dd its.toArray n sl k t e0 (by simp; omega) (by omega) (by simp; omega) (by rw [mm]; omega) ?_ (by rw [hnew, sT_, hlen, Nat.mul_comm]; exact zz)) ⟨ho, ?_⟩⟩)
 ·rw [mm]
  show ¬ decide (((its.length * k.toNat : Nat) : Int) > (sizeLine : Int)) = true
  rw [decide_eq_true_eq]
  omega
 ·rw [hnew]
  refine ⟨.ref s.heap.objs.size, _, I.laid (t' := s.toks) (o := .tup (List.replicate k.toNat xs).flatten) (fun b ob q => Heap.get?_push_of_some _ q) (Nat.le_refl _) ?_, rfl, q _ (I.hok.fresh (Nat.le_refl _))⟩
  exact ⟨by rw [qcB, Nat.mul_comm]; exact hz, _, r.rep k.toNat, IsTup.new _ _⟩
def qlc (K : Fr0) : R2 := fun x y H Q => (rI qkG (fun i j => .int (i * j))) x y H Q \/ (qlb K x y H Q \/ qnh x y H Q)
theorem qO : OpR X (binaryOp .Mult) (qlc X.K) := OpR.or qkI (OpR.or qi5 qhN)
end
def zB : D -> D -> Option D
 | .int i, .int j => if qcC i j then some (.int (i * j)) else none
 | .tup ds, .int k => if (!ds.isEmpty && decide (2 <= k)) && qQ (ds.length * k.toNat) then some (.tup (List.replicate k.toNat ds).flatten) else none
 | .lst ds, .int k => if (decide (-(2 ^ 62) <= k) && decide (k < 2 ^ 62)) && qQ (ds.length * k.toNat) then some (.lst (List.replicate k.toNat ds).flatten) else none
 | _, _ => none
theorem IsL.rep {K : Fr0} {A : Addr -> Prop} {H : Hp} {ds : List D} {xs : List V} (h : IsL K A H ds xs) : ∀ k : Nat, IsL K A H (List.replicate k ds).flatten (List.replicate k xs).flatten
 | 0 => by simp [IsL]
 | k + 1 => by
  rw [rS_, rS_, List.flatten_cons, List.flatten_cons]
  exact IsL.append h (IsL.rep h k)
theorem qF {K : Fr0} : OpS K zB (qlc K) := by
 intro A H x y d v u Q hn ix iy e k
 cases x <;> cases y <;> simp only [zB] at e <;> try (cases e; done)
 ·rename_i i j
  obtain ⟨e1, e2⟩ := z0 e
  subst e2
  cases ix; cases iy
  exact .inl ⟨i, j, rfl, rfl, qgI e1, k _ H (jk.refl H) rfl⟩
 ·rename_i ds j
  obtain ⟨a, xs, rfl, ta, il⟩ := ix
  cases iy
  obtain ⟨e1, e2⟩ := z0 e
  subst e2
  rw [Bool.and_eq_true, Bool.and_eq_true] at e1
  obtain ⟨⟨e3, e4⟩, e5⟩ := e1
  refine .inr (.inl ⟨a, xs, j, rfl, rfl, ta.sq, fun z => ?_, of_decide_eq_true e4, by rw [il.length]; exact of_decide_eq_true e5, fun p hp => k _ _ (qD hp _) ⟨p, _, rfl, .inl qt, IsL.ext (Ext.of_same (qD hp _)) (fun _ h _ => h) (IsL.rep il _)⟩⟩)
  have := il.length
  rw [z] at this
  have : ds = [] := List.length_eq_zero_iff.mp this.symm
  rw [this] at e3
  simp at e3
 ·rename_i ds j
  obtain ⟨a, xs, rfl, _, ta, il⟩ := ix
  cases iy
  obtain ⟨e1, e2⟩ := z0 e
  subst e2
  rw [Bool.and_eq_true, Bool.and_eq_true] at e1
  obtain ⟨⟨e3, e4⟩, e5⟩ := e1
  have e3' := of_decide_eq_true e3
  have e4' := of_decide_eq_true e4
  refine .inr (.inr ⟨a, j, xs, rfl, rfl, ta, by omega, by omega, by rw [il.length]; exact of_decide_eq_true e5, fun p hp => k _ _ (qD hp _) ⟨p, _, rfl, hn p hp, qt, IsL.ext (Ext.of_same (qD hp _)) (fun _ h _ => h) (IsL.rep il _)⟩⟩)
def qb0 : D -> Option D
 | .int i => some (.int (-i))
 | _ => none
def d1 (F : D -> Option D) (f : M D) : M D := bnd f fun x => lift (F x)
def qgX (i j : Int) : Bool := decide (0 <= j) && decide (j <= 1000000) && decide (i.natAbs < 2 ^ 64)
def qi6 : D -> D -> Option D := qgH qgX fun i j => .int (i ^ j.toNat)
theorem qfg {K : Fr0} : OpS K qi6 (rI qnf fun i j => .int (i ^ j.toNat)) := qe0 (fun i j h => by
 unfold qgX at h
 rw [Bool.and_eq_true, Bool.and_eq_true] at h
 exact ⟨of_decide_eq_true h.1.1, of_decide_eq_true h.1.2, of_decide_eq_true h.2⟩) fun _ _ _ _ => rfl
section
variable {X : Cx} {c : Fc} {a b e : Expr} {pos : Pos}
theorem wJ {f : M D} (h : DE X c a f) : DE X c (.UnaryOp .USub a pos) (d1 qb0 f) := by
 obtain ⟨t, p, w⟩ := h
 refine ⟨_, qmq qkJ p, fun U Z H Q r h => w U Z H _ r (Wp.bnd h fun d U1 v H1 r1 i1 g1 h1 => ?_)⟩
 obtain ⟨d', e, h2⟩ := h1.lift
 cases d <;> simp only [qb0] at e <;> try (cases e; done)
 rename_i i
 cases e
 cases i1
 exact ⟨i, rfl, h2 _ H1 r1 rfl .refl⟩
def qi7 (X : Cx) (key : Key) (n : Int) : TE := fun _ H Q => ∀ p, H p = none -> Q (.ref p) (upd H p (.dK [(key, .int n)]))
theorem qld {pins : List (Addr × Obj)} {Z : St} {H : Hp} {s : Shared} (I : Inv X pins Z H s) : sysModules < s.heap.objs.size := by
 obtain ⟨mb, h1, _⟩ := I.ok.mod.blt
 have hlt : builtinsNs < X.base.objs.size := h1.lt
 have hle : X.base.objs.size <= s.heap.objs.size := Nat.le_trans I.ok.bsz I.sz
 have hd : sysModules < builtinsNs \/ sysModules < mainGlobals := by decide
 have hg : mainGlobals < X.base.objs.size := I.ok.mod.glob.lt
 rcases hd with z | z
 ·exact Nat.lt_of_lt_of_le (Nat.lt_trans z hlt) hle
 ·exact Nat.lt_of_lt_of_le (Nat.lt_trans z hg) hle
theorem qgY {key : Key} {n : Int} {ke : Expr} {j : Nat} {p1 : Pos} (hk : ∀ (s : Shared) (Q : Value -> Shared -> Prop) (E : Value -> Shared -> Prop), (∀ u tk, qbF key u = true -> Q u { s with toks := tk }) -> wpAny (model X.prog X.w) X.A (eval ke X.env) Q E s) :
  PE X (.Dict [some ke] [.Constant (.int n) j p1] pos) (qi7 X key n) := by
 intro pins s Z H Q I h
 have hf : H s.heap.objs.size = none := I.hok.fresh (Nat.le_refl _)
 refine wpAny_Dict_walk (knd := w5 X.prog X.w) rfl rfl (by simp) (by show 1 <= 15; decide) ?_
 refine evalPairs_cons (hk _ _ _ fun u tk hu => ?_)
 refine wpAny_bind (wpAny_Constant_int (wpAny_bind (wpAny_standAt (wpAny_pure (evalPairs_nil ?_)))))
 refine ⟨[(key, .int n tk)], ⟨hu, rfl, trivial⟩, Heap.DictOf.new _, fun h' hd sb => ?_⟩
 have e : merged [] [(key, Value.int n tk)] = [(key, Value.int n tk)] := by simp [merged, stored]
 rw [e] at hd
 refine ⟨.ref s.heap.objs.size, upd H s.heap.objs.size (.dK [(key, .int n)]), I.laid (fun b o q => sb.extBut _ _ (Nat.ne_of_lt (Heap.lt_size q)) (Heap.get?_push_of_some _ q)) (Nat.le_refl _) ?_, rfl, h _ hf⟩
 exact ⟨by show 1 <= sizeLine; decide, beq_eq_false_iff_ne.mpr (Ne.symm (Nat.ne_of_lt (qld I))), [(key, .int n tk)], .cons ⟨rfl, tk, rfl⟩ .nil, hd⟩
theorem qdj {key : Key} {n : Int} {ke : Expr} {j : Nat} {p1 : Pos} (hk : ∀ (s : Shared) (Q : Value -> Shared -> Prop) (E : Value -> Shared -> Prop), (∀ u tk, qbF key u = true -> Q u { s with toks := tk }) -> wpAny (model X.prog X.w) X.A (eval ke X.env) Q E s) :
  DE X c (.Dict [some ke] [.Constant (.int n) j p1] pos) (ret (.dic [(key, n)])) := by
 refine ⟨_, qgY hk, fun U Z H Q r h p hp => h _ _ (r.laid hp _) ⟨p, rfl, r.new hp, qt⟩ (.of_same (qD hp _))⟩
theorem qgZ {i n : Int} {j j2 : Nat} {p1 p2 : Pos} : DE X c (.Dict [some (.Constant (.int i) j2 p2)] [.Constant (.int n) j p1] pos) (ret (.dic [(.inl i, n)])) :=
 qdj fun s Q E h => wpAny_Constant_int (h _ _ (qey _ _))
theorem qg0 {x : Str} {n : Int} {j j2 : Nat} {p1 p2 : Pos} : DE X c (.Dict [some (.Constant (.str x) j2 p2)] [.Constant (.int n) j p1] pos) (ret (.dic [(.inr x, n)])) :=
 qdj fun s Q E h => Calls.Constant_str (h _ _ (qez _ _))
def qgs (i j : Nat) (f : M (List D)) : MS := sbnd f fun ds U => match ds with
 | [d, e] => .ok (.nx ((U.set i (some d)).set j (some e)))
 | _ => .bad
theorem qfh {i j : Nat} {x y : Str} {f : M (List D)} {px py pt : Pos} {kt k2 pt2} (hN : X.N.Nodup) (ha : DA X c [a, b] f) (hw : swappedStores [.Tuple [.Name x px, .Name y py] kt pt] (.Tuple [a, b] k2 pt2) X.env = pure (some [x, y])) (hc : X.calm = true := by rfl) (hi : X.N[i]? = some x := by rfl) (hj : X.N[j]? = some y := by rfl) (hij : i ≠ j := by decide)
  (hx : X.env.scope.names.lookup x = some .local := by rfl) (hy : X.env.scope.names.lookup y = some .local := by rfl) (ho : i ∉ c.O := by exact of_decide_eq_false rfl) (hp : j ∉ c.O := by exact of_decide_eq_false rfl)
  (hs : swapsWithSole [.Tuple [.Name x px, .Name y py] kt pt] (.Tuple [a, b] k2 pt2) pos.line X.env = pure false := by rfl) :
  DS X c (.Assign [.Tuple [.Name x px, .Name y py] kt pt] (.Tuple [a, b] k2 pt2) pos) (qgs i j f) := by
 obtain ⟨t, p, w⟩ := ha
 refine ⟨_, qkB hc hN hi hj hij hx hy p hw hs, fun U Z H D r h => w U Z H _ r (WpL.sbnd h fun ds U1 vs H1 r1 i1 g1 h1 => ?_)⟩
 match ds, i1, h1 with
 | [], _, h1 => exact h1.elim
 | [_], _, h1 => exact h1.elim
 | [d, e], i1, h1 =>
  obtain ⟨v, u, rfl, j1, j2⟩ := IsL.inv2 i1
  refine ⟨v, u, rfl, h1 _ H1 ((r1.set ho j1).set hp ?_) ((GrS.set ho).trans (GrS.set hp))⟩
  exact (GrS.set (H := H1) ho).is j2
 | _ :: _ :: _ :: _, _, h1 => exact h1.elim
mutual
def immF : D -> Bool
 | .tup ds => immFs ds
 | .lst _ => false
 | .dic _ => false
 | _ => true
def immFs : List D -> Bool
 | [] => true
 | d :: ds => immF d && immFs ds
end
mutual
theorem Is.immF {K : Fr0} {A B : Addr -> Prop} {H : Hp} : ∀ {d : D} {v : V}, immF d = true -> Is K A H d v -> Is K B H d v
 | .non, _, _, h => h
 | .bl _, _, _, h => h
 | .int _, _, _, h => h
 | .str _, _, _, h => h
 | .tup ds, _, i, ⟨a, xs, hv, h, r⟩ => ⟨a, xs, hv, h, IsL.immF (by simpa [Sk.immF] using i) r⟩
 | .lst _, _, i, _ => by simp [Sk.immF] at i
 | .dic _, _, i, _ => by simp [Sk.immF] at i
 | .fz _, _, _, h => h
 | .exc _, _, _, h => h
theorem IsL.immF {K : Fr0} {A B : Addr -> Prop} {H : Hp} : ∀ {ds : List D} {xs : List V}, immFs ds = true -> IsL K A H ds xs -> IsL K B H ds xs
 | [], _, _, h => h
 | d :: ds, _, i, ⟨x, ys, hx, h, r⟩ => by
  have i' : Sk.immF d = true /\ immFs ds = true := by simpa [immFs] using i
  exact ⟨x, ys, hx, Is.immF i'.1 h, IsL.immF i'.2 r⟩
end
def qfi (F : List D -> R D) (g : M (List D)) : M (List D) := bnd g fun ds U => if immFs ds then match F ds with
 | .ok (.lst bs) => if immL bs then .ok (bs, U) else .bad
 | _ => .bad else .bad
theorem qi8 {k : Nat} {f : Addr} {fd : FuncData} {ps : List Str} {F : List D -> R D} {x : Str} {p : Pos} {es : List Expr} {g : M (List D)} (G : u8 X.prog X.w X.K X.mg X.base CX0 k f fd ps (spD X.K F)) (hr : uc k X.A) (hg : Gl X x) (hm : X.mg x = some (.ref f)) (hk : PySem.W.keepIn X.K (.ref f) = true) (hb : uC X.K fd ps [])
  (ha : DA X c (e :: es) g) (hd : (x == ("__debug__" : Str)) = false := by decide) (he : starEach (e :: es) X.env = (false, eval e X.env) :: starEach es X.env := by rfl) (hpl : (backTo pos (starEach es X.env)).any (·.1) = false := by rfl) : DN X c (.Call (.Name x p) (e :: es) [] pos) (qfi F g) := by
 obtain ⟨t, pa, w⟩ := ha
 refine ⟨_, w9 G hr hg hm hk hb .nil qiQ pa hd he hpl, fun U Z H Q r h => w U Z H _ r (WpL.bndN h fun ds U1 vs H1 r1 i1 g1 h1 => ?_)⟩
 rw [List.append_nil]
 by_cases him : immFs ds = true
 ·rw [if_pos him] at h1
  refine ⟨ds, fun _ => False, IsL.immF him i1, r1.tb, ?_⟩
  cases ef : F ds with
  | bad => simp only [ef] at h1; exact h1.elim
  | exc z U' => simp only [ef] at h1; exact h1.elim
  | ok d =>
   cases d with
   | lst bs =>
    simp only [ef] at h1
    by_cases hb2 : immL bs = true
    ·rw [if_pos hb2] at h1
     intro v H' sm i
     obtain ⟨a, xs, rfl, hA, ha2, il⟩ := i
     have hn : H1 a = none := hA.elim False.elim id
     exact h1 a xs H' hn (r1.same sm) (r1.apart_same hn sm) ha2 trivial (IsL.imm hb2 il) (.of_same sm)
    ·rw [if_neg hb2] at h1; exact h1.elim
   | _ => simp only [ef] at h1; exact h1.elim
 ·rw [if_neg him] at h1; exact h1.elim
end
structure qi9 (outer : Scope) (N : List Str) (scope : Scope) (N' : List Str) (nt : Nat) (fr : List Nat) : Prop where
 kind : scope.kind = .function
 nocell : ∀ y ∈ scope.names, y.2 ≠ .cell
 names : ∀ y ∈ scope.names, y.2 = .local -> scope.names.lookup y.1 = some .local
 frees : ∀ y ∈ scope.names, y.2 = .free -> outer.names.lookup y.1 = some .cell
 len : N'.length = nt + fr.length
 slots : ∀ p ∈ fr.zipIdx, N'[nt + p.2]? = N[p.1]? /\ ((N[p.1]?).bind fun x => scope.names.lookup x) = some .free
theorem qi9.ok {X : Cx} {outer : Scope} {N : List Str} {scope : Scope} {N' : List Str} {nt : Nat} {fr : List Nat} (S : qi9 outer N scope N' nt fr) (h1 : X.env.scope = outer) (h2 : X.N = N) : CompScope X scope N' nt fr := by
 subst h1 h2
 refine ⟨S.kind, S.nocell, S.names, S.frees, S.len, fun i j h => ?_⟩
 have hm : (j, i) ∈ fr.zipIdx := by
  rw [List.mem_iff_getElem?]
  refine ⟨i, ?_⟩
  rw [List.getElem?_zipIdx, h]
  simp
 obtain ⟨h3, h4⟩ := S.slots (j, i) hm
 cases e : X.N[j]? with
 | none =>
  have h4' : ((X.N[j]?).bind fun x => scope.names.lookup x) = some .free := h4
  rw [e] at h4'; cases h4'
 | some x =>
  have h4' : ((X.N[j]?).bind fun x => scope.names.lookup x) = some .free := h4
  rw [e] at h4'
  exact ⟨x, by
    have h3' : N'[nt + i]? = X.N[j]? := h3
    rw [h3', e], rfl, h4'⟩
structure zr (P : Program) (w : World) (K : PySem.W.Frag) (mg : Str -> Option Value) (base : Heap) (k : Nat) (x : Str) (ps : List Str) (sp : Sp) : Prop where
 ex : ∃ f fd, u8 P w K mg base CX0 k f fd ps sp /\ mg x = some (.ref f) /\ PySem.W.keepIn K (.ref f) = true /\ uC K fd ps []
theorem vM : bootBuiltins "len" = some (.builtin "len") := by decide +kernel
theorem qle : bootBuiltins "abs" = some (.builtin "abs") := by decide +kernel
theorem qh1 : bootBuiltins "max" = some (.builtin "max") := by decide +kernel
theorem qlf : bootBuiltins "min" = some (.builtin "min") := by decide +kernel
theorem qlg : bootBuiltins "all" = some (.builtin "all") := by decide +kernel
theorem qfj : bootBuiltins "divmod" = some (.builtin "divmod") := by decide +kernel
theorem qfk : bootBuiltins "repr" = some (.builtin "repr") := by decide +kernel
theorem qh2 : bootBuiltins "int" = some (.type "int") := by decide +kernel
theorem qfl : bootBuiltins "bool" = some (.type "bool") := by decide +kernel
theorem uW : bootBuiltins "tuple" = some (.type "tuple") := by decide +kernel
theorem qy : bootBuiltins "isinstance" = some (.builtin "isinstance") := by decide +kernel
def yu : MS := fun U => .ok (.nx U)
theorem qG {X : Cx} {c : Fc} : DSs X c [] yu := qiR
theorem qr {X : Cx} : IxR X (fun x y H Q => qmy X.K x y H Q \/ qmz X.K x y H Q) := qeU.or qkR
theorem qja {c : Fc} {nt : Nat} {fr : List Nat} {i j : Nat} (h1 : j ∈ c.O) (h2 : nt <= i) (h3 : fr[i - nt]? = some j) (h4 : ∀ p ∈ fr.zipIdx, nt + p.2 ≠ i -> p.1 ∉ c.O) : qgU c nt fr (some (i, j)) :=
 ⟨h1, h2, h3, fun k j' h hk => h4 (j', k) (by rw [List.mem_iff_getElem?]; exact ⟨k, by rw [List.getElem?_zipIdx, h]; simp⟩) hk⟩
def eqB (x y : D) : Option D := match sc2 x y with
 | some b => some (.bl b)
 | none => eqA x y
def neB (x y : D) : Option D := match sc2 x y with
 | some b => some (.bl (!b))
 | none => neA x y
theorem vb {X : Cx} {k : Nat} (hr : uc k X.A) : OpR X (compareOp .Eq) (fun x y H Q => rEq x y H Q \/ qhY X.K false x y H Q) := OpR.or qms (qk9 hr)
theorem vc {X : Cx} {k : Nat} (hr : uc k X.A) : OpR X (compareOp .NotEq) (fun x y H Q => rNe x y H Q \/ qhY X.K true x y H Q) := OpR.or qkK (qhZ hr)
theorem yV {K : Fr0} : OpS K eqB (fun x y H Q => rEq x y H Q \/ qhY K false x y H Q) := by
 intro A H x y d v u Q hn ix iy e k
 unfold eqB at e
 cases e1 : sc2 x y with
 | some b => simp only [e1] at e; exact .inl (qiS A H x y d v u Q hn ix iy (by unfold eqS; rw [e1]; exact e) k)
 | none => simp only [e1] at e; exact .inr (qiZ A H x y d v u Q hn ix iy e k)
theorem yW {K : Fr0} : OpS K neB (fun x y H Q => rNe x y H Q \/ qhY K true x y H Q) := by
 intro A H x y d v u Q hn ix iy e k
 unfold neB at e
 cases e1 : sc2 x y with
 | some b => simp only [e1] at e; exact .inl (qe2 A H x y d v u Q hn ix iy (by unfold neS; rw [e1]; exact e) k)
 | none => simp only [e1] at e; exact .inr (qi0 A H x y d v u Q hn ix iy e k)
end L2.Sk
namespace L2.Sk
section
variable {α β : Type} {U : Env} {f g k : M D} {t u : M Bool} {l m : M (List D)} {p q r : MS}
theorem qb1 (a : α) : ret a U = .ok (a, U) := rfl
theorem qfm (o : Option α) : lift o U = match o with | some a => .ok (a, U) | none => .bad := by cases o <;> rfl
theorem qlh {f : M α} {k : α -> M β} : bnd f k U = match f U with | .ok (a, U') => k a U' | .exc x U' => .exc x U' | .bad => .bad := rfl
theorem qli (i : Nat) : dv i U = match U[i]? with | some (some d) => .ok (d, U) | _ => .bad := rfl
theorem jJ : qc f l U = match f U with | .ok (d, U1) => (match l U1 with | .ok (ds, U2) => .ok (d :: ds, U2) | .exc x U' => .exc x U' | .bad => .bad) | .exc x U' => .exc x U' | .bad => .bad := by
 simp only [qc, bnd, sbnd]
 cases f U with
 | ok z =>
  obtain ⟨z1, U1⟩ := z
  simp only [ret]
  cases l U1 with
  | ok z => obtain ⟨z2, U2⟩ := z; rfl
  | exc x U' => rfl
  | bad => rfl
 | exc x U' => rfl
 | bad => rfl
theorem qdk : yn l U = match l U with | .ok (ds, U1) => (if qQ ds.length then .ok (.tup ds, U1) else .bad) | .exc x U' => .exc x U' | .bad => .bad := by
 simp only [yn, bnd, sbnd]
 cases l U with
 | ok z =>
  obtain ⟨z1, U1⟩ := z
  cases h : qQ z1.length <;> simp [h, lift, ret]
 | exc x U' => rfl
 | bad => rfl
theorem qdl : uE l U = match l U with | .ok (ds, U1) => (if qQ ds.length then .ok (.lst ds, U1) else .bad) | .exc x U' => .exc x U' | .bad => .bad := by
 simp only [uE, bnd, sbnd]
 cases l U with
 | ok z =>
  obtain ⟨z1, U1⟩ := z
  cases h : qQ z1.length <;> simp [h, lift, ret]
 | exc x U' => rfl
 | bad => rfl
theorem qh3 : qma l U = match l U with | .ok (ds, U1) => (if immL ds && qQ ds.length then .ok (ds, U1) else .bad) | .exc x U' => .exc x U' | .bad => .bad := by
 simp only [qma, bnd, sbnd]
 cases l U with
 | ok z =>
  obtain ⟨z1, U1⟩ := z
  cases h : (immL z1 && qQ z1.length) <;> simp [h, lift, ret]
 | exc x U' => rfl
 | bad => rfl
theorem qmI (F : D -> D -> Option D) : d2 F f g U = match f U with | .ok (x, U1) => (match g U1 with | .ok (y, U2) => (match F x y with | some d => .ok (d, U2) | none => .bad) | .exc x U' => .exc x U' | .bad => .bad) | .exc x U' => .exc x U' | .bad => .bad := by
 simp only [d2, bnd, sbnd]
 cases f U with
 | ok z =>
  obtain ⟨z1, U1⟩ := z
  dsimp only <;>
  cases g U1 with
  | ok z => obtain ⟨z2, U2⟩ := z; (dsimp only; cases F z1 z2 <;> rfl)
  | exc x U' => rfl
  | bad => rfl
 | exc x U' => rfl
 | bad => rfl
theorem qmJ (F : D -> Option D) : d1 F f U = match f U with | .ok (x, U1) => (match F x with | some d => .ok (d, U1) | none => .bad) | .exc x U' => .exc x U' | .bad => .bad := by
 simp only [d1, bnd, sbnd]
 cases f U with
 | ok z =>
  obtain ⟨z1, U1⟩ := z
  (dsimp only; cases F z1 <;> rfl)
 | exc x U' => rfl
 | bad => rfl
theorem qan (F : List D -> Option D) : zV F l U = match l U with | .ok (xs, U1) => (match F xs with | some d => .ok (d, U1) | none => .bad) | .exc x U' => .exc x U' | .bad => .bad := by
 simp only [zV, bnd, sbnd]
 cases l U with
 | ok z =>
  obtain ⟨z1, U1⟩ := z
  (dsimp only; cases F z1 <;> rfl)
 | exc x U' => rfl
 | bad => rfl
theorem uh (F : List D -> R D) : qo F l U = match l U with | .ok (xs, U1) => (match F xs with | .ok d => .ok (d, U1) | _ => .bad) | .exc x U' => .exc x U' | .bad => .bad := by
 simp only [qo, bnd, sbnd]
 cases l U with
 | ok z =>
  obtain ⟨z1, U1⟩ := z
  cases F z1 <;> rfl
 | exc x U' => rfl
 | bad => rfl
theorem qh4 (T : String) : qev T f U = match f U with | .ok (d, U1) => .ok (.bl (qcF (tyD d) T), U1) | .exc x U' => .exc x U' | .bad => .bad := by
 simp only [qev, bnd, sbnd]
 cases f U with
 | ok z =>
  obtain ⟨z1, U1⟩ := z
  rfl
 | exc x U' => rfl
 | bad => rfl
theorem qjb : tst f U = match f U with | .ok (d, U1) => (match asB d with | some b => .ok (b, U1) | none => .bad) | .exc x U' => .exc x U' | .bad => .bad := by
 simp only [tst, bnd, sbnd]
 cases f U with
 | ok z =>
  obtain ⟨z1, U1⟩ := z
  (dsimp only; cases asB z1 <;> rfl)
 | exc x U' => rfl
 | bad => rfl
theorem vd (b : Bool) : asB (.bl b) = some b := rfl
theorem qfn : vj t U = match t U with | .ok (b, U1) => .ok (!b, U1) | .exc x U' => .exc x U' | .bad => .bad := by
 simp only [vj, bnd, sbnd]
 cases t U with
 | ok z =>
  obtain ⟨z1, U1⟩ := z
  rfl
 | exc x U' => rfl
 | bad => rfl
theorem qdm : qbD t u U = match t U with | .ok (b, U1) => (bif b then u U1 else .ok (false, U1)) | .exc x U' => .exc x U' | .bad => .bad := by
 simp only [qbD, bnd, sbnd]
 cases t U with
 | ok z =>
  obtain ⟨z1, U1⟩ := z
  cases z1 <;> rfl
 | exc x U' => rfl
 | bad => rfl
theorem qaG : tor t u U = match t U with | .ok (b, U1) => (bif b then .ok (true, U1) else u U1) | .exc x U' => .exc x U' | .bad => .bad := by
 simp only [tor, bnd, sbnd]
 cases t U with
 | ok z =>
  obtain ⟨z1, U1⟩ := z
  cases z1 <;> rfl
 | exc x U' => rfl
 | bad => rfl
theorem qdn : qeu f g U = match f U with | .ok (d, U1) => (match asB d with | some b => (bif b then g U1 else .ok (.bl false, U1)) | none => .bad) | .exc x U' => .exc x U' | .bad => .bad := by
 simp only [qeu, bnd, sbnd]
 cases f U with
 | ok z =>
  obtain ⟨z1, U1⟩ := z
  simp only [qfm]
  cases asB z1 with
  | none => rfl
  | some b => cases b <;> rfl
 | exc x U' => rfl
 | bad => rfl
theorem qlj : dor f g U = match f U with | .ok (d, U1) => (match asB d with | some b => (bif b then .ok (.bl true, U1) else g U1) | none => .bad) | .exc x U' => .exc x U' | .bad => .bad := by
 simp only [dor, bnd, sbnd]
 cases f U with
 | ok z =>
  obtain ⟨z1, U1⟩ := z
  simp only [qfm]
  cases asB z1 with
  | none => rfl
  | some b => cases b <;> rfl
 | exc x U' => rfl
 | bad => rfl
theorem qh5 : qkW f U = match f U with | .ok (d, U1) => (match asB d with | some b => .ok (.bl (!b), U1) | none => .bad) | .exc x U' => .exc x U' | .bad => .bad := by
 simp only [qkW, bnd, sbnd]
 cases f U with
 | ok z =>
  obtain ⟨z1, U1⟩ := z
  simp only [qfm]
  cases asB z1 with
  | none => rfl
  | some b => cases b <;> rfl
 | exc x U' => rfl
 | bad => rfl
theorem qg1 : dif t f g U = match t U with | .ok (b, U1) => (bif b then f U1 else g U1) | .exc x U' => .exc x U' | .bad => .bad := by
 simp only [dif, bnd, sbnd]
 cases t U with
 | ok z =>
  obtain ⟨z1, U1⟩ := z
  cases z1 <;> rfl
 | exc x U' => rfl
 | bad => rfl
theorem qg2 : sif t p q U = match t U with | .ok (b, U1) => (bif b then p U1 else q U1) | .exc x U' => .exc x U' | .bad => .bad := by
 simp only [sif, bnd, sbnd]
 cases t U with
 | ok z =>
  obtain ⟨z1, U1⟩ := z
  cases z1 <;> rfl
 | exc x U' => rfl
 | bad => rfl
theorem qh6 : qN p q U = match p U with | .ok (.nx U') => q U' | z => z := by
 unfold qN
 cases p U with
 | ok z => cases z <;> rfl
 | exc x U' => rfl
 | bad => rfl
theorem qao : jv f U = match f U with | .ok (d, U1) => .ok (.rt d U1) | .exc x U' => .exc x U' | .bad => .bad := by
 simp only [jv, bnd, sbnd]
 cases f U with
 | ok z =>
  obtain ⟨z1, U1⟩ := z
  rfl
 | exc x U' => rfl
 | bad => rfl
theorem wK (i : Nat) : zf i f U = match f U with | .ok (d, U1) => .ok (.nx (U1.set i (some d))) | .exc x U' => .exc x U' | .bad => .bad := by
 simp only [zf, bnd, sbnd]
 cases f U with
 | ok z =>
  obtain ⟨z1, U1⟩ := z
  rfl
 | exc x U' => rfl
 | bad => rfl
theorem qbb (i : Nat) : qal i l U = match l U with | .ok (ds, U1) => .ok (.nx (U1.set i (some (.lst ds)))) | .exc x U' => .exc x U' | .bad => .bad := by
 simp only [qal, bnd, sbnd]
 cases l U with
 | ok z =>
  obtain ⟨z1, U1⟩ := z
  rfl
 | exc x U' => rfl
 | bad => rfl
theorem qbc : uF f U = match f U with | .ok (_, U1) => .ok (.nx U1) | .exc x U' => .exc x U' | .bad => .bad := by
 simp only [uF, bnd, sbnd]
 cases f U with
 | ok z =>
  obtain ⟨z1, U1⟩ := z
  rfl
 | exc x U' => rfl
 | bad => rfl
theorem qh7 : yu U = .ok (.nx U) := rfl
theorem qfo (i j : Nat) : qgs i j l U = match l U with | .ok ([d, e], U1) => .ok (.nx ((U1.set i (some d)).set j (some e))) | .ok _ => .bad | .exc x U' => .exc x U' | .bad => .bad := by
 simp only [qgs, bnd, sbnd]
 cases l U with
 | ok z =>
  obtain ⟨z1, U1⟩ := z
  match z1 with
  | [] => rfl
  | [_] => rfl
  | [_, _] => rfl
  | _ :: _ :: _ :: _ => rfl
 | exc x U' => rfl
 | bad => rfl
theorem qfp (G : D -> Env -> Option Env) : qgG f G U = match f U with | .ok (d, U1) => (match G d U1 with | some U2 => .ok (.nx U2) | none => .bad) | .exc x U' => .exc x U' | .bad => .bad := by
 simp only [qgG, bnd, sbnd]
 cases f U with
 | ok z =>
  obtain ⟨z1, U1⟩ := z
  dsimp only <;>
  cases G z1 U1 <;> rfl
 | exc x U' => rfl
 | bad => rfl
theorem ve (G : D -> Env -> Option Env) (b : MS) : qcw l G b U = match l U with | .ok (ds, U1) => jV G b ds U1 | .exc x U' => .exc x U' | .bad => .bad := by
 simp only [qcw, bnd, sbnd]
 cases l U with
 | ok z =>
  obtain ⟨z1, U1⟩ := z
  rfl
 | exc x U' => rfl
 | bad => rfl
theorem qfq : qcG f U = match f U with | .ok (d, U1) => (match ql9 d with | some ds => .ok (ds, U1) | none => .bad) | .exc x U' => .exc x U' | .bad => .bad := by
 simp only [qcG, bnd, sbnd]
 cases f U with
 | ok z =>
  obtain ⟨z1, U1⟩ := z
  (dsimp only; cases ql9 z1 <;> rfl)
 | exc x U' => rfl
 | bad => rfl
theorem qfr : wR l U = match l U with | .ok (d, U1) => (match qhV d with | some ds => .ok (ds, U1) | none => .bad) | .exc x U' => .exc x U' | .bad => .bad := by
 simp only [wR, bnd, sbnd]
 cases l U with
 | ok z =>
  obtain ⟨z1, U1⟩ := z
  (dsimp only; cases qhV z1 <;> rfl)
 | exc x U' => rfl
 | bad => rfl
theorem qh8 : qnm l U = match l U with | .ok (d, U1) => (match qmH d with | some ds => .ok (ds, U1) | none => .bad) | .exc x U' => .exc x U' | .bad => .bad := by
 simp only [qnm, bnd, sbnd]
 cases l U with
 | ok z =>
  obtain ⟨z1, U1⟩ := z
  (dsimp only; cases qmH z1 <;> rfl)
 | exc x U' => rfl
 | bad => rfl
theorem qfs {nt : Nat} {fr : List Nat} {fo : Option (Nat × Nat)} {G : D -> Env -> Option Env} {e : M D} : qbV nt fr fo l G t e U = match l U with
  | .ok (ds, U1) => (match zI G t e ds [] (jS nt fr U1) with | .ok (ys, Ue) => .ok (.lst ys, qgT fo Ue U1) | _ => .bad) | .exc x U' => .exc x U' | .bad => .bad := by
 simp only [qbV, bnd, sbnd]
 cases l U with
 | ok z =>
  obtain ⟨z1, U1⟩ := z
  dsimp only <;>
  cases zI G t e z1 [] (jS nt fr U1) with
  | ok z => obtain ⟨z2, U2⟩ := z; rfl
  | exc x U' => rfl
  | bad => rfl
 | exc x U' => rfl
 | bad => rfl
theorem qb2 (F : List D -> List D -> R (D × List D)) (i : Nat) : qx F i l U = match zJ i U with
  | none => .bad
  | some _ => (match l U with
   | .ok (ds, U1) => (match zJ i U1 with
    | none => .bad
    | some bs => (match F bs ds with | .ok (d, bs') => .ok (d, U1.set i (some (.lst bs'))) | _ => .bad))
   | .exc x U' => .exc x U' | .bad => .bad) := by
 simp only [qx, bnd]
 cases zJ i U with
 | none => rfl
 | some _ =>
  dsimp only <;>
  cases l U with
  | ok z =>
   obtain ⟨z1, U1⟩ := z
   dsimp only <;>
   cases zJ i U1 with
   | none => rfl
   | some bs =>
    dsimp only <;>
    cases F bs z1 with
    | ok z => obtain ⟨z2, z3⟩ := z; rfl
    | exc x U' => rfl
    | bad => rfl
  | exc x U' => rfl
  | bad => rfl
theorem qft (F : List D -> R D) : qfi F l U = match l U with
  | .ok (ds, U1) => (if immFs ds then (match F ds with | .ok (.lst bs) => (if immL bs then .ok (bs, U1) else .bad) | _ => .bad) else .bad) | .exc x U' => .exc x U' | .bad => .bad := by
 simp only [qfi, bnd, sbnd]
 cases l U with
 | ok z =>
  obtain ⟨z1, U1⟩ := z
  dsimp only <;>
  cases immFs z1 with
  | false => rfl
  | true =>
   simp only [if_true]
   cases F z1 with
   | ok z => cases z <;> rfl
   | exc x U' => rfl
   | bad => rfl
 | exc x U' => rfl
 | bad => rfl
theorem qfu (i : Nat) : qdg i f U = match zJ i U with
  | none => .bad
  | some _ => (match f U with
   | .ok (k, U1) => (match k, zJ i U1 with
    | .int n, some ds => (match atI ds n with | some d => .ok (d, U1) | none => .bad)
    | _, _ => .bad)
   | .exc x U' => .exc x U' | .bad => .bad) := by
 simp only [qdg, bnd]
 cases zJ i U with
 | none => rfl
 | some _ =>
  dsimp only <;>
  cases f U with
  | ok z =>
   obtain ⟨z1, U1⟩ := z
   dsimp only <;>
   cases z1 <;> cases zJ i U1 <;> try rfl
  | exc x U' => rfl
  | bad => rfl
theorem qcL (i : Nat) : vJ i k f U = match f U with
  | .ok (d, U1) => (match zJ i U1 with
   | none => .bad
   | some _ => (match k U1 with
    | .ok (j, U2) => (match j, zJ i U2 with
     | .int n, some ds => (match ixN ds.length n with
      | some q => if imm d then .ok (.nx (U2.set i (some (.lst (ds.set q d))))) else .bad
      | none => .bad)
     | _, _ => .bad)
    | .exc x U' => .exc x U' | .bad => .bad))
  | .exc x U' => .exc x U' | .bad => .bad := by
 simp only [vJ, bnd, sbnd]
 cases f U with
 | ok z =>
  obtain ⟨z1, U1⟩ := z
  dsimp only <;>
  cases zJ i U1 with
  | none => rfl
  | some _ =>
   dsimp only <;>
   cases k U1 with
   | ok z =>
    obtain ⟨z2, U2⟩ := z
    dsimp only <;>
    cases z2 <;> cases zJ i U2 <;> try rfl
   | exc x U' => rfl
   | bad => rfl
 | exc x U' => rfl
 | bad => rfl
theorem qfv (i : Nat) : qbW i U = match zJ i U with | some ds => .ok (.int ds.length, U) | none => .bad := by
 unfold qbW
 cases zJ i U <;> rfl
theorem qcM (i : Nat) : qd4 i U = match zJ i U with | some ds => .ok (.tup ds, U) | none => .bad := by
 unfold qd4
 cases zJ i U <;> rfl
theorem qfw (i : Nat) : qex i f U = match zJ i U with
  | none => .bad
  | some _ => (match f U with
   | .ok (y, U1) => (match zJ i U1 with
    | none => .bad
    | some ds => (match neA (.lst ds) y with | some d => .ok (d, U1) | none => .bad))
   | .exc x U' => .exc x U' | .bad => .bad) := by
 simp only [qex, bnd]
 cases zJ i U with
 | none => rfl
 | some _ =>
  dsimp only <;>
  cases f U with
  | ok z =>
   obtain ⟨z1, U1⟩ := z
   dsimp only <;>
   cases zJ i U1 with
   | none => rfl
   | some ds => (dsimp only; cases neA (.lst ds) z1 <;> rfl)
  | exc x U' => rfl
  | bad => rfl
theorem qb3 (i : Nat) : vp i f U = match zJ i U with
  | none => .bad
  | some _ => (match f U with
   | .ok (d, U1) => (match zJ i U1 with
    | some ds => if imm d && qQ (ds.length + 1) then .ok (.non, U1.set i (some (.lst (ds ++ [d])))) else .bad
    | none => .bad)
   | .exc x U' => .exc x U' | .bad => .bad) := by
 simp only [vp, bnd]
 cases zJ i U with
 | none => rfl
 | some _ =>
  dsimp only <;>
  cases f U with
  | ok z =>
   obtain ⟨z1, U1⟩ := z
   dsimp only <;>
   cases zJ i U1 <;> rfl
  | exc x U' => rfl
  | bad => rfl
theorem qlk {g k : M (Option Int)} : dsl f g k U = match f U with
  | .ok (d, U1) => (match g U1 with
   | .ok (lo, U2) => (match k U2 with
    | .ok (hi, U3) => (match slD d lo hi with | some x => .ok (x, U3) | none => .bad)
    | .exc x U' => .exc x U' | .bad => .bad)
   | .exc x U' => .exc x U' | .bad => .bad)
  | .exc x U' => .exc x U' | .bad => .bad := by
 simp only [dsl, bnd, sbnd]
 cases f U with
 | ok z =>
  obtain ⟨z1, U1⟩ := z
  dsimp only <;>
  cases g U1 with
  | ok z =>
   obtain ⟨z2, U2⟩ := z
   dsimp only <;>
   cases k U2 with
   | ok z => obtain ⟨z3, U3⟩ := z; (dsimp only; cases slD z1 z2 z3 <;> rfl)
   | exc x U' => rfl
   | bad => rfl
  | exc x U' => rfl
  | bad => rfl
 | exc x U' => rfl
 | bad => rfl
theorem qfx : qk1 f U = match f U with | .ok (.int i, U1) => .ok (some i, U1) | .ok _ => .bad | .exc x U' => .exc x U' | .bad => .bad := by
 simp only [qk1, bnd, sbnd]
 cases f U with
 | ok z =>
  obtain ⟨z1, U1⟩ := z
  cases z1 <;> rfl
 | exc x U' => rfl
 | bad => rfl
end
theorem jr {n : Nat} (h : n <= 1000000) : qQ n = true := by
 unfold qQ
 exact decide_eq_true (Nat.le_trans h (by rw [PySem.sizeLine_eq]; decide))
theorem qjc {n p : Nat} {body : MS} {ds : List D} {d : D} {U : Env} (h : ds.length = p) (e : body (jC n ds) = .ok (.rt d U)) : dfn n p body ds = .ok d := by
 unfold dfn; rw [if_pos h, e]
theorem qdo {n p : Nat} {body : MS} {bs ds bs' : List D} {d : D} {U : Env} (h : ds.length + 1 = p) (e : body (jC n (.lst bs :: ds)) = .ok (.rt d U)) (g : zJ 0 U = some bs') : v5 n p body bs ds = .ok (d, bs') := by
 unfold v5; rw [if_pos h, e]; simp only [g]
end L2.Sk
namespace L2.Sk
open PySem PySem.Spec PyProof.Rows
section
variable {prog : Program} {w : World} {A : Around} {E : Value -> Shared -> Prop} {s : Shared}
theorem qfy {l : Addr} {xs : Array Value} {Q : Value -> Shared -> Prop} (t1 : s.heap.IsTuple l xs)
  (fin : ∀ h', IsEnum h' (s.heap.objs.size + 1) s.heap.objs.size 0 .none -> h'.IsTupleIter s.heap.objs.size l 0 -> (∀ c o, s.heap.get? c = some o -> h'.get? c = some o) -> Q (.ref (s.heap.objs.size + 1)) { s with heap := h' }) :
  wpAny (model prog w) A (call (.type "enumerate") [.ref l]) Q E s := by
 have meets : Meets (Builtin.«enumerate.__new__» ⟨[.type "enumerate", .ref l], []⟩) (fun _ R s => s.heap.IsTuple l xs /\
   R (.ok (.ret (.ref (s.heap.objs.size + 1)))) { s with heap := (s.heap.push { cls := .type "tuple_iterator", data := .fields #[.ref l, .int 0 0] }).push { cls := .type "enumerate", data := .fields #[.none, .bool false, .ref s.heap.objs.size, rawInt 0, .none, .none] } }) :=
  .of_wp fun prog w A R s h => by
   obtain ⟨hp, g, d, tk, os⟩ := s
   obtain ⟨ha, h⟩ := h
   have hsub := sub_enumerate
   have hA : Heap.IsTuple (Shared.heap ⟨hp, g, d, tk, os⟩) l xs := ha
   obtain ⟨o, ho, _⟩ := id ha
   have ho' : hp.get? l = some o := ho
   wp_walk using AutoSeq1.wpAny_loadPart' ho'
   refine wpAny_stack_any fun st => wpAny_pure ?_
   split
   ·rename_i c _ _ _ _ _
    cases (c == Value.type "enumerate")
    ·wp_walk using AutoSeq1.wpAny_loadPart' ho', wpAny_pyIter_tuple hA
     simp only [Heap.size_push] at *
     exact ⟨_, rfl, h⟩
    ·wp_walk using AutoSeq1.wpAny_loadPart' ho', wpAny_pyIter_tuple hA
     simp only [Heap.size_push] at *
     exact ⟨_, rfl, h⟩
   ·wp_walk using AutoSeq1.wpAny_loadPart' ho', wpAny_pyIter_tuple hA
    simp only [Heap.size_push] at *
    exact ⟨_, rfl, h⟩
 refine callType_new F.called_enumerate (by decide) (F.typeCall_enumerate_1 _) (F.newCall_enumerate_1 _) (fun obj => F.args_object_init_2 obj _) F.entry_enumerate_new meets ⟨t1, ?_⟩
 generalize e1 : s.heap.push { cls := .type "tuple_iterator", data := .fields #[.ref l, .int 0 0] } = m1
 have s1 : m1.objs.size = s.heap.objs.size + 1 := by rw [<- e1, Heap.size_push]
 have q1 : m1.get? s.heap.objs.size = some { cls := .type "tuple_iterator", data := .fields #[.ref l, .int 0 0] } := by rw [<- e1]; exact Heap.get?_push_size _ rfl
 have k1 : ∀ c o, s.heap.get? c = some o -> m1.get? c = some o := fun c o x => by rw [<- e1]; exact Heap.get?_push_of_some _ x
 generalize e2 : m1.push { cls := .type "enumerate", data := .fields #[.none, .bool false, .ref s.heap.objs.size, rawInt 0, .none, .none] } = m2
 have q2 : m2.get? (s.heap.objs.size + 1) = some { cls := .type "enumerate", data := .fields #[.none, .bool false, .ref s.heap.objs.size, rawInt 0, .none, .none] } := by rw [<- e2, <- s1]; exact Heap.get?_push_size _ rfl
 have k2 : ∀ c o, m1.get? c = some o -> m2.get? c = some o := fun c o x => by rw [<- e2]; exact Heap.get?_push_of_some _ x
 show _ /\ _
 exact ⟨⟨_, q2, rfl⟩, fin m2 q2 ⟨_, k2 _ _ q1, rfl, rfl⟩ fun c o x => k2 _ _ (k1 _ _ x)⟩
end
def Ite (K : Fr0) (a : Addr) (xs : List V) : It :=
 ⟨fun i H => i < xs.length /\ SqT K H a xs, fun i H x H' => ∃ p u, H p = none /\ xs[i]? = some u /\ x = .ref p /\ H' = upd H p (.tup [.int i, u]), fun i H => i = xs.length /\ SqT K H a xs⟩
def ESt (z i1 a1 : Addr) (i : Nat) (h : Heap) : Prop := (∃ old, IsEnum h z i1 i old) /\ h.IsTupleIter i1 a1 i
theorem qfz {P : Program} {w : World} {K : Fr0} {es : List Expr} {kk : Nat} {pos : Pos} {z i1 a1 : Addr} {xs : List V} (zi : z ≠ i1) (za : z ≠ a1) (n1 : a1 ≠ i1) :
  qkD P w K (.Tuple es kk pos) (Ite K a1 xs) [z, i1] z (ESt z i1 a1) where
 mem := by simp
 obj := fun i h st b hb => by
  obtain ⟨⟨old, h1⟩, ⟨o4, h4, c4, d4⟩⟩ := st
  simp only [List.mem_cons, nN_, or_false] at hb
  rcases hb with rfl | rfl
  ·exact ⟨_, h1, fun v e => by cases (show Data.fields _ = Data.cell v from e)⟩
  ·exact ⟨_, h4, fun v e => by rw [d4] at e; cases e⟩
 keep := fun i h h' st k => by
  obtain ⟨⟨old, h1⟩, h4⟩ := st
  exact ⟨⟨old, k z (by simp) _ h1⟩, h4.at fun o e => k i1 (by simp) o e⟩
 item := by
  intro X hP hw hK hc i pins s Z H E I hf st hg
  subst hP hw hK
  obtain ⟨hlt, hx⟩ := hg
  obtain ⟨⟨old, h1⟩, h4⟩ := st
  obtain ⟨it1, r1, p1, z1⟩ := I.tuple hx
  have l1 : i < it1.toArray.size := by rw [sT_, <- r1.length]; omega
  have hh : X.A.in1.handled = none := I.ok.hd hc
  refine wpAny_pyNext_enum_itemD (qdi hh i1 a1 n1 it1.toArray) h1 ⟨h4, p1⟩ l1 zi (by simp [zi, za]) fun x h' tk px ho u1 new hsz kp => ?_
  refine ⟨.ref s.heap.objs.size, rfl, wpAny_letOwnedTupleGo_enum ho fun h2' zz2 sb => ?_⟩
  obtain ⟨xv, hxv⟩ : ∃ v, xs[i]? = some v := ⟨xs[i]'(by omega), gG (by omega)⟩
  obtain ⟨x', ex, rx⟩ := r1.get hxv
  have exx : x' = x := by
   have : it1.toArray[i]? = some x := px
   rw [List.getElem?_toArray, ex] at this
   exact Option.some.inj this
  subst exx
  have lz : z < s.heap.objs.size := Heap.lt_size h1
  have keep : ∀ b u, b ∉ [z, i1] -> s.heap.get? b = some u -> h2'.get? b = some u := fun b u hb e => by
   simp only [List.mem_cons, nN_, or_false, not_or] at hb
   exact (sb.2 b hb.1).trans (kp b u hb.1 hb.2 e)
  have I2 : Inv X pins Z (upd H s.heap.objs.size (.tup [.int i, xv])) { s with heap := h2', toks := tk + 1 } :=
   qi3 I keep hf (Nat.le_refl _) ⟨by show 2 <= sizeLine; decide, [.int i tk, x'], .cons ⟨tk, rfl⟩ (.cons rx .nil), ⟨_, (sb.2 _ (Nat.ne_of_gt lz)).trans new, rfl, _, rfl⟩⟩
  refine ⟨.ref s.heap.objs.size, upd H s.heap.objs.size (.tup [.int i, xv]), I2, rfl, ⟨s.heap.objs.size, xv, I.hok.fresh (Nat.le_refl _), hxv, rfl, rfl⟩, ?_, fun b hb => ?_⟩
  ·exact ⟨⟨_, by simpa using zz2⟩, u1.1.at fun o e => (sb.2 i1 zi.symm).trans e⟩
  ·have hb1 : b ≠ s.heap.objs.size := by
    simp only [List.mem_cons, nN_, or_false] at hb
    obtain ⟨o4, g4, _⟩ := h4
    rcases hb with rfl | rfl
    ·exact Nat.ne_of_lt (Heap.lt_size h1)
    ·exact Nat.ne_of_lt (Heap.lt_size g4)
   rw [qp hb1]
   exact (hf b hb).1
 done := by
  intro X hP hw hK hc i pins s Z H E I hf st hg
  subst hP hw hK
  obtain ⟨hlt, hx⟩ := hg
  obtain ⟨⟨old, h1⟩, h4⟩ := st
  obtain ⟨it1, r1, p1, z1⟩ := I.tuple hx
  have hh : X.A.in1.handled = none := I.ok.hd hc
  have e : i = it1.toArray.size := by rw [sT_, <- r1.length]; exact hlt
  subst e
  refine wpAny_pyNext_enum_endD (qdi hh i1 a1 n1 it1.toArray) h1 ⟨h4, p1⟩ fun h' kp => ⟨rfl, qi4 (t' := s.toks) I (fun b u hb e => ?_) hf⟩
  simp only [List.mem_cons, nN_, or_false, not_or] at hb
  exact kp b u hb.2 e
 self := fun A i s Q E st h => by
  obtain ⟨⟨old, h1⟩, _⟩ := st
  exact wpAny_pyIter_enum h1 h
section
variable {X : Cx} {c : Fc} {a b e : Expr} {pos : Pos} {es : List Expr} {kk : Nat} {tp : Pos}
def qmK (K : Fr0) (ta : TA) : TI := fun Z H R => ta Z H fun vs H1 => ∃ a1 xs, vs = [.ref a1] /\ SqT K H1 a1 xs /\ R (Ite K a1 xs) H1
theorem qjd {ta : TA} {p : Pos} (hg : Gl X "enumerate") (hm : X.mg "enumerate" = none) (ha : PA X [a] ta) (hs : starEach [a] X.env = [(false, eval a X.env)] := by rfl) :
  PI X (.Tuple es kk tp) (.Call (.Name "enumerate" p) [a] [] pos) (qmK X.K ta) := by
 intro pins s Z H R I h
 refine Call_ (qaJ I hg hm PyProof.Rows.boot_enumerate (PyProof.Rows.callWith_type1 (thn (ha pos pins s Z H _ I h) fun us s1 ⟨vs, H1, I1, r1, q1⟩ => ?_) (by rw [hs]; rfl) (by rfl)))
 obtain ⟨a1, xs, e1, hx, q⟩ := q1
 subst e1
 obtain ⟨u1, rfl, ru1⟩ := zb.one r1
 cases (show u1 = Value.ref a1 from ru1)
 obtain ⟨it1, v1, p1, z1⟩ := I1.tuple hx
 refine qfy (show s1.heap.IsTuple a1 it1.toArray from p1) fun h' zz g1 kp => ?_
 refine wpAny_pyIter_enum zz ?_
 have la1 : a1 < s1.heap.objs.size := by obtain ⟨o, e, _⟩ := p1; exact Heap.lt_size e
 refine ⟨s1.heap.objs.size + 1, [s1.heap.objs.size + 1, s1.heap.objs.size], _, _, H1, rfl, I1.kept (t' := s1.toks) kp, qfz (xs := xs) (Nat.succ_ne_self _) (Nat.ne_of_gt (Nat.lt_succ_of_lt la1)) (Nat.ne_of_lt la1), ⟨⟨_, zz⟩, g1⟩, fun b hb => ?_, q⟩
 simp only [List.mem_cons, nN_, or_false] at hb
 have hb2 : s1.heap.objs.size <= b := by
  rcases hb with e | e <;> rw [e]
  ·exact Nat.le_add_right _ _
  ·exact Nat.le_refl _
 exact I1.fpOk hb2 (I1.hok.fresh hb2)
def vq (k : Nat) : List D -> List D
 | [] => []
 | x :: xs => .tup [.int (k : Nat), x] :: vq (k + 1) xs
theorem qap : ∀ (k : Nat) (xs : List D), (vq k xs).length = xs.length
 | _, [] => rfl
 | k, x :: xs => by simp [vq, qap (k + 1) xs]
theorem qb4 : ∀ {xs : List D} {k i : Nat} {d : D}, (vq k xs)[i]? = some d -> ∃ x, xs[i]? = some x /\ d = .tup [.int ((k + i : Nat) : Int), x]
 | [], _, _, _, h => by simp [vq] at h
 | x :: xs, k, 0, d, h => by
  have : D.tup [.int (k : Nat), x] = d := by simpa [vq] using h
  exact ⟨x, rfl, this.symm⟩
 | x :: xs, k, i + 1, d, h => by
  obtain ⟨y, h1, h2⟩ := qb4 (xs := xs) (k := k + 1) (i := i) (d := d) (by simpa [vq] using h)
  exact ⟨y, by simpa using h1, by rw [h2]; congr 4; omega⟩
theorem qje {K : Fr0} {A : Addr -> Prop} {H : Hp} {ds : List D} {xs : List V} {a1 : Addr} (t1 : qaE K H a1 xs) (i1 : IsL K A H ds xs) : qgS K A H (vq 0 ds) (Ite K a1 xs) where
 go := fun H' i d ex hd => by
  have hl : i < (vq 0 ds).length := (gI_.mp hd).1
  rw [qap, <- i1.length] at hl
  exact ⟨hl, (t1.elim (fun h => .inl (ex.tup _ _ h)) .inr : qaE K H' a1 xs).sq⟩
 yl := fun H' i d x H'' ex hd y => by
  obtain ⟨p, u, hp, hu, rfl, rfl⟩ := y
  obtain ⟨dx, h1, rfl⟩ := qb4 hd
  obtain ⟨u', g1, g2⟩ := i1.get h1
  rw [hu] at g1
  cases g1
  have sm := qD hp (.tup [.int i, u])
  exact ⟨sm, p, [.int i, u], rfl, .inl qt, .int i, [u], rfl, by rw [Nat.zero_add]; rfl, u, [], rfl, Is.ext (Ext.of_same sm) (fun _ h _ => h) (Is.ext ex (fun _ h _ => h) g2), rfl⟩
 stop := fun H' ex => ⟨by rw [qap, i1.length], (t1.elim (fun h => .inl (ex.tup _ _ h)) .inr : qaE K H' a1 xs).sq⟩
def qfA : List D -> Option (List D)
 | [.tup xs] => some (vq 0 xs)
 | _ => none
def qfB (f : M (List D)) : M (List D) := bnd f fun ds => lift (qfA ds)
theorem qjf {f : M (List D)} {p : Pos} (hg : Gl X "enumerate") (hm : X.mg "enumerate" = none) (ha : DA X c [a] f) (hs : starEach [a] X.env = [(false, eval a X.env)] := by rfl) :
  DI X c (.Tuple es kk tp) (.Call (.Name "enumerate" p) [a] [] pos) (qfB f) := by
 obtain ⟨t, pa, w⟩ := ha
 refine ⟨_, qjd hg hm pa hs, fun U Z H Q r h => w U Z H _ r (WpL.bndI h fun ds U1 vs H1 r1 i1 g1 h1 => ?_)⟩
 obtain ⟨es', e, h2⟩ := qa6 h1
 unfold qfA at e
 split at e
 ·obtain ⟨v, rfl, j1⟩ := IsL.inv1 i1
  cases e
  obtain ⟨a1, xs, rfl, t1, il1⟩ := Is.tr j1
  exact ⟨a1, xs, rfl, t1.sq, h2 _ H1 r1 (qje t1 il1) .refl⟩
 ·cases e
end
def vD : D -> V
 | .bl b => .bl b
 | .int i => .int i
 | .str x => .str x
 | _ => .non
def flD : D -> Bool
 | .non => true
 | .bl _ => true
 | .int _ => true
 | .str _ => true
 | _ => false
def sqD : D -> Option (List D)
 | .tup ds => some ds
 | .lst ds => some ds
 | _ => none
def inD (x y : D) : Option D := match sqD y with
 | some ds => if flD x && ds.all flD then some (.bl (ds.any fun d => eqV (vD d) (vD x))) else none
 | none => none
theorem qcN {l : M (List D)} {U : Env} : qfB l U = match l U with | .ok (d, U1) => (match qfA d with | some ds => .ok (ds, U1) | none => .bad) | .exc x U' => .exc x U' | .bad => .bad := by
 simp only [qfB, bnd]
 cases l U with
 | ok z => obtain ⟨z1, U1⟩ := z; (dsimp only; cases qfA z1 <;> rfl)
 | exc x U' => rfl
 | bad => rfl
section
variable {X : Cx} {tg iter elt : Expr} {ifs : List Expr} {scope : Scope} {pos : Pos} {wi : TI} {N' : List Str} {nt : Nat} {fr : List Nat}
theorem qfC {i : Nat} {x : Str} {pos' spos : Pos} (hN : X.N.Nodup) (hix : X.N[i]? = some x) (hx : Loc X.env.scope x) (hfx : X.fn x = true \/ X.env.scope.names.lookup x = some .local) (hc : X.calm = true) (hi : PI X tg iter wi) (S : CompScope X scope N' nt fr)
  (hsw : swapsWith (.ListComp elt [⟨tg, iter, ifs, 0⟩] scope pos) (some (.Name x pos')) spos.line X.env = pure true)
  (hs : ∀ x, foldedSetIterable iter X.env x = pure x := by intro _; rfl) : PS X (.Assign [.Name x pos'] (.ListComp elt [⟨tg, iter, ifs, 0⟩] scope pos) spos) (fun D Z H => qgR X tg ifs elt scope N' wi nt fr Z H fun v H' => D.nx (Z.set i (some v)) H') := by
 intro pins s Z H D I hw
 obtain ⟨cl, hcl, cl1, cl2⟩ := closureFor_ok (env := X.env) (scope := scope) (fun y hy hf => I.ok.has y.1 (.inl (S.frees y hy hf)))
 rw [exec_Assign_Name_used _ _ _ _ hsw]
 refine wpAny_bind (wpAny_standAt (wpAny_bind ?_))
 show wpAny (model X.prog X.w) X.A (comprehension (.ListComp elt [⟨tg, iter, ifs, 0⟩] scope pos) scope X.env _ (newList []) false (eval iter X.env) (some (assign (.Name x pos') X.env)) >>= fun _ => pure ()) _ _ s
 refine wpAny_bind (thn (Q := fun _ s' => SP X pins D .next s') ?_ fun _ s' q => wpAny_pure (wpAny_pure q))
 refine wpAny_comprehension_free (use := some (assign (.Name x pos') X.env)) rfl hs hcl S.kind S.names (thn (hi pins s Z H _ I hw) fun v s1 h1 => thn h1 fun itv s2 h2 => ?_)
 obtain ⟨it, fp, tn, J, H2, e, I2, T, st2, f2, hR⟩ := h2
 subst e
 have hacc : H2 s2.heap.objs.size = none := I2.hok.fresh (Nat.le_refl _)
 refine wpAny_newObj_type (wpAny_newFunctionEnv S.nocell (by intro y hy; simp at hy) (fun hJ hns1 hsb1 => ?_) S.kind)
 dsimp only at hns1 hsb1 |-
 have I3 : Inv X pins Z (upd H2 s2.heap.objs.size (.lst [])) { s2 with heap := s2.heap.push { cls := .type "list", dict := none, data := .seq ([] : List Value).toArray } } :=
  I2.lnew (t' := s2.toks) (its := []) .nil (Nat.zero_le _)
 generalize hs3 : ({ s2 with heap := s2.heap.push { cls := .type "list", dict := none, data := .seq ([] : List Value).toArray } } : Shared) = s3 at I3
 have hh3 : s2.heap.push { cls := .type "list", dict := none, data := .seq ([] : List Value).toArray } = s3.heap := by rw [<- hs3]
 rw [hh3] at hns1 hsb1
 have old : ∀ b o, s3.heap.get? b = some o -> hJ.get? b = some o := fun b o q => hsb1.extBut b o (Nat.ne_of_lt (Heap.lt_size q)) (Heap.get?_push_of_some _ q)
 have objs2 : ∀ b ∈ fp, ∃ o, s2.heap.get? b = some o := fun b hb => by
  obtain ⟨o, q, _⟩ := T.obj 0 _ st2 b hb
  exact ⟨o, q⟩
 have keep23 : ∀ b o, s2.heap.get? b = some o -> s3.heap.get? b = some o := fun b o q => by rw [<- hh3]; exact Heap.get?_push_of_some _ q
 have fpne : ∀ b ∈ fp, b ≠ s2.heap.objs.size := fun b hb => by
  obtain ⟨o, q⟩ := objs2 b hb
  exact Nat.ne_of_lt (Heap.lt_size q)
 have f3 : ∀ b ∈ fp, qct X pins (upd H2 s2.heap.objs.size (.lst [])) b := fun b hb => ⟨by rw [qp (fpne b hb)]; exact (f2 b hb).1, (f2 b hb).2⟩
 have J0 : Inv (zH X scope N' fp cl s3.heap.objs.size s3 (upd H2 s2.heap.objs.size (.lst [])) (X.pn ++ pins)) [] (qB nt fr Z) (upd H2 s2.heap.objs.size (.lst [])) { s3 with heap := hJ, toks := s3.toks } :=
  qaP S I3 f3 (fun b hb => (objs2 b hb).imp fun o q => keep23 b o q) cl1 cl2 ⟨_, hns1⟩ old
 obtain ⟨g, tt, te, hg, hf, he, W, ⟨m0, w0⟩, turn⟩ := hR s2.heap.objs.size fp cl s3.heap.objs.size s3 (upd H2 s2.heap.objs.size (.lst [])) (X.pn ++ pins) hacc
 have T0 : tn 0 hJ := T.keep 0 _ _ st2 fun b hb o q => old b o (keep23 b o q)
 have s3e : ∀ tk : Nat, ({ s2 with heap := hJ, toks := tk } : Shared) = { s3 with heap := hJ, toks := tk } := fun tk => by rw [<- hs3]
 have loop : ∀ tk : Nat, codeAny (model X.prog X.w) X.A (.compLoop (.ListComp elt [⟨tg, iter, ifs, 0⟩] scope pos) 0 (.ref it) (.ref s2.heap.objs.size) (compEnvC scope cl s3.heap.objs.size X.env))
   (compPost (model X.prog X.w) X.A X.xe (some (assign (.Name x pos') X.env)) (fun _ s' => SP X pins D .next s') (.ref s2.heap.objs.size) s3.heap.objs.size) { s3 with heap := hJ, toks := tk } := fun tk => by
  have stat : ∀ {H' : Hp}, (∀ b ∈ fp, H' b = none) -> ∀ b ∈ fp, qct (zH X scope N' fp cl s3.heap.objs.size s3 (upd H2 s2.heap.objs.size (.lst [])) (X.pn ++ pins)) [] H' b := fun {H'} hn b hb => by
   obtain ⟨o, q⟩ := objs2 b hb
   have hbC : b ≠ s3.heap.objs.size := Nat.ne_of_lt (Heap.lt_size (keep23 b o q))
   refine ⟨hn b hb, hbC, fun z => ?_, .inl hb, fun x c hx => (f2 b hb).2.2.2.2.1 x c (cl1 x c hx), fun p hp => ?_⟩
   ·rcases List.mem_cons.mp (I2.stkSub b z) with z | z
    ·exact (f2 b hb).2.1 z
    ·exact (f2 b hb).2.2.1 z
   ·have hp' : p ∈ X.pn ++ pins := by
     rcases mA_.mp (show p ∈ (X.pn ++ pins) ++ [] from hp) with z | z
     ·exact z
     ·cases z
    exact (f2 b hb).2.2.2.2.2 p hp'
  have fr0 : ∀ b ∈ fp, upd H2 s2.heap.objs.size (.lst []) b = none := fun b hb => (f3 b hb).1
  refine qak (fun n s' => ∃ i Z' H', Inv (zH X scope N' fp cl s3.heap.objs.size s3 (upd H2 s2.heap.objs.size (.lst [])) (X.pn ++ pins)) [] Z' H' s' /\ tn i s'.heap /\ (∀ b ∈ fp, H' b = none) /\ W i n Z' H') ?_ m0
   ⟨0, qB nt fr Z, _, J0.tok tk, T0, fr0, w0⟩
  rintro n s4 ⟨i, Z4, H4, J4, st4, fr4, w4⟩
  rcases turn i n Z4 H4 w4 with ⟨stop, qn⟩ | ⟨go, step⟩
  ·refine thn (T.done (zH X scope N' fp cl s3.heap.objs.size s3 (upd H2 s2.heap.objs.size (.lst [])) (X.pn ++ pins)) rfl rfl rfl hc i [] s4 Z4 H4 _ J4 (stat fr4) st4 stop) fun r s5 ⟨hr, J5⟩ => ?_
   subst hr
   obtain ⟨m5, n5, _⟩ := J5.loc
   have I5 : Inv X pins Z H4 s5 := qdf I3 f3 J5 (Heap.SameBut.refl ..)
   have lC : X.env.locals ≠ s3.heap.objs.size := Nat.ne_of_lt I3.lt
   have cC : ∀ y c, X.env.cells.lookup y = some c -> c ≠ s3.heap.objs.size := fun y c hy => by
    obtain ⟨v, o, ho, _⟩ := I3.cell y c hy
    exact Nat.ne_of_lt (Heap.lt_size ho)
   have pC : ∀ p ∈ X.pn ++ pins, p.1 ≠ s3.heap.objs.size := fun p hp => Nat.ne_of_lt (Heap.lt_size (I3.pin p hp).1)
   refine wpAny_assign_Name (qbG (v := .ref s2.heap.objs.size) I5 hN hix hx rfl (fun s'' I6 ⟨a, sb, ha⟩ => ?_) hfx)
   have aC : s3.heap.objs.size ≠ a := by
    rcases ha with rfl | ha
    ·exact lC.symm
    ·exact (cC _ _ ha).symm
   exact ⟨m5, n5.sameBut sb aC, fun h' sb' => ⟨_, H4, I6.turned (t' := s''.toks) (fun b o hb q => (sb'.2 b hb).trans q) J5.free lC.symm (.inr I3.sz) cC pC, qn⟩⟩
  ·refine thn (T.item (zH X scope N' fp cl s3.heap.objs.size s3 (upd H2 s2.heap.objs.size (.lst [])) (X.pn ++ pins)) rfl rfl rfl hc i [] s4 Z4 H4 _ J4 (stat fr4) st4 go) fun r s5 ⟨u, hr, h5⟩ => ?_
   subst hr
   refine thn h5 fun _ s6 ⟨x, H6, J6, r6, y6, st6, fr6⟩ => ?_
   have J6' := J6.pinned (stat fr6) (T.obj _ _ st6)
   have again : ∀ {Z7 : St} {H7 : Hp} {s7 : Shared}, Inv (zH X scope N' fp cl s3.heap.objs.size s3 (upd H2 s2.heap.objs.size (.lst [])) (X.pn ++ pins)) ([] ++ qaK fp s6.heap) Z7 H7 s7 -> (∃ m', m' < n /\ W (i + 1) m' Z7 H7) ->
     ∃ m, m < n /\ ∃ i Z' H', Inv (zH X scope N' fp cl s3.heap.objs.size s3 (upd H2 s2.heap.objs.size (.lst [])) (X.pn ++ pins)) [] Z' H' s7 /\ tn i s7.heap /\ (∀ b ∈ fp, H' b = none) /\ W i m Z' H' := fun {Z7 H7 s7} I7 hm => by
    obtain ⟨m', hm, w7⟩ := hm
    refine ⟨m', hm, i + 1, Z7, H7, I7.unpinned, T.keep _ _ _ st6 fun b hb o q => (I7.pin (b, o) (mr_ _ (mr_ _ (yt hb q)))).1, fun b hb => ?_, w7⟩
    obtain ⟨o, q, d⟩ := T.obj _ _ st6 b hb
    exact (I7.pin (b, o) (mr_ _ (mr_ _ (yt hb q)))).2.1
   refine thn (hg _ s6 Z4 H6 x u _ J6' r6 (step x H6 y6)) fun _ s7 ⟨Z7, H7, J7, q7⟩ => ?_
   refine thn (hf _ s7 Z7 H7 _ J7 q7) fun ok s8 ⟨H8, J8, q8⟩ => ?_
   cases ok with
   | false =>
    rw [if_neg Bool.false_ne_true] at q8 |-
    exact again J8 q8
   | true =>
    rw [if_pos rfl] at q8 |-
    refine thn (he _ s8 Z7 H8 _ J8 q8) fun z s9 ⟨y, H9, J9, r9, ys, hys, hz, hm⟩ => ?_
    refine thn (qad _ s9 Z7 H9 (.ref s2.heap.objs.size) [y] (.ref s2.heap.objs.size) [z] (fun _ H' => H' = upd H9 s2.heap.objs.size (.lst (ys ++ [y]))) J9 rfl (.cons r9 .nil) ⟨_, ys, y, rfl, rfl, hys, hz, rfl⟩) fun _ s10 ⟨_, H10, J10, _, e10⟩ => ?_
    subst e10
    exact again J10 hm
 have zD : ∀ tk : Nat, codeAny (model X.prog X.w) X.A (.compStart (.ListComp elt [⟨tg, iter, ifs, 0⟩] scope pos) 0 (.ref it) (.ref s2.heap.objs.size) (compEnvC scope cl s3.heap.objs.size X.env))
   (compPost (model X.prog X.w) X.A X.xe (some (assign (.Name x pos') X.env)) (fun _ s' => SP X pins D .next s') (.ref s2.heap.objs.size) s3.heap.objs.size) { s3 with heap := hJ, toks := tk } := fun tk =>
  codeAny_compStart_list (loop tk) (T.self X.A 0 _ _ _ T0 (loop tk))
 have fin := zD (s2.toks + ([] : List (Str × Value)).length)
 rw [<- s3e] at fin
 rw [<- hh3] at fin
 rw [hh3] at fin |-
 exact fin
end
section
variable {X : Cx} {c : Fc}
def DC (X : Cx) (c : Fc) (tg it elt : Expr) (ifs : List Expr) (scope : Scope) (N' : List Str) (nt : Nat) (fr : List Nat) (f : M D) : Prop := ∃ wi, PI X tg it wi /\ ∀ U Z H Q, Rep X.K c U Z H -> Wp X.K c Z H Q (f U) -> qgR X tg ifs elt scope N' wi nt fr Z H Q
theorem qjg {it elt tg : Expr} {ifs : List Expr} {scope : Scope} {N' : List Str} {nt : Nat} {fr : List Nat} {fo : Option (Nat × Nat)} {f : M (List D)} {g : D -> Env -> Option Env} {t : M Bool} {k : M D} (hc : X.calm = true) (hi : DI X c tg it f) (S : CompScope X scope N' nt fr)
  (hfo : qgU c nt fr fo)
  (hb : ∀ fp cl C s₀ H₀ pn B0 H1 Io' acc S', DG (zH X scope N' fp cl C s₀ H₀ pn) (cin B0 H1 (foO fo) Io' acc S') tg g /\ DF (zH X scope N' fp cl C s₀ H₀ pn) (cin B0 H1 (foO fo) Io' acc S') ifs t /\ DE (zH X scope N' fp cl C s₀ H₀ pn) (cin B0 H1 (foO fo) Io' acc S') elt k)
  : DC X c tg it elt ifs scope N' nt fr (qbV nt fr fo f g t k) := by
 obtain ⟨wi, pi, wI⟩ := hi
 refine ⟨wi, pi, fun U Z H Q r h => wI U Z H _ r (WpI.bnd h fun ds U1 J H1 r1 iok g1 h1 => ?_)⟩
 intro acc fp cl C s₀ H₀ pn hn
 obtain ⟨⟨tg', pg, wg⟩, ⟨tt, pt, wt⟩, ⟨te, pe, we⟩⟩ := hb fp cl C s₀ H₀ pn (Cn c Z) H1 (wX Z fo) acc fun j => (qB nt fr Z)[j]?
 refine ⟨tg', tt, te, pg, pt, pe, ?_⟩
 cases ew : zI g t k ds [] (jS nt fr U1) with
 | exc x U' => rw [ew] at h1; exact h1.elim
 | bad => rw [ew] at h1; exact h1.elim
 | ok p =>
  rw [ew] at h1
  obtain ⟨ys, Ue⟩ := p
  have h1 : ∀ v H', Rep X.K c (qgT fo Ue U1) Z H' -> Is X.K (Cn c Z) H' (.lst ys) v -> Gr c.O Z H1 H' -> Q v H' := h1
  have accO : ∀ j ∈ foO fo, (qB nt fr Z)[j]? ≠ some (some (.ref acc)) := fun j hj e => by
   have r0 := r1.entry (acc := acc) hn hfo
   cases fo with
   | none => cases hj
   | some p =>
    obtain ⟨i', j'⟩ := p
    have e2 : j = i' := by simpa [foO] using hj
    subst e2
    obtain ⟨k2, j2, e1, e2, e3⟩ := jw e
    have hk2 : k2 = j - nt := by omega
    subst hk2
    rw [hfo.2.2.1] at e2
    cases e2
    obtain ⟨a, us, e4, e5, _⟩ := r1.own j' hfo.1 _ e3
    cases e4; rw [hn] at e5; cases e5
  refine ⟨fun i m Z' H' => m = ds.length - i /\ i <= ds.length /\ ∃ U' zs xs, Rep X.K (cin (Cn c Z) H1 (foO fo) (wX Z fo) acc fun j => (qB nt fr Z)[j]?) U' Z' H' /\ (∀ j ∈ foO fo, Z'[j]? = (qB nt fr Z)[j]?) /\ H' acc = some (.lst xs) /\ IsL X.K (Cn (cin (Cn c Z) H1 (foO fo) (wX Z fo) acc fun j => (qB nt fr Z)[j]?) Z') H' zs xs /\ zI g t k (ds.drop i) zs U' = .ok (ys, Ue),
   ⟨ds.length, by simp, Nat.zero_le _, jS nt fr U1, [], [], r1.entry hn hfo, fun _ _ => rfl, qt, rfl, by simpa using ew⟩, ?_⟩
  rintro i m Z' H' ⟨rfl, hi, U', zs, xs, r', so, ha, iz, w⟩
  obtain ⟨_, gr⟩ := r1.leave hn hfo (fun i j e => so i (by rw [e]; simp [foO])) r'
  have ex : Ext (CnT c Z H1) H1 H' := ⟨gr.ext.tup, gr.ext.frz, fun b o hb hq => gr.ext.at_ b o hb.1.2 hq⟩
  have accC : ∀ τ : St, (∀ j ∈ foO fo, τ[j]? = (qB nt fr Z)[j]?) -> Cl (foO fo) τ acc := fun τ hτ j hj e => accO j hj (by rw [<- hτ j hj]; exact e)
  by_cases hlt : i < ds.length
  ·refine .inr ⟨iok.go H' i ds[i] ex (by simp [hlt]), fun x H'' y => ?_⟩
   obtain ⟨sm, ix⟩ := iok.yl H' i ds[i] x H'' ex (by simp [hlt]) y
   rw [uU hlt] at w
   unfold zI at w
   have ix2 : Is X.K (Cn (cin (Cn c Z) H1 (foO fo) (wX Z fo) acc fun j => (qB nt fr Z)[j]?) Z') H'' ds[i] x := Is.ext Ext.refl (fun a ha _ => ⟨⟨ha.1, fun e => by
    have := ha.2
    rw [e, hn] at this; cases this⟩, fun j hj e => by
     rw [so j hj] at e
     cases fo with
     | none => cases hj
     | some p =>
      obtain ⟨i', j'⟩ := p
      have e2 : j = i' := by simpa [foO, cin] using hj
      subst e2
      obtain ⟨k2, j2, e1, e2, e3⟩ := jw e
      have hk2 : k2 = j - nt := by omega
      subst hk2
      rw [hfo.2.2.1] at e2
      cases e2
      exact ha.1.2 j' hfo.1 e3⟩) ix
   cases e1 : g ds[i] U' with
   | none => simp only [e1] at w; cases w
   | some U2 =>
    simp only [e1] at w
    refine wg U' Z' H'' ds[i] x U2 _ (r'.same sm) ix2 e1 fun Z2 r2 g2 o2 => ?_
    have so2 : ∀ j ∈ foO fo, Z2[j]? = (qB nt fr Z)[j]? := fun j hj => (o2 j hj).trans (so j hj)
    have ha2 : H'' acc = some (.lst xs) := sm _ _ ha
    have iz2 := g2.isL (IsL.ext (Ext.of_same sm) (fun _ h _ => h) iz)
    cases e2 : t U2 with
    | exc x U3 => simp only [e2] at w; cases w
    | bad => simp only [e2] at w; cases w
    | ok p2 =>
     obtain ⟨bb, U3⟩ := p2
     refine wt U2 Z2 H'' _ r2 ?_
     rw [e2]
     intro H3 r3 g3
     have ha3 : H3 acc = some (.lst xs) := g3.ext.at_ _ _ (accC Z2 so2) ha2
     have iz3 := g3.isL iz2
     cases bb with
     | false =>
      rw [if_neg Bool.false_ne_true]
      simp only [e2] at w
      exact ⟨ds.length - (i + 1), by omega, rfl, hlt, U3, zs, xs, r3, so2, ha3, iz3, w⟩
     | true =>
      rw [if_pos rfl]
      simp only [e2] at w
      cases e3 : k U3 with
      | exc x U4 => simp only [e3] at w; cases w
      | bad => simp only [e3] at w; cases w
      | ok p3 =>
       obtain ⟨d4, U4⟩ := p3
       simp only [e3] at w
       refine we U3 Z2 H3 _ r3 ?_
       rw [e3]
       intro y4 H4 r4 i4 g4
       have ha4 : H4 acc = some (.lst xs) := g4.ext.at_ _ _ (accC Z2 so2) ha3
       have hsz : qQ (zs.length + 1) = true := by
        cases e5 : qQ (zs.length + 1) with
        | true => rfl
        | false => rw [e5] at w; simp at w
       rw [if_pos hsz] at w
       have hsz' : zs.length + 1 <= sizeLine := of_decide_eq_true hsz
       have r5 := r4.grow (ys := xs ++ [y4]) ha4 (fun j hj e => accC Z2 so2 j hj e)
       have ext5 : Ext (Cn (cin (Cn c Z) H1 (foO fo) (wX Z fo) acc fun j => (qB nt fr Z)[j]?) Z2) H4 (upd H4 acc (.lst (xs ++ [y4]))) := ⟨fun b us hb => by rw [qp (vC hb ha4 (by intro z; cases z))]; exact hb, fun b o u hb => by rw [qp (vC hb ha4 (by intro z; cases z))]; exact hb, fun b o hb hq => by rw [qp hb.1.2]; exact hq⟩
       refine ⟨xs, ha4, by rw [iz3.length]; omega, ds.length - (i + 1), by omega, rfl, hlt, U4, zs ++ [d4], xs ++ [y4], r5, so2, qt, ?_, w⟩
       exact IsL.append (IsL.ext ext5 (fun _ h _ => h) (g4.isL iz3)) (IsL.one (Is.ext ext5 (fun _ h _ => h) i4))
  ·have hie : i = ds.length := by omega
   subst hie
   rw [List.drop_of_length_le (Nat.le_refl _)] at w
   unfold zI at w
   cases w
   obtain ⟨r6, g6⟩ := r1.leave hn hfo (fun i j e => so i (by rw [e]; simp [foO])) r'
   exact .inl ⟨iok.stop H' ex, h1 _ H' r6 ⟨acc, xs, rfl, r1.new hn, ha, IsL.ext Ext.refl (fun a ha hs => ha.1.1) iz⟩ g6⟩
theorem qjh {i : Nat} {x : Str} {pos' spos pos : Pos} {tg it elt : Expr} {ifs : List Expr} {scope : Scope} {N' : List Str} {nt : Nat} {fr : List Nat} {f : M D} (hN : X.N.Nodup) (h : DC X c tg it elt ifs scope N' nt fr f) (hc : X.calm = true) (S : CompScope X scope N' nt fr)
  (ho : i ∉ c.O := by exact of_decide_eq_false rfl) (hix : X.N[i]? = some x := by rfl) (hx : Loc X.env.scope x := by first | exact Or.inl rfl | exact Or.inr rfl) (hfx : X.fn x = true \/ X.env.scope.names.lookup x = some .local := by first | exact .inl rfl | exact .inr rfl | assumption)
  (hsw : swapsWith (.ListComp elt [⟨tg, it, ifs, 0⟩] scope pos) (some (.Name x pos')) spos.line X.env = pure true := by rfl) (hs : ∀ x, foldedSetIterable it X.env x = pure x := by intro _; rfl) :
  DS X c (.Assign [.Name x pos'] (.ListComp elt [⟨tg, it, ifs, 0⟩] scope pos) spos) (zf i f) := by
 obtain ⟨wi, pi, w⟩ := h
 refine ⟨_, qfC hN hix hx hfx hc pi S hsw hs, fun U Z H D r h => w U Z H _ r (Wp.sbnd h fun d U1 v H1 r1 i1 g1 h1 => ?_)⟩
 exact h1 _ H1 (r1.set ho i1) (.set ho)
end
def qmL : List Int -> Int
 | [] => 0
 | [n] => n
 | n :: m :: ns => max n (qmL (m :: ns))
section
variable {X : Cx}
end
def qn5 : List D -> Option D
 | [.lst ds] => match vo ds with
  | some (n :: ns) => some (.int (qmL (n :: ns)))
  | _ => none
 | _ => none
def yf (t : M Bool) (b : MS) : Nat -> MS
 | 0, _ => .bad
 | n + 1, U => match t U with
  | .ok (true, U1) => match b U1 with
   | .ok (.nx U2) => yf t b n U2
   | .ok (.ct U2) => yf t b n U2
   | .ok (.bk U2) => .ok (.nx U2)
   | .ok (.rt d U2) => .ok (.rt d U2)
   | .exc x U2 => .exc x U2
   | .bad => .bad
  | .ok (false, U1) => .ok (.nx U1)
  | .exc x U1 => .exc x U1
  | .bad => .bad
open Classical in
noncomputable def wL (t : M Bool) (b : MS) : MS := fun U => if h : ∃ n, yf t b n U ≠ .bad then yf t b h.choose U else .bad
theorem uX {t : M Bool} {b : MS} : ∀ {n : Nat} {U : Env} (k : Nat), yf t b n U ≠ .bad -> yf t b (n + k) U = yf t b n U
 | 0, U, k, h => absurd rfl h
 | n + 1, U, k, h => by
  have e : n + 1 + k = (n + k) + 1 := by omega
  rw [e]
  unfold yf at h |-
  cases et : t U with
  | ok p =>
   obtain ⟨v, U1⟩ := p
   rw [et] at h
   cases v with
   | false => rfl
   | true =>
    dsimp only at h |-
    cases eb : b U1 with
    | ok fl =>
     rw [eb] at h
     cases fl with
     | nx U2 => exact uX k h
     | ct U2 => exact uX k h
     | bk U2 => rfl
     | rt d U2 => rfl
    | exc x U2 => rfl
    | bad => rfl
  | exc x U1 => rfl
  | bad => rfl
theorem qaq {t : M Bool} {b : MS} {n : Nat} {U : Env} {r : R Fl} (h : yf t b n U = r) (hb : r ≠ .bad) : wL t b U = r := by
 have hx : ∃ n, yf t b n U ≠ .bad := ⟨n, by rw [h]; exact hb⟩
 unfold wL
 rw [dif_pos hx]
 have hc := hx.choose_spec
 generalize hx.choose = m at hc
 rcases Nat.le_total m n with hl | hl
 ·obtain ⟨k, rfl⟩ := Nat.exists_eq_add_of_le hl
  rw [<- uX k hc]; exact h
 ·obtain ⟨k, rfl⟩ := Nat.exists_eq_add_of_le hl
  rw [uX k (by rw [h]; exact hb)]; exact h
theorem qd6 {t : M Bool} {b : MS} {U : Env} : ∃ n, wL t b U = yf t b n U := by
 unfold wL
 split
 ·exact ⟨_, rfl⟩
 ·exact ⟨0, rfl⟩
section
variable {X : Cx} {c : Fc} {pos : Pos}
theorem qbd {e : Expr} {body : List Stmt} {t : M Bool} {b : MS} (hp : PassesOwn (model X.prog X.w) X.A X.env X.xe) (ht : DT X c e t) (hb : DSs X c body b) : DS X c (.While e body [] pos) (wL t b) := by
 obtain ⟨tc, pc, wc⟩ := ht
 obtain ⟨tb, pb, wb⟩ := hb
 refine ⟨_, qgz hp pc pb, fun U Z H D' r h => ?_⟩
 obtain ⟨n, en⟩ := qd6 (t := t) (b := b) (U := U)
 rw [en] at h
 refine ⟨fun m Z' H' => ∃ U', Rep X.K c U' Z' H' /\ WpS X.K c Z' H' D' (yf t b m U'), ⟨n, U, r, h⟩, ?_⟩
 rintro m Z' H' ⟨U', r', w⟩
 cases m with
 | zero => exact w.elim
 | succ m =>
  unfold yf at w
  refine wc U' Z' H' _ r' ?_
  cases et : t U' with
  | bad => rw [et] at w; exact w
  | exc x U1 => rw [et] at w; exact fun H1 r1 g1 => w Z' H1 r1 g1.s
  | ok p =>
   obtain ⟨v, U1⟩ := p
   rw [et] at w
   intro H1 r1 g1
   cases v with
   | false =>
    rw [if_neg Bool.false_ne_true]
    exact w Z' H1 r1 g1.s
   | true =>
    rw [if_pos rfl]
    dsimp only at w
    refine ⟨fun Z2 H2 => ∃ U2, Rep X.K c U2 Z2 H2 /\ WpS X.K c Z2 H2 D' (yf t b m U2), fun Z2 H2 q => ⟨m, Nat.lt_succ_self m, q⟩, wb U1 Z' H1 _ r1 ?_⟩
    have w2 := w.gr g1.s
    cases e2 : b U1 with
    | ok fl =>
     cases fl with
     | nx U3 => simp only [e2] at w2; exact fun Z3 H3 r3 g3 => ⟨U3, r3, w2.gr g3⟩
     | ct U3 => simp only [e2] at w2; exact fun Z3 H3 r3 g3 => ⟨U3, r3, w2.gr g3⟩
     | bk U3 => simp only [e2] at w2; exact w2
     | rt d U3 => simp only [e2] at w2; exact w2
    | exc x U3 => simp only [e2] at w2; exact w2
    | bad => simp only [e2] at w2; exact w2
end
def qkh (K : Fr0) (a : Addr) (ns : List Int) : Prop := ∃ (o : Obj) (its : Array Value) (n : Nat), K.lookup a = some o /\ o.cls = .type "tuple" /\ o.data = .seq its n /\ its.size <= sizeLine /\ zb (ns.map V.int) its.toList
theorem qkh.is {K : Fr0} {a : Addr} {ns : List Int} (h : qkh K a ns) (H : Hp) (A : Addr -> Prop) : Is K A H (.tup (ns.map .int)) (.ref a) := ⟨a, _, rfl, .inr h, wW ns⟩
theorem qg3 {X : Cx} {c : Fc} {x : Str} {a : Addr} {ns : List Int} {pos : Pos} (hg : Gl X x) (hm : X.mg x = some (.ref a)) (ht : qkh X.K a ns) (hdb : (x == ("__debug__" : Str)) = false := by decide) : DE X c (.Name x pos) (ret (.tup (ns.map .int))) :=
 qeX (v := .ref a) hg hm rfl (fun H A => ht.is H A) hdb
theorem qmM {K : Fr0} {a : Addr} {od : Option Addr} {its : Array Value} {n : Nat} {sl : Array (Option Value)} {i j : Int} {t u : Tok} (h : K.lookup a = some ⟨.type "tuple", od, .seq its n, sl⟩) (e : its.toList = [.int i t, .int j u]) : qkh K a [i, j] :=
 ⟨_, its, n, h, rfl, rfl, by
  have : its.size = 2 := by rw [<- Array.length_toList, e]; rfl
  rw [this]; decide, by rw [e]; exact .cons ⟨t, rfl⟩ (.cons ⟨u, rfl⟩ .nil)⟩
def qbe (h : Heap) (e T : Addr) (cls : Value) : Prop :=
 ∃ oe vs oT ts a0, h.get? e = some oe /\ (oe.cls = cls /\ vs[2]? = some .none /\ vs[0]? = some a0) /\ oe.data = .fields vs /\ vs[1]? = some (.ref T) /\ T ≠ e /\ h.get? T = some oT /\ oT.data = .fields ts /\ ts[3]? = some .none
def CX1 (P : Program) (w : World) : CXT := fun outer H s E u s' => ∃ e T C H', u = .ref e /\ s'.os = s.os /\ AllBare s'.gens /\ Un (frs outer) [] H H' s.heap s'.heap /\ HOk P w H' s'.heap /\
 s.heap.get? e = none /\ s.heap.get? T = none /\ H' e = none /\ H' T = none /\ qbe s'.heap e T (.ref C) /\ E (.ref C) none H'
structure Lft (h h' : Heap) (ch fs : List Addr) : Prop where
 keep : ∀ b o, b ∉ ch -> b ∉ fs -> h.get? b = some o -> h'.get? b = some o
 slot : ∀ b o, b ∈ fs -> h.get? b = some o -> ∃ sl, h'.get? b = some { o with slots := sl }
section
variable {M : Model} {A : Around} {E : Value -> Shared -> Prop} {s : Shared}
abbrev v6 : Obj -> Obj := Obj.mapFields (·.setIfInBounds 3 Value.none)
theorem qji {base : Heap} {l : List PySem.Env} {h : Heap} {b : Addr} {o : Obj} {vs : Array Value} (hl : h.FunFrames base l) (hb : h.get? b = some o) (hd : o.data = .fields vs) : b ∉ frs l := fun z => by
 obtain ⟨_, o', ho', hn⟩ := hl.mem z
 rw [hb] at ho'
 cases ho'
 exact hn vs hd
theorem qdp {e T : Addr} {oe oT : Obj} {vs ts : Array Value} {Q : Unit -> Shared -> Prop} (he : s.heap.get? e = some oe) (hd : oe.data = .fields vs) (h1 : vs[1]? = some (.ref T)) (hT : s.heap.get? T = some oT) (hdT : oT.data = .fields ts) (h3 : 3 < ts.size)
  (k : Q () { s with heap := s.heap.update T v6 }) : wpAny M A (setFlight (.ref e) none) Q E s := by
 unfold setFlight
 refine wpAny_bind (wpAny_field he hd h1 ?_)
 have t : (Value.ref T != Value.none) = true := by simp
 rw [if_pos t]
 exact wpAny_setField hT hdT h3 k
theorem v7 {h : Heap} {T : Addr} {oT : Obj} {ts : Array Value} (hT : h.get? T = some oT) (hdT : oT.data = .fields ts) (h3 : 3 < ts.size) : ∃ o2 t2, (h.update T v6).get? T = some o2 /\ o2.data = .fields t2 /\ t2[3]? = some .none :=
 ⟨_, _, Heap.get?_update_self _ hT (Obj.isFreed_of_fields (Obj.data_mapFields hdT _)), Obj.data_mapFields hdT _, by simp [h3]⟩
theorem zK {h : Heap} {T b : Addr} (n : b ≠ T) : (h.update T v6).get? b = h.get? b := Heap.get?_update_other _ _ (Ne.symm n)
theorem qg4 {base : Heap} {env : PySem.Env} {outer : List PySem.Env} {L e : Addr} {oe : Obj} {vs : Array Value} {head : Value} {had : Bool} {Q : Unit -> Shared -> Prop} (hfr : A.frames = some (env :: outer)) (hl : s.heap.FunFrames base (env :: outer)) (hf : env.frame = some L)
  (he : s.heap.get? e = some oe) (hd : oe.data = .fields vs) (h1 : 1 < vs.size)
  (k : ∀ h' T, s.heap.get? T = none -> T ≠ e -> (∀ b o, b ≠ e -> b ∉ frs (env :: outer) -> s.heap.get? b = some o -> h'.get? b = some o) -> (∀ b o, b ∈ frs (env :: outer) -> s.heap.get? b = some o -> ∃ sl, h'.get? b = some { o with slots := sl }) ->
   h'.get? e = some (Obj.mapFields (·.setIfInBounds 1 (Value.ref T)) oe) -> (∃ oT ts, h'.get? T = some oT /\ oT.data = .fields ts /\ 3 < ts.size) -> h'.FunFrames base (env :: outer) -> Q () { s with heap := h' }) :
  wpAny M A (do let a <- frameOf env; let pl <- entryPlaceOf L had; let b <- EntryCells.newEntry head a .none (rawInt L) .none pl; setField (.ref e) 1 b) Q E s := by
 have hene := qji hl he hd
 refine wpAny_bind (wpAny_frameOf_fun hfr hl hf fun hJ hsK => wpAny_bind (wpAny_entryPlaceOf fun pl hpl => ?_))
 unfold EntryCells.newEntry newFields
 have he1 : hJ.get? e = some oe := (hsK.2.1 e hene).trans he
 refine wpAny_bind (wpAny_newObj_type ?_ (hpl.sizeOk5 _ _ _ _ _))
 generalize hob : ({ cls := Value.type "traceback", dict := none, data := Data.fields ([head, Value.ref L, Value.none, rawInt L, Value.none] ++ (if pl.isEmpty then List.replicate 6 Value.none else pl)).toArray } : Obj) = ob
 have nT : hJ.objs.size ≠ e := Nat.ne_of_gt (Heap.lt_size he1)
 have hnT : s.heap.get? hJ.objs.size = none := by
  cases q : s.heap.get? hJ.objs.size with
  | none => rfl
  | some o =>
   obtain ⟨sl, q'⟩ := hsK.2.2 _ o q
   exact absurd (Heap.lt_size q') (Nat.lt_irrefl _)
 refine wpAny_setField (Heap.get?_push_of_some _ he1) hd h1 ?_
 have keep : ∀ b o, b ≠ e -> hJ.get? b = some o -> ((hJ.push ob).update e (Obj.mapFields (·.setIfInBounds 1 (Value.ref hJ.objs.size)))).get? b = some o := fun b o hb q => (Heap.get?_update_other _ _ (Ne.symm hb)).trans (Heap.get?_push_of_some _ q)
 refine k _ hJ.objs.size hnT nT (fun b o hb hf q => keep b o hb ((hsK.2.1 b hf).trans q)) (fun b o hb q => ?_) (Heap.get?_update_self _ (Heap.get?_push_of_some _ he1) (Obj.isFreed_of_fields (Obj.data_mapFields hd _))) ⟨ob, ([head, Value.ref L, Value.none, rawInt L, Value.none] ++ (if pl.isEmpty then List.replicate 6 Value.none else pl)).toArray, ?_, by rw [<- hob], by simp⟩ (hl.of_keeps fun b o q hn => ?_)
 ·obtain ⟨sl, q'⟩ := hsK.2.2 b o q
  exact ⟨sl, keep b _ (fun z => hene (z ▸ hb)) q'⟩
 ·exact (Heap.get?_update_other _ _ (Ne.symm nT)).trans (Heap.get?_push_size _ (by rw [<- hob]; rfl))
 ·obtain ⟨sl, q'⟩ := hsK.2.2 b o q
  exact ⟨_, keep b _ (fun z => by subst z; rw [he] at q; cases q; exact hn vs hd) q', rfl⟩
theorem qdq {base : Heap} {env : PySem.Env} {outer : List PySem.Env} {L e : Addr} {oe : Obj} {vs : Array Value} {a0 head : Value} {had : Bool} {Q : Unit -> Shared -> Prop} (hfr : A.frames = some (env :: outer)) (hl : s.heap.FunFrames base (env :: outer)) (hf : env.frame = some L)
  (he : s.heap.get? e = some oe) (hd : oe.data = .fields vs) (h1 : 1 < vs.size) (h2 : vs[2]? = some .none) (h0 : vs[0]? = some a0)
  (k : ∀ h' T', Lft s.heap h' [e] (frs (env :: outer)) -> qbe h' e T' oe.cls -> s.heap.get? T' = none -> Q () { s with heap := h' }) :
  wpAny M A (do let a <- frameOf env; let pl <- entryPlaceOf L had; let b <- EntryCells.newEntry head a .none (rawInt L) .none pl; setField (.ref e) 1 b) (fun _ s' => wpAny M A (setFlight (.ref e) none) Q E s') E s := by
 refine qg4 hfr hl hf he hd h1 fun h' T nT ne kp sl ee eT _ => ?_
 obtain ⟨oT, ts, gT, dT, sT⟩ := eT
 have dd := Obj.data_mapFields hd (·.setIfInBounds 1 (Value.ref T))
 refine qdp (s := { s with heap := h' }) ee dd (by simp [h1]) gT dT sT ?_
 obtain ⟨o2, t2, q1, q2, q3⟩ := v7 gT dT sT
 have nf : ∀ b o, s.heap.get? b = some o -> b ≠ T := fun b o q z => by rw [z, nT] at q; cases q
 refine k _ T ⟨fun b o hb hf q => (zK (nf b o q)).trans (kp b o (by simpa using hb) hf q), fun b o hb q => ?_⟩ ⟨_, _, o2, t2, a0, (zK (Ne.symm ne)).trans ee, ⟨Obj.cls_mapFields _ _, ?_, ?_⟩, dd, by simp [h1], ne, q1, q2, q3⟩ nT
 ·obtain ⟨sl, q'⟩ := sl b o hb q
  exact ⟨sl, (zK (nf b o q)).trans q'⟩
 ·rw [Array.getElem?_setIfInBounds_ne (by decide)]; exact h2
 ·rw [Array.getElem?_setIfInBounds_ne (by decide)]; exact h0
theorem qb5 {base : Heap} {env : PySem.Env} {outer : List PySem.Env} {L e T : Addr} {cls : Value} {Q : Unit -> Shared -> Prop} (hfr : A.frames = some (env :: outer)) (hl : s.heap.FunFrames base (env :: outer)) (hf : env.frame = some L) (F : qbe s.heap e T cls)
  (k : ∀ h' T', Lft s.heap h' [e, T] (frs (env :: outer)) -> qbe h' e T' cls -> (T' = T \/ s.heap.get? T' = none) -> Q () { s with heap := h' }) :
  wpAny M A (noteFrame (.ref e) env) (fun _ sV => wpAny M A (setFlight (.ref e) none) Q E sV) E s := by
 obtain ⟨oe, vs, oT, ts, a0, he, ⟨hc, h2, h0⟩, hd, h1, hne, hT, hdT, h3⟩ := F
 subst hc
 have z3 : 3 < ts.size := (Array.getElem?_eq_some_iff.mp h3).1
 have z1 : 1 < vs.size := (Array.getElem?_eq_some_iff.mp h1).1
 have tT : (Value.ref T != Value.none) = true := by simp
 have tL : ¬ ((Value.none == rawInt L) = true) := by simp [rawInt]
 have nf := qji hl hT hdT
 unfold noteFrame
 simp only [hf]
 refine wpAny_bind (wpAny_field he hd h1 ?_)
 rw [if_pos tT]
 refine wpAny_bind (wpAny_field hT hdT h3 ?_)
 rw [if_neg tL]
 refine wpAny_bind (wpAny_setField hT hdT z3 ?_)
 have hl1 : (s.heap.update T v6).FunFrames base (env :: outer) := hl.of_keeps fun b o q hn => ⟨o, (zK fun z => by subst z; rw [hT] at q; cases q; exact hn ts hdT).trans q, rfl⟩
 refine qdq (s := { s with heap := s.heap.update T v6 }) hfr hl1 hf ((zK (Ne.symm hne)).trans he) hd z1 h2 h0 fun h' T' x y z => ?_
 refine k h' T' ⟨fun b o hb hf q => ?_, fun b o hb q => ?_⟩ y (.inr ?_)
 ·simp only [List.mem_cons, nN_, or_false, not_or] at hb
  exact x.keep b o (by simpa using hb.1) hf ((zK hb.2).trans q)
 ·exact x.slot b o hb ((zK fun (z : b = T) => nf (z ▸ hb)).trans q)
 ·by_cases e2 : T' = T
  ·subst e2
   obtain ⟨_, _, q, _⟩ := v7 hT hdT z3
   have z' : (s.heap.update T' v6).get? T' = none := z
   rw [q] at z'; cases z'
  ·exact (zK e2).symm.trans z
theorem qd7 {base : Heap} {env : PySem.Env} {outer : List PySem.Env} {L e T : Addr} {cls : Value} {Q : Unit -> Shared -> Prop} (hfr : A.frames = some (env :: outer)) (hl : s.heap.FunFrames base (env :: outer)) (hf : env.frame = some L) (F : qbe s.heap e T cls)
  (k : ∀ h' T', Lft s.heap h' [e, T] (frs (env :: outer)) -> qbe h' e T' cls -> (T' = T \/ s.heap.get? T' = none) -> Q () { s with heap := h' }) : wpAny M A (leaving env (.ref e)) Q E s := by
 unfold leaving
 exact wpAny_bind (qb5 hfr hl hf F k)
theorem qd8 {base h : Heap} {env : PySem.Env} {outer : List PySem.Env} {L e : Addr} {cls : Value} {args : List Value} {Q : Unit -> Shared -> Prop} (hfr : A.frames = some (env :: outer)) (hl : h.FunFrames base (env :: outer)) (hf : env.frame = some L) (hx : Heap.MadeExcOf h s.heap e cls args)
  (k : ∀ h' T', Lft s.heap h' [e] (frs (env :: outer)) -> qbe h' e T' cls -> s.heap.get? T' = none -> Q () { s with heap := h' }) : wpAny M A (leaving env (.ref e)) Q E s := by
 obtain ⟨t, he, htn, ht⟩ := hx.there
 have hl1 : s.heap.FunFrames base (env :: outer) := hl.of_keeps fun b o q _ => ⟨o, hx.keeps b o q, rfl⟩
 unfold leaving noteFrame
 simp only [hf]
 refine wpAny_bind (wpAny_bind (wpAny_field he rfl (x := .none) rfl ?_))
 rw [if_neg (by decide)]
 exact qdq hfr hl1 hf he rfl (of_decide_eq_true rfl) rfl rfl k
theorem qd9 {base : Heap} {l : List PySem.Env} {e T : Addr} {cls : Value} {Q : Unit -> Shared -> Prop} (hl : s.heap.FunFrames base l) (F : qbe s.heap e T cls)
  (k : ∀ h' T', Lft s.heap h' [e, T] (frs l) -> qbe h' e T' cls -> (T' = T \/ s.heap.get? T' = none) -> Q () { s with heap := h' }) :
  wpAny M A (setFlight (.ref e) none) Q E s := by
 obtain ⟨oe, vs, oT, ts, a0, he, hc, hd, h1, hne, hT, hdT, h3⟩ := F
 have z3 : 3 < ts.size := (Array.getElem?_eq_some_iff.mp h3).1
 have nf := qji hl hT hdT
 refine qdp he hd h1 hT hdT z3 ?_
 obtain ⟨o2, t2, q1, q2, q3⟩ := v7 hT hdT z3
 refine k _ T ⟨fun b o hb _ q => ?_, fun b o hb q => ⟨o.slots, (zK fun (z : b = T) => nf (z ▸ hb)).trans q⟩⟩ ⟨oe, vs, o2, t2, a0, (zK (Ne.symm hne)).trans he, hc, hd, h1, hne, q1, q2, q3⟩ (.inl rfl)
 simp only [List.mem_cons, nN_, or_false, not_or] at hb
 exact (zK hb.2).trans q
end
theorem qh9 {P : Program} {w : World} {H : Hp} {h h' : Heap} (x : HOk P w H h) (k : ∀ b o, (H b).isSome = true -> h.get? b = some o -> h'.get? b = some o) : HOk P w H h' := fun a o e =>
 (x a o e).stay (fun b u hb q => k b u (by
   rcases hb with rfl | hb; · rw [e]; rfl
   ·rw [hb]; rfl) q) (fun _ z => z) fun _ _ z => z
theorem ui {P : Program} {w : World} {H : Hp} {h : Heap} {a : Addr} {o : HO} (x : yq P w H h a o) : ∃ u, h.get? a = some u := by
 cases o with
 | lst xs => obtain ⟨_, _, _, _, e⟩ := x; exact ⟨_, e⟩
 | tup xs => obtain ⟨_, _, _, ob, e, _⟩ := x; exact ⟨_, e⟩
 | dK kvs => obtain ⟨_, _, _, _, o, _, _, e, _⟩ := x; exact ⟨_, e⟩
 | dT kvs => obtain ⟨_, _, _, _, o, _, _, e, _⟩ := x; exact ⟨_, e⟩
 | set S n => obtain ⟨o, _, _, _, e, _⟩ := x; exact ⟨_, e⟩
 | ins C dx fs => obtain ⟨_, _, _, e, _⟩ := x; exact ⟨_, e⟩
 | own y => obtain ⟨_, e⟩ := x; exact ⟨_, e⟩
 | xd fs => obtain ⟨_, ⟨_, _, _, e, _⟩, _⟩ := x; exact ⟨_, e⟩
 | rng lo hi => obtain ⟨_, _, _, e⟩ := x; exact ⟨_, e⟩
 | frz ob u => obtain ⟨e, _⟩ := x; exact ⟨_, e⟩
 | tbl ps => exact ⟨_, (show h.get? a = some _ from x)⟩
 | met f y => exact ⟨_, (show h.get? a = some _ from x)⟩
 | ext φ => obtain ⟨_, e, _⟩ := x; exact e
 | lam pos q => rcases x with e | ⟨_, _, _, _, _, _, _, e⟩ <;> exact ⟨_, e⟩
section
variable {X : Cx} {pins : List (Addr × Obj)} {Z : St} {H : Hp} {s : Shared}
theorem qdr {H' : Hp} {s' : Shared} {h' : Heap} {ch : List Addr} (I : Inv X pins Z H s) (hs : X.stack = X.env :: X.outer) (hf : X.env.frame = some X.env.locals) (hex : X.ex = [])
  (u : Un (frs X.stack) [] H H' s.heap s'.heap) (hok : HOk X.prog X.w H' s'.heap) (hch : ∀ b ∈ ch, H' b = none) (hchn : ∀ b ∈ ch, s.heap.get? b = none) (x : Lft s'.heap h' ch (frs X.stack)) :
  Un (frs X.outer) [] X.H₀ H' X.s₀.heap h' /\ HOk X.prog X.w H' h' := by
 have hfs : frs X.stack = X.env.locals :: frs X.outer := by rw [hs]; unfold frs; rw [List.filterMap_cons, hf]
 have hb := I.base
 rw [hex] at hb
 have nL : ∀ b o, X.s₀.heap.get? b = some o -> b ≠ X.env.locals := fun b o q z => absurd (Nat.lt_of_lt_of_le (Heap.lt_size q) (z ▸ I.ok.above)) (Nat.lt_irrefl _)
 have nch : ∀ b o, X.s₀.heap.get? b = some o -> b ∉ ch := fun b o q z => by
  obtain ⟨o', q'⟩ := hb.there b o q (by simp)
  rw [hchn b z] at q'; cases q'
 have nfs : ∀ b o, X.s₀.heap.get? b = some o -> b ∉ frs X.outer -> b ∉ frs X.stack := fun b o q z y => by
  rw [hfs] at y
  exact (List.mem_cons.mp y).elim (nL b o q) z
 have yfs : ∀ b, b ∈ frs X.outer -> b ∈ frs X.stack := fun b z => by rw [hfs]; exact mM _ z
 refine ⟨⟨fun b o q n hb1 _ => ?_, fun b o q n hb1 _ => ?_, fun b o q n _ => ?_, fun b o q _ => ?_, fun b xs q => u.tups b xs (hb.tups b xs q), fun b o v q => u.frzs b o v (hb.frzs b o v q), fun b ps y q => u.tbls b ps y (hb.tbls b ps y q)⟩, ?_⟩
 ·exact x.keep b o (nch b o q) (nfs b o q hb1) (u.keep b o (hb.keep b o q n hb1 (by simp)) (hb.free b o q n (by simp)) (nfs b o q hb1) (by simp))
 ·obtain ⟨sl, q1⟩ := hb.slot b o q n hb1 (by simp)
  obtain ⟨sl2, q2⟩ := u.slot b _ q1 (hb.free b o q n (by simp)) (yfs b hb1) (by simp)
  obtain ⟨sl3, q3⟩ := x.slot b _ (yfs b hb1) q2
  exact ⟨sl3, q3⟩
 ·obtain ⟨o', q'⟩ := hb.there b o q (by simp)
  exact u.free b o' q' (hb.free b o q n (by simp)) (by simp)
 ·obtain ⟨o1, q1⟩ := hb.there b o q (by simp)
  obtain ⟨o2, q2⟩ := u.there b o1 q1 (by simp)
  by_cases hb1 : b ∈ frs X.stack
  ·obtain ⟨sl, q3⟩ := x.slot b o2 hb1 q2
   exact ⟨_, q3⟩
  ·exact ⟨o2, x.keep b o2 (nch b o q) hb1 q2⟩
 ·refine qh9 hok fun b o hb1 q => x.keep b o (fun z => ?_) (fun z => ?_) q
  ·rw [hch b z] at hb1; cases hb1
  ·obtain ⟨_, o1, ho1, _⟩ := I.stack.mem z
   rw [u.free b o1 ho1 (I.stkFree b z) (by simp)] at hb1
   cases hb1
theorem qjj {s' : Shared} {E : XK} {u : Value} {A : Around} (I : Inv X pins Z H s) (hs : X.stack = X.env :: X.outer) (hf : X.env.frame = some X.env.locals) (hex : X.ex = []) (hA : A.frames = some X.stack) (x : CX1 X.prog X.w X.stack H s E u s') {E' : Value -> Shared -> Prop} :
  wpAny (model X.prog X.w) A (leaving X.env u) (fun _ s'' => CX1 X.prog X.w X.outer X.H₀ X.s₀ E u s'') E' s' := by
 obtain ⟨e, T, C, H', rfl, os, bare, un, hok, he, hT, hHe, hHT, F, q⟩ := x
 have hl : s'.heap.FunFrames X.base X.stack := by
  have h0 := I.stack
  have all : ∀ (l : List PySem.Env), (∀ b ∈ frs l, b ∈ frs X.stack) -> s.heap.FunFrames X.base l -> s'.heap.FunFrames X.base l := by
   intro l
   induction l with
   | nil => intro _ _; trivial
   | cons env r ih =>
    intro hss hl
    obtain ⟨hk, ⟨L, o, hf', hn, ho, hd⟩, hr⟩ := hl
    have hfr : frs (env :: r) = L :: frs r := by unfold frs; rw [List.filterMap_cons, hf']
    rw [hfr] at hss
    have hL := hss L mS_
    obtain ⟨sl, e⟩ := un.slot L o ho (I.stkFree L hL) hL (by simp)
    exact ⟨hk, ⟨L, _, hf', hn, e, hd⟩, ih (fun b hb => hss b (mM _ hb)) hr⟩
  exact all X.stack (fun _ z => z) h0
 rw [hs] at hl hA
 refine qd7 hA hl hf F fun h' T' y1 y2 y3 => ?_
 rw [<- hs] at y1
 have hz : ∀ b ∈ [e, T], H' b = none := fun b hb => by
  simp only [List.mem_cons, nN_, or_false] at hb
  rcases hb with rfl | rfl
  ·exact hHe
  ·exact hHT
 have hzn : ∀ b ∈ [e, T], s.heap.get? b = none := fun b hb => by
  simp only [List.mem_cons, nN_, or_false] at hb
  rcases hb with rfl | rfl
  ·exact he
  ·exact hT
 obtain ⟨z1, z2⟩ := qdr I hs hf hex un hok hz hzn y1
 have up : ∀ b, s.heap.get? b = none -> X.s₀.heap.get? b = none := fun b hb => by
  cases q : X.s₀.heap.get? b with
  | none => rfl
  | some o =>
   obtain ⟨o', q'⟩ := I.base.there b o q (by rw [hex]; simp)
   rw [hb] at q'; cases q'
 have up' : ∀ b, s'.heap.get? b = none -> s.heap.get? b = none := fun b hb => by
  cases q : s.heap.get? b with
  | none => rfl
  | some o =>
   obtain ⟨o', q'⟩ := un.there b o q (by simp)
   rw [hb] at q'; cases q'
 have hT2 : s.heap.get? T' = none := y3.elim (fun z => z ▸ hT) (up' T')
 have hHT2 : H' T' = none := y3.elim (fun z => z ▸ hHT) fun z => by
  cases q : H' T' with
  | none => rfl
  | some o =>
   obtain ⟨o', q'⟩ := ui (hok _ _ q)
   rw [z] at q'; cases q'
 exact ⟨e, T', C, H', rfl, os.trans I.os, bare, z1, z2, up e he, up T' hT2, hHe, hHT2, y2, q⟩
end
structure XC (base : Heap) (C : Addr) (bm : List Value) : Prop where
 hasBase : bm.contains (.type "BaseException") = true
 ex : ∃ nm q N bs hdct sn sub ab col dd k0 k1 k2 k3 k5 newId initId B bmB mN, base.get? C = some (excClassObj nm q C N bs bm hdct sn sub ab col dd k0 k1 k2 k3 k5 newId) /\ base.Ns N mN /\ mN "__init__" = none /\ OwnTail base bmB bm /\ ExcBaseFacts B newId initId bmB
def qbf (n p : Nat) (body : MS) (ds : List D) : R D := if ds.length = p then match body (jC n ds) with
 | .ok (.rt d _) => .ok d
 | .ok (.nx _) => .ok .non
 | .exc x U => .exc x U
 | _ => .bad else .bad
section
variable {X : Cx} {c : Fc} {e : Expr} {es : List Expr} {pos cpos np : Pos}
theorem qg5 {x : Str} {C : Addr} {bm : List Value} {t : TA} {E : XK} (hc : X.calm = true) (hg : Gl X x) (hm : X.mg x = some (.ref C)) (xc : XC X.base C bm) (ha : PA X (e :: es) t)
  (made : ∀ pins Z H s h' a us, Inv X pins Z H s -> Heap.MadeExcOf s.heap h' a (.ref C) us -> E (.ref C) none H -> X.xe (.ref a) { s with heap := h' })
  (hd : (x == ("__debug__" : Str)) = false := by decide) (he : starEach (e :: es) X.env = (false, eval e X.env) :: starEach es X.env := by rfl) (hpl : (backTo cpos (starEach es X.env)).any (·.1) = false := by rfl) :
  PS X (.Raise (some (.Call (.Name x np) (e :: es) [] cpos)) none pos) (fun _ Z H => t Z H fun vs H1 => vs.length <= sizeLine /\ E (.ref C) none H1) := by
 intro pins s Z H D I h
 obtain ⟨nm, q, N, bs, hdct, sn, sub, ab, col, dd, k0, k1, k2, k3, k5, newId, initId, B, bmB, mN, hC, hN, hni, T, FB⟩ := xc.ex
 refine wpAny_Raise_call_subT (C := C) (nm := nm) (q := q) (N := N) (bs := bs) (bm := bm) (hdct := hdct) (sn := sn) (sub := sub) (ab := ab) (col := col) (dd := dd) (k0 := k0) (k1 := k1) (k2 := k2) (k3 := k3) (k5 := k5)
  FB (mN := mN) xc.hasBase (I.ok.hd hc) (by rw [he]; show (false || (backTo cpos (starEach es X.env)).any (·.1)) = false; rw [hpl]; rfl) hni ?_
 have hn : PE X (.Name x np) (fun _ H Q => Q (.ref C) H) := qcx hg hm rfl hd
 refine thn (hn pins s Z H (fun v H1 => v = .ref C /\ H1 = H) I ⟨rfl, rfl⟩) fun f s1 h1 => ?_
 obtain ⟨v, H1, I1, rv, rfl, rfl⟩ := h1
 refine ⟨rv, ?_⟩
 have h2 := ha cpos pins s1 Z _ _ I1 h
 rw [he] at h2 |-
 refine Calls.evalArgs_plain (thn h2 fun vs s2 h3 => ?_)
 obtain ⟨ws, H2, I2, r2, hl, hE⟩ := h3
 refine ⟨rfl, by rw [<- r2.length]; exact hl, I2.bk _ _ hC, hN.keeps I2.bk, T.keeps I2.bk, fun h' a hx => made pins Z H2 s2 h' a vs I2 hx hE⟩
structure XL (X : Cx) (c : Fc) (cl : Str -> Option Addr) (E : XK) : Prop where
 made : ∀ C pins Z H s h' a us, Inv X pins Z H s -> Heap.MadeExcOf s.heap h' a (.ref C) us -> E (.ref C) none H -> X.xe (.ref a) { s with heap := h' }
 pass : w8 (CX1 X.prog X.w) X E
 wish : ∀ x C H', cl x.cls = some C -> c.E x H' -> E (.ref C) none H'
structure XL2 (X : Cx) (c : Fc) (cl : Str -> Option Addr) (E : XK) : Prop where
 pass : w8 (CX1 X.prog X.w) X E
 wish : ∀ x C H', cl x.cls = some C -> c.E x H' -> E (.ref C) none H'
theorem XL.two {X : Cx} {c : Fc} {cl : Str -> Option Addr} {E : XK} (L : XL X c cl E) : XL2 X c cl E := ⟨L.pass, L.wish⟩
def qaS (x : Str) (f : M (List D)) : MS := fun U => match f U with
 | .ok (ds, U') => if qQ ds.length then .exc ⟨x, .non⟩ U' else .bad
 | .exc z U' => .exc z U'
 | .bad => .bad
theorem qbg {x : Str} {C : Addr} {bm : List Value} {f : M (List D)} {E : XK} {cl : Str -> Option Addr} (hc : X.calm = true) (L : XL X c cl E) (hcl : cl x = some C) (hg : Gl X x) (hm : X.mg x = some (.ref C)) (xc : XC X.base C bm) (ha : DA X c (e :: es) f)
  (hd : (x == ("__debug__" : Str)) = false := by decide) (he : starEach (e :: es) X.env = (false, eval e X.env) :: starEach es X.env := by rfl) (hpl : (backTo cpos (starEach es X.env)).any (·.1) = false := by rfl) :
  DS X c (.Raise (some (.Call (.Name x np) (e :: es) [] cpos)) none pos) (qaS x f) := by
 obtain ⟨t, pa, w⟩ := ha
 refine ⟨_, qg5 (E := E) hc hg hm xc pa (L.made C) hd he hpl, fun U Z H D r h => w U Z H _ r ?_⟩
 unfold qaS at h
 cases ef : f U with
 | bad => rw [ef] at h; exact h
 | exc z U' => rw [ef] at h; exact fun H' r' g' => h Z H' r' g'.s
 | ok p =>
  obtain ⟨ds, U'⟩ := p
  rw [ef] at h
  intro vs H' r' i' g'
  by_cases hs : qQ ds.length = true
  ·simp only [hs, if_true] at h
   exact ⟨by rw [i'.length]; exact of_decide_eq_true hs, L.wish ⟨x, .non⟩ C H' hcl (h Z H' r' g'.s)⟩
  ·simp only [hs] at h
   exact h.elim
def spX (K : Fr0) (cl : Str -> Option Addr) (F : List D -> R D) : Sp := fun vs H Q E => ∃ ds A, IsL K A H ds vs /\ qbR K H /\ match F ds with
 | .ok d => ∀ v H', jk H H' -> Is K (fun a => A a \/ H a = none) H' d v -> Q v H'
 | .exc x _ => ∃ C, cl x.cls = some C /\ ∀ H', jk H H' -> E (.ref C) none H'
 | .bad => False
def yM (RN : List Str) (F : List D -> R D) (g : M (List D)) : M D := bnd g fun ds U => match F ds with
 | .ok d => .ok (d, U)
 | .exc x _ => if RN.contains x.cls then .exc x U else .bad
 | .bad => .bad
theorem qg6 {k : Nat} {f : Addr} {fd : FuncData} {ps : List Str} {F : List D -> R D} {x : Str} {p : Pos} {g : M (List D)} {E : XK} {cl : Str -> Option Addr} (L : XL2 X c cl E) {RN : List Str} (hcl : ∀ n, RN.contains n = true -> (cl n).isSome = true)
  (G : u8 X.prog X.w X.K X.mg X.base (CX1 X.prog X.w) k f fd ps (spX X.K cl F)) (hr : uc k X.A) (hg : Gl X x) (hm : X.mg x = some (.ref f)) (hk : PySem.W.keepIn X.K (.ref f) = true) (hb : uC X.K fd ps [])
  (ha : DA X c (e :: es) g) (hd : (x == ("__debug__" : Str)) = false := by decide) (he : starEach (e :: es) X.env = (false, eval e X.env) :: starEach es X.env := by rfl) (hpl : (backTo pos (starEach es X.env)).any (·.1) = false := by rfl) : DE X c (.Call (.Name x p) (e :: es) [] pos) (yM RN F g) := by
 obtain ⟨t, pa, w⟩ := ha
 refine ⟨_, w9 G hr hg hm hk hb .nil L.pass pa hd he hpl, fun U Z H Q r h => w U Z H _ r (WpL.bnd h fun ds U1 vs H1 r1 i1 g1 h1 => ?_)⟩
 rw [List.append_nil]
 refine ⟨ds, Cn c Z, i1, r1.tb, ?_⟩
 cases ef : F ds with
 | bad => simp only [ef] at h1; exact h1.elim
 | exc z U' =>
  simp only [ef] at h1
  by_cases hz : RN.contains z.cls = true
  case neg => rw [if_neg hz] at h1; exact h1.elim
  rw [if_pos hz] at h1
  obtain ⟨C, hC⟩ := Option.isSome_iff_exists.mp (hcl z.cls hz)
  exact ⟨C, hC, fun H' sm => L.wish z C H' hC (h1 H' (r1.same sm) (.of_same sm))⟩
 | ok d =>
  simp only [ef] at h1
  exact fun v H' sm i => h1 v H' (r1.same sm) (Is.ext Ext.refl (fun a ha _ => ha.elim id r1.new) i) (.of_same sm)
def qds (F : List D -> R D) (g : M (List D)) : M D := bnd g fun ds U => match F ds with
 | .ok d => .ok (d, U)
 | _ => .bad
theorem qg7 {k : Nat} {f : Addr} {fd : FuncData} {ps : List Str} {F : List D -> R D} {x : Str} {p : Pos} {g : M (List D)} {cl : Str -> Option Addr}
  (G : u8 X.prog X.w X.K X.mg X.base (CX1 X.prog X.w) k f fd ps (spX X.K cl F)) (hr : uc k X.A) (hg : Gl X x) (hm : X.mg x = some (.ref f)) (hk : PySem.W.keepIn X.K (.ref f) = true) (hb : uC X.K fd ps [])
  (ha : DA X c (e :: es) g) (hd : (x == ("__debug__" : Str)) = false := by decide) (he : starEach (e :: es) X.env = (false, eval e X.env) :: starEach es X.env := by rfl) (hpl : (backTo pos (starEach es X.env)).any (·.1) = false := by rfl) : DE X c (.Call (.Name x p) (e :: es) [] pos) (qds F g) := by
 obtain ⟨t, pa, w⟩ := ha
 refine ⟨_, w9 (E := fun _ _ _ => False) G hr hg hm hk hb .nil (fun _ _ _ _ _ _ _ ⟨_, _, _, _, _, _, _, _, _, _, _, _, _, _, z⟩ => z.elim) pa hd he hpl, fun U Z H Q r h => w U Z H _ r (WpL.bnd h fun ds U1 vs H1 r1 i1 g1 h1 => ?_)⟩
 rw [List.append_nil]
 refine ⟨ds, Cn c Z, i1, r1.tb, ?_⟩
 cases ef : F ds with
 | bad => simp only [ef] at h1; exact h1.elim
 | exc z U' => simp only [ef] at h1; exact h1.elim
 | ok d =>
  simp only [ef] at h1
  exact fun v H' sm i => h1 v H' (r1.same sm) (Is.ext Ext.refl (fun a ha _ => ha.elim id r1.new) i) (.of_same sm)
end
section
variable {P : Program} {w : World} {K : PySem.W.Frag} {mg : Str -> Option Value} {base : Heap}
theorem qb6 {N : List Str} {qual : Str} {scope : Scope} {f : Addr} {cdv : Value} {A : Around} {outer : List PySem.Env} {s : Shared} {H : Hp} {E : XK} {c : Fc} {cl : Str -> Option Addr} (hf : (envOfC qual scope s.heap.objs.size f cdv).frame = some s.heap.objs.size)
  (hw : ∀ x C H', cl x.cls = some C -> c.E x H' -> E (.ref C) none H') : XL (qeP (CX1 P w) P w K mg base N qual scope f cdv A outer s H E) c cl E where
 made := fun C pins Z H1 s1 h' a us I hx hE => by
  show wpAny (model P w) _ (leaving _ (.ref a)) _ _ _
  refine qd8 (s := { s1 with heap := h' }) (h := s1.heap) (base := base) I.ok.frames I.stack hf hx fun h2 T' y1 y2 y3 => ?_
  have hn : H1 a = none := by
   cases q : H1 a with
   | none => rfl
   | some o =>
    obtain ⟨o', q'⟩ := ui (I.hok _ _ q)
    rw [hx.new] at q'; cases q'
  have hT : s1.heap.get? T' = none := by
   cases q : s1.heap.get? T' with
   | none => rfl
   | some o => rw [show ({ s1 with heap := h' } : Shared).heap.get? T' = some o from hx.keeps _ _ q] at y3; cases y3
  have hHT : H1 T' = none := by
   cases q : H1 T' with
   | none => rfl
   | some o =>
    obtain ⟨o', q'⟩ := ui (I.hok _ _ q)
    rw [hT] at q'; cases q'
  have up : ∀ b, s1.heap.get? b = none -> s.heap.get? b = none := fun b hb => by
   cases q : s.heap.get? b with
   | none => rfl
   | some o =>
    obtain ⟨o', q'⟩ := I.base.there b o q (by show b ∉ ([] : List Addr); simp)
    rw [hb] at q'; cases q'
  obtain ⟨z1, z2⟩ := qdr (s' := { s1 with heap := h' }) I rfl hf rfl (Un.kept hx.keeps) (I.hok.kept hx.keeps) (fun b hb => by rw [List.mem_singleton] at hb; subst hb; exact hn) (fun b hb => by rw [List.mem_singleton] at hb; subst hb; exact hx.new) y1
  exact ⟨a, T', C, H1, rfl, I.os, I.bare, z1, z2, up a hx.new, up T' hT, hn, hHT, y2, hE⟩
 pass := fun pins Z H1 s1 u s' I x => qjj I rfl hf rfl I.ok.frames x
 wish := hw
theorem qb7 {x qual : Str} {st : Stmt} {f : Addr} {fd : FuncData} {N ps : List Str} {k : Nat} {O : List Nat} {body : MS} {cl : Str -> Option Addr} (F : Fun K x qual st f fd) (S : qw N ps (qf st)) (hO : ∀ i ∈ O, ps.length <= i)
  (hb : ∀ (cdv : Value) (A : Around) (outer : List PySem.Env) (s : Shared) (H : Hp) (E : XK) (B : Addr -> Prop), uc k (A.deeper (envOfC qual (qf st) s.heap.objs.size f cdv)) ->
   DSs (qeP (CX1 P w) P w K mg base N qual (qf st) f cdv A outer s H E) (cfn O [] B H (fun _ => False) (fun x H' => ∀ C, cl x.cls = some C -> E (.ref C) none H') fun _ => none) (qv st) body) :
  u8 P w K mg base (CX1 P w) (k + 1) f fd ps (spX K cl (qbf N.length ps.length body)) := by
 obtain ⟨oc, od, kV, doc, pm, an, cdv, ct, osl, rfl, lk, hcd⟩ := F.ex
 refine qiL lk hcd S (fun vs H Q E h => ?_) fun A outer s H vs Q E hr h => ?_
 ·obtain ⟨ds, B, il, _, h⟩ := h
  unfold qbf at h
  by_cases e : ds.length = ps.length
  ·rw [il.length]; exact e
  ·rw [if_neg e] at h; exact h.elim
 ·obtain ⟨ds, B, il, tb, h⟩ := h
  obtain ⟨t, p, wt⟩ := hb cdv A outer s H E B hr
  refine ⟨t, p, ?_⟩
  unfold qbf at h
  by_cases e : ds.length = ps.length
  ·rw [if_pos e] at h
   refine wt (jC N.length ds) (zD N vs) H _ (uI il tb (fun i hi => by rw [e]; exact hO i hi)) ?_
   have same : ∀ {U : Env} {Z : St} {H' : Hp}, Rep K (cfn O [] B H (fun _ => False) (fun x H' => ∀ C, cl x.cls = some C -> E (.ref C) none H') fun _ => none) U Z H' -> jk H H' := fun r b o hb => r.kp b o hb fun z => z
   cases eb : body (jC N.length ds) with
   | bad => rw [eb] at h; exact h.elim
   | exc z U =>
    rw [eb] at h
    obtain ⟨C, hC, h⟩ := h
    exact fun Z' H' r' _ C' hC' => by
     rw [hC] at hC'; cases hC'
     exact h H' (same r')
   | ok fl =>
    rw [eb] at h
    cases fl with
    | nx U => exact fun Z' H' r' _ => h .non H' (same r') rfl
    | rt d U => exact fun v Z' H' r' i' _ => h v H' (same r') i'
    | bk U => exact h.elim
    | ct U => exact h.elim
  ·rw [if_neg e] at h; exact h.elim
structure vt (P : Program) (w : World) (K : PySem.W.Frag) (mg : Str -> Option Value) (base : Heap) (k : Nat) (x : Str) (ps : List Str) (sp : Sp) : Prop where
 ex : ∃ f fd, u8 P w K mg base (CX1 P w) k f fd ps sp /\ mg x = some (.ref f) /\ PySem.W.keepIn K (.ref f) = true /\ uC K fd ps []
end
theorem qll {X : Cx} {c : Fc} {st : Stmt} {f : MS} (h : DS X.nox c st f) : DS X c st f := by
 obtain ⟨t, p, w⟩ := h
 exact ⟨t, fun pins s Z H D I hw => wpAny_mono (p pins s Z H D (I.wish _) hw) (fun _ _ q => q.unwish) fun _ _ z => False.elim z, w⟩
section
variable {M : Model} {A : Around} {E : Value -> Shared -> Prop}
variable {nm q nm' q' : Str} {C S N N' : Addr} {bs bm bs' bm' : List Value} {hdct hdct' : Bool} {sn sn' : List Str} {sub sub' : List Value} {ab ab' : Bool} {col col' : Option Bool} {dd dd' : Option Addr} {k0 k1 k2 k3 k5 j0 j1 j2 j3 j5 : Option Value} {newId newId' : String}
theorem qaH {h : Heap} {g : Array GenState} {d : Drawn} {t : Nat} {os : OsState} {e : Addr} {oe : Obj} {Q : Bool -> Shared -> Prop}
  (hC : h.get? C = some (excClassObj nm q C N bs bm hdct sn sub ab col dd k0 k1 k2 k3 k5 newId)) (hS : h.get? S = some (excClassObj nm' q' S N' bs' bm' hdct' sn' sub' ab' col' dd' j0 j1 j2 j3 j5 newId'))
  (he : h.get? e = some oe) (hcls : oe.cls = .ref C) (hbase : bm'.contains (.type "BaseException") = true)
  (hq : Q ((Value.ref C :: bm).contains (.ref S)) ⟨h, g, d, t, os⟩) : wpAny M A (excMatches (.ref e) (.ref S)) Q E ⟨h, g, d, t, os⟩ := by
 have hcB : (Value.ref S :: bm').contains (.type "BaseException") = true := by rw [List.contains_cons, hbase, Bool.or_true]
 have f := tc_notTuple
 unfold excMatches
 repeat (first | (with_reducible refine wpAny_loadPart_at he ?_; rw [hcls]) | with_reducible refine wpAny_loadPart_at hS ?_ | (with_reducible refine wpAny_isSubtype_exc hS ?_; rw [hcB]) | with_reducible refine wpAny_isSubtype_exc hC ?_ | wp_step)
 all_goals (first | exact hq | (cases hb : (Value.ref C :: bm).contains (.ref S) <;> (rw [hb] at hq; wp_walk; exact hq)))
end
end L2.Sk
namespace L2
open PySem PySem.Spec PyProof.Rows
def AloneA (A : Around) (H : Hp) : Prop := ∃ e oe u vs, A.handled = some (.ref e) /\ H e = some (.frz oe u) /\ oe.data = .fields vs /\ vs[2]? = some .none
def qlm (A : Around) (sp : Sp) (dvs : List V) (E : XK) (t : TA) : TE := fun Z H Q => t Z H fun vs H1 => AloneA A H1 /\ sp (vs ++ dvs) H1 Q E
structure uJ (k : Nat) (A : Around) : Prop where
 dp : A.depth + 3 * k + 5 < recursionLimit
 un : A.units + 16 * k + 200 < cLine
 gd : A.guards = some []
theorem uJ.mono {j k : Nat} {A : Around} (r : uJ k A) (h : j <= k) : uJ j A := ⟨by have := r.dp; omega, by have := r.un; omega, r.gd⟩
theorem uJ.deeper {k : Nat} {A : Around} (r : uJ (k + 1) A) (env : Env) : uJ k (A.deeper env) :=
 ⟨by have := r.dp; show A.depth + 1 + 3 * k + 5 < _; omega, by have := r.un; show A.units + 3 + 16 * k + 200 < _; omega, r.gd⟩
theorem uJ.depth {k : Nat} {A : Around} (r : uJ k A) : A.depth < recursionLimit := by have := r.dp; omega
structure qb8 (P : Program) (w : World) (K : PySem.W.Frag) (mg : Str -> Option Value) (base : Heap) (CX : CXT) (k : Nat) (f : Addr) (fd : FuncData) (ps : List Str) (sp : Sp) : Prop where
 len : ∀ vs H Q E, sp vs H Q E -> vs.length = ps.length
 run : ∀ (A : Around) (outer : List Env) (s : Shared) (H : Hp) (args : Args) (us : List Value) (vs : List V) (Q : VK) (E : XK), uJ k A -> AloneA A H -> qkb P w K mg base A outer s H -> BindsTo s fd args (ps.zip us) -> zb vs us -> sp vs H Q E ->
  codeAny (model P w) A (.call (.ref f) args) (CR CX outer P w H s Q E) s
def qea (CX : CXT) (P : Program) (w : World) (K : PySem.W.Frag) (mg : Str -> Option Value) (base : Heap) (N : List Str) (qual : Str) (scope : Scope) (f : Addr) (cd : Value) (A : Around) (outer : List Env) (s : Shared) (H : Hp) (E : XK) : Cx where
 prog := P
 w := w
 K := K
 mg := mg
 base := base
 A := A.deeper (envOfC qual scope s.heap.objs.size f cd)
 N := N
 s₀ := s
 H₀ := H
 env := envOfC qual scope s.heap.objs.size f cd
 outer := outer
 stack := envOfC qual scope s.heap.objs.size f cd :: outer
 ex := []
 calm := false
 fn := fun _ => true
 pn := []
 xe := fun e s' => wpAny (model P w) (A.deeper (envOfC qual scope s.heap.objs.size f cd)) (leaving (envOfC qual scope s.heap.objs.size f cd) e) (fun _ s'' => CX outer H s E e s'') (fun e' s'' => CX outer H s E e' s'') s'
theorem qeb {CX : CXT} {P : Program} {w : World} {K : PySem.W.Frag} {mg : Str -> Option Value} {base : Heap} {N ps : List Str} {qual : Str} {scope : Scope} {f : Addr} {cd : Value} {A : Around} {outer : List Env} {s s1 : Shared} {H : Hp} {E : XK} {us : List Value} {vs : List V}
  (S : qw N ps scope) (e0 : qkb P w K mg base A outer s H) (hl : vs.length = ps.length) (r : zb vs us)
  (x : InCallC s s.heap.objs.size (bindL (envOfC qual scope s.heap.objs.size f cd).kindOf (ps.zip us) fun _ => none) (cellsFrom (s.heap.objs.size + 1) scope.names []) (bindC (envOfC qual scope s.heap.objs.size f cd).kindOf (ps.zip us) fun _ => none) s1) :
  Inv (qea CX P w K mg base N qual scope f cd A outer s H E) [] (zD N vs) H s1 := by
 have hpl : ps.length <= N.length := by have := congrArg List.length S.pre; rw [List.length_take] at this; omega
 obtain ⟨h1, tk, rfl, hk⟩ := x.done
 have noA : ∀ b : Addr, b ∉ (qea CX P w K mg base N qual scope f cd A outer s H E).ex := fun b z => absurd (show b ∈ ([] : List Addr) from z) (by simp)
 refine ⟨⟨e0.mod, S.kind, rfl, rfl, Nat.le_refl _, fun y z c h1 h2 => ?_, fun y hy => ?_, fun y c _ h => ?_, (fun z => Bool.noConfusion z), Around.frames_deeper e0.frames, .inr ⟨rfl, rfl⟩, fun b z => absurd z (noA b), e0.bs, e0.bsz, fun b _ _ => noA b, fun b z => absurd z (noA b), e0.funs, e0.frf⟩,
  rfl, e0.bare, Un.kept hk, ⟨_, x.toInCall.ns, fun i y v h1 h2 h3 => ?_⟩, fun y c h => ⟨_, x.cell y c h⟩, e0.hok.fresh (Nat.le_refl _), fun y c h => ?_, fun p hp => absurd (show p ∈ ([] : List (Addr × Obj)) from hp) (by simp), e0.hok.kept hk, ?_⟩
 ·exact name_of_addr x.apart (PySem.mem_of_lookup h1) (PySem.mem_of_lookup h2)
 ·have hy : scope.names.lookup y = some .cell \/ scope.names.lookup y = some .free := hy
  rcases hy with hy | hy
  ·exact wU hy
  ·exact absurd rfl (S.nofree _ (PySem.mem_of_lookup hy))
 ·exact Nat.le_of_lt (x.above y c (PySem.mem_of_lookup h))
 ·have hi : i < vs.length := by
   unfold zD at h2
   by_cases hi : i < vs.length
   ·exact hi
   ·rw [List.getElem?_append_right (by simpa using hi)] at h2
    rw [List.getElem?_replicate] at h2
    split at h2 <;> cases h2
  have ha : vs[i]? = some v := by
   unfold zD at h2
   rw [List.getElem?_append_left (by simpa using hi), gM_] at h2
   cases e : vs[i]? with
   | none => rw [e] at h2; cases h2
   | some a => rw [e] at h2; cases h2; rfl
  obtain ⟨u, hu, rv⟩ := r.get ha
  have hp : ps[i]? = some y := by
   rw [<- S.pre, List.getElem?_take_of_lt (by omega)]; exact h1
  have ndP : ps.Nodup := by rw [<- S.pre]; exact S.nd.sublist (List.take_sublist _ _)
  refine ⟨u, rv, ?_⟩
  rcases S.par y (List.mem_of_getElem? hp) with k | k
  ·exact .inl ⟨k, qaa ndP hp hu k⟩
  ·obtain ⟨c, e⟩ := wU (n := s.heap.objs.size + 1) k
   refine .inr ⟨.inl k, c, e, ?_⟩
   have q := x.cell y c e
   rw [qab ndP hp hu (by show scope.names.lookup y ≠ _; rw [k]; decide)] at q
   exact q
 ·exact e0.hok.fresh (Nat.le_of_lt (x.above y c (PySem.mem_of_lookup h)))
 ·unfold zD
  show _ = N.length
  rw [lA_, lM_, List.length_replicate]
  omega
theorem qln {CX : CXT} {P : Program} {w : World} {K : PySem.W.Frag} {mg : Str -> Option Value} {base : Heap} {k : Nat} {f : Addr} {name qual : Str} {params : Arguments} {body : List Stmt} {scope : Scope} {dV kV doc pm cdv ct oc : Value} {an od : Option Addr}
  {osl : Array (Option Value)} {N ps : List Str} {sp : Sp} (lk : K.lookup f = some ⟨oc, od, .func (PySem.W.fnOf name qual params body scope dV kV doc pm an cdv ct), osl⟩) (hcd : PySem.W.codeIn K cdv qual = true) (S : qw N ps scope)
  (len : ∀ vs H Q E, sp vs H Q E -> vs.length = ps.length)
  (hbody : ∀ (A : Around) (outer : List Env) (s : Shared) (H : Hp) (vs : List V) (Q : VK) (E : XK), uJ k (A.deeper (envOfC qual scope s.heap.objs.size f cdv)) -> AloneA (A.deeper (envOfC qual scope s.heap.objs.size f cdv)) H -> sp vs H Q E ->
   ∃ t, PSs (qea CX P w K mg base N qual scope f cdv A outer s H E) body t /\ t { nx := fun _ H' => Q .non H', rt := Q } (zD N vs) H) :
  qb8 P w K mg base CX (k + 1) f (PySem.W.fnOf name qual params body scope dV kV doc pm an cdv ct) ps sp := by
 refine ⟨len, fun A outer s H args us vs Q E hr al e0 hb r hsp => ?_⟩
 have hl := len _ _ _ _ hsp
 have KX : K.In s.heap := e0.mod.kin.keeps fun b o e => (e0.bs b o e).1
 have lim : s.heap.NoLimit := e0.mod.nolimit.keeps fun b o e => (e0.bs b o e).1
 have hkind : ∀ y ∈ ps.zip us, scope.names.lookup y.1 = some .local \/ (scope.names.lookup y.1 = some .cell /\ ((cellsFrom (s.heap.objs.size + 1) scope.names []).lookup y.1).isSome = true) := fun ⟨n, v⟩ hy => by
  rcases S.par n (List.of_mem_zip hy).1 with q | q
  ·exact .inl q
  ·exact .inr ⟨q, PySem.W.cellsFrom_some _ _ _ (.inl q)⟩
 refine codeAny_call_function hr.depth (KX _ _ lk) rfl S.co S.gen rfl (PySem.W.codeRec_of KX hcd) (hb _ _ _ _ ?_)
 refine wpAny_newFunctionEnv_cells S.kind hkind fun env he s1 x => ?_
 subst he
 refine ⟨lim.keeps x.toInCall.keep, codeAny_func ?_⟩
 obtain ⟨t, ht, hq⟩ := hbody A outer s H vs Q E (hr.deeper _) al hsp
 have I : Inv (qea CX P w K mg base N qual scope f cdv A outer s H E) [] (zD N vs) H s1 := qeb S e0 hl r x
 refine wpAny_mono (ht [] s1 (zD N vs) H _ I hq) (fun fl s' hs => ?_) fun e s' hs => hs
 have fin : ∀ {Z' : St} {H' : Hp} {v : V} {u : Value}, Inv (qea CX P w K mg base N qual scope f cdv A outer s H E) [] Z' H' s' -> jE v u -> Q v H' -> CE outer P w H s Q u s' :=
  fun {Z' H' v u} J rv q => ⟨v, H', J.os, J.bare, J.base, J.hok, rv, q⟩
 cases fl with
 | ret u =>
  obtain ⟨v, Z', H', J, rv, q⟩ := hs
  exact fin J rv q
 | next =>
  obtain ⟨Z', H', J, q⟩ := hs
  exact fin (v := V.non) (u := Value.none) J rfl q
 | brk =>
  obtain ⟨_, _, _, q⟩ := hs
  exact False.elim q
 | cont =>
  obtain ⟨_, _, _, q⟩ := hs
  exact False.elim q
section
variable {X : Cx} {CX : CXT} {k : Nat} {f C : Addr} {fd : FuncData} {ps : List Str} {sp : Sp} {dvs : List V} {ds : List Value} {E : XK} {x m : Str} {p pos apos : Pos} {e o : Expr} {es : List Expr} {ta : TE} {t : TA}
theorem qjk {pins : List (Addr × Obj)} {Z : St} {H : Hp} {s : Shared} {Q : VK} {us : List Value} {vs : List V} (F : qb8 X.prog X.w X.K X.mg X.base CX k f fd ps sp) (hr : uJ k X.A) (hb : uC X.K fd ps ds) (hd : zb dvs ds) (hx : w8 CX X E)
  (I : Inv X pins Z H s) (r : zb vs us) (al : AloneA X.A H) (h : sp (vs ++ dvs) H Q E) : wpAny (model X.prog X.w) X.A (call (.ref f) us) (EP X pins Z Q) X.xe s := by
 have r2 : zb (vs ++ dvs) (us ++ ds) := r.append hd
 have hl : (us ++ ds).length = ps.length := by rw [<- r2.length]; exact F.len _ _ _ _ h
 refine wpAny_call (codeAny_mono (F.run X.A X.stack s H ⟨us, []⟩ (us ++ ds) (vs ++ dvs) Q E hr al I.env0 (hb s us I.kIn hl) r2 h) fun r s' hq => ?_)
 cases r with
 | error e => exact hx pins Z H s e s' I hq
 | ok fl =>
  cases fl with
  | ret u => exact I.after hq
  | next => exact False.elim hq
  | brk => exact False.elim hq
  | cont => exact False.elim hq
theorem qdt (F : qb8 X.prog X.w X.K X.mg X.base CX k f fd ps sp) (hr : uJ k X.A) (hg : Gl X x) (hm : X.mg x = some (.ref f)) (hk : PySem.W.keepIn X.K (.ref f) = true) (hb : uC X.K fd ps ds) (hd : zb dvs ds) (hx : w8 CX X E)
  (ha : PA X (e :: es) t) (hdb : (x == ("__debug__" : Str)) = false := by decide) (he : starEach (e :: es) X.env = (false, eval e X.env) :: starEach es X.env := by rfl) (hpl : (backTo pos (starEach es X.env)).any (·.1) = false := by rfl) :
  PE X (.Call (.Name x p) (e :: es) [] pos) (qlm X.A sp dvs E t) := by
 intro pins s Z H Q I h
 refine wpAny_Call_Name_kw (qaZ I hg hm ?_ hdb)
 refine PySem.W.callWith_K (h₀ := X.base) I.ok.mod.kin hk (thn (ha pos pins s Z H _ I h) fun us s1 ⟨vs, H1, I1, r, q⟩ => ⟨I1.kIn, ?_⟩) he hpl
 exact qjk F hr hb hd hx I1 r q.1 q.2
end
end L2
namespace L2.Sk
open PySem PySem.Spec PyProof.Rows
def isT (b : Bool) : Value -> Bool
 | .bool a => a == b
 | _ => false
theorem v8 : ∀ {bs : List Bool} {us : List Value}, zb (bs.map V.bl) us -> us = bs.map Value.bool
 | [], _, r => by rw [List.map_nil] at r; cases r; rfl
 | b :: bs, _, r => by
  rw [mC_] at r
  cases r with
  | cons r1 r2 =>
   have e : _ = Value.bool b := r1
   rw [e, v8 r2]; rfl
theorem qaT (b : Bool) : ∀ bs : List Bool, List.countP (isT b) (bs.map Value.bool) = bs.countP (· == b)
 | [] => rfl
 | a :: bs => by simp [List.countP_cons, qaT b bs, isT]
def qia : V -> List V -> Hp -> VK -> Prop := fun x vs H Q => ∃ (l : Addr) (bs : List Bool) (b : Bool), x = .ref l /\ vs = [.bl b] /\ H l = some (.lst (bs.map V.bl)) /\ Q (.int (bs.countP (· == b))) H
def qib : V -> List V -> Hp -> VK -> Prop := fun x vs H Q => ∃ (l : Addr) (bs : List Bool) (b : Bool) (j : Nat), x = .ref l /\ vs = [.bl b] /\ H l = some (.lst (bs.map V.bl)) /\ bs.findIdx? (· == b) = some j /\ Q (.int j) H
section
variable {X : Cx}
theorem qg8 : MtR X "list.count" qia := by
 intro pins s Z H x vs v us Q I rx rv h
 obtain ⟨l, bs, b, rfl, rfl, hH, q⟩ := h
 cases rx
 obtain ⟨u, rfl, ru⟩ := zb.one rv
 have ru' : u = Value.bool b := ru
 subst ru'
 obtain ⟨z, its, n, r, hl, e⟩ := I.lstM hH
 have hi := v8 r
 subst hi
 refine call_meets F.slot_list_count ⟨_, e, rfl⟩ F.entry_list_count (F.args_list_count_2 _ _) (SeqAt.list_countAt l (bs.map Value.bool).toArray n none #[] (.bool b) (isT b)) ⟨e, fun y hy => ?_, ?_⟩
 ·have hy' : y ∈ bs.map Value.bool := by simpa using hy
  obtain ⟨a, _, rfl⟩ := mP_.mp hy'
  exact SeqAt.EqAt.bool_bool a b
 ·refine ⟨.int _, H, I.tok _, ⟨s.toks, ?_⟩, q⟩
  show Value.int _ _ = Value.int _ _
  rw [List.toList_toArray, qaT]
theorem qg9 : MtR X "list.index" qib := by
 intro pins s Z H x vs v us Q I rx rv h
 obtain ⟨l, bs, b, j, rfl, rfl, hH, hj, q⟩ := h
 cases rx
 obtain ⟨u, rfl, ru⟩ := zb.one rv
 have ru' : u = Value.bool b := ru
 subst ru'
 obtain ⟨z, its, n, r, hl, e⟩ := I.lstM hH
 have hi := v8 r
 subst hi
 rw [List.findIdx?_eq_some_iff_getElem] at hj
 obtain ⟨h1, h2, h3⟩ := hj
 have hz : bs.length <= sizeLine := by simpa using z
 rw [sizeLine_eq] at hz
 refine call_meets F.slot_list_index ⟨_, e, rfl⟩ F.entry_list_index (F.args_list_index_2 _ _) (SeqAt.list_indexAt l (bs.map Value.bool).toArray n none #[] (.bool b) (isT b) j (by simpa using h1) (by omega) ?_ ?_) ⟨e, fun y hy => ?_, ?_⟩
 ·simpa [isT] using h2
 ·intro m hm hmj
  have := h3 m hmj
  simpa [isT] using this
 ·have hy' : y ∈ bs.map Value.bool := by simpa using hy
  obtain ⟨a, _, rfl⟩ := mP_.mp hy'
  exact SeqAt.EqAt.bool_bool a b
 ·exact ⟨.int _, H, I.tok _, ⟨s.toks, rfl⟩, q⟩
end
def qdu (x : D) (ys : List D) : Option D := match x, ys with
 | .lst ds, [.bl b] => (uz ds).map fun bs => .int (bs.countP (· == b))
 | _, _ => none
def qdv (x : D) (ys : List D) : Option D := match x, ys with
 | .lst ds, [.bl b] => (uz ds).bind fun bs => (bs.findIdx? (· == b)).map fun j => .int j
 | _, _ => none
def qfD (F : D -> List D -> Option D) (f : M D) (g : M (List D)) : M D := bnd f fun x => match x with
 | .lst ds => bnd g fun ys => lift (F (.lst ds) ys)
 | _ => fun _ => .bad
def qjl (K : Fr0) (F : D -> List D -> Option D) (r : V -> List V -> Hp -> VK -> Prop) : Prop := ∀ A H x ys d v vs (Q : VK), (∀ a, H a = none -> A a) -> Is K A H x v -> IsL K A H ys vs -> F x ys = some d -> (∀ u H', jk H H' -> Is K A H' d u -> Q u H') -> r v vs H Q
theorem qcO {K : Fr0} : qjl K qdu qia := by
 intro A H x ys d v vs Q hn ix iy e k
 unfold qdu at e
 split at e
 ·rename_i ds b
  obtain ⟨u, rfl, e2⟩ := IsL.inv1 iy
  cases e2
  obtain ⟨a, xs, rfl, _, ta, il⟩ := ix
  cases eb : uz ds with
  | none => rw [eb] at e; cases e
  | some bs =>
   rw [eb] at e
   cases e
   rw [ug il eb] at ta
   exact ⟨a, bs, b, rfl, rfl, ta, k _ H (jk.refl H) rfl⟩
 ·cases e
theorem qcP {K : Fr0} : qjl K qdv qib := by
 intro A H x ys d v vs Q hn ix iy e k
 unfold qdv at e
 split at e
 ·rename_i ds b
  obtain ⟨u, rfl, e2⟩ := IsL.inv1 iy
  cases e2
  obtain ⟨a, xs, rfl, _, ta, il⟩ := ix
  cases eb : uz ds with
  | none => rw [eb] at e; cases e
  | some bs =>
   rw [eb] at e
   cases ej : bs.findIdx? (· == b) with
   | none => simp only [Option.bind_some, ej] at e; cases e
   | some j =>
    simp only [Option.bind_some, ej, Option.map_some] at e
    cases e
    rw [ug il eb] at ta
    exact ⟨a, bs, b, j, rfl, rfl, ta, ej, k _ H (jk.refl H) rfl⟩
 ·cases e
section
variable {X : Cx} {c : Fc} {o e : Expr} {es : List Expr} {apos cpos : Pos}
theorem qfE {id : String} {name : Str} {r : V -> List V -> Hp -> VK -> Prop} {F : D -> List D -> Option D} {f : M D} {g : M (List D)} (slot : Slot "list" name id) (hty : typeOf (.builtin id) = pure (.type "method_descriptor")) (hm : MtR X id r) (hF : qjl X.K F r)
  (ho : DE X c o f) (ha : DA X c (e :: es) g)
  (hbase : attributeBase o name X.env (eval o X.env) = eval o X.env := by rfl)
  (hfew : ((backTo cpos (starEach (e :: es) X.env)).all (fun x => !x.1) && (backToKw cpos (keywordEach [] X.env)).all (fun x => x.1.isSome)
   && decide ((e :: es).length + ([] : List Keyword).length + (if ([] : List Keyword).isEmpty then 0 else 1) < 30)) = true := by rfl)
  (hline : (apos.endLine == cpos.line) = true := by rfl) (hs : starEach (e :: es) X.env = (false, eval e X.env) :: starEach es X.env := by rfl) (hplain : (backTo cpos (starEach es X.env)).any (·.1) = false := by rfl) :
  DE X c (.Call (.Attribute o name apos) (e :: es) [] cpos) (qfD F f g) := by
 obtain ⟨to, po, wo⟩ := ho
 obtain ⟨t, pa, wa⟩ := ha
 refine ⟨_, qiN PySem.F.plainAttrs_list slot hty hm po pa hbase hfew hline hs hplain, fun U Z H Q r0 h => wo U Z H _ r0 (Wp.bnd h fun x U1 v H1 r1 i1 g1 h1 => ?_)⟩
 cases x with
 | lst ds =>
  obtain ⟨a, xs, rfl, ha, hH, il⟩ := i1
  refine ⟨.inl ⟨rfl, xs, .inl (.inl hH)⟩, wa U1 Z H1 _ r1 (WpL.bnd h1 fun ys U2 vs H2 r2 i2 g2 h2 => ?_)⟩
  obtain ⟨d, ed, h3⟩ := h2.lift
  exact hF (Cn c Z) H2 (.lst ds) ys d (.ref a) vs Q (fun a ha => r2.new ha) (g2.is ⟨a, xs, rfl, ha, hH, il⟩) i2 ed fun u H' sm i => h3 u H' (r2.same sm) i (.of_same sm)
 | _ => exact h1.elim
end
def isI (b : Int) : Value -> Bool
 | .int a _ => a == b
 | _ => false
theorem qfF {b : Int} : ∀ {ns : List Int} {us : List Value} {i : Nat} {u : Value}, zb (ns.map V.int) us -> us[i]? = some u -> ∃ n t, ns[i]? = some n /\ u = .int n t
 | [], us, i, u, r, h => by
  rw [List.map_nil] at r; cases r; simp at h
 | n :: ns, us, i, u, r, h => by
  rw [mC_] at r
  cases r with
  | cons r1 r2 =>
   obtain ⟨t, rfl⟩ := r1
   cases i with
   | zero =>
    have : Value.int n t = u := by simpa using h
    exact ⟨n, t, rfl, this.symm⟩
   | succ i =>
    obtain ⟨m, t', h1, h2⟩ := qfF (b := b) (i := i) r2 (by simpa using h)
    exact ⟨m, t', by simpa using h1, h2⟩
section
variable {X : Cx}
end
def qnn (x : D) (ys : List D) : Option D := match x, ys with
 | .lst ds, [.int b] => (vo ds).map fun ns => .int (ns.countP (· == b))
 | _, _ => none
@[reducible] def toX (X : Cx) (xe : Value -> Shared -> Prop) (pn : List (Addr × Obj)) : Cx := { X with xe := xe, pn := pn }
@[reducible] def hdX (X : Cx) (e : Addr) : Cx := { X with A := X.A.mark (some (.ref e)), calm := false, xe := fun _ _ => False }
section
variable {X : Cx} {pins : List (Addr × Obj)} {Z : St} {H : Hp} {s : Shared} {xe : Value -> Shared -> Prop}
theorem qlo (I : Inv X pins Z H s) : Inv (toX X xe (X.pn ++ pins)) [] Z H s :=
 let k := I.ok
 ⟨⟨k.mod, k.kind, k.glob, k.blt, k.above, k.inj, k.has, k.cab, k.hd, k.frames, k.stk, k.exf, k.bs, k.bsz, k.noex, k.exfs, k.funs, k.frf⟩, I.os, I.bare, I.base, I.loc, I.cell, I.free, I.freeC,
  fun p hp => I.pin p (by rw [List.append_nil] at hp; exact hp), I.hok, I.len⟩
theorem vN {pins2 : List (Addr × Obj)} (I : Inv (toX X xe (X.pn ++ pins)) pins2 Z H s) : Inv X pins Z H s :=
 let k := I.ok
 ⟨⟨k.mod, k.kind, k.glob, k.blt, k.above, k.inj, k.has, k.cab, k.hd, k.frames, k.stk, k.exf, k.bs, k.bsz, k.noex, k.exfs, k.funs, k.frf⟩, I.os, I.bare, I.base, I.loc, I.cell, I.free, I.freeC,
  fun p hp => I.pin p (List.mem_append_left _ hp), I.hok, I.len⟩
theorem qic (e : Addr) (I : Inv X pins Z H s) : Inv (hdX X e) pins Z H s :=
 let k := I.ok
 ⟨⟨k.mod, k.kind, k.glob, k.blt, k.above, k.inj, k.has, k.cab, fun z => (nomatch z), k.frames, k.stk, k.exf, k.bs, k.bsz, k.noex, k.exfs, k.funs, k.frf⟩, I.os, I.bare, I.base, I.loc, I.cell, I.free, I.freeC, I.pin, I.hok, I.len⟩
theorem qha {e : Addr} {Z' : St} {H' : Hp} {s' : Shared} (k : X.Ok) (I : Inv (hdX X e) pins Z' H' s') : Inv X pins Z' H' s' :=
 ⟨k, I.os, I.bare, I.base, I.loc, I.cell, I.free, I.freeC, I.pin, I.hok, I.len⟩
theorem qec {h' : Heap} {m' : Str -> Option Value} {tk : Nat} (I : Inv X pins Z H s) (hn : h'.Ns X.env.locals m') (hs : Heap.SameBut X.env.locals s.heap h') :
  Inv X pins (List.replicate X.N.length none) H { s with heap := h', toks := tk } := by
 obtain ⟨m, hn0, _⟩ := id I.loc
 obtain ⟨oL, _, _, hoL, _⟩ := id hn0
 have ne : ∀ b o, X.s₀.heap.get? b = some o -> b ≠ X.env.locals := fun b o q => Nat.ne_of_lt (Nat.lt_of_lt_of_le (Heap.lt_size q) I.ok.above)
 refine ⟨I.ok, I.os, I.bare, ⟨fun b o e n hb hx => (hs.2 b (ne b o e)).trans (I.base.keep b o e n hb hx), fun b o e n hb hx => ?_, I.base.free, fun b o e hx => ?_, I.base.tups, I.base.frzs, I.base.tbls⟩, ⟨m', hn, fun j y v e1 e2 e3 => ?_⟩, fun y c e => ?_, I.free, I.freeC, fun p hp => ?_, fun b ob e => ?_, by simp⟩
 ·obtain ⟨sl, q⟩ := I.base.slot b o e n hb hx
  exact ⟨sl, (hs.2 b (ne b o e)).trans q⟩
 ·obtain ⟨o', q⟩ := I.base.there b o e hx
  exact ⟨o', (hs.2 b (ne b o e)).trans q⟩
 ·rw [List.getElem?_replicate] at e2
  split at e2 <;> cases e2
 ·obtain ⟨w', z⟩ := I.cell y c e
  exact ⟨w', z.sameBut hs (I.cne y c e)⟩
 ·obtain ⟨e, n, nl, nf, d⟩ := I.pin p hp
  exact ⟨(hs.2 p.1 nl).trans e, n, nl, nf, d⟩
 ·refine (I.hok b ob e).stay (fun c w' hc q => (hs.2 c ?_).trans q) (fun _ q => q) fun _ _ q => q
  rintro rfl
  rcases hc with rfl | hc
  ·rw [I.free] at e; cases e
  ·rw [I.free] at hc; cases hc
theorem qfG {H' : Hp} {h' : Heap} (I : Inv X pins Z H s) (u : Un (frs X.stack) [] H H' s.heap h') : h'.FunFrames X.base X.stack := by
 have all : ∀ (l : List PySem.Env), (∀ b ∈ frs l, b ∈ frs X.stack) -> s.heap.FunFrames X.base l -> h'.FunFrames X.base l := by
  intro l
  induction l with
  | nil => intro _ _; trivial
  | cons env r ih =>
   intro hss hl
   obtain ⟨hk, ⟨L, o, hf', hn, ho, hd⟩, hr⟩ := hl
   have hfr : frs (env :: r) = L :: frs r := by unfold frs; rw [List.filterMap_cons, hf']
   rw [hfr] at hss
   have hL := hss L mS_
   obtain ⟨sl, e⟩ := u.slot L o ho (I.stkFree L hL) hL (by simp)
   exact ⟨hk, ⟨L, _, hf', hn, e, hd⟩, ih (fun b hb => hss b (mM _ hb)) hr⟩
 exact all X.stack (fun _ z => z) I.stack
theorem qid {H' : Hp} {h1 h' : Heap} {ch : List Addr} (u : Un (frs X.stack) [] H H' s.heap h1) (hchn : ∀ b ∈ ch, s.heap.get? b = none) (x : Lft h1 h' ch (frs X.stack)) : Un (frs X.stack) [] H H' s.heap h' := by
 have nch : ∀ b o, s.heap.get? b = some o -> b ∉ ch := fun b o q z => by rw [hchn b z] at q; cases q
 refine ⟨fun b o q n hb hx => x.keep b o (nch b o q) hb (u.keep b o q n hb hx), fun b o q n hb hx => ?_, u.free, fun b o q hx => ?_, u.tups, u.frzs, u.tbls⟩
 ·obtain ⟨sl, q1⟩ := u.slot b o q n hb hx
  obtain ⟨sl2, q2⟩ := x.slot b _ hb q1
  exact ⟨sl2, q2⟩
 ·obtain ⟨o2, q2⟩ := u.there b o q hx
  by_cases hb : b ∈ frs X.stack
  ·obtain ⟨sl, q3⟩ := x.slot b o2 hb q2
   exact ⟨_, q3⟩
  ·exact ⟨o2, x.keep b o2 (nch b o q) hb q2⟩
theorem qfH {H' : Hp} {h1 h' : Heap} {ch : List Addr} (I : Inv X pins Z H s) (u : Un (frs X.stack) [] H H' s.heap h1) (hok : HOk X.prog X.w H' h1) (hch : ∀ b ∈ ch, H' b = none) (x : Lft h1 h' ch (frs X.stack)) : HOk X.prog X.w H' h' :=
 qh9 hok fun b o hb1 q => x.keep b o (fun z => by rw [hch b z] at hb1; cases hb1) (fun z => by
  obtain ⟨_, o1, ho1, _⟩ := I.stack.mem z
  rw [u.free b o1 ho1 (I.stkFree b z) (by simp)] at hb1
  cases hb1) q
theorem un_held {H' : Hp} {h' : Heap} {e : Addr} {o : HO} (u : Un (frs X.stack) [] H H' s.heap h') (he : s.heap.get? e = none) (hHe : H' e = none) : Un (frs X.stack) [] H (upd H' e o) s.heap h' := by
 have ne : ∀ b ob, s.heap.get? b = some ob -> b ≠ e := fun b ob q z => by rw [z, he] at q; cases q
 have ne' : ∀ b u, H' b = some u -> b ≠ e := fun b u q z => by rw [z, hHe] at q; cases q
 refine ⟨u.keep, u.slot, fun b ob q n hx => by rw [qp (ne b ob q)]; exact u.free b ob q n hx, u.there, fun b xs q => ?_, fun b ob w q => ?_, fun b ps y q => ?_⟩
 ·have := u.tups b xs q
  rw [qp (ne' b _ this)]; exact this
 ·have := u.frzs b ob w q
  rw [qp (ne' b _ this)]; exact this
 ·have := u.tbls b ps y q
  rw [qp (ne' b _ this)]; exact this
theorem qhb {P : Program} {w : World} {H' : Hp} {h' : Heap} {e : Addr} {oe : Obj} (hok : HOk P w H' h') (hHe : H' e = none) (he : h'.get? e = some oe) : HOk P w (upd H' e (.frz oe (.own e))) h' := fun b ob q => by
 by_cases hb : b = e
 ·subst hb
  rw [qt] at q
  cases q
  exact ⟨he, oe, he⟩
 ·rw [qp hb] at q
  have ne' : ∀ c u, H' c = some u -> c ≠ e := fun c u q z => by rw [z, hHe] at q; cases q
  exact (hok b ob q).stay (fun _ _ _ q => q) (fun c q => by rw [qp (ne' c _ q)]; exact q) (fun c xs q => by rw [qp (ne' c _ q)]; exact q) fun c ob y q => by rw [qp (ne' c _ q)]; exact q
end
def qfI (RN : List Str) (f : MS) (F : List D -> R D) : MS := fun U => match f U with
 | .exc x U' => if RN.contains x.cls then match F [.exc x.cls] with
   | .ok d => .ok (.rt d U')
   | _ => .bad
  else .bad
 | r => r
def reE (c : Fc) (E : Exn -> Hp -> Prop) : Fc := { c with E := E }
theorem Rep.reE {K : Fr0} {c : Fc} {E : Exn -> Hp -> Prop} {U : Env} {Z : St} {H : Hp} (r : Rep K c U Z H) : Rep K (Sk.reE c E) U Z H := ⟨r.len, r.val, r.own, r.inj, r.b0, r.kp, r.dm, r.pO, r.ps⟩
theorem Rep.unE {K : Fr0} {c : Fc} {E : Exn -> Hp -> Prop} {U : Env} {Z : St} {H : Hp} (r : Rep K (Sk.reE c E) U Z H) : Rep K c U Z H := ⟨r.len, r.val, r.own, r.inj, r.b0, r.kp, r.dm, r.pO, r.ps⟩
structure qno (K : Fr0) (base : Heap) (RN : List Str) (S : Addr) : Prop where
 sup : ∃ bm, XC base S bm
 own : ∀ n C, clR K RN n = some C -> ∃ bm, XC base C bm /\ (Value.ref C :: bm).contains (.ref S) = true
 ki : ∀ n C, clR K RN n = some C -> XK6 K C
def ch (H6 : Hp) : Fc := ⟨[], [], fun a => H6 a = none, H6, fun _ => False, fun _ _ => False, fun _ => none⟩
section
variable {X : Cx} {c : Fc} {pos np hpos p1 p2 p3 p4 : Pos} {body : List Stmt}
theorem qlp {x n m : Str} {i : Nat} {S fm : Addr} {fd : FuncData} {ps : List Str} {k : Nat} {F : List D -> R D} {f : MS} {RN : List Str} (hN : X.N.Nodup) (hcx : X.stack = X.env :: X.outer) (hf : X.env.frame = some X.env.locals)
  (hcl : qno X.K X.base RN S) (hgS : Gl X x) (hmS : X.mg x = some (.ref S))
  (G : qb8 X.prog X.w X.K X.mg X.base CX0 k fm fd ps (spD X.K F)) (hr : uc k X.A) (hgm : Gl X m) (hmm : X.mg m = some (.ref fm)) (hkm : PySem.W.keepIn X.K (.ref fm) = true) (hbm : uC X.K fd ps [])
  (hb : ∀ (xe : Value -> Shared -> Prop) (pn : List (Addr × Obj)) (E : XK) (cE : Exn -> Hp -> Prop), XL2 (toX X xe pn) (reE c cE) (clR X.K RN) E -> DSs (toX X xe pn) (reE c cE) body f)
  (hi : X.N[i]? = some n := by rfl) (hx : X.env.scope.names.lookup n = some .local := by rfl) (hkn : X.env.kindOf n = some .local := by rfl)
  (hdx : (x == ("__debug__" : Str)) = false := by decide) (hdm : (m == ("__debug__" : Str)) = false := by decide) (hdn : (n == ("__debug__" : Str)) = false := by decide) (hcn : (n == ("__classdict__" : Str)) = false := by decide)
  (hst : starEach [.Name n p2] X.env = (false, eval (.Name n p2) X.env) :: starEach [] X.env := by rfl) (hpl : (backTo p3 (starEach [] X.env)).any (·.1) = false := by rfl) :
  DS X c (.Try body [.ExceptHandler (some (.Name x np)) (some n) [.Return (some (.Call (.Name m p1) [.Name n p2] [] p3)) p4] hpos] [] [] pos) (qfI RN f F) := by
 refine ⟨fun D Z H => ∃ U, Rep X.K c U Z H /\ WpS X.K c Z H D (qfI RN f F U), ?_, fun U Z H D r h => ⟨U, r, h⟩⟩
 rintro pins s Z H D I ⟨U, r, w⟩
 refine wpAny_Try_except ?_
 have hk := I.ok
 let xe : Value -> Shared -> Prop := fun e sQ => wpAny (model X.prog X.w) X.A (noteFrame e X.env) (fun _ sV => wpAny (model X.prog X.w) X.A (setFlight e none) (fun _ sJ => wpAny (model X.prog X.w) X.A (handleBy e X.env [.ExceptHandler (some (.Name x np)) (some n) [.Return (some (.Call (.Name m p1) [.Name n p2] [] p3)) p4] hpos]) (SP X pins D) X.xe sJ) X.xe sV) X.xe sQ
 let cE : Exn -> Hp -> Prop := fun z H' => ∃ U' Z', f U = .exc z U' /\ Rep X.K c U' Z' H' /\ GrS c.O Z H Z' H'
 let E : XK := fun cv _ H' => ∃ C z, cv = .ref C /\ clR X.K RN z.cls = some C /\ cE z H'
 have L : XL2 (toX X xe (X.pn ++ pins)) (reE c cE) (clR X.K RN) E := by
  refine ⟨?_, fun z C H' h1 h2 => ⟨C, z, rfl, h1, h2⟩⟩
  intro pins2 Z2 H2 s2 u s' I2 hx2
  obtain ⟨e, T, C, H', rfl, os, bare, un, hok, he, hT, hHe, hHT, Fl, C', z, hC', hz, U', Z', ef, r', g'⟩ := hx2
  have eC : C = C' := Value.ref.inj hC'
  subst eC
  have I3 : Inv X pins Z2 H2 s2 := vN I2
  have hz2 : ∀ b ∈ [e, T], H' b = none := fun b hb => by
   simp only [List.mem_cons, nN_, or_false] at hb
   rcases hb with rfl | rfl
   ·exact hHe
   ·exact hHT
  have hz3 : ∀ b ∈ [e, T], s2.heap.get? b = none := fun b hb => by
   simp only [List.mem_cons, nN_, or_false] at hb
   rcases hb with rfl | rfl
   ·exact he
   ·exact hT
  have hl : s'.heap.FunFrames X.base X.stack := qfG I3 un
  have hA : X.A.frames = some (X.env :: X.outer) := by rw [<- hcx]; exact hk.frames
  show wpAny _ _ _ _ _ _
  rw [hcx] at hl
  refine qb5 hA hl hf Fl fun h3 T3 y1 y2 y3 => ?_
  rw [<- hcx] at y1
  have un3 : Un (frs X.stack) [] H2 H' s2.heap h3 := qid un hz3 y1
  have hok3 : HOk X.prog X.w H' h3 := qfH I3 un hok hz2 y1
  have I4 : Inv X pins Z2 H' { s' with heap := h3 } := I3.call' (s' := { s' with heap := h3 }) (ch := []) os un3 hok3 bare (fun b hb => nomatch hb)
  have up : ∀ b, s'.heap.get? b = none -> s2.heap.get? b = none := fun b hb => by
   cases q : s2.heap.get? b with
   | none => rfl
   | some o =>
    obtain ⟨o', q'⟩ := un.there b o q (by simp)
    rw [hb] at q'; cases q'
  have hT3 : s2.heap.get? T3 = none := y3.elim (fun z => z ▸ hT) (up T3)
  have hHT3 : H' T3 = none := y3.elim (fun z => z ▸ hHT) fun z => by
   cases q : H' T3 with
   | none => rfl
   | some o =>
    obtain ⟨o', q'⟩ := ui (hok _ _ q)
    rw [z] at q'; cases q'
  refine wpAny_handleBy_cons (codeAny_handlers_test ?_) (by intro q; cases q)
  refine qaZ (X := hdX X e) (qic e I4) hgS hmS ?_ hdx
  obtain ⟨bmS, xS⟩ := hcl.sup
  obtain ⟨bm, xC, hin⟩ := hcl.own _ _ hz
  obtain ⟨nmS, qS, NS, bsS, hdctS, snS, subS, abS, colS, ddS, j0, j1, j2, j3, j5, newIdS, _, _, _, _, hS, _⟩ := xS.ex
  obtain ⟨nm, q, N, bs, hdct, sn, sub, ab, col, dd, k0, k1, k2, k3, k5, newId, _, _, _, _, hC, _⟩ := xC.ex
  obtain ⟨oe, vs, oT, ts, a0, hoe, hoc, hod, _⟩ := id y2
  refine qaH (M := model X.prog X.w) (A := X.A.mark (some (.ref e))) (h := h3) (g := s'.gens) (d := s'.drawn) (t := s'.toks) (os := s'.os) (I4.bk _ _ hC) (I4.bk _ _ hS) hoe hoc.1 xS.hasBase ?_
  rw [hin]
  show codeAny _ _ _ _ _
  refine codeAny_handlers_suite_as ?_
  have hl3 : h3.FunFrames X.base X.stack := qfG I3 un3
  refine qd9 (s := { s' with heap := h3 }) hl3 y2 fun h4 T4 z1 z2 z3 => ?_
  have hz4 : ∀ b ∈ [e, T3], H' b = none := fun b hb => by
   simp only [List.mem_cons, nN_, or_false] at hb
   rcases hb with rfl | rfl
   ·exact hHe
   ·exact hHT3
  have hz5 : ∀ b ∈ [e, T3], s2.heap.get? b = none := fun b hb => by
   simp only [List.mem_cons, nN_, or_false] at hb
   rcases hb with rfl | rfl
   ·exact he
   ·exact hT3
  have un4 : Un (frs X.stack) [] H2 H' s2.heap h4 := qid un3 hz5 z1
  have hok4 : HOk X.prog X.w H' h4 := qfH I3 un3 hok3 hz4 z1
  obtain ⟨oe4, vs4, oT4, ts4, a04, hoe4, hoc4, hod4, _⟩ := id z2
  have I5 : Inv X pins Z2 (upd H' e (.frz oe4 (.own e))) { s' with heap := h4 } := I3.call' (s' := { s' with heap := h4 }) (ch := []) os (un_held un4 he hHe) (qhb hok4 hHe hoe4) bare (fun b hb => nomatch hb)
  refine vE (v := .ref e) I5 hN hi (.inl hx) rfl (fun s5 I6 => ?_) (.inr hx)
  have sm : jk H' (upd H' e (.frz oe4 (.own e))) := qD hHe _
  have hil : IsL X.K (fun _ => False) (upd H' e (.frz oe4 (.own e))) [.exc z.cls] [.ref e] := ⟨.ref e, [], rfl, ⟨e, rfl, C, (qc9 hz).2, hcl.ki _ _ hz, oe4, vs4, qt, hoc4.1, hod4⟩, rfl⟩
  cases em : F [.exc z.cls] with
  | bad => simp only [qfI, ef, (qc9 hz).1, em, if_true] at w; exact w.elim
  | exc z' U'' => simp only [qfI, ef, (qc9 hz).1, em, if_true] at w; exact w.elim
  | ok d =>
   simp only [qfI, ef, (qc9 hz).1, em, if_true] at w
   have hσl : i < Z2.length := by rw [I5.len]; exact (gI_.mp hi).1
   have call := qeD (qhG (pos := p4) (qdt (X := hdX X e) (E := fun _ _ _ => False) (pos := p3) (p := p1) G ⟨hr.dp, hr.un, hr.gd⟩ hgm hmm hkm hbm .nil (fun _ _ _ _ _ _ _ z => z.elim) (jF (uy (X := hdX X e) (pos := p2) hi (.inl hx) hdn hcn) va hst) hdm hst hpl))
   have run := call pins s5 _ _ ({ nx := fun _ _ => False, rt := D.rt } : qeB) (qic e I6) ⟨.ref e, List.getElem?_set_self hσl, ⟨e, oe4, .own e, vs4, rfl, qt, hod4, hoc4.2.1⟩, [.exc z.cls], fun _ => False, hil, r'.tb.same sm, by
    rw [em]
    exact fun v H6 sm6 i6 => w v Z' H6 (r'.same (fun b o q => sm6 b o (sm b o q))) (Is.ext Ext.refl (fun a ha _ => ha.elim (fun z => z.elim) fun hn => r'.b0.1 a (r'.dm a (sm.free hn))) i6) (g'.trans (Gr.of_same (fun b o q => sm6 b o (sm b o q))).s)⟩
   refine wpAny_mono run (fun fl s6 h6 => ?_) (fun _ _ z => z.elim)
   cases fl with
   | next => obtain ⟨_, _, _, z⟩ := h6; exact z.elim
   | brk => obtain ⟨_, _, _, z⟩ := h6; exact z.elim
   | cont => obtain ⟨_, _, _, z⟩ := h6; exact z.elim
   | ret u =>
    obtain ⟨v, Z7, H7, I7, rv, q7⟩ := h6
    have I8 := qha hk I7
    obtain ⟨m8, hn8, _⟩ := id I8.loc
    exact wpAny_nameGoes hkn hn8 (by rw [hk.kind]; rfl) fun h9 m9 hn9 hs9 => ⟨v, _, H7, qec I8 hn9 hs9, rv, q7⟩
 obtain ⟨t, p, wt⟩ := hb xe (X.pn ++ pins) E cE L
 have w' : WpS X.K (reE c cE) Z H D (f U) := by
  cases ef : f U with
  | bad => simp only [qfI, ef] at w; exact w
  | exc z U' => exact fun Z' H' r' g' => ⟨U', Z', ef, r'.unE, g'⟩
  | ok fl =>
   simp only [qfI, ef] at w
   cases fl with
   | nx U' => exact fun Z' H' r' g' => w Z' H' r'.unE g'
   | rt d U' => exact fun v Z' H' r' i' g' => w v Z' H' r'.unE i' g'
   | bk U' => exact fun Z' H' r' g' => w Z' H' r'.unE g'
   | ct U' => exact fun Z' H' r' g' => w Z' H' r'.unE g'
 have run := p [] s Z H D (qlo I) (wt U Z H D r.reE w')
 refine wpAny_mono run (fun fl s1 h1 => ?_) (fun _ _ z => z)
 cases fl with
 | next =>
  obtain ⟨Z1, H1, I1, q1⟩ := h1
  exact wpAny_execs_nil ⟨Z1, H1, vN I1, q1⟩
 | brk => obtain ⟨Z1, H1, I1, q1⟩ := h1; exact ⟨Z1, H1, vN I1, q1⟩
 | cont => obtain ⟨Z1, H1, I1, q1⟩ := h1; exact ⟨Z1, H1, vN I1, q1⟩
 | ret u => obtain ⟨v, Z1, H1, I1, rv, q1⟩ := h1; exact ⟨v, Z1, H1, vN I1, rv, q1⟩
end
end L2.Sk
namespace L2.Sk
open PySem PySem.Spec PyProof.Rows PySem.W
def bmV : List Value := [.type "ValueError", .type "Exception", .type "BaseException", .type "object"]
def qed (K : Fr0) (C S : Addr) : Bool := match K.lookup C with
 | some ⟨_, _, .cls cd, _⟩ => cd.mro.contains (.ref S)
 | _ => false
theorem qdw {K : Fr0} {h : Heap} {C S : Addr} (X : K.In h) (q : excIn K C bmV "ValueError.__new__" = true) (hs : qed K C S = true) : ∃ bm, XC h C bm /\ (Value.ref C :: bm).contains (.ref S) = true := by
 unfold excIn at q
 split at q
 ·rename_i dd cd sl ho
  split at q
  ·rename_i C' bm k0 k1 k2 k3 n k5 hm hl
   simp only [Bool.and_eq_true, beq_iff_eq, Bool.not_eq_true'] at q
   obtain ⟨⟨⟨⟨⟨e1, e2⟩, hdel⟩, ht⟩, hok⟩, hni⟩ := q
   subst e1 e2
   unfold qed at hs
   rw [ho] at hs
   dsimp only at hs
   rw [hm] at hs
   obtain ⟨nm, bs, mro, ns, qn, hd, sn, sub, ab, col, del⟩ := cd
   dsimp only at hm hdel hok hni
   subst hm hdel
   have hz : sl = #[k0, k1, k2, k3, some (.builtin _), k5] := Array.toList_inj.mp hl
   subst hz
   have hT := tail_of_in X ht
   refine ⟨bm, ⟨hT.hasType (by decide +kernel), nm, qn, ns, bs, hd, sn, sub, ab, col, dd, k0, k1, k2, k3, k5, _, "ValueError.__init__", "ValueError", bmV, _, X _ _ ho, .of_isNs (isNs_of_in X hok), nsMap_none_of_in X hok hni, hT, PySem.F.excBase_ValueError⟩, hs⟩
  ·cases q
 ·cases q
def qjm (K : Fr0) (D : Addr) : Bool :=
 findIn K (.ref D) "__getattribute__" == some (some (.builtin "BaseException.__getattribute__")) && findIn K (.ref D) "__getattr__" == some none &&
 findIn K (.ref D) "__class__" == some (some (.builtin "object.__class__")) && mroIn K D (.type "object") == some true && subIn K (.ref D) (.type "BaseException") == some true && (clsIn K D).isSome &&
 (["int", "bool", "str", "tuple", "list", "dict"].all fun T => kitOne K (.ref D) (.type T) == some false)
theorem qlq {K : Fr0} {D : Addr} (h : qjm K D = true) : XK6 K D := by
 unfold qjm at h
 simp only [Bool.and_eq_true, beq_iff_eq] at h
 obtain ⟨⟨⟨⟨⟨⟨h1, h2⟩, h3⟩, h4⟩, h5⟩, h6⟩, h7⟩ := h
 exact ⟨h1, h2, h3, h4, h5, h6, fun T hT => by simpa using List.all_eq_true.mp h7 T hT⟩
def vO (n m : Str) : Bool := n == m || m == "SackError"
def qlr (K : Fr0) (S : Addr) (TN : List Str) (n : Str) : Bool := match uD K n with
 | some C => excIn K C bmV "ValueError.__new__" && qed K C S && qjm K C && kitOne K (.ref C) (.type "ValueError") == some true &&
  TN.all fun m => match uD K m with
   | some Cm => kitOne K (.ref C) (.ref Cm) == some (vO n m)
   | none => false
 | none => false
def qmN (K : Fr0) (RN TN : List Str) : Bool := match uD K "SackError" with
 | some S => excIn K S bmV "ValueError.__new__" && qed K S S && RN.all (qlr K S TN)
 | none => false
structure XT (K : Fr0) (mg : Str -> Option Value) (RN TN : List Str) : Prop where
 all : qmN K RN TN = true
 mgc : ∀ n C, uD K n = some C -> mg n = some (.ref C)
theorem qhc {K : Fr0} {h : Heap} {mg : Str -> Option Value} (X : K.In h) (G : h.Ns mainGlobals mg) (n : Str) (C : Addr) (e : uD K n = some C) : mg n = some (.ref C) := by
 unfold uD at e
 split at e
 ·rename_i C' q
  cases e
  exact mg_of X G q
 ·cases e
section
variable {K : Fr0} {mg : Str -> Option Value} {RN TN : List Str}
theorem XT.sup (t : XT K mg RN TN) : ∃ S, uD K "SackError" = some S /\ excIn K S bmV "ValueError.__new__" = true /\ qed K S S = true /\ RN.all (qlr K S TN) = true := by
 have h := t.all
 unfold qmN at h
 split at h
 ·rename_i S e
  simp only [Bool.and_eq_true] at h
  exact ⟨S, e, h.1.1, h.1.2, h.2⟩
 ·cases h
theorem XT.row (t : XT K mg RN TN) {S : Addr} (hS : uD K "SackError" = some S) {n : Str} (hn : RN.contains n = true) : qlr K S TN n = true := by
 obtain ⟨S', e, _, _, h⟩ := t.sup
 rw [hS] at e
 cases e
 exact List.all_eq_true.mp h n (by simpa using hn)
theorem XT.cls (t : XT K mg RN TN) {n : Str} {C : Addr} (h : clR K RN n = some C) : uD K n = some C /\ ∃ S, uD K "SackError" = some S /\ excIn K C bmV "ValueError.__new__" = true /\ qed K C S = true /\ XK6 K C /\ kitOne K (.ref C) (.type "ValueError") = some true /\
  ∀ m ∈ TN, ∃ Cm, uD K m = some Cm /\ kitOne K (.ref C) (.ref Cm) = some (vO n m) := by
 unfold clR at h
 split at h
 ·rename_i hn
  obtain ⟨S, hS, _⟩ := t.sup
  have r := t.row hS hn
  unfold qlr at r
  rw [h] at r
  simp only [Bool.and_eq_true, beq_iff_eq] at r
  obtain ⟨⟨⟨⟨r1, r2⟩, r3⟩, r4⟩, r5⟩ := r
  refine ⟨h, S, hS, r1, r2, qlq r3, r4, fun m hm => ?_⟩
  have := List.all_eq_true.mp r5 m hm
  split at this
  ·rename_i Cm e
   exact ⟨Cm, e, by simpa using this⟩
  ·cases this
 ·cases h
theorem XT.has (t : XT K mg RN TN) {n : Str} (hn : RN.contains n = true) : ∃ C, clR K RN n = some C := by
 obtain ⟨S, hS, _⟩ := t.sup
 have r := t.row hS hn
 unfold qlr at r
 split at r
 ·rename_i C e
  exact ⟨C, by unfold clR; rw [if_pos hn]; exact e⟩
 ·cases r
theorem XT.ask (t : XT K mg RN TN) {n m : Str} (hn : RN.contains n = true) (hm : m ∈ TN) : ∃ Cm, uD K m = some Cm := by
 obtain ⟨C, hC⟩ := t.has hn
 obtain ⟨_, _, _, _, _, _, _, h⟩ := t.cls hC
 obtain ⟨Cm, e, _⟩ := h m hm
 exact ⟨Cm, e⟩
theorem XT.xcls (t : XT K mg RN TN) {base : Heap} (X : K.In base) : ∃ S, mg "SackError" = some (.ref S) /\ qno K base RN S := by
 obtain ⟨S, hS, h1, h2, _⟩ := t.sup
 refine ⟨S, t.mgc _ _ hS, ⟨(qdw X h1 h2).imp fun bm h => h.1, fun n C h => ?_, fun n C h => ?_⟩⟩
 ·obtain ⟨_, S', hS', r1, r2, _⟩ := t.cls h
  rw [hS] at hS'
  cases hS'
  exact qdw X r1 r2
 ·obtain ⟨_, _, _, _, _, r, _⟩ := t.cls h
  exact r
end
theorem qhd : typeOf (.builtin "list.count") = pure (.type "method_descriptor") := by kernel_rfl
theorem qhe : typeOf (.builtin "list.index") = pure (.type "method_descriptor") := by kernel_rfl
def qee (RN : List Str) (m : Str) (f : M D) : M D := bnd f fun d => match d with
 | .exc n => if RN.contains n then ret (.bl (m == "ValueError" || vO n m)) else fun _ => .bad
 | _ => fun _ => .bad
section
variable {X : Cx} {c : Fc} {a b e : Expr} {pos : Pos} {RN TN : List Str}
def qnp (K : Fr0) (RN : List Str) (m : Str) (Cm : V) : List V -> Hp -> VK -> Prop := fun xs H Q => ∃ v n A, xs = [v, Cm] /\ RN.contains n = true /\ Is K A H (.exc n) v /\ Q (.bl (m == "ValueError" || vO n m)) H
theorem qdx {m : Str} {Cm : V} {um : Value} (hr : jE Cm um) (hu : ∀ u, jE Cm u -> u = um) (hk : ∀ n C, uD X.K n = some C -> RN.contains n = true -> kitOne X.K (.ref C) um = some (m == "ValueError" || vO n m)) : yY X (.builtin "isinstance") (qnp X.K RN m Cm) := by
 intro pins s Z H xs us Q I r h
 obtain ⟨v, n, A, rfl, hn, hi, q⟩ := h
 obtain ⟨u, w, rfl, r1, r2⟩ := zb.two r
 rw [hu w r2]
 obtain ⟨z, rfl, C, hC, h1, h2⟩ := hi
 cases (show u = Value.ref z from r1)
 exact qaN I h1 h2 (hk n C hC hn) fun tk => ⟨.bl _, H, I.tok tk, rfl, q⟩
theorem qfJ {m : Str} {f : M D} {t : TE} {Cm : V} (w : ∀ U Z H Q, Rep X.K c U Z H -> Wp X.K c Z H Q (f U) -> t Z H Q) : ∀ U Z H Q, Rep X.K c U Z H -> Wp X.K c Z H Q (qee RN m f U) -> tCB (qnp X.K RN m Cm) (qgD t (qgD (tC Cm) qmw)) Z H Q := fun U Z H Q r h => w U Z H _ r (Wp.bnd h fun d U1 v H1 r1 i1 g1 h1 => by
 cases d with
 | exc n =>
  dsimp only at h1
  by_cases hn : RN.contains n = true
  ·rw [if_pos hn] at h1
   exact ⟨v, n, _, rfl, hn, i1, h1 _ H1 r1 rfl .refl⟩
  ·rw [if_neg hn] at h1
   exact h1.elim
 | _ => exact h1.elim)
theorem qar {m : Str} {mgl : Str -> Option Value} {p p2 : Pos} {f : M D} (t : XT X.K X.mg RN TN) (hm : m ∈ TN) (hne : (m == "ValueError") = false) (hg : Gl X "isinstance") (hmi : X.mg "isinstance" = none) (hg2 : Gl X m) (ha : DE X c a f)
  (hs : ∃ Cm, uD X.K m = some Cm)
  (hv : bootBuiltins "isinstance" = some (.builtin "isinstance") := by first | rfl | exact PySem.boot_isinstance) (hdb2 : (m == ("__debug__" : Str)) = false := by decide)
  (he : starEach [a, .Name m p2] X.env = (false, eval a X.env) :: starEach [.Name m p2] X.env := by rfl) (hpl : (backTo pos (starEach [.Name m p2] X.env)).any (·.1) = false := by rfl) : DE X c (.Call (.Name "isinstance" p) [a, .Name m p2] [] pos) (qee RN m f) := by
 obtain ⟨ta, pa, w⟩ := ha
 obtain ⟨Cm, hCm⟩ := hs
 refine ⟨_, vF (qdx (RN := RN) (m := m) (Cm := .ref Cm) (um := .ref Cm) rfl (fun u h => h) fun n C hC hn => ?_) hg hmi hv (jF pa (jF (qcx (v := .ref Cm) hg2 (t.mgc m Cm hCm) rfl hdb2) va (by rfl)) he) (by decide) (by decide) he hpl, qfJ w⟩
 have hcl : clR X.K RN n = some C := by unfold clR; rw [if_pos hn]; exact hC
 obtain ⟨_, _, _, _, _, _, _, h⟩ := t.cls hcl
 obtain ⟨Cm', e1, e2⟩ := h m hm
 rw [hCm] at e1
 cases e1
 rw [e2, hne]; rfl
theorem qjn {p p2 : Pos} {f : M D} (t : XT X.K X.mg RN TN) (hg : Gl X "isinstance") (hmi : X.mg "isinstance" = none) (hg2 : Gl X "ValueError") (hm2 : X.mg "ValueError" = none) (ha : DE X c a f)
  (hv : bootBuiltins "isinstance" = some (.builtin "isinstance") := by first | rfl | exact PySem.boot_isinstance) (hv2 : bootBuiltins "ValueError" = some (.type "ValueError") := by rfl)
  (he : starEach [a, .Name "ValueError" p2] X.env = (false, eval a X.env) :: starEach [.Name "ValueError" p2] X.env := by rfl) (hpl : (backTo pos (starEach [.Name "ValueError" p2] X.env)).any (·.1) = false := by rfl) : DE X c (.Call (.Name "isinstance" p) [a, .Name "ValueError" p2] [] pos) (qee RN "ValueError" f) := by
 obtain ⟨ta, pa, w⟩ := ha
 refine ⟨_, vF (qdx (RN := RN) (m := "ValueError") (Cm := .ty "ValueError") (um := .type "ValueError") rfl (fun u h => h) fun n C hC hn => ?_) hg hmi hv (jF pa (jF (qeC (v := .ty "ValueError") hg2 hm2 hv2 rfl (by decide) (by decide)) va (by rfl)) he) (by decide) (by decide) he hpl, qfJ w⟩
 have hcl : clR X.K RN n = some C := by unfold clR; rw [if_pos hn]; exact hC
 obtain ⟨_, _, _, _, _, _, h, _⟩ := t.cls hcl
 rw [h]; rfl
end
section
variable {P : Program} {w : World} {K : PySem.W.Frag} {mg : Str -> Option Value} {base : Heap}
theorem qhf {x qual : Str} {st : Stmt} {f : Addr} {fd : FuncData} {N ps : List Str} {k : Nat} {O : List Nat} {body : MS} (F : Fun K x qual st f fd) (S : qw N ps (qf st)) (hO : ∀ i ∈ O, ps.length <= i)
  (hb : ∀ (cdv : Value) (A : Around) (outer : List PySem.Env) (s : Shared) (H : Hp) (E : XK) (B : Addr -> Prop), uJ k (A.deeper (envOfC qual (qf st) s.heap.objs.size f cdv)) -> AloneA (A.deeper (envOfC qual (qf st) s.heap.objs.size f cdv)) H ->
   DSs (qea CX0 P w K mg base N qual (qf st) f cdv A outer s H E).nox (cfn O [] B H (fun _ => False) (fun _ _ => False) fun _ => none) (qv st) body) :
  qb8 P w K mg base CX0 (k + 1) f fd ps (spD K (dfn N.length ps.length body)) := by
 obtain ⟨oc, od, kV, doc, pm, an, cdv, ct, osl, rfl, lk, hcd⟩ := F.ex
 refine qln lk hcd S (fun vs H Q E h => ?_) (fun A outer s H vs Q E hr al h => ?_)
 ·obtain ⟨ds, B, il, _, h⟩ := h
  unfold dfn at h
  by_cases e : ds.length = ps.length
  ·rw [il.length]; exact e
  ·rw [if_neg e] at h; exact h.elim
 ·obtain ⟨ds, B, il, tb, h⟩ := h
  obtain ⟨t, p, wt⟩ := hb cdv A outer s H E B hr al
  refine ⟨t, p.nox, ?_⟩
  unfold dfn at h
  by_cases e : ds.length = ps.length
  ·rw [if_pos e] at h
   refine wt (jC N.length ds) (zD N vs) H _ (uI il tb (fun i hi => by rw [e]; exact hO i hi)) ?_
   have same : ∀ {U : Env} {Z : St} {H' : Hp}, Rep K (cfn O [] B H (fun _ => False) (fun _ _ => False) fun _ => none) U Z H' -> jk H H' := fun r b o hb => r.kp b o hb fun z => z
   cases eb : body (jC N.length ds) with
   | bad => rw [eb] at h; exact h.elim
   | exc z U => rw [eb] at h; exact h.elim
   | ok fl =>
    rw [eb] at h
    cases fl with
    | nx U => exact fun Z' H' r' _ => h .non H' (same r') rfl
    | rt d U => exact fun v Z' H' r' i' _ => h v H' (same r') i'
    | bk U => exact h.elim
    | ct U => exact h.elim
  ·rw [if_neg e] at h; exact h.elim
structure qfK (P : Program) (w : World) (K : PySem.W.Frag) (mg : Str -> Option Value) (base : Heap) (k : Nat) (x : Str) (ps : List Str) (sp : Sp) : Prop where
 ex : ∃ f fd, qb8 P w K mg base CX0 k f fd ps sp /\ mg x = some (.ref f) /\ PySem.W.keepIn K (.ref f) = true /\ uC K fd ps []
end
end L2.Sk
namespace L2.Sk
open PySem PySem.Spec PyProof.Rows
section
variable {U : Env} {f g : M D} {l : M (List D)} {p q : MS} {RN : List Str}
theorem vP (F : List D -> R D) : yM RN F l U = match l U with | .ok (xs, U1) => (match F xs with | .ok d => .ok (d, U1) | .exc x _ => (if RN.contains x.cls then .exc x U1 else .bad) | .bad => .bad) | .exc x U' => .exc x U' | .bad => .bad := by
 simp only [yM, bnd]
 cases l U with
 | ok z => obtain ⟨z1, U1⟩ := z; cases F z1 <;> rfl
 | exc x U' => rfl
 | bad => rfl
theorem qdy (F : List D -> R D) : qds F l U = match l U with | .ok (xs, U1) => (match F xs with | .ok d => .ok (d, U1) | _ => .bad) | .exc x U' => .exc x U' | .bad => .bad := by
 simp only [qds, bnd]
 cases l U with
 | ok z => obtain ⟨z1, U1⟩ := z; cases F z1 <;> rfl
 | exc x U' => rfl
 | bad => rfl
theorem qdz (x : Str) : qaS x l U = match l U with | .ok (ds, U') => (if qQ ds.length then .exc ⟨x, .non⟩ U' else .bad) | .exc z U' => .exc z U' | .bad => .bad := rfl
theorem qie (F : List D -> R D) : qfI RN p F U = match p U with | .exc x U' => (if RN.contains x.cls then (match F [.exc x.cls] with | .ok d => .ok (.rt d U') | _ => .bad) else .bad) | r => r := rfl
theorem qif (m : Str) : qee RN m f U = match f U with | .ok (.exc n, U1) => (if RN.contains n then .ok (.bl (m == "ValueError" || vO n m), U1) else .bad) | .ok _ => .bad | .exc x U' => .exc x U' | .bad => .bad := by
 simp only [qee, bnd]
 cases f U with
 | ok z =>
  obtain ⟨z1, U1⟩ := z
  cases z1 <;> first | rfl | (dsimp only; split <;> rfl)
 | exc x U' => rfl
 | bad => rfl
theorem qfL (F : D -> List D -> Option D) : qfD F f l U = match f U with
  | .ok (.lst ds, U1) => (match l U1 with | .ok (ys, U2) => (match F (.lst ds) ys with | some d => .ok (d, U2) | none => .bad) | .exc x U' => .exc x U' | .bad => .bad)
  | .ok _ => .bad | .exc x U' => .exc x U' | .bad => .bad := by
 simp only [qfD, bnd]
 cases f U with
 | ok z =>
  obtain ⟨z1, U1⟩ := z
  cases z1 with
  | lst ds =>
   show bnd l (fun ys => lift (F (D.lst ds) ys)) U1 = (match l U1 with | .ok (ys, U2) => (match F (.lst ds) ys with | some d => .ok (d, U2) | none => .bad) | .exc x U' => .exc x U' | .bad => .bad)
   unfold bnd
   cases l U1 with
   | ok z => obtain ⟨z2, U2⟩ := z; (dsimp only; cases F (.lst ds) z2 <;> rfl)
   | exc x U' => rfl
   | bad => rfl
  | _ => rfl
 | exc x U' => rfl
 | bad => rfl
end
theorem qjo {n p : Nat} {body : MS} {ds : List D} {d : D} (h : ds.length = p) (e : ∃ U, body (jC n ds) = .ok (.rt d U)) : qbf n p body ds = .ok d := by
 obtain ⟨U, e⟩ := e
 unfold qbf; rw [if_pos h, e]
theorem qfM {n p : Nat} {body : MS} {ds : List D} (h : ds.length = p) (e : ∃ U, body (jC n ds) = .ok (.nx U)) : qbf n p body ds = .ok .non := by
 obtain ⟨U, e⟩ := e
 unfold qbf; rw [if_pos h, e]
theorem qb9 {n p : Nat} {body : MS} {ds : List D} {x : Exn} {U : Env} (h : ds.length = p) (e : body (jC n ds) = .exc x U) : qbf n p body ds = .exc x U := by
 unfold qbf; rw [if_pos h, e]
theorem qdA {p q : MS} {U U' : Env} {x : Exn} (h : p U = .exc x U') : qN p q U = .exc x U' := by unfold qN; rw [h]
def unO (_ : Nat) (c : Fc) : Fc := { c with O := [], P := [], B := fun _ => True }
theorem Gr.unSame {c : Fc} {Z : St} {H H' : Hp} {i : Nat} (g : Gr (unO i c).O Z H H') : jk H H' := fun b o h => g.ext.at_ b o (fun j hj => by cases hj) h
theorem Rep.un {K : Fr0} {c : Fc} {U : Env} {Z : St} {H : Hp} {i : Nat} (r : Rep K c U Z H) (_ : i ∈ c.O) : Rep K (unO i c) U Z H := by
 have all : ∀ b : Addr, Cn (unO i c) Z b := fun b => ⟨trivial, fun j hj => by cases hj⟩
 refine ⟨r.len, fun k d hk => ?_, fun j hj => (by cases hj), fun k j a hk => (by cases hk), ⟨fun _ _ => trivial, r.b0.2⟩, r.kp, r.dm, fun j hj => (by cases hj), fun j hj => (by cases hj)⟩
 obtain ⟨v, h1, h2⟩ := r.val k d hk
 refine ⟨v, h1, .inr ⟨fun z => (by cases z), ?_⟩⟩
 rcases h2 with ⟨hk2, ds, a, xs, h3, h5, h6, h7⟩ | ⟨hk2, h3⟩
 ·subst h3 h5
  exact ⟨a, xs, rfl, all a, h6, IsL.ext Ext.refl (fun b _ _ => all b) h7⟩
 ·exact Is.ext Ext.refl (fun b _ _ => all b) h3
theorem Gr.un {c : Fc} {Z : St} {H H' : Hp} {i : Nat} (g : Gr (unO i c).O Z H H') : Gr c.O Z H H' := .of_same g.unSame
open Classical in
open Classical in
open Classical in
theorem Rep.apart2 {K : Fr0} {c : Fc} {U U' : Env} {Z : St} {H H' : Hp} {a : Addr} (r : Rep K c U Z H) (hn : H a = none) (r' : Rep K c U' Z H') (g : Gr c.O Z H H') (hv : ∀ i d, i ∉ c.O -> U'[i]? = some (some d) -> U[i]? = some (some d)) (hc : ∀ i ds b xs, U'[i]? = some (some (.lst ds)) -> i ∈ c.O -> Z[i]? = some (some (.ref b)) -> H' b = some (.lst xs) -> IsL K (Cn c Z) H' ds xs -> IsL K (fun b => Cn c Z b /\ b ≠ a) H' ds xs) : qfb K c U' Z H' a where
 val := fun i d v h1 h2 h3 => by
  obtain ⟨w, h4, h5⟩ := r.get h2 (hv i d h2 h1)
  rw [h3] at h4
  cases h4
  exact Is.ext ⟨g.ext.tup, g.ext.frz, fun b o hb h => g.ext.at_ b o hb.1.2 h⟩ (fun _ h _ => h) (h5.fresh hn)
 cont := hc
 own := fun j hj e => (r.new hn).2 j hj e
 new := r.dm a hn
section
variable {X : Cx} {c : Fc} {e : Expr} {pos : Pos}
theorem WpI.bndN {K : Fr0} {Z : St} {H : Hp} {Q : VK} {f : M (List D)} {k : List D -> M (List D)} {U : Env} {Q' : It -> Hp -> Prop} (h : WpN K c Z H Q (Sk.bnd f k U)) (hQ : ∀ ds U' J H', Rep K c U' Z H' -> qgS K (CnT c Z H') H' ds J -> Gr c.O Z H H' -> WpN K c Z H' Q (k ds U') -> Q' J H') : WpI K c Z H Q' (f U) := by
 unfold Sk.bnd at h
 cases e : f U with
 | ok p => rw [e] at h; exact fun v H' hr hi hg => hQ p.1 p.2 v H' hr hi hg (h.gr hg)
 | exc x U' => rw [e] at h; exact h
 | bad => rw [e] at h; exact h
def DCN (X : Cx) (c : Fc) (tg it elt : Expr) (ifs : List Expr) (scope : Scope) (N' : List Str) (nt : Nat) (fr : List Nat) (f : M (List D)) : Prop := ∃ wi, PI X tg it wi /\ ∀ U Z H Q, Rep X.K c U Z H -> WpN X.K c Z H Q (f U) -> qgR X tg ifs elt scope N' wi nt fr Z H Q
def qjp (fo : Option (Nat × Nat)) (Ue : Env) : Bool := match fo with
 | none => true
 | some (i, _) => match Ue[i]? with
  | some (some (.lst ds)) => immL ds
  | _ => true
def qhg (nt : Nat) (fr : List Nat) (fo : Option (Nat × Nat)) (f : M (List D)) (g : D -> Env -> Option Env) (t : M Bool) (e : M D) : M (List D) := bnd f fun ds U => match zI g t e ds [] (jS nt fr U) with
 | .ok (ys, Ue) => if immL ys = true /\ qjp fo Ue = true then .ok (ys, qgT fo Ue U) else .bad
 | _ => .bad
theorem qhh {c : Fc} {nt : Nat} {fr : List Nat} {fo : Option (Nat × Nat)} {Ue U : Env} (hfo : qgU c nt fr fo) : ∀ i d, i ∉ c.O -> (qgT fo Ue U)[i]? = some (some d) -> U[i]? = some (some d) := fun i d hi h => by
 cases fo with
 | none => exact h
 | some p =>
  obtain ⟨i', j'⟩ := p
  have h' : (U.set j' (Ue[i']?).join)[i]? = some (some d) := h
  have hne : i ≠ j' := fun e => hi (by rw [e]; exact hfo.1)
  rw [zt hne] at h'
  exact h'
theorem qhi {it elt tg : Expr} {ifs : List Expr} {scope : Scope} {N' : List Str} {nt : Nat} {fr : List Nat} {fo : Option (Nat × Nat)} {f : M (List D)} {g : D -> Env -> Option Env} {t : M Bool} {k : M D} (hc : X.calm = true) (hi : DI X c tg it f) (S : CompScope X scope N' nt fr)
  (hfo : qgU c nt fr fo)
  (hb : ∀ fp cl C s₀ H₀ pn B0 H1 Io' acc S', DG (zH X scope N' fp cl C s₀ H₀ pn) (cin B0 H1 (foO fo) Io' acc S') tg g /\ DF (zH X scope N' fp cl C s₀ H₀ pn) (cin B0 H1 (foO fo) Io' acc S') ifs t /\ DE (zH X scope N' fp cl C s₀ H₀ pn) (cin B0 H1 (foO fo) Io' acc S') elt k)
  : DCN X c tg it elt ifs scope N' nt fr (qhg nt fr fo f g t k) := by
 obtain ⟨wi, pi, wI⟩ := hi
 refine ⟨wi, pi, fun U Z H Q r h => wI U Z H _ r (WpI.bndN h fun ds U1 J H1 r1 iok g1 h1 => ?_)⟩
 intro acc fp cl C s₀ H₀ pn hn
 obtain ⟨⟨tg', pg, wg⟩, ⟨tt, pt, wt⟩, ⟨te, pe, we⟩⟩ := hb fp cl C s₀ H₀ pn (Cn c Z) H1 (wX Z fo) acc fun j => (qB nt fr Z)[j]?
 refine ⟨tg', tt, te, pg, pt, pe, ?_⟩
 cases ew : zI g t k ds [] (jS nt fr U1) with
 | exc x U' => rw [ew] at h1; exact h1.elim
 | bad => rw [ew] at h1; exact h1.elim
 | ok p =>
  rw [ew] at h1
  obtain ⟨ys, Ue⟩ := p
  simp only at h1
  by_cases him0 : immL ys = true /\ qjp fo Ue = true
  case neg => rw [if_neg him0] at h1; exact h1.elim
  rw [if_pos him0] at h1
  obtain ⟨him, him2⟩ := him0
  have accO : ∀ j ∈ foO fo, (qB nt fr Z)[j]? ≠ some (some (.ref acc)) := fun j hj e => by
   have r0 := r1.entry (acc := acc) hn hfo
   cases fo with
   | none => cases hj
   | some p =>
    obtain ⟨i', j'⟩ := p
    have e2 : j = i' := by simpa [foO] using hj
    subst e2
    obtain ⟨k2, j2, e1, e2, e3⟩ := jw e
    have hk2 : k2 = j - nt := by omega
    subst hk2
    rw [hfo.2.2.1] at e2
    cases e2
    obtain ⟨a, us, e4, e5, _⟩ := r1.own j' hfo.1 _ e3
    cases e4; rw [hn] at e5; cases e5
  refine ⟨fun i m Z' H' => m = ds.length - i /\ i <= ds.length /\ ∃ U' zs xs, Rep X.K (cin (Cn c Z) H1 (foO fo) (wX Z fo) acc fun j => (qB nt fr Z)[j]?) U' Z' H' /\ (∀ j ∈ foO fo, Z'[j]? = (qB nt fr Z)[j]?) /\ H' acc = some (.lst xs) /\ IsL X.K (Cn (cin (Cn c Z) H1 (foO fo) (wX Z fo) acc fun j => (qB nt fr Z)[j]?) Z') H' zs xs /\ zI g t k (ds.drop i) zs U' = .ok (ys, Ue),
   ⟨ds.length, by simp, Nat.zero_le _, jS nt fr U1, [], [], r1.entry hn hfo, fun _ _ => rfl, qt, rfl, by simpa using ew⟩, ?_⟩
  rintro i m Z' H' ⟨rfl, hi, U', zs, xs, r', so, ha, iz, w⟩
  obtain ⟨_, gr⟩ := r1.leave hn hfo (fun i j e => so i (by rw [e]; simp [foO])) r'
  have ex : Ext (CnT c Z H1) H1 H' := ⟨gr.ext.tup, gr.ext.frz, fun b o hb hq => gr.ext.at_ b o hb.1.2 hq⟩
  have accC : ∀ τ : St, (∀ j ∈ foO fo, τ[j]? = (qB nt fr Z)[j]?) -> Cl (foO fo) τ acc := fun τ hτ j hj e => accO j hj (by rw [<- hτ j hj]; exact e)
  by_cases hlt : i < ds.length
  ·refine .inr ⟨iok.go H' i ds[i] ex (by simp [hlt]), fun x H'' y => ?_⟩
   obtain ⟨sm, ix⟩ := iok.yl H' i ds[i] x H'' ex (by simp [hlt]) y
   rw [uU hlt] at w
   unfold zI at w
   have ix2 : Is X.K (Cn (cin (Cn c Z) H1 (foO fo) (wX Z fo) acc fun j => (qB nt fr Z)[j]?) Z') H'' ds[i] x := Is.ext Ext.refl (fun a ha _ => ⟨⟨ha.1, fun e => by
    have := ha.2
    rw [e, hn] at this; cases this⟩, fun j hj e => by
     rw [so j hj] at e
     cases fo with
     | none => cases hj
     | some p =>
      obtain ⟨i', j'⟩ := p
      have e2 : j = i' := by simpa [foO, cin] using hj
      subst e2
      obtain ⟨k2, j2, e1, e2, e3⟩ := jw e
      have hk2 : k2 = j - nt := by omega
      subst hk2
      rw [hfo.2.2.1] at e2
      cases e2
      exact ha.1.2 j' hfo.1 e3⟩) ix
   cases e1 : g ds[i] U' with
   | none => simp only [e1] at w; cases w
   | some U2 =>
    simp only [e1] at w
    refine wg U' Z' H'' ds[i] x U2 _ (r'.same sm) ix2 e1 fun Z2 r2 g2 o2 => ?_
    have so2 : ∀ j ∈ foO fo, Z2[j]? = (qB nt fr Z)[j]? := fun j hj => (o2 j hj).trans (so j hj)
    have ha2 : H'' acc = some (.lst xs) := sm _ _ ha
    have iz2 := g2.isL (IsL.ext (Ext.of_same sm) (fun _ h _ => h) iz)
    cases e2 : t U2 with
    | exc x U3 => simp only [e2] at w; cases w
    | bad => simp only [e2] at w; cases w
    | ok p2 =>
     obtain ⟨bb, U3⟩ := p2
     refine wt U2 Z2 H'' _ r2 ?_
     rw [e2]
     intro H3 r3 g3
     have ha3 : H3 acc = some (.lst xs) := g3.ext.at_ _ _ (accC Z2 so2) ha2
     have iz3 := g3.isL iz2
     cases bb with
     | false =>
      rw [if_neg Bool.false_ne_true]
      simp only [e2] at w
      exact ⟨ds.length - (i + 1), by omega, rfl, hlt, U3, zs, xs, r3, so2, ha3, iz3, w⟩
     | true =>
      rw [if_pos rfl]
      simp only [e2] at w
      cases e3 : k U3 with
      | exc x U4 => simp only [e3] at w; cases w
      | bad => simp only [e3] at w; cases w
      | ok p3 =>
       obtain ⟨d4, U4⟩ := p3
       simp only [e3] at w
       refine we U3 Z2 H3 _ r3 ?_
       rw [e3]
       intro y4 H4 r4 i4 g4
       have ha4 : H4 acc = some (.lst xs) := g4.ext.at_ _ _ (accC Z2 so2) ha3
       have hsz : qQ (zs.length + 1) = true := by
        cases e5 : qQ (zs.length + 1) with
        | true => rfl
        | false => rw [e5] at w; simp at w
       rw [if_pos hsz] at w
       have hsz' : zs.length + 1 <= sizeLine := of_decide_eq_true hsz
       have r5 := r4.grow (ys := xs ++ [y4]) ha4 (fun j hj e => accC Z2 so2 j hj e)
       have ext5 : Ext (Cn (cin (Cn c Z) H1 (foO fo) (wX Z fo) acc fun j => (qB nt fr Z)[j]?) Z2) H4 (upd H4 acc (.lst (xs ++ [y4]))) := ⟨fun b us hb => by rw [qp (vC hb ha4 (by intro z; cases z))]; exact hb, fun b o u hb => by rw [qp (vC hb ha4 (by intro z; cases z))]; exact hb, fun b o hb hq => by rw [qp hb.1.2]; exact hq⟩
       refine ⟨xs, ha4, by rw [iz3.length]; omega, ds.length - (i + 1), by omega, rfl, hlt, U4, zs ++ [d4], xs ++ [y4], r5, so2, qt, ?_, w⟩
       exact IsL.append (IsL.ext ext5 (fun _ h _ => h) (g4.isL iz3)) (IsL.one (Is.ext ext5 (fun _ h _ => h) i4))
  ·have hie : i = ds.length := by omega
   subst hie
   rw [List.drop_of_length_le (Nat.le_refl _)] at w
   unfold zI at w
   cases w
   obtain ⟨r6, g6⟩ := r1.leave hn hfo (fun i j e => so i (by rw [e]; simp [foO])) r'
   have kp : ∀ b o, H1 b = some o -> ¬ wX Z fo b -> H' b = some o := fun b o hb hio => r'.kp b o (by show upd H1 acc (.lst []) b = some o; rw [qp (qH hb hn)]; exact hb) fun z => z.elim hio fun e => absurd e (qH hb hn)
   have hcont : ∀ k ds b xs, (qgT fo Ue U1)[k]? = some (some (.lst ds)) -> k ∈ c.O -> Z[k]? = some (some (.ref b)) -> H' b = some (.lst xs) -> IsL X.K (Cn c Z) H' ds xs -> IsL X.K (fun b => Cn c Z b /\ b ≠ acc) H' ds xs := fun k ds b xs h2 h3 h4 h5 h6 => by
    by_cases hk : ∃ i', fo = some (i', k)
    ·obtain ⟨i', e⟩ := hk
     subst e
     have h2' : (U1.set k (Ue[i']?).join)[k]? = some (some (.lst ds)) := h2
     have hl : k < U1.length := by
      have := (gI_.mp h2').1
      rwa [lS_] at this
     rw [List.getElem?_set_self hl] at h2'
     have he : Ue[i']? = some (some (.lst ds)) := vI (Option.some.inj h2')
     have hi2 : immL ds = true := by
      unfold qjp at him2
      simp only [he] at him2
      exact him2
     exact IsL.imm hi2 h6
    ·have h2' : U1[k]? = some (some (.lst ds)) := by
      cases fo with
      | none => exact h2
      | some p =>
       obtain ⟨i', j'⟩ := p
       have h2'' : (U1.set j' (Ue[i']?).join)[k]? = some (some (.lst ds)) := h2
       rw [zt (fun e => hk ⟨i', by rw [e]⟩)] at h2''
       exact h2''
     obtain ⟨ds', b', ys', e1, e2, e3, e4⟩ := r1.getO h3 h2'
     cases e1
     rw [h4] at e2
     cases e2
     have h7 : H' b = some (.lst ys') := kp b _ e3 fun hio => by
      cases fo with
      | none => exact hio
      | some p =>
       obtain ⟨i', j'⟩ := p
       have e := r1.inj k j' b h3 hfo.1 h4 hio
       exact hk ⟨i', by rw [e]⟩
     rw [h5] at h7
     cases h7
     exact IsL.ext ⟨g6.ext.tup, g6.ext.frz, fun d o hd hq => g6.ext.at_ d o hd.2 hq⟩ (fun d hd hs => ⟨hd, fun e => by rw [e, hn] at hs; cases hs⟩) e4
   exact .inl ⟨iok.stop H' ex, h1 acc xs H' hn r6 (r1.apart2 hn r6 g6 (qhh hfo) hcont) ha trivial (IsL.imm him iz) g6⟩
theorem qhj {i : Nat} {x : Str} {pos' spos pos : Pos} {tg it elt : Expr} {ifs : List Expr} {scope : Scope} {N' : List Str} {nt : Nat} {fr : List Nat} {f : M (List D)} (hN : X.N.Nodup) (h : DCN X c tg it elt ifs scope N' nt fr f) (hc : X.calm = true) (S : CompScope X scope N' nt fr)
  (ho : i ∈ c.O := by exact of_decide_eq_true rfl) (hP : i ∉ c.P := by exact of_decide_eq_false rfl) (hix : X.N[i]? = some x := by rfl) (hx : Loc X.env.scope x := by first | exact Or.inl rfl | exact Or.inr rfl) (hfx : X.fn x = true \/ X.env.scope.names.lookup x = some .local := by first | exact .inl rfl | exact .inr rfl | assumption)
  (hsw : swapsWith (.ListComp elt [⟨tg, it, ifs, 0⟩] scope pos) (some (.Name x pos')) spos.line X.env = pure true := by rfl) (hs : ∀ x, foldedSetIterable it X.env x = pure x := by intro _; rfl) :
  DS X c (.Assign [.Name x pos'] (.ListComp elt [⟨tg, it, ifs, 0⟩] scope pos) spos) (qal i f) := by
 obtain ⟨wi, pi, w⟩ := h
 refine ⟨_, qfC hN hix hx hfx hc pi S hsw hs, fun U Z H D r h => w U Z H _ r ?_⟩
 unfold qal sbnd at h
 cases ef : f U with
 | bad => rw [ef] at h; exact h
 | exc z U' => rw [ef] at h; exact fun H' hr hg => h Z H' hr hg.s
 | ok q =>
  rw [ef] at h
  intro a xs H' hn r' ap ha him il g'
  exact h _ H' (r'.setO ho hP ap ha him il) ⟨g'.ext, fun b hb hs => hb.setO (fun e => by rw [e, hn] at hs; exact absurd hs (by simp)), g'.dom⟩
def qol : List D -> Option (List D)
 | [.int i, .int j] => if decide (-(2 ^ 62) <= i) && decide (i < 2 ^ 62) && decide (-(2 ^ 62) <= j) && decide (j < 2 ^ 62) then some (qa7 i (j - i).toNat) else none
 | _ => none
def qjq (i : Nat) (S' : Nat -> Option (Option V)) (c : Fc) : Fc := { c with P := i :: c.P, S := S' }
theorem Rep.pin {K : Fr0} {U : Env} {Z : St} {H : Hp} {i : Nat} (r : Rep K c U Z H) (hi : i ∈ c.O) {S' : Nat -> Option (Option V)} (hS : S' i = Z[i]?) (hS2 : ∀ j ∈ c.P, S' j = c.S j) : Rep K (qjq i S' c) U Z H := by
 refine ⟨r.len, r.val, fun j hj v hv => ?_, r.inj, r.b0, r.kp, r.dm, fun j hj => ?_, fun j hj => ?_⟩
 ·obtain ⟨a, xs, h1, h2, h3⟩ := r.own j hj v hv
  exact ⟨a, xs, h1, h2, h3.elim .inl fun z => .inr ⟨mM _ z.1, z.2⟩⟩
 ·rcases List.mem_cons.mp hj with rfl | hj
  ·exact hi
  ·exact r.pO j hj
 ·rcases List.mem_cons.mp hj with rfl | hj
  ·exact hS.symm
  ·exact (r.ps j hj).trans (hS2 j hj).symm
theorem Rep.unpin {K : Fr0} {U U' : Env} {Z Z' : St} {H H' : Hp} {i : Nat} (r : Rep K c U Z H) (hi : i ∈ c.O) {S' : Nat -> Option (Option V)} (hS : S' i = Z[i]?) (hS2 : ∀ j ∈ c.P, S' j = c.S j) (r' : Rep K (qjq i S' c) U' Z' H') : Rep K c U' Z' H' := by
 refine ⟨r'.len, r'.val, fun j hj v hv => ?_, r'.inj, r'.b0, r'.kp, r'.dm, r.pO, fun j hj => (r'.ps j (mM _ hj)).trans (hS2 j hj)⟩
 obtain ⟨a, xs, h1, h2, h3⟩ := r'.own j hj v hv
 refine ⟨a, xs, h1, h2, h3.elim .inl fun z => ?_⟩
 by_cases e : j = i
 ·subst e h1
  have := (r'.ps j mS_).trans hS
  obtain ⟨b, ys, e1, _, e3⟩ := r.own j hj _ (this.symm.trans hv)
  cases e1
  exact e3
 ·rcases List.mem_cons.mp z.1 with rfl | hj2
  ·exact absurd rfl e
  ·exact .inr ⟨hj2, z.2⟩
theorem XL2.un {i : Nat} {cl : Str -> Option Addr} {E : XK} (L : XL2 X c cl E) : XL2 X (unO i c) cl E := ⟨L.pass, L.wish⟩
def vQ (i n : Nat) (g : D -> Env -> Option Env) (b : MS) : Nat -> MS
 | 0, U => match zJ i U with
  | some ds => if ds.length <= n then .ok (.nx U) else .bad
  | none => .bad
 | m + 1, U => match zJ i U with
  | some ds => match ds[n - (m + 1)]? with
   | none => .bad
   | some d => match g d U with
    | none => .bad
    | some U1 => match b U1 with
     | .ok (.nx U2) => vQ i n g b m U2
     | .ok (.ct U2) => vQ i n g b m U2
     | .ok (.bk U2) => .ok (.nx U2)
     | .ok (.rt r U2) => .ok (.rt r U2)
     | .exc x U2 => .exc x U2
     | .bad => .bad
  | none => .bad
def qcQ (i : Nat) (g : D -> Env -> Option Env) (b : MS) : MS := fun U => match zJ i U with
 | some ds => vQ i ds.length g b ds.length U
 | none => .bad
theorem qjr {i : Nat} {x : Str} {p1 : Pos} {tg : Expr} {body : List Stmt} {g : D -> Env -> Option Env} {b : MS} (hp : PassesOwn (model X.prog X.w) X.A X.env X.xe) (hc : X.calm = true) (hg : ∀ S', DG X (qjq i S' c) tg g) (hb : ∀ S', DSs X (qjq i S' c) body b)
  (ho : i ∈ c.O := by exact of_decide_eq_true rfl) (hN : X.N[i]? = some x := by rfl) (hv : Vis X.env.scope x := by first | exact Or.inl rfl | exact Or.inr (Or.inl rfl) | exact Or.inr (Or.inr rfl)) (hd : (x == ("__debug__" : Str)) = false := by decide) (hcd : (x == ("__classdict__" : Str)) = false := by decide)
  (hs : ∀ y, foldedSetIterable (.Name x p1) X.env y = pure y := by intro _; rfl) : DS X c (.For tg (.Name x p1) body [] pos) (qcQ i g b) := by
 have pb : PSs X body (fun D Z H => ∃ t, PSs X body t /\ t D Z H) := fun pins s Z H D I ⟨t, p, h⟩ => p pins s Z H D I h
 have pg : PG X tg (fun v Z H Q => ∃ t, PG X tg t /\ t v Z H Q) := fun pins s Z H v u Q I r ⟨t, p, h⟩ => p pins s Z H v u Q I r h
 refine ⟨_, qhJ hp hc (qhU (uy hN hv hd hcd)) pg pb hs, fun U Z H D' r h => ?_⟩
 unfold qcQ at h
 cases e0 : zJ i U with
 | none => simp only [e0] at h; exact h.elim
 | some ds =>
  simp only [e0] at h
  obtain ⟨l, xs, him, hl, hH, il⟩ := r.getLO ho e0
  refine ⟨.ref l, hl, .inl ⟨l, rfl, ⟨xs, .inl (.inl hH)⟩, ?_⟩⟩
  let S' : Nat -> Option (Option V) := fun j => if j = i then some (some (.ref l)) else c.S j
  have hS : S' i = some (some (.ref l)) := if_pos rfl
  have hS2 : ∀ j ∈ c.P, S' j = c.S j := fun j hj => by
   by_cases e : j = i
   ·subst e; exact hS.trans (hl.symm.trans (r.ps j hj))
   ·exact if_neg e
  obtain ⟨tg', pg', wg⟩ := hg S'
  obtain ⟨tb, pb', wb⟩ := hb S'
  refine ⟨fun k m Z' H' => m = ds.length - k /\ k <= ds.length /\ ∃ U', Rep X.K c U' Z' H' /\ Z'[i]? = some (some (.ref l)) /\ GrS c.O Z H Z' H' /\ WpS X.K c Z' H' D' (vQ i ds.length g b (ds.length - k) U'), ⟨ds.length, by simp, Nat.zero_le _, U, r, hl, .refl, by simpa using h⟩, ?_⟩
  rintro k m Z' H' ⟨rfl, hk, U', r', hl', gs, w⟩
  by_cases hlt : k < ds.length
  ·obtain ⟨m', hm'⟩ : ∃ m', ds.length - k = m' + 1 := ⟨ds.length - k - 1, by omega⟩
   rw [hm'] at w
   unfold vQ at w
   cases e1 : zJ i U' with
   | none => simp only [e1] at w; exact w.elim
   | some ds' =>
    simp only [e1] at w
    obtain ⟨l2, xs', him', hl2, hH', il'⟩ := r'.getLO ho e1
    rw [hl'] at hl2
    cases hl2
    have hix : ds.length - (m' + 1) = k := by omega
    rw [hix] at w
    cases e2 : ds'[k]? with
    | none => simp only [e2] at w; exact w.elim
    | some d =>
     simp only [e2] at w
     obtain ⟨x0, hx1, hx2⟩ := il'.get e2
     refine .inr ⟨⟨xs', x0, .inl (.inl hH'), hx1⟩, fun Z2 H2 => ∃ U2, Rep X.K c U2 Z2 H2 /\ Z2[i]? = some (some (.ref l)) /\ GrS c.O Z H Z2 H2 /\ WpS X.K c Z2 H2 D' (vQ i ds.length g b m' U2), fun Z2 H2 n => ⟨m', by omega, by omega, hlt, ?_⟩, fun x H'' y => ?_⟩
     ·have : ds.length - (k + 1) = m' := by omega
      rw [this]; exact n
     obtain ⟨e3, y⟩ := y
     subst e3
     have h3 := y xs' (.inl (.inl hH'))
     rw [hx1] at h3
     cases h3
     have rp : Rep X.K (qjq i S' c) U' Z' H'' := r'.pin ho (hS.trans hl'.symm) hS2
     cases e4 : g d U' with
     | none => simp only [e4] at w; exact w.elim
     | some U2 =>
      simp only [e4] at w
      refine ⟨tg', pg', wg U' Z' H'' d x0 U2 _ rp hx2 e4 fun Z2 r2 g2 _ => ⟨tb, pb', wb U2 Z2 H'' _ r2 ?_⟩⟩
      have w2 := w.gr (show GrS c.O Z' H'' Z2 H'' from g2)
      have gs3 : GrS c.O Z H Z2 H'' := gs.trans g2
      have un : ∀ {U3 Z3 H3}, Rep X.K (qjq i S' c) U3 Z3 H3 -> Rep X.K c U3 Z3 H3 := fun r3 => r.unpin ho (hS.trans hl.symm) hS2 r3
      have at_ : ∀ {U3 Z3 H3}, Rep X.K (qjq i S' c) U3 Z3 H3 -> Z3[i]? = some (some (.ref l)) := fun r3 => (r3.ps i mS_).trans hS
      cases e5 : b U2 with
      | ok fl =>
       cases fl with
       | nx U3 => simp only [e5] at w2; exact fun Z3 H3 r3 g3 => ⟨U3, un r3, at_ r3, gs3.trans g3, w2.gr g3⟩
       | ct U3 => simp only [e5] at w2; exact fun Z3 H3 r3 g3 => ⟨U3, un r3, at_ r3, gs3.trans g3, w2.gr g3⟩
       | bk U3 => simp only [e5] at w2; exact fun Z3 H3 r3 g3 => w2 Z3 H3 (un r3) g3
       | rt d U3 => simp only [e5] at w2; exact fun v Z3 H3 r3 i3 g3 => w2 v Z3 H3 (un r3) i3 g3
      | exc z U3 => simp only [e5] at w2; exact fun Z3 H3 r3 g3 => w2 Z3 H3 (un r3) g3
      | bad => simp only [e5] at w2; exact w2
  ·have hie : k = ds.length := by omega
   subst hie
   rw [Nat.sub_self] at w
   unfold vQ at w
   cases e1 : zJ i U' with
   | none => simp only [e1] at w; exact w.elim
   | some ds' =>
    simp only [e1] at w
    obtain ⟨l2, xs', him', hl2, hH', il'⟩ := r'.getLO ho e1
    rw [hl'] at hl2
    cases hl2
    split at w
    ·rename_i hle
     exact .inl ⟨⟨xs', .inl (.inl hH'), by rw [il'.length]; exact hle⟩, w Z' H' r' .refl⟩
    ·exact w.elim
end
section
variable {U : Env} {f : M D} {t : M Bool} {n : M (List D)}
open Classical in
open Classical in
open Classical in
end
def inA (x y : D) : Option D := match sqD y with
 | some ds => if qaB x && qaB y then some (.bl ((toPDs ds).any fun y => PyData.eqv y (jD x))) else none
 | none => none
section
variable {X : Cx}
end
section
variable {prog : Program} {w : World} {A : Around} {R : Result -> Shared -> Prop} {I : Addr} {fp wr : List Addr} {n : Nat} {P : Nat -> Value -> Prop} {St : Nat -> Heap -> Prop}
end
section
variable {prog : Program} {w : World} {A : Around} {E : Value -> Shared -> Prop} {s : Shared}
end
def qls : List D -> Option (List (List Int))
 | [] => some []
 | .tup ts :: r => match vo ts, qls r with
  | some n, some ns => some (n :: ns)
  | _, _ => none
 | _ => none
def qmO (ns : List (List Int)) (i : Nat) : List Int := (ns[i]?).getD []
def qmP (ns : List (List Int)) : Nat := argBest (fun i j => HT.lexLt (qmO ns i) (qmO ns j)) (ns.length - 1)
def qn6 : List D -> Option D
 | [.lst ds] => match qls ds with
  | some (n :: ns) => some (.tup ((qmO (n :: ns) (qmP (n :: ns))).map .int))
  | _ => none
 | _ => none
section
variable {X : Cx}
end
def qnq (x : D) (ys : List D) : Option D := match x, ys with
 | .lst ds, [d] => if ds.all qaB && qaB d then (ds.findIdx? fun e => PyData.eqv (jD e) (jD d)).map fun j => .int j else none
 | _, _ => none
section
variable {prog : Program} {w : World} {A : Around} {E : Value -> Shared -> Prop} {s : Shared}
end
section
variable {X : Cx} {c : Fc} {a b e : Expr} {pos : Pos} {es : List Expr} {kk : Nat} {tp : Pos}
end
section
variable {X : Cx} {c : Fc} {a b e : Expr} {pos : Pos} {es : List Expr} {kk : Nat} {tp : Pos}
def qlt : List D -> Option (List D)
 | [.lst xs] => some (vq 0 xs)
 | _ => none
def qlu (f : M (List D)) : M (List D) := bnd f fun ds => lift (qlt ds)
end
section
variable {X : Cx} {c : Fc} {pos : Pos}
end
section
variable {prog : Program} {w : World} {A : Around} {E : Value -> Shared -> Prop} {s : Shared}
end
theorem AloneA.laid {A : Around} {H : Hp} {p : Addr} {o : HO} (x : AloneA A H) (h : H p = none) : AloneA A (upd H p o) := by
 obtain ⟨e, oe, u, vs, h1, h2, h3⟩ := x
 exact ⟨e, oe, u, vs, h1, by rw [qp (qH h2 h)]; exact h2, h3⟩
theorem AloneA.rep {K : Fr0} {c : Fc} {A : Around} (x : AloneA A c.H0) (hio : ∀ a, ¬ c.Io a) (U : Env) (Z : St) (H : Hp) (r : Rep K c U Z H) : AloneA A H := by
 obtain ⟨e, oe, u, vs, h1, h2, h3⟩ := x
 exact ⟨e, oe, u, vs, h1, r.kp _ _ h2 (hio e), h3⟩
end L2.Sk
namespace L2
open PySem PySem.Spec PyProof.Rows L2.Sk
structure qn7 (P : Program) (w : World) (K : PySem.W.Frag) (tg : Expr) (J : It) (fp : List Addr) (it : Addr) (tn : Nat -> Heap -> Prop) : Prop where
 mem : it ∈ fp
 obj : ∀ i h, tn i h -> ∀ b ∈ fp, ∃ o, h.get? b = some o /\ ∀ v, o.data ≠ .cell v
 keep : ∀ i h h', tn i h -> (∀ b ∈ fp, ∀ o, h.get? b = some o -> h'.get? b = some o) -> tn i h'
 item : ∀ (X : Cx), X.prog = P -> X.w = w -> X.K = K -> AloneA X.A X.H₀ -> ∀ (i : Nat) (pins : List (Addr × Obj)) (s : Shared) (Z : St) (H : Hp) (E : Value -> Shared -> Prop), Inv X pins Z H s -> (∀ b ∈ fp, qct X pins H b) -> tn i s.heap -> J.go i H ->
  wpAny (model P w) X.A (pyNext (.ref it)) (fun r s1 => ∃ u, r = some u /\
   wpAny (model P w) X.A (letOwnedTupleGo tg (.ref it) u) (fun _ s2 => ∃ x H', Inv X pins Z H' s2 /\ jE x u /\ J.yld i H x H' /\ tn (i + 1) s2.heap /\ ∀ b ∈ fp, H' b = none) E s1) E s
 done : ∀ (X : Cx), X.prog = P -> X.w = w -> X.K = K -> AloneA X.A X.H₀ -> ∀ (i : Nat) (pins : List (Addr × Obj)) (s : Shared) (Z : St) (H : Hp) (E : Value -> Shared -> Prop), Inv X pins Z H s -> (∀ b ∈ fp, qct X pins H b) -> tn i s.heap -> J.stop i H ->
  wpAny (model P w) X.A (pyNext (.ref it)) (fun r s1 => r = none /\ Inv X pins Z H s1) E s
 self : ∀ (A : Around) (i : Nat) (s : Shared) (Q : Value -> Shared -> Prop) (E : Value -> Shared -> Prop), tn i s.heap -> Q (.ref it) s -> wpAny (model P w) A (pyIter (.ref it)) Q E s
section
variable {X : Cx} {tg : Expr}
end
end L2
namespace L2.Sk
open PySem PySem.Spec PyProof.Rows
section
variable {X : Cx} {tg iter elt : Expr} {ifs : List Expr} {scope : Scope} {pos : Pos} {wi : TI} {N' : List Str} {nt : Nat} {fr : List Nat}
end
section
variable {X : Cx} {c : Fc} {tg a b e : Expr} {pos : Pos}
end
theorem uJ.units {k : Nat} {A : Around} (r : uJ k A) : A.units + 64 < cLine := by have := r.un; omega
section
variable {X : Cx} {c : Fc} {e : Expr} {es : List Expr} {pos : Pos}
theorem qhk {k : Nat} {f : Addr} {fd : FuncData} {ps : List Str} {F : List D -> R D} {x : Str} {p : Pos} {g : M (List D)} (hal : ∀ U Z H, Rep X.K c U Z H -> AloneA X.A H)
  (G : qb8 X.prog X.w X.K X.mg X.base CX0 k f fd ps (spD X.K F)) (hr : uJ k X.A) (hg : Gl X x) (hm : X.mg x = some (.ref f)) (hk : PySem.W.keepIn X.K (.ref f) = true) (hb : uC X.K fd ps [])
  (ha : DA X c (e :: es) g) (hd : (x == ("__debug__" : Str)) = false := by decide) (he : starEach (e :: es) X.env = (false, eval e X.env) :: starEach es X.env := by rfl) (hpl : (backTo pos (starEach es X.env)).any (·.1) = false := by rfl) : DE X c (.Call (.Name x p) (e :: es) [] pos) (qo F g) := by
 obtain ⟨t, pa, w⟩ := ha
 refine ⟨_, qdt (E := fun _ _ _ => False) G hr hg hm hk hb .nil (fun _ _ _ _ _ _ _ z => z.elim) pa hd he hpl, fun U Z H Q r h => w U Z H _ r (WpL.bnd h fun ds U1 vs H1 r1 i1 g1 h1 => ⟨hal _ _ _ r1, ?_⟩)⟩
 rw [List.append_nil]
 refine ⟨ds, Cn c Z, i1, r1.tb, ?_⟩
 cases ef : F ds with
 | bad => simp only [ef] at h1; exact h1.elim
 | exc z U' => simp only [ef] at h1; exact h1.elim
 | ok d =>
  simp only [ef] at h1
  exact fun v H' sm i => h1 v H' (r1.same sm) (Is.ext Ext.refl (fun a ha _ => ha.elim id r1.new) i) (.of_same sm)
end
section
variable {prog : Program} {w : World} {A : Around} {R : Result -> Shared -> Prop} {I : Addr} {fp wr : List Addr} {n : Nat} {P : Nat -> Value -> Prop} {St : Nat -> Heap -> Prop} {dv : Value}
end
section
variable {prog : Program} {w : World} {A : Around} {E : Value -> Shared -> Prop} {s : Shared}
end
section
variable {prog : Program} {w : World} {A : Around} {R : Result -> Shared -> Prop} {I : Addr} {fp wr : List Addr} {n : Nat} {P : Nat -> Value -> Prop} {St : Nat -> Heap -> Prop} {dv : Value}
end
section
variable {prog : Program} {w : World} {A : Around} {E : Value -> Shared -> Prop} {s : Shared}
end
section
variable {prog : Program} {w : World} {A : Around} {E : Value -> Shared -> Prop} {s : Shared}
end
section
variable {X : Cx}
end
section
variable {X : Cx} {c : Fc} {a b e : Expr} {pos : Pos}
def qig (F : List D -> List D -> Option D) (f g : M (List D)) : M D := bnd f fun xs => bnd g fun zs => lift (F xs zs)
def CallKS (K : Fr0) (F : List D -> List D -> Option D) (r : List V -> List V -> Hp -> VK -> Prop) : Prop := ∀ A H xs zs d vs ws (Q : VK), (∀ a, H a = none -> A a) -> IsL K A H xs vs -> IsL K A H zs ws -> F xs zs = some d -> (∀ u H', jk H H' -> Is K A H' d u -> Q u H') -> r vs ws H Q
end
def qn8 (xs zs : List D) : Option D := match xs, zs with
 | [.lst ds], [z] => (vo ds).map fun ns => if ns = [] then z else .int (qmL ns)
 | _, _ => none
def slB (x : D) (lo hi : Option Int) : Option D := match x with
 | .tup ds => some (.tup (qmG ds lo hi))
 | .lst ds => some (.lst (qmG ds lo hi))
 | _ => none
def qnr (f : M D) (g k : M (Option Int)) : M D := bnd f fun d => bnd g fun l => bnd k fun u => lift (slB d l u)
section
variable {X : Cx} {c : Fc} {a b e : Expr} {pos p2 : Pos}
theorem Wp.bndN {K : Fr0} {Z : St} {H : Hp} {Q : VK} {f : M D} {k : D -> M (List D)} {U : Env} {Q' : VK} (h : WpN K c Z H Q (Sk.bnd f k U)) (hQ : ∀ d U' v H', Rep K c U' Z H' -> Is K (Cn c Z) H' d v -> Gr c.O Z H H' -> WpN K c Z H' Q (k d U') -> Q' v H') : Wp K c Z H Q' (f U) := by
 unfold Sk.bnd at h
 cases e : f U with
 | ok p => rw [e] at h; exact fun v H' hr hi hg => hQ p.1 p.2 v H' hr hi hg (h.gr hg)
 | exc x U' => rw [e] at h; exact h
 | bad => rw [e] at h; exact h
def qjs (x y : D) : Option (List D) := match x, y with
 | .lst ds, .int k => if (decide (-(2 ^ 62) <= k) && decide (k < 2 ^ 62)) && (qQ (ds.length * k.toNat) && immL ds) then some (List.replicate k.toNat ds).flatten else none
 | _, _ => none
def qlv (f g : M D) : M (List D) := bnd f fun x => bnd g fun y => lift (qjs x y)
theorem qhl {K : Fr0} {Z : St} {H : Hp} {Q : VK} {o : Option (List D)} {U : Env} (h : WpN K c Z H Q (lift o U)) : ∃ ds, o = some ds /\ WpN K c Z H Q (.ok (ds, U)) := by
 cases o with
 | none => exact h.elim
 | some d => exact ⟨d, rfl, h⟩
theorem qlw {f g : M D} (ha : DE X c a f) (hb : DE X c b g) : DN X c (.BinOp a .Mult b pos) (qlv f g) := by
 obtain ⟨ta, pa, wa⟩ := ha
 obtain ⟨tb, pb, wb⟩ := hb
 refine ⟨_, qkE qhN pa pb, fun U Z H Q r h => wa U Z H _ r (Wp.bndN h fun x U1 v H1 r1 i1 g1 h1 => wb U1 Z H1 _ r1 (Wp.bndN h1 fun y U2 u H2 r2 i2 g2 h2 => ?_))⟩
 obtain ⟨ds', e, h3⟩ := qhl h2
 have i1' := g2.is i1
 unfold qjs at e
 split at e
 ·rename_i ds k
  obtain ⟨p, xs, rfl, hA, hp, il⟩ := i1'
  have iu : u = V.int k := i2
  subst iu
  split at e
  ·rename_i hb
   simp only [Bool.and_eq_true, decide_eq_true_eq] at hb
   obtain ⟨⟨b1, b2⟩, b3, b4⟩ := hb
   have b3 : ds.length * k.toNat <= sizeLine := of_decide_eq_true b3
   cases e
   refine ⟨p, k, xs, rfl, rfl, hp, by omega, by omega, by rw [il.length]; exact b3, fun q hq => ?_⟩
   exact h3 q _ _ hq (r2.laid hq _) (r2.apart hq) qt trivial (IsL.ext (Ext.of_same (qD hq _)) (fun _ h _ => h) (IsL.rep (IsL.imm b4 il) _)) (.of_same (qD hq _))
  ·cases e
 ·cases e
def qn9 (f : M D) : M (List D) := bnd f fun x => lift (match x with
 | .lst ds => if immL ds then some ds else none
 | .tup ds => if immL ds then some ds else none
 | _ => none)
def qfN (i : Nat) (f : M D) : M D := fun U => match zJ i U with
 | none => .bad
 | some _ => (bnd f fun d U => match d, zJ i U with
  | .lst es, some ds => if immL es && qQ (ds.length + es.length) then .ok (.non, U.set i (some (.lst (ds ++ es)))) else .bad
  | _, _ => .bad) U
def qns (f : M (List D)) : M (List D) := fun U => match f U with
 | .ok ([.tup _], _) => qfB f U
 | _ => qlu f U
end
section
variable {U : Env} {f g : M D} {l k : M (List D)}
theorem qmb (F : List D -> List D -> Option D) : qig F l k U = match l U with | .ok (xs, U1) => (match k U1 with | .ok (zs, U2) => (match F xs zs with | some d => .ok (d, U2) | none => .bad) | .exc x U' => .exc x U' | .bad => .bad) | .exc x U' => .exc x U' | .bad => .bad := by
 simp only [qig, bnd]
 cases l U with
 | ok z =>
  obtain ⟨z1, U1⟩ := z
  dsimp only
  cases k U1 with
  | ok z => obtain ⟨z2, U2⟩ := z; (dsimp only; cases F z1 z2 <;> rfl)
  | exc x U' => rfl
  | bad => rfl
 | exc x U' => rfl
 | bad => rfl
theorem qlx : qlv f g U = match f U with | .ok (x, U1) => (match g U1 with | .ok (y, U2) => (match qjs x y with | some ds => .ok (ds, U2) | none => .bad) | .exc x U' => .exc x U' | .bad => .bad) | .exc x U' => .exc x U' | .bad => .bad := by
 simp only [qlv, bnd]
 cases f U with
 | ok z =>
  obtain ⟨z1, U1⟩ := z
  dsimp only
  cases g U1 with
  | ok z => obtain ⟨z2, U2⟩ := z; (dsimp only; cases qjs z1 z2 <;> rfl)
  | exc x U' => rfl
  | bad => rfl
 | exc x U' => rfl
 | bad => rfl
theorem qly (i : Nat) : qfN i f U = match zJ i U with
  | none => .bad
  | some _ => (match f U with | .ok (d, U1) => (match d, zJ i U1 with | .lst es, some ds => (if immL es && qQ (ds.length + es.length) then .ok (.non, U1.set i (some (.lst (ds ++ es)))) else .bad) | _, _ => .bad) | .exc x U' => .exc x U' | .bad => .bad) := by
 unfold qfN
 cases zJ i U with
 | none => rfl
 | some z =>
  simp only [bnd]
  cases f U with
  | ok z => obtain ⟨z1, U1⟩ := z; rfl
  | exc x U' => rfl
  | bad => rfl
theorem qnt (p q : M (Option Int)) : qnr f p q U = match f U with | .ok (d, U1) => (match p U1 with | .ok (l, U2) => (match q U2 with | .ok (u, U3) => (match slB d l u with | some r => .ok (r, U3) | none => .bad) | .exc x U' => .exc x U' | .bad => .bad) | .exc x U' => .exc x U' | .bad => .bad) | .exc x U' => .exc x U' | .bad => .bad := by
 simp only [qnr, bnd]
 cases f U with
 | ok z =>
  obtain ⟨z1, U1⟩ := z
  dsimp only
  cases p U1 with
  | ok z =>
   obtain ⟨z2, U2⟩ := z
   dsimp only
   cases q U2 with
   | ok z => obtain ⟨z3, U3⟩ := z; (dsimp only; cases slB z1 z2 z3 <;> rfl)
   | exc x U' => rfl
   | bad => rfl
  | exc x U' => rfl
  | bad => rfl
 | exc x U' => rfl
 | bad => rfl
end
section
variable {X : Cx} {c : Fc} {e : Expr} {es : List Expr} {pos : Pos}
theorem dC {k j : Nat} {ps : List Str} {F : List D -> R D} {x : Str} {p : Pos} {g : M (List D)} (C : zr X.prog X.w X.K X.mg X.base k x ps (spD X.K F)) (hr : uc j X.A) (ha : DA X c (e :: es) g)
  (hk : k <= j := by decide) (hg : Gl X x := by rfl) (hd : (x == ("__debug__" : Str)) = false := by decide) (he : starEach (e :: es) X.env = (false, eval e X.env) :: starEach es X.env := by rfl) (hpl : (backTo pos (starEach es X.env)).any (·.1) = false := by rfl) : DE X c (.Call (.Name x p) (e :: es) [] pos) (qo F g) := by
 obtain ⟨f, fd, G, m, kk, b⟩ := C.ex
 exact qiY G (hr.mono hk) hg m kk b ha hd he hpl
theorem nC {k j : Nat} {ps : List Str} {F : List D -> R D} {x : Str} {p : Pos} {g : M (List D)} (C : zr X.prog X.w X.K X.mg X.base k x ps (spD X.K F)) (hr : uc j X.A) (ha : DA X c (e :: es) g)
  (hk : k <= j := by decide) (hg : Gl X x := by rfl) (hd : (x == ("__debug__" : Str)) = false := by decide) (he : starEach (e :: es) X.env = (false, eval e X.env) :: starEach es X.env := by rfl) (hpl : (backTo pos (starEach es X.env)).any (·.1) = false := by rfl) : DN X c (.Call (.Name x p) (e :: es) [] pos) (qfi F g) := by
 obtain ⟨f, fd, G, m, kk, b⟩ := C.ex
 exact qi8 G (hr.mono hk) hg m kk b ha hd he hpl
theorem iC {k j i : Nat} {ps : List Str} {F : List D -> List D -> R (D × List D)} {x y : Str} {p p1 : Pos} {g : M (List D)} (C : zr X.prog X.w X.K X.mg X.base k x ps (qew X.K F)) (hr : uc j X.A) (ha : DA X c es g)
  (hk : k <= j := by decide) (hg : Gl X x := by rfl) (ho : i ∈ c.O := by exact of_decide_eq_true rfl) (hN : X.N[i]? = some y := by rfl) (hv : Vis X.env.scope y := by first | exact Or.inl rfl | exact Or.inr (Or.inl rfl) | exact Or.inr (Or.inr rfl)) (hdy : (y == ("__debug__" : Str)) = false := by decide) (hcd : (y == ("__classdict__" : Str)) = false := by decide)
  (hd : (x == ("__debug__" : Str)) = false := by decide) (he : starEach (.Name y p1 :: es) X.env = (false, eval (.Name y p1) X.env) :: starEach es X.env := by rfl) (hpl : (backTo pos (starEach es X.env)).any (·.1) = false := by rfl) : DE X c (.Call (.Name x p) (.Name y p1 :: es) [] pos) (qx F i g) := by
 obtain ⟨f, fd, G, m, kk, b⟩ := C.ex
 exact qfe G (hr.mono hk) hg m kk b ha ho hN hv hdy hcd hd he hpl
theorem xC {k j : Nat} {ps : List Str} {F : List D -> R D} {x : Str} {p : Pos} {g : M (List D)} {E : XK} {cl : Str -> Option Addr} {RN : List Str} (L : XL2 X c cl E) (hcl : ∀ n, RN.contains n = true -> (cl n).isSome = true) (C : vt X.prog X.w X.K X.mg X.base k x ps (spX X.K cl F)) (hr : uc j X.A) (ha : DA X c (e :: es) g)
  (hk : k <= j := by decide) (hg : Gl X x := by rfl) (hd : (x == ("__debug__" : Str)) = false := by decide) (he : starEach (e :: es) X.env = (false, eval e X.env) :: starEach es X.env := by rfl) (hpl : (backTo pos (starEach es X.env)).any (·.1) = false := by rfl) : DE X c (.Call (.Name x p) (e :: es) [] pos) (yM RN F g) := by
 obtain ⟨f, fd, G, m, kk, b⟩ := C.ex
 exact qg6 L hcl G (hr.mono hk) hg m kk b ha hd he hpl
theorem pC {k j : Nat} {ps : List Str} {F : List D -> R D} {x : Str} {p : Pos} {g : M (List D)} {cl : Str -> Option Addr} (C : vt X.prog X.w X.K X.mg X.base k x ps (spX X.K cl F)) (hr : uc j X.A) (ha : DA X c (e :: es) g)
  (hk : k <= j := by decide) (hg : Gl X x := by rfl) (hd : (x == ("__debug__" : Str)) = false := by decide) (he : starEach (e :: es) X.env = (false, eval e X.env) :: starEach es X.env := by rfl) (hpl : (backTo pos (starEach es X.env)).any (·.1) = false := by rfl) : DE X c (.Call (.Name x p) (e :: es) [] pos) (qds F g) := by
 obtain ⟨f, fd, G, m, kk, b⟩ := C.ex
 exact qg7 G (hr.mono hk) hg m kk b ha hd he hpl
theorem lC {k j : Nat} {ps : List Str} {F : List D -> R D} {x : Str} {p : Pos} {g : M (List D)} (hal : ∀ U Z H, Rep X.K c U Z H -> AloneA X.A H) (C : qfK X.prog X.w X.K X.mg X.base k x ps (spD X.K F)) (hr : uJ j X.A) (ha : DA X c (e :: es) g)
  (hk : k <= j := by decide) (hg : Gl X x := by rfl) (hd : (x == ("__debug__" : Str)) = false := by decide) (he : starEach (e :: es) X.env = (false, eval e X.env) :: starEach es X.env := by rfl) (hpl : (backTo pos (starEach es X.env)).any (·.1) = false := by rfl) : DE X c (.Call (.Name x p) (e :: es) [] pos) (qo F g) := by
 obtain ⟨f, fd, G, m, kk, b⟩ := C.ex
 exact qhk hal G (hr.mono hk) hg m kk b ha hd he hpl
theorem gI {x : Str} {i : Int} (h : ∃ t, X.mg x = some (.int i t)) (hg : Gl X x := by rfl) (hd : (x == ("__debug__" : Str)) = false := by decide) : DE X c (.Name x pos) (ret (.int i)) := by
 obtain ⟨t, h⟩ := h
 exact qeX (v := .int i) (d := .int i) hg h ⟨_, rfl⟩ (fun _ _ => rfl) hd
theorem gT {x : Str} {ns : List Int} (h : ∃ a, X.mg x = some (.ref a) /\ qkh X.K a ns) (hg : Gl X x := by rfl) (hd : (x == ("__debug__" : Str)) = false := by decide) : DE X c (.Name x pos) (ret (.tup (ns.map .int))) := by
 obtain ⟨a, h1, h2⟩ := h
 exact qg3 hg h1 h2 hd
end
theorem nd (N : List Str) (h : N.Nodup := by decide +kernel) : N.Nodup := h
theorem cs {X : Cx} (N N' : List Str) (nt : Nat) (fr : List Nat) (outer : Scope) {scope : Scope} (h0 : scope.kind = .function := by rfl) (h1 : ∀ y ∈ scope.names, y.2 ≠ .cell := by decide +kernel) (h2 : ∀ y ∈ scope.names, y.2 = .local -> scope.names.lookup y.1 = some .local := by decide +kernel)
  (h3 : ∀ y ∈ scope.names, y.2 = .free -> outer.names.lookup y.1 = some .cell := by decide +kernel) (h4 : N'.length = nt + fr.length := by rfl) (h5 : ∀ p ∈ fr.zipIdx, N'[nt + p.2]? = N[p.1]? /\ ((N[p.1]?).bind fun x => scope.names.lookup x) = some .free := by decide +kernel)
  (h6 : X.env.scope = outer := by rfl) (h7 : X.N = N := by rfl) : CompScope X scope N' nt fr := qi9.ok (outer := outer) (N := N) ⟨h0, h1, h2, h3, h4, h5⟩ h6 h7
theorem f0 {c : Fc} {nt : Nat} (fr O : List Nat) (e : c.O = O := by rfl) (h : ∀ j ∈ fr, j ∉ O := by decide) : qgU c nt fr none := fun j hj => by rw [e]; exact h j hj
theorem f1 {c : Fc} (nt : Nat) (fr O : List Nat) (i j : Nat) (e : c.O = O := by rfl) (h1 : j ∈ O := by decide) (h2 : nt <= i := by decide) (h3 : fr[i - nt]? = some j := by rfl) (h4 : ∀ p ∈ fr.zipIdx, nt + p.2 ≠ i -> p.1 ∉ O := by decide) : qgU c nt fr (some (i, j)) :=
 qja (by rw [e]; exact h1) h2 h3 (by rw [e]; exact h4)
section
variable {X : Cx} {c : Fc}
end
end L2.Sk
namespace L2.Sk
open PySem PySem.Spec PyProof.Rows
section
variable {X : Cx} {c : Fc} {a b e : Expr} {pos : Pos}
def qfO (i : Nat) (f : M D) : M D := fun U => match zJ i U with
 | none => .bad
 | some _ => (bnd f fun d U => match zJ i U with
  | some ds => if qQ (ds.length + 1) then .ok (.non, U.set i (some (.lst (d :: ds)))) else .bad
  | none => .bad) U
end
section
variable {prog : Program} {w : World} {A : Around} {E : Value -> Shared -> Prop} {s : Shared}
end
section
variable {X : Cx} {c : Fc} {a e : Expr} {pos : Pos} {tg : Expr}
def qmQ : List D -> Option (List D)
 | [.tup xs] => some xs.reverse
 | _ => none
def qnu (f : M (List D)) : M (List D) := bnd f fun ds => lift (qmQ ds)
theorem qnv {l : M (List D)} {U : Env} : qnu l U = match l U with | .ok (d, U1) => (match qmQ d with | some ds => .ok (ds, U1) | none => .bad) | .exc x U' => .exc x U' | .bad => .bad := by
 simp only [qnu, bnd]
 cases l U with
 | ok z => obtain ⟨z1, U1⟩ := z; (dsimp only; cases qmQ z1 <;> rfl)
 | exc x U' => rfl
 | bad => rfl
theorem qlz {f : M D} {U : Env} (i : Nat) : qfO i f U = match zJ i U with
  | none => .bad
  | some _ => (match f U with
   | .ok (d, U1) => (match zJ i U1 with | some ds => (if qQ (ds.length + 1) then .ok (.non, U1.set i (some (.lst (d :: ds)))) else .bad) | none => .bad)
   | .exc x U' => .exc x U' | .bad => .bad) := by
 unfold qfO
 cases zJ i U with
 | none => rfl
 | some z =>
  simp only [bnd]
  cases f U with
  | ok z => obtain ⟨z1, U1⟩ := z; rfl
  | exc x U' => rfl
  | bad => rfl
end
end L2.Sk
namespace HT
open PySem PySem.Spec PyProof.Rows
section
variable {prog : Program} {w : World} {A : Around} {E : Value -> Shared -> Prop} {s : Shared}
end
end HT
namespace L2
open PySem PySem.Spec PyProof.Rows
section
variable {X : Cx} {e : Expr} {te : TE} {ste : Expr} {ts : TO} {pos p2 : Pos}
end
end L2
namespace L2.Sk
open PySem PySem.Spec PyProof.Rows
theorem IsL.rev {K : Fr0} {A : Addr -> Prop} {H : Hp} : ∀ {ds : List D} {xs : List V}, IsL K A H ds xs -> IsL K A H ds.reverse xs.reverse := by
 intro ds
 induction ds with
 | nil =>
  intro xs h
  cases xs with
  | nil => exact h
  | cons x xs => exact absurd h.length (by simp)
 | cons d ds ih =>
  intro xs h
  obtain ⟨x, ys, rfl, h1, h2⟩ := h
  rw [List.reverse_cons, List.reverse_cons]
  have one : IsL K A H [d] [x] := ⟨x, [], rfl, h1, IsL.take 0 h2⟩
  exact IsL.append (ih h2) one
def qmR : D -> Option D
 | .tup ds => some (.tup ds.reverse)
 | .lst ds => some (.lst ds.reverse)
 | _ => none
def qlA (f : M D) : M D := bnd f fun d => lift (qmR d)
section
variable {X : Cx} {c : Fc} {a : Expr} {pos p2 p3 p4 : Pos} {cj : Nat}
theorem qmS {f : M D} {U : Env} : qlA f U = match f U with | .ok (d, U1) => (match qmR d with | some x => .ok (x, U1) | none => .bad) | .exc x U' => .exc x U' | .bad => .bad := by
 simp only [qlA, bnd]
 cases f U with
 | ok z => obtain ⟨z1, U1⟩ := z; (dsimp only; cases qmR z1 <;> rfl)
 | exc x U' => rfl
 | bad => rfl
end
section
variable {X : Cx} {c : Fc}
end
end L2.Sk
namespace L2
open PySem PySem.Spec PyProof.Rows
def qoa (X : Cx) (Pt : Addr) (q : Str) (params : Arguments) (body : Expr) (scope : Scope) (pos : Pos) : TE := fun _ H Q => H Pt = some (.lam pos q) /\
 ∀ (f c : Addr) (oc : Obj) (vs : Array Value) (t : Tok) (cl : List (Str × Addr)) (pm ctv : Value) (H1 : Hp), jk H H1 -> H1 f = some (.frz (PySem.W.kla_obj "<lambda>" q params body scope cl pm c ctv) (.own f)) -> H1 c = some (.frz oc (.own c)) ->
  oc.data = .fields vs -> vs[1]? = some (.str q t) -> (∀ n a, cl.lookup n = some a -> X.env.cells.lookup n = some a) -> (∀ y ∈ scope.names, y.2 = .free -> ∃ a, cl.lookup y.1 = some a) -> Q (.ref f) H1
section
variable {X : Cx} {pins : List (Addr × Obj)} {Z : St} {H : Hp} {s : Shared}
theorem vR {H : Hp} {a : Addr} {o : HO} (h : H a = none) : jk H (upd H a o) := fun b u q => by rw [qp (qH q h)]; exact q
theorem qlB {c0 Pt : Addr} {q : Str} {params : Arguments} {body : Expr} {scope : Scope} {pos : Pos} (hq : X.env.qual ++ "<lambda>" = q) (hcode : X.env.code = .ref c0) (hC : PySem.W.codeHdIn X.K c0 Pt = true)
  (hfr : ∀ y ∈ scope.names, y.2 = .free -> X.env.kindOf y.1 = some .cell) (hdef : defaultsOf params X.env = ([], [])) : PE X (.Lambda params body scope pos) (qoa X Pt q params body scope pos) := by
 intro pins s Z H Q I ⟨hP, h⟩
 obtain ⟨cl, hcl, cl1, cl2⟩ := Sk.closureFor_ok (env := X.env) (scope := scope) (fun y hy hf => I.ok.has y.1 (.inl (hfr y hy hf)))
 have C : PySem.W.CodeHd s.heap c0 Pt := PySem.W.codeHd_of_K I.kIn hC
 have hg : s.heap.Ns mainGlobals X.mg := I.mod.glob.keeps I.bk
 obtain ⟨bm, ob, b1, b2, b3, b4, b5, b6⟩ := I.mod.bm
 have b3' := I.bk _ _ b3
 have hPo : ∃ ps, s.heap.get? Pt = some (PySem.W.tabObj ps) := by
  rcases I.hok Pt _ hP with e | ⟨_, _, _, _, _, _, _, e⟩
  ·exact ⟨_, e⟩
  ·exact ⟨_, e⟩
 obtain ⟨ps0, hPo⟩ := hPo
 have hgP : mainGlobals ≠ Pt := fun z => by
  obtain ⟨o, es, ep, e, hd, _⟩ := hg
  rw [z, hPo] at e; cases e; cases hd
 have hbP : bm ≠ Pt := fun z => by rw [z, hPo] at b3'; cases b3'; cases b4
 have hbG : bm ≠ mainGlobals := fun z => by
  obtain ⟨o, es, ep, e, hd, _⟩ := hg
  rw [z, e] at b3'; cases b3'; rw [hd] at b6; cases b6
 have hB : s.heap.BuiltinsAt X.mg Pt := ⟨bm, ob, b1, b2, hbG, hbP, b3', b4, b5, b6⟩
 refine PySem.W.kla_eval hdef ?_
 rw [hq]
 rcases I.hok Pt _ hP with e | ⟨c', oc, vs, t, h1, h2, h3, e⟩
 ·refine PySem.W.kla_makeFunction hcl I.ok.glob hg hcode C e trivial rfl hgP hB fun c' ctv h' tk hx hge hlt hrec htb => ?_
  obtain ⟨c2, oc, vs, t, e2, hoc, hd, hv⟩ := hrec
  cases e2
  have htb' : h'.get? Pt = some { cls := .none, data := .fields #[rawInt pos.line, rawInt pos.col, .ref c'] } := by simpa using htb
  have hHc : H c' = none := I.hok.fresh hge
  have hsz : s.heap.objs.size <= h'.objs.size := Nat.le_trans hge (Nat.le_of_lt hlt)
  have hHf : H h'.objs.size = none := I.hok.fresh hsz
  have hfc : h'.objs.size ≠ c' := Nat.ne_of_gt hlt
  have hH2f : upd H c' (.frz oc (.own c')) h'.objs.size = none := by rw [qp hfc]; exact hHf
  let fo : Obj := PySem.W.kla_obj "<lambda>" q params body scope cl ((X.mg "__name__").getD .none) c' ctv
  have sm : jk H (upd (upd H c' (.frz oc (.own c'))) h'.objs.size (.frz fo (.own h'.objs.size))) := fun b u z => vR hH2f b u (vR hHc b u z)
  have keep : ∀ b o, b ≠ Pt -> s.heap.get? b = some o -> (h'.push fo).get? b = some o := fun b o hb z => Heap.get?_push_of_some _ (hx b o hb z)
  have nP : ∀ b, H b = none -> b ≠ Pt := fun b z w => by rw [w, hP] at z; cases z
  have un : Un X.fs [] H (upd (upd H c' (.frz oc (.own c'))) h'.objs.size (.frz fo (.own h'.objs.size))) s.heap (h'.push fo) := by
   refine ⟨fun b o z n _ _ => keep b o (nP b n) z, fun b o z n _ _ => ⟨o.slots, keep b o (nP b n) z⟩, fun b o z n _ => ?_, fun b o z _ => ?_, fun b xs z => sm _ _ z, fun b o u z => sm _ _ z, fun b p u z => sm _ _ z⟩
   ·have hlt2 := Heap.lt_size z
    rw [qp (Nat.ne_of_lt (Nat.lt_of_lt_of_le hlt2 hsz)), qp (Nat.ne_of_lt (Nat.lt_of_lt_of_le hlt2 hge))]
    exact n
   ·by_cases hb : b = Pt
    ·exact ⟨_, by rw [hb]; exact Heap.get?_push_of_some _ htb'⟩
    ·exact ⟨o, keep b o hb z⟩
  have hf1 : (upd (upd H c' (.frz oc (.own c'))) h'.objs.size (.frz fo (.own h'.objs.size))) c' = some (.frz oc (.own c')) := by rw [qp hfc.symm, qt]
  have hok : HOk X.prog X.w (upd (upd H c' (.frz oc (.own c'))) h'.objs.size (.frz fo (.own h'.objs.size))) (h'.push fo) := fun b u z => by
   by_cases hb1 : b = h'.objs.size
   ·subst hb1
    rw [qt] at z; cases z
    exact ⟨Heap.get?_push_size _ rfl, _, Heap.get?_push_size _ rfl⟩
   ·rw [qp hb1] at z
    by_cases hb2 : b = c'
    ·subst hb2
     rw [qt] at z; cases z
     exact ⟨Heap.get?_push_of_some _ hoc, _, Heap.get?_push_of_some _ hoc⟩
    ·rw [qp hb2] at z
     by_cases hb3 : b = Pt
     ·subst hb3
      rw [hP] at z; cases z
      exact .inr ⟨c', oc, vs, t, hf1, hd, hv, Heap.get?_push_of_some _ htb'⟩
     ·refine (I.hok b u z).stay (fun c v hc r => keep c v (fun w => ?_) r) (fun c r => sm _ _ r) (fun c xs r => sm _ _ r) fun c o y r => sm _ _ r
      rcases hc with hc | hc
      ·exact hb3 (hc ▸ w)
      ·rw [w, hP] at hc; cases hc
  exact ⟨.ref h'.objs.size, _, I.un un hok, rfl, h h'.objs.size c' oc vs t cl ((X.mg "__name__").getD .none) ctv _ sm qt hf1 hd hv cl1 cl2⟩
 ·have ht : TriplesOk (#[rawInt pos.line, rawInt pos.col, .ref c'] : Array Value).toList := trivial
  have hf : codeAmong pos (#[rawInt pos.line, rawInt pos.col, .ref c'] : Array Value).toList = some (.ref c') := by
   show (if ((pos.line : Int) == pos.line && (pos.col : Int) == pos.col) = true then _ else _) = _
   rw [if_pos (by simp)]
  refine PySem.W.kla_makeFunctionHit hcl I.ok.glob hg hcode C e ht hf hB fun ctv h' tk hk hsz => ?_
  have hHf : H h'.objs.size = none := I.hok.fresh hsz
  have J := I.laid (t' := tk) (o := .frz (PySem.W.kla_obj "<lambda>" q params body scope cl ((X.mg "__name__").getD .none) c' ctv) (.own h'.objs.size)) (fun b o z => Heap.get?_push_of_some _ (hk b o z)) hsz
   (show yq X.prog X.w _ (h'.push (PySem.W.kla_obj "<lambda>" q params body scope cl ((X.mg "__name__").getD .none) c' ctv)) h'.objs.size (.frz _ (.own _)) from ⟨Heap.get?_push_size _ rfl, _, Heap.get?_push_size _ rfl⟩)
  exact ⟨.ref h'.objs.size, _, J, rfl, h h'.objs.size c' oc vs t cl ((X.mg "__name__").getD .none) ctv _ (vR hHf) qt (vR hHf _ _ h1) h2 h3 cl1 cl2⟩
def qfP (X : Cx) (N' : List Str) (q : Str) (scope : Scope) (cl : List (Str × Addr)) (f c : Addr) (A : Around) (s : Shared) (H : Hp) : Cx where
 prog := X.prog
 w := X.w
 K := X.K
 mg := X.mg
 base := X.base
 A := A.deeper (PySem.W.envX q scope s.heap.objs.size f (.ref c) cl)
 N := N'
 s₀ := s
 H₀ := H
 env := PySem.W.envX q scope s.heap.objs.size f (.ref c) cl
 outer := X.stack
 stack := PySem.W.envX q scope s.heap.objs.size f (.ref c) cl :: X.stack
 ex := []
 fn := fun _ => false
 calm := true
 pn := []
 xe := fun _ _ => False
theorem qfQ {N' : List Str} {fr : List Nat} {q x : Str} {scope : Scope} {cl : List (Str × Addr)} {f c : Addr} {A : Around} {h1 : Heap} {tk : Nat} {v : V} {u : Value} {ws : List V} (S : Sk.CompScope X scope N' 1 fr) (I : Inv X pins Z H s)
  (cl1 : ∀ n a, cl.lookup n = some a -> X.env.cells.lookup n = some a) (cl2 : ∀ y ∈ scope.names, y.2 = .free -> ∃ a, cl.lookup y.1 = some a) (hA : A.handled = none) (hAf : A.frames = some X.stack)
  (hx : N'[0]? = some x) (hxl : scope.names.lookup x = some .local) (rv : jE v u) (hwl : ws.length = fr.length) (hws : ∀ (k j : Nat), fr[k]? = some j -> ∃ y, ws[k]? = some y /\ Z[j]? = some (some y))
  (hns : h1.Ns s.heap.objs.size fun y => ([(x, u)] : List (Str × Value)).reverse.lookup y) (old : ∀ b o, s.heap.get? b = some o -> h1.get? b = some o) :
  Inv (qfP X N' q scope cl f c A s H) [] (zD N' (v :: ws)) H { s with heap := h1, toks := tk } := by
 have noA : ∀ b : Addr, b ∉ (qfP X N' q scope cl f c A s H).ex := fun b z => absurd (show b ∈ ([] : List Addr) from z) (by simp)
 have hN : N'.length = (v :: ws).length := by rw [S.len, lC_, hwl]; omega
 have hst : zD N' (v :: ws) = (v :: ws).map some := by
  unfold zD
  rw [hN, Nat.sub_self]
  simp
 refine ⟨⟨I.ok.mod, S.kind, rfl, rfl, Nat.le_refl _, fun x y c h1 h2 => I.ok.inj x y c (cl1 x c h1) (cl1 y c h2), fun y hy => ?_, fun y c hy => ?_, fun _ => hA, Around.frames_deeper hAf, .inr ⟨rfl, rfl⟩, fun b z => absurd z (noA b), I.bs, Nat.le_trans I.ok.bsz I.sz, fun b _ _ => noA b, fun b z => absurd z (noA b), I.stack, I.stkFree⟩,
  rfl, I.bare, Un.kept old, ⟨_, hns, fun i y w e1 e2 e3 => ?_⟩, fun y c hy => ?_, I.hok.fresh (Nat.le_refl _), fun y c hy => I.freeC y c (cl1 y c hy), fun p hp => absurd (show p ∈ ([] : List (Addr × Obj)) from hp) (by simp), I.hok.kept old, ?_⟩
 ·have hy : scope.names.lookup y = some .cell \/ scope.names.lookup y = some .free := hy
  rcases hy with hy | hy
  ·exact absurd rfl (S.nocell _ (PySem.mem_of_lookup hy))
  ·exact cl2 (y, .free) (PySem.mem_of_lookup hy) rfl
 ·have hy' : false = true := hy
  cases hy'
 ·rw [hst] at e2
  cases i with
  | zero =>
   have e1' : N'[0]? = some y := e1
   rw [hx] at e1'; cases e1'
   have e2' : some v = some w := by simpa using e2
   cases e2'
   refine ⟨u, rv, .inl ⟨hxl, ?_⟩⟩
   simp
  | succ i =>
   have e2' : ws[i]? = some w := by simpa using e2
   have hi : i < fr.length := by rw [<- hwl]; exact (gI_.mp e2').1
   obtain ⟨j, hj⟩ : ∃ j, fr[i]? = some j := ⟨_, gG hi⟩
   obtain ⟨y', g1, g2⟩ := hws i j hj
   rw [e2'] at g1; cases g1
   obtain ⟨z, z1, z2, z3⟩ := S.slot i j hj
   have hz : z = y := by
    have e1' : N'[i + 1]? = some y := e1
    rw [Nat.add_comm 1 i, e1'] at z1
    exact (Option.some.inj z1).symm
   subst hz
   have hmem : (z, NameKind.free) ∈ scope.names := PySem.mem_of_lookup z3
   have hck : X.env.kindOf z = some .cell := S.frees (z, .free) hmem rfl
   obtain ⟨m0, hn0, hl0⟩ := I.loc
   obtain ⟨u', ru, lk⟩ := hl0 j z w z2 g2 (.inr (.inl hck))
   refine ⟨u', ru, .inr ⟨.inr z3, ?_⟩⟩
   rcases lk with ⟨k1, _⟩ | ⟨_, c', e, y1⟩
   ·rw [hck] at k1; cases k1
   ·obtain ⟨a, ea⟩ := cl2 (z, .free) hmem rfl
    have ea' := cl1 z a ea
    rw [e] at ea'
    cases ea'
    obtain ⟨o, ho, hd⟩ := y1
    exact ⟨c', ea, o, old _ _ ho, hd⟩
 ·obtain ⟨w, o, ho, hd⟩ := I.cell y c (cl1 y c hy)
  exact ⟨w, o, old _ _ ho, hd⟩
 ·rw [hst, lM_, <- hN]; rfl
theorem qhm {N' : List Str} {fr : List Nat} {q x : Str} {params : Arguments} {body : Expr} {scope : Scope} {cl : List (Str × Addr)} {f c : Addr} {oc : Obj} {vs : Array Value} {t : Tok} {pm ctv : Value} {A : Around} {v : V} {u : Value} {ws : List V} {te : TE} {Q : VK}
  (S : Sk.CompScope X scope N' 1 fr) (I : Inv X pins Z H s) (hf : H f = some (.frz (PySem.W.kla_obj "<lambda>" q params body scope cl pm c ctv) (.own f))) (hc : H c = some (.frz oc (.own c))) (hd : oc.data = .fields vs) (hv : vs[1]? = some (.str q t))
  (cl1 : ∀ n a, cl.lookup n = some a -> X.env.cells.lookup n = some a) (cl2 : ∀ y ∈ scope.names, y.2 = .free -> ∃ a, cl.lookup y.1 = some a) (hA : A.handled = none) (hAf : A.frames = some X.stack) (hdp : A.depth < recursionLimit)
  (hb : ∀ u, bindArgs (PySem.W.kla_fn "<lambda>" q params body scope cl pm (.ref c) ctv) ⟨[u], []⟩ = pure [(x, u)])
  (hx : N'[0]? = some x) (hxl : scope.names.lookup x = some .local) (hco : scope.isCoroutine = false) (hgen : scope.isGenerator = false)
  (rv : jE v u) (hwl : ws.length = fr.length) (hws : ∀ (k j : Nat), fr[k]? = some j -> ∃ y, ws[k]? = some y /\ Z[j]? = some (some y))
  (he : PE (qfP X N' q scope cl f c A s H) body te) (hq : te (zD N' (v :: ws)) H Q) : wpAny (model X.prog X.w) A (call (.ref f) [u]) (CE X.stack X.prog X.w H s Q) (fun _ _ => False) s := by
 refine wpAny_call (PySem.W.kla_callFunE hdp (I.hok f _ hf).1 rfl hco hgen rfl ⟨c, oc, vs, t, rfl, (I.hok c _ hc).1, hd, hv⟩ ?_)
 rw [hb]
 refine wpAny_pure (wpAny_newFunctionEnv S.nocell (fun y hy => ?_) (fun h1 hns hsb => ⟨I.nolimit.fresh _ hsb, ?_⟩) S.kind)
 ·have e : y = (x, u) := by simpa using hy
  rw [e]; exact hxl
 ·show codeAny _ _ (.expr body (PySem.W.envX q scope s.heap.objs.size f (.ref c) cl)) _ _
  have old : ∀ b o, s.heap.get? b = some o -> h1.get? b = some o := fun b o e => hsb.extBut b o (Nat.ne_of_lt (Heap.lt_size e)) (Heap.get?_push_of_some _ e)
  have J := qfQ (q := q) (f := f) (c := c) (h1 := h1) (tk := s.toks + ([(x, u)] : List (Str × Value)).length) S I cl1 cl2 hA hAf hx hxl rv hwl hws hns old
  exact PySem.W.kla_codeExpr (wpAny_mono (he [] _ _ H Q J hq) (fun v' s' ⟨y, H', J', r', q'⟩ => ⟨y, H', J'.os, J'.bare, J'.base, J'.hok, r', q'⟩) fun _ _ z => z.elim)
end
end L2
namespace L2.Srt
open PySem PySem.W PyProof.Rows
def ud {α : Type} (cmp : Nat -> Nat -> Bool) : KasT α -> α
 | .ret a => a
 | .ask i j k => ud cmp (k (cmp i j))
theorem y7 {α β : Type} {cmp : Nat -> Nat -> Bool} {f : α -> KasT β} : ∀ t : KasT α, ud cmp (t.bind f) = ud cmp (f (ud cmp t))
 | .ret _ => rfl
 | .ask i j k => y7 (k (cmp i j))
def wZ {α : Type} (n : Nat) (R : α -> Prop) : KasT α -> Prop
 | .ret a => R a
 | .ask i j k => i < n /\ j < n /\ ∀ b, wZ n R (k b)
theorem wZ.bind {α β : Type} {n : Nat} {R : α -> Prop} {R' : β -> Prop} {f : α -> KasT β} (hf : ∀ a, R a -> wZ n R' (f a)) : ∀ {t : KasT α}, wZ n R t -> wZ n R' (t.bind f)
 | .ret _, h => hf _ h
 | .ask _ _ _, ⟨h1, h2, h3⟩ => ⟨h1, h2, fun b => wZ.bind hf (h3 b)⟩
theorem wZ.run {α : Type} {n : Nat} {R : α -> Prop} {cmp : Nat -> Nat -> Bool} : ∀ {t : KasT α}, wZ n R t -> R (ud cmp t)
 | .ret _, h => h
 | .ask i j k, h => wZ.run (t := k (cmp i j)) (h.2.2 (cmp i j))
def Pl (n : Nat) (p : Array Nat) : Prop := p.size = n /\ p.toList.Perm (List.range n)
theorem Pl.of_perm {n : Nat} {p q : Array Nat} (h : Pl n p) (hq : q.Perm p) : Pl n q := ⟨hq.size_eq.trans h.1, (Array.perm_iff_toList_perm.mp hq).trans h.2⟩
theorem Pl.lt {n : Nat} {p : Array Nat} (h : Pl n p) (hn : 0 < n) (k : Nat) : p.getD k 0 < n := by
 by_cases hk : k < p.size
 ·have e : p.getD k 0 = p[k] := by simp [Array.getD, hk]
  rw [e]
  have hm : p[k] ∈ p.toList := by simp
  exact mR_.mp (h.2.mem_iff.mp hm)
 ·have e : p.getD k 0 = 0 := by simp [Array.getD, hk]
  rw [e]; exact hn
theorem Pl.rev {n : Nat} {p : Array Nat} (h : Pl n p) (i j : Nat) : Pl n (kas_rev p i j) := h.of_perm (mirror_perm _ _ _ _)
theorem qbh {n : Nat} (hn : 0 < n) {p : Array Nat} (h : Pl n p) : ∀ f m, wZ n (fun _ => True) (kas_asc p f m)
 | 0, _ => True.intro
 | f + 1, m => ⟨h.lt hn _, h.lt hn _, fun c => by
  dsimp only
  split
  ·exact True.intro
  ·exact qbh hn h f (m + 1)⟩
theorem vS {n : Nat} (hn : 0 < n) : ∀ f {p : Array Nat} (_ : Pl n p) m q, wZ n (fun r => Pl n r.1) (kas_desc f p m q)
 | 0, _, h, _, _ => h
 | f + 1, p, h, m, q => ⟨h.lt hn _, h.lt hn _, fun c => by
  dsimp only
  split
  ·split
   ·exact vS hn f (h.rev _ _) _ _
   ·exact vS hn f h _ _
  ·refine ⟨h.lt hn _, h.lt hn _, fun d => ?_⟩
   dsimp only
   split
   ·exact h
   ·exact vS hn f h _ _⟩
theorem qaU {n : Nat} (hn : 0 < n) {p : Array Nat} (h : Pl n p) (m nrem : Nat) : wZ n (fun r => Pl n r.2) (kas_tail3 m nrem p) :=
 wZ.bind (R := fun _ => True) (n := n) (R' := fun r : Nat × Array Nat => Pl n r.2) (f := fun k => .ret (k, kas_rev p 0 m)) (fun _ _ => h.rev 0 m) (qbh hn (h.rev _ _) _ _)
theorem vT {n : Nat} (hn : 0 < n) {p : Array Nat} (h : Pl n p) (m nrem : Nat) : wZ n (fun r => Pl n r.2) (kas_descPart m nrem p) :=
 wZ.bind (R := fun r => Pl n r.1) (fun r hr => by
  split
  ·exact qaU hn (hr.rev _ _) _ _
  ·exact qaU hn hr _ _) (vS hn _ h _ _)
theorem qef {n : Nat} (hn : 0 < n) {p : Array Nat} (h : Pl n p) (nrem : Nat) : wZ n (fun r => Pl n r.2) (kas_count nrem p) :=
 wZ.bind (R := fun _ => True) (fun m _ => by
  split
  ·exact h
  ·split
   ·refine ⟨h.lt hn _, h.lt hn _, fun c => ?_⟩
    dsimp only
    split
    ·exact h
    ·exact vT hn (h.rev _ _) _ _
   ·exact vT hn h _ _) (qbh hn h _ _)
theorem v9 {n : Nat} (hn : 0 < n) {p : Array Nat} (h : Pl n p) (k : Nat) : ∀ f l r, wZ n (fun _ => True) (kas_place p k f l r)
 | 0, _, _ => True.intro
 | f + 1, l, r => by
  unfold kas_place
  split
  ·exact True.intro
  ·refine ⟨h.lt hn _, h.lt hn _, fun c => ?_⟩
   dsimp only
   split
   ·exact v9 hn h k f _ _
   ·exact v9 hn h k f _ _
theorem qdB {n : Nat} (hn : 0 < n) : ∀ f {p : Array Nat} (_ : Pl n p) k, wZ n (Pl n) (kas_bin f p k)
 | 0, _, h, _ => h
 | f + 1, p, h, k => wZ.bind (R := fun _ => True) (fun l _ => qdB hn f (h.of_perm (bubble_perm _ _ _)) _) (v9 hn h k _ _ _)
theorem fits_sort {n : Nat} (hn : 0 < n) : wZ n (Pl n) (kas_sort n) :=
 wZ.bind (R := fun r => Pl n r.2) (fun r hr => by
  split
  ·exact qdB hn _ hr _
  ·exact hr) (qef hn ⟨by simp, by simp⟩ _)
def ord (ks : List Int) : List Nat := if ks.length < 2 then List.range ks.length else (ud (fun i j => decide (ks.getD i 0 < ks.getD j 0)) (kas_sort ks.length)).toList
theorem ord_perm (ks : List Int) : (ord ks).Perm (List.range ks.length) := by
 unfold ord
 split
 ·exact .refl _
 ·exact (wZ.run (fits_sort (by omega))).2
def qlC {α : Type} [Inhabited α] (ks : List Int) (xs : List α) : List α := (ord ks).map fun i => xs.getD i default
theorem map_getD_range {α : Type} (d : α) (xs : List α) : (List.range xs.length).map (fun i => xs.getD i d) = xs := by
 refine List.ext_getElem (by simp) fun i h1 h2 => ?_
 simp at h1 |-
 simp [h1]
theorem byKeys_perm {α : Type} [Inhabited α] {ks : List Int} {xs : List α} (h : ks.length = xs.length) : (qlC ks xs).Perm xs := by
 have := (ord_perm ks).map fun i => xs.getD i default
 rw [h, map_getD_range] at this
 exact this
section
variable {prog : Program} {w : World} {A : Around} {s : Shared}
theorem qca {vs : List Value} {ks : List Int} (hk : IntsAre vs ks) {i : Nat} (hi : i < ks.length) : ∃ t, vs.getD i Value.none = .int (ks.getD i 0) t := by
 obtain ⟨t, e⟩ := hk.get i ks[i] (gG hi)
 exact ⟨t, by simp [List.getD, e, hi]⟩
theorem wp_run {α : Type} {vs : List Value} {ks : List Int} {R : α -> Prop} {G : α -> Shared -> Prop} (hk : IntsAre vs ks) : ∀ {t : KasT α}, wZ ks.length R t -> G (ud (fun i j => decide (ks.getD i 0 < ks.getD j 0)) t) s -> t.kasWp (kas_ask prog w A oneType' vs) G s
 | .ret _, _, h => h
 | .ask i j k, ⟨h1, h2, h3⟩, h => by
  obtain ⟨t1, e1⟩ := qca hk h1
  obtain ⟨t2, e2⟩ := qca hk h2
  show wpAny (model prog w) A (keyLt' oneType' (vs.getD i Value.none) (vs.getD j Value.none)) _ _ s
  rw [e1, e2]
  exact kat_lt_int (wp_run hk (h3 _) h)
end
end L2.Srt
set_option maxHeartbeats 1000000
namespace L2
open PySem PySem.Spec PyProof.Rows
structure SS (X : Cx) (H0 : Hp) (s0 : Shared) (H : Hp) (s : Shared) : Prop where
 os : s.os = s0.os
 bare : AllBare s.gens
 un : Un (frs X.stack) [] H0 H s0.heap s.heap
 hok : HOk X.prog X.w H s.heap
 same : jk H0 H
section
variable {X : Cx} {pins : List (Addr × Obj)} {Z : St} {H0 H : Hp} {s0 s : Shared} {h' : Heap} {b a kS : Addr}
theorem SS.inv (z : SS X H0 s0 H s) (I : Inv X pins Z H0 s0) : Inv X pins Z H s := by
 obtain ⟨hh, g, d, t, os'⟩ := s
 obtain rfl : os' = s0.os := z.os
 exact I.call (h' := hh) (g' := g) (d' := d) (t' := t) (ch := []) z.un z.hok z.bare (fun b z => absurd z (by simp))
theorem SS.of (I : Inv X pins Z H s) : SS X H s H s := ⟨rfl, I.bare, .refl, I.hok, fun _ _ h => h⟩
theorem SS.kept (z : SS X H0 s0 H s) (k : ∀ b u, s.heap.get? b = some u -> h'.get? b = some u) (tk : Nat) : SS X H0 s0 H { s with heap := h', toks := tk } :=
 ⟨z.os, z.bare, z.un.trans (Un.kept k), z.hok.kept k, z.same⟩
theorem SS.poke (z : SS X H0 s0 H s) (hb : H b = none) (hb0 : s0.heap.objs.size <= b) (sb : Heap.SameBut b s.heap h') (tk : Nat) : SS X H0 s0 H { s with heap := h', toks := tk } := by
 have ne : ∀ c o, s0.heap.get? c = some o -> c ≠ b := fun c o e => Nat.ne_of_lt (Nat.lt_of_lt_of_le (Heap.lt_size e) hb0)
 refine ⟨z.os, z.bare, ⟨fun c o e n f x => (sb.2 c (ne c o e)).trans (z.un.keep c o e n f x), fun c o e n f x => ?_, z.un.free, fun c o e x => ?_, z.un.tups, z.un.frzs, z.un.tbls⟩, fun c u q => ?_, z.same⟩
 ·obtain ⟨sl, q⟩ := z.un.slot c o e n f x
  exact ⟨sl, (sb.2 c (ne c o e)).trans q⟩
 ·obtain ⟨o', q⟩ := z.un.there c o e x
  exact ⟨o', (sb.2 c (ne c o e)).trans q⟩
 ·refine (z.hok c u q).stay (fun d v hd r => (sb.2 d ?_).trans r) (fun _ q => q) fun _ _ q => q
  rintro rfl
  rcases hd with rfl | hd
  ·rw [hb] at q; cases q
  ·rw [hb] at hd; cases hd
theorem SS.call {Q : VK} {u : Value} {s' : Shared} (z : SS X H0 s0 H s) (h : CE X.stack X.prog X.w H s Q u s') (hq : ∀ v H', Q v H' -> jk H H') : ∃ v H', jE v u /\ Q v H' /\ SS X H0 s0 H' s' /\ Un (frs X.stack) [] H H' s.heap s'.heap := by
 obtain ⟨v, H', os, bare, un, hok, r, q⟩ := h
 exact ⟨v, H', r, q, ⟨os.trans z.os, bare, z.un.trans un, hok, fun b o e => hq v H' q b o (z.same b o e)⟩, un⟩
end
section
variable {X : Cx} {H0 H : Hp} {s0 s : Shared} {a kS : Addr} {A : Around} {E : Value -> Shared -> Prop} {f : Value} {vs : List Value} {ks : List Int} {e1 : Nat} {P : PySem.Fin -> Shared -> Prop}
abbrev qjt (ks : List Int) (vs : List Value) : List Value := (Srt.ord ks).map fun i => vs.getD i Value.none
theorem qdC (h : ks.length = vs.length) : (qjt ks vs).length = vs.length := by
 rw [lM_, (Srt.ord_perm ks).length_eq, lR_, h]
abbrev qju (X : Cx) (H0 : Hp) (s0 : Shared) (A : Around) (f v : Value) (k : Int) : Prop := ∀ s' H', SS X H0 s0 H' s' ->
 wpAny (model X.prog X.w) A (call f [v]) (fun u s2 => (∃ t, u = .int k t) /\ ∃ H2, SS X H0 s0 H2 s2 /\ Un (frs X.stack) [] H' H2 s'.heap s2.heap) (fun _ _ => False) s'
abbrev qdD (X : Cx) (H0 : Hp) (s0 : Shared) (a : Addr) (out : List Value) (P : PySem.Fin -> Shared -> Prop) : Prop :=
 ∀ H' s' c, SS X H0 s0 H' s' -> H' a = none -> s'.heap.get? a = some (seqObj "list" out.toArray c) -> P (.done (.ret .none)) s'
theorem qdE {st : SortSt} {out : List Value} {kA : Array Value} {e : Nat} (z : SS X H0 s0 H s) (gk : s.heap.get? kS = some (seqObj "list" kA e)) (ga : s.heap.get? a = some (seqObj "list" #[] e1)) (nk : H kS = none) (na : H a = none)
  (lk : s0.heap.objs.size <= kS) (la : s0.heap.objs.size <= a) (hka : kS ≠ a) (hkz : kA.size < 64) (hoz : out.length < 64) (ho : (arrOf st).map (·.2) = out.toArray) (hf : failedOf st = none) (fin : qdD X H0 s0 a out P) :
  wpAny (model X.prog X.w) A (ksk_tail a false e1 (.ref kS) st) P E s := by
 have sb1 := Heap.SameBut.update s.heap kS (Obj.mapSeq fun _ => (#[] : Array Value))
 have ga1 := (sb1.2 a hka.symm).trans ga
 have z1 := z.poke nk lk sb1 s.toks
 have sb2 := Heap.SameBut.update (s.heap.update kS (Obj.mapSeq fun _ => (#[] : Array Value))) a (Obj.mapSeq fun _ => out.toArray)
 have z2 := z1.poke na la sb2 s.toks
 unfold ksk_tail
 dsimp only
 rw [ho]
 refine wpAny_bind (listUpdate_at gk rfl ?_ (by rw [sizeLine_eq]; omega) (Nat.zero_le _))
 refine wpAny_bind (wpAny_letGo (wpAny_bind (seqEpoch_at ga1 rfl ?_)))
 refine wpAny_bind (listUpdate_at ga1 rfl ?_ (Nat.zero_le _) (by show (out.toArray).size <= _; rw [sT_, sizeLine_eq]; omega))
 rw [hf]
 simp only [bne_self_eq_false, Bool.false_eq_true, if_false]
 exact wpAny_pure (fin H _ _ z2 na (get?_update_seq ga1 fun _ => out.toArray))
theorem qjv {kA : Array Value} {e : Nat} (z : SS X H0 s0 H s) (gk : s.heap.get? kS = some (seqObj "list" kA e)) (ga : s.heap.get? a = some (seqObj "list" #[] e1)) (nk : H kS = none) (na : H a = none)
  (lk : s0.heap.objs.size <= kS) (la : s0.heap.objs.size <= a) (hka : kS ≠ a) (hk : IntsAre kA.toList ks) (hlen : ks.length = vs.length) (h64 : vs.length < 64) (fin : qdD X H0 s0 a (qjt ks vs) P) :
  wpAny (model X.prog X.w) A (ksk_end a false vs.toArray e1 (.ref kS) kA) P E s := by
 have hkz : kA.size = vs.length := by
  have h1 := hk.length
  rw [Array.length_toList] at h1
  omega
 unfold ksk_end
 dsimp only
 rw [if_neg (by decide)]
 by_cases h2 : vs.length < 2
 ·have h2' : vs.toArray.size < 2 := by rw [sT_]; exact h2
  rw [if_pos h2', if_pos h2']
  refine wpAny_bind (wpAny_pure ?_)
  rw [StateT.run_pure]
  refine wpAny_bind (wpAny_pure ?_)
  dsimp only
  refine qdE z gk ga nk na lk la hka (by omega) (by rw [qdC hlen]; exact h64) ?_ rfl fin
  have e0 : qjt ks vs = vs := by
   show (Srt.ord ks).map _ = vs
   unfold Srt.ord
   rw [if_pos (by omega), hlen]
   exact Srt.map_getD_range _ vs
  rw [e0]
  apply Array.toList_inj.mp
  show ((kA.zip vs.toArray).map (·.2)).toList = vs.toArray.toList
  rw [Array.toList_map, ksk_zip, List.map_snd_zip (Nat.le_of_eq (by rw [Array.length_toList]; exact hkz.symm))]
 ·have h2' : ¬ vs.toArray.size < 2 := by rw [sT_]; exact h2
  rw [if_neg h2', if_neg h2', ksk_kind hk (by omega)]
  refine wpAny_bind (wpAny_pure ?_)
  have ekA : kA = kA.toList.toArray := by simp
  rw [ekA]
  have hl : kA.toList.length = vs.length := by rw [Array.length_toList]; exact hkz
  refine wpAny_bind (wpAny_mono (PySem.W.kat_run (Q := fun st' s' => s' = s /\ (arrOf st').map (·.2) = (qjt ks vs).toArray /\ failedOf st' = none) (G := fun p s' => s' = s /\ p.toList = Srt.ord ks) hl (by omega) h64 (fun p st' s' a1 a2 a3 a4 => ?_) ?_) ?_ fun _ _ x => x)
  ·refine ⟨a4.1, ?_, a3⟩
   rw [PySem.W.kat_snds hl a2, a4.2]
  ·have ft := Srt.fits_sort (n := ks.length) (by omega)
   rw [<- hlen]
   refine Srt.wp_run hk ft ⟨rfl, ?_⟩
   unfold Srt.ord
   rw [if_neg (by omega)]
  ·rintro ⟨⟨⟩, st'⟩ s' ⟨rfl, h3, h4⟩
   dsimp only
   exact qdE z gk ga nk na lk la hka (by omega) (by rw [qdC hlen]; exact h64) h3 h4 fin
theorem qhn (z : SS X H0 s0 H s) (gk : s.heap.get? kS = some (seqObj "list" #[] 0)) (ga : s.heap.get? a = some (seqObj "list" #[] e1)) (nk : H kS = none) (na : H a = none)
  (lk : s0.heap.objs.size <= kS) (la : s0.heap.objs.size <= a) (hka : kS ≠ a) (hlen : ks.length = vs.length) (h64 : vs.length < 64) (hfr : ∀ b ∈ frs X.stack, b < s0.heap.objs.size)
  (turn : ∀ (i : Nat) (v : Value) (k : Int), vs[i]? = some v -> ks[i]? = some k -> qju X H0 s0 A f v k) (fin : qdD X H0 s0 a (qjt ks vs) P) : wpAny (model X.prog X.w) A (ksk_rest a f false vs.toArray e1 (.ref kS)) P E s := by
 have nf : ∀ c, s0.heap.objs.size <= c -> c ∉ frs X.stack := fun c hc hm => absurd (Nat.lt_of_lt_of_le (hfr c hm) hc) (Nat.lt_irrefl _)
 unfold ksk_rest
 refine wpAny_bind (wpAny_rule ?_)
 rw [List.forIn_toArray]
 refine wpAny_bind (ksk_fold (fun i s' => ∃ H' kA e, SS X H0 s0 H' s' /\ H' kS = none /\ H' a = none /\ s'.heap.get? kS = some (seqObj "list" kA e) /\ s'.heap.get? a = some (seqObj "list" #[] e1) /\ IntsAre kA.toList (ks.take i)) vs 0 s
  ⟨H, #[], 0, z, nk, na, gk, ga, by simpa using IntsAre.nil⟩ ?step ?done)
 case step =>
  rintro j x s' hx ⟨H', kA, e, z', k1, a1, g1, g2, hi⟩
  rw [Nat.zero_add] at hi |-
  have hj : j < vs.length := (gI_.mp hx).1
  obtain ⟨k, hkj⟩ : ∃ k, ks[j]? = some k := ⟨_, gG (by omega)⟩
  have hz : kA.size <= vs.length := by
   have h1 := hi.length
   rw [Array.length_toList, List.length_take] at h1
   omega
  refine wpAny_bind (wpAny_attempt (wpAny_mono (turn j x k hx hkj s' H' z') (fun v s2 hv => ?_) fun _ _ hF => hF.elim))
  obtain ⟨⟨t, rfl⟩, H2, z2, u2⟩ := hv
  dsimp only
  have gk2 := u2.keep kS _ g1 k1 (nf kS lk) (by simp)
  have ga2 := u2.keep a _ g2 a1 (nf a la) (by simp)
  have nk2 := u2.free kS _ g1 k1 (by simp)
  have na2 := u2.free a _ g2 a1 (by simp)
  have sb := Heap.SameBut.update s2.heap kS (Obj.mapSeq (·.push (.int k t)))
  refine wpAny_bind (listUpdate_at gk2 rfl ?_ (by rw [sizeLine_eq]; omega) (by show (kA.push _).size <= _; rw [Array.size_push, sizeLine_eq]; omega))
  refine wpAny_pure ⟨rfl, H2, kA.push (.int k t), _, z2.poke nk2 lk sb s2.toks, nk2, na2, get?_update_seq gk2 (·.push (.int k t)), (sb.2 a hka.symm).trans ga2, ?_⟩
  have ek : ks.take (j + 1) = ks.take j ++ [k] := by rw [List.take_add_one, hkj]; simp
  have ea : (kA.push (Value.int k t)).toList = kA.toList ++ [Value.int k t] := by simp
  rw [ea, ek]
  exact ksk_snoc hi
 case done =>
  rintro s' ⟨H', kA, e, z', k1, a1, g1, g2, hi⟩
  have e3 : ks.take (0 + vs.length) = ks := List.take_of_length_le (by omega)
  rw [e3] at hi
  refine wpAny_bind (listItems_at g1 rfl ?_)
  exact qjv z' g1 g2 k1 a1 lk la hka hi hlen h64 fin
theorem qho {n : Nat} (z : SS X H0 s0 H s) (ho : s.heap.get? a = some (seqObj "list" vs.toArray n)) (na : H a = none) (la : s0.heap.objs.size <= a) (hs0 : s0.heap.objs.size <= s.heap.objs.size) (hlen : ks.length = vs.length) (h64 : vs.length < 64) (hfr : ∀ b ∈ frs X.stack, b < s0.heap.objs.size)
  (turn : ∀ (i : Nat) (v : Value) (k : Int), vs[i]? = some v -> ks[i]? = some k -> qju X H0 s0 A f v k) (fin : qdD X H0 s0 a (qjt ks vs) P) : wpAny (model X.prog X.w) A (ksk_tree a f false) P E s := by
 have hlt : a < s.heap.objs.size := Heap.lt_size ho
 have sb := Heap.SameBut.update s.heap a (Obj.mapSeq fun _ => (#[] : Array Value))
 obtain ⟨e1, ho1⟩ : ∃ e1, (s.heap.update a (Obj.mapSeq fun _ => (#[] : Array Value))).get? a = some (seqObj "list" #[] e1) := ⟨_, get?_update_seq ho fun _ => #[]⟩
 have z1 := z.poke na la sb s.toks
 have hsz : ((s.heap.update a (Obj.mapSeq fun _ => (#[] : Array Value))).push (seqObj "tuple" vs.toArray 0)).objs.size = s.heap.objs.size + 1 := by rw [size_push', Heap.size_update]
 unfold ksk_tree
 refine wpAny_bind (listItems_at ho rfl (wpAny_bind (listUpdate_at ho rfl ?_ (by rw [sT_, sizeLine_eq]; omega) (Nat.zero_le _))))
 refine wpAny_bind (seqEpoch_at ho1 rfl (wpAny_bind (wpAny_newTuple ?_ (by show vs.length <= _; rw [sizeLine_eq]; omega))))
 refine wpAny_bind (wpAny_newList (wpAny_holding ?_) (Nat.zero_le _))
 have kp : ∀ b u, (s.heap.update a (Obj.mapSeq fun _ => (#[] : Array Value))).get? b = some u -> (((s.heap.update a (Obj.mapSeq fun _ => (#[] : Array Value))).push (seqObj "tuple" vs.toArray 0)).push (seqObj "list" #[] 0)).get? b = some u :=
  fun b u q => Heap.get?_push_of_some _ (Heap.get?_push_of_some _ q)
 have z3 := z1.kept kp s.toks
 refine qhn (kS := ((s.heap.update a (Obj.mapSeq fun _ => (#[] : Array Value))).push (seqObj "tuple" vs.toArray 0)).objs.size) z3 (Heap.get?_push_size _ rfl) (kp _ _ ho1) ?_ na (by rw [hsz]; omega) la (by rw [hsz]; exact Nat.ne_of_gt (Nat.lt_succ_of_lt hlt)) hlen h64 hfr turn fin
 cases q : H ((s.heap.update a (Obj.mapSeq fun _ => (#[] : Array Value))).push (seqObj "tuple" vs.toArray 0)).objs.size with
 | none => rfl
 | some u =>
  have := z.hok.lt q
  rw [hsz] at this
  exact absurd (Nat.lt_of_succ_lt this) (Nat.lt_irrefl _)
end
section
variable {X : Cx} {pins : List (Addr × Obj)} {Z : St} {H : Hp} {s : Shared} {l f : Addr} {vs : List Value} {ks : List Int} {Q : Value -> Shared -> Prop} {E : Value -> Shared -> Prop}
theorem qeg (I : Inv X pins Z H s) (hl : s.heap.IsList l vs.toArray) (hlen : ks.length = vs.length) (h64 : vs.length < 64) (turn : ∀ (i : Nat) (v : Value) (k : Int), vs[i]? = some v -> ks[i]? = some k -> qju X H s X.A.in1.in1 (.ref f) v k)
  (fin : ∀ D H' s' c, s.heap.objs.size <= D -> SS X H s H' s' -> H' D = none -> s'.heap.get? D = some (seqObj "list" (qjt ks vs).toArray c) -> Q (.ref D) s') : wpAny (model X.prog X.w) X.A (call (.builtin "sorted") [.ref l] [(Str.ofString "key", .ref f)]) Q E s := by
 refine call_function_entry_kw kind_sorted plain_sorted entry_sorted (ksk_s1 _ _) ?_
 unfold Builtin.«sorted»
 refine wpAny_bind (m := checkCount "sorted" 1 1 _) (wpAny_pure (wpAny_bind (collect_list hl ?_ (by rw [sizeLine_eq]; omega))))
 refine wpAny_bind (wpAny_newList ?_ (by rw [sizeLine_eq]; omega))
 have hsz : ((s.heap.push (seqObj "list" #[] 0)).update s.heap.objs.size (Obj.mapSeq (· ++ vs.toArray))).objs.size = s.heap.objs.size + 1 := by rw [Heap.size_update, size_push']
 have hD : (((s.heap.push (seqObj "list" #[] 0)).update s.heap.objs.size (Obj.mapSeq (· ++ vs.toArray))).push (seqObj "list" vs.toArray 0)).get? (s.heap.objs.size + 1) = some (seqObj "list" vs.toArray 0) := by rw [<- hsz]; exact Heap.get?_push_size _ rfl
 have keep : ∀ b o, s.heap.get? b = some o -> (((s.heap.push (seqObj "list" #[] 0)).update s.heap.objs.size (Obj.mapSeq (· ++ vs.toArray))).push (seqObj "list" vs.toArray 0)).get? b = some o := fun b o q => by
  have hb := Heap.lt_size q
  rw [Heap.get?_push_ne _ _ _ (by rw [hsz]; exact Nat.ne_of_lt (Nat.lt_succ_of_lt hb)), Heap.get?_update_ne _ _ _ _ (Nat.ne_of_lt hb), Heap.get?_push_ne _ _ _ (Nat.ne_of_lt hb)]
  exact q
 have z := (SS.of I).kept keep s.toks
 have hfr : ∀ b ∈ frs X.stack, b < s.heap.objs.size := fun b hb => by
  obtain ⟨_, o, ho, _⟩ := I.stack.mem hb
  exact Heap.lt_size ho
 have hszs : s.heap.objs.size <= (((s.heap.push (seqObj "list" #[] 0)).update s.heap.objs.size (Obj.mapSeq (· ++ vs.toArray))).push (seqObj "list" vs.toArray 0)).objs.size := by rw [size_push', hsz]; omega
 show wpAny _ _ _ _ _ { s with heap := ((s.heap.push (seqObj "list" #[] 0)).update s.heap.objs.size (Obj.mapSeq (· ++ vs.toArray))).push (seqObj "list" vs.toArray 0) }
 rw [hsz]
 refine wpAny_bind (wpAny_holding (wpAny_call_entry_kw slot_list_sort ⟨_, hD, rfl⟩ entry_list_sort ?body (ksk_l1 _ _)))
 case body =>
  show wpAny (model X.prog X.w) X.A.in1.in1 (Builtin.«list.sort» ⟨[.ref (s.heap.objs.size + 1)], [(Str.ofString "key", .ref f)]⟩) _ _ _
  rw [ksk_t1]
  refine qho (X := X) (H0 := H) (s0 := s) (H := H) z hD (I.hok.fresh (Nat.le_succ _)) (Nat.le_succ _) hszs hlen h64 hfr turn fun H' s' c z' n' g' => ⟨_, rfl, ?_⟩
  exact wpAny_pure ⟨_, rfl, fin _ H' s' c (Nat.le_succ _) z' n' g'⟩
end
end L2
set_option maxHeartbeats 1000000
namespace L2
open PySem PySem.Spec PyProof.Rows
def CallKS (X : Cx) (f : Value) (ks : List Str) (r : St -> List V -> List V -> Hp -> VK -> Prop) : Prop := ∀ (pins : List (Addr × Obj)) (s : Shared) (Z : St) (H : Hp) (xs : List V) (us : List Value) (zs : List V) (ws : List Value) (Q : VK),
 Inv X pins Z H s -> zb xs us -> zb zs ws -> r Z xs zs H Q -> wpAny (model X.prog X.w) X.A (call f us (ks.zip ws)) (EP X pins Z Q) X.xe s
theorem qfR {X : Cx} {x : Str} {p pos : Pos} {e : Expr} {es : List Expr} {kws : List Keyword} {t tk : TA} {id : String} {ks : List Str} {r : St -> List V -> List V -> Hp -> VK -> Prop} (hc : CallKS X (.builtin id) ks r) (hg : Gl X x) (hm : X.mg x = none) (hv : bootBuiltins x = some (.builtin id)) (ha : PA X (e :: es) t) (hkw : PK X kws tk)
  (hall : (backToKw pos (keywordEach kws X.env)).all (·.1.isSome) = true := by rfl) (hks : (backToKw pos (keywordEach kws X.env)).filterMap (·.1) = ks := by rfl) (hn : x ≠ "__name__" := by decide) (hdb : (x == ("__debug__" : Str)) = false := by decide)
  (he : starEach (e :: es) X.env = (false, eval e X.env) :: starEach es X.env := by rfl) (hpl : ((backTo pos (starEach (e :: es) X.env)).any (·.1) || (backToKw pos (keywordEach kws X.env)).any (·.1.isNone)) = false := by rfl) :
  PE X (.Call (.Name x p) (e :: es) kws pos) (fun Z H Q => t Z H fun vs H1 => tk Z H1 fun zs H2 => r Z vs zs H2 Q) := by
 intro pins s Z H Q I h
 refine wpAny_Call_Name_kw (qaJ I hg hm hv ?_ hn hdb)
 refine PySem.W.callWith_of (P := fun _ => True) hpl (fun _ _ => ⟨.machine, .inr (.inl rfl), .now⟩) (evalArgs_kw2 hall (thn (ha pos pins s Z H _ I h) fun us s1 ⟨vs, H1, I1, r1, q1⟩ => ?_) he)
 refine thn (hkw pos pins s1 Z H1 _ I1 q1) fun ws s2 ⟨zs, H2, I2, rz, q2⟩ => ⟨trivial, ?_⟩
 rw [hks, List.nil_append]
 exact hc pins s2 Z H2 vs us zs ws Q I2 r1 rz q2
def qlD (X : Cx) (N' : List Str) (fr : List Nat) (q : Str) (params : Arguments) (body : Expr) (scope : Scope) : St -> List V -> List V -> Hp -> VK -> Prop := fun Z xs zs H Q =>
 ∃ (a f kc : Addr) (ys : List V) (oc : Obj) (vs : Array Value) (t : Tok) (cl : List (Str × Addr)) (pm ctv : Value) (ks : List Int) (ws : List V), xs = [.ref a] /\ zs = [.ref f] /\ SqL X.K H a ys /\ ys.length < 64 /\ ks.length = ys.length /\
  H f = some (.frz (PySem.W.kla_obj "<lambda>" q params body scope cl pm kc ctv) (.own f)) /\ H kc = some (.frz oc (.own kc)) /\ oc.data = .fields vs /\ vs[1]? = some (.str q t) /\
  (∀ n a, cl.lookup n = some a -> X.env.cells.lookup n = some a) /\ (∀ y ∈ scope.names, y.2 = .free -> ∃ a, cl.lookup y.1 = some a) /\ ws.length = fr.length /\ (∀ (k j : Nat), fr[k]? = some j -> ∃ y, ws[k]? = some y /\ Z[j]? = some (some y)) /\
  (∀ (i : Nat) (y : V) (k : Int), ys[i]? = some y -> ks[i]? = some k -> ∀ H' s', jk H H' -> ∃ tb, PE (qfP X N' q scope cl f kc X.A.in1.in1 s' H') body tb /\ tb (zD N' (y :: ws)) H' (fun v H2 => v = .int k /\ jk H' H2)) /\
  ∀ H' p, jk H H' -> H' p = none -> Q (.ref p) (upd H' p (.lst ((Srt.ord ks).map fun i => ys.getD i .non)))
theorem qcb {ys : List V} {its : List Value} (r : zb ys its) : ∀ l : List Nat, (∀ i ∈ l, i < ys.length) -> zb (l.map fun i => ys.getD i .non) (l.map fun i => its.getD i Value.none)
 | [], _ => .nil
 | i :: l, h => by
  refine .cons ?_ (qcb r l fun j hj => h j (mM _ hj))
  have hi := h i mS_
  obtain ⟨u, hu, rv⟩ := r.get (gG hi)
  have e1 : ys.getD i V.non = ys[i] := by simp [hi]
  have e2 : its.getD i Value.none = u := by simp [List.getD, hu]
  show jE (ys.getD i V.non) (its.getD i Value.none)
  rw [e1, e2]
  exact rv
section
variable {X : Cx} {N' : List Str} {fr : List Nat} {q x : Str} {params : Arguments} {body : Expr} {scope : Scope} {k : Nat}
theorem qeh (S : Sk.CompScope X scope N' 1 fr) (hc : X.calm = true) (hr : uc k X.A) (hb : ∀ cl pm cd ctv u, bindArgs (PySem.W.kla_fn "<lambda>" q params body scope cl pm cd ctv) ⟨[u], []⟩ = pure [(x, u)])
  (hx : N'[0]? = some x) (hxl : scope.names.lookup x = some .local) (hco : scope.isCoroutine = false) (hgen : scope.isGenerator = false) : CallKS X (.builtin "sorted") [Str.ofString "key"] (qlD X N' fr q params body scope) := by
 intro pins s Z H xs us zs wz Q I rx rz h
 obtain ⟨a, f, kc, ys, oc, vs, t, cl, pm, ctv, ks, ws, rfl, rfl, hs, h64, hlen, hf, hk, hd, hv, cl1, cl2, hwl, hws, key, hq⟩ := h
 cases rx with
 | cons ra rr =>
 cases rr
 cases rz with
 | cons rf rr =>
 cases rr
 cases ra
 cases rf
 obtain ⟨its, r, ht, hz⟩ := I.list hs
 have hl := r.length
 refine qeg (ks := ks) I ht.isList (by omega) (by omega) (fun i v k' hvi hki s' H' z => ?_) fun D H' s' c hD z' n' g' => ?_
 ·have hi : i < ys.length := by rw [hl]; exact (gI_.mp hvi).1
  obtain ⟨u, hu, ry⟩ := r.get (gG hi)
  rw [hvi] at hu; cases hu
  obtain ⟨tb, pb, qb⟩ := key i ys[i] k' (gG hi) hki H' s' z.same
  refine thn (qhm (A := X.A.in1.in1) S (z.inv I) (z.same _ _ hf) (z.same _ _ hk) hd hv cl1 cl2 (I.ok.hd hc) I.ok.frames hr.depth (hb _ _ _ _) hx hxl hco hgen ry hwl hws pb qb) fun u s2 ce => ?_
  obtain ⟨v', H2, r2, ⟨rfl, sm⟩, z2, u2⟩ := z.call ce fun v H' q => q.2
  obtain ⟨t2, rfl⟩ := r2
  exact ⟨⟨t2, rfl⟩, H2, z2, u2⟩
 ·have hpl : ∀ i ∈ Srt.ord ks, i < ys.length := fun i hi => by
   have := (Srt.ord_perm ks).mem_iff.mp hi
   rw [<- hlen]; exact mR_.mp this
  have hnone : s.heap.get? D = none := Heap.get?_none_of_le hD
  have rp := qcb r (Srt.ord ks) hpl
  have ol : ((Srt.ord ks).map fun i => ys.getD i V.non).length <= sizeLine := by
   rw [lM_, (Srt.ord_perm ks).length_eq, lR_, sizeLine_eq]; omega
  have ne' : ∀ c u, H' c = some u -> c ≠ D := fun c u q z => by rw [z, n'] at q; cases q
  have hok : HOk X.prog X.w (upd H' D (.lst ((Srt.ord ks).map fun i => ys.getD i .non))) s'.heap := fun b u e => by
   by_cases hbD : b = D
   ·subst hbD
    rw [qt] at e; cases e
    exact ⟨ol, _, _, rp, g'⟩
   ·rw [qp hbD] at e
    exact (z'.hok b u e).stay (fun _ _ _ q => q) (fun c q => by rw [qp (ne' c _ q)]; exact q) (fun c xs q => by rw [qp (ne' c _ q)]; exact q) fun c ob y q => by rw [qp (ne' c _ q)]; exact q
  have un := Sk.un_held (o := .lst ((Srt.ord ks).map fun i => ys.getD i .non)) z'.un hnone n'
  have zz : SS X H s (upd H' D (.lst ((Srt.ord ks).map fun i => ys.getD i .non))) s' := ⟨z'.os, z'.bare, un, hok, fun b o e => vR n' b o (z'.same b o e)⟩
  exact ⟨.ref D, _, zz.inv I, rfl, hq H' D z'.same n'⟩
end
end L2
namespace L2.Sk
open PySem PySem.Spec PyProof.Rows
def qki (U : Env) : List Nat -> Option (List D)
 | [] => some []
 | j :: fr => match U[j]?, qki U fr with
  | some (some d), some ds => some (d :: ds)
  | _, _ => none
def qas (g : M D) (n : Nat) (cs : List D) : List D -> Option (List Int)
 | [] => some []
 | d :: ds => match g (jC n (d :: cs)), qas g n cs ds with
  | .ok (.int k, _), some ks => some (k :: ks)
  | _, _ => none
def qei (l : List Nat) (ds : List D) : List D := l.map fun i => ds.getD i .non
def qdF (n : Nat) (fr : List Nat) (f g : M D) : M D := bnd f fun d U => match d with
 | .lst ds => if ds.length < 64 then match qki U fr with
   | some cs => match qas g n cs ds with
    | some ks => .ok (.lst (qei (Srt.ord ks) ds), U)
    | none => .bad
   | none => .bad
  else .bad
 | _ => .bad
theorem qcc {g : M D} {n : Nat} {cs : List D} : ∀ {ds : List D} {ks : List Int}, qas g n cs ds = some ks -> ks.length = ds.length
 | [], ks, h => by cases h; rfl
 | d :: ds, ks, h => by
  unfold qas at h
  split at h
  ·rename_i e2; cases h; rw [lC_, lC_, qcc e2]
  ·cases h
theorem qcd {g : M D} {n : Nat} {cs : List D} : ∀ {ds : List D} {ks : List Int} {i : Nat} {d : D} {k : Int}, qas g n cs ds = some ks -> ds[i]? = some d -> ks[i]? = some k -> ∃ U, g (jC n (d :: cs)) = .ok (.int k, U)
 | [], _, _, _, _, _, h, _ => by simp at h
 | d0 :: ds, ks, i, d, k, h, h1, h2 => by
  unfold qas at h
  split at h
  ·rename_i k0 U0 ks0 e1 e2
   cases h
   cases i with
   | zero =>
    have a1 : d0 = d := by simpa using h1
    have a2 : k0 = k := by simpa using h2
    subst a1 a2
    exact ⟨_, e1⟩
   | succ i => exact qcd e2 (by simpa using h1) (by simpa using h2)
  ·cases h
theorem qfS {K : Fr0} {c : Fc} {U : Env} {Z : St} {H : Hp} (r : Rep K c U Z H) : ∀ {fr : List Nat} {cs : List D}, qki U fr = some cs -> (∀ j ∈ fr, j ∉ c.O) ->
  ∃ ws, ws.length = fr.length /\ (∀ (k j : Nat), fr[k]? = some j -> ∃ y, ws[k]? = some y /\ Z[j]? = some (some y)) /\ IsL K (Cn c Z) H cs ws
 | [], cs, h, _ => by cases h; exact ⟨[], rfl, fun k j e => by simp at e, rfl⟩
 | j0 :: fr, cs, h, ho => by
  unfold qki at h
  split at h
  ·rename_i d ds e1 e2
   cases h
   obtain ⟨ws, a1, a2, a3⟩ := qfS r e2 fun j hj => ho j (mM _ hj)
   obtain ⟨v, b1, b2⟩ := r.get (ho j0 mS_) e1
   refine ⟨v :: ws, by rw [lC_, lC_, a1], fun k j e => ?_, v, ws, rfl, b2, a3⟩
   cases k with
   | zero =>
    have : j0 = j := by simpa using e
    subst this
    exact ⟨v, rfl, b1⟩
   | succ k => exact a2 k j (by simpa using e)
  ·cases h
theorem IsL.pick {K : Fr0} {A : Addr -> Prop} {H : Hp} {ds : List D} {xs : List V} (il : IsL K A H ds xs) : ∀ l : List Nat, (∀ i ∈ l, i < ds.length) -> IsL K A H (qei l ds) (l.map fun i => xs.getD i .non)
 | [], _ => rfl
 | i :: l, h => by
  have hi := h i mS_
  obtain ⟨y, hy, iy⟩ := il.get (gG hi)
  refine ⟨xs.getD i .non, _, rfl, ?_, IsL.pick il l fun j hj => h j (mM _ hj)⟩
  have e1 : ds.getD i D.non = ds[i] := by simp [hi]
  have e2 : xs.getD i V.non = y := by simp [List.getD, hy]
  rw [e2]
  show Is K A H (ds.getD i D.non) y
  rw [e1]
  exact iy
section
variable {X : Cx} {c : Fc} {e : Expr} {p pos kpos lpos : Pos} {N' : List Str} {fr : List Nat} {x : Str} {params : Arguments} {body : Expr} {scope : Scope} {k : Nat} {c0 Pt : Addr}
theorem qhp {f g : M D} (he : DE X c e f) (S : CompScope X scope N' 1 fr) (hfo : ∀ j ∈ fr, j ∉ c.O) (hr : uc k X.A) (hg : Gl X "sorted") (hm : X.mg "sorted" = none) (hcode : X.env.code = .ref c0) (hC : PySem.W.codeHdIn X.K c0 Pt = true) (hlm : qaD X.K = some (c0, Pt, lpos))
  (hb : ∀ cl f kc s' H' B, DE (qfP X N' qke scope cl f kc X.A.in1.in1 s' H') (cfn [] [] B H' (fun _ => False) (fun _ _ => False) fun _ => none) body g)
  (hc : X.calm = true := by rfl) (hq : X.env.qual ++ "<lambda>" = qke := by rfl) (hdef : defaultsOf params X.env = ([], []) := by rfl)
  (hbind : ∀ cl pm cd ctv u, bindArgs (PySem.W.kla_fn "<lambda>" qke params body scope cl pm cd ctv) ⟨[u], []⟩ = pure [(x, u)] := by intros; rfl)
  (hx : N'[0]? = some x := by rfl) (hxl : scope.names.lookup x = some .local := by rfl) (hco : scope.isCoroutine = false := by rfl) (hgen : scope.isGenerator = false := by rfl)
  (hst : starEach [e] X.env = (false, eval e X.env) :: starEach [] X.env := by rfl) (hpl : ((backTo pos (starEach [e] X.env)).any (·.1) || (backToKw pos (keywordEach [⟨some "key", .Lambda params body scope lpos, kpos⟩] X.env)).any (·.1.isNone)) = false := by rfl) :
  DE X c (.Call (.Name "sorted" p) [e] [⟨some "key", .Lambda params body scope lpos, kpos⟩] pos) (qdF N'.length fr f g) := by
 obtain ⟨te, pe, we⟩ := he
 refine ⟨_, qfR (qeh S hc hr hbind hx hxl hco hgen) hg hm rfl (jF pe va hst) (qiK (qlB hq hcode hC S.frees hdef) qkO) (he := hst) (hpl := hpl), fun U Z H Q r h => ?_⟩
 refine we U Z H _ r (Wp.bnd h fun d U1 v H1 r1 i1 g1 h1 => ?_)
 refine ⟨(r1.tb _ _ _ hlm).1, fun f kc oc vs t cl pm ctv H2 sm hf hk hd hv cl1 cl2 => ?_⟩
 have r2 := r1.same sm
 cases d <;> try exact h1.elim
 rename_i ds
 by_cases h64 : ds.length < 64
 case neg => simp only [h64, if_false] at h1; exact h1.elim
 simp only [h64, if_true] at h1
 cases hcp : qki U1 fr with
 | none => simp only [hcp] at h1; exact h1.elim
 | some cs =>
  simp only [hcp] at h1
  cases hks : qas g N'.length cs ds with
  | none => simp only [hks] at h1; exact h1.elim
  | some ks =>
   simp only [hks] at h1
   obtain ⟨ws, w1, w2, w3⟩ := qfS r2 hcp hfo
   have hl := qcc hks
   have i2 : Is X.K (Cn c Z) H2 (.lst ds) v := Is.ext (Ext.of_same sm) (fun _ h _ => h) i1
   obtain ⟨a, ys, rfl, hA, ta, il⟩ := i2
   have hyl := il.length
   refine ⟨a, f, kc, ys, oc, vs, t, cl, pm, ctv, ks, ws, rfl, rfl, .inl (.inl ta), by omega, by omega, hf, hk, hd, hv, cl1, cl2, w1, w2, fun i y k' hy hki H' s' sm' => ?_, fun H' p' sm' hp => ?_⟩
   ·obtain ⟨tb, pb, wb⟩ := hb cl f kc s' H' (Cn c Z)
    have hi : i < ds.length := by rw [<- hyl]; exact (gI_.mp hy).1
    obtain ⟨y', e1, e2⟩ := il.get (gG hi)
    rw [hy] at e1; cases e1
    obtain ⟨U', eg⟩ := qcd hks (gG hi) hki
    have il' : IsL X.K (Cn c Z) H' (ds[i] :: cs) (y :: ws) := ⟨y, ws, rfl, Is.ext (Ext.of_same sm') (fun _ h _ => h) e2, IsL.ext (Ext.of_same sm') (fun _ h _ => h) w3⟩
    refine ⟨tb, pb, wb (jC N'.length (ds[i] :: cs)) (zD N' (y :: ws)) H' _ (uI il' (r2.same sm').tb fun i hi => by cases hi) ?_⟩
    rw [eg]
    exact fun v' H3 r3 i3 g3 => ⟨i3, fun b o q => g3.ext.at_ b o (fun j hj => by cases hj) q⟩
   ·have r3 := r2.same sm'
    have hpl : ∀ i ∈ Srt.ord ks, i < ds.length := fun i hi => by
     have := (Srt.ord_perm ks).mem_iff.mp hi
     rw [<- hl]; exact mR_.mp this
    have ip := IsL.pick (IsL.ext (Ext.of_same sm') (fun _ h _ => h) il) (Srt.ord ks) hpl
    have smA : jk H1 (upd H' p' (.lst ((Srt.ord ks).map fun i => ys.getD i .non))) := fun b o q => qD hp _ b o (sm' b o (sm b o q))
    exact h1 _ _ (r3.laid hp _) ⟨p', _, rfl, r3.new hp, qt, IsL.ext (Ext.of_same (qD hp _)) (fun _ h _ => h) ip⟩ (.of_same smA)
theorem qhq {n : Nat} {fr : List Nat} {f g : M D} {U U1 : Env} {ds cs : List D} {ks : List Int} (h : f U = .ok (.lst ds, U1)) (h64 : ds.length < 64) (hc : qki U1 fr = some cs) (hk : qas g n cs ds = some ks) : qdF n fr f g U = .ok (.lst (qei (Srt.ord ks) ds), U1) := by
 unfold qdF bnd
 simp only [h, h64, if_true, hc, hk]
end
end L2.Sk
namespace L2
open PySem PySem.Spec PyProof.Rows
theorem walk_lam {l : PySem.W.OpenLaw} {n k : Nat} {q : Program} {loose : List Str} {XP : (Str -> Option Value) -> Heap -> Prop} {YP : World -> Heap -> Prop} {d : DefRec} {K : Params -> PySem.W.Frag} {CX : World -> CXT} {sp : World -> Sp} {x : Str}
  (hn : l.most = some n) (hn2 : n <= sizeLine) (hdf : d.params.defaults = []) (hr : uc k callerA)
  (hY : ∀ (w : World) (h : Heap), YP w h -> (K w.params).In h) {lm : World -> Option (Addr × Addr × Pos × Str)}
  (hlm : ∀ (w : World) (mean : ExcName -> Option Value) (mg mb : Str -> Option Value) (h : Heap) (c Pt : Addr) (pos : Pos) (z : Str), Top q (PySem.W.looseW q loose) mean mg mb h -> (K w.params).In h -> lm w = some (c, Pt, pos, z) ->
   PySem.W.CodeHd h c Pt /\ h.get? Pt = some (PySem.W.tabObj #[]) /\ (K w.params).lookup Pt = none)
  (F : ∀ (w : World) (mg : Str -> Option Value) (fa : Addr) (h : Heap), (K w.params).In h -> h.Ns mainGlobals mg -> mg d.name = some (.ref fa) ->
   ∃ fd : FuncData, (∀ (s : Shared) (u : Value), BindsTo s fd ⟨[u], []⟩ [(x, u)]) /\
    ∀ base : Heap, (K w.params).In base -> base.Ns mainGlobals mg -> u8 l.prog w (K w.params) mg base (CX w) k fa fd [x] (sp w))
  (hsp : ∀ (w : World) (H : Hp) (a : Addr) (ns : List Int), ns.length <= n -> ql6 H -> (∀ c Pt pos z, lm w = some (c, Pt, pos, z) -> H Pt = some (.lam pos z)) -> SqL (K w.params) H a (ns.map V.int) -> sp w [.ref a] H (fun v _ => v = .bl true) fun _ _ _ => False)
  (hCX : ∀ (w : World) (H : Hp) (s : Shared) (e : Value) (s' : Shared), CX w [] H s (fun _ _ _ => False) e s' -> False) :
  PySem.W.WalkO q loose XP YP l.row.toRowW d [] (fun f vs => PySem.call f vs) := by
 refine Att.attach_call hn hdf fun w s₀ sQ mg mb fa o pm cd doc a vs ns G Y ho hd hcd hmg hobj hints hlen hg => ?_
 have KX := hY w _ Y
 obtain ⟨fd, hb, hF⟩ := F w mg fa _ KX G.T.g hmg
 exact qgF (lm := lm w) KX G.T.g G.T.b G.T.builtins G.T.nolimit G.T.bmain (fun c Pt pos z => hlm w _ mg mb _ c Pt pos z G.T KX) hg hobj hints (Nat.le_trans hlen hn2) hr hF hb (fun H hO hT hS => hsp w H a ns hlen hO hT hS) fun H e s' => hCX w H sQ e s'
end L2
namespace L2.Sk
open PySem PySem.Spec PyProof.Rows
theorem qjw {K : Fr0} {c Pt : Addr} {pos : Pos} (hl : qaD K = some (c, Pt, pos)) : PySem.W.tabIn K "dearest_first" = some (c, Pt) := by
 unfold qaD at hl
 split at hl
 ·rename_i c' P' f e1 e2
  split at hl
  ·cases h3 : qhO (FuncData.body _) with
   | none => rw [h3] at hl; cases hl
   | some p3 => rw [h3] at hl; cases hl; exact e1
  ·cases hl
 ·cases hl
theorem lam_table {q : Program} {loose : List Str} {mean : ExcName -> Option Value} {mg mb : Str -> Option Value} {h : Heap} {K : Fr0} {c Pt : Addr} {pos : Pos} {d : DefRec} (T : Top q loose mean mg mb h) (X : K.In h) (hl : qaD K = some (c, Pt, pos))
  (hd : (recsOf q).find? (fun e => e.name == ("dearest_first" : Str)) = some d) (hK : PySem.W.noTabs K = true) : PySem.W.CodeHd h c Pt /\ h.get? Pt = some (PySem.W.tabObj #[]) /\ K.lookup Pt = none := by
 have ht := qjw hl
 obtain ⟨h1, h2⟩ := PySem.W.tab_of T X hd ht
 refine ⟨h1, h2, ?_⟩
 cases e : K.lookup Pt with
 | none => rfl
 | some o =>
  have e2 := X _ _ e
  rw [h2] at e2
  cases e2
  have h3 := List.all_eq_true.mp hK (Pt, PySem.W.tabObj #[]) (PySem.W.mem_of_lookupK e)
  exact absurd (show false = true from h3) Bool.false_ne_true
section
variable {P : Program} {w : World} {K : PySem.W.Frag} {mg : Str -> Option Value} {base : Heap}
theorem qhr {x qual : Str} {st : Stmt} {f : Addr} {fd : FuncData} {N ps : List Str} {k : Nat} {O : List Nat} {body : MS} (F : Fun K x qual st f fd) (S : qw N ps (qf st)) (hO : ∀ i ∈ O, ps.length <= i)
  (hb : ∀ (A : Around) (outer : List PySem.Env) (s : Shared) (H : Hp) (E : XK) (B : Addr -> Prop), uc k (A.deeper (envOfC qual (qf st) s.heap.objs.size f fd.code)) ->
   DSs (qeP CX0 P w K mg base N qual (qf st) f fd.code A outer s H E).nox (cfn O [] B H (fun _ => False) (fun _ _ => False) fun _ => none) (qv st) body) :
  u8 P w K mg base CX0 (k + 1) f fd ps (spD K (dfn N.length ps.length body)) := by
 obtain ⟨oc, od, kV, doc, pm, an, cdv, ct, osl, rfl, lk, hcd⟩ := F.ex
 refine qiL lk hcd S (fun vs H Q E h => ?_) fun A outer s H vs Q E hr h => ?_
 ·obtain ⟨ds, B, il, _, h⟩ := h
  unfold dfn at h
  by_cases e : ds.length = ps.length
  ·rw [il.length]; exact e
  ·rw [if_neg e] at h; exact h.elim
 ·obtain ⟨ds, B, il, tb, h⟩ := h
  obtain ⟨t, p, wt⟩ := hb A outer s H E B hr
  refine ⟨t, p.nox, ?_⟩
  unfold dfn at h
  by_cases e : ds.length = ps.length
  ·rw [if_pos e] at h
   refine wt (jC N.length ds) (zD N vs) H _ (uI il tb (fun i hi => by rw [e]; exact hO i hi)) ?_
   have same : ∀ {U : Env} {Z : St} {H' : Hp}, Rep K (cfn O [] B H (fun _ => False) (fun _ _ => False) fun _ => none) U Z H' -> jk H H' := fun r b o hb => r.kp b o hb fun z => z
   cases eb : body (jC N.length ds) with
   | bad => rw [eb] at h; exact h.elim
   | exc z U => rw [eb] at h; exact h.elim
   | ok fl =>
    rw [eb] at h
    cases fl with
    | nx U => exact fun Z' H' r' _ => h .non H' (same r') rfl
    | rt d U => exact fun v Z' H' r' i' _ => h v H' (same r') i'
    | bk U => exact h.elim
    | ct U => exact h.elim
  ·rw [if_neg e] at h; exact h.elim
end
def qjx : V -> List V -> Hp -> VK -> Prop := fun x vs H Q => ∃ (l : Addr) (ns : List Int) (b : Int) (j : Nat), x = .ref l /\ vs = [.int b] /\ H l = some (.lst (ns.map V.int)) /\ ns.findIdx? (· == b) = some j /\ Q .non (upd H l (.lst ((ns.eraseIdx j).map V.int)))
theorem qej {xs : List V} {us : List Value} (r : zb xs us) (j : Nat) : zb (xs.eraseIdx j) (us.eraseIdx j) := r.eraseIdx j
theorem qfT (ns : List Int) : ∀ j, (ns.map V.int).eraseIdx j = (ns.eraseIdx j).map V.int := by
 induction ns with
 | nil => intro j; rfl
 | cons n ns ih =>
  intro j
  cases j with
  | zero => rfl
  | succ j => rw [mC_, List.eraseIdx_cons_succ, List.eraseIdx_cons_succ, mC_, ih]
theorem qfU {X : Cx} : MtM X "list.remove" qjx := by
 intro pins s Z H x vs v us Q I rx rv h
 obtain ⟨l, ns, b, j, rfl, rfl, hH, hj, q⟩ := h
 cases rx
 obtain ⟨u, rfl, ru⟩ := zb.one rv
 obtain ⟨t, rfl⟩ := ru
 obtain ⟨z, its, n, r, hl, e⟩ := I.lstM hH
 rw [List.findIdx?_eq_some_iff_getElem] at hj
 obtain ⟨h1, h2, h3⟩ := hj
 have hlen : its.length = ns.length := by rw [<- r.length]; simp
 have hz : ns.length <= sizeLine := by simpa using z
 have at_ : ∀ m (hm : m < ns.length), ∃ t', its[m]'(by omega) = .int ns[m] t' := fun m hm => by
  obtain ⟨k, t', hk, e'⟩ := qfF (b := b) (i := m) (u := its[m]'(by omega)) r (gG _)
  rw [gG hm] at hk
  cases hk
  exact ⟨t', e'⟩
 refine call_meets PySem.F.slot_list_remove ⟨_, e, rfl⟩ PySem.F.entry_list_remove (PySem.F.args_list_remove_2 _ _) (MeetsSeq.list_remove l its.toArray n (.int b t) (isI b) (fun y hy => ?_) j (by simpa [hlen] using h1) ?_ ?_ (by rw [sT_, hlen]; exact hz)) ⟨e, ?_⟩
 ·have hy' : y ∈ its := by simpa using hy
  obtain ⟨i, hi⟩ := List.mem_iff_getElem?.mp hy'
  obtain ⟨m, t', _, rfl⟩ := qfF (b := b) r hi
  exact MeetsSeq.EqGives.int m b t' t
 ·obtain ⟨t', e'⟩ := at_ j h1
  simp only [List.getElem_toArray, e', isI]
  exact h2
 ·intro m hm hmj
  have hm' : m < ns.length := by omega
  obtain ⟨t', e'⟩ := at_ m hm'
  simp only [List.getElem_toArray, e', isI]
  have := h3 m hmj
  simpa using this
 ·have r2 := qej r j
  rw [qfT] at r2
  refine ⟨.non, _, I.lset (its' := its.eraseIdx j) (ys := (ns.eraseIdx j).map V.int) hH e ?_ r2 ?_, rfl, q⟩
  ·show its.toArray.eraseIdxIfInBounds j = (its.eraseIdx j).toArray
   rw [List.eraseIdxIfInBounds_toArray]
  ·have := List.length_eraseIdx_le ns j
   simp only [lM_] at z |-
   omega
section
variable {X : Cx} {c : Fc} {a b e : Expr} {pos : Pos}
def uK (i : Nat) (f : M D) : M D := fun U => match zJ i U with
 | none => .bad
 | some _ => (bnd f fun d U => match d, (zJ i U).bind vo with
  | .int b, some ns => match ns.findIdx? (· == b) with
   | some j => .ok (.non, U.set i (some (.lst ((ns.eraseIdx j).map D.int))))
   | none => .bad
  | _, _ => .bad) U
theorem qfV {i : Nat} {x : Str} {p1 apos : Pos} {f : M D} (he : DE X c e f) (ho : i ∈ c.O := by exact of_decide_eq_true rfl) (hN : X.N[i]? = some x := by rfl) (hv : Vis X.env.scope x := by first | exact Or.inl rfl | exact Or.inr (Or.inl rfl) | exact Or.inr (Or.inr rfl)) (hd : (x == ("__debug__" : Str)) = false := by decide) (hcd : (x == ("__classdict__" : Str)) = false := by decide)
  (hbase : attributeBase (.Name x p1) "remove" X.env (eval (.Name x p1) X.env) = eval (.Name x p1) X.env := by rfl)
  (hfew : ((backTo pos (starEach [e] X.env)).all (fun x => !x.1) && (backToKw pos (keywordEach [] X.env)).all (fun x => x.1.isSome)
   && decide ([e].length + ([] : List Keyword).length + (if ([] : List Keyword).isEmpty then 0 else 1) < 30)) = true := by rfl)
  (hline : (apos.endLine == pos.line) = true := by rfl) (hs : starEach [e] X.env = (false, eval e X.env) :: starEach [] X.env := by rfl) (hplain : (backTo pos (starEach [] X.env)).any (·.1) = false := by rfl) :
  DE X c (.Call (.Attribute (.Name x p1) "remove" apos) [e] [] pos) (uK i f) := by
 obtain ⟨t, p, w⟩ := he
 refine ⟨_, qiN PySem.F.plainAttrs_list PySem.F.slot_list_remove PySem.F.type_list_remove qfU (uy hN hv hd hcd) (jF p va hs) hbase hfew hline hs hplain, fun U Z H Q r h => ?_⟩
 unfold uK at h
 cases e0 : zJ i U with
 | none => rw [e0] at h; exact h.elim
 | some ds0 =>
  simp only [e0] at h
  obtain ⟨l, xs0, _, hl, hH, _⟩ := r.getLO ho e0
  refine ⟨.ref l, hl, .inl ⟨rfl, xs0, .inl (.inl hH)⟩, w U Z H _ r (Wp.bnd h fun d U1 v H1 r1 i1 g1 h1 => ?_)⟩
  cases d <;> try exact h1.elim
  rename_i b
  cases e1 : zJ i U1 with
  | none => simp only [e1, Option.bind_none] at h1; exact h1.elim
  | some ds =>
   simp only [e1, Option.bind_some] at h1
   cases e2 : vo ds with
   | none => simp only [e2] at h1; exact h1.elim
   | some ns =>
    simp only [e2] at h1
    cases e3 : ns.findIdx? (· == b) with
    | none => simp only [e3] at h1; exact h1.elim
    | some j =>
     simp only [e3] at h1
     obtain ⟨l', xs, him, hl', hH', il⟩ := r1.getLO ho e1
     rw [hl] at hl'
     cases hl'
     have hx := qaO il e2
     rw [hx] at hH'
     have hvv : v = V.int b := i1
     obtain ⟨r2, g2⟩ := r1.io (H' := upd H1 l (.lst ((ns.eraseIdx j).map V.int))) (bs := (ns.eraseIdx j).map D.int) ho hl (fun b o hb ho => jI hb ho) qt trivial (wW _) (fun b hb => qcH hb)
     exact ⟨l, ns, b, j, rfl, by rw [hvv], hH', e3, h1 _ _ r2 rfl g2⟩
theorem qfW {i : Nat} {f : M D} {U : Env} {ns : List Int} {b : Int} {j : Nat} (h : zJ i U = some (ns.map D.int)) (hf : f U = .ok (.int b, U)) (hi : vo (ns.map D.int) = some ns) (hj : ns.findIdx? (· == b) = some j) : uK i f U = .ok (.non, U.set i (some (.lst ((ns.eraseIdx j).map D.int)))) := by
 unfold uK bnd
 simp only [h, hf, Option.bind_some, hi, hj]
end
end L2.Sk
namespace L2.Sk
namespace Law
open PySem PySem.Spec PyProof.Rows
set_option maxHeartbeats 4000000
theorem qih (ds : List D) (r : Env) : zJ 0 (some (.lst ds) :: r) = some ds := rfl
theorem qii (i : Nat) (o : Option D) (r : Env) : zJ (i + 1) (o :: r) = zJ i r := rfl
theorem ix0 (a b c : D) : ixD (.tup [a, b, c]) (.int 0) = some a := rfl
theorem ix1 (a b c : D) : ixD (.tup [a, b, c]) (.int 1) = some b := rfl
theorem ix2 (a b c : D) : ixD (.tup [a, b, c]) (.int 2) = some c := rfl
theorem wd (i j : Int) : neB (.int i) (.int j) = some (.bl (!decide (i = j))) := rfl
theorem wj (i j : Int) : eqB (.int i) (.int j) = some (.bl (decide (i = j))) := rfl
theorem vv (ds : List D) : qcF (tyD (.tup ds)) "tuple" = true := rfl
theorem uj (ds : List D) : qaM [.tup ds] = some (.int ds.length) := rfl
theorem qce (d : D) : isN d .non = some (.bl (y0 d)) := rfl
theorem qfX (d : D) : qe3 d .non = some (.bl (!y0 d)) := rfl
theorem vw (i j : Int) : gtD (.int i) (.int j) = some (.bl (decide (j < i))) := rfl
theorem qfY (i j : Int) : ltD (.int i) (.int j) = some (.bl (decide (i < j))) := rfl
theorem qcR (i j : Int) : leD (.int i) (.int j) = some (.bl (decide (i <= j))) := rfl
local macro_rules | `(tactic| push_cast [$xs,*]) => `(tactic| simp only [jC, qb1, qli, jJ, qdk, qdl, qh3, qmI, qmJ, qan, uh, qh4, qjb, vd, qfn, qdm, qaG, qdn, qlj, qh5, qg1, qg2, qao, wK, qbb, qbc, qh7, qfo, qfp, ve, qfq, qfr, qh8, qb2, qft, qfu, qcL, qfv, qcM, qfw, qb3, qlk, qfx, lC_, lN_, mC_, List.map_nil, List.replicate, List.nil_append, List.cons_append, List.append_nil, List.getElem?_cons_zero, List.getElem?_cons_succ, List.set_cons_zero, List.set_cons_succ, Nat.reduceAdd, Nat.reduceSub, Nat.sub_self, Nat.zero_add, reduceIte, Bool.not_true, Bool.not_false, Bool.false_eq_true, if_true, if_false, ite_true, ite_false, cond_true, cond_false, decide_true, decide_false, ix0, ix1, ix2, vv, uj, wd, wj, qce, qfX, vw, qfY, qcR, qih, qii, vP, qdy, qdz, qif, qfL, qcN, $xs,*])
theorem uY {n p : Nat} {body : MS} {ds : List D} {d : D} (h : ds.length = p) (e : ∃ U, body (jC n ds) = .ok (.rt d U)) : dfn n p body ds = .ok d := by
 obtain ⟨U, e⟩ := e
 exact qjc h e
def qbi : D -> Bool
 | .int _ => true
 | _ => false
def zu : D -> Bool
 | .int i => decide (0 <= i)
 | _ => false
def qfZ : D -> Bool
 | .int i => decide (0 < i)
 | _ => false
def vf : D -> Bool
 | .tup [a, b, c] => qfZ a && zu b && (y0 c || zu c)
 | _ => false
theorem qob {ds : List D} (h : ds.length = 3) : ∃ a b c, ds = [a, b, c] := by
 match ds, h with
 | [a, b, c], _ => exact ⟨a, b, c, rfl⟩
theorem qek {ds : List D} (h : ds.length ≠ 3) : vf (.tup ds) = false := by
 match ds, h with
 | [], _ => rfl
 | [_], _ => rfl
 | [_, _], _ => rfl
 | [a, b, c], h => exact absurd rfl h
 | _ :: _ :: _ :: _ :: _, _ => rfl
theorem qk {p q : MS} {U U' : Env} (h : p U = .ok (.nx U')) : qN p q U = q U' := by rw [qh6, h]
theorem jT {p q : MS} {U U' : Env} {d : D} (h : p U = .ok (.rt d U')) : qN p q U = .ok (.rt d U') := by rw [qh6, h]
theorem qlE {e : M D} {f : D -> D} : ∀ (ds acc : List D) (o : Option D), (∀ d ∈ ds, e [some d] = .ok (f d, [some d])) -> acc.length + ds.length <= 1000 -> ∃ U', zI (qE 0) (ret true) e ds acc [o] = .ok (acc ++ ds.map f, U')
 | [], acc, o, _, _ => ⟨[o], by simp [zI]⟩
 | d :: ds, acc, o, h, hl => by
  have hl' : acc.length + (ds.length + 1) <= 1000 := hl
  obtain ⟨U', q⟩ := qlE ds (acc ++ [f d]) (some d) (fun x hx => h x (mM _ hx)) (by rw [lA_, List.length_singleton]; omega)
  refine ⟨U', ?_⟩
  unfold zI
  simp only [qE, List.set_cons_zero, ret, h d mS_, jr (show acc.length + 1 <= 1000000 by omega), if_true, q]
  simp
theorem qcf (f : D -> Bool) : ∀ ds : List D, uz (ds.map fun d => D.bl (f d)) = some (ds.map f)
 | [] => rfl
 | d :: ds => by simp [uz, qcf f ds]
theorem all_map {ds : List D} {f : D -> Bool} : qkg [.lst (ds.map fun d => D.bl (f d))] = some (.bl (ds.all f)) := by
 simp only [qkg, qcf, Option.map_some]
 congr 2
 rw [List.all_map]
 rfl
theorem qjy {F : List D -> R D} {f : D -> Bool} {xs : M (List D)} {ds : List D} {U : Env} (hx : xs U = .ok (ds, U)) (hF : ∀ d ∈ ds, F [d] = .ok (.bl (f d))) (hl : ds.length <= 1000) :
  zV qkg (qc (qbV 1 [] none xs (qE 0) (ret true) (qo F (qc (dv 0) (ret [])))) (ret [])) U = .ok (.bl (ds.all f), U) := by
 obtain ⟨U', q⟩ := qlE (e := qo F (qc (dv 0) (ret []))) (f := fun d => D.bl (f d)) ds [] none (fun x hm => by push_cast []; rw [hF x hm]) (by simpa using hl)
 have q' : zI (qE 0) (ret true) (qo F (qc (dv 0) (ret []))) ds [] (jS 1 [] U) = .ok ([] ++ ds.map fun d => D.bl (f d), U') := q
 simp only [qan, jJ, qfs, hx, q', qb1, List.nil_append, all_map]
 rfl
def yG : D -> Bool
 | .tup ds => decide (ds.length <= 12) && ds.all vf
 | _ => false
def leI : D -> D -> Bool
 | .int i, .int j => decide (i <= j)
 | _, _ => false
def qmT (k x : D) : Bool := match k with
 | .tup [_, _, m] => zu x && (y0 m || leI x m)
 | _ => false
def qdG : List D -> List D -> Bool
 | k :: ks, x :: xs => qmT k x && qdG ks xs
 | _, _ => true
def qnw : D -> D -> Bool
 | .tup xs, .tup ks => decide (xs.length = ks.length) && qdG ks xs
 | _, _ => false
theorem qij {ds : List D} {i : Nat} {d : D} (h : ds[i]? = some d) : ixD (.tup ds) (.int (i : Nat)) = some d := by
 have hi : i < ds.length := (gI_.mp h).1
 show atI ds (i : Int) = some d
 unfold atI ixN
 rw [if_pos (by omega), if_pos (by omega)]
 simpa using h
theorem vU {l : M (List D)} {U U1 : Env} {j : Int} (e : l U = .ok ([.int j], U1)) (h0 : 0 <= j) (h : j <= 1000000) : wR l U = .ok (qa7 0 j.toNat, U1) := by
 have h1 : (-(2 ^ 62) <= j) := by omega
 have h2 : (j < 2 ^ 62) := by omega
 have e2 : qhV [.int j] = some (qa7 0 j.toNat) := by
  simp only [qhV, h1, h2, decide_true, Bool.and_self, if_true]
 have e3 : wR l U = lift (qhV [.int j]) U1 := by
  show bnd l (fun ds => lift (qhV ds)) U = _
  rw [qlh, e]
 rw [e3, e2]
 rfl
theorem qf0 {n m : Int} (h0 : 0 < m) (h1 : m < 1606938044258990275541962092341162602522202993782792835301376) : qaj [.int n, .int m] = some (.tup [.int (n / m), .int (n % m)]) := by
 simp only [qaj, qd1, h0, h1, decide_true, Bool.and_self, if_true]
theorem at0 (d : D) (r : List D) : atI (d :: r) 0 = some d := by
 unfold atI ixN
 rw [if_pos (by omega), if_pos (by simp)]
 rfl
theorem qoc : ixN 1 0 = some 0 := by decide
theorem yN (i j : Int) : uT (.int i) (.int j) = some (.int (i + j)) := rfl
theorem vV (i j : Int) : qa5 (.int i) (.int j) = some (.int (i - j)) := rfl
theorem qcg {ds : List D} {k : Int} (h0 : 0 <= k) (h1 : k < ds.length) : ∃ d ∈ ds, ixD (.lst ds) (.int k) = some d := by
 obtain ⟨i, rfl⟩ := Int.eq_ofNat_of_zero_le h0
 have hi : i < ds.length := by omega
 refine ⟨ds[i], List.getElem_mem hi, ?_⟩
 show atI ds (i : Int) = _
 unfold atI ixN
 rw [if_pos (by omega), if_pos (by omega)]
 show ds[(i : Int).toNat]? = _
 rw [Int.toNat_natCast, gG hi]
theorem qod (i : Int) : zB (.int 2) (.int i) = some (.int (2 * i)) := by
 have h : qcC 2 i = true := by
  unfold qcC
  have : ye 2 = true := by decide
  rw [this]; rfl
 simp only [zB, h, if_true]
def qjz (c m : D) : Prop := m = c \/ ∃ j, m = .int j /\ 0 <= j /\ j <= 5
def zX (k : D) : Prop := ∃ a b m, k = .tup [.int a, .int b, m] /\ 1 <= a /\ a <= 25 /\ 0 <= b /\ b <= 39 /\ qjz .non m
theorem zX.imm {k : D} (h : zX k) : imm k = true := by
 obtain ⟨a, b, m, rfl, _, _, _, _, hm⟩ := h
 rcases hm with rfl | ⟨j, rfl, _⟩ <;> rfl
theorem zX.lay {k : D} (h : zX k) : (jD k).canLay0 = true /\ (jD k).depth = 1 := by
 obtain ⟨a, b, m, rfl, _, _, _, _, hm⟩ := h
 rcases hm with rfl | ⟨j, rfl, _⟩ <;> exact ⟨rfl, rfl⟩
theorem qik : ∀ ks : List D, (∀ k ∈ ks, zX k) -> PyData.canLayAll0 (toPDs ks) = true /\ PyData.depthAll (toPDs ks) <= 1
 | [], _ => ⟨rfl, Nat.zero_le _⟩
 | k :: ks, h => by
  obtain ⟨h1, h2⟩ := qik ks fun x hx => h x (mM _ hx)
  obtain ⟨g1, g2⟩ := (h k mS_).lay
  unfold toPDs
  simp only [PyData.canLayAll0, PyData.depthAll, h1, g1, g2, Bool.and_self, true_and]
  omega
theorem qcS {ks : List D} (h : ∀ k ∈ ks, zX k) : ∃ b, neA (.lst ks) (.lst []) = some (.bl b) /\ (b = true -> ks ≠ []) := by
 obtain ⟨h1, h2⟩ := qik ks h
 have e1 : qaB (.lst ks) = true := by
  have e : qaB (.lst ks) = (PyData.canLayAll0 (toPDs ks) && decide (PyData.depthAll (toPDs ks) + 1 <= 50)) := by
   simp only [qaB, jD, PyData.canLay0, PyData.depth]
  rw [e, h1, Bool.true_and, decide_eq_true_eq]
  omega
 have e2 : qaB (.lst []) = true := rfl
 refine ⟨!PyData.eqv (jD (.lst ks)) (jD (.lst [])), by simp only [neA, e1, e2, Bool.and_self, if_true], fun hb hn => ?_⟩
 subst hn
 exact absurd hb (by decide)
theorem qlF {ds : List D} {k : Int} (h0 : 0 <= k) (h1 : k < ds.length) : ∃ d ∈ ds, atI ds k = some d := by
 obtain ⟨d, hd, e⟩ := qcg h0 h1
 exact ⟨d, hd, e⟩
theorem qhs (j : Nat) : (qa7 0 j).length = j := by simp [qa7]
theorem uk {i j : Int} (h : 0 < j) : qcD (.int i) (.int j) = some (.int (i % j)) := by
 simp only [qcD, qgH, h, decide_true, if_true]
theorem vW {i j : Int} (h : 0 < j) (h1 : j < 1606938044258990275541962092341162602522202993782792835301376) : vm (.int i) (.int j) = some (.int (i / j)) := by
 simp only [vm, qgH, qd1, h, h1, decide_true, Bool.and_self, if_true]
theorem qf1 {i j : Int} (h : ye i = true) : zB (.int i) (.int j) = some (.int (i * j)) := by
 simp only [zB, qcC, h, Bool.true_or, if_true]
theorem qht {i j : Int} (h : ye j = true) : zB (.int i) (.int j) = some (.int (i * j)) := by
 simp only [zB, qcC, h, Bool.or_true, if_true]
theorem qjA {i : Int} (h0 : 0 <= i) (h1 : i < 2000000000) : ye i = true := by
 unfold ye
 rw [Bool.and_eq_true, decide_eq_true_eq, decide_eq_true_eq]
 constructor <;> omega
def facts : List Int := [48271, 69621, 16807, 39373, 30269, 40014, 40692, 50021, 61687, 71993, 83869, 95561, 30307]
structure qnx (w e : Nat) (d : D) : Prop where
 lv : (jD d).leavesShort 40 = true
 sh : (jD d).showable = true
 wt : (jD d).weight <= w
 dp : (jD d).depth <= e
def qjB (d : D) : Bool := (jD d).leavesShort 40 && (jD d).showable && decide ((jD d).weight <= 130) && decide ((jD d).depth <= 5)
theorem qjC {d : D} (h : qjB d = true) : qnx 130 5 d := by
 simp only [qjB, Bool.and_eq_true, decide_eq_true_eq] at h
 exact ⟨h.1.1.1, h.1.1.2, h.1.2, h.2⟩
def dl (d : D) : Bool := !(jD d).hasDict || noL d
def plain (d : D) : Bool := !(jD d).hasDict && noL d
def qcT : List D := [.non, .bl true, .bl false, .int (-1), .str "", .str "1", .tup [.int 0], .lst [.int 1], .dic [(.inr "a", 1)], .tup [.int (-1)], .tup [.bl true], .tup [.tup [.int 1, .int 2]], .tup [.non], .int 100000000000000000000000000000]
def qcU : List D := [.tup [.int 1, .int 2, .int 3], .tup [.tup [.int 0, .int 1, .int 1]], .tup [.tup [.int 1, .int (-1), .int 1]], .tup [.tup [.int 1, .int 1, .int (-1)]], .lst [.tup [.int 1, .int 1, .int 1]], .dic [(.inl 0, 1)], .str "1/1*1", .tup [.tup [.int 1, .int 1, .bl true]]]
theorem qf2 : (qcT ++ qcU).all (fun d => qjB d && dl d) = true := by decide +kernel
theorem neg_int (i : Int) : qb0 (.int i) = some (.int (-i)) := rfl
theorem qjD : qi6 (.int 10) (.int 29) = some (.int 100000000000000000000000000000) := by
 have h : qgX 10 29 = true := by decide +kernel
 have e : (10 : Int) ^ (29 : Int).toNat = 100000000000000000000000000000 := by decide +kernel
 simp only [qi6, qgH, h, if_true, e]
theorem qbj {xs ys : List D} (h : xs.length + ys.length <= 1000000) : uT (.lst xs) (.lst ys) = some (.lst (xs ++ ys)) := by
 simp only [uT, jr h, if_true]
def pt (p : Int) : D -> Int
 | .tup [.int a, .int b, _] => if p = 0 then a else b
 | _ => 0
def num : D -> Int
 | .int x => x
 | _ => 0
def qmU (p : Int) : List D -> List D -> List Int
 | k :: ks, x :: xs => (pt p k * num x) :: qmU p ks xs
 | _, _ => []
theorem qdH : ∀ ns : List Int, vo (ns.map D.int) = some ns
 | [] => rfl
 | n :: ns => by simp [vo, qdH ns]
theorem qbk (x : Str) : neB (.str x) (.str x) = some (.bl false) := by
 show some (D.bl (!decide (x = x))) = _
 rw [decide_eq_true rfl]; rfl
theorem qmV {F : List D -> R D} {f g h : M D} {U : Env} {a b c d : D} (hf : f U = .ok (a, U)) (hg : g U = .ok (b, U)) (hh : h U = .ok (c, U)) (e : F [a, b, c] = .ok d) : qo F (qc f (qc g (qc h (ret [])))) U = .ok (d, U) := by
 have e1 : qc h (ret []) U = .ok ([c], U) := by rw [jJ, hh]; rfl
 have e2 : qc g (qc h (ret [])) U = .ok ([b, c], U) := by rw [jJ, hg]; dsimp only; rw [e1]
 have e3 : qc f (qc g (qc h (ret []))) U = .ok ([a, b, c], U) := by rw [jJ, hf]; dsimp only; rw [e2]
 rw [uh, e3]
 dsimp only
 rw [e]
theorem qch {F : List D -> Option D} {f : M D} {U : Env} {a d : D} (hf : f U = .ok (a, U)) (e : F [a] = some d) : zV F (qc f (ret [])) U = .ok (d, U) := by
 have e0 : qc f (ret []) U = .ok ([a], U) := by rw [jJ, hf]; rfl
 rw [qan, e0]
 dsimp only
 rw [e]
theorem qhu (i j : Int) : qaF [.int i, .int j] = some (.int (if j > i then j else i)) := rfl
theorem qmW : qi6 (.int 10) (.int 20) = some (.int 100000000000000000000) := by
 have h : qgX 10 20 = true := by decide +kernel
 have e : (10 : Int) ^ (20 : Int).toNat = 100000000000000000000 := by decide +kernel
 simp only [qi6, qgH, h, if_true, e]
theorem qjE {α : Type} {e : M D} {t : M Bool} {k f : α -> D} {p : α -> Bool} {r : Env} : ∀ (as : List α) (acc : List D) (o : Option D), (∀ a ∈ as, t (some (k a) :: r) = .ok (p a, some (k a) :: r)) -> (∀ a ∈ as, p a = true -> e (some (k a) :: r) = .ok (f a, some (k a) :: r)) -> acc.length + as.length <= 1000000 ->
  ∃ o', zI (qE 0) t e (as.map k) acc (o :: r) = .ok (acc ++ (as.filter p).map f, o' :: r)
 | [], acc, o, _, _, _ => ⟨o, by simp [zI]⟩
 | a :: as, acc, o, ht, he, hl => by
  have hl' : acc.length + (as.length + 1) <= 1000000 := hl
  have h1 := ht a mS_
  rw [mC_]
  unfold zI
  simp only [qE, List.set_cons_zero, h1]
  cases hp : p a with
  | false =>
   obtain ⟨o', q⟩ := qjE as acc (some (k a)) (fun x hx => ht x (mM _ hx)) (fun x hx => he x (mM _ hx)) (by omega)
   refine ⟨o', ?_⟩
   simp only [q, ft_, hp, Bool.false_eq_true, if_false]
  | true =>
   obtain ⟨o', q⟩ := qjE as (acc ++ [f a]) (some (k a)) (fun x hx => ht x (mM _ hx)) (fun x hx => he x (mM _ hx)) (by rw [lA_, List.length_singleton]; omega)
   refine ⟨o', ?_⟩
   simp only [he a mS_ hp, jr (show acc.length + 1 <= 1000000 by omega), if_true, q, ft_, hp, mC_, aA_, List.singleton_append]
theorem qlG {α : Type} {e : M D} {t : M Bool} {k : α -> D} {xs : M (List D)} {U r : Env} {fr : List Nat} (as : List α) (p : α -> Bool) (f : α -> D) (hx : xs U = .ok (as.map k, U)) (hr : jS 1 fr U = none :: r) (hl : as.length <= 1000000)
  (ht : ∀ a ∈ as, t (some (k a) :: r) = .ok (p a, some (k a) :: r)) (he : ∀ a ∈ as, p a = true -> e (some (k a) :: r) = .ok (f a, some (k a) :: r)) (hi : ∀ a ∈ as, imm (f a) = true) : qhg 1 fr none xs (qE 0) t e U = .ok ((as.filter p).map f, U) := by
 obtain ⟨o', q⟩ := qjE as [] none ht he (by simpa using hl)
 have him : immL ((as.filter p).map f) = true := by
  have : ∀ bs : List α, (∀ b ∈ bs, imm (f b) = true) -> immL (bs.map f) = true := fun bs => by
   induction bs with
   | nil => intro _; rfl
   | cons b bs ih => intro h; simp only [mC_, immL, h b mS_, ih fun x hx => h x (mM _ hx), Bool.and_self]
  exact this _ fun b hb => hi b (List.mem_filter.mp hb).1
 unfold qhg
 rw [qlh, hx]
 simp only [hr, q, List.nil_append, him, if_true]
 rfl
theorem qci {α β : Type} {G : D -> Env -> Option Env} {b : MS} {k : α -> D} {step : β -> α -> β} {Inv : Nat -> β -> Env -> Prop} : ∀ (as : List α) (n : Nat) (s : β) (U : Env), Inv n s U ->
  (∀ a ∈ as, ∀ m s U, n <= m -> m < n + as.length -> Inv m s U -> ∃ U1 U2, G (k a) U = some U1 /\ b U1 = .ok (.nx U2) /\ Inv (m + 1) (step s a) U2) ->
  ∃ U', jV G b (as.map k) U = .ok (.nx U') /\ Inv (n + as.length) (as.foldl step s) U'
 | [], n, s, U, h, _ => ⟨U, rfl, h⟩
 | a :: as, n, s, U, h, H => by
  obtain ⟨U1, U2, h1, h2, h3⟩ := H a mS_ n s U (Nat.le_refl _) (by rw [lC_]; omega) h
  obtain ⟨U', q, w⟩ := qci as (n + 1) (step s a) U2 h3 fun x hx m s U m1 m2 => H x (mM _ hx) m s U (by omega) (by rw [lC_]; omega)
  refine ⟨U', ?_, ?_⟩
  ·rw [mC_]
   unfold jV
   simp only [h1, h2]
   exact q
  ·rw [lC_, show n + (as.length + 1) = n + 1 + as.length by omega]
   exact w
theorem qaV {α β : Type} {G : D -> Env -> Option Env} {b : MS} {k : α -> D} {step : β -> α -> β} {Inv : Nat -> β -> Env -> Prop} {i : Nat} {all : List α} (hI : ∀ m s U, Inv m s U -> zJ i U = some (all.map k)) : ∀ (as pre : List α) (s : β) (U : Env), all = pre ++ as -> Inv pre.length s U ->
  (∀ a ∈ as, ∀ m s U, pre.length <= m -> m < pre.length + as.length -> Inv m s U -> ∃ U1 U2, G (k a) U = some U1 /\ b U1 = .ok (.nx U2) /\ Inv (m + 1) (step s a) U2) ->
  ∃ U', vQ i all.length G b as.length U = .ok (.nx U') /\ Inv all.length (as.foldl step s) U'
 | [], pre, s, U, e, h, _ => by
  have hl : all.length = pre.length := by rw [e, List.append_nil]
  refine ⟨U, ?_, by rw [hl]; exact h⟩
  show (match zJ i U with | some ds => if ds.length <= all.length then R.ok (Fl.nx U) else .bad | none => .bad) = _
  rw [hI _ _ _ h]
  simp
 | a :: as, pre, s, U, e, h, H => by
  obtain ⟨U1, U2, h1, h2, h3⟩ := H a mS_ pre.length s U (Nat.le_refl _) (by rw [lC_]; omega) h
  have hp : (pre ++ [a]).length = pre.length + 1 := by simp
  obtain ⟨U', q, w⟩ := qaV hI as (pre ++ [a]) (step s a) U2 (by rw [e]; simp) (by rw [hp]; exact h3) fun x hx m s U m1 m2 => H x (mM _ hx) m s U (by omega) (by rw [lC_]; omega)
  refine ⟨U', ?_, w⟩
  rw [lC_]
  unfold vQ
  have hl : all.length = pre.length + (as.length + 1) := by rw [e, lA_, lC_]
  have hg : (all.map k)[all.length - (as.length + 1)]? = some (k a) := by
   rw [show all.length - (as.length + 1) = pre.length by omega, gM_, e, List.getElem?_append_right (Nat.le_refl _)]
   simp
  simp only [hI _ _ _ h, hg, h1, h2]
  exact q
theorem qf3 {α β : Type} {G : D -> Env -> Option Env} {b : MS} {k : α -> D} {step : β -> α -> β} {Inv : Nat -> β -> Env -> Prop} {i : Nat} (as : List α) (s : β) (U : Env) (hI : ∀ m s U, Inv m s U -> zJ i U = some (as.map k)) (h : Inv 0 s U)
  (H : ∀ a ∈ as, ∀ m s U, m < as.length -> Inv m s U -> ∃ U1 U2, G (k a) U = some U1 /\ b U1 = .ok (.nx U2) /\ Inv (m + 1) (step s a) U2) :
  ∃ U', qcQ i G b U = .ok (.nx U') /\ Inv as.length (as.foldl step s) U' := by
 obtain ⟨U', q, w⟩ := qaV hI as [] s U rfl h fun a ha m s U _ h2 h3 => H a ha m s U (by simpa using h2) h3
 refine ⟨U', ?_, w⟩
 unfold qcQ
 simp only [hI _ _ _ h, lM_]
 exact q
theorem qhv {f : M D} {U : Env} {a : D} (hf : f U = .ok (a, U)) : qc f (ret []) U = .ok ([a], U) := by rw [jJ, hf]; rfl
theorem qf4 {f g : M D} {U : Env} {a b : D} (hf : f U = .ok (a, U)) (hg : g U = .ok (b, U)) : qc f (qc g (ret [])) U = .ok ([a, b], U) := by rw [jJ, hf]; simp only [qhv hg]
theorem qmX {f g : M D} {U : Env} {a b : D} (hf : f U = .ok (a, U)) (hg : g U = .ok (b, U)) : yn (qc f (qc g (ret []))) U = .ok (.tup [a, b], U) := by rw [qdk, qf4 hf hg]; simp only [lC_, lN_, jr (show 0 + 1 + 1 <= 1000000 by omega), if_true]
theorem wM {F : List D -> R D} {f : M D} {U : Env} {a d : D} (hf : f U = .ok (a, U)) (e : F [a] = .ok d) : qo F (qc f (ret [])) U = .ok (d, U) := by rw [uh, qhv hf]; simp only [e]
theorem yo {F : List D -> R D} {f g : M D} {U : Env} {a b d : D} (hf : f U = .ok (a, U)) (hg : g U = .ok (b, U)) (e : F [a, b] = .ok d) : qo F (qc f (qc g (ret []))) U = .ok (d, U) := by rw [uh, qf4 hf hg]; simp only [e]
theorem qi {F : D -> D -> Option D} {f g : M D} {U : Env} {a b d : D} (hf : f U = .ok (a, U)) (hg : g U = .ok (b, U)) (e : F a b = some d) : d2 F f g U = .ok (d, U) := by rw [qmI, hf]; simp only [hg, e]
theorem zx {f : M D} {U : Env} {b : Bool} (hf : f U = .ok (.bl b, U)) : tst f U = .ok (b, U) := by rw [qjb, hf]; rfl
theorem qdI {t : M Bool} {p q : MS} {U : Env} (h : t U = .ok (true, U)) : sif t p q U = p U := by rw [qg2, h]; rfl
theorem qbE {t : M Bool} {p q : MS} {U : Env} (h : t U = .ok (false, U)) : sif t p q U = q U := by rw [qg2, h]; rfl
theorem y8 {G : D -> Env -> Option Env} {b : MS} {d : D} {ds : List D} {U U1 U2 : Env} (h1 : G d U = some U1) (h2 : b U1 = .ok (.nx U2)) : jV G b (d :: ds) U = jV G b ds U2 := by
 show (match G d U with | none => R.bad | some U1 => _) = _
 rw [h1]
 simp only [h2]
def mD : Option Int -> D
 | none => .non
 | some j => .int j
abbrev Kd := Int × Int × Option Int
def kD (x : Kd) : D := .tup [.int x.1, .int x.2.1, mD x.2.2]
def okK (x : Kd) : Prop := 0 < x.1 /\ 0 <= x.2.1 /\ (∀ j, x.2.2 = some j -> 0 <= j)
theorem qf5 {x : Kd} (h : okK x) : vf (kD x) = true := by
 obtain ⟨a, b, m⟩ := x
 obtain ⟨h1, h2, h3⟩ := h
 have e1 : qfZ (.int a) = true := decide_eq_true h1
 have e2 : zu (.int b) = true := decide_eq_true h2
 cases m with
 | none => simp only [kD, mD, vf, e1, e2, y0, Bool.true_and, Bool.true_or]
 | some j =>
  have e3 : zu (.int j) = true := decide_eq_true (h3 j rfl)
  simp only [kD, mD, vf, e1, e2, e3, Bool.true_and, Bool.or_true]
theorem qel {ks : List Kd} (h : ∀ x ∈ ks, okK x) (hl : ks.length <= 12) : yG (.tup (ks.map kD)) = true := by
 have : (ks.map kD).all vf = true := by
  rw [List.all_map]
  exact List.all_eq_true.mpr fun x hx => qf5 (h x hx)
 simp only [yG, lM_, hl, decide_true, this, Bool.true_and]
theorem qlH {α : Type} {ds : List α} {n : Nat} {d : α} (h : ds[n]? = some d) : atI ds (n : Int) = some d := by
 unfold atI ixN
 have hl := (gI_.mp h).1
 rw [if_pos (by omega), if_pos (by omega)]
 show ds[(n : Int).toNat]? = _
 rw [Int.toNat_natCast]; exact h
theorem qhw : ∀ ns ms : List Int, PyData.eqv (.tuple (toPDs (ns.map D.int))) (.tuple (toPDs (ms.map D.int))) = decide (ns = ms) := by
 have h : ∀ ns ms : List Int, PyData.eqvAll (toPDs (ns.map D.int)) (toPDs (ms.map D.int)) = decide (ns = ms) := fun ns => by
  induction ns with
  | nil => intro ms; cases ms <;> rfl
  | cons n ns ih =>
   intro ms
   cases ms with
   | nil => rfl
   | cons m ms =>
    simp only [mC_, toPDs, jD, PyData.eqvAll, PyData.eqv, ih ms, List.cons.injEq, Bool.decide_and]
    rfl
 intro ns ms
 simp only [PyData.eqv, h]
theorem qf6 {α : Type} {e : M D} {t : M Bool} {u v f : α -> D} {p : α -> Bool} {r : Env} : ∀ (as : List α) (acc : List D) (o o' : Option D), (∀ a ∈ as, t (some (u a) :: some (v a) :: r) = .ok (p a, some (u a) :: some (v a) :: r)) -> (∀ a ∈ as, p a = true -> e (some (u a) :: some (v a) :: r) = .ok (f a, some (u a) :: some (v a) :: r)) -> acc.length + as.length <= 1000000 ->
  ∃ o1 o2, zI (qcv 2 (zR (qE 0) (zR (qE 1) qcu))) t e (as.map fun a => .tup [u a, v a]) acc (o :: o' :: r) = .ok (acc ++ (as.filter p).map f, o1 :: o2 :: r)
 | [], acc, o, o', _, _, _ => ⟨o, o', by simp [zI]⟩
 | a :: as, acc, o, o', ht, he, hl => by
  have hl' : acc.length + (as.length + 1) <= 1000000 := hl
  have h1 := ht a mS_
  rw [mC_]
  unfold zI
  have hg : qcv 2 (zR (qE 0) (zR (qE 1) qcu)) (.tup [u a, v a]) (o :: o' :: r) = some (some (u a) :: some (v a) :: r) := rfl
  simp only [hg, h1]
  cases hp : p a with
  | false =>
   obtain ⟨o1, o2, q⟩ := qf6 as acc (some (u a)) (some (v a)) (fun x hx => ht x (mM _ hx)) (fun x hx => he x (mM _ hx)) (by omega)
   refine ⟨o1, o2, ?_⟩
   simp only [q, ft_, hp, Bool.false_eq_true, if_false]
  | true =>
   obtain ⟨o1, o2, q⟩ := qf6 as (acc ++ [f a]) (some (u a)) (some (v a)) (fun x hx => ht x (mM _ hx)) (fun x hx => he x (mM _ hx)) (by rw [lA_, List.length_singleton]; omega)
   refine ⟨o1, o2, ?_⟩
   simp only [he a mS_ hp, jr (show acc.length + 1 <= 1000000 by omega), if_true, q, ft_, hp, mC_, aA_, List.singleton_append]
theorem qjF {α : Type} {e : M D} {t : M Bool} {u v : α -> D} {xs : M (List D)} {U r : Env} {fr : List Nat} (as : List α) (p : α -> Bool) (f : α -> D) (hx : xs U = .ok (as.map fun a => .tup [u a, v a], U)) (hr : jS 2 fr U = none :: none :: r) (hl : as.length <= 1000000)
  (ht : ∀ a ∈ as, t (some (u a) :: some (v a) :: r) = .ok (p a, some (u a) :: some (v a) :: r)) (he : ∀ a ∈ as, p a = true -> e (some (u a) :: some (v a) :: r) = .ok (f a, some (u a) :: some (v a) :: r)) : qbV 2 fr none xs (qcv 2 (zR (qE 0) (zR (qE 1) qcu))) t e U = .ok (.lst ((as.filter p).map f), U) := by
 obtain ⟨o1, o2, q⟩ := qf6 as [] none none ht he (by simpa using hl)
 rw [qfs, hx]
 simp only [hr, q, List.nil_append]
 rfl
def kAt (ks : List Kd) (p : Nat) : Kd := (ks[p]?).getD (1, 0, none)
theorem qjG {ks : List Kd} {p : Nat} (h : p < ks.length) : ks[p]? = some (kAt ks p) := by
 unfold kAt
 rw [gG h]
 rfl
theorem qny (n : Nat) : qa7 0 n = (List.range n).map fun i => D.int (i : Nat) := by
 unfold qa7
 refine mL_ fun i _ => ?_
 rw [Int.zero_add]
theorem qcj {ks : List Kd} : ∀ (l : List Kd) (k : Nat), (∀ i, i < l.length -> l[i]? = ks[k + i]?) -> vq k (l.map kD) = (List.range l.length).map fun i => .tup [.int ((k + i : Nat) : Int), kD (kAt ks (k + i))]
 | [], _, _ => rfl
 | x :: l, k, h => by
  have h0 := h 0 (by simp)
  have e0 : kAt ks (k + 0) = x := by unfold kAt; rw [<- h0]; rfl
  rw [mC_, lC_, List.range_succ_eq_map, mC_, mm_, e0]
  show D.tup [.int (k : Nat), kD x] :: vq (k + 1) (l.map kD) = _
  rw [qcj l (k + 1) fun i hi => by
   have := h (i + 1) (by rw [lC_]; omega)
   rw [show k + 1 + i = k + (i + 1) by omega, <- this]
   rfl]
  congr 1
  refine mL_ fun i _ => ?_
  show D.tup [.int ((k + 1 + i : Nat) : Int), kD (kAt ks (k + 1 + i))] = D.tup [.int ((k + (i + 1) : Nat) : Int), kD (kAt ks (k + (i + 1)))]
  rw [show k + 1 + i = k + (i + 1) by omega]
theorem qlI (ks : List Kd) : vq 0 (ks.map kD) = (List.range ks.length).map fun i => .tup [.int (i : Nat), kD (kAt ks i)] := by
 rw [qcj (ks := ks) ks 0 fun i _ => by rw [Nat.zero_add]]
 refine mL_ fun i _ => ?_
 rw [Nat.zero_add]
theorem qjH (l : List Nat) : neB (.lst (l.map fun i => D.int (i : Nat))) (.lst []) = some (.bl (!l.isEmpty)) := by
 have h : ∀ l : List Nat, PyData.canLayAll0 (toPDs (l.map fun i => D.int (i : Nat))) = true /\ PyData.depthAll (toPDs (l.map fun i => D.int (i : Nat))) = 0 := fun l => by
  induction l with
  | nil => exact ⟨rfl, rfl⟩
  | cons n ns ih => exact ⟨by simp only [mC_, toPDs, jD, PyData.canLayAll0, PyData.canLay0, ih.1, Bool.and_self], by simp only [mC_, toPDs, jD, PyData.depthAll, PyData.depth, ih.2]; rfl⟩
 obtain ⟨h1, h2⟩ := h l
 have o1 : qaB (.lst (l.map fun i => D.int (i : Nat))) = true := by
  simp only [qaB, jD, PyData.canLay0, PyData.depth, h1, h2]
  rfl
 have e : neB (.lst (l.map fun i => D.int (i : Nat))) (.lst []) = neA (.lst (l.map fun i => D.int (i : Nat))) (.lst []) := rfl
 rw [e]
 unfold neA
 rw [o1]
 cases l with
 | nil => rfl
 | cons n l => rfl
def ue (T B : Nat) : Nat := T / Nat.gcd T B
def ul (T B : Nat) : Nat := B / Nat.gcd T B
def frD (t b : Nat) : D := .tup [.int (t : Nat), .int (b : Nat)]
def qf7 (T B : Nat) : D := frD (ue T B) (ul T B)
theorem qbl (T : Nat) {B : Nat} (hB : 0 < B) : ∃ g, 0 < g /\ T = g * ue T B /\ B = g * ul T B /\ 0 < ul T B /\ ul T B <= B /\ ue T B <= T := by
 have hg : 0 < Nat.gcd T B := Nat.gcd_pos_of_pos_right _ hB
 have h1 : T = Nat.gcd T B * ue T B := (Nat.mul_div_cancel' (Nat.gcd_dvd_left T B)).symm
 have h2 : B = Nat.gcd T B * ul T B := (Nat.mul_div_cancel' (Nat.gcd_dvd_right T B)).symm
 refine ⟨Nat.gcd T B, hg, h1, h2, ?_, Nat.div_le_self _ _, Nat.div_le_self _ _⟩
 apply Nat.pos_of_ne_zero
 intro z
 rw [z, Nat.mul_zero] at h2
 omega
theorem qlJ {T B T' B' : Nat} (hB : 0 < B) (hB' : 0 < B') (h : T * B' = T' * B) : ue T B = ue T' B' /\ ul T B = ul T' B' := by
 have hg : 0 < Nat.gcd T B := Nat.gcd_pos_of_pos_right _ hB
 have hg' : 0 < Nat.gcd T' B' := Nat.gcd_pos_of_pos_right _ hB'
 have t1 : T = Nat.gcd T B * ue T B := (Nat.mul_div_cancel' (Nat.gcd_dvd_left T B)).symm
 have b1 : B = Nat.gcd T B * ul T B := (Nat.mul_div_cancel' (Nat.gcd_dvd_right T B)).symm
 have t2 : T' = Nat.gcd T' B' * ue T' B' := (Nat.mul_div_cancel' (Nat.gcd_dvd_left T' B')).symm
 have b2 : B' = Nat.gcd T' B' * ul T' B' := (Nat.mul_div_cancel' (Nat.gcd_dvd_right T' B')).symm
 have key : Nat.gcd T B * B' = Nat.gcd T' B' * B := by
  rw [<- Nat.gcd_mul_right T B' B, <- Nat.gcd_mul_right T' B B', h, Nat.mul_comm B B']
 generalize Nat.gcd T B = g at *
 generalize Nat.gcd T' B' = g' at *
 generalize ue T B = t at *
 generalize ul T B = b at *
 generalize ue T' B' = t' at *
 generalize ul T' B' = b' at *
 subst t1 b1 t2 b2
 have hgg : 0 < g * g' := Nat.mul_pos hg hg'
 have eb : b = b' := by
  refine Nat.eq_of_mul_eq_mul_left hgg ?_
  grind
 subst eb
 have hb : 0 < b := by
  apply Nat.pos_of_ne_zero
  intro z
  subst z
  simp at hB
 refine ⟨?_, rfl⟩
 refine Nat.eq_of_mul_eq_mul_left (Nat.mul_pos hgg hb) ?_
 grind
theorem qjI {T B T' B' : Nat} (hB : 0 < B) (hB' : 0 < B') (h : T * B' = T' * B) : qf7 T B = qf7 T' B' := by
 obtain ⟨e1, e2⟩ := qlJ hB hB' h
 unfold qf7
 rw [e1, e2]
theorem qdJ (a : Nat) {b : Nat} (h : 0 < b) : qcD (.int (a : Nat)) (.int (b : Nat)) = some (.int ((a % b : Nat) : Int)) := by
 rw [uk (by omega)]
 rfl
theorem uL (a : Nat) {b : Nat} (h : 0 < b) (h1 : b < 1606938044258990275541962092341162602522202993782792835301376) : vm (.int (a : Nat)) (.int (b : Nat)) = some (.int ((a / b : Nat) : Int)) := by
 rw [vW (by omega) (by omega)]
 rfl
theorem qjJ {n : Nat} (h : n <= 18000000000000000000) : ye (n : Int) = true := by
 unfold ye
 rw [Bool.and_eq_true, decide_eq_true_eq, decide_eq_true_eq]
 constructor <;> omega
theorem qf8 {a : Nat} (b : Nat) (h : a <= 18000000000000000000) : zB (.int (a : Nat)) (.int (b : Nat)) = some (.int ((a * b : Nat) : Int)) := by
 rw [qf1 (qjJ h)]
 rfl
theorem yp (a : Nat) {b : Nat} (h : b <= 18000000000000000000) : zB (.int (a : Nat)) (.int (b : Nat)) = some (.int ((a * b : Nat) : Int)) := by
 rw [qht (qjJ h)]
 rfl
theorem qnz (a b : Nat) : uT (.int (a : Nat)) (.int (b : Nat)) = some (.int ((a + b : Nat) : Int)) := rfl
theorem qf9 (t b : Nat) : ixD (frD t b) (.int 0) = some (.int (t : Nat)) := rfl
theorem qem (t b : Nat) : ixD (frD t b) (.int 1) = some (.int (b : Nat)) := rfl
theorem qjK {t b : Nat} (ht : t < 10 ^ 59) (hb : b < 10 ^ 59) : qa8 [frD t b] = some (.str (jD (frD t b)).shown) := by
 have one : ∀ n : Nat, n < 10 ^ 59 -> (PyData.int (n : Int)).leavesShort 60 = true /\ (PyData.int (n : Int)).showable = true /\ (PyData.int (n : Int)).weight <= 200 := fun n hn => by
  have hl : ((n : Int)).natAbs.log2 < 199 := by
   by_cases h0 : ((n : Int)).natAbs = 0
   ·rw [h0]; decide
   ·refine (Nat.log2_lt h0).mpr (Nat.lt_of_lt_of_le (by simpa using hn) (by decide +kernel))
  refine ⟨?_, ?_, ?_⟩
  ·show decide ((PyData.shown (.int (n : Int))).length <= 60) = true
   refine decide_eq_true ?_
   have e := int_text_length_le10 (a := (n : Int)) (k := 59) (by decide) (by simpa using hn)
   show (Str.ofString (toString (n : Int))).length <= 60
   rw [PySem.ofString_length]
   exact e
  ·show decide (((n : Int)).natAbs.log2 < 1920) = true
   exact decide_eq_true (by omega)
  ·show (if (((n : Int)) == 0) = true then 0 else ((n : Int)).natAbs.log2 + 1) <= 200
   split <;> omega
 obtain ⟨a1, a2, a3⟩ := one t ht
 obtain ⟨c1, c2, c3⟩ := one b hb
 have e0 : jD (frD t b) = .tuple [.int (t : Nat), .int (b : Nat)] := rfl
 have s1 : (jD (frD t b)).leavesShort 60 = true := by
  rw [e0]
  show ((PyData.int (t : Nat)).leavesShort 60 && ((PyData.int (b : Nat)).leavesShort 60 && true)) = true
  rw [a1, c1]; rfl
 have s2 : (jD (frD t b)).showable = true := by
  rw [e0]
  show ((PyData.int (t : Nat)).showable && ((PyData.int (b : Nat)).showable && true)) = true
  rw [a2, c2]; rfl
 have s3 : (jD (frD t b)).weight <= 402 := by rw [e0]; simp only [PyData.weight, PyData.weightAll] at a3 c3 |-; omega
 have h1 := PyData.shown_le 60 (by omega) _ s1
 have h2 : (60 + 2) * (jD (frD t b)).weight <= 62 * 402 := Nat.mul_le_mul_left _ s3
 have e1 : (jD (frD t b)).shown.length <= sizeLine := by rw [PySem.sizeLine_eq]; omega
 have e2 : (jD (frD t b)).depth <= 50 := by
  rw [e0]
  exact Nat.le_trans (Nat.le_of_eq (show (PyData.tuple [PyData.int (t : Nat), PyData.int (b : Nat)]).depth = 1 from rfl)) (by omega)
 have e3 : (!(jD (frD t b)).hasDict || noL (frD t b)) = true := rfl
 have : qbY (frD t b) = true := by
  simp only [qbY, s2, e1, e2, e3, decide_true, Bool.true_and]
 simp only [qa8, this, if_true]
theorem qjL {t u : M Bool} {U : Env} (h1 : t U = .ok (false, U)) (h2 : u U = .ok (false, U)) : tor t u U = .ok (false, U) := by rw [qaG, h1]; exact h2
theorem qmY {t u : M Bool} {U : Env} (h1 : t U = .ok (true, U)) : tor t u U = .ok (true, U) := by rw [qaG, h1]; rfl
theorem qjM {t u : M Bool} {U : Env} (h1 : t U = .ok (false, U)) : qbD t u U = .ok (false, U) := by rw [qdm, h1]; rfl
theorem qga {t u : M Bool} {U : Env} {b : Bool} (h1 : t U = .ok (true, U)) (h2 : u U = .ok (b, U)) : qbD t u U = .ok (b, U) := by rw [qdm, h1]; exact h2
theorem qgb {F : List D -> R D} {f g h : M D} {U : Env} {a b c d : D} (hf : f U = .ok (a, U)) (hg : g U = .ok (b, U)) (hh : h U = .ok (c, U)) (e : F [a, b, c] = .ok d) : qo F (qc f (qc g (qc h (ret [])))) U = .ok (d, U) := qmV hf hg hh e
theorem qlK {F : List D -> Option D} {f g : M D} {U : Env} {a b d : D} (hf : f U = .ok (a, U)) (hg : g U = .ok (b, U)) (e : F [a, b] = some d) : zV F (qc f (qc g (ret []))) U = .ok (d, U) := by
 rw [qan, qf4 hf hg]
 simp only [e]
theorem yO {i : Nat} {f : M D} {U U1 : Env} {d : D} (h : f U = .ok (d, U1)) : zf i f U = .ok (.nx (U1.set i (some d))) := by rw [wK, h]
theorem yP {f : M D} {U U1 : Env} {d : D} (h : f U = .ok (d, U1)) : jv f U = .ok (.rt d U1) := by rw [qao, h]
theorem qjN {f : M D} {U U1 : Env} {d : D} (h : f U = .ok (d, U1)) : uF f U = .ok (.nx U1) := by rw [qbc, h]
theorem qat {b : MS} {i : Nat} {U : Env} (hi : i < U.length) : ∀ (ds : List D) (o : Option D), (∀ d ∈ ds, b (U.set i (some d)) = .ok (.nx (U.set i (some d)))) -> ∃ o', jV (qE i) b ds (U.set i o) = .ok (.nx (U.set i o'))
 | [], o, _ => ⟨o, rfl⟩
 | d :: ds, o, h => by
  obtain ⟨o', q⟩ := qat hi ds (some d) fun x hx => h x (mM _ hx)
  refine ⟨o', ?_⟩
  unfold jV
  have e : qE i d (U.set i o) = some (U.set i (some d)) := by
   show some ((U.set i o).set i (some d)) = _
   rw [List.set_set]
  rw [e]
  simp only [h d mS_]
  exact q
def big : Nat := 1606938044258990275541962092341162602522202993782792835301376
def Mx : Nat := 18000000000000000000
abbrev Nk := Nat × Nat × Option Nat
def nk (x : Nk) : Kd := ((x.1 : Int), (x.2.1 : Int), x.2.2.map fun m : Nat => (m : Int))
def tK (x : Nk) : D := kD (nk x)
def nAt (ks : List Nk) (p : Nat) : Nk := ks.getD p (0, 0, none)
def jp (ks : List Nk) : Nat := ks.foldl (fun p x => p * x.1) 1
def qcV (ks : List Nk) (p : Nat) : Int := -((nAt ks p).2.1 : Int) * ((jp ks / (nAt ks p).1 : Nat) : Int)
def plN (ks : List Nk) : List Nat := (List.range ks.length).filter fun i => decide (0 < (nAt ks i).2.1)
def vB (ks : List Nk) : List Nat := (Srt.ord ((plN ks).map (qcV ks))).map fun i => (plN ks).getD i 0
def goN (x : Nk) (r : Nat) : Bool := match x.2.2 with
 | some m => decide (m * x.1 <= r)
 | none => false
def mN (x : Nk) : Nat := x.2.2.getD 0
def shN (x : Nk) (r : Nat) : Nat × Nat := if goN x r then (mN x, 1) else (ue r x.1, ul r x.1)
def bhN (x : Nk) (r : Nat) : Nat := if goN x r then r - mN x * x.1 else 0
def shS (ks : List Nk) (s : Nat × List (Nat × Nat)) (p : Nat) : Nat × List (Nat × Nat) := (bhN (nAt ks p) s.1, s.2.set p (shN (nAt ks p) s.1))
def shs (ks : List Nk) (r : Nat) : List (Nat × Nat) := ((vB ks).foldl (shS ks) (r, List.replicate ks.length (0, 1))).2
def swS (s : Nat × Nat) (z : Nk × Nat × Nat) : Nat × Nat := (s.1 * z.2.2 + z.2.1 * z.1.2.1 * s.2, s.2 * z.2.2)
def swN (ks : List Nk) (r : Nat) : Nat × Nat := (ks.zip (shs ks r)).foldl swS (0, 1)
def fr (p : Nat × Nat) : D := frD p.1 p.2
theorem uM {ks : List Nk} {p : Nat} (h : p < ks.length) : ks[p]? = some (nAt ks p) := by
 unfold nAt
 simp [h]
theorem z4 {ks : List Nk} {p : Nat} (h : p < ks.length) : nAt ks p ∈ ks := List.mem_of_getElem? (uM h)
theorem wl {ks : List Nk} {p : Nat} (h : p < ks.length) : ixD (.tup (ks.map tK)) (.int (p : Nat)) = some (tK (nAt ks p)) := qij (by rw [gM_, uM h]; rfl)
theorem tk0 (x : Nk) : ixD (tK x) (.int 0) = some (.int (x.1 : Nat)) := rfl
theorem tk1 (x : Nk) : ixD (tK x) (.int 1) = some (.int (x.2.1 : Nat)) := rfl
theorem tk2 (x : Nk) : ixD (tK x) (.int 2) = some (mD (x.2.2.map fun m : Nat => (m : Int))) := rfl
theorem qil (ks : List Nk) : ks.map tK = (ks.map nk).map kD := by rw [mm_]; rfl
theorem qmZ {x : Nk} (h : 0 < x.1) : okK (nk x) := ⟨by show (0 : Int) < (x.1 : Int); omega, by show (0 : Int) <= (x.2.1 : Int); omega, fun j e => by
 obtain ⟨m, _, hm⟩ := Option.map_eq_some_iff.mp (show x.2.2.map (fun m : Nat => (m : Int)) = some j from e)
 omega⟩
theorem qbm {ks : List Nk} (h : ∀ x ∈ ks, 0 < x.1) (hl : ks.length <= 12) : yG (.tup (ks.map tK)) = true := by
 rw [qil]
 exact qel (fun x hx => by obtain ⟨y, hy, rfl⟩ := mP_.mp hx; exact qmZ (h y hy)) (by rw [lM_]; exact hl)
theorem qjO (ks : List Nk) : vq 0 (ks.map tK) = (List.range ks.length).map fun i => .tup [.int (i : Nat), tK (nAt ks i)] := by
 rw [qil, qlI, lM_]
 refine mL_ fun i hi => ?_
 have hi' := mR_.mp hi
 have e : kAt (ks.map nk) i = nk (nAt ks i) := by
  have h1 := qjG (ks := ks.map nk) (p := i) (by rw [lM_]; exact hi')
  rw [gM_, uM hi'] at h1
  exact (Option.some.inj h1).symm
 rw [e]
 rfl
theorem vX (ks : List Nk) : (vB ks).Perm (plN ks) := Srt.byKeys_perm (α := Nat) (ks := (plN ks).map (qcV ks)) (xs := plN ks) (by rw [lM_])
theorem uZ {ks : List Nk} {p : Nat} : p ∈ vB ks ↔ p < ks.length /\ 0 < (nAt ks p).2.1 := by
 rw [(vX ks).mem_iff]
 unfold plN
 rw [List.mem_filter, mR_, decide_eq_true_eq]
theorem qaW (ks : List Nk) : (vB ks).Nodup := (vX ks).nodup_iff.mpr ((List.nodup_range).sublist List.filter_sublist)
theorem qck {α : Type} {g : M D} {n : Nat} {cs : List D} {k : α -> D} {key : α -> Int} : ∀ {as : List α}, (∀ a ∈ as, ∃ U, g (jC n (k a :: cs)) = .ok (.int (key a), U)) -> qas g n cs (as.map k) = some (as.map key)
 | [], _ => rfl
 | a :: as, h => by
  obtain ⟨U, e⟩ := h a mS_
  rw [mC_, mC_]
  unfold qas
  rw [e, qck fun b hb => h b (mM _ hb)]
theorem qgc {α : Type} {k : α -> D} {l : List Nat} {as : List α} (d : α) (h : ∀ i ∈ l, i < as.length) : qei l (as.map k) = (l.map fun i => as.getD i d).map k := by
 unfold qei
 rw [mm_]
 refine mL_ fun i hi => ?_
 have hi' := h i hi
 show (as.map k).getD i D.non = k (as.getD i d)
 simp [hi']
theorem qbn (r : Nat) {w : Nat} (h : 0 < w) : 0 < ul r w /\ ul r w <= w := by
 obtain ⟨g, g0, e1, e2, e3, e4, e5⟩ := qbl r h
 exact ⟨e3, e4⟩
theorem qlL {x : Nk} (h : 0 < x.1) (r : Nat) : 0 < (shN x r).2 /\ (shN x r).2 <= x.1 := by
 unfold shN
 split
 ·exact ⟨Nat.one_pos, h⟩
 ·exact qbn r h
theorem qgd (ks : List Nk) : ∀ (l : List Nat) (s : Nat × List (Nat × Nat)), (l.foldl (shS ks) s).2.length = s.2.length
 | [], s => rfl
 | p :: l, s => by
  rw [fo_, qgd ks l]
  exact lS_
theorem qbo (ks : List Nk) (r : Nat) : (shs ks r).length = ks.length := by
 unfold shs
 rw [qgd]
 exact List.length_replicate
theorem qim {ks : List Nk} (h : ∀ x ∈ ks, 0 < x.1) : ∀ (l : List Nat) (s : Nat × List (Nat × Nat)), (∀ p ∈ l, p < ks.length) -> (∀ (i : Nat) (z : Nat × Nat), s.2[i]? = some z -> 0 < z.2 /\ z.2 <= (nAt ks i).1) ->
  ∀ (i : Nat) (z : Nat × Nat), (l.foldl (shS ks) s).2[i]? = some z -> 0 < z.2 /\ z.2 <= (nAt ks i).1
 | [], s, _, hs => hs
 | p :: l, s, hl, hs => by
  rw [fo_]
  refine qim h l _ (fun q hq => hl q (mM _ hq)) fun i z e => ?_
  have e' : (s.2.set p (shN (nAt ks p) s.1))[i]? = some z := e
  rw [List.getElem?_set] at e'
  split at e'
  ·rename_i hpi
   subst hpi
   split at e'
   ·cases e'
    exact qlL (h _ (z4 (hl p mS_))) _
   ·cases e'
  ·exact hs i z e'
theorem qlM {ks : List Nk} (h : ∀ x ∈ ks, 0 < x.1) (r : Nat) : ∀ (i : Nat) (z : Nat × Nat), (shs ks r)[i]? = some z -> 0 < z.2 /\ z.2 <= (nAt ks i).1 := by
 refine qim h (vB ks) _ (fun p hp => (uZ.mp hp).1) fun i z e => ?_
 have e' : (List.replicate ks.length ((0 : Nat), (1 : Nat)))[i]? = some z := e
 rw [List.getElem?_replicate] at e'
 split at e'
 ·rename_i hi
  cases e'
  exact ⟨Nat.one_pos, h _ (z4 hi)⟩
 ·cases e'
theorem qin {ks : List Nk} (h : ∀ x ∈ ks, 0 < x.1) (r : Nat) : ∀ z ∈ ks.zip (shs ks r), 0 < z.2.2 /\ z.2.2 <= z.1.1 := fun z hz => by
 obtain ⟨i, hi⟩ := List.mem_iff_getElem?.mp hz
 rw [List.getElem?_zip_eq_some] at hi
 have hl : i < ks.length := (gI_.mp hi.1).1
 have := qlM h r i z.2 hi.2
 rw [uM hl] at hi
 have e : nAt ks i = z.1 := Option.some.inj hi.1
 rw [e] at this
 exact this
theorem qen (p : Nat) : ∀ ks : List Nk, ks.foldl (fun p x => p * x.1) p = p * jp ks := by
 intro ks
 induction ks generalizing p with
 | nil => simp [jp]
 | cons x ks ih =>
  unfold jp
  rw [fo_, fo_, ih, ih (1 * x.1), Nat.one_mul, Nat.mul_assoc]
theorem yv (x : Nk) (ks : List Nk) : jp (x :: ks) = x.1 * jp ks := by
 show (x :: ks).foldl (fun p x => p * x.1) 1 = _
 rw [fo_, qen, Nat.one_mul]
theorem qau {ks : List Nk} (h : ∀ x ∈ ks, 0 < x.1) : 0 < jp ks := by
 induction ks with
 | nil => exact Nat.one_pos
 | cons x ks ih =>
  rw [yv]
  exact Nat.mul_pos (h x mS_) (ih fun y hy => h y (mM _ hy))
theorem qbp {ks : List Nk} (h : ∀ x ∈ ks, 0 < x.1) {x : Nk} (hx : x ∈ ks) : x.1 <= jp ks := by
 induction ks with
 | nil => cases hx
 | cons y ks ih =>
  rw [yv]
  have hp := qau fun z hz => h z (mM _ hz)
  rcases List.mem_cons.mp hx with e | hx
  ·subst e; exact Nat.le_mul_of_pos_right _ hp
  ·exact Nat.le_trans (ih (fun z hz => h z (mM _ hz)) hx) (Nat.le_mul_of_pos_left _ (h y mS_))
theorem qio : ∀ (l : List (Nk × Nat × Nat)) (s : Nat × Nat), (∀ z ∈ l, 0 < z.2.2 /\ z.2.2 <= z.1.1) -> 0 < s.2 -> 0 < (l.foldl swS s).2 /\ (l.foldl swS s).2 <= s.2 * jp (l.map (·.1))
 | [], s, _, h => ⟨h, by simp [jp]⟩
 | z :: l, s, hz, h => by
  obtain ⟨h1, h2⟩ := hz z mS_
  rw [fo_, mC_, yv]
  obtain ⟨a1, a2⟩ := qio l (swS s z) (fun y hy => hz y (mM _ hy)) (Nat.mul_pos h h1)
  refine ⟨a1, Nat.le_trans a2 ?_⟩
  show s.2 * z.2.2 * _ <= s.2 * (z.1.1 * _)
  rw [Nat.mul_assoc]
  exact Nat.mul_le_mul_left _ (Nat.mul_le_mul_right _ h2)
theorem qjP {ks : List Nk} {l : List (Nat × Nat)} (h : l.length = ks.length) : (ks.zip l).map (·.1) = ks := List.map_fst_zip (by omega)
end Law
end L2.Sk
namespace L2.Srt
open PySem PySem.W PyProof.Rows
section
variable (ks : List Int)
abbrev kk (i : Nat) : Int := ks.getD i 0
abbrev cm (i j : Nat) : Bool := decide (ks.getD i 0 < ks.getD j 0)
def Lx (i j : Nat) : Prop := kk ks i < kk ks j \/ (kk ks i = kk ks j /\ i < j)
theorem Lx.le {i j : Nat} (h : Lx ks i j) : kk ks i <= kk ks j := by rcases h with h | h <;> omega
structure qdK (n m : Nat) (p : Array Nat) : Prop where
 sz : p.size = n
 mn : m <= n
 id : ∀ k, m <= k -> k < n -> p.getD k 0 = k
 lo : ∀ k, k < m -> p.getD k 0 < m
 so : ∀ i j, i < j -> j < m -> Lx ks (p.getD i 0) (p.getD j 0)
end
theorem wm {p q : Array Nat} {k j : Nat} (h : p[k]? = q[j]?) : p.getD k 0 = q.getD j 0 := by
 rw [Array.getD_eq_getD_getElem?, Array.getD_eq_getD_getElem?, h]
theorem qbq {p : Array Nat} {i j : Nat} (hj : j <= p.size) (hij : i <= j) (k : Nat) : (kas_rev p i j).getD k 0 = if i <= k /\ k < j then p.getD (i + j - 1 - k) 0 else p.getD k 0 := by
 have h := getElem?_mirror (xs := p) (i := i) (j := j) hj ((j - i) / 2) (by omega) k
 unfold kas_rev
 by_cases hk : i <= k /\ k < j
 ·rw [if_pos hk]
  by_cases hm : (i <= k /\ k < i + (j - i) / 2) \/ (j - (j - i) / 2 <= k /\ k < j)
  ·rw [if_pos hm] at h
   exact wm h
  ·rw [if_neg hm] at h
   have e : i + j - 1 - k = k := by omega
   rw [e]
   exact wm h
 ·rw [if_neg hk]
  rw [if_neg (by omega)] at h
  exact wm h
theorem qbr (p : Array Nat) (i j : Nat) : (kas_rev p i j).size = p.size := mirror_size _ _ _ _
theorem qjQ {p : Array Nat} {k l : Nat} (hk : k < p.size) (hl : l <= k) (j : Nat) : (bubble p k (k - l)).getD j 0 = if j = l then p.getD k 0 else if l < j /\ j <= k then p.getD (j - 1) 0 else p.getD j 0 := by
 have h := getElem?_bubble (xs := p) (src := k) hk (k - l) (by omega) j
 rw [show k - (k - l) = l by omega] at h
 by_cases h1 : j = l
 ·rw [if_pos h1] at h |-
  exact wm h
 ·rw [if_neg h1] at h |-
  by_cases h2 : l < j /\ j <= k
  ·rw [if_pos h2] at h |-
   exact wm h
  ·rw [if_neg h2] at h |-
   exact wm h
section
variable {ks : List Int}
theorem qge {n : Nat} {p : Array Nat} : ∀ (f m : Nat), f = n - m -> 1 <= m -> qdK ks n m p -> ∃ m', ud (cm ks) (kas_asc p f m) = m' /\ m <= m' /\ qdK ks n m' p /\ (m' < n -> kk ks (p.getD m' 0) < kk ks (p.getD (m' - 1) 0))
 | 0, m, hf, h1, S => ⟨m, rfl, Nat.le_refl _, S, fun h => by omega⟩
 | f + 1, m, hf, h1, S => by
  show ∃ m', ud (cm ks) (if cm ks (p.getD m 0) (p.getD (m - 1) 0) = true then KasT.ret m else kas_asc p f (m + 1)) = m' /\ _
  by_cases c : kk ks (p.getD m 0) < kk ks (p.getD (m - 1) 0)
  ·rw [if_pos (decide_eq_true c)]
   exact ⟨m, rfl, Nat.le_refl _, S, fun _ => c⟩
  ·rw [if_neg (by simpa using c)]
   have hid : p.getD m 0 = m := S.id m (Nat.le_refl _) (by omega)
   have S' : qdK ks n (m + 1) p := by
    refine ⟨S.sz, by omega, fun k a b => S.id k (by omega) b, fun k a => ?_, fun i j a b => ?_⟩
    ·by_cases e : k < m
     ·have := S.lo k e; omega
     ·have : k = m := by omega
      rw [this, hid]; omega
    ·by_cases e : j < m
     ·exact S.so i j a e
     ·have ej : j = m := by omega
      subst ej
      have l1 := S.lo i a
      have k1 : kk ks (p.getD i 0) <= kk ks (p.getD (j - 1) 0) := by
       by_cases e2 : i = j - 1
       ·rw [e2]; exact Int.le_refl _
       ·exact (S.so i (j - 1) (by omega) (by omega)).le
      have c' : kk ks (p.getD (j - 1) 0) <= kk ks (p.getD j 0) := Int.not_lt.mp c
      unfold Lx
      rw [hid] at c' |-
      omega
   obtain ⟨m', e1, e2, e3, e4⟩ := qge f (m + 1) (by omega) (by omega) S'
   exact ⟨m', e1, by omega, e3, e4⟩
structure Dwn (ks : List Int) (n m q : Nat) (p : Array Nat) : Prop where
 sz : p.size = n
 mn : m <= n
 qm : q + 1 <= m
 id : ∀ k, m <= k -> k < n -> p.getD k 0 = k
 lo : ∀ k, k < m -> p.getD k 0 < m
 a1 : ∀ i j, i < m - (q + 1) -> m - (q + 1) <= j -> j < m -> kk ks (p.getD j 0) < kk ks (p.getD i 0)
 a2 : ∀ i j, i < j -> j < m - (q + 1) -> Lx ks (p.getD j 0) (p.getD i 0)
 bl : ∀ i j, m - (q + 1) <= i -> i < j -> j < m -> kk ks (p.getD i 0) = kk ks (p.getD j 0) /\ p.getD i 0 < p.getD j 0
theorem Dwn.turned {n m q : Nat} {p : Array Nat} (d : Dwn ks n m q p) : (kas_rev p (m - (q + 1)) m).size = n /\ (∀ k, m <= k -> k < n -> (kas_rev p (m - (q + 1)) m).getD k 0 = k) /\ (∀ k, k < m -> (kas_rev p (m - (q + 1)) m).getD k 0 < m) /\
  (∀ i j, i < j -> j < m -> Lx ks ((kas_rev p (m - (q + 1)) m).getD j 0) ((kas_rev p (m - (q + 1)) m).getD i 0)) /\ (∀ i, i < m -> kk ks (p.getD (m - 1) 0) <= kk ks ((kas_rev p (m - (q + 1)) m).getD i 0)) := by
 have hqm := d.qm
 have hs : m <= p.size := by rw [d.sz]; exact d.mn
 have g := fun k => qbq (p := p) (i := m - (q + 1)) (j := m) hs (by omega) k
 refine ⟨by rw [qbr, d.sz], fun k a b => ?_, fun k a => ?_, fun i j a b => ?_, fun i a => ?_⟩
 ·rw [g, if_neg (by omega)]; exact d.id k a b
 ·rw [g]
  split
  ·exact d.lo _ (by omega)
  ·exact d.lo k a
 ·rw [g i, g j]
  by_cases hi : m - (q + 1) <= i
  ·rw [if_pos ⟨by omega, b⟩, if_pos ⟨hi, by omega⟩]
   have := d.bl (m - (q + 1) + m - 1 - j) (m - (q + 1) + m - 1 - i) (by omega) (by omega) (by omega)
   exact .inr ⟨this.1, this.2⟩
  ·rw [if_neg (show ¬ (m - (q + 1) <= i /\ i < m) by omega)]
   by_cases hj : m - (q + 1) <= j
   ·rw [if_pos ⟨hj, b⟩]
    exact .inl (d.a1 i _ (by omega) (by omega) (by omega))
   ·rw [if_neg (by omega)]
    exact d.a2 i j a (by omega)
 ·have key : ∀ j, m - (q + 1) <= j -> j < m -> kk ks (p.getD (m - 1) 0) = kk ks (p.getD j 0) := fun j h1 h2 => by
   by_cases e : j = m - 1
   ·rw [e]
   ·exact (d.bl j (m - 1) h1 (by omega) (by omega)).1.symm
  rw [g i]
  by_cases hi : m - (q + 1) <= i
  ·rw [if_pos ⟨hi, a⟩]
   exact Int.le_of_eq (key _ (by omega) (by omega))
  ·rw [if_neg (by omega)]
   exact Int.le_of_lt (d.a1 i (m - 1) (by omega) (by omega) (by omega))
theorem Dwn.next {n m : Nat} {p : Array Nat} (hsz : p.size = n) (hm : 1 <= m) (hmn : m < n) (hid : ∀ k, m <= k -> k < n -> p.getD k 0 = k) (hlo : ∀ k, k < m -> p.getD k 0 < m) (ho : ∀ i j, i < j -> j < m -> Lx ks (p.getD j 0) (p.getD i 0))
  (hk : ∀ i, i < m -> kk ks (p.getD m 0) < kk ks (p.getD i 0)) : Dwn ks n (m + 1) 0 p := by
 refine ⟨hsz, hmn, by omega, fun k a b => hid k (by omega) b, fun k a => ?_, fun i j a b c => ?_, fun i j a b => ho i j a (by omega), fun i j a b c => by omega⟩
 ·by_cases e : k < m
  ·have := hlo k e; omega
  ·have : k = m := by omega
   rw [this, hid m (Nat.le_refl _) hmn]; omega
 ·have : j = m := by omega
  subst this
  exact hk i (by omega)
theorem qnA {n m : Nat} {p : Array Nat} (d : Dwn ks n m 0 p) : ∀ k, (kas_rev p (m - (0 + 1)) m).getD k 0 = p.getD k 0 := fun k => by
 have hqm := d.qm
 rw [qbq (by rw [d.sz]; exact d.mn) (by omega)]
 split
 ·congr 1; omega
 ·rfl
theorem qbs {n : Nat} : ∀ (f m q : Nat) {p : Array Nat}, f = n - m -> Dwn ks n m q p -> ∃ r, ud (cm ks) (kas_desc f p m q) = r /\ Dwn ks n r.2.1 r.2.2 r.1
 | 0, m, q, p, hf, d => ⟨(p, m, q), rfl, d⟩
 | f + 1, m, q, p, hf, d => by
  show ∃ r, ud (cm ks) (if cm ks (p.getD m 0) (p.getD (m - 1) 0) = true then (if q > 0 then kas_desc f (kas_rev p (m - (q + 1)) m) (m + 1) 0 else kas_desc f p (m + 1) 0)
   else .ask (p.getD (m - 1) 0) (p.getD m 0) fun c => if c = true then .ret (p, m, q) else kas_desc f p (m + 1) (q + 1)) = r /\ _
  have hmn : m < n := by have := d.mn; omega
  have hqm := d.qm
  have hid := d.id m (Nat.le_refl _) hmn
  obtain ⟨t1, t2, t3, t4, t5⟩ := d.turned
  by_cases c : kk ks (p.getD m 0) < kk ks (p.getD (m - 1) 0)
  ·rw [if_pos (decide_eq_true c)]
   by_cases hq : q > 0
   ·rw [if_pos hq]
    have hm' : (kas_rev p (m - (q + 1)) m).getD m 0 = p.getD m 0 := by rw [t2 m (Nat.le_refl _) hmn, hid]
    exact qbs f (m + 1) 0 (by omega) (Dwn.next t1 (by omega) hmn t2 t3 t4 fun i hi => by rw [hm']; exact Int.lt_of_lt_of_le c (t5 i hi))
   ·rw [if_neg hq]
    have e : q = 0 := by omega
    subst e
    have g := qnA d
    refine qbs f (m + 1) 0 (by omega) (Dwn.next d.sz (by omega) hmn d.id d.lo (fun i j a b => ?_) fun i hi => ?_)
    ·have := t4 i j a b
     rw [g, g] at this
     exact this
    ·have := t5 i hi
     rw [g] at this
     exact Int.lt_of_lt_of_le c this
  ·rw [if_neg (by simpa using c)]
   show ∃ r, ud (cm ks) (if cm ks (p.getD (m - 1) 0) (p.getD m 0) = true then .ret (p, m, q) else kas_desc f p (m + 1) (q + 1)) = r /\ _
   by_cases c2 : kk ks (p.getD (m - 1) 0) < kk ks (p.getD m 0)
   ·rw [if_pos (decide_eq_true c2)]
    exact ⟨(p, m, q), rfl, d⟩
   ·rw [if_neg (by simpa using c2)]
    have ek : kk ks (p.getD (m - 1) 0) = kk ks (p.getD m 0) := by
     have a1 : kk ks (p.getD (m - 1) 0) <= kk ks (p.getD m 0) := Int.not_lt.mp c
     have a2 : kk ks (p.getD m 0) <= kk ks (p.getD (m - 1) 0) := Int.not_lt.mp c2
     omega
    refine qbs f (m + 1) (q + 1) (by omega) ⟨d.sz, hmn, by omega, fun k a b => d.id k (by omega) b, fun k a => ?_, fun i j a b c => ?_, fun i j a b => d.a2 i j a (by omega), fun i j a b c => ?_⟩
    ·by_cases e : k < m
     ·have := d.lo k e; omega
     ·have : k = m := by omega
      rw [this, hid]; omega
    ·by_cases e : j < m
     ·exact d.a1 i j (by omega) (by omega) e
     ·have : j = m := by omega
      subst this
      rw [<- ek]
      exact d.a1 i (j - 1) (by omega) (by omega) (by omega)
    ·by_cases e : j < m
     ·exact d.bl i j (by omega) b e
     ·have : j = m := by omega
      subst this
      have l1 := d.lo i b
      refine ⟨?_, by rw [hid]; exact l1⟩
      rw [<- ek]
      by_cases e2 : i = j - 1
      ·rw [e2]
      ·exact (d.bl i (j - 1) (by omega) (by omega) (by omega)).1
theorem qdL {n m : Nat} {p : Array Nat} (hsz : p.size = n) (hm : 1 <= m) (hmn : m <= n) (hid : ∀ k, m <= k -> k < n -> p.getD k 0 = k) (hlo : ∀ k, k < m -> p.getD k 0 < m) (ho : ∀ i j, i < j -> j < m -> Lx ks (p.getD j 0) (p.getD i 0)) :
  qdK ks n (ud (cm ks) (kas_tail3 m n p)).1 (ud (cm ks) (kas_tail3 m n p)).2 /\ 1 <= (ud (cm ks) (kas_tail3 m n p)).1 := by
 have g := fun k => qbq (p := p) (i := 0) (j := m) (by rw [hsz]; exact hmn) (Nat.zero_le _) k
 have S : qdK ks n m (kas_rev p 0 m) := by
  refine ⟨by rw [qbr, hsz], hmn, fun k a b => ?_, fun k a => ?_, fun i j a b => ?_⟩
  ·rw [g, if_neg (by omega)]; exact hid k a b
  ·rw [g, if_pos ⟨Nat.zero_le _, a⟩]; exact hlo _ (by omega)
  ·rw [g, g, if_pos ⟨Nat.zero_le _, by omega⟩, if_pos ⟨Nat.zero_le _, b⟩]
   exact ho _ _ (by omega) (by omega)
 obtain ⟨m', e1, e2, e3, _⟩ := qge (n - m) m rfl hm S
 have e : ud (cm ks) (kas_tail3 m n p) = (m', kas_rev p 0 m) := by
  unfold kas_tail3
  rw [y7, e1]
  rfl
 rw [e]
 exact ⟨e3, by show 1 <= m'; omega⟩
theorem qav {n m : Nat} {p : Array Nat} (d : Dwn ks n (m + 1) 0 p) : qdK ks n (ud (cm ks) (kas_descPart m n p)).1 (ud (cm ks) (kas_descPart m n p)).2 /\ 1 <= (ud (cm ks) (kas_descPart m n p)).1 := by
 obtain ⟨r, e1, e2⟩ := qbs (n - (m + 1)) (m + 1) 0 rfl d
 obtain ⟨t1, t2, t3, t4, _⟩ := e2.turned
 have hqm := e2.qm
 unfold kas_descPart
 rw [y7, e1]
 by_cases hq : r.2.2 > 0
 ·rw [if_pos hq]
  exact qdL t1 (by omega) e2.mn t2 t3 t4
 ·rw [if_neg hq]
  obtain ⟨p', m', q'⟩ := r
  have e : q' = 0 := by show q' = 0; have : ¬ q' > 0 := hq; omega
  subst e
  have g := qnA e2
  refine qdL e2.sz (by omega) e2.mn e2.id e2.lo fun i j a b => ?_
  have := t4 i j a b
  rw [g, g] at this
  exact this
theorem qhx {n : Nat} (hn : 1 <= n) : qdK ks n (ud (cm ks) (kas_count n (List.toArray (List.range n)))).1 (ud (cm ks) (kas_count n (List.toArray (List.range n)))).2 /\ 1 <= (ud (cm ks) (kas_count n (List.toArray (List.range n)))).1 := by
 have hr : ∀ k, k < n -> (List.toArray (List.range n)).getD k 0 = k := fun k hk => by simp [Array.getD, hk]
 have S1 : qdK ks n 1 (List.toArray (List.range n)) := ⟨by simp, hn, fun k _ b => hr k b, fun k a => by rw [hr k (by omega)]; exact a, fun i j a b => by omega⟩
 obtain ⟨m, e1, e2, e3, e4⟩ := qge (n - 1) 1 rfl (Nat.le_refl _) S1
 unfold kas_count
 rw [y7, e1]
 by_cases h1 : m = n
 ·rw [if_pos (by rw [h1]; simp)]
  exact ⟨e3, e2⟩
 ·rw [if_neg (by simpa using h1)]
  have hmn : m < n := by have := e3.mn; omega
  have hk := e4 hmn
  by_cases h2 : m > 1
  ·rw [if_pos h2]
   show qdK ks n (ud (cm ks) (if cm ks ((List.toArray (List.range n)).getD 0 0) ((List.toArray (List.range n)).getD (m - 1) 0) = true then .ret (m, List.toArray (List.range n)) else kas_descPart m n (kas_rev (List.toArray (List.range n)) 0 m))).1 _ /\ _
   by_cases c : kk ks ((List.toArray (List.range n)).getD 0 0) < kk ks ((List.toArray (List.range n)).getD (m - 1) 0)
   ·rw [show ud (cm ks) (KasT.ask ((List.toArray (List.range n)).getD 0 0) ((List.toArray (List.range n)).getD (m - 1) 0) fun c => if c = true then .ret (m, List.toArray (List.range n)) else kas_descPart m n (kas_rev (List.toArray (List.range n)) 0 m)) = ud (cm ks) (if cm ks ((List.toArray (List.range n)).getD 0 0) ((List.toArray (List.range n)).getD (m - 1) 0) = true then .ret (m, List.toArray (List.range n)) else kas_descPart m n (kas_rev (List.toArray (List.range n)) 0 m)) from rfl, if_pos (decide_eq_true c)]
    exact ⟨e3, e2⟩
   ·rw [show ud (cm ks) (KasT.ask ((List.toArray (List.range n)).getD 0 0) ((List.toArray (List.range n)).getD (m - 1) 0) fun c => if c = true then .ret (m, List.toArray (List.range n)) else kas_descPart m n (kas_rev (List.toArray (List.range n)) 0 m)) = ud (cm ks) (if cm ks ((List.toArray (List.range n)).getD 0 0) ((List.toArray (List.range n)).getD (m - 1) 0) = true then .ret (m, List.toArray (List.range n)) else kas_descPart m n (kas_rev (List.toArray (List.range n)) 0 m)) from rfl, if_neg (by simpa using c)]
    generalize hp : List.toArray (List.range n) = p at *
    have g := fun k => qbq (p := p) (i := 0) (j := m) (by rw [e3.sz]; omega) (Nat.zero_le _) k
    have al : ∀ i, i < m -> kk ks (p.getD i 0) = kk ks (p.getD 0 0) := fun i hi => by
     have c' : kk ks (p.getD (m - 1) 0) <= kk ks (p.getD 0 0) := Int.not_lt.mp c
     have a1 : kk ks (p.getD 0 0) <= kk ks (p.getD i 0) := by
      by_cases e : i = 0
      ·rw [e]; exact Int.le_refl _
      ·exact (e3.so 0 i (by omega) hi).le
     have a2 : kk ks (p.getD i 0) <= kk ks (p.getD (m - 1) 0) := by
      by_cases e : i = m - 1
      ·rw [e]; exact Int.le_refl _
      ·exact (e3.so i (m - 1) (by omega) (by omega)).le
     omega
    refine qav (Dwn.next (by rw [qbr, e3.sz]) (by omega) hmn (fun k a b => by rw [g, if_neg (by omega)]; exact e3.id k a b) (fun k a => by rw [g, if_pos ⟨Nat.zero_le _, a⟩]; exact e3.lo _ (by omega)) (fun i j a b => ?_) fun i hi => ?_)
    ·rw [g, g, if_pos ⟨Nat.zero_le _, b⟩, if_pos ⟨Nat.zero_le _, by omega⟩]
     exact e3.so _ _ (by omega) (by omega)
    ·have h9 := al (m - 1) (by omega)
     rw [g m, g i, if_neg (by omega), if_pos ⟨Nat.zero_le _, hi⟩, al (0 + m - 1 - i) (by omega), <- h9]
     exact hk
  ·rw [if_neg h2]
   have em : m = 1 := by omega
   subst em
   exact qav (Dwn.next e3.sz (Nat.le_refl _) hmn e3.id e3.lo (fun i j a b => by omega) fun i hi => by
    have : i = 0 := by omega
    subst this
    exact hk)
theorem qbt {n k : Nat} {p : Array Nat} (S : qdK ks n k p) : ∀ (f l r : Nat), r - l <= f -> l <= r -> r <= k -> (∀ i, i < l -> kk ks (p.getD i 0) <= kk ks (p.getD k 0)) -> (∀ i, r <= i -> i < k -> kk ks (p.getD k 0) < kk ks (p.getD i 0)) ->
  ∃ l', ud (cm ks) (kas_place p k f l r) = l' /\ l' <= k /\ (∀ i, i < l' -> kk ks (p.getD i 0) <= kk ks (p.getD k 0)) /\ (∀ i, l' <= i -> i < k -> kk ks (p.getD k 0) < kk ks (p.getD i 0))
 | 0, l, r, hf, h1, h2, a, b => ⟨l, rfl, by omega, a, fun i c d => b i (by omega) d⟩
 | f + 1, l, r, hf, h1, h2, a, b => by
  have mono : ∀ i j, i <= j -> j < k -> kk ks (p.getD i 0) <= kk ks (p.getD j 0) := fun i j hij hj => by
   by_cases e : i = j
   ·rw [e]; exact Int.le_refl _
   ·exact (S.so i j (by omega) hj).le
  unfold kas_place
  by_cases hge : l >= r
  ·rw [if_pos hge]
   exact ⟨l, rfl, by omega, a, fun i c d => b i (by omega) d⟩
  ·rw [if_neg hge]
   show ∃ l', ud (cm ks) (if cm ks (p.getD k 0) (p.getD ((l + r) / 2) 0) = true then kas_place p k f l ((l + r) / 2) else kas_place p k f ((l + r) / 2 + 1) r) = l' /\ _
   by_cases c : kk ks (p.getD k 0) < kk ks (p.getD ((l + r) / 2) 0)
   ·rw [if_pos (decide_eq_true c)]
    exact qbt S f l ((l + r) / 2) (by omega) (by omega) (by omega) a fun i x y => Int.lt_of_lt_of_le c (mono _ _ x y)
   ·rw [if_neg (by simpa using c)]
    exact qbt S f ((l + r) / 2 + 1) r (by omega) (by omega) h2 (fun i x => Int.le_trans (mono i ((l + r) / 2) (by omega) (by omega)) (Int.not_lt.mp c)) b
theorem qip {n : Nat} : ∀ (f k : Nat) {p : Array Nat}, f = n - k -> qdK ks n k p -> qdK ks n n (ud (cm ks) (kas_bin f p k))
 | 0, k, p, hf, S => by
  have : k = n := by have := S.mn; omega
  subst this
  exact S
 | f + 1, k, p, hf, S => by
  have hkn : k < n := by omega
  have hid := S.id k (Nat.le_refl _) hkn
  obtain ⟨l, e1, e2, e3, e4⟩ := qbt S k 0 k (by omega) (Nat.zero_le _) (Nat.le_refl _) (fun i h => by omega) (fun i h1 h2 => by omega)
  show qdK ks n n (ud (cm ks) ((kas_place p k k 0 k).bind fun l => kas_bin f (bubble p k (k - l)) (k + 1)))
  rw [y7, e1]
  have g := fun j => qjQ (p := p) (k := k) (l := l) (by rw [S.sz]; exact hkn) e2 j
  refine qip f (k + 1) (by omega) ⟨by rw [bubble_size, S.sz], hkn, fun j a b => ?_, fun j a => ?_, fun i j a b => ?_⟩
  ·rw [g, if_neg (by omega), if_neg (by omega)]; exact S.id j (by omega) b
  ·rw [g]
   split
   ·rw [hid]; omega
   ·split
    ·have := S.lo (j - 1) (by omega); omega
    ·have := S.lo j (by omega); omega
  ·rw [g i, g j]
   have lk : ∀ z, z < k -> z < l -> Lx ks (p.getD z 0) (p.getD k 0) := fun z hz hl => by
    have h1 := e3 z hl
    have h2 := S.lo z hz
    unfold Lx
    rw [hid] at h1 |-
    omega
   have gk : ∀ z, l <= z -> z < k -> Lx ks (p.getD k 0) (p.getD z 0) := fun z hl hz => .inl (e4 z hl hz)
   by_cases hi : i = l
   ·rw [if_pos hi, if_neg (by omega), if_pos ⟨by omega, by omega⟩]
    exact gk _ (by omega) (by omega)
   ·rw [if_neg hi]
    by_cases hj : j = l
    ·rw [if_pos hj, if_neg (by omega)]
     exact lk i (by omega) (by omega)
    ·rw [if_neg hj]
     by_cases hi2 : l < i /\ i <= k
     ·rw [if_pos hi2, if_pos ⟨by omega, by omega⟩]
      exact S.so _ _ (by omega) (by omega)
     ·rw [if_neg hi2]
      by_cases hj2 : l < j /\ j <= k
      ·rw [if_pos hj2]
       exact S.so _ _ (by omega) (by omega)
      ·rw [if_neg hj2]
       exact S.so _ _ a (by omega)
theorem qjR {n : Nat} (hn : 1 <= n) : qdK ks n n (ud (cm ks) (kas_sort n)) := by
 obtain ⟨S, h1⟩ := qhx (ks := ks) hn
 unfold kas_sort
 rw [y7]
 by_cases h : (ud (cm ks) (kas_count n (List.toArray (List.range n)))).1 < n
 ·rw [if_pos h]
  have e : max (ud (cm ks) (kas_count n (List.toArray (List.range n)))).1 1 = (ud (cm ks) (kas_count n (List.toArray (List.range n)))).1 := by omega
  rw [e]
  exact qip _ _ rfl S
 ·rw [if_neg h]
  have e : (ud (cm ks) (kas_count n (List.toArray (List.range n)))).1 = n := by have := S.mn; omega
  rw [e] at S
  exact S
end
theorem ord_sorted (ks : List Int) : (ord ks).Pairwise (Lx ks) := by
 unfold ord
 split
 ·rename_i h
  match hk : ks.length, h with
  | 0, _ => exact List.Pairwise.nil
  | 1, _ => exact List.pairwise_singleton _ _
 ·have S := qjR (ks := ks) (n := ks.length) (by omega)
  rw [List.pairwise_iff_getElem]
  intro i j hi hj hij
  have hz := S.sz
  rw [Array.length_toList] at hi hj
  have := S.so i j hij (by rw [<- hz]; exact hj)
  have e1 : (ud (cm ks) (kas_sort ks.length)).getD i 0 = (ud (cm ks) (kas_sort ks.length)).toList[i]'(by rw [Array.length_toList]; exact hi) := by simp [Array.getD, hi]
  have e2 : (ud (cm ks) (kas_sort ks.length)).getD j 0 = (ud (cm ks) (kas_sort ks.length)).toList[j]'(by rw [Array.length_toList]; exact hj) := by simp [Array.getD, hj]
  rw [e1, e2] at this
  exact this
end L2.Srt
namespace L2.Sk
namespace Law
open PySem PySem.Spec PyProof.Rows
set_option maxHeartbeats 4000000
def Rx (ks : List Nk) (i j : Nat) : Prop := (nAt ks j).2.1 * (nAt ks i).1 < (nAt ks i).2.1 * (nAt ks j).1 \/ ((nAt ks j).2.1 * (nAt ks i).1 = (nAt ks i).2.1 * (nAt ks j).1 /\ i < j)
theorem qcl {ks : List Nk} {x : Nk} (h : x ∈ ks) : x.1 ∣ jp ks := by
 induction ks with
 | nil => cases h
 | cons y ks ih =>
  rw [yv]
  rcases List.mem_cons.mp h with e | h
  ·subst e; exact Nat.dvd_mul_right _ _
  ·exact Nat.dvd_trans (ih h) (Nat.dvd_mul_left _ _)
theorem qm0 {a b p q v w P : Nat} (hv : 0 < v) (hw : 0 < w) (hP : 0 < P) (h1 : v * p = P) (h2 : w * q = P) : (b * q < a * p ↔ b * v < a * w) /\ (b * q = a * p ↔ b * v = a * w) := by
 have e1 : b * q * (v * w) = b * v * P := by rw [<- h2]; simp only [Nat.mul_comm, Nat.mul_left_comm]
 have e2 : a * p * (v * w) = a * w * P := by rw [<- h1]; simp only [Nat.mul_comm, Nat.mul_left_comm]
 have hvw : 0 < v * w := Nat.mul_pos hv hw
 constructor
 ·constructor
  ·intro h
   have := Nat.mul_lt_mul_of_pos_right h hvw
   rw [e1, e2] at this
   exact Nat.lt_of_mul_lt_mul_right this
  ·intro h
   have := Nat.mul_lt_mul_of_pos_right h hP
   rw [<- e1, <- e2] at this
   exact Nat.lt_of_mul_lt_mul_right this
 ·constructor
  ·intro h
   have : b * v * P = a * w * P := by rw [<- e1, <- e2, h]
   exact Nat.eq_of_mul_eq_mul_right hP this
  ·intro h
   have : b * q * (v * w) = a * p * (v * w) := by rw [e1, e2, h]
   exact Nat.eq_of_mul_eq_mul_right hvw this
theorem qjS {ks : List Nk} (hw : ∀ x ∈ ks, 0 < x.1) {i j : Nat} (hi : i < ks.length) (hj : j < ks.length) :
  (qcV ks i < qcV ks j ↔ (nAt ks j).2.1 * (nAt ks i).1 < (nAt ks i).2.1 * (nAt ks j).1) /\ (qcV ks i = qcV ks j ↔ (nAt ks j).2.1 * (nAt ks i).1 = (nAt ks i).2.1 * (nAt ks j).1) := by
 have a1 := z4 hi
 have a2 := z4 hj
 have d1 : (nAt ks i).1 * (jp ks / (nAt ks i).1) = jp ks := Nat.mul_div_cancel' (qcl a1)
 have d2 : (nAt ks j).1 * (jp ks / (nAt ks j).1) = jp ks := Nat.mul_div_cancel' (qcl a2)
 obtain ⟨c1, c2⟩ := qm0 (a := (nAt ks i).2.1) (b := (nAt ks j).2.1) (hw _ a1) (hw _ a2) (qau hw) d1 d2
 have e : ∀ p, qcV ks p = -(((nAt ks p).2.1 * (jp ks / (nAt ks p).1) : Nat) : Int) := fun p => by
  unfold qcV
  rw [Int.neg_mul]
  rfl
 rw [e i, e j, <- c1, <- c2]
 constructor <;> omega
theorem qgf (ks : List Nk) : (plN ks).Pairwise (· < ·) := (List.pairwise_lt_range).sublist List.filter_sublist
theorem qcW {ks : List Nk} {p : Nat} : p ∈ plN ks ↔ p < ks.length /\ 0 < (nAt ks p).2.1 := by
 unfold plN
 rw [List.mem_filter, mR_, decide_eq_true_eq]
theorem vx {ks : List Nk} (hw : ∀ x ∈ ks, 0 < x.1) : (vB ks).Pairwise (Rx ks) := by
 unfold vB
 rw [List.pairwise_map]
 refine (Srt.ord_sorted ((plN ks).map (qcV ks))).imp_of_mem fun {a b} ha hb hab => ?_
 have la : a < (plN ks).length := by
  have := (Srt.ord_perm _).mem_iff.mp ha
  rw [lM_] at this
  exact mR_.mp this
 have lb : b < (plN ks).length := by
  have := (Srt.ord_perm _).mem_iff.mp hb
  rw [lM_] at this
  exact mR_.mp this
 have ea : (plN ks).getD a 0 = (plN ks)[a] := by simp [la]
 have eb : (plN ks).getD b 0 = (plN ks)[b] := by simp [lb]
 have ka : ((plN ks).map (qcV ks)).getD a 0 = qcV ks ((plN ks)[a]) := by simp [la]
 have kb : ((plN ks).map (qcV ks)).getD b 0 = qcV ks ((plN ks)[b]) := by simp [lb]
 have ma := (qcW.mp (List.getElem_mem la)).1
 have mb := (qcW.mp (List.getElem_mem lb)).1
 obtain ⟨k1, k2⟩ := qjS hw ma mb
 rw [ea, eb]
 unfold Srt.Lx Srt.kk at hab
 rw [ka, kb] at hab
 rcases hab with h | ⟨h, hlt⟩
 ·exact .inl (k1.mp h)
 ·exact .inr ⟨k2.mp h, List.pairwise_iff_getElem.mp (qgf ks) a b la lb hlt⟩
def pkS (ks : List Nk) (f a : Nat) : Nat := if (nAt ks f).2.1 * (nAt ks a).1 < (nAt ks a).2.1 * (nAt ks f).1 then a else f
theorem qhy {ga wa gf wf gy wy : Nat} (hf : 0 < wf) (hy : 0 < wy) (h1 : gf * wa < ga * wf) (h2 : gy * wf <= gf * wy) : gy * wa < ga * wy := by
 have a1 : gy * wf * wa <= gf * wy * wa := Nat.mul_le_mul_right _ h2
 have a2 : gf * wa * wy < ga * wf * wy := Nat.mul_lt_mul_of_pos_right h1 hy
 have a3 : gf * wy * wa = gf * wa * wy := by simp only [Nat.mul_comm, Nat.mul_left_comm]
 have a4 : gy * wf * wa = gy * wa * wf := by simp only [Nat.mul_comm, Nat.mul_left_comm]
 have a5 : ga * wf * wy = ga * wy * wf := by simp only [Nat.mul_comm, Nat.mul_left_comm]
 have : gy * wa * wf < ga * wy * wf := by omega
 exact Nat.lt_of_mul_lt_mul_right this
theorem Rx.le {ks : List Nk} {i j : Nat} (h : Rx ks i j) : (nAt ks j).2.1 * (nAt ks i).1 <= (nAt ks i).2.1 * (nAt ks j).1 := by rcases h with h | h <;> omega
theorem qcX {ks : List Nk} (hw : ∀ x ∈ ks, 0 < x.1) : ∀ (l d : List Nat) (f : Nat), (∀ y ∈ d ++ l, y < ks.length) -> (d ++ l).Pairwise (· < ·) -> f ∈ d -> (∀ y ∈ d, y ≠ f -> Rx ks f y) -> l.foldl (pkS ks) f ∈ d ++ l /\ ∀ y ∈ d ++ l, y ≠ l.foldl (pkS ks) f -> Rx ks (l.foldl (pkS ks) f) y
 | [], d, f, hl, ha, hf, hb => by rw [List.append_nil]; exact ⟨hf, hb⟩
 | a :: l, d, f, hl, ha, hf, hb => by
  have e : d ++ a :: l = (d ++ [a]) ++ l := by rw [aA_]; rfl
  rw [e] at hl ha |-
  rw [fo_]
  have hpos : ∀ y ∈ (d ++ [a]) ++ l, 0 < (nAt ks y).1 := fun y hy => hw _ (z4 (hl y hy))
  have had : ∀ y ∈ d, y < a := fun y hy => by
   have := (List.pairwise_append.mp ha).1
   exact (List.pairwise_append.mp this).2.2 y hy a (by simp)
  have pf := hpos f (by simp [hf])
  have pa := hpos a (by simp)
  by_cases c : (nAt ks f).2.1 * (nAt ks a).1 < (nAt ks a).2.1 * (nAt ks f).1
  ·have es : pkS ks f a = a := by unfold pkS; rw [if_pos c]
   rw [es]
   refine qcX hw l (d ++ [a]) a hl ha (by simp) fun y hy hne => ?_
   rcases mA_.mp hy with hy | hy
   ·by_cases ey : y = f
    ·subst ey; exact .inl c
    ·exact .inl (qhy pf (hpos y (by simp [hy])) c (hb y hy ey).le)
   ·exact absurd (by simpa using hy) hne
  ·have es : pkS ks f a = f := by unfold pkS; rw [if_neg c]
   rw [es]
   refine qcX hw l (d ++ [a]) f hl ha (by simp [hf]) fun y hy hne => ?_
   rcases mA_.mp hy with hy | hy
   ·exact hb y hy hne
   ·have ey : y = a := by simpa using hy
    subst ey
    unfold Rx
    have := had f hf
    omega
theorem Rx.asym {ks : List Nk} {i j : Nat} (h1 : Rx ks i j) (h2 : Rx ks j i) : False := by
 unfold Rx at h1 h2
 omega
theorem qgg {ks : List Nk} (hw : ∀ x ∈ ks, 0 < x.1) {L : List Nat} {h : Nat} {t : List Nat} (hl : ∀ y ∈ L, y < ks.length) (ha : L.Pairwise (· < ·)) (hp : L.Perm (h :: t)) (hs : (h :: t).Pairwise (Rx ks)) : ∃ x r, L = x :: r /\ L.foldl (pkS ks) x = h := by
 cases L with
 | nil => exact absurd hp.length_eq (by simp)
 | cons x r =>
  refine ⟨x, r, rfl, ?_⟩
  have e0 : (x :: r).foldl (pkS ks) x = r.foldl (pkS ks) x := by
   rw [fo_]
   have : pkS ks x x = x := by unfold pkS; split <;> rfl
   rw [this]
  rw [e0]
  obtain ⟨m1, m2⟩ := qcX hw r [x] x (by simpa using hl) (by simpa using ha) (by simp) (fun y hy hne => absurd (by simpa using hy) hne)
  have m1' : r.foldl (pkS ks) x ∈ x :: r := by simpa using m1
  have hm : h ∈ x :: r := hp.mem_iff.mpr mS_
  by_cases e : h = r.foldl (pkS ks) x
  ·exact e.symm
  ·have r1 := m2 h (by simpa using hm) e
   have hm2 := hp.mem_iff.mp m1'
   rcases List.mem_cons.mp hm2 with e2 | e2
   ·exact e2
   ·exact (r1.asym ((List.pairwise_cons.mp hs).1 _ e2)).elim
theorem qgh {L : List Nat} {b : Nat} (h : b ∈ L) : ∃ j, (L.map fun i => ((i : Nat) : Int)).findIdx? (· == (b : Int)) = some j /\ (L.map fun i => ((i : Nat) : Int)).eraseIdx j = (L.erase b).map fun i => ((i : Nat) : Int) := by
 induction L with
 | nil => cases h
 | cons a L ih =>
  by_cases e : a = b
  ·subst e
   exact ⟨0, by simp [List.findIdx?_cons], by simp⟩
  ·rcases List.mem_cons.mp h with e2 | h
   ·exact absurd e2.symm e
   ·obtain ⟨j, h1, h2⟩ := ih h
    refine ⟨j + 1, ?_, ?_⟩
    ·rw [mC_, List.findIdx?_cons]
     have : (((a : Nat) : Int) == (b : Int)) = false := by
      rw [beq_eq_false_iff_ne]
      omega
     simp only [this, h1]
     rfl
    ·rw [mC_, List.eraseIdx_cons_succ, h2, List.erase_cons_tail (by simpa using e), mC_]
theorem qeo {L t : List Nat} {h : Nat} (hp : L.Perm (h :: t)) : (L.erase h).Perm t := by
 have := hp.erase h
 rw [List.erase_cons_head] at this
 exact this
def yK (t b : Nat) (x : Nk) : Nat := x.2.1 * b - x.1 * t
def bdN (t b : Nat) : List Nk -> Nat -> Option Nat
 | [], T => some T
 | x :: ks, T => if x.1 * t < x.2.1 * b then (match x.2.2 with
  | none => none
  | some m => bdN t b ks (T + yK t b x * m)) else bdN t b ks T
def spN (ks : List Nk) : List Nat -> Nat -> Nat × Nat
 | [], _ => (0, 1)
 | p :: l, r => if goN (nAt ks p) r then spN ks l (bhN (nAt ks p) r) else (ue (nAt ks p).2.1 (nAt ks p).1, ul (nAt ks p).2.1 (nAt ks p).1)
theorem qdM {t b : Nat} : ∀ (ks : List Nk) (T : Nat), (∀ x ∈ ks, x.1 * t < x.2.1 * b -> x.2.2.isSome = true) -> bdN t b ks T = some (T + (ks.map fun x => yK t b x * mN x).sum)
 | [], T, _ => by simp [bdN]
 | x :: ks, T, h => by
  have ih := fun T => qdM ks T fun y hy => h y (mM _ hy)
  unfold bdN
  rw [mC_, List.sum_cons]
  by_cases c : x.1 * t < x.2.1 * b
  ·rw [if_pos c]
   obtain ⟨m, hm⟩ := Option.isSome_iff_exists.mp (h x mS_ c)
   have e : mN x = m := by unfold mN; rw [hm]; rfl
   rw [hm, e]
   simp only [ih]
   congr 1
   omega
  ·rw [if_neg c, ih]
   have : yK t b x = 0 := by unfold yK; omega
   rw [this]
   simp
theorem qhz (ks : List Nk) : (List.range ks.length).map (nAt ks) = ks := by
 refine List.ext_getElem (by simp) fun i h1 h2 => ?_
 have := uM (ks := ks) (p := i) h2
 rw [gG h2] at this
 simp [(Option.some.inj this)]
theorem qaX {f : Nat -> Nat} {q : Nat -> Bool} : ∀ l : List Nat, (∀ i ∈ l, q i = false -> f i = 0) -> ((l.filter q).map f).sum = (l.map f).sum
 | [], _ => rfl
 | i :: l, h => by
  have ih := qaX (f := f) (q := q) l fun j hj => h j (mM _ hj)
  cases c : q i with
  | true => rw [List.filter_cons_of_pos c, mC_, mC_, List.sum_cons, List.sum_cons, ih]
  | false =>
   rw [List.filter_cons_of_neg (by rw [c]; simp), mC_, List.sum_cons, ih, h i mS_ c, Nat.zero_add]
theorem qdN {ks : List Nk} {f : Nat -> Nat} (h : ∀ i, (nAt ks i).2.1 = 0 -> f i = 0) : ((List.range ks.length).map f).sum = ((vB ks).map f).sum := by
 rw [((vX ks).map f).sum_nat]
 unfold plN
 rw [qaX]
 intro i _ hi
 refine h i ?_
 simpa using hi
theorem qiq {B : Nat} {v : Nat -> Nat} {u : Nat -> Nk × Nat × Nat} : ∀ (l : List Nat) (s : Nat × Nat) (A : Nat), s.1 * B = s.2 * A -> (∀ i ∈ l, (u i).2.1 * B = v i * (u i).2.2) -> ((l.map u).foldl swS s).1 * B = ((l.map u).foldl swS s).2 * (A + (l.map fun i => v i * (u i).1.2.1).sum)
 | [], s, A, h, _ => by simpa using h
 | i :: l, s, A, h, hv => by
  have h1 := hv i mS_
  have := qiq (B := B) (v := v) (u := u) l (swS s (u i)) (A + v i * (u i).1.2.1) (by
   show (s.1 * (u i).2.2 + (u i).2.1 * (u i).1.2.1 * s.2) * B = s.2 * (u i).2.2 * (A + v i * (u i).1.2.1)
   generalize (u i).2.2 = z2 at *
   generalize (u i).2.1 = z1 at *
   generalize (u i).1.2.1 = g at *
   generalize v i = w at *
   have a1 : s.1 * z2 * B = s.2 * A * z2 := by rw [<- h]; simp only [Nat.mul_comm, Nat.mul_left_comm]
   have a2 : z1 * g * s.2 * B = w * z2 * g * s.2 := by rw [<- h1]; simp only [Nat.mul_comm, Nat.mul_left_comm]
   rw [Nat.add_mul, a1, a2, Nat.mul_add]
   simp only [Nat.mul_comm, Nat.mul_left_comm]) fun j hj => hv j (mM _ hj)
  rw [mC_, fo_, mC_, List.sum_cons]
  rw [Nat.add_assoc] at this
  exact this
theorem qaw {ks : List Nk} : ∀ (l : List Nat) (s : Nat × List (Nat × Nat)) (p : Nat), p ∉ l -> (l.foldl (shS ks) s).2.getD p (0, 1) = s.2.getD p (0, 1)
 | [], s, p, _ => rfl
 | q :: l, s, p, h => by
  rw [fo_, qaw l _ p fun hp => h (mM _ hp)]
  show (s.2.set q _).getD p (0, 1) = _
  have : q ≠ p := fun e => h (by rw [e]; exact mS_)
  simp [List.getD, List.getElem?_set, this]
theorem qgi {F : List (Nat × Nat)} {p : Nat} {z : Nat × Nat} (h : p < F.length) : (F.set p z).getD p (0, 1) = z := by simp [List.getD, h]
theorem sh0 {x : Nk} (h : 0 < x.1) : (shN x 0).1 = 0 /\ bhN x 0 = 0 := by
 unfold shN bhN
 cases c : goN x 0 with
 | false =>
  refine ⟨?_, by simp⟩
  show ue 0 x.1 = 0
  unfold ue
  rw [Nat.zero_div]
 | true =>
  refine ⟨?_, by simp⟩
  show mN x = 0
  unfold goN at c
  unfold mN
  cases e : x.2.2 with
  | none => rfl
  | some m =>
   rw [e] at c
   have : m * x.1 <= 0 := by simpa using c
   rcases Nat.mul_eq_zero.mp (Nat.le_zero.mp this) with h0 | h0
   ·exact h0
   ·omega
theorem qdO {ks : List Nk} (hw : ∀ x ∈ ks, 0 < x.1) : ∀ (l : List Nat) (F : List (Nat × Nat)), (∀ p ∈ l, p < ks.length) -> F.length = ks.length -> l.Nodup -> ∀ p ∈ l, ((l.foldl (shS ks) (0, F)).2.getD p (0, 1)).1 = 0
 | [], F, _, _, _, p, hp => by cases hp
 | q :: l, F, hl, hF, hn, p, hp => by
  have hq := hl q mS_
  obtain ⟨s0, b0⟩ := sh0 (hw _ (z4 hq))
  rw [fo_]
  have es : shS ks (0, F) q = (0, F.set q (shN (nAt ks q) 0)) := by
   show (bhN (nAt ks q) 0, _) = _
   rw [b0]
  rw [es]
  obtain ⟨n1, n2⟩ := List.nodup_cons.mp hn
  rcases List.mem_cons.mp hp with e | hp
  ·subst e
   rw [qaw l _ p n1, qgi (by rw [hF]; exact hq)]
   exact s0
  ·exact qdO hw l _ (fun y hy => hl y (mM _ hy)) (by rw [lS_]; exact hF) n2 p hp
theorem qcm (T : Nat) {B : Nat} (hB : 0 < B) : T * ul T B = B * ue T B := by
 obtain ⟨g, g0, e1, e2, e3, _, _⟩ := qbl T hB
 generalize ue T B = t at *
 generalize ul T B = b at *
 rw [e1, e2]
 simp only [Nat.mul_comm, Nat.mul_left_comm]
theorem qgj (T : Nat) {B : Nat} (hB : 0 < B) : Nat.gcd (ue T B) (ul T B) = 1 := by
 have hg : 0 < Nat.gcd T B := Nat.gcd_pos_of_pos_right _ hB
 show Nat.gcd (T / Nat.gcd T B) (B / Nat.gcd T B) = 1
 rw [Nat.gcd_div (Nat.gcd_dvd_left T B) (Nat.gcd_dvd_right T B)]
 exact Nat.div_self hg
theorem qdP {gp wp gx wx t b : Nat} (hx : 0 < wx) (e : gx * b = wx * t) : (gx * wp <= gp * wx -> wp * t <= gp * b) /\ (gp * wx <= gx * wp -> gp * b <= wp * t) := by
 constructor
 ·intro h
  have a1 : gx * wp * b <= gp * wx * b := Nat.mul_le_mul_right _ h
  have a2 : gx * wp * b = wp * t * wx := by
   rw [Nat.mul_right_comm, e]
   simp only [Nat.mul_comm, Nat.mul_left_comm]
  have a3 : gp * wx * b = gp * b * wx := Nat.mul_right_comm _ _ _
  rw [a2, a3] at a1
  exact Nat.le_of_mul_le_mul_right a1 hx
 ·intro h
  have a1 : gp * wx * b <= gx * wp * b := Nat.mul_le_mul_right _ h
  have a2 : gx * wp * b = wp * t * wx := by
   rw [Nat.mul_right_comm, e]
   simp only [Nat.mul_comm, Nat.mul_left_comm]
  have a3 : gp * wx * b = gp * b * wx := Nat.mul_right_comm _ _ _
  rw [a2, a3] at a1
  exact Nat.le_of_mul_le_mul_right a1 hx
def pv (p a : Nat) (v : Nat -> Nat) (q : Nat) : Nat := if q = p then a else v q
theorem qhA (p a : Nat) (v : Nat -> Nat) : pv p a v p = a := if_pos rfl
theorem qhB {p q a : Nat} {v : Nat -> Nat} (h : q ≠ p) : pv p a v q = v q := if_neg h
structure qnB (ks : List Nk) (l : List Nat) (r : Nat) (F : List (Nat × Nat)) (t b : Nat) : Prop where
 b0 : 0 < b
 g1 : Nat.gcd t b = 1
 at' : (t = 0 /\ b = 1) \/ ∃ x ∈ l, (nAt ks x).2.1 * b = (nAt ks x).1 * t
 fin : ∀ p ∈ l, (nAt ks p).1 * t < (nAt ks p).2.1 * b -> (nAt ks p).2.2.isSome = true
 sum : ∃ (B : Nat) (v : Nat -> Nat), 0 < B /\ (∀ p ∈ l, ((l.foldl (shS ks) (r, F)).2.getD p (0, 1)).1 * B = v p * ((l.foldl (shS ks) (r, F)).2.getD p (0, 1)).2) /\ b * (l.map fun p => v p * (nAt ks p).2.1).sum = B * (r * t + (l.map fun p => yK t b (nAt ks p) * mN (nAt ks p)).sum)
theorem wn {f : Nat -> Nat} : ∀ l : List Nat, (∀ p ∈ l, f p = 0) -> (l.map f).sum = 0
 | [], _ => rfl
 | p :: l, h => by rw [mC_, List.sum_cons, h p mS_, wn l fun q hq => h q (mM _ hq)]
theorem qm1 {ks : List Nk} (hw : ∀ x ∈ ks, 0 < x.1) : ∀ (l : List Nat) (r : Nat) (F : List (Nat × Nat)), (∀ p ∈ l, p < ks.length) -> F.length = ks.length -> l.Nodup -> l.Pairwise (Rx ks) -> qnB ks l r F (spN ks l r).1 (spN ks l r).2
 | [], r, F, _, _, _, _ => ⟨Nat.one_pos, by simp [spN], .inl ⟨rfl, rfl⟩, fun p hp => (nN_ hp).elim, 1, fun _ => 0, Nat.one_pos, fun p hp => (nN_ hp).elim, by simp [spN]⟩
 | p :: l, r, F, hl, hF, hn, hs => by
  have hp := hl p mS_
  have hl' : ∀ y ∈ l, y < ks.length := fun y hy => hl y (mM _ hy)
  obtain ⟨n1, n2⟩ := List.nodup_cons.mp hn
  obtain ⟨s1, s2⟩ := List.pairwise_cons.mp hs
  have w0 := hw _ (z4 hp)
  cases c : goN (nAt ks p) r with
  | true =>
   have e1 : spN ks (p :: l) r = spN ks l (bhN (nAt ks p) r) := by
    show (if goN (nAt ks p) r then _ else _) = _
    rw [if_pos c]
   have eb : bhN (nAt ks p) r = r - mN (nAt ks p) * (nAt ks p).1 := by unfold bhN; rw [if_pos c]
   have es : shN (nAt ks p) r = (mN (nAt ks p), 1) := by unfold shN; rw [if_pos c]
   have hm : (nAt ks p).2.2.isSome = true /\ mN (nAt ks p) * (nAt ks p).1 <= r := by
    unfold goN at c
    unfold mN
    cases em : (nAt ks p).2.2 with
    | none => rw [em] at c; cases c
    | some m => rw [em] at c; exact ⟨rfl, by simpa using c⟩
   have d := qm1 hw l (bhN (nAt ks p) r) (F.set p (shN (nAt ks p) r)) hl' (by rw [lS_]; exact hF) n2 s2
   rw [e1]
   generalize spN ks l (bhN (nAt ks p) r) = tb at *
   obtain ⟨t, b⟩ := tb
   simp only at d |-
   obtain ⟨b0, g1, ha, hf, B, v, hB, hv, hsum⟩ := d
   have hge : (nAt ks p).1 * t <= (nAt ks p).2.1 * b := by
    rcases ha with ⟨rfl, rfl⟩ | ⟨x, hx, ex⟩
    ·simp
    ·exact (qdP (hw _ (z4 (hl' x hx))) ex).1 (s1 x hx).le
   have hfold : (p :: l).foldl (shS ks) (r, F) = l.foldl (shS ks) (bhN (nAt ks p) r, F.set p (shN (nAt ks p) r)) := rfl
   refine ⟨b0, g1, ?_, fun q hq => ?_, B, pv p (B * mN (nAt ks p)) v, hB, fun q hq => ?_, ?_⟩
   ·rcases ha with h | ⟨x, hx, ex⟩
    ·exact .inl h
    ·exact .inr ⟨x, mM _ hx, ex⟩
   ·rcases List.mem_cons.mp hq with e | hq
    ·subst e; exact fun _ => hm.1
    ·exact hf q hq
   ·rw [hfold]
    rcases List.mem_cons.mp hq with e | hq
    ·subst e
     rw [qaw l _ q n1]
     show ((F.set q (shN (nAt ks q) r)).getD q (0, 1)).1 * B = _ * ((F.set q (shN (nAt ks q) r)).getD q (0, 1)).2
     rw [qgi (by rw [hF]; exact hp), es, qhA]
     simp only [Nat.mul_one]
     exact Nat.mul_comm _ _
    ·have : q ≠ p := fun e => n1 (e ▸ hq)
     rw [qhB this]
     exact hv q hq
   ·have ev : (l.map fun q => pv p (B * mN (nAt ks p)) v q * (nAt ks q).2.1) = l.map fun q => v q * (nAt ks q).2.1 := mL_ fun q hq => by
     have : q ≠ p := fun e => n1 (e ▸ hq)
     rw [qhB this]
    rw [mC_, mC_, List.sum_cons, List.sum_cons, ev, qhA, Nat.mul_add, hsum, eb]
    generalize (l.map fun p => yK t b (nAt ks p) * mN (nAt ks p)).sum = S at *
    unfold yK
    generalize mN (nAt ks p) = m at *
    generalize (nAt ks p).1 = w at *
    generalize (nAt ks p).2.1 = g at *
    obtain ⟨q, rfl⟩ : ∃ q, r = m * w + q := ⟨r - m * w, by omega⟩
    obtain ⟨z, hz⟩ : ∃ z, g * b = w * t + z := ⟨g * b - w * t, by omega⟩
    rw [hz, Nat.add_sub_cancel_left, Nat.add_sub_cancel_left]
    have : b * (B * m * g) = B * (m * (w * t + z)) := by
     rw [<- hz]
     simp only [Nat.mul_comm, Nat.mul_left_comm]
    rw [this, <- Nat.mul_add]
    congr 1
    rw [Nat.mul_add, Nat.add_mul]
    have a1 : m * (w * t) = m * w * t := (Nat.mul_assoc _ _ _).symm
    have a2 : z * m = m * z := Nat.mul_comm _ _
    omega
  | false =>
   have e1 : spN ks (p :: l) r = (ue (nAt ks p).2.1 (nAt ks p).1, ul (nAt ks p).2.1 (nAt ks p).1) := by
    show (if goN (nAt ks p) r then _ else _) = _
    rw [if_neg (by rw [c]; simp)]
   have eb : bhN (nAt ks p) r = 0 := by unfold bhN; rw [if_neg (by rw [c]; simp)]
   have es : shN (nAt ks p) r = (ue r (nAt ks p).1, ul r (nAt ks p).1) := by unfold shN; rw [if_neg (by rw [c]; simp)]
   have hfold : (p :: l).foldl (shS ks) (r, F) = l.foldl (shS ks) (0, F.set p (shN (nAt ks p) r)) := by rw [<- eb]; rfl
   rw [e1]
   have ex := qcm (nAt ks p).2.1 w0
   have er := qcm r w0
   have lb := qbn (nAt ks p).2.1 w0
   have lr := qbn r w0
   have gg := qgj (nAt ks p).2.1 w0
   simp only
   generalize ue (nAt ks p).2.1 (nAt ks p).1 = t at *
   generalize ul (nAt ks p).2.1 (nAt ks p).1 = b at *
   have hle : ∀ q ∈ l, (nAt ks q).2.1 * b <= (nAt ks q).1 * t := fun q hq => (qdP w0 ex).2 (s1 q hq).le
   have m0 : ∀ q ∈ p :: l, yK t b (nAt ks q) = 0 := fun q hq => by
    unfold yK
    rcases List.mem_cons.mp hq with e | hq
    ·subst e; omega
    ·have := hle q hq; omega
   refine ⟨lb.1, gg, .inr ⟨p, mS_, ex⟩, fun q hq h => ?_, ul r (nAt ks p).1, pv p (ue r (nAt ks p).1) (fun _ => 0), lr.1, fun q hq => ?_, ?_⟩
   ·have := m0 q hq
    unfold yK at this
    omega
   ·rw [hfold]
    rcases List.mem_cons.mp hq with e | hq
    ·subst e
     rw [qaw l _ q n1]
     show ((F.set q (shN (nAt ks q) r)).getD q (0, 1)).1 * _ = _ * ((F.set q (shN (nAt ks q) r)).getD q (0, 1)).2
     rw [qgi (by rw [hF]; exact hp), es, qhA]
    ·have : q ≠ p := fun e => n1 (e ▸ hq)
     rw [qhB this, Nat.zero_mul, qdO hw l _ hl' (by rw [lS_]; exact hF) n2 q hq, Nat.zero_mul]
   ·rw [wn (p :: l) (f := fun q => yK t b (nAt ks q) * mN (nAt ks q)) fun q hq => by rw [m0 q hq, Nat.zero_mul]]
    rw [mC_, List.sum_cons, wn l (f := fun q => pv p (ue r (nAt ks p).1) (fun _ => 0) q * (nAt ks q).2.1) fun q hq => by
     have : q ≠ p := fun e => n1 (e ▸ hq)
     rw [qhB this, Nat.zero_mul], qhA, Nat.add_zero, Nat.add_zero]
    generalize ue r (nAt ks p).1 = u at *
    generalize ul r (nAt ks p).1 = B at *
    generalize (nAt ks p).1 = w at *
    generalize (nAt ks p).2.1 = g at *
    have a1 : b * (u * g) = u * (g * b) := by simp only [Nat.mul_comm, Nat.mul_left_comm]
    have a2 : B * (r * t) = r * B * t := by simp only [Nat.mul_comm, Nat.mul_left_comm]
    rw [a1, a2, ex, er]
    simp only [Nat.mul_comm, Nat.mul_left_comm]
def jm (ks : List Nk) (r : Nat) : Nat × Nat := spN ks (vB ks) r
theorem qdQ {ks : List Nk} (hw : ∀ x ∈ ks, 0 < x.1) (r : Nat) : 0 < (jm ks r).2 /\ Nat.gcd (jm ks r).1 (jm ks r).2 = 1 := by
 have d := qm1 hw (vB ks) r (List.replicate ks.length (0, 1)) (fun p hp => (uZ.mp hp).1) List.length_replicate (qaW ks) (vx hw)
 exact ⟨d.b0, d.g1⟩
theorem qcY {ks : List Nk} (hw : ∀ x ∈ ks, 0 < x.1) (r : Nat) : ∃ T, bdN (jm ks r).1 (jm ks r).2 ks (r * (jm ks r).1) = some T /\ T * (swN ks r).2 = (swN ks r).1 * (jm ks r).2 := by
 have d := qm1 hw (vB ks) r (List.replicate ks.length (0, 1)) (fun p hp => (uZ.mp hp).1) List.length_replicate (qaW ks) (vx hw)
 have d' : qnB ks (vB ks) r (List.replicate ks.length (0, 1)) (jm ks r).1 (jm ks r).2 := d
 generalize (jm ks r).1 = t at *
 generalize (jm ks r).2 = b at *
 obtain ⟨b0, g1, ha, hf, B, v, hB, hv, hsum⟩ := d'
 refine ⟨_, qdM ks _ fun x hx hlt => ?_, ?_⟩
 ·obtain ⟨i, hi⟩ := List.mem_iff_getElem?.mp hx
  have hil : i < ks.length := (gI_.mp hi).1
  rw [uM hil] at hi
  cases hi
  refine hf i (uZ.mpr ⟨hil, ?_⟩) hlt
  refine Nat.pos_of_ne_zero fun e => ?_
  rw [e, Nat.zero_mul] at hlt
  omega
 ·have e1 : (ks.map fun x => yK t b x * mN x) = (List.range ks.length).map fun i => yK t b (nAt ks i) * mN (nAt ks i) := by
   conv => lhs; rw [<- qhz ks]
   rw [mm_]
   rfl
  rw [e1, qdN (f := fun i => yK t b (nAt ks i) * mN (nAt ks i)) fun i h => by
   unfold yK
   rw [h, Nat.zero_mul, Nat.zero_sub, Nat.zero_mul]]
  let v' : Nat -> Nat := fun i => if i ∈ vB ks then v i else 0
  have hz : ks.zip (shs ks r) = (List.range ks.length).map fun i => (nAt ks i, (shs ks r).getD i (0, 1)) := by
   refine List.ext_getElem (by simp [qbo]) fun i h1 h2 => ?_
   have hi : i < ks.length := by simpa using h2
   have := uM hi
   rw [gG hi] at this
   have hi2 : i < (shs ks r).length := by rw [qbo]; exact hi
   simp [Option.some.inj this, hi2]
  have val := qiq (B := B) (v := v') (u := fun i => (nAt ks i, (shs ks r).getD i (0, 1))) (List.range ks.length) (0, 1) 0 (by simp) fun i hi => by
   show ((shs ks r).getD i (0, 1)).1 * B = v' i * ((shs ks r).getD i (0, 1)).2
   by_cases hd : i ∈ vB ks
   ·show _ = (if i ∈ vB ks then v i else 0) * _
    rw [if_pos hd]
    exact hv i hd
   ·show _ = (if i ∈ vB ks then v i else 0) * _
    rw [if_neg hd, Nat.zero_mul]
    have : (shs ks r).getD i (0, 1) = (List.replicate ks.length ((0 : Nat), (1 : Nat))).getD i (0, 1) := qaw (vB ks) _ i hd
    rw [this]
    have hi' : i < ks.length := mR_.mp hi
    simp [List.getD, hi']
  rw [<- hz, qdN (f := fun i => v' i * (nAt ks i).2.1) fun i h => by rw [h, Nat.mul_zero]] at val
  have ev : ((vB ks).map fun i => v' i * (nAt ks i).2.1) = (vB ks).map fun i => v i * (nAt ks i).2.1 := mL_ fun i hi => by
   show (if i ∈ vB ks then v i else 0) * _ = _
   rw [if_pos hi]
  rw [ev] at val
  have val' : (swN ks r).1 * B = (swN ks r).2 * ((vB ks).map fun i => v i * (nAt ks i).2.1).sum := by
   have : (ks.zip (shs ks r)).foldl swS (0, 1) = swN ks r := rfl
   rw [this, Nat.zero_add] at val
   exact val
  generalize ((vB ks).map fun i => v i * (nAt ks i).2.1).sum = X at *
  generalize (r * t + ((vB ks).map fun i => yK t b (nAt ks i) * mN (nAt ks i)).sum) = Y at *
  generalize (swN ks r).1 = N at *
  generalize (swN ks r).2 = Dn at *
  have : B * (Y * Dn) = B * (N * b) := by
   have a1 : B * (Y * Dn) = B * Y * Dn := (Nat.mul_assoc _ _ _).symm
   have a2 : B * (N * b) = N * B * b := by simp only [Nat.mul_comm, Nat.mul_left_comm]
   rw [a1, a2, <- hsum, val']
   simp only [Nat.mul_comm, Nat.mul_left_comm]
  exact Nat.eq_of_mul_eq_mul_left hB this
def top (i : Nat) : Stmt := PySem.Challenge.pw_sackloads_k25_prices_and_bounds.main.body.getD i (.Pass ⟨0, 0, 0, 0⟩)
abbrev z5 : Stmt := top 49
abbrev zg : Stmt := top 27
abbrev qP : Stmt := top 28
abbrev jW : Stmt := top 29
abbrev jf : Stmt := top 30
abbrev qW : Stmt := top 23
abbrev zS : Stmt := top 24
abbrev yw : Stmt := top 13
abbrev yx : Stmt := top 14
abbrev z6 : Stmt := top 18
abbrev y9 : Stmt := top 15
abbrev jX : Stmt := top 16
abbrev z7 : Stmt := top 17
abbrev z8 : Stmt := top 33
abbrev yy : Stmt := top 31
abbrev yz : Stmt := top 25
abbrev z9 : Stmt := top 26
abbrev vy : Stmt := top 32
abbrev jY : Stmt := top 50
abbrev jg : Stmt := top 43
abbrev jx : Stmt := top 39
abbrev zL : Stmt := top 48
abbrev jZ : Stmt := top 38
abbrev zv : Stmt := top 42
abbrev yA : Stmt := top 44
abbrev zM : Stmt := top 47
abbrev qX : Stmt := top 46
abbrev qR : Stmt := top 45
abbrev zT : Stmt := top 40
abbrev zU : Stmt := top 41
abbrev yB : Stmt := top 36
abbrev j4 : Stmt := top 35
abbrev yC : Stmt := top 37
abbrev qbu : Stmt := top 51
structure Txt (K : PySem.W.Frag) (mg : Str -> Option Value) : Prop where
 b_ValueError : mg "ValueError" = none
 b_abs : mg "abs" = none
 b_all : mg "all" = none
 b_bool : mg "bool" = none
 b_divmod : mg "divmod" = none
 b_enumerate : mg "enumerate" = none
 b_int : mg "int" = none
 b_isinstance : mg "isinstance" = none
 b_len : mg "len" = none
 b_max : mg "max" = none
 b_min : mg "min" = none
 b_range : mg "range" = none
 b_repr : mg "repr" = none
 b_sorted : mg "sorted" = none
 b_tuple : mg "tuple" = none
 c_BOTTOM : ∃ t, mg "BOTTOM" = some (.int 1 t)
 c_KINDS_AT_MOST : ∃ t, mg "KINDS_AT_MOST" = some (.int 12 t)
 c_MOST : ∃ t, mg "MOST" = some (.int 2 t)
 c_NOTHING : ∃ a, mg "NOTHING" = some (.ref a) /\ qkh K a [0, 1]
 c_TOP : ∃ t, mg "TOP" = some (.int 0 t)
 c_WEIGHT : ∃ t, mg "WEIGHT" = some (.int 0 t)
 c_WORTH : ∃ t, mg "WORTH" = some (.int 1 t)
def RN : List Str := ["NoNumber", "NoStore"]
def TN : List Str := ["SackError", "NoText", "NotSingle", "TooMany", "NoLoad", "NoNumber", "NoStore"]
abbrev rI_ (i : Int) : M D := ret (.int i)
noncomputable def yQ : MS :=
  (qN (sif (tor (vj (tst (qee RN "SackError" (dv 0)))) (vj (tst (qee RN "ValueError" (dv 0))))) (jv (ret (.str "other"))) yu)
  (qN (zf 1 (uE (qc (qee RN "NoStore" (dv 0)) (qc (qee RN "NoNumber" (dv 0)) (qc (qee RN "NoLoad" (dv 0)) (qc (qee RN "TooMany" (dv 0)) (ret [])))))))
  (qN (zf 1 (d2 uT (dv 1) (uE (qc (qee RN "NotSingle" (dv 0)) (qc (qee RN "NoText" (dv 0)) (ret []))))))
  (qN (sif (tst (d2 neS (qfD qdu (dv 1) (qc (ret (.bl true)) (ret []))) (rI_ 1))) (jv (ret (.str "other"))) yu)
  (jv (d2 ixD (uE (qc (ret (.str "store")) (qc (ret (.str "number")) (qc (ret (.str "load")) (qc (ret (.str "many")) (qc (ret (.str "single")) (qc (ret (.str "text")) (ret [])))))))) (qfD qdv (dv 1) (qc (ret (.bl true)) (ret [])))))))))
noncomputable def yR : List D -> R D := dfn 2 1 yQ
noncomputable def j6 : MS :=
  (qN (zf 1 (rI_ 1))
  (qN (qcw (qcG (dv 0)) (qE 2) (zf 1 (d2 zB (dv 1) (d2 ixD (dv 2) (rI_ 0)))))
  (jv (dv 1))))
noncomputable def jh : List D -> R D := dfn 3 1 j6
noncomputable def jK : MS :=
  (qN (zf 1 (qo jh (qc (dv 0) (ret []))))
  (qN (zf 2 (qbV 2 [] none (qfB (qc (dv 0) (ret []))) (qcv 2 (zR (qE 0) (zR (qE 1) qcu))) (tst (d2 gtD (d2 ixD (dv 1) (rI_ 1)) (rI_ 0))) (dv 0)))
  (jv (qdF 3 [1, 0] (dv 2) (d2 zB (d1 qb0 (d2 ixD (d2 ixD (dv 2) (dv 0)) (rI_ 1))) (d2 vm (dv 1) (d2 ixD (d2 ixD (dv 2) (dv 0)) (rI_ 0))))))))
noncomputable def zN : List D -> R D := dfn 3 1 jK
noncomputable def vz : MS :=
  (jv (qeu (d2 qe3 (d2 ixD (dv 0) (rI_ 2)) (ret .non)) (d2 leD (d2 zB (d2 ixD (dv 0) (rI_ 2)) (d2 ixD (dv 0) (rI_ 0))) (dv 1))))
noncomputable def ja : List D -> R D := dfn 2 2 vz
noncomputable def uo : MS :=
  (jv (dif (tst (qo ja (qc (dv 0) (qc (dv 1) (ret []))))) (d2 qa5 (dv 1) (d2 zB (d2 ixD (dv 0) (rI_ 2)) (d2 ixD (dv 0) (rI_ 0)))) (rI_ 0)))
noncomputable def ji : List D -> R D := dfn 2 2 uo
noncomputable def jL : MS :=
  (qN (wL (tst (d2 gtD (dv 1) (rI_ 0))) (qN (zf 2 (d2 qcD (dv 0) (dv 1)))
  (qN (zf 0 (dv 1))
  (zf 1 (dv 2)))))
  (jv (dv 0)))
noncomputable def zy : List D -> R D := dfn 3 2 jL
noncomputable def yX : MS :=
  (qN (zf 2 (qo zy (qc (dv 0) (qc (dv 1) (ret [])))))
  (jv (yn (qc (d2 vm (dv 0) (dv 2)) (qc (d2 vm (dv 1) (dv 2)) (ret []))))))
noncomputable def zE : List D -> R D := dfn 3 2 yX
noncomputable def wu : MS :=
  (jv (qeu (qev "int" (dv 0)) (qkW (qev "bool" (dv 0)))))
noncomputable def u0 : List D -> R D := dfn 1 1 wu
noncomputable def wv : MS :=
  (jv (qeu (qo u0 (qc (dv 0) (ret []))) (d2 geD (dv 0) (rI_ 0))))
noncomputable def zj : List D -> R D := dfn 1 1 wv
noncomputable def yg : MS :=
  (sif (vj (tst (qo zj (qc (dv 0) (ret []))))) (qaS "NoNumber" (qc (ret (.str "this is no whole number from 0 on")) (ret []))) yu)
noncomputable def jb : List D -> R D := qbf 1 1 yg
noncomputable def qax : MS :=
  (qN (sif (tor (vj (tst (qev "tuple" (dv 0)))) (tst (d2 neB (zV qaM (qc (dv 0) (ret []))) (rI_ 3)))) (jv (ret (.bl false))) yu)
  (qN (sif (tor (vj (tst (qo zj (qc (d2 ixD (dv 0) (rI_ 0)) (ret []))))) (tst (d2 eqB (d2 ixD (dv 0) (rI_ 0)) (rI_ 0)))) (jv (ret (.bl false))) yu)
  (jv (qeu (qo zj (qc (d2 ixD (dv 0) (rI_ 1)) (ret []))) (dor (d2 isN (d2 ixD (dv 0) (rI_ 2)) (ret .non)) (qo zj (qc (d2 ixD (dv 0) (rI_ 2)) (ret []))))))))
noncomputable def uN : List D -> R D := dfn 1 1 qax
noncomputable def ww : MS :=
  (qN (sif (tor (vj (tst (qev "tuple" (dv 0)))) (tst (d2 gtD (zV qaM (qc (dv 0) (ret []))) (rI_ 12)))) (jv (ret (.bl false))) yu)
  (jv (zV qkg (qc (qbV 1 [] none (qcG (dv 0)) (qE 0) (ret true) (qo uN (qc (dv 0) (ret [])))) (ret [])))))
noncomputable def u3 : List D -> R D := dfn 1 1 ww
noncomputable def yS : MS :=
  (sif (vj (tst (qo u3 (qc (dv 0) (ret []))))) (qaS "NoStore" (qc (ret (.str "this is no store")) (ret []))) yu)
noncomputable def yh : List D -> R D := qbf 1 1 yS
noncomputable def jy : MS :=
  (qN (uF (yM RN yh (qc (dv 0) (ret []))))
  (qN (uF (yM RN jb (qc (dv 1) (ret []))))
  (qN (zf 2 (dv 1))
  (qN (qcw (qcG (qo zN (qc (dv 0) (ret [])))) (qE 3) (qN (sif (vj (tst (qo ja (qc (d2 ixD (dv 0) (dv 3)) (qc (dv 2) (ret [])))))) (jv (qo zE (qc (d2 ixD (d2 ixD (dv 0) (dv 3)) (rI_ 1)) (qc (d2 ixD (d2 ixD (dv 0) (dv 3)) (rI_ 0)) (ret []))))) yu)
  (zf 2 (qo ji (qc (d2 ixD (dv 0) (dv 3)) (qc (dv 2) (ret [])))))))
  (jv (ret (.tup [.int 0, .int 1])))))))
noncomputable def jz : List D -> R D := qbf 4 2 jy
noncomputable def u4 : MS :=
  (qN (zf 3 (d2 zB (dv 1) (d2 ixD (dv 2) (rI_ 0))))
  (qN (qcw (qcG (dv 0)) (qE 4) (qN (zf 5 (d2 qa5 (d2 zB (d2 ixD (dv 4) (rI_ 1)) (d2 ixD (dv 2) (rI_ 1))) (d2 zB (d2 ixD (dv 4) (rI_ 0)) (d2 ixD (dv 2) (rI_ 0)))))
  (qN (sif (qbD (tst (d2 gtD (dv 5) (rI_ 0))) (tst (d2 isN (d2 ixD (dv 4) (rI_ 2)) (ret .non)))) (jv (ret .non)) yu)
  (sif (tst (d2 gtD (dv 5) (rI_ 0))) (zf 3 (d2 uT (dv 3) (d2 zB (dv 5) (d2 ixD (dv 4) (rI_ 2))))) yu))))
  (jv (qo zE (qc (dv 3) (qc (d2 ixD (dv 2) (rI_ 1)) (ret [])))))))
noncomputable def u5 : List D -> R D := dfn 6 3 u4
noncomputable def wA : MS :=
  (qN (sif (tor (vj (tst (qev "tuple" (dv 0)))) (tst (d2 neB (zV qaM (qc (dv 0) (ret []))) (rI_ 2)))) (jv (ret (.bl false))) yu)
  (qN (sif (tor (vj (tst (qo zj (qc (d2 ixD (dv 0) (rI_ 0)) (ret []))))) (tor (vj (tst (qo zj (qc (d2 ixD (dv 0) (rI_ 1)) (ret []))))) (tst (d2 eqB (d2 ixD (dv 0) (rI_ 1)) (rI_ 0))))) (jv (ret (.bl false))) yu)
  (jv (d2 eqB (qo zy (qc (d2 ixD (dv 0) (rI_ 0)) (qc (d2 ixD (dv 0) (rI_ 1)) (ret [])))) (rI_ 1)))))
noncomputable def u6 : List D -> R D := dfn 1 1 wA
noncomputable def yi : MS :=
  (sif (vj (tst (qo u6 (qc (dv 0) (ret []))))) (qaS "NoNumber" (qc (ret (.str "this is no price: no fraction from 0 on in lowest terms")) (ret []))) yu)
noncomputable def jA : List D -> R D := qbf 1 1 yi
noncomputable def wB : MS :=
  (qN (uF (yM RN yh (qc (dv 0) (ret []))))
  (qN (uF (yM RN jb (qc (dv 1) (ret []))))
  (qN (uF (yM RN jA (qc (dv 2) (ret []))))
  (jv (qo u5 (qc (dv 0) (qc (dv 1) (qc (dv 2) (ret [])))))))))
noncomputable def uq : List D -> R D := qbf 3 3 wB
noncomputable def j7 : MS :=
  (qfI RN (qN (sif (tst (d2 eqB (dv 0) (rI_ 0))) (jv (yM RN uq (qc (dv 1) (qc (dv 2) (qc (dv 3) (ret [])))))) yu)
  (jv (yM RN jz (qc (dv 1) (qc (dv 2) (ret [])))))) yR)
noncomputable def qI : List D -> R D := dfn 5 4 j7
noncomputable def ur : MS :=
  (qN (wL (tst (d2 neB (dv 1) (rI_ 0))) (qgs 0 1 (qc (dv 1) (qc (d2 qcD (dv 0) (dv 1)) (ret [])))))
  (jv (dv 0)))
noncomputable def jM : List D -> R D := dfn 2 2 ur
noncomputable def uO : MS :=
  (jv (qeu (qev "int" (dv 0)) (qkW (qev "bool" (dv 0)))))
noncomputable def zA : List D -> R D := dfn 1 1 uO
noncomputable def jc : MS :=
  (qN (sif (tor (vj (tst (qev "tuple" (dv 0)))) (tor (tst (d2 neB (zV qaM (qc (dv 0) (ret []))) (rI_ 2))) (tor (vj (tst (qo zA (qc (d2 ixD (dv 0) (rI_ 0)) (ret []))))) (vj (tst (qo zA (qc (d2 ixD (dv 0) (rI_ 1)) (ret [])))))))) (jv (ret (.bl false))) yu)
  (jv (qeu (d2 geD (d2 ixD (dv 0) (rI_ 0)) (rI_ 0)) (qeu (d2 geD (d2 ixD (dv 0) (rI_ 1)) (rI_ 1)) (d2 eqB (qo jM (qc (d2 ixD (dv 0) (rI_ 0)) (qc (d2 ixD (dv 0) (rI_ 1)) (ret [])))) (rI_ 1))))))
noncomputable def zl : List D -> R D := dfn 1 1 jc
noncomputable def ut : MS :=
  (qN (qgG (zV qaj (qc (qdg 0 (rI_ 0)) (qc (dv 1) (ret [])))) (qcv 2 (zR (qE 2) (zR (qE 3) qcu))))
  (qN (vJ 0 (rI_ 0) (dv 2))
  (jv (dv 3))))
noncomputable def ql : List D -> List D -> R (D × List D) := v5 4 2 ut
noncomputable def js : MS :=
  (qN (zf 1 (uE (qc (ret .non) (qc (ret (.bl true)) (qc (ret (.bl false)) (qc (d1 qb0 (rI_ 1)) (qc (ret (.str "")) (qc (ret (.str "1")) (qc (yn (qc (rI_ 0) (ret []))) (qc (uE (qc (rI_ 1) (ret []))) (qc (ret (.dic [(.inr "a", 1)])) (qc (yn (qc (d1 qb0 (rI_ 1)) (ret []))) (qc (yn (qc (ret (.bl true)) (ret []))) (qc (yn (qc (yn (qc (rI_ 1) (qc (rI_ 2) (ret [])))) (ret []))) (qc (yn (qc (ret .non) (ret []))) (qc (d2 qi6 (rI_ 10) (rI_ 29)) (ret [])))))))))))))))))
  (qN (zf 1 (d2 uT (dv 1) (uE (qc (yn (qc (rI_ 1) (qc (rI_ 2) (qc (rI_ 3) (ret []))))) (qc (yn (qc (yn (qc (rI_ 0) (qc (rI_ 1) (qc (rI_ 1) (ret []))))) (ret []))) (qc (yn (qc (yn (qc (rI_ 1) (qc (d1 qb0 (rI_ 1)) (qc (rI_ 1) (ret []))))) (ret []))) (qc (yn (qc (yn (qc (rI_ 1) (qc (rI_ 1) (qc (d1 qb0 (rI_ 1)) (ret []))))) (ret []))) (qc (uE (qc (yn (qc (rI_ 1) (qc (rI_ 1) (qc (rI_ 1) (ret []))))) (ret []))) (qc (ret (.dic [(.inl 0, 1)])) (qc (ret (.str "1/1*1")) (qc (yn (qc (yn (qc (rI_ 1) (qc (rI_ 1) (qc (ret (.bl true)) (ret []))))) (ret []))) (ret []))))))))))))
  (jv (d2 ixD (dv 1) (qx ql 0 (qc (rI_ 22) (ret [])))))))
noncomputable def jt : List D -> List D -> R (D × List D) := v5 2 1 js
noncomputable def wC : MS :=
  (qN (zf 2 (qo jM (qc (dv 0) (qc (dv 1) (ret [])))))
  (jv (yn (qc (d2 vm (dv 0) (dv 2)) (qc (d2 vm (dv 1) (dv 2)) (ret []))))))
noncomputable def qK : List D -> R D := dfn 3 2 wC
noncomputable def jN : MS :=
  (qN (zf 3 (d2 zB (dv 1) (d2 ixD (dv 2) (rI_ 0))))
  (qN (qcw (qcG (dv 0)) (qcv 3 (zR (qE 4) (zR (qE 5) (zR (qE 6) qcu)))) (qN (zf 7 (d2 qa5 (d2 zB (dv 5) (d2 ixD (dv 2) (rI_ 1))) (d2 zB (dv 4) (d2 ixD (dv 2) (rI_ 0)))))
  (sif (tst (d2 gtD (dv 7) (rI_ 0))) (qN (sif (tst (d2 isN (dv 6) (ret .non))) (jv (ret .non)) yu)
  (zf 3 (d2 uT (dv 3) (d2 zB (dv 7) (dv 6))))) yu)))
  (jv (qo qK (qc (dv 3) (qc (d2 ixD (dv 2) (rI_ 1)) (ret [])))))))
noncomputable def zn : List D -> R D := dfn 8 3 jN
noncomputable def jO : MS :=
  (qN (qgG (yn (qc (rI_ 0) (qc (rI_ 1) (ret [])))) (qcv 2 (zR (qE 2) (zR (qE 3) qcu))))
  (qN (qcw (wR (qc (zV qaM (qc (dv 0) (ret []))) (ret []))) (qE 4) (qN (zf 2 (d2 uT (d2 zB (dv 2) (d2 ixD (d2 ixD (dv 1) (dv 4)) (rI_ 1))) (d2 zB (d2 zB (d2 ixD (d2 ixD (dv 0) (dv 4)) (rI_ 1)) (d2 ixD (d2 ixD (dv 1) (dv 4)) (rI_ 0))) (dv 3))))
  (zf 3 (d2 zB (dv 3) (d2 ixD (d2 ixD (dv 1) (dv 4)) (rI_ 1))))))
  (jv (qo qK (qc (dv 2) (qc (dv 3) (ret [])))))))
noncomputable def zY : List D -> R D := dfn 5 2 jO
noncomputable def yk : MS :=
  (qN (qal 2 (qhg 1 [0] none (wR (qc (zV qaM (qc (dv 0) (ret []))) (ret []))) (qE 0) (tst (d2 gtD (d2 ixD (d2 ixD (dv 1) (dv 0)) (rI_ 1)) (rI_ 0))) (dv 0)))
  (qN (qal 3 (qlv (uE (qc (yn (qc (rI_ 0) (qc (rI_ 1) (ret [])))) (ret []))) (zV qaM (qc (dv 0) (ret [])))))
  (qN (wL (tst (qex 2 (uE (ret [])))) (qN (zf 4 (qdg 2 (rI_ 0)))
  (qN (qcQ 2 (qE 5) (sif (tst (d2 gtD (d2 zB (d2 ixD (d2 ixD (dv 0) (dv 5)) (rI_ 1)) (d2 ixD (d2 ixD (dv 0) (dv 4)) (rI_ 0))) (d2 zB (d2 ixD (d2 ixD (dv 0) (dv 4)) (rI_ 1)) (d2 ixD (d2 ixD (dv 0) (dv 5)) (rI_ 0))))) (zf 4 (dv 5)) yu))
  (qN (uF (uK 2 (dv 4)))
  (qN (qgG (d2 ixD (dv 0) (dv 4)) (qcv 3 (zR (qE 6) (zR (qE 7) (zR (qE 8) qcu)))))
  (sif (qbD (tst (d2 qe3 (dv 8) (ret .non))) (tst (d2 leD (d2 zB (dv 8) (dv 6)) (dv 1)))) (qN (vJ 3 (dv 4) (yn (qc (dv 8) (qc (rI_ 1) (ret [])))))
  (zf 1 (d2 qa5 (dv 1) (d2 zB (dv 8) (dv 6))))) (qN (vJ 3 (dv 4) (qo qK (qc (dv 1) (qc (dv 6) (ret [])))))
  (zf 1 (rI_ 0)))))))))
  (jv (qd4 3)))))
noncomputable def ju : List D -> R D := dfn 9 2 yk
noncomputable def ya : MS :=
  (qN (zf 2 (qx ql 0 (qc (rI_ 6) (ret []))))
  (qN (qgs 3 4 (qc (d2 uT (rI_ 1) (qx ql 0 (qc (rI_ 7) (ret [])))) (qc (qx ql 0 (qc (rI_ 10) (ret []))) (ret []))))
  (qN (sif (tst (d2 eqB (dv 2) (rI_ 1))) (zf 4 (d2 zB (rI_ 2) (dv 3))) yu)
  (qN (sif (tst (d2 eqB (dv 2) (rI_ 2))) (zf 4 (d2 uT (dv 3) (qx ql 0 (qc (rI_ 3) (ret []))))) yu)
  (qN (sif (tst (d2 eqB (dv 2) (rI_ 3))) (qgs 3 4 (qc (d2 uT (rI_ 1) (qx ql 0 (qc (rI_ 25) (ret [])))) (qc (qx ql 0 (qc (rI_ 40) (ret []))) (ret [])))) yu)
  (qN (zf 5 (d2 ixD (uE (qc (rI_ 1) (qc (rI_ 1) (qc (rI_ 1) (qc (rI_ 2) (qc (rI_ 3) (qc (rI_ 0) (qc (rI_ 5) (qc (dv 1) (ret [])))))))))) (qx ql 0 (qc (rI_ 8) (ret [])))))
  (jv (yn (qc (dv 3) (qc (dv 4) (qc (dv 5) (ret []))))))))))))
noncomputable def zF : List D -> List D -> R (D × List D) := v5 6 2 ya
noncomputable def yb : MS :=
  (qN (qal 3 (qma (ret [])))
  (qN (qcw (wR (qc (qx ql 0 (qc (d2 uT (dv 1) (rI_ 1)) (ret []))) (ret []))) (qE 4) (qN (zf 5 (qx zF 0 (qc (dv 2) (ret []))))
  (qN (sif (qbD (tst (qex 3 (uE (ret [])))) (tst (d2 eqB (qx ql 0 (qc (rI_ 7) (ret []))) (rI_ 6)))) (zf 5 (qdg 3 (qx ql 0 (qc (qbW 3) (ret []))))) yu)
  (uF (vp 3 (dv 5))))))
  (jv (qd4 3))))
noncomputable def yc : List D -> List D -> R (D × List D) := v5 6 3 yb
noncomputable def wD : MS :=
  (qN (zf 2 (uE (qc (rI_ 48271) (qc (rI_ 69621) (qc (rI_ 16807) (qc (rI_ 39373) (qc (rI_ 30269) (qc (rI_ 40014) (qc (rI_ 40692) (qc (rI_ 50021) (qc (rI_ 61687) (qc (rI_ 71993) (qc (rI_ 83869) (qc (rI_ 95561) (qc (rI_ 30307) (ret []))))))))))))))))
  (qN (zf 3 (d2 uT (d2 uT (d2 zB (d2 uT (d2 qcD (dv 0) (rI_ 2147483647)) (rI_ 12345)) (d2 ixD (dv 2) (d2 qcD (dv 1) (rI_ 13)))) (d2 zB (rI_ 977) (dv 1))) (d2 zB (rI_ 7919) (d2 vm (dv 1) (rI_ 13)))))
  (qN (zf 3 (d2 qcD (dv 3) (rI_ 1000000007)))
  (jv (d2 vm (d2 qcD (d2 uT (d2 zB (dv 3) (dv 3)) (d2 zB (rI_ 48271) (dv 1))) (rI_ 1000000007)) (rI_ 7))))))
noncomputable def yD : List D -> R D := dfn 4 2 wD
noncomputable def uu : MS :=
  (qN (sif (tst (d2 ltD (dv 1) (zV qaM (qc (dv 0) (ret []))))) (jv (d2 ixD (dv 0) (dv 1))) yu)
  (jv (rI_ 0)))
noncomputable def j8 : List D -> R D := dfn 2 2 uu
noncomputable def u7 : MS :=
  (qN (zf 2 (qo j8 (qc (dv 0) (qc (dv 1) (ret [])))))
  (qN (sif (tst (d2 eqB (d2 qcD (dv 2) (rI_ 2)) (rI_ 0))) (jv (uE (qc (d2 vm (zV ql8 (qc (dv 2) (ret []))) (rI_ 2)) (ret [])))) yu)
  (qN (zf 3 (rI_ 0))
  (qN (qcw (wR (qc (rI_ 40) (ret []))) (qE 4) (zf 3 (d2 uT (d2 zB (dv 3) (rI_ 142857143)) (qo yD (qc (dv 2) (qc (dv 4) (ret [])))))))
  (jv (uE (qc (dv 3) (ret []))))))))
noncomputable def ua : List D -> R D := dfn 5 2 u7
noncomputable def qjT : MS :=
  (qN (qcw (wR (qc (zV qaF (qc (rI_ 1) (qc (zV qgJ (qc (zV qaM (qc (dv 0) (ret []))) (qc (rI_ 5) (ret [])))) (ret [])))) (ret []))) (qE 1) (qN (qal 2 (qfi ua (qc (dv 0) (qc (dv 1) (ret [])))))
  (qN (zf 3 (qx yc 2 (qc (rI_ 12) (qc (ret .non) (ret [])))))
  (qN (zf 4 (d2 ixD (uE (qc (rI_ 0) (qc (qx ql 2 (qc (rI_ 9) (ret []))) (qc (qx ql 2 (qc (rI_ 60) (ret []))) (qc (d2 qi6 (rI_ 10) (rI_ 20)) (ret [])))))) (qx ql 2 (qc (rI_ 4) (ret [])))))
  (qN (zf 5 (uE (qc (yn (qc (rI_ 0) (qc (rI_ 1) (ret [])))) (qc (yn (qc (rI_ 1) (qc (rI_ 1) (ret [])))) (qc (qo qK (qc (qx ql 2 (qc (rI_ 30) (ret []))) (qc (d2 uT (rI_ 1) (qx ql 2 (qc (rI_ 9) (ret [])))) (ret [])))) (ret []))))))
  (qN (qcw (qcG (dv 3)) (qcv 3 (zR (qE 6) (zR (qE 7) (zR (qE 8) qcu)))) (zf 5 (d2 uT (dv 5) (uE (qc (qo qK (qc (dv 7) (qc (dv 6) (ret [])))) (qc (qo qK (qc (zV qaF (qc (rI_ 0) (qc (d2 qa5 (d2 zB (rI_ 9) (dv 7)) (rI_ 1)) (ret [])))) (qc (d2 zB (rI_ 9) (dv 6)) (ret [])))) (ret [])))))))
  (qN (qcw (qcG (dv 5)) (qE 9) (sif (tst (d2 neB (zV qa8 (qc (qo qI (qc (rI_ 0) (qc (dv 3) (qc (dv 4) (qc (dv 9) (ret [])))))) (ret []))) (zV qa8 (qc (qo zn (qc (dv 3) (qc (dv 4) (qc (dv 9) (ret []))))) (ret []))))) (jv (ret (.bl false))) yu))
  (qN (zf 9 (qo qI (qc (rI_ 1) (qc (dv 3) (qc (dv 4) (qc (ret .non) (ret [])))))))
  (qN (sif (tor (vj (tst (qo zl (qc (dv 9) (ret []))))) (tst (d2 neB (qo qI (qc (rI_ 1) (qc (dv 3) (qc (dv 4) (qc (ret .non) (ret [])))))) (dv 9)))) (jv (ret (.bl false))) yu)
  (qN (sif (tst (d2 neB (qo zn (qc (dv 3) (qc (dv 4) (qc (dv 9) (ret []))))) (qo zY (qc (dv 3) (qc (qo ju (qc (dv 3) (qc (dv 4) (ret [])))) (ret [])))))) (jv (ret (.bl false))) yu)
  (qN (zf 10 (qx jt 2 (ret [])))
  (qN (qcw (qcG (uE (qc (yn (qc (rI_ 2) (qc (rI_ 2) (ret [])))) (qc (yn (qc (rI_ 0) (qc (rI_ 2) (ret [])))) (qc (yn (qc (rI_ 1) (qc (rI_ 0) (ret [])))) (qc (yn (qc (d1 qb0 (rI_ 1)) (qc (rI_ 1) (ret [])))) (qc (yn (qc (rI_ 1) (qc (d1 qb0 (rI_ 1)) (ret [])))) (qc (yn (qc (ret (.bl true)) (qc (rI_ 1) (ret [])))) (qc (uE (qc (rI_ 1) (qc (rI_ 1) (ret [])))) (qc (ret .non) (qc (yn (qc (rI_ 1) (ret []))) (qc (rI_ 1) (qc (yn (qc (rI_ 1) (qc (rI_ 1) (qc (rI_ 1) (ret []))))) (qc (ret (.str "1")) (qc (dv 10) (ret [])))))))))))))))) (qE 11) (sif (qbD (vj (tst (qo zl (qc (dv 11) (ret []))))) (tst (d2 neB (qo qI (qc (rI_ 0) (qc (dv 3) (qc (dv 4) (qc (dv 11) (ret [])))))) (ret (.str "number"))))) (jv (ret (.bl false))) yu))
  (sif (tor (tst (d2 neB (qo qI (qc (rI_ 0) (qc (dv 3) (qc (d1 qb0 (rI_ 1)) (qc (yn (qc (rI_ 1) (qc (rI_ 1) (ret [])))) (ret [])))))) (ret (.str "number")))) (tst (d2 neB (qo qI (qc (rI_ 1) (qc (dv 3) (qc (ret .non) (qc (ret .non) (ret [])))))) (ret (.str "number"))))) (jv (ret (.bl false))) yu)))))))))))))
  (jv (ret (.bl true))))
noncomputable def qcZ : List D -> R D := dfn 12 1 qjT
local macro_rules | `(tactic| push_cast [$xs,*]) => `(tactic| simp only [jC, qb1, qli, jJ, qdk, qdl, qh3, qmI, qmJ, qan, uh, qh4, qjb, vd, qfn, qdm, qaG, qdn, qlj, qh5, qg1, qg2, qao, wK, qbb, qbc, qh7, qfo, qfp, ve, qfq, qfr, qh8, qb2, qft, qfu, qcL, qfv, qcM, qfw, qb3, qlk, qfx, lC_, lN_, mC_, List.map_nil, List.replicate, List.nil_append, List.cons_append, List.append_nil, List.getElem?_cons_zero, List.getElem?_cons_succ, List.set_cons_zero, List.set_cons_succ, Nat.reduceAdd, Nat.reduceSub, Nat.sub_self, Nat.zero_add, reduceIte, Bool.not_true, Bool.not_false, Bool.false_eq_true, if_true, if_false, ite_true, ite_false, cond_true, cond_false, decide_true, decide_false, ix0, ix1, ix2, vv, uj, wd, wj, qce, qfX, vw, qfY, qcR, qih, qii, vP, qdy, qdz, qif, qfL, qcN, $xs,*])
theorem qbv (d : D) : u0 [d] = .ok (.bl (qbi d)) := by
 unfold u0 wu
 refine uY rfl ⟨[some d], ?_⟩
 push_cast []
 cases d <;> rfl
theorem zP (d : D) : zj [d] = .ok (.bl (zu d)) := by
 unfold zj wv
 refine uY rfl ⟨[some d], ?_⟩
 push_cast []
 rw [qbv]
 cases d <;> rfl
theorem qcn (d : D) : uN [d] = .ok (.bl (vf d)) := by
 unfold uN qax
 refine uY rfl ⟨[some d], ?_⟩
 cases d with
 | tup ds =>
  by_cases h : ds.length = 3
  ·obtain ⟨a, b, c, rfl⟩ := qob h
   refine (qk (U' := [some (.tup [a, b, c])]) rfl).trans ?_
   by_cases hp : qfZ a = true
   ·refine (qk (U' := [some (.tup [a, b, c])]) ?_).trans ?_
    ·cases a with
     | int i =>
      have h2 : 0 < i := of_decide_eq_true hp
      have h0 : 0 <= i := by omega
      have h1 : ¬ i = 0 := by omega
      push_cast [ix0, zP, zu, wj, vd, h0, h1, decide_true, decide_false]
     | _ => exact absurd hp (by simp [qfZ])
    ·push_cast [ix1, ix2, zP, qce, vf, hp, vd, Bool.true_and]
     cases hb : zu b <;> cases hc : y0 c <;> rfl
   ·refine (jT (d := .bl false) (U' := [some (.tup [a, b, c])]) ?_).trans ?_
    ·cases a with
     | int i =>
      have h2 : ¬ 0 < i := fun z => hp (decide_eq_true z)
      push_cast [ix0, zP, zu, wj, vd]
      by_cases h0 : 0 <= i
      ·have h1 : i = 0 := by omega
       subst h1; rfl
      ·simp only [h0, decide_false]
       rfl
     | _ => rfl
    ·have hp' : qfZ a = false := by simpa using hp
     simp only [vf, hp', Bool.false_and]
  ·refine (jT (d := .bl false) (U' := [some (.tup ds)]) ?_).trans ?_
   ·push_cast []
    have h3 : ¬ ((ds.length : Int) = 3) := by omega
    simp only [vv, uj, wd, h3, decide_false, vd]
    rfl
   ·rw [qek h]
 | _ => rfl
theorem qbw (d : D) : u3 [d] = .ok (.bl (yG d)) := by
 unfold u3 ww
 refine uY rfl ⟨[some d], ?_⟩
 cases d with
 | tup ds =>
  by_cases h : ds.length <= 12
  ·have h2 : ¬ ((12 : Int) < (ds.length : Int)) := by omega
   refine (qk (U' := [some (.tup ds)]) ?_).trans ?_
   ·push_cast [vv, uj, vw, h2, decide_false, vd]
   ·rw [qao, qjy (F := uN) (f := vf) (xs := qcG (dv 0)) (ds := ds) (U := [some (.tup ds)]) rfl (fun d _ => qcn d) (by omega)]
    simp only [yG, h, decide_true, Bool.true_and]
  ·have h2 : ((12 : Int) < (ds.length : Int)) := by omega
   refine (jT (d := .bl false) (U' := [some (.tup ds)]) ?_).trans ?_
   ·push_cast [vv, uj, vw, h2, decide_true, vd]
   ·simp only [yG, h, decide_false, Bool.false_and]
 | _ => rfl
theorem sm1 : qQ 1 = true := jr (by omega)
theorem jP (d : D) (h : yG d = true) : yh [d] = .ok .non := by
 unfold yh
 refine qfM rfl ⟨[some d], ?_⟩
 unfold yS
 push_cast [qbw, h]
theorem uv (d : D) (h : zu d = true) : jb [d] = .ok .non := by
 unfold jb
 refine qfM rfl ⟨[some d], ?_⟩
 unfold yg
 push_cast [zP, h]
theorem wN (d : D) (h : zu d = false) : jb [d] = .exc ⟨"NoNumber", .non⟩ [some d] := by
 unfold jb
 refine qb9 rfl ?_
 unfold yg
 push_cast [zP, h, sm1]
theorem qir {p : MS} {F : List D -> R D} {U U' : Env} {d : D} (h : p U = .ok (.rt d U')) : qfI RN p F U = .ok (.rt d U') := by rw [qie, h]
theorem qlN {p : MS} {F : List D -> R D} {U U' : Env} {d v : D} {n : Str} (h : p U = .exc ⟨n, v⟩ U') (hn : RN.contains n = true) (hF : F [.exc n] = .ok d) : qfI RN p F U = .ok (.rt d U') := by
 rw [qie, h]
 simp only [hn, if_true, hF]
theorem ex1 {F : List D -> R D} {l : M (List D)} {U : Env} {ds : List D} {d : D} (hl : l U = .ok (ds, U)) (h : F ds = .ok d) : uF (yM RN F l) U = .ok (.nx U) := by
 rw [qbc, vP, hl]
 simp only [h]
theorem cx2 {F : List D -> R D} {f g : M D} {U : Env} {a b d : D} (hf : f U = .ok (a, U)) (hg : g U = .ok (b, U)) (e : F [a, b] = .ok d) : yM RN F (qc f (qc g (ret []))) U = .ok (d, U) := by
 rw [vP, qf4 hf hg]
 simp only [e]
theorem qmc {f g : M D} {U : Env} {d : D} (hf : f U = .ok (.bl true, U)) (hg : g U = .ok (d, U)) : qeu f g U = .ok (d, U) := by
 rw [qdn, hf]
 exact hg
theorem qm2 {f g : M D} {U : Env} (hf : f U = .ok (.bl false, U)) : qeu f g U = .ok (.bl false, U) := by
 rw [qdn, hf]
 rfl
theorem qoe {t : M Bool} {f g : M D} {U : Env} {d : D} (ht : t U = .ok (true, U)) (hf : f U = .ok (d, U)) : dif t f g U = .ok (d, U) := by
 rw [qg1, ht]
 exact hf
theorem qof {t : M Bool} {f g : M D} {U : Env} {d : D} (ht : t U = .ok (false, U)) (hg : g U = .ok (d, U)) : dif t f g U = .ok (d, U) := by
 rw [qg1, ht]
 exact hg
theorem qgk (n : Nat) : zu (.int (n : Nat)) = true := by
 show decide ((0 : Int) <= (n : Int)) = true
 exact decide_eq_true (by omega)
theorem gt0 (n : Nat) : gtD (.int (n : Nat)) (.int 0) = some (.bl (decide (0 < n))) := by
 rw [vw]
 congr 2
 rw [decide_eq_decide]
 omega
theorem leN (a b : Nat) : leD (.int (a : Nat)) (.int (b : Nat)) = some (.bl (decide (a <= b))) := by
 rw [qcR]
 congr 2
 rw [decide_eq_decide]
 omega
theorem qjU : ∀ (b a : Nat) (o : Option D), ∃ n o', yf (tst (d2 gtD (dv 1) (rI_ 0))) (qN (zf 2 (d2 qcD (dv 0) (dv 1))) (qN (zf 0 (dv 1)) (zf 1 (dv 2)))) n [some (.int (a : Nat)), some (.int (b : Nat)), o] = .ok (.nx [some (.int (Nat.gcd a b : Nat)), some (.int 0), o']) := by
 intro b
 induction b using Nat.strongRecOn with
 | _ b ih =>
  intro a o
  by_cases h : 0 < b
  ·obtain ⟨n, o', q⟩ := ih (a % b) (Nat.mod_lt _ h) b (some (.int ((a % b : Nat) : Int)))
   refine ⟨n + 1, o', ?_⟩
   unfold yf
   have t : tst (d2 gtD (dv 1) (rI_ 0)) [some (.int (a : Nat)), some (.int (b : Nat)), o] = .ok (true, [some (.int (a : Nat)), some (.int (b : Nat)), o]) := zx (qi rfl rfl (by rw [gt0, decide_eq_true h]))
   have s : (qN (zf 2 (d2 qcD (dv 0) (dv 1))) (qN (zf 0 (dv 1)) (zf 1 (dv 2)))) [some (.int (a : Nat)), some (.int (b : Nat)), o] = .ok (.nx [some (.int (b : Nat)), some (.int ((a % b : Nat) : Int)), some (.int ((a % b : Nat) : Int))]) := by
    refine (qk (U' := [some (.int (a : Nat)), some (.int (b : Nat)), some (.int ((a % b : Nat) : Int))]) ?_).trans rfl
    rw [wK, qi rfl rfl (qdJ a h)]
    rfl
   simp only [t, s]
   have e : Nat.gcd a b = Nat.gcd b (a % b) := by
    rw [Nat.gcd_comm a b, Nat.gcd_rec b a, Nat.gcd_comm]
   rw [e]
   exact q
  ·have e : b = 0 := by omega
   subst e
   refine ⟨1, o, ?_⟩
   unfold yf
   have t : tst (d2 gtD (dv 1) (rI_ 0)) [some (.int (a : Nat)), some (.int ((0 : Nat) : Int)), o] = .ok (false, [some (.int (a : Nat)), some (.int ((0 : Nat) : Int)), o]) := zx (qi rfl rfl (by rw [gt0]; rfl))
   simp only [t]
   rw [Nat.gcd_zero_right]
   rfl
theorem yj (a b : Nat) : zy [.int (a : Nat), .int (b : Nat)] = .ok (.int (Nat.gcd a b : Nat)) := by
 unfold zy jL
 obtain ⟨n, o', q⟩ := qjU b a none
 refine uY rfl ⟨[some (.int (Nat.gcd a b : Nat)), some (.int 0), o'], ?_⟩
 exact (qk (qaq q (by intro z; cases z))).trans rfl
theorem ub (T : Nat) {B : Nat} (hB : 0 < B) (hb : B < big) : zE [.int (T : Nat), .int (B : Nat)] = .ok (qf7 T B) := by
 have hg : 0 < Nat.gcd T B := Nat.gcd_pos_of_pos_right _ hB
 have hg2 : Nat.gcd T B < big := Nat.lt_of_le_of_lt (Nat.gcd_le_right _ hB) hb
 unfold zE yX
 refine uY rfl ⟨[some (.int (T : Nat)), some (.int (B : Nat)), some (.int (Nat.gcd T B : Nat))], ?_⟩
 refine (qk (U' := [some (.int (T : Nat)), some (.int (B : Nat)), some (.int (Nat.gcd T B : Nat))]) ?_).trans ?_
 ·show zf 2 _ [some (.int (T : Nat)), some (.int (B : Nat)), none] = _
  rw [wK, yo rfl rfl (yj T B)]
  rfl
 ·rw [qao, qmX (qi rfl rfl (uL T hg hg2)) (qi rfl rfl (uL B hg hg2))]
  rfl
theorem u9 {ks : List Nk} (hw : ∀ x ∈ ks, x.1 <= Mx) : jh [.tup (ks.map tK)] = .ok (.int (jp ks : Nat)) := by
 unfold jh j6
 let S : Option D := some (.tup (ks.map tK))
 obtain ⟨U', q, o2, rfl⟩ := qci (G := qE 2) (b := (zf 1 (d2 zB (dv 1) (d2 ixD (dv 2) (rI_ 0))))) (k := tK) (step := fun (p : Nat) (x : Nk) => p * x.1) (Inv := fun n p U => ∃ o2, U = [S, some (.int (p : Nat)), o2]) ks 0 1 [S, some (.int 1), none] ⟨none, rfl⟩ (fun x hx n p U _ _ => by
  rintro ⟨o2, rfl⟩
  refine ⟨[S, some (.int (p : Nat)), some (tK x)], [S, some (.int ((p * x.1 : Nat) : Int)), some (tK x)], rfl, ?_, _, rfl⟩
  rw [wK, qi rfl (qi rfl rfl (tk0 x)) (yp p (hw x hx))]
  rfl)
 refine uY rfl ⟨[S, some (.int (jp ks : Nat)), o2], ?_⟩
 refine (qk (U' := [S, some (.int 1), none]) rfl).trans ((qk (U' := [S, some (.int (jp ks : Nat)), o2]) ?_).trans rfl)
 rw [ve]
 exact q
theorem vY {ks : List Nk} (hw : ∀ x ∈ ks, 0 < x.1) (hl : ks.length <= 12) (hp : jp ks <= Mx) : zN [.tup (ks.map tK)] = .ok (.lst ((vB ks).map fun i => D.int (i : Nat))) := by
 have hwM : ∀ x ∈ ks, x.1 <= Mx := fun x hx => Nat.le_trans (qbp hw hx) hp
 let S : Option D := some (.tup (ks.map tK))
 let P : Option D := some (.int (jp ks : Nat))
 let L : Option D := some (.lst ((plN ks).map fun i => D.int (i : Nat)))
 unfold zN jK
 refine uY rfl ⟨[S, P, L], ?_⟩
 refine (qk (U' := [S, P, none]) (yO (wM rfl (u9 hwM)))).trans ?_
 refine (qk (U' := [S, P, L]) ?_).trans ?_
 ·refine yO (i := 2) (U := [S, P, none]) (U1 := [S, P, none]) (d := .lst ((plN ks).map fun i => D.int (i : Nat))) ?_
  refine qjF (u := fun i : Nat => D.int (i : Nat)) (v := fun i => tK (nAt ks i)) (r := []) (List.range ks.length) (fun i => decide (0 < (nAt ks i).2.1)) (fun i => D.int (i : Nat)) ?_ rfl (by rw [lR_]; omega) (fun i hi => zx (qi (qi rfl rfl (tk1 _)) rfl (gt0 _))) (fun i _ _ => rfl)
  rw [qcN]
  show (match qfA [D.tup (ks.map tK)] with | some ds => R.ok (ds, [S, P, none]) | none => .bad) = _
  rw [<- qjO]
  rfl
 ·refine yP ?_
  have hks : qas (d2 zB (d1 qb0 (d2 ixD (d2 ixD (dv 2) (dv 0)) (rI_ 1))) (d2 vm (dv 1) (d2 ixD (d2 ixD (dv 2) (dv 0)) (rI_ 0)))) 3 [.int (jp ks : Nat), .tup (ks.map tK)] ((plN ks).map fun i => D.int (i : Nat)) = some ((plN ks).map (qcV ks)) := by
   refine qck fun i hi => ?_
   have hi' : i < ks.length := by
    unfold plN at hi
    exact mR_.mp (List.mem_filter.mp hi).1
   have hx := z4 hi'
   let U : Env := [some (.int (i : Nat)), P, S]
   refine ⟨U, ?_⟩
   show (d2 zB (d1 qb0 (d2 ixD (d2 ixD (dv 2) (dv 0)) (rI_ 1))) (d2 vm (dv 1) (d2 ixD (d2 ixD (dv 2) (dv 0)) (rI_ 0)))) U = _
   have hq : jp ks / (nAt ks i).1 <= 18000000000000000000 := Nat.le_trans (Nat.div_le_self _ _) hp
   have e1 : d1 qb0 (d2 ixD (d2 ixD (dv 2) (dv 0)) (rI_ 1)) U = .ok (.int (-((nAt ks i).2.1 : Int)), U) := by
    have e0 : d2 ixD (d2 ixD (dv 2) (dv 0)) (rI_ 1) U = .ok (.int ((nAt ks i).2.1 : Nat), U) := qi (qi rfl rfl (wl hi')) rfl (tk1 _)
    rw [qmJ, e0]
    rfl
   exact qi e1 (qi rfl (qi (qi rfl rfl (wl hi')) rfl (tk0 _)) (uL _ (hw _ hx) (Nat.lt_of_le_of_lt (hwM _ hx) (by decide)))) (qht (qjJ hq))
  have h64 : ((plN ks).map fun i => D.int (i : Nat)).length < 64 := by
   rw [lM_]
   have := List.length_filter_le (fun i => decide (0 < (nAt ks i).2.1)) (List.range ks.length)
   rw [lR_] at this
   unfold plN
   omega
  have hk := qhq (n := 3) (fr := [1, 0]) (f := dv 2) (g := (d2 zB (d1 qb0 (d2 ixD (d2 ixD (dv 2) (dv 0)) (rI_ 1))) (d2 vm (dv 1) (d2 ixD (d2 ixD (dv 2) (dv 0)) (rI_ 0))))) (U := [S, P, L]) (U1 := [S, P, L]) rfl h64 (cs := [.int (jp ks : Nat), .tup (ks.map tK)]) rfl hks
  have hp2 : qei (Srt.ord ((plN ks).map (qcV ks))) ((plN ks).map fun i => D.int (i : Nat)) = (vB ks).map fun i => D.int (i : Nat) := by
   refine qgc 0 fun i hi => ?_
   have := (Srt.ord_perm _).mem_iff.mp hi
   rw [lM_] at this
   exact mR_.mp this
  rw [hp2] at hk
  exact hk
theorem qog (w g m : Nat) : ixD (tK (w, g, some m)) (.int 2) = some (.int (m : Nat)) := rfl
theorem qlO (w g m r : Nat) : d2 ixD (dv 0) (rI_ 2) [some (tK (w, g, some m)), some (.int (r : Nat))] = .ok (.int (m : Nat), [some (tK (w, g, some m)), some (.int (r : Nat))]) := qi rfl rfl (qog w g m)
theorem qlP (w g m r : Nat) : d2 qe3 (d2 ixD (dv 0) (rI_ 2)) (ret .non) [some (tK (w, g, some m)), some (.int (r : Nat))] = .ok (.bl true, [some (tK (w, g, some m)), some (.int (r : Nat))]) := qi (qlO w g m r) rfl rfl
theorem qis (w g m r : Nat) (h : w <= Mx) : d2 zB (d2 ixD (dv 0) (rI_ 2)) (d2 ixD (dv 0) (rI_ 0)) [some (tK (w, g, some m)), some (.int (r : Nat))] = .ok (.int ((m * w : Nat) : Int), [some (tK (w, g, some m)), some (.int (r : Nat))]) := qi (qlO w g m r) (qi rfl rfl (tk0 (w, g, some m))) (yp m h)
theorem qm3 (w g m r : Nat) (h : w <= Mx) : d2 leD (d2 zB (d2 ixD (dv 0) (rI_ 2)) (d2 ixD (dv 0) (rI_ 0))) (dv 1) [some (tK (w, g, some m)), some (.int (r : Nat))] = .ok (.bl (decide (m * w <= r)), [some (tK (w, g, some m)), some (.int (r : Nat))]) := qi (qis w g m r h) rfl (leN _ _)
theorem qlQ (w g m r : Nat) (h : w <= Mx) (hr : m * w <= r) : d2 qa5 (dv 1) (d2 zB (d2 ixD (dv 0) (rI_ 2)) (d2 ixD (dv 0) (rI_ 0))) [some (tK (w, g, some m)), some (.int (r : Nat))] = .ok (.int ((r - m * w : Nat) : Int), [some (tK (w, g, some m)), some (.int (r : Nat))]) := by
 refine qi rfl (qis w g m r h) ?_
 rw [vV]
 congr 2
 omega
theorem qjV (w g r : Nat) : d2 qe3 (d2 ixD (dv 0) (rI_ 2)) (ret .non) [some (tK (w, g, none)), some (.int (r : Nat))] = .ok (.bl false, [some (tK (w, g, none)), some (.int (r : Nat))]) := qi (qi rfl rfl (tk2 (w, g, none))) rfl rfl
theorem qnC (w g m r : Nat) : goN (w, g, some m) r = decide (m * w <= r) := rfl
theorem qnD (w g r : Nat) : goN (w, g, none) r = false := rfl
theorem vg {x : Nk} (h : x.1 <= Mx) (r : Nat) : ja [tK x, .int (r : Nat)] = .ok (.bl (goN x r)) := by
 obtain ⟨w, g, m⟩ := x
 unfold ja vz
 cases m with
 | none =>
  rw [qnD]
  exact uY rfl ⟨[some (tK (w, g, none)), some (.int (r : Nat))], yP (qm2 (qjV w g r))⟩
 | some m =>
  rw [qnC]
  exact uY rfl ⟨[some (tK (w, g, some m)), some (.int (r : Nat))], yP (qmc (qlP w g m r) (qm3 w g m r h))⟩
theorem qco : Mx < big := by decide
theorem qm4 {x : Nk} {r : Nat} (h : goN x r = true) : shN x r = (mN x, 1) := by unfold shN; rw [h]; rfl
theorem qm5 {x : Nk} {r : Nat} (h : goN x r = false) : shN x r = (ue r x.1, ul r x.1) := by unfold shN; rw [h]; rfl
theorem qlR {x : Nk} {r : Nat} (h : goN x r = true) : bhN x r = r - mN x * x.1 := by unfold bhN; rw [h]; rfl
theorem qlS {x : Nk} {r : Nat} (h : goN x r = false) : bhN x r = 0 := by unfold bhN; rw [h]; rfl
theorem wS {x : Nk} (h : x.1 <= Mx) (r : Nat) : ji [tK x, .int (r : Nat)] = .ok (.int (bhN x r : Nat)) := by
 have t := zx (yo (U := [some (tK x), some (.int (r : Nat))]) (f := dv 0) (g := dv 1) rfl rfl (vg h r))
 unfold ji uo
 cases hg : goN x r with
 | true =>
  rw [qlR hg]
  rw [hg] at t
  obtain ⟨w, g, m⟩ := x
  cases m with
  | none => rw [qnD] at hg; cases hg
  | some m =>
   rw [qnC] at hg
   exact uY rfl ⟨[some (tK (w, g, some m)), some (.int (r : Nat))], yP (qoe t (qlQ w g m r h (of_decide_eq_true hg)))⟩
 | false =>
  rw [qlS hg]
  rw [hg] at t
  exact uY rfl ⟨[some (tK x), some (.int (r : Nat))], yP (qof t rfl)⟩
theorem qoh (n : Nat) : (List.replicate n [D.tup [.int 0, .int 1]]).flatten = (List.replicate n ((0 : Nat), (1 : Nat))).map fr := by
 induction n with
 | zero => rfl
 | succ n ih => rw [rS_, List.flatten_cons, ih, rS_]; rfl
theorem qjW (n : Nat) (hn : n <= 12) : qjs (.lst [.tup [.int 0, .int 1]]) (.int (n : Nat)) = some ((List.replicate n ((0 : Nat), (1 : Nat))).map fr) := by
 unfold qjs
 have c0 : (2 : Int) ^ 62 = 4611686018427387904 := by decide
 have c1 : decide (-(2 ^ 62) <= ((n : Nat) : Int)) = true := decide_eq_true (by rw [c0]; omega)
 have c2 : decide (((n : Nat) : Int) < 2 ^ 62) = true := decide_eq_true (by rw [c0]; omega)
 have c3 : qQ ([D.tup [.int 0, .int 1]].length * ((n : Nat) : Int).toNat) = true := jr (by rw [Int.toNat_natCast]; simp only [lC_, lN_]; omega)
 have c4 : immL [D.tup [.int 0, .int 1]] = true := rfl
 simp only [c1, c2, c3, c4, Bool.and_self, if_true]
 rw [Int.toNat_natCast, qoh]
theorem qjX {f g : M D} {U : Env} {x y : D} {ds : List D} (hf : f U = .ok (x, U)) (hg : g U = .ok (y, U)) (e : qjs x y = some ds) : qlv f g U = .ok (ds, U) := by
 rw [qlx, hf]
 simp only [hg, e]
theorem qgl {i : Nat} {k f : M D} {U : Env} {L : List (Nat × Nat)} {q : Nat} {v : Nat × Nat} (hf : f U = .ok (fr v, U)) (hk : k U = .ok (.int (q : Nat), U)) (hL : zJ i U = some (L.map fr)) (hq : q < L.length) : vJ i k f U = .ok (.nx (U.set i (some (.lst ((L.set q v).map fr))))) := by
 have e : ixN (L.map fr).length ((q : Nat) : Int) = some q := by
  unfold ixN
  rw [lM_, if_pos (by omega), if_pos (by omega), Int.toNat_natCast]
 have him : imm (fr v) = true := rfl
 rw [qcL, hf]
 simp only [hL, hk, e, him, if_true, List.map_set]
theorem qlT {ks : List Nk} (hw : ∀ x ∈ ks, 0 < x.1) (hp : jp ks <= Mx) (r : Nat) : 0 < (swN ks r).2 /\ (swN ks r).2 <= Mx := by
 obtain ⟨a1, a2⟩ := qio (ks.zip (shs ks r)) (0, 1) (qin hw r) Nat.one_pos
 rw [Nat.one_mul, qjP (qbo ks r)] at a2
 exact ⟨a1, Nat.le_trans a2 hp⟩
theorem qnE {t : M Bool} {b : MS} {n : Nat} {U U1 U2 : Env} (h : t U = .ok (true, U1)) (hb : b U1 = .ok (.nx U2)) : yf t b (n + 1) U = yf t b n U2 := by
 show (match t U with | .ok (true, U1) => (match b U1 with | .ok (.nx U2) => yf t b n U2 | .ok (.ct U2) => yf t b n U2 | .ok (.bk U2) => .ok (.nx U2) | .ok (.rt d U2) => .ok (.rt d U2) | .exc x U2 => .exc x U2 | .bad => .bad) | .ok (false, U1) => .ok (.nx U1) | .exc x U1 => .exc x U1 | .bad => .bad) = _
 simp only [h, hb]
theorem qnF {t : M Bool} {b : MS} {n : Nat} {U U1 : Env} (h : t U = .ok (false, U1)) : yf t b (n + 1) U = .ok (.nx U1) := by
 show (match t U with | .ok (true, U1) => (match b U1 with | .ok (.nx U2) => yf t b n U2 | .ok (.ct U2) => yf t b n U2 | .ok (.bk U2) => .ok (.nx U2) | .ok (.rt d U2) => .ok (.rt d U2) | .exc x U2 => .exc x U2 | .bad => .bad) | .ok (false, U1) => .ok (.nx U1) | .exc x U1 => .exc x U1 | .bad => .bad) = _
 simp only [h]
theorem ne0 (n : Nat) : neB (.int (n : Nat)) (.int 0) = some (.bl (!decide (n = 0))) := by
 rw [wd]
 congr 2
 rw [<- decide_not, <- decide_not, decide_eq_decide]
 omega
theorem qjY : ∀ (b a : Nat), ∃ n, yf (tst (d2 neB (dv 1) (rI_ 0))) (qgs 0 1 (qc (dv 1) (qc (d2 qcD (dv 0) (dv 1)) (ret [])))) n [some (.int (a : Nat)), some (.int (b : Nat))] = .ok (.nx [some (.int (Nat.gcd a b : Nat)), some (.int 0)]) := by
 intro b
 induction b using Nat.strongRecOn with
 | _ b ih =>
  intro a
  by_cases h : 0 < b
  ·obtain ⟨n, q⟩ := ih (a % b) (Nat.mod_lt _ h) b
   refine ⟨n + 1, ?_⟩
   have t : tst (d2 neB (dv 1) (rI_ 0)) [some (.int (a : Nat)), some (.int (b : Nat))] = .ok (true, [some (.int (a : Nat)), some (.int (b : Nat))]) := zx (qi rfl rfl (by rw [ne0, decide_eq_false (by omega)]; rfl))
   have s : (qgs 0 1 (qc (dv 1) (qc (d2 qcD (dv 0) (dv 1)) (ret [])))) [some (.int (a : Nat)), some (.int (b : Nat))] = .ok (.nx [some (.int (b : Nat)), some (.int ((a % b : Nat) : Int))]) := by
    rw [qfo, qf4 rfl (qi rfl rfl (qdJ a h))]
    rfl
   have e : Nat.gcd a b = Nat.gcd b (a % b) := by
    rw [Nat.gcd_comm a b, Nat.gcd_rec b a, Nat.gcd_comm]
   rw [qnE t s, e]
   exact q
  ·have e : b = 0 := by omega
   subst e
   refine ⟨1, ?_⟩
   have t : tst (d2 neB (dv 1) (rI_ 0)) [some (.int (a : Nat)), some (.int ((0 : Nat) : Int))] = .ok (false, [some (.int (a : Nat)), some (.int ((0 : Nat) : Int))]) := zx (qi rfl rfl (by rw [ne0]; rfl))
   rw [qnF t, Nat.gcd_zero_right]
   rfl
theorem uA (a b : Nat) : jM [.int (a : Nat), .int (b : Nat)] = .ok (.int (Nat.gcd a b : Nat)) := by
 unfold jM ur
 obtain ⟨n, q⟩ := qjY b a
 refine uY rfl ⟨[some (.int (Nat.gcd a b : Nat)), some (.int 0)], ?_⟩
 exact (qk (qaq q (by intro z; cases z))).trans rfl
theorem jj (T : Nat) {B : Nat} (hB : 0 < B) (hb : B < big) : qK [.int (T : Nat), .int (B : Nat)] = .ok (qf7 T B) := by
 have hg : 0 < Nat.gcd T B := Nat.gcd_pos_of_pos_right _ hB
 have hg2 : Nat.gcd T B < big := Nat.lt_of_le_of_lt (Nat.gcd_le_right _ hB) hb
 unfold qK wC
 refine uY rfl ⟨[some (.int (T : Nat)), some (.int (B : Nat)), some (.int (Nat.gcd T B : Nat))], ?_⟩
 refine (qk (U' := [some (.int (T : Nat)), some (.int (B : Nat)), some (.int (Nat.gcd T B : Nat))]) ?_).trans ?_
 ·show zf 2 _ [some (.int (T : Nat)), some (.int (B : Nat)), none] = _
  rw [wK, yo rfl rfl (uA T B)]
  rfl
 ·rw [qao, qmX (qi rfl rfl (uL T hg hg2)) (qi rfl rfl (uL B hg hg2))]
  rfl
def iD (i : Nat) : D := .int (i : Nat)
theorem gtM (a b : Nat) : gtD (.int (a : Nat)) (.int (b : Nat)) = some (.bl (decide (b < a))) := by
 rw [vw]
 congr 2
 rw [decide_eq_decide]
 omega
theorem qit {i : Nat} {U : Env} {l : List Nat} (h : zJ i U = some (l.map iD)) : tst (qex i (uE (ret []))) U = .ok (!l.isEmpty, U) := by
 have e0 : uE (ret []) U = .ok (.lst [], U) := rfl
 have e1 : neA (.lst (l.map iD)) (.lst []) = some (.bl (!l.isEmpty)) := qjH l
 have e2 : qex i (uE (ret [])) U = .ok (.bl (!l.isEmpty), U) := by
  rw [qfw, e0]
  simp only [h, e1]
 exact zx e2
theorem qjZ (l : List Nat) : vo (l.map iD) = some (l.map fun i => ((i : Nat) : Int)) := by
 have := qdH (l.map fun i => ((i : Nat) : Int))
 rw [mm_] at this
 exact this
section
variable {ks : List Nk} (hw : ∀ x ∈ ks, 0 < x.1) (hg : ∀ x ∈ ks, x.2.1 <= Mx) (hl : ks.length <= 12) (hp : jp ks <= Mx)
include hw hg hl hp
theorem qj0 {L : List Nat} {h : Nat} {t : List Nat} (hL : ∀ y ∈ L, y < ks.length) (ha : L.Pairwise (· < ·)) (hpm : L.Perm (h :: t)) (hs : (h :: t).Pairwise (Rx ks)) (r : Nat) (F : List (Nat × Nat)) (hF : F.length = ks.length) (o4 o5 o6 o7 o8 : Option D) :
  ∃ p4 p5 p6 p7 p8, (qN (zf 4 (qdg 2 (rI_ 0))) (qN (qcQ 2 (qE 5) (sif (tst (d2 gtD (d2 zB (d2 ixD (d2 ixD (dv 0) (dv 5)) (rI_ 1)) (d2 ixD (d2 ixD (dv 0) (dv 4)) (rI_ 0))) (d2 zB (d2 ixD (d2 ixD (dv 0) (dv 4)) (rI_ 1)) (d2 ixD (d2 ixD (dv 0) (dv 5)) (rI_ 0))))) (zf 4 (dv 5)) yu)) (qN (uF (uK 2 (dv 4))) (qN (qgG (d2 ixD (dv 0) (dv 4)) (qcv 3 (zR (qE 6) (zR (qE 7) (zR (qE 8) qcu))))) (sif (qbD (tst (d2 qe3 (dv 8) (ret .non))) (tst (d2 leD (d2 zB (dv 8) (dv 6)) (dv 1)))) (qN (vJ 3 (dv 4) (yn (qc (dv 8) (qc (rI_ 1) (ret []))))) (zf 1 (d2 qa5 (dv 1) (d2 zB (dv 8) (dv 6))))) (qN (vJ 3 (dv 4) (qo qK (qc (dv 1) (qc (dv 6) (ret []))))) (zf 1 (rI_ 0)))))))) [some (.tup (ks.map tK)), some (.int (r : Nat)), some (.lst (L.map iD)), some (.lst (F.map fr)), o4, o5, o6, o7, o8] =
   .ok (.nx [some (.tup (ks.map tK)), some (.int ((shS ks (r, F) h).1 : Nat)), some (.lst ((L.erase h).map iD)), some (.lst ((shS ks (r, F) h).2.map fr)), p4, p5, p6, p7, p8]) := by
 have hwM : ∀ x ∈ ks, x.1 <= Mx := fun x hx => Nat.le_trans (qbp hw hx) hp
 obtain ⟨x, rr, rfl, hpk⟩ := qgg hw hL ha hpm hs
 let L : List Nat := x :: rr
 let S : Option D := some (.tup (ks.map tK))
 let R0 : Option D := some (.int (r : Nat))
 let LL : Option D := some (.lst (L.map iD))
 let FF : Option D := some (.lst (F.map fr))
 have hh : h < ks.length := hL h (hpm.mem_iff.mpr mS_)
 have s0 : zf 4 (qdg 2 (rI_ 0)) [S, R0, LL, FF, o4, o5, o6, o7, o8] = .ok (.nx [S, R0, LL, FF, some (iD x), o5, o6, o7, o8]) := by
  have e : qdg 2 (rI_ 0) [S, R0, LL, FF, o4, o5, o6, o7, o8] = .ok (iD x, [S, R0, LL, FF, o4, o5, o6, o7, o8]) := by
   rw [qfu]
   show (match atI ((x :: rr).map iD) ((0 : Nat) : Int) with | some d => R.ok (d, [S, R0, LL, FF, o4, o5, o6, o7, o8]) | none => .bad) = _
   rw [qlH (n := 0) (d := iD x) rfl]
  exact yO e
 obtain ⟨U', q, _, p5, rfl⟩ := qf3 (G := qE 5) (b := (sif (tst (d2 gtD (d2 zB (d2 ixD (d2 ixD (dv 0) (dv 5)) (rI_ 1)) (d2 ixD (d2 ixD (dv 0) (dv 4)) (rI_ 0))) (d2 zB (d2 ixD (d2 ixD (dv 0) (dv 4)) (rI_ 1)) (d2 ixD (d2 ixD (dv 0) (dv 5)) (rI_ 0))))) (zf 4 (dv 5)) yu)) (k := iD) (step := pkS ks) (i := 2) (Inv := fun m f U => f < ks.length /\ ∃ p5, U = [S, R0, LL, FF, some (iD f), p5, o6, o7, o8]) L x [S, R0, LL, FF, some (iD x), o5, o6, o7, o8] (fun m s U h => by
  obtain ⟨_, p5, rfl⟩ := h
  rfl) ⟨hL x mS_, o5, rfl⟩ (fun a ha' m f U _ h => by
  obtain ⟨hf, p5, rfl⟩ := h
  have hal := hL a ha'
  let U1 : Env := [S, R0, LL, FF, some (iD f), some (iD a), o6, o7, o8]
  have t1 : tst (d2 gtD (d2 zB (d2 ixD (d2 ixD (dv 0) (dv 5)) (rI_ 1)) (d2 ixD (d2 ixD (dv 0) (dv 4)) (rI_ 0))) (d2 zB (d2 ixD (d2 ixD (dv 0) (dv 4)) (rI_ 1)) (d2 ixD (d2 ixD (dv 0) (dv 5)) (rI_ 0)))) U1 = .ok (decide ((nAt ks f).2.1 * (nAt ks a).1 < (nAt ks a).2.1 * (nAt ks f).1), U1) :=
   zx (qi (qi (qi (qi rfl rfl (wl hal)) rfl (tk1 _)) (qi (qi rfl rfl (wl hf)) rfl (tk0 _)) (yp _ (hwM _ (z4 hf)))) (qi (qi (qi rfl rfl (wl hf)) rfl (tk1 _)) (qi (qi rfl rfl (wl hal)) rfl (tk0 _)) (yp _ (hwM _ (z4 hal)))) (gtM _ _))
  by_cases c : (nAt ks f).2.1 * (nAt ks a).1 < (nAt ks a).2.1 * (nAt ks f).1
  ·have es : pkS ks f a = a := by unfold pkS; rw [if_pos c]
   rw [decide_eq_true c] at t1
   refine ⟨U1, [S, R0, LL, FF, some (iD a), some (iD a), o6, o7, o8], rfl, (qdI t1).trans rfl, ?_⟩
   rw [es]
   exact ⟨hal, _, rfl⟩
  ·have es : pkS ks f a = f := by unfold pkS; rw [if_neg c]
   rw [decide_eq_false c] at t1
   refine ⟨U1, U1, rfl, (qbE t1).trans rfl, ?_⟩
   rw [es]
   exact ⟨hf, _, rfl⟩)
 rw [hpk] at q
 obtain ⟨j, j1, j2⟩ := qgh (L := L) (b := h) (hpm.mem_iff.mpr mS_)
 have me : ∀ l : List Nat, (l.map fun i => ((i : Nat) : Int)).map D.int = l.map iD := fun l => by rw [mm_]; rfl
 let L2 : Option D := some (.lst ((L.erase h).map iD))
 have s2 : uF (uK 2 (dv 4)) [S, R0, LL, FF, some (iD h), p5, o6, o7, o8] = .ok (.nx [S, R0, L2, FF, some (iD h), p5, o6, o7, o8]) := by
  have e := qfW (i := 2) (f := dv 4) (U := [S, R0, LL, FF, some (iD h), p5, o6, o7, o8]) (ns := L.map fun i => ((i : Nat) : Int)) (b := ((h : Nat) : Int)) (j := j) (by rw [me]; rfl) rfl (by rw [me]; exact qjZ L) j1
  rw [j2, me] at e
  exact qjN e
 let z := nAt ks h
 let U3 : Env := [S, R0, L2, FF, some (iD h), p5, some (.int (z.1 : Nat)), some (.int (z.2.1 : Nat)), some (mD (z.2.2.map fun m : Nat => (m : Int)))]
 have s3 : (qgG (d2 ixD (dv 0) (dv 4)) (qcv 3 (zR (qE 6) (zR (qE 7) (zR (qE 8) qcu))))) [S, R0, L2, FF, some (iD h), p5, o6, o7, o8] = .ok (.nx U3) := by
  rw [qfp, qi (f := dv 0) (g := dv 4) rfl rfl (wl hh)]
  rfl
 have hzM := hwM _ (z4 hh)
 have hzw := hw _ (z4 hh)
 refine ⟨some (iD h), p5, some (.int (z.1 : Nat)), some (.int (z.2.1 : Nat)), some (mD (z.2.2.map fun m : Nat => (m : Int))), ?_⟩
 refine (qk s0).trans ((qk q).trans ((qk s2).trans ((qk s3).trans ?_)))
 have no : goN z r = false -> qbD (tst (d2 qe3 (dv 8) (ret .non))) (tst (d2 leD (d2 zB (dv 8) (dv 6)) (dv 1))) U3 = .ok (false, U3) -> (sif (qbD (tst (d2 qe3 (dv 8) (ret .non))) (tst (d2 leD (d2 zB (dv 8) (dv 6)) (dv 1)))) (qN (vJ 3 (dv 4) (yn (qc (dv 8) (qc (rI_ 1) (ret []))))) (zf 1 (d2 qa5 (dv 1) (d2 zB (dv 8) (dv 6))))) (qN (vJ 3 (dv 4) (qo qK (qc (dv 1) (qc (dv 6) (ret []))))) (zf 1 (rI_ 0)))) U3 = .ok (.nx [S, some (.int ((shS ks (r, F) h).1 : Nat)), L2, some (.lst ((shS ks (r, F) h).2.map fr)), some (iD h), p5, some (.int (z.1 : Nat)), some (.int (z.2.1 : Nat)), some (mD (z.2.2.map fun m : Nat => (m : Int)))]) := fun hgo ht => by
  have e1 : (shS ks (r, F) h).1 = 0 := qlS hgo
  have e2 : (shS ks (r, F) h).2 = F.set h (ue r z.1, ul r z.1) := by
   show F.set h (shN z r) = _
   rw [qm5 hgo]
  rw [e1, e2]
  refine (qbE ht).trans ((qk (qgl (i := 3) (U := U3) (q := h) (v := (ue r z.1, ul r z.1)) (yo rfl rfl (jj r hzw (Nat.lt_of_le_of_lt hzM qco))) rfl rfl (by rw [hF]; exact hh))).trans rfl)
 cases hz : z.2.2 with
 | none =>
  have hgo : goN z r = false := by unfold goN; rw [hz]
  have e8 : dv 8 U3 = .ok (.non, U3) := by
   show R.ok (mD (z.2.2.map fun m : Nat => (m : Int)), U3) = _
   rw [hz]
   rfl
  rw [<- hz]
  exact no hgo (qjM (zx (qi e8 rfl rfl)))
 | some m =>
  have e8 : dv 8 U3 = .ok (.int (m : Nat), U3) := by
   show R.ok (mD (z.2.2.map fun m : Nat => (m : Int)), U3) = _
   rw [hz]
   rfl
  have hgm : goN z r = decide (m * z.1 <= r) := by unfold goN; rw [hz]
  have t1 : tst (d2 qe3 (dv 8) (ret .non)) U3 = .ok (true, U3) := zx (qi e8 rfl rfl)
  have t2 : tst (d2 leD (d2 zB (dv 8) (dv 6)) (dv 1)) U3 = .ok (decide (m * z.1 <= r), U3) := zx (qi (qi e8 rfl (yp m hzM)) rfl (leN _ _))
  rw [<- hz]
  by_cases c : m * z.1 <= r
  ·rw [decide_eq_true c] at t2 hgm
   have em : mN z = m := by unfold mN; rw [hz]; rfl
   have e1 : (shS ks (r, F) h).1 = r - m * z.1 := by
    show bhN z r = _
    rw [qlR hgm, em]
   have e2 : (shS ks (r, F) h).2 = F.set h (m, 1) := by
    show F.set h (shN z r) = _
    rw [qm4 hgm, em]
   rw [e1, e2]
   let U4 : Env := [S, R0, L2, some (.lst ((F.set h (m, 1)).map fr)), some (iD h), p5, some (.int (z.1 : Nat)), some (.int (z.2.1 : Nat)), some (mD (z.2.2.map fun m : Nat => (m : Int)))]
   have s4 : vJ 3 (dv 4) (yn (qc (dv 8) (qc (rI_ 1) (ret [])))) U3 = .ok (.nx U4) := qgl (i := 3) (U := U3) (q := h) (v := (m, 1)) (qmX e8 rfl) rfl rfl (by rw [hF]; exact hh)
   have e8' : dv 8 U4 = .ok (.int (m : Nat), U4) := by
    show R.ok (mD (z.2.2.map fun m : Nat => (m : Int)), U4) = _
    rw [hz]
    rfl
   have e9 : qa5 (.int (r : Nat)) (.int ((m * z.1 : Nat) : Int)) = some (.int ((r - m * z.1 : Nat) : Int)) := by
    rw [vV]
    congr 2
    omega
   refine (qdI (qga t1 t2)).trans ((qk s4).trans ?_)
   exact yO (qi (f := dv 1) rfl (qi e8' rfl (yp m hzM)) e9)
  ·rw [decide_eq_false c] at t2 hgm
   exact no hgm (qga t1 t2)
theorem qgm : ∀ (l L : List Nat) (r : Nat) (F : List (Nat × Nat)) (o4 o5 o6 o7 o8 : Option D), (∀ y ∈ L, y < ks.length) -> L.Pairwise (· < ·) -> L.Perm l -> l.Pairwise (Rx ks) -> F.length = ks.length ->
  ∃ n U3 p4 p5 p6 p7 p8, yf (tst (qex 2 (uE (ret [])))) (qN (zf 4 (qdg 2 (rI_ 0))) (qN (qcQ 2 (qE 5) (sif (tst (d2 gtD (d2 zB (d2 ixD (d2 ixD (dv 0) (dv 5)) (rI_ 1)) (d2 ixD (d2 ixD (dv 0) (dv 4)) (rI_ 0))) (d2 zB (d2 ixD (d2 ixD (dv 0) (dv 4)) (rI_ 1)) (d2 ixD (d2 ixD (dv 0) (dv 5)) (rI_ 0))))) (zf 4 (dv 5)) yu)) (qN (uF (uK 2 (dv 4))) (qN (qgG (d2 ixD (dv 0) (dv 4)) (qcv 3 (zR (qE 6) (zR (qE 7) (zR (qE 8) qcu))))) (sif (qbD (tst (d2 qe3 (dv 8) (ret .non))) (tst (d2 leD (d2 zB (dv 8) (dv 6)) (dv 1)))) (qN (vJ 3 (dv 4) (yn (qc (dv 8) (qc (rI_ 1) (ret []))))) (zf 1 (d2 qa5 (dv 1) (d2 zB (dv 8) (dv 6))))) (qN (vJ 3 (dv 4) (qo qK (qc (dv 1) (qc (dv 6) (ret []))))) (zf 1 (rI_ 0)))))))) n [some (.tup (ks.map tK)), some (.int (r : Nat)), some (.lst (L.map iD)), some (.lst (F.map fr)), o4, o5, o6, o7, o8] =
   .ok (.nx [some (.tup (ks.map tK)), U3, some (.lst []), some (.lst ((l.foldl (shS ks) (r, F)).2.map fr)), p4, p5, p6, p7, p8])
 | [], L, r, F, o4, o5, o6, o7, o8, hL, ha, hpm, hs, hF => by
  have e : L = [] := hpm.eq_nil
  subst e
  exact ⟨1, _, _, _, _, _, _, qnF (qit (l := []) rfl)⟩
 | h :: t, L, r, F, o4, o5, o6, o7, o8, hL, ha, hpm, hs, hF => by
  obtain ⟨p4, p5, p6, p7, p8, e1⟩ := qj0 hw hg hl hp hL ha hpm hs r F hF o4 o5 o6 o7 o8
  have hF2 : (shS ks (r, F) h).2.length = ks.length := (lS_).trans hF
  obtain ⟨n, U3, q4, q5, q6, q7, q8, e2⟩ := qgm t (L.erase h) (shS ks (r, F) h).1 (shS ks (r, F) h).2 p4 p5 p6 p7 p8 (fun y hy => hL y (List.mem_of_mem_erase hy)) (ha.sublist List.erase_sublist) (qeo hpm) (List.pairwise_cons.mp hs).2 hF2
  refine ⟨n + 1, U3, q4, q5, q6, q7, q8, ?_⟩
  have ht := qit (i := 2) (U := [some (.tup (ks.map tK)), some (.int (r : Nat)), some (.lst (L.map iD)), some (.lst (F.map fr)), o4, o5, o6, o7, o8]) (l := L) rfl
  have hne : (!L.isEmpty) = true := by
   cases L with
   | nil => exact absurd hpm.length_eq (by simp)
   | cons x L => rfl
  rw [hne] at ht
  rw [qnE ht e1]
  exact e2
theorem vA (r : Nat) : ju [.tup (ks.map tK), .int (r : Nat)] = .ok (.tup ((shs ks r).map fr)) := by
 let S : Option D := some (.tup (ks.map tK))
 let R0 : Option D := some (.int (r : Nat))
 let F0 : List (Nat × Nat) := List.replicate ks.length (0, 1)
 let PL : Option D := some (.lst ((plN ks).map iD))
 obtain ⟨n, U3, p4, p5, p6, p7, p8, q⟩ := qgm hw hg hl hp (vB ks) (plN ks) r F0 none none none none none (fun y hy => (qcW.mp hy).1) (qgf ks) (vX ks).symm (vx hw) List.length_replicate
 unfold ju yk
 refine uY rfl ⟨[S, U3, some (.lst []), some (.lst ((shs ks r).map fr)), p4, p5, p6, p7, p8], ?_⟩
 have el : zV qaM (qc (dv 0) (ret [])) [S, R0, none, none, none, none, none, none, none] = .ok (.int ((ks.length : Nat) : Int), [S, R0, none, none, none, none, none, none, none]) := qch rfl (by
  show some (D.int ((ks.map tK).length : Nat)) = _
  rw [lM_])
 refine (qk (U' := [S, R0, PL, none, none, none, none, none, none]) ?_).trans ?_
 ·have ec := qlG (k := fun p : Nat => D.int (p : Nat)) (e := dv 0) (t := (tst (d2 gtD (d2 ixD (d2 ixD (dv 1) (dv 0)) (rI_ 1)) (rI_ 0)))) (xs := (wR (qc (zV qaM (qc (dv 0) (ret []))) (ret [])))) (U := [S, R0, none, none, none, none, none, none, none]) (r := [S]) (fr := [0]) (List.range ks.length) (fun i => decide (0 < (nAt ks i).2.1)) (fun p => iD p) (by
   rw [vU (j := ((ks.length : Nat) : Int)) (qhv el) (by omega) (by omega), Int.toNat_natCast, qny]) rfl (by rw [lR_]; omega) (fun i hi => zx (qi (qi (qi rfl rfl (wl (mR_.mp hi))) rfl (tk1 _)) rfl (gt0 _))) (fun i _ _ => rfl) (fun _ _ => rfl)
  show qal 2 _ [S, R0, none, none, none, none, none, none, none] = _
  rw [qbb, ec]
  rfl
 refine (qk (U' := [S, R0, PL, some (.lst (F0.map fr)), none, none, none, none, none]) ?_).trans ?_
 ·have a1 : uE (qc (yn (qc (rI_ 0) (qc (rI_ 1) (ret [])))) (ret [])) [S, R0, PL, none, none, none, none, none, none] = .ok (.lst [.tup [.int 0, .int 1]], [S, R0, PL, none, none, none, none, none, none]) := by push_cast [jr (show 1 <= 1000000 by omega), jr (show 2 <= 1000000 by omega)]
  have el2 : zV qaM (qc (dv 0) (ret [])) [S, R0, PL, none, none, none, none, none, none] = .ok (.int ((ks.length : Nat) : Int), [S, R0, PL, none, none, none, none, none, none]) := qch rfl (by
   show some (D.int ((ks.map tK).length : Nat)) = _
   rw [lM_])
  rw [qbb, qjX a1 el2 (qjW ks.length hl)]
  rfl
 refine (qk (qaq q (by intro z; cases z))).trans ?_
 rw [qao, qcM]
 rfl
end
theorem qc0 (n : Nat) : List.range (n + 1) = 0 :: (List.range n).map (· + 1) := by
 rw [List.range_succ_eq_map]
theorem qay : ∀ (ks : List Nk) (l : List (Nat × Nat)), l.length = ks.length -> ks.zip l = (List.range ks.length).map fun i => (nAt ks i, l.getD i (0, 1))
 | [], [], _ => rfl
 | [], _ :: _, h => absurd h (by simp)
 | _ :: _, [], h => absurd h (by simp)
 | x :: ks, y :: l, h => by
  rw [List.zip_cons_cons, lC_, qc0, mC_, mm_, qay ks l (by simpa using h)]
  rfl
theorem qj1 {l : List (Nat × Nat)} {p : Nat} (h : p < l.length) : ixD (.tup (l.map fr)) (.int (p : Nat)) = some (fr (l.getD p (0, 1))) := qij (by
 rw [gM_, gG h]
 simp [List.getD, h])
section
variable {ks : List Nk} (hw : ∀ x ∈ ks, 0 < x.1) (hg : ∀ x ∈ ks, x.2.1 <= Mx) (hl : ks.length <= 12) (hp : jp ks <= Mx)
include hw hg hl hp
theorem uP (r : Nat) : zY [.tup (ks.map tK), .tup ((shs ks r).map fr)] = .ok (qf7 (swN ks r).1 (swN ks r).2) := by
 have hz := qin hw r
 have hlen := qbo ks r
 let S : Option D := some (.tup (ks.map tK))
 let SS : Option D := some (.tup ((shs ks r).map fr))
 let zz : Nat -> Nk × Nat × Nat := fun i => (nAt ks i, (shs ks r).getD i (0, 1))
 have main : ∀ (l : List Nat) (s : Nat × Nat) (o4 : Option D), (∀ i ∈ l, i < ks.length) -> 0 < s.2 -> s.2 * jp (l.map (nAt ks)) <= Mx -> ∃ p4, jV (qE 4) (qN (zf 2 (d2 uT (d2 zB (dv 2) (d2 ixD (d2 ixD (dv 1) (dv 4)) (rI_ 1))) (d2 zB (d2 zB (d2 ixD (d2 ixD (dv 0) (dv 4)) (rI_ 1)) (d2 ixD (d2 ixD (dv 1) (dv 4)) (rI_ 0))) (dv 3)))) (zf 3 (d2 zB (dv 3) (d2 ixD (d2 ixD (dv 1) (dv 4)) (rI_ 1))))) (l.map iD) [S, SS, some (.int (s.1 : Nat)), some (.int (s.2 : Nat)), o4] = .ok (.nx [S, SS, some (.int (((l.map zz).foldl swS s).1 : Nat)), some (.int (((l.map zz).foldl swS s).2 : Nat)), p4]) := by
  intro l
  induction l with
  | nil => intro s o4 _ _ _; exact ⟨o4, rfl⟩
  | cons i l ih =>
   intro s o4 hm hs hb
   have hi := hm i mS_
   have hi2 : i < (shs ks r).length := by rw [hlen]; exact hi
   have hzz : zz i ∈ ks.zip (shs ks r) := by
    rw [qay _ _ hlen]
    exact mP_.mpr ⟨i, mR_.mpr hi, rfl⟩
   obtain ⟨z1, z2⟩ := hz _ hzz
   have hlp : ∀ x ∈ l.map (nAt ks), 0 < x.1 := fun x hx => by
    obtain ⟨j, hj, rfl⟩ := mP_.mp hx
    exact hw _ (z4 (hm j (mM _ hj)))
   have hpp := qau hlp
   rw [mC_, yv] at hb
   have hb2 : s.2 * (zz i).2.2 * jp (l.map (nAt ks)) <= Mx := by
    refine Nat.le_trans ?_ hb
    rw [Nat.mul_assoc]
    exact Nat.mul_le_mul_left _ (Nat.mul_le_mul_right _ z2)
   have hsz : s.2 * (zz i).2.2 <= Mx := Nat.le_trans (Nat.le_mul_of_pos_right _ hpp) hb2
   have hs1 : s.2 <= Mx := Nat.le_trans (Nat.le_mul_of_pos_right _ z1) hsz
   have hz3 : (zz i).2.2 <= Mx := Nat.le_trans (Nat.le_mul_of_pos_left _ hs) hsz
   obtain ⟨p4, e⟩ := ih (swS s (zz i)) (some (iD i)) (fun j hj => hm j (mM _ hj)) (Nat.mul_pos hs z1) hb2
   refine ⟨p4, ?_⟩
   let U1 : Env := [S, SS, some (.int (s.1 : Nat)), some (.int (s.2 : Nat)), some (iD i)]
   have e1 : d2 ixD (d2 ixD (dv 1) (dv 4)) (rI_ 1) U1 = .ok (.int ((zz i).2.2 : Nat), U1) := qi (qi rfl rfl (qj1 hi2)) rfl (qem _ _)
   have e0 : d2 ixD (d2 ixD (dv 1) (dv 4)) (rI_ 0) U1 = .ok (.int ((zz i).2.1 : Nat), U1) := qi (qi rfl rfl (qj1 hi2)) rfl (qf9 _ _)
   have eg : d2 ixD (d2 ixD (dv 0) (dv 4)) (rI_ 1) U1 = .ok (.int ((zz i).1.2.1 : Nat), U1) := qi (qi rfl rfl (wl hi)) rfl (tk1 _)
   have gm := hg _ (z4 hi)
   have ev : s.1 * (zz i).2.2 + (zz i).1.2.1 * (zz i).2.1 * s.2 = (swS s (zz i)).1 := by
    show _ = s.1 * (zz i).2.2 + (zz i).2.1 * (zz i).1.2.1 * s.2
    rw [Nat.mul_comm (zz i).1.2.1]
   have et := qi (qi (f := dv 2) rfl e1 (yp s.1 hz3)) (qi (qi eg e0 (qf8 _ gm)) (g := dv 3) rfl (yp _ hs1)) (qnz _ _)
   rw [ev] at et
   let U2 : Env := [S, SS, some (.int ((swS s (zz i)).1 : Nat)), some (.int (s.2 : Nat)), some (iD i)]
   have e1' : d2 ixD (d2 ixD (dv 1) (dv 4)) (rI_ 1) U2 = .ok (.int ((zz i).2.2 : Nat), U2) := qi (qi rfl rfl (qj1 hi2)) rfl (qem _ _)
   rw [mC_, y8 (U1 := U1) (U2 := [S, SS, some (.int ((swS s (zz i)).1 : Nat)), some (.int ((swS s (zz i)).2 : Nat)), some (iD i)]) rfl ((qk (U' := U2) (yO et)).trans (yO (U := U2) (qi (f := dv 3) rfl e1' (yp s.2 hz3))))]
   exact e
 have em : (List.range ks.length).map (nAt ks) = ks := by
  refine List.ext_getElem (by simp) fun i h1 h2 => ?_
  have := uM (ks := ks) (p := i) h2
  rw [gG h2] at this
  simp [(Option.some.inj this)]
 obtain ⟨p4, q⟩ := main (List.range ks.length) (0, 1) none (fun i hi => mR_.mp hi) Nat.one_pos (by rw [Nat.one_mul, em]; exact hp)
 have ez : ((List.range ks.length).map zz).foldl swS (0, 1) = swN ks r := by
  unfold swN
  rw [qay _ _ hlen]
 rw [ez] at q
 obtain ⟨s1, s2⟩ := qlT hw hp r
 unfold zY jO
 refine uY rfl ⟨[S, SS, some (.int ((swN ks r).1 : Nat)), some (.int ((swN ks r).2 : Nat)), p4], ?_⟩
 refine (qk (U' := [S, SS, some (.int ((0 : Nat) : Int)), some (.int ((1 : Nat) : Int)), none]) rfl).trans ?_
 refine (qk (U' := [S, SS, some (.int ((swN ks r).1 : Nat)), some (.int ((swN ks r).2 : Nat)), p4]) ?_).trans ?_
 ·have el : zV qaM (qc (dv 0) (ret [])) [S, SS, some (.int ((0 : Nat) : Int)), some (.int ((1 : Nat) : Int)), none] = .ok (.int ((ks.length : Nat) : Int), [S, SS, some (.int ((0 : Nat) : Int)), some (.int ((1 : Nat) : Int)), none]) := qch rfl (by
   show some (D.int ((ks.map tK).length : Nat)) = _
   rw [lM_])
  rw [ve, vU (j := ((ks.length : Nat) : Int)) (qhv el) (by omega) (by omega), Int.toNat_natCast, qny]
  exact q
 ·exact yP (yo rfl rfl (jj _ s1 (Nat.lt_of_le_of_lt s2 qco)))
end
def smN (x : Nk) : Prop := 0 < x.1 /\ x.1 <= 25 /\ x.2.1 <= 39 /\ ∀ m, x.2.2 = some m -> m <= 5
theorem qcp : ∀ ks : List D, (∀ k ∈ ks, zX k) -> ∃ ns : List Nk, ks = ns.map tK /\ ns.length = ks.length /\ ∀ x ∈ ns, smN x
 | [], _ => ⟨[], rfl, rfl, fun x hx => by cases hx⟩
 | k :: ks, h => by
  obtain ⟨ns, e1, e2, e3⟩ := qcp ks fun x hx => h x (mM _ hx)
  obtain ⟨a, b, m, rfl, h1, h2, h3, h4, hm⟩ := h k mS_
  have hm2 : ∃ y : Option Nat, m = mD (y.map fun m : Nat => (m : Int)) /\ ∀ j, y = some j -> j <= 5 := by
   rcases hm with rfl | ⟨j, rfl, j0, j1⟩
   ·exact ⟨none, rfl, fun j e => by cases e⟩
   ·refine ⟨some j.toNat, ?_, fun i e => by cases e; omega⟩
    show D.int j = D.int (j.toNat : Nat)
    rw [Int.toNat_of_nonneg j0]
  obtain ⟨y, rfl, hy⟩ := hm2
  refine ⟨(a.toNat, b.toNat, y) :: ns, ?_, by rw [lC_, lC_, e2], fun x hx => ?_⟩
  ·rw [mC_, <- e1]
   congr 1
   show D.tup [.int a, .int b, _] = D.tup [.int (a.toNat : Nat), .int (b.toNat : Nat), _]
   rw [Int.toNat_of_nonneg (by omega : 0 <= a), Int.toNat_of_nonneg h3]
   rfl
  ·rcases List.mem_cons.mp hx with rfl | hx
   ·exact ⟨by show 0 < a.toNat; omega, by show a.toNat <= 25; omega, by show b.toNat <= 39; omega, hy⟩
   ·exact e3 x hx
theorem qiu : ∀ (ks : List Nk) (n : Nat), (∀ x ∈ ks, x.1 <= 25) -> ks.length <= n -> jp ks <= 25 ^ n
 | [], n, _, _ => Nat.one_le_pow n 25 (by decide)
 | x :: ks, n, h, hl => by
  rw [lC_] at hl
  obtain ⟨m, rfl⟩ : ∃ m, n = m + 1 := ⟨n - 1, by omega⟩
  rw [yv, Nat.pow_succ, Nat.mul_comm]
  exact Nat.mul_le_mul (qiu ks m (fun y hy => h y (mM _ hy)) (by omega)) (h x mS_)
structure Sm (ks : List Nk) : Prop where
 w : ∀ x ∈ ks, 0 < x.1
 g : ∀ x ∈ ks, x.2.1 <= Mx
 l : ks.length <= 12
 p : jp ks <= Mx
theorem Sm.of {ks : List Nk} (h : ∀ x ∈ ks, smN x) (hl : ks.length <= 12) : Sm ks :=
 ⟨fun x hx => (h x hx).1, fun x hx => Nat.le_trans (h x hx).2.2.1 (by decide), hl, Nat.le_trans (qiu ks 12 (fun x hx => (h x hx).2.1) hl) (by decide)⟩
theorem uQ (d : D) : zA [d] = .ok (.bl (qbi d)) := by
 unfold zA uO
 refine uY rfl ⟨[some d], ?_⟩
 push_cast []
 cases d <;> rfl
theorem jd {n m : Int} (h0 : 0 < m) (h1 : m < 1606938044258990275541962092341162602522202993782792835301376) : ql [.int n] [.int m] = .ok (.int (n % m), [.int (n / m)]) := by
 unfold ql
 refine qdo (U := [some (.lst [.int (n / m)]), some (.int m), some (.int (n / m)), some (.int (n % m))]) rfl ?_ rfl
 unfold ut
 refine (qk (U' := [some (.lst [.int n]), some (.int m), some (.int (n / m)), some (.int (n % m))]) ?_).trans ?_
 ·push_cast [at0, qf0 h0 h1, qcv, zR, qE, qcu, Option.bind_some]
 ·refine (qk (U' := [some (.lst [.int (n / m)]), some (.int m), some (.int (n / m)), some (.int (n % m))]) ?_).trans rfl
  push_cast [qoc, imm]
theorem qep (n : Int) (c : D) : ∃ a b m n', zF [.int n] [c] = .ok (.tup [.int a, .int b, m], [.int n']) /\ 1 <= a /\ a <= 25 /\ 0 <= b /\ b <= 39 /\ qjz c m := by
 have s2 : ∀ n k : Int, ∃ n' a b, (qgs 3 4 (qc (d2 uT (rI_ 1) (qx ql 0 (qc (rI_ 7) (ret [])))) (qc (qx ql 0 (qc (rI_ 10) (ret []))) (ret [])))) [some (.lst [.int n]), some c, some (.int k), none, none, none] = .ok (.nx [some (.lst [.int n']), some c, some (.int k), some (.int a), some (.int b), none]) /\ 1 <= a /\ a <= 7 /\ 0 <= b /\ b <= 9 := by
  intro n k
  refine ⟨n / 7 / 10, 1 + n % 7, n / 7 % 10, ?_, by omega, by omega, by omega, by omega⟩
  push_cast [jd (m := 7) (by decide) (by decide), jd (m := 10) (by decide) (by decide), yN]
 have s3 : ∀ n k a b : Int, 1 <= a -> a <= 7 -> 0 <= b -> b <= 9 -> ∃ b', (sif (tst (d2 eqB (dv 2) (rI_ 1))) (zf 4 (d2 zB (rI_ 2) (dv 3))) yu) [some (.lst [.int n]), some c, some (.int k), some (.int a), some (.int b), none] = .ok (.nx [some (.lst [.int n]), some c, some (.int k), some (.int a), some (.int b'), none]) /\ 0 <= b' /\ b' <= 14 := by
  intro n k a b h1 h2 h3 h4
  by_cases hk : k = 1
  ·refine ⟨2 * a, ?_, by omega, by omega⟩
   push_cast [hk, qod]
  ·refine ⟨b, ?_, by omega, by omega⟩
   push_cast [hk]
 have s4 : ∀ n k a b : Int, 1 <= a -> a <= 7 -> 0 <= b -> b <= 14 -> ∃ n' b', (sif (tst (d2 eqB (dv 2) (rI_ 2))) (zf 4 (d2 uT (dv 3) (qx ql 0 (qc (rI_ 3) (ret []))))) yu) [some (.lst [.int n]), some c, some (.int k), some (.int a), some (.int b), none] = .ok (.nx [some (.lst [.int n']), some c, some (.int k), some (.int a), some (.int b'), none]) /\ 0 <= b' /\ b' <= 14 := by
  intro n k a b h1 h2 h3 h4
  by_cases hk : k = 2
  ·refine ⟨n / 3, a + n % 3, ?_, by omega, by omega⟩
   push_cast [hk, yN, jd (m := 3) (by decide) (by decide)]
  ·refine ⟨n, b, ?_, by omega, by omega⟩
   push_cast [hk]
 have s5 : ∀ n k a b : Int, 1 <= a -> a <= 7 -> 0 <= b -> b <= 14 -> ∃ n' a' b', (sif (tst (d2 eqB (dv 2) (rI_ 3))) (qgs 3 4 (qc (d2 uT (rI_ 1) (qx ql 0 (qc (rI_ 25) (ret [])))) (qc (qx ql 0 (qc (rI_ 40) (ret []))) (ret [])))) yu) [some (.lst [.int n]), some c, some (.int k), some (.int a), some (.int b), none] = .ok (.nx [some (.lst [.int n']), some c, some (.int k), some (.int a'), some (.int b'), none]) /\ 1 <= a' /\ a' <= 25 /\ 0 <= b' /\ b' <= 39 := by
  intro n k a b h1 h2 h3 h4
  by_cases hk : k = 3
  ·refine ⟨n / 25 / 40, 1 + n % 25, n / 25 % 40, ?_, by omega, by omega, by omega, by omega⟩
   push_cast [hk, yN, jd (m := 25) (by decide) (by decide), jd (m := 40) (by decide) (by decide)]
  ·refine ⟨n, a, b, ?_, by omega, by omega, by omega, by omega⟩
   push_cast [hk]
 have s6 : ∀ n k a b : Int, ∃ n' m, (zf 5 (d2 ixD (uE (qc (rI_ 1) (qc (rI_ 1) (qc (rI_ 1) (qc (rI_ 2) (qc (rI_ 3) (qc (rI_ 0) (qc (rI_ 5) (qc (dv 1) (ret [])))))))))) (qx ql 0 (qc (rI_ 8) (ret []))))) [some (.lst [.int n]), some c, some (.int k), some (.int a), some (.int b), none] = .ok (.nx [some (.lst [.int n']), some c, some (.int k), some (.int a), some (.int b), some m]) /\ qjz c m := by
  intro n k a b
  obtain ⟨m, hm, e⟩ := qcg (ds := [.int 1, .int 1, .int 1, .int 2, .int 3, .int 0, .int 5, c]) (k := n % 8) (by omega) (by simp; omega)
  refine ⟨n / 8, m, ?_, ?_⟩
  ·push_cast [jd (m := 8) (by decide) (by decide), jr (show 8 <= 1000000 by omega), e]
  ·simp only [List.mem_cons, nN_, or_false] at hm
   rcases hm with h | h | h | h | h | h | h | h
   ·exact .inr ⟨_, h, by omega, by omega⟩
   ·exact .inr ⟨_, h, by omega, by omega⟩
   ·exact .inr ⟨_, h, by omega, by omega⟩
   ·exact .inr ⟨_, h, by omega, by omega⟩
   ·exact .inr ⟨_, h, by omega, by omega⟩
   ·exact .inr ⟨_, h, by omega, by omega⟩
   ·exact .inr ⟨_, h, by omega, by omega⟩
   ·exact .inl h
 obtain ⟨n2, a2, b2, e2, p2, q2, r2, t2⟩ := s2 (n / 6) (n % 6)
 obtain ⟨b3, e3, r3, t3⟩ := s3 n2 (n % 6) a2 b2 p2 q2 r2 t2
 obtain ⟨n4, b4, e4, r4, t4⟩ := s4 n2 (n % 6) a2 b3 p2 q2 r3 t3
 obtain ⟨n5, a5, b5, e5, p5, q5, r5, t5⟩ := s5 n4 (n % 6) a2 b4 p2 q2 r4 t4
 obtain ⟨n6, m, e6, g6⟩ := s6 n5 (n % 6) a5 b5
 refine ⟨a5, b5, m, n6, ?_, p5, q5, r5, t5, g6⟩
 unfold zF
 refine qdo (U := [some (.lst [.int n6]), some c, some (.int (n % 6)), some (.int a5), some (.int b5), some m]) rfl ?_ rfl
 unfold ya
 refine (qk (U' := [some (.lst [.int (n / 6)]), some c, some (.int (n % 6)), none, none, none]) ?_).trans ?_
 ·push_cast [jd (m := 6) (by decide) (by decide)]
 refine (qk e2).trans ?_
 refine (qk e3).trans ?_
 refine (qk e4).trans ?_
 refine (qk e5).trans ?_
 refine (qk e6).trans ?_
 push_cast [jr (show 3 <= 1000000 by omega)]
theorem qeq (n : Int) (ks : List D) (o4 o5 : Option D) (h : ∀ k ∈ ks, zX k) (hl : ks.length <= 12) : ∃ n' k', zX k' /\ (qN (zf 5 (qx zF 0 (qc (dv 2) (ret [])))) (qN (sif (qbD (tst (qex 3 (uE (ret [])))) (tst (d2 eqB (qx ql 0 (qc (rI_ 7) (ret []))) (rI_ 6)))) (zf 5 (qdg 3 (qx ql 0 (qc (qbW 3) (ret []))))) yu) (uF (vp 3 (dv 5))))) [some (.lst [.int n]), some (.int 12), some .non, some (.lst ks), o4, o5] = .ok (.nx [some (.lst [.int n']), some (.int 12), some .non, some (.lst (ks ++ [k'])), o4, some k']) := by
 obtain ⟨a, b, m, n1, e1, p1, p2, p3, p4, p5⟩ := qep n .non
 have gk : zX (.tup [.int a, .int b, m]) := ⟨a, b, m, rfl, p1, p2, p3, p4, p5⟩
 obtain ⟨b0, eb, hb⟩ := qcS h
 have s1 : (zf 5 (qx zF 0 (qc (dv 2) (ret [])))) [some (.lst [.int n]), some (.int 12), some .non, some (.lst ks), o4, o5] = .ok (.nx [some (.lst [.int n1]), some (.int 12), some .non, some (.lst ks), o4, some (.tup [.int a, .int b, m])]) := by
  push_cast [e1]
 have s2 : ∃ n' k', zX k' /\ (sif (qbD (tst (qex 3 (uE (ret [])))) (tst (d2 eqB (qx ql 0 (qc (rI_ 7) (ret []))) (rI_ 6)))) (zf 5 (qdg 3 (qx ql 0 (qc (qbW 3) (ret []))))) yu) [some (.lst [.int n1]), some (.int 12), some .non, some (.lst ks), o4, some (.tup [.int a, .int b, m])] = .ok (.nx [some (.lst [.int n']), some (.int 12), some .non, some (.lst ks), o4, some k']) := by
  cases b0 with
  | false =>
   refine ⟨n1, _, gk, ?_⟩
   push_cast [eb, jr (show 0 <= 1000000 by omega)]
  | true =>
   have hne := hb rfl
   have hpos : 0 < ks.length := List.length_pos_iff.mpr hne
   by_cases h6 : n1 % 7 = 6
   ·obtain ⟨k', hk', e⟩ := qlF (ds := ks) (k := n1 / 7 % (ks.length : Int)) (Int.emod_nonneg _ (by omega)) (Int.emod_lt_of_pos _ (by omega))
    refine ⟨n1 / 7 / (ks.length : Int), k', h k' hk', ?_⟩
    push_cast [eb, jr (show 0 <= 1000000 by omega), jd (m := 7) (by decide) (by decide), h6, jd (m := (ks.length : Int)) (by omega) (by omega), e]
   ·refine ⟨n1 / 7, _, gk, ?_⟩
    push_cast [eb, jr (show 0 <= 1000000 by omega), jd (m := 7) (by decide) (by decide), h6]
 obtain ⟨n2, k', gk', e2⟩ := s2
 refine ⟨n2, k', gk', ?_⟩
 refine (qk s1).trans ((qk e2).trans ?_)
 push_cast [gk'.imm, jr (show ks.length + 1 <= 1000000 by omega), Bool.and_self]
theorem qaY : ∀ (ds : List D) (n : Int) (ks : List D) (o4 o5 : Option D), (∀ k ∈ ks, zX k) -> ks.length + ds.length <= 12 ->
  ∃ n' ks' o4' o5', jV (qE 4) (qN (zf 5 (qx zF 0 (qc (dv 2) (ret [])))) (qN (sif (qbD (tst (qex 3 (uE (ret [])))) (tst (d2 eqB (qx ql 0 (qc (rI_ 7) (ret []))) (rI_ 6)))) (zf 5 (qdg 3 (qx ql 0 (qc (qbW 3) (ret []))))) yu) (uF (vp 3 (dv 5))))) ds [some (.lst [.int n]), some (.int 12), some .non, some (.lst ks), o4, o5] = .ok (.nx [some (.lst [.int n']), some (.int 12), some .non, some (.lst ks'), o4', o5']) /\ (∀ k ∈ ks', zX k) /\ ks'.length <= 12
 | [], n, ks, o4, o5, h, hl => ⟨n, ks, o4, o5, rfl, h, by simpa using hl⟩
 | d :: ds, n, ks, o4, o5, h, hl => by
  have hl' : ks.length + (ds.length + 1) <= 12 := hl
  obtain ⟨n1, k', gk, e⟩ := qeq n ks (some d) o5 h (by omega)
  obtain ⟨n', ks', o4', o5', q, g, l⟩ := qaY ds n1 (ks ++ [k']) (some d) (some k') (fun x hx => (mA_.mp hx).elim (h x) fun hx => by
   rw [List.mem_singleton] at hx; subst hx; exact gk) (by rw [lA_, List.length_singleton]; omega)
  refine ⟨n', ks', o4', o5', ?_, g, l⟩
  unfold jV
  simp only [qE, List.set_cons_zero, List.set_cons_succ, e]
  exact q
theorem qer (n : Int) : ∃ ks n', yc [.int n] [.int 12, .non] = .ok (.tup ks, [.int n']) /\ (∀ k ∈ ks, zX k) /\ ks.length <= 12 := by
 obtain ⟨n', ks', o4', o5', q, g, l⟩ := qaY (qa7 0 (n % 13).toNat) (n / 13) [] none none (fun _ h => by cases h) (by rw [qhs]; simp; omega)
 refine ⟨ks', n', ?_, g, l⟩
 unfold yc
 refine qdo (U := [some (.lst [.int n']), some (.int 12), some .non, some (.lst ks'), o4', o5']) rfl ?_ rfl
 unfold yb
 refine (qk (U' := [some (.lst [.int n]), some (.int 12), some .non, some (.lst []), none, none]) ?_).trans ?_
 ·push_cast [immL, jr (show 0 <= 1000000 by omega), Bool.and_self]
 refine (qk (U' := [some (.lst [.int n']), some (.int 12), some .non, some (.lst ks'), o4', o5']) ?_).trans ?_
 ·rw [ve, vU (j := n % 13) (U1 := [some (.lst [.int (n / 13)]), some (.int 12), some .non, some (.lst []), none, none]) ?_ (by omega) (by omega)]
  ·exact q
  ·push_cast [yN, jd (m := 13) (by decide) (by decide), Int.reduceAdd]
 ·push_cast []
theorem qj2 (ns : List Int) (i : Int) (h0 : 0 <= i) : ∃ x, j8 [.fz ns, .int i] = .ok (.int x) := by
 by_cases h : i < ns.length
 ·obtain ⟨j, rfl⟩ := Int.eq_ofNat_of_zero_le h0
  have hj : j < ns.length := by omega
  have e : ixD (.fz ns) (.int (j : Int)) = some (.int ns[j]) := by
   show (atI ns (j : Int)).map D.int = _
   unfold atI ixN
   rw [if_pos (by omega), if_pos (by omega)]
   show (ns[(j : Int).toNat]?).map D.int = _
   rw [Int.toNat_natCast, gG hj]; rfl
  refine ⟨ns[j], ?_⟩
  unfold j8 uu
  refine uY rfl ⟨[some (.fz ns), some (.int (j : Int))], ?_⟩
  refine (jT (d := .int ns[j]) (U' := [some (.fz ns), some (.int (j : Int))]) ?_)
  push_cast [e, qaM, h]
 ·refine ⟨0, ?_⟩
  unfold j8 uu
  refine uY rfl ⟨[some (.fz ns), some (.int i)], ?_⟩
  refine (qk (U' := [some (.fz ns), some (.int i)]) ?_).trans rfl
  push_cast [qaM, h]
theorem qlU (x j : Int) (h0 : 0 <= j) (h1 : j < 40) : ∃ v, yD [.int x, .int j] = .ok (.int v) := by
 obtain ⟨m, hm, e⟩ := qcg (ds := [.int 48271, .int 69621, .int 16807, .int 39373, .int 30269, .int 40014, .int 40692, .int 50021, .int 61687, .int 71993, .int 83869, .int 95561, .int 30307]) (k := j % 13) (by omega) (by simp; omega)
 have hm2 : ∃ c, m = .int c /\ ye c = true := by
  have : m ∈ facts.map D.int := hm
  obtain ⟨c, hc, rfl⟩ := mP_.mp this
  exact ⟨c, rfl, List.all_eq_true.mp (show facts.all ye = true by decide) c hc⟩
 obtain ⟨c, rfl, hc⟩ := hm2
 have f3 : ∀ s : Int, ye (s % 1000000007) = true := fun s => qjA (by omega) (by omega)
 have f977 : ye 977 = true := by decide
 have f79 : ye 7919 = true := by decide
 have f48 : ye 48271 = true := by decide
 let L : D := .lst [.int 48271, .int 69621, .int 16807, .int 39373, .int 30269, .int 40014, .int 40692, .int 50021, .int 61687, .int 71993, .int 83869, .int 95561, .int 30307]
 let s1 : Int := (x % 2147483647 + 12345) * c + 977 * j + 7919 * (j / 13)
 let s2 : Int := s1 % 1000000007
 refine ⟨(s2 * s2 + 48271 * j) % 1000000007 / 7, ?_⟩
 unfold yD wD
 refine uY rfl ⟨[some (.int x), some (.int j), some L, some (.int s2)], ?_⟩
 refine (qk (U' := [some (.int x), some (.int j), some L, none]) ?_).trans ?_
 ·push_cast [jr (show 13 <= 1000000 by omega)]
  rfl
 refine (qk (U' := [some (.int x), some (.int j), some L, some (.int s1)]) ?_).trans ?_
 ·push_cast [L, uk (j := 2147483647) (by decide), uk (j := 13) (by decide), yN, e, qht hc, qf1 f977, qf1 f79, vW (j := 13) (by decide) (by decide)]
  rfl
 refine (qk (U' := [some (.int x), some (.int j), some L, some (.int s2)]) ?_).trans ?_
 ·push_cast [uk (j := 1000000007) (by decide), s2]
 ·push_cast [uk (j := 1000000007) (by decide), s2, yN, qf1 (f3 _), qf1 f48, vW (j := 7) (by decide) (by decide)]
theorem qdR (A B : Option D) (x : Int) : ∀ (ds : List D) (s : Int) (o : Option D), (∀ d ∈ ds, ∃ j : Int, d = .int j /\ 0 <= j /\ j < 40) -> ∃ s' o', jV (qE 4) (zf 3 (d2 uT (d2 zB (dv 3) (rI_ 142857143)) (qo yD (qc (dv 2) (qc (dv 4) (ret [])))))) ds [A, B, some (.int x), some (.int s), o] = .ok (.nx [A, B, some (.int x), some (.int s'), o'])
 | [], s, o, _ => ⟨s, o, rfl⟩
 | d :: ds, s, o, h => by
  obtain ⟨j, rfl, h0, h1⟩ := h d mS_
  obtain ⟨v, e⟩ := qlU x j h0 h1
  obtain ⟨s', o', q⟩ := qdR A B x ds (s * 142857143 + v) (some (.int j)) fun y hy => h y (mM _ hy)
  refine ⟨s', o', ?_⟩
  have st : (zf 3 (d2 uT (d2 zB (dv 3) (rI_ 142857143)) (qo yD (qc (dv 2) (qc (dv 4) (ret [])))))) [A, B, some (.int x), some (.int s), some (.int j)] = .ok (.nx [A, B, some (.int x), some (.int (s * 142857143 + v)), some (.int j)]) := by
   push_cast [e, qht (j := 142857143) (by decide), yN]
  unfold jV
  simp only [qE, List.set_cons_zero, List.set_cons_succ, st]
  exact q
theorem qlV (ns : List Int) (i : Int) (h0 : 0 <= i) : ∃ n, ua [.fz ns, .int i] = .ok (.lst [.int n]) := by
 obtain ⟨x, e⟩ := qj2 ns i h0
 have s1 : (zf 2 (qo j8 (qc (dv 0) (qc (dv 1) (ret []))))) [some (.fz ns), some (.int i), none, none, none] = .ok (.nx [some (.fz ns), some (.int i), some (.int x), none, none]) := by
  push_cast [e]
 by_cases hx : x % 2 = 0
 ·refine ⟨(if x < 0 then -x else x) / 2, ?_⟩
  unfold ua u7
  refine uY rfl ⟨[some (.fz ns), some (.int i), some (.int x), none, none], ?_⟩
  refine (qk s1).trans (jT ?_)
  push_cast [uk (j := 2) (by decide), hx, ql8, vW (j := 2) (by decide) (by decide), jr (show 1 <= 1000000 by omega)]
 ·obtain ⟨s', o', q⟩ := qdR (some (.fz ns)) (some (.int i)) x (qa7 0 40) 0 none fun d hd => by
   unfold qa7 at hd
   obtain ⟨k, hk, rfl⟩ := mP_.mp hd
   have hk' := mR_.mp hk
   exact ⟨_, rfl, by omega, by omega⟩
  refine ⟨s', ?_⟩
  unfold ua u7
  refine uY rfl ⟨[some (.fz ns), some (.int i), some (.int x), some (.int s'), o'], ?_⟩
  refine (qk s1).trans ?_
  refine (qk (U' := [some (.fz ns), some (.int i), some (.int x), none, none]) ?_).trans ?_
  ·push_cast [uk (j := 2) (by decide), hx]
  refine (qk (U' := [some (.fz ns), some (.int i), some (.int x), some (.int 0), none]) ?_).trans ?_
  ·push_cast []
  refine (qk (U' := [some (.fz ns), some (.int i), some (.int x), some (.int s'), o']) ?_).trans ?_
  ·rw [ve, vU (j := 40) (U1 := [some (.fz ns), some (.int i), some (.int x), some (.int 0), none]) rfl (by omega) (by omega)]
   exact q
  ·push_cast [jr (show 1 <= 1000000 by omega)]
theorem qlW (n : Int) : ∃ d n', jt [.int n] [] = .ok (d, [.int n']) /\ qnx 130 5 d /\ dl d = true := by
 obtain ⟨d, hd, e⟩ := qcg (ds := qcT ++ qcU) (k := n % 22) (by omega) (by show n % 22 < 22; omega)
 have hn := List.all_eq_true.mp qf2 d hd
 rw [Bool.and_eq_true] at hn
 refine ⟨d, n / 22, ?_, qjC hn.1, hn.2⟩
 unfold jt
 refine qdo (U := [some (.lst [.int (n / 22)]), some (.lst (qcT ++ qcU))]) rfl ?_ rfl
 unfold js
 refine (qk (U' := [some (.lst [.int n]), some (.lst qcT)]) ?_).trans ?_
 ·push_cast [neg_int, qjD, jr (show 1 <= 1000000 by omega), jr (show 2 <= 1000000 by omega), jr (show 14 <= 1000000 by omega), qcT]
 refine (qk (U' := [some (.lst [.int n]), some (.lst (qcT ++ qcU))]) ?_).trans ?_
 ·have e2 := qbj (xs := qcT) (ys := qcU) (by decide)
  simp only [qcU] at e2
  push_cast [neg_int, jr (show 1 <= 1000000 by omega), jr (show 3 <= 1000000 by omega), jr (show 8 <= 1000000 by omega), e2, qcU]
 ·push_cast [jd (m := 22) (by decide) (by decide), e]
theorem qgn {G : D -> Env -> Option Env} {b : MS} {d v : D} {ds : List D} {U U1 U2 : Env} (h1 : G d U = some U1) (h2 : b U1 = .ok (.rt v U2)) : jV G b (d :: ds) U = .ok (.rt v U2) := by
 show (match G d U with | none => R.bad | some U1 => _) = _
 rw [h1]
 simp only [h2]
theorem yH {t : M Bool} {U : Env} {b : Bool} (h : t U = .ok (b, U)) : vj t U = .ok (!b, U) := by rw [qfn, h]
noncomputable def boB : MS := (qN (zf 5 (d2 qa5 (d2 zB (d2 ixD (dv 4) (rI_ 1)) (d2 ixD (dv 2) (rI_ 1))) (d2 zB (d2 ixD (dv 4) (rI_ 0)) (d2 ixD (dv 2) (rI_ 0))))) (qN (sif (qbD (tst (d2 gtD (dv 5) (rI_ 0))) (tst (d2 isN (d2 ixD (dv 4) (rI_ 2)) (ret .non)))) (jv (ret .non)) yu) (sif (tst (d2 gtD (dv 5) (rI_ 0))) (zf 3 (d2 uT (dv 3) (d2 zB (dv 5) (d2 ixD (dv 4) (rI_ 2))))) yu)))
noncomputable def lbB : MS := (qN (zf 7 (d2 qa5 (d2 zB (dv 5) (d2 ixD (dv 2) (rI_ 1))) (d2 zB (dv 4) (d2 ixD (dv 2) (rI_ 0))))) (sif (tst (d2 gtD (dv 7) (rI_ 0))) (qN (sif (tst (d2 isN (dv 6) (ret .non))) (jv (ret .non)) yu) (zf 3 (d2 uT (dv 3) (d2 zB (dv 7) (dv 6))))) yu))
noncomputable def spB : MS := (qN (sif (vj (tst (qo ja (qc (d2 ixD (dv 0) (dv 3)) (qc (dv 2) (ret [])))))) (jv (qo zE (qc (d2 ixD (d2 ixD (dv 0) (dv 3)) (rI_ 1)) (qc (d2 ixD (d2 ixD (dv 0) (dv 3)) (rI_ 0)) (ret []))))) yu) (zf 2 (qo ji (qc (d2 ixD (dv 0) (dv 3)) (qc (dv 2) (ret []))))))
def qoi : D -> Env -> Option Env := qcv 3 (zR (qE 4) (zR (qE 5) (zR (qE 6) qcu)))
def mO (x : Nk) : Option D := some (mD (x.2.2.map fun m : Nat => (m : Int)))
def wO (x : Nk) : Option D := some (.int (x.1 : Nat))
def gO (x : Nk) : Option D := some (.int (x.2.1 : Nat))
def nO (n : Nat) : Option D := some (.int (n : Nat))
def bdD (b : Nat) : Option Nat -> D
 | none => .non
 | some T => qf7 T b
theorem qj3 (w g t b : Nat) : gtD (.int (((g * b : Nat) : Int) - ((w * t : Nat) : Int))) (.int 0) = some (.bl (decide (w * t < g * b))) := by
 rw [vw]
 congr 2
 apply decide_eq_decide.mpr
 omega
theorem qhC {x : Nk} {t b : Nat} (h : x.1 * t < x.2.1 * b) : (((x.2.1 * b : Nat) : Int) - ((x.1 * t : Nat) : Int)) = ((yK t b x : Nat) : Int) := by
 unfold yK
 omega
def StB (t b : Nat) (G : D -> Env -> Option Env) (B : MS) (E : Nat -> Env -> Prop) (x : Nk) (T : Nat) (U : Env) : Prop := ∃ U1, G (tK x) U = some U1 /\ (x.1 * t < x.2.1 * b -> x.2.2 = none -> ∃ U2, B U1 = .ok (.rt .non U2)) /\ (∀ m, x.1 * t < x.2.1 * b -> x.2.2 = some m -> ∃ U2, B U1 = .ok (.nx U2) /\ E (T + yK t b x * m) U2) /\ (¬ x.1 * t < x.2.1 * b -> ∃ U2, B U1 = .ok (.nx U2) /\ E T U2)
theorem qc1 {t b : Nat} {G : D -> Env -> Option Env} {B : MS} {E : Nat -> Env -> Prop} : ∀ (l : List Nk) (T : Nat) (U : Env), (∀ x ∈ l, ∀ T U, E T U -> StB t b G B E x T U) -> E T U ->
  (∀ T', bdN t b l T = some T' -> ∃ U', jV G B (l.map tK) U = .ok (.nx U') /\ E T' U') /\ (bdN t b l T = none -> ∃ U', jV G B (l.map tK) U = .ok (.rt .non U'))
 | [], T, U, _, h => ⟨fun T' e => ⟨U, rfl, by cases (Option.some.inj (show some T = some T' from e)); exact h⟩, fun e => nomatch (show some T = none from e)⟩
 | x :: l, T, U, hs, h => by
  obtain ⟨U1, g, s1, s2, s3⟩ := hs x mS_ T U h
  have ih := fun T U => qc1 l T U fun y hy => hs y (mM _ hy)
  have go : ∀ T1 U2, B U1 = .ok (.nx U2) -> E T1 U2 -> bdN t b (x :: l) T = bdN t b l T1 -> (∀ T', bdN t b (x :: l) T = some T' -> ∃ U', jV G B (tK x :: l.map tK) U = .ok (.nx U') /\ E T' U') /\ (bdN t b (x :: l) T = none -> ∃ U', jV G B (tK x :: l.map tK) U = .ok (.rt .non U')) := fun T1 U2 e1 e2 e3 => by
   rw [y8 g e1, e3]
   exact ih T1 U2 e2
  rw [mC_]
  by_cases c : x.1 * t < x.2.1 * b
  ·cases e : x.2.2 with
   | none =>
    obtain ⟨U2, s⟩ := s1 c e
    have : bdN t b (x :: l) T = none := by unfold bdN; rw [if_pos c, e]
    rw [this]
    exact ⟨(fun T' h => nomatch h), fun _ => ⟨U2, qgn g s⟩⟩
   | some m =>
    obtain ⟨U2, s, h2⟩ := s2 m c e
    refine go _ U2 s h2 ?_
    conv => lhs; unfold bdN
    rw [if_pos c, e]
  ·obtain ⟨U2, s, h2⟩ := s3 c
   refine go _ U2 s h2 ?_
   conv => lhs; unfold bdN
   rw [if_neg c]
section
variable {t b : Nat} (ht : t <= Mx) (hb0 : 0 < b) (hb : b <= Mx)
include ht hb0 hb
theorem qgo {U : Env} {i : Nat} {x : Nk} {f g : M D} (h : U[i]? = some (some (.int (((x.2.1 * b : Nat) : Int) - ((x.1 * t : Nat) : Int))))) : tst (d2 gtD (dv i) (rI_ 0)) U = .ok (decide (x.1 * t < x.2.1 * b), U) := zx (qi (by rw [qli, h]) rfl (qj3 _ _ _ _))
theorem qiv {U : Env} {i j T : Nat} {x : Nk} {m : Nat} {f : M D} (c : x.1 * t < x.2.1 * b) (hm : m <= Mx) (h : U[i]? = some (some (.int (((x.2.1 * b : Nat) : Int) - ((x.1 * t : Nat) : Int))))) (h3 : dv 3 U = .ok (.int (T : Nat), U)) (hf : f U = .ok (.int (m : Nat), U)) : zf 3 (d2 uT (dv 3) (d2 zB (dv i) f)) U = .ok (.nx (U.set 3 (nO (T + yK t b x * m)))) := by
 rw [qhC c] at h
 exact yO (qi h3 (qi (by rw [qli, h]) hf (yp _ hm)) (qnz _ _))
def bE (S R0 : Option D) (t b T : Nat) (U : Env) : Prop := ∃ o4 o5, U = [S, R0, some (frD t b), nO T, o4, o5]
theorem qj4 (S R0 : Option D) {x : Nk} (hm : ∀ m, x.2.2 = some m -> m <= Mx) (T : Nat) (U : Env) (h : bE S R0 t b T U) : StB t b (qE 4) boB (bE S R0 t b) x T U := by
 obtain ⟨o4, o5, rfl⟩ := h
 let M : Option D := some (.int (((x.2.1 * b : Nat) : Int) - ((x.1 * t : Nat) : Int)))
 let U0 : Env := [S, R0, some (frD t b), nO T, some (tK x), o5]
 let U : Env := [S, R0, some (frD t b), nO T, some (tK x), M]
 have e0 : (zf 5 (d2 qa5 (d2 zB (d2 ixD (dv 4) (rI_ 1)) (d2 ixD (dv 2) (rI_ 1))) (d2 zB (d2 ixD (dv 4) (rI_ 0)) (d2 ixD (dv 2) (rI_ 0))))) U0 = .ok (.nx U) := yO (qi (qi (qi rfl rfl (tk1 x)) (qi rfl rfl (qem t b)) (yp _ hb)) (qi (qi rfl rfl (tk0 x)) (qi rfl rfl (qf9 t b)) (yp _ ht)) (vV _ _))
 have eg := qgo ht hb0 hb (U := U) (i := 5) (x := x) (f := dv 0) (g := dv 0) rfl
 have ei : tst (d2 isN (d2 ixD (dv 4) (rI_ 2)) (ret .non)) U = .ok (y0 (mD (x.2.2.map fun m : Nat => (m : Int))), U) := zx (qi (qi rfl rfl (tk2 x)) rfl (qce _))
 refine ⟨U0, rfl, fun h e => ⟨U, ?_⟩, fun m h e => ?_, fun h => ?_⟩
 ·rw [decide_eq_true h] at eg
  rw [e] at ei
  exact (qk e0).trans (jT ((qdI (qga eg ei)).trans rfl))
 ·rw [decide_eq_true h] at eg
  rw [e] at ei
  refine ⟨_, (qk e0).trans ((qk (qbE (qga eg ei))).trans ((qdI eg).trans (qiv ht hb0 hb (U := U) (j := 0) h (hm m e) rfl rfl (qi rfl rfl ?_)))), _, _, rfl⟩
  rw [tk2, e]
  rfl
 ·rw [decide_eq_false h] at eg
  exact ⟨U, (qk e0).trans ((qk (qbE (qjM eg))).trans (qbE eg)), _, _, rfl⟩
theorem qbx {ks : List Nk} (hm : ∀ x ∈ ks, ∀ m, x.2.2 = some m -> m <= Mx) (r : Nat) : u5 [.tup (ks.map tK), .int (r : Nat), frD t b] = .ok (bdD b (bdN t b ks (r * t))) := by
 let S : Option D := some (.tup (ks.map tK))
 obtain ⟨l1, l2⟩ := qc1 ks (r * t) [S, nO r, some (frD t b), nO (r * t), none, none] (fun x hx T U h => qj4 ht hb0 hb S (nO r) (hm x hx) T U h) ⟨_, _, rfl⟩
 have e0 : (zf 3 (d2 zB (dv 1) (d2 ixD (dv 2) (rI_ 0)))) [S, nO r, some (frD t b), none, none, none] = .ok (.nx [S, nO r, some (frD t b), nO (r * t), none, none]) := yO (qi rfl (qi rfl rfl (qf9 t b)) (yp _ ht))
 unfold u5
 cases c : bdN t b ks (r * t) with
 | none =>
  obtain ⟨U, q⟩ := l2 c
  refine uY rfl ⟨U, ?_⟩
  unfold u4
  exact (qk e0).trans (jT q)
 | some T =>
  obtain ⟨_, q, p4, p5, rfl⟩ := l1 T c
  refine uY rfl ⟨[S, nO r, some (frD t b), nO T, p4, p5], ?_⟩
  unfold u4
  exact (qk e0).trans ((qk q).trans (yP (yo rfl (qi rfl rfl (qem t b)) (ub T hb0 (Nat.lt_of_le_of_lt hb qco)))))
def lE (S R0 : Option D) (t b T : Nat) (U : Env) : Prop := ∃ o4 o5 o6 o7, U = [S, R0, some (frD t b), nO T, o4, o5, o6, o7]
theorem qj5 (S R0 : Option D) {x : Nk} (hm : ∀ m, x.2.2 = some m -> m <= Mx) (T : Nat) (U : Env) (h : lE S R0 t b T U) : StB t b qoi lbB (lE S R0 t b) x T U := by
 obtain ⟨o4, o5, o6, o7, rfl⟩ := h
 let M : Option D := some (.int (((x.2.1 * b : Nat) : Int) - ((x.1 * t : Nat) : Int)))
 let U0 : Env := [S, R0, some (frD t b), nO T, wO x, gO x, mO x, o7]
 let U : Env := [S, R0, some (frD t b), nO T, wO x, gO x, mO x, M]
 have e0 : (zf 7 (d2 qa5 (d2 zB (dv 5) (d2 ixD (dv 2) (rI_ 1))) (d2 zB (dv 4) (d2 ixD (dv 2) (rI_ 0))))) U0 = .ok (.nx U) := yO (qi (qi (f := dv 5) rfl (qi rfl rfl (qem t b)) (yp _ hb)) (qi (f := dv 4) rfl (qi rfl rfl (qf9 t b)) (yp _ ht)) (vV _ _))
 have eg := qgo ht hb0 hb (U := U) (i := 7) (x := x) (f := dv 0) (g := dv 0) rfl
 have ei : tst (d2 isN (dv 6) (ret .non)) U = .ok (y0 (mD (x.2.2.map fun m : Nat => (m : Int))), U) := zx (qi rfl rfl (qce _))
 refine ⟨U0, rfl, fun h e => ⟨U, ?_⟩, fun m h e => ?_, fun h => ?_⟩
 ·rw [decide_eq_true h] at eg
  rw [e] at ei
  exact (qk e0).trans ((qdI eg).trans (jT ((qdI ei).trans rfl)))
 ·rw [decide_eq_true h] at eg
  have e6 : dv 6 U = .ok (.int (m : Nat), U) := by
   rw [qli, show U[6]? = some (mO x) from rfl, mO, e]
   rfl
  rw [e] at ei
  exact ⟨_, (qk e0).trans ((qdI eg).trans ((qk (qbE ei)).trans (qiv ht hb0 hb (U := U) (j := 0) h (hm m e) rfl rfl e6))), _, _, _, _, rfl⟩
 ·rw [decide_eq_false h] at eg
  exact ⟨U, (qk e0).trans (qbE eg), _, _, _, _, rfl⟩
theorem vZ {ks : List Nk} (hm : ∀ x ∈ ks, ∀ m, x.2.2 = some m -> m <= Mx) (r : Nat) : zn [.tup (ks.map tK), .int (r : Nat), frD t b] = .ok (bdD b (bdN t b ks (r * t))) := by
 let S : Option D := some (.tup (ks.map tK))
 obtain ⟨l1, l2⟩ := qc1 ks (r * t) [S, nO r, some (frD t b), nO (r * t), none, none, none, none] (fun x hx T U h => qj5 ht hb0 hb S (nO r) (hm x hx) T U h) ⟨_, _, _, _, rfl⟩
 have e0 : (zf 3 (d2 zB (dv 1) (d2 ixD (dv 2) (rI_ 0)))) [S, nO r, some (frD t b), none, none, none, none, none] = .ok (.nx [S, nO r, some (frD t b), nO (r * t), none, none, none, none]) := yO (qi rfl (qi rfl rfl (qf9 t b)) (yp _ ht))
 unfold zn
 cases c : bdN t b ks (r * t) with
 | none =>
  obtain ⟨U, q⟩ := l2 c
  refine uY rfl ⟨U, ?_⟩
  unfold jN
  exact (qk e0).trans (jT q)
 | some T =>
  obtain ⟨_, q, p4, p5, p6, p7, rfl⟩ := l1 T c
  refine uY rfl ⟨[S, nO r, some (frD t b), nO T, p4, p5, p6, p7], ?_⟩
  unfold jN
  exact (qk e0).trans ((qk q).trans (yP (yo rfl (qi rfl rfl (qem t b)) (jj T hb0 (Nat.lt_of_le_of_lt hb qco)))))
end
def zW : D -> Bool
 | .tup [.int t, .int b] => decide (0 <= t) && (decide (1 <= b) && decide (Nat.gcd t.toNat b.toNat = 1))
 | _ => false
theorem qdS {t b : Nat} (h : 0 < b) (g : Nat.gcd t b = 1) : zW (frD t b) = true := by
 show (decide (0 <= (t : Int)) && (decide (1 <= (b : Int)) && decide (Nat.gcd (t : Int).toNat (b : Int).toNat = 1))) = true
 rw [Int.toNat_natCast, Int.toNat_natCast, decide_eq_true g, decide_eq_true (show (0 : Int) <= t by omega), decide_eq_true (show (1 : Int) <= b by omega)]
 rfl
theorem qdT {ds : List D} (h : ds.length ≠ 2) : zW (.tup ds) = false := by
 match ds, h with
 | [], _ => rfl
 | [_], _ => simp [zW]
 | [_, _], h => exact absurd rfl h
 | _ :: _ :: _ :: _, _ => simp [zW]
theorem qnG {ds : List D} (h : ds.length = 2) : ∃ a b, ds = [a, b] := by
 match ds, h with
 | [a, b], _ => exact ⟨a, b, rfl⟩
theorem qlX (a b : D) : ixD (.tup [a, b]) (.int 0) = some a := rfl
theorem qkj (a b : D) : ixD (.tup [a, b]) (.int 1) = some b := rfl
theorem geI (i j : Int) : geD (.int i) (.int j) = some (.bl (decide (j <= i))) := rfl
theorem eq1 (n : Nat) : eqB (.int (n : Nat)) (.int 1) = some (.bl (decide (n = 1))) := by
 rw [wj]
 congr 2
 apply decide_eq_decide.mpr
 omega
theorem v0 (d : D) : u6 [d] = .ok (.bl (zW d)) := by
 unfold u6 wA
 refine uY rfl ⟨[some d], ?_⟩
 cases d with
 | tup ds =>
  by_cases h : ds.length = 2
  ·obtain ⟨a, b, rfl⟩ := qnG h
   let U : Env := [some (.tup [a, b])]
   refine (qk (U' := U) rfl).trans ?_
   have c1 : tst (qo zj (qc (d2 ixD (dv 0) (rI_ 0)) (ret []))) U = .ok (zu a, U) := zx (wM (qi rfl rfl (qlX _ _)) (zP a))
   have c2 : tst (qo zj (qc (d2 ixD (dv 0) (rI_ 1)) (ret []))) U = .ok (zu b, U) := zx (wM (qi rfl rfl (qkj _ _)) (zP b))
   cases ha : zu a with
   | false =>
    rw [ha] at c1
    have hp : zW (.tup [a, b]) = false := by
     cases a with
     | int i => cases b with
      | int j =>
       have : ¬ (0 : Int) <= i := fun z => by rw [show zu (.int i) = decide (0 <= i) from rfl, decide_eq_true z] at ha; cases ha
       show (decide (0 <= i) && _) = false
       rw [decide_eq_false this]
       rfl
      | _ => rfl
     | _ => rfl
    rw [hp]
    exact jT ((qdI (qmY (yH c1))).trans rfl)
   | true =>
    rw [ha] at c1
    cases hb : zu b with
    | false =>
     rw [hb] at c2
     have hp : zW (.tup [a, b]) = false := by
      cases a with
      | int i => cases b with
       | int j =>
        have : ¬ (1 : Int) <= j := fun z => by rw [show zu (.int j) = decide (0 <= j) from rfl, decide_eq_true (show (0 : Int) <= j by omega)] at hb; cases hb
        show (decide (0 <= i) && (decide (1 <= j) && _)) = false
        rw [decide_eq_false this, Bool.false_and, Bool.and_false]
       | _ => rfl
      | _ => rfl
     rw [hp]
     have : tor (vj (tst (qo zj (qc (d2 ixD (dv 0) (rI_ 0)) (ret []))))) (tor (vj (tst (qo zj (qc (d2 ixD (dv 0) (rI_ 1)) (ret []))))) (tst (d2 eqB (d2 ixD (dv 0) (rI_ 1)) (rI_ 0)))) U = .ok (true, U) := by
      rw [qaG, yH c1]
      exact qmY (yH c2)
     exact jT ((qdI this).trans rfl)
    | true =>
     rw [hb] at c2
     cases a with
     | int i => cases b with
      | int j =>
       have hi : 0 <= i := of_decide_eq_true ha
       have hj : 0 <= j := of_decide_eq_true hb
       have c3 : tst (d2 eqB (d2 ixD (dv 0) (rI_ 1)) (rI_ 0)) U = .ok (decide (j = 0), U) := zx (qi (qi rfl rfl (qkj _ _)) rfl (wj _ _))
       by_cases hj0 : j = 0
       ·rw [decide_eq_true hj0] at c3
        have hp : zW (.tup [.int i, .int j]) = false := by
         show (decide (0 <= i) && (decide (1 <= j) && _)) = false
         rw [decide_eq_false (show ¬ (1 : Int) <= j by omega), Bool.false_and, Bool.and_false]
        rw [hp]
        exact jT ((qdI (by rw [qaG, yH c1]; show tor _ _ _ = _; rw [qaG, yH c2]; exact c3)).trans rfl)
       ·rw [decide_eq_false hj0] at c3
        refine (qk (U' := U) (qbE (qjL (yH c1) (qjL (yH c2) c3)))).trans ?_
        obtain ⟨m, rfl⟩ : ∃ m : Nat, i = (m : Int) := ⟨i.toNat, by omega⟩
        obtain ⟨n, rfl⟩ : ∃ n : Nat, j = (n : Int) := ⟨j.toNat, by omega⟩
        have hp : zW (.tup [.int (m : Nat), .int (n : Nat)]) = decide (Nat.gcd m n = 1) := by
         show (decide (0 <= (m : Int)) && (decide (1 <= (n : Int)) && decide (Nat.gcd (m : Int).toNat (n : Int).toNat = 1))) = _
         rw [decide_eq_true hi, decide_eq_true (show (1 : Int) <= n by omega), Int.toNat_natCast, Int.toNat_natCast]
         rfl
        rw [hp]
        exact yP (qi (yo (qi rfl rfl (qlX _ _)) (qi rfl rfl (qkj _ _)) (yj m n)) rfl (eq1 _))
      | _ => cases hb
     | _ => cases ha
  ·rw [qdT h]
   refine jT ?_
   have h3 : ¬ ((ds.length : Int) = 2) := by omega
   push_cast [vv, uj, wd, h3, decide_false, vd]
 | _ => rfl
theorem yT (d : D) : zl [d] = .ok (.bl (zW d)) := by
 unfold zl jc
 refine uY rfl ⟨[some d], ?_⟩
 cases d with
 | tup ds =>
  by_cases h : ds.length = 2
  ·obtain ⟨a, b, rfl⟩ := qnG h
   let U : Env := [some (.tup [a, b])]
   have c0 : tst (d2 neB (zV qaM (qc (dv 0) (ret []))) (rI_ 2)) U = .ok (false, U) := rfl
   have ct : vj (tst (qev "tuple" (dv 0))) U = .ok (false, U) := rfl
   have c1 : tst (qo zA (qc (d2 ixD (dv 0) (rI_ 0)) (ret []))) U = .ok (qbi a, U) := zx (wM (qi rfl rfl (qlX _ _)) (uQ a))
   have c2 : tst (qo zA (qc (d2 ixD (dv 0) (rI_ 1)) (ret []))) U = .ok (qbi b, U) := zx (wM (qi rfl rfl (qkj _ _)) (uQ b))
   have out : zW (.tup [a, b]) = false -> tor (vj (tst (qo zA (qc (d2 ixD (dv 0) (rI_ 0)) (ret []))))) (vj (tst (qo zA (qc (d2 ixD (dv 0) (rI_ 1)) (ret []))))) U = .ok (true, U) -> jc U = .ok (.rt (.bl (zW (.tup [a, b]))) U) := fun hp hh => by
    rw [hp]
    unfold jc
    exact jT ((qdI (by rw [qaG, ct]; show tor _ _ _ = _; rw [qaG, c0]; exact hh)).trans rfl)
   cases a with
   | int i => cases b with
    | int j =>
     refine (qk (U' := U) (qbE (qjL ct (qjL c0 (qjL (yH c1) (yH c2)))))).trans ?_
     have g0 : d2 geD (d2 ixD (dv 0) (rI_ 0)) (rI_ 0) U = .ok (.bl (decide (0 <= i)), U) := qi (qi rfl rfl (qlX _ _)) rfl (geI _ _)
     have g1 : d2 geD (d2 ixD (dv 0) (rI_ 1)) (rI_ 1) U = .ok (.bl (decide (1 <= j)), U) := qi (qi rfl rfl (qkj _ _)) rfl (geI _ _)
     refine yP ?_
     show _ = R.ok (D.bl (decide (0 <= i) && (decide (1 <= j) && decide (Nat.gcd i.toNat j.toNat = 1))), U)
     by_cases h0 : 0 <= i
     ·rw [decide_eq_true h0] at g0 |-
      by_cases h1 : 1 <= j
      ·rw [decide_eq_true h1] at g1 |-
       obtain ⟨m, rfl⟩ : ∃ m : Nat, i = (m : Int) := ⟨i.toNat, by omega⟩
       obtain ⟨n, rfl⟩ : ∃ n : Nat, j = (n : Int) := ⟨j.toNat, by omega⟩
       rw [Int.toNat_natCast, Int.toNat_natCast]
       exact qmc g0 (qmc g1 (qi (yo (qi rfl rfl (qlX _ _)) (qi rfl rfl (qkj _ _)) (uA m n)) rfl (eq1 _)))
      ·rw [decide_eq_false h1] at g1 |-
       exact qmc g0 (qm2 g1)
     ·rw [decide_eq_false h0] at g0 |-
      exact qm2 g0
    | _ => exact out rfl (by rw [qaG, yH c1]; exact yH c2)
   | _ => exact out rfl (qmY (yH c1))
  ·rw [qdT h]
   refine jT ?_
   have h3 : ¬ ((ds.length : Int) = 2) := by omega
   push_cast [vv, uj, wd, h3, decide_false, vd]
 | _ => rfl
theorem qby (d : D) (h : zW d = true) : jA [d] = .ok .non := by
 unfold jA
 refine qfM rfl ⟨[some d], ?_⟩
 unfold yi
 push_cast [v0, h]
theorem qcq (d : D) (h : zW d = false) : jA [d] = .exc ⟨"NoNumber", .non⟩ [some d] := by
 unfold jA
 refine qb9 rfl ?_
 unfold yi
 push_cast [v0, h, sm1]
theorem qgp {ks : List Nk} (hw : ∀ x ∈ ks, 0 < x.1) (hp : jp ks <= Mx) (R0 : Option D) : ∀ (l : List Nat) (r : Nat) (o3 : Option D), (∀ p ∈ l, p < ks.length) ->
  (∃ U, jV (qE 3) spB (l.map iD) [some (.tup (ks.map tK)), R0, some (.int (r : Nat)), o3] = .ok (.rt (fr (spN ks l r)) U)) \/ (spN ks l r = (0, 1) /\ ∃ U, jV (qE 3) spB (l.map iD) [some (.tup (ks.map tK)), R0, some (.int (r : Nat)), o3] = .ok (.nx U))
 | [], r, o3, _ => .inr ⟨rfl, _, rfl⟩
 | p :: l, r, o3, hl => by
  have hpl := hl p mS_
  have hx := z4 hpl
  have hwp : (nAt ks p).1 <= Mx := Nat.le_trans (qbp hw hx) hp
  let U : Env := [some (.tup (ks.map tK)), R0, some (.int (r : Nat)), some (iD p)]
  have eg : vj (tst (qo ja (qc (d2 ixD (dv 0) (dv 3)) (qc (dv 2) (ret []))))) U = .ok (!goN (nAt ks p) r, U) := yH (zx (yo (qi rfl rfl (wl hpl)) rfl (vg hwp r)))
  rw [mC_]
  cases c : goN (nAt ks p) r with
  | true =>
   rw [c] at eg
   have e1 : spN ks (p :: l) r = spN ks l (bhN (nAt ks p) r) := by
    show (if goN (nAt ks p) r then _ else _) = _
    rw [if_pos c]
   rw [e1]
   have st : spB U = .ok (.nx [some (.tup (ks.map tK)), R0, some (.int (bhN (nAt ks p) r : Nat)), some (iD p)]) := (qk (qbE eg)).trans (yO (yo (qi rfl rfl (wl hpl)) rfl (wS hwp r)))
   rcases qgp hw hp R0 l (bhN (nAt ks p) r) (some (iD p)) fun y hy => hl y (mM _ hy) with ⟨U', q⟩ | ⟨e, U', q⟩
   ·exact .inl ⟨U', (y8 (U1 := U) rfl st).trans q⟩
   ·exact .inr ⟨e, U', (y8 (U1 := U) rfl st).trans q⟩
  | false =>
   rw [c] at eg
   have e1 : spN ks (p :: l) r = (ue (nAt ks p).2.1 (nAt ks p).1, ul (nAt ks p).2.1 (nAt ks p).1) := by
    show (if goN (nAt ks p) r then _ else _) = _
    rw [if_neg (by rw [c]; simp)]
   rw [e1]
   exact .inl ⟨U, qgn (U1 := U) rfl (jT ((qdI eg).trans (yP (yo (qi (qi rfl rfl (wl hpl)) rfl (tk1 _)) (qi (qi rfl rfl (wl hpl)) rfl (tk0 _)) (ub _ (hw _ hx) (Nat.lt_of_le_of_lt hwp qco))))))⟩
theorem qaz {ks : List Nk} (hw : ∀ x ∈ ks, 0 < x.1) (hl : ks.length <= 12) (hp : jp ks <= Mx) (r : Nat) : jz [.tup (ks.map tK), .int (r : Nat)] = .ok (fr (jm ks r)) := by
 let S : Option D := some (.tup (ks.map tK))
 let R0 : Option D := some (.int (r : Nat))
 unfold jz
 have ef : qcG (qo zN (qc (dv 0) (ret []))) [S, R0, R0, none] = .ok ((vB ks).map iD, [S, R0, R0, none]) := by
  rw [qfq, wM rfl (vY hw hl hp)]
  rfl
 have pre : ∀ {W0 : R Fl}, qN (qcw (qcG (qo zN (qc (dv 0) (ret [])))) (qE 3) (qN (sif (vj (tst (qo ja (qc (d2 ixD (dv 0) (dv 3)) (qc (dv 2) (ret [])))))) (jv (qo zE (qc (d2 ixD (d2 ixD (dv 0) (dv 3)) (rI_ 1)) (qc (d2 ixD (d2 ixD (dv 0) (dv 3)) (rI_ 0)) (ret []))))) yu) (zf 2 (qo ji (qc (d2 ixD (dv 0) (dv 3)) (qc (dv 2) (ret []))))))) (jv (ret (.tup [.int 0, .int 1]))) [S, R0, R0, none] = W0 -> jy [S, R0, none, none] = W0 := fun {W0} h => by
  unfold jy
  refine (qk (U' := [S, R0, none, none]) (ex1 rfl (jP _ (qbm hw hl)))).trans ?_
  refine (qk (U' := [S, R0, none, none]) (ex1 rfl (uv _ (qgk r)))).trans ?_
  refine (qk (U' := [S, R0, R0, none]) rfl).trans ?_
  exact h
 rcases qgp hw hp R0 (vB ks) r none fun p hp => (uZ.mp hp).1 with ⟨U, q⟩ | ⟨e, U, q⟩
 ·refine qjo rfl ⟨U, pre (jT ?_)⟩
  rw [ve, ef]
  exact q
 ·refine qjo rfl ⟨U, pre ((qk (U' := U) ?_).trans ?_)⟩
  ·rw [ve, ef]
   exact q
  ·show _ = R.ok (Fl.rt (fr (spN ks (vB ks) r)) U)
   rw [e]
   rfl
theorem zG : RN.contains "NoNumber" = true := by decide
theorem vh : yR [.exc "NoNumber"] = .ok (.str "number") := by
 have f0 : (("SackError" : Str) == "ValueError" || vO "NoNumber" "SackError") = true := by decide
 have f1 : (("ValueError" : Str) == "ValueError" || vO "NoNumber" "ValueError") = true := by decide
 have f2 : (("NoStore" : Str) == "ValueError" || vO "NoNumber" "NoStore") = false := by decide
 have f3 : (("NoNumber" : Str) == "ValueError" || vO "NoNumber" "NoNumber") = true := by decide
 have f4 : (("NoLoad" : Str) == "ValueError" || vO "NoNumber" "NoLoad") = false := by decide
 have f5 : (("TooMany" : Str) == "ValueError" || vO "NoNumber" "TooMany") = false := by decide
 have f6 : (("NotSingle" : Str) == "ValueError" || vO "NoNumber" "NotSingle") = false := by decide
 have f7 : (("NoText" : Str) == "ValueError" || vO "NoNumber" "NoText") = false := by decide
 unfold yR
 refine uY rfl ⟨[some (.exc "NoNumber"), some (.lst [.bl false, .bl true, .bl false, .bl false, .bl false, .bl false])], ?_⟩
 unfold yQ
 refine (qk (U' := [some (.exc "NoNumber"), none]) ?_).trans ?_
 ·push_cast [f0, f1, zG]
 refine (qk (U' := [some (.exc "NoNumber"), some (.lst [.bl false, .bl true, .bl false, .bl false])]) ?_).trans ?_
 ·push_cast [f2, f3, f4, f5, zG, jr (show 4 <= 1000000 by omega)]
 refine (qk (U' := [some (.exc "NoNumber"), some (.lst [.bl false, .bl true, .bl false, .bl false, .bl false, .bl false])]) ?_).trans ?_
 ·push_cast [f6, f7, zG, jr (show 2 <= 1000000 by omega), qbj (xs := [.bl false, .bl true, .bl false, .bl false]) (ys := [.bl false, .bl false]) (by simp)]
 have c1 : qdu (.lst [.bl false, .bl true, .bl false, .bl false, .bl false, .bl false]) [.bl true] = some (.int 1) := rfl
 have c2 : neS (.int 1) (.int 1) = some (.bl false) := rfl
 have c3 : qdv (.lst [.bl false, .bl true, .bl false, .bl false, .bl false, .bl false]) [.bl true] = some (.int 1) := rfl
 have c4 : ixD (.lst [.str "store", .str "number", .str "load", .str "many", .str "single", .str "text"]) (.int 1) = some (.str "number") := rfl
 refine (qk (U' := [some (.exc "NoNumber"), some (.lst [.bl false, .bl true, .bl false, .bl false, .bl false, .bl false])]) ?_).trans ?_
 ·push_cast [c1, c2]
 ·push_cast [c3, c4, jr (show 6 <= 1000000 by omega)]
theorem qlY (t b : Nat) : neB (frD t b) (frD t b) = some (.bl false) := by
 have h3 := qhw [(t : Int), (b : Int)] [(t : Int), (b : Int)]
 show (if qaB (frD t b) && qaB (frD t b) then some (D.bl (!PyData.eqv (.tuple (toPDs ([(t : Int), (b : Int)].map D.int))) (.tuple (toPDs ([(t : Int), (b : Int)].map D.int))))) else none) = _
 rw [h3, decide_eq_true rfl]
 rfl
theorem c4 {F : List D -> R D} {f g h k : M D} {U : Env} {a b c z d : D} (hf : f U = .ok (a, U)) (hg : g U = .ok (b, U)) (hh : h U = .ok (c, U)) (hk : k U = .ok (z, U)) (e : F [a, b, c, z] = .ok d) : qo F (qc f (qc g (qc h (qc k (ret []))))) U = .ok (d, U) := by
 rw [uh]
 simp only [jJ, hf, hg, hh, hk, qb1, e]
theorem cx3 {F : List D -> R D} {f g h : M D} {U : Env} {a b c d : D} (hf : f U = .ok (a, U)) (hg : g U = .ok (b, U)) (hh : h U = .ok (c, U)) (e : F [a, b, c] = .ok d) : yM RN F (qc f (qc g (qc h (ret [])))) U = .ok (d, U) := by
 rw [vP]
 simp only [jJ, hf, hg, hh, qb1, e]
structure Pr (t b : Nat) : Prop where
 b0 : 0 < b
 b1 : b <= 1000
 t1 : t <= 1000
 g : Nat.gcd t b = 1
theorem Pr.low {t b : Nat} (ht : t <= 1000) (h0 : 0 < b) (hb : b <= 1000) : Pr (ue t b) (ul t b) := by
 obtain ⟨g, g0, e1, e2, e3, e4, e5⟩ := qbl t h0
 exact ⟨e3, by omega, by omega, qgj t h0⟩
theorem Pr.tM {t b : Nat} (P : Pr t b) : t <= Mx := Nat.le_trans P.t1 (by decide)
theorem Pr.bM {t b : Nat} (P : Pr t b) : b <= Mx := Nat.le_trans P.b1 (by decide)
theorem qlZ {ks : List Nk} (h : ∀ x ∈ ks, smN x) : ∀ (l : List Nat) (r : Nat), (∀ p ∈ l, p < ks.length) -> (spN ks l r).1 <= 1000 /\ (spN ks l r).2 <= 1000
 | [], r, _ => ⟨by show 0 <= 1000; omega, by show 1 <= 1000; omega⟩
 | p :: l, r, hl => by
  have hx := h _ (z4 (hl p mS_))
  show (if goN (nAt ks p) r then spN ks l (bhN (nAt ks p) r) else (ue (nAt ks p).2.1 (nAt ks p).1, ul (nAt ks p).2.1 (nAt ks p).1)).1 <= 1000 /\ (if goN (nAt ks p) r then spN ks l (bhN (nAt ks p) r) else (ue (nAt ks p).2.1 (nAt ks p).1, ul (nAt ks p).2.1 (nAt ks p).1)).2 <= 1000
  split
  ·exact qlZ h l _ fun q hq => hl q (mM _ hq)
  ·have P := Pr.low (t := (nAt ks p).2.1) (b := (nAt ks p).1) (by have := hx.2.2.1; omega) hx.1 (by have := hx.2.1; omega)
   exact ⟨P.t1, P.b1⟩
theorem qhD {ks : List Nk} (h : ∀ x ∈ ks, smN x) (r : Nat) : Pr (jm ks r).1 (jm ks r).2 := by
 obtain ⟨a, b⟩ := qdQ (ks := ks) (fun x hx => (h x hx).1) r
 obtain ⟨c, d⟩ := qlZ h (vB ks) r fun p hp => (uZ.mp hp).1
 exact ⟨a, d, c, b⟩
theorem qiw {t b A : Nat} : ∀ (ks : List Nk) (T T' : Nat), (∀ x ∈ ks, yK t b x * mN x <= A) -> bdN t b ks T = some T' -> T' <= T + ks.length * A
 | [], T, T', _, e => by cases (Option.some.inj (show some T = some T' from e)); omega
 | x :: ks, T, T', h, e => by
  have ih := fun T e => qiw ks T T' (fun y hy => h y (mM _ hy)) e
  have hA := h x mS_
  rw [lC_, Nat.add_mul, Nat.one_mul]
  unfold bdN at e
  split at e
  ·cases em : x.2.2 with
   | none => rw [em] at e; cases e
   | some m =>
    rw [em] at e
    have := ih _ e
    have hm : mN x = m := by unfold mN; rw [em]; rfl
    rw [hm] at hA
    omega
  ·have := ih _ e
   omega
theorem qj6 {ks : List Nk} (h : ∀ x ∈ ks, smN x) (hl : ks.length <= 12) {t b r : Nat} (P : Pr t b) (hr : r <= 10 ^ 30) : ∃ s, qa8 [bdD b (bdN t b ks (r * t))] = some (.str s) := by
 cases c : bdN t b ks (r * t) with
 | none => exact ⟨_, rfl⟩
 | some T =>
  have hT := qiw (A := 39000 * 5) ks (r * t) T (fun x hx => by
   have hs := h x hx
   refine Nat.mul_le_mul ?_ ?_
   ·unfold yK
    have : x.2.1 * b <= 39 * 1000 := Nat.mul_le_mul hs.2.2.1 P.b1
    omega
   ·unfold mN
    cases em : x.2.2 with
    | none => exact Nat.zero_le _
    | some m => exact hs.2.2.2 m em) c
  have h1 : r * t <= 10 ^ 30 * 1000 := Nat.mul_le_mul hr P.t1
  have h2 : ks.length * (39000 * 5) <= 12 * (39000 * 5) := Nat.mul_le_mul_right _ hl
  have h3 : ue T b <= T := Nat.div_le_self _ _
  have h4 := (qbn T P.b0).2
  have c1 : (10 : Nat) ^ 30 * 1000 + 12 * (39000 * 5) < 10 ^ 59 := by decide
  have c2 : 1000 < 10 ^ 59 := by decide
  have := P.b1
  exact ⟨_, qjK (by omega) (by omega)⟩
section
variable {ks : List Nk} (hk : ∀ x ∈ ks, smN x) (hl : ks.length <= 12)
include hk hl
theorem qhE {t b : Nat} (P : Pr t b) (r : Nat) : uq [.tup (ks.map tK), .int (r : Nat), frD t b] = .ok (bdD b (bdN t b ks (r * t))) := by
 have S := Sm.of hk hl
 unfold uq
 refine qjo rfl ⟨[some (.tup (ks.map tK)), some (.int (r : Nat)), some (frD t b)], ?_⟩
 unfold wB
 refine (qk (ex1 rfl (jP _ (qbm S.w hl)))).trans ?_
 refine (qk (ex1 rfl (uv _ (qgk r)))).trans ?_
 refine (qk (ex1 rfl (qby _ (qdS P.b0 P.g)))).trans ?_
 exact yP (qgb rfl rfl rfl (qbx P.tM P.b0 P.bM (fun x hx m e => Nat.le_trans ((hk x hx).2.2.2 m e) (by decide)) r))
theorem qm6 {t b : Nat} (P : Pr t b) (r : Nat) : qI [.int 0, .tup (ks.map tK), .int (r : Nat), frD t b] = .ok (bdD b (bdN t b ks (r * t))) := by
 unfold qI
 refine uY rfl ⟨[some (.int 0), some (.tup (ks.map tK)), some (.int (r : Nat)), some (frD t b), none], ?_⟩
 unfold j7
 exact qir (jT ((qdI rfl).trans (yP (cx3 rfl rfl rfl (qhE hk hl P r)))))
theorem ql0 (r : Nat) (z : D) : qI [.int 1, .tup (ks.map tK), .int (r : Nat), z] = .ok (fr (jm ks r)) := by
 have S := Sm.of hk hl
 unfold qI
 refine uY rfl ⟨[some (.int 1), some (.tup (ks.map tK)), some (.int (r : Nat)), some z, none], ?_⟩
 unfold j7
 exact qir ((qk (qbE rfl)).trans (yP (cx2 rfl rfl (qaz S.w hl S.p r))))
theorem qdU {t b : Nat} (P : Pr t b) (r : Nat) : zn [.tup (ks.map tK), .int (r : Nat), frD t b] = .ok (bdD b (bdN t b ks (r * t))) :=
 vZ P.tM P.b0 P.bM (fun x hx m e => Nat.le_trans ((hk x hx).2.2.2 m e) (by decide)) r
theorem qc2 (r : Nat) : bdD (jm ks r).2 (bdN (jm ks r).1 (jm ks r).2 ks (r * (jm ks r).1)) = qf7 (swN ks r).1 (swN ks r).2 := by
 have S := Sm.of hk hl
 obtain ⟨T, e, c⟩ := qcY S.w r
 rw [e]
 exact qjI (qdQ S.w r).1 (qlT S.w S.p r).1 c
end
theorem qj7 {s a p : D} (hs : yG s = true) (h : zu a = false) : uq [s, a, p] = .exc ⟨"NoNumber", .non⟩ [some s, some a, some p] := by
 unfold uq
 refine qb9 rfl ?_
 unfold wB
 refine (qk (U' := [some s, some a, some p]) (ex1 rfl (jP s hs))).trans (qdA ?_)
 push_cast [wN a h, zG]
theorem qj8 {s a p : D} (hs : yG s = true) (h : zu a = true) (hp : zW p = false) : uq [s, a, p] = .exc ⟨"NoNumber", .non⟩ [some s, some a, some p] := by
 unfold uq
 refine qb9 rfl ?_
 unfold wB
 refine (qk (U' := [some s, some a, some p]) (ex1 rfl (jP s hs))).trans ?_
 refine (qk (U' := [some s, some a, some p]) (ex1 rfl (uv a h))).trans (qdA ?_)
 push_cast [qcq p hp, zG]
theorem ql1 {s a : D} (hs : yG s = true) (h : zu a = false) : jz [s, a] = .exc ⟨"NoNumber", .non⟩ [some s, some a, none, none] := by
 unfold jz
 refine qb9 rfl ?_
 unfold jy
 refine (qk (U' := [some s, some a, none, none]) (ex1 rfl (jP s hs))).trans (qdA ?_)
 push_cast [wN a h, zG]
theorem qix {s a p : D} (h : uq [s, a, p] = .exc ⟨"NoNumber", .non⟩ [some s, some a, some p]) : qI [.int 0, s, a, p] = .ok (.str "number") := by
 unfold qI
 refine uY rfl ⟨[some (.int 0), some s, some a, some p, none], ?_⟩
 unfold j7
 refine qlN (n := "NoNumber") (v := .non) ?_ zG vh
 refine (qdA ?_)
 refine (qdI rfl).trans ?_
 push_cast [h, zG]
theorem ql2 {s a p : D} (hs : yG s = true) (h : zu a = false) : qI [.int 1, s, a, p] = .ok (.str "number") := by
 unfold qI
 refine uY rfl ⟨[some (.int 1), some s, some a, some p, none], ?_⟩
 unfold j7
 refine qlN (n := "NoNumber") (v := .non) ?_ zG vh
 refine (qk (qbE rfl)).trans ?_
 push_cast [ql1 hs h, zG]
def pS (ps : List (Nat × Nat)) (x : Nk) : List (Nat × Nat) := ps ++ [(ue x.2.1 x.1, ul x.2.1 x.1), (ue (9 * x.2.1 - 1) (9 * x.1), ul (9 * x.2.1 - 1) (9 * x.1))]
def qgq (ps : List (Nat × Nat)) : Prop := ∀ p ∈ ps, Pr p.1 p.2
theorem qm7 {ps : List (Nat × Nat)} {x : Nk} (h : qgq ps) (hx : smN x) : qgq (pS ps x) := fun p hp => by
 have h1 := hx.1
 have h2 := hx.2.1
 have h3 := hx.2.2.1
 rcases mA_.mp hp with hp | hp
 ·exact h p hp
 ·simp only [List.mem_cons, nN_, or_false] at hp
  rcases hp with rfl | rfl
  ·exact Pr.low (by omega) (by omega) (by omega)
  ·exact Pr.low (by omega) (by omega) (by omega)
theorem qoj (g : Nat) : qaF [.int 0, .int (((9 * g : Nat) : Int) - 1)] = some (.int ((9 * g - 1 : Nat) : Int)) := by
 rw [qhu]
 congr 2
 split <;> omega
noncomputable def l4B : MS := (zf 5 (d2 uT (dv 5) (uE (qc (qo qK (qc (dv 7) (qc (dv 6) (ret [])))) (qc (qo qK (qc (zV qaF (qc (rI_ 0) (qc (d2 qa5 (d2 zB (rI_ 9) (dv 7)) (rI_ 1)) (ret [])))) (qc (d2 zB (rI_ 9) (dv 6)) (ret [])))) (ret []))))))
noncomputable def l5B : MS := (sif (tst (d2 neB (zV qa8 (qc (qo qI (qc (rI_ 0) (qc (dv 3) (qc (dv 4) (qc (dv 9) (ret [])))))) (ret []))) (zV qa8 (qc (qo zn (qc (dv 3) (qc (dv 4) (qc (dv 9) (ret []))))) (ret []))))) (jv (ret (.bl false))) yu)
noncomputable def qnH : MS := (sif (qbD (vj (tst (qo zl (qc (dv 11) (ret []))))) (tst (d2 neB (qo qI (qc (rI_ 0) (qc (dv 3) (qc (dv 4) (qc (dv 11) (ret [])))))) (ret (.str "number"))))) (jv (ret (.bl false))) yu)
theorem qj9 {x : Nk} (hx : smN x) {ps : List (Nat × Nat)} (hl : ps.length <= 1000) (A I B T R0 o9 o10 o11 m : Option D) :
  l4B [A, I, B, T, R0, some (.lst (ps.map fr)), some (.int (x.1 : Nat)), some (.int (x.2.1 : Nat)), m, o9, o10, o11] = .ok (.nx [A, I, B, T, R0, some (.lst ((pS ps x).map fr)), some (.int (x.1 : Nat)), some (.int (x.2.1 : Nat)), m, o9, o10, o11]) := by
 let U : Env := [A, I, B, T, R0, some (.lst (ps.map fr)), some (.int (x.1 : Nat)), some (.int (x.2.1 : Nat)), m, o9, o10, o11]
 have h1 := hx.1
 have h2 := hx.2.1
 have h3 := hx.2.2.1
 have bb : ∀ n : Nat, n <= 1000 -> n < big := fun n h => Nat.lt_of_le_of_lt h (by decide)
 have e1 : qo qK (qc (dv 7) (qc (dv 6) (ret []))) U = .ok (fr (ue x.2.1 x.1, ul x.2.1 x.1), U) := yo rfl rfl (jj x.2.1 h1 (bb _ (by omega)))
 have e2 : qo qK (qc (zV qaF (qc (rI_ 0) (qc (d2 qa5 (d2 zB (rI_ 9) (dv 7)) (rI_ 1)) (ret [])))) (qc (d2 zB (rI_ 9) (dv 6)) (ret []))) U = .ok (fr (ue (9 * x.2.1 - 1) (9 * x.1), ul (9 * x.2.1 - 1) (9 * x.1)), U) :=
  yo (qlK rfl (qi (qi (b := .int (x.2.1 : Nat)) rfl rfl (qf8 (a := 9) x.2.1 (by decide))) rfl (vV _ _)) (qoj x.2.1)) (qi (b := .int (x.1 : Nat)) rfl rfl (qf8 (a := 9) x.1 (by decide))) (jj (9 * x.2.1 - 1) (B := 9 * x.1) (by omega) (bb _ (by omega)))
 have e3 : uE (qc (qo qK (qc (dv 7) (qc (dv 6) (ret [])))) (qc (qo qK (qc (zV qaF (qc (rI_ 0) (qc (d2 qa5 (d2 zB (rI_ 9) (dv 7)) (rI_ 1)) (ret [])))) (qc (d2 zB (rI_ 9) (dv 6)) (ret [])))) (ret []))) U = .ok (.lst [fr (ue x.2.1 x.1, ul x.2.1 x.1), fr (ue (9 * x.2.1 - 1) (9 * x.1), ul (9 * x.2.1 - 1) (9 * x.1))], U) := by
  rw [qdl]
  simp only [jJ, e1, e2, qb1, jr (show 2 <= 1000000 by omega), lC_, lN_, Nat.reduceAdd, if_true]
 have e4 := qbj (xs := ps.map fr) (ys := [fr (ue x.2.1 x.1, ul x.2.1 x.1), fr (ue (9 * x.2.1 - 1) (9 * x.1), ul (9 * x.2.1 - 1) (9 * x.1))]) (by rw [lM_]; show ps.length + 2 <= _; omega)
 refine (yO (qi (U := U) (f := dv 5) rfl e3 e4)).trans ?_
 unfold pS
 rw [List.map_append]
 rfl
theorem qgr (A I B T R0 o9 o10 o11 : Option D) : ∀ (l : List Nk) (ps : List (Nat × Nat)) (o6 o7 o8 : Option D), (∀ x ∈ l, smN x) -> qgq ps -> ps.length + 2 * l.length <= 1000 ->
  ∃ qs p6 p7 p8, qgq qs /\ jV (qcv 3 (zR (qE 6) (zR (qE 7) (zR (qE 8) qcu)))) l4B (l.map tK) [A, I, B, T, R0, some (.lst (ps.map fr)), o6, o7, o8, o9, o10, o11] = .ok (.nx [A, I, B, T, R0, some (.lst (qs.map fr)), p6, p7, p8, o9, o10, o11])
 | [], ps, o6, o7, o8, _, h, _ => ⟨ps, o6, o7, o8, h, rfl⟩
 | x :: l, ps, o6, o7, o8, hx, h, hl => by
  rw [lC_] at hl
  have hs := hx x mS_
  obtain ⟨qs, p6, p7, p8, q1, q2⟩ := qgr A I B T R0 o9 o10 o11 l (pS ps x) (some (.int (x.1 : Nat))) (some (.int (x.2.1 : Nat))) (some (mD (x.2.2.map fun m : Nat => (m : Int)))) (fun y hy => hx y (mM _ hy)) (qm7 h hs) (by unfold pS; rw [lA_]; show ps.length + 2 + _ <= _; omega)
  exact ⟨qs, p6, p7, p8, q1, (y8 (U1 := [A, I, B, T, R0, some (.lst (ps.map fr)), some (.int (x.1 : Nat)), some (.int (x.2.1 : Nat)), some (mD (x.2.2.map fun m : Nat => (m : Int))), o9, o10, o11]) rfl (qj9 hs (by omega) A I B T R0 o9 o10 o11 _)).trans q2⟩
def ths (odd : D) : List D := [.tup [.int 2, .int 2], .tup [.int 0, .int 2], .tup [.int 1, .int 0], .tup [.int (-1), .int 1], .tup [.int 1, .int (-1)], .tup [.bl true, .int 1], .lst [.int 1, .int 1], .non, .tup [.int 1], .int 1, .tup [.int 1, .int 1, .int 1], .str "1"] ++ [odd]
theorem qdV {b : MS} {ns : List Int} (hb : ∀ (i : Int) (r : Env), 0 <= i -> r.length = 10 -> ∃ r', r'.length = 10 /\ b ([some (.fz ns), some (.int i)] ++ r) = .ok (.nx ([some (.fz ns), some (.int i)] ++ r'))) : ∀ (ds : List D) (o1 : Option D) (r : Env), r.length = 10 -> (∀ d ∈ ds, ∃ i : Int, d = .int i /\ 0 <= i) -> ∃ U, jV (qE 1) b ds ([some (.fz ns), o1] ++ r) = .ok (.nx U)
 | [], o1, r, _, _ => ⟨_, rfl⟩
 | d :: ds, o1, r, hr, h => by
  obtain ⟨i, rfl, h0⟩ := h d mS_
  obtain ⟨r', hr', e⟩ := hb i r h0 hr
  obtain ⟨U, q⟩ := qdV hb ds (some (.int i)) r' hr' fun y hy => h y (mM _ hy)
  exact ⟨U, (y8 rfl e).trans q⟩
theorem qka {b : MS} {ns : List Int} (hn : ns.length <= 63) (hb : ∀ (i : Int) (r : Env), 0 <= i -> r.length = 10 -> ∃ r', r'.length = 10 /\ b ([some (.fz ns), some (.int i)] ++ r) = .ok (.nx ([some (.fz ns), some (.int i)] ++ r'))) :
  dfn 12 1 (qN (qcw (wR (qc (zV qaF (qc (rI_ 1) (qc (zV qgJ (qc (zV qaM (qc (dv 0) (ret []))) (qc (rI_ 5) (ret [])))) (ret [])))) (ret []))) (qE 1) b) (jv (ret (.bl true)))) [.fz ns] = .ok (.bl true) := by
 let j : Int := if (if (5 : Int) < (ns.length : Int) then (5 : Int) else (ns.length : Int)) > 1 then (if (5 : Int) < (ns.length : Int) then (5 : Int) else (ns.length : Int)) else 1
 have hj0 : 0 <= j := by simp only [j]; split <;> split <;> omega
 have hj1 : j <= 6 := by simp only [j]; split <;> split <;> omega
 obtain ⟨U, q⟩ := qdV hb (qa7 0 j.toNat) none [none, none, none, none, none, none, none, none, none, none] rfl fun d hd => by
  unfold qa7 at hd
  obtain ⟨k, hk, rfl⟩ := mP_.mp hd
  exact ⟨_, rfl, by omega⟩
 refine uY rfl ⟨U, (qk (U' := U) ?_).trans rfl⟩
 rw [ve, vU (j := j) (U1 := [some (.fz ns), none, none, none, none, none, none, none, none, none, none, none]) rfl hj0 (by omega)]
 exact q
theorem law_true (ns : List Int) (hn : ns.length <= 63) : qcZ [.fz ns] = .ok (.bl true) := by
 unfold qcZ qjT
 refine qka hn fun i r h0 hr => ?_
 match r, hr with
 | [o2, o3, o4, o5, o6, o7, o8, o9, o10, o11], _ =>
  obtain ⟨n, eb⟩ := qlV ns i h0
  obtain ⟨ds, n1, es, hd, hdl⟩ := qer n
  obtain ⟨ks, rfl, hkl, hk⟩ := qcp ds hd
  have hl : ks.length <= 12 := by rw [hkl]; exact hdl
  have S := Sm.of hk hl
  have hs := qbm S.w hl
  let A : Option D := some (.fz ns)
  let I : Option D := some (.int i)
  let T : Option D := some (.tup (ks.map tK))
  let n2 := n1 / 9
  let n3 := n2 / 60
  let n4 := n3 / 4
  let n5 := n4 / 30
  let n6 := n5 / 9
  have hroom : ∃ r : Nat, r <= 10 ^ 30 /\ ixD (.lst [.int 0, .int (n1 % 9), .int (n2 % 60), .int 100000000000000000000]) (.int (n3 % 4)) = some (.int (r : Nat)) := by
   obtain ⟨d, hd, e⟩ := qcg (ds := [.int 0, .int (n1 % 9), .int (n2 % 60), .int 100000000000000000000]) (k := n3 % 4) (by omega) (by show n3 % 4 < 4; omega)
   have bg : ∀ x : Nat, x <= 100000000000000000060 -> x <= 10 ^ 30 := fun x h => Nat.le_trans h (by decide)
   simp only [List.mem_cons, nN_, or_false] at hd
   rcases hd with rfl | rfl | rfl | rfl
   ·exact ⟨0, Nat.zero_le _, e⟩
   ·exact ⟨(n1 % 9).toNat, bg _ (by omega), by rw [Int.toNat_of_nonneg (by omega)]; exact e⟩
   ·exact ⟨(n2 % 60).toNat, bg _ (by omega), by rw [Int.toNat_of_nonneg (by omega)]; exact e⟩
   ·exact ⟨100000000000000000000, bg _ (by omega), e⟩
  obtain ⟨r, hr, er⟩ := hroom
  let R0 : Option D := some (.int (r : Nat))
  obtain ⟨a, ha, ea⟩ : ∃ a : Nat, a <= 30 /\ n4 % 30 = (a : Int) := ⟨(n4 % 30).toNat, by omega, by omega⟩
  obtain ⟨c, hc0, hc, ec⟩ : ∃ c : Nat, 0 < c /\ c <= 9 /\ 1 + n5 % 9 = (c : Int) := ⟨(1 + n5 % 9).toNat, by omega, by omega, by omega⟩
  let B : Option D := some (.lst [.int n6])
  let p0 : List (Nat × Nat) := [(0, 1), (1, 1), (ue a c, ul a c)]
  have hp0 : qgq p0 := fun p hp => by
   simp only [p0, List.mem_cons, nN_, or_false] at hp
   rcases hp with rfl | rfl | rfl
   ·exact ⟨by decide, by decide, by decide, by decide⟩
   ·exact ⟨by decide, by decide, by decide, by decide⟩
   ·exact Pr.low (by omega) hc0 (by omega)
  obtain ⟨qs, p6, p7, p8, hq, el⟩ := qgr A I B T R0 o9 o10 o11 ks p0 o6 o7 o8 hk hp0 (by show 3 + 2 * ks.length <= 1000; omega)
  let Q : Option D := some (.lst (qs.map fr))
  let E : Option D -> Option D -> Option D -> Option D -> Env := fun b x y z => [A, I, b, T, R0, Q, p6, p7, p8, x, y, z]
  have step : ∀ d ∈ qs.map fr, l5B ((E B o9 o10 o11).set 9 (some d)) = .ok (.nx ((E B o9 o10 o11).set 9 (some d))) := fun d hd => by
   obtain ⟨p, hp, rfl⟩ := mP_.mp hd
   have P := hq p hp
   obtain ⟨s, rs⟩ := qj6 hk hl P hr
   exact qbE (zx (qi (U := (E B (some (fr p)) o10 o11)) (qch (c4 rfl rfl rfl rfl (qm6 hk hl P r)) rs) (qch (qgb rfl rfl rfl (qdU hk hl P r)) rs) (qbk _)))
  obtain ⟨p9, e9⟩ := qat (b := l5B) (i := 9) (U := E B o9 o10 o11) (by show 9 < 12; omega) (qs.map fr) o9 step
  let Pz : Option D := some (fr (jm ks r))
  let U9 : Env := E B Pz o10 o11
  have PP := qhD hk r
  obtain ⟨odd, n7, eo, _, _⟩ := qlW n6
  let B2 : Option D := some (.lst [.int n7])
  let U10 : Env := E B2 Pz (some odd) o11
  have step2 : ∀ d ∈ ths odd, qnH (U10.set 11 (some d)) = .ok (.nx (U10.set 11 (some d))) := fun d hd => by
   have c1 : vj (tst (qo zl (qc (dv 11) (ret [])))) (E B2 Pz (some odd) (some d)) = .ok (!zW d, (E B2 Pz (some odd) (some d))) := yH (zx (wM rfl (yT d)))
   cases hp : zW d with
   | true =>
    rw [hp] at c1
    exact qbE (qjM c1)
   | false =>
    rw [hp] at c1
    exact qbE (qga c1 (zx (qi (c4 rfl rfl rfl rfl (qix (qj8 hs (qgk r) hp))) rfl (qbk _))))
  obtain ⟨p11, e11⟩ := qat (b := qnH) (i := 11) (U := U10) (by show 11 < 12; omega) (ths odd) o11 step2
  let U11 : Env := E B2 Pz (some odd) p11
  refine ⟨[B2, T, R0, Q, p6, p7, p8, Pz, some odd, p11], rfl, ?_⟩
  show qN _ _ [A, I, o2, o3, o4, o5, o6, o7, o8, o9, o10, o11] = _
  refine (qk (U' := [A, I, some (.lst [.int n]), o3, o4, o5, o6, o7, o8, o9, o10, o11]) ?_).trans ?_
  ·push_cast [A, I, eb, immFs, immF, immL, imm, Bool.and_self]
  refine (qk (U' := [A, I, some (.lst [.int n1]), T, o4, o5, o6, o7, o8, o9, o10, o11]) ?_).trans ?_
  ·push_cast [es, A, I, T]
  refine (qk (U' := [A, I, some (.lst [.int n4]), T, R0, o5, o6, o7, o8, o9, o10, o11]) ?_).trans ?_
  ·push_cast [jd (m := 9) (by decide) (by decide), jd (m := 60) (by decide) (by decide), jd (m := 4) (by decide) (by decide), qmW, jr (show 4 <= 1000000 by omega), er, A, I, T, R0, n4, n3, n2]
  refine (qk (U' := [A, I, B, T, R0, some (.lst (p0.map fr)), o6, o7, o8, o9, o10, o11]) ?_).trans ?_
  ·have t1 : qx ql 2 (qc (rI_ 30) (ret [])) [A, I, some (.lst [.int n4]), T, R0, o5, o6, o7, o8, o9, o10, o11] = .ok (.int (a : Nat), [A, I, some (.lst [.int n5]), T, R0, o5, o6, o7, o8, o9, o10, o11]) := by
    push_cast [jd (m := 30) (by decide) (by decide)]
    rw [ea]
   have t2 : d2 uT (rI_ 1) (qx ql 2 (qc (rI_ 9) (ret []))) [A, I, some (.lst [.int n5]), T, R0, o5, o6, o7, o8, o9, o10, o11] = .ok (.int (c : Nat), [A, I, B, T, R0, o5, o6, o7, o8, o9, o10, o11]) := by
    push_cast [jd (m := 9) (by decide) (by decide), yN]
    rw [ec]
   have t3 : qo qK (qc (qx ql 2 (qc (rI_ 30) (ret []))) (qc (d2 uT (rI_ 1) (qx ql 2 (qc (rI_ 9) (ret [])))) (ret []))) [A, I, some (.lst [.int n4]), T, R0, o5, o6, o7, o8, o9, o10, o11] = .ok (qf7 a c, [A, I, B, T, R0, o5, o6, o7, o8, o9, o10, o11]) := by
    rw [uh]
    simp only [jJ, t1, t2, qb1, jj a hc0 (Nat.lt_of_le_of_lt (show c <= 1000 by omega) (show 1000 < big by decide))]
   rw [wK, qdl]
   simp only [jJ, qdk, qb1, t3, jr (show 2 <= 1000000 by omega), jr (show 3 <= 1000000 by omega), lC_, lN_, Nat.reduceAdd, if_true]
   rfl
  refine (qk (U' := (E B o9 o10 o11)) ?_).trans ?_
  ·exact el
  refine (qk (U' := (E B p9 o10 o11)) ?_).trans ?_
  ·exact e9
  refine (qk (U' := U9) (yO (c4 rfl rfl rfl rfl (ql0 hk hl r .non)))).trans ?_
  refine (qk (U' := U9) (qbE (qjL (by
   have := yH (zx (wM (f := dv 9) (U := U9) rfl (yT (fr (jm ks r)))))
   rw [show zW (fr (jm ks r)) = true from qdS PP.b0 PP.g] at this
   exact this) (zx (qi (c4 rfl rfl rfl rfl (ql0 hk hl r .non)) rfl (qlY _ _)))))).trans ?_
  refine (qk (U' := U9) (qbE (zx (qi (a := qf7 (swN ks r).1 (swN ks r).2) (b := qf7 (swN ks r).1 (swN ks r).2) (by
   have := qgb (U := U9) (f := dv 3) (g := dv 4) (h := dv 9) rfl rfl rfl (qdU hk hl PP r)
   rw [qc2 hk hl r] at this
   exact this) (yo rfl (yo rfl rfl (vA S.w S.g S.l S.p r)) (uP S.w S.g S.l S.p r)) (qlY _ _))))).trans ?_
  refine (qk (U' := U10) ?_).trans ?_
  ·push_cast [eo, U9, U10, B, B2, E]
  refine (qk (U' := U11) ?_).trans ?_
  ·have e : (qcG (uE (qc (yn (qc (rI_ 2) (qc (rI_ 2) (ret [])))) (qc (yn (qc (rI_ 0) (qc (rI_ 2) (ret [])))) (qc (yn (qc (rI_ 1) (qc (rI_ 0) (ret [])))) (qc (yn (qc (d1 qb0 (rI_ 1)) (qc (rI_ 1) (ret [])))) (qc (yn (qc (rI_ 1) (qc (d1 qb0 (rI_ 1)) (ret [])))) (qc (yn (qc (ret (.bl true)) (qc (rI_ 1) (ret [])))) (qc (uE (qc (rI_ 1) (qc (rI_ 1) (ret [])))) (qc (ret .non) (qc (yn (qc (rI_ 1) (ret []))) (qc (rI_ 1) (qc (yn (qc (rI_ 1) (qc (rI_ 1) (qc (rI_ 1) (ret []))))) (qc (ret (.str "1")) (qc (dv 10) (ret [])))))))))))))))) U10 = .ok (ths odd, U10) := rfl
   rw [ve, e]
   exact e11
  ·exact qbE (qjL (zx (qi (U := U11) (c4 (c := .int (-1)) (z := .tup [.int 1, .int 1]) rfl rfl rfl rfl (qix (qj7 hs rfl))) rfl (qbk _))) (zx (qi (c4 (c := .non) (z := .non) rfl rfl rfl rfl (ql2 hs rfl)) rfl (qbk _))))
section
variable {P : Program} {w : World} {K : PySem.W.Frag} {mg : Str -> Option Value} {base : Heap}
variable {f : Addr} {fd : FuncData}
set_option maxHeartbeats 4000000
theorem uw : qw ["e", "found"] ["e"] (qf z5) := ⟨rfl, rfl, rfl, by decide +kernel, rfl, by decide +kernel, by decide +kernel⟩
section
variable (P : Program) (w : World) (K : Fr0) (mg : Str -> Option Value) (base : Heap)
abbrev Q0 : Prop := qfK P w K mg base 1 "_law_marks" ["e"] (spD K yR)
abbrev Q1 : Prop := zr P w K mg base 1 "weights_product" ["store"] (spD K jh)
abbrev Q2 : Prop := zr P w K mg base 2 "dearest_first" ["store"] (spD K zN)
abbrev Q3 : Prop := zr P w K mg base 1 "all_go_in" ["kind", "room"] (spD K ja)
abbrev Q4 : Prop := zr P w K mg base 2 "room_behind" ["kind", "room"] (spD K ji)
abbrev Q5 : Prop := zr P w K mg base 1 "greatest_divisor" ["one", "other"] (spD K zy)
abbrev Q6 : Prop := zr P w K mg base 2 "lowest_terms" ["top", "bottom"] (spD K zE)
abbrev Q7 : Prop := zr P w K mg base 1 "is_whole" ["thing"] (spD K u0)
abbrev Q8 : Prop := zr P w K mg base 2 "is_count" ["thing"] (spD K zj)
abbrev Q9 : Prop := vt P w K mg base 3 "need_count" ["thing"] (spX K (clR K RN) jb)
abbrev Q10 : Prop := zr P w K mg base 3 "is_kind" ["thing"] (spD K uN)
abbrev Q11 : Prop := zr P w K mg base 4 "is_store" ["thing"] (spD K u3)
abbrev Q12 : Prop := vt P w K mg base 5 "need_store" ["thing"] (spX K (clR K RN) yh)
abbrev Q13 : Prop := vt P w K mg base 6 "some_price" ["store", "room"] (spX K (clR K RN) jz)
abbrev Q14 : Prop := zr P w K mg base 3 "bound_of" ["store", "room", "price"] (spD K u5)
abbrev Q15 : Prop := zr P w K mg base 3 "is_price" ["thing"] (spD K u6)
abbrev Q16 : Prop := vt P w K mg base 4 "need_price" ["thing"] (spX K (clR K RN) jA)
abbrev Q17 : Prop := vt P w K mg base 6 "bound" ["store", "room", "price"] (spX K (clR K RN) uq)
abbrev Q18 : Prop := zr P w K mg base 7 "_law_said" ["kind", "store", "room", "price"] (spD K qI)
abbrev Q19 : Prop := zr P w K mg base 1 "_law_common" ["one", "other"] (spD K jM)
abbrev Q20 : Prop := zr P w K mg base 1 "_law_whole" ["thing"] (spD K zA)
abbrev Q21 : Prop := zr P w K mg base 2 "_law_is_price" ["thing"] (spD K zl)
abbrev Q22 : Prop := zr P w K mg base 1 "_law_take" ["box", "many"] (qew K ql)
abbrev Q23 : Prop := zr P w K mg base 2 "_law_odd_thing" ["box"] (qew K jt)
abbrev Q24 : Prop := zr P w K mg base 2 "_law_low" ["top", "bottom"] (spD K qK)
abbrev Q25 : Prop := zr P w K mg base 3 "_law_bound_by" ["store", "room", "price"] (spD K zn)
abbrev Q26 : Prop := zr P w K mg base 3 "_law_share_worth" ["store", "shares"] (spD K zY)
abbrev Q27 : Prop := zr P w K mg base 3 "_law_by_shares" ["store", "room"] (spD K ju)
abbrev Q28 : Prop := zr P w K mg base 2 "_law_kind_of" ["box", "ends"] (qew K zF)
abbrev Q29 : Prop := zr P w K mg base 3 "_law_stocked" ["box", "most", "ends"] (qew K yc)
abbrev Q30 : Prop := zr P w K mg base 1 "_law_mix" ["cell", "k"] (spD K yD)
abbrev Q31 : Prop := zr P w K mg base 1 "_law_cell" ["script", "k"] (spD K j8)
abbrev Q32 : Prop := zr P w K mg base 2 "_law_box" ["script", "k"] (spD K ua)
end
theorem q0 (F : Fun K "_law_marks" "_law_marks" z5 f fd) (m : mg "_law_marks" = some (.ref f)) (T : Txt K mg) (XTt : XT K mg RN TN) (hB : K.In base) : Q0 P w K mg base := by
 have rn0 : RN.contains "NoNumber" = true := by decide
 refine ⟨f, fd, ?_, m, F.kp, F.binds fun _ _ _ _ _ _ us hl => match us, hl with | [_], _ => rfl⟩
 show qb8 P w K mg base CX0 1 f fd ["e"] (spD K (dfn (["e", "found"] : List Str).length (["e"] : List Str).length yQ))
 refine qhf (N := ["e", "found"]) (ps := ["e"]) (k := 0) (O := []) (body := yQ) F uw ?a ?b
 case a => decide
 intro cdv A outer s H E B hr al
 have hal : ∀ U Z H', Rep K (cfn [] [] B H (fun _ => False) (fun _ _ => False) fun _ => none) U Z H' -> AloneA (A.deeper (envOfC "_law_marks" (qf z5) s.heap.objs.size f cdv)) H' := Sk.AloneA.rep al (fun _ z => z)
 exact (qh (jB (DW.dt (wQ (yd (jR (qar (RN := RN) (m := "SackError") (mgl := mg) XTt (by decide) (by decide) rfl T.b_isinstance rfl (qd 0) (XTt.ask rn0 (by decide)) qy))) (vG (yd (jR (qjn XTt rfl T.b_isinstance rfl T.b_ValueError (qd 0) qy)))))) (qj (qC jQ)) qG)
   (qh (qL (i := 1) uw.nd (jG (qa (qar (RN := RN) (m := "NoStore") (mgl := mg) XTt (by decide) (by decide) rfl T.b_isinstance rfl (qd 0) (XTt.ask rn0 (by decide)) qy) (qa (qar (RN := RN) (m := "NoNumber") (mgl := mg) XTt (by decide) (by decide) rfl T.b_isinstance rfl (qd 0) (XTt.ask rn0 (by decide)) qy) (qa (qar (RN := RN) (m := "NoLoad") (mgl := mg) XTt (by decide) (by decide) rfl T.b_isinstance rfl (qd 0) (XTt.ask rn0 (by decide)) qy) (qa (qar (RN := RN) (m := "TooMany") (mgl := mg) XTt (by decide) (by decide) rfl T.b_isinstance rfl (qd 0) (XTt.ask rn0 (by decide)) qy) qg))))))
   (qh (qL (i := 1) uw.nd (qu jn jo (qd 1) (jG (qa (qar (RN := RN) (m := "NotSingle") (mgl := mg) XTt (by decide) (by decide) rfl T.b_isinstance rfl (qd 0) (XTt.ask rn0 (by decide)) qy) (qa (qar (RN := RN) (m := "NoText") (mgl := mg) XTt (by decide) (by decide) rfl T.b_isinstance rfl (qd 0) (XTt.ask rn0 (by decide)) qy) qg)))))
   (qh (jB (ze qkK qe2 (qfE PySem.F.slot_list_count qhd qg8 qcO (qd 1) (qa uf qg)) qe (qM _)) (qj (qC jQ)) qG)
   (qj (qC (qJ qr qq (jG (qa jQ (qa jQ (qa jQ (qa jQ (qa jQ (qa jQ qg))))))) (qfE PySem.F.slot_list_index qhe qg9 qcP (qd 1) (qa uf qg)))))))))
theorem zZ : qw ["store", "product", "kind"] ["store"] (qf zg) := ⟨rfl, rfl, rfl, by decide +kernel, rfl, by decide +kernel, by decide +kernel⟩
theorem q1 (F : Fun K "weights_product" "weights_product" zg f fd) (m : mg "weights_product" = some (.ref f)) (T : Txt K mg) (XTt : XT K mg RN TN) (hB : K.In base) : Q1 P w K mg base := by
 refine ⟨f, fd, ?_, m, F.kp, F.binds fun _ _ _ _ _ _ us hl => match us, hl with | [_], _ => rfl⟩
 exact zk (N := ["store", "product", "kind"]) (O := []) (body := j6) F zZ (by decide) fun cdv A outer s H E B hr => (qh (qL (i := 1) zZ.nd qe)
   (qh (uH PassesOwn.never rfl (wH (qd 0)) (qT (i := 2) zZ.nd) (qj (qL (i := 1) zZ.nd (qu qO qF (qd 1) (qJ qr qq (qd 2) (gI T.c_WEIGHT))))))
   (qj (qC (qd 1)))))
theorem ym : qw ["store", "product", "places"] ["store"] (qf qP) := ⟨rfl, rfl, rfl, by decide +kernel, rfl, by decide +kernel, by decide +kernel⟩
theorem q2 (F : Fun K "dearest_first" "dearest_first" qP f fd) (m : mg "dearest_first" = some (.ref f)) (T : Txt K mg) (XTt : XT K mg RN TN) (hB : K.In base) {c0 Pt : Addr} (hcc : fd.code = .ref c0) (hch : PySem.W.codeHdIn K c0 Pt = true) (hlm : qaD K = some (c0, Pt, ⟨74, 30, 74, 100⟩)) (C_weights_product : Q1 P w K mg base) : Q2 P w K mg base := by
 refine ⟨f, fd, ?_, m, F.kp, F.binds fun _ _ _ _ _ _ us hl => match us, hl with | [_], _ => rfl⟩
 show u8 P w K mg base CX0 2 f fd ["store"] (spD K (dfn (["store", "product", "places"] : List Str).length (["store"] : List Str).length jK))
 refine qhr (N := ["store", "product", "places"]) (ps := ["store"]) (k := 1) (O := []) (body := jK) F ym ?a ?b
 case a => decide
 intro A outer s H E B hr
 exact (qh (qL (i := 1) ym.nd (dC C_weights_product hr (qa (qd 0) qg)))
   (qh (qjh (i := 2) ym.nd (qjg (fo := none) rfl (qjf rfl T.b_enumerate (qa (qd 0) qg)) (cs ["store", "product", "places"] ["place", "kind"] 2 [] (qf qP)) (f0 [] []) (fun _ _ _ _ _ _ _ _ _ _ _ => ⟨(qaL (n := 2) rfl (zO (qT (i := 0) (nd ["place", "kind"])) (zO (qT (i := 1) (nd ["place", "kind"])) v2))), (qhW (ze qbI wF (qJ qr qq (qd 1) (gI T.c_WORTH)) qe (qM _))), (qd 0)⟩)) rfl (cs ["store", "product", "places"] ["place", "kind"] 2 [] (qf qP)))
   (qj (qC (qhp (N' := ["place", "product", "store"]) (fr := [1, 0]) (qd 2) (cs ["store", "product", "places"] ["place", "product", "store"] 1 [1, 0] (qf qP)) (f0 (nt := 0) [1, 0] []) hr rfl T.b_sorted hcc hch hlm (fun _ _ _ _ _ _ => (qu qO qF (wJ (qJ qr qq (qJ qr qq (qd 2) (qd 0)) (gI T.c_WORTH))) (qu uB yL (qd 1) (qJ qr qq (qJ qr qq (qd 2) (qd 0)) (gI T.c_WEIGHT))))))))))
theorem qcr : qw ["kind", "room"] ["kind", "room"] (qf jW) := ⟨rfl, rfl, rfl, by decide +kernel, rfl, by decide +kernel, by decide +kernel⟩
theorem q3 (F : Fun K "all_go_in" "all_go_in" jW f fd) (m : mg "all_go_in" = some (.ref f)) (T : Txt K mg) (XTt : XT K mg RN TN) (hB : K.In base) : Q3 P w K mg base := by
 refine ⟨f, fd, ?_, m, F.kp, F.binds fun _ _ _ _ _ _ us hl => match us, hl with | [_, _], _ => rfl⟩
 exact zk (N := ["kind", "room"]) (O := []) (body := vz) F qcr (by decide) fun cdv A outer s H E B hr => (qj (qC (qag (wE qeL qdd (qJ qr qq (qd 0) (gI T.c_MOST)) yE (qM _)) (qaf (wE qkL qhQ (qu qO qF (qJ qr qq (qd 0) (gI T.c_MOST)) (qJ qr qq (qd 0) (gI T.c_WEIGHT))) (qd 1) (qM _))))))
theorem qaI : qw ["kind", "room"] ["kind", "room"] (qf jf) := ⟨rfl, rfl, rfl, by decide +kernel, rfl, by decide +kernel, by decide +kernel⟩
theorem q4 (F : Fun K "room_behind" "room_behind" jf f fd) (m : mg "room_behind" = some (.ref f)) (T : Txt K mg) (XTt : XT K mg RN TN) (hB : K.In base) (C_all_go_in : Q3 P w K mg base) : Q4 P w K mg base := by
 refine ⟨f, fd, ?_, m, F.kp, F.binds fun _ _ _ _ _ _ us hl => match us, hl with | [_, _], _ => rfl⟩
 exact zk (N := ["kind", "room"]) (O := []) (body := uo) F qaI (by decide) fun cdv A outer s H E B hr => (qj (qC (qmD (jR (dC C_all_go_in hr (qa (qd 0) (qa (qd 1) qg)))) (qu qbH qai (qd 1) (qu qO qF (qJ qr qq (qd 0) (gI T.c_MOST)) (qJ qr qq (qd 0) (gI T.c_WEIGHT)))) qe)))
theorem zQ : qw ["one", "other", "rest"] ["one", "other"] (qf qW) := ⟨rfl, rfl, rfl, by decide +kernel, rfl, by decide +kernel, by decide +kernel⟩
theorem q5 (F : Fun K "greatest_divisor" "greatest_divisor" qW f fd) (m : mg "greatest_divisor" = some (.ref f)) (T : Txt K mg) (XTt : XT K mg RN TN) (hB : K.In base) : Q5 P w K mg base := by
 refine ⟨f, fd, ?_, m, F.kp, F.binds fun _ _ _ _ _ _ us hl => match us, hl with | [_, _], _ => rfl⟩
 exact zk (N := ["one", "other", "rest"]) (O := []) (body := jL) F zQ (by decide) fun cdv A outer s H E B hr => (qh (qbd PassesOwn.never (ze qbI wF (qd 1) qe (qM _)) (qh (qL (i := 2) zQ.nd (qu w6 vn (qd 0) (qd 1)))
   (qh (qL (i := 0) zQ.nd (qd 1))
   (qj (qL (i := 1) zQ.nd (qd 2))))))
   (qj (qC (qd 0))))
theorem uR : qw ["top", "bottom", "divisor"] ["top", "bottom"] (qf zS) := ⟨rfl, rfl, rfl, by decide +kernel, rfl, by decide +kernel, by decide +kernel⟩
theorem q6 (F : Fun K "lowest_terms" "lowest_terms" zS f fd) (m : mg "lowest_terms" = some (.ref f)) (T : Txt K mg) (XTt : XT K mg RN TN) (hB : K.In base) (C_greatest_divisor : Q5 P w K mg base) : Q6 P w K mg base := by
 refine ⟨f, fd, ?_, m, F.kp, F.binds fun _ _ _ _ _ _ us hl => match us, hl with | [_, _], _ => rfl⟩
 exact zk (N := ["top", "bottom", "divisor"]) (O := []) (body := yX) F uR (by decide) fun cdv A outer s H E B hr => (qh (qL (i := 2) uR.nd (dC C_greatest_divisor hr (qa (qd 0) (qa (qd 1) qg))))
   (qj (qC (qZ (qa (qu uB yL (qd 0) (qd 2)) (qa (qu uB yL (qd 1) (qd 2)) qg))))))
theorem qc3 : qw ["thing"] ["thing"] (qf yw) := ⟨rfl, rfl, rfl, by decide +kernel, rfl, by decide +kernel, by decide +kernel⟩
theorem q7 (F : Fun K "is_whole" "is_whole" yw f fd) (m : mg "is_whole" = some (.ref f)) (T : Txt K mg) (XTt : XT K mg RN TN) (hB : K.In base) : Q7 P w K mg base := by
 refine ⟨f, fd, ?_, m, F.kp, F.binds fun _ _ _ _ _ _ us hl => match us, hl with | [_], _ => rfl⟩
 exact zk (N := ["thing"]) (O := []) (body := wu) F qc3 (by decide) fun cdv A outer s H E B hr => (qj (qC (qag (wG qe6 rfl T.b_isinstance rfl T.b_int qh2 (qd 0) qy) (qaf (qhP (wG qde rfl T.b_isinstance rfl T.b_bool qfl (qd 0) qy))))))
theorem qc4 : qw ["thing"] ["thing"] (qf yx) := ⟨rfl, rfl, rfl, by decide +kernel, rfl, by decide +kernel, by decide +kernel⟩
theorem q8 (F : Fun K "is_count" "is_count" yx f fd) (m : mg "is_count" = some (.ref f)) (T : Txt K mg) (XTt : XT K mg RN TN) (hB : K.In base) (C_is_whole : Q7 P w K mg base) : Q8 P w K mg base := by
 refine ⟨f, fd, ?_, m, F.kp, F.binds fun _ _ _ _ _ _ us hl => match us, hl with | [_], _ => rfl⟩
 exact zk (N := ["thing"]) (O := []) (body := wv) F qc4 (by decide) fun cdv A outer s H E B hr => (qj (qC (qag (dC C_is_whole hr (qa (qd 0) qg)) (qaf (wE qiG qe1 (qd 0) qe (qM _))))))
theorem qbz : qw ["thing"] ["thing"] (qf z6) := ⟨rfl, rfl, rfl, by decide +kernel, rfl, by decide +kernel, by decide +kernel⟩
theorem q9 (F : Fun K "need_count" "need_count" z6 f fd) (m : mg "need_count" = some (.ref f)) (T : Txt K mg) (XTt : XT K mg RN TN) (hB : K.In base) (C_is_count : Q8 P w K mg base) : Q9 P w K mg base := by
 obtain ⟨S, mS, xS⟩ := XTt.xcls hB
 obtain ⟨C_NoNumber, hc_NoNumber⟩ := XTt.has (n := "NoNumber") (by decide)
 have mc_NoNumber := XTt.mgc _ _ (XTt.cls hc_NoNumber).1
 obtain ⟨bm_NoNumber, xc_NoNumber, _⟩ := xS.own _ _ hc_NoNumber
 refine ⟨f, fd, ?_, m, F.kp, F.binds fun _ _ _ _ _ _ us hl => match us, hl with | [_], _ => rfl⟩
 show u8 P w K mg base (CX1 P w) 3 f fd ["thing"] (spX K (clR K RN) (qbf (["thing"] : List Str).length (["thing"] : List Str).length yg))
 refine qb7 (N := ["thing"]) (ps := ["thing"]) (k := 2) (O := []) (body := yg) (cl := clR K RN) F qbz ?a ?b
 case a => decide
 intro cdv A outer s H E B hr
 have L := qb6 (P := P) (w := w) (K := K) (mg := mg) (base := base) (N := ["thing"]) (qual := "need_count") (scope := qf z6) (f := f) (cdv := cdv) (A := A) (outer := outer) (s := s) (H := H) (E := E) (c := cfn [] [] B H (fun _ => False) (fun x H' => ∀ C, clR K RN x.cls = some C -> E (.ref C) none H') fun _ => none) (cl := clR K RN) rfl (fun x C H' h1 h2 => h2 C h1)
 exact (qj (jB (yd (jR (dC C_is_count hr (qa (qd 0) qg)))) (qj (qbg rfl L hc_NoNumber rfl mc_NoNumber xc_NoNumber (qa jQ qg))) qG))
theorem qes : qw ["thing"] ["thing"] (qf y9) := ⟨rfl, rfl, rfl, by decide +kernel, rfl, by decide +kernel, by decide +kernel⟩
theorem q10 (F : Fun K "is_kind" "is_kind" y9 f fd) (m : mg "is_kind" = some (.ref f)) (T : Txt K mg) (XTt : XT K mg RN TN) (hB : K.In base) (C_is_count : Q8 P w K mg base) : Q10 P w K mg base := by
 refine ⟨f, fd, ?_, m, F.kp, F.binds fun _ _ _ _ _ _ us hl => match us, hl with | [_], _ => rfl⟩
 exact zk (N := ["thing"]) (O := []) (body := qax) F qes (by decide) fun cdv A outer s H E B hr => (qh (jB (DW.dt (wQ (yd (jR (wG vH rfl T.b_isinstance rfl T.b_tuple uW (qd 0) qy))) (vG (ze (vc hr) yW (zw jq jH rfl T.b_len vM (qa (qd 0) qg)) qe (qM _))))) (qj (qC uf)) qG)
   (qh (jB (DW.dt (wQ (yd (jR (dC C_is_count hr (qa (qJ qr qq (qd 0) (gI T.c_WEIGHT)) qg)))) (vG (ze (vb hr) yV (qJ qr qq (qd 0) (gI T.c_WEIGHT)) qe (qM _))))) (qj (qC uf)) qG)
   (qj (qC (qag (dC C_is_count hr (qa (qJ qr qq (qd 0) (gI T.c_WORTH)) qg)) (qaf (qmC (wE qeK qcE (qJ qr qq (qd 0) (gI T.c_MOST)) yE (qM _)) (qaf (dC C_is_count hr (qa (qJ qr qq (qd 0) (gI T.c_MOST)) qg))))))))))
theorem qc5 : qw ["thing"] ["thing"] (qf jX) := ⟨rfl, rfl, rfl, by decide +kernel, rfl, by decide +kernel, by decide +kernel⟩
theorem q11 (F : Fun K "is_store" "is_store" jX f fd) (m : mg "is_store" = some (.ref f)) (T : Txt K mg) (XTt : XT K mg RN TN) (hB : K.In base) (C_is_kind : Q10 P w K mg base) : Q11 P w K mg base := by
 refine ⟨f, fd, ?_, m, F.kp, F.binds fun _ _ _ _ _ _ us hl => match us, hl with | [_], _ => rfl⟩
 exact zk (N := ["thing"]) (O := []) (body := ww) F qc5 (by decide) fun cdv A outer s H E B hr => (qh (jB (DW.dt (wQ (yd (jR (wG vH rfl T.b_isinstance rfl T.b_tuple uW (qd 0) qy))) (vG (ze qbI wF (zw jq jH rfl T.b_len vM (qa (qd 0) qg)) (gI T.c_KINDS_AT_MOST) (qM _))))) (qj (qC uf)) qG)
   (qj (qC (zw (qgP rfl) qe7 rfl T.b_all qlg (qa (qiW (fo := none) rfl (wH (qd 0)) (cs ["thing"] ["part"] 1 [] (qf jX)) (f0 [] []) (fun _ _ _ _ _ _ _ _ _ _ _ => ⟨(qT (i := 0) (nd ["part"])), qk6, (dC C_is_kind hr (qa (qd 0) qg))⟩)) qg)))))
theorem qbA : qw ["thing"] ["thing"] (qf z7) := ⟨rfl, rfl, rfl, by decide +kernel, rfl, by decide +kernel, by decide +kernel⟩
theorem q12 (F : Fun K "need_store" "need_store" z7 f fd) (m : mg "need_store" = some (.ref f)) (T : Txt K mg) (XTt : XT K mg RN TN) (hB : K.In base) (C_is_store : Q11 P w K mg base) : Q12 P w K mg base := by
 obtain ⟨S, mS, xS⟩ := XTt.xcls hB
 obtain ⟨C_NoStore, hc_NoStore⟩ := XTt.has (n := "NoStore") (by decide)
 have mc_NoStore := XTt.mgc _ _ (XTt.cls hc_NoStore).1
 obtain ⟨bm_NoStore, xc_NoStore, _⟩ := xS.own _ _ hc_NoStore
 refine ⟨f, fd, ?_, m, F.kp, F.binds fun _ _ _ _ _ _ us hl => match us, hl with | [_], _ => rfl⟩
 show u8 P w K mg base (CX1 P w) 5 f fd ["thing"] (spX K (clR K RN) (qbf (["thing"] : List Str).length (["thing"] : List Str).length yS))
 refine qb7 (N := ["thing"]) (ps := ["thing"]) (k := 4) (O := []) (body := yS) (cl := clR K RN) F qbA ?a ?b
 case a => decide
 intro cdv A outer s H E B hr
 have L := qb6 (P := P) (w := w) (K := K) (mg := mg) (base := base) (N := ["thing"]) (qual := "need_store") (scope := qf z7) (f := f) (cdv := cdv) (A := A) (outer := outer) (s := s) (H := H) (E := E) (c := cfn [] [] B H (fun _ => False) (fun x H' => ∀ C, clR K RN x.cls = some C -> E (.ref C) none H') fun _ => none) (cl := clR K RN) rfl (fun x C H' h1 h2 => h2 C h1)
 exact (qj (jB (yd (jR (dC C_is_store hr (qa (qd 0) qg)))) (qj (qbg rfl L hc_NoStore rfl mc_NoStore xc_NoStore (qa jQ qg))) qG))
theorem yr : qw ["store", "room", "left", "place"] ["store", "room"] (qf z8) := ⟨rfl, rfl, rfl, by decide +kernel, rfl, by decide +kernel, by decide +kernel⟩
theorem q13 (F : Fun K "some_price" "some_price" z8 f fd) (m : mg "some_price" = some (.ref f)) (T : Txt K mg) (XTt : XT K mg RN TN) (hB : K.In base) (C_dearest_first : Q2 P w K mg base) (C_room_behind : Q4 P w K mg base) (C_all_go_in : Q3 P w K mg base) (C_lowest_terms : Q6 P w K mg base) (C_need_count : Q9 P w K mg base) (C_need_store : Q12 P w K mg base) : Q13 P w K mg base := by
 have hcl : ∀ n, RN.contains n = true -> (clR K RN n).isSome = true := fun n hn => Option.isSome_iff_exists.mpr (XTt.has hn)
 refine ⟨f, fd, ?_, m, F.kp, F.binds fun _ _ _ _ _ _ us hl => match us, hl with | [_, _], _ => rfl⟩
 show u8 P w K mg base (CX1 P w) 6 f fd ["store", "room"] (spX K (clR K RN) (qbf (["store", "room", "left", "place"] : List Str).length (["store", "room"] : List Str).length jy))
 refine qb7 (N := ["store", "room", "left", "place"]) (ps := ["store", "room"]) (k := 5) (O := []) (body := jy) (cl := clR K RN) F yr ?a ?b
 case a => decide
 intro cdv A outer s H E B hr
 have L := qb6 (P := P) (w := w) (K := K) (mg := mg) (base := base) (N := ["store", "room", "left", "place"]) (qual := "some_price") (scope := qf z8) (f := f) (cdv := cdv) (A := A) (outer := outer) (s := s) (H := H) (E := E) (c := cfn [] [] B H (fun _ => False) (fun x H' => ∀ C, clR K RN x.cls = some C -> E (.ref C) none H') fun _ => none) (cl := clR K RN) rfl (fun x C H' h1 h2 => h2 C h1)
 exact (qh (vk (xC L.two hcl C_need_store hr (qa (qd 0) qg)))
   (qh (vk (xC L.two hcl C_need_count hr (qa (qd 1) qg)))
   (qh (qL (i := 2) yr.nd (qd 1))
   (qh (qll (uH PassesOwn.never rfl (wH (dC C_dearest_first hr (qa (qd 0) qg))) (qT (i := 3) yr.nd) (qh (jB (yd (jR (dC C_all_go_in hr (qa (qJ qr qq (qd 0) (qd 3)) (qa (qd 2) qg))))) (qj (qC (dC C_lowest_terms hr (qa (qJ qr qq (qJ qr qq (qd 0) (qd 3)) (gI T.c_WORTH)) (qa (qJ qr qq (qJ qr qq (qd 0) (qd 3)) (gI T.c_WEIGHT)) qg))))) qG)
   (qj (qL (i := 2) yr.nd (dC C_room_behind hr (qa (qJ qr qq (qd 0) (qd 3)) (qa (qd 2) qg))))))))
   (qj (qC (gT (ns := [0, 1]) T.c_NOTHING)))))))
theorem yI : qw ["store", "room", "price", "top", "kind", "more"] ["store", "room", "price"] (qf yy) := ⟨rfl, rfl, rfl, by decide +kernel, rfl, by decide +kernel, by decide +kernel⟩
theorem q14 (F : Fun K "bound_of" "bound_of" yy f fd) (m : mg "bound_of" = some (.ref f)) (T : Txt K mg) (XTt : XT K mg RN TN) (hB : K.In base) (C_lowest_terms : Q6 P w K mg base) : Q14 P w K mg base := by
 refine ⟨f, fd, ?_, m, F.kp, F.binds fun _ _ _ _ _ _ us hl => match us, hl with | [_, _, _], _ => rfl⟩
 exact zk (N := ["store", "room", "price", "top", "kind", "more"]) (O := []) (body := u4) F yI (by decide) fun cdv A outer s H E B hr => (qh (qL (i := 3) yI.nd (qu qO qF (qd 1) (qJ qr qq (qd 2) (gI T.c_TOP))))
   (qh (uH PassesOwn.never rfl (wH (qd 0)) (qT (i := 4) yI.nd) (qh (qL (i := 5) yI.nd (qu qbH qai (qu qO qF (qJ qr qq (qd 4) (gI T.c_WORTH)) (qJ qr qq (qd 2) (gI T.c_BOTTOM))) (qu qO qF (qJ qr qq (qd 4) (gI T.c_WEIGHT)) (qJ qr qq (qd 2) (gI T.c_TOP)))))
   (qh (jB (DW.dt (qdb (ze qbI wF (qd 5) qe (qM _)) (qa3 (ze qeK qcE (qJ qr qq (qd 4) (gI T.c_MOST)) yE (qM _))))) (qj (qC yE)) qG)
   (qj (jB (ze qbI wF (qd 5) qe (qM _)) (qj (qL (i := 3) yI.nd (qu jn jo (qd 3) (qu qO qF (qd 5) (qJ qr qq (qd 4) (gI T.c_MOST)))))) qG)))))
   (qj (qC (dC C_lowest_terms hr (qa (qd 3) (qa (qJ qr qq (qd 2) (gI T.c_BOTTOM)) qg)))))))
theorem qc6 : qw ["thing"] ["thing"] (qf yz) := ⟨rfl, rfl, rfl, by decide +kernel, rfl, by decide +kernel, by decide +kernel⟩
theorem q15 (F : Fun K "is_price" "is_price" yz f fd) (m : mg "is_price" = some (.ref f)) (T : Txt K mg) (XTt : XT K mg RN TN) (hB : K.In base) (C_greatest_divisor : Q5 P w K mg base) (C_is_count : Q8 P w K mg base) : Q15 P w K mg base := by
 refine ⟨f, fd, ?_, m, F.kp, F.binds fun _ _ _ _ _ _ us hl => match us, hl with | [_], _ => rfl⟩
 exact zk (N := ["thing"]) (O := []) (body := wA) F qc6 (by decide) fun cdv A outer s H E B hr => (qh (jB (DW.dt (wQ (yd (jR (wG vH rfl T.b_isinstance rfl T.b_tuple uW (qd 0) qy))) (vG (ze (vc hr) yW (zw jq jH rfl T.b_len vM (qa (qd 0) qg)) qe (qM _))))) (qj (qC uf)) qG)
   (qh (jB (DW.dt (wQ (yd (jR (dC C_is_count hr (qa (qJ qr qq (qd 0) (gI T.c_TOP)) qg)))) (wQ (yd (jR (dC C_is_count hr (qa (qJ qr qq (qd 0) (gI T.c_BOTTOM)) qg)))) (vG (ze (vb hr) yV (qJ qr qq (qd 0) (gI T.c_BOTTOM)) qe (qM _)))))) (qj (qC uf)) qG)
   (qj (qC (wE (vb hr) yV (dC C_greatest_divisor hr (qa (qJ qr qq (qd 0) (gI T.c_TOP)) (qa (qJ qr qq (qd 0) (gI T.c_BOTTOM)) qg))) qe (qM _))))))
theorem qbB : qw ["thing"] ["thing"] (qf z9) := ⟨rfl, rfl, rfl, by decide +kernel, rfl, by decide +kernel, by decide +kernel⟩
theorem q16 (F : Fun K "need_price" "need_price" z9 f fd) (m : mg "need_price" = some (.ref f)) (T : Txt K mg) (XTt : XT K mg RN TN) (hB : K.In base) (C_is_price : Q15 P w K mg base) : Q16 P w K mg base := by
 obtain ⟨S, mS, xS⟩ := XTt.xcls hB
 obtain ⟨C_NoNumber, hc_NoNumber⟩ := XTt.has (n := "NoNumber") (by decide)
 have mc_NoNumber := XTt.mgc _ _ (XTt.cls hc_NoNumber).1
 obtain ⟨bm_NoNumber, xc_NoNumber, _⟩ := xS.own _ _ hc_NoNumber
 refine ⟨f, fd, ?_, m, F.kp, F.binds fun _ _ _ _ _ _ us hl => match us, hl with | [_], _ => rfl⟩
 show u8 P w K mg base (CX1 P w) 4 f fd ["thing"] (spX K (clR K RN) (qbf (["thing"] : List Str).length (["thing"] : List Str).length yi))
 refine qb7 (N := ["thing"]) (ps := ["thing"]) (k := 3) (O := []) (body := yi) (cl := clR K RN) F qbB ?a ?b
 case a => decide
 intro cdv A outer s H E B hr
 have L := qb6 (P := P) (w := w) (K := K) (mg := mg) (base := base) (N := ["thing"]) (qual := "need_price") (scope := qf z9) (f := f) (cdv := cdv) (A := A) (outer := outer) (s := s) (H := H) (E := E) (c := cfn [] [] B H (fun _ => False) (fun x H' => ∀ C, clR K RN x.cls = some C -> E (.ref C) none H') fun _ => none) (cl := clR K RN) rfl (fun x C H' h1 h2 => h2 C h1)
 exact (qj (jB (yd (jR (dC C_is_price hr (qa (qd 0) qg)))) (qj (qbg rfl L hc_NoNumber rfl mc_NoNumber xc_NoNumber (qa jQ qg))) qG))
theorem qhF : qw ["store", "room", "price"] ["store", "room", "price"] (qf vy) := ⟨rfl, rfl, rfl, by decide +kernel, rfl, by decide +kernel, by decide +kernel⟩
theorem q17 (F : Fun K "bound" "bound" vy f fd) (m : mg "bound" = some (.ref f)) (T : Txt K mg) (XTt : XT K mg RN TN) (hB : K.In base) (C_bound_of : Q14 P w K mg base) (C_need_price : Q16 P w K mg base) (C_need_count : Q9 P w K mg base) (C_need_store : Q12 P w K mg base) : Q17 P w K mg base := by
 have hcl : ∀ n, RN.contains n = true -> (clR K RN n).isSome = true := fun n hn => Option.isSome_iff_exists.mpr (XTt.has hn)
 refine ⟨f, fd, ?_, m, F.kp, F.binds fun _ _ _ _ _ _ us hl => match us, hl with | [_, _, _], _ => rfl⟩
 show u8 P w K mg base (CX1 P w) 6 f fd ["store", "room", "price"] (spX K (clR K RN) (qbf (["store", "room", "price"] : List Str).length (["store", "room", "price"] : List Str).length wB))
 refine qb7 (N := ["store", "room", "price"]) (ps := ["store", "room", "price"]) (k := 5) (O := []) (body := wB) (cl := clR K RN) F qhF ?a ?b
 case a => decide
 intro cdv A outer s H E B hr
 have L := qb6 (P := P) (w := w) (K := K) (mg := mg) (base := base) (N := ["store", "room", "price"]) (qual := "bound") (scope := qf vy) (f := f) (cdv := cdv) (A := A) (outer := outer) (s := s) (H := H) (E := E) (c := cfn [] [] B H (fun _ => False) (fun x H' => ∀ C, clR K RN x.cls = some C -> E (.ref C) none H') fun _ => none) (cl := clR K RN) rfl (fun x C H' h1 h2 => h2 C h1)
 exact (qh (vk (xC L.two hcl C_need_store hr (qa (qd 0) qg)))
   (qh (vk (xC L.two hcl C_need_count hr (qa (qd 1) qg)))
   (qh (vk (xC L.two hcl C_need_price hr (qa (qd 2) qg)))
   (qj (qC (dC C_bound_of hr (qa (qd 0) (qa (qd 1) (qa (qd 2) qg)))))))))
theorem wP : qw ["kind", "store", "room", "price", "e"] ["kind", "store", "room", "price"] (qf jY) := ⟨rfl, rfl, rfl, by decide +kernel, rfl, by decide +kernel, by decide +kernel⟩
theorem q18 (F : Fun K "_law_said" "_law_said" jY f fd) (m : mg "_law_said" = some (.ref f)) (T : Txt K mg) (XTt : XT K mg RN TN) (hB : K.In base) (C__law_marks : Q0 P w K mg base) (C_some_price : Q13 P w K mg base) (C_bound : Q17 P w K mg base) : Q18 P w K mg base := by
 obtain ⟨f__law_marks, fd__law_marks, G__law_marks, m__law_marks, k__law_marks, b__law_marks⟩ := C__law_marks.ex
 have hcl : ∀ n, RN.contains n = true -> (clR K RN n).isSome = true := fun n hn => Option.isSome_iff_exists.mpr (XTt.has hn)
 obtain ⟨S, mS, xS⟩ := XTt.xcls hB
 refine ⟨f, fd, ?_, m, F.kp, F.binds fun _ _ _ _ _ _ us hl => match us, hl with | [_, _, _, _], _ => rfl⟩
 exact zk (N := ["kind", "store", "room", "price", "e"]) (O := []) (body := j7) F wP (by decide) fun cdv A outer s H E B hr => (qj (qlp (i := 4) wP.nd rfl rfl xS rfl mS G__law_marks (hr.mono (by decide)) rfl m__law_marks k__law_marks b__law_marks (fun xe pn E2 cE L => (qh (jB (ze (vb hr) yV (qd 0) qe (qM _)) (qj (qC (xC L hcl C_bound hr (qa (qd 1) (qa (qd 2) (qa (qd 3) qg)))))) qG)
   (qj (qC (xC L hcl C_some_price hr (qa (qd 1) (qa (qd 2) qg)))))))))
theorem vi : qw ["one", "other"] ["one", "other"] (qf jg) := ⟨rfl, rfl, rfl, by decide +kernel, rfl, by decide +kernel, by decide +kernel⟩
theorem q19 (F : Fun K "_law_common" "_law_common" jg f fd) (m : mg "_law_common" = some (.ref f)) (T : Txt K mg) (XTt : XT K mg RN TN) (hB : K.In base) : Q19 P w K mg base := by
 refine ⟨f, fd, ?_, m, F.kp, F.binds fun _ _ _ _ _ _ us hl => match us, hl with | [_, _], _ => rfl⟩
 exact zk (N := ["one", "other"]) (O := []) (body := ur) F vi (by decide) fun cdv A outer s H E B hr => (qh (qbd PassesOwn.never (ze (vc hr) yW (qd 1) qe (qM _)) (qj (qfh (i := 0) (j := 1) vi.nd (qa (qd 1) (qa (qu w6 vn (qd 0) (qd 1)) qg)) rfl)))
   (qj (qC (qd 0))))
theorem qbC : qw ["thing"] ["thing"] (qf jx) := ⟨rfl, rfl, rfl, by decide +kernel, rfl, by decide +kernel, by decide +kernel⟩
theorem q20 (F : Fun K "_law_whole" "_law_whole" jx f fd) (m : mg "_law_whole" = some (.ref f)) (T : Txt K mg) (XTt : XT K mg RN TN) (hB : K.In base) : Q20 P w K mg base := by
 refine ⟨f, fd, ?_, m, F.kp, F.binds fun _ _ _ _ _ _ us hl => match us, hl with | [_], _ => rfl⟩
 exact zk (N := ["thing"]) (O := []) (body := uO) F qbC (by decide) fun cdv A outer s H E B hr => (qj (qC (qag (wG qe6 rfl T.b_isinstance rfl T.b_int qh2 (qd 0) qy) (qaf (qhP (wG qde rfl T.b_isinstance rfl T.b_bool qfl (qd 0) qy))))))
theorem wT : qw ["thing"] ["thing"] (qf zL) := ⟨rfl, rfl, rfl, by decide +kernel, rfl, by decide +kernel, by decide +kernel⟩
theorem q21 (F : Fun K "_law_is_price" "_law_is_price" zL f fd) (m : mg "_law_is_price" = some (.ref f)) (T : Txt K mg) (XTt : XT K mg RN TN) (hB : K.In base) (C__law_common : Q19 P w K mg base) (C__law_whole : Q20 P w K mg base) : Q21 P w K mg base := by
 refine ⟨f, fd, ?_, m, F.kp, F.binds fun _ _ _ _ _ _ us hl => match us, hl with | [_], _ => rfl⟩
 exact zk (N := ["thing"]) (O := []) (body := jc) F wT (by decide) fun cdv A outer s H E B hr => (qh (jB (DW.dt (wQ (yd (jR (wG vH rfl T.b_isinstance rfl T.b_tuple uW (qd 0) qy))) (wQ (ze (vc hr) yW (zw jq jH rfl T.b_len vM (qa (qd 0) qg)) qe (qM _)) (wQ (yd (jR (dC C__law_whole hr (qa (qJ qr qq (qd 0) qe) qg)))) (vG (yd (jR (dC C__law_whole hr (qa (qJ qr qq (qd 0) qe) qg))))))))) (qj (qC uf)) qG)
   (qj (qC (qag (wE qiG qe1 (qJ qr qq (qd 0) qe) qe (qM _)) (qag (wE qiG qe1 (qJ qr qq (qd 0) qe) qe (qM _)) (qaf (wE (vb hr) yV (dC C__law_common hr (qa (qJ qr qq (qd 0) qe) (qa (qJ qr qq (qd 0) qe) qg))) qe (qM _))))))))
theorem uS : qw ["box", "many", "left", "digit"] ["box", "many"] (qf jZ) := ⟨rfl, rfl, rfl, by decide +kernel, rfl, by decide +kernel, by decide +kernel⟩
theorem q22 (F : Fun K "_law_take" "_law_take" jZ f fd) (m : mg "_law_take" = some (.ref f)) (T : Txt K mg) (XTt : XT K mg RN TN) (hB : K.In base) : Q22 P w K mg base := by
 refine ⟨f, fd, ?_, m, F.kp, F.binds fun _ _ _ _ _ _ us hl => match us, hl with | [_, _], _ => rfl⟩
 show u8 P w K mg base CX0 1 f fd ["box", "many"] (qew K (v5 (["box", "many", "left", "digit"] : List Str).length (["box", "many"] : List Str).length ut))
 refine qgV (N := ["box", "many", "left", "digit"]) (ps := ["box", "many"]) (k := 0) (O := [0]) (body := ut) F uS ?a ?a0 ?b
 case a => decide
 case a0 => decide
 intro cdv A outer s H E B Io S hr
 exact (qh (qeZ (zw qcy qbU rfl T.b_divmod qfj (qa (qfd (i := 0) qe) (qa (qd 1) qg))) (qaL (n := 2) rfl (zO (qT (i := 2) uS.nd) (zO (qT (i := 3) uS.nd) v2))))
   (qh (qcI (i := 0) (qd 2) qe)
   (qj (qC (qd 3)))))
theorem j9 : qw ["box", "some"] ["box"] (qf zv) := ⟨rfl, rfl, rfl, by decide +kernel, rfl, by decide +kernel, by decide +kernel⟩
theorem q23 (F : Fun K "_law_odd_thing" "_law_odd_thing" zv f fd) (m : mg "_law_odd_thing" = some (.ref f)) (T : Txt K mg) (XTt : XT K mg RN TN) (hB : K.In base) (C__law_take : Q22 P w K mg base) : Q23 P w K mg base := by
 refine ⟨f, fd, ?_, m, F.kp, F.binds fun _ _ _ _ _ _ us hl => match us, hl with | [_], _ => rfl⟩
 show u8 P w K mg base CX0 2 f fd ["box"] (qew K (v5 (["box", "some"] : List Str).length (["box"] : List Str).length js))
 refine qgV (N := ["box", "some"]) (ps := ["box"]) (k := 1) (O := [0]) (body := js) F j9 ?a ?a0 ?b
 case a => decide
 case a0 => decide
 intro cdv A outer s H E B Io S hr
 exact (qh (qL (i := 1) j9.nd (jG (qa yE (qa uf (qa uf (qa (wJ qe) (qa jQ (qa jQ (qa (qZ (qa qe qg)) (qa (jG (qa qe qg)) (qa qg0 (qa (qZ (qa (wJ qe) qg)) (qa (qZ (qa uf qg)) (qa (qZ (qa (qZ (qa qe (qa qe qg))) qg)) (qa (qZ (qa yE qg)) (qa (qu qhK qfg qe qe) qg))))))))))))))))
   (qh (qL (i := 1) j9.nd (qu jn jo (qd 1) (jG (qa (qZ (qa qe (qa qe (qa qe qg)))) (qa (qZ (qa (qZ (qa qe (qa qe (qa qe qg)))) qg)) (qa (qZ (qa (qZ (qa qe (qa (wJ qe) (qa qe qg)))) qg)) (qa (qZ (qa (qZ (qa qe (qa qe (qa (wJ qe) qg)))) qg)) (qa (jG (qa (qZ (qa qe (qa qe (qa qe qg)))) qg)) (qa qgZ (qa jQ (qa (qZ (qa (qZ (qa qe (qa qe (qa uf qg)))) qg)) qg)))))))))))
   (qj (qC (qJ qr qq (qd 1) (iC (i := 0) C__law_take hr (qa qe qg)))))))
theorem qaA : qw ["top", "bottom", "by"] ["top", "bottom"] (qf yA) := ⟨rfl, rfl, rfl, by decide +kernel, rfl, by decide +kernel, by decide +kernel⟩
theorem q24 (F : Fun K "_law_low" "_law_low" yA f fd) (m : mg "_law_low" = some (.ref f)) (T : Txt K mg) (XTt : XT K mg RN TN) (hB : K.In base) (C__law_common : Q19 P w K mg base) : Q24 P w K mg base := by
 refine ⟨f, fd, ?_, m, F.kp, F.binds fun _ _ _ _ _ _ us hl => match us, hl with | [_, _], _ => rfl⟩
 exact zk (N := ["top", "bottom", "by"]) (O := []) (body := wC) F qaA (by decide) fun cdv A outer s H E B hr => (qh (qL (i := 2) qaA.nd (dC C__law_common hr (qa (qd 0) (qa (qd 1) qg))))
   (qj (qC (qZ (qa (qu uB yL (qd 0) (qd 2)) (qa (qu uB yL (qd 1) (qd 2)) qg))))))
theorem qY : qw ["store", "room", "price", "top", "heavy", "dear", "most", "more"] ["store", "room", "price"] (qf zM) := ⟨rfl, rfl, rfl, by decide +kernel, rfl, by decide +kernel, by decide +kernel⟩
theorem q25 (F : Fun K "_law_bound_by" "_law_bound_by" zM f fd) (m : mg "_law_bound_by" = some (.ref f)) (T : Txt K mg) (XTt : XT K mg RN TN) (hB : K.In base) (C__law_low : Q24 P w K mg base) : Q25 P w K mg base := by
 refine ⟨f, fd, ?_, m, F.kp, F.binds fun _ _ _ _ _ _ us hl => match us, hl with | [_, _, _], _ => rfl⟩
 exact zk (N := ["store", "room", "price", "top", "heavy", "dear", "most", "more"]) (O := []) (body := jN) F qY (by decide) fun cdv A outer s H E B hr => (qh (qL (i := 3) qY.nd (qu qO qF (qd 1) (qJ qr qq (qd 2) qe)))
   (qh (uH PassesOwn.never rfl (wH (qd 0)) (qaL (n := 3) rfl (zO (qT (i := 4) qY.nd) (zO (qT (i := 5) qY.nd) (zO (qT (i := 6) qY.nd) v2)))) (qh (qL (i := 7) qY.nd (qu qbH qai (qu qO qF (qd 5) (qJ qr qq (qd 2) qe)) (qu qO qF (qd 4) (qJ qr qq (qd 2) qe))))
   (qj (jB (ze qbI wF (qd 7) qe (qM _)) (qh (jB (ze qeK qcE (qd 6) yE (qM _)) (qj (qC yE)) qG)
   (qj (qL (i := 3) qY.nd (qu jn jo (qd 3) (qu qO qF (qd 7) (qd 6)))))) qG))))
   (qj (qC (dC C__law_low hr (qa (qd 3) (qa (qJ qr qq (qd 2) qe) qg)))))))
theorem qU : qw ["store", "shares", "top", "bottom", "at"] ["store", "shares"] (qf qX) := ⟨rfl, rfl, rfl, by decide +kernel, rfl, by decide +kernel, by decide +kernel⟩
theorem q26 (F : Fun K "_law_share_worth" "_law_share_worth" qX f fd) (m : mg "_law_share_worth" = some (.ref f)) (T : Txt K mg) (XTt : XT K mg RN TN) (hB : K.In base) (C__law_low : Q24 P w K mg base) : Q26 P w K mg base := by
 refine ⟨f, fd, ?_, m, F.kp, F.binds fun _ _ _ _ _ _ us hl => match us, hl with | [_, _], _ => rfl⟩
 exact zk (N := ["store", "shares", "top", "bottom", "at"]) (O := []) (body := jO) F qU (by decide) fun cdv A outer s H E B hr => (qh (qeZ (qZ (qa qe (qa qe qg))) (qaL (n := 2) rfl (zO (qT (i := 2) qU.nd) (zO (qT (i := 3) qU.nd) v2))))
   (qh (uH PassesOwn.never rfl (uG rfl T.b_range (qa (zw jq jH rfl T.b_len vM (qa (qd 0) qg)) qg)) (qT (i := 4) qU.nd) (qh (qL (i := 2) qU.nd (qu jn jo (qu qO qF (qd 2) (qJ qr qq (qJ qr qq (qd 1) (qd 4)) qe)) (qu qO qF (qu qO qF (qJ qr qq (qJ qr qq (qd 0) (qd 4)) qe) (qJ qr qq (qJ qr qq (qd 1) (qd 4)) qe)) (qd 3))))
   (qj (qL (i := 3) qU.nd (qu qO qF (qd 3) (qJ qr qq (qJ qr qq (qd 1) (qd 4)) qe))))))
   (qj (qC (dC C__law_low hr (qa (qd 2) (qa (qd 3) qg)))))))
theorem qz : qw ["store", "room", "left", "found", "first", "at", "heavy", "dear", "most"] ["store", "room"] (qf qR) := ⟨rfl, rfl, rfl, by decide +kernel, rfl, by decide +kernel, by decide +kernel⟩
theorem q27 (F : Fun K "_law_by_shares" "_law_by_shares" qR f fd) (m : mg "_law_by_shares" = some (.ref f)) (T : Txt K mg) (XTt : XT K mg RN TN) (hB : K.In base) (C__law_low : Q24 P w K mg base) : Q27 P w K mg base := by
 refine ⟨f, fd, ?_, m, F.kp, F.binds fun _ _ _ _ _ _ us hl => match us, hl with | [_, _], _ => rfl⟩
 exact zk (N := ["store", "room", "left", "found", "first", "at", "heavy", "dear", "most"]) (O := [2, 3]) (body := yk) F qz (by decide) fun cdv A outer s H E B hr => (qh (qhj (i := 2) qz.nd (qhi (fo := none) rfl (uG rfl T.b_range (qa (zw jq jH rfl T.b_len vM (qa (qd 0) qg)) qg)) (cs ["store", "room", "left", "found", "first", "at", "heavy", "dear", "most"] ["at", "store"] 1 [0] (qf qR)) (f0 [0] [2, 3]) (fun _ _ _ _ _ _ _ _ _ _ _ => ⟨(qT (i := 0) (nd ["at", "store"])), (qhW (ze qbI wF (qJ qr qq (qJ qr qq (qd 1) (qd 0)) qe) qe (qM _))), (qd 0)⟩)) rfl (cs ["store", "room", "left", "found", "first", "at", "heavy", "dear", "most"] ["at", "store"] 1 [0] (qf qR)))
   (qh (qcJ (i := 3) qz.nd (qlw (jG (qa (qZ (qa qe (qa qe qg))) qg)) (zw jq jH rfl T.b_len vM (qa (qd 0) qg))))
   (qh (qbd PassesOwn.never (qh0 (i := 2) hr (jG qg)) (qh (qL (i := 4) qz.nd (qfd (i := 2) qe))
   (qh (qjr (i := 2) PassesOwn.never rfl (fun S9 => (qT (i := 5) qz.nd)) (fun S9 => (qj (jB (ze qbI wF (qu qO qF (qJ qr qq (qJ qr qq (qd 0) (qd 5)) qe) (qJ qr qq (qJ qr qq (qd 0) (qd 4)) qe)) (qu qO qF (qJ qr qq (qJ qr qq (qd 0) (qd 4)) qe) (qJ qr qq (qJ qr qq (qd 0) (qd 5)) qe)) (qM _)) (qj (qL (i := 4) qz.nd (qd 5))) qG))))
   (qh (vk (qfV (i := 2) (qd 4)))
   (qh (qeZ (qJ qr qq (qd 0) (qd 4)) (qaL (n := 3) rfl (zO (qT (i := 6) qz.nd) (zO (qT (i := 7) qz.nd) (zO (qT (i := 8) qz.nd) v2)))))
   (qj (jB (DW.dt (qdb (ze qeL qdd (qd 8) yE (qM _)) (qa3 (ze qkL qhQ (qu qO qF (qd 8) (qd 6)) (qd 1) (qM _))))) (qh (qcI (i := 3) (qZ (qa (qd 8) (qa qe qg))) (qd 4))
   (qj (qL (i := 1) qz.nd (qu qbH qai (qd 1) (qu qO qF (qd 8) (qd 6)))))) (qh (qcI (i := 3) (dC C__law_low hr (qa (qd 1) (qa (qd 6) qg))) (qd 4))
   (qj (qL (i := 1) qz.nd qe))))))))))
   (qj (qC (qfc (i := 3) rfl T.b_tuple uW))))))
theorem zq : qw ["box", "ends", "way", "heavy", "dear", "often"] ["box", "ends"] (qf zT) := ⟨rfl, rfl, rfl, by decide +kernel, rfl, by decide +kernel, by decide +kernel⟩
theorem q28 (F : Fun K "_law_kind_of" "_law_kind_of" zT f fd) (m : mg "_law_kind_of" = some (.ref f)) (T : Txt K mg) (XTt : XT K mg RN TN) (hB : K.In base) (C__law_take : Q22 P w K mg base) : Q28 P w K mg base := by
 refine ⟨f, fd, ?_, m, F.kp, F.binds fun _ _ _ _ _ _ us hl => match us, hl with | [_, _], _ => rfl⟩
 show u8 P w K mg base CX0 2 f fd ["box", "ends"] (qew K (v5 (["box", "ends", "way", "heavy", "dear", "often"] : List Str).length (["box", "ends"] : List Str).length ya))
 refine qgV (N := ["box", "ends", "way", "heavy", "dear", "often"]) (ps := ["box", "ends"]) (k := 1) (O := [0]) (body := ya) F zq ?a ?a0 ?b
 case a => decide
 case a0 => decide
 intro cdv A outer s H E B Io S hr
 exact (qh (qL (i := 2) zq.nd (iC (i := 0) C__law_take hr (qa qe qg)))
   (qh (qfh (i := 3) (j := 4) zq.nd (qa (qu jn jo qe (iC (i := 0) C__law_take hr (qa qe qg))) (qa (iC (i := 0) C__law_take hr (qa qe qg)) qg)) rfl)
   (qh (jB (ze (vb hr) yV (qd 2) qe (qM _)) (qj (qL (i := 4) zq.nd (qu qO qF qe (qd 3)))) qG)
   (qh (jB (ze (vb hr) yV (qd 2) qe (qM _)) (qj (qL (i := 4) zq.nd (qu jn jo (qd 3) (iC (i := 0) C__law_take hr (qa qe qg))))) qG)
   (qh (jB (ze (vb hr) yV (qd 2) qe (qM _)) (qj (qfh (i := 3) (j := 4) zq.nd (qa (qu jn jo qe (iC (i := 0) C__law_take hr (qa qe qg))) (qa (iC (i := 0) C__law_take hr (qa qe qg)) qg)) rfl)) qG)
   (qh (qL (i := 5) zq.nd (qJ qr qq (jG (qa qe (qa qe (qa qe (qa qe (qa qe (qa qe (qa qe (qa (qd 1) qg))))))))) (iC (i := 0) C__law_take hr (qa qe qg))))
   (qj (qC (qZ (qa (qd 3) (qa (qd 4) (qa (qd 5) qg))))))))))))
theorem je : qw ["box", "most", "ends", "found", "k", "kind"] ["box", "most", "ends"] (qf zU) := ⟨rfl, rfl, rfl, by decide +kernel, rfl, by decide +kernel, by decide +kernel⟩
theorem q29 (F : Fun K "_law_stocked" "_law_stocked" zU f fd) (m : mg "_law_stocked" = some (.ref f)) (T : Txt K mg) (XTt : XT K mg RN TN) (hB : K.In base) (C__law_take : Q22 P w K mg base) (C__law_kind_of : Q28 P w K mg base) : Q29 P w K mg base := by
 refine ⟨f, fd, ?_, m, F.kp, F.binds fun _ _ _ _ _ _ us hl => match us, hl with | [_, _, _], _ => rfl⟩
 show u8 P w K mg base CX0 3 f fd ["box", "most", "ends"] (qew K (v5 (["box", "most", "ends", "found", "k", "kind"] : List Str).length (["box", "most", "ends"] : List Str).length yb))
 refine qgV (N := ["box", "most", "ends", "found", "k", "kind"]) (ps := ["box", "most", "ends"]) (k := 2) (O := [0, 3]) (body := yb) F je ?a ?a0 ?b
 case a => decide
 case a0 => decide
 intro cdv A outer s H E B Io S hr
 exact (qh (qcJ (i := 3) je.nd (qk7 qg))
   (qh (uH PassesOwn.never rfl (uG rfl T.b_range (qa (iC (i := 0) C__law_take hr (qa (qu jn jo (qd 1) qe) qg)) qg)) (qT (i := 4) je.nd) (qh (qL (i := 5) je.nd (iC (i := 0) C__law_kind_of hr (qa (qd 2) qg)))
   (qh (jB (DW.dt (qdb (qh0 (i := 3) hr (jG qg)) (qa3 (ze (vb hr) yV (iC (i := 0) C__law_take hr (qa qe qg)) qe (qM _))))) (qj (qL (i := 5) je.nd (qfd (i := 3) (iC (i := 0) C__law_take hr (qa (qiX (i := 3) rfl T.b_len) qg))))) qG)
   (qj (vk (qfa (i := 3) (qd 5)))))))
   (qj (qC (qfc (i := 3) rfl T.b_tuple uW)))))
theorem ux : qw ["cell", "k", "some", "stir"] ["cell", "k"] (qf yB) := ⟨rfl, rfl, rfl, by decide +kernel, rfl, by decide +kernel, by decide +kernel⟩
theorem q30 (F : Fun K "_law_mix" "_law_mix" yB f fd) (m : mg "_law_mix" = some (.ref f)) (T : Txt K mg) (XTt : XT K mg RN TN) (hB : K.In base) : Q30 P w K mg base := by
 refine ⟨f, fd, ?_, m, F.kp, F.binds fun _ _ _ _ _ _ us hl => match us, hl with | [_, _], _ => rfl⟩
 exact zk (N := ["cell", "k", "some", "stir"]) (O := []) (body := wD) F ux (by decide) fun cdv A outer s H E B hr => (qh (qL (i := 2) ux.nd (jG (qa qe (qa qe (qa qe (qa qe (qa qe (qa qe (qa qe (qa qe (qa qe (qa qe (qa qe (qa qe (qa qe qg)))))))))))))))
   (qh (qL (i := 3) ux.nd (qu jn jo (qu jn jo (qu qO qF (qu jn jo (qu w6 vn (qd 0) qe) qe) (qJ qr qq (qd 2) (qu w6 vn (qd 1) qe))) (qu qO qF qe (qd 1))) (qu qO qF qe (qu uB yL (qd 1) qe))))
   (qh (qL (i := 3) ux.nd (qu w6 vn (qd 3) qe))
   (qj (qC (qu uB yL (qu w6 vn (qu jn jo (qu qO qF (qd 3) (qd 3)) (qu qO qF qe (qd 1))) qe) qe))))))
theorem qcs : qw ["script", "k"] ["script", "k"] (qf j4) := ⟨rfl, rfl, rfl, by decide +kernel, rfl, by decide +kernel, by decide +kernel⟩
theorem q31 (F : Fun K "_law_cell" "_law_cell" j4 f fd) (m : mg "_law_cell" = some (.ref f)) (T : Txt K mg) (XTt : XT K mg RN TN) (hB : K.In base) : Q31 P w K mg base := by
 refine ⟨f, fd, ?_, m, F.kp, F.binds fun _ _ _ _ _ _ us hl => match us, hl with | [_, _], _ => rfl⟩
 exact zk (N := ["script", "k"]) (O := []) (body := uu) F qcs (by decide) fun cdv A outer s H E B hr => (qh (jB (ze qmt qkX (qd 1) (zw jq jH rfl T.b_len vM (qa (qd 0) qg)) (qM _)) (qj (qC (qJ qr qq (qd 0) (qd 1)))) qG)
   (qj (qC qe)))
theorem yJ : qw ["script", "k", "cell", "number", "j"] ["script", "k"] (qf yC) := ⟨rfl, rfl, rfl, by decide +kernel, rfl, by decide +kernel, by decide +kernel⟩
theorem q32 (F : Fun K "_law_box" "_law_box" yC f fd) (m : mg "_law_box" = some (.ref f)) (T : Txt K mg) (XTt : XT K mg RN TN) (hB : K.In base) (C__law_mix : Q30 P w K mg base) (C__law_cell : Q31 P w K mg base) : Q32 P w K mg base := by
 refine ⟨f, fd, ?_, m, F.kp, F.binds fun _ _ _ _ _ _ us hl => match us, hl with | [_, _], _ => rfl⟩
 exact zk (N := ["script", "k", "cell", "number", "j"]) (O := []) (body := u7) F yJ (by decide) fun cdv A outer s H E B hr => (qh (qL (i := 2) yJ.nd (dC C__law_cell hr (qa (qd 0) (qa (qd 1) qg))))
   (qh (jB (ze (vb hr) yV (qu w6 vn (qd 2) qe) qe (qM _)) (qj (qC (jG (qa (qu uB yL (zw qgC qe4 rfl T.b_abs qle (qa (qd 2) qg)) qe) qg)))) qG)
   (qh (qL (i := 3) yJ.nd qe)
   (qh (uH PassesOwn.never rfl (uG rfl T.b_range (qa qe qg)) (qT (i := 4) yJ.nd) (qj (qL (i := 3) yJ.nd (qu jn jo (qu qO qF (qd 3) qe) (dC C__law_mix hr (qa (qd 2) (qa (qd 4) qg)))))))
   (qj (qC (jG (qa (qd 3) qg))))))))
theorem yU : qw ["script", "k", "box", "store", "room", "prices", "heavy", "dear", "most", "price", "odd", "thing"] ["script"] (qf qbu) := ⟨rfl, rfl, rfl, by decide +kernel, rfl, by decide +kernel, by decide +kernel⟩
theorem ql3 (F : Fun K "law" "law" qbu f fd) (T : Txt K mg) (XTt : XT K mg RN TN) (hB : K.In base) (C__law_said : Q18 P w K mg base) (C__law_is_price : Q21 P w K mg base) (C__law_odd_thing : Q23 P w K mg base) (C__law_bound_by : Q25 P w K mg base) (C__law_share_worth : Q26 P w K mg base) (C__law_by_shares : Q27 P w K mg base) (C__law_low : Q24 P w K mg base) (C__law_take : Q22 P w K mg base) (C__law_stocked : Q29 P w K mg base) (C__law_box : Q32 P w K mg base) : u8 P w K mg base CX0 8 f fd ["script"] (spD K qcZ) := by
 exact zk (N := ["script", "k", "box", "store", "room", "prices", "heavy", "dear", "most", "price", "odd", "thing"]) (O := [2]) (body := qjT) F yU (by decide) fun cdv A outer s H E B hr => (qh (uH PassesOwn.never rfl (uG rfl T.b_range (qa (zw (qbK rfl) qbT rfl T.b_max qh1 (qa qe (qa (zw (qeN rfl) qe5 rfl T.b_min qlf (qa (zw jq jH rfl T.b_len vM (qa (qd 0) qg)) (qa qe qg))) qg))) qg)) (qT (i := 1) yU.nd) (qh (qcJ (i := 2) yU.nd (nC C__law_box hr (qa (qd 0) (qa (qd 1) qg))))
   (qh (qL (i := 3) yU.nd (iC (i := 2) C__law_stocked hr (qa qe (qa yE qg))))
   (qh (qL (i := 4) yU.nd (qJ qr qq (jG (qa qe (qa (iC (i := 2) C__law_take hr (qa qe qg)) (qa (iC (i := 2) C__law_take hr (qa qe qg)) (qa (qu qhK qfg qe qe) qg))))) (iC (i := 2) C__law_take hr (qa qe qg))))
   (qh (qL (i := 5) yU.nd (jG (qa (qZ (qa qe (qa qe qg))) (qa (qZ (qa qe (qa qe qg))) (qa (dC C__law_low hr (qa (iC (i := 2) C__law_take hr (qa qe qg)) (qa (qu jn jo qe (iC (i := 2) C__law_take hr (qa qe qg))) qg))) qg)))))
   (qh (uH PassesOwn.never rfl (wH (qd 3)) (qaL (n := 3) rfl (zO (qT (i := 6) yU.nd) (zO (qT (i := 7) yU.nd) (zO (qT (i := 8) yU.nd) v2)))) (qj (qL (i := 5) yU.nd (qu jn jo (qd 5) (jG (qa (dC C__law_low hr (qa (qd 7) (qa (qd 6) qg))) (qa (dC C__law_low hr (qa (zw (qbK rfl) qbT rfl T.b_max qh1 (qa qe (qa (qu qbH qai (qu qO qF qe (qd 7)) qe) qg))) (qa (qu qO qF qe (qd 6)) qg))) qg)))))))
   (qh (uH PassesOwn.never rfl (wH (qd 5)) (qT (i := 9) yU.nd) (qj (jB (ze (vc hr) yW (zw (qaQ hr) qaR rfl T.b_repr qfk (qa (dC C__law_said hr (qa qe (qa (qd 3) (qa (qd 4) (qa (qd 9) qg))))) qg)) (zw (qaQ hr) qaR rfl T.b_repr qfk (qa (dC C__law_bound_by hr (qa (qd 3) (qa (qd 4) (qa (qd 9) qg)))) qg)) (qM _)) (qj (qC uf)) qG)))
   (qh (qL (i := 9) yU.nd (dC C__law_said hr (qa qe (qa (qd 3) (qa (qd 4) (qa yE qg))))))
   (qh (jB (DW.dt (wQ (yd (jR (dC C__law_is_price hr (qa (qd 9) qg)))) (vG (ze (vc hr) yW (dC C__law_said hr (qa qe (qa (qd 3) (qa (qd 4) (qa yE qg))))) (qd 9) (qM _))))) (qj (qC uf)) qG)
   (qh (jB (ze (vc hr) yW (dC C__law_bound_by hr (qa (qd 3) (qa (qd 4) (qa (qd 9) qg)))) (dC C__law_share_worth hr (qa (qd 3) (qa (dC C__law_by_shares hr (qa (qd 3) (qa (qd 4) qg))) qg))) (qM _)) (qj (qC uf)) qG)
   (qh (qL (i := 10) yU.nd (iC (i := 2) C__law_odd_thing hr qg))
   (qh (uH PassesOwn.never rfl (wH (jG (qa (qZ (qa qe (qa qe qg))) (qa (qZ (qa qe (qa qe qg))) (qa (qZ (qa qe (qa qe qg))) (qa (qZ (qa (wJ qe) (qa qe qg))) (qa (qZ (qa qe (qa (wJ qe) qg))) (qa (qZ (qa uf (qa qe qg))) (qa (jG (qa qe (qa qe qg))) (qa yE (qa (qZ (qa qe qg)) (qa qe (qa (qZ (qa qe (qa qe (qa qe qg)))) (qa jQ (qa (qd 10) qg))))))))))))))) (qT (i := 11) yU.nd) (qj (jB (DW.dt (qdb (yd (jR (dC C__law_is_price hr (qa (qd 11) qg)))) (qa3 (ze (vc hr) yW (dC C__law_said hr (qa qe (qa (qd 3) (qa (qd 4) (qa (qd 11) qg))))) jQ (qM _))))) (qj (qC uf)) qG)))
   (qj (jB (DW.dt (wQ (ze (vc hr) yW (dC C__law_said hr (qa qe (qa (qd 3) (qa (wJ qe) (qa (qZ (qa qe (qa qe qg))) qg))))) jQ (qM _)) (vG (ze (vc hr) yW (dC C__law_said hr (qa qe (qa (qd 3) (qa yE (qa yE qg))))) jQ (qM _))))) (qj (qC uf)) qG))))))))))))))
   (qj (qC uf)))
end
theorem all_mk {l : PySem.W.OpenLaw} {w : World} {K : PySem.W.Frag} {h : Heap} {mg : Str -> Option Value} {fa f0 f1 f2 f3 f4 f5 f6 f7 f8 f9 f10 f11 f12 f13 f14 f15 f16 f17 f18 f19 f20 f21 f22 f23 f24 f25 f26 f27 f28 f29 f30 f31 f32 f33 : Addr} (X : K.In h) (G : h.Ns mainGlobals mg) (hfa : mg "law" = some (.ref fa))
  {od0 an0 od1 an1 od2 an2 od3 an3 od4 an4 od5 an5 od6 an6 od7 an7 od8 an8 od9 an9 od10 an10 od11 an11 od12 an12 od13 an13 od14 an14 od15 an15 od16 an16 od17 an17 od18 an18 od19 an19 od20 an20 od21 an21 od22 an22 od23 an23 od24 an24 od25 an25 od26 an26 od27 an27 od28 an28 od29 an29 od30 an30 od31 an31 od32 an32 od33 an33 : Option Addr} {sl0 sl1 sl2 sl3 sl4 sl5 sl6 sl7 sl8 sl9 sl10 sl11 sl12 sl13 sl14 sl15 sl16 sl17 sl18 sl19 sl20 sl21 sl22 sl23 sl24 sl25 sl26 sl27 sl28 sl29 sl30 sl31 sl32 sl33 : Array (Option Value)} {oc0 kV0 dc0 pm0 cd0 ct0 oc1 kV1 dc1 pm1 cd1 ct1 oc2 kV2 dc2 pm2 cd2 ct2 oc3 kV3 dc3 pm3 cd3 ct3 oc4 kV4 dc4 pm4 cd4 ct4 oc5 kV5 dc5 pm5 cd5 ct5 oc6 kV6 dc6 pm6 cd6 ct6 oc7 kV7 dc7 pm7 cd7 ct7 oc8 kV8 dc8 pm8 cd8 ct8 oc9 kV9 dc9 pm9 cd9 ct9 oc10 kV10 dc10 pm10 cd10 ct10 oc11 kV11 dc11 pm11 cd11 ct11 oc12 kV12 dc12 pm12 cd12 ct12 oc13 kV13 dc13 pm13 cd13 ct13 oc14 kV14 dc14 pm14 cd14 ct14 oc15 kV15 dc15 pm15 cd15 ct15 oc16 kV16 dc16 pm16 cd16 ct16 oc17 kV17 dc17 pm17 cd17 ct17 oc18 kV18 dc18 pm18 cd18 ct18 oc19 kV19 dc19 pm19 cd19 ct19 oc20 kV20 dc20 pm20 cd20 ct20 oc21 kV21 dc21 pm21 cd21 ct21 oc22 kV22 dc22 pm22 cd22 ct22 oc23 kV23 dc23 pm23 cd23 ct23 oc24 kV24 dc24 pm24 cd24 ct24 oc25 kV25 dc25 pm25 cd25 ct25 oc26 kV26 dc26 pm26 cd26 ct26 oc27 kV27 dc27 pm27 cd27 ct27 oc28 kV28 dc28 pm28 cd28 ct28 oc29 kV29 dc29 pm29 cd29 ct29 oc30 kV30 dc30 pm30 cd30 ct30 oc31 kV31 dc31 pm31 cd31 ct31 oc32 kV32 dc32 pm32 cd32 ct32 oc33 kV33 dc33 pm33 cd33 ct33 : Value} {tk_BOTTOM : Tok} {tk_KINDS_AT_MOST : Tok} {tk_MOST : Tok} {qa_NOTHING : Addr} {qd_NOTHING : Option Addr} {qi_NOTHING : Array Value} {qn_NOTHING : Nat} {qs_NOTHING : Array (Option Value)} {tk_NOTHING_0 : Tok} {tk_NOTHING_1 : Tok} {tk_TOP : Tok} {tk_WEIGHT : Tok} {tk_WORTH : Tok} {lc0 Pt : Addr} {kc1 : Value} {kc2 : Option Addr} {kvs : Array Value} {kc3 : Array (Option Value)}
  (a0 : PySem.W.nsIn K mainGlobals "_law_marks" = some (some (.ref f0))) (l0 : K.lookup f0 = some ⟨oc0, od0, .func (PySem.W.fnOf "_law_marks" "_law_marks" (qA z5) (qv z5) (qf z5) .none kV0 dc0 pm0 an0 cd0 ct0), sl0⟩) (c0 : PySem.W.codeIn K cd0 "_law_marks" = true) (k0 : PySem.W.keepIn K (.ref f0) = true)
  (a1 : PySem.W.nsIn K mainGlobals "weights_product" = some (some (.ref f1))) (l1 : K.lookup f1 = some ⟨oc1, od1, .func (PySem.W.fnOf "weights_product" "weights_product" (qA zg) (qv zg) (qf zg) .none kV1 dc1 pm1 an1 cd1 ct1), sl1⟩) (c1 : PySem.W.codeIn K cd1 "weights_product" = true) (k1 : PySem.W.keepIn K (.ref f1) = true)
  (a2 : PySem.W.nsIn K mainGlobals "dearest_first" = some (some (.ref f2))) (l2 : K.lookup f2 = some ⟨oc2, od2, .func (PySem.W.fnOf "dearest_first" "dearest_first" (qA qP) (qv qP) (qf qP) .none kV2 dc2 pm2 an2 cd2 ct2), sl2⟩) (c2 : PySem.W.codeIn K cd2 "dearest_first" = true) (k2 : PySem.W.keepIn K (.ref f2) = true)
  (a3 : PySem.W.nsIn K mainGlobals "all_go_in" = some (some (.ref f3))) (l3 : K.lookup f3 = some ⟨oc3, od3, .func (PySem.W.fnOf "all_go_in" "all_go_in" (qA jW) (qv jW) (qf jW) .none kV3 dc3 pm3 an3 cd3 ct3), sl3⟩) (c3 : PySem.W.codeIn K cd3 "all_go_in" = true) (k3 : PySem.W.keepIn K (.ref f3) = true)
  (a4 : PySem.W.nsIn K mainGlobals "room_behind" = some (some (.ref f4))) (l4 : K.lookup f4 = some ⟨oc4, od4, .func (PySem.W.fnOf "room_behind" "room_behind" (qA jf) (qv jf) (qf jf) .none kV4 dc4 pm4 an4 cd4 ct4), sl4⟩) (c4 : PySem.W.codeIn K cd4 "room_behind" = true) (k4 : PySem.W.keepIn K (.ref f4) = true)
  (a5 : PySem.W.nsIn K mainGlobals "greatest_divisor" = some (some (.ref f5))) (l5 : K.lookup f5 = some ⟨oc5, od5, .func (PySem.W.fnOf "greatest_divisor" "greatest_divisor" (qA qW) (qv qW) (qf qW) .none kV5 dc5 pm5 an5 cd5 ct5), sl5⟩) (c5 : PySem.W.codeIn K cd5 "greatest_divisor" = true) (k5 : PySem.W.keepIn K (.ref f5) = true)
  (a6 : PySem.W.nsIn K mainGlobals "lowest_terms" = some (some (.ref f6))) (l6 : K.lookup f6 = some ⟨oc6, od6, .func (PySem.W.fnOf "lowest_terms" "lowest_terms" (qA zS) (qv zS) (qf zS) .none kV6 dc6 pm6 an6 cd6 ct6), sl6⟩) (c6 : PySem.W.codeIn K cd6 "lowest_terms" = true) (k6 : PySem.W.keepIn K (.ref f6) = true)
  (a7 : PySem.W.nsIn K mainGlobals "is_whole" = some (some (.ref f7))) (l7 : K.lookup f7 = some ⟨oc7, od7, .func (PySem.W.fnOf "is_whole" "is_whole" (qA yw) (qv yw) (qf yw) .none kV7 dc7 pm7 an7 cd7 ct7), sl7⟩) (c7 : PySem.W.codeIn K cd7 "is_whole" = true) (k7 : PySem.W.keepIn K (.ref f7) = true)
  (a8 : PySem.W.nsIn K mainGlobals "is_count" = some (some (.ref f8))) (l8 : K.lookup f8 = some ⟨oc8, od8, .func (PySem.W.fnOf "is_count" "is_count" (qA yx) (qv yx) (qf yx) .none kV8 dc8 pm8 an8 cd8 ct8), sl8⟩) (c8 : PySem.W.codeIn K cd8 "is_count" = true) (k8 : PySem.W.keepIn K (.ref f8) = true)
  (a9 : PySem.W.nsIn K mainGlobals "need_count" = some (some (.ref f9))) (l9 : K.lookup f9 = some ⟨oc9, od9, .func (PySem.W.fnOf "need_count" "need_count" (qA z6) (qv z6) (qf z6) .none kV9 dc9 pm9 an9 cd9 ct9), sl9⟩) (c9 : PySem.W.codeIn K cd9 "need_count" = true) (k9 : PySem.W.keepIn K (.ref f9) = true)
  (a10 : PySem.W.nsIn K mainGlobals "is_kind" = some (some (.ref f10))) (l10 : K.lookup f10 = some ⟨oc10, od10, .func (PySem.W.fnOf "is_kind" "is_kind" (qA y9) (qv y9) (qf y9) .none kV10 dc10 pm10 an10 cd10 ct10), sl10⟩) (c10 : PySem.W.codeIn K cd10 "is_kind" = true) (k10 : PySem.W.keepIn K (.ref f10) = true)
  (a11 : PySem.W.nsIn K mainGlobals "is_store" = some (some (.ref f11))) (l11 : K.lookup f11 = some ⟨oc11, od11, .func (PySem.W.fnOf "is_store" "is_store" (qA jX) (qv jX) (qf jX) .none kV11 dc11 pm11 an11 cd11 ct11), sl11⟩) (c11 : PySem.W.codeIn K cd11 "is_store" = true) (k11 : PySem.W.keepIn K (.ref f11) = true)
  (a12 : PySem.W.nsIn K mainGlobals "need_store" = some (some (.ref f12))) (l12 : K.lookup f12 = some ⟨oc12, od12, .func (PySem.W.fnOf "need_store" "need_store" (qA z7) (qv z7) (qf z7) .none kV12 dc12 pm12 an12 cd12 ct12), sl12⟩) (c12 : PySem.W.codeIn K cd12 "need_store" = true) (k12 : PySem.W.keepIn K (.ref f12) = true)
  (a13 : PySem.W.nsIn K mainGlobals "some_price" = some (some (.ref f13))) (l13 : K.lookup f13 = some ⟨oc13, od13, .func (PySem.W.fnOf "some_price" "some_price" (qA z8) (qv z8) (qf z8) .none kV13 dc13 pm13 an13 cd13 ct13), sl13⟩) (c13 : PySem.W.codeIn K cd13 "some_price" = true) (k13 : PySem.W.keepIn K (.ref f13) = true)
  (a14 : PySem.W.nsIn K mainGlobals "bound_of" = some (some (.ref f14))) (l14 : K.lookup f14 = some ⟨oc14, od14, .func (PySem.W.fnOf "bound_of" "bound_of" (qA yy) (qv yy) (qf yy) .none kV14 dc14 pm14 an14 cd14 ct14), sl14⟩) (c14 : PySem.W.codeIn K cd14 "bound_of" = true) (k14 : PySem.W.keepIn K (.ref f14) = true)
  (a15 : PySem.W.nsIn K mainGlobals "is_price" = some (some (.ref f15))) (l15 : K.lookup f15 = some ⟨oc15, od15, .func (PySem.W.fnOf "is_price" "is_price" (qA yz) (qv yz) (qf yz) .none kV15 dc15 pm15 an15 cd15 ct15), sl15⟩) (c15 : PySem.W.codeIn K cd15 "is_price" = true) (k15 : PySem.W.keepIn K (.ref f15) = true)
  (a16 : PySem.W.nsIn K mainGlobals "need_price" = some (some (.ref f16))) (l16 : K.lookup f16 = some ⟨oc16, od16, .func (PySem.W.fnOf "need_price" "need_price" (qA z9) (qv z9) (qf z9) .none kV16 dc16 pm16 an16 cd16 ct16), sl16⟩) (c16 : PySem.W.codeIn K cd16 "need_price" = true) (k16 : PySem.W.keepIn K (.ref f16) = true)
  (a17 : PySem.W.nsIn K mainGlobals "bound" = some (some (.ref f17))) (l17 : K.lookup f17 = some ⟨oc17, od17, .func (PySem.W.fnOf "bound" "bound" (qA vy) (qv vy) (qf vy) .none kV17 dc17 pm17 an17 cd17 ct17), sl17⟩) (c17 : PySem.W.codeIn K cd17 "bound" = true) (k17 : PySem.W.keepIn K (.ref f17) = true)
  (a18 : PySem.W.nsIn K mainGlobals "_law_said" = some (some (.ref f18))) (l18 : K.lookup f18 = some ⟨oc18, od18, .func (PySem.W.fnOf "_law_said" "_law_said" (qA jY) (qv jY) (qf jY) .none kV18 dc18 pm18 an18 cd18 ct18), sl18⟩) (c18 : PySem.W.codeIn K cd18 "_law_said" = true) (k18 : PySem.W.keepIn K (.ref f18) = true)
  (a19 : PySem.W.nsIn K mainGlobals "_law_common" = some (some (.ref f19))) (l19 : K.lookup f19 = some ⟨oc19, od19, .func (PySem.W.fnOf "_law_common" "_law_common" (qA jg) (qv jg) (qf jg) .none kV19 dc19 pm19 an19 cd19 ct19), sl19⟩) (c19 : PySem.W.codeIn K cd19 "_law_common" = true) (k19 : PySem.W.keepIn K (.ref f19) = true)
  (a20 : PySem.W.nsIn K mainGlobals "_law_whole" = some (some (.ref f20))) (l20 : K.lookup f20 = some ⟨oc20, od20, .func (PySem.W.fnOf "_law_whole" "_law_whole" (qA jx) (qv jx) (qf jx) .none kV20 dc20 pm20 an20 cd20 ct20), sl20⟩) (c20 : PySem.W.codeIn K cd20 "_law_whole" = true) (k20 : PySem.W.keepIn K (.ref f20) = true)
  (a21 : PySem.W.nsIn K mainGlobals "_law_is_price" = some (some (.ref f21))) (l21 : K.lookup f21 = some ⟨oc21, od21, .func (PySem.W.fnOf "_law_is_price" "_law_is_price" (qA zL) (qv zL) (qf zL) .none kV21 dc21 pm21 an21 cd21 ct21), sl21⟩) (c21 : PySem.W.codeIn K cd21 "_law_is_price" = true) (k21 : PySem.W.keepIn K (.ref f21) = true)
  (a22 : PySem.W.nsIn K mainGlobals "_law_take" = some (some (.ref f22))) (l22 : K.lookup f22 = some ⟨oc22, od22, .func (PySem.W.fnOf "_law_take" "_law_take" (qA jZ) (qv jZ) (qf jZ) .none kV22 dc22 pm22 an22 cd22 ct22), sl22⟩) (c22 : PySem.W.codeIn K cd22 "_law_take" = true) (k22 : PySem.W.keepIn K (.ref f22) = true)
  (a23 : PySem.W.nsIn K mainGlobals "_law_odd_thing" = some (some (.ref f23))) (l23 : K.lookup f23 = some ⟨oc23, od23, .func (PySem.W.fnOf "_law_odd_thing" "_law_odd_thing" (qA zv) (qv zv) (qf zv) .none kV23 dc23 pm23 an23 cd23 ct23), sl23⟩) (c23 : PySem.W.codeIn K cd23 "_law_odd_thing" = true) (k23 : PySem.W.keepIn K (.ref f23) = true)
  (a24 : PySem.W.nsIn K mainGlobals "_law_low" = some (some (.ref f24))) (l24 : K.lookup f24 = some ⟨oc24, od24, .func (PySem.W.fnOf "_law_low" "_law_low" (qA yA) (qv yA) (qf yA) .none kV24 dc24 pm24 an24 cd24 ct24), sl24⟩) (c24 : PySem.W.codeIn K cd24 "_law_low" = true) (k24 : PySem.W.keepIn K (.ref f24) = true)
  (a25 : PySem.W.nsIn K mainGlobals "_law_bound_by" = some (some (.ref f25))) (l25 : K.lookup f25 = some ⟨oc25, od25, .func (PySem.W.fnOf "_law_bound_by" "_law_bound_by" (qA zM) (qv zM) (qf zM) .none kV25 dc25 pm25 an25 cd25 ct25), sl25⟩) (c25 : PySem.W.codeIn K cd25 "_law_bound_by" = true) (k25 : PySem.W.keepIn K (.ref f25) = true)
  (a26 : PySem.W.nsIn K mainGlobals "_law_share_worth" = some (some (.ref f26))) (l26 : K.lookup f26 = some ⟨oc26, od26, .func (PySem.W.fnOf "_law_share_worth" "_law_share_worth" (qA qX) (qv qX) (qf qX) .none kV26 dc26 pm26 an26 cd26 ct26), sl26⟩) (c26 : PySem.W.codeIn K cd26 "_law_share_worth" = true) (k26 : PySem.W.keepIn K (.ref f26) = true)
  (a27 : PySem.W.nsIn K mainGlobals "_law_by_shares" = some (some (.ref f27))) (l27 : K.lookup f27 = some ⟨oc27, od27, .func (PySem.W.fnOf "_law_by_shares" "_law_by_shares" (qA qR) (qv qR) (qf qR) .none kV27 dc27 pm27 an27 cd27 ct27), sl27⟩) (c27 : PySem.W.codeIn K cd27 "_law_by_shares" = true) (k27 : PySem.W.keepIn K (.ref f27) = true)
  (a28 : PySem.W.nsIn K mainGlobals "_law_kind_of" = some (some (.ref f28))) (l28 : K.lookup f28 = some ⟨oc28, od28, .func (PySem.W.fnOf "_law_kind_of" "_law_kind_of" (qA zT) (qv zT) (qf zT) .none kV28 dc28 pm28 an28 cd28 ct28), sl28⟩) (c28 : PySem.W.codeIn K cd28 "_law_kind_of" = true) (k28 : PySem.W.keepIn K (.ref f28) = true)
  (a29 : PySem.W.nsIn K mainGlobals "_law_stocked" = some (some (.ref f29))) (l29 : K.lookup f29 = some ⟨oc29, od29, .func (PySem.W.fnOf "_law_stocked" "_law_stocked" (qA zU) (qv zU) (qf zU) .none kV29 dc29 pm29 an29 cd29 ct29), sl29⟩) (c29 : PySem.W.codeIn K cd29 "_law_stocked" = true) (k29 : PySem.W.keepIn K (.ref f29) = true)
  (a30 : PySem.W.nsIn K mainGlobals "_law_mix" = some (some (.ref f30))) (l30 : K.lookup f30 = some ⟨oc30, od30, .func (PySem.W.fnOf "_law_mix" "_law_mix" (qA yB) (qv yB) (qf yB) .none kV30 dc30 pm30 an30 cd30 ct30), sl30⟩) (c30 : PySem.W.codeIn K cd30 "_law_mix" = true) (k30 : PySem.W.keepIn K (.ref f30) = true)
  (a31 : PySem.W.nsIn K mainGlobals "_law_cell" = some (some (.ref f31))) (l31 : K.lookup f31 = some ⟨oc31, od31, .func (PySem.W.fnOf "_law_cell" "_law_cell" (qA j4) (qv j4) (qf j4) .none kV31 dc31 pm31 an31 cd31 ct31), sl31⟩) (c31 : PySem.W.codeIn K cd31 "_law_cell" = true) (k31 : PySem.W.keepIn K (.ref f31) = true)
  (a32 : PySem.W.nsIn K mainGlobals "_law_box" = some (some (.ref f32))) (l32 : K.lookup f32 = some ⟨oc32, od32, .func (PySem.W.fnOf "_law_box" "_law_box" (qA yC) (qv yC) (qf yC) .none kV32 dc32 pm32 an32 cd32 ct32), sl32⟩) (c32 : PySem.W.codeIn K cd32 "_law_box" = true) (k32 : PySem.W.keepIn K (.ref f32) = true)
  (a33 : PySem.W.nsIn K mainGlobals "law" = some (some (.ref f33))) (l33 : K.lookup f33 = some ⟨oc33, od33, .func (PySem.W.fnOf "law" "law" (qA qbu) (qv qbu) (qf qbu) .none kV33 dc33 pm33 an33 cd33 ct33), sl33⟩) (c33 : PySem.W.codeIn K cd33 "law" = true) (k33 : PySem.W.keepIn K (.ref f33) = true)
  (zb_ValueError : PySem.W.nsIn K mainGlobals "ValueError" = some none)
  (zb_abs : PySem.W.nsIn K mainGlobals "abs" = some none)
  (zb_all : PySem.W.nsIn K mainGlobals "all" = some none)
  (zb_bool : PySem.W.nsIn K mainGlobals "bool" = some none)
  (zb_divmod : PySem.W.nsIn K mainGlobals "divmod" = some none)
  (zb_enumerate : PySem.W.nsIn K mainGlobals "enumerate" = some none)
  (zb_int : PySem.W.nsIn K mainGlobals "int" = some none)
  (zb_isinstance : PySem.W.nsIn K mainGlobals "isinstance" = some none)
  (zb_len : PySem.W.nsIn K mainGlobals "len" = some none)
  (zb_max : PySem.W.nsIn K mainGlobals "max" = some none)
  (zb_min : PySem.W.nsIn K mainGlobals "min" = some none)
  (zb_range : PySem.W.nsIn K mainGlobals "range" = some none)
  (zb_repr : PySem.W.nsIn K mainGlobals "repr" = some none)
  (zb_sorted : PySem.W.nsIn K mainGlobals "sorted" = some none)
  (zb_tuple : PySem.W.nsIn K mainGlobals "tuple" = some none)
  (xz : qmN K RN TN = true)
  (zg_BOTTOM : PySem.W.nsIn K mainGlobals "BOTTOM" = some (some (.int 1 tk_BOTTOM)))
  (zg_KINDS_AT_MOST : PySem.W.nsIn K mainGlobals "KINDS_AT_MOST" = some (some (.int 12 tk_KINDS_AT_MOST)))
  (zg_MOST : PySem.W.nsIn K mainGlobals "MOST" = some (some (.int 2 tk_MOST)))
  (zg_NOTHING : PySem.W.nsIn K mainGlobals "NOTHING" = some (some (.ref qa_NOTHING))) (zl_NOTHING : K.lookup qa_NOTHING = some ⟨.type "tuple", qd_NOTHING, .seq qi_NOTHING qn_NOTHING, qs_NOTHING⟩) (zv_NOTHING : qi_NOTHING.toList = [.int 0 tk_NOTHING_0, .int 1 tk_NOTHING_1])
  (zg_TOP : PySem.W.nsIn K mainGlobals "TOP" = some (some (.int 0 tk_TOP)))
  (zg_WEIGHT : PySem.W.nsIn K mainGlobals "WEIGHT" = some (some (.int 0 tk_WEIGHT)))
  (zg_WORTH : PySem.W.nsIn K mainGlobals "WORTH" = some (some (.int 1 tk_WORTH)))
  (zc : cd2 = .ref lc0) (zo : K.lookup lc0 = some ⟨kc1, kc2, .fields kvs, kc3⟩) (zp : kvs[11]? = some (.ref Pt)) (zm : qaD K = some (lc0, Pt, ⟨74, 30, 74, 100⟩)) (zh : PySem.W.codeHdIn K lc0 Pt = true) :
  ∃ fd : FuncData, (∀ (s : Shared) (v : Value), BindsTo s fd ⟨[v], []⟩ [("script", v)]) /\ ∀ base : Heap, K.In base -> base.Ns mainGlobals mg -> u8 l.prog w K mg base CX0 8 fa fd ["script"] (spD K qcZ) := by
 have e := hfa.symm.trans (PySem.W.mg_of X G a33)
 cases e
 have T : Txt K mg := ⟨PySem.W.mg_none_of X G zb_ValueError, PySem.W.mg_none_of X G zb_abs, PySem.W.mg_none_of X G zb_all, PySem.W.mg_none_of X G zb_bool, PySem.W.mg_none_of X G zb_divmod, PySem.W.mg_none_of X G zb_enumerate, PySem.W.mg_none_of X G zb_int, PySem.W.mg_none_of X G zb_isinstance, PySem.W.mg_none_of X G zb_len, PySem.W.mg_none_of X G zb_max, PySem.W.mg_none_of X G zb_min, PySem.W.mg_none_of X G zb_range, PySem.W.mg_none_of X G zb_repr, PySem.W.mg_none_of X G zb_sorted, PySem.W.mg_none_of X G zb_tuple, ⟨_, PySem.W.mg_of X G zg_BOTTOM⟩, ⟨_, PySem.W.mg_of X G zg_KINDS_AT_MOST⟩, ⟨_, PySem.W.mg_of X G zg_MOST⟩, ⟨_, PySem.W.mg_of X G zg_NOTHING, qmM zl_NOTHING zv_NOTHING⟩, ⟨_, PySem.W.mg_of X G zg_TOP⟩, ⟨_, PySem.W.mg_of X G zg_WEIGHT⟩, ⟨_, PySem.W.mg_of X G zg_WORTH⟩⟩
 refine ⟨PySem.W.fnOf "law" "law" (qA qbu) (qv qbu) (qf qbu) .none kV33 dc33 pm33 an33 cd33 ct33, fun s v => .of_eq rfl, fun base hB _ => ?_⟩
 have XTt : XT K mg RN TN := ⟨xz, qhc X G⟩
 have C__law_marks := q0 (P := l.prog) (w := w) (base := base) (qV (st := z5) l0 c0 k0) (PySem.W.mg_of X G a0) T XTt hB
 have C_weights_product := q1 (P := l.prog) (w := w) (base := base) (qV (st := zg) l1 c1 k1) (PySem.W.mg_of X G a1) T XTt hB
 have C_dearest_first := q2 (P := l.prog) (w := w) (base := base) (qV (st := qP) l2 c2 k2) (PySem.W.mg_of X G a2) T XTt hB zc zh zm C_weights_product
 have C_all_go_in := q3 (P := l.prog) (w := w) (base := base) (qV (st := jW) l3 c3 k3) (PySem.W.mg_of X G a3) T XTt hB
 have C_room_behind := q4 (P := l.prog) (w := w) (base := base) (qV (st := jf) l4 c4 k4) (PySem.W.mg_of X G a4) T XTt hB C_all_go_in
 have C_greatest_divisor := q5 (P := l.prog) (w := w) (base := base) (qV (st := qW) l5 c5 k5) (PySem.W.mg_of X G a5) T XTt hB
 have C_lowest_terms := q6 (P := l.prog) (w := w) (base := base) (qV (st := zS) l6 c6 k6) (PySem.W.mg_of X G a6) T XTt hB C_greatest_divisor
 have C_is_whole := q7 (P := l.prog) (w := w) (base := base) (qV (st := yw) l7 c7 k7) (PySem.W.mg_of X G a7) T XTt hB
 have C_is_count := q8 (P := l.prog) (w := w) (base := base) (qV (st := yx) l8 c8 k8) (PySem.W.mg_of X G a8) T XTt hB C_is_whole
 have C_need_count := q9 (P := l.prog) (w := w) (base := base) (qV (st := z6) l9 c9 k9) (PySem.W.mg_of X G a9) T XTt hB C_is_count
 have C_is_kind := q10 (P := l.prog) (w := w) (base := base) (qV (st := y9) l10 c10 k10) (PySem.W.mg_of X G a10) T XTt hB C_is_count
 have C_is_store := q11 (P := l.prog) (w := w) (base := base) (qV (st := jX) l11 c11 k11) (PySem.W.mg_of X G a11) T XTt hB C_is_kind
 have C_need_store := q12 (P := l.prog) (w := w) (base := base) (qV (st := z7) l12 c12 k12) (PySem.W.mg_of X G a12) T XTt hB C_is_store
 have C_some_price := q13 (P := l.prog) (w := w) (base := base) (qV (st := z8) l13 c13 k13) (PySem.W.mg_of X G a13) T XTt hB C_dearest_first C_room_behind C_all_go_in C_lowest_terms C_need_count C_need_store
 have C_bound_of := q14 (P := l.prog) (w := w) (base := base) (qV (st := yy) l14 c14 k14) (PySem.W.mg_of X G a14) T XTt hB C_lowest_terms
 have C_is_price := q15 (P := l.prog) (w := w) (base := base) (qV (st := yz) l15 c15 k15) (PySem.W.mg_of X G a15) T XTt hB C_greatest_divisor C_is_count
 have C_need_price := q16 (P := l.prog) (w := w) (base := base) (qV (st := z9) l16 c16 k16) (PySem.W.mg_of X G a16) T XTt hB C_is_price
 have C_bound := q17 (P := l.prog) (w := w) (base := base) (qV (st := vy) l17 c17 k17) (PySem.W.mg_of X G a17) T XTt hB C_bound_of C_need_price C_need_count C_need_store
 have C__law_said := q18 (P := l.prog) (w := w) (base := base) (qV (st := jY) l18 c18 k18) (PySem.W.mg_of X G a18) T XTt hB C__law_marks C_some_price C_bound
 have C__law_common := q19 (P := l.prog) (w := w) (base := base) (qV (st := jg) l19 c19 k19) (PySem.W.mg_of X G a19) T XTt hB
 have C__law_whole := q20 (P := l.prog) (w := w) (base := base) (qV (st := jx) l20 c20 k20) (PySem.W.mg_of X G a20) T XTt hB
 have C__law_is_price := q21 (P := l.prog) (w := w) (base := base) (qV (st := zL) l21 c21 k21) (PySem.W.mg_of X G a21) T XTt hB C__law_common C__law_whole
 have C__law_take := q22 (P := l.prog) (w := w) (base := base) (qV (st := jZ) l22 c22 k22) (PySem.W.mg_of X G a22) T XTt hB
 have C__law_odd_thing := q23 (P := l.prog) (w := w) (base := base) (qV (st := zv) l23 c23 k23) (PySem.W.mg_of X G a23) T XTt hB C__law_take
 have C__law_low := q24 (P := l.prog) (w := w) (base := base) (qV (st := yA) l24 c24 k24) (PySem.W.mg_of X G a24) T XTt hB C__law_common
 have C__law_bound_by := q25 (P := l.prog) (w := w) (base := base) (qV (st := zM) l25 c25 k25) (PySem.W.mg_of X G a25) T XTt hB C__law_low
 have C__law_share_worth := q26 (P := l.prog) (w := w) (base := base) (qV (st := qX) l26 c26 k26) (PySem.W.mg_of X G a26) T XTt hB C__law_low
 have C__law_by_shares := q27 (P := l.prog) (w := w) (base := base) (qV (st := qR) l27 c27 k27) (PySem.W.mg_of X G a27) T XTt hB C__law_low
 have C__law_kind_of := q28 (P := l.prog) (w := w) (base := base) (qV (st := zT) l28 c28 k28) (PySem.W.mg_of X G a28) T XTt hB C__law_take
 have C__law_stocked := q29 (P := l.prog) (w := w) (base := base) (qV (st := zU) l29 c29 k29) (PySem.W.mg_of X G a29) T XTt hB C__law_take C__law_kind_of
 have C__law_mix := q30 (P := l.prog) (w := w) (base := base) (qV (st := yB) l30 c30 k30) (PySem.W.mg_of X G a30) T XTt hB
 have C__law_cell := q31 (P := l.prog) (w := w) (base := base) (qV (st := j4) l31 c31 k31) (PySem.W.mg_of X G a31) T XTt hB
 have C__law_box := q32 (P := l.prog) (w := w) (base := base) (qV (st := yC) l32 c32 k32) (PySem.W.mg_of X G a32) T XTt hB C__law_mix C__law_cell
 exact ql3 (P := l.prog) (w := w) (base := base) (qV (st := qbu) l33 c33 k33) T XTt hB C__law_said C__law_is_price C__law_odd_thing C__law_bound_by C__law_share_worth C__law_by_shares C__law_low C__law_take C__law_stocked C__law_box
theorem qm8 {K : Fr0} {H : Hp} {a : Addr} {ns : List Int} (hO : ql6 H) (hS : SqL K H a (ns.map V.int)) : qkV K H a (ns.map V.int) := by
 rcases hS with (h | h) | h
 ·rcases hO a with z | z
  ·rw [h] at z; cases z
  ·rcases z with ⟨_, _, z⟩ | ⟨_, _, z⟩ <;> (rw [h] at z; cases z)
 ·exact .inl h
 ·exact .inr h
theorem walk {l : PySem.W.OpenLaw} {q : Program} {loose : List Str} {XP : (Str -> Option Value) -> Heap -> Prop} {YP : World -> Heap -> Prop} {d : DefRec} {K : Params -> PySem.W.Frag} (hn : l.most = some 63) (hdf : d.params.defaults = [])
  (hY : ∀ (w : World) (h : Heap), YP w h -> (K w.params).In h) (hlm : ∀ (w : World) (mean : ExcName -> Option Value) (mg mb : Str -> Option Value) (h : Heap) (c Pt : Addr) (pos : Pos), Top q (PySem.W.looseW q loose) mean mg mb h -> (K w.params).In h -> qaD (K w.params) = some (c, Pt, pos) -> PySem.W.CodeHd h c Pt /\ h.get? Pt = some (PySem.W.tabObj #[]) /\ (K w.params).lookup Pt = none) (hlaw : ∀ ns : List Int, ns.length <= 63 -> qcZ [.fz ns] = .ok (.bl true))
  (F : ∀ (w : World) (mg : Str -> Option Value) (fa : Addr) (h : Heap), (K w.params).In h -> h.Ns mainGlobals mg -> mg d.name = some (.ref fa) ->
   ∃ fd : FuncData, (∀ (s : Shared) (u : Value), BindsTo s fd ⟨[u], []⟩ [("script", u)]) /\ ∀ base : Heap, (K w.params).In base -> base.Ns mainGlobals mg -> u8 l.prog w (K w.params) mg base CX0 8 fa fd ["script"] (spD (K w.params) qcZ)) :
  PySem.W.WalkO q loose XP YP l.row.toRowW d [] (fun f vs => PySem.call f vs) :=
 L2.walk_lam (n := 63) (k := 8) (x := "script") (CX := fun _ => CX0) (sp := fun w => spD (K w.params) qcZ) (lm := fun w => (qaD (K w.params)).map fun z => (z.1, z.2.1, z.2.2, qke)) hn (by decide) hdf ⟨rfl, by decide, by decide, rfl⟩ hY (fun w mean mg mb h c Pt pos z T X e => by
  cases el : qaD (K w.params) with
  | none => rw [el] at e; cases e
  | some p => obtain ⟨c', P', pos'⟩ := p; rw [el] at e; cases e; exact hlm w mean mg mb h _ _ _ T X el) F (fun w H a ns hl hO hT hS => by
  refine ⟨[.fz ns], fun _ => False, ⟨.ref a, [], rfl, ⟨a, rfl, qm8 hO hS⟩, rfl⟩, fun c P pos e => ⟨hT c P pos qke (by rw [e]; rfl), fun z => z⟩, ?_⟩
  rw [hlaw ns hl]
  exact fun v H' _ h => h) fun _ _ _ _ _ z => z
end Law
end L2.Sk
open PySem PySem.W PyProof.Rows
set_option maxRecDepth 100000 in
set_option maxHeartbeats 0 in
theorem PySem.Challenge.cw_sackloads_k25_prices_and_bounds_holds : PySem.Challenge.rw_sackloads_k25_prices_and_bounds.Holds := by
 w_on; o_law; k_head; (case hw => w_witness2)
 k_fill
 refine L2.Sk.Law.walk (l := PySem.Challenge.rw_sackloads_k25_prices_and_bounds) rfl rfl (fun w h Y => by first | exact PySem.W.kIn_of Y | exact PySem.W.km_in_of Y) ?hlm0 L2.Sk.Law.law_true ?F
 case hlm0 =>
  intro w mean mg mb h c Pt pos T X e
  refine L2.Sk.lam_table T X e (d := ?d) ?e1 ?e2
  (case e1 => rfl)
  (case e2 => kernel_rfl)
 case F =>
  intro w mg fa h KX G hmg
  refine' L2.Sk.Law.all_mk KX G hmg ?a0 ?l0 ?c0 ?k0 ?a1 ?l1 ?c1 ?k1 ?a2 ?l2 ?c2 ?k2 ?a3 ?l3 ?c3 ?k3 ?a4 ?l4 ?c4 ?k4 ?a5 ?l5 ?c5 ?k5 ?a6 ?l6 ?c6 ?k6 ?a7 ?l7 ?c7 ?k7 ?a8 ?l8 ?c8 ?k8 ?a9 ?l9 ?c9 ?k9 ?a10 ?l10 ?c10 ?k10 ?a11 ?l11 ?c11 ?k11 ?a12 ?l12 ?c12 ?k12 ?a13 ?l13 ?c13 ?k13 ?a14 ?l14 ?c14 ?k14 ?a15 ?l15 ?c15 ?k15 ?a16 ?l16 ?c16 ?k16 ?a17 ?l17 ?c17 ?k17 ?a18 ?l18 ?c18 ?k18 ?a19 ?l19 ?c19 ?k19 ?a20 ?l20 ?c20 ?k20 ?a21 ?l21 ?c21 ?k21 ?a22 ?l22 ?c22 ?k22 ?a23 ?l23 ?c23 ?k23 ?a24 ?l24 ?c24 ?k24 ?a25 ?l25 ?c25 ?k25 ?a26 ?l26 ?c26 ?k26 ?a27 ?l27 ?c27 ?k27 ?a28 ?l28 ?c28 ?k28 ?a29 ?l29 ?c29 ?k29 ?a30 ?l30 ?c30 ?k30 ?a31 ?l31 ?c31 ?k31 ?a32 ?l32 ?c32 ?k32 ?a33 ?l33 ?c33 ?k33 ?zb_ValueError ?zb_abs ?zb_all ?zb_bool ?zb_divmod ?zb_enumerate ?zb_int ?zb_isinstance ?zb_len ?zb_max ?zb_min ?zb_range ?zb_repr ?zb_sorted ?zb_tuple ?xz ?zg_BOTTOM ?zg_KINDS_AT_MOST ?zg_MOST ?zg_NOTHING ?zl_NOTHING ?zv_NOTHING ?zg_TOP ?zg_WEIGHT ?zg_WORTH ?zc ?zo ?zp ?zm ?zh
  (case a0 => k_is)
  (case l0 => k_is)
  (case c0 => k_is)
  (case k0 => k_is)
  (case a1 => k_is)
  (case l1 => k_is)
  (case c1 => k_is)
  (case k1 => k_is)
  (case a2 => k_is)
  (case l2 => k_is)
  (case c2 => k_is)
  (case k2 => k_is)
  (case a3 => k_is)
  (case l3 => k_is)
  (case c3 => k_is)
  (case k3 => k_is)
  (case a4 => k_is)
  (case l4 => k_is)
  (case c4 => k_is)
  (case k4 => k_is)
  (case a5 => k_is)
  (case l5 => k_is)
  (case c5 => k_is)
  (case k5 => k_is)
  (case a6 => k_is)
  (case l6 => k_is)
  (case c6 => k_is)
  (case k6 => k_is)
  (case a7 => k_is)
  (case l7 => k_is)
  (case c7 => k_is)
  (case k7 => k_is)
  (case a8 => k_is)
  (case l8 => k_is)
  (case c8 => k_is)
  (case k8 => k_is)
  (case a9 => k_is)
  (case l9 => k_is)
  (case c9 => k_is)
  (case k9 => k_is)
  (case a10 => k_is)
  (case l10 => k_is)
  (case c10 => k_is)
  (case k10 => k_is)
  (case a11 => k_is)
  (case l11 => k_is)
  (case c11 => k_is)
  (case k11 => k_is)
  (case a12 => k_is)
  (case l12 => k_is)
  (case c12 => k_is)
  (case k12 => k_is)
  (case a13 => k_is)
  (case l13 => k_is)
  (case c13 => k_is)
  (case k13 => k_is)
  (case a14 => k_is)
  (case l14 => k_is)
  (case c14 => k_is)
  (case k14 => k_is)
  (case a15 => k_is)
  (case l15 => k_is)
  (case c15 => k_is)
  (case k15 => k_is)
  (case a16 => k_is)
  (case l16 => k_is)
  (case c16 => k_is)
  (case k16 => k_is)
  (case a17 => k_is)
  (case l17 => k_is)
  (case c17 => k_is)
  (case k17 => k_is)
  (case a18 => k_is)
  (case l18 => k_is)
  (case c18 => k_is)
  (case k18 => k_is)
  (case a19 => k_is)
  (case l19 => k_is)
  (case c19 => k_is)
  (case k19 => k_is)
  (case a20 => k_is)
  (case l20 => k_is)
  (case c20 => k_is)
  (case k20 => k_is)
  (case a21 => k_is)
  (case l21 => k_is)
  (case c21 => k_is)
  (case k21 => k_is)
  (case a22 => k_is)
  (case l22 => k_is)
  (case c22 => k_is)
  (case k22 => k_is)
  (case a23 => k_is)
  (case l23 => k_is)
  (case c23 => k_is)
  (case k23 => k_is)
  (case a24 => k_is)
  (case l24 => k_is)
  (case c24 => k_is)
  (case k24 => k_is)
  (case a25 => k_is)
  (case l25 => k_is)
  (case c25 => k_is)
  (case k25 => k_is)
  (case a26 => k_is)
  (case l26 => k_is)
  (case c26 => k_is)
  (case k26 => k_is)
  (case a27 => k_is)
  (case l27 => k_is)
  (case c27 => k_is)
  (case k27 => k_is)
  (case a28 => k_is)
  (case l28 => k_is)
  (case c28 => k_is)
  (case k28 => k_is)
  (case a29 => k_is)
  (case l29 => k_is)
  (case c29 => k_is)
  (case k29 => k_is)
  (case a30 => k_is)
  (case l30 => k_is)
  (case c30 => k_is)
  (case k30 => k_is)
  (case a31 => k_is)
  (case l31 => k_is)
  (case c31 => k_is)
  (case k31 => k_is)
  (case a32 => k_is)
  (case l32 => k_is)
  (case c32 => k_is)
  (case k32 => k_is)
  (case a33 => k_is)
  (case l33 => k_is)
  (case c33 => k_is)
  (case k33 => k_is)
  (case zb_ValueError => k_is)
  (case zb_abs => k_is)
  (case zb_all => k_is)
  (case zb_bool => k_is)
  (case zb_divmod => k_is)
  (case zb_enumerate => k_is)
  (case zb_int => k_is)
  (case zb_isinstance => k_is)
  (case zb_len => k_is)
  (case zb_max => k_is)
  (case zb_min => k_is)
  (case zb_range => k_is)
  (case zb_repr => k_is)
  (case zb_sorted => k_is)
  (case zb_tuple => k_is)
  (case xz => kernel_rfl)
  (case zg_BOTTOM => k_is)
  (case zg_KINDS_AT_MOST => k_is)
  (case zg_MOST => k_is)
  (case zg_NOTHING => k_is)
  (case zl_NOTHING => k_is)
  (case zv_NOTHING => rfl)
  (case zg_TOP => k_is)
  (case zg_WEIGHT => k_is)
  (case zg_WORTH => k_is)
  (case zc => rfl)
  (case zo => k_is)
  (case zp => rfl)
  (case zm => kernel_rfl)
  (case zh => kernel_rfl)
