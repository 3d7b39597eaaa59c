import PyProof.Rows.All
import Wide.All
import OpenK.AllK
import Wide.FinOn
import Lean
import PyProof.EqAt
import PyProof.EqKinds
import PyProof.TupleCall
import PySem.Challenge.RW_sackloads_k54_full_refused
def PySem.W.Fast.tw2369431742116559215 : Nat := 0
def PySem.W.Fast.tw10029964035735657960 : Nat := 0
def PySem.W.Fast.tw15778184596398277116 : Nat := 0
def PySem.W.Fast.tw7505219128234141809 : Nat := 0
def PySem.W.Fast.tw12568532048824857133 : Nat := 0
def PySem.W.Fast.tw14635043296096443839 : Nat := 0
def PySem.W.Fast.tw6001640606944548467 : Nat := 0
def PySem.W.Fast.tw12602053263122612882 : Nat := 0
set_option linter.all false
set_option Elab.async false
set_option maxRecDepth 100000
namespace L2
open PySem PySem.Spec PyProof.Rows
abbrev Key := Sum Int Str
def qkf : Key -> Value -> Bool
 | .inl k, v => Value.isInt k v
 | .inr x, v => Value.isStrOf x v
def qnO (w : World) : Key -> Int
 | .inl k => hashInt k
 | .inr x => hashStr w x
theorem zx : ∀ {k : Key} {v : Value}, qkf k v = true -> (∃ i t, k = Sum.inl i /\ v = Value.int i t) \/ (∃ x t, k = Sum.inr x /\ v = Value.str x t)
 | .inl i, v, h => by
  obtain ⟨t, e⟩ := Value.isInt_shape (k := i) (v := v) h
  exact .inl ⟨i, t, rfl, e⟩
 | .inr x, v, h => by
  obtain ⟨t, e⟩ := Value.isStrOf_shape (x := x) (v := v) h
  exact .inr ⟨x, t, rfl, e⟩
theorem qkg (a b : Int) : decide ((Sum.inl a : Key) = Sum.inl b) = (a == b) := by
 by_cases e : a = b
 ·subst e; simp
 ·have h : ¬ (Sum.inl a : Key) = Sum.inl b := fun q => e (Sum.inl.inj q)
  rw [decide_eq_false h]
  exact (beq_eq_false_iff_ne.mpr e).symm
theorem qkh (a b : Str) : decide ((Sum.inr a : Key) = Sum.inr b) = decide (a = b) := by
 by_cases e : a = b
 ·subst e; simp
 ·have h : ¬ (Sum.inr a : Key) = Sum.inr b := fun q => e (Sum.inr.inj q)
  rw [decide_eq_false h, decide_eq_false e]
theorem qki (a : Int) (b : Str) : decide ((Sum.inl a : Key) = Sum.inr b) = false := decide_eq_false (fun q => nomatch q)
theorem qkj (a : Str) (b : Int) : decide ((Sum.inr a : Key) = Sum.inl b) = false := decide_eq_false (fun q => nomatch q)
def qbe (prog : Program) (w : World) : PySem.KeyKind prog w Key where
 is := qkf
 hash := qnO w
 inj := fun v a b ha hb => by
  rcases zx ha with ⟨i, t, rfl, rfl⟩ | ⟨x, t, rfl, rfl⟩
  ·rcases zx hb with ⟨j, u, rfl, e⟩ | ⟨y, u, rfl, e⟩
   ·injection e with e1 _; rw [e1]
   ·exact nomatch e
  ·rcases zx hb with ⟨j, u, rfl, e⟩ | ⟨y, u, rfl, e⟩
   ·exact nomatch e
   ·injection e with e1 _; rw [e1]
 byValue := fun k v h => by
  rcases zx h with ⟨i, t, rfl, rfl⟩ | ⟨x, t, rfl, rfl⟩ <;> rfl
 pyHash := fun hv h => by
  rcases zx hv with ⟨i, t, rfl, rfl⟩ | ⟨x, t, rfl, rfl⟩
  ·exact wpAny_pyHash_int h
  ·exact wpAny_pyHash_str h
 eqBool := fun hu hv h => by
  rcases zx hu with ⟨i, t, rfl, rfl⟩ | ⟨x, t, rfl, rfl⟩
  ·rcases zx hv with ⟨j, u, rfl, rfl⟩ | ⟨y, u, rfl, rfl⟩
   ·rw [qkg] at h; exact wpAny_eqBool_int h
   ·rw [qki] at h; exact SeqAt.EqAt.int_str i t y u _ _ _ _ h
  ·rcases zx hv with ⟨j, u, rfl, rfl⟩ | ⟨y, u, rfl, rfl⟩
   ·rw [qkj] at h; exact SeqAt.EqAt.str_int x t j u _ _ _ _ h
   ·rw [qkh] at h; exact wpAny_eqBool_str h
 «strs» := fun k x t v h => by
  rcases zx h with ⟨i, u, rfl, e⟩ | ⟨y, u, rfl, e⟩
  ·exact nomatch e
  ·injection e with e1 _
   subst e1
   cases v <;> rfl
end L2
namespace L2
open PySem PySem.Spec PyProof.Rows
inductive V where
 | non | bl (b : Bool) | int (i : Int) | str (x : Str) | byt (b : Array UInt8) | flt (b : UInt64) | ref (a : Addr) | ty (n : String)
 deriving DecidableEq
def yp : V -> Value -> Prop
 | .non, u => u = Value.none
 | .bl b, u => u = Value.bool b
 | .int i, u => ∃ t, u = Value.int i t
 | .str x, u => ∃ t, u = Value.str x t
 | .byt b, u => ∃ t, u = Value.bytes b t
 | .flt b, u => ∃ t, u = Value.float b t
 | .ref a, u => u = Value.ref a
 | .ty n, u => u = Value.type n
abbrev zh : List V -> List Value -> Prop := Paired yp
theorem zh.length {xs : List V} {us : List Value} (r : zh xs us) : xs.length = us.length := Paired.length r
theorem zh.get : ∀ {xs : List V} {us : List Value} {i : Nat} {x : V}, zh xs us -> xs[i]? = some x -> ∃ u, us[i]? = some u /\ yp x u
 | _, _, _, _, .nil, e => by simp at e
 | _, _, 0, _, .cons r _, e => by simp at e; subst e; exact ⟨_, rfl, r⟩
 | _, _, i + 1, x, .cons _ t, e => by
  obtain ⟨u, h1, h2⟩ := zh.get (i := i) (x := x) t (by simpa using e)
  exact ⟨u, by simpa using h1, h2⟩
theorem zh.set {x : V} {u : Value} (r : yp x u) : ∀ {xs : List V} {us : List Value} (i : Nat), zh xs us -> zh (xs.set i x) (us.set i u)
 | _, _, _, .nil => .nil
 | _, _, 0, .cons _ t => .cons r t
 | _, _, i + 1, .cons q t => .cons q (zh.set r i t)
theorem zh.append : ∀ {xs ys : List V} {us ws : List Value}, zh xs us -> zh ys ws -> zh (xs ++ ys) (us ++ ws)
 | _, _, _, _, .nil, s => s
 | _, _, _, _, .cons r t, s => .cons r (zh.append t s)
theorem zh.take : ∀ {xs : List V} {us : List Value} (n : Nat), zh xs us -> zh (xs.take n) (us.take n)
 | _, _, 0, _ => .nil
 | _, _, _ + 1, .nil => .nil
 | _, _, n + 1, .cons r t => .cons r (zh.take n t)
theorem zh.drop : ∀ {xs : List V} {us : List Value} (n : Nat), zh xs us -> zh (xs.drop n) (us.drop n)
 | _, _, 0, r => r
 | _, _, _ + 1, .nil => .nil
 | _, _, n + 1, .cons _ t => zh.drop n t
def qmj : Option V -> Option Value -> Prop
 | some v, some u => yp v u
 | none, none => True
 | _, _ => False
def KV {κ : Type} : List (κ × V) -> List (κ × Value) -> Prop := Paired fun (p : κ × V) (q : κ × Value) => p.1 = q.1 /\ yp p.2 q.2
def kV : Key -> V
 | .inl i => .int i
 | .inr x => .str x
inductive HO where
 /-- a list -/
 | lst (xs : List V)
 /-- a tuple (never changes) -/
 | tup (xs : List V)
 /-- a dict whose keys are ints and texts; one whose keys are tuples of ints and texts (the empty one is both) -/
 | dK (kvs : List (Key × V)) | dT (kvs : List (List Key × V))
 /-- a set of ints: its members, its size -/
 | set (S : Int -> Bool) (n : Nat)
 /-- an instance of the class at C, its dict at dx, its attributes -/
 | ins (C dx : Addr) (fs : List (Str × V))
 /-- the dict of the instance at x -/
 | own (x : Addr)
 /-- the dict of an exception -/
 | xd (fs : List (Str × V))
 /-- a bound method, f of x -/
 | met (f x : Addr)
 /-- a range object lo, lo + 1, .. below hi -/
 | rng (lo hi : Int)
 /-- a thing that is known to the object (the script; a dict while a loop walks it): read, never written while it is so -/
 | frz (o : Obj) (u : HO)
 /-- a code object's table -/
 | tbl (ps : Array Value)
 /-- any other thing, by what is true of its one object (a def of one's own: SetO a S n := HO.ext fun h => ..) -/
 | ext (φ : Heap -> Prop)
abbrev Hp := Addr -> Option HO
def upd (H : Hp) (a : Addr) (o : HO) : Hp := fun b => if b = a then some o else H b
theorem qv {H : Hp} {a : Addr} {o : HO} : upd H a o a = some o := by unfold upd; rw [if_pos rfl]
theorem qt {H : Hp} {a b : Addr} {o : HO} (h : b ≠ a) : upd H a o b = H b := by unfold upd; rw [if_neg h]
theorem vm {H : Hp} {a b : Addr} {o u : HO} (h : H a = some o) (h' : H b = some u) (d : o ≠ u) : a ≠ b := by
 intro e; subst e; rw [h] at h'; exact d (Option.some.inj h')
theorem qH {H : Hp} {a b : Addr} {o : HO} (h : H a = some o) (h' : H b = none) : a ≠ b := by
 intro e; subst e; rw [h] at h'; cases h'
section
variable (P : Program) (w : World)
def yX (H : Hp) (h : Heap) (a : Addr) : HO -> Prop
 | .lst xs => xs.length <= sizeLine /\ ∃ (its : List Value) (n : Nat), zh xs its /\ h.get? a = some { cls := .type "list", data := .seq its.toArray n }
 | .tup xs => xs.length <= sizeLine /\ ∃ its : List Value, zh xs its /\ IsTup h a its.toArray
 | .dK kvs => kvs.length <= sizeLine /\ (a == sysModules) = false /\ ∃ vs, KV kvs vs /\ h.DictOf (qbe P w) a vs
 | .dT kvs => kvs.length <= sizeLine /\ (a == sysModules) = false /\ ∃ xs : List (List Key × Addr × Value),
   Paired (fun (p : List Key × V) (q : List Key × Addr × Value) => p.1 = q.1 /\ H q.2.1 = some (.tup (p.1.map kV)) /\ yp p.2 q.2.2) kvs xs /\
   ∃ o es ep, h.get? a = some o /\ o.ExactDict /\ o.data = .dict es ep /\ es.toList = xs.map (entryOfKey (tupleKind (qbe P w))) /\ (xs.map (·.1)).Nodup
 | .set S n => h.SetOf (intKind P w) a S n
 | .ins C dx fs => H dx = some (.own a) /\ fs.length <= 1000 /\ dx ≠ a /\ h.get? a = some (PySem.W.instObj C dx) /\
   ∃ mA, h.Ns1 dx mA /\ (∀ f, qmj (fs.lookup f) (mA f)) /\ PySem.Within mA (fs.map (·.1))
 | .own _ => ∃ o, h.get? a = some o
 | .xd fs => ∃ mA, h.Ns1 a mA /\ ∀ f, qmj (fs.lookup f) (mA f)
 | .rng lo hi => ∃ t u v, h.get? a = some { cls := .type "range", data := .fields #[.int lo t, .int hi u, .int 1 v] }
 | .frz o u => h.get? a = some o /\ yX H h a u
 | .tbl ps => h.get? a = some { cls := .none, data := .fields ps }
 | .met f x => h.get? a = some (PySem.W.methodObj (.ref f) (.ref x))
 | .ext φ => φ h /\ (∃ o, h.get? a = some o) /\ ∀ h1 h2 : Heap, φ h1 -> (∀ o, h1.get? a = some o -> h2.get? a = some o) -> φ h2
def HOk (H : Hp) (h : Heap) : Prop := ∀ a o, H a = some o -> yX P w H h a o
end
section
variable {P : Program} {w : World} {H H' : Hp} {h h' : Heap} {a : Addr} {o : HO}
theorem yX.lt (x : yX P w H h a o) : a < h.objs.size := by
 cases o with
 | lst xs => obtain ⟨_, _, _, _, e⟩ := x; exact Heap.lt_size e
 | tup xs => obtain ⟨_, _, _, p⟩ := x; exact p.lt
 | dK kvs => obtain ⟨_, _, _, _, o, _, _, e, _⟩ := x; exact Heap.lt_size e
 | dT kvs => obtain ⟨_, _, _, _, o, _, _, e, _⟩ := x; exact Heap.lt_size e
 | set S n => obtain ⟨o, _, _, _, e, _⟩ := x; exact Heap.lt_size e
 | ins C dx fs => obtain ⟨_, _, _, e, _⟩ := x; exact Heap.lt_size e
 | own y => obtain ⟨_, e⟩ := x; exact Heap.lt_size e
 | xd fs => obtain ⟨_, ⟨_, _, _, e, _⟩, _⟩ := x; exact Heap.lt_size e
 | rng lo hi => obtain ⟨_, _, _, e⟩ := x; exact Heap.lt_size e
 | frz ob u => obtain ⟨e, _⟩ := x; exact Heap.lt_size e
 | tbl ps => exact Heap.lt_size (show h.get? a = some _ from x)
 | met f y => exact Heap.lt_size (show h.get? a = some _ from x)
 | ext φ => obtain ⟨_, ⟨_, e⟩, _⟩ := x; exact Heap.lt_size e
theorem Paired.mapP {α β : Type} {F G : α -> β -> Prop} : ∀ {l₁ : List α} {l₂ : List β}, Paired F l₁ l₂ -> (∀ a b, F a b -> G a b) -> Paired G l₁ l₂
 | _, _, .nil, _ => .nil
 | _, _, .cons r t, f => .cons (f _ _ r) (Paired.mapP t f)
theorem yX.stay (x : yX P w H h a o) (k : ∀ b u, (b = a \/ H b = some (.own a)) -> h.get? b = some u -> h'.get? b = some u)
  (ho : ∀ b, H b = some (.own a) -> H' b = some (.own a)) (ht : ∀ b xs, H b = some (.tup xs) -> H' b = some (.tup xs)) : yX P w H' h' a o := by
 induction o with
 | lst xs => obtain ⟨z, its, n, r, e⟩ := x; exact ⟨z, its, n, r, k _ _ (.inl rfl) e⟩
 | tup xs => obtain ⟨z, its, r, ob, e, c⟩ := x; exact ⟨z, its, r, ob, k _ _ (.inl rfl) e, c⟩
 | dK kvs => obtain ⟨z, y, vs, r, ob, es, ep, e, c⟩ := x; exact ⟨z, y, vs, r, ob, es, ep, k _ _ (.inl rfl) e, c⟩
 | dT kvs =>
  obtain ⟨z, y, xs, r, ob, es, ep, e, c⟩ := x
  exact ⟨z, y, xs, Paired.mapP r fun p q z => ⟨z.1, ht _ _ z.2.1, z.2.2⟩, ob, es, ep, k _ _ (.inl rfl) e, c⟩
 | set S n => obtain ⟨ob, es, ep, t, e, c⟩ := x; exact ⟨ob, es, ep, t, k _ _ (.inl rfl) e, c⟩
 | ins C dx fs =>
  obtain ⟨d, z, ne, e, mA, ⟨od, es, ep, e2, c⟩, r⟩ := x
  exact ⟨ho _ d, z, ne, k _ _ (.inl rfl) e, mA, ⟨od, es, ep, k _ _ (.inr d) e2, c⟩, r⟩
 | own y => obtain ⟨ob, e⟩ := x; exact ⟨ob, k _ _ (.inl rfl) e⟩
 | xd fs => obtain ⟨mA, ⟨od, es, ep, e, c⟩, r⟩ := x; exact ⟨mA, ⟨od, es, ep, k _ _ (.inl rfl) e, c⟩, r⟩
 | rng lo hi => obtain ⟨t, u, v, e⟩ := x; exact ⟨t, u, v, k _ _ (.inl rfl) e⟩
 | frz ob u ih => obtain ⟨e, q⟩ := x; exact ⟨k _ _ (.inl rfl) e, ih q⟩
 | tbl ps =>
  have e : h.get? a = some { cls := .none, data := .fields ps } := x
  show h'.get? a = some { cls := .none, data := .fields ps }
  exact k a _ (.inl rfl) e
 | met f y =>
  have e : h.get? a = some (PySem.W.methodObj (.ref f) (.ref y)) := x
  show h'.get? a = some (PySem.W.methodObj (.ref f) (.ref y))
  exact k a _ (.inl rfl) e
 | ext φ => obtain ⟨p, ⟨o, e⟩, st⟩ := x; exact ⟨st _ _ p fun o q => k _ _ (.inl rfl) q, ⟨o, k _ _ (.inl rfl) e⟩, st⟩
theorem HOk.lt (x : HOk P w H h) (e : H a = some o) : a < h.objs.size := (x a o e).lt
theorem HOk.fresh (x : HOk P w H h) (e : h.objs.size <= a) : H a = none := by
 cases q : H a with
 | none => rfl
 | some u => exact absurd (Nat.lt_of_lt_of_le (x.lt q) e) (Nat.lt_irrefl _)
theorem HOk.kept (x : HOk P w H h) (k : ∀ b u, h.get? b = some u -> h'.get? b = some u) : HOk P w H h' := fun a o e =>
 (x a o e).stay (fun b u _ q => k b u q) (fun _ q => q) fun _ _ q => q
theorem HOk.laid (x : HOk P w H h) (k : ∀ b u, h.get? b = some u -> h'.get? b = some u) (hp : h.objs.size <= a) (new : yX P w (upd H a o) h' a o) : HOk P w (upd H a o) h' := fun b u e => by
 have hn := x.fresh hp
 by_cases hb : b = a
 ·subst hb; rw [qv] at e; cases e; exact new
 ·rw [qt hb] at e
  exact (x b u e).stay (fun c v _ q => k c v q) (fun c q => by rw [qt (qH q hn)]; exact q) fun c xs q => by rw [qt (qH q hn)]; exact q
end
def Rd (H : Hp) (a : Addr) (u : HO) : Prop := H a = some u \/ ∃ o, H a = some (.frz o u)
theorem Rd.ok {P : Program} {w : World} {H : Hp} {h : Heap} {a : Addr} {u : HO} (r : Rd H a u) (x : HOk P w H h) : yX P w H h a u := by
 rcases r with r | ⟨o, r⟩
 ·exact x a u r
 ·obtain ⟨_, q⟩ := x a _ r
  exact q
def Mut : Option HO -> Prop
 | some (.lst _) => True
 | some (.dK _) => True
 | some (.dT _) => True
 | some (.set _ _) => True
 | some (.ins _ _ _) => True
 | some (.ext _) => True
 | _ => False
section
variable {P : Program} {w : World} {H : Hp} {h h' : Heap} {x e : Addr} {o' : HO}
theorem HOk.write (ok : HOk P w H h) (mu : Mut (H x)) (he : e = x \/ H e = some (.own x)) (k : ∀ b u, b ≠ e -> h.get? b = some u -> h'.get? b = some u) (heo : ∃ u, h'.get? e = some u)
  (new : yX P w (upd H x o') h' x o') : HOk P w (upd H x o') h' := fun b u q => by
 have nown : ∀ c y, H c = some (.own y) -> c ≠ x := fun c y r z => by subst z; rw [r] at mu; exact mu
 have ntup : ∀ c xs, H c = some (.tup xs) -> c ≠ x := fun c xs r z => by subst z; rw [r] at mu; exact mu
 by_cases hb : b = x
 ·subst hb; rw [qv] at q; cases q; exact new
 ·rw [qt hb] at q
  by_cases hbe : b = e
  ·have q' : H b = some (.own x) := by
    rcases he with z | z
    ·exact absurd (hbe.trans z) hb
    ·rw [hbe]; exact z
   rw [q] at q'; cases q'
   obtain ⟨v, hv⟩ := heo
   exact ⟨v, by rw [hbe]; exact hv⟩
  ·refine (ok b u q).stay (fun c v hc r => k c v ?_ r) (fun c r => by rw [qt (nown c b r)]; exact r) fun c xs r => by rw [qt (ntup c xs r)]; exact r
   rcases hc with rfl | hc
   ·exact hbe
   ·rintro rfl
    rcases he with z | z
    ·exact nown c b hc z
    ·rw [hc] at z; cases z; exact hb rfl
end
structure Un (fs ex : List Addr) (H H' : Hp) (h h' : Heap) : Prop where
 keep : ∀ b o, h.get? b = some o -> H b = none -> b ∉ fs -> b ∉ ex -> h'.get? b = some o
 slot : ∀ b o, h.get? b = some o -> H b = none -> b ∈ fs -> b ∉ ex -> ∃ sl, h'.get? b = some { o with slots := sl }
 free : ∀ b o, h.get? b = some o -> H b = none -> b ∉ ex -> H' b = none
 there : ∀ b o, h.get? b = some o -> b ∉ ex -> ∃ o', h'.get? b = some o'
 tups : ∀ b xs, H b = some (.tup xs) -> H' b = some (.tup xs)
 frzs : ∀ b o u, H b = some (.frz o u) -> H' b = some (.frz o u)
 tbls : ∀ b ps, H b = some (.tbl ps) -> ∃ more, H' b = some (.tbl (ps ++ more))
section
variable {fs fs' ex ex' : List Addr} {H H1 H2 : Hp} {h h1 h2 h' : Heap} {a x e : Addr} {o : HO}
theorem Un.any (u : Un fs ex H H1 h h1) {b : Addr} {ob : Obj} (q : h.get? b = some ob) (n : H b = none) (hx : b ∉ ex) : ∃ sl, h1.get? b = some { ob with slots := sl } := by
 by_cases hb : b ∈ fs
 ·exact u.slot b ob q n hb hx
 ·exact ⟨ob.slots, u.keep b ob q n hb hx⟩
theorem Un.trans (a : Un fs ex H H1 h h1) (b : Un fs ex H1 H2 h1 h2) : Un fs ex H H2 h h2 where
 keep := fun c ob q n hc hx => b.keep c ob (a.keep c ob q n hc hx) (a.free c ob q n hx) hc hx
 slot := fun c ob q n hc hx => by
  obtain ⟨sl, e1⟩ := a.slot c ob q n hc hx
  obtain ⟨sl', e2⟩ := b.slot c _ e1 (a.free c ob q n hx) hc hx
  exact ⟨sl', e2⟩
 free := fun c ob q n hx => by
  obtain ⟨o', e1⟩ := a.there c ob q hx
  exact b.free c o' e1 (a.free c ob q n hx) hx
 there := fun c ob q hx => by
  obtain ⟨o', e1⟩ := a.there c ob q hx
  exact b.there c o' e1 hx
 tups := fun c xs q => b.tups c xs (a.tups c xs q)
 frzs := fun c ob xs q => b.frzs c ob xs (a.frzs c ob xs q)
 tbls := fun c ps q => by
  obtain ⟨m1, e1⟩ := a.tbls c ps q
  obtain ⟨m2, e2⟩ := b.tbls c _ e1
  exact ⟨m1 ++ m2, by rw [e2, Array.append_assoc]⟩
theorem Un.kept (k : ∀ b u, h.get? b = some u -> h'.get? b = some u) : Un fs ex H H h h' :=
 ⟨fun b ob q _ _ _ => k b ob q, fun b ob q _ _ _ => ⟨ob.slots, k b ob q⟩, fun _ _ _ n _ => n, fun b ob q _ => ⟨ob, k b ob q⟩, fun _ _ q => q, fun _ _ _ q => q, fun _ ps q => ⟨#[], by rw [q]; simp⟩⟩
theorem Un.refl : Un fs ex H H h h := Un.kept fun _ _ q => q
theorem Un.laid (k : ∀ b u, h.get? b = some u -> h'.get? b = some u) (hp : h.objs.size <= a) (hn : H a = none) : Un fs ex H (upd H a o) h h' where
 keep := fun b u q _ _ _ => k b u q
 slot := fun b u q _ _ _ => ⟨u.slots, k b u q⟩
 free := fun b u q n _ => by rw [qt (Nat.ne_of_lt (Nat.lt_of_lt_of_le (Heap.lt_size q) hp))]; exact n
 there := fun b u q _ => ⟨u, k b u q⟩
 tups := fun b xs q => by rw [qt (qH q hn)]; exact q
 frzs := fun b u xs q => by rw [qt (qH q hn)]; exact q
 tbls := fun b ps q => ⟨#[], by rw [qt (qH q hn), q]; simp⟩
theorem Un.write (mu : Mut (H x)) (he : e = x \/ H e = some (.own x)) (k : ∀ b u, b ≠ e -> h.get? b = some u -> h'.get? b = some u) (heo : ∃ u, h'.get? e = some u) : Un fs ex H (upd H x o) h h' := by
 have hx : ∀ b, H b = none -> b ≠ x := fun b n z => by subst z; rw [n] at mu; exact mu
 have hb : ∀ b, H b = none -> b ≠ e := fun b n z => by
  subst z
  rcases he with r | r
  ·exact hx b n r
  ·rw [n] at r; cases r
 have hm : ∀ b u, H b = some u -> ¬ Mut (some u) -> b ≠ x := fun b u q nm z => by subst z; rw [q] at mu; exact nm mu
 refine ⟨fun b u q n _ _ => k b u (hb b n) q, fun b u q n _ _ => ⟨u.slots, k b u (hb b n) q⟩, fun b u q n _ => by rw [qt (hx b n)]; exact n, fun b u q _ => ?_,
  fun b xs q => by rw [qt (hm b _ q fun z => z)]; exact q, fun b u xs q => by rw [qt (hm b _ q fun z => z)]; exact q, fun b ps q => ⟨#[], by rw [qt (hm b _ q fun z => z), q]; simp⟩⟩
 by_cases hbe : b = e
 ·subst hbe; exact heo
 ·exact ⟨u, k b u hbe q⟩
end
def trk (h : Heap) (H : Hp) : List Addr := (List.range h.objs.size).filter fun a => (H a).isSome
def qgR (h : Heap) (H : Hp) : Heap := PySem.W.hideAll h (trk h H)
theorem qeW (h : Heap) (H : Hp) : (qgR h H).objs.size = h.objs.size := PySem.W.hideAll_size _ _
theorem qgS {h : Heap} {H : Hp} {b : Addr} {o : Obj} (e : h.get? b = some o) (n : H b = none) : (qgR h H).get? b = some o :=
 PySem.W.hideAll_get _ e fun hm => by
  have q : (H b).isSome = true := (List.mem_filter.mp hm).2
  rw [n] at q; simp at q
theorem qiU {h : Heap} {H : Hp} {b : Addr} {o : Obj} (e : (qgR h H).get? b = some o) : h.get? b = some o /\ H b = none := by
 have e' : h.get? b = some o := PySem.W.of_hideAll (trk h H) e
 refine ⟨e', ?_⟩
 cases q : H b with
 | none => rfl
 | some x =>
  have hm : b ∈ trk h H := List.mem_filter.mpr ⟨List.mem_range.mpr (Heap.lt_size e'), by simp [q]⟩
  have z : (qgR h H).get? b = none := PySem.W.hideAll_none (trk h H) hm
  rw [z] at e; cases e
def qiV (g h : Heap) (L : Addr) : List (Addr × Obj) := (List.range h.objs.size).filterMap fun a => if a = L \/ (g.get? a).isSome = true then none else (h.get? a).map fun o => (a, o)
def ud (g h : Heap) (L d : Addr) : List (Addr × Obj) := (qiV g h L).filter fun p => decide (p.1 ≠ d)
end L2
namespace L2
open PySem PySem.Spec PyProof.Rows
structure Mod (K : PySem.W.Frag) (mg : Str -> Option Value) (base : Heap) : Prop where
 kin : K.In base
 glob : base.Ns mainGlobals mg
 blt : ∃ mb, base.Ns builtinsNs mb /\ ∀ x : Str, x ≠ "__name__" -> mb x = bootBuiltins x
 nolimit : base.NoLimit
/-- the context: a def's body (or a comprehension's block) running. base: fixed through the whole law; s₀, H₀: the entry; outer: the frames whose slots others may change (a def's callers); stack: all frames that run;
   ex: iterators that were made ahead of the entry and are walked here (a comprehension's); fn: the names whose cells were made at the entry (a def: all; a comprehension's block: its own); calm: not within an except suite; pn: pins that every state bears; xe: what is wanted of an exception that leaves the code -/
structure Cx where
 prog : Program
 w : World
 K : PySem.W.Frag
 mg : Str -> Option Value
 base : Heap
 A : Around
 N : List Str
 s₀ : Shared
 H₀ : Hp
 env : Env
 outer : List Env
 stack : List Env
 ex : List Addr
 fn : Str -> Bool
 calm : Bool
 pn : List (Addr × Obj)
 xe : Value -> Shared -> Prop
def frs (l : List Env) : List Addr := l.filterMap (·.frame)
abbrev Cx.fs (X : Cx) : List Addr := frs X.outer
def Vis (sc : Scope) (x : Str) : Prop := sc.names.lookup x = some .local \/ sc.names.lookup x = some .cell \/ sc.names.lookup x = some .free
def Loc (sc : Scope) (x : Str) : Prop := sc.names.lookup x = some .local \/ sc.names.lookup x = some .cell
def qnP (env : Env) (h : Heap) (m : Str -> Option Value) (x : Str) (u : Value) : Prop :=
 (env.kindOf x = some .local /\ m x = some u) \/ ((env.kindOf x = some .cell \/ env.kindOf x = some .free) /\ ∃ c, env.cells.lookup x = some c /\ h.IsCell c (some u))
structure Cx.Ok (X : Cx) : Prop where
 mod : Mod X.K X.mg X.base
 kind : X.env.scope.kind = .function
 glob : X.env.globals = mainGlobals
 blt : X.env.builtins = builtinsNs
 above : X.s₀.heap.objs.size <= X.env.locals
 inj : ∀ x y c, X.env.cells.lookup x = some c -> X.env.cells.lookup y = some c -> x = y
 has : ∀ x, (X.env.kindOf x = some .cell \/ X.env.kindOf x = some .free) -> ∃ c, X.env.cells.lookup x = some c
 cab : ∀ x c, X.fn x = true -> X.env.cells.lookup x = some c -> X.s₀.heap.objs.size <= c
 hd : X.calm = true -> X.A.handled = none
 frames : X.A.frames = some X.stack
 stk : X.stack = X.outer \/ (X.stack = X.env :: X.outer /\ X.env.frame = some X.env.locals)
 exf : ∀ b ∈ X.ex, b ≠ X.env.locals /\ ∀ x c, X.env.cells.lookup x = some c -> c ≠ b
 bs : ∀ b o, X.base.get? b = some o -> X.s₀.heap.get? b = some o /\ X.H₀ b = none
 bsz : X.base.objs.size <= X.s₀.heap.objs.size
 noex : ∀ b o, X.base.get? b = some o -> b ∉ X.ex
 exfs : ∀ b ∈ X.ex, b ∉ X.fs
 funs : X.s₀.heap.FunFrames X.base X.outer
 frf : ∀ b ∈ X.fs, X.H₀ b = none
structure Inv (X : Cx) (pins : List (Addr × Obj)) (σ : List (Option V)) (H : Hp) (s : Shared) : Prop where
 ok : X.Ok
 os : s.os = X.s₀.os
 bare : AllBare s.gens
 base : Un X.fs X.ex X.H₀ H X.s₀.heap s.heap
 loc : ∃ m, s.heap.Ns X.env.locals m /\ ∀ (i : Nat) (x : Str) (v : V), X.N[i]? = some x -> σ[i]? = some (some v) -> Vis X.env.scope x -> ∃ u, yp v u /\ qnP X.env s.heap m x u
 cell : ∀ x c, X.env.cells.lookup x = some c -> ∃ v, s.heap.IsCell c v
 free : H X.env.locals = none
 freeC : ∀ x c, X.env.cells.lookup x = some c -> H c = none
 pin : ∀ p ∈ X.pn ++ pins, s.heap.get? p.1 = some p.2 /\ H p.1 = none /\ p.1 ≠ X.env.locals /\ p.1 ∉ X.fs /\ ∀ v, p.2.data ≠ .cell v
 hok : HOk X.prog X.w H s.heap
 len : σ.length = X.N.length
section
variable {X : Cx} {pins : List (Addr × Obj)} {σ : List (Option V)} {H H' : Hp} {s : Shared} {h' : Heap}
theorem Cx.Ok.nofr (ok : X.Ok) {b : Addr} {o : Obj} (e : X.base.get? b = some o) : b ∉ X.fs := fun hb => by
 have := (ok.funs.mem hb).1
 rw [e] at this; cases this
theorem Inv.bs (I : Inv X pins σ H s) : ∀ b o, X.base.get? b = some o -> s.heap.get? b = some o /\ H b = none := fun b o e =>
 ⟨I.base.keep b o (I.ok.bs b o e).1 (I.ok.bs b o e).2 (I.ok.nofr e) (I.ok.noex b o e), I.base.free b o (I.ok.bs b o e).1 (I.ok.bs b o e).2 (I.ok.noex b o e)⟩
theorem Inv.bk (I : Inv X pins σ H s) : ∀ b o, X.base.get? b = some o -> s.heap.get? b = some o := fun b o e => (I.bs b o e).1
theorem Inv.mod (I : Inv X pins σ H s) : Mod X.K X.mg X.base := I.ok.mod
theorem Inv.kIn (I : Inv X pins σ H s) : X.K.In s.heap := I.ok.mod.kin.keeps I.bk
theorem Inv.lt (I : Inv X pins σ H s) : X.env.locals < s.heap.objs.size := let ⟨_, hn, _⟩ := I.loc; hn.lt
theorem Inv.sz (I : Inv X pins σ H s) : X.s₀.heap.objs.size <= s.heap.objs.size := Nat.le_trans I.ok.above (Nat.le_of_lt I.lt)
theorem Inv.nofs (I : Inv X pins σ H s) {a : Addr} (h : s.heap.objs.size <= a) : a ∉ X.fs := fun hb => by
 obtain ⟨_, o, ho, _⟩ := I.ok.funs.mem hb
 exact absurd (Nat.lt_of_lt_of_le (Heap.lt_size ho) (Nat.le_trans I.sz h)) (Nat.lt_irrefl _)
theorem Inv.cne (I : Inv X pins σ H s) : ∀ x c, X.env.cells.lookup x = some c -> c ≠ X.env.locals := fun x c e z => by
 obtain ⟨v, o, ho, hd⟩ := I.cell x c e
 obtain ⟨m, ⟨o', es, ep, ho', hd', _⟩, _⟩ := I.loc
 rw [z, ho'] at ho; cases ho; rw [hd'] at hd; cases hd
theorem Inv.funs (I : Inv X pins σ H s) : s.heap.FunFrames X.base X.outer := by
 have all : ∀ (l : List Env), (∀ b ∈ frs l, b ∈ X.fs) -> X.s₀.heap.FunFrames X.base l -> s.heap.FunFrames X.base l := by
  intro l
  induction l with
  | nil => intro _ _; trivial
  | cons env r ih =>
   intro hs hl
   obtain ⟨hk, ⟨L, o, hf, hn, ho, hd⟩, hr⟩ := hl
   have hL : L ∈ X.fs := hs L (by unfold frs; rw [List.filterMap_cons, hf]; exact List.mem_cons_self)
   obtain ⟨sl, e⟩ := I.base.slot L o ho (I.ok.frf L hL) hL fun z => I.ok.exfs L z hL
   exact ⟨hk, ⟨L, _, hf, hn, e, hd⟩, ih (fun b hb => hs b (by unfold frs; rw [List.filterMap_cons, hf]; exact List.mem_cons_of_mem _ hb)) hr⟩
 exact all X.outer (fun _ hb => hb) I.ok.funs
theorem Inv.stack (I : Inv X pins σ H s) : s.heap.FunFrames X.base X.stack := by
 rcases I.ok.stk with e | ⟨e, hf⟩
 ·rw [e]; exact I.funs
 ·rw [e]
  obtain ⟨m, hn, _⟩ := I.loc
  refine .cons (by rw [I.ok.kind]; decide) hf hn ?_ I.funs
  exact Heap.get?_none_of_le (Nat.le_trans I.ok.bsz I.ok.above)
theorem Inv.stkSub (I : Inv X pins σ H s) : ∀ b ∈ frs X.stack, b ∈ X.env.locals :: X.fs := fun b hb => by
 rcases I.ok.stk with e | ⟨e, hf⟩
 ·rw [e] at hb; exact List.mem_cons_of_mem _ hb
 ·rw [e] at hb
  unfold frs at hb
  rw [List.filterMap_cons, hf] at hb
  exact hb
theorem Inv.stkFree (I : Inv X pins σ H s) : ∀ b ∈ frs X.stack, H b = none := fun b hb => by
 rcases List.mem_cons.mp (I.stkSub b hb) with e | hb
 ·rw [e]; exact I.free
 ·obtain ⟨_, o, ho, _⟩ := I.ok.funs.mem hb
  exact I.base.free b o ho (I.ok.frf b hb) fun z => I.ok.exfs b z hb
theorem Inv.step {g' : Array GenState} {t' : Nat} {d' : Drawn} {ch : List Addr} (I : Inv X pins σ H s)
  (hch : ∀ b ∈ ch, (b ∈ X.ex \/ X.s₀.heap.objs.size <= b) /\ b ≠ X.env.locals /\ (∀ x c, X.env.cells.lookup x = some c -> c ≠ b) /\ ∀ p ∈ X.pn ++ pins, p.1 ≠ b)
  (keep : ∀ b o, b ≠ X.env.locals -> b ∉ X.fs -> b ∉ ch -> s.heap.get? b = some o -> H b = none -> h'.get? b = some o)
  (slot : ∀ b o, b ≠ X.env.locals -> b ∈ X.fs -> b ∉ ch -> s.heap.get? b = some o -> H b = none -> ∃ sl, h'.get? b = some { o with slots := sl }) (free : ∀ b o, b ∉ ch -> s.heap.get? b = some o -> H b = none -> H' b = none)
  (there : ∀ b o, b ∉ ch -> s.heap.get? b = some o -> ∃ o', h'.get? b = some o')
  (tups : ∀ b xs, H b = some (.tup xs) -> H' b = some (.tup xs)) (frzs : ∀ b o u, H b = some (.frz o u) -> H' b = some (.frz o u)) (tbls : ∀ b ps, H b = some (.tbl ps) -> ∃ more, H' b = some (.tbl (ps ++ more)))
  (ns : ∀ m, s.heap.Ns X.env.locals m -> h'.Ns X.env.locals m) (hok : HOk X.prog X.w H' h') (hg : AllBare g') :
  Inv X pins σ H' { s with heap := h', gens := g', drawn := d', toks := t' } := by
 have neL : ∀ b o, X.s₀.heap.get? b = some o -> b ≠ X.env.locals := fun b o e => Nat.ne_of_lt (Nat.lt_of_lt_of_le (Heap.lt_size e) I.ok.above)
 have neC : ∀ b o, X.s₀.heap.get? b = some o -> b ∉ X.ex -> b ∉ ch := fun b o e hx hb => by
  rcases (hch b hb).1 with z | z
  ·exact hx z
  ·exact absurd (Nat.lt_of_lt_of_le (Heap.lt_size e) z) (Nat.lt_irrefl _)
 have cellK : ∀ x c, X.env.cells.lookup x = some c -> ∀ v, s.heap.IsCell c v -> h'.IsCell c v := fun x c e v ⟨o, ho, hd⟩ => by
  have nch : c ∉ ch := fun z => (hch c z).2.2.1 x c e rfl
  by_cases hc : c ∈ X.fs
  ·obtain ⟨sl, q⟩ := slot c o (I.cne x c e) hc nch ho (I.freeC x c e)
   exact ⟨_, q, hd⟩
  ·exact ⟨o, keep c o (I.cne x c e) hc nch ho (I.freeC x c e), hd⟩
 refine ⟨I.ok, I.os, hg, ⟨fun b o e n hb hx => ?_, fun b o e n hb hx => ?_, fun b o e n hx => ?_, fun b o e hx => ?_, fun b xs e => tups b xs (I.base.tups b xs e), fun b o xs e => frzs b o xs (I.base.frzs b o xs e), fun b ps e => ?_⟩, ?_, fun x c e => ?_, ?_, fun x c e => ?_, fun p hp => ?_, hok, I.len⟩
 ·exact keep b o (neL b o e) hb (neC b o e hx) (I.base.keep b o e n hb hx) (I.base.free b o e n hx)
 ·obtain ⟨sl, e1⟩ := I.base.slot b o e n hb hx
  obtain ⟨sl', e2⟩ := slot b _ (neL b o e) hb (neC b o e hx) e1 (I.base.free b o e n hx)
  exact ⟨sl', e2⟩
 ·obtain ⟨o', e1⟩ := I.base.there b o e hx
  exact free b o' (neC b o e hx) e1 (I.base.free b o e n hx)
 ·obtain ⟨o', e1⟩ := I.base.there b o e hx
  exact there b o' (neC b o e hx) e1
 ·obtain ⟨m1, e1⟩ := I.base.tbls b ps e
  obtain ⟨m2, e2⟩ := tbls b _ e1
  exact ⟨m1 ++ m2, by rw [e2, Array.append_assoc]⟩
 ·obtain ⟨m, hn, hl⟩ := I.loc
  refine ⟨m, ns m hn, fun i x v e1 e2 e3 => ?_⟩
  obtain ⟨u, r, l⟩ := hl i x v e1 e2 e3
  refine ⟨u, r, ?_⟩
  rcases l with l | ⟨k, c, e, z⟩
  ·exact .inl l
  ·exact .inr ⟨k, c, e, cellK x c e _ z⟩
 ·obtain ⟨v, z⟩ := I.cell x c e
  exact ⟨v, cellK x c e v z⟩
 ·obtain ⟨m, ⟨o, _, _, ho, _⟩, _⟩ := I.loc
  exact free _ o (fun z => (hch _ z).2.1 rfl) ho I.free
 ·obtain ⟨v, o, ho, hd⟩ := I.cell x c e
  exact free c o (fun z => (hch c z).2.2.1 x c e rfl) ho (I.freeC x c e)
 ·obtain ⟨e, n, ne, nf, d⟩ := I.pin p hp
  have nch : p.1 ∉ ch := fun z => (hch p.1 z).2.2.2 p hp rfl
  exact ⟨keep p.1 p.2 ne nf nch e n, free p.1 p.2 nch e n, ne, nf, d⟩
theorem Inv.un {t' : Nat} (I : Inv X pins σ H s) (u : Un X.fs [] H H' s.heap h') (hok : HOk X.prog X.w H' h') : Inv X pins σ H' { s with heap := h', toks := t' } := by
 obtain ⟨m, ⟨o, es, ep, ho, r⟩, _⟩ := id I.loc
 obtain ⟨sl, hL⟩ := u.any ho I.free (by simp)
 exact I.step (g' := s.gens) (d' := s.drawn) (ch := []) (fun _ z => nomatch z) (fun b o _ hb _ e n => u.keep b o e n hb (by simp)) (fun b o _ hb _ e n => u.slot b o e n hb (by simp)) (fun b o _ e n => u.free b o e n (by simp)) (fun b o _ e => u.there b o e (by simp)) u.tups u.frzs u.tbls (fun m' hm => by
  obtain ⟨o', es', ep', ho', r'⟩ := hm
  rw [ho] at ho'; cases ho'
  exact ⟨_, es', ep', hL, r'⟩) hok I.bare
theorem Inv.call {g' : Array GenState} {t' : Nat} {d' : Drawn} {ch : List Addr} (I : Inv X pins σ H s) (u : Un (frs X.stack) ch H H' s.heap h') (hok : HOk X.prog X.w H' h') (hg : AllBare g')
  (hch : ∀ b ∈ ch, (b ∈ X.ex \/ X.s₀.heap.objs.size <= b) /\ b ≠ X.env.locals /\ (∀ x c, X.env.cells.lookup x = some c -> c ≠ b) /\ ∀ p ∈ X.pn ++ pins, p.1 ≠ b) :
  Inv X pins σ H' { s with heap := h', gens := g', drawn := d', toks := t' } := by
 obtain ⟨m, ⟨o, es, ep, ho, r⟩, _⟩ := id I.loc
 obtain ⟨sl, hL⟩ := u.any ho I.free fun z => (hch _ z).2.1 rfl
 exact I.step (ch := ch) hch (fun b o hL hb hc e n => u.keep b o e n (fun z => (List.mem_cons.mp (I.stkSub b z)).elim hL hb) hc) (fun b o _ _ hc e n => u.any e n hc) (fun b o hc e n => u.free b o e n hc) (fun b o hc e => u.there b o e hc) u.tups u.frzs u.tbls (fun m' hm => by
  obtain ⟨o', es', ep', ho', r'⟩ := hm
  rw [ho] at ho'; cases ho'
  exact ⟨_, es', ep', hL, r'⟩) hok hg
theorem Inv.turned {t' : Nat} {it : Addr} (I : Inv X pins σ H s) (k : ∀ b o, b ≠ it -> s.heap.get? b = some o -> h'.get? b = some o) (hn : H it = none) (hL : it ≠ X.env.locals)
  (h1 : it ∈ X.ex \/ X.s₀.heap.objs.size <= it) (h2 : ∀ x c, X.env.cells.lookup x = some c -> c ≠ it) (h3 : ∀ p ∈ X.pn ++ pins, p.1 ≠ it) : Inv X pins σ H { s with heap := h', toks := t' } := by
 have nit : ∀ b u, H b = some u -> b ≠ it := fun b u e z => by rw [z, hn] at e; cases e
 refine I.step (g' := s.gens) (d' := s.drawn) (ch := [it]) (fun b hb => ?_) (fun b o _ _ hc e _ => k b o (fun z => hc (by simp [z])) e) (fun b o _ _ hc e _ => ⟨o.slots, k b o (fun z => hc (by simp [z])) e⟩) (fun _ _ _ _ n => n)
  (fun b o hc e => ⟨o, k b o (fun z => hc (by simp [z])) e⟩) (fun _ _ e => e) (fun _ _ _ e => e) (fun b ps e => ⟨#[], by rw [e]; simp⟩) (fun m hm => ?_) (fun b u e => ?_) I.bare
 ·have e : b = it := by simpa using hb
  subst e
  exact ⟨h1, hL, h2, h3⟩
 ·obtain ⟨o, es, ep, ho, r⟩ := hm
  exact ⟨o, es, ep, k _ o (Ne.symm hL) ho, r⟩
 ·refine (I.hok b u e).stay (fun c v hc q => k c v ?_ q) (fun _ q => q) fun _ _ q => q
  rcases hc with z | z
  ·rw [z]; exact nit b u e
  ·exact nit c _ z
theorem Inv.tok (I : Inv X pins σ H s) (t : Nat) : Inv X pins σ H { s with toks := t } := I.un (h' := s.heap) (t' := t) Un.refl I.hok
theorem Inv.kept {t' : Nat} (I : Inv X pins σ H s) (k : ∀ b u, s.heap.get? b = some u -> h'.get? b = some u) : Inv X pins σ H { s with heap := h', toks := t' } := I.un (Un.kept k) (I.hok.kept k)
theorem Inv.laid {a : Addr} {o : HO} {t' : Nat} (I : Inv X pins σ H s) (k : ∀ b u, s.heap.get? b = some u -> h'.get? b = some u) (hp : s.heap.objs.size <= a) (new : yX X.prog X.w (upd H a o) h' a o) :
  Inv X pins σ (upd H a o) { s with heap := h', toks := t' } := I.un (Un.laid k hp (I.hok.fresh hp)) (I.hok.laid k hp new)
theorem Inv.write {x e : Addr} {o : HO} {t' : Nat} (I : Inv X pins σ H s) (mu : Mut (H x)) (he : e = x \/ H e = some (.own x)) (k : ∀ b u, b ≠ e -> s.heap.get? b = some u -> h'.get? b = some u) (heo : ∃ u, h'.get? e = some u)
  (new : yX X.prog X.w (upd H x o) h' x o) : Inv X pins σ (upd H x o) { s with heap := h', toks := t' } := I.un (Un.write mu he k heo) (I.hok.write mu he k heo new)
theorem Inv.pins_of {pins' : List (Addr × Obj)} (I : Inv X pins σ H s) (h : ∀ p ∈ pins', s.heap.get? p.1 = some p.2 /\ H p.1 = none /\ p.1 ≠ X.env.locals /\ p.1 ∉ X.fs /\ ∀ v, p.2.data ≠ .cell v) : Inv X pins' σ H s :=
 ⟨I.ok, I.os, I.bare, I.base, I.loc, I.cell, I.free, I.freeC, fun p hp => (List.mem_append.mp hp).elim (fun z => I.pin p (List.mem_append_left _ z)) (h p), I.hok, I.len⟩
theorem qdn {N : List Str} (hN : N.Nodup) {i j : Nat} {x : Str} (a : N[i]? = some x) (b : N[j]? = some x) : i = j := by
 obtain ⟨h1, e1⟩ := List.getElem?_eq_some_iff.mp a
 obtain ⟨h2, e2⟩ := List.getElem?_eq_some_iff.mp b
 exact (List.getElem_inj hN).mp (e1.trans e2.symm)
theorem qeX {M : Model} {A : Around} {E : Value -> Shared -> Prop} {i : Nat} {x : Str} {v : V} {u : Value} {Q : Unit -> Shared -> Prop} (I : Inv X pins σ H s) (hN : X.N.Nodup) (hi : X.N[i]? = some x) (hx : Loc X.env.scope x) (r : yp v u)
  (h : ∀ s', Inv X pins (σ.set i (some v)) H s' -> (∃ a, Heap.SameBut a s.heap s'.heap /\ (a = X.env.locals \/ X.env.cells.lookup x = some a)) -> Q () s') (hf : X.fn x = true \/ X.env.scope.names.lookup x = some .local := by first | exact .inl rfl | exact .inr rfl | assumption) : wpAny M A (storeName X.env x u) Q E s := by
 obtain ⟨m, hn, hl⟩ := id I.loc
 have hcls : (X.env.scope.kind == .class || (X.env.scope.kind == .module && X.env.locals != X.env.globals)) = false := by rw [I.ok.kind]; rfl
 have hiσ : i < σ.length := by rw [I.len]; exact (List.getElem?_eq_some_iff.mp hi).1
 have cne := I.cne
 have tracked : ∀ {a : Addr} {h' : Heap}, (∃ o, s.heap.get? a = some o /\ H a = none) -> Heap.SameBut a s.heap h' -> HOk X.prog X.w H h' := fun {a h'} ha hs b ob e => by
  obtain ⟨_, _, hfree⟩ := ha
  refine (I.hok b ob e).stay (fun c w' hc q => (hs.2 c ?_).trans q) (fun _ q => q) fun _ _ q => q
  rintro rfl
  rcases hc with rfl | hc
  ·rw [hfree] at e; cases e
  ·rw [hfree] at hc; cases hc
 rcases hx with hk | hk
 ·refine wpAny_storeName_local hk hn (fun h' hn' hs => ?_) hcls
  obtain ⟨oL, _, _, hoL, _⟩ := id hn
  refine h _ ⟨I.ok, I.os, I.bare, ⟨fun b o e n hb hx => ?_, fun b o e n hb hx => ?_, I.base.free, fun b o e hx => ?_, I.base.tups, I.base.frzs, I.base.tbls⟩, ⟨_, hn', fun j y v' e1 e2 e3 => ?_⟩, fun y c e => ?_, I.free, I.freeC, fun p hp => ?_, tracked ⟨oL, hoL, I.free⟩ hs, by simpa using I.len⟩ ⟨_, hs, .inl rfl⟩
  ·exact (hs.2 b (Nat.ne_of_lt (Nat.lt_of_lt_of_le (Heap.lt_size e) I.ok.above))).trans (I.base.keep b o e n hb hx)
  ·obtain ⟨sl, e1⟩ := I.base.slot b o e n hb hx
   exact ⟨sl, (hs.2 b (Nat.ne_of_lt (Nat.lt_of_lt_of_le (Heap.lt_size e) I.ok.above))).trans e1⟩
  ·obtain ⟨o', e1⟩ := I.base.there b o e hx
   exact ⟨o', (hs.2 b (Nat.ne_of_lt (Nat.lt_of_lt_of_le (Heap.lt_size e) I.ok.above))).trans e1⟩
  ·by_cases hj : j = i
   ·subst hj
    rw [hi] at e1; cases e1
    rw [List.getElem?_set_self hiσ] at e2
    cases e2
    exact ⟨u, r, .inl ⟨hk, by simp⟩⟩
   ·rw [List.getElem?_set_ne (Ne.symm hj)] at e2
    obtain ⟨u', r', q⟩ := hl j y v' e1 e2 e3
    refine ⟨u', r', ?_⟩
    rcases q with ⟨k, e⟩ | ⟨k, c, e, z⟩
    ·refine .inl ⟨k, ?_⟩
     have : y ≠ x := fun e => hj (qdn hN e1 (e ▸ hi))
     simp [this, e]
    ·exact .inr ⟨k, c, e, z.sameBut hs (cne y c e)⟩
  ·obtain ⟨w', z⟩ := I.cell y c e
   exact ⟨w', z.sameBut hs (cne y c e)⟩
  ·obtain ⟨e, n, ne, nf, d⟩ := I.pin p hp
   exact ⟨(hs.2 p.1 ne).trans e, n, ne, nf, d⟩
 ·have hfn : X.fn x = true := by
   rcases hf with z | z
   ·exact z
   ·rw [z] at hk; cases hk
  obtain ⟨c, hc⟩ := I.ok.has x (.inl hk)
  obtain ⟨w', z⟩ := I.cell x c hc
  refine wpAny_storeName_cell I.ok.kind hk hc z (fun h' hc' hs => ?_)
  obtain ⟨oc, hoc, hocd⟩ := id z
  refine h { s with heap := h' } ⟨I.ok, I.os, I.bare, ⟨fun b o e n hb hx => ?_, fun b o e n hb hx => ?_, I.base.free, fun b o e hx => ?_, I.base.tups, I.base.frzs, I.base.tbls⟩, ⟨m, hn.sameBut hs (Ne.symm (cne x c hc)), fun j y v' e1 e2 e3 => ?_⟩, fun y c' e => ?_, I.free, I.freeC, fun p hp => ?_, tracked ⟨oc, hoc, I.freeC x c hc⟩ hs, by simpa using I.len⟩ ⟨c, hs, .inr hc⟩
  ·exact (hs.2 b (Nat.ne_of_lt (Nat.lt_of_lt_of_le (Heap.lt_size e) (I.ok.cab x c hfn hc)))).trans (I.base.keep b o e n hb hx)
  ·obtain ⟨sl, e1⟩ := I.base.slot b o e n hb hx
   exact ⟨sl, (hs.2 b (Nat.ne_of_lt (Nat.lt_of_lt_of_le (Heap.lt_size e) (I.ok.cab x c hfn hc)))).trans e1⟩
  ·obtain ⟨o', e1⟩ := I.base.there b o e hx
   exact ⟨o', (hs.2 b (Nat.ne_of_lt (Nat.lt_of_lt_of_le (Heap.lt_size e) (I.ok.cab x c hfn hc)))).trans e1⟩
  ·by_cases hj : j = i
   ·subst hj
    rw [hi] at e1; cases e1
    rw [List.getElem?_set_self hiσ] at e2
    cases e2
    exact ⟨u, r, .inr ⟨.inl hk, c, hc, hc'⟩⟩
   ·rw [List.getElem?_set_ne (Ne.symm hj)] at e2
    obtain ⟨u', r', q⟩ := hl j y v' e1 e2 e3
    refine ⟨u', r', ?_⟩
    rcases q with q | ⟨k, c', e, z'⟩
    ·exact .inl q
    ·refine .inr ⟨k, c', e, z'.sameBut hs ?_⟩
     rintro rfl
     exact hj (qdn hN e1 (I.ok.inj _ _ _ e hc ▸ hi))
  ·by_cases hcc : c' = c
   ·subst hcc; exact ⟨_, hc'⟩
   ·obtain ⟨w2, z2⟩ := I.cell y c' e
    exact ⟨w2, z2.sameBut hs hcc⟩
  ·obtain ⟨e, n, ne, nf, d⟩ := I.pin p hp
   refine ⟨(hs.2 p.1 ?_).trans e, n, ne, nf, d⟩
   intro q
   rw [q, hoc] at e
   have q' : oc = p.2 := Option.some.inj e
   exact d w' (by rw [<- q']; exact hocd)
theorem vK {M : Model} {A : Around} {E : Value -> Shared -> Prop} {i : Nat} {x : Str} {v : V} {u : Value} {Q : Unit -> Shared -> Prop} (I : Inv X pins σ H s) (hN : X.N.Nodup) (hi : X.N[i]? = some x) (hx : Loc X.env.scope x) (r : yp v u)
  (h : ∀ s', Inv X pins (σ.set i (some v)) H s' -> Q () s') (hf : X.fn x = true \/ X.env.scope.names.lookup x = some .local := by first | exact .inl rfl | exact .inr rfl | assumption) : wpAny M A (storeName X.env x u) Q E s :=
 qeX I hN hi hx r (fun s' I' _ => h s' I') hf
theorem Inv.call' {s' : Shared} {ch : List Addr} (I : Inv X pins σ H s) (ho : s'.os = s.os) (u : Un (frs X.stack) ch H H' s.heap s'.heap) (hok : HOk X.prog X.w H' s'.heap) (hg : AllBare s'.gens)
  (hch : ∀ b ∈ ch, (b ∈ X.ex \/ X.s₀.heap.objs.size <= b) /\ b ≠ X.env.locals /\ (∀ x c, X.env.cells.lookup x = some c -> c ≠ b) /\ ∀ p ∈ X.pn ++ pins, p.1 ≠ b) : Inv X pins σ H' s' := by
 obtain ⟨h', g', d', t', o'⟩ := s'
 have e : o' = s.os := ho
 subst e
 exact I.call (g' := g') (t' := t') (d' := d') u hok hg hch
end
abbrev XK := Value -> Option Addr -> Hp -> Prop
abbrev St := List (Option V)
abbrev VK := V -> Hp -> Prop
abbrev TE := St -> Hp -> VK -> Prop
abbrev TT := St -> Hp -> (Bool -> Hp -> Prop) -> Prop
abbrev TA := St -> Hp -> (List V -> Hp -> Prop) -> Prop
structure qeR where
 nx : St -> Hp -> Prop
 rt : VK
 bk : St -> Hp -> Prop := fun _ _ => False
 ct : St -> Hp -> Prop := fun _ _ => False
abbrev TS := qeR -> St -> Hp -> Prop
def EP (X : Cx) (pins : List (Addr × Obj)) (σ : St) (Q : VK) (u : Value) (s' : Shared) : Prop := ∃ v H', Inv X pins σ H' s' /\ yp v u /\ Q v H'
def TP (X : Cx) (pins : List (Addr × Obj)) (σ : St) (Q : Bool -> Hp -> Prop) (b : Bool) (s' : Shared) : Prop := ∃ H', Inv X pins σ H' s' /\ Q b H'
def AP (X : Cx) (pins : List (Addr × Obj)) (σ : St) (Q : List V -> Hp -> Prop) (us : List Value) (s' : Shared) : Prop := ∃ vs H', Inv X pins σ H' s' /\ zh vs us /\ Q vs H'
def SP (X : Cx) (pins : List (Addr × Obj)) (D : qeR) (f : Flow) (s' : Shared) : Prop :=
 match f with
 | .next => ∃ σ' H', Inv X pins σ' H' s' /\ D.nx σ' H'
 | .brk => ∃ σ' H', Inv X pins σ' H' s' /\ D.bk σ' H'
 | .cont => ∃ σ' H', Inv X pins σ' H' s' /\ D.ct σ' H'
 | .ret u => ∃ v σ' H', Inv X pins σ' H' s' /\ yp v u /\ D.rt v H'
def PE (X : Cx) (e : Expr) (t : TE) : Prop :=
 ∀ (pins : List (Addr × Obj)) (s : Shared) (σ : St) (H : Hp) (Q : VK), Inv X pins σ H s -> t σ H Q -> wpAny (model X.prog X.w) X.A (eval e X.env) (EP X pins σ Q) X.xe s
def PT (X : Cx) (e : Expr) (t : TT) : Prop :=
 ∀ (pins : List (Addr × Obj)) (s : Shared) (σ : St) (H : Hp) (Q : Bool -> Hp -> Prop), Inv X pins σ H s -> t σ H Q -> wpAny (model X.prog X.w) X.A (isTrue e X.env (eval e X.env)) (TP X pins σ Q) X.xe s
def PW (X : Cx) (e : Expr) (t : TT) : Prop :=
 ∀ (whole : Sem Value) (pins : List (Addr × Obj)) (s : Shared) (σ : St) (H : Hp) (Q : Bool -> Hp -> Prop), Inv X pins σ H s -> t σ H Q -> wpAny (model X.prog X.w) X.A (isTrue e X.env whole) (TP X pins σ Q) X.xe s
theorem PW.pt {X : Cx} {e : Expr} {t : TT} (h : PW X e t) : PT X e t := h _
def PA (X : Cx) (es : List Expr) (t : TA) : Prop :=
 ∀ (pos : Pos) (pins : List (Addr × Obj)) (s : Shared) (σ : St) (H : Hp) (Q : List V -> Hp -> Prop), Inv X pins σ H s -> t σ H Q -> wpAny (model X.prog X.w) X.A (spliced (backTo pos (starEach es X.env))) (AP X pins σ Q) X.xe s
def PS (X : Cx) (st : Stmt) (t : TS) : Prop :=
 ∀ (pins : List (Addr × Obj)) (s : Shared) (σ : St) (H : Hp) (D : qeR), Inv X pins σ H s -> t D σ H -> wpAny (model X.prog X.w) X.A (exec st X.env) (SP X pins D) X.xe s
def PSs (X : Cx) (st : List Stmt) (t : TS) : Prop :=
 ∀ (pins : List (Addr × Obj)) (s : Shared) (σ : St) (H : Hp) (D : qeR), Inv X pins σ H s -> t D σ H -> wpAny (model X.prog X.w) X.A (execs st X.env) (SP X pins D) X.xe s
theorem thn {α : Type} {t : Sem α} {Q Q' : α -> Shared -> Prop} {M : Model} {A : Around} {E : Value -> Shared -> Prop} {s : Shared} (h : wpAny M A t Q E s) (hQ : ∀ a s, Q a s -> Q' a s) : wpAny M A t Q' E s := wpAny_mono h hQ fun _ _ x => x
end L2
namespace L2
open PySem PySem.Spec PyProof.Rows
section
variable {X : Cx}
theorem bin {a b : Expr} {ta tb : TE} (ha : PE X a ta) (hb : PE X b tb) {pins : List (Addr × Obj)} {s : Shared} {σ : St} {H : Hp} {R : V -> V -> Hp -> Prop} (I : Inv X pins σ H s) (h : ta σ H fun x H1 => tb σ H1 fun y H2 => R x y H2)
  {α : Type} {Q : α -> Shared -> Prop} {f : Value -> Value -> Sem α}
  (hf : ∀ v u s2 x y H2, Inv X pins σ H2 s2 -> yp x v -> yp y u -> R x y H2 -> wpAny (model X.prog X.w) X.A (f v u) Q X.xe s2) :
  wpAny (model X.prog X.w) X.A (eval a X.env) (fun v s₁ => wpAny (model X.prog X.w) X.A (eval b X.env) (fun u s₂ => wpAny (model X.prog X.w) X.A (f v u) Q X.xe s₂) X.xe s₁) X.xe s := by
 refine thn (ha pins s σ H _ I h) fun v s1 ⟨x, H1, I1, r1, q1⟩ => ?_
 refine thn (hb pins s1 σ H1 _ I1 q1) fun u s2 ⟨y, H2, I2, r2, q2⟩ => ?_
 exact hf v u s2 x y H2 I2 r1 r2 q2
def qnQ (i : Nat) : TE := fun σ H Q => ∃ v, σ[i]? = some (some v) /\ Q v H
def tC (v : V) : TE := fun _ H Q => Q v H
theorem vL {i : Nat} {x : Str} {pos : Pos} (hN : X.N[i]? = some x) (hv : Vis X.env.scope x) (hd : (x == ("__debug__" : Str)) = false := by decide) (hcd : (x == ("__classdict__" : Str)) = false := by decide) : PE X (.Name x pos) (qnQ i) := by
 intro pins s σ H Q I h
 obtain ⟨v, e, h⟩ := h
 obtain ⟨m, hn, hl⟩ := I.loc
 obtain ⟨u, r, l⟩ := hl i x v hN e hv
 have fin : EP X pins σ Q u s := ⟨v, H, I, r, h⟩
 rcases l with ⟨hk, hm⟩ | ⟨hk, c, hc, hcell⟩
 ·exact wpAny_Name (wpAny_loadName_local I.ok.kind hk hn hm fin) hd
 ·rcases hk with hk | hk
  ·exact wpAny_Name (wpAny_loadName_cell I.ok.kind hk hc hcell fin) hd
  ·exact wpAny_Name (wpAny_loadName_free I.ok.kind hk hc hcell fin hcd) hd
theorem qh8 {i j pos} : PE X (.Constant (.int i) j pos) (tC (.int i)) := fun _ _ _ H _ I h => wpAny_Constant_int ⟨.int i, H, I.tok _, ⟨_, rfl⟩, h⟩
theorem qmk {b j pos} : PE X (.Constant (.bool b) j pos) (tC (.bl b)) := fun _ _ _ H _ I h => Constant_bool ⟨.bl b, H, I, rfl, h⟩
theorem qkk {j pos} : PE X (.Constant .none j pos) (tC .non) := fun _ _ _ H _ I h => Constant_none ⟨.non, H, I, rfl, h⟩
theorem qkl {x j pos} : PE X (.Constant (.str x) j pos) (tC (.str x)) := fun _ _ _ H _ I h => Calls.Constant_str ⟨.str x, H, I.tok _, ⟨_, rfl⟩, h⟩
def Gl (X : Cx) (x : Str) : Prop := X.env.kindOf x = some .globalImplicit
theorem qab {E : Value -> Shared -> Prop} {pins : List (Addr × Obj)} {s : Shared} {σ : St} {H : Hp} {x : Str} {u : Value} {pos : Pos} {Q : Value -> Shared -> Prop} (I : Inv X pins σ H s) (hg : Gl X x) (hm : X.mg x = some u) (h : Q u s)
  (hd : (x == ("__debug__" : Str)) = false := by decide) : wpAny (model X.prog X.w) X.A (eval (.Name x pos) X.env) Q E s :=
 Calls.Name_function_global I.ok.kind hg (Calls.loadGlobal_global (by rw [I.ok.glob]; exact I.mod.glob.keeps I.bk) hm h) hd
theorem vo {E : Value -> Shared -> Prop} {pins : List (Addr × Obj)} {s : Shared} {σ : St} {H : Hp} {x : Str} {u : Value} {pos : Pos} {Q : Value -> Shared -> Prop} (I : Inv X pins σ H s) (hg : Gl X x) (hm : X.mg x = none) (hv : bootBuiltins x = some u) (h : Q u s)
  (hn : x ≠ "__name__" := by decide) (hd : (x == ("__debug__" : Str)) = false := by decide) : wpAny (model X.prog X.w) X.A (eval (.Name x pos) X.env) Q E s := by
 obtain ⟨mb, h1, h2⟩ := I.mod.blt
 exact Calls.Name_function_global I.ok.kind hg (Calls.loadGlobal_builtin (by rw [I.ok.glob]; exact I.mod.glob.keeps I.bk) hm (by rw [I.ok.blt]; exact h1.keeps I.bk) ((h2 x hn).trans hv) h) hd
theorem qcM {x : Str} {v : V} {u : Value} {pos : Pos} (hg : Gl X x) (hm : X.mg x = some u) (r : yp v u) (hd : (x == ("__debug__" : Str)) = false := by decide) : PE X (.Name x pos) (tC v) :=
 fun _ _ _ H _ I h => qab I hg hm ⟨v, H, I, r, h⟩ hd
theorem qeY {x : Str} {v : V} {u : Value} {pos : Pos} (hg : Gl X x) (hm : X.mg x = none) (hv : bootBuiltins x = some u) (r : yp v u) (hn : x ≠ "__name__" := by decide) (hd : (x == ("__debug__" : Str)) = false := by decide) : PE X (.Name x pos) (tC v) :=
 fun _ _ _ H _ I h => vo I hg hm hv ⟨v, H, I, r, h⟩ hn hd
variable {a b : Expr} {ta tb : TE} {pos : Pos}
def PC (X : Cx) (op : CmpOp) (a b : Expr) (t : TE) : Prop :=
 ∀ (pins : List (Addr × Obj)) (s : Shared) (σ : St) (H : Hp) (Q : VK), Inv X pins σ H s -> t σ H Q ->
  wpAny (model X.prog X.w) X.A (eval a X.env) (fun v s₁ => wpAny (model X.prog X.w) X.A (eval b X.env) (fun u s₂ => wpAny (model X.prog X.w) X.A (compareOp op v u) (EP X pins σ Q) X.xe s₂) X.xe s₁) X.xe s
theorem qgT (b : Expr) {op : CmpOp} (h : op ≠ .In) (h2 : op ≠ .NotIn) : behindInMarks op b = false := by
 have e1 : (op == CmpOp.In) = false := by cases op <;> first | rfl | exact absurd rfl h
 have e2 : (op == CmpOp.NotIn) = false := by cases op <;> first | rfl | exact absurd rfl h2
 cases b <;> simp [behindInMarks, e1, e2]
def tB (t : TE) : TT := fun σ H Q => t σ H fun x H1 => ∃ c, x = .bl c /\ Q c H1
theorem qnc {op : CmpOp} {t : TE} (h : PC X op a b t) (h1 : behindInMarks op b = false := by first | exact qgT _ (by decide) (by decide) | rfl) : PT X (.Compare a [op] [b] pos) (tB t) := by
 intro pins s σ H Q I hw
 refine wpAny_isTrue_Compare1 (thn (h pins s σ H _ I hw) fun v s1 h1 => thn h1 fun u s2 h2 => thn h2 fun c s3 ⟨x, H1, I1, r1, q1⟩ => ?_) h1
 obtain ⟨d, rfl, q⟩ := q1
 cases r1
 exact wpAny_truthy_bool ⟨H1, I1, q⟩
theorem qkm {e : Expr} {t : TE} (h : PE X e t) (he : ∀ whole, isTrue e X.env whole = (do let v <- whole; standAt e.pos; holding [v] (truthy v)) := by intro _; rfl) : PT X e (tB t) := by
 intro pins s σ H Q I hw
 refine isTrue_plain (thn (h pins s σ H _ I hw) fun v s1 ⟨x, H1, I1, r1, q1⟩ => ?_) (he _)
 obtain ⟨d, rfl, q⟩ := q1
 cases r1
 exact wpAny_truthy_bool ⟨H1, I1, q⟩
variable {tA tB' : TT} {ud : List Expr}
def tOr (t u : TT) : TT := fun σ H Q => t σ H fun c H1 => if c = true then Q true H1 else u σ H1 Q
def qnR (t : TT) : TT := fun σ H Q => t σ H fun c H1 => Q (!c) H1
theorem qkn (ha : PT X a tA) : PW X (.BoolOp .Or [a] pos) tA := by
 intro wh pins s σ H Q I h
 refine isTrue_or (thn (ha pins s σ H Q I h) fun c s1 e => ?_)
 cases c with
 | false => exact isTrue_or_nil e
 | true => exact e
theorem qml (ha : PT X a tA) (hb : PW X (.BoolOp .Or (b :: ud) pos) tB') : PW X (.BoolOp .Or (a :: b :: ud) pos) (tOr tA tB') := by
 intro wh pins s σ H Q I h
 refine isTrue_or (thn (ha pins s σ H _ I h) fun c s1 ⟨H1, I1, q1⟩ => ?_)
 cases c with
 | true => exact ⟨H1, I1, q1⟩
 | false => exact hb wh pins s1 σ H1 Q I1 q1
theorem qko (ha : PT X a tA) : PT X (.UnaryOp .Not a pos) (qnR tA) := by
 intro pins s σ H Q I h
 exact isTrue_not (ha pins s σ H (fun c H1 => Q (!c) H1) I h)
def qmm (ta tb : TE) : TE := fun σ H Q => ta σ H fun x H1 => ∃ c, x = .bl c /\ if c = true then tb σ H1 Q else Q (.bl false) H1
def qnS (ta tb : TE) : TE := fun σ H Q => ta σ H fun x H1 => ∃ c, x = .bl c /\ if c = true then Q (.bl true) H1 else tb σ H1 Q
def qmn (ta : TE) : TE := fun σ H Q => ta σ H fun x H1 => ∃ c, x = .bl c /\ Q (.bl (!c)) H1
theorem qkp {op} {t : TE} (h : PE X a t) : PE X (.BoolOp op [a] pos) t := fun pins s σ H Q I hw => BoolOp_one (h pins s σ H Q I hw)
theorem qkq (ha : PE X a ta) (hb : PE X (.BoolOp .And (b :: ud) pos) tb) : PE X (.BoolOp .And (a :: b :: ud) pos) (qmm ta tb) := by
 intro pins s σ H Q I h
 refine BoolOp_and (thn (ha pins s σ H _ I h) fun v s1 ⟨x, H1, I1, r1, q1⟩ => ?_)
 obtain ⟨c, rfl, q1⟩ := q1
 cases r1
 refine wpAny_truthy_bool ?_
 cases c with
 | true => exact hb pins s1 σ H1 Q I1 q1
 | false => exact ⟨.bl false, H1, I1, rfl, q1⟩
theorem qmo (ha : PE X a ta) (hb : PE X (.BoolOp .Or (b :: ud) pos) tb) : PE X (.BoolOp .Or (a :: b :: ud) pos) (qnS ta tb) := by
 intro pins s σ H Q I h
 refine BoolOp_or (thn (ha pins s σ H _ I h) fun v s1 ⟨x, H1, I1, r1, q1⟩ => ?_)
 obtain ⟨c, rfl, q1⟩ := q1
 cases r1
 refine wpAny_truthy_bool ?_
 cases c with
 | false => exact hb pins s1 σ H1 Q I1 q1
 | true => exact ⟨.bl true, H1, I1, rfl, q1⟩
theorem qkr (ha : PE X a ta) : PE X (.UnaryOp .Not a pos) (qmn ta) := by
 intro pins s σ H Q I h
 refine UnaryOp_ (thn (ha pins s σ H _ I h) fun v s1 ⟨x, H1, I1, r1, q1⟩ => ?_)
 obtain ⟨c, rfl, q1⟩ := q1
 cases r1
 exact not_of (wpAny_truthy_bool ⟨.bl (!c), H1, I1, rfl, q1⟩)
def tIf (t : TT) (ta tb : TE) : TE := fun σ H Q => t σ H fun c H1 => if c = true then ta σ H1 Q else tb σ H1 Q
theorem qgU {c : Expr} (hc : PT X c tA) (ha : PE X a ta) (hb : PE X b tb) : PE X (.IfExp c a b pos) (tIf tA ta tb) := by
 intro pins s σ H Q I h
 refine wpAny_IfExp (thn (hc pins s σ H _ I h) fun d s1 ⟨H1, I1, q1⟩ => ?_)
 cases d with
 | true => exact ha pins s1 σ H1 Q I1 q1
 | false => exact hb pins s1 σ H1 Q I1 q1
end
end L2
namespace L2
open PySem PySem.Spec PyProof.Rows
def SqL (K : PySem.W.Frag) (H : Hp) (a : Addr) (xs : List V) : Prop :=
 Rd H a (.lst xs) \/
  ∃ (o : Obj) (its : Array Value) (n : Nat), K.lookup a = some o /\ o.cls = .type "list" /\ o.dict = none /\ o.data = .seq its n /\ its.size <= sizeLine /\ zh xs its.toList
def SqT (K : PySem.W.Frag) (H : Hp) (a : Addr) (xs : List V) : Prop :=
 Rd H a (.tup xs) \/
  ∃ (o : Obj) (its : Array Value) (n : Nat), K.lookup a = some o /\ o.cls = .type "tuple" /\ o.data = .seq its n /\ its.size <= sizeLine /\ zh xs its.toList
def qnT : Value -> Option V
 | .none => some .non
 | .bool b => some (.bl b)
 | .int i _ => some (.int i)
 | .str x _ => some (.str x)
 | .bytes b _ => some (.byt b)
 | .float b _ => some (.flt b)
 | .ref a => some (.ref a)
 | .type n => some (.ty n)
 | _ => none
theorem yp.abs {x : V} {u : Value} (r : yp x u) : qnT u = some x := by
 cases x with
 | non => cases r; rfl
 | bl _ => cases r; rfl
 | int _ => obtain ⟨t, rfl⟩ := r; rfl
 | str _ => obtain ⟨t, rfl⟩ := r; rfl
 | byt _ => obtain ⟨t, rfl⟩ := r; rfl
 | flt _ => obtain ⟨t, rfl⟩ := r; rfl
 | ref _ => cases r; rfl
 | ty _ => cases r; rfl
theorem yp.inj {x y : V} {u : Value} (r : yp x u) (q : yp y u) : x = y := Option.some.inj (r.abs.symm.trans q.abs)
theorem zh.inj : ∀ {xs ys : List V} {us : List Value}, zh xs us -> zh ys us -> xs = ys
 | _, _, _, .nil, .nil => rfl
 | _, _, _, .cons r t, .cons r' t' => by rw [r.inj r', zh.inj t t']
section
variable {X : Cx} {pins : List (Addr × Obj)} {σ : St} {H : Hp} {s : Shared} {a : Addr} {xs ys : List V}
theorem SqL.of {K : PySem.W.Frag} (h : H a = some (.lst xs)) : SqL K H a xs := .inl (.inl h)
theorem Inv.list (I : Inv X pins σ H s) (h : SqL X.K H a xs) : ∃ its : List Value, zh xs its /\ PlainL s.heap a its.toArray /\ xs.length <= sizeLine := by
 rcases h with h | ⟨o, its, n, hk, hc, hd, hs, hz, r⟩
 ·obtain ⟨z, its, n, r, e⟩ := h.ok I.hok
  exact ⟨its, r, ⟨_, n, e, rfl, rfl, rfl⟩, z⟩
 ·refine ⟨its.toList, r, ⟨o, n, I.kIn a o hk, hc, hd, by simpa using hs⟩, ?_⟩
  have e := r.length
  simp only [Array.length_toList] at e
  omega
theorem Inv.tuple (I : Inv X pins σ H s) (h : SqT X.K H a xs) : ∃ its : List Value, zh xs its /\ IsTup s.heap a its.toArray /\ xs.length <= sizeLine := by
 rcases h with h | ⟨o, its, n, hk, hc, hs, hz, r⟩
 ·obtain ⟨z, its, r, p⟩ := h.ok I.hok
  exact ⟨its, r, p, z⟩
 ·refine ⟨its.toList, r, ⟨o, I.kIn a o hk, hc, n, by simpa using hs⟩, ?_⟩
  have e := r.length
  simp only [Array.length_toList] at e
  omega
theorem Inv.list_inj (I : Inv X pins σ H s) (h : SqL X.K H a xs) (h' : SqL X.K H a ys) : xs = ys := by
 obtain ⟨its, r, ⟨o, n, e, _, _, d⟩, _⟩ := I.list h
 obtain ⟨its', r', ⟨o', n', e', _, _, d'⟩, _⟩ := I.list h'
 rw [e] at e'; cases e'
 rw [d] at d'
 injection d' with d1 _
 have : its = its' := by simpa using congrArg Array.toList d1
 subst this
 exact r.inj r'
theorem Inv.tuple_inj (I : Inv X pins σ H s) (h : SqT X.K H a xs) (h' : SqT X.K H a ys) : xs = ys := by
 obtain ⟨its, r, ⟨o, e, _, n, d⟩, _⟩ := I.tuple h
 obtain ⟨its', r', ⟨o', e', _, n', d'⟩, _⟩ := I.tuple h'
 rw [e] at e'; cases e'
 rw [d] at d'
 injection d' with d1 _
 have : its = its' := by simpa using congrArg Array.toList d1
 subst this
 exact r.inj r'
end
abbrev Cx.wish (X : Cx) (E : Value -> Shared -> Prop) : Cx := { X with xe := E }
abbrev Cx.nox (X : Cx) : Cx := X.wish fun _ _ => False
theorem Cx.Ok.wish {X : Cx} (ok : X.Ok) (E : Value -> Shared -> Prop) : (X.wish E).Ok :=
 ⟨ok.mod, ok.kind, ok.glob, ok.blt, ok.above, ok.inj, ok.has, ok.cab, ok.hd, ok.frames, ok.stk, ok.exf, ok.bs, ok.bsz, ok.noex, ok.exfs, ok.funs, ok.frf⟩
theorem Cx.Ok.unwish {X : Cx} {E : Value -> Shared -> Prop} (ok : (X.wish E).Ok) : X.Ok :=
 ⟨ok.mod, ok.kind, ok.glob, ok.blt, ok.above, ok.inj, ok.has, ok.cab, ok.hd, ok.frames, ok.stk, ok.exf, ok.bs, ok.bsz, ok.noex, ok.exfs, ok.funs, ok.frf⟩
section
variable {X : Cx} {pins : List (Addr × Obj)} {σ : St} {H : Hp} {s : Shared} {E : Value -> Shared -> Prop}
theorem Inv.wish (I : Inv X pins σ H s) (E : Value -> Shared -> Prop) : Inv (X.wish E) pins σ H s := ⟨I.ok.wish E, I.os, I.bare, I.base, I.loc, I.cell, I.free, I.freeC, I.pin, I.hok, I.len⟩
theorem Inv.unwish (I : Inv (X.wish E) pins σ H s) : Inv X pins σ H s := ⟨I.ok.unwish, I.os, I.bare, I.base, I.loc, I.cell, I.free, I.freeC, I.pin, I.hok, I.len⟩
theorem SP.unwish {D : qeR} {f : Flow} {s' : Shared} (h : SP (X.wish E) pins D f s') : SP X pins D f s' := by
 cases f with
 | next => obtain ⟨σ', H', I, q⟩ := h; exact ⟨σ', H', I.unwish, q⟩
 | brk => obtain ⟨σ', H', I, q⟩ := h; exact ⟨σ', H', I.unwish, q⟩
 | cont => obtain ⟨σ', H', I, q⟩ := h; exact ⟨σ', H', I.unwish, q⟩
 | ret u => obtain ⟨v, σ', H', I, r, q⟩ := h; exact ⟨v, σ', H', I.unwish, r, q⟩
theorem PE.nox {e : Expr} {t : TE} (h : PE X.nox e t) : PE X e t := fun pins s σ H Q I hw =>
 wpAny_mono (h pins s σ H Q (I.wish _) hw) (fun _ _ ⟨v, H', I', r, q⟩ => ⟨v, H', I'.unwish, r, q⟩) fun _ _ z => False.elim z
theorem PT.nox {e : Expr} {t : TT} (h : PT X.nox e t) : PT X e t := fun pins s σ H Q I hw =>
 wpAny_mono (h pins s σ H Q (I.wish _) hw) (fun _ _ ⟨H', I', q⟩ => ⟨H', I'.unwish, q⟩) fun _ _ z => False.elim z
theorem PSs.nox {st : List Stmt} {t : TS} (h : PSs X.nox st t) : PSs X st t := fun pins s σ H D I hw =>
 wpAny_mono (h pins s σ H D (I.wish _) hw) (fun _ _ q => q.unwish) fun _ _ z => False.elim z
end
section
variable {X : Cx} {st : Stmt} {ud : List Stmt} {t u : TS} {e : Expr} {te : TE} {pos : Pos}
def qmp : TS := fun D σ H => D.nx σ H
def qnU (t u : TS) : TS := fun D σ H => t { D with nx := u D } σ H
theorem qiW : PSs X [] qmp := fun _ _ σ H _ I h => wpAny_execs_nil ⟨σ, H, I, h⟩
theorem qgV (h1 : PS X st t) (h2 : PSs X ud u) : PSs X (st :: ud) (qnU t u) := by
 intro pins s σ H D I h
 refine wpAny_execs_cons (thn (h1 pins s σ H { D with nx := u D } I h) fun f s1 q => ?_)
 cases f with
 | next =>
  obtain ⟨σ', H', I', q⟩ := q
  exact h2 pins s1 σ' H' D I' q
 | ret v => exact q
 | brk => exact q
 | cont => exact q
theorem qcN (h1 : PS X st t) : PSs X [st] t := by
 intro pins s σ H D I h
 refine wpAny_execs_cons (thn (h1 pins s σ H D I h) fun f s1 q => ?_)
 cases f with
 | next => exact wpAny_execs_nil q
 | ret v => exact q
 | brk => exact q
 | cont => exact q
theorem Inv.quiet {pins : List (Addr × Obj)} {σ : St} {H : Hp} {s : Shared} (I : Inv X pins σ H s) : interactive X.env = false := by simp [interactive, I.ok.kind]
def qmq (te : TE) : TS := fun D σ H => te σ H fun _ H1 => D.nx σ H1
theorem qiX (he : PE X e te) (hs : swapsWith e none pos.line X.env = pure false := by rfl) : PS X (.Expr e pos) (qmq te) := by
 intro pins s σ H D I h
 exact wpAny_Expr_any (thn (he pins s σ H _ I h) fun v s1 ⟨x, H1, I1, r1, q1⟩ => ⟨σ, H1, I1, q1⟩) I.quiet hs
def qnV (te : TE) : TS := fun D σ H => te σ H D.rt
theorem qdo (he : PE X e te) : PS X (.Return (some e) pos) (qnV te) := by
 intro pins s σ H D I h
 exact wpAny_Return_some (thn (he pins s σ H _ I h) fun v s1 ⟨x, H1, I1, r1, q1⟩ => ⟨x, σ, H1, I1, r1, q1⟩)
def qnW (c : TT) (t u : TS) : TS := fun D σ H => c σ H fun b H1 => if b = true then t D σ H1 else u D σ H1
theorem qmr {c : Expr} {a b : List Stmt} {tc : TT} (hc : PT X c tc) (ha : PSs X a t) (hb : PSs X b u) : PS X (.If c a b pos) (qnW tc t u) := by
 intro pins s σ H D I h
 refine wpAny_If (thn (hc pins s σ H _ I h) fun d s1 ⟨H1, I1, q1⟩ => ?_)
 cases d with
 | true => exact ha pins s1 σ H1 D I1 q1
 | false => exact hb pins s1 σ H1 D I1 q1
end
abbrev TG := V -> St -> Hp -> (St -> Hp -> Prop) -> Prop
abbrev TGs := List V -> St -> Hp -> (St -> Hp -> Prop) -> Prop
def PG (X : Cx) (target : Expr) (t : TG) : Prop :=
 ∀ (pins : List (Addr × Obj)) (s : Shared) (σ : St) (H : Hp) (v : V) (u : Value) (Q : St -> Hp -> Prop), Inv X pins σ H s -> yp v u -> t v σ H Q ->
  wpAny (model X.prog X.w) X.A (assign target X.env u) (fun _ s' => ∃ σ' H', Inv X pins σ' H' s' /\ Q σ' H') X.xe s
def PGs (X : Cx) (ts : List Expr) (t : TGs) : Prop :=
 ∀ (pins : List (Addr × Obj)) (s : Shared) (σ : St) (H : Hp) (vs : List V) (us : List Value) (Q : St -> Hp -> Prop), Inv X pins σ H s -> zh vs us -> t vs σ H Q ->
  wpAny (model X.prog X.w) X.A (assignInOrder ((assignEach ts X.env).map (·.2)) us) (fun _ s' => ∃ σ' H', Inv X pins σ' H' s' /\ Q σ' H') X.xe s
abbrev qms := V -> V -> V -> Hp -> (Hp -> Prop) -> Prop
def qnd (X : Cx) (t : qms) : Prop :=
 ∀ (pins : List (Addr × Obj)) (s : Shared) (σ : St) (H : Hp) (o i v : V) (ov iv u : Value) (Q : Hp -> Prop), Inv X pins σ H s -> yp o ov -> yp i iv -> yp v u -> t o i v H Q ->
  wpAny (model X.prog X.w) X.A (setItem ov iv u) (fun _ s' => ∃ H', Inv X pins σ H' s' /\ Q H') X.xe s
section
variable {X : Cx} {pos : Pos}
def qks (i : Nat) : TG := fun v σ H Q => Q (σ.set i (some v)) H
theorem qiY {i : Nat} {x : Str} (hN : X.N.Nodup) (hi : X.N[i]? = some x) (hx : Loc X.env.scope x) (hf : X.fn x = true \/ X.env.scope.names.lookup x = some .local := by first | exact .inl rfl | exact .inr rfl | assumption) : PG X (.Name x pos) (qks i) := by
 intro pins s σ H v u Q I r h
 exact wpAny_assign_Name (vK I hN hi hx r (fun s' I' => ⟨_, H, I', h⟩) hf)
def qnX : TGs := fun vs σ H Q => vs = [] /\ Q σ H
def qmt (t : TG) (u : TGs) : TGs := fun vs σ H Q => ∃ v r, vs = v :: r /\ t v σ H fun σ' H' => u r σ' H' Q
theorem qiZ : PGs X [] qnX := by
 intro pins s σ H vs us Q I r h
 obtain ⟨e, h⟩ := h
 subst e
 cases r
 exact assignInOrder_nil ⟨σ, H, I, h⟩
theorem qgW {e : Expr} {es : List Expr} {t : TG} {u : TGs} (h1 : PG X e t) (h2 : PGs X es u)
  (hs : (assignEach (e :: es) X.env).map (·.2) = assign e X.env :: (assignEach es X.env).map (·.2) := by rfl) : PGs X (e :: es) (qmt t u) := by
 intro pins s σ H vs us Q I r h
 obtain ⟨v, vr, e1, h⟩ := h
 subst e1
 cases r with
 | cons r rr =>
  rw [hs]
  refine assignInOrder_cons (thn (h1 pins s σ H _ _ _ I r h) fun _ s1 ⟨σ1, H1, I1, q1⟩ => ?_)
  exact h2 pins s1 σ1 H1 _ _ Q I1 rr q1
def qnY (K : PySem.W.Frag) (n : Nat) (t : TGs) : TG := fun v σ H Q => ∃ a xs, v = .ref a /\ SqT K H a xs /\ xs.length = n /\ t xs σ H Q
theorem qkt {es : List Expr} {k : Nat} {t : TGs} {n : Nat} (hc : X.calm = true) (h : PGs X es t)
  (hn : (assignEach es X.env).length = n := by rfl) (hst : (assignEach es X.env).findIdx? (·.1) = none := by rfl) : PG X (.Tuple es k pos) (qnY X.K n t) := by
 intro pins s σ H v u Q I r hw
 obtain ⟨a, xs, e1, hq, hl, hw⟩ := hw
 subst e1
 cases r
 obtain ⟨its, rv, ht, hz⟩ := I.tuple hq
 refine assign_Tuple_tuple (I.ok.hd hc) ht (by simp [hn, <- hl, rv.length]) hst fun h' hx => ?_
 have I1 : Inv X pins σ H { s with heap := h' } := I.kept (t' := s.toks) fun b o e => hx b o (Nat.ne_of_lt (Heap.lt_size e)) e
 exact h pins _ σ H xs _ Q I1 (by simpa using rv) hw
def qnZ (to ti : TE) (t : qms) : TG := fun v σ H Q => to σ H fun o H1 => ti σ H1 fun i H2 => t o i v H2 fun H3 => Q σ H3
theorem qku {o i : Expr} {to ti : TE} {t : qms} (ho : PE X o to) (hi : PE X i ti) (hs : qnd X t)
  (ha : ∀ v, assign (.Subscript o i pos) X.env v = (do
   let ov <- holding [v] (eval o X.env)
   let iv <- holding [v, ov] (eval i X.env)
   standAt pos
   holding [v, ov, iv] (setItem ov iv v)
   release [v, ov, iv] []) := by intro _; rfl) : PG X (.Subscript o i pos) (qnZ to ti t) := by
 intro pins s σ H v u Q I r h
 rw [ha]
 refine wpAny_bind (wpAny_holding (thn (ho pins s σ H _ I h) fun ov s1 ⟨x, H1, I1, r1, q1⟩ => ?_))
 refine wpAny_bind (wpAny_holding (thn (hi pins s1 σ H1 _ I1 q1) fun iv s2 ⟨y, H2, I2, r2, q2⟩ => ?_))
 refine wpAny_bind (wpAny_standAt (wpAny_bind (wpAny_holding (thn (hs pins s2 σ H2 x y v ov iv u _ I2 r1 r2 r q2) fun _ s3 ⟨H3, I3, q3⟩ => ?_))))
 exact wpAny_release ⟨σ, H3, I3, q3⟩
def qne (te : TE) (g : TG) : TS := fun D σ H => te σ H fun x H1 => g x σ H1 D.nx
theorem qh9 {tg e : Expr} {te : TE} {g : TG} (he : PE X e te) (hg : PG X tg g) (hs : swapsWithSole [tg] e pos.line X.env = pure false := by rfl) (hw : swappedStores [tg] e X.env = pure none := by rfl)
  (h1 : (assignEach [tg] X.env).map (·.2) = [assign tg X.env] := by rfl) : PS X (.Assign [tg] e pos) (qne te g) := by
 intro pins s σ H D I h
 refine wpAny_Assign_stores (thn (he pins s σ H _ I h) fun v s1 ⟨x, H1, I1, r1, q1⟩ => ?_) hs hw
 rw [h1]
 exact thn (hg pins s1 σ H1 x v _ I1 r1 q1) fun _ s2 q => q
theorem qia {i : Nat} {x : Str} {e : Expr} {te : TE} {pos' : Pos} (hN : X.N.Nodup) (hi : X.N[i]? = some x) (hx : Loc X.env.scope x) (he : PE X e te) (hs : swapsWith e (some (.Name x pos')) pos.line X.env = pure false := by rfl) (hf : X.fn x = true \/ X.env.scope.names.lookup x = some .local := by first | exact .inl rfl | exact .inr rfl | assumption) :
  PS X (.Assign [.Name x pos'] e pos) (qne te (qks i)) := by
 intro pins s σ H D I h
 refine wpAny_Assign_Name (thn (he pins s σ H _ I h) fun v s1 ⟨y, H1, I1, r1, q1⟩ => ?_) hs
 exact vK I1 hN hi hx r1 (fun s2 I2 => ⟨_, H1, I2, q1⟩) hf
end
section
variable {X : Cx} {pos : Pos}
def qkv (c : TT) (tb : TS) : TS := fun D σ H => ∃ W : Nat -> St -> Hp -> Prop, (∃ m, W m σ H) /\ ∀ m σ H, W m σ H ->
 c σ H fun b H1 => if b = true then ∃ N : St -> Hp -> Prop, (∀ σ' H', N σ' H' -> ∃ m', m' < m /\ W m' σ' H') /\ tb { D with nx := N, ct := N, bk := D.nx } σ H1 else D.nx σ H1
theorem qgX {c : Expr} {body : List Stmt} {tc : TT} {tb : TS} (hp : PassesOwn (model X.prog X.w) X.A X.env X.xe) (hc : PT X c tc) (hb : PSs X body tb) : PS X (.While c body [] pos) (qkv tc tb) := by
 intro pins s σ H D I h
 obtain ⟨W, ⟨m0, w0⟩, turn⟩ := h
 refine wpAny_While (codeAny_whileLoop (fun n s' => ∃ σ' H', Inv X pins σ' H' s' /\ W n σ' H') ?_ m0 ⟨σ, H, I, w0⟩)
 rintro n s1 ⟨σ1, H1, I1, w1⟩
 refine wpAny_passesOwn hp (thn (hc pins s1 σ1 H1 _ I1 (turn n σ1 H1 w1)) fun b s2 ⟨H2, I2, q2⟩ => ?_)
 cases b with
 | true =>
  obtain ⟨N, hN, q2⟩ := q2
  rw [if_pos rfl]
  refine wpAny_passesOwn hp (thn (hb pins s2 σ1 H2 _ I2 q2) fun f s3 q3 => ?_)
  cases f with
  | next =>
   obtain ⟨σ3, H3, I3, n3⟩ := q3
   obtain ⟨m', hm, w3⟩ := hN σ3 H3 n3
   exact ⟨m', hm, σ3, H3, I3, w3⟩
  | cont =>
   obtain ⟨σ3, H3, I3, n3⟩ := q3
   obtain ⟨m', hm, w3⟩ := hN σ3 H3 n3
   exact ⟨m', hm, σ3, H3, I3, w3⟩
  | brk => exact q3
  | ret v => exact q3
 | false =>
  rw [if_neg Bool.false_ne_true]
  exact wpAny_execs_nil ⟨σ1, H2, I2, q2⟩
end
structure It where
 go : Nat -> Hp -> Prop
 yld : Nat -> Hp -> V -> Hp -> Prop
 stop : Nat -> Hp -> Prop
def qbU (X : Cx) (pins : List (Addr × Obj)) (H : Hp) (b : Addr) : Prop :=
 H b = none /\ b ≠ X.env.locals /\ b ∉ X.fs /\ (b ∈ X.ex \/ X.s₀.heap.objs.size <= b) /\ (∀ x c, X.env.cells.lookup x = some c -> c ≠ b) /\ ∀ p ∈ X.pn ++ pins, p.1 ≠ b
theorem Inv.fpOk {X : Cx} {pins : List (Addr × Obj)} {σ : St} {H H' : Hp} {s : Shared} {b : Addr} (I : Inv X pins σ H s) (hb : s.heap.objs.size <= b) (hn : H' b = none) : qbU X pins H' b := by
 refine ⟨hn, Nat.ne_of_gt (Nat.lt_of_lt_of_le I.lt hb), I.nofs hb, .inr (Nat.le_trans I.sz hb), fun x c e z => ?_, fun p hp z => ?_⟩
 ·obtain ⟨v, q⟩ := I.cell x c e
  exact absurd (Nat.lt_of_lt_of_le q.lt (by rw [z]; exact hb)) (Nat.lt_irrefl _)
 ·exact absurd (Nat.lt_of_lt_of_le (Heap.lt_size (I.pin p hp).1) (by rw [z]; exact hb)) (Nat.lt_irrefl _)
structure qi0 (P : Program) (w : World) (K : PySem.W.Frag) (tg : Expr) (J : It) (fp : List Addr) (it : Addr) (tn : Nat -> Heap -> Prop) : Prop where
 mem : it ∈ fp
 obj : ∀ i h, tn i h -> ∀ b ∈ fp, ∃ o, h.get? b = some o /\ ∀ v, o.data ≠ .cell v
 keep : ∀ i h h', tn i h -> (∀ b ∈ fp, ∀ o, h.get? b = some o -> h'.get? b = some o) -> tn i h'
 item : ∀ (X : Cx), X.prog = P -> X.w = w -> X.K = K -> X.calm = true -> ∀ (i : Nat) (pins : List (Addr × Obj)) (s : Shared) (σ : St) (H : Hp) (E : Value -> Shared -> Prop), Inv X pins σ H s -> (∀ b ∈ fp, qbU X pins H b) -> tn i s.heap -> J.go i H ->
  wpAny (model P w) X.A (pyNext (.ref it)) (fun r s1 => ∃ u, r = some u /\
   wpAny (model P w) X.A (letOwnedTupleGo tg (.ref it) u) (fun _ s2 => ∃ x H', Inv X pins σ H' s2 /\ yp x u /\ J.yld i H x H' /\ tn (i + 1) s2.heap /\ ∀ b ∈ fp, H' b = none) E s1) E s
 done : ∀ (X : Cx), X.prog = P -> X.w = w -> X.K = K -> X.calm = true -> ∀ (i : Nat) (pins : List (Addr × Obj)) (s : Shared) (σ : St) (H : Hp) (E : Value -> Shared -> Prop), Inv X pins σ H s -> (∀ b ∈ fp, qbU X pins H b) -> tn i s.heap -> J.stop i H ->
  wpAny (model P w) X.A (pyNext (.ref it)) (fun r s1 => r = none /\ Inv X pins σ H s1) E s
 self : ∀ (A : Around) (i : Nat) (s : Shared) (Q : Value -> Shared -> Prop) (E : Value -> Shared -> Prop), tn i s.heap -> Q (.ref it) s -> wpAny (model P w) A (pyIter (.ref it)) Q E s
abbrev TI := St -> Hp -> (It -> Hp -> Prop) -> Prop
def PIE (X : Cx) (pins : List (Addr × Obj)) (σ : St) (tg : Expr) (R : It -> Hp -> Prop) (itv : Value) (s2 : Shared) : Prop :=
 ∃ (it : Addr) (fp : List Addr) (tn : Nat -> Heap -> Prop) (J : It) (H' : Hp), itv = .ref it /\ Inv X pins σ H' s2 /\ qi0 X.prog X.w X.K tg J fp it tn /\ tn 0 s2.heap /\ (∀ b ∈ fp, qbU X pins H' b) /\ R J H'
def PI (X : Cx) (tg iter : Expr) (wi : TI) : Prop :=
 ∀ (pins : List (Addr × Obj)) (s : Shared) (σ : St) (H : Hp) (R : It -> Hp -> Prop), Inv X pins σ H s -> wi σ H R ->
  wpAny (model X.prog X.w) X.A (eval iter X.env) (fun v s1 => wpAny (model X.prog X.w) X.A (pyIter v) (PIE X pins σ tg R) X.xe s1) X.xe s
theorem qeZ {M : Model} {A : Around} {E : Value -> Shared -> Prop} {s : Shared} {tg : Expr} {it : Addr} {u : Value} {o : Obj} {n : String} {vs : Array Value} {Q : Unit -> Shared -> Prop} (ho : s.heap.get? it = some o) (hc : o.cls = .type n) (hd : o.data = .fields vs)
  (hn : ["enumerate", "zip", "dict_itemiterator", "dict_reverseitemiterator", "odict_iterator", "itertools.zip_longest", "itertools.pairwise"].contains n = false) (hQ : Q () s) : wpAny M A (letOwnedTupleGo tg (.ref it) u) Q E s := by
 unfold letOwnedTupleGo
 cases tg <;> first
  | exact wpAny_pure hQ
  | (cases u <;> first
    | exact wpAny_pure hQ
    | (refine wpAny_bind (wpAny_load ho ?_)
       rw [hc, hd]
       show wpAny M A (if (["enumerate", "zip", "dict_itemiterator", "dict_reverseitemiterator", "odict_iterator", "itertools.zip_longest", "itertools.pairwise"].contains n && vs[0]? == some (rawInt _)) = true then _ else _) Q E s
       rw [if_neg (by intro h; rw [hn, Bool.false_and] at h; cases h)]
       exact wpAny_pure hQ))
def Itl (K : PySem.W.Frag) (a : Addr) : It :=
 ⟨fun i H => ∃ xs x, SqL K H a xs /\ xs[i]? = some x, fun i H x H' => H' = H /\ ∀ xs, SqL K H a xs -> xs[i]? = some x, fun i H => ∃ xs, SqL K H a xs /\ xs.length <= i⟩
def Itt (K : PySem.W.Frag) (a : Addr) : It :=
 ⟨fun i H => ∃ xs x, SqT K H a xs /\ xs[i]? = some x, fun i H x H' => H' = H /\ ∀ xs, SqT K H a xs -> xs[i]? = some x, fun i H => ∃ xs, SqT K H a xs /\ xs.length <= i⟩
def Itr (lo : Int) (n : Nat) : It := ⟨fun i _ => i < n, fun i H x H' => H' = H /\ x = .int (lo + i), fun i _ => n <= i⟩
theorem qe0 {P : Program} {w : World} {K : PySem.W.Frag} {tg : Expr} (a it : Addr) : qi0 P w K tg (Itl K a) [it] it (fun i h => h.IsListIter it a i) where
 mem := by simp
 obj := fun i h st b hb => by
  have e : b = it := by simpa using hb
  subst e
  obtain ⟨o, e, c, d⟩ := st
  exact ⟨o, e, fun v z => by rw [d] at z; cases z⟩
 keep := fun i h h' st k => st.at fun o e => k it (by simp) o e
 item := by
  intro X hP hw hK hc i pins s σ H E I hf st hg
  subst hP hw hK
  obtain ⟨xs, x, hq, hx⟩ := hg
  obtain ⟨its, rv, p, hz⟩ := I.list hq
  obtain ⟨u, hu, ru⟩ := rv.get hx
  obtain ⟨f0, f1, f2, f3, f4, f5⟩ := hf it (by simp)
  refine wpAny_pyNext_list_item st p.isList (x := u) (by simpa using hu) fun h' st' sb => ?_
  have I1 : Inv X pins σ H { s with heap := h' } := I.turned (t' := s.toks) (fun b o hb e => (sb.2 b hb).trans e) f0 f1 f3 f4 f5
  obtain ⟨o, e, c, d⟩ := id st'
  exact ⟨u, rfl, qeZ (s := { s with heap := h' }) e c d (by decide) ⟨x, H, I1, ru, ⟨rfl, fun ys hy => by rw [I.list_inj hy hq]; exact hx⟩, st', fun b hb => (hf b hb).1⟩⟩
 done := by
  intro X hP hw hK hc i pins s σ H E I hf st hg
  subst hP hw hK
  obtain ⟨xs, hq, hx⟩ := hg
  obtain ⟨its, rv, p, hz⟩ := I.list hq
  obtain ⟨f0, f1, f2, f3, f4, f5⟩ := hf it (by simp)
  have hl := rv.length
  exact wpAny_pyNext_list_end (I.ok.hd hc) st p.isList (by simp; omega) fun h' eb => ⟨rfl, I.turned (t' := s.toks) (fun b o hb e => eb b o hb e) f0 f1 f3 f4 f5⟩
 self := fun _ _ _ _ _ st h => wpAny_pyIter_listiter st h
theorem qef {P : Program} {w : World} {K : PySem.W.Frag} {tg : Expr} (a it : Addr) : qi0 P w K tg (Itt K a) [it] it (fun i h => h.IsTupleIter it a i) where
 mem := by simp
 obj := fun i h st b hb => by
  have e : b = it := by simpa using hb
  subst e
  obtain ⟨o, e, c, d⟩ := st
  exact ⟨o, e, fun v z => by rw [d] at z; cases z⟩
 keep := fun i h h' st k => st.at fun o e => k it (by simp) o e
 item := by
  intro X hP hw hK hc i pins s σ H E I hf st hg
  subst hP hw hK
  obtain ⟨xs, x, hq, hx⟩ := hg
  obtain ⟨its, rv, p, hz⟩ := I.tuple hq
  obtain ⟨u, hu, ru⟩ := rv.get hx
  obtain ⟨f0, f1, f2, f3, f4, f5⟩ := hf it (by simp)
  refine wpAny_pyNext_tuple_item st (show s.heap.IsTuple a its.toArray from p) (x := u) (by simpa using hu) fun h' st' sb => ?_
  have I1 : Inv X pins σ H { s with heap := h' } := I.turned (t' := s.toks) (fun b o hb e => (sb.2 b hb).trans e) f0 f1 f3 f4 f5
  obtain ⟨o, e, c, d⟩ := id st'
  exact ⟨u, rfl, qeZ (s := { s with heap := h' }) e c d (by decide) ⟨x, H, I1, ru, ⟨rfl, fun ys hy => by rw [I.tuple_inj hy hq]; exact hx⟩, st', fun b hb => (hf b hb).1⟩⟩
 done := by
  intro X hP hw hK hc i pins s σ H E I hf st hg
  subst hP hw hK
  obtain ⟨xs, hq, hx⟩ := hg
  obtain ⟨its, rv, p, hz⟩ := I.tuple hq
  obtain ⟨f0, f1, f2, f3, f4, f5⟩ := hf it (by simp)
  have hl := rv.length
  exact wpAny_pyNext_tuple_end (I.ok.hd hc) st (show s.heap.IsTuple a its.toArray from p) (by simp; omega) fun h' eb => ⟨rfl, I.turned (t' := s.toks) (fun b o hb e => eb b o hb e) f0 f1 f3 f4 f5⟩
 self := fun _ _ _ _ _ st h => wpAny_pyIter_tupleiter st h
theorem qeg {P : Program} {w : World} {K : PySem.W.Frag} {tg : Expr} (it : Addr) (lo : Int) (n : Nat) : qi0 P w K tg (Itr lo n) [it] it (fun i h => IsRangeIter h it (lo + (i : Nat) * 1) ((n : Int) - (i : Nat)) 1) where
 mem := by simp
 obj := fun i h st b hb => by
  have e : b = it := by simpa using hb
  subst e
  exact ⟨_, st, fun v z => by
   have z' : Data.fields _ = Data.cell v := z
   cases z'⟩
 keep := fun i h h' st k => k it (by simp) _ st
 item := by
  intro X hP hw hK hc i pins s σ H E I hf st hg
  subst hP hw hK
  obtain ⟨f0, f1, f2, f3, f4, f5⟩ := hf it (by simp)
  have W := Walks.range (prog := X.prog) (w := X.w) (I.ok.hd hc) it lo 1 n
  refine W.item i s _ _ hg st fun v h' tk hv st' kk => ?_
  obtain ⟨t, rfl⟩ := hv
  have I1 : Inv X pins σ H { s with heap := h', toks := tk } := I.turned (fun b o hb e => kk b o (by simpa using hb) e) f0 f1 f3 f4 f5
  refine ⟨_, rfl, qeZ (s := { s with heap := h', toks := tk }) (n := "range_iterator") st' rfl rfl (by decide) ⟨.int (lo + i), H, I1, ⟨t, ?_⟩, ⟨rfl, rfl⟩, st', fun b hb => (hf b hb).1⟩⟩
  rw [Int.mul_one]
 done := by
  intro X hP hw hK hc i pins s σ H E I hf st hg
  subst hP hw hK
  obtain ⟨f0, f1, f2, f3, f4, f5⟩ := hf it (by simp)
  exact wpAny_pyNext_range_end (I.ok.hd hc) st (by have : n <= i := hg; omega) fun h' eb => ⟨rfl, I.turned (t' := s.toks) (fun b o hb e => eb b o hb e) f0 f1 f3 f4 f5⟩
 self := fun _ _ _ _ _ st h => wpAny_pyIter_rangeiter st h
end L2
namespace L2
open PySem PySem.Spec PyProof.Rows
section
variable {X : Cx} {tg : Expr}
theorem qdp {pins : List (Addr × Obj)} {σ : St} {H : Hp} {s : Shared} {R : It -> Hp -> Prop} {E : Value -> Shared -> Prop} {lo hi : Int} {t u v : Tok} {tk : Nat} (I : Inv X pins σ H s) (h1 : -(2 ^ 62) <= lo) (h2 : lo < 2 ^ 62) (h3 : -(2 ^ 62) <= hi) (h4 : hi < 2 ^ 62)
  (q : R (Itr lo (hi - lo).toNat) H) : wpAny (model X.prog X.w) X.A (pyIter (.ref s.heap.objs.size)) (PIE X pins σ tg R) E { s with heap := s.heap.push { cls := .type "range", data := .fields #[.int lo t, .int hi u, .int 1 v] }, toks := tk } := by
 refine wpAny_pyIter_range (IsRange.new ..) (small_one h1 h2 h3 h4) ?_
 have I1 : Inv X pins σ H { s with heap := s.heap.push { cls := .type "range", data := .fields #[.int lo t, .int hi u, .int 1 v] }, toks := tk } := I.kept fun b o e => Heap.get?_push_of_some _ e
 refine ⟨(s.heap.push { cls := .type "range", data := .fields #[.int lo t, .int hi u, .int 1 v] }).objs.size, [(s.heap.push { cls := .type "range", data := .fields #[.int lo t, .int hi u, .int 1 v] }).objs.size], _, _, H, rfl,
  I1.kept (t' := tk) fun b o e => Heap.get?_push_of_some _ e, qeg _ lo (hi - lo).toNat, ?_, fun b hb => ?_, q⟩
 ·have e1 : lo + ((0 : Nat) : Int) * 1 = lo := by simp
  have e2 : (((hi - lo).toNat : Nat) : Int) - ((0 : Nat) : Int) = Builtin.Range.rangeSize lo hi 1 := by rw [rangeSize_one]; split <;> omega
  show IsRangeIter _ _ (lo + ((0 : Nat) : Int) * 1) ((((hi - lo).toNat : Nat) : Int) - ((0 : Nat) : Int)) 1
  rw [e1, e2]
  exact Heap.get?_push_size _ rfl
 ·have e : b = (s.heap.push { cls := .type "range", data := .fields #[.int lo t, .int hi u, .int 1 v] }).objs.size := by simpa using hb
  subst e
  exact I1.fpOk (Nat.le_refl _) (I1.hok.fresh (Nat.le_refl _))
def qkw (ta : TA) : TI := fun σ H R => ta σ H fun vs H1 => ∃ j : Int, vs = [.int j] /\ -(2 ^ 62) <= j /\ j < 2 ^ 62 /\ R (Itr 0 j.toNat) H1
def qmu (ta : TA) : TI := fun σ H R => ta σ H fun vs H1 => ∃ i j : Int, vs = [.int i, .int j] /\ (-(2 ^ 62) <= i /\ i < 2 ^ 62 /\ -(2 ^ 62) <= j /\ j < 2 ^ 62) /\ R (Itr i (j - i).toNat) H1
theorem qe1 {a : Expr} {ta : TA} {p pos : Pos} (hg : Gl X "range") (hm : X.mg "range" = none) (ha : PA X [a] ta) (hs : starEach [a] X.env = [(false, eval a X.env)] := by rfl) : PI X tg (.Call (.Name "range" p) [a] [] pos) (qkw ta) := by
 intro pins s σ H R I h
 refine Call_ (vo I hg hm boot_range (PyProof.Rows.callWith_type1 (thn (ha pos pins s σ H _ I h) fun us s1 ⟨vs, H1, I1, r1, q1⟩ => ?_) hs rfl))
 obtain ⟨j, e, q1, q2, q⟩ := q1
 subst e
 cases r1 with
 | cons r rr =>
  cases rr
  obtain ⟨t, rfl⟩ := r
  exact call_range_1 (qdp I1 (by omega) (by omega) q1 q2 (by simpa using q))
theorem qe2 {a b : Expr} {ta : TA} {p pos : Pos} (hg : Gl X "range") (hm : X.mg "range" = none) (ha : PA X [a, b] ta) (hs : starEach [a, b] X.env = [(false, eval a X.env), (false, eval b X.env)] := by rfl) (hs2 : starEach [b] X.env = [(false, eval b X.env)] := by rfl) :
  PI X tg (.Call (.Name "range" p) [a, b] [] pos) (qmu ta) := by
 intro pins s σ H R I h
 refine Call_ (vo I hg hm boot_range (PyProof.Rows.callWith_type1 (thn (ha pos pins s σ H _ I h) fun us s1 ⟨vs, H1, I1, r1, q1⟩ => ?_) (by rw [hs, hs2]) (by rw [hs2]; rfl)))
 obtain ⟨i, j, e, ⟨q1, q2, q3, q4⟩, q⟩ := q1
 subst e
 cases r1 with
 | cons r rr =>
  cases rr with
  | cons r' rr =>
   cases rr
   obtain ⟨t, rfl⟩ := r
   obtain ⟨t', rfl⟩ := r'
   exact call_range_2 (qdp I1 q1 q2 q3 q4 q)
def qn0 (wi : TI) (g : TG) (tb : TS) : TS := fun D σ H => wi σ H fun J H1 => ∃ W : Nat -> Nat -> St -> Hp -> Prop, (∃ m, W 0 m σ H1) /\ ∀ i m σ H, W i m σ H ->
 (J.stop i H /\ D.nx σ H) \/ (J.go i H /\ ∃ N : St -> Hp -> Prop, (∀ σ' H', N σ' H' -> ∃ m', m' < m /\ W (i + 1) m' σ' H') /\ ∀ x H', J.yld i H x H' -> g x σ H' fun σ2 H2 => tb { D with nx := N, ct := N, bk := D.nx } σ2 H2)
def qaU (fp : List Addr) (h : Heap) : List (Addr × Obj) := fp.filterMap fun b => (h.get? b).map fun o => (b, o)
theorem yQ {fp : List Addr} {h : Heap} {b : Addr} {o : Obj} (hb : b ∈ fp) (e : h.get? b = some o) : (b, o) ∈ qaU fp h := List.mem_filterMap.mpr ⟨b, hb, by rw [e]; rfl⟩
theorem qe3 {fp : List Addr} {h : Heap} {p : Addr × Obj} (hp : p ∈ qaU fp h) : p.1 ∈ fp /\ h.get? p.1 = some p.2 := by
 obtain ⟨b, hb, e⟩ := List.mem_filterMap.mp hp
 cases q : h.get? b with
 | none => rw [q] at e; cases e
 | some o =>
  rw [q] at e
  have e' : (b, o) = p := Option.some.inj e
  subst e'
  exact ⟨hb, q⟩
theorem Inv.pinned {pins : List (Addr × Obj)} {σ : St} {H : Hp} {s : Shared} {fp : List Addr} (I : Inv X pins σ H s) (hf : ∀ b ∈ fp, qbU X pins H b) (ho : ∀ b ∈ fp, ∃ o, s.heap.get? b = some o /\ ∀ v, o.data ≠ .cell v) : Inv X (pins ++ qaU fp s.heap) σ H s :=
 I.pins_of fun p hp => (List.mem_append.mp hp).elim (fun z => I.pin p (List.mem_append_right _ z)) fun z => by
  obtain ⟨hb, e⟩ := qe3 z
  obtain ⟨f0, f1, f2, _⟩ := hf p.1 hb
  obtain ⟨o, e', d⟩ := ho p.1 hb
  rw [e] at e'; cases e'
  exact ⟨e, f0, f1, f2, d⟩
theorem Inv.unpinned {pins pl : List (Addr × Obj)} {σ : St} {H : Hp} {s : Shared} (I : Inv X (pins ++ pl) σ H s) : Inv X pins σ H s := I.pins_of fun p hp => I.pin p (List.mem_append_right _ (List.mem_append_left _ hp))
theorem qkx {iter : Expr} {body : List Stmt} {wi : TI} {g : TG} {tb : TS} {pos : Pos} (hp : PassesOwn (model X.prog X.w) X.A X.env X.xe) (hc : X.calm = true) (hi : PI X tg iter wi) (hg : PG X tg g) (hb : PSs X body tb)
  (hs : ∀ x, foldedSetIterable iter X.env x = pure x := by intro _; rfl) : PS X (.For tg iter body [] pos) (qn0 wi g tb) := by
 intro pins s σ H D I h
 refine wpAny_For (thn (hi pins s σ H _ I h) fun v s1 h1 => thn h1 fun itv s2 h2 => ?_) hs
 obtain ⟨it, fp, tn, J, H2, e, I2, T, st2, f2, W, ⟨m0, w0⟩, turn⟩ := h2
 subst e
 have stat : ∀ {H' : Hp}, (∀ b ∈ fp, H' b = none) -> ∀ b ∈ fp, qbU X pins H' b := fun hn b hb => ⟨hn b hb, (f2 b hb).2⟩
 refine codeAny_forLoop_any (fun n s' => ∃ i σ' H', Inv X pins σ' H' s' /\ tn i s'.heap /\ (∀ b ∈ fp, H' b = none) /\ W i n σ' H') ?_ m0 ⟨0, σ, H2, I2, st2, fun b hb => (f2 b hb).1, w0⟩
 rintro n s3 ⟨i, σ3, H3, I3, st3, fr3, w3⟩
 rcases turn i n σ3 H3 w3 with ⟨stop, qn⟩ | ⟨go, N, hN, step⟩
 ·refine wpAny_passesOwn hp (thn (T.done X rfl rfl rfl hc i pins s3 σ3 H3 X.xe I3 (stat fr3) st3 stop) fun r s4 ⟨hr, I4⟩ => ?_)
  subst hr
  exact wpAny_execs_nil ⟨σ3, H3, I4, qn⟩
 ·refine wpAny_passesOwn hp (thn (T.item X rfl rfl rfl hc i pins s3 σ3 H3 X.xe I3 (stat fr3) st3 go) fun r s4 ⟨u, hr, h4⟩ => ?_)
  subst hr
  refine wpAny_passesOwn hp (thn h4 fun _ s5 ⟨x, H5, I5, r5, y5, st5, fr5⟩ => ?_)
  have I5' := I5.pinned (stat fr5) (T.obj _ _ st5)
  refine wpAny_passesOwn hp (thn (hg _ s5 σ3 H5 x u _ I5' r5 (step x H5 y5)) fun _ s6 ⟨σ6, H6, I6, q6⟩ => ?_)
  refine wpAny_passesOwn hp (thn (hb _ s6 σ6 H6 _ I6 q6) fun f s7 q7 => ?_)
  have again : ∀ {σ7 : St} {H7 : Hp}, Inv X (pins ++ qaU fp s5.heap) σ7 H7 s7 -> N σ7 H7 -> ∃ m, m < n /\ ∃ i σ' H', Inv X pins σ' H' s7 /\ tn i s7.heap /\ (∀ b ∈ fp, H' b = none) /\ W i m σ' H' := fun {σ7 H7} I7 n7 => by
   obtain ⟨m', hm, w7⟩ := hN σ7 H7 n7
   refine ⟨m', hm, i + 1, σ7, H7, I7.unpinned, T.keep _ _ _ st5 fun b hb o e => (I7.pin (b, o) (List.mem_append_right _ (List.mem_append_right _ (yQ hb e)))).1, fun b hb => ?_, w7⟩
   obtain ⟨o, e, d⟩ := T.obj _ _ st5 b hb
   exact (I7.pin (b, o) (List.mem_append_right _ (List.mem_append_right _ (yQ hb e)))).2.1
  cases f with
  | next => obtain ⟨σ7, H7, I7, n7⟩ := q7; exact again I7 n7
  | cont => obtain ⟨σ7, H7, I7, n7⟩ := q7; exact again I7 n7
  | brk => obtain ⟨σ7, H7, I7, q7⟩ := q7; exact ⟨σ7, H7, I7.unpinned, q7⟩
  | ret v => obtain ⟨x7, σ7, H7, I7, r7, q7⟩ := q7; exact ⟨x7, σ7, H7, I7.unpinned, r7, q7⟩
end
end L2
namespace L2
open PySem PySem.Spec PyProof.Rows
abbrev R2 := V -> V -> Hp -> VK -> Prop
def OpR (X : Cx) (f : Value -> Value -> Sem Value) (r : R2) : Prop :=
 ∀ (pins : List (Addr × Obj)) (s : Shared) (σ : St) (H : Hp) (x y : V) (v u : Value) (Q : VK), Inv X pins σ H s -> yp x v -> yp y u -> r x y H Q ->
  wpAny (model X.prog X.w) X.A (f v u) (EP X pins σ Q) X.xe s
def UnR (X : Cx) (f : Value -> Sem Value) (r : V -> Hp -> VK -> Prop) : Prop :=
 ∀ (pins : List (Addr × Obj)) (s : Shared) (σ : St) (H : Hp) (x : V) (v : Value) (Q : VK), Inv X pins σ H s -> yp x v -> r x H Q ->
  wpAny (model X.prog X.w) X.A (f v) (EP X pins σ Q) X.xe s
def yJ (X : Cx) (f : Value) (r : List V -> Hp -> VK -> Prop) : Prop :=
 ∀ (pins : List (Addr × Obj)) (s : Shared) (σ : St) (H : Hp) (xs : List V) (us : List Value) (Q : VK), Inv X pins σ H s -> zh xs us -> r xs H Q ->
  wpAny (model X.prog X.w) X.A (call f us) (EP X pins σ Q) X.xe s
def tOp (r : R2) (ta tb : TE) : TE := fun σ H Q => ta σ H fun x H1 => tb σ H1 fun y H2 => r x y H2 Q
def tUn (r : V -> Hp -> VK -> Prop) (ta : TE) : TE := fun σ H Q => ta σ H fun x H1 => r x H1 Q
def rI (C : Int -> Int -> Prop) (g : Int -> Int -> V) : R2 := fun x y H Q => ∃ i j, x = .int i /\ y = .int j /\ C i j /\ Q (g i j) H
def rI0 (g : Int -> Int -> V) : R2 := fun x y H Q => ∃ i j, x = .int i /\ y = .int j /\ Q (g i j) H
def rU (g : Int -> V) : V -> Hp -> VK -> Prop := fun x H Q => ∃ i, x = .int i /\ Q (g i) H
section
variable {X : Cx} {a b c : Expr} {ta tb tc : TE} {pos : Pos}
theorem qmv (ha : PE X a ta) (hb : PE X b tb) {pins : List (Addr × Obj)} {s : Shared} {σ : St} {H : Hp} {R : V -> V -> Hp -> Prop} (I : Inv X pins σ H s)
  (h : ta σ H fun x H1 => tb σ H1 fun y H2 => R x y H2) {Q : Value -> Shared -> Prop} {f : Value -> Value -> Sem Value}
  (hf : ∀ v u s2 x y H2, Inv X pins σ H2 s2 -> yp x v -> yp y u -> R x y H2 -> wpAny (model X.prog X.w) X.A (f v u) Q X.xe s2) :
  wpAny (model X.prog X.w) X.A (eval a X.env) (fun v s₁ => wpAny (model X.prog X.w) X.A (eval b X.env) (fun u s₂ => wpAny (model X.prog X.w) X.A (f v u) Q X.xe s₂) X.xe s₁) X.xe s := by
 refine thn (ha pins s σ H _ I h) fun v s1 ⟨x, H1, I1, r1, q1⟩ => ?_
 refine thn (hb pins s1 σ H1 _ I1 q1) fun u s2 ⟨y, H2, I2, r2, q2⟩ => ?_
 exact hf v u s2 x y H2 I2 r1 r2 q2
theorem qmw {op : Operator} {r : R2} (ho : OpR X (binaryOp op) r) (ha : PE X a ta) (hb : PE X b tb) : PE X (.BinOp a op b pos) (tOp r ta tb) := by
 intro pins s σ H Q I h
 exact wpAny_BinOp (qmv ha hb I h fun v u s2 x y H2 I2 rx ry q => ho pins s2 σ H2 x y v u Q I2 rx ry q)
theorem qmx {op : UnaryOp} {r : V -> Hp -> VK -> Prop} (ho : UnR X (unaryOp op) r) (ha : PE X a ta) : PE X (.UnaryOp op a pos) (tUn r ta) := by
 intro pins s σ H Q I h
 exact UnaryOp_ (thn (ha pins s σ H _ I h) fun v s1 ⟨x, H1, I1, r1, q1⟩ => ho pins s1 σ H1 x v Q I1 r1 q1)
theorem opI {f : Value -> Value -> Sem Value} {C : Int -> Int -> Prop} {g : Int -> Int -> Int}
  (rule : ∀ (i j : Int) (t u : Tok) (s : Shared) (Q : Value -> Shared -> Prop) (E : Value -> Shared -> Prop), C i j -> Q (.int (g i j) s.toks) { s with toks := s.toks + 1 } -> wpAny (model X.prog X.w) X.A (f (.int i t) (.int j u)) Q E s) :
  OpR X f (rI C fun i j => .int (g i j)) := by
 intro pins s σ H x y v u Q I rx ry h
 obtain ⟨i, j, rfl, rfl, hc, q⟩ := h
 obtain ⟨t, rfl⟩ := rx
 obtain ⟨t', rfl⟩ := ry
 exact rule i j t t' s _ _ hc ⟨.int (g i j), H, I.tok _, ⟨_, rfl⟩, q⟩
theorem qnf {f : Value -> Value -> Sem Value} {g : Int -> Int -> Int}
  (rule : ∀ (i j : Int) (t u : Tok) (s : Shared) (Q : Value -> Shared -> Prop) (E : Value -> Shared -> Prop), Q (.int (g i j) s.toks) { s with toks := s.toks + 1 } -> wpAny (model X.prog X.w) X.A (f (.int i t) (.int j u)) Q E s) :
  OpR X f (rI0 fun i j => .int (g i j)) := by
 intro pins s σ H x y v u Q I rx ry h
 obtain ⟨i, j, rfl, rfl, q⟩ := h
 obtain ⟨t, rfl⟩ := rx
 obtain ⟨t', rfl⟩ := ry
 exact rule i j t t' s _ _ ⟨.int (g i j), H, I.tok _, ⟨_, rfl⟩, q⟩
theorem ql9 {f : Value -> Value -> Sem Value} {g : Int -> Int -> Bool}
  (rule : ∀ (i j : Int) (t u : Tok) (s : Shared) (Q : Value -> Shared -> Prop) (E : Value -> Shared -> Prop), Q (.bool (g i j)) s -> wpAny (model X.prog X.w) X.A (f (.int i t) (.int j u)) Q E s) :
  OpR X f (rI0 fun i j => .bl (g i j)) := by
 intro pins s σ H x y v u Q I rx ry h
 obtain ⟨i, j, rfl, rfl, q⟩ := h
 obtain ⟨t, rfl⟩ := rx
 obtain ⟨t', rfl⟩ := ry
 exact rule i j t t' s _ _ ⟨.bl (g i j), H, I, rfl, q⟩
def qky (i j : Int) : Prop := 0 < j /\ j < 1606938044258990275541962092341162602522202993782792835301376
theorem qng {i j : Int} (h1 : 0 < j) (h2 : j < 1606938044258990275541962092341162602522202993782792835301376) : Builtin.divisionGoesByPylong i j = false := by
 refine PyProof.noPylong_of_log2 ?_
 have h0 : j.natAbs ≠ 0 := by omega
 have h3 : j.natAbs < 2 ^ 200 := by
   have : (2 : Nat) ^ 200 = 1606938044258990275541962092341162602522202993782792835301376 := by decide +kernel
   omega
 have := (Nat.log2_lt h0).mpr h3
 omega
def qkz (i j : Int) : Prop := (-(2 ^ 64) < i /\ i < 2 ^ 64) \/ (-(2 ^ 64) < j /\ j < 2 ^ 64)
theorem qkz.ok {i j : Int} (h : qkz i j) : IntMulOk i j := by
 rcases h with ⟨h1, h2⟩ | ⟨h1, h2⟩
 ·exact .of_left (intBits_le_64 h1 h2)
 ·exact .of_right (intBits_le_64 h1 h2)
theorem qkA : OpR X (binaryOp .Add) (rI0 fun i j => .int (i + j)) := qnf fun _ _ _ _ _ _ _ q => add_int q
theorem qe4 : OpR X (binaryOp .Sub) (rI0 fun i j => .int (i - j)) := qnf fun _ _ _ _ _ _ _ q => sub_int q
theorem qkB : OpR X (binaryOp .Mult) (rI qkz fun i j => .int (i * j)) := opI fun _ _ _ _ _ _ _ hc q => mul_int q hc.ok
theorem qe5 : OpR X (binaryOp .FloorDiv) (rI qky fun i j => .int (i / j)) := opI fun i j _ _ _ _ _ hc q => by
 have h1 : (0 : Int) < j := hc.1
 have h2 : j < 1606938044258990275541962092341162602522202993782792835301376 := hc.2
 exact floordiv_int (by omega) (by rw [Int.fdiv_eq_ediv_of_nonneg i (by omega)]; exact q) (.inl (qng h1 h2))
theorem qaV : OpR X (binaryOp .Mod) (rI (fun _ j => 0 < j) fun i j => .int (i % j)) := opI fun i j _ _ _ _ _ hc q => by
 have h1 : (0 : Int) < j := hc
 exact mod_int' (by omega) (by rw [Int.fmod_eq_emod_of_nonneg i (by omega)]; exact q)
theorem unI {f : Value -> Sem Value} {g : Int -> Int}
  (rule : ∀ (i : Int) (t : Tok) (s : Shared) (Q : Value -> Shared -> Prop) (E : Value -> Shared -> Prop), Q (.int (g i) s.toks) { s with toks := s.toks + 1 } -> wpAny (model X.prog X.w) X.A (f (.int i t)) Q E s) :
  UnR X f (rU fun i => .int (g i)) := by
 intro pins s σ H x v Q I rx h
 obtain ⟨i, rfl, q⟩ := h
 obtain ⟨t, rfl⟩ := rx
 exact rule i t s _ _ ⟨.int (g i), H, I.tok _, ⟨_, rfl⟩, q⟩
theorem qkC : UnR X (unaryOp .USub) (rU fun i => .int (-i)) := unI fun _ _ _ _ _ q => neg_int q
end
def qmy : V -> V -> Bool
 | .non, .non => true | .non, .int _ => true | .int _, .non => true | .non, .bl _ => true | .bl _, .non => true | .non, .str _ => true | .str _, .non => true
 | .int _, .int _ => true | .bl _, .bl _ => true | .str _, .str _ => true | .byt _, .byt _ => true
 | .int _, .str _ => true | .str _, .int _ => true | .bl _, .str _ => true | .str _, .bl _ => true
 | _, _ => false
def rEq : R2 := fun x y H Q => qmy x y = true /\ Q (.bl (decide (x = y))) H
def rNe : R2 := fun x y H Q => qmy x y = true /\ Q (.bl (!decide (x = y))) H
theorem qe6 {i j : Int} : decide (V.int i = V.int j) = (i == j) := by
 rw [Bool.eq_iff_iff]
 simp
theorem qib {i j : Bool} : decide (V.bl i = V.bl j) = (i == j) := by
 rw [Bool.eq_iff_iff]
 simp
theorem qe7 {i j : Str} : decide (V.str i = V.str j) = (i == j) := by
 rw [Bool.eq_iff_iff]
 simp
theorem qe8 {i j : Array UInt8} : decide (V.byt i = V.byt j) = (i.toList == j.toList) := by
 rw [Bool.eq_iff_iff]
 cases i
 cases j
 simp
section
variable {X : Cx} {a b c : Expr} {ta tb tc : TE} {pos : Pos}
theorem ze {pins : List (Addr × Obj)} {σ : St} {H : Hp} {s : Shared} {Q : VK} {k k' : Bool} (I : Inv X pins σ H s) (q : Q (.bl k) H) (e : k = k') : EP X pins σ Q (.bool k') s := by
 subst e
 exact ⟨.bl k, H, I, rfl, q⟩
theorem qkD : OpR X (compareOp .Eq) rEq := by
 intro pins s σ H x y v u Q I rx ry h
 obtain ⟨hs, q⟩ := h
 cases x with
 | non =>
  cases rx
  cases y with
  | non => cases ry; exact PySem.EqNone.eq_none_none (ze I q (by simp))
  | bl j => cases ry; exact PySem.EqNone.eq_none_bool (ze I q (by simp))
  | int j => obtain ⟨t', rfl⟩ := ry; exact PySem.EqNone.eq_none_int (ze I q (by simp))
  | str j => obtain ⟨t', rfl⟩ := ry; exact PySem.EqNone.eq_none_str (ze I q (by simp))
  | _ => exact absurd (show false = true from hs) Bool.false_ne_true
 | bl i =>
  cases rx
  cases y with
  | non => cases ry; exact PySem.EqNone.eq_bool_none (ze I q (by simp))
  | bl j => cases ry; exact eq_bool (ze I q qib)
  | str j => obtain ⟨t', rfl⟩ := ry; exact PySem.EqMixed.eq_bool_str (ze I q (by simp))
  | _ => exact absurd (show false = true from hs) Bool.false_ne_true
 | int i =>
  obtain ⟨t, rfl⟩ := rx
  cases y with
  | non => cases ry; exact PySem.EqNone.eq_int_none (ze I q (by simp))
  | int j => obtain ⟨t', rfl⟩ := ry; exact eq_int (ze I q qe6)
  | str j => obtain ⟨t', rfl⟩ := ry; exact PySem.EqMixed.eq_int_str (ze I q (by simp))
  | _ => exact absurd (show false = true from hs) Bool.false_ne_true
 | str i =>
  obtain ⟨t, rfl⟩ := rx
  cases y with
  | non => cases ry; exact PySem.EqNone.eq_str_none (ze I q (by simp))
  | bl j => cases ry; exact PySem.EqMixed.eq_str_bool (ze I q (by simp))
  | int j => obtain ⟨t', rfl⟩ := ry; exact PySem.EqMixed.eq_str_int (ze I q (by simp))
  | str j => obtain ⟨t', rfl⟩ := ry; exact eq_str (ze I q qe7)
  | _ => exact absurd (show false = true from hs) Bool.false_ne_true
 | byt i =>
  obtain ⟨t, rfl⟩ := rx
  cases y with
  | byt j => obtain ⟨t', rfl⟩ := ry; exact PySem.W.eq_bytes (ze I q qe8)
  | _ => exact absurd (show false = true from hs) Bool.false_ne_true
 | _ => cases y <;> exact absurd (show false = true from hs) Bool.false_ne_true
theorem qmz : OpR X (compareOp .NotEq) rNe := by
 intro pins s σ H x y v u Q I rx ry h
 obtain ⟨hs, q⟩ := h
 cases x with
 | non =>
  cases rx
  cases y with
  | non => cases ry; exact PySem.EqNone.ne_none_none (ze I q (by simp))
  | bl j => cases ry; exact PySem.EqNone.ne_none_bool (ze I q (by simp))
  | int j => obtain ⟨t', rfl⟩ := ry; exact PySem.EqNone.ne_none_int (ze I q (by simp))
  | str j => obtain ⟨t', rfl⟩ := ry; exact PySem.EqNone.ne_none_str (ze I q (by simp))
  | _ => exact absurd (show false = true from hs) Bool.false_ne_true
 | bl i =>
  cases rx
  cases y with
  | non => cases ry; exact PySem.EqNone.ne_bool_none (ze I q (by simp))
  | bl j => cases ry; exact ne_bool (ze I q (congrArg not qib))
  | str j => obtain ⟨t', rfl⟩ := ry; exact PySem.EqMixed.ne_bool_str (ze I q (by simp))
  | _ => exact absurd (show false = true from hs) Bool.false_ne_true
 | int i =>
  obtain ⟨t, rfl⟩ := rx
  cases y with
  | non => cases ry; exact PySem.EqNone.ne_int_none (ze I q (by simp))
  | int j => obtain ⟨t', rfl⟩ := ry; exact ne_int (ze I q (congrArg not qe6))
  | str j => obtain ⟨t', rfl⟩ := ry; exact PySem.EqMixed.ne_int_str (ze I q (by simp))
  | _ => exact absurd (show false = true from hs) Bool.false_ne_true
 | str i =>
  obtain ⟨t, rfl⟩ := rx
  cases y with
  | non => cases ry; exact PySem.EqNone.ne_str_none (ze I q (by simp))
  | bl j => cases ry; exact PySem.EqMixed.ne_str_bool (ze I q (by simp))
  | int j => obtain ⟨t', rfl⟩ := ry; exact PySem.EqMixed.ne_str_int (ze I q (by simp))
  | str j => obtain ⟨t', rfl⟩ := ry; exact ne_str (ze I q (congrArg not qe7))
  | _ => exact absurd (show false = true from hs) Bool.false_ne_true
 | byt i =>
  obtain ⟨t, rfl⟩ := rx
  cases y with
  | byt j => obtain ⟨t', rfl⟩ := ry; exact PySem.W.ne_bytes (ze I q (congrArg not qe8))
  | _ => exact absurd (show false = true from hs) Bool.false_ne_true
 | _ => cases y <;> exact absurd (show false = true from hs) Bool.false_ne_true
theorem qmA : OpR X (compareOp .Lt) (rI0 fun i j => .bl (decide (i < j))) := ql9 fun _ _ _ _ _ _ _ q => lt_int q
theorem qmB : OpR X (compareOp .LtE) (rI0 fun i j => .bl (decide (i <= j))) := ql9 fun _ _ _ _ _ _ _ q => le_int q
theorem qbV : OpR X (compareOp .Gt) (rI0 fun i j => .bl (decide (j < i))) := ql9 fun _ _ _ _ _ _ _ q => gt_int q
theorem qmC : OpR X (compareOp .GtE) (rI0 fun i j => .bl (decide (j <= i))) := ql9 fun _ _ _ _ _ _ _ q => ge_int q
theorem qdq : OpR X (compareOp .Is) (fun x y H Q => y = .non /\ Q (.bl (decide (x = .non))) H) := by
 intro pins s σ H x y v u Q I rx ry h
 obtain ⟨rfl, q⟩ := h
 cases ry
 refine is_none_gen (ze I q ?_)
 cases x <;> first
  | (cases rx; rfl)
  | (obtain ⟨t, rfl⟩ := rx; rfl)
theorem qi1 : OpR X (compareOp .IsNot) (fun x y H Q => y = .non /\ Q (.bl (!decide (x = .non))) H) := by
 intro pins s σ H x y v u Q I rx ry h
 obtain ⟨rfl, q⟩ := h
 cases ry
 refine isnot_none_gen (ze I q ?_)
 cases x <;> first
  | (cases rx; rfl)
  | (obtain ⟨t, rfl⟩ := rx; rfl)
theorem OpR.or {f : Value -> Value -> Sem Value} {r r' : R2} (h : OpR X f r) (h' : OpR X f r') : OpR X f (fun x y H Q => r x y H Q \/ r' x y H Q) := by
 intro pins s σ H x y v u Q I rx ry q
 rcases q with q | q
 ·exact h pins s σ H x y v u Q I rx ry q
 ·exact h' pins s σ H x y v u Q I rx ry q
theorem qN (b : Expr) {op : CmpOp} (h : op ≠ .In := by decide) (h2 : op ≠ .NotIn := by decide) : behindInMarks op b = false := by
 have e1 : (op == CmpOp.In) = false := by cases op <;> first | rfl | exact absurd rfl h
 have e2 : (op == CmpOp.NotIn) = false := by cases op <;> first | rfl | exact absurd rfl h2
 cases b <;> simp [behindInMarks, e1, e2]
theorem qi2 {op : CmpOp} {r : R2} (ho : OpR X (compareOp op) r) (ha : PE X a ta) (hb : PE X b tb) (hm : behindInMarks op b = false) : PE X (.Compare a [op] [b] pos) (tOp r ta tb) := by
 intro pins s σ H Q I h
 exact wpAny_Compare1 (qmv ha hb I h fun v u s2 x y H2 I2 rx ry q => ho pins s2 σ H2 x y v u Q I2 rx ry q) hm
def qmD (t : TE) : TT := fun σ H Q => t σ H fun x H' => ∃ k, x = .bl k /\ Q k H'
theorem qi3 {op : CmpOp} {r : R2} (ho : OpR X (compareOp op) r) (ha : PE X a ta) (hb : PE X b tb) (hm : behindInMarks op b = false) : PT X (.Compare a [op] [b] pos) (qmD (tOp r ta tb)) := by
 intro pins s σ H Q I h
 refine wpAny_isTrue_Compare1 (thn (ha pins s σ H _ I h) fun v s1 ⟨x, H1, I1, r1, q1⟩ => thn (hb pins s1 σ H1 _ I1 q1) fun u s2 ⟨y, H2, I2, r2, q2⟩ =>
  thn (ho pins s2 σ H2 x y v u _ I2 r1 r2 q2) fun c s3 ⟨z, H3, I3, r3, k, e, q3⟩ => ?_) hm
 subst e
 cases r3
 exact wpAny_truthy_bool ⟨H3, I3, q3⟩
theorem qac : (sizeLine : Nat) < 2 ^ 63 := by rw [sizeLine_eq]; decide
theorem qeh : OpR X (binaryOp .Add) (fun x y H Q => ∃ i j, x = .str i /\ y = .str j /\ i.length + j.length <= sizeLine /\ Q (.str (i ++ j)) H) := by
 intro pins s σ H x y v u Q I rx ry h
 obtain ⟨i, j, rfl, rfl, hz, q⟩ := h
 obtain ⟨t, rfl⟩ := rx
 obtain ⟨t', rfl⟩ := ry
 exact add_str (fun t' tk => ⟨.str (i ++ j), H, I.tok _, ⟨_, rfl⟩, q⟩) hz
theorem qi4 {x : V} {us : List Value} (r : zh [x] us) : ∃ u, us = [u] /\ yp x u := by
 cases r with
 | cons r1 r2 => cases r2; exact ⟨_, rfl, r1⟩
theorem qi5 {x y : V} {us : List Value} (r : zh [x, y] us) : ∃ u w', us = [u, w'] /\ yp x u /\ yp y w' := by
 cases r with
 | cons r1 r2 =>
  cases r2 with
  | cons r3 r4 => cases r4; exact ⟨_, _, rfl, r1, r3⟩
theorem qe9 (hc : X.calm = true) : yJ X (.builtin "max") (fun xs H Q => ∃ i j, xs = [.int i, .int j] /\ Q (.int (if j > i then j else i)) H) := by
 intro pins s σ H xs us Q I r h
 obtain ⟨i, j, rfl, q⟩ := h
 obtain ⟨u, w', rfl, ⟨t, rfl⟩, ⟨t', rfl⟩⟩ := qi5 r
 refine max_two_ints (I.ok.hd hc) fun h' tk k => ⟨_, H, I.kept k, ?_, q⟩
 by_cases hj : j > i
 ·rw [if_pos hj, if_pos hj]; exact ⟨_, rfl⟩
 ·rw [if_neg hj, if_neg hj]; exact ⟨_, rfl⟩
theorem qbW (hc : X.calm = true) : yJ X (.builtin "min") (fun xs H Q => ∃ i j, xs = [.int i, .int j] /\ Q (.int (if j < i then j else i)) H) := by
 intro pins s σ H xs us Q I r h
 obtain ⟨i, j, rfl, q⟩ := h
 obtain ⟨u, w', rfl, ⟨t, rfl⟩, ⟨t', rfl⟩⟩ := qi5 r
 refine min_two_ints (I.ok.hd hc) fun h' tk k => ⟨_, H, I.kept k, ?_, q⟩
 by_cases hj : j < i
 ·rw [if_pos hj, if_pos hj]; exact ⟨_, rfl⟩
 ·rw [if_neg hj, if_neg hj]; exact ⟨_, rfl⟩
theorem qcO : yJ X (.builtin "divmod") (fun xs H Q => ∃ i j, xs = [.int i, .int j] /\ qky i j /\ ∀ p, H p = none -> Q (.ref p) (upd H p (.tup [.int (i / j), .int (i % j)]))) := by
 intro pins s σ H xs us Q I r h
 obtain ⟨i, j, rfl, ⟨h1, h2⟩, q⟩ := h
 obtain ⟨u, w', rfl, ⟨t, rfl⟩, ⟨t', rfl⟩⟩ := qi5 r
 refine divmod_int (by omega) ?_ (.inl (qng h1 h2))
 rw [Int.fdiv_eq_ediv_of_nonneg i (by omega), Int.fmod_eq_emod_of_nonneg i (by omega)]
 have hn : H s.heap.objs.size = none := I.hok.fresh (Nat.le_refl _)
 refine ⟨.ref s.heap.objs.size, _, ?_, rfl, q _ hn⟩
 refine I.laid (fun b o e => Heap.get?_push_of_some _ e) (Nat.le_refl _) ⟨by simp only [List.length_cons, List.length_nil]; rw [sizeLine_eq]; decide, [.int (i / j) s.toks, .int (i % j) (s.toks + 1)], .cons ⟨_, rfl⟩ (.cons ⟨_, rfl⟩ .nil), ?_⟩
 exact ⟨_, Heap.get?_push_size s.heap rfl, rfl, 0, rfl⟩
end
end L2
namespace L2
open PySem PySem.Spec PyProof.Rows
structure qmE (h : Heap) (x dx C : Addr) (mA : Str -> Option Value) : Prop where
 obj : h.get? x = some (PySem.W.instObj C dx)
 ns : h.Ns1 dx mA
 ne : dx ≠ x
theorem qfa {h : Heap} {dx : Addr} {mA : Str -> Option Value} (n : h.Ns1 dx mA) : ∃ od, h.get? dx = some od /\ ∀ name, PySem.W.lookIn name od = some (mA name) := by
 obtain ⟨o, es, ep, ho, hd, hk, _, hm⟩ := n
 refine ⟨o, ho, fun name => ?_⟩
 have e := hm name
 unfold nsFind findBy at e
 rw [<- Array.find?_toList] at e
 unfold PySem.W.lookIn
 rw [hd]
 dsimp only
 split
 ·rename_i y q
  rw [q] at e
  exact congrArg some e
 ·rename_i q
  rw [q] at e
  have a : es.toList.any (·.refKey) = false := by
   rw [List.any_eq_false]
   intro y hy
   obtain ⟨z, t, hkey⟩ := hk y (Array.mem_toList_iff.mp hy)
   simp [DictEntry.refKey, hkey]
  have a' : ¬ es.toList.any (·.refKey) = true := by rw [a]; exact Bool.false_ne_true
  rw [if_neg a']
  exact congrArg some e
theorem qmE.look {h : Heap} {x dx C : Addr} {mA : Str -> Option Value} (I : qmE h x dx C mA) : ∃ od, PySem.W.InstAt h x (PySem.W.instObj C dx) C (some od) /\ ∀ name, PySem.W.lookIn name od = some (mA name) :=
 let ⟨od, ho, hl⟩ := qfa I.ns
 ⟨od, ⟨I.obj, rfl, rfl, ho⟩, hl⟩
section
variable {prog : Program} {w : World} {A : Around} {E : Value -> Shared -> Prop} {s : Shared} {K : PySem.W.Frag} {x dx C f : Addr} {mA : Str -> Option Value} {name : Str} {v : Value}
end
def qn1 (f : Str) (v : V) : List (Str × V) -> List (Str × V)
 | [] => [(f, v)]
 | (g, x) :: r => if g = f then (g, v) :: r else (g, x) :: qn1 f v r
section
variable {P : Program} {w : World} {H H' : Hp} {h h' : Heap} {a C dx : Addr} {fs fs' : List (Str × V)}
theorem qi6 (hok : HOk P w H h) (e : H a = some (.ins C dx fs)) : ∃ mA, qmE h a dx C mA /\ (∀ f, qmj (fs.lookup f) (mA f)) /\ PySem.Within mA (fs.map (·.1)) /\ fs.length <= 1000 /\ H dx = some (.own a) := by
 obtain ⟨d, z, ne, ob, mA, n, r, q⟩ := (show yX P w H h a (.ins C dx fs) from hok a _ e)
 exact ⟨mA, ⟨ob, n, ne⟩, r, q, z, d⟩
end
structure Cls (K : PySem.W.Frag) (C : Addr) : Prop where
 pg : PySem.W.plainGet K C Str.empty = true
 hd : PySem.W.hasDictIn K C = true
 po : PySem.W.plainOver K C = true
 sa : PySem.W.findIn K (.ref C) "__setattr__" = some (some (.builtin "object.__setattr__"))
theorem Cls.get {K : PySem.W.Frag} {C : Addr} (c : Cls K C) (f : Str) : PySem.W.plainGet K C f = true := c.pg
structure Con (K : PySem.W.Frag) (C : Addr) (f : Str) (v : V) (u : Value) : Prop where
 at_ : PySem.W.findIn K (.ref C) f = some (some u)
 rel : yp v u
 get : PySem.W.specialIn K u "__get__" = some none
 cp : PySem.W.copiedNames.contains f = false
structure qok (K : PySem.W.Frag) (C : Addr) (m : Str) (f : Addr) : Prop where
 at_ : PySem.W.findIn K (.ref C) m = some (some (.ref f))
 fn : PySem.W.isFn K (.ref f) = true
 kp : PySem.W.keepIn K (.ref f) = true
section
variable {X : Cx} {pins : List (Addr × Obj)} {σ : St} {H : Hp} {s : Shared} {a C dx : Addr} {fs : List (Str × V)} {f : Str} {v : V} {A : Around} {E : Value -> Shared -> Prop}
end
section
variable {X : Cx} {o e value : Expr} {f : Str} {pos pos' tpos : Pos} {ta tv : TE}
end
section
variable {X : Cx} {pins : List (Addr × Obj)} {σ : St} {H : Hp} {s : Shared} {A : Around} {E : Value -> Shared -> Prop} {Q : Value -> Shared -> Prop} {c : Value} {b : Bool}
inductive qeS (K : PySem.W.Frag) (H : Hp) : V -> Value -> Prop where
 | non : qeS K H .non (.type "NoneType")
 | bl (x : Bool) : qeS K H (.bl x) (.type "bool")
 | int (i : Int) : qeS K H (.int i) (.type "int")
 | str (x : Str) : qeS K H (.str x) (.type "str")
 | flt (x : UInt64) : qeS K H (.flt x) (.type "float")
 | lst {a : Addr} {xs : List V} (e : H a = some (.lst xs)) : qeS K H (.ref a) (.type "list")
 | frz {a : Addr} {o : Obj} {xs : List V} (e : H a = some (.frz o (.lst xs))) : qeS K H (.ref a) (.type "list")
 | tup {a : Addr} {xs : List V} (e : H a = some (.tup xs)) : qeS K H (.ref a) (.type "tuple")
 | dK {a : Addr} {kvs : List (Key × V)} (e : H a = some (.dK kvs)) : qeS K H (.ref a) (.type "dict")
 | dT {a : Addr} {kvs : List (List Key × V)} (e : H a = some (.dT kvs)) : qeS K H (.ref a) (.type "dict")
 | ins {a C dx : Addr} {fs : List (Str × V)} (e : H a = some (.ins C dx fs)) (cl : Cls K C) (ha : PySem.W.findIn K (.ref C) "__class__" = some (some (.builtin "object.__class__")))
   (hn : PySem.W.specialIn K (.builtin "object.__class__") "__get__" = some (some (.builtin "getset_descriptor.__get__"))) (htk : PySem.W.takesIn K (.builtin "object.__class__") = some true)
   (hm : PySem.W.mroIn K C (.type "object") = some true) : qeS K H (.ref a) (.ref C)
theorem uo {x : V} {u t : Value} (I : Inv X pins σ H s) (rx : yp x u) (ty : qeS X.K H x t) (e : PySem.W.kitOne X.K t c = some b) (h : ∀ tk, Q (.bool b) { s with toks := tk }) :
  wpAny (model X.prog X.w) A (call (.builtin "isinstance") [u, c]) Q E s := by
 cases ty with
 | non => cases (show u = Value.none from rx); exact PySem.W.kia_one PySem.W.kitx_none I.kIn True.intro e (fun z => nomatch z) h
 | bl y => cases (show u = Value.bool y from rx); exact PySem.W.kia_one PySem.W.kitx_bool I.kIn True.intro e (fun z => nomatch z) h
 | int i => obtain ⟨t, q⟩ := (show ∃ t, u = Value.int i t from rx); cases q; exact PySem.W.kia_one PySem.W.kitx_int I.kIn True.intro e (fun z => nomatch z) h
 | str y => obtain ⟨t, q⟩ := (show ∃ t, u = Value.str y t from rx); cases q; exact PySem.W.kia_one PySem.W.kitx_str I.kIn True.intro e (fun z => nomatch z) h
 | flt y => obtain ⟨t, q⟩ := (show ∃ t, u = Value.float y t from rx); cases q; exact PySem.W.kia_one PySem.W.kitx_float I.kIn True.intro e (fun z => nomatch z) h
 | @lst a xs ea =>
  cases (show u = Value.ref a from rx)
  obtain ⟨_, _, n, _, h1⟩ := (show yX X.prog X.w H s.heap a (.lst xs) from I.hok a _ ea)
  exact PySem.W.kia_one PySem.W.kitx_list I.kIn ⟨_, h1, rfl⟩ e (fun z => nomatch z) h
 | @frz a ob xs ea =>
  cases (show u = Value.ref a from rx)
  obtain ⟨_, _, _, n, _, h1⟩ := (show yX X.prog X.w H s.heap a (.frz ob (.lst xs)) from I.hok a _ ea)
  exact PySem.W.kia_one PySem.W.kitx_list I.kIn ⟨_, h1, rfl⟩ e (fun z => nomatch z) h
 | @tup a xs ea =>
  cases (show u = Value.ref a from rx)
  obtain ⟨_, _, _, p⟩ := (show yX X.prog X.w H s.heap a (.tup xs) from I.hok a _ ea)
  obtain ⟨o, h1, h2, _⟩ := p
  exact PySem.W.kia_one PySem.W.kitx_tuple I.kIn ⟨o, h1, h2⟩ e (fun z => nomatch z) h
 | @dK a kvs ea =>
  cases (show u = Value.ref a from rx)
  obtain ⟨_, _, vs, _, p⟩ := (show yX X.prog X.w H s.heap a (.dK kvs) from I.hok a _ ea)
  obtain ⟨o, es, ep, h1, h2, _⟩ := p
  exact PySem.W.kia_one PySem.W.kitx_dict I.kIn ⟨o, h1, h2.1⟩ e (fun z => nomatch z) h
 | @dT a kvs ea =>
  cases (show u = Value.ref a from rx)
  obtain ⟨_, _, xs, _, o, es, ep, h1, h2, _⟩ := (show yX X.prog X.w H s.heap a (.dT kvs) from I.hok a _ ea)
  exact PySem.W.kia_one PySem.W.kitx_dict I.kIn ⟨o, h1, h2.1⟩ e (fun z => nomatch z) h
 | @ins a C dx fs ea cl ha hn htk hm =>
  cases (show u = Value.ref a from rx)
  obtain ⟨mA, O, _⟩ := qi6 I.hok ea
  obtain ⟨od, J, _⟩ := O.look
  exact PySem.W.kia_one (PySem.W.kitx_own (cl.get _) cl.hd ha hn htk hm) I.kIn J e (fun z => nomatch z) h
end
end L2
namespace L2
open PySem PySem.Spec PyProof.Rows
structure uS (k : Nat) (A : Around) : Prop where
 hd : A.handled = none
 dp : A.depth + 3 * k + 5 < recursionLimit
 un : A.units + 16 * k + 200 < cLine
 gd : A.guards = some []
theorem uS.mono {j k : Nat} {A : Around} (r : uS k A) (h : j <= k) : uS j A := ⟨r.hd, by have := r.dp; omega, by have := r.un; omega, r.gd⟩
theorem uS.deeper {k : Nat} {A : Around} (r : uS (k + 1) A) (env : Env) : uS k (A.deeper env) :=
 ⟨r.hd, by have := r.dp; show A.depth + 1 + 3 * k + 5 < _; omega, by have := r.un; show A.units + 3 + 16 * k + 200 < _; omega, r.gd⟩
theorem uS.depth {k : Nat} {A : Around} (r : uS k A) : A.depth < recursionLimit := by have := r.dp; omega
theorem uS.units {k : Nat} {A : Around} (r : uS k A) : A.units + 64 < cLine := by have := r.un; omega
def qmF : TA := fun _ H Q => Q [] H
def qgY (ta : TE) (tr : TA) : TA := fun σ H Q => ta σ H fun x H1 => tr σ H1 fun xs H2 => Q (x :: xs) H2
section
variable {X : Cx} {e : Expr} {es : List Expr} {te : TE} {t : TA} {pos : Pos}
theorem wM : PA X [] qmF := fun _ _ _ _ H Q I h => Calls.spliced_nil ⟨[], H, I, .nil, h⟩
theorem j7 (ha : PE X e te) (hr : PA X es t) (hs : starEach (e :: es) X.env = (false, eval e X.env) :: starEach es X.env := by rfl) : PA X (e :: es) (qgY te t) := by
 intro pos pins s σ H Q I h
 rw [hs]
 show wpAny _ _ (spliced ((false, eval e X.env) :: backTo pos (starEach es X.env))) _ _ s
 refine Calls.spliced_cons (thn (ha pins s σ H _ I h) fun u s1 ⟨x, H1, I1, r1, q1⟩ => ?_)
 exact thn (hr pos pins s1 σ H1 _ I1 q1) fun us s2 ⟨xs, H2, I2, r2, q2⟩ => ⟨x :: xs, H2, I2, .cons r1 r2, q2⟩
def qn2 (t : TA) : TE := fun σ H Q => t σ H fun xs H1 => xs.length <= sizeLine /\ ∀ p, H1 p = none -> Q (.ref p) (upd H1 p (.tup xs))
def qn3 (t : TA) : TE := fun σ H Q => t σ H fun xs H1 => xs.length <= sizeLine /\ ∀ p, H1 p = none -> Q (.ref p) (upd H1 p (.lst xs))
theorem qkE {x1} (h : PA X es t) : PE X (.Tuple es x1 pos) (qn2 t) := by
 intro pins s σ H Q I hq
 refine wpAny_Tuple_spliced (thn (h pos pins s σ H _ I hq) fun us s1 ⟨xs, H1, I1, r, z, q⟩ => ⟨by rw [<- r.length]; exact z, ?_⟩)
 have hf : H1 s1.heap.objs.size = none := I1.hok.fresh (Nat.le_refl _)
 refine ⟨.ref s1.heap.objs.size, upd H1 s1.heap.objs.size (.tup xs), I1.laid (t' := s1.toks) (fun b u e => Heap.get?_push_of_some _ e) (Nat.le_refl _) ?_, rfl, q _ hf⟩
 exact ⟨z, us, r, ⟨_, Heap.get?_push_size _ rfl, rfl, _, rfl⟩⟩
theorem qfb (h : PA X es t) : PE X (.List es pos) (qn3 t) := by
 intro pins s σ H Q I hq
 refine wpAny_List_spliced (thn (h pos pins s σ H _ I hq) fun us s1 ⟨xs, H1, I1, r, z, q⟩ => ⟨by rw [<- r.length]; exact z, ?_⟩)
 have hf : H1 s1.heap.objs.size = none := I1.hok.fresh (Nat.le_refl _)
 refine ⟨.ref s1.heap.objs.size, upd H1 s1.heap.objs.size (.lst xs), I1.laid (t' := s1.toks) (fun b u e => Heap.get?_push_of_some _ e) (Nat.le_refl _) ?_, rfl, q _ hf⟩
 exact ⟨z, us, 0, r, Heap.get?_push_size _ rfl⟩
end
abbrev Sp := List V -> Hp -> VK -> XK -> Prop
abbrev CXT := List Env -> Hp -> Shared -> XK -> Value -> Shared -> Prop
structure qka (P : Program) (w : World) (K : PySem.W.Frag) (mg : Str -> Option Value) (base : Heap) (A : Around) (outer : List Env) (s : Shared) (H : Hp) : Prop where
 frames : A.frames = some outer
 mod : Mod K mg base
 bs : ∀ b o, base.get? b = some o -> s.heap.get? b = some o /\ H b = none
 bsz : base.objs.size <= s.heap.objs.size
 funs : s.heap.FunFrames base outer
 frf : ∀ b ∈ frs outer, H b = none
 hok : HOk P w H s.heap
 bare : AllBare s.gens
def CE (outer : List Env) (P : Program) (w : World) (H : Hp) (s : Shared) (Q : VK) (u : Value) (s' : Shared) : Prop :=
 ∃ v H', s'.os = s.os /\ AllBare s'.gens /\ Un (frs outer) [] H H' s.heap s'.heap /\ HOk P w H' s'.heap /\ yp v u /\ Q v H'
def CR (CX : CXT) (outer : List Env) (P : Program) (w : World) (H : Hp) (s : Shared) (Q : VK) (E : XK) (r : Result) (s' : Shared) : Prop :=
 match r with
 | .ok (.ret u) => CE outer P w H s Q u s'
 | .ok _ => False
 | .error e => CX outer H s E e s'
structure jX (P : Program) (w : World) (K : PySem.W.Frag) (mg : Str -> Option Value) (base : Heap) (CX : CXT) (k : Nat) (f : Addr) (fd : FuncData) (ps : List Str) (sp : Sp) : Prop where
 len : ∀ vs H Q E, sp vs H Q E -> vs.length = ps.length
 run : ∀ (A : Around) (outer : List Env) (s : Shared) (H : Hp) (args : Args) (us : List Value) (vs : List V) (Q : VK) (E : XK), uS k A -> qka P w K mg base A outer s H -> BindsTo s fd args (ps.zip us) -> zh vs us -> sp vs H Q E ->
  codeAny (model P w) A (.call (.ref f) args) (CR CX outer P w H s Q E) s
section
variable {X : Cx} {pins : List (Addr × Obj)} {σ : St} {H : Hp} {s s' : Shared}
theorem Inv.env0 (I : Inv X pins σ H s) : qka X.prog X.w X.K X.mg X.base X.A X.stack s H :=
 ⟨I.ok.frames, I.ok.mod, I.bs, Nat.le_trans I.ok.bsz I.sz, I.stack, I.stkFree, I.hok, I.bare⟩
theorem Inv.after {Q : VK} {u : Value} (I : Inv X pins σ H s) (h : CE X.stack X.prog X.w H s Q u s') : EP X pins σ Q u s' := by
 obtain ⟨v, H', os, bare, un, hok, r, q⟩ := h
 obtain ⟨hh, g, d, t, os'⟩ := s'
 obtain rfl : os' = s.os := os
 exact ⟨v, H', I.call (h' := hh) (g' := g) (d' := d) (t' := t) (ch := []) un hok bare (fun b z => absurd z (by simp)), r, q⟩
end
def qmG (sp : Sp) (dvs : List V) (E : XK) (t : TA) : TE := fun σ H Q => t σ H fun vs H1 => sp (vs ++ dvs) H1 Q E
def vn (K : PySem.W.Frag) (fd : FuncData) (ps : List Str) (ds : List Value) : Prop :=
 ∀ (s : Shared) (us : List Value), K.In s.heap -> (us ++ ds).length = ps.length -> BindsTo s fd ⟨us, []⟩ (ps.zip (us ++ ds))
theorem vn.all {K : PySem.W.Frag} {fd : FuncData} {ps : List Str} (h : ∀ us : List Value, us.length = ps.length -> bindArgs fd ⟨us, []⟩ = pure (ps.zip us)) : vn K fd ps [] := fun s us _ hl => by
 rw [List.append_nil] at hl |-
 exact .of_eq (h us hl)
def qad (CX : CXT) (X : Cx) (E : XK) : Prop := ∀ (pins : List (Addr × Obj)) (σ : St) (H : Hp) (s : Shared) (e : Value) (s' : Shared), Inv X pins σ H s -> CX X.stack H s E e s' -> X.xe e s'
section
variable {X : Cx} {CX : CXT} {k : Nat} {f C : Addr} {fd : FuncData} {ps : List Str} {sp : Sp} {dvs : List V} {ds : List Value} {E : XK} {x m : Str} {p pos apos : Pos} {e o : Expr} {es : List Expr} {ta : TE} {t : TA}
theorem qkF {pins : List (Addr × Obj)} {σ : St} {H : Hp} {s : Shared} {Q : VK} {us : List Value} {vs : List V} (F : jX X.prog X.w X.K X.mg X.base CX k f fd ps sp) (hr : uS k X.A) (hb : vn X.K fd ps ds) (hd : zh dvs ds) (hx : qad CX X E)
  (I : Inv X pins σ H s) (r : zh vs us) (h : sp (vs ++ dvs) H Q E) : wpAny (model X.prog X.w) X.A (call (.ref f) us) (EP X pins σ Q) X.xe s := by
 have r2 : zh (vs ++ dvs) (us ++ ds) := r.append hd
 have hl : (us ++ ds).length = ps.length := by rw [<- r2.length]; exact F.len _ _ _ _ h
 refine wpAny_call (codeAny_mono (F.run X.A X.stack s H ⟨us, []⟩ (us ++ ds) (vs ++ dvs) Q E hr I.env0 (hb s us I.kIn hl) r2 h) fun r s' hq => ?_)
 cases r with
 | error e => exact hx pins σ H s e s' I hq
 | ok fl =>
  cases fl with
  | ret u => exact I.after hq
  | next => exact False.elim hq
  | brk => exact False.elim hq
  | cont => exact False.elim hq
theorem qbf (F : jX X.prog X.w X.K X.mg X.base CX k f fd ps sp) (hr : uS k X.A) (hg : Gl X x) (hm : X.mg x = some (.ref f)) (hk : PySem.W.keepIn X.K (.ref f) = true) (hb : vn X.K fd ps ds) (hd : zh dvs ds) (hx : qad CX X E)
  (ha : PA X (e :: es) t) (hdb : (x == ("__debug__" : Str)) = false := by decide) (he : starEach (e :: es) X.env = (false, eval e X.env) :: starEach es X.env := by rfl) (hpl : (backTo pos (starEach es X.env)).any (·.1) = false := by rfl) :
  PE X (.Call (.Name x p) (e :: es) [] pos) (qmG sp dvs E t) := by
 intro pins s σ H Q I h
 refine wpAny_Call_Name_kw (qab I hg hm ?_ hdb)
 refine PySem.W.callWith_K (h₀ := X.base) I.ok.mod.kin hk (thn (ha pos pins s σ H _ I h) fun us s1 ⟨vs, H1, I1, r, q⟩ => ⟨I1.kIn, ?_⟩) he hpl
 exact qkF F hr hb hd hx I1 r q
structure Mk (K : PySem.W.Frag) (C f : Addr) : Prop where
 makes : PySem.W.makesIn K C = true
 init : PySem.W.findIn K (.ref C) "__init__" = some (some (.ref f))
 fn : PySem.W.isFn K (.ref f) = true
 kp : PySem.W.keepIn K (.ref C) = true
end
def PK (X : Cx) (kws : List Keyword) (t : TA) : Prop :=
 ∀ (pos : Pos) (pins : List (Addr × Obj)) (s : Shared) (σ : St) (H : Hp) (Q : List V -> Hp -> Prop), Inv X pins σ H s -> t σ H Q -> wpAny (model X.prog X.w) X.A (evalAll ((backToKw pos (keywordEach kws X.env)).map (·.2))) (AP X pins σ Q) X.xe s
section
variable {X : Cx} {CX : CXT} {k : Nat} {f C : Addr} {fd : FuncData} {ps ks : List Str} {sp : Sp} {E : XK} {x m : Str} {p pos apos kpos : Pos} {e o : Expr} {es : List Expr} {kws : List Keyword} {te ta : TE} {t tk : TA} {nm : Option Str}
theorem qkG : PK X [] qmF := fun _ _ _ _ H Q I h => wpAny_evalAll_nil ⟨[], H, I, .nil, h⟩
theorem qi7 (ha : PE X e te) (hr : PK X kws t) : PK X (⟨nm, e, kpos⟩ :: kws) (qgY te t) := by
 intro pos pins s σ H Q I h
 show wpAny _ _ (evalAll ((do let v <- eval e X.env; standAt pos; pure v) :: (backToKw pos (keywordEach kws X.env)).map (·.2))) _ _ s
 refine wpAny_evalAll_cons (wpAny_bind (thn (ha pins s σ H _ I h) fun u s1 ⟨x, H1, I1, r1, q1⟩ => wpAny_bind (wpAny_standAt (wpAny_pure ?_))))
 exact thn (hr pos pins s1 σ H1 _ I1 q1) fun us s2 ⟨xs, H2, I2, r2, q2⟩ => ⟨x :: xs, H2, I2, .cons r1 r2, q2⟩
variable {g : List Value -> List Value -> List Value} {gV : List V -> List V -> List V}
end
structure qp (N P : List Str) (sc : Scope) : Prop where
 kind : sc.kind = .function
 co : sc.isCoroutine = false
 gen : sc.isGenerator = false
 nd : N.Nodup
 pre : N.take P.length = P
 par : ∀ x ∈ P, sc.names.lookup x = some .local \/ sc.names.lookup x = some .cell
 nofree : ∀ y ∈ sc.names, y.2 ≠ .free
theorem qbX {kindOf : Str -> Option NameKind} {x : Str} : ∀ {binds : List (Str × Value)} {m : Str -> Option Value}, (∀ v, (x, v) ∉ binds) -> bindL kindOf binds m x = m x
 | [], _, _ => rfl
 | (n, v) :: r, m, h => by
  unfold bindL
  rw [qbX fun w hw => h w (List.mem_cons_of_mem _ hw)]
  split
  ·have : x ≠ n := by rintro rfl; exact h v List.mem_cons_self
   simp [this]
  ·rfl
theorem qbY {kindOf : Str -> Option NameKind} {x : Str} : ∀ {binds : List (Str × Value)} {m : Str -> Option Value}, (∀ v, (x, v) ∉ binds) -> bindC kindOf binds m x = m x
 | [], _, _ => rfl
 | (n, v) :: r, m, h => by
  unfold bindC
  rw [qbY fun w hw => h w (List.mem_cons_of_mem _ hw)]
  split
  ·rfl
  ·have : x ≠ n := by rintro rfl; exact h v List.mem_cons_self
   simp [this]
theorem qae {kindOf : Str -> Option NameKind} {x : Str} {v : Value} : ∀ {P : List Str} {vs : List Value} {i : Nat} {m : Str -> Option Value}, P.Nodup -> P[i]? = some x -> vs[i]? = some v -> kindOf x = some .local ->
  bindL kindOf (P.zip vs) m x = some v
 | [], _, _, _, _, h, _, _ => by simp at h
 | _ :: _, [], _, _, _, _, h, _ => by simp at h
 | p :: P, w :: vs, 0, m, nd, h1, h2, hk => by
  simp at h1 h2; subst h1; subst h2
  show bindL kindOf ((p, w) :: P.zip vs) m p = _
  unfold bindL
  rw [qbX fun v hv => (List.nodup_cons.mp nd).1 (List.of_mem_zip hv).1, if_pos hk]
  simp
 | p :: P, w :: vs, i + 1, m, nd, h1, h2, hk => by
  show bindL kindOf ((p, w) :: P.zip vs) m x = _
  unfold bindL
  exact qae (i := i) (List.nodup_cons.mp nd).2 (by simpa using h1) (by simpa using h2) hk
theorem qaf {kindOf : Str -> Option NameKind} {x : Str} {v : Value} : ∀ {P : List Str} {vs : List Value} {i : Nat} {m : Str -> Option Value}, P.Nodup -> P[i]? = some x -> vs[i]? = some v -> kindOf x ≠ some .local ->
  bindC kindOf (P.zip vs) m x = some v
 | [], _, _, _, _, h, _, _ => by simp at h
 | _ :: _, [], _, _, _, _, h, _ => by simp at h
 | p :: P, w :: vs, 0, m, nd, h1, h2, hk => by
  simp at h1 h2; subst h1; subst h2
  show bindC kindOf ((p, w) :: P.zip vs) m p = _
  unfold bindC
  rw [qbY fun v hv => (List.nodup_cons.mp nd).1 (List.of_mem_zip hv).1, if_neg hk]
  simp
 | p :: P, w :: vs, i + 1, m, nd, h1, h2, hk => by
  show bindC kindOf ((p, w) :: P.zip vs) m x = _
  unfold bindC
  exact qaf (i := i) (List.nodup_cons.mp nd).2 (by simpa using h1) (by simpa using h2) hk
def zY (N : List Str) (vs : List V) : St := vs.map some ++ List.replicate (N.length - vs.length) none
def qgM (CX : CXT) (P : Program) (w : World) (K : PySem.W.Frag) (mg : Str -> Option Value) (base : Heap) (N : List Str) (qual : Str) (scope : Scope) (f : Addr) (cd : Value) (A : Around) (outer : List Env) (s : Shared) (H : Hp) (E : XK) : Cx where
 prog := P
 w := w
 K := K
 mg := mg
 base := base
 A := A.deeper (envOfC qual scope s.heap.objs.size f cd)
 N := N
 s₀ := s
 H₀ := H
 env := envOfC qual scope s.heap.objs.size f cd
 outer := outer
 stack := envOfC qual scope s.heap.objs.size f cd :: outer
 ex := []
 calm := true
 fn := fun _ => true
 pn := []
 xe := fun e s' => wpAny (model P w) (A.deeper (envOfC qual scope s.heap.objs.size f cd)) (leaving (envOfC qual scope s.heap.objs.size f cd) e) (fun _ s'' => CX outer H s E e s'') (fun e' s'' => CX outer H s E e' s'') s'
theorem wX {sc : Scope} {n : Nat} {x : Str} (h : sc.names.lookup x = some .cell) : ∃ c, (cellsFrom n sc.names []).lookup x = some c := by
 have q := PySem.W.cellsFrom_some sc.names n [] (.inl h)
 exact Option.isSome_iff_exists.mp q
theorem qfc {CX : CXT} {P : Program} {w : World} {K : PySem.W.Frag} {mg : Str -> Option Value} {base : Heap} {N ps : List Str} {qual : Str} {scope : Scope} {f : Addr} {cd : Value} {A : Around} {outer : List Env} {s s1 : Shared} {H : Hp} {E : XK} {us : List Value} {vs : List V}
  (S : qp N ps scope) (hd : A.handled = none) (e0 : qka P w K mg base A outer s H) (hl : vs.length = ps.length) (r : zh vs us)
  (x : InCallC s s.heap.objs.size (bindL (envOfC qual scope s.heap.objs.size f cd).kindOf (ps.zip us) fun _ => none) (cellsFrom (s.heap.objs.size + 1) scope.names []) (bindC (envOfC qual scope s.heap.objs.size f cd).kindOf (ps.zip us) fun _ => none) s1) :
  Inv (qgM CX P w K mg base N qual scope f cd A outer s H E) [] (zY N vs) H s1 := by
 have hpl : ps.length <= N.length := by have := congrArg List.length S.pre; rw [List.length_take] at this; omega
 obtain ⟨h1, tk, rfl, hk⟩ := x.done
 have noA : ∀ b : Addr, b ∉ (qgM CX P w K mg base N qual scope f cd A outer s H E).ex := fun b z => absurd (show b ∈ ([] : List Addr) from z) (by simp)
 refine ⟨⟨e0.mod, S.kind, rfl, rfl, Nat.le_refl _, fun y z c h1 h2 => ?_, fun y hy => ?_, fun y c _ h => ?_, fun _ => hd, Around.frames_deeper e0.frames, .inr ⟨rfl, rfl⟩, fun b z => absurd z (noA b), e0.bs, e0.bsz, fun b _ _ => noA b, fun b z => absurd z (noA b), e0.funs, e0.frf⟩,
  rfl, e0.bare, Un.kept hk, ⟨_, x.toInCall.ns, fun i y v h1 h2 h3 => ?_⟩, fun y c h => ⟨_, x.cell y c h⟩, e0.hok.fresh (Nat.le_refl _), fun y c h => ?_, fun p hp => absurd (show p ∈ ([] : List (Addr × Obj)) from hp) (by simp), e0.hok.kept hk, ?_⟩
 ·exact name_of_addr x.apart (PySem.mem_of_lookup h1) (PySem.mem_of_lookup h2)
 ·have hy : scope.names.lookup y = some .cell \/ scope.names.lookup y = some .free := hy
  rcases hy with hy | hy
  ·exact wX hy
  ·exact absurd rfl (S.nofree _ (PySem.mem_of_lookup hy))
 ·exact Nat.le_of_lt (x.above y c (PySem.mem_of_lookup h))
 ·have hi : i < vs.length := by
   unfold zY at h2
   by_cases hi : i < vs.length
   ·exact hi
   ·rw [List.getElem?_append_right (by simpa using hi)] at h2
    rw [List.getElem?_replicate] at h2
    split at h2 <;> cases h2
  have ha : vs[i]? = some v := by
   unfold zY at h2
   rw [List.getElem?_append_left (by simpa using hi), List.getElem?_map] at h2
   cases e : vs[i]? with
   | none => rw [e] at h2; cases h2
   | some a => rw [e] at h2; cases h2; rfl
  obtain ⟨u, hu, rv⟩ := r.get ha
  have hp : ps[i]? = some y := by
   rw [<- S.pre, List.getElem?_take_of_lt (by omega)]; exact h1
  have ndP : ps.Nodup := by rw [<- S.pre]; exact S.nd.sublist (List.take_sublist _ _)
  refine ⟨u, rv, ?_⟩
  rcases S.par y (List.mem_of_getElem? hp) with k | k
  ·exact .inl ⟨k, qae ndP hp hu k⟩
  ·obtain ⟨c, e⟩ := wX (n := s.heap.objs.size + 1) k
   refine .inr ⟨.inl k, c, e, ?_⟩
   have q := x.cell y c e
   rw [qaf ndP hp hu (by show scope.names.lookup y ≠ _; rw [k]; decide)] at q
   exact q
 ·exact e0.hok.fresh (Nat.le_of_lt (x.above y c (PySem.mem_of_lookup h)))
 ·unfold zY
  show _ = N.length
  rw [List.length_append, List.length_map, List.length_replicate]
  omega
theorem qkH {CX : CXT} {P : Program} {w : World} {K : PySem.W.Frag} {mg : Str -> Option Value} {base : Heap} {k : Nat} {f : Addr} {name qual : Str} {params : Arguments} {body : List Stmt} {scope : Scope} {dV kV doc pm cdv ct oc : Value} {an od : Option Addr}
  {osl : Array (Option Value)} {N ps : List Str} {sp : Sp} (lk : K.lookup f = some ⟨oc, od, .func (PySem.W.fnOf name qual params body scope dV kV doc pm an cdv ct), osl⟩) (hcd : PySem.W.codeIn K cdv qual = true) (S : qp N ps scope)
  (len : ∀ vs H Q E, sp vs H Q E -> vs.length = ps.length)
  (hbody : ∀ (A : Around) (outer : List Env) (s : Shared) (H : Hp) (vs : List V) (Q : VK) (E : XK), uS k (A.deeper (envOfC qual scope s.heap.objs.size f cdv)) -> sp vs H Q E ->
   ∃ t, PSs (qgM CX P w K mg base N qual scope f cdv A outer s H E) body t /\ t { nx := fun _ H' => Q .non H', rt := Q } (zY N vs) H) :
  jX P w K mg base CX (k + 1) f (PySem.W.fnOf name qual params body scope dV kV doc pm an cdv ct) ps sp := by
 refine ⟨len, fun A outer s H args us vs Q E hr e0 hb r hsp => ?_⟩
 have hl := len _ _ _ _ hsp
 have KX : K.In s.heap := e0.mod.kin.keeps fun b o e => (e0.bs b o e).1
 have lim : s.heap.NoLimit := e0.mod.nolimit.keeps fun b o e => (e0.bs b o e).1
 have hkind : ∀ y ∈ ps.zip us, scope.names.lookup y.1 = some .local \/ (scope.names.lookup y.1 = some .cell /\ ((cellsFrom (s.heap.objs.size + 1) scope.names []).lookup y.1).isSome = true) := fun ⟨n, v⟩ hy => by
  rcases S.par n (List.of_mem_zip hy).1 with q | q
  ·exact .inl q
  ·exact .inr ⟨q, PySem.W.cellsFrom_some _ _ _ (.inl q)⟩
 refine codeAny_call_function hr.depth (KX _ _ lk) rfl S.co S.gen rfl (PySem.W.codeRec_of KX hcd) (hb _ _ _ _ ?_)
 refine wpAny_newFunctionEnv_cells S.kind hkind fun env he s1 x => ?_
 subst he
 refine ⟨lim.keeps x.toInCall.keep, codeAny_func ?_⟩
 obtain ⟨t, ht, hq⟩ := hbody A outer s H vs Q E (hr.deeper _) hsp
 have I : Inv (qgM CX P w K mg base N qual scope f cdv A outer s H E) [] (zY N vs) H s1 := qfc S hr.hd e0 hl r x
 refine wpAny_mono (ht [] s1 (zY N vs) H _ I hq) (fun fl s' hs => ?_) fun e s' hs => hs
 have fin : ∀ {σ' : St} {H' : Hp} {v : V} {u : Value}, Inv (qgM CX P w K mg base N qual scope f cdv A outer s H E) [] σ' H' s' -> yp v u -> Q v H' -> CE outer P w H s Q u s' :=
  fun {σ' H' v u} J rv q => ⟨v, H', J.os, J.bare, J.base, J.hok, rv, q⟩
 cases fl with
 | ret u =>
  obtain ⟨v, σ', H', J, rv, q⟩ := hs
  exact fin J rv q
 | next =>
  obtain ⟨σ', H', J, q⟩ := hs
  exact fin (v := V.non) (u := Value.none) J rfl q
 | brk =>
  obtain ⟨_, _, _, q⟩ := hs
  exact False.elim q
 | cont =>
  obtain ⟨_, _, _, q⟩ := hs
  exact False.elim q
end L2
namespace L2
open PySem PySem.Spec PyProof.Rows
section
variable {X : Cx} {x : Str} {p pos : Pos} {e : Expr} {es : List Expr} {t : TA} {id T : String} {r : List V -> Hp -> VK -> Prop}
def tCB (r : List V -> Hp -> VK -> Prop) (t : TA) : TE := fun σ H Q => t σ H fun vs H1 => r vs H1 Q
theorem wY (hc : yJ X (.builtin id) r) (hg : Gl X x) (hm : X.mg x = none) (hv : bootBuiltins x = some (.builtin id)) (ha : PA X (e :: es) t) (hn : x ≠ "__name__" := by decide) (hdb : (x == ("__debug__" : Str)) = false := by decide)
  (he : starEach (e :: es) X.env = (false, eval e X.env) :: starEach es X.env := by rfl) (hpl : (backTo pos (starEach es X.env)).any (·.1) = false := by rfl) : PE X (.Call (.Name x p) (e :: es) [] pos) (tCB r t) := by
 intro pins s σ H Q I h
 refine wpAny_Call_Name_kw (vo I hg hm hv ?_ hn hdb)
 exact PyProof.Rows.callWith_builtin1 (thn (ha pos pins s σ H _ I h) fun us s1 ⟨vs, H1, I1, r1, q1⟩ => hc pins s1 σ H1 vs us Q I1 r1 q1) he hpl
theorem qfd (hc : yJ X (.type T) r) (hg : Gl X x) (hm : X.mg x = none) (hv : bootBuiltins x = some (.type T)) (ha : PA X (e :: es) t) (hn : x ≠ "__name__" := by decide) (hdb : (x == ("__debug__" : Str)) = false := by decide)
  (he : starEach (e :: es) X.env = (false, eval e X.env) :: starEach es X.env := by rfl) (hpl : (backTo pos (starEach es X.env)).any (·.1) = false := by rfl) : PE X (.Call (.Name x p) (e :: es) [] pos) (tCB r t) := by
 intro pins s σ H Q I h
 refine wpAny_Call_Name_kw (vo I hg hm hv ?_ hn hdb)
 exact PyProof.Rows.callWith_type1 (thn (ha pos pins s σ H _ I h) fun us s1 ⟨vs, H1, I1, r1, q1⟩ => hc pins s1 σ H1 vs us Q I1 r1 q1) he hpl
end
end L2
namespace HT
open PySem PyProof.Rows
def lexLt : List Int -> List Int -> Bool
 | [], [] => false
 | [], _ :: _ => true
 | _ :: _, [] => false
 | x :: xs, y :: ys => if x = y then lexLt xs ys else decide (x < y)
theorem qei (x y : Int) (xs ys : List Int) : lexLt (x :: xs) (y :: ys) = if x = y then lexLt xs ys else decide (x < y) := rfl
theorem qbg : lexLt [] [] = false := rfl
theorem qaP (y : Int) (ys : List Int) : lexLt [] (y :: ys) = true := rfl
theorem qaQ (x : Int) (xs : List Int) : lexLt (x :: xs) [] = false := rfl
theorem qgZ (A : Around) (s : Shared) (a : Int) (t : Tok) (c : Int) (u : Tok) : ∃ e, SeqAt.EqAt A s (.int a t) (.int c u) e /\ (e = true ↔ a = c) :=
 ⟨(a == c), SeqAt.EqAt.int_int a t c u, by simp⟩
theorem qg0 (A : Around) (s : Shared) (a : Int) (t : Tok) (c : Int) (u : Tok) (prog : Program) (w : World) (E : Value -> Shared -> Prop) (Q : Value -> Shared -> Prop) (h : Q (.bool (decide (a < c))) s) :
  wpAny (model prog w) A (richCompare .Lt (.int a t) (.int c u)) Q E s :=
 (PyProof.Rows.lt_int h : wpAny (model prog w) A (compareOp .Lt (.int a t) (.int c u)) Q E s)
section
open PySem.SeqAt
open PySem.AutoSeq1 (wpAny_loadPart')
open PySem.MeetsSeq PySem.MeetsSeq2 PySem.MeetsSeq3
theorem qbh (l b : Addr) (items items2 : Array Value) (n n2 : Nat) (dd dd2 : Option Addr) (sl sl2 : Array (Option Value)) (ns ms : List Int) (hi : IntsAre items.toList ns) (hj : IntsAre items2.toList ms) :
  Meets (Builtin.«tuple.__lt__» ⟨[.ref l, .ref b], []⟩)
   (fun _ R s => s.heap.get? l = some { cls := .type "tuple", dict := dd, data := .seq items n, slots := sl } /\ s.heap.get? b = some { cls := .type "tuple", dict := dd2, data := .seq items2 n2, slots := sl2 } /\
    R (.ok (.ret (.bool (lexLt ns ms)))) s) :=
 .of_wp fun prog w A R s h => by
  obtain ⟨hp, g, d, tk, os⟩ := s; obtain ⟨hl, hb, h⟩ := h
  have f2 := AutoSeq1.sub_tuple_tuple
  have z1 : items.size = ns.length := by rw [<- hi.length]; simp
  have z2 : items2.size = ms.length := by rw [<- hj.length]; simp
  wp_walk using wpAny_loadPart' hl, wpAny_loadPart' hb, wpAny_forIn_list _ (fun ud b s' => b.1 = none /\ s' = ⟨hp, g, d, tk, os⟩ /\ ∃ (vs ws : List Value) (ns' ms' : List Int), ud = vs.zip ws /\
   IntsAre vs ns' /\ IntsAre ws ms' /\ ns'.length + items2.size = ms'.length + items.size /\ R (.ok (.ret (.bool (lexLt ns' ms')))) ⟨hp, g, d, tk, os⟩) _
  case turn =>
   rintro ⟨y, x⟩ ud b s' ⟨hb', rfl, vs, ws, ns', ms', hz, hvi, hwi, hlen, hR⟩
   cases hvi with
   | nil => rw [List.zip_nil_left] at hz; cases hz
   | cons a t hvi' =>
    cases hwi with
    | nil => rw [List.zip_nil_right] at hz; cases hz
    | cons c u hwi' =>
     rw [List.zip_cons_cons] at hz
     injection hz with hyx hrest
     injection hyx with hy hx
     subst hy hx
     rw [qei] at hR
     simp only [List.length_cons] at hlen
     obtain ⟨e, he, hiff⟩ := qgZ A.in1 ⟨hp, g, d, tk, os⟩ a t c u
     refine wpAny_bind (he prog w _ _ ?_)
     cases e with
     | true =>
      rw [if_pos (hiff.mp rfl)] at hR
      wp_walk
      exact ⟨rfl, rfl, _, _, _, _, hrest, hvi', hwi', by omega, hR⟩
     | false =>
      rw [if_neg (fun q => absurd (hiff.mpr q) Bool.false_ne_true)] at hR
      have hri := qg0 A.in1 ⟨hp, g, d, tk, os⟩ a t c u prog w
      wp_walk using hri
      exact ⟨_, rfl, by simpa using hR⟩
  case fin =>
   rintro ⟨b1, b2⟩ s' ⟨hb', rfl, vs, ws, ns', ms', hz, hvi, hwi, hlen, hR⟩
   simp only at hb'
   subst hb'
   have hv : lexLt ns' ms' = decide (items.size < items2.size) := by
    cases hvi with
    | nil =>
     cases hwi with
     | nil =>
      simp only [List.length_nil] at hlen
      rw [qbg]
      exact (decide_eq_false (by omega)).symm
     | cons c u hw =>
      simp only [List.length_nil, List.length_cons] at hlen
      rw [qaP]
      exact (decide_eq_true (by omega)).symm
    | cons a t hv =>
     cases hwi with
     | nil =>
      simp only [List.length_nil, List.length_cons] at hlen
      rw [qaQ]
      exact (decide_eq_false (by omega)).symm
     | cons c u hw =>
      rw [List.zip_cons_cons] at hz
      cases hz
   rw [hv] at hR
   wp_walk
   exact ⟨_, rfl, by simpa [Builtin.Tuple.tupleCompareSizes] using hR⟩
  case h =>
   exact ⟨rfl, rfl, items.toList, items2.toList, ns, ms, rfl, hi, hj, by omega, h⟩
end
section
variable {prog : Program} {w : World} {A : Around} {E : Value -> Shared -> Prop} {s : Shared}
theorem lt_tupInts {l b : Addr} {items items2 : Array Value} {ns ms : List Int} {Q : Value -> Shared -> Prop} (hl : IsTup s.heap l items) (hb : IsTup s.heap b items2) (hi : IntsAre items.toList ns) (hj : IntsAre items2.toList ms)
  (hu : A.units < cLine) (h : Q (.bool (lexLt ns ms)) s) : wpAny (model prog w) A (compareOp .Lt (.ref l) (.ref b)) Q E s := by
 obtain ⟨⟨cls, dd, data, sl⟩, ho, hc, n, hd⟩ := id hl
 obtain ⟨⟨cls2, dd2, data2, sl2⟩, ho2, hc2, n2, hd2⟩ := id hb
 simp only at hc hd hc2 hd2
 subst hc hd hc2 hd2
 exact richCompare_meets_room (op := .Lt) ⟨_, ho, rfl⟩ ⟨_, ho2, rfl⟩ PySem.F.slot_tuple_lt PySem.F.entry_tuple_lt (PySem.F.args_tuple_lt_2 _ _) (qbh l b items items2 n n2 dd dd2 sl sl2 ns ms hi hj)
  ⟨ho, ho2, show Value.bool (lexLt ns ms) ≠ Value.notImplemented /\ Q (.bool (lexLt ns ms)) s from ⟨(fun x => nomatch x), h⟩⟩ hu
theorem cat_tup {t b : Addr} {vs ws : List Value} {Q : Value -> Shared -> Prop} (ht : IsTup s.heap t vs.toArray) (hb : IsTup s.heap b ws.toArray) (hv : vs ≠ [])
  (h1 : ws = [] -> Q (.ref t) s) (h2 : ws ≠ [] -> Q (.ref s.heap.objs.size) { s with heap := s.heap.push { cls := .type "tuple", data := .seq (vs ++ ws).toArray } })
  (hsz : vs.length + ws.length <= sizeLine) : wpAny (model prog w) A (binaryOp .Add (.ref t) (.ref b)) Q E s := by
 obtain ⟨⟨cls, dd, data, sl⟩, ho, hc, n, hd⟩ := id ht
 obtain ⟨⟨cls2, dd2, data2, sl2⟩, ho2, hc2, n2, hd2⟩ := id hb
 simp only at hc hd hc2 hd2
 subst hc hd hc2 hd2
 have e : vs.toArray ++ ws.toArray = (vs ++ ws).toArray := by simp
 by_cases hw : ws = []
 ·exact concat_meets ⟨_, ho, rfl⟩ ⟨_, ho2, rfl⟩ noFill_tuple_add seq_tuple_add PySem.F.slot_tuple_add PySem.F.entry_tuple_add (PySem.F.args_tuple_add_2 _ _)
   (tuple_addW1 t b vs.toArray ws.toArray n n2 dd dd2 sl sl2 (by simpa using hv) (by simp [hw])) ⟨ho, ho2, h1 hw⟩
 ·refine concat_meets ⟨_, ho, rfl⟩ ⟨_, ho2, rfl⟩ noFill_tuple_add seq_tuple_add PySem.F.slot_tuple_add PySem.F.entry_tuple_add (PySem.F.args_tuple_add_2 _ _)
   (tuple_addW2 t b vs.toArray ws.toArray n n2 dd dd2 sl sl2 (by simpa using hv) (by simpa using hw) (by rw [List.size_toArray, List.size_toArray]; exact hsz)) ⟨ho, ho2, ?_⟩
  rw [e]
  exact h2 hw
def sIx (n d : Nat) : Option Int -> Nat
 | none => d
 | some v => if v < 0 then (v + (n : Int)).toNat else min v.toNat n
end
end HT
namespace L2
open PySem PySem.Spec PyProof.Rows
theorem yR {ns : List Int} : ∀ {us : List Value}, zh (ns.map V.int) us -> IntsAre us ns := by
 induction ns with
 | nil => intro us r; rw [List.map_nil] at r; cases r; exact .nil
 | cons n ns ih =>
  intro us r
  rw [List.map_cons] at r
  cases r with
  | cons r1 r2 =>
   obtain ⟨t, e⟩ := r1
   subst e
   exact .cons n t (ih r2)
section
variable {X : Cx} {e : Expr} {te : TE} {lo hi : Option Expr} {tl th : TO} {pos p2 : Pos}
def SlR (X : Cx) (r : V -> Option Int -> Option Int -> Hp -> VK -> Prop) : Prop :=
 ∀ (pins : List (Addr × Obj)) (s : Shared) (σ : St) (H : Hp) (x : V) (v vl vu : Value) (lo hi : Option Int) (sl : Addr) (Q : VK), Inv X pins σ H s -> yp x v -> s.heap.IsSliceOf sl vl vu .none -> IsPart vl lo -> IsPart vu hi -> r x lo hi H Q ->
  ∃ T id, typeLookup (.type T) "__getitem__" = pure (some (.builtin id)) /\ s.TypeIs v T /\ wpAny (model X.prog X.w) X.A (getItem v (.ref sl)) (EP X pins σ Q) X.xe s
theorem SlR.or {r r' : V -> Option Int -> Option Int -> Hp -> VK -> Prop} (h : SlR X r) (h' : SlR X r') : SlR X (fun x lo hi H Q => r x lo hi H Q \/ r' x lo hi H Q) := by
 intro pins s σ H x v vl vu lo hi sl Q I rx hs pl pu q
 rcases q with q | q
 ·exact h pins s σ H x v vl vu lo hi sl Q I rx hs pl pu q
 ·exact h' pins s σ H x v vl vu lo hi sl Q I rx hs pl pu q
def qma (xs : List V) (lo hi : Option Int) : List V := (xs.drop (HT.sIx xs.length 0 lo)).take (HT.sIx xs.length xs.length hi - HT.sIx xs.length 0 lo)
theorem qcP (xs : List V) (lo hi : Option Int) : (qma xs lo hi).length <= xs.length := by
 unfold qma
 rw [List.length_take, List.length_drop]
 omega
def qkI (K : PySem.W.Frag) : R2 := fun x y H Q => ∃ a b xs ys, x = .ref a /\ y = .ref b /\ SqT K H a xs /\ SqT K H b ys /\ xs ≠ [] /\ xs.length + ys.length <= sizeLine /\
 (ys = [] -> Q (.ref a) H) /\ (ys ≠ [] -> ∀ p, H p = none -> Q (.ref p) (upd H p (.tup (xs ++ ys))))
theorem zh.nil_iff {xs : List V} {us : List Value} (r : zh xs us) : us = [] ↔ xs = [] := by
 cases r with
 | nil => simp
 | cons _ _ => simp
theorem qi8 : OpR X (binaryOp .Add) (qkI X.K) := by
 intro pins s σ H x y v u Q I rx ry h
 obtain ⟨a, b, xs, ys, rfl, rfl, ha, hb, hx, hz, q1, q2⟩ := h
 cases rx
 cases ry
 obtain ⟨its, r1, p1, _⟩ := I.tuple ha
 obtain ⟨its2, r2, p2, _⟩ := I.tuple hb
 refine HT.cat_tup p1 p2 (fun z => hx (r1.nil_iff.mp z)) (fun z => ⟨.ref a, H, I, rfl, q1 (r2.nil_iff.mp z)⟩) (fun z => ?_) (by rw [<- r1.length, <- r2.length]; exact hz)
 refine ⟨.ref s.heap.objs.size, _, I.laid (t' := s.toks) (o := .tup (xs ++ ys)) (fun b ob q => Heap.get?_push_of_some _ q) (Nat.le_refl _) ?_, rfl, q2 (fun w => z (r2.nil_iff.mpr w)) _ (I.hok.fresh (Nat.le_refl _))⟩
 exact ⟨by rw [List.length_append]; exact hz, _, r1.append r2, IsTup.new _ _⟩
end
end L2
namespace L2
open PySem PySem.Spec PyProof.Rows
def ixN (n : Nat) (i : Int) : Option Nat := if 0 <= i then (if i < n then some i.toNat else none) else if -(n : Int) <= i then some (i + n).toNat else none
def atI {α : Type} (xs : List α) (i : Int) : Option α := (ixN xs.length i).bind fun j => xs[j]?
theorem qfe {n : Nat} {i : Int} {j : Nat} (h : ixN n i = some j) : seqIndex? i n = some j /\ j < n /\ -(n : Int) <= i /\ i < n := by
 unfold ixN at h
 by_cases h0 : 0 <= i
 ·rw [if_pos h0] at h
  by_cases h1 : i < n
  ·rw [if_pos h1] at h
   have e : i.toNat = j := Option.some.inj h
   exact ⟨by rw [seqIndex_of h0 h1, e], by omega, by omega, h1⟩
  ·rw [if_neg h1] at h; cases h
 ·rw [if_neg h0] at h
  by_cases h1 : -(n : Int) <= i
  ·rw [if_pos h1] at h
   have e : (i + n).toNat = j := Option.some.inj h
   exact ⟨by rw [seqIndex_neg (by omega) h1, e], by omega, h1, by omega⟩
  ·rw [if_neg h1] at h; cases h
theorem qff {α : Type} {xs : List α} {i : Int} {v : α} (h : atI xs i = some v) : ∃ j, seqIndex? i xs.length = some j /\ xs[j]? = some v /\ j < xs.length /\ -(xs.length : Int) <= i /\ i < xs.length := by
 unfold atI at h
 cases e : ixN xs.length i with
 | none => rw [e] at h; cases h
 | some j =>
  rw [e] at h
  obtain ⟨h1, h2, h3, h4⟩ := qfe e
  exact ⟨j, h1, h, h2, h3, h4⟩
def qcQ (b : Expr) : Prop := ∀ o i, subscripted b false o i = operate [o, i] (getItem o i)
def IxR (X : Cx) (r : R2) : Prop :=
 ∀ (value slice : Expr) (pins : List (Addr × Obj)) (s : Shared) (σ : St) (H : Hp) (x y : V) (v u : Value) (Q : VK), Inv X pins σ H s -> yp x v -> yp y u -> r x y H Q ->
  subscripted slice false v u = operate [v, u] (getItem v u) -> wpAny (model X.prog X.w) X.A (subscriptTail value slice v u) (EP X pins σ Q) X.xe s
def MtR (X : Cx) (id : String) (r : V -> List V -> Hp -> VK -> Prop) : Prop :=
 ∀ (pins : List (Addr × Obj)) (s : Shared) (σ : St) (H : Hp) (x : V) (xs : List V) (v : Value) (us : List Value) (Q : VK), Inv X pins σ H s -> yp x v -> zh xs us -> r x xs H Q ->
  wpAny (model X.prog X.w) X.A (call (.builtin id) (v :: us)) (EP X pins σ Q) X.xe s
section
variable {X : Cx} {a b : Expr} {ta tb : TE} {pos : Pos}
theorem IxR.or {r r' : R2} (h : IxR X r) (h' : IxR X r') : IxR X (fun x y H Q => r x y H Q \/ r' x y H Q) := by
 intro value slice pins s σ H x y v u Q I rx ry q hs
 rcases q with q | q
 ·exact h value slice pins s σ H x y v u Q I rx ry q hs
 ·exact h' value slice pins s σ H x y v u Q I rx ry q hs
theorem MtR.or {id : String} {r r' : V -> List V -> Hp -> VK -> Prop} (h : MtR X id r) (h' : MtR X id r') : MtR X id (fun x xs H Q => r x xs H Q \/ r' x xs H Q) := by
 intro pins s σ H x xs v us Q I rx rs q
 rcases q with q | q
 ·exact h pins s σ H x xs v us Q I rx rs q
 ·exact h' pins s σ H x xs v us Q I rx rs q
theorem qkJ {r : R2} (hr : IxR X r) (ha : PE X a ta) (hb : PE X b tb) (hs : qcQ b) : PE X (.Subscript a b pos) (tOp r ta tb) := by
 intro pins s σ H Q I h
 exact Subscript_ (qmv ha hb I h fun v u s2 x y H2 I2 rx ry q => hr a b pins s2 σ H2 x y v u Q I2 rx ry q (hs _ _))
def qmH (K : PySem.W.Frag) : R2 := fun x y H Q => ∃ p xs i v, x = .ref p /\ y = .int i /\ SqL K H p xs /\ atI xs i = some v /\ Q v H
def qmI (K : PySem.W.Frag) : R2 := fun x y H Q => ∃ p xs i v, x = .ref p /\ y = .int i /\ SqT K H p xs /\ atI xs i = some v /\ Q v H
theorem qfg : IxR X (qmH X.K) := by
 intro value slice pins s σ H x y v u Q I rx ry h hs
 obtain ⟨p, xs, i, z, rfl, rfl, hq, he, q⟩ := h
 cases rx
 obtain ⟨t, rfl⟩ := ry
 obtain ⟨its, r, pl, hz⟩ := I.list hq
 obtain ⟨j, h1, h2, h3, h4, h5⟩ := qff he
 obtain ⟨w, ew, rw'⟩ := r.get h2
 have hl := r.length
 have hn := qac
 have fin : EP X pins σ Q w s := ⟨z, H, I, rw', q⟩
 by_cases h0 : 0 <= i
 ·have hj : i.toNat = j := by
   rw [seqIndex_of h0 h5] at h1
   exact Option.some.inj h1
  exact item_listR pl.isList h0 (by omega) (by rw [hj]; simpa using ew) fin hs
 ·have hj : (i + (its.toArray.size : Int)).toNat = j := by
   rw [seqIndex_neg (by omega) h4] at h1
   rw [List.size_toArray, <- hl]
   exact Option.some.inj h1
  exact subscriptTail_builtinR (x := w) pl.isList.typeIs slot_list_getitem.lookup
   (wpAny_getItem_list_neg (Q := fun r s' => r = w /\ EP X pins σ Q r s') pl.isList (by omega) (by rw [List.size_toArray] <;> omega) (by omega) (by rw [hj]; simpa using ew) ⟨rfl, fin⟩) hs
theorem qkK : IxR X (qmI X.K) := by
 intro value slice pins s σ H x y v u Q I rx ry h hs
 obtain ⟨p, xs, i, z, rfl, rfl, hq, he, q⟩ := h
 cases rx
 obtain ⟨t, rfl⟩ := ry
 obtain ⟨its, r, pl, hz⟩ := I.tuple hq
 obtain ⟨j, h1, h2, h3, h4, h5⟩ := qff he
 obtain ⟨w, ew, rw'⟩ := r.get h2
 have hl := r.length
 have hn := qac
 have fin : EP X pins σ Q w s := ⟨z, H, I, rw', q⟩
 exact subscriptTail_builtinR (x := w) pl.typeIs slot_tuple_getitem.lookup
  (getItem_tuple (j := j) (Q := fun r s' => r = w /\ EP X pins σ Q r s') pl (by omega) (by omega) (by rw [List.size_toArray, <- hl]; exact h1) (by simpa using ew) ⟨rfl, fin⟩) hs
theorem qej (its : List Value) (n j : Nat) (u : Value) : Obj.mapSeq (·.setIfInBounds j u) { cls := .type "list", data := .seq its.toArray n } = { cls := .type "list", data := .seq (its.set j u).toArray n } := by
 simp [Obj.mapSeq]
theorem Inv.lst {pins : List (Addr × Obj)} {σ : St} {H : Hp} {s : Shared} {p : Addr} {xs : List V} (I : Inv X pins σ H s) (h : H p = some (.lst xs)) :
  ∃ (its : List Value) (n : Nat), zh xs its /\ s.heap.get? p = some { cls := .type "list", data := .seq its.toArray n } /\ xs.length <= sizeLine := by
 obtain ⟨z, its, n, r, e⟩ := I.hok p _ h
 exact ⟨its, n, r, e, z⟩
theorem Inv.lstUpd {pins : List (Addr × Obj)} {σ : St} {H : Hp} {s : Shared} {p : Addr} {xs ys : List V} {its its' : List Value} {n n' : Nat} {f : Obj -> Obj} (I : Inv X pins σ H s) (h : H p = some (.lst xs))
  (ho : s.heap.get? p = some { cls := .type "list", data := .seq its.toArray n }) (hf : f { cls := .type "list", data := .seq its.toArray n } = { cls := .type "list", data := .seq its'.toArray n' }) (r : zh ys its') (hz : ys.length <= sizeLine) (t : Nat) :
  Inv X pins σ (upd H p (.lst ys)) { s with heap := s.heap.update p f, toks := t } := by
 have e : (s.heap.update p f).get? p = some { cls := .type "list", data := .seq its'.toArray n' } := by
  rw [Heap.get?_update_self f ho (by rw [hf] <;> rfl), hf]
 refine I.write (x := p) (e := p) (by rw [h]; trivial) (.inl rfl) (fun b u hb q => (Heap.get?_update_other _ _ (Ne.symm hb)).trans q) ⟨_, e⟩ ?_
 exact ⟨hz, its', n', r, e⟩
def qmJ : V -> V -> V -> Hp -> (Hp -> Prop) -> Prop := fun o i v H Q => ∃ p xs k j, o = .ref p /\ i = .int k /\ H p = some (.lst xs) /\ ixN xs.length k = some j /\ Q (upd H p (.lst (xs.set j v)))
theorem qg1 : qnd X qmJ := by
 intro pins s σ H o i v ov iv u Q I ro ri rv h
 obtain ⟨p, xs, k, j, rfl, rfl, hp, hj, q⟩ := h
 cases ro
 obtain ⟨t, rfl⟩ := ri
 obtain ⟨its, n, r, ho, hz⟩ := I.lst hp
 obtain ⟨h1, h2, h3, h4⟩ := qfe hj
 have hl := r.length
 have hn := qac
 have I' : Inv X pins σ (upd H p (.lst (xs.set j v))) { s with heap := s.heap.update p (Obj.mapSeq (·.setIfInBounds j u)) } :=
  I.lstUpd hp ho (qej its n j u) (r.set rv j) (by rw [List.length_set]; exact hz) s.toks
 by_cases h0 : 0 <= k
 ·have hk : k.toNat = j := by
   rw [seqIndex_of h0 h4] at h1
   exact Option.some.inj h1
  exact PySem.W.ki_setAt ho h0 (by omega) (by rw [List.size_toArray, <- hl]; exact h4) (by rw [hk]; exact ⟨_, I', q⟩)
 ·have hk : (k + (its.toArray.size : Int)).toNat = j := by
   rw [seqIndex_neg (by omega) h3] at h1
   rw [List.size_toArray, <- hl]
   exact Option.some.inj h1
  exact PySem.W.ki_setBack ho (by omega) (by rw [List.size_toArray, <- hl]; exact h3) (by omega) (by rw [hk]; exact ⟨_, I', q⟩)
theorem qbZ (lo hi : Option Int) (n : Nat) : (sliceBounds lo hi none n).1 = ((HT.sIx n 0 lo : Nat) : Int) /\ (sliceBounds lo hi none n).2.1 = ((HT.sIx n n hi : Nat) : Int) /\ (sliceBounds lo hi none n).2.2 = 1 := by
 refine ⟨?_, ?_, rfl⟩
 ·cases lo with
  | none => simp [sliceBounds, HT.sIx]
  | some i =>
   simp only [sliceBounds, HT.sIx, Option.getD_none, show (1 : Int) > 0 by decide, if_true]
   by_cases h : i < 0
   ·simp only [h, if_true] <;> omega
   ·simp only [h, if_false] <;> omega
 ·cases hi with
  | none => simp [sliceBounds, HT.sIx]
  | some i =>
   simp only [sliceBounds, HT.sIx, Option.getD_none, show (1 : Int) > 0 by decide, if_true]
   by_cases h : i < 0
   ·simp only [h, if_true] <;> omega
   ·simp only [h, if_false] <;> omega
theorem qbi (its : List Value) (lo hi : Option Int) : slicePick its.toArray lo hi none = ((its.drop (HT.sIx its.length 0 lo)).take (HT.sIx its.length its.length hi - HT.sIx its.length 0 lo)).toArray := by
 obtain ⟨h1, h2, h3⟩ := qbZ lo hi its.toArray.size
 unfold slicePick
 rw [h1, h2, h3]
 simp only [sliceRange_one, pick_run, List.size_toArray] <;> rfl
def qn4 (K : PySem.W.Frag) : V -> Option Int -> Option Int -> Hp -> VK -> Prop := fun x lo hi H Q => ∃ a xs, x = .ref a /\ SqL K H a xs /\ ∀ p, H p = none -> Q (.ref p) (upd H p (.lst (qma xs lo hi)))
theorem qmK : SlR X (qn4 X.K) := by
 intro pins s σ H x v vl vu lo hi sl Q I rx hs pl pu h
 obtain ⟨a, xs, rfl, hx, q⟩ := h
 cases rx
 obtain ⟨its, r, ht, hz⟩ := I.list hx
 have hlen := r.length
 refine ⟨"list", _, slot_list_getitem.lookup, ht.isList.typeIs, ?_⟩
 refine wpAny_getItem_list_slice ht.isList hs pl pu .none (by simp) ?_ (by rw [List.size_toArray] <;> omega)
 rw [qbi, <- hlen]
 refine ⟨.ref s.heap.objs.size, _, I.laid (t' := s.toks) (o := .lst (qma xs lo hi)) (fun b ob q => Heap.get?_push_of_some _ q) (Nat.le_refl _) ?_, rfl, q _ (I.hok.fresh (Nat.le_refl _))⟩
 exact ⟨Nat.le_trans (qcP xs lo hi) hz, _, 0, (r.drop (HT.sIx xs.length 0 lo)).take (HT.sIx xs.length xs.length hi - HT.sIx xs.length 0 lo), Heap.get?_push_size _ rfl⟩
def qn5 : V -> Bool
 | .non => true
 | .bl _ => true
 | .int _ => true
 | .str _ => true
 | _ => false
def eqV : V -> V -> Bool
 | .non, .non => true
 | .bl a, .bl b => a == b
 | .bl a, .int b => (if a then 1 else 0) == b
 | .int a, .bl b => a == (if b then 1 else 0)
 | .int a, .int b => a == b
 | .str a, .str b => a == b
 | _, _ => false
theorem qb0 : yJ X (.builtin "len") (fun xs H Q => ∃ p ys, xs = [.ref p] /\ (SqL X.K H p ys \/ SqT X.K H p ys) /\ Q (.int ys.length) H) := by
 intro pins s σ H xs us Q I r h
 obtain ⟨p, ys, rfl, hq, q⟩ := h
 obtain ⟨u, rfl, rx⟩ := qi4 r
 cases rx
 have hn := qac
 rcases hq with hq | hq
 ·obtain ⟨its, r', pl, hz⟩ := I.list hq
  have hlen := r'.length
  exact Calls.call_len_list pl.isList (by simp only [List.size_toArray] <;> omega) ⟨.int ys.length, H, I.tok _, ⟨s.toks + 1, by rw [List.size_toArray, hlen]⟩, q⟩
 ·obtain ⟨its, r', pl, hz⟩ := I.tuple hq
  have hlen := r'.length
  exact len_tuple pl (by simp only [List.size_toArray] <;> omega) ⟨.int ys.length, H, I.tok _, ⟨s.toks + 1, by rw [List.size_toArray, hlen]⟩, q⟩
theorem qb1 : yJ X (.builtin "len") (fun xs H Q => ∃ z, xs = [.str z] /\ z.length <= sizeLine /\ Q (.int z.length) H) := by
 intro pins s σ H xs us Q I r h
 obtain ⟨z, rfl, hz, q⟩ := h
 obtain ⟨u, rfl, t, rfl⟩ := qi4 r
 have hn := qac
 exact len_str (by omega) ⟨.int z.length, H, I.tok _, ⟨_, rfl⟩, q⟩
theorem yJ.or {f : Value} {r r' : List V -> Hp -> VK -> Prop} (h : yJ X f r) (h' : yJ X f r') : yJ X f (fun xs H Q => r xs H Q \/ r' xs H Q) := by
 intro pins s σ H xs us Q I rs q
 rcases q with q | q
 ·exact h pins s σ H xs us Q I rs q
 ·exact h' pins s σ H xs us Q I rs q
theorem qbj : yJ X (.type "tuple") (fun xs H Q => ∃ p ys, xs = [.ref p] /\ ((SqL X.K H p ys /\ ∀ l, H l = none -> Q (.ref l) (upd H l (.tup ys))) \/ (SqT X.K H p ys /\ Q (.ref p) H))) := by
 intro pins s σ H xs us Q I r h
 obtain ⟨p, ys, rfl, h⟩ := h
 obtain ⟨u, rfl, rx⟩ := qi4 r
 cases rx
 rcases h with ⟨hq, q⟩ | ⟨hq, q⟩
 ·obtain ⟨its, r', pl, hz⟩ := I.list hq
  have hlen := r'.length
  refine call_tuple_list pl.isList (fun h' kp => ?_) (by simp only [List.size_toArray] <;> omega)
  have I1 : Inv X pins σ H { s with heap := h' } := I.kept (t' := s.toks) kp
  have I2 : Inv X pins σ (upd H h'.objs.size (.tup ys)) { s with heap := h'.push { cls := .type "tuple", data := .seq its.toArray } } :=
   I1.laid (t' := s.toks) (fun b o e => Heap.get?_push_of_some _ e) (Nat.le_refl _) (show yX X.prog X.w _ _ _ (.tup ys) from ⟨hz, its, r', IsTup.new _ _⟩)
  exact ⟨.ref h'.objs.size, _, I2, rfl, q _ (I1.hok.fresh (Nat.le_refl _))⟩
 ·obtain ⟨its, r', pl, hz⟩ := I.tuple hq
  exact call_tuple_same pl ⟨.ref p, H, I, rfl, q⟩
def tyV (K : PySem.W.Frag) (T : String) (x : V) (H : Hp) : Prop := match x with
 | .str _ => T = "str"
 | .int _ => T = "int"
 | .ref p => (T = "list" /\ ∃ xs, SqL K H p xs) \/ (T = "tuple" /\ ∃ o, K.lookup p = some o /\ o.cls = .type "tuple" /\ o.dict = none) \/
   (T = "dict" /\ ((∃ kvs, H p = some (.dK kvs)) \/ ∃ kvs, H p = some (.dT kvs))) \/ (T = "set" /\ ∃ S n, H p = some (.set S n))
 | _ => False
theorem qkL {pins : List (Addr × Obj)} {σ : St} {H : Hp} {s : Shared} {T : String} {x : V} {v : Value} (I : Inv X pins σ H s) (r : yp x v) (ty : tyV X.K T x H) :
  s.TypeIs v T /\ ∀ a, v = .ref a -> ∃ ob, s.heap.get? a = some ob /\ ob.dict = none := by
 cases x with
 | str z =>
  obtain ⟨t, rfl⟩ := r
  cases (show T = "str" from ty)
  exact ⟨typeIs_str s z t, fun _ e => nomatch e⟩
 | int i =>
  obtain ⟨t, rfl⟩ := r
  cases (show T = "int" from ty)
  exact ⟨typeIs_int s i t, fun _ e => nomatch e⟩
 | ref p =>
  cases r
  rcases ty with ⟨rfl, xs, hq⟩ | ⟨rfl, o, hk, hc, hd⟩ | ⟨rfl, hk⟩ | ⟨rfl, S, n, hk⟩
  ·obtain ⟨its, _, pl, _⟩ := I.list hq
   refine ⟨pl.isList.typeIs, fun a e => ?_⟩
   cases e
   obtain ⟨o, n, e, c, hd, _⟩ := pl
   exact ⟨o, e, hd⟩
  ·refine ⟨⟨o, I.kIn p o hk, hc⟩, fun a e => ?_⟩
   cases e
   exact ⟨o, I.kIn _ o hk, hd⟩
  ·have z : ∃ o, s.heap.get? p = some o /\ o.ExactDict := by
    rcases hk with ⟨kvs, hk⟩ | ⟨kvs, hk⟩
    ·obtain ⟨_, _, _, _, o, _, _, e, ex, _⟩ := I.hok p _ hk
     exact ⟨o, e, ex⟩
    ·obtain ⟨_, _, _, _, o, _, _, e, ex, _⟩ := I.hok p _ hk
     exact ⟨o, e, ex⟩
   obtain ⟨o, e, ex⟩ := z
   refine ⟨⟨o, e, ex.1⟩, fun a e2 => ?_⟩
   cases e2
   exact ⟨o, e, ex.2.1⟩
  ·obtain ⟨o, _, _, _, e, ex, _⟩ := I.hok p _ hk
   refine ⟨⟨o, e, ex.1⟩, fun a e2 => ?_⟩
   cases e2
   exact ⟨o, e, ex.2.1⟩
 | _ => exact False.elim ty
def tBM (K : PySem.W.Frag) (T : String) (r : V -> List V -> Hp -> VK -> Prop) (to : TE) (t : TA) : TE := fun σ H Q => to σ H fun x H1 => tyV K T x H1 /\ t σ H1 fun xs H2 => r x xs H2 Q
variable {o e : Expr} {es : List Expr} {to : TE} {t : TA} {name : Str} {apos cpos : Pos} {T id : String} {r : V -> List V -> Hp -> VK -> Prop}
theorem qkM (pa : PlainAttrs T) (slot : Slot T name id) (hty : typeOf (.builtin id) = pure (.type "method_descriptor")) (hm : MtR X id r) (ho : PE X o to) (ha : PA X (e :: es) t)
  (hbase : attributeBase o name X.env (eval o X.env) = eval o X.env := by rfl)
  (hfew : ((backTo cpos (starEach (e :: es) X.env)).all (fun x => !x.1) && (backToKw cpos (keywordEach [] X.env)).all (fun x => x.1.isSome)
   && decide ((e :: es).length + ([] : List Keyword).length + (if ([] : List Keyword).isEmpty then 0 else 1) < 30)) = true := by rfl)
  (hline : (apos.endLine == cpos.line) = true := by rfl) (hs : starEach (e :: es) X.env = (false, eval e X.env) :: starEach es X.env := by rfl) (hplain : (backTo cpos (starEach es X.env)).any (·.1) = false := by rfl) :
  PE X (.Call (.Attribute o name apos) (e :: es) [] cpos) (tBM X.K T r to t) := by
 intro pins s σ H Q I h
 refine wpAny_Call_method_late hbase hfew hline rfl (thn (ho pins s σ H _ I h) fun v s1 ⟨x, H1, I1, r1, ty, q1⟩ => ?_)
 obtain ⟨h1, h2⟩ := qkL I1 r1 ty
 refine ⟨T, id, pa, slot, hty, h1, h2, ?_⟩
 have hA := ha cpos pins s1 σ H1 _ I1 q1
 rw [hs] at hA |-
 refine Calls.callWith_builtin (by show (false || (backTo cpos (starEach es X.env)).any (·.1)) = false; rw [hplain] <;> rfl) (Calls.evalArgs_plain ?_)
 exact thn hA fun us s2 ⟨vs, H2, I2, r2, q2⟩ => hm pins s2 σ H2 x vs v us Q I2 r1 r2 q2
/- xs.append(e), list.index on a module's tuple .. are MtR facts of 06m -/
end
end L2
namespace L2
open PySem PySem.Spec PyProof.Rows
def MtM (X : Cx) (id : String) (r : V -> List V -> Hp -> VK -> Prop) : Prop :=
 ∀ (pins : List (Addr × Obj)) (s : Shared) (σ : St) (H : Hp) (x : V) (xs : List V) (v : Value) (us : List Value) (Q : VK), Inv X pins σ H s -> yp x v -> zh xs us -> r x xs H Q ->
  wpAny (model X.prog X.w) X.A (call (.builtin id) (v :: us)) (EP X pins σ Q) X.xe s
theorem zh.one : ∀ {x : V} {us : List Value}, zh [x] us -> ∃ u, us = [u] /\ yp x u
 | _, _, .cons r .nil => ⟨_, rfl, r⟩
theorem zh.two : ∀ {x y : V} {us : List Value}, zh [x, y] us -> ∃ u v, us = [u, v] /\ yp x u /\ yp y v
 | _, _, _, .cons r (.cons q .nil) => ⟨_, _, rfl, r, q⟩
theorem zh.reverse {xs : List V} {us : List Value} (h : zh xs us) : zh xs.reverse us.reverse := by
 induction h with
 | nil => exact .nil
 | cons r t ih => rw [List.reverse_cons, List.reverse_cons]; exact zh.append ih (.cons r .nil)
theorem zh.rep {xs : List V} {us : List Value} (h : zh xs us) : ∀ k : Nat, zh (List.replicate k xs).flatten (List.replicate k us).flatten
 | 0 => .nil
 | k + 1 => by
  rw [List.replicate_succ, List.replicate_succ, List.flatten_cons, List.flatten_cons]
  exact zh.append h (zh.rep h k)
theorem qag (its : List Value) : ∀ (k : Nat) (acc : List Value),
  List.foldl (fun x1 x2 => x1 ++ x2) acc.toArray (List.replicate k its.toArray) = (acc ++ (List.replicate k its).flatten).toArray
 | 0, acc => by simp
 | k + 1, acc => by
  have e : acc.toArray ++ its.toArray = (acc ++ its).toArray := by simp
  have e2 : (acc ++ its) ++ (List.replicate k its).flatten = acc ++ (List.replicate (k + 1) its).flatten := by
   rw [List.replicate_succ, List.flatten_cons, List.append_assoc]
  rw [<- e2, <- qag its k (acc ++ its), <- e, List.replicate_succ, List.foldl_cons]
section
variable {X : Cx} {pins : List (Addr × Obj)} {σ : St} {H : Hp} {s : Shared} {l b : Addr} {xs ys zs : List V}
theorem Inv.lset {its its' : List Value} {n : Nat} {f : Array Value -> Array Value} {t' : Nat} (I : Inv X pins σ H s) (hH : H l = some (.lst xs))
  (e : s.heap.get? l = some { cls := .type "list", data := .seq its.toArray n }) (hf : f its.toArray = its'.toArray) (hv : zh ys its') (hz : ys.length <= sizeLine) :
  Inv X pins σ (upd H l (.lst ys)) { s with heap := s.heap.update l (Obj.mapSeq f), toks := t' } := by
 have q := PySem.IsL.update e f
 rw [hf] at q
 refine I.write (x := l) (e := l) (by rw [hH]; exact trivial) (.inl rfl) (fun b' u hb hu => (Heap.get?_update_other s.heap (Obj.mapSeq f) (Ne.symm hb)).trans hu) ⟨_, q⟩ ?_
 exact ⟨hz, its', _, hv, q⟩
theorem Inv.lnew {its : List Value} {t' : Nat} (I : Inv X pins σ H s) (hv : zh ys its) (hz : ys.length <= sizeLine) :
  Inv X pins σ (upd H s.heap.objs.size (.lst ys)) { s with heap := s.heap.push { cls := .type "list", data := .seq its.toArray }, toks := t' } :=
 I.laid (fun _ _ q => Heap.get?_push_of_some _ q) (Nat.le_refl _) ⟨hz, its, 0, hv, Heap.get?_push_size _ rfl⟩
theorem Inv.fresh (I : Inv X pins σ H s) : H s.heap.objs.size = none := I.hok.fresh (Nat.le_refl _)
theorem Inv.lstM (I : Inv X pins σ H s) (hH : H l = some (.lst xs)) : xs.length <= sizeLine /\ ∃ (its : List Value) (n : Nat), zh xs its /\ xs.length = its.length /\ s.heap.get? l = some { cls := .type "list", data := .seq its.toArray n } := by
 obtain ⟨z, its, n, r, e⟩ := I.hok l _ hH
 exact ⟨z, its, n, r, r.length, e⟩
theorem qdr {n : Nat} (h : n <= sizeLine) : Builtin.List.listTooLong n = false := by
 unfold Builtin.List.listTooLong
 exact decide_eq_false (by omega)
end
section
variable {X : Cx}
def qi9 : V -> List V -> Hp -> VK -> Prop := fun x vs H Q => ∃ l xs y, x = .ref l /\ vs = [y] /\ H l = some (.lst xs) /\ xs.length < sizeLine /\ Q .non (upd H l (.lst (xs ++ [y])))
theorem qah : MtM X "list.append" qi9 := by
 intro pins s σ H x vs v us Q I rx rv h
 obtain ⟨l, xs, y, rfl, rfl, hH, hz, q⟩ := h
 cases rx
 obtain ⟨u, rfl, ru⟩ := rv.one
 obtain ⟨z, its, n, r, hl, e⟩ := I.lstM hH
 refine call_meets F.slot_list_append ⟨_, e, rfl⟩ F.entry_list_append (F.args_list_append_2 _ _) (PySem.list_append l its.toArray n u (by rw [List.size_toArray]; omega)) ⟨e, ?_⟩
 refine ⟨.non, _, I.lset (its' := its ++ [u]) hH e (by simp) (r.append (.cons ru .nil)) ?_, rfl, q⟩
 rw [List.length_append, List.length_singleton]
 omega
def qja : V -> List V -> Hp -> VK -> Prop := fun x vs H Q => ∃ l b xs zs, x = .ref l /\ vs = [.ref b] /\ H l = some (.lst xs) /\ H b = some (.lst zs) /\ xs.length + zs.length <= sizeLine /\ Q .non (upd H l (.lst (xs ++ zs)))
theorem qkN : MtM X "list.extend" qja := by
 intro pins s σ H x vs v us Q I rx rv h
 obtain ⟨l, b, xs, zs, rfl, rfl, hH, hB, hz, q⟩ := h
 cases rx
 obtain ⟨u, rfl, ru⟩ := rv.one
 cases ru
 obtain ⟨z, its, n, r, hl, e⟩ := I.lstM hH
 obtain ⟨z2, its2, n2, r2, hl2, e2⟩ := I.lstM hB
 have hsz : its.toArray.size + its2.toArray.size <= sizeLine := by rw [List.size_toArray, List.size_toArray]; omega
 have hlong : ¬ (!its.toArray.isEmpty && Builtin.List.listTooLong (its.toArray.size + its2.toArray.size)) = true := by
  rw [qdr hsz, Bool.and_false]
  exact Bool.false_ne_true
 refine call_meets F.slot_list_extend ⟨_, e, rfl⟩ F.entry_list_extend (F.args_list_extend_2 _ _)
  (AutoSeq1.list_extend_list_list_0 l its.toArray n b its2.toArray n2 hlong (by rw [List.size_toArray]; omega) (by omega)) ⟨e, e2, ?_⟩
 refine ⟨.non, _, I.lset (its' := its ++ its2) hH e (by simp) (r.append r2) ?_, rfl, q⟩
 rw [List.length_append]
 omega
def qnh : R2 := fun x y H Q => ∃ l b xs zs, x = .ref l /\ y = .ref b /\ H l = some (.lst xs) /\ H b = some (.lst zs) /\ xs.length + zs.length <= sizeLine /\ ∀ p, H p = none -> Q (.ref p) (upd H p (.lst (xs ++ zs)))
theorem qkO : OpR X (binaryOp .Add) qnh := by
 intro pins s σ H x y v u Q I rx ry h
 obtain ⟨l, b, xs, zs, rfl, rfl, hH, hB, hz, q⟩ := h
 cases rx
 cases ry
 obtain ⟨z, its, n, r, hl, e⟩ := I.lstM hH
 obtain ⟨z2, its2, n2, r2, hl2, e2⟩ := I.lstM hB
 refine PySem.P.add_list e e2 ?_ (by rw [List.size_toArray, List.size_toArray]; omega)
 have ea : its.toArray ++ its2.toArray = (its ++ its2).toArray := by simp
 rw [ea]
 exact ⟨.ref _, _, I.lnew (t' := s.toks) (r.append r2) (by rw [List.length_append]; omega), rfl, q _ I.fresh⟩
def qni : R2 := fun x y H Q => ∃ l k xs, x = .ref l /\ y = .int k /\ H l = some (.lst xs) /\ -(2 ^ 63) <= k /\ k < 2 ^ 63 /\ xs.length * k.toNat <= sizeLine /\
 ∀ p, H p = none -> Q (.ref p) (upd H p (.lst (List.replicate k.toNat xs).flatten))
theorem qcR {α : Type} (xs : List α) (k : Nat) : (List.replicate k xs).flatten.length = k * xs.length := by
 induction k with
 | zero => simp
 | succ k ih => rw [List.replicate_succ, List.flatten_cons, List.length_append, ih, Nat.succ_mul, Nat.add_comm]
theorem qkP : OpR X (binaryOp .Mult) qni := by
 intro pins s σ H x y v u Q I rx ry h
 obtain ⟨l, k, xs, rfl, rfl, hH, h1, h2, hz, q⟩ := h
 cases rx
 obtain ⟨t, rfl⟩ := ry
 obtain ⟨z, its, n, r, hl, e⟩ := I.lstM hH
 have hlen : its.toArray.size * k.toNat <= sizeLine := by rw [List.size_toArray, <- hl]; exact hz
 have hcap : ¬ its.toArray.size * k.toNat > (2 ^ 63 - 1) / 8 := by
  have : (sizeLine : Nat) <= (2 ^ 63 - 1) / 8 := by decide
  omega
 have hfit : ¬ (!Builtin.List.listFitsIndex k) = true := by
  rw [fitsIndex_both h1 h2]
  exact Bool.false_ne_true
 have hlong : ¬ Builtin.List.listTooLong (its.toArray.size * k.toNat) = true := by
  rw [qdr hlen]
  exact Bool.false_ne_true
 have hnew : List.foldl (fun x1 x2 => x1 ++ x2) #[] (List.replicate (if its.toArray.isEmpty = true then 0 else k.toNat) its.toArray) = (List.replicate k.toNat its).flatten.toArray := by
  have f0 : ∀ m : Nat, List.foldl (fun x1 x2 => x1 ++ x2) #[] (List.replicate m its.toArray) = (List.replicate m its).flatten.toArray := fun m => by
   have := qag its m []
   rw [List.nil_append] at this
   exact this
  rw [f0]
  cases its with
  | nil => simp
  | cons a r' => rw [if_neg (by simp)]
 refine wpAny_binaryOp_repeat_ref (T := "list") (U := "int") (by decide) ⟨_, e, rfl⟩ (fun s' => typeIs_int s' k t) noFill_list_mul F.fills_int_mul F.slot_int_rmul repeat_list F.slot_int_index.lookup
  (call_meets F.slot_int_rmul (typeIs_int s k t) F.entry_int_rmul (F.args_int_rmul_2 _ _) (int___rmul___int_list k t l its.toArray n)
   ⟨e, rfl, ⟨_, e, rfl⟩, call_meets F.slot_list_mul ⟨_, e, rfl⟩ F.entry_list_mul (F.args_list_mul_2 _ _) (AutoListH.list___mul___list_int_3 l its.toArray n k t hfit hcap hlong) ⟨e, ?_⟩⟩)
 rw [hnew]
 exact ⟨.ref _, _, I.lnew (t' := s.toks) (r.rep k.toNat) (by rw [qcR, Nat.mul_comm]; exact hz), rfl, q _ I.fresh⟩
end
section
variable {prog : Program} {w : World} {A : Around} {E : Value -> Shared -> Prop} {s : Shared}
set_option maxRecDepth 100000 in
end
section
variable {X : Cx}
end
end L2
namespace Att
open PySem PySem.W PySem.Calls PyProof.Rows
theorem qai {P : Params} {h : Heap} : ∀ (ns : List Int) (vs : List Value), WellAll P h vs (ns.map WData.int) -> IntsAre vs ns := by
 intro ns
 induction ns with
 | nil =>
  intro vs w
  rw [List.map_nil] at w
  cases w
  exact .nil
 | cons n ns ih =>
  intro vs w
  rw [List.map_cons] at w
  cases w with
  | cons a b =>
   cases a
   exact .cons _ _ (ih _ b)
theorem qfh {l : OpenLaw} {n : Nat} (hn : l.most = some n) {P : Params} {h : Heap} {args : List WData} {vals : List Value}
  (hpre : l.row.toRowW.claim.pre args = true) (hwl : WellAll P h vals args) :
  ∃ a vs ns, vals = [Value.ref a] /\ args = [WData.list (ns.map WData.int)] /\ h.get? a = some { cls := .type "list", data := .seq vs.toArray } /\ IntsAre vs ns /\ ns.length <= n := by
 have hsh : WShape.hasAll [] args [.list .int] = true := (pre_splitW hpre).1
 have hc : l.pre.holds [] { args := args } = true := (pre_splitW hpre).2
 obtain ⟨d, r, rfl, h1, h2⟩ := hasAllW_cons hsh
 obtain rfl := hasAllW_nil h2
 obtain ⟨xs, rfl, h3⟩ := hasW_list h1
 obtain ⟨ns, rfl⟩ := items_int h3
 have hlen : ns.length <= n := by
  unfold OpenLaw.pre at hc
  have h4 : (WTm.not (.lt (.lit (.int (n : Int))) (.len (.arg 0)))).holds [] { args := [.list (ns.map .int)] } = true := by
   have h4 := (holds_andW hc).1
   rw [hn] at h4
   exact h4
  have h5 := condW_of h4 (w_not (w_lt w_lit (w_len_list (w_arg rfl))))
  rw [List.length_map] at h5
  refine Nat.le_of_not_lt fun q => ?_
  have q' : (n : Int) < ((ns.length : Nat) : Int) := by omega
  first
   | (rw [decide_eq_true q'] at h5; exact absurd h5 (by decide))
   | (simp at h5; omega)
 cases hwl with
 | cons w1 w2 =>
  cases w2
  cases w1 with
  | list ho hall => exact ⟨_, _, ns, rfl, rfl, ho, qai ns _ hall, hlen⟩
theorem qfi (l : OpenLaw) (args : List WData) : l.row.toRowW.claim.post args (.bool true) args = true :=
 postW_of (r := l.row.toRowW) (X := (true == true))
  (show WShape.has [] (.bool true) .bool = true by first | rfl | decide | simp [WShape.has, WShape.arms, WShape.armsAll])
  (show (WTm.eq .res (.lit (.bool true))).value [] { args := args, res := some (.bool true), after := args } = some (.bool (true == true)) from w_eq_bool (w_res rfl) w_lit) rfl
theorem attach_call {l : OpenLaw} {n : Nat} {q : Program} {loose : List Str} {XP : (Str -> Option Value) -> Heap -> Prop} {YP : World -> Heap -> Prop} {d : DefRec}
  (hn : l.most = some n) (hdf : d.params.defaults = [])
  (call : ∀ (w : World) (s₀ s₁ : Shared) (mg mb : Str -> Option Value) (fa : Addr) (o : Obj) (pm cd doc : Value) (a : Addr) (vs : List Value) (ns : List Int),
   Ground q loose [] XP w s₀ mg mb s₁.heap -> YP w s₁.heap ->
   s₁.heap.get? fa = some o -> o.data = .func (docDef d.name d.params d.body d.scope pm cd doc) -> s₁.heap.CodeRec cd d.name -> mg d.name = some (.ref fa) ->
   s₁.heap.get? a = some { cls := .type "list", data := .seq vs.toArray } -> IntsAre vs ns -> ns.length <= n -> s₁.gens = #[] ->
   codeAny (model l.prog w) callerA (.call (.ref fa) ⟨[.ref a], []⟩) (fun r s' => r = .ok (.ret (.bool true)) /\ OldK s₁.heap s'.heap /\ s'.os = s₁.os /\ AllBare s'.gens) s₁) :
  WalkO q loose XP YP l.row.toRowW d [] (fun f vs => PySem.call f vs) := by
 intro w s₀ s₁ mg mb G Y fa o pm cd doc dV kV ho hd hcd hD hmg hg args vals as hpre hlay hrd hwl hlo
 obtain rfl : dV = .none := Dflts.none hD hdf
 obtain rfl : kV = .none := Dflts.noKw hD
 obtain ⟨a, vs, ns, rfl, rfl, hobj, hints, hlen⟩ := qfh hn hpre hwl
 refine enter_call (codeAny_mono (call w s₀ s₁ mg mb fa o pm cd doc a vs ns G Y ho (fd_plain hd) hcd hmg hobj hints hlen hg) fun r s' hq => ?_)
 obtain ⟨rfl, h2, h3, h4⟩ := hq
 exact ⟨.inl ⟨.bool true, .bool true, [], rfl, fun _ => rfl, .bool true, qfi l _, fun _ => ⟨List.Pairwise.nil, fun _ hm => (nomatch hm)⟩⟩, h2, h3, h4⟩
section
variable {prog : Program} {w : World} {A : Around} {E : Value -> Shared -> Prop} {s : Shared} {K : Frag}
end
end Att
namespace L2
open PySem PySem.Spec PyProof.Rows
theorem qb2 : ∀ {vs : List Value} {ns : List Int}, IntsAre vs ns -> zh (ns.map V.int) vs
 | _, _, .nil => .nil
 | _, _, .cons n t h => .cons ⟨t, rfl⟩ (qb2 h)
def qmb (H : Hp) : Prop := ∀ b, H b = none \/ ∃ o xs, H b = some (.frz o (.lst xs))
theorem qg2 {P : Program} {w : World} {K : PySem.W.Frag} {mg mb : Str -> Option Value} {CX : CXT} {k : Nat} {fa a : Addr} {fd : FuncData} {x : Str} {sp : Sp} {s₁ : Shared} {vs : List Value} {ns : List Int}
  (KX : K.In s₁.heap) (hns : s₁.heap.Ns mainGlobals mg) (hb : s₁.heap.Ns builtinsNs mb) (hbb : ∀ x : Str, x ≠ "__name__" -> mb x = bootBuiltins x) (hlim : s₁.heap.NoLimit) (hg : s₁.gens = #[])
  (ha : s₁.heap.get? a = some { cls := .type "list", data := .seq vs.toArray }) (hi : IntsAre vs ns) (hl : ns.length <= sizeLine) (hr : uS k callerA)
  (F : ∀ base : Heap, K.In base -> base.Ns mainGlobals mg -> jX P w K mg base CX k fa fd [x] sp) (hbind : ∀ (s : Shared) (u : Value), BindsTo s fd ⟨[u], []⟩ [(x, u)])
  (hsp : ∀ H : Hp, qmb H -> SqL K H a (ns.map V.int) -> sp [.ref a] H (fun v _ => v = .bl true) fun _ _ _ => False)
  (hCX : ∀ H e s', CX [] H s₁ (fun _ _ _ => False) e s' -> False) :
  codeAny (model P w) callerA (.call (.ref fa) ⟨[.ref a], []⟩) (fun r s' => r = .ok (.ret (.bool true)) /\ OldK s₁.heap s'.heap /\ s'.os = s₁.os /\ AllBare s'.gens) s₁ := by
 have rv := qb2 hi
 have lenV := hi.length
 have core : ∀ H : Hp, qmb H -> SqL K H a (ns.map V.int) -> HOk P w H s₁.heap -> (∀ b, H b ≠ none -> b = a) -> (H a ≠ none -> K.lookup a = none) ->
   codeAny (model P w) callerA (.call (.ref fa) ⟨[.ref a], []⟩) (fun r s' => r = .ok (.ret (.bool true)) /\ OldK s₁.heap s'.heap /\ s'.os = s₁.os /\ AllBare s'.gens) s₁ := by
  intro H hO hS hok hA hK
  have base_of : ∀ {b : Addr} {o : Obj}, s₁.heap.get? b = some o -> H b = none -> (qgR s₁.heap H).get? b = some o := fun e n => qgS e n
  have noA : ∀ {b : Addr} {o : Obj} {es : Array DictEntry} {ep : Nat}, s₁.heap.get? b = some o -> o.data = .dict es ep -> H b = none := fun {b o es ep} e d => by
   cases q : H b with
   | none => rfl
   | some u =>
    have e' : b = a := hA b (by rw [q]; simp)
    subst e'
    rw [ha] at e; cases e
    have d' : Data.seq vs.toArray _ = Data.dict es ep := d
    cases d'
  have nsK : ∀ {b : Addr} {m : Str -> Option Value}, s₁.heap.Ns b m -> (qgR s₁.heap H).Ns b m := fun {b m} ⟨o, es, ep, e, d, r⟩ => ⟨o, es, ep, base_of e (noA e d), d, r⟩
  have hKb : K.In (qgR s₁.heap H) := fun b o e => base_of (KX b o e) (by
   cases q : H b with
   | none => rfl
   | some u =>
    have e' : b = a := hA b (by rw [q]; simp)
    subst e'
    rw [hK (by rw [q]; simp)] at e; cases e)
  have hM : Mod K mg (qgR s₁.heap H) := ⟨hKb, nsK hns, ⟨mb, nsK hb, hbb⟩, let ⟨mc, h1, h2⟩ := hlim; ⟨mc, nsK h1, h2⟩⟩
  have e0 : qka P w K mg (qgR s₁.heap H) callerA [] s₁ H := ⟨rfl, hM, fun b o e => qiU e, Nat.le_of_eq (qeW _ _), trivial, fun b hb => absurd (show b ∈ ([] : List Addr) from hb) (by simp), hok, .of_eq hg⟩
  refine codeAny_mono ((F _ hKb (nsK hns)).run callerA [] s₁ H ⟨[.ref a], []⟩ [.ref a] [.ref a] _ _ hr e0 (hbind s₁ (.ref a)) (.cons rfl .nil) (hsp H hO hS)) fun r s' h => ?_
  cases r with
  | error e => exact (hCX H e s' h).elim
  | ok fl =>
   cases fl with
   | next => exact False.elim h
   | brk => exact False.elim h
   | cont => exact False.elim h
   | ret u =>
    obtain ⟨v, H', os, bare, un, hok', r', q⟩ := h
    have q' : v = .bl true := q
    subst q'
    obtain rfl : u = Value.bool true := r'
    refine ⟨rfl, OldK.of_keep fun b o e => ?_, os, bare⟩
    cases q : H b with
    | none => exact un.keep b o e q (by intro z; exact absurd (show b ∈ ([] : List Addr) from z) (by simp)) (by simp)
    | some u =>
     rcases hO b with z | ⟨ob, xs, z⟩
     ·rw [q] at z; cases z
     ·have z2 := un.frzs b ob _ z
      obtain ⟨e1, _⟩ := hok b _ z
      obtain ⟨e2, _⟩ := hok' b _ z2
      rw [e] at e1; cases e1
      exact e2
 cases hk : K.lookup a with
 | some o =>
  have e := KX a o hk
  rw [ha] at e
  cases e
  refine core (fun _ => none) (fun _ => .inl rfl) (.inr ⟨_, vs.toArray, _, hk, rfl, rfl, rfl, by rw [List.size_toArray, lenV]; exact hl, by simpa using rv⟩) (fun b u z => by have z' : (none : Option HO) = some u := z; cases z') (fun b z => absurd rfl z) fun z => absurd rfl z
 | none =>
  refine core (fun b => if b = a then some (.frz { cls := .type "list", data := .seq vs.toArray } (.lst (ns.map V.int))) else none) (fun b => ?_) (.inl (.inr ⟨{ cls := .type "list", data := .seq vs.toArray }, if_pos rfl⟩)) (fun b u z => ?_) (fun b z => ?_) fun _ => hk
  ·by_cases hb : b = a
   ·exact .inr ⟨_, _, if_pos hb⟩
   ·exact .inl (if_neg hb)
  ·by_cases hb : b = a
   ·have z' := (if_pos hb).symm.trans z
    cases z'
    subst hb
    exact ⟨ha, by rw [List.length_map]; exact hl, vs, _, rv, ha⟩
   ·have z' := (if_neg hb).symm.trans z
    cases z'
  ·by_cases hb : b = a
   ·exact hb
   ·exact absurd (if_neg hb) z
end L2
namespace L2
open PySem PySem.Spec PyProof.Rows
theorem walk_of {l : PySem.W.OpenLaw} {n k : Nat} {q : Program} {loose : List Str} {XP : (Str -> Option Value) -> Heap -> Prop} {YP : World -> Heap -> Prop} {d : DefRec} {K : Params -> PySem.W.Frag} {CX : World -> CXT} {sp : World -> Sp} {x : Str}
  (hn : l.most = some n) (hn2 : n <= sizeLine) (hdf : d.params.defaults = []) (hr : uS k callerA)
  (hY : ∀ (w : World) (h : Heap), YP w h -> (K w.params).In h)
  (F : ∀ (w : World) (mg : Str -> Option Value) (fa : Addr) (h : Heap), (K w.params).In h -> h.Ns mainGlobals mg -> mg d.name = some (.ref fa) ->
   ∃ fd : FuncData, (∀ (s : Shared) (u : Value), BindsTo s fd ⟨[u], []⟩ [(x, u)]) /\
    ∀ base : Heap, (K w.params).In base -> base.Ns mainGlobals mg -> jX l.prog w (K w.params) mg base (CX w) k fa fd [x] (sp w))
  (hsp : ∀ (w : World) (H : Hp) (a : Addr) (ns : List Int), ns.length <= n -> qmb H -> SqL (K w.params) H a (ns.map V.int) -> sp w [.ref a] H (fun v _ => v = .bl true) fun _ _ _ => False)
  (hCX : ∀ (w : World) (H : Hp) (s : Shared) (e : Value) (s' : Shared), CX w [] H s (fun _ _ _ => False) e s' -> False) :
  PySem.W.WalkO q loose XP YP l.row.toRowW d [] (fun f vs => PySem.call f vs) := by
 refine Att.attach_call hn hdf fun w s₀ s₁ mg mb fa o pm cd doc a vs ns G Y ho hd hcd hmg hobj hints hlen hg => ?_
 have KX := hY w _ Y
 obtain ⟨fd, hb, hF⟩ := F w mg fa _ KX G.T.g hmg
 exact qg2 KX G.T.g G.T.b G.T.builtins G.T.nolimit hg hobj hints (Nat.le_trans hlen hn2) hr hF hb (fun H hO hS => hsp w H a ns hlen hO hS) fun H e s' => hCX w H s₁ e s'
end L2
/- THE LAST THEOREM (shape; LID, My.* are yours):
   My.Adr: a structure of the addresses that your layer names (classes, functions); My.Txt K t: a structure (Prop) of the equations over K;
   My.txt_mk : {K} {implicit addresses ..} (e1 : nsIn K mainGlobals "law" = some (some (.ref f))) (e2 : K.lookup f = some ⟨oc, od, .func (fnOf "law" "law" params body scope dV kV doc pm an cdv ct), sl⟩) (e3 : codeIn K cdv "law" = true) .. : ∃ t, My.Txt K t
set_option maxRecDepth 100000 in
set_option maxHeartbeats 0 in
theorem PySem.Challenge.cw_LID_holds : PySem.Challenge.rw_LID.Holds := by
 w_on; o_law; k_head; (case hw => w_witness2)
 k_fill
 refine L2.walk_of (l := PySem.Challenge.rw_LID) (n := 63) (k := 40) (x := "script") (CX := fun w => ..) (sp := fun _ => My.sp_law) rfl (by decide) rfl ⟨rfl, by decide, by decide⟩ (fun w h Y => PySem.W.kIn_of Y) ?F ?S ?C
 case F =>
  intro w mg fa h KX G hmg
  have T : ∃ t, My.Txt (L2.KOf KX) t := by
   dsimp only [L2.KOf]                          -- K must stand as «<heap const> w.params» for k_is
   refine' My.txt_mk ?e1 ?e2 ?e3 ..
   (case e1 => PySem.W.k_is)                    -- in the order: a name -> its address -> its object -> its parts
   (case e2 => PySem.W.k_is)
   ..
  obtain ⟨t, T⟩ := T
  have e0 := hmg.symm.trans (PySem.W.mg_of KX G T.law)
  cases e0                                       -- fa is the law's own address
  exact ⟨_, fun s u => .of_eq rfl, fun base kb nb => My.law_fn T kb nb⟩     -- if «.of_eq rfl» comes too early: refine' ⟨_, ?b, fun base kb nb => My.law_fn T kb nb⟩; exact fun s u => .of_eq rfl
 case S => exact fun w H a ns hl hO hS => ..
 case C => exact ..
(the tactic k_is has no namespace: write k_is) -/
namespace L2
open PySem PySem.Spec PyProof.Rows
def qr (s : Stmt) : Arguments := match s with
 | .FunctionDef _ a _ _ _ _ _ _ _ _ => a
 | _ => { posonlyargs := [], args := [], vararg := none, kwonlyargs := [], kw_defaults := [], kwarg := none, defaults := [] }
def qm (s : Stmt) : List Stmt := match s with
 | .FunctionDef _ _ b _ _ _ _ _ _ _ => b
 | _ => []
def qd (s : Stmt) : Scope := match s with
 | .FunctionDef _ _ _ _ _ _ sc _ _ _ => sc
 | _ => { kind := .function, names := [], isGenerator := false, isCoroutine := false }
abbrev CX0 : CXT := fun _ _ _ _ _ _ => False
abbrev E0 : XK := fun _ _ _ => False
theorem qjb {X : Cx} : qad CX0 X E0 := fun _ _ _ _ _ _ _ h => h.elim
structure Fun (K : PySem.W.Frag) (x qual : Str) (st : Stmt) (f : Addr) (fd : FuncData) : Prop where
 ex : ∃ (oc : Value) (od : Option Addr) (kV doc pm : Value) (an : Option Addr) (cdv ct : Value) (osl : Array (Option Value)),
  fd = PySem.W.fnOf x qual (qr st) (qm st) (qd st) .none kV doc pm an cdv ct /\ K.lookup f = some ⟨oc, od, .func fd, osl⟩ /\ PySem.W.codeIn K cdv qual = true
 kp : PySem.W.keepIn K (.ref f) = true
section
variable {P : Program} {w : World} {K : PySem.W.Frag} {mg : Str -> Option Value} {base : Heap}
theorem Fun.ok {x qual : Str} {st : Stmt} {f : Addr} {fd : FuncData} {N ps : List Str} {k : Nat} {sp : Sp} (F : Fun K x qual st f fd) (S : qp N ps (qd st)) (len : ∀ vs H Q E, sp vs H Q E -> vs.length = ps.length)
  (hbody : ∀ (cdv : Value) (A : Around) (outer : List Env) (s : Shared) (H : Hp) (vs : List V) (Q : VK) (E : XK), uS k (A.deeper (envOfC qual (qd st) s.heap.objs.size f cdv)) -> sp vs H Q E ->
   ∃ t, PSs (qgM CX0 P w K mg base N qual (qd st) f cdv A outer s H E).nox (qm st) t /\ t { nx := fun _ H' => Q .non H', rt := Q } (zY N vs) H) : jX P w K mg base CX0 (k + 1) f fd ps sp := by
 obtain ⟨oc, od, kV, doc, pm, an, cdv, ct, osl, rfl, lk, hcd⟩ := F.ex
 refine qkH lk hcd S len fun A outer s H vs Q E hr hsp => ?_
 obtain ⟨t, h, q⟩ := hbody cdv A outer s H vs Q E hr hsp
 exact ⟨t, h.nox, q⟩
theorem Fun.binds {x qual : Str} {st : Stmt} {f : Addr} {fd : FuncData} {ps : List Str} (F : Fun K x qual st f fd)
  (h : ∀ (kV doc pm : Value) (an : Option Addr) (cdv ct : Value) (us : List Value), us.length = ps.length -> bindArgs (PySem.W.fnOf x qual (qr st) (qm st) (qd st) .none kV doc pm an cdv ct) ⟨us, []⟩ = pure (ps.zip us)) : vn K fd ps [] := by
 obtain ⟨oc, od, kV, doc, pm, an, cdv, ct, osl, rfl, lk, hcd⟩ := F.ex
 exact .all (h kV doc pm an cdv ct)
theorem qJ {x qual : Str} {st : Stmt} {f : Addr} {oc : Value} {od an : Option Addr} {osl : Array (Option Value)} {kV doc pm cdv ct : Value} (l : K.lookup f = some ⟨oc, od, .func (PySem.W.fnOf x qual (qr st) (qm st) (qd st) .none kV doc pm an cdv ct), osl⟩)
  (c : PySem.W.codeIn K cdv qual = true) (k : PySem.W.keepIn K (.ref f) = true) : Fun K x qual st f (PySem.W.fnOf x qual (qr st) (qm st) (qd st) .none kV doc pm an cdv ct) := ⟨⟨oc, od, kV, doc, pm, an, cdv, ct, osl, rfl, l, c⟩, k⟩
end
section
variable {X : Cx}
end
theorem qkQ {A B : Prop} (h : B) : if false = true then A else B := by
 rw [if_neg Bool.false_ne_true]
 exact h
theorem qkR {A B : Prop} (h : A) : if true = true then A else B := by
 rw [if_pos rfl]
 exact h
def jK (H H' : Hp) : Prop := ∀ b o, H b = some o -> H' b = some o
theorem jK.refl (H : Hp) : jK H H := fun _ _ h => h
theorem jK.trans {H H1 H2 : Hp} (a : jK H H1) (b : jK H1 H2) : jK H H2 := fun c o h => b c o (a c o h)
theorem jK.free {H H' : Hp} (e : jK H H') {l : Addr} (h : H' l = Option.none) : H l = Option.none := by
 cases q : H l with
 | none => rfl
 | some o =>
  rw [e l o q] at h
  cases h
end L2
namespace L2.Sk
open PySem PySem.Spec PyProof.Rows
inductive D where
 | non | bl (b : Bool) | int (i : Int) | str (x : Str) | tup (xs : List D) | lst (xs : List D) | dic (kvs : List (Key × Int)) | fz (ns : List Int)
 | exc (n : Str)
abbrev Fr0 := PySem.W.Frag
structure XK6 (K : Fr0) (D : Addr) : Prop where
 ga : PySem.W.findIn K (.ref D) "__getattribute__" = some (some (.builtin "BaseException.__getattribute__"))
 gt : PySem.W.findIn K (.ref D) "__getattr__" = some none
 cl : PySem.W.findIn K (.ref D) "__class__" = some (some (.builtin "object.__class__"))
 ob : PySem.W.mroIn K D (.type "object") = some true
 be : PySem.W.subIn K (.ref D) (.type "BaseException") = some true
 is : (PySem.W.clsIn K D).isSome = true
 no : ∀ T ∈ ["int", "bool", "str", "tuple", "list", "dict"], PySem.W.kitOne K (.ref D) (.type T) = some false
def uT (K : Fr0) (n : Str) : Option Addr := match PySem.W.nsIn K mainGlobals n with
 | some (some (.ref C)) => some C
 | _ => none
def clR (K : Fr0) (RN : List Str) (n : Str) : Option Addr := if RN.contains n then uT K n else none
theorem wN {K : Fr0} {RN : List Str} {n : Str} {C : Addr} (h : clR K RN n = some C) : RN.contains n = true /\ uT K n = some C := by
 unfold clR at h
 split at h
 ·rename_i hn; exact ⟨hn, h⟩
 ·cases h
def qn6 (K : Fr0) (H : Hp) (a : Addr) (n : Str) : Prop := ∃ C, uT K n = some C /\ XK6 K C /\ ∃ o vs, H a = some (.frz o (.own a)) /\ o.cls = .ref C /\ o.data = .fields vs
def vE (K : Fr0) (H : Hp) (a : Addr) (xs : List V) : Prop :=
 H a = some (.tup xs) \/ ∃ (o : Obj) (its : Array Value) (n : Nat), K.lookup a = some o /\ o.cls = .type "tuple" /\ o.data = .seq its n /\ its.size <= sizeLine /\ zh xs its.toList
def qkS (K : Fr0) (H : Hp) (a : Addr) (xs : List V) : Prop :=
 (∃ o, H a = some (.frz o (.lst xs))) \/ ∃ (o : Obj) (its : Array Value) (n : Nat), K.lookup a = some o /\ o.cls = .type "list" /\ o.dict = none /\ o.data = .seq its n /\ its.size <= sizeLine /\ zh xs its.toList
theorem vE.sq {K : Fr0} {H : Hp} {a : Addr} {xs : List V} (h : vE K H a xs) : SqT K H a xs := by
 rcases h with h | h
 ·exact .inl (.inl h)
 ·exact .inr h
theorem qkS.sq {K : Fr0} {H : Hp} {a : Addr} {xs : List V} (h : qkS K H a xs) : SqL K H a xs := by
 rcases h with h | h
 ·exact .inl (.inr h)
 ·exact .inr h
mutual
def Is (K : Fr0) (A : Addr -> Prop) (H : Hp) : D -> V -> Prop
 | .non, v => v = .non
 | .bl b, v => v = .bl b
 | .int i, v => v = .int i
 | .str x, v => v = .str x
 | .tup ds, v => ∃ a xs, v = .ref a /\ vE K H a xs /\ IsL K A H ds xs
 | .lst ds, v => ∃ a xs, v = .ref a /\ A a /\ H a = some (.lst xs) /\ IsL K A H ds xs
 | .dic kvs, v => ∃ a, v = .ref a /\ A a /\ H a = some (.dK (kvs.map fun p => (p.1, V.int p.2)))
 | .fz ns, v => ∃ a, v = .ref a /\ qkS K H a (ns.map V.int)
 | .exc n, v => ∃ a, v = .ref a /\ qn6 K H a n
def IsL (K : Fr0) (A : Addr -> Prop) (H : Hp) : List D -> List V -> Prop
 | [], xs => xs = []
 | d :: ds, xs => ∃ x ys, xs = x :: ys /\ Is K A H d x /\ IsL K A H ds ys
end
mutual
def imm : D -> Bool
 | .tup ds => immL ds
 | .lst _ => false
 | .dic _ => false
 | .fz _ => false
 | _ => true
def immL : List D -> Bool
 | [] => true
 | d :: ds => imm d && immL ds
end
structure Ext (A : Addr -> Prop) (H H' : Hp) : Prop where
 tup : ∀ b xs, H b = some (.tup xs) -> H' b = some (.tup xs)
 frz : ∀ b o u, H b = some (.frz o u) -> H' b = some (.frz o u)
 at_ : ∀ b o, A b -> H b = some o -> H' b = some o
theorem Ext.refl {A : Addr -> Prop} {H : Hp} : Ext A H H := ⟨fun _ _ h => h, fun _ _ _ h => h, fun _ _ _ h => h⟩
theorem Ext.of_same {A : Addr -> Prop} {H H' : Hp} (s : jK H H') : Ext A H H' := ⟨fun b xs h => s b _ h, fun b o u h => s b _ h, fun b o _ h => s b o h⟩
mutual
theorem Is.ext {K : Fr0} {A B : Addr -> Prop} {H H' : Hp} (e : Ext A H H') (hAB : ∀ a, A a -> (H a).isSome = true -> B a) : ∀ {d : D} {v : V}, Is K A H d v -> Is K B H' d v
 | .non, _, h => h
 | .bl _, _, h => h
 | .int _, _, h => h
 | .str _, _, h => h
 | .tup ds, _, ⟨a, xs, hv, h, r⟩ => ⟨a, xs, hv, h.elim (fun h => .inl (e.tup _ _ h)) .inr, IsL.ext e hAB r⟩
 | .lst ds, _, ⟨a, xs, hv, hA, h, r⟩ => ⟨a, xs, hv, hAB a hA (by rw [h]; rfl), e.at_ _ _ hA h, IsL.ext e hAB r⟩
 | .dic kvs, _, ⟨a, hv, hA, h⟩ => ⟨a, hv, hAB a hA (by rw [h]; rfl), e.at_ _ _ hA h⟩
 | .fz ns, _, ⟨a, hv, h⟩ => ⟨a, hv, h.elim (fun ⟨o, h⟩ => .inl ⟨o, e.frz _ _ _ h⟩) .inr⟩
 | .exc n, _, ⟨a, hv, C, hc, hk, o, vs, h, r⟩ => ⟨a, hv, C, hc, hk, o, vs, e.frz _ _ _ h, r⟩
theorem IsL.ext {K : Fr0} {A B : Addr -> Prop} {H H' : Hp} (e : Ext A H H') (hAB : ∀ a, A a -> (H a).isSome = true -> B a) : ∀ {ds : List D} {xs : List V}, IsL K A H ds xs -> IsL K B H' ds xs
 | [], _, h => h
 | _ :: _, _, ⟨x, ys, hx, h, r⟩ => ⟨x, ys, hx, Is.ext e hAB h, IsL.ext e hAB r⟩
end
mutual
theorem Is.imm {K : Fr0} {A B : Addr -> Prop} {H : Hp} : ∀ {d : D} {v : V}, imm d = true -> Is K A H d v -> Is K B H d v
 | .non, _, _, h => h
 | .bl _, _, _, h => h
 | .int _, _, _, h => h
 | .str _, _, _, h => h
 | .tup ds, _, i, ⟨a, xs, hv, h, r⟩ => ⟨a, xs, hv, h, IsL.imm (by simpa [Sk.imm] using i) r⟩
 | .lst _, _, i, _ => by simp [Sk.imm] at i
 | .dic _, _, i, _ => by simp [Sk.imm] at i
 | .fz _, _, i, _ => by simp [Sk.imm] at i
 | .exc _, _, _, h => h
theorem IsL.imm {K : Fr0} {A B : Addr -> Prop} {H : Hp} : ∀ {ds : List D} {xs : List V}, immL ds = true -> IsL K A H ds xs -> IsL K B H ds xs
 | [], _, _, h => h
 | d :: ds, _, i, ⟨x, ys, hx, h, r⟩ => by
  have i' : Sk.imm d = true /\ immL ds = true := by simpa [immL] using i
  exact ⟨x, ys, hx, Is.imm i'.1 h, IsL.imm i'.2 r⟩
end
theorem IsL.length {K : Fr0} {A : Addr -> Prop} {H : Hp} : ∀ {ds : List D} {xs : List V}, IsL K A H ds xs -> xs.length = ds.length
 | [], _, h => by rw [h]; rfl
 | _ :: _, _, ⟨x, ys, hx, _, r⟩ => by rw [hx, List.length_cons, List.length_cons, IsL.length r]
theorem IsL.get {K : Fr0} {A : Addr -> Prop} {H : Hp} : ∀ {ds : List D} {xs : List V} {i : Nat} {d : D}, IsL K A H ds xs -> ds[i]? = some d -> ∃ x, xs[i]? = some x /\ Is K A H d x
 | [], _, _, _, _, h => by simp at h
 | e :: _, _, 0, d, ⟨x, ys, hx, h, r⟩, hd => by
  have e1 : e = d := by simpa using hd
  subst e1
  exact ⟨x, by rw [hx]; rfl, h⟩
 | _ :: ds, _, i + 1, d, ⟨x, ys, hx, h, r⟩, hd => by
  obtain ⟨y, h1, h2⟩ := IsL.get (i := i) (d := d) r (by simpa using hd)
  exact ⟨y, by rw [hx]; simpa using h1, h2⟩
theorem IsL.append {K : Fr0} {A : Addr -> Prop} {H : Hp} : ∀ {ds es : List D} {xs ys : List V}, IsL K A H ds xs -> IsL K A H es ys -> IsL K A H (ds ++ es) (xs ++ ys)
 | [], _, _, _, h, g => by rw [h]; exact g
 | _ :: _, _, _, _, ⟨x, zs, hx, h, r⟩, g => ⟨x, zs ++ _, by rw [hx]; rfl, h, IsL.append r g⟩
theorem IsL.take {K : Fr0} {A : Addr -> Prop} {H : Hp} : ∀ {ds : List D} {xs : List V} (n : Nat), IsL K A H ds xs -> IsL K A H (ds.take n) (xs.take n)
 | _, _, 0, _ => by simp [IsL]
 | [], _, _ + 1, h => by rw [h]; simp [IsL]
 | _ :: _, _, n + 1, ⟨x, ys, hx, h, r⟩ => by rw [hx]; exact ⟨x, ys.take n, rfl, h, IsL.take n r⟩
theorem IsL.drop {K : Fr0} {A : Addr -> Prop} {H : Hp} : ∀ {ds : List D} {xs : List V} (n : Nat), IsL K A H ds xs -> IsL K A H (ds.drop n) (xs.drop n)
 | _, _, 0, h => h
 | [], _, _ + 1, h => by rw [h]; simp [IsL]
 | _ :: _, _, n + 1, ⟨x, ys, hx, h, r⟩ => by rw [hx]; exact IsL.drop n r
theorem IsL.one {K : Fr0} {A : Addr -> Prop} {H : Hp} {d : D} {v : V} (h : Is K A H d v) : IsL K A H [d] [v] := ⟨v, [], rfl, h, rfl⟩
theorem IsL.set {K : Fr0} {A : Addr -> Prop} {H : Hp} {d : D} {v : V} (hd : Is K A H d v) : ∀ {ds : List D} {xs : List V} (n : Nat), IsL K A H ds xs -> IsL K A H (ds.set n d) (xs.set n v)
 | [], _, _, h => by rw [h]; simp [IsL]
 | _ :: _, _, 0, ⟨x, ys, hx, h, r⟩ => by rw [hx]; exact ⟨v, ys, rfl, hd, r⟩
 | _ :: _, _, n + 1, ⟨x, ys, hx, h, r⟩ => by rw [hx]; exact ⟨x, ys.set n v, rfl, h, IsL.set hd n r⟩
abbrev Env := List (Option D)
structure Exn where
 cls : Str
 val : D
inductive R (α : Type) where
 | ok (a : α) | exc (x : Exn) (ρ : Env) | bad
structure Fc where
 O : List Nat
 P : List Nat
 B : Addr -> Prop
 H0 : Hp
 Io : Addr -> Prop
 E : Exn -> Hp -> Prop
 S : Nat -> Option (Option V)
def Cl (O : List Nat) (σ : St) (a : Addr) : Prop := ∀ j ∈ O, σ[j]? ≠ some (some (.ref a))
def Cn (c : Fc) (σ : St) (a : Addr) : Prop := c.B a /\ Cl c.O σ a
structure Rep (K : Fr0) (c : Fc) (ρ : Env) (σ : St) (H : Hp) : Prop where
 len : ρ.length = σ.length
 val : ∀ i d, ρ[i]? = some (some d) -> ∃ v, σ[i]? = some (some v) /\
  ((i ∈ c.O /\ ∃ ds a xs, d = .lst ds /\ v = .ref a /\ H a = some (.lst xs) /\ IsL K (Cn c σ) H ds xs) \/ (i ∉ c.O /\ Is K (Cn c σ) H d v))
 own : ∀ j ∈ c.O, ∀ v, σ[j]? = some (some v) -> ∃ a xs, v = .ref a /\ H a = some (.lst xs) /\ (c.H0 a = none \/ (j ∈ c.P /\ c.Io a))
 inj : ∀ i j a, i ∈ c.O -> j ∈ c.O -> σ[i]? = some (some (.ref a)) -> σ[j]? = some (some (.ref a)) -> i = j
 b0 : ∀ a, c.H0 a = none -> c.B a
 kp : ∀ b o, c.H0 b = some o -> ¬ c.Io b -> H b = some o
 dm : ∀ b, H b = none -> c.H0 b = none
 pO : ∀ j ∈ c.P, j ∈ c.O
 ps : ∀ j ∈ c.P, σ[j]? = c.S j
structure Gr (O : List Nat) (σ : St) (H H' : Hp) : Prop where
 ext : Ext (Cl O σ) H H'
 dom : ∀ b, H' b = none -> H b = none
theorem Gr.refl {O : List Nat} {σ : St} {H : Hp} : Gr O σ H H := ⟨Ext.refl, fun _ h => h⟩
theorem Gr.of_same {O : List Nat} {σ : St} {H H' : Hp} (s : jK H H') : Gr O σ H H' := ⟨Ext.of_same s, fun _ h => s.free h⟩
theorem Gr.trans {O : List Nat} {σ : St} {H H1 H2 : Hp} (a : Gr O σ H H1) (b : Gr O σ H1 H2) : Gr O σ H H2 :=
 ⟨⟨fun c xs h => b.ext.tup c xs (a.ext.tup c xs h), fun c o u h => b.ext.frz c o u (a.ext.frz c o u h), fun c o hc h => b.ext.at_ c o hc (a.ext.at_ c o hc h)⟩, fun c h => a.dom c (b.dom c h)⟩
theorem Gr.cn {c : Fc} {σ : St} {H H' : Hp} (g : Gr c.O σ H H') : Ext (Cn c σ) H H' := ⟨g.ext.tup, g.ext.frz, fun b o hb h => g.ext.at_ b o hb.2 h⟩
theorem Gr.is {K : Fr0} {c : Fc} {σ : St} {H H' : Hp} {d : D} {v : V} (g : Gr c.O σ H H') (h : Is K (Cn c σ) H d v) : Is K (Cn c σ) H' d v := Is.ext g.cn (fun _ h _ => h) h
theorem Gr.isL {K : Fr0} {c : Fc} {σ : St} {H H' : Hp} {d : List D} {v : List V} (g : Gr c.O σ H H') (h : IsL K (Cn c σ) H d v) : IsL K (Cn c σ) H' d v := IsL.ext g.cn (fun _ h _ => h) h
theorem Rep.new {K : Fr0} {c : Fc} {ρ : Env} {σ : St} {H : Hp} (r : Rep K c ρ σ H) {a : Addr} (h : H a = none) : Cn c σ a :=
 ⟨r.b0 a (r.dm a h), fun j hj e => by obtain ⟨b, xs, e1, e2, _⟩ := r.own j hj _ e; cases e1; rw [h] at e2; cases e2⟩
theorem Rep.same {K : Fr0} {c : Fc} {ρ : Env} {σ : St} {H H' : Hp} (r : Rep K c ρ σ H) (s : jK H H') : Rep K c ρ σ H' where
 len := r.len
 val := fun i d h => by
  obtain ⟨v, h1, h2⟩ := r.val i d h
  refine ⟨v, h1, ?_⟩
  rcases h2 with ⟨hi, ds, a, xs, h3, h5, h6, h7⟩ | ⟨hi, h3⟩
  ·exact .inl ⟨hi, ds, a, xs, h3, h5, s _ _ h6, IsL.ext (Ext.of_same s) (fun _ h _ => h) h7⟩
  ·exact .inr ⟨hi, Is.ext (Ext.of_same s) (fun _ h _ => h) h3⟩
 own := fun j hj v h => by
  obtain ⟨a, xs, h1, h2, h3⟩ := r.own j hj v h
  exact ⟨a, xs, h1, s _ _ h2, h3⟩
 inj := r.inj
 b0 := r.b0
 kp := fun b o h1 h2 => s _ _ (r.kp b o h1 h2)
 dm := fun b h => r.dm b (s.free h)
 pO := r.pO
 ps := r.ps
theorem Rep.get {K : Fr0} {c : Fc} {ρ : Env} {σ : St} {H : Hp} (r : Rep K c ρ σ H) {i : Nat} {d : D} (hi : i ∉ c.O) (h : ρ[i]? = some (some d)) : ∃ v, σ[i]? = some (some v) /\ Is K (Cn c σ) H d v := by
 obtain ⟨v, h1, h2⟩ := r.val i d h
 rcases h2 with ⟨h3, _⟩ | ⟨_, h3⟩
 ·exact absurd h3 hi
 ·exact ⟨v, h1, h3⟩
theorem Rep.getO {K : Fr0} {c : Fc} {ρ : Env} {σ : St} {H : Hp} (r : Rep K c ρ σ H) {i : Nat} {d : D} (hi : i ∈ c.O) (h : ρ[i]? = some (some d)) :
  ∃ ds a xs, d = .lst ds /\ σ[i]? = some (some (.ref a)) /\ H a = some (.lst xs) /\ IsL K (Cn c σ) H ds xs := by
 obtain ⟨v, h1, h2⟩ := r.val i d h
 rcases h2 with ⟨_, ds, a, xs, h3, h5, h6, h7⟩ | ⟨h3, _⟩
 ·subst h5; exact ⟨ds, a, xs, h3, h1, h6, h7⟩
 ·exact absurd hi h3
abbrev M (α : Type) := Env -> R (α × Env)
def Wp (K : Fr0) (c : Fc) (σ : St) (H : Hp) (Q : VK) : R (D × Env) -> Prop
 | .ok (d, ρ) => ∀ v H', Rep K c ρ σ H' -> Is K (Cn c σ) H' d v -> Gr c.O σ H H' -> Q v H'
 | .exc x ρ => ∀ H', Rep K c ρ σ H' -> Gr c.O σ H H' -> c.E x H'
 | .bad => False
def WpB (K : Fr0) (c : Fc) (σ : St) (H : Hp) (Q : Bool -> Hp -> Prop) : R (Bool × Env) -> Prop
 | .ok (b, ρ) => ∀ H', Rep K c ρ σ H' -> Gr c.O σ H H' -> Q b H'
 | .exc x ρ => ∀ H', Rep K c ρ σ H' -> Gr c.O σ H H' -> c.E x H'
 | .bad => False
def WpL (K : Fr0) (c : Fc) (σ : St) (H : Hp) (Q : List V -> Hp -> Prop) : R (List D × Env) -> Prop
 | .ok (ds, ρ) => ∀ vs H', Rep K c ρ σ H' -> IsL K (Cn c σ) H' ds vs -> Gr c.O σ H H' -> Q vs H'
 | .exc x ρ => ∀ H', Rep K c ρ σ H' -> Gr c.O σ H H' -> c.E x H'
 | .bad => False
def DE (X : Cx) (c : Fc) (e : Expr) (f : M D) : Prop := ∃ t, PE X e t /\ ∀ ρ σ H Q, Rep X.K c ρ σ H -> Wp X.K c σ H Q (f ρ) -> t σ H Q
def DT (X : Cx) (c : Fc) (e : Expr) (f : M Bool) : Prop := ∃ t, PT X e t /\ ∀ ρ σ H Q, Rep X.K c ρ σ H -> WpB X.K c σ H Q (f ρ) -> t σ H Q
def DA (X : Cx) (c : Fc) (es : List Expr) (f : M (List D)) : Prop := ∃ t, PA X es t /\ ∀ ρ σ H Q, Rep X.K c ρ σ H -> WpL X.K c σ H Q (f ρ) -> t σ H Q
def ret {α : Type} (a : α) : M α := fun ρ => .ok (a, ρ)
def bnd {α β : Type} (f : M α) (k : α -> M β) : M β := fun ρ => match f ρ with
 | .ok (a, ρ') => k a ρ'
 | .exc x ρ' => .exc x ρ'
 | .bad => .bad
def lift {α : Type} : Option α -> M α
 | some a => ret a
 | none => fun _ => .bad
section
variable {K : Fr0} {c : Fc} {σ : St} {H H1 : Hp} {Q : VK} {QB : Bool -> Hp -> Prop} {QL : List V -> Hp -> Prop} {r : R (D × Env)}
theorem Wp.gr : ∀ {r : R (D × Env)}, Wp K c σ H Q r -> Gr c.O σ H H1 -> Wp K c σ H1 Q r
 | .ok (d, ρ), h, g => fun v H' hr hi hg => h v H' hr hi (g.trans hg)
 | .exc x ρ, h, g => fun H' hr hg => h H' hr (g.trans hg)
 | .bad, h, _ => h
theorem WpB.gr : ∀ {r : R (Bool × Env)}, WpB K c σ H QB r -> Gr c.O σ H H1 -> WpB K c σ H1 QB r
 | .ok (d, ρ), h, g => fun H' hr hg => h H' hr (g.trans hg)
 | .exc x ρ, h, g => fun H' hr hg => h H' hr (g.trans hg)
 | .bad, h, _ => h
theorem WpL.gr : ∀ {r : R (List D × Env)}, WpL K c σ H QL r -> Gr c.O σ H H1 -> WpL K c σ H1 QL r
 | .ok (d, ρ), h, g => fun v H' hr hi hg => h v H' hr hi (g.trans hg)
 | .exc x ρ, h, g => fun H' hr hg => h H' hr (g.trans hg)
 | .bad, h, _ => h
theorem Wp.bnd {f : M D} {k : D -> M D} {ρ : Env} {Q' : VK} (h : Wp K c σ H Q (bnd f k ρ)) (hQ : ∀ d ρ' v H', Rep K c ρ' σ H' -> Is K (Cn c σ) H' d v -> Gr c.O σ H H' -> Wp K c σ H' Q (k d ρ') -> Q' v H') : Wp K c σ H Q' (f ρ) := by
 unfold Sk.bnd at h
 cases e : f ρ with
 | ok p => rw [e] at h; exact fun v H' hr hi hg => hQ p.1 p.2 v H' hr hi hg (h.gr hg)
 | exc x ρ' => rw [e] at h; exact h
 | bad => rw [e] at h; exact h
theorem Wp.bndB {f : M D} {k : D -> M Bool} {ρ : Env} {Q' : VK} (h : WpB K c σ H QB (Sk.bnd f k ρ)) (hQ : ∀ d ρ' v H', Rep K c ρ' σ H' -> Is K (Cn c σ) H' d v -> Gr c.O σ H H' -> WpB K c σ H' QB (k d ρ') -> Q' v H') : Wp K c σ H Q' (f ρ) := by
 unfold Sk.bnd at h
 cases e : f ρ with
 | ok p => rw [e] at h; exact fun v H' hr hi hg => hQ p.1 p.2 v H' hr hi hg (h.gr hg)
 | exc x ρ' => rw [e] at h; exact h
 | bad => rw [e] at h; exact h
theorem Wp.bndL {f : M D} {k : D -> M (List D)} {ρ : Env} {Q' : VK} (h : WpL K c σ H QL (Sk.bnd f k ρ)) (hQ : ∀ d ρ' v H', Rep K c ρ' σ H' -> Is K (Cn c σ) H' d v -> Gr c.O σ H H' -> WpL K c σ H' QL (k d ρ') -> Q' v H') : Wp K c σ H Q' (f ρ) := by
 unfold Sk.bnd at h
 cases e : f ρ with
 | ok p => rw [e] at h; exact fun v H' hr hi hg => hQ p.1 p.2 v H' hr hi hg (h.gr hg)
 | exc x ρ' => rw [e] at h; exact h
 | bad => rw [e] at h; exact h
theorem WpB.bnd {f : M Bool} {k : Bool -> M D} {ρ : Env} {Q' : Bool -> Hp -> Prop} (h : Wp K c σ H Q (Sk.bnd f k ρ)) (hQ : ∀ d ρ' H', Rep K c ρ' σ H' -> Gr c.O σ H H' -> Wp K c σ H' Q (k d ρ') -> Q' d H') : WpB K c σ H Q' (f ρ) := by
 unfold Sk.bnd at h
 cases e : f ρ with
 | ok p => rw [e] at h; exact fun H' hr hg => hQ p.1 p.2 H' hr hg (h.gr hg)
 | exc x ρ' => rw [e] at h; exact h
 | bad => rw [e] at h; exact h
theorem WpB.bndB {f : M Bool} {k : Bool -> M Bool} {ρ : Env} {Q' : Bool -> Hp -> Prop} (h : WpB K c σ H QB (Sk.bnd f k ρ)) (hQ : ∀ d ρ' H', Rep K c ρ' σ H' -> Gr c.O σ H H' -> WpB K c σ H' QB (k d ρ') -> Q' d H') : WpB K c σ H Q' (f ρ) := by
 unfold Sk.bnd at h
 cases e : f ρ with
 | ok p => rw [e] at h; exact fun H' hr hg => hQ p.1 p.2 H' hr hg (h.gr hg)
 | exc x ρ' => rw [e] at h; exact h
 | bad => rw [e] at h; exact h
theorem WpL.bnd {f : M (List D)} {k : List D -> M D} {ρ : Env} {Q' : List V -> Hp -> Prop} (h : Wp K c σ H Q (Sk.bnd f k ρ)) (hQ : ∀ d ρ' v H', Rep K c ρ' σ H' -> IsL K (Cn c σ) H' d v -> Gr c.O σ H H' -> Wp K c σ H' Q (k d ρ') -> Q' v H') : WpL K c σ H Q' (f ρ) := by
 unfold Sk.bnd at h
 cases e : f ρ with
 | ok p => rw [e] at h; exact fun v H' hr hi hg => hQ p.1 p.2 v H' hr hi hg (h.gr hg)
 | exc x ρ' => rw [e] at h; exact h
 | bad => rw [e] at h; exact h
theorem WpL.bndL {f : M (List D)} {k : List D -> M (List D)} {ρ : Env} {Q' : List V -> Hp -> Prop} (h : WpL K c σ H QL (Sk.bnd f k ρ)) (hQ : ∀ d ρ' v H', Rep K c ρ' σ H' -> IsL K (Cn c σ) H' d v -> Gr c.O σ H H' -> WpL K c σ H' QL (k d ρ') -> Q' v H') : WpL K c σ H Q' (f ρ) := by
 unfold Sk.bnd at h
 cases e : f ρ with
 | ok p => rw [e] at h; exact fun v H' hr hi hg => hQ p.1 p.2 v H' hr hi hg (h.gr hg)
 | exc x ρ' => rw [e] at h; exact h
 | bad => rw [e] at h; exact h
theorem Wp.lift {o : Option D} {ρ : Env} (h : Wp K c σ H Q (Sk.lift o ρ)) : ∃ d, o = some d /\ ∀ v H', Rep K c ρ σ H' -> Is K (Cn c σ) H' d v -> Gr c.O σ H H' -> Q v H' := by
 cases o with
 | none => exact h.elim
 | some d => exact ⟨d, rfl, h⟩
end
section
variable {X : Cx} {c : Fc} {a b e : Expr} {pos : Pos}
theorem qg {i j pos} : DE X c (.Constant (.int i) j pos) (ret (.int i)) := ⟨_, qh8, fun _ _ H Q r h => h _ H r rfl .refl⟩
theorem vM {i j pos} : DE X c (.Constant (.bool i) j pos) (ret (.bl i)) := ⟨_, qmk, fun _ _ H Q r h => h _ H r rfl .refl⟩
theorem jY {j pos} : DE X c (.Constant .none j pos) (ret .non) := ⟨_, qkk, fun _ _ H Q r h => h _ H r rfl .refl⟩
theorem uU {x j pos} : DE X c (.Constant (.str x) j pos) (ret (.str x)) := ⟨_, qkl, fun _ _ H Q r h => h _ H r rfl .refl⟩
def dv (i : Nat) : M D := fun ρ => match ρ[i]? with
 | some (some d) => .ok (d, ρ)
 | _ => .bad
theorem qc (i : Nat) {x : Str} (ho : i ∉ c.O := by exact of_decide_eq_false rfl) (hN : X.N[i]? = some x := by rfl) (hv : Vis X.env.scope x := by first | exact Or.inl rfl | exact Or.inr (Or.inl rfl) | exact Or.inr (Or.inr rfl)) (hd : (x == ("__debug__" : Str)) = false := by decide)
  (hcd : (x == ("__classdict__" : Str)) = false := by decide) : DE X c (.Name x pos) (dv i) := by
 refine ⟨_, vL hN hv hd hcd, fun ρ σ H Q r h => ?_⟩
 unfold dv at h
 split at h
 ·rename_i d e
  obtain ⟨v, h1, h2⟩ := r.get ho e
  exact ⟨v, h1, h v H r h2 .refl⟩
 ·exact h.elim
theorem qfj {x : Str} {v : V} {u : Value} {d : D} (hg : Gl X x) (hm : X.mg x = some u) (rv : yp v u) (hd : ∀ H A, Is X.K A H d v) (hdb : (x == ("__debug__" : Str)) = false := by decide) : DE X c (.Name x pos) (ret d) :=
 ⟨_, qcM hg hm rv hdb, fun _ _ H Q r h => h _ H r (hd _ _) .refl⟩
theorem qe : DA X c [] (ret []) := ⟨_, wM, fun _ _ H Q r h => h _ H r rfl .refl⟩
def qb (f : M D) (g : M (List D)) : M (List D) := bnd f fun d => bnd g fun ds => ret (d :: ds)
theorem qa {es : List Expr} {f : M D} {g : M (List D)} (ha : DE X c e f) (hr : DA X c es g) (hs : starEach (e :: es) X.env = (false, eval e X.env) :: starEach es X.env := by rfl) : DA X c (e :: es) (qb f g) := by
 obtain ⟨ta, pa, wa⟩ := ha
 obtain ⟨tr, pr, wr⟩ := hr
 refine ⟨_, j7 pa pr hs, fun ρ σ H Q r h => wa ρ σ H _ r (Wp.bndL h fun d ρ1 v H1 r1 i1 g1 h1 => wr ρ1 σ H1 _ r1 (WpL.bndL h1 fun ds ρ2 vs H2 r2 i2 g2 h2 => ?_))⟩
 exact h2 _ H2 r2 ⟨v, vs, rfl, g2.is i1, i2⟩ .refl
def qI (n : Nat) : Bool := decide (n <= sizeLine)
def jm (f : M (List D)) : M D := bnd f fun ds => lift (if qI ds.length then some (.tup ds) else none)
def zP (f : M (List D)) : M D := bnd f fun ds => lift (if qI ds.length then some (.lst ds) else none)
theorem qz {H : Hp} {p : Addr} (h : H p = none) (o : HO) : jK H (upd H p o) := fun b u q => by rw [qt (qH q h)]; exact q
theorem Rep.laid {K : Fr0} {ρ : Env} {σ : St} {H : Hp} (r : Rep K c ρ σ H) {p : Addr} (h : H p = none) (o : HO) : Rep K c ρ σ (upd H p o) := r.same (qz h o)
theorem jB {p : Bool} {d e : D} (h : (if p then some d else none) = some e) : p = true /\ d = e := by
 cases p with
 | true => exact ⟨rfl, by simpa using h⟩
 | false => simp at h
theorem qK {es : List Expr} {x1} {f : M (List D)} (h : DA X c es f) : DE X c (.Tuple es x1 pos) (jm f) := by
 obtain ⟨t, p, w⟩ := h
 refine ⟨_, qkE p, fun ρ σ H Q r h => w ρ σ H _ r (WpL.bnd h fun ds ρ1 vs H1 r1 i1 g1 h1 => ?_)⟩
 obtain ⟨d, e, h2⟩ := h1.lift
 obtain ⟨e1, e2⟩ := jB e
 subst e2
 refine ⟨by rw [i1.length]; exact of_decide_eq_true e1, fun p hp => h2 _ _ (r1.laid hp _) ⟨p, vs, rfl, .inl qv, IsL.ext (Ext.of_same (qz hp _)) (fun _ h _ => h) i1⟩ (.of_same (qz hp _))⟩
theorem zb {es : List Expr} {f : M (List D)} (h : DA X c es f) : DE X c (.List es pos) (zP f) := by
 obtain ⟨t, p, w⟩ := h
 refine ⟨_, qfb p, fun ρ σ H Q r h => w ρ σ H _ r (WpL.bnd h fun ds ρ1 vs H1 r1 i1 g1 h1 => ?_)⟩
 obtain ⟨d, e, h2⟩ := h1.lift
 obtain ⟨e1, e2⟩ := jB e
 subst e2
 refine ⟨by rw [i1.length]; exact of_decide_eq_true e1, fun p hp => h2 _ _ (r1.laid hp _) ⟨p, vs, rfl, r1.new hp, qv, IsL.ext (Ext.of_same (qz hp _)) (fun _ h _ => h) i1⟩ (.of_same (qz hp _))⟩
def OpS (K : Fr0) (F : D -> D -> Option D) (r : R2) : Prop := ∀ (A : Addr -> Prop) (H : Hp) (x y d : D) (v u : V) (Q : VK), (∀ a, H a = none -> A a) -> Is K A H x v -> Is K A H y u -> F x y = some d ->
 (∀ w H', jK H H' -> Is K A H' d w -> Q w H') -> r v u H Q
def d2 (F : D -> D -> Option D) (f g : M D) : M D := bnd f fun x => bnd g fun y => lift (F x y)
theorem op2 {r : R2} {F : D -> D -> Option D} {f g : M D} {ta tb : TE} (hF : OpS X.K F r) (wa : ∀ ρ σ H Q, Rep X.K c ρ σ H -> Wp X.K c σ H Q (f ρ) -> ta σ H Q) (wb : ∀ ρ σ H Q, Rep X.K c ρ σ H -> Wp X.K c σ H Q (g ρ) -> tb σ H Q) :
  ∀ ρ σ H Q, Rep X.K c ρ σ H -> Wp X.K c σ H Q (d2 F f g ρ) -> tOp r ta tb σ H Q := fun ρ σ H Q rp h => wa ρ σ H _ rp (Wp.bnd h fun x ρ1 v H1 r1 i1 g1 h1 => wb ρ1 σ H1 _ r1 (Wp.bnd h1 fun y ρ2 u H2 r2 i2 g2 h2 => by
 obtain ⟨d, e, h3⟩ := h2.lift
 exact hF _ H2 x y d v u Q (fun a ha => r2.new ha) (g2.is i1) i2 e fun w H' s i => h3 w H' (r2.same s) i (.of_same s)))
theorem qx {op : Operator} {r : R2} {F : D -> D -> Option D} {f g : M D} (ho : OpR X (binaryOp op) r) (hF : OpS X.K F r) (ha : DE X c a f) (hb : DE X c b g) : DE X c (.BinOp a op b pos) (d2 F f g) := by
 obtain ⟨ta, pa, wa⟩ := ha
 obtain ⟨tb, pb, wb⟩ := hb
 exact ⟨_, qmw ho pa pb, op2 hF wa wb⟩
theorem qaj {op : CmpOp} {r : R2} {F : D -> D -> Option D} {f g : M D} (ho : OpR X (compareOp op) r) (hF : OpS X.K F r) (ha : DE X c a f) (hb : DE X c b g) (hm : behindInMarks op b = false) : DE X c (.Compare a [op] [b] pos) (d2 F f g) := by
 obtain ⟨ta, pa, wa⟩ := ha
 obtain ⟨tb, pb, wb⟩ := hb
 exact ⟨_, qi2 ho pa pb hm, op2 hF wa wb⟩
def asB : D -> Option Bool
 | .bl b => some b
 | _ => none
def tst (f : M D) : M Bool := bnd f fun d => lift (asB d)
theorem qds {K : Fr0} {σ : St} {H : Hp} {QB : Bool -> Hp -> Prop} {o : Option Bool} {ρ : Env} (h : WpB K c σ H QB (lift o ρ)) : ∃ b, o = some b /\ ∀ H', Rep K c ρ σ H' -> Gr c.O σ H H' -> QB b H' := by
 cases o with
 | none => exact h.elim
 | some d => exact ⟨d, rfl, h⟩
theorem qbk {d : D} {b : Bool} (h : asB d = some b) : d = .bl b := by
 cases d <;> simp [asB] at h
 subst h; rfl
theorem zw {op : CmpOp} {r : R2} {F : D -> D -> Option D} {f g : M D} (ho : OpR X (compareOp op) r) (hF : OpS X.K F r) (ha : DE X c a f) (hb : DE X c b g) (hm : behindInMarks op b = false) : DT X c (.Compare a [op] [b] pos) (tst (d2 F f g)) := by
 obtain ⟨ta, pa, wa⟩ := ha
 obtain ⟨tb, pb, wb⟩ := hb
 refine ⟨_, qi3 ho pa pb hm, fun ρ σ H Q rp h => op2 hF wa wb ρ σ H _ rp (Wp.bndB h fun d ρ1 v H1 r1 i1 g1 h1 => ?_)⟩
 obtain ⟨b, e, h2⟩ := qds h1
 have := qbk e
 subst this
 exact ⟨b, i1, h2 H1 r1 .refl⟩
theorem vp {f : M D} (h : DE X c e f) (he : ∀ whole, isTrue e X.env whole = (do let v <- whole; standAt e.pos; holding [v] (truthy v)) := by intro _; rfl) : DT X c e (tst f) := by
 obtain ⟨t, p, w⟩ := h
 refine ⟨_, qkm p he, fun ρ σ H Q rp h => w ρ σ H _ rp (Wp.bndB h fun d ρ1 v H1 r1 i1 g1 h1 => ?_)⟩
 obtain ⟨b, e, h2⟩ := qds h1
 have := qbk e
 subst this
 exact ⟨b, i1, h2 H1 r1 .refl⟩
def qeT (f : M Bool) : M Bool := bnd f fun b => ret (!b)
theorem vN {f : M Bool} (h : DT X c a f) : DT X c (.UnaryOp .Not a pos) (qeT f) := by
 obtain ⟨t, p, w⟩ := h
 exact ⟨_, qko p, fun ρ σ H Q rp h => w ρ σ H _ rp (WpB.bndB h fun d ρ1 H1 r1 g1 h1 => h1 H1 r1 .refl)⟩
def DW (X : Cx) (c : Fc) (e : Expr) (f : M Bool) : Prop := ∃ t, PW X e t /\ ∀ ρ σ H Q, Rep X.K c ρ σ H -> WpB X.K c σ H Q (f ρ) -> t σ H Q
theorem DW.dt {f : M Bool} (h : DW X c e f) : DT X c e f := by
 obtain ⟨t, p, w⟩ := h
 exact ⟨t, p.pt, w⟩
def qnj (f g : M Bool) : M Bool := bnd f fun b => if b then g else ret false
def tor (f g : M Bool) : M Bool := bnd f fun b => if b then ret true else g
variable {ud : List Expr}
theorem qb3 {f : M Bool} (h : DT X c a f) : DW X c (.BoolOp .Or [a] pos) f := by
 obtain ⟨t, p, w⟩ := h
 exact ⟨t, qkn p, w⟩
theorem qfk {f g : M Bool} (ha : DT X c a f) (hb : DW X c (.BoolOp .Or (b :: ud) pos) g) : DW X c (.BoolOp .Or (a :: b :: ud) pos) (tor f g) := by
 obtain ⟨ta, pa, wa⟩ := ha
 obtain ⟨tb, pb, wb⟩ := hb
 refine ⟨_, qml pa pb, fun ρ σ H Q rp h => wa ρ σ H _ rp (WpB.bndB h fun d ρ1 H1 r1 g1 h1 => ?_)⟩
 cases d with
 | true => exact qkR ((by simpa using h1 : WpB X.K c σ H1 Q (ret true ρ1)) H1 r1 .refl)
 | false => exact qkQ (wb ρ1 σ H1 Q r1 (by simpa using h1))
def qmc (f : M D) : M D := bnd f fun d => bnd (lift (asB d)) fun b => ret (.bl (!b))
def qjc (f g : M D) : M D := bnd f fun d => bnd (lift (asB d)) fun b => if b then g else ret (.bl false)
def dor (f g : M D) : M D := bnd f fun d => bnd (lift (asB d)) fun b => if b then ret (.bl true) else g
theorem qfl {K : Fr0} {σ : St} {H : Hp} {Q : VK} {d : D} {k : Bool -> M D} {ρ : Env} (h : Wp K c σ H Q (bnd (lift (asB d)) k ρ)) : ∃ b, d = .bl b /\ Wp K c σ H Q (k b ρ) := by
 unfold bnd at h
 cases e : asB d with
 | none => rw [e] at h; exact h.elim
 | some b => rw [e] at h; exact ⟨b, qbk e, h⟩
theorem qb4 {op} {f : M D} (h : DE X c a f) : DE X c (.BoolOp op [a] pos) f := by
 obtain ⟨t, p, w⟩ := h
 exact ⟨t, qkp p, w⟩
theorem qkT {f : M D} (h : DE X c a f) : DE X c (.UnaryOp .Not a pos) (qmc f) := by
 obtain ⟨t, p, w⟩ := h
 refine ⟨_, qkr p, fun ρ σ H Q rp h => w ρ σ H _ rp (Wp.bnd h fun d ρ1 v H1 r1 i1 g1 h1 => ?_)⟩
 obtain ⟨b, e, h2⟩ := qfl h1
 subst e
 exact ⟨b, i1, h2 _ H1 r1 rfl .refl⟩
theorem qdt {f g : M D} (ha : DE X c a f) (hb : DE X c (.BoolOp .And (b :: ud) pos) g) : DE X c (.BoolOp .And (a :: b :: ud) pos) (qjc f g) := by
 obtain ⟨ta, pa, wa⟩ := ha
 obtain ⟨tb, pb, wb⟩ := hb
 refine ⟨_, qkq pa pb, fun ρ σ H Q rp h => wa ρ σ H _ rp (Wp.bnd h fun d ρ1 v H1 r1 i1 g1 h1 => ?_)⟩
 obtain ⟨k, e, h2⟩ := qfl h1
 subst e
 refine ⟨k, i1, ?_⟩
 cases k with
 | true => exact qkR (wb ρ1 σ H1 Q r1 (by simpa using h2))
 | false => exact qkQ ((by simpa using h2 : Wp X.K c σ H1 Q (ret (.bl false) ρ1)) _ H1 r1 rfl .refl)
theorem qmL {f g : M D} (ha : DE X c a f) (hb : DE X c (.BoolOp .Or (b :: ud) pos) g) : DE X c (.BoolOp .Or (a :: b :: ud) pos) (dor f g) := by
 obtain ⟨ta, pa, wa⟩ := ha
 obtain ⟨tb, pb, wb⟩ := hb
 refine ⟨_, qmo pa pb, fun ρ σ H Q rp h => wa ρ σ H _ rp (Wp.bnd h fun d ρ1 v H1 r1 i1 g1 h1 => ?_)⟩
 obtain ⟨k, e, h2⟩ := qfl h1
 subst e
 refine ⟨k, i1, ?_⟩
 cases k with
 | true => exact qkR ((by simpa using h2 : Wp X.K c σ H1 Q (ret (.bl true) ρ1)) _ H1 r1 rfl .refl)
 | false => exact qkQ (wb ρ1 σ H1 Q r1 (by simpa using h2))
def dif (f : M Bool) (g k : M D) : M D := bnd f fun b => if b then g else k
theorem qjd {t : Expr} {f : M Bool} {g k : M D} (ht : DT X c t f) (ha : DE X c a g) (hb : DE X c b k) : DE X c (.IfExp t a b pos) (dif f g k) := by
 obtain ⟨tt, pt, wt⟩ := ht
 obtain ⟨ta, pa, wa⟩ := ha
 obtain ⟨tb, pb, wb⟩ := hb
 refine ⟨_, qgU pt pa pb, fun ρ σ H Q rp h => wt ρ σ H _ rp (WpB.bnd h fun d ρ1 H1 r1 g1 h1 => ?_)⟩
 cases d with
 | true => exact qkR (wa ρ1 σ H1 Q r1 (by simpa using h1))
 | false => exact qkQ (wb ρ1 σ H1 Q r1 (by simpa using h1))
def ww (K : Fr0) (F : List D -> Option D) (r : List V -> Hp -> VK -> Prop) : Prop := ∀ (A : Addr -> Prop) (H : Hp) (xs : List D) (d : D) (vs : List V) (Q : VK), (∀ a, H a = none -> A a) -> IsL K A H xs vs -> F xs = some d ->
 (∀ w H', jK H H' -> Is K A H' d w -> Q w H') -> r vs H Q
def yK (F : List D -> Option D) (f : M (List D)) : M D := bnd f fun ds => lift (F ds)
theorem qmM {r : List V -> Hp -> VK -> Prop} {F : List D -> Option D} {f : M (List D)} {t : TA} (hF : ww X.K F r) (w : ∀ ρ σ H Q, Rep X.K c ρ σ H -> WpL X.K c σ H Q (f ρ) -> t σ H Q) :
  ∀ ρ σ H Q, Rep X.K c ρ σ H -> Wp X.K c σ H Q (yK F f ρ) -> tCB r t σ H Q := fun ρ σ H Q rp h => w ρ σ H _ rp (WpL.bnd h fun ds ρ1 vs H1 r1 i1 g1 h1 => by
 obtain ⟨d, e, h3⟩ := h1.lift
 exact hF _ H1 ds d vs Q (fun a ha => r1.new ha) i1 e fun w H' s i => h3 w H' (r1.same s) i (.of_same s))
theorem zK {id : String} {x : Str} {p : Pos} {es : List Expr} {r : List V -> Hp -> VK -> Prop} {F : List D -> Option D} {f : M (List D)} (hc : yJ X (.builtin id) r) (hF : ww X.K F r) (hg : Gl X x) (hm : X.mg x = none) (hv : bootBuiltins x = some (.builtin id)) (ha : DA X c (e :: es) f) (hn : x ≠ "__name__" := by decide) (hdb : (x == ("__debug__" : Str)) = false := by decide)
  (he : starEach (e :: es) X.env = (false, eval e X.env) :: starEach es X.env := by rfl) (hpl : (backTo pos (starEach es X.env)).any (·.1) = false := by rfl) : DE X c (.Call (.Name x p) (e :: es) [] pos) (yK F f) := by
 obtain ⟨t, pa, w⟩ := ha
 exact ⟨_, wY hc hg hm hv pa hn hdb he hpl, qmM hF w⟩
theorem jn {r : R2} {F : D -> D -> Option D} {f g : M D} (hr : IxR X r) (hF : OpS X.K F r) (ha : DE X c a f) (hb : DE X c b g) (hs : qcQ b := by intro _ _; rfl) : DE X c (.Subscript a b pos) (d2 F f g) := by
 obtain ⟨ta, pa, wa⟩ := ha
 obtain ⟨tb, pb, wb⟩ := hb
 exact ⟨_, qkJ hr pa pb hs, op2 hF wa wb⟩
end
end L2.Sk
namespace L2.Sk
open PySem PySem.Spec PyProof.Rows
inductive Fl where
 | nx (ρ : Env) | rt (d : D) (ρ : Env) | bk (ρ : Env) | ct (ρ : Env)
structure GrS (O : List Nat) (σ : St) (H : Hp) (σ' : St) (H' : Hp) : Prop where
 ext : Ext (Cl O σ) H H'
 cl : ∀ b, Cl O σ b -> (H b).isSome = true -> Cl O σ' b
 dom : ∀ b, H' b = none -> H b = none
theorem qek {H H' : Hp} {b : Addr} (dom : H' b = none -> H b = none) (h : (H b).isSome = true) : (H' b).isSome = true := by
 cases e : H' b with
 | none => rw [dom e] at h; cases h
 | some o => rfl
theorem GrS.refl {O : List Nat} {σ : St} {H : Hp} : GrS O σ H σ H := ⟨Ext.refl, fun _ h _ => h, fun _ h => h⟩
theorem Gr.s {O : List Nat} {σ : St} {H H' : Hp} (g : Gr O σ H H') : GrS O σ H σ H' := ⟨g.ext, fun _ h _ => h, g.dom⟩
theorem GrS.trans {O : List Nat} {σ σ1 σ2 : St} {H H1 H2 : Hp} (a : GrS O σ H σ1 H1) (b : GrS O σ1 H1 σ2 H2) : GrS O σ H σ2 H2 :=
 ⟨⟨fun c xs h => b.ext.tup c xs (a.ext.tup c xs h), fun c o u h => b.ext.frz c o u (a.ext.frz c o u h), fun c o hc h => b.ext.at_ c o (a.cl c hc (by rw [h]; rfl)) (a.ext.at_ c o hc h)⟩,
  fun c hc h => b.cl c (a.cl c hc h) (qek (a.dom c) h), fun c h => a.dom c (b.dom c h)⟩
theorem GrS.isL {K : Fr0} {c : Fc} {σ σ' : St} {H H' : Hp} {d : List D} {v : List V} (g : GrS c.O σ H σ' H') (h : IsL K (Cn c σ) H d v) : IsL K (Cn c σ') H' d v :=
 IsL.ext ⟨g.ext.tup, g.ext.frz, fun b o hb h => g.ext.at_ b o hb.2 h⟩ (fun a ha hs => ⟨ha.1, g.cl a ha.2 hs⟩) h
def WpS (K : Fr0) (c : Fc) (σ : St) (H : Hp) (D : qeR) : R Fl -> Prop
 | .ok (.nx ρ) => ∀ σ' H', Rep K c ρ σ' H' -> GrS c.O σ H σ' H' -> D.nx σ' H'
 | .ok (.rt d ρ) => ∀ v σ' H', Rep K c ρ σ' H' -> Is K c.B H' d v -> GrS c.O σ H σ' H' -> D.rt v H'
 | .ok (.bk ρ) => ∀ σ' H', Rep K c ρ σ' H' -> GrS c.O σ H σ' H' -> D.bk σ' H'
 | .ok (.ct ρ) => ∀ σ' H', Rep K c ρ σ' H' -> GrS c.O σ H σ' H' -> D.ct σ' H'
 | .exc x ρ => ∀ σ' H', Rep K c ρ σ' H' -> GrS c.O σ H σ' H' -> c.E x H'
 | .bad => False
abbrev MS := Env -> R Fl
def DS (X : Cx) (c : Fc) (st : Stmt) (f : MS) : Prop := ∃ t, PS X st t /\ ∀ ρ σ H D, Rep X.K c ρ σ H -> WpS X.K c σ H D (f ρ) -> t D σ H
def DSs (X : Cx) (c : Fc) (st : List Stmt) (f : MS) : Prop := ∃ t, PSs X st t /\ ∀ ρ σ H D, Rep X.K c ρ σ H -> WpS X.K c σ H D (f ρ) -> t D σ H
theorem WpS.gr {K : Fr0} {c : Fc} {σ σ1 : St} {H H1 : Hp} {D : qeR} : ∀ {r : R Fl}, WpS K c σ H D r -> GrS c.O σ H σ1 H1 -> WpS K c σ1 H1 D r
 | .ok (.nx ρ), h, g => fun σ' H' hr hg => h σ' H' hr (g.trans hg)
 | .ok (.rt d ρ), h, g => fun v σ' H' hr hi hg => h v σ' H' hr hi (g.trans hg)
 | .ok (.bk ρ), h, g => fun σ' H' hr hg => h σ' H' hr (g.trans hg)
 | .ok (.ct ρ), h, g => fun σ' H' hr hg => h σ' H' hr (g.trans hg)
 | .exc x ρ, h, g => fun σ' H' hr hg => h σ' H' hr (g.trans hg)
 | .bad, h, _ => h
def sbnd {α : Type} (f : M α) (k : α -> MS) : MS := fun ρ => match f ρ with
 | .ok (a, ρ') => k a ρ'
 | .exc x ρ' => .exc x ρ'
 | .bad => .bad
section
variable {K : Fr0} {c : Fc} {σ : St} {H : Hp} {D : qeR}
theorem Wp.sbnd {f : M Sk.D} {k : Sk.D -> MS} {ρ : Env} {Q' : VK} (h : WpS K c σ H D (sbnd f k ρ)) (hQ : ∀ d ρ' v H', Rep K c ρ' σ H' -> Is K (Cn c σ) H' d v -> Gr c.O σ H H' -> WpS K c σ H' D (k d ρ') -> Q' v H') : Wp K c σ H Q' (f ρ) := by
 unfold Sk.sbnd at h
 cases e : f ρ with
 | ok p => rw [e] at h; exact fun v H' hr hi hg => hQ p.1 p.2 v H' hr hi hg (h.gr hg.s)
 | exc x ρ' => rw [e] at h; exact fun H' hr hg => h σ H' hr hg.s
 | bad => rw [e] at h; exact h
theorem WpB.sbnd {f : M Bool} {k : Bool -> MS} {ρ : Env} {Q' : Bool -> Hp -> Prop} (h : WpS K c σ H D (sbnd f k ρ)) (hQ : ∀ d ρ' H', Rep K c ρ' σ H' -> Gr c.O σ H H' -> WpS K c σ H' D (k d ρ') -> Q' d H') : WpB K c σ H Q' (f ρ) := by
 unfold Sk.sbnd at h
 cases e : f ρ with
 | ok p => rw [e] at h; exact fun H' hr hg => hQ p.1 p.2 H' hr hg (h.gr hg.s)
 | exc x ρ' => rw [e] at h; exact fun H' hr hg => h σ H' hr hg.s
 | bad => rw [e] at h; exact h
end
def zr (f g : MS) : MS := fun ρ => match f ρ with
 | .ok (.nx ρ') => g ρ'
 | r => r
theorem WpS.mono_nx {K : Fr0} {c : Fc} {σ : St} {H : Hp} {D : qeR} {f g : MS} {ρ : Env} {N : St -> Hp -> Prop} (h : WpS K c σ H D (zr f g ρ)) (hN : ∀ ρ' σ' H', Rep K c ρ' σ' H' -> GrS c.O σ H σ' H' -> WpS K c σ' H' D (g ρ') -> N σ' H') :
  WpS K c σ H { D with nx := N } (f ρ) := by
 unfold zr at h
 cases e : f ρ with
 | ok fl =>
  rw [e] at h
  cases fl with
  | nx ρ' => exact fun σ' H' hr hg => hN ρ' σ' H' hr hg (h.gr hg)
  | rt d ρ' => exact h
  | bk ρ' => exact h
  | ct ρ' => exact h
 | exc x ρ' => rw [e] at h; exact h
 | bad => rw [e] at h; exact h
section
variable {X : Cx} {c : Fc} {a b e : Expr} {pos : Pos} {st : Stmt} {sts : List Stmt}
theorem qje : DSs X c [] (fun ρ => .ok (.nx ρ)) := ⟨_, qiW, fun ρ σ H D r h => h σ H r .refl⟩
theorem qi {f : MS} (h : DS X c st f) : DSs X c [st] f := by
 obtain ⟨t, p, w⟩ := h
 exact ⟨t, qcN p, w⟩
theorem qh {f g : MS} (h : DS X c st f) (hr : DSs X c sts g) : DSs X c (st :: sts) (zr f g) := by
 obtain ⟨t, p, w⟩ := h
 obtain ⟨t2, p2, w2⟩ := hr
 exact ⟨_, qgV p p2, fun ρ σ H D r h => w ρ σ H _ r (h.mono_nx fun ρ' σ' H' r' g' h' => w2 ρ' σ' H' D r' h')⟩
def yq (f : M D) : MS := sbnd f fun d ρ => .ok (.rt d ρ)
theorem Is.cn {K : Fr0} {σ : St} {H : Hp} {d : D} {v : V} (h : Is K (Cn c σ) H d v) : Is K c.B H d v := Is.ext Ext.refl (fun _ h _ => h.1) h
theorem qF {f : M D} (h : DE X c e f) : DS X c (.Return (some e) pos) (yq f) := by
 obtain ⟨t, p, w⟩ := h
 exact ⟨_, qdo p, fun ρ σ H D r h => w ρ σ H _ r (Wp.sbnd h fun d ρ1 v H1 r1 i1 g1 h1 => h1 v σ H1 r1 i1.cn .refl)⟩
def zL (f : M D) : MS := sbnd f fun _ ρ => .ok (.nx ρ)
theorem qP {f : M D} (h : DE X c e f) (hs : swapsWith e none pos.line X.env = pure false := by rfl) : DS X c (.Expr e pos) (zL f) := by
 obtain ⟨t, p, w⟩ := h
 exact ⟨_, qiX p hs, fun ρ σ H D r h => w ρ σ H _ r (Wp.sbnd h fun d ρ1 v H1 r1 i1 g1 h1 => h1 σ H1 r1 .refl)⟩
def sif (f : M Bool) (g k : MS) : MS := sbnd f fun b => if b then g else k
theorem yC {t : Expr} {s1 s2 : List Stmt} {f : M Bool} {g k : MS} (ht : DT X c t f) (ha : DSs X c s1 g) (hb : DSs X c s2 k) : DS X c (.If t s1 s2 pos) (sif f g k) := by
 obtain ⟨tt, pt, wt⟩ := ht
 obtain ⟨ta, pa, wa⟩ := ha
 obtain ⟨tb, pb, wb⟩ := hb
 refine ⟨_, qmr pt pa pb, fun ρ σ H D rp h => wt ρ σ H _ rp (WpB.sbnd h fun d ρ1 H1 r1 g1 h1 => ?_)⟩
 cases d with
 | true => exact qkR (wa ρ1 σ H1 D r1 (by simpa using h1))
 | false => exact qkQ (wb ρ1 σ H1 D r1 (by simpa using h1))
theorem zu {α : Type} {l : List α} {i j : Nat} {v : α} (h : j ≠ i) : (l.set i v)[j]? = l[j]? := List.getElem?_set_ne (Ne.symm h)
theorem Cl.set {O : List Nat} {σ : St} {i : Nat} {v : Option V} (hi : i ∉ O) (a : Addr) : Cl O (σ.set i v) a ↔ Cl O σ a := by
 constructor
 ·intro h j hj
  have e : j ≠ i := fun e => hi (e ▸ hj)
  have := h j hj
  rw [zu e] at this
  exact this
 ·intro h j hj
  have e : j ≠ i := fun e => hi (e ▸ hj)
  rw [zu e]
  exact h j hj
theorem Rep.set {K : Fr0} {ρ : Env} {σ : St} {H : Hp} {i : Nat} {d : D} {v : V} (r : Rep K c ρ σ H) (hi : i ∉ c.O) (h : Is K (Cn c σ) H d v) : Rep K c (ρ.set i (some d)) (σ.set i (some v)) H where
 len := by rw [List.length_set, List.length_set]; exact r.len
 val := fun j e hj => by
  have up : ∀ {d' : D} {v' : V}, Is K (Cn c σ) H d' v' -> Is K (Cn c (σ.set i (some v))) H d' v' := fun h => Is.ext Ext.refl (fun a ha _ => ⟨ha.1, (Cl.set hi a).mpr ha.2⟩) h
  by_cases e1 : j = i
  ·subst e1
   have hl : j < ρ.length := by
    have := (List.getElem?_eq_some_iff.mp hj).1
    rwa [List.length_set] at this
   rw [List.getElem?_set_self hl] at hj
   cases hj
   refine ⟨v, List.getElem?_set_self (by rw [<- r.len]; exact hl), .inr ⟨hi, up h⟩⟩
  ·rw [zu e1] at hj
   obtain ⟨w, h1, h2⟩ := r.val j e hj
   refine ⟨w, by rw [zu e1]; exact h1, ?_⟩
   rcases h2 with ⟨hj2, ds, a, xs, h3, h5, h6, h7⟩ | ⟨h3, h4⟩
   ·exact .inl ⟨hj2, ds, a, xs, h3, h5, h6, IsL.ext Ext.refl (fun a ha _ => ⟨ha.1, (Cl.set hi a).mpr ha.2⟩) h7⟩
   ·exact .inr ⟨h3, up h4⟩
 own := fun j hj w h => by
  have e1 : j ≠ i := fun e => hi (e ▸ hj)
  rw [zu e1] at h
  exact r.own j hj w h
 inj := fun j k a hj hk h1 h2 => by
  have e1 : j ≠ i := fun e => hi (e ▸ hj)
  have e2 : k ≠ i := fun e => hi (e ▸ hk)
  rw [zu e1] at h1
  rw [zu e2] at h2
  exact r.inj j k a hj hk h1 h2
 b0 := r.b0
 kp := r.kp
 dm := r.dm
 pO := r.pO
 ps := fun j hj => by
  have e : j ≠ i := fun e => hi (e ▸ r.pO j hj)
  rw [zu e]; exact r.ps j hj
theorem GrS.set {O : List Nat} {σ : St} {H : Hp} {i : Nat} {v : Option V} (hi : i ∉ O) : GrS O σ H (σ.set i v) H := ⟨Ext.refl, fun b h _ => (Cl.set hi b).mpr h, fun _ h => h⟩
def jL (i : Nat) (f : M D) : MS := sbnd f fun d ρ => .ok (.nx (ρ.set i (some d)))
theorem zc {i : Nat} {x : Str} {pos' : Pos} {f : M D} (hN : X.N.Nodup) (he : DE X c e f) (ho : i ∉ c.O := by exact of_decide_eq_false rfl) (hi : X.N[i]? = some x := by rfl) (hx : Loc X.env.scope x := by first | exact Or.inl rfl | exact Or.inr rfl) (hs : swapsWith e (some (.Name x pos')) pos.line X.env = pure false := by rfl) (hf : X.fn x = true \/ X.env.scope.names.lookup x = some .local := by first | exact .inl rfl | exact .inr rfl | assumption) :
  DS X c (.Assign [.Name x pos'] e pos) (jL i f) := by
 obtain ⟨t, p, w⟩ := he
 refine ⟨_, qia hN hi hx p hs hf, fun ρ σ H D r h => w ρ σ H _ r (Wp.sbnd h fun d ρ1 v H1 r1 i1 g1 h1 => ?_)⟩
 exact h1 _ H1 (r1.set ho i1) (.set ho)
def DG (X : Cx) (c : Fc) (tg : Expr) (f : D -> Env -> Option Env) : Prop := ∃ g, PG X tg g /\ ∀ ρ σ H d v ρ' (N : St -> Hp -> Prop), Rep X.K c ρ σ H -> Is X.K (Cn c σ) H d v -> f d ρ = some ρ' ->
 (∀ σ', Rep X.K c ρ' σ' H -> GrS c.O σ H σ' H -> (∀ j ∈ c.O, σ'[j]? = σ[j]?) -> N σ' H) -> g v σ H N
def qs (i : Nat) : D -> Env -> Option Env := fun d ρ => some (ρ.set i (some d))
theorem qA {i : Nat} {x : Str} (hN : X.N.Nodup) (ho : i ∉ c.O := by exact of_decide_eq_false rfl) (hi : X.N[i]? = some x := by rfl) (hx : Loc X.env.scope x := by first | exact Or.inl rfl | exact Or.inr rfl) (hf : X.fn x = true \/ X.env.scope.names.lookup x = some .local := by first | exact .inl rfl | exact .inr rfl | assumption) {p : Pos} : DG X c (.Name x p) (qs i) := by
 refine ⟨_, qiY hN hi hx hf, fun ρ σ H d v ρ' N r h e k => ?_⟩
 cases e
 exact k _ (r.set ho h) (.set ho) fun j hj => zu fun e => ho (e ▸ hj)
def DGs (X : Cx) (c : Fc) (tgs : List Expr) (f : List D -> Env -> Option Env) : Prop := ∃ g, PGs X tgs g /\ ∀ ρ σ H ds vs ρ' (N : St -> Hp -> Prop), Rep X.K c ρ σ H -> IsL X.K (Cn c σ) H ds vs -> f ds ρ = some ρ' ->
 (∀ σ', Rep X.K c ρ' σ' H -> GrS c.O σ H σ' H -> (∀ j ∈ c.O, σ'[j]? = σ[j]?) -> N σ' H) -> g vs σ H N
def qeU : List D -> Env -> Option Env
 | [], ρ => some ρ
 | _, _ => none
def uc (f : D -> Env -> Option Env) (g : List D -> Env -> Option Env) : List D -> Env -> Option Env
 | d :: ds, ρ => (f d ρ).bind (g ds)
 | _, _ => none
theorem qak : DGs X c [] qeU := by
 refine ⟨_, qiZ, fun ρ σ H ds vs ρ' N r h e k => ?_⟩
 cases ds with
 | nil =>
  cases e
  exact ⟨h, k σ r .refl fun _ _ => rfl⟩
 | cons d ds => cases e
theorem yi {tg : Expr} {tgs : List Expr} {f : D -> Env -> Option Env} {g : List D -> Env -> Option Env} (h1 : DG X c tg f) (h2 : DGs X c tgs g)
  (hs : (assignEach (tg :: tgs) X.env).map (·.2) = assign tg X.env :: (assignEach tgs X.env).map (·.2) := by rfl) : DGs X c (tg :: tgs) (uc f g) := by
 obtain ⟨t1, p1, w1⟩ := h1
 obtain ⟨t2, p2, w2⟩ := h2
 refine ⟨_, qgW p1 p2 hs, fun ρ σ H ds vs ρ' N r h e k => ?_⟩
 cases ds with
 | nil => cases e
 | cons d ds =>
  obtain ⟨v, ws, rfl, i1, i2⟩ := h
  have e' : (f d ρ).bind (g ds) = some ρ' := e
  cases e1 : f d ρ with
  | none => rw [e1] at e'; cases e'
  | some ρ1 =>
   rw [e1] at e'
   exact ⟨v, ws, rfl, w1 ρ σ H d v ρ1 _ r i1 e1 fun σ1 r1 g1 o1 => w2 ρ1 σ1 H ds ws ρ' N r1 (g1.isL i2) e' fun σ2 r2 g2 o2 => k σ2 r2 (g1.trans g2) fun j hj => (o2 j hj).trans (o1 j hj)⟩
def qeV (n : Nat) (g : List D -> Env -> Option Env) : D -> Env -> Option Env
 | .tup ds, ρ => if ds.length = n then g ds ρ else none
 | _, _ => none
theorem qb5 {es : List Expr} {k n : Nat} {p : Pos} {g : List D -> Env -> Option Env} (hc : X.calm = true) (h : DGs X c es g) (hn : (assignEach es X.env).length = n := by rfl) (hst : (assignEach es X.env).findIdx? (·.1) = none := by rfl) : DG X c (.Tuple es k p) (qeV n g) := by
 obtain ⟨t, p, w⟩ := h
 refine ⟨_, qkt (n := n) hc p hn hst, fun ρ σ H d v ρ' N r h e q => ?_⟩
 cases d with
 | tup ds =>
  obtain ⟨a, xs, rfl, ta, il⟩ := h
  have e' : (if ds.length = n then g ds ρ else none) = some ρ' := e
  by_cases hl : ds.length = n
  ·rw [if_pos hl] at e'
   exact ⟨a, xs, rfl, ta.sq, by rw [il.length]; exact hl, w ρ σ H ds xs ρ' N r il e' q⟩
  ·rw [if_neg hl] at e'; cases e'
 | _ => cases e
def qmd (f : M D) (g : D -> Env -> Option Env) : MS := sbnd f fun d ρ => match g d ρ with
 | some ρ' => .ok (.nx ρ')
 | none => .bad
theorem qkU {tg : Expr} {f : M D} {g : D -> Env -> Option Env} (he : DE X c e f) (hg : DG X c tg g) (hs : swapsWithSole [tg] e pos.line X.env = pure false := by rfl) (hw : swappedStores [tg] e X.env = pure none := by rfl) (h1 : (assignEach [tg] X.env).map (·.2) = [assign tg X.env] := by rfl) : DS X c (.Assign [tg] e pos) (qmd f g) := by
 obtain ⟨t, p, w⟩ := he
 obtain ⟨t2, p2, w2⟩ := hg
 refine ⟨_, qh9 p p2 hs hw h1, fun ρ σ H D r h => w ρ σ H _ r (Wp.sbnd h fun d ρ1 v H1 r1 i1 g1 h1 => ?_)⟩
 cases e : g d ρ1 with
 | none => rw [e] at h1; exact h1.elim
 | some ρ2 =>
  rw [e] at h1
  exact w2 ρ1 σ H1 d v ρ2 _ r1 i1 e fun σ' r2 g2 _ => h1 σ' H1 r2 g2
end
end L2.Sk
namespace L2.Sk
open PySem PySem.Spec PyProof.Rows
section
variable {K : Fr0}
def iiD (g : Int -> Int -> D) : D -> D -> Option D
 | .int i, .int j => some (g i j)
 | _, _ => none
def qkb (C : Int -> Int -> Bool) (g : Int -> Int -> D) : D -> D -> Option D
 | .int i, .int j => if C i j then some (g i j) else none
 | _, _ => none
theorem qal {g : Int -> Int -> V} {gD : Int -> Int -> D} (hg : ∀ A H i j, Is K A H (gD i j) (g i j)) : OpS K (iiD gD) (rI0 g) := by
 intro A H x y d v u Q hn ix iy e k
 cases x <;> cases y <;> simp only [iiD] at e <;> try (cases e; done)
 rename_i i j
 cases (Option.some.inj e)
 cases (show v = .int i from ix)
 cases (show u = .int j from iy)
 exact ⟨i, j, rfl, rfl, k _ H (jK.refl H) (hg _ _ _ _)⟩
theorem qic {C : Int -> Int -> Prop} {CB : Int -> Int -> Bool} {g : Int -> Int -> V} {gD : Int -> Int -> D} (hC : ∀ i j, CB i j = true -> C i j) (hg : ∀ A H i j, Is K A H (gD i j) (g i j)) : OpS K (qkb CB gD) (rI C g) := by
 intro A H x y d v u Q hn ix iy e k
 cases x <;> cases y <;> simp only [qkb] at e <;> try (cases e; done)
 rename_i i j
 obtain ⟨e1, e2⟩ := jB e
 subst e2
 cases (show v = .int i from ix)
 cases (show u = .int j from iy)
 exact ⟨i, j, rfl, rfl, hC i j e1, k _ H (jK.refl H) (hg _ _ _ _)⟩
def qjf : D -> D -> Option D := iiD fun i j => .int (i - j)
theorem qcS : OpS K qjf (rI0 fun i j => .int (i - j)) := qal fun _ _ _ _ => rfl
def jZ (i : Int) : Bool := decide (-(2 ^ 64) < i) && decide (i < 2 ^ 64)
theorem qb6 {i : Int} (h : jZ i = true) : -(2 ^ 64) < i /\ i < 2 ^ 64 := by
 unfold jZ at h
 rw [Bool.and_eq_true] at h
 exact ⟨of_decide_eq_true h.1, of_decide_eq_true h.2⟩
def qfm (i j : Int) : Bool := jZ i || jZ j
theorem qg3 {i j : Int} (h : qfm i j = true) : qkz i j := by
 unfold qfm at h
 rw [Bool.or_eq_true] at h
 rcases h with h | h
 ·exact .inl (qb6 h)
 ·exact .inr (qb6 h)
def qel (i j : Int) : Bool := decide (0 < j) && decide (j < 1606938044258990275541962092341162602522202993782792835301376)
theorem qdu {i j : Int} (h : qel i j = true) : qky i j := by
 unfold qel at h
 rw [Bool.and_eq_true] at h
 exact ⟨of_decide_eq_true h.1, of_decide_eq_true h.2⟩
def qfn : D -> D -> Option D := qkb qel fun i j => .int (i / j)
theorem qdv : OpS K qfn (rI qky fun i j => .int (i / j)) := qic (fun _ _ => qdu) fun _ _ _ _ => rfl
def qb7 : D -> D -> Option D := qkb (fun _ j => decide (0 < j)) fun i j => .int (i % j)
theorem wx : OpS K qb7 (rI (fun _ j => 0 < j) fun i j => .int (i % j)) := qic (fun _ _ h => of_decide_eq_true h) fun _ _ _ _ => rfl
def ltD : D -> D -> Option D := iiD fun i j => .bl (decide (i < j))
def leD : D -> D -> Option D := iiD fun i j => .bl (decide (i <= j))
def gtD : D -> D -> Option D := iiD fun i j => .bl (decide (j < i))
def geD : D -> D -> Option D := iiD fun i j => .bl (decide (j <= i))
theorem qkV : OpS K ltD (rI0 fun i j => .bl (decide (i < j))) := qal fun _ _ _ _ => rfl
theorem qkW : OpS K leD (rI0 fun i j => .bl (decide (i <= j))) := qal fun _ _ _ _ => rfl
theorem wP : OpS K gtD (rI0 fun i j => .bl (decide (j < i))) := qal fun _ _ _ _ => rfl
theorem qkX : OpS K geD (rI0 fun i j => .bl (decide (j <= i))) := qal fun _ _ _ _ => rfl
def sc2 : D -> D -> Option Bool
 | .non, .non => some true | .non, .int _ => some false | .int _, .non => some false | .non, .bl _ => some false | .bl _, .non => some false | .non, .str _ => some false | .str _, .non => some false
 | .int i, .int j => some (decide (i = j)) | .bl i, .bl j => some (decide (i = j)) | .str i, .str j => some (decide (i = j))
 | .int _, .str _ => some false | .str _, .int _ => some false | .bl _, .str _ => some false | .str _, .bl _ => some false
 | _, _ => none
def eqS (x y : D) : Option D := (sc2 x y).map D.bl
def neS (x y : D) : Option D := (sc2 x y).map fun b => D.bl (!b)
theorem qid {A : Addr -> Prop} {H : Hp} {x y : D} {v u : V} {b : Bool} (ix : Is K A H x v) (iy : Is K A H y u) (e : sc2 x y = some b) : qmy v u = true /\ decide (v = u) = b := by
 cases x <;> cases y <;> simp only [sc2] at e <;> first
  | (cases e; done)
  | (cases ix; cases iy; cases e; exact ⟨rfl, rfl⟩)
  | (cases ix; cases iy; cases e; exact ⟨rfl, by simp⟩)
  | (cases ix; cases iy; cases e; exact ⟨rfl, by rw [Bool.eq_iff_iff]; simp⟩)
theorem qjg : OpS K eqS rEq := by
 intro A H x y d v u Q hn ix iy e k
 unfold eqS at e
 cases e1 : sc2 x y with
 | none => rw [e1] at e; cases e
 | some b =>
  rw [e1] at e
  cases e
  obtain ⟨h1, h2⟩ := qid ix iy e1
  exact ⟨h1, by rw [h2]; exact k _ H (jK.refl H) rfl⟩
theorem qjh : OpS K neS rNe := by
 intro A H x y d v u Q hn ix iy e k
 unfold neS at e
 cases e1 : sc2 x y with
 | none => rw [e1] at e; cases e
 | some b =>
  rw [e1] at e
  cases e
  obtain ⟨h1, h2⟩ := qid ix iy e1
  exact ⟨h1, by rw [h2]; exact k _ H (jK.refl H) rfl⟩
def uq : D -> Bool
 | .non => true
 | _ => false
theorem wZ {A : Addr -> Prop} {H : Hp} {x : D} {v : V} (ix : Is K A H x v) : decide (v = V.non) = uq x := by
 cases x with
 | non => cases ix; rfl
 | bl b => cases ix; rfl
 | int i => cases ix; rfl
 | str s => cases ix; rfl
 | tup ds => obtain ⟨a, xs, rfl, _⟩ := ix; rfl
 | lst ds => obtain ⟨a, xs, rfl, _⟩ := ix; rfl
 | dic ds => obtain ⟨a, rfl, _⟩ := ix; rfl
 | fz ds => obtain ⟨a, rfl, _⟩ := ix; rfl
 | exc ds => obtain ⟨a, rfl, _⟩ := ix; rfl
def isN (x y : D) : Option D := if uq y then some (.bl (uq x)) else none
def qme (x y : D) : Option D := if uq y then some (.bl (!uq x)) else none
theorem qbl : OpS K isN (fun x y H Q => y = .non /\ Q (.bl (decide (x = .non))) H) := by
 intro A H x y d v u Q hn ix iy e k
 obtain ⟨e1, e2⟩ := jB e
 subst e2
 have h := wZ iy
 rw [e1] at h
 refine ⟨of_decide_eq_true h, ?_⟩
 rw [wZ ix]
 exact k _ H (jK.refl H) rfl
theorem qg4 : OpS K qme (fun x y H Q => y = .non /\ Q (.bl (!decide (x = .non))) H) := by
 intro A H x y d v u Q hn ix iy e k
 obtain ⟨e1, e2⟩ := jB e
 subst e2
 have h := wZ iy
 rw [e1] at h
 refine ⟨of_decide_eq_true h, ?_⟩
 rw [wZ ix]
 exact k _ H (jK.refl H) rfl
def ixD : D -> D -> Option D
 | .tup ds, .int i => atI ds i
 | .lst ds, .int i => atI ds i
 | .fz ns, .int i => (atI ns i).map D.int
 | _, _ => none
theorem IsL.atI {A : Addr -> Prop} {H : Hp} {ds : List D} {xs : List V} {i : Int} {d : D} (h : IsL K A H ds xs) (e : L2.atI ds i = some d) : ∃ v, L2.atI xs i = some v /\ Is K A H d v := by
 unfold L2.atI at e |-
 rw [h.length]
 cases e1 : ixN ds.length i with
 | none => rw [e1] at e; cases e
 | some j =>
  rw [e1] at e
  exact h.get e
theorem qR : OpS K ixD (fun x y H Q => qmH K x y H Q \/ qmI K x y H Q) := by
 intro A H x y d v u Q hn ix iy e k
 cases x <;> cases y <;> simp only [ixD] at e <;> try (cases e; done)
 ·rename_i ds i
  cases iy
  obtain ⟨a, xs, rfl, ta, il⟩ := ix
  obtain ⟨w, h1, h2⟩ := il.atI e
  exact .inr ⟨a, xs, i, w, rfl, rfl, ta.sq, h1, k w H (jK.refl H) h2⟩
 ·rename_i ds i
  cases iy
  obtain ⟨a, xs, rfl, _, ta, il⟩ := ix
  obtain ⟨w, h1, h2⟩ := il.atI e
  exact .inl ⟨a, xs, i, w, rfl, rfl, .inl (.inl ta), h1, k w H (jK.refl H) h2⟩
 ·rename_i ns i
  cases iy
  obtain ⟨a, rfl, ta⟩ := ix
  cases e1 : L2.atI ns i with
  | none => rw [e1] at e; cases e
  | some m =>
   rw [e1] at e
   cases e
   have h1 : L2.atI (ns.map V.int) i = some (V.int m) := by
    unfold L2.atI at e1 |-
    rw [List.length_map]
    cases e2 : ixN ns.length i with
    | none => rw [e2] at e1; cases e1
    | some j =>
     rw [e2] at e1
     have e3 : ns[j]? = some m := e1
     show (ns.map V.int)[j]? = some (V.int m)
     rw [List.getElem?_map, e3]; rfl
   exact .inl ⟨a, _, i, .int m, rfl, rfl, ta.sq, h1, k _ H (jK.refl H) rfl⟩
theorem IsL.inv1 {A : Addr -> Prop} {H : Hp} {d : D} {vs : List V} (h : IsL K A H [d] vs) : ∃ v, vs = [v] /\ Is K A H d v := by
 obtain ⟨x, ys, e1, e2, e3⟩ := h
 have e3' : ys = [] := e3
 exact ⟨x, by rw [e1, e3'], e2⟩
theorem IsL.inv2 {A : Addr -> Prop} {H : Hp} {d d' : D} {vs : List V} (h : IsL K A H [d, d'] vs) : ∃ v w, vs = [v, w] /\ Is K A H d v /\ Is K A H d' w := by
 obtain ⟨x, ys, e1, e2, e3⟩ := h
 obtain ⟨w, e4, e5⟩ := IsL.inv1 e3
 exact ⟨x, w, by rw [e1, e4], e2, e5⟩
def qol : List D -> Option D
 | [.int i] => some (.int (if i < 0 then -i else i))
 | _ => none
def qji : List D -> Option D
 | [.int i, .int j] => some (.int (if j > i then j else i))
 | _ => none
def qb8 : List D -> Option D
 | [.int i, .int j] => some (.int (if j < i then j else i))
 | _ => none
theorem qfo : ww K qji (fun xs H Q => ∃ i j, xs = [.int i, .int j] /\ Q (.int (if j > i then j else i)) H) := by
 intro A H xs d vs Q hn h e k
 unfold qji at e
 split at e
 ·rename_i i j
  obtain ⟨v, w, rfl, e2, e3⟩ := IsL.inv2 h
  cases e2; cases e3; cases e
  exact ⟨i, j, rfl, k _ H (jK.refl H) rfl⟩
 ·cases e
theorem qb9 : ww K qb8 (fun xs H Q => ∃ i j, xs = [.int i, .int j] /\ Q (.int (if j < i then j else i)) H) := by
 intro A H xs d vs Q hn h e k
 unfold qb8 at e
 split at e
 ·rename_i i j
  obtain ⟨v, w, rfl, e2, e3⟩ := IsL.inv2 h
  cases e2; cases e3; cases e
  exact ⟨i, j, rfl, k _ H (jK.refl H) rfl⟩
 ·cases e
def qam : List D -> Option D
 | [.int i, .int j] => if qel i j then some (.tup [.int (i / j), .int (i % j)]) else none
 | _ => none
theorem qca : ww K qam (fun xs H Q => ∃ i j, xs = [.int i, .int j] /\ qky i j /\ ∀ p, H p = none -> Q (.ref p) (upd H p (.tup [.int (i / j), .int (i % j)]))) := by
 intro A H xs d vs Q hn h e k
 unfold qam at e
 split at e
 ·rename_i i j
  obtain ⟨v, w, rfl, e2, e3⟩ := IsL.inv2 h
  cases e2; cases e3
  obtain ⟨e6, e7⟩ := jB e
  subst e7
  exact ⟨i, j, rfl, qdu e6, fun p hp => k _ _ (qz hp _) ⟨p, _, rfl, .inl qv, _, _, rfl, rfl, _, _, rfl, rfl, rfl⟩⟩
 ·cases e
def qn7 : List D -> Option D
 | [.int i] => some (.int i)
 | [.bl b] => some (.int (if b then 1 else 0))
 | _ => none
def qfp : List D -> Option D
 | [.tup ds] => some (.int ds.length)
 | [.lst ds] => some (.int ds.length)
 | [.fz ns] => some (.int ns.length)
 | [.str x] => if qI x.length then some (.int x.length) else none
 | _ => none
def qnk (K : Fr0) : List V -> Hp -> VK -> Prop := fun xs H Q => (∃ p ys, xs = [.ref p] /\ (SqL K H p ys \/ SqT K H p ys) /\ Q (.int ys.length) H) \/ (∃ z, xs = [.str z] /\ z.length <= sizeLine /\ Q (.int z.length) H)
theorem uV {X : Cx} : yJ X (.builtin "len") (qnk X.K) := yJ.or qb0 qb1
theorem uW : ww K qfp (qnk K) := by
 intro A H xs d vs Q hn h e k
 unfold qfp at e
 split at e
 ·obtain ⟨v, rfl, a, zs, rfl, ta, il⟩ := IsL.inv1 h
  cases e
  exact .inl ⟨a, zs, rfl, .inr ta.sq, by rw [il.length]; exact k _ H (jK.refl H) rfl⟩
 ·obtain ⟨v, rfl, a, zs, rfl, _, ta, il⟩ := IsL.inv1 h
  cases e
  exact .inl ⟨a, zs, rfl, .inl (.inl (.inl ta)), by rw [il.length]; exact k _ H (jK.refl H) rfl⟩
 ·obtain ⟨v, rfl, a, rfl, ta⟩ := IsL.inv1 h
  cases e
  exact .inl ⟨a, _, rfl, .inl ta.sq, by rw [List.length_map]; exact k _ H (jK.refl H) rfl⟩
 ·rename_i z
  obtain ⟨v, rfl, e2⟩ := IsL.inv1 h
  cases e2
  obtain ⟨e4, e5⟩ := jB e
  subst e5
  exact .inr ⟨z, rfl, of_decide_eq_true e4, k _ H (jK.refl H) rfl⟩
 ·cases e
def qnl : List D -> Option D
 | [.tup ds] => some (.tup ds)
 | [.lst ds] => some (.tup ds)
 | _ => none
end
end L2.Sk
namespace L2.Sk
open PySem PySem.Spec PySem.Calls PyProof.Rows PySem.W
def qie (h : Heap) (a D : Addr) : Prop := ∃ o, h.get? a = some o /\ o.cls = .ref D
theorem qie.looks {M : Model} {h : Heap} {a D : Addr} (I : qie h a D) : Looks M h (typeOf (.ref a)) (.ref D) := by
 obtain ⟨o, h1, h2⟩ := I
 rw [<- h2]
 exact (Looks.ld h1).andThen .now
section
variable {prog : Program} {w : World} {A : Around} {E : Value -> Shared -> Prop} {K : Frag} {h : Heap} {g : Array GenState} {d : Drawn} {t : Nat} {os : OsState} {a D : Addr}
theorem qkY (hm : mroIn K D (.type "object") = some true) {tp : Value} {R : Result -> Shared -> Prop} (X : K.In h) (I : qie h a D) (hq : R (.ok (.ret (.ref D))) ⟨h, g, d, t, os⟩) :
  codeAny (model prog w) A (.call (.builtin "getset_descriptor.__get__") ⟨[.builtin "object.__class__", .ref a, tp], []⟩) R ⟨h, g, d, t, os⟩ := by
 have L0 := I.looks (M := model prog w)
 have L1 := looks_mroIn (M := model prog w) X hm
 have hT5 : (⟨h, g, d, t, os⟩ : Shared).TypeIs (.builtin "object.__class__") "getset_descriptor" := F.typeOf_object_class
 refine codeAny_call_builtin F.slot_gs_get.plain F.entry_gs_get (F.slot_gs_get.check _ _ _ _ _ _ _ _ hT5 (F.args_gs_get _ _ _) ?_)
 have eo : ".".intercalate ("object.__class__".cutAt '.').dropLast = "object" := by decide +kernel
 repeat (any_goals (first | assumption | with_reducible refine L0.at ?_ | with_reducible refine L1.at ?_ | wp_step))
 rw [eo]
 refine L1.at ?_
 repeat (any_goals (first | assumption | with_reducible refine L0.at ?_ | wp_step))
 refine ⟨Code.quiet_builtin _ (by decide +kernel), codeAny_builtin F.entry_object_class ?_⟩
 repeat (any_goals (first | assumption | with_reducible refine L0.at ?_ | wp_step))
theorem qg5 (ha : findIn K (.ref D) "__class__" = some (some (.builtin "object.__class__"))) (hm : mroIn K D (.type "object") = some true) {tk : Tok} {Q : Fin -> Shared -> Prop} (X : K.In h) (I : qie h a D) (hq : Q (.done (.ret (.ref D))) ⟨h, g, d, t, os⟩) :
  wpAny (model prog w) A (Builtin.«object.__getattribute__» ⟨[.ref a, .str "__class__" tk], []⟩) Q E ⟨h, g, d, t, os⟩ := by
 have L0 := I.looks (M := model prog w)
 have L1 := looks_findIn (M := model prog w) X ha
 have hT5 : (⟨h, g, d, t, os⟩ : Shared).TypeIs (.builtin "object.__class__") "getset_descriptor" := F.typeOf_object_class
 have f5 := F.typeOf_object_class
 have f6 := F.slot_gs_get.lookup
 have f7 := F.slot_gs_set.lookup
 repeat (any_goals (first | assumption | with_reducible refine L0.at ?_ | with_reducible refine L1.at ?_ | wp_step))
 refine qkY hm X I ?_
 repeat (any_goals (first | assumption | wp_step))
theorem qg6 (hb : Looks (model prog w) h (isSubtype (.ref D) (.type "BaseException")) true) {nameV : Value} {Q : Unit -> Shared -> Prop} (I : qie h a D) (hq : Q () ⟨h, g, d, t, os⟩) : wpAny (model prog w) A (checkBuiltinCall "BaseException.__getattribute__" ⟨[.ref a, nameV], []⟩) Q E ⟨h, g, d, t, os⟩ := by
 have hk : builtinKind "BaseException.__getattribute__" = some .slot := by decide +kernel
 have hsplit : splitId "BaseException.__getattribute__" = some ("BaseException", "__getattribute__") := by decide +kernel
 have L0 := I.looks (M := model prog w)
 have ha := F.args_bexc_ga (.ref a) nameV
 simp only [checkBuiltinCall, hk, hsplit]
 refine wpAny_bind ?_
 ·unfold isInstance
  repeat (first | with_reducible refine L0.at ?_ | with_reducible refine hb.at ?_ | wp_step)
  exact hq
theorem qmN (FA : ExcAttrFacts "ValueError") (hga : findIn K (.ref D) "__getattribute__" = some (some (.builtin "BaseException.__getattribute__"))) (hgt : findIn K (.ref D) "__getattr__" = some none) (ha : findIn K (.ref D) "__class__" = some (some (.builtin "object.__class__"))) (hm : mroIn K D (.type "object") = some true)
  (hb : Looks (model prog w) h (isSubtype (.ref D) (.type "BaseException")) true) {tk : Tok} {fill expr : Bool} {Q : Value -> Shared -> Prop} (X : K.In h) (I : qie h a D) (hq : Q (.ref D) ⟨h, g, d, t, os⟩) :
  wpAny (model prog w) A (getAttrBy (.ref a) (.str "__class__" tk) fill expr) Q E ⟨h, g, d, t, os⟩ := by
 have L0 := I.looks (M := model prog w)
 have L1 := looks_findIn (M := model prog w) X hga
 have L2 := looks_findIn (M := model prog w) X hgt
 have f3 := FA.ga.bind (.ref a)
 have hx0 : (expr && onTheHeap (Value.builtin "BaseException.__getattribute__")) = false := by cases expr <;> rfl
 have hx2 : (Value.builtin "BaseException.__getattribute__" == Value.builtin "object.__getattribute__") = false := by decide +kernel
 have hx1 : (onTheHeap (Value.ref D) && Value.builtin "BaseException.__getattribute__" == Value.builtin "object.__getattribute__") = false := by rw [hx2]; rfl
 repeat (any_goals (first | assumption | with_reducible refine L0.at ?_ | with_reducible refine L1.at ?_ | with_reducible refine L2.at ?_ | wp_step))
 refine codeAny_call_builtin FA.ga.plain F.entry_bexc_ga (qg6 hb I (qg5 ha hm X I ?_))
 repeat (any_goals (first | assumption | wp_step))
theorem qjj (FA : ExcAttrFacts "ValueError") (hga : findIn K (.ref D) "__getattribute__" = some (some (.builtin "BaseException.__getattribute__"))) (hgt : findIn K (.ref D) "__getattr__" = some none) (ha : findIn K (.ref D) "__class__" = some (some (.builtin "object.__class__"))) (hm : mroIn K D (.type "object") = some true)
  (hb : Looks (model prog w) h (isSubtype (.ref D) (.type "BaseException")) true) {Q : Option Value -> Shared -> Prop} (X : K.In h) (I : qie h a D) (hq : Q (some (.ref D)) ⟨h, g, d, t + 1, os⟩) :
  wpAny (model prog w) A (getAttr? (.ref a) "__class__") Q E ⟨h, g, d, t, os⟩ := by
 unfold getAttr? getAttrBy?
 repeat (any_goals (first | assumption | with_reducible apply qmN FA hga hgt ha hm hb X I | wp_step))
end
theorem qg7 {K : Frag} {a D : Addr} (c : XK6 K D) : KitX K (.ref a) (.ref D) (fun h => qie h a D) where
 ty := fun _ _ _ I => I.looks
 it := fun _ _ X _ => by
  obtain ⟨cdD, hcD⟩ := Option.isSome_iff_exists.mp c.is
  unfold clsIn at hcD
  split at hcD
  ·rename_i c' d' cd' sl' ho
   intro A' Q' E' s' k q
   unfold isType loadHead
   exact wpAny_bind (wpAny_loadPart (k _ _ (X _ _ ho)) (wpAny_pure q))
  ·cases hcD
 ne := fun h tp dd its n sl X htp => by
  obtain ⟨cdD, hcD⟩ := Option.isSome_iff_exists.mp c.is
  refine Bool.eq_false_iff.mpr fun q => ?_
  have e : D = tp := Value.ref.inj (beq_iff_eq.mp q)
  subst e
  unfold clsIn at hcD
  split at hcD
  ·rename_i c' d' cd' sl' ho
   have z := (X _ _ ho).symm.trans htp
   cases z
  ·cases hcD
 ca := fun {prog w A E Q s} X p k => by
  have I := p
  obtain ⟨h, g, d, t, os⟩ := s
  exact qjj PySem.F.attrBase_ValueError.toExcAttrFacts c.ga c.gt c.cl c.ob (looks_subIn X c.be) X I k
theorem qaW {X : Cx} {pins : List (Addr × Obj)} {σ : St} {H : Hp} {s : Shared} {A : Around} {E : Value -> Shared -> Prop} {Q : Value -> Shared -> Prop} {a C : Addr} {c : Value} {b : Bool} (I : Inv X pins σ H s) (xc : XK6 X.K C) (hH : ∃ o vs, H a = some (.frz o (.own a)) /\ o.cls = .ref C /\ o.data = .fields vs)
  (e : kitOne X.K (.ref C) c = some b) (h : ∀ tk, Q (.bool b) { s with toks := tk }) : wpAny (model X.prog X.w) A (call (.builtin "isinstance") [.ref a, c]) Q E s := by
 obtain ⟨o, vs, h1, h2, _⟩ := hH
 obtain ⟨p, _⟩ := (show yX X.prog X.w H s.heap a (.frz o (.own a)) from I.hok a _ h1)
 exact kia_one (qg7 xc) I.kIn ⟨o, p, h2⟩ e (fun z => nomatch z) h
end L2.Sk
namespace L2.Sk
open PySem PySem.Spec PyProof.Rows
def tyD : D -> String
 | .non => "NoneType"
 | .bl _ => "bool"
 | .int _ => "int"
 | .str _ => "str"
 | .tup _ => "tuple"
 | .lst _ => "list"
 | .dic _ => "dict"
 | .fz _ => "list"
 | .exc _ => "exc"
def qcT (t T : String) : Bool := t == T || (t == "bool" && T == "int")
def qem : List String := ["NoneType", "bool", "int", "str", "tuple", "list", "dict"]
theorem qjk (d : D) (h : ∀ C, d ≠ .exc C) : tyD d ∈ qem := by
 cases d <;> first | (simp [tyD, qem]; done) | exact absurd rfl (h _)
structure qkc (K : Fr0) (T : String) : Prop where
 ok : ∀ t ∈ qem, PySem.W.kitOne K (.type t) (.type T) = some (qcT t T)
 ex : T ∈ ["int", "bool", "str", "tuple", "list", "dict"]
 nx : qcT "exc" T = false
theorem qjl {K : Fr0} : qkc K "int" := ⟨fun t ht => by
 simp only [qem, List.mem_cons, List.not_mem_nil, or_false] at ht
 rcases ht with rfl | rfl | rfl | rfl | rfl | rfl | rfl <;> kernel_rfl, by decide, by decide⟩
theorem qg8 {K : Fr0} : qkc K "bool" := ⟨fun t ht => by
 simp only [qem, List.mem_cons, List.not_mem_nil, or_false] at ht
 rcases ht with rfl | rfl | rfl | rfl | rfl | rfl | rfl <;> kernel_rfl, by decide, by decide⟩
theorem qcb {K : Fr0} : qkc K "tuple" := ⟨fun t ht => by
 simp only [qem, List.mem_cons, List.not_mem_nil, or_false] at ht
 rcases ht with rfl | rfl | rfl | rfl | rfl | rfl | rfl <;> kernel_rfl, by decide, by decide⟩
section
variable {X : Cx} {pins : List (Addr × Obj)} {σ : St} {H : Hp} {s : Shared} {A : Addr -> Prop} {E : Value -> Shared -> Prop} {Q : Value -> Shared -> Prop}
theorem qkZ {d : D} {v : V} {u : Value} {T : String} (I : Inv X pins σ H s) (h : Is X.K A H d v) (rv : yp v u) (kt : qkc X.K T) (hQ : ∀ tk, Q (.bool (qcT (tyD d) T)) { s with toks := tk }) :
  wpAny (model X.prog X.w) X.A (call (.builtin "isinstance") [u, .type T]) Q E s := by
 by_cases hx : ∃ C, d = .exc C
 ·obtain ⟨C, rfl⟩ := hx
  obtain ⟨a, rfl, xa⟩ := h
  cases (show u = Value.ref a from rv)
  have q : ∀ tk, Q (.bool false) { s with toks := tk } := fun tk => by
   have := hQ tk
   rw [show tyD (.exc C) = "exc" from rfl, kt.nx] at this
   exact this
  obtain ⟨D0, h0, h1, h2⟩ := xa
  exact qaW I h1 h2 (h1.no T kt.ex) q
 have e := kt.ok (tyD d) (qjk d fun C hC => hx ⟨C, hC⟩)
 cases d with
 | exc C => exact absurd ⟨C, rfl⟩ hx
 | non => cases h; exact uo I rv .non e hQ
 | bl b => cases h; exact uo I rv (.bl b) e hQ
 | int i => cases h; exact uo I rv (.int i) e hQ
 | str x => cases h; exact uo I rv (.str x) e hQ
 | tup ds =>
  obtain ⟨a, xs, rfl, ta, il⟩ := h
  cases (show u = Value.ref a from rv)
  obtain ⟨its, r, p, z⟩ := I.tuple ta.sq
  obtain ⟨o, h1, h2, _⟩ := p
  exact PySem.W.kia_one PySem.W.kitx_tuple I.kIn ⟨o, h1, h2⟩ e (fun z => nomatch z) hQ
 | lst ds =>
  obtain ⟨a, xs, rfl, hA, ta, il⟩ := h
  exact uo I rv (.lst ta) e hQ
 | dic kvs =>
  obtain ⟨a, rfl, hA, ta⟩ := h
  exact uo I rv (.dK ta) e hQ
 | fz ns =>
  obtain ⟨a, rfl, ta⟩ := h
  cases (show u = Value.ref a from rv)
  obtain ⟨its, r, p, z⟩ := I.list ta.sq
  obtain ⟨o, h1, h2, _⟩ := p.isList
  exact PySem.W.kia_one PySem.W.kitx_list I.kIn ⟨o, h1, h2⟩ e (fun z => nomatch z) hQ
end
def qjm (T : String) (f : M D) : M D := bnd f fun d => ret (.bl (qcT (tyD d) T))
section
variable {X : Cx} {c : Fc} {a b e : Expr} {pos : Pos}
def qn8 (K : Fr0) (T : String) : List V -> Hp -> VK -> Prop := fun xs H Q => ∃ v d A, xs = [v, .ty T] /\ Is K A H d v /\ Q (.bl (qcT (tyD d) T)) H
theorem qg9 {T : String} (kt : qkc X.K T) : yJ X (.builtin "isinstance") (qn8 X.K T) := by
 intro pins s σ H xs us Q I r h
 obtain ⟨v, d, A, rfl, hi, q⟩ := h
 obtain ⟨u, w, rfl, r1, r2⟩ := zh.two r
 cases (show w = Value.type T from r2)
 exact qkZ I hi r1 kt fun tk => ⟨.bl _, H, I.tok tk, rfl, q⟩
theorem qdw {T : String} {x : Str} {p p2 : Pos} {f : M D} (kt : qkc X.K T) (hg : Gl X "isinstance") (hm : X.mg "isinstance" = none) (hg2 : Gl X x) (hm2 : X.mg x = none) (hv2 : bootBuiltins x = some (.type T)) (ha : DE X c a f)
  (hv : bootBuiltins "isinstance" = some (.builtin "isinstance") := by first | rfl | exact PySem.boot_isinstance) (hn2 : x ≠ "__name__" := by decide) (hdb2 : (x == ("__debug__" : Str)) = false := by decide)
  (he : starEach [a, .Name x p2] X.env = (false, eval a X.env) :: starEach [.Name x p2] X.env := by rfl) (hpl : (backTo pos (starEach [.Name x p2] X.env)).any (·.1) = false := by rfl) : DE X c (.Call (.Name "isinstance" p) [a, .Name x p2] [] pos) (qjm T f) := by
 obtain ⟨t, pa, w⟩ := ha
 refine ⟨_, wY (qg9 kt) hg hm hv (j7 pa (j7 (qeY (v := .ty T) hg2 hm2 hv2 rfl hn2 hdb2) wM (by rfl)) he) (by decide) (by decide) he hpl, fun ρ σ H Q r h => w ρ σ H _ r (Wp.bnd h fun d ρ1 v H1 r1 i1 g1 h1 => ?_)⟩
 exact ⟨v, d, _, rfl, i1, h1 _ H1 r1 rfl .refl⟩
end
def vq : List D -> Option (List Bool)
 | [] => some []
 | .bl b :: r => (vq r).map (b :: ·)
 | _ => none
def uX : List D -> Option (List Int)
 | [] => some []
 | .int i :: r => (uX r).map (i :: ·)
 | _ => none
theorem vF {K : Fr0} {A : Addr -> Prop} {H : Hp} : ∀ {ds : List D} {xs : List V} {bs : List Bool}, IsL K A H ds xs -> vq ds = some bs -> xs = bs.map V.bl
 | [], _, _, h, e => by cases e; exact h
 | .bl b :: r, _, bs, ⟨x, ys, hx, h1, h2⟩, e => by
  cases h1
  cases e1 : vq r with
  | none => simp [vq, e1] at e
  | some l =>
   simp [vq, e1] at e
   subst e
   rw [hx, vF h2 e1]; rfl
 | .non :: _, _, _, _, e => by cases e
 | .int _ :: _, _, _, _, e => by cases e
 | .str _ :: _, _, _, _, e => by cases e
 | .tup _ :: _, _, _, _, e => by cases e
 | .lst _ :: _, _, _, _, e => by cases e
 | .dic _ :: _, _, _, _, e => by cases e
 | .fz _ :: _, _, _, _, e => by cases e
 | .exc _ :: _, _, _, _, e => by cases e
theorem j8 {K : Fr0} {A : Addr -> Prop} {H : Hp} : ∀ {ds : List D} {xs : List V} {bs : List Int}, IsL K A H ds xs -> uX ds = some bs -> xs = bs.map V.int
 | [], _, _, h, e => by cases e; exact h
 | .int b :: r, _, bs, ⟨x, ys, hx, h1, h2⟩, e => by
  cases h1
  cases e1 : uX r with
  | none => simp [uX, e1] at e
  | some l =>
   simp [uX, e1] at e
   subst e
   rw [hx, j8 h2 e1]; rfl
 | .non :: _, _, _, _, e => by cases e
 | .bl _ :: _, _, _, _, e => by cases e
 | .str _ :: _, _, _, _, e => by cases e
 | .tup _ :: _, _, _, _, e => by cases e
 | .lst _ :: _, _, _, _, e => by cases e
 | .dic _ :: _, _, _, _, e => by cases e
 | .fz _ :: _, _, _, _, e => by cases e
 | .exc _ :: _, _, _, _, e => by cases e
theorem qdx {bs : List Bool} : ∀ {us : List Value}, zh (bs.map V.bl) us -> LSm.BoolsAre us bs := by
 induction bs with
 | nil => intro us r; rw [List.map_nil] at r; cases r; exact .nil
 | cons b bs ih =>
  intro us r
  rw [List.map_cons] at r
  cases r with
  | cons r1 r2 =>
   cases (show _ = Value.bool b from r1)
   exact .cons b (ih r2)
section
variable {X : Cx}
theorem qdy (hc : X.calm = true) : yJ X (.builtin "all") (fun xs H Q => ∃ (p : Addr) (bs : List Bool), xs = [.ref p] /\ H p = some (.lst (bs.map V.bl)) /\ Q (.bl (bs.all id)) H) := by
 intro pins s σ H xs us Q I r h
 obtain ⟨p, bs, rfl, hp, q⟩ := h
 obtain ⟨u, rfl, ru⟩ := zh.one r
 cases ru
 obtain ⟨its, rv, pl, hz⟩ := I.list (SqL.of hp)
 have hl := pl.isList
 have hb := qdx rv
 have hlt : p < s.heap.objs.size := by obtain ⟨_, e, _⟩ := hl; exact Heap.lt_size e
 refine call_all_walk (wpAny_pyIter_list hl ?_)
 refine ⟨s.heap.objs.size, [s.heap.objs.size, p], [s.heap.objs.size], its.toArray.size, _, _, fun i => (bs[i]?).getD true, rfl, Walks.list (A := X.A.in1) (I.ok.hd hc) _ p (Nat.ne_of_lt hlt) its.toArray,
  ⟨⟨_, Heap.get?_push_size _ rfl, rfl, rfl⟩, hl.push _⟩, fun i v s' Q' E' hP hQ => ?_, fun h' tk hk => ?_⟩
 ·obtain ⟨b, e, rfl⟩ := hb.get i v (by simpa using hP)
  simp only [e, Option.getD_some] at hQ
  exact wpAny_truthy_bool hQ
 ·have e : ((List.range its.toArray.size).all fun i => (bs[i]?).getD true) = bs.all id := by
   rw [List.size_toArray, hb.length]; exact LSm.range_all bs
  rw [e]
  exact ⟨.bl _, H, I.kept (LSm.kept_iter hk), rfl, q⟩
theorem qha (hc : X.calm = true) : yJ X (.builtin "any") (fun xs H Q => ∃ (p : Addr) (bs : List Bool), xs = [.ref p] /\ H p = some (.lst (bs.map V.bl)) /\ Q (.bl (bs.any id)) H) := by
 intro pins s σ H xs us Q I r h
 obtain ⟨p, bs, rfl, hp, q⟩ := h
 obtain ⟨u, rfl, ru⟩ := zh.one r
 cases ru
 obtain ⟨its, rv, pl, hz⟩ := I.list (SqL.of hp)
 have hl := pl.isList
 have hb := qdx rv
 have hlt : p < s.heap.objs.size := by obtain ⟨_, e, _⟩ := hl; exact Heap.lt_size e
 refine call_any_walk (wpAny_pyIter_list hl ?_)
 refine ⟨s.heap.objs.size, [s.heap.objs.size, p], [s.heap.objs.size], its.toArray.size, _, _, fun i => (bs[i]?).getD false, rfl, Walks.list (A := X.A.in1) (I.ok.hd hc) _ p (Nat.ne_of_lt hlt) its.toArray,
  ⟨⟨_, Heap.get?_push_size _ rfl, rfl, rfl⟩, hl.push _⟩, fun i v s' Q' E' hP hQ => ?_, fun h' tk hk => ?_⟩
 ·obtain ⟨b, e, rfl⟩ := hb.get i v (by simpa using hP)
  simp only [e, Option.getD_some] at hQ
  exact wpAny_truthy_bool hQ
 ·have e : ((List.range its.toArray.size).any fun i => (bs[i]?).getD false) = bs.any id := by
   rw [List.size_toArray, hb.length]; exact LSm.range_any bs
  rw [e]
  exact ⟨.bl _, H, I.kept (LSm.kept_iter hk), rfl, q⟩
theorem qhb (hc : X.calm = true) : yJ X (.builtin "sum") (fun xs H Q => ∃ (p : Addr) (ns : List Int), xs = [.ref p] /\ H p = some (.lst (ns.map V.int)) /\ Q (.int ns.sum) H) := by
 intro pins s σ H xs us Q I r h
 obtain ⟨p, ns, rfl, hp, q⟩ := h
 obtain ⟨u, rfl, ru⟩ := zh.one r
 cases ru
 obtain ⟨its, rv, pl, hz⟩ := I.list (SqL.of hp)
 have hl := pl.isList
 have hi : IntsAre its ns := yR rv
 obtain ⟨zs, hx⟩ := hi.allInts.items
 have hl' : s.heap.IsList p (intItems zs) := hx ▸ hl
 refine sum_intListG (I.ok.hd hc) hl' fun h' tk t' hk => ?_
 have e1 : ns = zs.toList.map (·.1) := by
  rw [<- nums_intItems, <- hx]
  exact (show numsOf its.toArray.toList = ns from hi.numsOf).symm
 have e2 : preSum (numAt zs) zs.size = ns.sum := by
  rw [preSum_eq, List.take_of_length_le (by simp), e1]
 rw [e2]
 exact ⟨.int _, H, I.kept hk, ⟨_, rfl⟩, q⟩
end
def qjn : List D -> Option D
 | [.lst ds] => (vq ds).map fun bs => .bl (bs.all id)
 | _ => none
def qmO : List D -> Option D
 | [.lst ds] => (vq ds).map fun bs => .bl (bs.any id)
 | _ => none
def qk0 : List D -> Option D
 | [.lst ds] => (uX ds).map fun bs => .int bs.sum
 | _ => none
section
variable {K : Fr0}
theorem qcc : ww K qjn (fun xs H Q => ∃ (p : Addr) (bs : List Bool), xs = [.ref p] /\ H p = some (.lst (bs.map V.bl)) /\ Q (.bl (bs.all id)) H) := by
 intro A H xs d vs Q hn h e k
 unfold qjn at e
 split at e
 ·obtain ⟨v, rfl, a, zs, rfl, _, ta, il⟩ := IsL.inv1 h
  obtain ⟨bs, h1, h2⟩ := Option.map_eq_some_iff.mp e
  subst h2
  rw [vF il h1] at ta
  exact ⟨a, bs, rfl, ta, k _ H (jK.refl H) rfl⟩
 ·cases e
theorem qfq : ww K qmO (fun xs H Q => ∃ (p : Addr) (bs : List Bool), xs = [.ref p] /\ H p = some (.lst (bs.map V.bl)) /\ Q (.bl (bs.any id)) H) := by
 intro A H xs d vs Q hn h e k
 unfold qmO at e
 split at e
 ·obtain ⟨v, rfl, a, zs, rfl, _, ta, il⟩ := IsL.inv1 h
  obtain ⟨bs, h1, h2⟩ := Option.map_eq_some_iff.mp e
  subst h2
  rw [vF il h1] at ta
  exact ⟨a, bs, rfl, ta, k _ H (jK.refl H) rfl⟩
 ·cases e
theorem qfr : ww K qk0 (fun xs H Q => ∃ (p : Addr) (ns : List Int), xs = [.ref p] /\ H p = some (.lst (ns.map V.int)) /\ Q (.int ns.sum) H) := by
 intro A H xs d vs Q hn h e k
 unfold qk0 at e
 split at e
 ·obtain ⟨v, rfl, a, zs, rfl, _, ta, il⟩ := IsL.inv1 h
  obtain ⟨bs, h1, h2⟩ := Option.map_eq_some_iff.mp e
  subst h2
  rw [j8 il h1] at ta
  exact ⟨a, bs, rfl, ta, k _ H (jK.refl H) rfl⟩
 ·cases e
end
section
variable {X : Cx}
def qif (K : Fr0) : R2 := fun x y H Q => ∃ a b ys, x = .ref a /\ y = .ref b /\ SqT K H a [] /\ SqT K H b ys /\ Q (.ref b) H
theorem qhc : OpR X (binaryOp .Add) (qif X.K) := by
 intro pins s σ H x y v u Q I rx ry h
 obtain ⟨a, b, ys, rfl, rfl, ha, hb, q⟩ := h
 cases rx
 cases ry
 obtain ⟨its, r1, p1, _⟩ := I.tuple ha
 obtain ⟨its2, r2, p2, _⟩ := I.tuple hb
 cases r1
 obtain ⟨⟨cls, dd, data, sl⟩, ho, hc, n, hd⟩ := id p1
 obtain ⟨⟨cls2, dd2, data2, sl2⟩, ho2, hc2, n2, hd2⟩ := id p2
 simp only at hc hd hc2 hd2
 subst hc hd hc2 hd2
 exact concat_meets ⟨_, ho, rfl⟩ ⟨_, ho2, rfl⟩ noFill_tuple_add seq_tuple_add PySem.F.slot_tuple_add PySem.F.entry_tuple_add (PySem.F.args_tuple_add_2 _ _)
   (tuple_addW0 a b [].toArray its2.toArray n n2 dd dd2 sl sl2 (by simp)) ⟨ho, ho2, ⟨.ref b, H, I, rfl, q⟩⟩
def qk1 (K : Fr0) : R2 := fun x y H Q => (∃ i j, x = .int i /\ y = .int j /\ Q (.int (i + j)) H) \/ ((∃ i j, x = .str i /\ y = .str j /\ i.length + j.length <= sizeLine /\ Q (.str (i ++ j)) H) \/ (qif K x y H Q \/ (qkI K x y H Q \/ qnh x y H Q)))
theorem zj : OpR X (binaryOp .Add) (qk1 X.K) := OpR.or qkA (OpR.or qeh (OpR.or qhc (OpR.or qi8 qkO)))
end
def jw : D -> D -> Option D
 | .int i, .int j => some (.int (i + j))
 | .str x, .str y => if qI (x.length + y.length) then some (.str (x ++ y)) else none
 | .tup xs, .tup ys => if qI (xs.length + ys.length) then some (.tup (xs ++ ys)) else none
 | .lst xs, .lst ys => if qI (xs.length + ys.length) then some (.lst (xs ++ ys)) else none
 | _, _ => none
theorem zk {K : Fr0} : OpS K jw (qk1 K) := by
 intro A H x y d v u Q hn ix iy e k
 cases x <;> cases y <;> simp only [jw] at e <;> try (cases e; done)
 ·rename_i i j
  cases ix; cases iy; cases e
  exact .inl ⟨i, j, rfl, rfl, k _ H (jK.refl H) rfl⟩
 ·rename_i i j
  cases ix; cases iy
  obtain ⟨e1, e2⟩ := jB e
  subst e2
  exact .inr (.inl ⟨i, j, rfl, rfl, of_decide_eq_true e1, k _ H (jK.refl H) rfl⟩)
 ·rename_i ds es
  obtain ⟨a, xs, rfl, ta, il⟩ := ix
  obtain ⟨b, ys, rfl, tb, jl⟩ := iy
  obtain ⟨e1, e2⟩ := jB e
  subst e2
  have hs : xs.length + ys.length <= sizeLine := by rw [il.length, jl.length]; exact of_decide_eq_true e1
  refine .inr (.inr ?_)
  cases ds with
  | nil =>
   have hx : xs = [] := il
   subst hx
   exact .inl ⟨a, b, ys, rfl, rfl, ta.sq, tb.sq, k _ H (jK.refl H) ⟨b, ys, rfl, tb, jl⟩⟩
  | cons d0 ds =>
   refine .inr (.inl ⟨a, b, xs, ys, rfl, rfl, ta.sq, tb.sq, ?_, hs, fun hy => ?_, fun hy p hp => ?_⟩)
   ·obtain ⟨x, zs, hx, _⟩ := il
    rw [hx]; simp
   ·subst hy
    cases es with
    | nil => rw [List.append_nil] at k; exact k _ H (jK.refl H) ⟨a, xs, rfl, ta, il⟩
    | cons e0 es => obtain ⟨_, _, hx, _⟩ := jl; cases hx
   ·exact k _ _ (qz hp _) ⟨p, xs ++ ys, rfl, .inl qv, IsL.ext (Ext.of_same (qz hp _)) (fun _ h _ => h) (IsL.append il jl)⟩
 ·rename_i ds es
  obtain ⟨a, xs, rfl, hA, ta, il⟩ := ix
  obtain ⟨b, ys, rfl, hB, tb, jl⟩ := iy
  obtain ⟨e1, e2⟩ := jB e
  subst e2
  have hs : xs.length + ys.length <= sizeLine := by rw [il.length, jl.length]; exact of_decide_eq_true e1
  exact .inr (.inr (.inr (.inr ⟨a, b, xs, ys, rfl, rfl, ta, tb, hs, fun p hp => k _ _ (qz hp _) ⟨p, xs ++ ys, rfl, hn p hp, qv, IsL.ext (Ext.of_same (qz hp _)) (fun _ h _ => h) (IsL.append il jl)⟩⟩)))
section
variable {X : Cx}
end
def qmP (xs : List D) (lo hi : Option Int) : List D := (xs.drop (HT.sIx xs.length 0 lo)).take (HT.sIx xs.length xs.length hi - HT.sIx xs.length 0 lo)
def slD (x : D) (lo hi : Option Int) : Option D := match x with
 | .tup ds => some (.tup (qmP ds lo hi))
 | _ => none
section
variable {X : Cx} {c : Fc} {a b e : Expr} {pos p2 : Pos}
def asI : D -> Option Int
 | .int i => some i
 | _ => none
def qk2 (f : M D) : M (Option Int) := bnd f fun d => match d with
 | .int i => ret (some i)
 | _ => fun _ => .bad
def dsl (f : M D) (g k : M (Option Int)) : M D := bnd f fun d => bnd g fun l => bnd k fun u => lift (slD d l u)
end
end L2.Sk
namespace L2.Sk
open PySem PySem.Spec PyProof.Rows
def zl (X : Cx) (scope : Scope) (N' : List Str) (fp : List Addr) (cl : List (Str × Addr)) (C : Addr) (s₀ : Shared) (H₀ : Hp) (pn : List (Addr × Obj)) : Cx where
 prog := X.prog
 w := X.w
 K := X.K
 mg := X.mg
 base := X.base
 A := X.A
 N := N'
 s₀ := s₀
 H₀ := H₀
 env := compEnvC scope cl C X.env
 outer := X.stack
 stack := X.stack
 ex := fp
 fn := fun _ => false
 calm := X.calm
 pn := pn
 xe := fun _ _ => False
def PF (X : Cx) (ifs : List Expr) (t : TT) : Prop := ∀ (pins : List (Addr × Obj)) (s : Shared) (σ : St) (H : Hp) (Q : Bool -> Hp -> Prop), Inv X pins σ H s -> t σ H Q ->
 wpAny (model X.prog X.w) X.A (forIn ifs true fun c r => if r = true then do let ok <- isTrue c X.env (eval c X.env); pure (ForInStep.yield ok) else pure (ForInStep.yield r)) (TP X pins σ Q) X.xe s
theorem qk3 {X : Cx} : PF X [] (fun _ H Q => Q true H) := fun pins s σ H Q I h => wpAny_tests_nil ⟨H, I, h⟩
theorem qk4 {X : Cx} {e : Expr} {t : TT} (h : PT X e t) : PF X [e] t := fun pins s σ H Q I hw => wpAny_tests_one (h pins s σ H Q I hw)
structure jN (X : Cx) (scope : Scope) (N' : List Str) (nt : Nat) (fr : List Nat) : Prop where
 kind : scope.kind = .function
 nocell : ∀ y ∈ scope.names, y.2 ≠ .cell
 names : ∀ y ∈ scope.names, y.2 = .local -> scope.names.lookup y.1 = some .local
 frees : ∀ y ∈ scope.names, y.2 = .free -> X.env.kindOf y.1 = some .cell
 len : N'.length = nt + fr.length
 slot : ∀ i j, fr[i]? = some j -> ∃ x, N'[nt + i]? = some x /\ X.N[j]? = some x /\ scope.names.lookup x = some .free
theorem wy {env : PySem.Env} : ∀ (names : List (Str × NameKind)) (cs : List (Str × Addr)), (∀ y ∈ names, y.2 = .free -> ∃ a, env.cells.lookup y.1 = some a) -> (∀ n a, cs.lookup n = some a -> env.cells.lookup n = some a) ->
  ∃ cl, (forIn names cs fun x r => match x with | (name, kind) => if (kind == NameKind.free) = true then do let a <- cellOf env name; pure (ForInStep.yield ((name, a) :: r)) else pure (ForInStep.yield r) : Sem (List (Str × Addr))) = pure cl /\
   (∀ n a, cl.lookup n = some a -> env.cells.lookup n = some a) /\ (∀ n, (∃ a, cs.lookup n = some a) -> ∃ a, cl.lookup n = some a) /\ ∀ y ∈ names, y.2 = .free -> ∃ a, cl.lookup y.1 = some a
 | [], cs, _, h => ⟨cs, rfl, h, fun _ h => h, fun y hy => by cases hy⟩
 | (n, k) :: r, cs, hf, h => by
  have hr : ∀ y ∈ r, y.2 = .free -> ∃ a, env.cells.lookup y.1 = some a := fun y hy => hf y (List.mem_cons_of_mem _ hy)
  rw [List.forIn_cons]
  by_cases hk : k = .free
  ·subst hk
   obtain ⟨a, ha⟩ := hf (n, .free) List.mem_cons_self rfl
   have ha' : env.cells.lookup n = some a := ha
   have hcell : cellOf env n = pure a := by unfold cellOf; rw [ha']
   obtain ⟨cl, e1, e2, e3, e4⟩ := wy r ((n, a) :: cs) hr (fun m b hm => by
    rw [List.lookup_cons] at hm
    cases e : m == n with
    | true => rw [e] at hm; cases hm; rw [eq_of_beq e]; exact ha'
    | false => rw [e] at hm; exact h m b hm)
   refine ⟨cl, ?_, e2, fun m ⟨b, hm⟩ => e3 m ?_, fun y hy hyf => ?_⟩
   ·show ((if (NameKind.free == NameKind.free) = true then _ else _) >>= _) = _
    rw [if_pos (by rfl), hcell]
    exact e1
   ·rw [List.lookup_cons]
    cases e : m == n with
    | true => exact ⟨a, rfl⟩
    | false => exact ⟨b, hm⟩
   ·rcases List.mem_cons.mp hy with rfl | hy
    ·exact e3 n ⟨a, by rw [List.lookup_cons]; simp⟩
    ·exact e4 y hy hyf
  ·have hb : (k == NameKind.free) = false := by simpa using hk
   obtain ⟨cl, e1, e2, e3, e4⟩ := wy r cs hr h
   refine ⟨cl, ?_, e2, e3, fun y hy hyf => ?_⟩
   ·show ((if (k == NameKind.free) = true then _ else _) >>= _) = _
    rw [hb, if_neg Bool.false_ne_true]
    exact e1
   ·rcases List.mem_cons.mp hy with rfl | hy
    ·exact absurd hyf hk
    ·exact e4 y hy hyf
theorem vO {env : PySem.Env} {scope : Scope} (hf : ∀ y ∈ scope.names, y.2 = .free -> ∃ a, env.cells.lookup y.1 = some a) :
  ∃ cl, closureFor scope env = pure cl /\ (∀ n a, cl.lookup n = some a -> env.cells.lookup n = some a) /\ ∀ y ∈ scope.names, y.2 = .free -> ∃ a, cl.lookup y.1 = some a := by
 obtain ⟨cl, e1, e2, _, e4⟩ := wy scope.names [] hf (fun n a h => by cases h)
 refine ⟨cl, ?_, e2, e4⟩
 unfold closureFor
 show (forIn scope.names [] _ >>= _) = _
 have e5 : (forIn scope.names [] fun x r => match x with | (name, kind) => if (kind == NameKind.free) = true then do let a <- cellOf env name; pure (ForInStep.yield ((name, a) :: r)) else pure (ForInStep.yield r) : Sem (List (Str × Addr))) = pure cl := e1
 first
  | (rw [e5]; rfl)
  | (simp only [bind_pure_comp, e5]; rfl)
theorem yY {env : PySem.Env} : ∀ {names : List (Str × NameKind)} {x : Str}, names.lookup x = some .free -> env.scope.kind = .function -> env.kindOf x = some .cell ->
  (names.map fun (n, k) => if (k == NameKind.free && env.scope.kind == .function && env.kindOf n == some .cell) then (n, NameKind.cell) else (n, k)).lookup x = some .cell
 | [], _, h, _, _ => by simp at h
 | (n, k) :: r, x, h, hk, hx => by
  have ih := @yY env r x
  show List.lookup x ((if (k == NameKind.free && env.scope.kind == .function && env.kindOf n == some .cell) = true then (n, NameKind.cell) else (n, k)) :: _) = _
  cases hxn : x == n with
  | true =>
   have e : x = n := eq_of_beq hxn
   subst e
   simp only [List.lookup_cons, hxn] at h
   cases h
   rw [if_pos (by rw [hk, hx]; rfl)]
   simp only [List.lookup_cons, hxn]
  | false =>
   simp only [List.lookup_cons, hxn] at h
   by_cases hc : (k == NameKind.free && env.scope.kind == .function && env.kindOf n == some .cell) = true
   ·rw [if_pos hc]; simp only [List.lookup_cons, hxn]; exact ih h hk hx
   ·rw [if_neg hc]; simp only [List.lookup_cons, hxn]; exact ih h hk hx
theorem j9 {env : PySem.Env} : ∀ {names : List (Str × NameKind)} {x : Str} {q : NameKind}, (names.map fun (n, k) => if (k == NameKind.free && env.scope.kind == .function && env.kindOf n == some .cell) then (n, NameKind.cell) else (n, k)).lookup x = some q ->
  q = .cell \/ q = .free -> (∀ y ∈ names, y.2 ≠ .cell) -> ∃ k, (x, k) ∈ names /\ k = .free
 | [], _, _, h, _, _ => by simp at h
 | (n, k) :: r, x, q, h, hq, hc => by
  have ih := @j9 env r x q
  have h' : List.lookup x ((if (k == NameKind.free && env.scope.kind == .function && env.kindOf n == some .cell) = true then (n, NameKind.cell) else (n, k)) :: (r.map fun (n, k) => if (k == NameKind.free && env.scope.kind == .function && env.kindOf n == some .cell) then (n, NameKind.cell) else (n, k))) = some q := h
  have hr : ∀ y ∈ r, y.2 ≠ .cell := fun y hy => hc y (List.mem_cons_of_mem _ hy)
  by_cases hcd : (k == NameKind.free && env.scope.kind == .function && env.kindOf n == some .cell) = true
  ·rw [if_pos hcd] at h'
   cases hxn : x == n with
   | true =>
    have e : x = n := eq_of_beq hxn
    subst e
    refine ⟨k, List.mem_cons_self, ?_⟩
    rw [Bool.and_eq_true, Bool.and_eq_true] at hcd
    exact eq_of_beq hcd.1.1
   | false =>
    simp only [List.lookup_cons, hxn] at h'
    obtain ⟨k', m, e⟩ := ih h' hq hr
    exact ⟨k', List.mem_cons_of_mem _ m, e⟩
  ·rw [if_neg hcd] at h'
   cases hxn : x == n with
   | true =>
    have e : x = n := eq_of_beq hxn
    subst e
    simp only [List.lookup_cons, hxn] at h'
    cases h'
    rcases hq with rfl | rfl
    ·exact absurd rfl (hc (x, .cell) List.mem_cons_self)
    ·exact ⟨.free, List.mem_cons_self, rfl⟩
   | false =>
    simp only [List.lookup_cons, hxn] at h'
    obtain ⟨k', m, e⟩ := ih h' hq hr
    exact ⟨k', List.mem_cons_of_mem _ m, e⟩
def qy (nt : Nat) (fr : List Nat) (σ : St) : St := List.replicate nt none ++ fr.map fun j => (σ[j]?).join
def qk5 (X : Cx) (tg : Expr) (ifs : List Expr) (elt : Expr) (scope : Scope) (N' : List Str) (wi : TI) (nt : Nat) (fr : List Nat) : TE := fun σ H Q => wi σ H fun J H1 => ∀ acc fp cl C s₀ H₀ pn, H1 acc = none ->
 ∃ (g : TG) (tt : TT) (te : TE), PG (zl X scope N' fp cl C s₀ H₀ pn) tg g /\ PF (zl X scope N' fp cl C s₀ H₀ pn) ifs tt /\ PE (zl X scope N' fp cl C s₀ H₀ pn) elt te /\
 ∃ W : Nat -> Nat -> St -> Hp -> Prop, (∃ m, W 0 m (qy nt fr σ) (upd H1 acc (.lst []))) /\
 ∀ i m σ' H', W i m σ' H' -> (J.stop i H' /\ Q (.ref acc) H') \/ (J.go i H' /\ ∀ x H'', J.yld i H' x H'' -> g x σ' H'' fun σ2 H2 => tt σ2 H2 fun b H3 =>
  if b = true then te σ2 H3 fun y H4 => ∃ ys, H4 acc = some (.lst ys) /\ ys.length < sizeLine /\ ∃ m', m' < m /\ W (i + 1) m' σ2 (upd H4 acc (.lst (ys ++ [y]))) else ∃ m', m' < m /\ W (i + 1) m' σ2 H3)
section
variable {X : Cx} {tg iter elt : Expr} {ifs : List Expr} {scope : Scope} {pos : Pos} {wi : TI} {N' : List Str} {nt : Nat} {fr : List Nat}
theorem qan {prog : Program} {w : World} {A : Around} {R : Result -> Shared -> Prop} {s : Shared} {it acc : Value} {env : PySem.Env} (I : Nat -> Shared -> Prop)
  (turn : ∀ n s, I n s -> wpAny (model prog w) A (pyNext it) (fun r s₁ => match r with
   | none => R (.ok .next) s₁
   | some v => wpAny (model prog w) A (letOwnedTupleGo tg it v) (fun _ s₁' => wpAny (model prog w) A (assign tg env v) (fun _ s₂ =>
     wpAny (model prog w) A (forIn ifs true fun c r => if r = true then do let ok <- isTrue c env (eval c env); pure (ForInStep.yield ok) else pure (ForInStep.yield r)) (fun ok s₃ =>
      if ok = true then wpAny (model prog w) A (eval elt env) (fun x s₄ =>
       wpAny (model prog w) A (call (.builtin "list.append") [acc, x]) (fun _ s₅ => ∃ m, m < n /\ I m s₅) (fun _ _ => False) s₄) (fun _ _ => False) s₃
      else ∃ m, m < n /\ I m s₃) (fun _ _ => False) s₂) (fun _ _ => False) s₁') (fun _ _ => False) s₁) (fun _ _ => False) s)
  (n : Nat) (h : I n s) : codeAny (model prog w) A (.compLoop (.ListComp elt [⟨tg, iter, ifs, 0⟩] scope pos) 0 it acc env) R s := by
 refine codeAny_loop rfl I (fun n s hI => ?_) n h
 show wpAny _ A ((compTurn (.ListComp elt [⟨tg, iter, ifs, 0⟩] scope pos) 0 it acc env).onRaise (fun x => do noteFrame x env; theTreesLotGoes x)) _ _ s
 refine wpAny_noted ?_
 rw [compTurn_list]
 refine wpAny_bind (wpAny_standAt (wpAny_bind (wpAny_mono (turn n s hI) (fun r s₁ h₁ => ?_) fun _ _ h' => h'.elim)))
 cases r with
 | none => exact wpAny_pure h₁
 | some v =>
  refine wpAny_bind (wpAny_mono h₁ (fun _ s₁' h₁' => ?_) fun _ _ h' => h'.elim)
  refine wpAny_bind (wpAny_mono h₁' (fun _ s₂ h₂ => wpAny_bind (wpAny_mono h₂ (fun ok s₃ h₃ => ?_) fun _ _ h' => h'.elim)) fun _ _ h' => h'.elim)
  cases ok with
  | false => exact wpAny_pure ⟨rfl, h₃⟩
  | true =>
   exact wpAny_bind (wpAny_bind (wpAny_mono h₃ (fun x s₄ h₄ => wpAny_bind (wpAny_mono h₄ (fun _ s₅ h₅ => wpAny_pure (wpAny_pure ⟨rfl, h₅⟩)) fun _ _ h' => h'.elim)) fun _ _ h' => h'.elim))
theorem qaX {pins : List (Addr × Obj)} {σ : St} {H : Hp} {s : Shared} {h₁ : Heap} {tk : Nat} {fp : List Addr} {cl : List (Str × Addr)} (S : jN X scope N' nt fr) (I : Inv X pins σ H s) (hfp : ∀ b ∈ fp, qbU X pins H b)
  (hex : ∀ b ∈ fp, ∃ o, s.heap.get? b = some o) (cl1 : ∀ n a, cl.lookup n = some a -> X.env.cells.lookup n = some a) (cl2 : ∀ y ∈ scope.names, y.2 = .free -> ∃ a, cl.lookup y.1 = some a)
  (hns : ∃ m, h₁.Ns s.heap.objs.size m) (old : ∀ b o, s.heap.get? b = some o -> h₁.get? b = some o) :
  Inv (zl X scope N' fp cl s.heap.objs.size s H (X.pn ++ pins)) [] (qy nt fr σ) H { s with heap := h₁, toks := tk } := by
 have stkB : ∀ b ∈ frs X.stack, b = X.env.locals \/ b ∈ X.fs := fun b hb => List.mem_cons.mp (I.stkSub b hb)
 have hC : ∀ b o, s.heap.get? b = some o -> b ≠ s.heap.objs.size := fun b o e => Nat.ne_of_lt (Heap.lt_size e)
 obtain ⟨m, hn⟩ := hns
 refine ⟨⟨I.ok.mod, S.kind, I.ok.glob, I.ok.blt, Nat.le_refl _, fun x y c h1 h2 => I.ok.inj x y c (cl1 x c h1) (cl1 y c h2), fun x hx => ?_, fun x c hx => ?_, I.ok.hd, I.ok.frames, .inl rfl, fun b hb => ⟨?_, fun x c hx => (hfp b hb).2.2.2.2.1 x c (cl1 x c hx)⟩, I.bs, Nat.le_trans I.ok.bsz I.sz, fun b o e hb => ?_, fun b hb hb2 => ?_, I.stack, I.stkFree⟩,
  rfl, I.bare, Un.kept old, ⟨m, hn, fun i x v h1 h2 h3 => ?_⟩, fun x c hx => ?_, I.hok.fresh (Nat.le_refl _), fun x c hx => I.freeC x c (cl1 x c hx), fun p hp => ?_, I.hok.kept old, ?_⟩
 ·have hx' : ∃ k, (x, k) ∈ scope.names /\ k = .free := by
   rcases hx with hx | hx
   ·exact j9 (env := X.env) (q := .cell) hx (.inl rfl) S.nocell
   ·exact j9 (env := X.env) (q := .free) hx (.inr rfl) S.nocell
  obtain ⟨k, m, rfl⟩ := hx'
  exact cl2 (x, .free) m rfl
 ·have hx' : false = true := hx
  cases hx'
 ·obtain ⟨o, e⟩ := hex b hb
  exact hC b o e
 ·obtain ⟨f0, f1, f2, f3, f4, f5⟩ := hfp b hb
  rcases f3 with z | z
  ·exact I.ok.noex b o e z
  ·exact absurd (Nat.lt_of_lt_of_le (Heap.lt_size e) (Nat.le_trans I.ok.bsz z)) (Nat.lt_irrefl _)
 ·obtain ⟨f0, f1, f2, f3, f4, f5⟩ := hfp b hb
  rcases stkB b hb2 with z | z
  ·exact f1 z
  ·exact f2 z
 ·-- names
  have hi : nt <= i := by
   apply Nat.le_of_not_lt
   intro hlt
   unfold qy at h2
   rw [List.getElem?_append_left (by simpa using hlt), List.getElem?_replicate] at h2
   split at h2 <;> cases h2
  have h2' : (fr.map fun j => (σ[j]?).join)[i - nt]? = some (some v) := by
   unfold qy at h2
   rw [List.getElem?_append_right (by simpa using hi), List.length_replicate] at h2
   exact h2
  rw [List.getElem?_map] at h2'
  cases ej : fr[i - nt]? with
  | none => rw [ej] at h2'; cases h2'
  | some j =>
   rw [ej] at h2'
   have hσ : (σ[j]?).join = some v := by simpa using h2'
   have hσ' : σ[j]? = some (some v) := by
    cases e : σ[j]? with
    | none => rw [e] at hσ; cases hσ
    | some o =>
     rw [e] at hσ
     have : o = some v := hσ
     rw [this]
   obtain ⟨y, hy1, hy2, hy3⟩ := S.slot (i - nt) j ej
   have hii : nt + (i - nt) = i := by omega
   rw [hii] at hy1
   have exy : y = x := by
    have h1' : N'[i]? = some x := h1
    rw [h1'] at hy1
    exact (Option.some.inj hy1).symm
   subst exy
   have hmem : (y, NameKind.free) ∈ scope.names := PySem.mem_of_lookup hy3
   have hcellk : X.env.kindOf y = some .cell := S.frees (y, .free) hmem rfl
   obtain ⟨m0, hn0, hl0⟩ := I.loc
   obtain ⟨u, ru, lk⟩ := hl0 j y v hy2 hσ' (.inr (.inl hcellk))
   refine ⟨u, ru, .inr ⟨.inl (yY hy3 I.ok.kind hcellk), ?_⟩⟩
   rcases lk with ⟨k1, _⟩ | ⟨_, c, e, z⟩
   ·rw [hcellk] at k1; cases k1
   ·obtain ⟨a, ea⟩ := cl2 (y, .free) hmem rfl
    have ea' := cl1 y a ea
    rw [e] at ea'
    cases ea'
    obtain ⟨o, ho, hd⟩ := z
    exact ⟨c, ea, o, old _ _ ho, hd⟩
 ·obtain ⟨v, o, ho, hd⟩ := I.cell x c (cl1 x c hx)
  exact ⟨v, o, old _ _ ho, hd⟩
 ·have hp' : p ∈ X.pn ++ pins := by
   rcases List.mem_append.mp (show p ∈ (X.pn ++ pins) ++ [] from hp) with z | z
   ·exact z
   ·cases z
  obtain ⟨e, n, ne, nf, d⟩ := I.pin p hp'
  refine ⟨old _ _ e, n, hC _ _ e, fun z => ?_, d⟩
  rcases stkB p.1 z with z | z
  ·exact ne z
  ·exact nf z
 ·show (qy nt fr σ).length = N'.length
  unfold qy
  rw [List.length_append, List.length_replicate, List.length_map, S.len]
theorem qdz {pins : List (Addr × Obj)} {σ σ' : St} {H H' : Hp} {s s' : Shared} {h' : Heap} {fp : List Addr} {cl : List (Str × Addr)} (I : Inv X pins σ H s) (hfp : ∀ b ∈ fp, qbU X pins H b)
  (J : Inv (zl X scope N' fp cl s.heap.objs.size s H (X.pn ++ pins)) [] σ' H' s') (sb : Heap.SameBut s.heap.objs.size s'.heap h') : Inv X pins σ H' { s' with heap := h' } := by
 have hC : H' s.heap.objs.size = none := J.free
 have u := J.base
 have big : ∀ b o, s.heap.get? b = some o -> b ≠ s.heap.objs.size := fun b o e => Nat.ne_of_lt (Heap.lt_size e)
 have get' : ∀ b, b ≠ s.heap.objs.size -> h'.get? b = s'.heap.get? b := fun b hb => sb.2 b hb
 have u2 : Un (frs X.stack) fp H H' s.heap h' :=
  ⟨fun b o e n hb hx => (get' b (big b o e)).trans (u.keep b o e n hb hx), fun b o e n hb hx => by
   obtain ⟨sl, q⟩ := u.slot b o e n hb hx
   exact ⟨sl, (get' b (big b o e)).trans q⟩, u.free, fun b o e hx => by
   obtain ⟨o', q⟩ := u.there b o e hx
   exact ⟨o', (get' b (big b o e)).trans q⟩, u.tups, u.frzs, u.tbls⟩
 refine I.call' (s' := { s' with heap := h' }) (ch := fp) J.os u2 (fun b o e => ?_) J.bare (fun b hb => ?_)
 ·refine (J.hok b o e).stay (fun c v hc q => ?_) (fun _ q => q) fun _ _ q => q
  refine (get' c ?_).trans q
  rintro rfl
  rcases hc with hc | hc
  ·rw [<- hc, hC] at e; cases e
  ·rw [hC] at hc; cases hc
 ·obtain ⟨f0, f1, f2, f3, f4, f5⟩ := hfp b hb
  exact ⟨f3, f1, f4, f5⟩
theorem qfs (hc : X.calm = true) (hi : PI X tg iter wi) (S : jN X scope N' nt fr)
  (hs : ∀ x, foldedSetIterable iter X.env x = pure x := by intro _; rfl) : PE X (.ListComp elt [⟨tg, iter, ifs, 0⟩] scope pos) (qk5 X tg ifs elt scope N' wi nt fr) := by
 intro pins s σ H Q I hw
 obtain ⟨cl, hcl, cl1, cl2⟩ := vO (env := X.env) (scope := scope) (fun y hy hf => I.ok.has y.1 (.inl (S.frees y hy hf)))
 rw [eval_ListComp]
 refine wpAny_comprehension_free (use := none) rfl hs hcl S.kind S.names (thn (hi pins s σ H _ I hw) fun v s1 h1 => thn h1 fun itv s2 h2 => ?_)
 obtain ⟨it, fp, tn, J, H2, e, I2, T, st2, f2, hR⟩ := h2
 subst e
 have hacc : H2 s2.heap.objs.size = none := I2.hok.fresh (Nat.le_refl _)
 refine wpAny_newObj_type (wpAny_newFunctionEnv S.nocell (by intro y hy; simp at hy) (fun h₁ hns₁ hsb₁ => ?_) S.kind)
 dsimp only at hns₁ hsb₁ |-
 have I3 : Inv X pins σ (upd H2 s2.heap.objs.size (.lst [])) { s2 with heap := s2.heap.push { cls := .type "list", dict := none, data := .seq ([] : List Value).toArray } } :=
  I2.lnew (t' := s2.toks) (its := []) .nil (Nat.zero_le _)
 generalize hs3 : ({ s2 with heap := s2.heap.push { cls := .type "list", dict := none, data := .seq ([] : List Value).toArray } } : Shared) = s3 at I3
 have hh3 : s2.heap.push { cls := .type "list", dict := none, data := .seq ([] : List Value).toArray } = s3.heap := by rw [<- hs3]
 rw [hh3] at hns₁ hsb₁
 have old : ∀ b o, s3.heap.get? b = some o -> h₁.get? b = some o := fun b o q => hsb₁.extBut b o (Nat.ne_of_lt (Heap.lt_size q)) (Heap.get?_push_of_some _ q)
 have objs2 : ∀ b ∈ fp, ∃ o, s2.heap.get? b = some o := fun b hb => by
  obtain ⟨o, q, _⟩ := T.obj 0 _ st2 b hb
  exact ⟨o, q⟩
 have keep23 : ∀ b o, s2.heap.get? b = some o -> s3.heap.get? b = some o := fun b o q => by rw [<- hh3]; exact Heap.get?_push_of_some _ q
 have fpne : ∀ b ∈ fp, b ≠ s2.heap.objs.size := fun b hb => by
  obtain ⟨o, q⟩ := objs2 b hb
  exact Nat.ne_of_lt (Heap.lt_size q)
 have f3 : ∀ b ∈ fp, qbU X pins (upd H2 s2.heap.objs.size (.lst [])) b := fun b hb => ⟨by rw [qt (fpne b hb)]; exact (f2 b hb).1, (f2 b hb).2⟩
 have J0 : Inv (zl X scope N' fp cl s3.heap.objs.size s3 (upd H2 s2.heap.objs.size (.lst [])) (X.pn ++ pins)) [] (qy nt fr σ) (upd H2 s2.heap.objs.size (.lst [])) { s3 with heap := h₁, toks := s3.toks } :=
  qaX S I3 f3 (fun b hb => (objs2 b hb).imp fun o q => keep23 b o q) cl1 cl2 ⟨_, hns₁⟩ old
 obtain ⟨g, tt, te, hg, hf, he, W, ⟨m0, w0⟩, turn⟩ := hR s2.heap.objs.size fp cl s3.heap.objs.size s3 (upd H2 s2.heap.objs.size (.lst [])) (X.pn ++ pins) hacc
 have T0 : tn 0 h₁ := T.keep 0 _ _ st2 fun b hb o q => old b o (keep23 b o q)
 have s3e : ∀ tk : Nat, ({ s2 with heap := h₁, toks := tk } : Shared) = { s3 with heap := h₁, toks := tk } := fun tk => by rw [<- hs3]
 have loop : ∀ tk : Nat, codeAny (model X.prog X.w) X.A (.compLoop (.ListComp elt [⟨tg, iter, ifs, 0⟩] scope pos) 0 (.ref it) (.ref s2.heap.objs.size) (compEnvC scope cl s3.heap.objs.size X.env))
   (compPost (model X.prog X.w) X.A X.xe none (EP X pins σ Q) (.ref s2.heap.objs.size) s3.heap.objs.size) { s3 with heap := h₁, toks := tk } := fun tk => by
  have stat : ∀ {H' : Hp}, (∀ b ∈ fp, H' b = none) -> ∀ b ∈ fp, qbU (zl X scope N' fp cl s3.heap.objs.size s3 (upd H2 s2.heap.objs.size (.lst [])) (X.pn ++ pins)) [] H' b := fun {H'} hn b hb => by
   obtain ⟨o, q⟩ := objs2 b hb
   have hbC : b ≠ s3.heap.objs.size := Nat.ne_of_lt (Heap.lt_size (keep23 b o q))
   refine ⟨hn b hb, hbC, fun z => ?_, .inl hb, fun x c hx => (f2 b hb).2.2.2.2.1 x c (cl1 x c hx), fun p hp => ?_⟩
   ·rcases List.mem_cons.mp (I2.stkSub b z) with z | z
    ·exact (f2 b hb).2.1 z
    ·exact (f2 b hb).2.2.1 z
   ·have hp' : p ∈ X.pn ++ pins := by
     rcases List.mem_append.mp (show p ∈ (X.pn ++ pins) ++ [] from hp) with z | z
     ·exact z
     ·cases z
    exact (f2 b hb).2.2.2.2.2 p hp'
  have fr0 : ∀ b ∈ fp, upd H2 s2.heap.objs.size (.lst []) b = none := fun b hb => (f3 b hb).1
  refine qan (fun n s' => ∃ i σ' H', Inv (zl X scope N' fp cl s3.heap.objs.size s3 (upd H2 s2.heap.objs.size (.lst [])) (X.pn ++ pins)) [] σ' H' s' /\ tn i s'.heap /\ (∀ b ∈ fp, H' b = none) /\ W i n σ' H') ?_ m0
   ⟨0, qy nt fr σ, _, J0.tok tk, T0, fr0, w0⟩
  rintro n s4 ⟨i, σ4, H4, J4, st4, fr4, w4⟩
  rcases turn i n σ4 H4 w4 with ⟨stop, qn⟩ | ⟨go, step⟩
  ·refine thn (T.done (zl X scope N' fp cl s3.heap.objs.size s3 (upd H2 s2.heap.objs.size (.lst [])) (X.pn ++ pins)) rfl rfl rfl hc i [] s4 σ4 H4 _ J4 (stat fr4) st4 stop) fun r s5 ⟨hr, J5⟩ => ?_
   subst hr
   obtain ⟨m5, n5, _⟩ := J5.loc
   refine ⟨m5, n5, fun h' sb => ⟨.ref s2.heap.objs.size, H4, qdz I3 f3 J5 sb, rfl, qn⟩⟩
  ·refine thn (T.item (zl X scope N' fp cl s3.heap.objs.size s3 (upd H2 s2.heap.objs.size (.lst [])) (X.pn ++ pins)) rfl rfl rfl hc i [] s4 σ4 H4 _ J4 (stat fr4) st4 go) fun r s5 ⟨u, hr, h5⟩ => ?_
   subst hr
   refine thn h5 fun _ s6 ⟨x, H6, J6, r6, y6, st6, fr6⟩ => ?_
   have J6' := J6.pinned (stat fr6) (T.obj _ _ st6)
   have again : ∀ {σ7 : St} {H7 : Hp} {s7 : Shared}, Inv (zl X scope N' fp cl s3.heap.objs.size s3 (upd H2 s2.heap.objs.size (.lst [])) (X.pn ++ pins)) ([] ++ qaU fp s6.heap) σ7 H7 s7 -> (∃ m', m' < n /\ W (i + 1) m' σ7 H7) ->
     ∃ m, m < n /\ ∃ i σ' H', Inv (zl X scope N' fp cl s3.heap.objs.size s3 (upd H2 s2.heap.objs.size (.lst [])) (X.pn ++ pins)) [] σ' H' s7 /\ tn i s7.heap /\ (∀ b ∈ fp, H' b = none) /\ W i m σ' H' := fun {σ7 H7 s7} I7 hm => by
    obtain ⟨m', hm, w7⟩ := hm
    refine ⟨m', hm, i + 1, σ7, H7, I7.unpinned, T.keep _ _ _ st6 fun b hb o q => (I7.pin (b, o) (List.mem_append_right _ (List.mem_append_right _ (yQ hb q)))).1, fun b hb => ?_, w7⟩
    obtain ⟨o, q, d⟩ := T.obj _ _ st6 b hb
    exact (I7.pin (b, o) (List.mem_append_right _ (List.mem_append_right _ (yQ hb q)))).2.1
   refine thn (hg _ s6 σ4 H6 x u _ J6' r6 (step x H6 y6)) fun _ s7 ⟨σ7, H7, J7, q7⟩ => ?_
   refine thn (hf _ s7 σ7 H7 _ J7 q7) fun ok s8 ⟨H8, J8, q8⟩ => ?_
   cases ok with
   | false =>
    rw [if_neg Bool.false_ne_true] at q8 |-
    exact again J8 q8
   | true =>
    rw [if_pos rfl] at q8 |-
    refine thn (he _ s8 σ7 H8 _ J8 q8) fun z s9 ⟨y, H9, J9, r9, ys, hys, hz, hm⟩ => ?_
    refine thn (qah _ s9 σ7 H9 (.ref s2.heap.objs.size) [y] (.ref s2.heap.objs.size) [z] (fun _ H' => H' = upd H9 s2.heap.objs.size (.lst (ys ++ [y]))) J9 rfl (.cons r9 .nil) ⟨_, ys, y, rfl, rfl, hys, hz, rfl⟩) fun _ s10 ⟨_, H10, J10, _, e10⟩ => ?_
    subst e10
    exact again J10 hm
 have zY : ∀ tk : Nat, codeAny (model X.prog X.w) X.A (.compStart (.ListComp elt [⟨tg, iter, ifs, 0⟩] scope pos) 0 (.ref it) (.ref s2.heap.objs.size) (compEnvC scope cl s3.heap.objs.size X.env))
   (compPost (model X.prog X.w) X.A X.xe none (EP X pins σ Q) (.ref s2.heap.objs.size) s3.heap.objs.size) { s3 with heap := h₁, toks := tk } := fun tk =>
  codeAny_compStart_list (loop tk) (T.self X.A 0 _ _ _ T0 (loop tk))
 have fin := zY (s2.toks + ([] : List (Str × Value)).length)
 rw [<- s3e] at fin
 rw [<- hh3] at fin
 rw [hh3] at fin |-
 exact fin
end
end L2.Sk
namespace L2.Sk
open PySem PySem.Spec PyProof.Rows
structure qft (K : Fr0) (A : Addr -> Prop) (H : Hp) (ds : List D) (J : It) : Prop where
 go : ∀ H' i d, Ext A H H' -> ds[i]? = some d -> J.go i H'
 yl : ∀ H' i d x H'', Ext A H H' -> ds[i]? = some d -> J.yld i H' x H'' -> jK H' H'' /\ Is K A H'' d x
 stop : ∀ H', Ext A H H' -> J.stop ds.length H'
def CnT (c : Fc) (σ : St) (H : Hp) (a : Addr) : Prop := Cn c σ a /\ (H a).isSome = true
def WpI (K : Fr0) (c : Fc) (σ : St) (H : Hp) (Q : It -> Hp -> Prop) : R (List D × Env) -> Prop
 | .ok (ds, ρ) => ∀ J H', Rep K c ρ σ H' -> qft K (CnT c σ H') H' ds J -> Gr c.O σ H H' -> Q J H'
 | .exc x ρ => ∀ H', Rep K c ρ σ H' -> Gr c.O σ H H' -> c.E x H'
 | .bad => False
def DI (X : Cx) (c : Fc) (tg it : Expr) (f : M (List D)) : Prop := ∃ w, PI X tg it w /\ ∀ ρ σ H Q, Rep X.K c ρ σ H -> WpI X.K c σ H Q (f ρ) -> w σ H Q
section
variable {X : Cx} {c : Fc} {tg a b e : Expr} {pos : Pos}
def qn9 (K : Fr0) (tl : TE) : TI := fun σ H R => tl σ H fun x H1 => (∃ a, x = .ref a /\ (∃ xs, SqL K H1 a xs) /\ R (Itl K a) H1) \/ (∃ a, x = .ref a /\ (∃ xs, SqT K H1 a xs) /\ R (Itt K a) H1)
theorem qk6 {tl : TE} (hl : PE X e tl) : PI X tg e (qn9 X.K tl) := by
 intro pins s σ H R I h
 refine thn (hl pins s σ H _ I h) fun v s1 ⟨x, H1, I1, r1, q1⟩ => ?_
 rcases q1 with ⟨a, e, ⟨xs, hq⟩, q⟩ | ⟨a, e, ⟨xs, hq⟩, q⟩
 ·subst e
  cases r1
  obtain ⟨its, rv, p, hz⟩ := I1.list hq
  refine wpAny_pyIter_list p.isList ?_
  refine ⟨s1.heap.objs.size, [s1.heap.objs.size], _, _, H1, rfl, I1.kept (t' := s1.toks) fun b o e => Heap.get?_push_of_some _ e, qe0 a _, ⟨_, Heap.get?_push_size _ rfl, rfl, rfl⟩, fun b hb => ?_, q⟩
  have e : b = s1.heap.objs.size := by simpa using hb
  subst e
  exact I1.fpOk (Nat.le_refl _) (I1.hok.fresh (Nat.le_refl _))
 ·subst e
  cases r1
  obtain ⟨its, rv, p, hz⟩ := I1.tuple hq
  refine wpAny_pyIter_tuple (show s1.heap.IsTuple a its.toArray from p) ?_
  refine ⟨s1.heap.objs.size, [s1.heap.objs.size], _, _, H1, rfl, I1.kept (t' := s1.toks) fun b o e => Heap.get?_push_of_some _ e, qef a _, ⟨_, Heap.get?_push_size _ rfl, rfl, rfl⟩, fun b hb => ?_, q⟩
  have e : b = s1.heap.objs.size := by simpa using hb
  subst e
  exact I1.fpOk (Nat.le_refl _) (I1.hok.fresh (Nat.le_refl _))
def qk7 : D -> Option (List D)
 | .tup ds => some ds
 | .lst ds => some ds
 | .fz ns => some (ns.map .int)
 | _ => none
theorem SqL.inj {K : Fr0} {H : Hp} {a : Addr} {xs ys : List V} (h : H a = some (.lst xs)) (q : SqL K H a ys) (hk : ∀ o, K.lookup a = some o -> False) : ys = xs := by
 rcases q with (q | ⟨o, q⟩) | ⟨o, _, _, q, _⟩
 ·rw [h] at q; cases q; rfl
 ·rw [h] at q; cases q
 ·exact (hk o q).elim
theorem w5 {K : Fr0} {A : Addr -> Prop} {H : Hp} : ∀ ns : List Int, IsL K A H (ns.map .int) (ns.map V.int)
 | [] => rfl
 | n :: ns => ⟨.int n, ns.map V.int, rfl, rfl, w5 ns⟩
theorem qfu {K : Fr0} {A : Addr -> Prop} {H : Hp} {ds : List D} {xs : List V} {a : Addr} (hs : ∀ H', Ext A H H' -> SqL K H' a xs) (il : IsL K A H ds xs) : qft K A H ds (Itl K a) where
 go := fun H' i d ex hd => by
  obtain ⟨x, h1, h2⟩ := il.get hd
  exact ⟨xs, x, hs H' ex, h1⟩
 yl := fun H' i d x H'' ex hd y => by
  obtain ⟨e, y⟩ := y
  subst e
  obtain ⟨x', h1, h2⟩ := il.get hd
  have h3 := y xs (hs _ ex)
  rw [h1] at h3
  cases h3
  exact ⟨jK.refl _, Is.ext ex (fun _ h _ => h) h2⟩
 stop := fun H' ex => ⟨xs, hs H' ex, by rw [il.length]; exact Nat.le_refl _⟩
theorem qk8 {K : Fr0} {A : Addr -> Prop} {H : Hp} {ds : List D} {xs : List V} {a : Addr} (hs : vE K H a xs) (il : IsL K A H ds xs) : qft K A H ds (Itt K a) where
 go := fun H' i d ex hd => by
  obtain ⟨x, h1, h2⟩ := il.get hd
  exact ⟨xs, x, (hs.elim (fun h => .inl (ex.tup _ _ h)) .inr : vE K H' a xs).sq, h1⟩
 yl := fun H' i d x H'' ex hd y => by
  obtain ⟨e, y⟩ := y
  subst e
  obtain ⟨x', h1, h2⟩ := il.get hd
  have h3 := y xs (hs.elim (fun h => .inl (ex.tup _ _ h)) .inr : vE K _ a xs).sq
  rw [h1] at h3
  cases h3
  exact ⟨jK.refl _, Is.ext ex (fun _ h _ => h) h2⟩
 stop := fun H' ex => ⟨xs, (hs.elim (fun h => .inl (ex.tup _ _ h)) .inr : vE K H' a xs).sq, by rw [il.length]; exact Nat.le_refl _⟩
def qaO (f : M D) : M (List D) := bnd f fun d => lift (qk7 d)
theorem uz {K : Fr0} {σ : St} {H : Hp} {Q : It -> Hp -> Prop} {o : Option (List D)} {ρ : Env} (h : WpI K c σ H Q (lift o ρ)) : ∃ ds, o = some ds /\ ∀ J H', Rep K c ρ σ H' -> qft K (CnT c σ H') H' ds J -> Gr c.O σ H H' -> Q J H' := by
 cases o with
 | none => exact h.elim
 | some d => exact ⟨d, rfl, h⟩
theorem WpI.gr {K : Fr0} {σ : St} {H H1 : Hp} {Q : It -> Hp -> Prop} : ∀ {r : R (List D × Env)}, WpI K c σ H Q r -> Gr c.O σ H H1 -> WpI K c σ H1 Q r
 | .ok (d, ρ), h, g => fun v H' hr hi hg => h v H' hr hi (g.trans hg)
 | .exc x ρ, h, g => fun H' hr hg => h H' hr (g.trans hg)
 | .bad, h, _ => h
theorem Wp.bndI {K : Fr0} {σ : St} {H : Hp} {Q : It -> Hp -> Prop} {f : M D} {k : D -> M (List D)} {ρ : Env} {Q' : VK} (h : WpI K c σ H Q (Sk.bnd f k ρ)) (hQ : ∀ d ρ' v H', Rep K c ρ' σ H' -> Is K (Cn c σ) H' d v -> Gr c.O σ H H' -> WpI K c σ H' Q (k d ρ') -> Q' v H') : Wp K c σ H Q' (f ρ) := by
 unfold Sk.bnd at h
 cases e : f ρ with
 | ok p => rw [e] at h; exact fun v H' hr hi hg => hQ p.1 p.2 v H' hr hi hg (h.gr hg)
 | exc x ρ' => rw [e] at h; exact h
 | bad => rw [e] at h; exact h
theorem WpL.bndI {K : Fr0} {σ : St} {H : Hp} {Q : It -> Hp -> Prop} {f : M (List D)} {k : List D -> M (List D)} {ρ : Env} {Q' : List V -> Hp -> Prop} (h : WpI K c σ H Q (Sk.bnd f k ρ)) (hQ : ∀ d ρ' v H', Rep K c ρ' σ H' -> IsL K (Cn c σ) H' d v -> Gr c.O σ H H' -> WpI K c σ H' Q (k d ρ') -> Q' v H') : WpL K c σ H Q' (f ρ) := by
 unfold Sk.bnd at h
 cases e : f ρ with
 | ok p => rw [e] at h; exact fun v H' hr hi hg => hQ p.1 p.2 v H' hr hi hg (h.gr hg)
 | exc x ρ' => rw [e] at h; exact h
 | bad => rw [e] at h; exact h
theorem Is.tr {K : Fr0} {A : Addr -> Prop} {H : Hp} {d : D} {v : V} (h : Is K A H d v) : Is K (fun a => A a /\ (H a).isSome = true) H d v := Is.ext Ext.refl (fun a h1 h2 => ⟨h1, h2⟩) h
theorem uM {f : M D} (h : DE X c e f) : DI X c tg e (qaO f) := by
 obtain ⟨t, p, w⟩ := h
 refine ⟨_, qk6 p, fun ρ σ H Q r h => w ρ σ H _ r (Wp.bndI h fun d ρ1 v H1 r1 i1 g1 h1 => ?_)⟩
 obtain ⟨ds, e, h2⟩ := uz h1
 have i2 : Is X.K (CnT c σ H1) H1 d v := i1.tr
 cases d <;> simp only [qk7] at e <;> try (cases e; done)
 ·cases e
  obtain ⟨a, xs, rfl, ta, il⟩ := i2
  exact .inr ⟨a, rfl, ⟨xs, ta.sq⟩, h2 _ H1 r1 (qk8 ta il) .refl⟩
 ·cases e
  obtain ⟨a, xs, rfl, hA, ta, il⟩ := i2
  exact .inl ⟨a, rfl, ⟨xs, .inl (.inl ta)⟩, h2 _ H1 r1 (qfu (fun H' ex => .inl (.inl (ex.at_ _ _ hA ta))) il) .refl⟩
 ·cases e
  obtain ⟨a, rfl, ta⟩ := i2
  exact .inl ⟨a, rfl, ⟨_, ta.sq⟩, h2 _ H1 r1 (qfu (fun H' ex => (ta.elim (fun ⟨o, h⟩ => .inl ⟨o, ex.frz _ _ _ h⟩) .inr : qkS X.K H' a _).sq) (w5 _)) .refl⟩
def qbT (lo : Int) (n : Nat) : List D := (List.range n).map fun i => .int (lo + (i : Nat))
theorem qfv {K : Fr0} {A : Addr -> Prop} {H : Hp} (lo : Int) (n : Nat) : qft K A H (qbT lo n) (Itr lo n) where
 go := fun H' i d ex hd => by
  have : i < (qbT lo n).length := (List.getElem?_eq_some_iff.mp hd).1
  show i < n
  simpa [qbT] using this
 yl := fun H' i d x H'' ex hd y => by
  obtain ⟨e, y⟩ := y
  subst e
  subst y
  refine ⟨jK.refl _, ?_⟩
  unfold qbT at hd
  rw [List.getElem?_map] at hd
  cases e2 : (List.range n)[i]? with
  | none => rw [e2] at hd; cases hd
  | some j =>
   rw [e2] at hd
   have hj : j = i := by
    have := (List.getElem?_eq_some_iff.mp e2).2
    simpa using this.symm
   subst hj
   cases hd
   rfl
 stop := fun H' ex => by show n <= (qbT lo n).length; simp [qbT]
def qhd : List D -> Option (List D)
 | [.int j] => if decide (-(2 ^ 62) <= j) && decide (j < 2 ^ 62) then some (qbT 0 j.toNat) else none
 | _ => none
def zC (f : M (List D)) : M (List D) := bnd f fun ds => lift (qhd ds)
theorem zZ {f : M (List D)} {p : Pos} (hg : Gl X "range") (hm : X.mg "range" = none) (ha : DA X c [a] f) (hs : starEach [a] X.env = [(false, eval a X.env)] := by rfl) : DI X c tg (.Call (.Name "range" p) [a] [] pos) (zC f) := by
 obtain ⟨t, p, w⟩ := ha
 refine ⟨_, qe1 hg hm p hs, fun ρ σ H Q r h => w ρ σ H _ r (WpL.bndI h fun ds ρ1 vs H1 r1 i1 g1 h1 => ?_)⟩
 obtain ⟨es, e, h2⟩ := uz h1
 unfold qhd at e
 split at e
 ·rename_i j
  obtain ⟨v, rfl, e2⟩ := IsL.inv1 i1
  cases e2
  by_cases hb : (decide (-(2 ^ 62) <= j) && decide (j < 2 ^ 62)) = true
  ·rw [if_pos hb] at e
   cases e
   rw [Bool.and_eq_true] at hb
   exact ⟨j, rfl, of_decide_eq_true hb.1, of_decide_eq_true hb.2, h2 _ H1 r1 (qfv 0 _) .refl⟩
  ·rw [if_neg hb] at e
   cases e
 ·cases e
def uA (g : D -> Env -> Option Env) (b : MS) : List D -> MS
 | [], ρ => .ok (.nx ρ)
 | d :: ds, ρ => match g d ρ with
  | none => .bad
  | some ρ1 => match b ρ1 with
   | .ok (.nx ρ2) => uA g b ds ρ2
   | .ok (.ct ρ2) => uA g b ds ρ2
   | .ok (.bk ρ2) => .ok (.nx ρ2)
   | .ok (.rt r ρ2) => .ok (.rt r ρ2)
   | .exc x ρ2 => .exc x ρ2
   | .bad => .bad
def qen (f : M (List D)) (g : D -> Env -> Option Env) (b : MS) : MS := sbnd f fun ds => uA g b ds
theorem WpI.sbnd {K : Fr0} {σ : St} {H : Hp} {D' : qeR} {f : M (List D)} {k : List D -> MS} {ρ : Env} {Q' : It -> Hp -> Prop} (h : WpS K c σ H D' (Sk.sbnd f k ρ))
  (hQ : ∀ ds ρ' J H', Rep K c ρ' σ H' -> qft K (CnT c σ H') H' ds J -> Gr c.O σ H H' -> WpS K c σ H' D' (k ds ρ') -> Q' J H') : WpI K c σ H Q' (f ρ) := by
 unfold Sk.sbnd at h
 cases e : f ρ with
 | ok p => rw [e] at h; exact fun v H' hr hi hg => hQ p.1 p.2 v H' hr hi hg (h.gr hg.s)
 | exc x ρ' => rw [e] at h; exact fun H' hr hg => h σ H' hr hg.s
 | bad => rw [e] at h; exact h
theorem GrS.extT {σ σ' : St} {H H' : Hp} (g : GrS c.O σ H σ' H') : Ext (CnT c σ H) H H' := ⟨g.ext.tup, g.ext.frz, fun b o hb h => g.ext.at_ b o hb.1.2 h⟩
theorem GrS.cnT {σ σ' : St} {H H' : Hp} (g : GrS c.O σ H σ' H') {a : Addr} (h : CnT c σ H a) : Cn c σ' a := ⟨h.1.1, g.cl a h.1.2 h.2⟩
theorem vd {α : Type} {l : List α} {i : Nat} (h : i < l.length) : l.drop i = l[i] :: l.drop (i + 1) := List.drop_eq_getElem_cons h
theorem vP {it : Expr} {body : List Stmt} {f : M (List D)} {g : D -> Env -> Option Env} {b : MS} (hp : PassesOwn (model X.prog X.w) X.A X.env X.xe) (hc : X.calm = true) (hi : DI X c tg it f) (hg : DG X c tg g) (hb : DSs X c body b)
  (hs : ∀ x, foldedSetIterable it X.env x = pure x := by intro _; rfl) : DS X c (.For tg it body [] pos) (qen f g b) := by
 obtain ⟨wi, pi, wI⟩ := hi
 obtain ⟨tg', pg, wg⟩ := hg
 obtain ⟨tb, pb, wb⟩ := hb
 refine ⟨_, qkx hp hc pi pg pb hs, fun ρ σ H D' r h => wI ρ σ H _ r (WpI.sbnd h fun ds ρ1 J H1 r1 iok g1 h1 => ?_)⟩
 refine ⟨fun i m σ' H' => m = ds.length - i /\ i <= ds.length /\ ∃ ρ', Rep X.K c ρ' σ' H' /\ GrS c.O σ H1 σ' H' /\ WpS X.K c σ' H' D' (uA g b (ds.drop i) ρ'), ⟨ds.length, by simp, Nat.zero_le _, ρ1, r1, .refl, by simpa using h1⟩, ?_⟩
 rintro i m σ' H' ⟨rfl, hi, ρ', r', gs, w⟩
 by_cases hlt : i < ds.length
 ·refine .inr ⟨iok.go H' i ds[i] gs.extT (by simp [hlt]), fun σ2 H2 => ∃ ρ2, Rep X.K c ρ2 σ2 H2 /\ GrS c.O σ H1 σ2 H2 /\ WpS X.K c σ2 H2 D' (uA g b (ds.drop (i + 1)) ρ2), fun σ2 H2 n => ⟨ds.length - (i + 1), by omega, rfl, hlt, n⟩, fun x H'' y => ?_⟩
  obtain ⟨sm, ix⟩ := iok.yl H' i ds[i] x H'' gs.extT (by simp [hlt]) y
  rw [vd hlt] at w
  unfold uA at w
  have gs2 : GrS c.O σ H1 σ' H'' := gs.trans (Gr.of_same sm).s
  have ix2 : Is X.K (Cn c σ') H'' ds[i] x := Is.ext Ext.refl (fun a ha _ => gs2.cnT ha) ix
  cases e1 : g ds[i] ρ' with
  | none => simp only [e1] at w; exact w.elim
  | some ρ2 =>
   simp only [e1] at w
   refine wg ρ' σ' H'' ds[i] x ρ2 _ (r'.same sm) ix2 e1 fun σ2 r2 g2 _ => wb ρ2 σ2 H'' _ r2 ?_
   have w2 := w.gr ((Gr.of_same sm).s.trans g2)
   have gs3 : GrS c.O σ H1 σ2 H'' := gs2.trans g2
   cases e2 : b ρ2 with
   | ok fl =>
    cases fl with
    | nx ρ3 => simp only [e2] at w2; exact fun σ3 H3 r3 g3 => ⟨ρ3, r3, gs3.trans g3, w2.gr g3⟩
    | ct ρ3 => simp only [e2] at w2; exact fun σ3 H3 r3 g3 => ⟨ρ3, r3, gs3.trans g3, w2.gr g3⟩
    | bk ρ3 => simp only [e2] at w2; exact w2
    | rt d ρ3 => simp only [e2] at w2; exact w2
   | exc x ρ3 => simp only [e2] at w2; exact w2
   | bad => simp only [e2] at w2; exact w2
 ·have hie : i = ds.length := by omega
  subst hie
  rw [List.drop_of_length_le (Nat.le_refl _)] at w
  exact .inl ⟨iok.stop H' gs.extT, w σ' H' r' .refl⟩
end
def cin (B0 : Addr -> Prop) (H1 : Hp) (O' : List Nat) (Io' : Addr -> Prop) (acc : Addr) (S' : Nat -> Option (Option V)) : Fc where
 O := O'
 P := O'
 B := fun a => B0 a /\ a ≠ acc
 H0 := upd H1 acc (.lst [])
 Io := fun a => Io' a \/ a = acc
 E := fun _ _ => False
 S := S'
def zt (g : D -> Env -> Option Env) (t : M Bool) (e : M D) : List D -> List D -> Env -> R (List D × Env)
 | [], acc, ρ => .ok (acc, ρ)
 | d :: ds, acc, ρ => match g d ρ with
  | none => .bad
  | some ρ1 => match t ρ1 with
   | .ok (true, ρ2) => match e ρ2 with
    | .ok (y, ρ3) => if qI (acc.length + 1) then zt g t e ds (acc ++ [y]) ρ3 else .bad
    | _ => .bad
   | .ok (false, ρ2) => zt g t e ds acc ρ2
   | _ => .bad
def z0 (nt : Nat) (fr : List Nat) (ρ : Env) : Env := List.replicate nt none ++ fr.map fun j => (ρ[j]?).join
def qhe (fo : Option (Nat × Nat)) (ρe ρ : Env) : Env := match fo with
 | none => ρ
 | some (i, j) => ρ.set j (ρe[i]?).join
def qV (nt : Nat) (fr : List Nat) (fo : Option (Nat × Nat)) (f : M (List D)) (g : D -> Env -> Option Env) (t : M Bool) (e : M D) : M D := bnd f fun ds ρ => match zt g t e ds [] (z0 nt fr ρ) with
 | .ok (ys, ρe) => .ok (.lst ys, qhe fo ρe ρ)
 | _ => .bad
def DF (X : Cx) (c : Fc) (ifs : List Expr) (f : M Bool) : Prop := ∃ t, PF X ifs t /\ ∀ ρ σ H Q, Rep X.K c ρ σ H -> WpB X.K c σ H Q (f ρ) -> t σ H Q
def foO (fo : Option (Nat × Nat)) : List Nat := match fo with
 | none => []
 | some (i, _) => [i]
section
variable {X : Cx} {c : Fc} {tg a b e : Expr} {pos : Pos}
theorem yF : DF X c [] (ret true) := ⟨_, qk3, fun ρ σ H Q r h => h H r .refl⟩
theorem qcd {f : M Bool} (h : DT X c e f) : DF X c [e] f := by
 obtain ⟨t, p, w⟩ := h
 exact ⟨_, qk4 p, w⟩
theorem WpI.bnd {K : Fr0} {σ : St} {H : Hp} {Q : VK} {f : M (List D)} {k : List D -> M D} {ρ : Env} {Q' : It -> Hp -> Prop} (h : Wp K c σ H Q (Sk.bnd f k ρ))
  (hQ : ∀ ds ρ' J H', Rep K c ρ' σ H' -> qft K (CnT c σ H') H' ds J -> Gr c.O σ H H' -> Wp K c σ H' Q (k ds ρ') -> Q' J H') : WpI K c σ H Q' (f ρ) := by
 unfold Sk.bnd at h
 cases e : f ρ with
 | ok p => rw [e] at h; exact fun v H' hr hi hg => hQ p.1 p.2 v H' hr hi hg (h.gr hg)
 | exc x ρ' => rw [e] at h; exact h
 | bad => rw [e] at h; exact h
theorem Rep.grow {K : Fr0} {B0 : Addr -> Prop} {H1 : Hp} {O' : List Nat} {Io' : Addr -> Prop} {acc : Addr} {S' : Nat -> Option (Option V)} {ρ : Env} {σ : St} {H : Hp} {xs ys : List V} (r : Rep K (cin B0 H1 O' Io' acc S') ρ σ H) (h : H acc = some (.lst xs)) (ho : ∀ j ∈ O', σ[j]? ≠ some (some (.ref acc))) :
  Rep K (cin B0 H1 O' Io' acc S') ρ σ (upd H acc (.lst ys)) := by
 have ext : Ext (fun a => a ≠ acc) H (upd H acc (.lst ys)) := ⟨fun b zs hb => by rw [qt (vm hb h (by intro z; cases z))]; exact hb, fun b o u hb => by rw [qt (vm hb h (by intro z; cases z))]; exact hb, fun b o hb hq => by rw [qt hb]; exact hq⟩
 have cnext : Ext (Cn (cin B0 H1 O' Io' acc S') σ) H (upd H acc (.lst ys)) := ⟨ext.tup, ext.frz, fun b o hb hq => ext.at_ b o hb.1.2 hq⟩
 refine ⟨r.len, fun i d hd => ?_, fun j hj v hv => ?_, r.inj, r.b0, fun b o hb hio => ?_, fun b hb => ?_, r.pO, r.ps⟩
 ·obtain ⟨v, h1, h2⟩ := r.val i d hd
  refine ⟨v, h1, ?_⟩
  rcases h2 with ⟨hi, ds, a, zs, h3, h5, h6, h7⟩ | ⟨hi, h3⟩
  ·subst h5
   have ne : a ≠ acc := fun e => ho i hi (by rw [h1, e])
   exact .inl ⟨hi, ds, a, zs, h3, rfl, by rw [qt ne]; exact h6, IsL.ext cnext (fun _ h _ => h) h7⟩
  ·exact .inr ⟨hi, Is.ext cnext (fun _ h _ => h) h3⟩
 ·obtain ⟨a, zs, h1, h2, h3⟩ := r.own j hj v hv
  subst h1
  have ne : a ≠ acc := fun e => ho j hj (by rw [hv, e])
  exact ⟨a, zs, rfl, by rw [qt ne]; exact h2, h3⟩
 ·have ne : b ≠ acc := fun e => hio (.inr e)
  rw [qt ne]
  exact r.kp b o hb hio
 ·by_cases e : b = acc
  ·subst e; rw [qv] at hb; cases hb
  ·rw [qt e] at hb; exact r.dm b hb
theorem vQ {α : Type} {o : Option (Option α)} {a : α} (h : o.join = some a) : o = some (some a) := by
 cases o with
 | none => cases h
 | some x => have : x = some a := h; rw [this]
def qhf (c : Fc) (nt : Nat) (fr : List Nat) (fo : Option (Nat × Nat)) : Prop := match fo with
 | none => ∀ j ∈ fr, j ∉ c.O
 | some (i, j) => j ∈ c.O /\ nt <= i /\ fr[i - nt]? = some j /\ ∀ k j', fr[k]? = some j' -> nt + k ≠ i -> j' ∉ c.O
def w6 (σ : St) (fo : Option (Nat × Nat)) (a : Addr) : Prop := match fo with
 | none => False
 | some (_, j) => σ[j]? = some (some (.ref a))
theorem wz {nt : Nat} {fr : List Nat} {σ : St} {k j : Nat} (h : fr[k]? = some j) : (qy nt fr σ)[nt + k]? = some (σ[j]?).join := by
 unfold qy
 rw [List.getElem?_append_right (by simp), List.length_replicate, List.getElem?_map, show nt + k - nt = k by omega, h]
 rfl
theorem qeo {nt : Nat} {fr : List Nat} {ρ : Env} {i : Nat} {d : D} (hd : (z0 nt fr ρ)[i]? = some (some d)) : ∃ k j, i = nt + k /\ fr[k]? = some j /\ ρ[j]? = some (some d) := by
 have hi : nt <= i := by
  apply Nat.le_of_not_lt
  intro hlt
  unfold z0 at hd
  rw [List.getElem?_append_left (by simpa using hlt), List.getElem?_replicate] at hd
  split at hd <;> cases hd
 unfold z0 at hd
 rw [List.getElem?_append_right (by simpa using hi), List.length_replicate, List.getElem?_map] at hd
 cases ej : fr[i - nt]? with
 | none => rw [ej] at hd; cases hd
 | some j =>
  rw [ej] at hd
  exact ⟨i - nt, j, by omega, ej, vQ (by simpa using hd)⟩
theorem jG {nt : Nat} {fr : List Nat} {σ : St} {i : Nat} {d : V} (hd : (qy nt fr σ)[i]? = some (some d)) : ∃ k j, i = nt + k /\ fr[k]? = some j /\ σ[j]? = some (some d) := by
 have hi : nt <= i := by
  apply Nat.le_of_not_lt
  intro hlt
  unfold qy at hd
  rw [List.getElem?_append_left (by simpa using hlt), List.getElem?_replicate] at hd
  split at hd <;> cases hd
 unfold qy at hd
 rw [List.getElem?_append_right (by simpa using hi), List.length_replicate, List.getElem?_map] at hd
 cases ej : fr[i - nt]? with
 | none => rw [ej] at hd; cases hd
 | some j =>
  rw [ej] at hd
  exact ⟨i - nt, j, by omega, ej, vQ (by simpa using hd)⟩
theorem Rep.entry {K : Fr0} {nt : Nat} {fr : List Nat} {fo : Option (Nat × Nat)} {acc : Addr} {ρ : Env} {σ : St} {H : Hp} (r : Rep K c ρ σ H) (hn : H acc = none) (hfo : qhf c nt fr fo) :
  Rep K (cin (Cn c σ) H (foO fo) (w6 σ fo) acc fun j => (qy nt fr σ)[j]?) (z0 nt fr ρ) (qy nt fr σ) (upd H acc (.lst [])) := by
 have sm : jK H (upd H acc (.lst [])) := qz hn _
 have ownI : ∀ i ∈ foO fo, ∀ v, (qy nt fr σ)[i]? = some (some v) -> ∃ j, fo = some (i, j) /\ j ∈ c.O /\ σ[j]? = some (some v) := fun i hi v hv => by
  cases fo with
  | none => cases hi
  | some p =>
   obtain ⟨i', j'⟩ := p
   have e : i = i' := by simpa [foO] using hi
   subst e
   obtain ⟨h1, h2, h3, h4⟩ := hfo
   obtain ⟨k, j, e1, e2, e3⟩ := jG hv
   have hk : k = i - nt := by omega
   subst hk
   rw [h3] at e2
   cases e2
   exact ⟨j', rfl, h1, e3⟩
 have clI : ∀ a, Cl c.O σ a -> Cl (foO fo) (qy nt fr σ) a := fun a ha i hi e => by
  obtain ⟨j, _, hj, e2⟩ := ownI i hi _ e
  exact ha j hj e2
 refine ⟨by simp [z0, qy], fun i d hd => ?_, fun i hi v hv => ?_, fun i j a hi hj h1 h2 => ?_, fun a ha => ?_, fun b o hb hio => ?_, fun b hb => ?_, fun _ h => h, fun _ _ => rfl⟩
 ·obtain ⟨k, j, e1, e2, e3⟩ := qeo hd
  subst e1
  by_cases hO : nt + k ∈ foO fo
  ·obtain ⟨v, hv⟩ : ∃ v, σ[j]? = some (some v) := by
    obtain ⟨v, h1, _⟩ := r.val j d e3
    exact ⟨v, h1⟩
   have hc : (qy nt fr σ)[nt + k]? = some (some v) := by rw [wz e2, hv]; rfl
   obtain ⟨j', f1, f2, f3⟩ := ownI _ hO v hc
   subst f1
   obtain ⟨g1, g2, g3, g4⟩ := hfo
   rw [show nt + k - nt = k by omega, e2] at g3
   cases g3
   obtain ⟨ds, a, xs, h1, h3, h4, h5⟩ := r.getO g1 e3
   rw [hv] at h3
   cases h3
   exact ⟨.ref a, hc, .inl ⟨hO, ds, a, xs, h1, rfl, sm _ _ h4, IsL.ext (Ext.of_same sm) (fun b hb hs => ⟨⟨hb, fun e => by subst e; rw [hn] at hs; cases hs⟩, clI b hb.2⟩) h5⟩⟩
  ·have hj : j ∉ c.O := by
    cases fo with
    | none => exact hfo j (List.mem_of_getElem? e2)
    | some p =>
     obtain ⟨i', j'⟩ := p
     exact hfo.2.2.2 k j e2 (fun e => hO (by simp [foO, e]))
   obtain ⟨v, h1, h2⟩ := r.get hj e3
   refine ⟨v, by rw [wz e2, h1]; rfl, .inr ⟨hO, ?_⟩⟩
   refine Is.ext (Ext.of_same sm) (fun a ha hs => ⟨⟨ha, fun e => ?_⟩, clI a ha.2⟩) h2
   subst e; rw [hn] at hs; cases hs
 ·obtain ⟨j, f1, f2, f3⟩ := ownI i hi v hv
  obtain ⟨a, xs, h1, h2, h3⟩ := r.own j f2 v f3
  subst h1 f1
  exact ⟨a, xs, rfl, sm _ _ h2, .inr ⟨hi, .inl f3⟩⟩
 ·cases fo with
  | none => cases hi
  | some p =>
   obtain ⟨i', j'⟩ := p
   have e : i = i' := by simpa [foO, cin] using hi
   have e2 : j = i' := by simpa [foO, cin] using hj
   rw [e, e2]
 ·have ha' : upd H acc (.lst []) a = none := ha
  by_cases e : a = acc
  ·subst e; rw [qv] at ha'; cases ha'
  ·rw [qt e] at ha'; exact ⟨r.new ha', e⟩
 ·exact hb
 ·exact hb
theorem Rep.leave {K : Fr0} {nt : Nat} {fr : List Nat} {fo : Option (Nat × Nat)} {acc : Addr} {ρ ρe : Env} {σ σe : St} {H H' : Hp} (r : Rep K c ρ σ H) (hn : H acc = none) (hfo : qhf c nt fr fo) (hf : ∀ i j, fo = some (i, j) -> σe[i]? = (qy nt fr σ)[i]?)
  (q : Rep K (cin (Cn c σ) H (foO fo) (w6 σ fo) acc fun j => (qy nt fr σ)[j]?) ρe σe H') : Rep K c (qhe fo ρe ρ) σ H' /\ Gr c.O σ H H' := by
 have kp : ∀ b o, H b = some o -> ¬ w6 σ fo b -> H' b = some o := fun b o hb hio => q.kp b o (by show upd H acc (.lst []) b = some o; rw [qt (qH hb hn)]; exact hb) fun z => z.elim hio fun e => absurd e (qH hb hn)
 have clean : ∀ b, Cl c.O σ b -> ¬ w6 σ fo b := fun b hb hio => by
  cases fo with
  | none => exact hio
  | some p => exact hb p.2 hfo.1 hio
 have dom : ∀ b, H' b = none -> H b = none := fun b hb => by
  have := q.dm b hb
  by_cases e : b = acc
  ·subst e; exact hn
  ·have this : upd H acc (.lst []) b = none := this
   rw [qt e] at this; exact this
 have notT : ∀ b xs, H b = some (.tup xs) -> ¬ w6 σ fo b := fun b xs hb hio => by
  cases fo with
  | none => exact hio
  | some p =>
   obtain ⟨a, ys, e1, e2, _⟩ := r.own p.2 hfo.1 _ hio
   cases e1; rw [hb] at e2; cases e2
 have notF : ∀ b o u, H b = some (.frz o u) -> ¬ w6 σ fo b := fun b o u hb hio => by
  cases fo with
  | none => exact hio
  | some p =>
   obtain ⟨a, ys, e1, e2, _⟩ := r.own p.2 hfo.1 _ hio
   cases e1; rw [hb] at e2; cases e2
 have gr : Gr c.O σ H H' := ⟨⟨fun b xs hb => kp b _ hb (notT b xs hb), fun b o u hb => kp b _ hb (notF b o u hb), fun b o hc hb => kp b o hb (clean b hc)⟩, dom⟩
 refine ⟨⟨?_, fun k d hd => ?_, fun j hj v hv => ?_, r.inj, r.b0, fun b o hb hio => ?_, fun b hb => r.dm b (dom b hb), r.pO, r.ps⟩, gr⟩
 ·cases fo with
  | none => exact r.len
  | some p => show (ρ.set _ _).length = _; rw [List.length_set]; exact r.len
 ·-- an old slot, or the one that came qhe
  have oldSlot : ρ[k]? = some (some d) -> (∀ i, fo ≠ some (i, k)) -> ∃ v, σ[k]? = some (some v) /\ ((k ∈ c.O /\ ∃ ds a xs, d = .lst ds /\ v = .ref a /\ H' a = some (.lst xs) /\ IsL K (Cn c σ) H' ds xs) \/ (k ∉ c.O /\ Is K (Cn c σ) H' d v)) := fun hk hne => by
   obtain ⟨v, h1, h2⟩ := r.val k d hk
   refine ⟨v, h1, ?_⟩
   rcases h2 with ⟨hi, ds, a, xs, h3, h5, h6, h7⟩ | ⟨hi, h3⟩
   ·subst h5
    refine .inl ⟨hi, ds, a, xs, h3, rfl, kp a _ h6 (fun hio => ?_), gr.isL h7⟩
    cases fo with
    | none => exact hio
    | some p =>
     obtain ⟨i', j'⟩ := p
     have e := r.inj k j' a hi hfo.1 h1 hio
     exact hne i' (by rw [e])
   ·exact .inr ⟨hi, gr.is h3⟩
  cases fo with
  | none => exact oldSlot hd (fun i e => by cases e)
  | some p =>
   obtain ⟨i', j'⟩ := p
   have hd' : (ρ.set j' (ρe[i']?).join)[k]? = some (some d) := hd
   by_cases e : k = j'
   ·subst e
    have hl : k < ρ.length := by
     have := (List.getElem?_eq_some_iff.mp hd').1
     rwa [List.length_set] at this
    rw [List.getElem?_set_self hl] at hd'
    have he : ρe[i']? = some (some d) := vQ (Option.some.inj hd')
    obtain ⟨ds, a, xs, h1, h3, h4, h5⟩ := q.getO (show i' ∈ foO (some (i', k)) by simp [foO]) he
    have h3' := hf i' k rfl
    rw [h3] at h3'
    obtain ⟨k2, j2, e1, e2, e3⟩ := jG h3'.symm
    have hk2 : k2 = i' - nt := by omega
    subst hk2
    rw [hfo.2.2.1] at e2
    cases e2
    exact ⟨.ref a, e3, .inl ⟨hfo.1, ds, a, xs, h1, rfl, h4, IsL.ext Ext.refl (fun b hb _ => hb.1.1) h5⟩⟩
   ·rw [zu e] at hd'
    exact oldSlot hd' (fun i e2 => e (by cases e2; rfl))
 ·obtain ⟨a, xs, h1, h2, h3⟩ := r.own j hj v hv
  subst h1
  by_cases hio : w6 σ fo a
  ·cases fo with
   | none => exact hio.elim
   | some p =>
    obtain ⟨i', j'⟩ := p
    have hc : (qy nt fr σ)[i']? = some (some (.ref a)) := by
     have := wz (σ := σ) (nt := nt) hfo.2.2.1
     rw [show nt + (i' - nt) = i' by have := hfo.2.1; omega] at this
     rw [this]
     have hio' : σ[j']? = some (some (.ref a)) := hio
     rw [hio']; rfl
    have h3' := hf i' j' rfl
    rw [hc] at h3'
    obtain ⟨a', ys, e1, e2, _⟩ := q.own i' (by simp [foO, cin]) _ h3'
    cases e1
    exact ⟨a, ys, rfl, e2, h3⟩
  ·exact ⟨a, xs, rfl, kp a _ h2 hio, h3⟩
 ·by_cases hio2 : w6 σ fo b
  ·cases fo with
   | none => exact hio2.elim
   | some p =>
    obtain ⟨a, ys, e1, e2, e3⟩ := r.own p.2 hfo.1 _ hio2
    cases e1
    rcases e3 with e3 | e3
    ·rw [hb] at e3; cases e3
    ·exact absurd e3.2 hio
  ·exact kp b o (r.kp b o hb hio) hio2
theorem zS {it elt : Expr} {ifs : List Expr} {scope : Scope} {N' : List Str} {nt : Nat} {fr : List Nat} {fo : Option (Nat × Nat)} {f : M (List D)} {g : D -> Env -> Option Env} {t : M Bool} {k : M D} (hc : X.calm = true) (hi : DI X c tg it f) (S : jN X scope N' nt fr)
  (hfo : qhf c nt fr fo)
  (hb : ∀ fp cl C s₀ H₀ pn B0 H1 Io' acc S', DG (zl X scope N' fp cl C s₀ H₀ pn) (cin B0 H1 (foO fo) Io' acc S') tg g /\ DF (zl X scope N' fp cl C s₀ H₀ pn) (cin B0 H1 (foO fo) Io' acc S') ifs t /\ DE (zl X scope N' fp cl C s₀ H₀ pn) (cin B0 H1 (foO fo) Io' acc S') elt k)
  (hs : ∀ x, foldedSetIterable it X.env x = pure x := by intro _; rfl) : DE X c (.ListComp elt [⟨tg, it, ifs, 0⟩] scope pos) (qV nt fr fo f g t k) := by
 obtain ⟨wi, pi, wI⟩ := hi
 refine ⟨_, qfs hc pi S hs, fun ρ σ H Q r h => wI ρ σ H _ r (WpI.bnd h fun ds ρ1 J H1 r1 iok g1 h1 => ?_)⟩
 intro acc fp cl C s₀ H₀ pn hn
 obtain ⟨⟨tg', pg, wg⟩, ⟨tt, pt, wt⟩, ⟨te, pe, we⟩⟩ := hb fp cl C s₀ H₀ pn (Cn c σ) H1 (w6 σ fo) acc fun j => (qy nt fr σ)[j]?
 refine ⟨tg', tt, te, pg, pt, pe, ?_⟩
 cases ew : zt g t k ds [] (z0 nt fr ρ1) with
 | exc x ρ' => rw [ew] at h1; exact h1.elim
 | bad => rw [ew] at h1; exact h1.elim
 | ok p =>
  rw [ew] at h1
  obtain ⟨ys, ρe⟩ := p
  have h1 : ∀ v H', Rep X.K c (qhe fo ρe ρ1) σ H' -> Is X.K (Cn c σ) H' (.lst ys) v -> Gr c.O σ H1 H' -> Q v H' := h1
  have accO : ∀ j ∈ foO fo, (qy nt fr σ)[j]? ≠ some (some (.ref acc)) := fun j hj e => by
   have r0 := r1.entry (acc := acc) hn hfo
   cases fo with
   | none => cases hj
   | some p =>
    obtain ⟨i', j'⟩ := p
    have e2 : j = i' := by simpa [foO] using hj
    subst e2
    obtain ⟨k2, j2, e1, e2, e3⟩ := jG e
    have hk2 : k2 = j - nt := by omega
    subst hk2
    rw [hfo.2.2.1] at e2
    cases e2
    obtain ⟨a, us, e4, e5, _⟩ := r1.own j' hfo.1 _ e3
    cases e4; rw [hn] at e5; cases e5
  refine ⟨fun i m σ' H' => m = ds.length - i /\ i <= ds.length /\ ∃ ρ' zs xs, Rep X.K (cin (Cn c σ) H1 (foO fo) (w6 σ fo) acc fun j => (qy nt fr σ)[j]?) ρ' σ' H' /\ (∀ j ∈ foO fo, σ'[j]? = (qy nt fr σ)[j]?) /\ H' acc = some (.lst xs) /\ IsL X.K (Cn (cin (Cn c σ) H1 (foO fo) (w6 σ fo) acc fun j => (qy nt fr σ)[j]?) σ') H' zs xs /\ zt g t k (ds.drop i) zs ρ' = .ok (ys, ρe),
   ⟨ds.length, by simp, Nat.zero_le _, z0 nt fr ρ1, [], [], r1.entry hn hfo, fun _ _ => rfl, qv, rfl, by simpa using ew⟩, ?_⟩
  rintro i m σ' H' ⟨rfl, hi, ρ', zs, xs, r', so, ha, iz, w⟩
  obtain ⟨_, gr⟩ := r1.leave hn hfo (fun i j e => so i (by rw [e]; simp [foO])) r'
  have ex : Ext (CnT c σ H1) H1 H' := ⟨gr.ext.tup, gr.ext.frz, fun b o hb hq => gr.ext.at_ b o hb.1.2 hq⟩
  have accC : ∀ τ : St, (∀ j ∈ foO fo, τ[j]? = (qy nt fr σ)[j]?) -> Cl (foO fo) τ acc := fun τ hτ j hj e => accO j hj (by rw [<- hτ j hj]; exact e)
  by_cases hlt : i < ds.length
  ·refine .inr ⟨iok.go H' i ds[i] ex (by simp [hlt]), fun x H'' y => ?_⟩
   obtain ⟨sm, ix⟩ := iok.yl H' i ds[i] x H'' ex (by simp [hlt]) y
   rw [vd hlt] at w
   unfold zt at w
   have ix2 : Is X.K (Cn (cin (Cn c σ) H1 (foO fo) (w6 σ fo) acc fun j => (qy nt fr σ)[j]?) σ') H'' ds[i] x := Is.ext Ext.refl (fun a ha _ => ⟨⟨ha.1, fun e => by
    have := ha.2
    rw [e, hn] at this; cases this⟩, fun j hj e => by
     rw [so j hj] at e
     cases fo with
     | none => cases hj
     | some p =>
      obtain ⟨i', j'⟩ := p
      have e2 : j = i' := by simpa [foO, cin] using hj
      subst e2
      obtain ⟨k2, j2, e1, e2, e3⟩ := jG e
      have hk2 : k2 = j - nt := by omega
      subst hk2
      rw [hfo.2.2.1] at e2
      cases e2
      exact ha.1.2 j' hfo.1 e3⟩) ix
   cases e1 : g ds[i] ρ' with
   | none => simp only [e1] at w; cases w
   | some ρ2 =>
    simp only [e1] at w
    refine wg ρ' σ' H'' ds[i] x ρ2 _ (r'.same sm) ix2 e1 fun σ2 r2 g2 o2 => ?_
    have so2 : ∀ j ∈ foO fo, σ2[j]? = (qy nt fr σ)[j]? := fun j hj => (o2 j hj).trans (so j hj)
    have ha2 : H'' acc = some (.lst xs) := sm _ _ ha
    have iz2 := g2.isL (IsL.ext (Ext.of_same sm) (fun _ h _ => h) iz)
    cases e2 : t ρ2 with
    | exc x ρ3 => simp only [e2] at w; cases w
    | bad => simp only [e2] at w; cases w
    | ok p2 =>
     obtain ⟨bb, ρ3⟩ := p2
     refine wt ρ2 σ2 H'' _ r2 ?_
     rw [e2]
     intro H3 r3 g3
     have ha3 : H3 acc = some (.lst xs) := g3.ext.at_ _ _ (accC σ2 so2) ha2
     have iz3 := g3.isL iz2
     cases bb with
     | false =>
      rw [if_neg Bool.false_ne_true]
      simp only [e2] at w
      exact ⟨ds.length - (i + 1), by omega, rfl, hlt, ρ3, zs, xs, r3, so2, ha3, iz3, w⟩
     | true =>
      rw [if_pos rfl]
      simp only [e2] at w
      cases e3 : k ρ3 with
      | exc x ρ4 => simp only [e3] at w; cases w
      | bad => simp only [e3] at w; cases w
      | ok p3 =>
       obtain ⟨d4, ρ4⟩ := p3
       simp only [e3] at w
       refine we ρ3 σ2 H3 _ r3 ?_
       rw [e3]
       intro y4 H4 r4 i4 g4
       have ha4 : H4 acc = some (.lst xs) := g4.ext.at_ _ _ (accC σ2 so2) ha3
       have hsz : qI (zs.length + 1) = true := by
        cases e5 : qI (zs.length + 1) with
        | true => rfl
        | false => rw [e5] at w; simp at w
       rw [if_pos hsz] at w
       have hsz' : zs.length + 1 <= sizeLine := of_decide_eq_true hsz
       have r5 := r4.grow (ys := xs ++ [y4]) ha4 (fun j hj e => accC σ2 so2 j hj e)
       have ext5 : Ext (Cn (cin (Cn c σ) H1 (foO fo) (w6 σ fo) acc fun j => (qy nt fr σ)[j]?) σ2) H4 (upd H4 acc (.lst (xs ++ [y4]))) := ⟨fun b us hb => by rw [qt (vm hb ha4 (by intro z; cases z))]; exact hb, fun b o u hb => by rw [qt (vm hb ha4 (by intro z; cases z))]; exact hb, fun b o hb hq => by rw [qt hb.1.2]; exact hq⟩
       refine ⟨xs, ha4, by rw [iz3.length]; omega, ds.length - (i + 1), by omega, rfl, hlt, ρ4, zs ++ [d4], xs ++ [y4], r5, so2, qv, ?_, w⟩
       exact IsL.append (IsL.ext ext5 (fun _ h _ => h) (g4.isL iz3)) (IsL.one (Is.ext ext5 (fun _ h _ => h) i4))
  ·have hie : i = ds.length := by omega
   subst hie
   rw [List.drop_of_length_le (Nat.le_refl _)] at w
   unfold zt at w
   cases w
   obtain ⟨r6, g6⟩ := r1.leave hn hfo (fun i j e => so i (by rw [e]; simp [foO])) r'
   exact .inl ⟨iok.stop H' ex, h1 _ H' r6 ⟨acc, xs, rfl, r1.new hn, ha, IsL.ext Ext.refl (fun a ha hs => ha.1.1) iz⟩ g6⟩
end
end L2.Sk
namespace L2.Sk
open PySem PySem.Spec PyProof.Rows
theorem Rep.io {K : Fr0} {c : Fc} {ρ : Env} {σ : St} {H H' : Hp} {i : Nat} {a : Addr} {bs : List D} {xs : List V} (r : Rep K c ρ σ H) (hi : i ∈ c.O) (hs : σ[i]? = some (some (.ref a))) (kp : ∀ b o, b ≠ a -> H b = some o -> H' b = some o)
  (ha : H' a = some (.lst xs)) (him : True) (il : IsL K (Cn c σ) H' bs xs) (dm : ∀ b, H' b = none -> H b = none) : Rep K c (ρ.set i (some (.lst bs))) σ H' /\ Gr c.O σ H H' := by
 obtain ⟨a', xs0, e0, h0, hown⟩ := r.own i hi _ hs
 cases e0
 have gr : Gr c.O σ H H' := ⟨⟨fun b us hb => kp b _ (vm hb h0 (by intro z; cases z)) hb, fun b o u hb => kp b _ (vm hb h0 (by intro z; cases z)) hb, fun b o hc hb => kp b o (fun e => hc i hi (by rw [hs, e])) hb⟩, dm⟩
 refine ⟨⟨by rw [List.length_set]; exact r.len, fun k d hk => ?_, fun j hj v hv => ?_, r.inj, r.b0, fun b o hb hio => ?_, fun b hb => r.dm b (dm b hb), r.pO, r.ps⟩, gr⟩
 ·by_cases e : k = i
  ·subst e
   have hl : k < ρ.length := by
    have := (List.getElem?_eq_some_iff.mp hk).1
    rwa [List.length_set] at this
   rw [List.getElem?_set_self hl] at hk
   cases hk
   exact ⟨.ref a, hs, .inl ⟨hi, bs, a, xs, rfl, rfl, ha, il⟩⟩
  ·rw [zu e] at hk
   obtain ⟨v, h1, h2⟩ := r.val k d hk
   refine ⟨v, h1, ?_⟩
   rcases h2 with ⟨hk2, ds, b, ys, h3, h5, h6, h7⟩ | ⟨hk2, h3⟩
   ·subst h5
    have ne : b ≠ a := fun e2 => e (r.inj k i a hk2 hi (by rw [h1, e2]) hs)
    exact .inl ⟨hk2, ds, b, ys, h3, rfl, kp b _ ne h6, gr.isL h7⟩
   ·exact .inr ⟨hk2, gr.is h3⟩
 ·obtain ⟨b, ys, h1, h2, h3⟩ := r.own j hj v hv
  subst h1
  by_cases e : b = a
  ·subst e; exact ⟨b, xs, rfl, ha, h3⟩
  ·exact ⟨b, ys, rfl, kp b _ e h2, h3⟩
 ·have ne : b ≠ a := fun e => by
   subst e
   rcases hown with z | z
   ·rw [hb] at z; cases z
   ·exact hio z.2
  exact kp b o ne (r.kp b o hb hio)
def zQ (i : Nat) (ρ : Env) : Option (List D) := match ρ[i]? with
 | some (some (.lst ds)) => some ds
 | _ => none
theorem qfw {i : Nat} {ρ : Env} {ds : List D} (h : zQ i ρ = some ds) : ρ[i]? = some (some (.lst ds)) := by
 unfold zQ at h
 split at h
 ·rename_i e; cases h; exact e
 ·cases h
theorem Rep.getLO {K : Fr0} {c : Fc} {ρ : Env} {σ : St} {H : Hp} (r : Rep K c ρ σ H) {i : Nat} {ds : List D} (hi : i ∈ c.O) (h : zQ i ρ = some ds) :
  ∃ a xs, True /\ σ[i]? = some (some (.ref a)) /\ H a = some (.lst xs) /\ IsL K (Cn c σ) H ds xs := by
 obtain ⟨ds', a, xs, h1, h3, h4, h5⟩ := r.getO hi (qfw h)
 cases h1
 exact ⟨a, xs, trivial, h3, h4, h5⟩
theorem zR {H : Hp} {a b : Addr} {o u : HO} (h : b ≠ a) (hb : H b = some o) : upd H a u b = some o := by rw [qt h]; exact hb
theorem qcU {H : Hp} {a b : Addr} {u : HO} (h : upd H a u b = none) : H b = none := by
 by_cases e : b = a
 ·subst e; rw [qv] at h; cases h
 ·rw [qt e] at h; exact h
section
variable {X : Cx} {c : Fc} {a b e : Expr} {pos : Pos}
def uB (i : Nat) (f : M D) : M D := fun ρ => match zQ i ρ with
 | none => .bad
 | some _ => (bnd f fun d ρ => match zQ i ρ with
  | some ds => if imm d && qI (ds.length + 1) then .ok (.non, ρ.set i (some (.lst (ds ++ [d])))) else .bad
  | none => .bad) ρ
theorem qce {i : Nat} {x : Str} {p1 apos : Pos} {f : M D} (he : DE X c e f) (ho : i ∈ c.O := by exact of_decide_eq_true rfl) (hN : X.N[i]? = some x := by rfl) (hv : Vis X.env.scope x := by first | exact Or.inl rfl | exact Or.inr (Or.inl rfl) | exact Or.inr (Or.inr rfl)) (hd : (x == ("__debug__" : Str)) = false := by decide) (hcd : (x == ("__classdict__" : Str)) = false := by decide)
  (hbase : attributeBase (.Name x p1) "append" X.env (eval (.Name x p1) X.env) = eval (.Name x p1) X.env := by rfl)
  (hfew : ((backTo pos (starEach [e] X.env)).all (fun x => !x.1) && (backToKw pos (keywordEach [] X.env)).all (fun x => x.1.isSome)
   && decide ([e].length + ([] : List Keyword).length + (if ([] : List Keyword).isEmpty then 0 else 1) < 30)) = true := by rfl)
  (hline : (apos.endLine == pos.line) = true := by rfl) (hs : starEach [e] X.env = (false, eval e X.env) :: starEach [] X.env := by rfl) (hplain : (backTo pos (starEach [] X.env)).any (·.1) = false := by rfl) :
  DE X c (.Call (.Attribute (.Name x p1) "append" apos) [e] [] pos) (uB i f) := by
 obtain ⟨t, p, w⟩ := he
 refine ⟨_, qkM PySem.F.plainAttrs_list PySem.F.slot_list_append PySem.F.type_list_append qah (vL hN hv hd hcd) (j7 p wM hs) hbase hfew hline hs hplain, fun ρ σ H Q r h => ?_⟩
 unfold uB at h
 cases e0 : zQ i ρ with
 | none => rw [e0] at h; exact h.elim
 | some ds0 =>
  simp only [e0] at h
  obtain ⟨l, xs0, _, hl, hH, _⟩ := r.getLO ho e0
  refine ⟨.ref l, hl, .inl ⟨rfl, xs0, .inl (.inl hH)⟩, w ρ σ H _ r (Wp.bnd h fun d ρ1 v H1 r1 i1 g1 h1 => ?_)⟩
  cases e1 : zQ i ρ1 with
  | none => simp only [e1] at h1; exact h1.elim
  | some ds =>
   simp only [e1] at h1
   by_cases hb : (imm d && qI (ds.length + 1)) = true
   ·rw [if_pos hb] at h1
    rw [Bool.and_eq_true] at hb
    obtain ⟨l', xs, him, hl', hH', il⟩ := r1.getLO ho e1
    rw [hl] at hl'
    cases hl'
    have hsz : ds.length + 1 <= sizeLine := of_decide_eq_true hb.2
    have ext : Ext (Cn c σ) H1 (upd H1 l (.lst (xs ++ [v]))) := ⟨fun b us hb => zR (vm hb hH' (by intro z; cases z)) hb, fun b o u hb => zR (vm hb hH' (by intro z; cases z)) hb, fun b o hb hq => zR (fun e => hb.2 i ho (by rw [hl, e])) hq⟩
    obtain ⟨r2, g2⟩ := r1.io (H' := upd H1 l (.lst (xs ++ [v]))) (bs := ds ++ [d]) ho hl (fun b o hb ho => zR hb ho) qv trivial
     (IsL.append (IsL.ext ext (fun _ h _ => h) il) (IsL.one (Is.ext ext (fun _ h _ => h) i1))) (fun b hb => qcU hb)
    exact ⟨l, xs, v, rfl, rfl, hH', by rw [il.length]; omega, h1 _ _ r2 rfl g2⟩
   ·rw [if_neg hb] at h1; exact h1.elim
def qhg (i : Nat) (k f : M D) : MS := sbnd f fun d ρ => match zQ i ρ with
 | none => .bad
 | some _ => (sbnd k fun j ρ => match j, zQ i ρ with
  | .int n, some ds => match ixN ds.length n with
   | some q => if imm d then .ok (.nx (ρ.set i (some (.lst (ds.set q d))))) else .bad
   | none => .bad
  | _, _ => .bad) ρ
theorem qjo {i : Nat} {x : Str} {p1 p2 : Pos} {ke : Expr} {f k : M D} (he : DE X c e f) (hk : DE X c ke k) (ho : i ∈ c.O := by exact of_decide_eq_true rfl) (hN : X.N[i]? = some x := by rfl) (hv : Vis X.env.scope x := by first | exact Or.inl rfl | exact Or.inr (Or.inl rfl) | exact Or.inr (Or.inr rfl)) (hd : (x == ("__debug__" : Str)) = false := by decide) (hcd : (x == ("__classdict__" : Str)) = false := by decide)
  (ha : ∀ v, assign (.Subscript (.Name x p1) ke p2) X.env v = (do
   let ov <- holding [v] (eval (.Name x p1) X.env)
   let iv <- holding [v, ov] (eval ke X.env)
   standAt p2
   holding [v, ov, iv] (setItem ov iv v)
   release [v, ov, iv] []) := by intro _; rfl)
  (hs : swapsWithSole [.Subscript (.Name x p1) ke p2] e pos.line X.env = pure false := by rfl) (hw : swappedStores [.Subscript (.Name x p1) ke p2] e X.env = pure none := by rfl) (h1 : (assignEach [.Subscript (.Name x p1) ke p2] X.env).map (·.2) = [assign (.Subscript (.Name x p1) ke p2) X.env] := by rfl) :
  DS X c (.Assign [.Subscript (.Name x p1) ke p2] e pos) (qhg i k f) := by
 obtain ⟨t, p, w⟩ := he
 obtain ⟨tk, pk, wk⟩ := hk
 refine ⟨_, qh9 p (qku (vL hN hv hd hcd) pk qg1 ha) hs hw h1, fun ρ σ H D r h => w ρ σ H _ r (Wp.sbnd h fun d ρ1 v H1 r1 i1 g1 h1 => ?_)⟩
 cases e0 : zQ i ρ1 with
 | none => simp only [e0] at h1; exact h1.elim
 | some ds0 =>
  simp only [e0] at h1
  obtain ⟨l, xs0, _, hl, hH, _⟩ := r1.getLO ho e0
  refine ⟨.ref l, hl, wk ρ1 σ H1 _ r1 (Wp.sbnd h1 fun j ρ2 u H2 r2 i2 g2 h2 => ?_)⟩
  cases j with
  | int n =>
   cases e1 : zQ i ρ2 with
   | none => simp only [e1] at h2; exact h2.elim
   | some ds =>
    simp only [e1] at h2
    cases e2 : ixN ds.length n with
    | none => simp only [e2] at h2; exact h2.elim
    | some q =>
     simp only [e2] at h2
     by_cases hb : imm d = true
     ·rw [if_pos hb] at h2
      obtain ⟨l', xs, him, hl', hH', il⟩ := r2.getLO ho e1
      rw [hl] at hl'
      cases hl'
      cases i2
      have i3 := g2.is i1
      have ext : Ext (Cn c σ) H2 (upd H2 l (.lst (xs.set q v))) := ⟨fun b us hb => zR (vm hb hH' (by intro z; cases z)) hb, fun b o u hb => zR (vm hb hH' (by intro z; cases z)) hb, fun b o hb hq => zR (fun e => hb.2 i ho (by rw [hl, e])) hq⟩
      obtain ⟨r3, g3⟩ := r2.io (H' := upd H2 l (.lst (xs.set q v))) (bs := ds.set q d) ho hl (fun b o hb ho => zR hb ho) qv trivial
       (IsL.set (Is.ext ext (fun _ h _ => h) i3) q (IsL.ext ext (fun _ h _ => h) il)) (fun b hb => qcU hb)
      exact ⟨l, xs, n, q, rfl, rfl, hH', by rw [il.length]; exact e2, h2 σ _ r3 g3.s⟩
     ·rw [if_neg hb] at h2; exact h2.elim
  | _ => exact h2.elim
structure qfx (K : Fr0) (c : Fc) (ρ : Env) (σ : St) (H : Hp) (a : Addr) : Prop where
 val : ∀ i d v, ρ[i]? = some (some d) -> i ∉ c.O -> σ[i]? = some (some v) -> Is K (fun b => Cn c σ b /\ b ≠ a) H d v
 cont : ∀ i ds b xs, ρ[i]? = some (some (.lst ds)) -> i ∈ c.O -> σ[i]? = some (some (.ref b)) -> H b = some (.lst xs) -> IsL K (Cn c σ) H ds xs -> IsL K (fun b => Cn c σ b /\ b ≠ a) H ds xs
 own : ∀ j ∈ c.O, σ[j]? ≠ some (some (.ref a))
 new : c.H0 a = none
theorem Is.fresh {K : Fr0} {A : Addr -> Prop} {H : Hp} {d : D} {v : V} {a : Addr} (h : Is K A H d v) (hn : H a = none) : Is K (fun b => A b /\ b ≠ a) H d v := Is.ext Ext.refl (fun b h1 h2 => ⟨h1, fun e => by rw [e, hn] at h2; cases h2⟩) h
theorem Rep.apart {K : Fr0} {ρ : Env} {σ : St} {H : Hp} {a : Addr} {o : HO} (r : Rep K c ρ σ H) (hn : H a = none) : qfx K c ρ σ (upd H a o) a where
 val := fun i d v h1 h2 h3 => by
  obtain ⟨w, h4, h5⟩ := r.get h2 h1
  rw [h3] at h4
  cases h4
  exact Is.ext (Ext.of_same (qz hn _)) (fun _ h _ => h) (h5.fresh hn)
 cont := fun i ds b xs h1 h2 h3 h4 _ => by
  obtain ⟨ds', a', ys, e1, e2, e3, e4⟩ := r.getO h2 h1
  cases e1
  rw [h3] at e2
  cases e2
  have := qz hn o _ _ e3
  rw [h4] at this
  cases this
  exact IsL.ext (Ext.of_same (qz hn _)) (fun b hb hs => ⟨hb, fun e => by rw [e, hn] at hs; cases hs⟩) e4
 own := fun j hj e => (r.new hn).2 j hj e
 new := r.dm a hn
theorem Rep.apart_same {K : Fr0} {ρ : Env} {σ : St} {H H' : Hp} {a : Addr} (r : Rep K c ρ σ H) (hn : H a = none) (sm : jK H H') : qfx K c ρ σ H' a where
 val := fun i d v h1 h2 h3 => by
  obtain ⟨w, h4, h5⟩ := r.get h2 h1
  rw [h3] at h4
  cases h4
  exact Is.ext (Ext.of_same sm) (fun _ h _ => h) (h5.fresh hn)
 cont := fun i ds b xs h1 h2 h3 h4 _ => by
  obtain ⟨ds', a', ys, e1, e2, e3, e4⟩ := r.getO h2 h1
  cases e1
  rw [h3] at e2
  cases e2
  have := sm _ _ e3
  rw [h4] at this
  cases this
  exact IsL.ext (Ext.of_same sm) (fun b hb hs => ⟨hb, fun e => by rw [e, hn] at hs; cases hs⟩) e4
 own := fun j hj e => (r.new hn).2 j hj e
 new := r.dm a hn
def WpN (K : Fr0) (c : Fc) (σ : St) (H : Hp) (Q : VK) : R (List D × Env) -> Prop
 | .ok (ds, ρ) => ∀ a xs H', H a = none -> Rep K c ρ σ H' -> qfx K c ρ σ H' a -> H' a = some (.lst xs) -> True -> IsL K (fun b => Cn c σ b /\ b ≠ a) H' ds xs -> Gr c.O σ H H' -> Q (.ref a) H'
 | .exc x ρ => ∀ H', Rep K c ρ σ H' -> Gr c.O σ H H' -> c.E x H'
 | .bad => False
def DN (X : Cx) (c : Fc) (e : Expr) (f : M (List D)) : Prop := ∃ t, PE X e t /\ ∀ ρ σ H Q, Rep X.K c ρ σ H -> WpN X.K c σ H Q (f ρ) -> t σ H Q
theorem WpN.gr {K : Fr0} {σ : St} {H H1 : Hp} {Q : VK} : ∀ {r : R (List D × Env)}, WpN K c σ H Q r -> Gr c.O σ H H1 -> WpN K c σ H1 Q r
 | .ok (d, ρ), h, g => fun a xs H' hn h1 h2 h3 h4 h5 hg => h a xs H' (g.dom a hn) h1 h2 h3 h4 h5 (g.trans hg)
 | .exc x ρ, h, g => fun H' hr hg => h H' hr (g.trans hg)
 | .bad, h, _ => h
theorem WpL.bndN {K : Fr0} {σ : St} {H : Hp} {Q : VK} {f : M (List D)} {k : List D -> M (List D)} {ρ : Env} {Q' : List V -> Hp -> Prop} (h : WpN K c σ H Q (Sk.bnd f k ρ)) (hQ : ∀ d ρ' v H', Rep K c ρ' σ H' -> IsL K (Cn c σ) H' d v -> Gr c.O σ H H' -> WpN K c σ H' Q (k d ρ') -> Q' v H') : WpL K c σ H Q' (f ρ) := by
 unfold Sk.bnd at h
 cases e : f ρ with
 | ok p => rw [e] at h; exact fun v H' hr hi hg => hQ p.1 p.2 v H' hr hi hg (h.gr hg)
 | exc x ρ' => rw [e] at h; exact h
 | bad => rw [e] at h; exact h
def qk9 (f : M (List D)) : M (List D) := bnd f fun ds => lift (if immL ds && qI ds.length then some ds else none)
theorem qig {es : List Expr} {f : M (List D)} (h : DA X c es f) : DN X c (.List es pos) (qk9 f) := by
 obtain ⟨t, p, w⟩ := h
 refine ⟨_, qfb p, fun ρ σ H Q r h => w ρ σ H _ r (WpL.bndN h fun ds ρ1 vs H1 r1 i1 g1 h1 => ?_)⟩
 by_cases hb : (immL ds && qI ds.length) = true
 ·rw [if_pos hb] at h1
  rw [Bool.and_eq_true] at hb
  refine ⟨by rw [i1.length]; exact of_decide_eq_true hb.2, fun p hp => ?_⟩
  exact h1 p vs _ hp (r1.laid hp _) (r1.apart hp) qv trivial (IsL.ext (Ext.of_same (qz hp _)) (fun b h hs => ⟨h, fun e => by rw [e, hp] at hs; cases hs⟩) i1) (.of_same (qz hp _))
 ·rw [if_neg hb] at h1; exact h1.elim
theorem Cl.setO {O : List Nat} {σ : St} {i : Nat} {a b : Addr} (h : Cl O σ b) (hb : b ≠ a) : Cl O (σ.set i (some (.ref a))) b := fun j hj e => by
 by_cases hji : j = i
 ·subst hji
  have hl : j < σ.length := by
   have := (List.getElem?_eq_some_iff.mp e).1
   rwa [List.length_set] at this
  rw [List.getElem?_set_self hl] at e
  cases e
  exact hb rfl
 ·rw [zu hji] at e
  exact h j hj e
theorem Rep.setO {K : Fr0} {ρ : Env} {σ : St} {H : Hp} {i : Nat} {a : Addr} {ds : List D} {xs : List V} (r : Rep K c ρ σ H) (hi : i ∈ c.O) (hP : i ∉ c.P) (ap : qfx K c ρ σ H a) (ha : H a = some (.lst xs)) (him : True) (il : IsL K (fun b => Cn c σ b /\ b ≠ a) H ds xs) :
  Rep K c (ρ.set i (some (.lst ds))) (σ.set i (some (.ref a))) H where
 len := by rw [List.length_set, List.length_set]; exact r.len
 val := fun j e hj => by
  by_cases e1 : j = i
  ·subst e1
   have hl : j < ρ.length := by
    have := (List.getElem?_eq_some_iff.mp hj).1
    rwa [List.length_set] at this
   rw [List.getElem?_set_self hl] at hj
   cases hj
   exact ⟨.ref a, List.getElem?_set_self (by rw [<- r.len]; exact hl), .inl ⟨hi, ds, a, xs, rfl, rfl, ha, IsL.ext Ext.refl (fun b hb _ => ⟨hb.1.1, hb.1.2.setO hb.2⟩) il⟩⟩
  ·rw [zu e1] at hj
   obtain ⟨w, h1, h2⟩ := r.val j e hj
   refine ⟨w, by rw [zu e1]; exact h1, ?_⟩
   rcases h2 with ⟨g1, ds', b', xs', g3, g5, g6, g7⟩ | ⟨h3, h4⟩
   ·subst g3 g5
    exact .inl ⟨g1, ds', b', xs', rfl, rfl, g6, IsL.ext Ext.refl (fun b hb _ => ⟨hb.1.1, hb.1.2.setO hb.2⟩) (ap.cont j ds' b' xs' hj g1 h1 g6 g7)⟩
   ·exact .inr ⟨h3, Is.ext Ext.refl (fun b hb _ => ⟨hb.1.1, hb.1.2.setO hb.2⟩) (ap.val j e w hj h3 h1)⟩
 own := fun j hj w h => by
  by_cases e1 : j = i
  ·subst e1
   have hl : j < σ.length := by
    have := (List.getElem?_eq_some_iff.mp h).1
    rwa [List.length_set] at this
   rw [List.getElem?_set_self hl] at h
   cases h
   exact ⟨a, xs, rfl, ha, .inl ap.new⟩
  ·rw [zu e1] at h
   exact r.own j hj w h
 inj := fun j k b hj hk h1 h2 => by
  by_cases e1 : j = i
  ·by_cases e2 : k = i
   ·rw [e1, e2]
   ·subst e1
    have hl : j < σ.length := by
     have := (List.getElem?_eq_some_iff.mp h1).1
     rwa [List.length_set] at this
    rw [List.getElem?_set_self hl] at h1
    cases h1
    rw [zu e2] at h2
    exact absurd h2 (ap.own k hk)
  ·by_cases e2 : k = i
   ·subst e2
    have hl : k < σ.length := by
     have := (List.getElem?_eq_some_iff.mp h2).1
     rwa [List.length_set] at this
    rw [List.getElem?_set_self hl] at h2
    cases h2
    rw [zu e1] at h1
    exact absurd h1 (ap.own j hj)
   ·rw [zu e1] at h1
    rw [zu e2] at h2
    exact r.inj j k b hj hk h1 h2
 b0 := r.b0
 kp := r.kp
 dm := r.dm
 pO := r.pO
 ps := fun j hj => by
  have e : j ≠ i := fun e => hP (e ▸ hj)
  rw [zu e]; exact r.ps j hj
def qaR (i : Nat) (f : M (List D)) : MS := sbnd f fun ds ρ => .ok (.nx (ρ.set i (some (.lst ds))))
theorem qbm {i : Nat} {x : Str} {pos' : Pos} {f : M (List D)} (hN : X.N.Nodup) (he : DN X c e f) (ho : i ∈ c.O := by exact of_decide_eq_true rfl) (hP : i ∉ c.P := by exact of_decide_eq_false rfl) (hi : X.N[i]? = some x := by rfl) (hx : Loc X.env.scope x := by first | exact Or.inl rfl | exact Or.inr rfl) (hs : swapsWith e (some (.Name x pos')) pos.line X.env = pure false := by rfl) (hf : X.fn x = true \/ X.env.scope.names.lookup x = some .local := by first | exact .inl rfl | exact .inr rfl | assumption) :
  DS X c (.Assign [.Name x pos'] e pos) (qaR i f) := by
 obtain ⟨t, p, w⟩ := he
 refine ⟨_, qia hN hi hx p hs hf, fun ρ σ H D r h => w ρ σ H _ r ?_⟩
 unfold qaR sbnd at h
 cases ef : f ρ with
 | bad => rw [ef] at h; exact h
 | exc z ρ' => rw [ef] at h; exact fun H' hr hg => h σ H' hr hg.s
 | ok q =>
  rw [ef] at h
  intro a xs H' hn r' ap ha him il g'
  exact h _ H' (r'.setO ho hP ap ha him il) ⟨g'.ext, fun b hb hs => hb.setO (fun e => by rw [e, hn] at hs; exact absurd hs (by simp)), g'.dom⟩
def qla (i : Nat) : M D := fun ρ => match zQ i ρ with
 | some ds => .ok (.int ds.length, ρ)
 | none => .bad
def qfy (i : Nat) : M D := fun ρ => match zQ i ρ with
 | some ds => .ok (.tup ds, ρ)
 | none => .bad
theorem qjp {i : Nat} {x : Str} {p p1 : Pos} (hg : Gl X "tuple") (hm : X.mg "tuple" = none) (hb : bootBuiltins "tuple" = some (.type "tuple") := by first | rfl | exact PySem.boot_tuple) (ho : i ∈ c.O := by exact of_decide_eq_true rfl) (hN : X.N[i]? = some x := by rfl) (hv : Vis X.env.scope x := by first | exact Or.inl rfl | exact Or.inr (Or.inl rfl) | exact Or.inr (Or.inr rfl)) (hd : (x == ("__debug__" : Str)) = false := by decide) (hcd : (x == ("__classdict__" : Str)) = false := by decide) :
  DE X c (.Call (.Name "tuple" p) [.Name x p1] [] pos) (qfy i) := by
 refine ⟨_, qfd qbj hg hm hb (j7 (vL hN hv hd hcd) wM), fun ρ σ H Q r h => ?_⟩
 unfold qfy at h
 cases e0 : zQ i ρ with
 | none => simp only [e0] at h; exact h.elim
 | some ds =>
  simp only [e0] at h
  obtain ⟨l, xs, him, hl, hH, il⟩ := r.getLO ho e0
  refine ⟨.ref l, hl, l, xs, rfl, .inl ⟨.inl (.inl hH), fun p hp => h _ _ (r.laid hp _) ⟨p, xs, rfl, .inl qv, ?_⟩ (.of_same (qz hp _))⟩⟩
  exact IsL.ext (Ext.of_same (qz hp _)) (fun _ h _ => h) il
def qgN (i : Nat) (g : M D) : M D := fun ρ => match zQ i ρ with
 | none => .bad
 | some _ => (bnd g fun k ρ => match k, zQ i ρ with
  | .int n, some ds => match atI ds n with
   | some d => .ok (d, ρ)
   | none => .bad
  | _, _ => .bad) ρ
theorem qfz {i : Nat} {x : Str} {p1 : Pos} {g : M D} (hb : DE X c b g) (hs : qcQ b := by intro _ _; rfl) (ho : i ∈ c.O := by exact of_decide_eq_true rfl) (hN : X.N[i]? = some x := by rfl) (hv : Vis X.env.scope x := by first | exact Or.inl rfl | exact Or.inr (Or.inl rfl) | exact Or.inr (Or.inr rfl)) (hd : (x == ("__debug__" : Str)) = false := by decide) (hcd : (x == ("__classdict__" : Str)) = false := by decide) :
  DE X c (.Subscript (.Name x p1) b pos) (qgN i g) := by
 obtain ⟨tb, pb, wb⟩ := hb
 refine ⟨_, qkJ qfg (vL hN hv hd hcd) pb hs, fun ρ σ H Q r h => ?_⟩
 unfold qgN at h
 cases e0 : zQ i ρ with
 | none => simp only [e0] at h; exact h.elim
 | some ds0 =>
  simp only [e0] at h
  obtain ⟨l, xs0, _, hl, hH, _⟩ := r.getLO ho e0
  refine ⟨.ref l, hl, wb ρ σ H _ r (Wp.bnd h fun k ρ1 v H1 r1 i1 g1 h1 => ?_)⟩
  cases k with
  | int n =>
   cases e1 : zQ i ρ1 with
   | none => simp only [e1] at h1; exact h1.elim
   | some ds =>
    simp only [e1] at h1
    cases e2 : atI ds n with
    | none => simp only [e2] at h1; exact h1.elim
    | some d =>
     simp only [e2] at h1
     obtain ⟨l', xs, him, hl', hH', il⟩ := r1.getLO ho e1
     rw [hl] at hl'
     cases hl'
     cases i1
     obtain ⟨w, h3, h4⟩ := il.atI e2
     exact ⟨l, xs, n, w, rfl, rfl, .inl (.inl hH'), h3, h1 w H1 r1 h4 .refl⟩
  | _ => exact h1.elim
def qjq (i : Nat) : MS := fun ρ => match zQ i ρ with
 | some ds => .ok (.rt (.lst ds) ρ)
 | none => .bad
theorem qjr {i : Nat} {x : Str} {p1 : Pos} (ho : i ∈ c.O := by exact of_decide_eq_true rfl) (hP : i ∉ c.P := by exact of_decide_eq_false rfl) (hN : X.N[i]? = some x := by rfl) (hv : Vis X.env.scope x := by first | exact Or.inl rfl | exact Or.inr (Or.inl rfl) | exact Or.inr (Or.inr rfl)) (hd : (x == ("__debug__" : Str)) = false := by decide) (hcd : (x == ("__classdict__" : Str)) = false := by decide) :
  DS X c (.Return (some (.Name x p1)) pos) (qjq i) := by
 refine ⟨_, qdo (vL hN hv hd hcd), fun ρ σ H D r h => ?_⟩
 unfold qjq at h
 cases e0 : zQ i ρ with
 | none => simp only [e0] at h; exact h.elim
 | some ds =>
  simp only [e0] at h
  obtain ⟨l, xs, him, hl, hH, il⟩ := r.getLO ho e0
  obtain ⟨a, ys, e1, e2, e3⟩ := r.own i ho _ hl
  cases e1
  have hB : c.B l := by
   rcases e3 with z | z
   ·exact r.b0 l z
   ·exact absurd z.1 hP
  exact ⟨.ref l, hl, h (.ref l) σ H r ⟨l, xs, rfl, hB, hH, IsL.ext Ext.refl (fun _ h _ => h.1) il⟩ .refl⟩
end
def cfn (O P : List Nat) (A : Addr -> Prop) (H : Hp) (Io : Addr -> Prop) (E : Exn -> Hp -> Prop) (S : Nat -> Option (Option V)) : Fc where
 O := O
 P := P
 B := fun a => A a \/ H a = none
 H0 := H
 Io := Io
 E := E
 S := S
def yL (n : Nat) (ds : List D) : Env := ds.map some ++ List.replicate (n - ds.length) none
def spD (K : Fr0) (F : List D -> R D) : Sp := fun vs H Q _ => ∃ ds A, IsL K A H ds vs /\ (∀ a, A a -> True) /\ match F ds with
 | .ok d => ∀ v H', jK H H' -> Is K (fun a => A a \/ H a = none) H' d v -> Q v H'
 | _ => False
def qih (K : Fr0) (F : List D -> List D -> R (D × List D)) : Sp := fun vs H Q _ => ∃ (bs ds : List D) (A : Addr -> Prop) (a : Addr) (xs vs' : List V), vs = .ref a :: vs' /\ H a = some (.lst xs) /\ True /\ IsL K A H bs xs /\ ¬ A a /\ IsL K A H ds vs' /\ match F bs ds with
 | .ok (d, bs') => ∀ v H' xs', (∀ b o, b ≠ a -> H b = some o -> H' b = some o) -> (∀ b, H' b = none -> H b = none) -> H' a = some (.lst xs') -> True -> IsL K (fun b => A b \/ H b = none) H' bs' xs' -> Is K (fun b => A b \/ H b = none) H' d v -> Q v H'
 | _ => False
def dfn (n p : Nat) (body : MS) (ds : List D) : R D := if ds.length = p then match body (yL n ds) with
 | .ok (.rt d _) => .ok d
 | .ok (.nx _) => .ok .non
 | _ => .bad else .bad
def qbn (n p : Nat) (body : MS) (bs ds : List D) : R (D × List D) := if ds.length + 1 = p then match body (yL n (.lst bs :: ds)) with
 | .ok (.rt d ρ) => match zQ 0 ρ with
  | some bs' => .ok (d, bs')
  | none => .bad
 | .ok (.nx ρ) => match zQ 0 ρ with
  | some bs' => .ok (.non, bs')
  | none => .bad
 | _ => .bad else .bad
theorem vR {N : List Str} {vs : List V} {i : Nat} {v : V} (h : (zY N vs)[i]? = some (some v)) : vs[i]? = some v := by
 unfold zY at h
 by_cases hi : i < vs.length
 ·rw [List.getElem?_append_left (by simpa using hi), List.getElem?_map] at h
  cases e : vs[i]? with
  | none => rw [e] at h; cases h
  | some w => rw [e] at h; cases h; rfl
 ·rw [List.getElem?_append_right (by simpa using hi), List.getElem?_replicate] at h
  split at h <;> cases h
theorem w8 {N : List Str} {vs : List V} {i : Nat} {v : V} (h : vs[i]? = some v) : (zY N vs)[i]? = some (some v) := by
 unfold zY
 have hi : i < vs.length := (List.getElem?_eq_some_iff.mp h).1
 rw [List.getElem?_append_left (by simpa using hi), List.getElem?_map, h]; rfl
theorem qcf {n : Nat} {ds : List D} {i : Nat} {d : D} (h : (yL n ds)[i]? = some (some d)) : ds[i]? = some d := by
 unfold yL at h
 by_cases hi : i < ds.length
 ·rw [List.getElem?_append_left (by simpa using hi), List.getElem?_map] at h
  cases e : ds[i]? with
  | none => rw [e] at h; cases h
  | some w => rw [e] at h; cases h; rfl
 ·rw [List.getElem?_append_right (by simpa using hi), List.getElem?_replicate] at h
  split at h <;> cases h
theorem qao {K : Fr0} {N : List Str} {O : List Nat} {A : Addr -> Prop} {H : Hp} {E : Exn -> Hp -> Prop} {ds : List D} {vs : List V} (il : IsL K A H ds vs) (hO : ∀ i ∈ O, ds.length <= i) :
  Rep K (cfn O [] A H (fun _ => False) E fun _ => none) (yL N.length ds) (zY N vs) H where
 len := by unfold yL zY; simp [il.length]
 val := fun i d h => by
  have h1 := qcf h
  obtain ⟨v, h2, h3⟩ := il.get h1
  have hi : i ∉ O := fun z => by
   have := (List.getElem?_eq_some_iff.mp h1).1
   have := hO i z
   omega
  refine ⟨v, w8 h2, .inr ⟨hi, Is.ext Ext.refl (fun a ha _ => ⟨.inl ha, fun j hj e => ?_⟩) h3⟩⟩
  have := (List.getElem?_eq_some_iff.mp (vR e)).1
  have := hO j hj
  rw [il.length] at *
  omega
 own := fun j hj v h => by
  have := (List.getElem?_eq_some_iff.mp (vR h)).1
  have := hO j hj
  rw [il.length] at *
  omega
 inj := fun i j a hi hj h1 h2 => by
  have := (List.getElem?_eq_some_iff.mp (vR h1)).1
  have := hO i hi
  rw [il.length] at *
  omega
 b0 := fun a h => .inr h
 kp := fun b o h _ => h
 dm := fun b h => h
 pO := fun j hj => by cases hj
 ps := fun j hj => by cases hj
section
variable {P : Program} {w : World} {K : PySem.W.Frag} {mg : Str -> Option Value} {base : Heap}
theorem zD {x qual : Str} {st : Stmt} {f : Addr} {fd : FuncData} {N ps : List Str} {k : Nat} {O : List Nat} {body : MS} (F : Fun K x qual st f fd) (S : qp N ps (qd st)) (hO : ∀ i ∈ O, ps.length <= i)
  (hb : ∀ (cdv : Value) (A : Around) (outer : List PySem.Env) (s : Shared) (H : Hp) (E : XK) (B : Addr -> Prop), uS k (A.deeper (envOfC qual (qd st) s.heap.objs.size f cdv)) ->
   DSs (qgM CX0 P w K mg base N qual (qd st) f cdv A outer s H E).nox (cfn O [] B H (fun _ => False) (fun _ _ => False) fun _ => none) (qm st) body) :
  jX P w K mg base CX0 (k + 1) f fd ps (spD K (dfn N.length ps.length body)) := by
 refine F.ok S (fun vs H Q E h => ?_) (fun cdv A outer s H vs Q E hr h => ?_)
 ·obtain ⟨ds, B, il, _, h⟩ := h
  unfold dfn at h
  by_cases e : ds.length = ps.length
  ·rw [il.length]; exact e
  ·rw [if_neg e] at h; exact h.elim
 ·obtain ⟨ds, B, il, _, h⟩ := h
  obtain ⟨t, p, wt⟩ := hb cdv A outer s H E B hr
  refine ⟨t, p, ?_⟩
  unfold dfn at h
  by_cases e : ds.length = ps.length
  ·rw [if_pos e] at h
   refine wt (yL N.length ds) (zY N vs) H _ (qao il (fun i hi => by rw [e]; exact hO i hi)) ?_
   have same : ∀ {ρ : Env} {σ : St} {H' : Hp}, Rep K (cfn O [] B H (fun _ => False) (fun _ _ => False) fun _ => none) ρ σ H' -> jK H H' := fun r b o hb => r.kp b o hb fun z => z
   cases eb : body (yL N.length ds) with
   | bad => rw [eb] at h; exact h.elim
   | exc z ρ => rw [eb] at h; exact h.elim
   | ok fl =>
    rw [eb] at h
    cases fl with
    | nx ρ => exact fun σ' H' r' _ => h .non H' (same r') rfl
    | rt d ρ => exact fun v σ' H' r' i' _ => h v H' (same r') i'
    | bk ρ => exact h.elim
    | ct ρ => exact h.elim
  ·rw [if_neg e] at h; exact h.elim
theorem qlb {x qual : Str} {st : Stmt} {f : Addr} {fd : FuncData} {N ps : List Str} {k : Nat} {O : List Nat} {body : MS} (F : Fun K x qual st f fd) (S : qp N ps (qd st)) (hO : ∀ i ∈ O, i = 0 \/ ps.length <= i) (h0 : 0 ∈ O)
  (hb : ∀ (cdv : Value) (A : Around) (outer : List PySem.Env) (s : Shared) (H : Hp) (E : XK) (B Io : Addr -> Prop) (S : Nat -> Option (Option V)), uS k (A.deeper (envOfC qual (qd st) s.heap.objs.size f cdv)) ->
   DSs (qgM CX0 P w K mg base N qual (qd st) f cdv A outer s H E).nox (cfn O [0] B H Io (fun _ _ => False) S) (qm st) body) :
  jX P w K mg base CX0 (k + 1) f fd ps (qih K (qbn N.length ps.length body)) := by
 refine F.ok S (fun vs H Q E h => ?_) (fun cdv A outer s H vs Q E hr h => ?_)
 ·obtain ⟨bs, ds, B, a, xs, vs', rfl, ha, him, ib, nA, il, h⟩ := h
  unfold qbn at h
  by_cases e : ds.length + 1 = ps.length
  ·rw [List.length_cons, il.length]; exact e
  ·rw [if_neg e] at h; exact h.elim
 ·obtain ⟨bs, ds, B, a, xs, vs', rfl, ha, him, ib, nA, il, h⟩ := h
  obtain ⟨t, p, wt⟩ := hb cdv A outer s H E B (fun b => b = a) (fun j => (zY N (.ref a :: vs'))[j]?) hr
  refine ⟨t, p, ?_⟩
  unfold qbn at h
  by_cases e : ds.length + 1 = ps.length
  ·rw [if_pos e] at h
   have only : ∀ j ∈ O, ∀ v, (zY N (.ref a :: vs'))[j]? = some (some v) -> j = 0 /\ v = .ref a := fun j hj v hv => by
    have h1 := vR hv
    rcases hO j hj with z | z
    ·subst z; cases h1; exact ⟨rfl, rfl⟩
    ·have := (List.getElem?_eq_some_iff.mp h1).1
     rw [List.length_cons, il.length] at this
     omega
   have r0 : Rep K (cfn O [0] B H (fun b => b = a) (fun _ _ => False) fun j => (zY N (.ref a :: vs'))[j]?) (yL N.length (.lst bs :: ds)) (zY N (.ref a :: vs')) H := by
    refine ⟨by unfold yL zY; simp [il.length], fun i d hd => ?_, fun j hj v hv => ?_, fun i j b hi hj h1 h2 => ?_, fun b hb => .inr hb, fun b o hb _ => hb, fun b hb => hb, fun j hj => ?_, fun _ _ => rfl⟩
    ·have h1 := qcf hd
     cases i with
     | zero =>
      cases h1
      exact ⟨.ref a, w8 rfl, .inl ⟨h0, bs, a, xs, rfl, rfl, ha, IsL.ext Ext.refl (fun b hb _ => ⟨.inl hb, fun j hj e2 => by obtain ⟨_, e3⟩ := only j hj _ e2; cases e3; exact nA hb⟩) ib⟩⟩
     | succ i =>
      have h1' : ds[i]? = some d := by simpa using h1
      obtain ⟨v, h2, h3⟩ := il.get h1'
      have hi : i + 1 ∉ O := fun z => by
       have h4 := (List.getElem?_eq_some_iff.mp h1').1
       rcases hO _ z with q | q
       ·cases q
       ·omega
      refine ⟨v, w8 (by simpa using h2), .inr ⟨hi, Is.ext Ext.refl (fun b hb _ => ⟨.inl hb, fun j hj e2 => ?_⟩) h3⟩⟩
      obtain ⟨_, e3⟩ := only j hj _ e2
      cases e3
      exact nA hb
    ·obtain ⟨rfl, rfl⟩ := only j hj v hv
     exact ⟨a, xs, rfl, ha, .inr ⟨by simp [cfn], rfl⟩⟩
    ·rw [(only i hi _ h1).1, (only j hj _ h2).1]
    ·have : j = 0 := by simpa [cfn] using hj
     rw [this]; exact h0
   refine wt _ _ H _ r0 ?_
   have fin : ∀ {ρ : Env} {σ : St} {H' : Hp} {bs' : List D}, Rep K (cfn O [0] B H (fun b => b = a) (fun _ _ => False) fun j => (zY N (.ref a :: vs'))[j]?) ρ σ H' -> zQ 0 ρ = some bs' ->
     ∃ xs', H' a = some (.lst xs') /\ True /\ IsL K (fun b => B b \/ H b = none) H' bs' xs' := fun {ρ σ H' bs'} r e1 => by
    obtain ⟨l, ys, h1, h2, h3, h4⟩ := r.getLO h0 e1
    have h5 := r.ps 0 (by simp [cfn])
    have h6 : (cfn O [0] B H (fun b => b = a) (fun _ _ => False) fun j => (zY N (.ref a :: vs'))[j]?).S 0 = some (some (.ref a)) := w8 rfl
    rw [h2, h6] at h5
    cases h5
    exact ⟨ys, h3, h1, IsL.ext Ext.refl (fun b hb _ => hb.1) h4⟩
   have kps : ∀ {ρ : Env} {σ : St} {H' : Hp}, Rep K (cfn O [0] B H (fun b => b = a) (fun _ _ => False) fun j => (zY N (.ref a :: vs'))[j]?) ρ σ H' -> ∀ b o, b ≠ a -> H b = some o -> H' b = some o := fun r b o hb ho => r.kp b o ho hb
   cases eb : body (yL N.length (.lst bs :: ds)) with
   | bad => rw [eb] at h; exact h.elim
   | exc z ρ => rw [eb] at h; exact h.elim
   | ok fl =>
    rw [eb] at h
    cases fl with
    | nx ρ =>
     cases eg : zQ 0 ρ with
     | none => simp only [eg] at h
     | some bs' =>
      simp only [eg] at h
      exact fun σ' H' r' _ => by
       obtain ⟨xs', h1, h2, h3⟩ := fin r' eg
       exact h .non H' xs' (kps r') (fun b hb => r'.dm b hb) h1 h2 h3 rfl
    | rt d ρ =>
     cases eg : zQ 0 ρ with
     | none => simp only [eg] at h
     | some bs' =>
      simp only [eg] at h
      exact fun v σ' H' r' i' _ => by
       obtain ⟨xs', h1, h2, h3⟩ := fin r' eg
       exact h v H' xs' (kps r') (fun b hb => r'.dm b hb) h1 h2 h3 i'
    | bk ρ => exact h.elim
    | ct ρ => exact h.elim
  ·rw [if_neg e] at h; exact h.elim
end
section
variable {X : Cx} {c : Fc} {a b e : Expr} {pos : Pos}
def qj (F : List D -> R D) (g : M (List D)) : M D := bnd g fun ds ρ => match F ds with
 | .ok d => .ok (d, ρ)
 | _ => .bad
theorem qjs {k : Nat} {f : Addr} {fd : FuncData} {ps : List Str} {F : List D -> R D} {x : Str} {p : Pos} {es : List Expr} {g : M (List D)} (G : jX X.prog X.w X.K X.mg X.base CX0 k f fd ps (spD X.K F)) (hr : uS k X.A) (hg : Gl X x) (hm : X.mg x = some (.ref f)) (hk : PySem.W.keepIn X.K (.ref f) = true) (hb : vn X.K fd ps [])
  (ha : DA X c (e :: es) g) (hd : (x == ("__debug__" : Str)) = false := by decide) (he : starEach (e :: es) X.env = (false, eval e X.env) :: starEach es X.env := by rfl) (hpl : (backTo pos (starEach es X.env)).any (·.1) = false := by rfl) : DE X c (.Call (.Name x p) (e :: es) [] pos) (qj F g) := by
 obtain ⟨t, pa, w⟩ := ha
 refine ⟨_, qbf G hr hg hm hk hb .nil qjb pa hd he hpl, fun ρ σ H Q r h => w ρ σ H _ r (WpL.bnd h fun ds ρ1 vs H1 r1 i1 g1 h1 => ?_)⟩
 rw [List.append_nil]
 refine ⟨ds, Cn c σ, i1, fun _ _ => trivial, ?_⟩
 cases ef : F ds with
 | bad => simp only [ef] at h1; exact h1.elim
 | exc z ρ' => simp only [ef] at h1; exact h1.elim
 | ok d =>
  simp only [ef] at h1
  exact fun v H' sm i => h1 v H' (r1.same sm) (Is.ext Ext.refl (fun a ha _ => ha.elim id r1.new) i) (.of_same sm)
def qB (F : List D -> List D -> R (D × List D)) (i : Nat) (g : M (List D)) : M D := fun ρ => match zQ i ρ with
 | none => .bad
 | some _ => (bnd g fun ds ρ => match zQ i ρ with
  | none => .bad
  | some bs => match F bs ds with
   | .ok (d, bs') => .ok (d, ρ.set i (some (.lst bs')))
   | _ => .bad) ρ
theorem qfA {k i : Nat} {f : Addr} {fd : FuncData} {ps : List Str} {F : List D -> List D -> R (D × List D)} {x y : Str} {p p1 : Pos} {es : List Expr} {g : M (List D)} (G : jX X.prog X.w X.K X.mg X.base CX0 k f fd ps (qih X.K F)) (hr : uS k X.A) (hg : Gl X x) (hm : X.mg x = some (.ref f)) (hk : PySem.W.keepIn X.K (.ref f) = true) (hb : vn X.K fd ps [])
  (ha : DA X c es g) (ho : i ∈ c.O := by exact of_decide_eq_true rfl) (hN : X.N[i]? = some y := by rfl) (hv : Vis X.env.scope y := by first | exact Or.inl rfl | exact Or.inr (Or.inl rfl) | exact Or.inr (Or.inr rfl)) (hdy : (y == ("__debug__" : Str)) = false := by decide) (hcd : (y == ("__classdict__" : Str)) = false := by decide)
  (hd : (x == ("__debug__" : Str)) = false := by decide) (he : starEach (.Name y p1 :: es) X.env = (false, eval (.Name y p1) X.env) :: starEach es X.env := by rfl) (hpl : (backTo pos (starEach es X.env)).any (·.1) = false := by rfl) : DE X c (.Call (.Name x p) (.Name y p1 :: es) [] pos) (qB F i g) := by
 obtain ⟨t, pa, w⟩ := ha
 refine ⟨_, qbf G hr hg hm hk hb .nil qjb (j7 (vL hN hv hdy hcd) pa he) hd he hpl, fun ρ σ H Q r h => ?_⟩
 unfold qB at h
 cases e0 : zQ i ρ with
 | none => simp only [e0] at h; exact h.elim
 | some ds0 =>
  simp only [e0] at h
  obtain ⟨l, xs0, _, hl, hH, _⟩ := r.getLO ho e0
  refine ⟨.ref l, hl, w ρ σ H _ r (WpL.bnd h fun ds ρ1 vs H1 r1 i1 g1 h1 => ?_)⟩
  show qih X.K F (.ref l :: vs ++ []) H1 Q E0
  rw [List.append_nil]
  cases e1 : zQ i ρ1 with
  | none => simp only [e1] at h1; exact h1.elim
  | some bs =>
   simp only [e1] at h1
   obtain ⟨l', xs, him, hl', hH', il⟩ := r1.getLO ho e1
   rw [hl] at hl'
   cases hl'
   refine ⟨bs, ds, Cn c σ, l, xs, vs, rfl, hH', him, il, fun hc => hc.2 i ho hl, i1, ?_⟩
   cases ef : F bs ds with
   | bad => simp only [ef] at h1; exact h1.elim
   | exc z ρ' => simp only [ef] at h1; exact h1.elim
   | ok q =>
    obtain ⟨d, bs'⟩ := q
    simp only [ef] at h1
    intro v H' xs' kp dm ha2 him2 il2 i2
    obtain ⟨r2, g2⟩ := r1.io (bs := bs') ho hl kp ha2 him2 (IsL.ext Ext.refl (fun a ha _ => ha.elim id r1.new) il2) dm
    exact h1 v H' r2 (Is.ext Ext.refl (fun a ha _ => ha.elim id r1.new) i2) g2
end
end L2.Sk
namespace L2.Sk
open PySem PySem.Spec PyProof.Rows
def qhh : Key -> PyData
 | .inl i => .int i
 | .inr x => .str x
mutual
def vG : D -> PyData
 | .non => .none
 | .bl b => .bool b
 | .int i => .int i
 | .str x => .str x
 | .tup ds => .tuple (toPDs ds)
 | .lst ds => .list (toPDs ds)
 | .dic kvs => .dict (kvs.map fun p => (qhh p.1, .int p.2))
 | .fz ns => .list (ns.map .int)
 | .exc _ => .dict [(.int (2 ^ 2000), .none)]
def toPDs : List D -> List PyData
 | [] => []
 | d :: ds => vG d :: toPDs ds
end
mutual
def noL : D -> Bool
 | .tup ds => noLs ds
 | .lst _ => false
 | .fz _ => false
 | _ => true
def noLs : List D -> Bool
 | [] => true
 | d :: ds => noL d && noLs ds
end
mutual
def noX : D -> Bool
 | .tup ds => noXs ds
 | .lst ds => noXs ds
 | .exc _ => false
 | _ => true
def noXs : List D -> Bool
 | [] => true
 | d :: ds => noX d && noXs ds
end
mutual
theorem qfB : ∀ {d : D}, (vG d).canLay0 = true -> noX d = true
 | .non, _ => rfl
 | .bl _, _ => rfl
 | .int _, _ => rfl
 | .str _, _ => rfl
 | .tup ds, h => by unfold noX; exact noXs_lay (by simpa [vG, PyData.canLay0] using h)
 | .lst ds, h => by unfold noX; exact noXs_lay (by simpa [vG, PyData.canLay0] using h)
 | .dic _, _ => rfl
 | .fz _, _ => rfl
 | .exc _, h => by simp [vG, PyData.canLay0] at h
theorem noXs_lay : ∀ {ds : List D}, PyData.canLayAll0 (toPDs ds) = true -> noXs ds = true
 | [], _ => rfl
 | d :: ds, h => by
  have h' : (vG d).canLay0 = true /\ PyData.canLayAll0 (toPDs ds) = true := by simpa [toPDs, PyData.canLayAll0] using h
  unfold noXs
  rw [qfB h'.1, noXs_lay h'.2]; rfl
end
theorem vS {h : Heap} : ∀ {ns : List Int} {us : List Value}, zh (ns.map V.int) us -> ∃ as, ReadsAll h us (ns.map .int) as
 | [], us, r => by
  rw [List.map_nil] at r; cases r; exact ⟨[], .nil⟩
 | n :: ns, us, r => by
  rw [List.map_cons] at r
  cases r with
  | cons r1 r2 =>
   obtain ⟨t, e⟩ := r1
   subst e
   obtain ⟨as, q⟩ := vS (ns := ns) r2
   exact ⟨[] ++ as, .cons (.int n t) q⟩
theorem qcV {α : Type} {x : α} {l l' : List α} (h1 : x ∉ l) (h2 : x ∉ l') : x ∉ l ++ l' := fun h => (List.mem_append.mp h).elim h1 h2
theorem qap {P : Program} {w : World} {h : Heap} : ∀ {kvs : List (Key × Int)} {es : List DictEntry} {vs : List (Key × Value)}, KV (kvs.map fun p => (p.1, V.int p.2)) vs -> Pairs (qbe P w) es vs ->
  ReadsAll h (es.map (·.key)) ((kvs.map fun p => (qhh p.1, PyData.int p.2)).map (·.1)) [] /\ ReadsAll h (es.map (·.val)) ((kvs.map fun p => (qhh p.1, PyData.int p.2)).map (·.2)) []
 | [], es, vs, r, p => by
  have r' : KV ([] : List (Key × V)) vs := r
  unfold KV at r'
  cases r'
  cases p
  exact ⟨.nil, .nil⟩
 | (k, i) :: kvs, es, vs, r, p => by
  have r' : KV ((k, V.int i) :: kvs.map fun p => (p.1, V.int p.2)) vs := r
  unfold KV at r'
  cases r' with
  | cons r1 r2 =>
   cases p with
   | cons p1 p2 p3 =>
    obtain ⟨q1, q2⟩ := qap (h := h) (kvs := kvs) r2 p3
    obtain ⟨e1, t, e2⟩ := r1
    have hk : ∀ {e : DictEntry} {kv : Key × Value}, k = kv.1 -> (qbe P w).is kv.1 e.key = true -> Reads h e.key (qhh k) [] := fun {e kv} hk hi => by
     subst hk
     rcases zx hi with ⟨i, t, e1, e2⟩ | ⟨x, t, e1, e2⟩
     ·rw [e1, e2]; exact .int i t
     ·rw [e1, e2]; exact .str x t
    refine ⟨.cons (as := []) (bs := []) (hk e1 p1) q1, .cons (as := []) (bs := []) ?_ q2⟩
    show Reads h _ (.int i) []
    dsimp only
    rw [p2, e2]
    exact .int i t
section
variable {X : Cx} {pins : List (Addr × Obj)} {σ : St} {H : Hp} {s : Shared} {A : Addr -> Prop}
mutual
theorem uC (I : Inv X pins σ H s) : ∀ {d : D} {v : V} {u : Value}, noX d = true -> Is X.K A H d v -> yp v u -> ∃ as, Reads s.heap u (vG d) as /\ (noL d = true -> sysModules ∉ as)
 | .non, _, _, _, h, r => by cases h; cases r; exact ⟨[], .none, by simp⟩
 | .bl b, _, _, _, h, r => by cases h; cases r; exact ⟨[], .bool b, by simp⟩
 | .int i, _, _, _, h, r => by cases h; obtain ⟨t, rfl⟩ := r; exact ⟨[], .int i t, by simp⟩
 | .str x, _, _, _, h, r => by cases h; obtain ⟨t, rfl⟩ := r; exact ⟨[], .str x t, by simp⟩
 | .tup ds, _, _, nx, ⟨a, xs, hv, ta, il⟩, r => by
  subst hv
  cases r
  obtain ⟨its, rv, p, _⟩ := I.tuple ta.sq
  obtain ⟨o, h1, h2, n, h3⟩ := p
  obtain ⟨as, q, nl⟩ := readsL_of I (by simpa [noX] using nx) il rv
  exact ⟨as, .tuple h1 h2 h3 (by simpa using q), fun z => nl (by simpa [noL] using z)⟩
 | .lst ds, _, _, nx, ⟨a, xs, hv, _, ta, il⟩, r => by
  subst hv
  cases r
  obtain ⟨its, rv, p, _⟩ := I.list (SqL.of ta)
  obtain ⟨o, h1, h2, n, h3⟩ := p.isList
  obtain ⟨as, q, nl⟩ := readsL_of I (by simpa [noX] using nx) il rv
  exact ⟨a :: as, .list h1 h2 h3 (by simpa using q), fun z => by simp [noL] at z⟩
 | .dic kvs, _, _, _, ⟨a, hv, _, ta⟩, r => by
  subst hv
  cases r
  obtain ⟨hz, hS, vs, rk, o, es, ep, h1, h2, h3, h4, h5, h6⟩ := (show yX X.prog X.w H s.heap a (.dK _) from I.hok a _ ta)
  obtain ⟨q1, q2⟩ := qap (h := s.heap) rk h5
  refine ⟨_, Reads.dict (as := []) (bs := []) h1 h2.1 h3 q1 q2, fun _ hm => ?_⟩
  have : sysModules = a := by simpa using hm
  rw [<- this] at hS
  simp at hS
 | .exc _, _, _, nx, _, _ => by simp [noX] at nx
 | .fz ns, _, _, _, ⟨a, hv, ta⟩, r => by
  subst hv
  cases r
  obtain ⟨its, rv, p, _⟩ := I.list ta.sq
  obtain ⟨o, h1, h2, n, h3⟩ := p.isList
  obtain ⟨as, q⟩ := vS rv
  exact ⟨a :: as, .list h1 h2 h3 (by simpa using q), fun z => by simp [noL] at z⟩
theorem readsL_of (I : Inv X pins σ H s) : ∀ {ds : List D} {xs : List V} {us : List Value}, noXs ds = true -> IsL X.K A H ds xs -> zh xs us -> ∃ as, ReadsAll s.heap us (toPDs ds) as /\ (noLs ds = true -> sysModules ∉ as)
 | [], _, _, _, h, r => by cases h; cases r; exact ⟨[], .nil, by simp⟩
 | d :: ds, _, _, nx, ⟨x, ys, hx, h1, h2⟩, r => by
  subst hx
  cases r with
  | cons r1 r2 =>
   have nx' : noX d = true /\ noXs ds = true := by simpa [noXs] using nx
   obtain ⟨as, q1, n1⟩ := uC I nx'.1 h1 r1
   obtain ⟨bs, q2, n2⟩ := readsL_of I nx'.2 h2 r2
   exact ⟨as ++ bs, .cons q1 q2, fun z => by
    have z' : noL d = true /\ noLs ds = true := by simpa [noLs] using z
    exact qcV (n1 z'.1) (n2 z'.2)⟩
end
end
def qlc (d : D) : Bool := (vG d).showable && decide ((vG d).shown.length <= sizeLine) && decide ((vG d).depth <= 50) && (!(vG d).hasDict || noL d)
section
variable {X : Cx}
end
def qoa : List D -> Option D
 | [d] => if qlc d then some (.str (vG d).shown) else none
 | _ => none
def qdA (d : D) : Bool := (vG d).canLay0 && decide ((vG d).depth <= 50)
def qgO (K : Fr0) (neg : Bool) : R2 := fun x y H Q => ∃ d e A, Is K A H d x /\ Is K A H e y /\ qdA d = true /\ qdA e = true /\ Q (.bl (if neg then !PyData.eqv (vG d) (vG e) else PyData.eqv (vG d) (vG e))) H
section
variable {X : Cx}
theorem wA {d : D} (h : qdA d = true) : SeqAt.shaped (vG d) = true := by
 unfold qdA at h
 unfold SeqAt.shaped
 simp only [Bool.and_eq_true, decide_eq_true_eq] at h |-
 exact ⟨h.1, by omega⟩
theorem qaY {d : D} (h : qdA d = true) : noX d = true := by
 unfold qdA at h
 rw [Bool.and_eq_true] at h
 exact qfB h.1
theorem qld {k : Nat} (hr : uS k X.A) : OpR X (compareOp .Eq) (qgO X.K false) := by
 intro pins s σ H x y v u Q I rx ry h
 obtain ⟨d, e, A, h1, h2, o1, o2, q⟩ := h
 obtain ⟨as, r1, _⟩ := uC I (qaY o1) h1 rx
 obtain ⟨bs, r2, _⟩ := uC I (qaY o2) h2 ry
 exact SeqAt.compareEq_shaped r1 r2 (wA o1) (wA o2) hr.units ⟨.bl _, H, I, rfl, by simpa using q⟩
theorem qle {k : Nat} (hr : uS k X.A) : OpR X (compareOp .NotEq) (qgO X.K true) := by
 intro pins s σ H x y v u Q I rx ry h
 obtain ⟨d, e, A, h1, h2, o1, o2, q⟩ := h
 obtain ⟨as, r1, _⟩ := uC I (qaY o1) h1 rx
 obtain ⟨bs, r2, _⟩ := uC I (qaY o2) h2 ry
 exact SeqAt.compareNe_shaped r1 r2 (wA o1) (wA o2) hr.units ⟨.bl _, H, I, rfl, by simpa using q⟩
end
def eqA (x y : D) : Option D := if qdA x && qdA y then some (.bl (PyData.eqv (vG x) (vG y))) else none
def neA (x y : D) : Option D := if qdA x && qdA y then some (.bl (!PyData.eqv (vG x) (vG y))) else none
theorem qjt {K : Fr0} : OpS K eqA (qgO K false) := by
 intro A H x y d v u Q hn ix iy e k
 obtain ⟨e1, e2⟩ := jB e
 rw [Bool.and_eq_true] at e1
 subst e2
 exact ⟨x, y, A, ix, iy, e1.1, e1.2, k _ H (jK.refl H) rfl⟩
theorem qju {K : Fr0} : OpS K neA (qgO K true) := by
 intro A H x y d v u Q hn ix iy e k
 obtain ⟨e1, e2⟩ := jB e
 rw [Bool.and_eq_true] at e1
 subst e2
 exact ⟨x, y, A, ix, iy, e1.1, e1.2, k _ H (jK.refl H) rfl⟩
section
variable {X : Cx} {c : Fc} {a b e : Expr} {pos : Pos}
def qnm (i : Nat) (g : M D) : M D := fun ρ => match zQ i ρ with
 | none => .bad
 | some _ => (bnd g fun y ρ => match zQ i ρ with
  | none => .bad
  | some ds => lift (neA (.lst ds) y) ρ) ρ
end
end L2.Sk
namespace L2.Sk
open PySem PySem.Spec PyProof.Rows
section
variable {prog : Program} {w : World} {A : Around} {E : Value -> Shared -> Prop} {s : Shared}
theorem qjv {it tu : Addr} {k : Nat} {arr : Array Value} {x : Value} {Q : Value -> Shared -> Prop} (hI : s.heap.IsTupleIter it tu k) (hT : s.heap.IsTuple tu arr) (hx : arr[k]? = some x)
  (q : ∀ h', h'.IsTupleIter it tu (k + 1) -> Heap.SameBut it s.heap h' -> Q x { s with heap := h' }) : wpAny (model prog w) A (Builtin.SmallTypes.nextOf (.ref it)) Q E s := by
 obtain ⟨ob, e1, e2, e3⟩ := id hI
 obtain ⟨ot, f1, _, m, f2⟩ := hT
 unfold Builtin.SmallTypes.nextOf
 refine wpAny_bind (wpAny_callSpecial?_slot (name := Str.ofString "__next__") hI.typeIs F.slot_tuple_iterator_next (wpAny_call_entry F.slot_tuple_iterator_next hI.typeIs F.entry_tuple_iterator_next ?_ (F.args_tuple_iterator_next_1 _)))
 show wpAny (model prog w) _ (field (Value.ref it) 0 >>= _) _ _ s
 refine wpAny_bind (wpAny_field e1 e3 (x := Value.ref tu) rfl ?_)
 show wpAny (model prog w) _ (if (Value.ref tu == Value.none) = true then _ else _) _ _ s
 rw [if_neg (show ¬ ((Value.ref tu == Value.none) = true) from Bool.false_ne_true)]
 show wpAny (model prog w) _ (field (Value.ref it) 1 >>= _) _ _ s
 refine wpAny_bind (wpAny_field e1 e3 (x := Value.int k 0) rfl ?_)
 show wpAny (model prog w) _ (seqItems? (Value.ref tu) >>= _) _ _ s
 refine wpAny_bind (wpAny_seqItems f1 f2 ?_)
 simp only [Int.toNat_natCast, hx]
 refine wpAny_bind (wpAny_setField e1 e3 (by simp) (wpAny_pure ⟨x, rfl, wpAny_pure (q _ ?_ (Heap.SameBut.update ..))⟩))
 exact ⟨_, Heap.get?_update_self _ e1 (Obj.isFreed_of_fields (Obj.data_mapFields e3 _)), (Obj.cls_mapFields ..).trans e2, by rw [Obj.data_mapFields e3]; simp [rawInt]⟩
theorem qjw {it tu : Addr} {k : Nat} {arr : Array Value} {Q : Value -> Shared -> Prop} (hh : A.handled = none) (hI : s.heap.IsTupleIter it tu k) (hT : s.heap.IsTuple tu arr) (hx : arr[k]? = none)
  (q : ∀ h' e, Heap.ExtBut it s.heap h' -> (∃ o, h'.get? e = some o /\ o.cls = .type "StopIteration") -> E (.ref e) { s with heap := h' }) : wpAny (model prog w) A (Builtin.SmallTypes.nextOf (.ref it)) Q E s := by
 obtain ⟨ob, e1, e2, e3⟩ := id hI
 obtain ⟨ot, f1, _, m, f2⟩ := hT
 unfold Builtin.SmallTypes.nextOf
 refine wpAny_bind (wpAny_callSpecial?_slot (name := Str.ofString "__next__") hI.typeIs F.slot_tuple_iterator_next (wpAny_call_entry F.slot_tuple_iterator_next hI.typeIs F.entry_tuple_iterator_next ?_ (F.args_tuple_iterator_next_1 _)))
 show wpAny (model prog w) _ (field (Value.ref it) 0 >>= _) _ _ s
 refine wpAny_bind (wpAny_field e1 e3 (x := Value.ref tu) rfl ?_)
 show wpAny (model prog w) _ (if (Value.ref tu == Value.none) = true then _ else _) _ _ s
 rw [if_neg (show ¬ ((Value.ref tu == Value.none) = true) from Bool.false_ne_true)]
 show wpAny (model prog w) _ (field (Value.ref it) 1 >>= _) _ _ s
 refine wpAny_bind (wpAny_field e1 e3 (x := Value.int k 0) rfl ?_)
 show wpAny (model prog w) _ (seqItems? (Value.ref tu) >>= _) _ _ s
 refine wpAny_bind (wpAny_seqItems f1 f2 ?_)
 simp only [Int.toNat_natCast, hx]
 refine wpAny_bind (wpAny_rule (wpAny_bind (wpAny_setField e1 e3 (by simp) ?_)))
 show wpAny (model prog w) _ (newExc (Value.type "StopIteration") [] >>= _) _ _ _
 refine wpAny_bind ?_
 simp only [newExc, newTuple]
 refine wpAny_bind (wpAny_newObj_type ?_ (by size_fits))
 refine wpAny_bind (m := firstArgMember _ _) (wpAny_of_eq (a := Value.none) (by first | rfl | (simp only [firstArgMember]; rfl)) ?_)
 refine wpAny_newObj_type ?_ (by size_fits)
 simp only [raiseNew]
 refine wpAny_bind (wpAny_handled ?_)
 first | rw [show A.in1.handled = none from hh] | rw [hh]
 exact wpAny_bind (wpAny_pure (wpAny_throw (q _ _ (((Heap.SameBut.update ..).extBut.push _).push _) ⟨_, Heap.get?_push_size _ rfl, rfl⟩)))
end
theorem qdB {prog : Program} {w : World} {A : Around} (hh : A.handled = none) (it tu : Addr) (hne : tu ≠ it) (arr : Array Value) :
  Draws prog w A it [it, tu] arr.size (fun i x => arr[i]? = some x) (fun i h => h.IsTupleIter it tu i /\ h.IsTuple tu arr) where
 live := fun i h st => by obtain ⟨⟨o, e, _⟩, _⟩ := st; exact ⟨o, e⟩
 frame := fun i h h' st k => by
  obtain ⟨h1, o, e, r⟩ := st
  exact ⟨h1.at fun o q => k it (by simp) o q, o, k tu (by simp) o e, r⟩
 item := fun i s Q E hi st q => qjv st.1 st.2 (Array.getElem?_eq_getElem hi) fun h' h1 sb => q _ h' s.toks (Array.getElem?_eq_getElem hi) ⟨h1, by
  obtain ⟨o, e, r⟩ := st.2
  exact ⟨o, sb.extBut _ _ hne e, r⟩⟩ sb
 done := fun s Q E st q => qjw hh st.1 st.2 (Array.getElem?_eq_none (Nat.le_refl _)) q
section
variable {prog : Program} {w : World} {A : Around} {E : Value -> Shared -> Prop} {s : Shared} {z TI TO i1 i2 : Addr} {fp1 fp2 : List Addr} {n1 n2 k : Nat} {P1 P2 : Nat -> Value -> Prop} {S1 S2 : Nat -> Heap -> Prop}
end
section
variable {X : Cx} {pins : List (Addr × Obj)} {σ : St} {H : Hp} {s : Shared} {h' : Heap}
theorem qfC {ch : List Addr} {T : Addr} {o : HO} {t' : Nat} (I : Inv X pins σ H s) (k : ∀ b u, b ∉ ch -> s.heap.get? b = some u -> h'.get? b = some u) (hf : ∀ b ∈ ch, qbU X pins H b) (hT : s.heap.objs.size <= T) (new : yX X.prog X.w (upd H T o) h' T o) :
  Inv X pins σ (upd H T o) { s with heap := h', toks := t' } := by
 have hn : H T = none := I.hok.fresh hT
 have nch : ∀ b u, H b = some u -> b ∉ ch := fun b u e z => by rw [(hf b z).1] at e; cases e
 refine I.step (g' := s.gens) (d' := s.drawn) (ch := ch) (fun b hb => ⟨(hf b hb).2.2.2.1, (hf b hb).2.1, (hf b hb).2.2.2.2.1, (hf b hb).2.2.2.2.2⟩) (fun b u _ _ hc e _ => k b u hc e) (fun b u _ _ hc e _ => ⟨u.slots, k b u hc e⟩) (fun b u hc e n => ?_)
  (fun b u hc e => ⟨u, k b u hc e⟩) (fun b xs e => by rw [qt (qH e hn)]; exact e) (fun b u xs e => by rw [qt (qH e hn)]; exact e) (fun b ps e => ⟨#[], by rw [qt (qH e hn), e]; simp⟩) (fun m hm => ?_) (fun b u e => ?_) I.bare
 ·rw [qt (Nat.ne_of_lt (Nat.lt_of_lt_of_le (Heap.lt_size e) hT))]; exact n
 ·obtain ⟨ob, es, ep, ho, r⟩ := hm
  exact ⟨ob, es, ep, k _ ob (fun z => (hf _ z).2.1 rfl) ho, r⟩
 ·by_cases hb : b = T
  ·subst hb; rw [qv] at e; cases e; exact new
  ·rw [qt hb] at e
   refine (I.hok b u e).stay (fun c v hc q => k c v ?_ q) (fun c q => by rw [qt (qH q hn)]; exact q) fun c xs q => by rw [qt (qH q hn)]; exact q
   rcases hc with z | z
   ·rw [z]; exact nch b u e
   ·exact nch c _ z
theorem qfD {ch : List Addr} {t' : Nat} (I : Inv X pins σ H s) (k : ∀ b u, b ∉ ch -> s.heap.get? b = some u -> h'.get? b = some u) (hf : ∀ b ∈ ch, qbU X pins H b) : Inv X pins σ H { s with heap := h', toks := t' } := by
 have nch : ∀ b u, H b = some u -> b ∉ ch := fun b u e z => by rw [(hf b z).1] at e; cases e
 refine I.step (g' := s.gens) (d' := s.drawn) (ch := ch) (fun b hb => ⟨(hf b hb).2.2.2.1, (hf b hb).2.1, (hf b hb).2.2.2.2.1, (hf b hb).2.2.2.2.2⟩) (fun b u _ _ hc e _ => k b u hc e) (fun b u _ _ hc e _ => ⟨u.slots, k b u hc e⟩) (fun b u hc e n => n)
  (fun b u hc e => ⟨u, k b u hc e⟩) (fun b xs e => e) (fun b u xs e => e) (fun b ps e => ⟨#[], by rw [e]; simp⟩) (fun m hm => ?_) (fun b u e => ?_) I.bare
 ·obtain ⟨ob, es, ep, ho, r⟩ := hm
  exact ⟨ob, es, ep, k _ ob (fun z => (hf _ z).2.1 rfl) ho, r⟩
 ·refine (I.hok b u e).stay (fun c v hc q => k c v ?_ q) (fun c q => q) fun c xs q => q
  rcases hc with z | z
  ·rw [z]; exact nch b u e
  ·exact nch c _ z
end
section
variable {X : Cx} {c : Fc} {a b e : Expr} {pos : Pos} {es : List Expr} {kk : Nat} {tp : Pos}
def qnn : List D -> List D -> List D
 | x :: xs, y :: ys => .tup [x, y] :: qnn xs ys
 | _, _ => []
def qmQ : List D -> Option (List D)
 | [.tup xs, .tup ys] => some (qnn xs ys)
 | _ => none
def qno (f : M (List D)) : M (List D) := bnd f fun ds => lift (qmQ ds)
end
end L2.Sk
namespace L2.Sk
open PySem PySem.Spec PyProof.Rows
theorem qbo : fillsNumberSlot (.type "tuple") "mul" = pure false := by
 first | kernel_rfl | (unfold fillsNumberSlot; kernel_rfl) | decide +kernel
theorem qep : seqRepeat? (.type "tuple") = pure (some (.builtin "tuple.__mul__")) := by
 first | kernel_rfl | (unfold seqRepeat?; kernel_rfl) | decide +kernel
theorem qcg (a : Int) (t : Tok) (l : Addr) (dd : Option Addr) (items : Array Value) (n : Nat) (sl : Array (Option Value)) :
  Meets (Builtin.«int.__rmul__» ⟨[.int a t, .ref l], []⟩) (fun _ R s => s.heap.get? l = some { cls := .type "tuple", dict := dd, data := .seq items n, slots := sl } /\ R (.ok (.ret .notImplemented)) s) :=
 .of_wp fun prog w A R s h => by
  obtain ⟨hp, g, d, tk, os⟩ := s
  obtain ⟨hl, h⟩ := h
  wp_walk using wpAny_loadPart' hl
  exact ⟨_, rfl, h⟩
theorem qlf (l : Addr) (dd : Option Addr) (items : Array Value) (n : Nat) (sl : Array (Option Value)) (k : Int) (t : Tok) (h0 : ¬ items.isEmpty = true) (h1 : ¬ (k == 1) = true) (h2 : ¬ k <= 0) (h3 : ¬ (decide (k < -(2 ^ 63)) || decide (k >= 2 ^ 63)) = true)
  (h4 : ¬ (items.size : Int) * k > (2 ^ 63 - 1) / 8) (h5 : ¬ Builtin.Tuple.tupleTooMany ((items.size : Int) * k) = true) (h6 : ((List.replicate k.toNat items).foldl (· ++ ·) #[]).size <= sizeLine) :
  Meets (Builtin.«tuple.__mul__» ⟨[.ref l, .int k t], []⟩) (fun _ R s => s.heap.get? l = some { cls := .type "tuple", dict := dd, data := .seq items n, slots := sl } /\
   R (.ok (.ret (.ref s.heap.objs.size))) { s with heap := s.heap.push { cls := .type "tuple", data := .seq ((List.replicate k.toNat items).foldl (· ++ ·) #[]) } }) :=
 .of_wp fun prog w A R s h => by
  obtain ⟨hp, g, d, tk, os⟩ := s
  obtain ⟨hl, h⟩ := h
  have f1 := AutoSeq1.idx_int
  have f2 := AutoSeq1.sub_tuple_tuple
  have h01 : ¬ (items.isEmpty || k == 1) = true := by simp only [Bool.or_eq_true, not_or]; exact ⟨h0, h1⟩
  have h02 : ¬ (decide (k <= 0) || items.isEmpty) = true := by simp only [Bool.or_eq_true, decide_eq_true_eq, not_or]; exact ⟨h2, h0⟩
  wp_walk using wpAny_loadPart' hl
  rw [if_neg h3]
  wp_walk using wpAny_loadPart' hl
  rw [if_neg h4]
  wp_walk using wpAny_loadPart' hl
  exact ⟨_, rfl, h⟩
section
variable {X : Cx}
def qlg (K : Fr0) : R2 := fun x y H Q => ∃ a xs k, x = .ref a /\ y = .int k /\ SqT K H a xs /\ xs ≠ [] /\ 2 <= k /\ xs.length * k.toNat <= sizeLine /\ ∀ p, H p = none -> Q (.ref p) (upd H p (.tup (List.replicate k.toNat xs).flatten))
theorem qjx : OpR X (binaryOp .Mult) (qlg X.K) := by
 intro pins s σ H x y v u Q I rx ry h
 obtain ⟨a, xs, k, rfl, rfl, hx, hne, hk, hz, q⟩ := h
 cases rx
 obtain ⟨t, rfl⟩ := ry
 obtain ⟨its, r, p1, _⟩ := I.tuple hx
 obtain ⟨⟨cls, dd, data, sl⟩, ho, hc, n, hd⟩ := id p1
 simp only at hc hd
 subst hc hd
 have hl := r.length
 have hnew : List.foldl (fun x1 x2 => x1 ++ x2) #[] (List.replicate k.toNat its.toArray) = (List.replicate k.toNat its).flatten.toArray := by
  have := qag its k.toNat []
  rw [List.nil_append] at this
  exact this
 have hlen : (List.replicate k.toNat its).flatten.length = k.toNat * its.length := qcR its k.toNat
 have hsl : (sizeLine : Nat) = 16777216 := sizeLine_eq
 have e0 : ¬ its.toArray.isEmpty = true := by
  intro e
  have : its = [] := by simpa using e
  rw [this] at hl
  exact hne (List.length_eq_zero_iff.mp hl)
 have pos1 : 1 <= its.length := by
  cases its with
  | nil => simp at e0
  | cons z zs => simp
 have kk : ((k.toNat : Nat) : Int) = k := Int.toNat_of_nonneg (by omega)
 have mm : (its.toArray.size : Int) * k = ((its.length * k.toNat : Nat) : Int) := by rw [List.size_toArray, Int.natCast_mul, kk]
 have zz : its.length * k.toNat <= sizeLine := by rw [<- hl]; exact hz
 have kle : k.toNat <= its.length * k.toNat := Nat.le_mul_of_pos_left _ pos1
 have T1 : s.TypeIs (.ref a) "tuple" := ⟨_, ho, rfl⟩
 refine wpAny_binaryOp_repeat_ref (T := "tuple") (U := "int") (by decide) T1 (fun s' => typeIs_int s' k t) qbo F.fills_int_mul F.slot_int_rmul qep F.slot_int_index.lookup
  (call_meets F.slot_int_rmul (typeIs_int s k t) F.entry_int_rmul (F.args_int_rmul_2 _ _) (qcg k t a dd its.toArray n sl)
   ⟨ho, rfl, T1, call_meets F.slot_tuple_mul T1 F.entry_tuple_mul (F.args_tuple_mul_2 _ _) (qlf a dd its.toArray n sl k t e0 (by simp; omega) (by omega) (by simp; omega) (by rw [mm]; omega) ?_ (by rw [hnew, List.size_toArray, hlen, Nat.mul_comm]; exact zz)) ⟨ho, ?_⟩⟩)
 ·rw [mm]
  show ¬ decide (((its.length * k.toNat : Nat) : Int) > (sizeLine : Int)) = true
  rw [decide_eq_true_eq]
  omega
 ·rw [hnew]
  refine ⟨.ref s.heap.objs.size, _, I.laid (t' := s.toks) (o := .tup (List.replicate k.toNat xs).flatten) (fun b ob q => Heap.get?_push_of_some _ q) (Nat.le_refl _) ?_, rfl, q _ (I.hok.fresh (Nat.le_refl _))⟩
  exact ⟨by rw [qcR, Nat.mul_comm]; exact hz, _, r.rep k.toNat, IsTup.new _ _⟩
def qlh (K : Fr0) : R2 := fun x y H Q => (rI qkz (fun i j => .int (i * j))) x y H Q \/ (qlg K x y H Q \/ qni x y H Q)
theorem zT : OpR X (binaryOp .Mult) (qlh X.K) := OpR.or qkB (OpR.or qjx qkP)
end
def yM : D -> D -> Option D
 | .int i, .int j => if qfm i j then some (.int (i * j)) else none
 | .tup ds, .int k => if (!ds.isEmpty && decide (2 <= k)) && qI (ds.length * k.toNat) then some (.tup (List.replicate k.toNat ds).flatten) else none
 | .lst ds, .int k => if (decide (-(2 ^ 62) <= k) && decide (k < 2 ^ 62)) && qI (ds.length * k.toNat) then some (.lst (List.replicate k.toNat ds).flatten) else none
 | _, _ => none
theorem IsL.rep {K : Fr0} {A : Addr -> Prop} {H : Hp} {ds : List D} {xs : List V} (h : IsL K A H ds xs) : ∀ k : Nat, IsL K A H (List.replicate k ds).flatten (List.replicate k xs).flatten
 | 0 => by simp [IsL]
 | k + 1 => by
  rw [List.replicate_succ, List.replicate_succ, List.flatten_cons, List.flatten_cons]
  exact IsL.append h (IsL.rep h k)
theorem zp {K : Fr0} : OpS K yM (qlh K) := by
 intro A H x y d v u Q hn ix iy e k
 cases x <;> cases y <;> simp only [yM] at e <;> try (cases e; done)
 ·rename_i i j
  obtain ⟨e1, e2⟩ := jB e
  subst e2
  cases ix; cases iy
  exact .inl ⟨i, j, rfl, rfl, qg3 e1, k _ H (jK.refl H) rfl⟩
 ·rename_i ds j
  obtain ⟨a, xs, rfl, ta, il⟩ := ix
  cases iy
  obtain ⟨e1, e2⟩ := jB e
  subst e2
  rw [Bool.and_eq_true, Bool.and_eq_true] at e1
  obtain ⟨⟨e3, e4⟩, e5⟩ := e1
  refine .inr (.inl ⟨a, xs, j, rfl, rfl, ta.sq, fun z => ?_, of_decide_eq_true e4, by rw [il.length]; exact of_decide_eq_true e5, fun p hp => k _ _ (qz hp _) ⟨p, _, rfl, .inl qv, IsL.ext (Ext.of_same (qz hp _)) (fun _ h _ => h) (IsL.rep il _)⟩⟩)
  have := il.length
  rw [z] at this
  have : ds = [] := List.length_eq_zero_iff.mp this.symm
  rw [this] at e3
  simp at e3
 ·rename_i ds j
  obtain ⟨a, xs, rfl, _, ta, il⟩ := ix
  cases iy
  obtain ⟨e1, e2⟩ := jB e
  subst e2
  rw [Bool.and_eq_true, Bool.and_eq_true] at e1
  obtain ⟨⟨e3, e4⟩, e5⟩ := e1
  have e3' := of_decide_eq_true e3
  have e4' := of_decide_eq_true e4
  refine .inr (.inr ⟨a, j, xs, rfl, rfl, ta, by omega, by omega, by rw [il.length]; exact of_decide_eq_true e5, fun p hp => k _ _ (qz hp _) ⟨p, _, rfl, hn p hp, qv, IsL.ext (Ext.of_same (qz hp _)) (fun _ h _ => h) (IsL.rep il _)⟩⟩)
def qhi : D -> Option D
 | .int i => some (.int (-i))
 | _ => none
def d1 (F : D -> Option D) (f : M D) : M D := bnd f fun x => lift (F x)
section
variable {X : Cx} {c : Fc} {a b e : Expr} {pos : Pos}
theorem qdC {f : M D} (h : DE X c a f) : DE X c (.UnaryOp .USub a pos) (d1 qhi f) := by
 obtain ⟨t, p, w⟩ := h
 refine ⟨_, qmx qkC p, fun ρ σ H Q r h => w ρ σ H _ r (Wp.bnd h fun d ρ1 v H1 r1 i1 g1 h1 => ?_)⟩
 obtain ⟨d', e, h2⟩ := h1.lift
 cases d <;> simp only [qhi] at e <;> try (cases e; done)
 rename_i i
 cases e
 cases i1
 exact ⟨i, rfl, h2 _ H1 r1 rfl .refl⟩
theorem qli {pins : List (Addr × Obj)} {σ : St} {H : Hp} {s : Shared} (I : Inv X pins σ H s) : sysModules < s.heap.objs.size := by
 obtain ⟨mb, h1, _⟩ := I.ok.mod.blt
 have hlt : builtinsNs < X.base.objs.size := h1.lt
 have hle : X.base.objs.size <= s.heap.objs.size := Nat.le_trans I.ok.bsz I.sz
 have hd : sysModules < builtinsNs \/ sysModules < mainGlobals := by decide
 have hg : mainGlobals < X.base.objs.size := I.ok.mod.glob.lt
 rcases hd with z | z
 ·exact Nat.lt_of_lt_of_le (Nat.lt_trans z hlt) hle
 ·exact Nat.lt_of_lt_of_le (Nat.lt_trans z hg) hle
def qnp (i j : Nat) (f : M (List D)) : MS := sbnd f fun ds ρ => match ds with
 | [d, e] => .ok (.nx ((ρ.set i (some d)).set j (some e)))
 | _ => .bad
mutual
def immF : D -> Bool
 | .tup ds => immFs ds
 | .lst _ => false
 | .dic _ => false
 | _ => true
def immFs : List D -> Bool
 | [] => true
 | d :: ds => immF d && immFs ds
end
mutual
theorem Is.immF {K : Fr0} {A B : Addr -> Prop} {H : Hp} : ∀ {d : D} {v : V}, immF d = true -> Is K A H d v -> Is K B H d v
 | .non, _, _, h => h
 | .bl _, _, _, h => h
 | .int _, _, _, h => h
 | .str _, _, _, h => h
 | .tup ds, _, i, ⟨a, xs, hv, h, r⟩ => ⟨a, xs, hv, h, IsL.immF (by simpa [Sk.immF] using i) r⟩
 | .lst _, _, i, _ => by simp [Sk.immF] at i
 | .dic _, _, i, _ => by simp [Sk.immF] at i
 | .fz _, _, _, h => h
 | .exc _, _, _, h => h
theorem IsL.immF {K : Fr0} {A B : Addr -> Prop} {H : Hp} : ∀ {ds : List D} {xs : List V}, immFs ds = true -> IsL K A H ds xs -> IsL K B H ds xs
 | [], _, _, h => h
 | d :: ds, _, i, ⟨x, ys, hx, h, r⟩ => by
  have i' : Sk.immF d = true /\ immFs ds = true := by simpa [immFs] using i
  exact ⟨x, ys, hx, Is.immF i'.1 h, IsL.immF i'.2 r⟩
end
def qeq (F : List D -> R D) (g : M (List D)) : M (List D) := bnd g fun ds ρ => if immFs ds then match F ds with
 | .ok (.lst bs) => if immL bs then .ok (bs, ρ) else .bad
 | _ => .bad else .bad
theorem qjy {k : Nat} {f : Addr} {fd : FuncData} {ps : List Str} {F : List D -> R D} {x : Str} {p : Pos} {es : List Expr} {g : M (List D)} (G : jX X.prog X.w X.K X.mg X.base CX0 k f fd ps (spD X.K F)) (hr : uS k X.A) (hg : Gl X x) (hm : X.mg x = some (.ref f)) (hk : PySem.W.keepIn X.K (.ref f) = true) (hb : vn X.K fd ps [])
  (ha : DA X c (e :: es) g) (hd : (x == ("__debug__" : Str)) = false := by decide) (he : starEach (e :: es) X.env = (false, eval e X.env) :: starEach es X.env := by rfl) (hpl : (backTo pos (starEach es X.env)).any (·.1) = false := by rfl) : DN X c (.Call (.Name x p) (e :: es) [] pos) (qeq F g) := by
 obtain ⟨t, pa, w⟩ := ha
 refine ⟨_, qbf G hr hg hm hk hb .nil qjb pa hd he hpl, fun ρ σ H Q r h => w ρ σ H _ r (WpL.bndN h fun ds ρ1 vs H1 r1 i1 g1 h1 => ?_)⟩
 rw [List.append_nil]
 by_cases him : immFs ds = true
 ·rw [if_pos him] at h1
  refine ⟨ds, fun _ => False, IsL.immF him i1, fun _ _ => trivial, ?_⟩
  cases ef : F ds with
  | bad => simp only [ef] at h1; exact h1.elim
  | exc z ρ' => simp only [ef] at h1; exact h1.elim
  | ok d =>
   cases d with
   | lst bs =>
    simp only [ef] at h1
    by_cases hb2 : immL bs = true
    ·rw [if_pos hb2] at h1
     intro v H' sm i
     obtain ⟨a, xs, rfl, hA, ha2, il⟩ := i
     have hn : H1 a = none := hA.elim False.elim id
     exact h1 a xs H' hn (r1.same sm) (r1.apart_same hn sm) ha2 trivial (IsL.imm hb2 il) (.of_same sm)
    ·rw [if_neg hb2] at h1; exact h1.elim
   | _ => simp only [ef] at h1; exact h1.elim
 ·rw [if_neg him] at h1; exact h1.elim
end
structure qjz (outer : Scope) (N : List Str) (scope : Scope) (N' : List Str) (nt : Nat) (fr : List Nat) : Prop where
 kind : scope.kind = .function
 nocell : ∀ y ∈ scope.names, y.2 ≠ .cell
 names : ∀ y ∈ scope.names, y.2 = .local -> scope.names.lookup y.1 = some .local
 frees : ∀ y ∈ scope.names, y.2 = .free -> outer.names.lookup y.1 = some .cell
 len : N'.length = nt + fr.length
 slots : ∀ p ∈ fr.zipIdx, N'[nt + p.2]? = N[p.1]? /\ ((N[p.1]?).bind fun x => scope.names.lookup x) = some .free
theorem qjz.ok {X : Cx} {outer : Scope} {N : List Str} {scope : Scope} {N' : List Str} {nt : Nat} {fr : List Nat} (S : qjz outer N scope N' nt fr) (h1 : X.env.scope = outer) (h2 : X.N = N) : jN X scope N' nt fr := by
 subst h1 h2
 refine ⟨S.kind, S.nocell, S.names, S.frees, S.len, fun i j h => ?_⟩
 have hm : (j, i) ∈ fr.zipIdx := by
  rw [List.mem_iff_getElem?]
  refine ⟨i, ?_⟩
  rw [List.getElem?_zipIdx, h]
  simp
 obtain ⟨h3, h4⟩ := S.slots (j, i) hm
 cases e : X.N[j]? with
 | none =>
  have h4' : ((X.N[j]?).bind fun x => scope.names.lookup x) = some .free := h4
  rw [e] at h4'; cases h4'
 | some x =>
  have h4' : ((X.N[j]?).bind fun x => scope.names.lookup x) = some .free := h4
  rw [e] at h4'
  exact ⟨x, by
    have h3' : N'[nt + i]? = X.N[j]? := h3
    rw [h3', e], rfl, h4'⟩
structure zU (P : Program) (w : World) (K : PySem.W.Frag) (mg : Str -> Option Value) (base : Heap) (k : Nat) (x : Str) (ps : List Str) (sp : Sp) : Prop where
 ex : ∃ f fd, jX P w K mg base CX0 k f fd ps sp /\ mg x = some (.ref f) /\ PySem.W.keepIn K (.ref f) = true /\ vn K fd ps []
end L2.Sk
namespace L2.Sk
open PySem PySem.Spec PyProof.Rows
theorem qch : bootBuiltins "len" = some (.builtin "len") := by decide +kernel
theorem qfE : bootBuiltins "max" = some (.builtin "max") := by decide +kernel
theorem qdD : bootBuiltins "min" = some (.builtin "min") := by decide +kernel
theorem qii : bootBuiltins "all" = some (.builtin "all") := by decide +kernel
theorem qlj : bootBuiltins "any" = some (.builtin "any") := by decide +kernel
theorem qlk : bootBuiltins "sum" = some (.builtin "sum") := by decide +kernel
theorem qfF : bootBuiltins "divmod" = some (.builtin "divmod") := by decide +kernel
theorem qll : bootBuiltins "int" = some (.type "int") := by decide +kernel
theorem qjA : bootBuiltins "bool" = some (.type "bool") := by decide +kernel
theorem qbp : bootBuiltins "tuple" = some (.type "tuple") := by decide +kernel
theorem qw : bootBuiltins "isinstance" = some (.builtin "isinstance") := by decide +kernel
def wv : MS := fun ρ => .ok (.nx ρ)
theorem zq {X : Cx} {c : Fc} : DSs X c [] wv := qje
theorem qT {X : Cx} : IxR X (fun x y H Q => qmH X.K x y H Q \/ qmI X.K x y H Q) := qfg.or qkK
theorem qjB {c : Fc} {nt : Nat} {fr : List Nat} {i j : Nat} (h1 : j ∈ c.O) (h2 : nt <= i) (h3 : fr[i - nt]? = some j) (h4 : ∀ p ∈ fr.zipIdx, nt + p.2 ≠ i -> p.1 ∉ c.O) : qhf c nt fr (some (i, j)) :=
 ⟨h1, h2, h3, fun k j' h hk => h4 (j', k) (by rw [List.mem_iff_getElem?]; exact ⟨k, by rw [List.getElem?_zipIdx, h]; simp⟩) hk⟩
def eqB (x y : D) : Option D := match sc2 x y with
 | some b => some (.bl b)
 | none => eqA x y
def neB (x y : D) : Option D := match sc2 x y with
 | some b => some (.bl (!b))
 | none => neA x y
theorem uN {X : Cx} {k : Nat} (hr : uS k X.A) : OpR X (compareOp .Eq) (fun x y H Q => rEq x y H Q \/ qgO X.K false x y H Q) := OpR.or qkD (qld hr)
theorem qaZ {X : Cx} {k : Nat} (hr : uS k X.A) : OpR X (compareOp .NotEq) (fun x y H Q => rNe x y H Q \/ qgO X.K true x y H Q) := OpR.or qmz (qle hr)
theorem jO {K : Fr0} : OpS K eqB (fun x y H Q => rEq x y H Q \/ qgO K false x y H Q) := by
 intro A H x y d v u Q hn ix iy e k
 unfold eqB at e
 cases e1 : sc2 x y with
 | some b => simp only [e1] at e; exact .inl (qjg A H x y d v u Q hn ix iy (by unfold eqS; rw [e1]; exact e) k)
 | none => simp only [e1] at e; exact .inr (qjt A H x y d v u Q hn ix iy e k)
theorem wB {K : Fr0} : OpS K neB (fun x y H Q => rNe x y H Q \/ qgO K true x y H Q) := by
 intro A H x y d v u Q hn ix iy e k
 unfold neB at e
 cases e1 : sc2 x y with
 | some b => simp only [e1] at e; exact .inl (qjh A H x y d v u Q hn ix iy (by unfold neS; rw [e1]; exact e) k)
 | none => simp only [e1] at e; exact .inr (qju A H x y d v u Q hn ix iy e k)
end L2.Sk
namespace L2.Sk
section
variable {α β : Type} {ρ : Env} {f g k : M D} {t u : M Bool} {l m : M (List D)} {p q r : MS}
theorem qfG (a : α) : ret a ρ = .ok (a, ρ) := rfl
theorem qfH (o : Option α) : lift o ρ = match o with | some a => .ok (a, ρ) | none => .bad := by cases o <;> rfl
theorem qmR {f : M α} {k : α -> M β} : bnd f k ρ = match f ρ with | .ok (a, ρ') => k a ρ' | .exc x ρ' => .exc x ρ' | .bad => .bad := rfl
theorem qmS (i : Nat) : dv i ρ = match ρ[i]? with | some (some d) => .ok (d, ρ) | _ => .bad := rfl
theorem jP : qb f l ρ = match f ρ with | .ok (d, ρ1) => (match l ρ1 with | .ok (ds, ρ2) => .ok (d :: ds, ρ2) | .exc x ρ' => .exc x ρ' | .bad => .bad) | .exc x ρ' => .exc x ρ' | .bad => .bad := by
 simp only [qb, bnd, sbnd]
 cases f ρ with
 | ok z =>
  obtain ⟨z1, ρ1⟩ := z
  simp only [ret]
  cases l ρ1 with
  | ok z => obtain ⟨z2, ρ2⟩ := z; rfl
  | exc x ρ' => rfl
  | bad => rfl
 | exc x ρ' => rfl
 | bad => rfl
theorem qfI : jm l ρ = match l ρ with | .ok (ds, ρ1) => (if qI ds.length then .ok (.tup ds, ρ1) else .bad) | .exc x ρ' => .exc x ρ' | .bad => .bad := by
 simp only [jm, bnd, sbnd]
 cases l ρ with
 | ok z =>
  obtain ⟨z1, ρ1⟩ := z
  cases h : qI z1.length <;> simp [h, lift, ret]
 | exc x ρ' => rfl
 | bad => rfl
theorem qdE : zP l ρ = match l ρ with | .ok (ds, ρ1) => (if qI ds.length then .ok (.lst ds, ρ1) else .bad) | .exc x ρ' => .exc x ρ' | .bad => .bad := by
 simp only [zP, bnd, sbnd]
 cases l ρ with
 | ok z =>
  obtain ⟨z1, ρ1⟩ := z
  cases h : qI z1.length <;> simp [h, lift, ret]
 | exc x ρ' => rfl
 | bad => rfl
theorem qij : qk9 l ρ = match l ρ with | .ok (ds, ρ1) => (if immL ds && qI ds.length then .ok (ds, ρ1) else .bad) | .exc x ρ' => .exc x ρ' | .bad => .bad := by
 simp only [qk9, bnd, sbnd]
 cases l ρ with
 | ok z =>
  obtain ⟨z1, ρ1⟩ := z
  cases h : (immL z1 && qI z1.length) <;> simp [h, lift, ret]
 | exc x ρ' => rfl
 | bad => rfl
theorem qkd (F : D -> D -> Option D) : d2 F f g ρ = match f ρ with | .ok (x, ρ1) => (match g ρ1 with | .ok (y, ρ2) => (match F x y with | some d => .ok (d, ρ2) | none => .bad) | .exc x ρ' => .exc x ρ' | .bad => .bad) | .exc x ρ' => .exc x ρ' | .bad => .bad := by
 simp only [d2, bnd, sbnd]
 cases f ρ with
 | ok z =>
  obtain ⟨z1, ρ1⟩ := z
  dsimp only <;>
  cases g ρ1 with
  | ok z => obtain ⟨z2, ρ2⟩ := z; (dsimp only; cases F z1 z2 <;> rfl)
  | exc x ρ' => rfl
  | bad => rfl
 | exc x ρ' => rfl
 | bad => rfl
theorem qnq (F : D -> Option D) : d1 F f ρ = match f ρ with | .ok (x, ρ1) => (match F x with | some d => .ok (d, ρ1) | none => .bad) | .exc x ρ' => .exc x ρ' | .bad => .bad := by
 simp only [d1, bnd, sbnd]
 cases f ρ with
 | ok z =>
  obtain ⟨z1, ρ1⟩ := z
  (dsimp only; cases F z1 <;> rfl)
 | exc x ρ' => rfl
 | bad => rfl
theorem qaq (F : List D -> Option D) : yK F l ρ = match l ρ with | .ok (xs, ρ1) => (match F xs with | some d => .ok (d, ρ1) | none => .bad) | .exc x ρ' => .exc x ρ' | .bad => .bad := by
 simp only [yK, bnd, sbnd]
 cases l ρ with
 | ok z =>
  obtain ⟨z1, ρ1⟩ := z
  (dsimp only; cases F z1 <;> rfl)
 | exc x ρ' => rfl
 | bad => rfl
theorem uD (F : List D -> R D) : qj F l ρ = match l ρ with | .ok (xs, ρ1) => (match F xs with | .ok d => .ok (d, ρ1) | _ => .bad) | .exc x ρ' => .exc x ρ' | .bad => .bad := by
 simp only [qj, bnd, sbnd]
 cases l ρ with
 | ok z =>
  obtain ⟨z1, ρ1⟩ := z
  cases F z1 <;> rfl
 | exc x ρ' => rfl
 | bad => rfl
theorem qik (T : String) : qjm T f ρ = match f ρ with | .ok (d, ρ1) => .ok (.bl (qcT (tyD d) T), ρ1) | .exc x ρ' => .exc x ρ' | .bad => .bad := by
 simp only [qjm, bnd, sbnd]
 cases f ρ with
 | ok z =>
  obtain ⟨z1, ρ1⟩ := z
  rfl
 | exc x ρ' => rfl
 | bad => rfl
theorem qhj : tst f ρ = match f ρ with | .ok (d, ρ1) => (match asB d with | some b => .ok (b, ρ1) | none => .bad) | .exc x ρ' => .exc x ρ' | .bad => .bad := by
 simp only [tst, bnd, sbnd]
 cases f ρ with
 | ok z =>
  obtain ⟨z1, ρ1⟩ := z
  (dsimp only; cases asB z1 <;> rfl)
 | exc x ρ' => rfl
 | bad => rfl
theorem wQ (b : Bool) : asB (.bl b) = some b := rfl
theorem qil : qeT t ρ = match t ρ with | .ok (b, ρ1) => .ok (!b, ρ1) | .exc x ρ' => .exc x ρ' | .bad => .bad := by
 simp only [qeT, bnd, sbnd]
 cases t ρ with
 | ok z =>
  obtain ⟨z1, ρ1⟩ := z
  rfl
 | exc x ρ' => rfl
 | bad => rfl
theorem qim : qnj t u ρ = match t ρ with | .ok (b, ρ1) => (bif b then u ρ1 else .ok (false, ρ1)) | .exc x ρ' => .exc x ρ' | .bad => .bad := by
 simp only [qnj, bnd, sbnd]
 cases t ρ with
 | ok z =>
  obtain ⟨z1, ρ1⟩ := z
  cases z1 <;> rfl
 | exc x ρ' => rfl
 | bad => rfl
theorem qlm : tor t u ρ = match t ρ with | .ok (b, ρ1) => (bif b then .ok (true, ρ1) else u ρ1) | .exc x ρ' => .exc x ρ' | .bad => .bad := by
 simp only [tor, bnd, sbnd]
 cases t ρ with
 | ok z =>
  obtain ⟨z1, ρ1⟩ := z
  cases z1 <;> rfl
 | exc x ρ' => rfl
 | bad => rfl
theorem qin : qjc f g ρ = match f ρ with | .ok (d, ρ1) => (match asB d with | some b => (bif b then g ρ1 else .ok (.bl false, ρ1)) | none => .bad) | .exc x ρ' => .exc x ρ' | .bad => .bad := by
 simp only [qjc, bnd, sbnd]
 cases f ρ with
 | ok z =>
  obtain ⟨z1, ρ1⟩ := z
  simp only [qfH]
  cases asB z1 with
  | none => rfl
  | some b => cases b <;> rfl
 | exc x ρ' => rfl
 | bad => rfl
theorem qln : dor f g ρ = match f ρ with | .ok (d, ρ1) => (match asB d with | some b => (bif b then .ok (.bl true, ρ1) else g ρ1) | none => .bad) | .exc x ρ' => .exc x ρ' | .bad => .bad := by
 simp only [dor, bnd, sbnd]
 cases f ρ with
 | ok z =>
  obtain ⟨z1, ρ1⟩ := z
  simp only [qfH]
  cases asB z1 with
  | none => rfl
  | some b => cases b <;> rfl
 | exc x ρ' => rfl
 | bad => rfl
theorem qio : qmc f ρ = match f ρ with | .ok (d, ρ1) => (match asB d with | some b => .ok (.bl (!b), ρ1) | none => .bad) | .exc x ρ' => .exc x ρ' | .bad => .bad := by
 simp only [qmc, bnd, sbnd]
 cases f ρ with
 | ok z =>
  obtain ⟨z1, ρ1⟩ := z
  simp only [qfH]
  cases asB z1 with
  | none => rfl
  | some b => cases b <;> rfl
 | exc x ρ' => rfl
 | bad => rfl
theorem qhk : dif t f g ρ = match t ρ with | .ok (b, ρ1) => (bif b then f ρ1 else g ρ1) | .exc x ρ' => .exc x ρ' | .bad => .bad := by
 simp only [dif, bnd, sbnd]
 cases t ρ with
 | ok z =>
  obtain ⟨z1, ρ1⟩ := z
  cases z1 <;> rfl
 | exc x ρ' => rfl
 | bad => rfl
theorem qfJ : sif t p q ρ = match t ρ with | .ok (b, ρ1) => (bif b then p ρ1 else q ρ1) | .exc x ρ' => .exc x ρ' | .bad => .bad := by
 simp only [sif, bnd, sbnd]
 cases t ρ with
 | ok z =>
  obtain ⟨z1, ρ1⟩ := z
  cases z1 <;> rfl
 | exc x ρ' => rfl
 | bad => rfl
theorem qip : zr p q ρ = match p ρ with | .ok (.nx ρ') => q ρ' | z => z := by
 unfold zr
 cases p ρ with
 | ok z => cases z <;> rfl
 | exc x ρ' => rfl
 | bad => rfl
theorem qa0 : yq f ρ = match f ρ with | .ok (d, ρ1) => .ok (.rt d ρ1) | .exc x ρ' => .exc x ρ' | .bad => .bad := by
 simp only [yq, bnd, sbnd]
 cases f ρ with
 | ok z =>
  obtain ⟨z1, ρ1⟩ := z
  rfl
 | exc x ρ' => rfl
 | bad => rfl
theorem qdF (i : Nat) : jL i f ρ = match f ρ with | .ok (d, ρ1) => .ok (.nx (ρ1.set i (some d))) | .exc x ρ' => .exc x ρ' | .bad => .bad := by
 simp only [jL, bnd, sbnd]
 cases f ρ with
 | ok z =>
  obtain ⟨z1, ρ1⟩ := z
  rfl
 | exc x ρ' => rfl
 | bad => rfl
theorem qcW (i : Nat) : qaR i l ρ = match l ρ with | .ok (ds, ρ1) => .ok (.nx (ρ1.set i (some (.lst ds)))) | .exc x ρ' => .exc x ρ' | .bad => .bad := by
 simp only [qaR, bnd, sbnd]
 cases l ρ with
 | ok z =>
  obtain ⟨z1, ρ1⟩ := z
  rfl
 | exc x ρ' => rfl
 | bad => rfl
theorem wC : zL f ρ = match f ρ with | .ok (_, ρ1) => .ok (.nx ρ1) | .exc x ρ' => .exc x ρ' | .bad => .bad := by
 simp only [zL, bnd, sbnd]
 cases f ρ with
 | ok z =>
  obtain ⟨z1, ρ1⟩ := z
  rfl
 | exc x ρ' => rfl
 | bad => rfl
theorem qiq : wv ρ = .ok (.nx ρ) := rfl
theorem qir (i j : Nat) : qnp i j l ρ = match l ρ with | .ok ([d, e], ρ1) => .ok (.nx ((ρ1.set i (some d)).set j (some e))) | .ok _ => .bad | .exc x ρ' => .exc x ρ' | .bad => .bad := by
 simp only [qnp, bnd, sbnd]
 cases l ρ with
 | ok z =>
  obtain ⟨z1, ρ1⟩ := z
  match z1 with
  | [] => rfl
  | [_] => rfl
  | [_, _] => rfl
  | _ :: _ :: _ :: _ => rfl
 | exc x ρ' => rfl
 | bad => rfl
theorem qis (G : D -> Env -> Option Env) : qmd f G ρ = match f ρ with | .ok (d, ρ1) => (match G d ρ1 with | some ρ2 => .ok (.nx ρ2) | none => .bad) | .exc x ρ' => .exc x ρ' | .bad => .bad := by
 simp only [qmd, bnd, sbnd]
 cases f ρ with
 | ok z =>
  obtain ⟨z1, ρ1⟩ := z
  dsimp only <;>
  cases G z1 ρ1 <;> rfl
 | exc x ρ' => rfl
 | bad => rfl
theorem vt (G : D -> Env -> Option Env) (b : MS) : qen l G b ρ = match l ρ with | .ok (ds, ρ1) => uA G b ds ρ1 | .exc x ρ' => .exc x ρ' | .bad => .bad := by
 simp only [qen, bnd, sbnd]
 cases l ρ with
 | ok z =>
  obtain ⟨z1, ρ1⟩ := z
  rfl
 | exc x ρ' => rfl
 | bad => rfl
theorem qdG : qaO f ρ = match f ρ with | .ok (d, ρ1) => (match qk7 d with | some ds => .ok (ds, ρ1) | none => .bad) | .exc x ρ' => .exc x ρ' | .bad => .bad := by
 simp only [qaO, bnd, sbnd]
 cases f ρ with
 | ok z =>
  obtain ⟨z1, ρ1⟩ := z
  (dsimp only; cases qk7 z1 <;> rfl)
 | exc x ρ' => rfl
 | bad => rfl
theorem qfK : zC l ρ = match l ρ with | .ok (d, ρ1) => (match qhd d with | some ds => .ok (ds, ρ1) | none => .bad) | .exc x ρ' => .exc x ρ' | .bad => .bad := by
 simp only [zC, bnd, sbnd]
 cases l ρ with
 | ok z =>
  obtain ⟨z1, ρ1⟩ := z
  (dsimp only; cases qhd z1 <;> rfl)
 | exc x ρ' => rfl
 | bad => rfl
theorem qit : qno l ρ = match l ρ with | .ok (d, ρ1) => (match qmQ d with | some ds => .ok (ds, ρ1) | none => .bad) | .exc x ρ' => .exc x ρ' | .bad => .bad := by
 simp only [qno, bnd, sbnd]
 cases l ρ with
 | ok z =>
  obtain ⟨z1, ρ1⟩ := z
  (dsimp only; cases qmQ z1 <;> rfl)
 | exc x ρ' => rfl
 | bad => rfl
theorem qar {nt : Nat} {fr : List Nat} {fo : Option (Nat × Nat)} {G : D -> Env -> Option Env} {e : M D} : qV nt fr fo l G t e ρ = match l ρ with
  | .ok (ds, ρ1) => (match zt G t e ds [] (z0 nt fr ρ1) with | .ok (ys, ρe) => .ok (.lst ys, qhe fo ρe ρ1) | _ => .bad) | .exc x ρ' => .exc x ρ' | .bad => .bad := by
 simp only [qV, bnd, sbnd]
 cases l ρ with
 | ok z =>
  obtain ⟨z1, ρ1⟩ := z
  dsimp only <;>
  cases zt G t e z1 [] (z0 nt fr ρ1) with
  | ok z => obtain ⟨z2, ρ2⟩ := z; rfl
  | exc x ρ' => rfl
  | bad => rfl
 | exc x ρ' => rfl
 | bad => rfl
theorem qas (F : List D -> List D -> R (D × List D)) (i : Nat) : qB F i l ρ = match zQ i ρ with
  | none => .bad
  | some _ => (match l ρ with
   | .ok (ds, ρ1) => (match zQ i ρ1 with
    | none => .bad
    | some bs => (match F bs ds with | .ok (d, bs') => .ok (d, ρ1.set i (some (.lst bs'))) | _ => .bad))
   | .exc x ρ' => .exc x ρ' | .bad => .bad) := by
 simp only [qB, bnd]
 cases zQ i ρ with
 | none => rfl
 | some _ =>
  dsimp only <;>
  cases l ρ with
  | ok z =>
   obtain ⟨z1, ρ1⟩ := z
   dsimp only <;>
   cases zQ i ρ1 with
   | none => rfl
   | some bs =>
    dsimp only <;>
    cases F bs z1 with
    | ok z => obtain ⟨z2, z3⟩ := z; rfl
    | exc x ρ' => rfl
    | bad => rfl
  | exc x ρ' => rfl
  | bad => rfl
theorem qfL (F : List D -> R D) : qeq F l ρ = match l ρ with
  | .ok (ds, ρ1) => (if immFs ds then (match F ds with | .ok (.lst bs) => (if immL bs then .ok (bs, ρ1) else .bad) | _ => .bad) else .bad) | .exc x ρ' => .exc x ρ' | .bad => .bad := by
 simp only [qeq, bnd, sbnd]
 cases l ρ with
 | ok z =>
  obtain ⟨z1, ρ1⟩ := z
  dsimp only <;>
  cases immFs z1 with
  | false => rfl
  | true =>
   simp only [if_true]
   cases F z1 with
   | ok z => cases z <;> rfl
   | exc x ρ' => rfl
   | bad => rfl
 | exc x ρ' => rfl
 | bad => rfl
theorem qfM (i : Nat) : qgN i f ρ = match zQ i ρ with
  | none => .bad
  | some _ => (match f ρ with
   | .ok (k, ρ1) => (match k, zQ i ρ1 with
    | .int n, some ds => (match atI ds n with | some d => .ok (d, ρ1) | none => .bad)
    | _, _ => .bad)
   | .exc x ρ' => .exc x ρ' | .bad => .bad) := by
 simp only [qgN, bnd]
 cases zQ i ρ with
 | none => rfl
 | some _ =>
  dsimp only <;>
  cases f ρ with
  | ok z =>
   obtain ⟨z1, ρ1⟩ := z
   dsimp only <;>
   cases z1 <;> cases zQ i ρ1 <;> try rfl
  | exc x ρ' => rfl
  | bad => rfl
theorem qfN (i : Nat) : qhg i k f ρ = match f ρ with
  | .ok (d, ρ1) => (match zQ i ρ1 with
   | none => .bad
   | some _ => (match k ρ1 with
    | .ok (j, ρ2) => (match j, zQ i ρ2 with
     | .int n, some ds => (match ixN ds.length n with
      | some q => if imm d then .ok (.nx (ρ2.set i (some (.lst (ds.set q d))))) else .bad
      | none => .bad)
     | _, _ => .bad)
    | .exc x ρ' => .exc x ρ' | .bad => .bad))
  | .exc x ρ' => .exc x ρ' | .bad => .bad := by
 simp only [qhg, bnd, sbnd]
 cases f ρ with
 | ok z =>
  obtain ⟨z1, ρ1⟩ := z
  dsimp only <;>
  cases zQ i ρ1 with
  | none => rfl
  | some _ =>
   dsimp only <;>
   cases k ρ1 with
   | ok z =>
    obtain ⟨z2, ρ2⟩ := z
    dsimp only <;>
    cases z2 <;> cases zQ i ρ2 <;> try rfl
   | exc x ρ' => rfl
   | bad => rfl
 | exc x ρ' => rfl
 | bad => rfl
theorem qfO (i : Nat) : qla i ρ = match zQ i ρ with | some ds => .ok (.int ds.length, ρ) | none => .bad := by
 unfold qla
 cases zQ i ρ <;> rfl
theorem qfP (i : Nat) : qfy i ρ = match zQ i ρ with | some ds => .ok (.tup ds, ρ) | none => .bad := by
 unfold qfy
 cases zQ i ρ <;> rfl
theorem qiu (i : Nat) : qnm i f ρ = match zQ i ρ with
  | none => .bad
  | some _ => (match f ρ with
   | .ok (y, ρ1) => (match zQ i ρ1 with
    | none => .bad
    | some ds => (match neA (.lst ds) y with | some d => .ok (d, ρ1) | none => .bad))
   | .exc x ρ' => .exc x ρ' | .bad => .bad) := by
 simp only [qnm, bnd]
 cases zQ i ρ with
 | none => rfl
 | some _ =>
  dsimp only <;>
  cases f ρ with
  | ok z =>
   obtain ⟨z1, ρ1⟩ := z
   dsimp only <;>
   cases zQ i ρ1 with
   | none => rfl
   | some ds => (dsimp only; cases neA (.lst ds) z1 <;> rfl)
  | exc x ρ' => rfl
  | bad => rfl
theorem qat (i : Nat) : uB i f ρ = match zQ i ρ with
  | none => .bad
  | some _ => (match f ρ with
   | .ok (d, ρ1) => (match zQ i ρ1 with
    | some ds => if imm d && qI (ds.length + 1) then .ok (.non, ρ1.set i (some (.lst (ds ++ [d])))) else .bad
    | none => .bad)
   | .exc x ρ' => .exc x ρ' | .bad => .bad) := by
 simp only [uB, bnd]
 cases zQ i ρ with
 | none => rfl
 | some _ =>
  dsimp only <;>
  cases f ρ with
  | ok z =>
   obtain ⟨z1, ρ1⟩ := z
   dsimp only <;>
   cases zQ i ρ1 <;> rfl
  | exc x ρ' => rfl
  | bad => rfl
theorem qlo {g k : M (Option Int)} : dsl f g k ρ = match f ρ with
  | .ok (d, ρ1) => (match g ρ1 with
   | .ok (lo, ρ2) => (match k ρ2 with
    | .ok (hi, ρ3) => (match slD d lo hi with | some x => .ok (x, ρ3) | none => .bad)
    | .exc x ρ' => .exc x ρ' | .bad => .bad)
   | .exc x ρ' => .exc x ρ' | .bad => .bad)
  | .exc x ρ' => .exc x ρ' | .bad => .bad := by
 simp only [dsl, bnd, sbnd]
 cases f ρ with
 | ok z =>
  obtain ⟨z1, ρ1⟩ := z
  dsimp only <;>
  cases g ρ1 with
  | ok z =>
   obtain ⟨z2, ρ2⟩ := z
   dsimp only <;>
   cases k ρ2 with
   | ok z => obtain ⟨z3, ρ3⟩ := z; (dsimp only; cases slD z1 z2 z3 <;> rfl)
   | exc x ρ' => rfl
   | bad => rfl
  | exc x ρ' => rfl
  | bad => rfl
 | exc x ρ' => rfl
 | bad => rfl
theorem qfQ : qk2 f ρ = match f ρ with | .ok (.int i, ρ1) => .ok (some i, ρ1) | .ok _ => .bad | .exc x ρ' => .exc x ρ' | .bad => .bad := by
 simp only [qk2, bnd, sbnd]
 cases f ρ with
 | ok z =>
  obtain ⟨z1, ρ1⟩ := z
  cases z1 <;> rfl
 | exc x ρ' => rfl
 | bad => rfl
end
theorem yD {n : Nat} (h : n <= 1000000) : qI n = true := by
 unfold qI
 exact decide_eq_true (Nat.le_trans h (by rw [PySem.sizeLine_eq]; decide))
theorem qjC {n p : Nat} {body : MS} {ds : List D} {d : D} {ρ : Env} (h : ds.length = p) (e : body (yL n ds) = .ok (.rt d ρ)) : dfn n p body ds = .ok d := by
 unfold dfn; rw [if_pos h, e]
theorem qiv {n p : Nat} {body : MS} {bs ds bs' : List D} {d : D} {ρ : Env} (h : ds.length + 1 = p) (e : body (yL n (.lst bs :: ds)) = .ok (.rt d ρ)) (g : zQ 0 ρ = some bs') : qbn n p body bs ds = .ok (d, bs') := by
 unfold qbn; rw [if_pos h, e]; simp only [g]
end L2.Sk
namespace L2.Sk
open PySem PySem.Spec PyProof.Rows
section
variable {prog : Program} {w : World} {A : Around} {E : Value -> Shared -> Prop} {s : Shared}
theorem qfR {l : Addr} {xs : Array Value} {Q : Value -> Shared -> Prop} (t1 : s.heap.IsTuple l xs)
  (fin : ∀ h', IsEnum h' (s.heap.objs.size + 1) s.heap.objs.size 0 .none -> h'.IsTupleIter s.heap.objs.size l 0 -> (∀ c o, s.heap.get? c = some o -> h'.get? c = some o) -> Q (.ref (s.heap.objs.size + 1)) { s with heap := h' }) :
  wpAny (model prog w) A (call (.type "enumerate") [.ref l]) Q E s := by
 have meets : Meets (Builtin.«enumerate.__new__» ⟨[.type "enumerate", .ref l], []⟩) (fun _ R s => s.heap.IsTuple l xs /\
   R (.ok (.ret (.ref (s.heap.objs.size + 1)))) { s with heap := (s.heap.push { cls := .type "tuple_iterator", data := .fields #[.ref l, .int 0 0] }).push { cls := .type "enumerate", data := .fields #[.none, .bool false, .ref s.heap.objs.size, rawInt 0, .none, .none] } }) :=
  .of_wp fun prog w A R s h => by
   obtain ⟨hp, g, d, tk, os⟩ := s
   obtain ⟨ha, h⟩ := h
   have hsub := sub_enumerate
   have hA : Heap.IsTuple (Shared.heap ⟨hp, g, d, tk, os⟩) l xs := ha
   obtain ⟨o, ho, _⟩ := id ha
   have ho' : hp.get? l = some o := ho
   wp_walk using AutoSeq1.wpAny_loadPart' ho'
   refine wpAny_stack_any fun st => wpAny_pure ?_
   split
   ·rename_i c _ _ _ _ _
    cases (c == Value.type "enumerate")
    ·wp_walk using AutoSeq1.wpAny_loadPart' ho', wpAny_pyIter_tuple hA
     simp only [Heap.size_push] at *
     exact ⟨_, rfl, h⟩
    ·wp_walk using AutoSeq1.wpAny_loadPart' ho', wpAny_pyIter_tuple hA
     simp only [Heap.size_push] at *
     exact ⟨_, rfl, h⟩
   ·wp_walk using AutoSeq1.wpAny_loadPart' ho', wpAny_pyIter_tuple hA
    simp only [Heap.size_push] at *
    exact ⟨_, rfl, h⟩
 refine callType_new F.called_enumerate (by decide) (F.typeCall_enumerate_1 _) (F.newCall_enumerate_1 _) (fun obj => F.args_object_init_2 obj _) F.entry_enumerate_new meets ⟨t1, ?_⟩
 generalize e1 : s.heap.push { cls := .type "tuple_iterator", data := .fields #[.ref l, .int 0 0] } = m1
 have s1 : m1.objs.size = s.heap.objs.size + 1 := by rw [<- e1, Heap.size_push]
 have q1 : m1.get? s.heap.objs.size = some { cls := .type "tuple_iterator", data := .fields #[.ref l, .int 0 0] } := by rw [<- e1]; exact Heap.get?_push_size _ rfl
 have k1 : ∀ c o, s.heap.get? c = some o -> m1.get? c = some o := fun c o x => by rw [<- e1]; exact Heap.get?_push_of_some _ x
 generalize e2 : m1.push { cls := .type "enumerate", data := .fields #[.none, .bool false, .ref s.heap.objs.size, rawInt 0, .none, .none] } = m2
 have q2 : m2.get? (s.heap.objs.size + 1) = some { cls := .type "enumerate", data := .fields #[.none, .bool false, .ref s.heap.objs.size, rawInt 0, .none, .none] } := by rw [<- e2, <- s1]; exact Heap.get?_push_size _ rfl
 have k2 : ∀ c o, m1.get? c = some o -> m2.get? c = some o := fun c o x => by rw [<- e2]; exact Heap.get?_push_of_some _ x
 show _ /\ _
 exact ⟨⟨_, q2, rfl⟩, fin m2 q2 ⟨_, k2 _ _ q1, rfl, rfl⟩ fun c o x => k2 _ _ (k1 _ _ x)⟩
end
def Ite (K : Fr0) (a : Addr) (xs : List V) : It :=
 ⟨fun i H => i < xs.length /\ SqT K H a xs, fun i H x H' => ∃ p u, H p = none /\ xs[i]? = some u /\ x = .ref p /\ H' = upd H p (.tup [.int i, u]), fun i H => i = xs.length /\ SqT K H a xs⟩
def ESt (z i1 a1 : Addr) (i : Nat) (h : Heap) : Prop := (∃ old, IsEnum h z i1 i old) /\ h.IsTupleIter i1 a1 i
theorem qfS {P : Program} {w : World} {K : Fr0} {es : List Expr} {kk : Nat} {pos : Pos} {z i1 a1 : Addr} {xs : List V} (zi : z ≠ i1) (za : z ≠ a1) (n1 : a1 ≠ i1) :
  qi0 P w K (.Tuple es kk pos) (Ite K a1 xs) [z, i1] z (ESt z i1 a1) where
 mem := by simp
 obj := fun i h st b hb => by
  obtain ⟨⟨old, h1⟩, ⟨o4, h4, c4, d4⟩⟩ := st
  simp only [List.mem_cons, List.not_mem_nil, or_false] at hb
  rcases hb with rfl | rfl
  ·exact ⟨_, h1, fun v e => by cases (show Data.fields _ = Data.cell v from e)⟩
  ·exact ⟨_, h4, fun v e => by rw [d4] at e; cases e⟩
 keep := fun i h h' st k => by
  obtain ⟨⟨old, h1⟩, h4⟩ := st
  exact ⟨⟨old, k z (by simp) _ h1⟩, h4.at fun o e => k i1 (by simp) o e⟩
 item := by
  intro X hP hw hK hc i pins s σ H E I hf st hg
  subst hP hw hK
  obtain ⟨hlt, hx⟩ := hg
  obtain ⟨⟨old, h1⟩, h4⟩ := st
  obtain ⟨it1, r1, p1, z1⟩ := I.tuple hx
  have l1 : i < it1.toArray.size := by rw [List.size_toArray, <- r1.length]; omega
  have hh : X.A.in1.handled = none := I.ok.hd hc
  refine wpAny_pyNext_enum_itemD (qdB hh i1 a1 n1 it1.toArray) h1 ⟨h4, p1⟩ l1 zi (by simp [zi, za]) fun x h' tk px ho u1 new hsz kp => ?_
  refine ⟨.ref s.heap.objs.size, rfl, wpAny_letOwnedTupleGo_enum ho fun h2' zz2 sb => ?_⟩
  obtain ⟨xv, hxv⟩ : ∃ v, xs[i]? = some v := ⟨xs[i]'(by omega), List.getElem?_eq_getElem (by omega)⟩
  obtain ⟨x', ex, rx⟩ := r1.get hxv
  have exx : x' = x := by
   have : it1.toArray[i]? = some x := px
   rw [List.getElem?_toArray, ex] at this
   exact Option.some.inj this
  subst exx
  have lz : z < s.heap.objs.size := Heap.lt_size h1
  have keep : ∀ b u, b ∉ [z, i1] -> s.heap.get? b = some u -> h2'.get? b = some u := fun b u hb e => by
   simp only [List.mem_cons, List.not_mem_nil, or_false, not_or] at hb
   exact (sb.2 b hb.1).trans (kp b u hb.1 hb.2 e)
  have I2 : Inv X pins σ (upd H s.heap.objs.size (.tup [.int i, xv])) { s with heap := h2', toks := tk + 1 } :=
   qfC I keep hf (Nat.le_refl _) ⟨by show 2 <= sizeLine; decide, [.int i tk, x'], .cons ⟨tk, rfl⟩ (.cons rx .nil), ⟨_, (sb.2 _ (Nat.ne_of_gt lz)).trans new, rfl, _, rfl⟩⟩
  refine ⟨.ref s.heap.objs.size, upd H s.heap.objs.size (.tup [.int i, xv]), I2, rfl, ⟨s.heap.objs.size, xv, I.hok.fresh (Nat.le_refl _), hxv, rfl, rfl⟩, ?_, fun b hb => ?_⟩
  ·exact ⟨⟨_, by simpa using zz2⟩, u1.1.at fun o e => (sb.2 i1 zi.symm).trans e⟩
  ·have hb1 : b ≠ s.heap.objs.size := by
    simp only [List.mem_cons, List.not_mem_nil, or_false] at hb
    obtain ⟨o4, g4, _⟩ := h4
    rcases hb with rfl | rfl
    ·exact Nat.ne_of_lt (Heap.lt_size h1)
    ·exact Nat.ne_of_lt (Heap.lt_size g4)
   rw [qt hb1]
   exact (hf b hb).1
 done := by
  intro X hP hw hK hc i pins s σ H E I hf st hg
  subst hP hw hK
  obtain ⟨hlt, hx⟩ := hg
  obtain ⟨⟨old, h1⟩, h4⟩ := st
  obtain ⟨it1, r1, p1, z1⟩ := I.tuple hx
  have hh : X.A.in1.handled = none := I.ok.hd hc
  have e : i = it1.toArray.size := by rw [List.size_toArray, <- r1.length]; exact hlt
  subst e
  refine wpAny_pyNext_enum_endD (qdB hh i1 a1 n1 it1.toArray) h1 ⟨h4, p1⟩ fun h' kp => ⟨rfl, qfD (t' := s.toks) I (fun b u hb e => ?_) hf⟩
  simp only [List.mem_cons, List.not_mem_nil, or_false, not_or] at hb
  exact kp b u hb.2 e
 self := fun A i s Q E st h => by
  obtain ⟨⟨old, h1⟩, _⟩ := st
  exact wpAny_pyIter_enum h1 h
section
variable {X : Cx} {c : Fc} {a b e : Expr} {pos : Pos} {es : List Expr} {kk : Nat} {tp : Pos}
def qmT (K : Fr0) (ta : TA) : TI := fun σ H R => ta σ H fun vs H1 => ∃ a1 xs, vs = [.ref a1] /\ SqT K H1 a1 xs /\ R (Ite K a1 xs) H1
theorem qjD {ta : TA} {p : Pos} (hg : Gl X "enumerate") (hm : X.mg "enumerate" = none) (ha : PA X [a] ta) (hs : starEach [a] X.env = [(false, eval a X.env)] := by rfl) :
  PI X (.Tuple es kk tp) (.Call (.Name "enumerate" p) [a] [] pos) (qmT X.K ta) := by
 intro pins s σ H R I h
 refine Call_ (vo I hg hm PyProof.Rows.boot_enumerate (PyProof.Rows.callWith_type1 (thn (ha pos pins s σ H _ I h) fun us s1 ⟨vs, H1, I1, r1, q1⟩ => ?_) (by rw [hs]; rfl) (by rfl)))
 obtain ⟨a1, xs, e1, hx, q⟩ := q1
 subst e1
 obtain ⟨u1, rfl, ru1⟩ := zh.one r1
 cases (show u1 = Value.ref a1 from ru1)
 obtain ⟨it1, v1, p1, z1⟩ := I1.tuple hx
 refine qfR (show s1.heap.IsTuple a1 it1.toArray from p1) fun h' zz g1 kp => ?_
 refine wpAny_pyIter_enum zz ?_
 have la1 : a1 < s1.heap.objs.size := by obtain ⟨o, e, _⟩ := p1; exact Heap.lt_size e
 refine ⟨s1.heap.objs.size + 1, [s1.heap.objs.size + 1, s1.heap.objs.size], _, _, H1, rfl, I1.kept (t' := s1.toks) kp, qfS (xs := xs) (Nat.succ_ne_self _) (Nat.ne_of_gt (Nat.lt_succ_of_lt la1)) (Nat.ne_of_lt la1), ⟨⟨_, zz⟩, g1⟩, fun b hb => ?_, q⟩
 simp only [List.mem_cons, List.not_mem_nil, or_false] at hb
 have hb2 : s1.heap.objs.size <= b := by
  rcases hb with e | e <;> rw [e]
  ·exact Nat.le_add_right _ _
  ·exact Nat.le_refl _
 exact I1.fpOk hb2 (I1.hok.fresh hb2)
def uE (k : Nat) : List D -> List D
 | [] => []
 | x :: xs => .tup [.int (k : Nat), x] :: uE (k + 1) xs
theorem uY : ∀ (k : Nat) (xs : List D), (uE k xs).length = xs.length
 | _, [] => rfl
 | k, x :: xs => by simp [uE, uY (k + 1) xs]
theorem qau : ∀ {xs : List D} {k i : Nat} {d : D}, (uE k xs)[i]? = some d -> ∃ x, xs[i]? = some x /\ d = .tup [.int ((k + i : Nat) : Int), x]
 | [], _, _, _, h => by simp [uE] at h
 | x :: xs, k, 0, d, h => by
  have : D.tup [.int (k : Nat), x] = d := by simpa [uE] using h
  exact ⟨x, rfl, this.symm⟩
 | x :: xs, k, i + 1, d, h => by
  obtain ⟨y, h1, h2⟩ := qau (xs := xs) (k := k + 1) (i := i) (d := d) (by simpa [uE] using h)
  exact ⟨y, by simpa using h1, by rw [h2]; congr 4; omega⟩
theorem qjE {K : Fr0} {A : Addr -> Prop} {H : Hp} {ds : List D} {xs : List V} {a1 : Addr} (t1 : vE K H a1 xs) (i1 : IsL K A H ds xs) : qft K A H (uE 0 ds) (Ite K a1 xs) where
 go := fun H' i d ex hd => by
  have hl : i < (uE 0 ds).length := (List.getElem?_eq_some_iff.mp hd).1
  rw [uY, <- i1.length] at hl
  exact ⟨hl, (t1.elim (fun h => .inl (ex.tup _ _ h)) .inr : vE K H' a1 xs).sq⟩
 yl := fun H' i d x H'' ex hd y => by
  obtain ⟨p, u, hp, hu, rfl, rfl⟩ := y
  obtain ⟨dx, h1, rfl⟩ := qau hd
  obtain ⟨u', g1, g2⟩ := i1.get h1
  rw [hu] at g1
  cases g1
  have sm := qz hp (.tup [.int i, u])
  exact ⟨sm, p, [.int i, u], rfl, .inl qv, .int i, [u], rfl, by rw [Nat.zero_add]; rfl, u, [], rfl, Is.ext (Ext.of_same sm) (fun _ h _ => h) (Is.ext ex (fun _ h _ => h) g2), rfl⟩
 stop := fun H' ex => ⟨by rw [uY, i1.length], (t1.elim (fun h => .inl (ex.tup _ _ h)) .inr : vE K H' a1 xs).sq⟩
def qhl : List D -> Option (List D)
 | [.tup xs] => some (uE 0 xs)
 | _ => none
def qfT (f : M (List D)) : M (List D) := bnd f fun ds => lift (qhl ds)
theorem qjF {f : M (List D)} {p : Pos} (hg : Gl X "enumerate") (hm : X.mg "enumerate" = none) (ha : DA X c [a] f) (hs : starEach [a] X.env = [(false, eval a X.env)] := by rfl) :
  DI X c (.Tuple es kk tp) (.Call (.Name "enumerate" p) [a] [] pos) (qfT f) := by
 obtain ⟨t, pa, w⟩ := ha
 refine ⟨_, qjD hg hm pa hs, fun ρ σ H Q r h => w ρ σ H _ r (WpL.bndI h fun ds ρ1 vs H1 r1 i1 g1 h1 => ?_)⟩
 obtain ⟨es', e, h2⟩ := uz h1
 unfold qhl at e
 split at e
 ·obtain ⟨v, rfl, j1⟩ := IsL.inv1 i1
  cases e
  obtain ⟨a1, xs, rfl, t1, il1⟩ := Is.tr j1
  exact ⟨a1, xs, rfl, t1.sq, h2 _ H1 r1 (qjE t1 il1) .refl⟩
 ·cases e
end
def vD : D -> V
 | .bl b => .bl b
 | .int i => .int i
 | .str x => .str x
 | _ => .non
def flD : D -> Bool
 | .non => true
 | .bl _ => true
 | .int _ => true
 | .str _ => true
 | _ => false
def sqD : D -> Option (List D)
 | .tup ds => some ds
 | .lst ds => some ds
 | _ => none
def inD (x y : D) : Option D := match sqD y with
 | some ds => if flD x && ds.all flD then some (.bl (ds.any fun d => eqV (vD d) (vD x))) else none
 | none => none
theorem qcX {l : M (List D)} {ρ : Env} : qfT l ρ = match l ρ with | .ok (d, ρ1) => (match qhl d with | some ds => .ok (ds, ρ1) | none => .bad) | .exc x ρ' => .exc x ρ' | .bad => .bad := by
 simp only [qfT, bnd]
 cases l ρ with
 | ok z => obtain ⟨z1, ρ1⟩ := z; (dsimp only; cases qhl z1 <;> rfl)
 | exc x ρ' => rfl
 | bad => rfl
end L2.Sk
namespace L2.Sk
open PySem PySem.Spec PyProof.Rows
section
variable {X : Cx} {tg iter elt : Expr} {ifs : List Expr} {scope : Scope} {pos : Pos} {wi : TI} {N' : List Str} {nt : Nat} {fr : List Nat}
end
section
variable {X : Cx} {c : Fc}
end
end L2.Sk
namespace L2.Sk
open PySem PySem.Spec PyProof.Rows
def qcJ : List Int -> Int
 | [] => 0
 | [n] => n
 | n :: m :: ns => max n (qcJ (m :: ns))
def qcY : List Int -> Int
 | [] => 0
 | [n] => n
 | n :: m :: ns => min n (qcY (m :: ns))
theorem qdH : ∀ (n : Int) (ns : List Int), qcJ (n :: ns) ∈ n :: ns
 | n, [] => List.mem_cons_self
 | n, m :: ns => by
  have h := qdH m ns
  show max n (qcJ (m :: ns)) ∈ _
  rw [Int.max_def]
  split
  ·exact List.mem_cons_of_mem _ h
  ·exact List.mem_cons_self
theorem qfU : ∀ (n : Int) (ns : List Int), ∀ k ∈ n :: ns, k <= qcJ (n :: ns)
 | n, [] => fun k hk => by
  have : k = n := by simpa using hk
  rw [this]; exact Int.le_refl _
 | n, m :: ns => fun k hk => by
  have h := qfU m ns
  show k <= max n (qcJ (m :: ns))
  rcases List.mem_cons.mp hk with rfl | hk
  ·exact Int.le_max_left ..
  ·exact Int.le_trans (h k hk) (Int.le_max_right ..)
theorem qdI : ∀ (n : Int) (ns : List Int), qcY (n :: ns) ∈ n :: ns
 | n, [] => List.mem_cons_self
 | n, m :: ns => by
  have h := qdI m ns
  show min n (qcY (m :: ns)) ∈ _
  rw [Int.min_def]
  split
  ·exact List.mem_cons_self
  ·exact List.mem_cons_of_mem _ h
theorem qfV : ∀ (n : Int) (ns : List Int), ∀ k ∈ n :: ns, qcY (n :: ns) <= k
 | n, [] => fun k hk => by
  have : k = n := by simpa using hk
  rw [this]; exact Int.le_refl _
 | n, m :: ns => fun k hk => by
  have h := qfV m ns
  show min n (qcY (m :: ns)) <= k
  rcases List.mem_cons.mp hk with rfl | hk
  ·exact Int.min_le_left ..
  ·exact Int.le_trans (Int.min_le_right ..) (h k hk)
theorem qbq {ns : List Int} {z : Int} (h1 : z ∈ ns) (h2 : ∀ n ∈ ns, n <= z) : qcJ ns = z := by
 cases ns with
 | nil => cases h1
 | cons n ns => exact Int.le_antisymm (h2 _ (qdH n ns)) (qfU n ns z h1)
theorem qcZ {ns : List Int} {z : Int} (h1 : z ∈ ns) (h2 : ∀ n ∈ ns, z <= n) : qcY ns = z := by
 cases ns with
 | nil => cases h1
 | cons n ns => exact Int.le_antisymm (qfV n ns z h1) (h2 _ (qdI n ns))
theorem yr {zs : Array (Int × Tok)} {i : Nat} (h : i < zs.size) : (zs.toList.map (·.1))[i]? = some (numAt zs i) := by
 have h' : i < zs.toList.length := by simpa using h
 rw [List.getElem?_map, List.getElem?_eq_getElem h']
 simp [numAt, h]
section
variable {X : Cx}
theorem qfW (hc : X.calm = true) : yJ X (.builtin "max") (fun xs H Q => ∃ (p : Addr) (ns : List Int), xs = [.ref p] /\ H p = some (.lst (ns.map V.int)) /\ ns ≠ [] /\ Q (.int (qcJ ns)) H) := by
 intro pins s σ H xs us Q I r h
 obtain ⟨p, ns, rfl, hp, hne, q⟩ := h
 obtain ⟨u, rfl, ru⟩ := zh.one r
 cases ru
 obtain ⟨its, rv, pl, hz⟩ := I.list (SqL.of hp)
 have hl := pl.isList
 have hi : IntsAre its ns := yR rv
 obtain ⟨zs, hx⟩ := hi.allInts.items
 have hl' : s.heap.IsList p (intItems zs) := hx ▸ hl
 have e1 : ns = zs.toList.map (·.1) := by
  rw [<- nums_intItems, <- hx]
  exact (show numsOf its.toArray.toList = ns from hi.numsOf).symm
 have hsz : 0 < zs.size := by
  cases hzz : zs.toList with
  | nil => rw [hzz] at e1; exact absurd e1 hne
  | cons a b =>
   have : zs.size = zs.toList.length := by simp
   rw [this, hzz]; simp
 refine max_intList (I.ok.hd hc) hl' hsz fun v h' tk hv hk => ?_
 obtain ⟨t, rfl⟩ := intItems_at hv
 obtain ⟨b1, b2⟩ := argBest_gt (numAt zs) (zs.size - 1)
 have e2 : qcJ ns = numAt zs (argBest (fun i j => decide (numAt zs i > numAt zs j)) (zs.size - 1)) := by
  refine qbq ?_ fun n hn => ?_
  ·rw [e1]
   exact List.mem_of_getElem? (yr (by omega))
  ·rw [e1] at hn
   obtain ⟨j, hj⟩ := List.mem_iff_getElem?.mp hn
   have hj2 : j < zs.size := by
    have := (List.getElem?_eq_some_iff.mp hj).1
    simpa using this
   rw [yr hj2] at hj
   cases hj
   exact b2 j (by omega)
 rw [<- e2]
 exact ⟨.int _, H, I.kept hk, ⟨_, rfl⟩, q⟩
theorem qfX (hc : X.calm = true) : yJ X (.builtin "min") (fun xs H Q => ∃ (p : Addr) (ns : List Int), xs = [.ref p] /\ H p = some (.lst (ns.map V.int)) /\ ns ≠ [] /\ Q (.int (qcY ns)) H) := by
 intro pins s σ H xs us Q I r h
 obtain ⟨p, ns, rfl, hp, hne, q⟩ := h
 obtain ⟨u, rfl, ru⟩ := zh.one r
 cases ru
 obtain ⟨its, rv, pl, hz⟩ := I.list (SqL.of hp)
 have hl := pl.isList
 have hi : IntsAre its ns := yR rv
 obtain ⟨zs, hx⟩ := hi.allInts.items
 have hl' : s.heap.IsList p (intItems zs) := hx ▸ hl
 have e1 : ns = zs.toList.map (·.1) := by
  rw [<- nums_intItems, <- hx]
  exact (show numsOf its.toArray.toList = ns from hi.numsOf).symm
 have hsz : 0 < zs.size := by
  cases hzz : zs.toList with
  | nil => rw [hzz] at e1; exact absurd e1 hne
  | cons a b =>
   have : zs.size = zs.toList.length := by simp
   rw [this, hzz]; simp
 refine min_intList (I.ok.hd hc) hl' hsz fun v h' tk hv hk => ?_
 obtain ⟨t, rfl⟩ := intItems_at hv
 obtain ⟨b1, b2⟩ := argBest_lt (numAt zs) (zs.size - 1)
 have e2 : qcY ns = numAt zs (argBest (fun i j => decide (numAt zs i < numAt zs j)) (zs.size - 1)) := by
  refine qcZ ?_ fun n hn => ?_
  ·rw [e1]
   exact List.mem_of_getElem? (yr (by omega))
  ·rw [e1] at hn
   obtain ⟨j, hj⟩ := List.mem_iff_getElem?.mp hn
   have hj2 : j < zs.size := by
    have := (List.getElem?_eq_some_iff.mp hj).1
    simpa using this
   rw [yr hj2] at hj
   cases hj
   exact b2 j (by omega)
 rw [<- e2]
 exact ⟨.int _, H, I.kept hk, ⟨_, rfl⟩, q⟩
end
def qjG : List D -> Option D
 | [.lst ds] => match uX ds with
  | some (n :: ns) => some (.int (qcJ (n :: ns)))
  | _ => none
 | _ => none
def qhm : List D -> Option D
 | [.lst ds] => match uX ds with
  | some (n :: ns) => some (.int (qcY (n :: ns)))
  | _ => none
 | _ => none
theorem qer {K : Fr0} : ww K qjG (fun xs H Q => ∃ (p : Addr) (ns : List Int), xs = [.ref p] /\ H p = some (.lst (ns.map V.int)) /\ ns ≠ [] /\ Q (.int (qcJ ns)) H) := by
 intro A H xs d vs Q hn h e k
 unfold qjG at e
 split at e
 ·obtain ⟨v, rfl, a, zs, rfl, _, ta, il⟩ := IsL.inv1 h
  split at e
  ·rename_i n ns hi
   cases e
   rw [j8 il hi] at ta
   exact ⟨a, n :: ns, rfl, ta, by simp, k _ H (jK.refl H) rfl⟩
  ·cases e
 ·cases e
theorem qes {K : Fr0} : ww K qhm (fun xs H Q => ∃ (p : Addr) (ns : List Int), xs = [.ref p] /\ H p = some (.lst (ns.map V.int)) /\ ns ≠ [] /\ Q (.int (qcY ns)) H) := by
 intro A H xs d vs Q hn h e k
 unfold qhm at e
 split at e
 ·obtain ⟨v, rfl, a, zs, rfl, _, ta, il⟩ := IsL.inv1 h
  split at e
  ·rename_i n ns hi
   cases e
   rw [j8 il hi] at ta
   exact ⟨a, n :: ns, rfl, ta, by simp, k _ H (jK.refl H) rfl⟩
  ·cases e
 ·cases e
end L2.Sk
namespace L2.Sk
open PySem PySem.Spec PyProof.Rows
def vT (t : M Bool) (b : MS) : Nat -> MS
 | 0, _ => .bad
 | n + 1, ρ => match t ρ with
  | .ok (true, ρ1) => match b ρ1 with
   | .ok (.nx ρ2) => vT t b n ρ2
   | .ok (.ct ρ2) => vT t b n ρ2
   | .ok (.bk ρ2) => .ok (.nx ρ2)
   | .ok (.rt d ρ2) => .ok (.rt d ρ2)
   | .exc x ρ2 => .exc x ρ2
   | .bad => .bad
  | .ok (false, ρ1) => .ok (.nx ρ1)
  | .exc x ρ1 => .exc x ρ1
  | .bad => .bad
open Classical in
noncomputable def qa1 (t : M Bool) (b : MS) : MS := fun ρ => if h : ∃ n, vT t b n ρ ≠ .bad then vT t b h.choose ρ else .bad
theorem ve {t : M Bool} {b : MS} : ∀ {n : Nat} {ρ : Env} (k : Nat), vT t b n ρ ≠ .bad -> vT t b (n + k) ρ = vT t b n ρ
 | 0, ρ, k, h => absurd rfl h
 | n + 1, ρ, k, h => by
  have e : n + 1 + k = (n + k) + 1 := by omega
  rw [e]
  unfold vT at h |-
  cases et : t ρ with
  | ok p =>
   obtain ⟨v, ρ1⟩ := p
   rw [et] at h
   cases v with
   | false => rfl
   | true =>
    dsimp only at h |-
    cases eb : b ρ1 with
    | ok fl =>
     rw [eb] at h
     cases fl with
     | nx ρ2 => exact ve k h
     | ct ρ2 => exact ve k h
     | bk ρ2 => rfl
     | rt d ρ2 => rfl
    | exc x ρ2 => rfl
    | bad => rfl
  | exc x ρ1 => rfl
  | bad => rfl
theorem qfY {t : M Bool} {b : MS} {n : Nat} {ρ : Env} {r : R Fl} (h : vT t b n ρ = r) (hb : r ≠ .bad) : qa1 t b ρ = r := by
 have hx : ∃ n, vT t b n ρ ≠ .bad := ⟨n, by rw [h]; exact hb⟩
 unfold qa1
 rw [dif_pos hx]
 have hc := hx.choose_spec
 generalize hx.choose = m at hc
 rcases Nat.le_total m n with hl | hl
 ·obtain ⟨k, rfl⟩ := Nat.exists_eq_add_of_le hl
  rw [<- ve k hc]; exact h
 ·obtain ⟨k, rfl⟩ := Nat.exists_eq_add_of_le hl
  rw [ve k (by rw [h]; exact hb)]; exact h
theorem qet {t : M Bool} {b : MS} {ρ : Env} : ∃ n, qa1 t b ρ = vT t b n ρ := by
 unfold qa1
 split
 ·exact ⟨_, rfl⟩
 ·exact ⟨0, rfl⟩
section
variable {X : Cx} {c : Fc} {pos : Pos}
theorem qhn {e : Expr} {body : List Stmt} {t : M Bool} {b : MS} (hp : PassesOwn (model X.prog X.w) X.A X.env X.xe) (ht : DT X c e t) (hb : DSs X c body b) : DS X c (.While e body [] pos) (qa1 t b) := by
 obtain ⟨tc, pc, wc⟩ := ht
 obtain ⟨tb, pb, wb⟩ := hb
 refine ⟨_, qgX hp pc pb, fun ρ σ H D' r h => ?_⟩
 obtain ⟨n, en⟩ := qet (t := t) (b := b) (ρ := ρ)
 rw [en] at h
 refine ⟨fun m σ' H' => ∃ ρ', Rep X.K c ρ' σ' H' /\ WpS X.K c σ' H' D' (vT t b m ρ'), ⟨n, ρ, r, h⟩, ?_⟩
 rintro m σ' H' ⟨ρ', r', w⟩
 cases m with
 | zero => exact w.elim
 | succ m =>
  unfold vT at w
  refine wc ρ' σ' H' _ r' ?_
  cases et : t ρ' with
  | bad => rw [et] at w; exact w
  | exc x ρ1 => rw [et] at w; exact fun H1 r1 g1 => w σ' H1 r1 g1.s
  | ok p =>
   obtain ⟨v, ρ1⟩ := p
   rw [et] at w
   intro H1 r1 g1
   cases v with
   | false =>
    rw [if_neg Bool.false_ne_true]
    exact w σ' H1 r1 g1.s
   | true =>
    rw [if_pos rfl]
    dsimp only at w
    refine ⟨fun σ2 H2 => ∃ ρ2, Rep X.K c ρ2 σ2 H2 /\ WpS X.K c σ2 H2 D' (vT t b m ρ2), fun σ2 H2 q => ⟨m, Nat.lt_succ_self m, q⟩, wb ρ1 σ' H1 _ r1 ?_⟩
    have w2 := w.gr g1.s
    cases e2 : b ρ1 with
    | ok fl =>
     cases fl with
     | nx ρ3 => simp only [e2] at w2; exact fun σ3 H3 r3 g3 => ⟨ρ3, r3, w2.gr g3⟩
     | ct ρ3 => simp only [e2] at w2; exact fun σ3 H3 r3 g3 => ⟨ρ3, r3, w2.gr g3⟩
     | bk ρ3 => simp only [e2] at w2; exact w2
     | rt d ρ3 => simp only [e2] at w2; exact w2
    | exc x ρ3 => simp only [e2] at w2; exact w2
    | bad => simp only [e2] at w2; exact w2
end
end L2.Sk
namespace L2.Sk
open PySem PySem.Spec PyProof.Rows
def qmf (K : Fr0) (a : Addr) (ns : List Int) : Prop := ∃ (o : Obj) (its : Array Value) (n : Nat), K.lookup a = some o /\ o.cls = .type "tuple" /\ o.data = .seq its n /\ its.size <= sizeLine /\ zh (ns.map V.int) its.toList
theorem qmf.is {K : Fr0} {a : Addr} {ns : List Int} (h : qmf K a ns) (H : Hp) (A : Addr -> Prop) : Is K A H (.tup (ns.map .int)) (.ref a) := ⟨a, _, rfl, .inr h, w5 ns⟩
theorem qho {X : Cx} {c : Fc} {x : Str} {a : Addr} {ns : List Int} {pos : Pos} (hg : Gl X x) (hm : X.mg x = some (.ref a)) (ht : qmf X.K a ns) (hdb : (x == ("__debug__" : Str)) = false := by decide) : DE X c (.Name x pos) (ret (.tup (ns.map .int))) :=
 qfj (v := .ref a) hg hm rfl (fun H A => ht.is H A) hdb
end L2.Sk
namespace L2.Sk
open PySem PySem.Spec PyProof.Rows
def qbr (h : Heap) (e T : Addr) (cls : Value) : Prop :=
 ∃ oe vs oT ts a0, h.get? e = some oe /\ (oe.cls = cls /\ vs[2]? = some .none /\ vs[0]? = some a0) /\ oe.data = .fields vs /\ vs[1]? = some (.ref T) /\ T ≠ e /\ h.get? T = some oT /\ oT.data = .fields ts /\ ts[3]? = some .none
def CX1 (P : Program) (w : World) : CXT := fun outer H s E u s' => ∃ e T C H', u = .ref e /\ s'.os = s.os /\ AllBare s'.gens /\ Un (frs outer) [] H H' s.heap s'.heap /\ HOk P w H' s'.heap /\
 s.heap.get? e = none /\ s.heap.get? T = none /\ H' e = none /\ H' T = none /\ qbr s'.heap e T (.ref C) /\ E (.ref C) none H'
structure Lft (h h' : Heap) (ch fs : List Addr) : Prop where
 keep : ∀ b o, b ∉ ch -> b ∉ fs -> h.get? b = some o -> h'.get? b = some o
 slot : ∀ b o, b ∈ fs -> h.get? b = some o -> ∃ sl, h'.get? b = some { o with slots := sl }
section
variable {M : Model} {A : Around} {E : Value -> Shared -> Prop} {s : Shared}
abbrev wD : Obj -> Obj := Obj.mapFields (·.setIfInBounds 3 Value.none)
theorem qjH {base : Heap} {l : List PySem.Env} {h : Heap} {b : Addr} {o : Obj} {vs : Array Value} (hl : h.FunFrames base l) (hb : h.get? b = some o) (hd : o.data = .fields vs) : b ∉ frs l := fun z => by
 obtain ⟨_, o', ho', hn⟩ := hl.mem z
 rw [hb] at ho'
 cases ho'
 exact hn vs hd
theorem qdJ {e T : Addr} {oe oT : Obj} {vs ts : Array Value} {Q : Unit -> Shared -> Prop} (he : s.heap.get? e = some oe) (hd : oe.data = .fields vs) (h1 : vs[1]? = some (.ref T)) (hT : s.heap.get? T = some oT) (hdT : oT.data = .fields ts) (h3 : 3 < ts.size)
  (k : Q () { s with heap := s.heap.update T wD }) : wpAny M A (setFlight (.ref e) none) Q E s := by
 unfold setFlight
 refine wpAny_bind (wpAny_field he hd h1 ?_)
 have t : (Value.ref T != Value.none) = true := by simp
 rw [if_pos t]
 exact wpAny_setField hT hdT h3 k
theorem wE {h : Heap} {T : Addr} {oT : Obj} {ts : Array Value} (hT : h.get? T = some oT) (hdT : oT.data = .fields ts) (h3 : 3 < ts.size) : ∃ o2 t2, (h.update T wD).get? T = some o2 /\ o2.data = .fields t2 /\ t2[3]? = some .none :=
 ⟨_, _, Heap.get?_update_self _ hT (Obj.isFreed_of_fields (Obj.data_mapFields hdT _)), Obj.data_mapFields hdT _, by simp [h3]⟩
theorem zE {h : Heap} {T b : Addr} (n : b ≠ T) : (h.update T wD).get? b = h.get? b := Heap.get?_update_other _ _ (Ne.symm n)
theorem qhp {base : Heap} {env : PySem.Env} {outer : List PySem.Env} {L e : Addr} {oe : Obj} {vs : Array Value} {head : Value} {had : Bool} {Q : Unit -> Shared -> Prop} (hfr : A.frames = some (env :: outer)) (hl : s.heap.FunFrames base (env :: outer)) (hf : env.frame = some L)
  (he : s.heap.get? e = some oe) (hd : oe.data = .fields vs) (h1 : 1 < vs.size)
  (k : ∀ h' T, s.heap.get? T = none -> T ≠ e -> (∀ b o, b ≠ e -> b ∉ frs (env :: outer) -> s.heap.get? b = some o -> h'.get? b = some o) -> (∀ b o, b ∈ frs (env :: outer) -> s.heap.get? b = some o -> ∃ sl, h'.get? b = some { o with slots := sl }) ->
   h'.get? e = some (Obj.mapFields (·.setIfInBounds 1 (Value.ref T)) oe) -> (∃ oT ts, h'.get? T = some oT /\ oT.data = .fields ts /\ 3 < ts.size) -> h'.FunFrames base (env :: outer) -> Q () { s with heap := h' }) :
  wpAny M A (do let a <- frameOf env; let pl <- entryPlaceOf L had; let b <- EntryCells.newEntry head a .none (rawInt L) .none pl; setField (.ref e) 1 b) Q E s := by
 have hene := qjH hl he hd
 refine wpAny_bind (wpAny_frameOf_fun hfr hl hf fun h₁ hs₁ => wpAny_bind (wpAny_entryPlaceOf fun pl hpl => ?_))
 unfold EntryCells.newEntry newFields
 have he₁ : h₁.get? e = some oe := (hs₁.2.1 e hene).trans he
 refine wpAny_bind (wpAny_newObj_type ?_ (hpl.sizeOk5 _ _ _ _ _))
 generalize hob : ({ cls := Value.type "traceback", dict := none, data := Data.fields ([head, Value.ref L, Value.none, rawInt L, Value.none] ++ (if pl.isEmpty then List.replicate 6 Value.none else pl)).toArray } : Obj) = ob
 have nT : h₁.objs.size ≠ e := Nat.ne_of_gt (Heap.lt_size he₁)
 have hnT : s.heap.get? h₁.objs.size = none := by
  cases q : s.heap.get? h₁.objs.size with
  | none => rfl
  | some o =>
   obtain ⟨sl, q'⟩ := hs₁.2.2 _ o q
   exact absurd (Heap.lt_size q') (Nat.lt_irrefl _)
 refine wpAny_setField (Heap.get?_push_of_some _ he₁) hd h1 ?_
 have keep : ∀ b o, b ≠ e -> h₁.get? b = some o -> ((h₁.push ob).update e (Obj.mapFields (·.setIfInBounds 1 (Value.ref h₁.objs.size)))).get? b = some o := fun b o hb q => (Heap.get?_update_other _ _ (Ne.symm hb)).trans (Heap.get?_push_of_some _ q)
 refine k _ h₁.objs.size hnT nT (fun b o hb hf q => keep b o hb ((hs₁.2.1 b hf).trans q)) (fun b o hb q => ?_) (Heap.get?_update_self _ (Heap.get?_push_of_some _ he₁) (Obj.isFreed_of_fields (Obj.data_mapFields hd _))) ⟨ob, ([head, Value.ref L, Value.none, rawInt L, Value.none] ++ (if pl.isEmpty then List.replicate 6 Value.none else pl)).toArray, ?_, by rw [<- hob], by simp⟩ (hl.of_keeps fun b o q hn => ?_)
 ·obtain ⟨sl, q'⟩ := hs₁.2.2 b o q
  exact ⟨sl, keep b _ (fun z => hene (z ▸ hb)) q'⟩
 ·exact (Heap.get?_update_other _ _ (Ne.symm nT)).trans (Heap.get?_push_size _ (by rw [<- hob]; rfl))
 ·obtain ⟨sl, q'⟩ := hs₁.2.2 b o q
  exact ⟨_, keep b _ (fun z => by subst z; rw [he] at q; cases q; exact hn vs hd) q', rfl⟩
theorem qdK {base : Heap} {env : PySem.Env} {outer : List PySem.Env} {L e : Addr} {oe : Obj} {vs : Array Value} {a0 head : Value} {had : Bool} {Q : Unit -> Shared -> Prop} (hfr : A.frames = some (env :: outer)) (hl : s.heap.FunFrames base (env :: outer)) (hf : env.frame = some L)
  (he : s.heap.get? e = some oe) (hd : oe.data = .fields vs) (h1 : 1 < vs.size) (h2 : vs[2]? = some .none) (h0 : vs[0]? = some a0)
  (k : ∀ h' T', Lft s.heap h' [e] (frs (env :: outer)) -> qbr h' e T' oe.cls -> s.heap.get? T' = none -> Q () { s with heap := h' }) :
  wpAny M A (do let a <- frameOf env; let pl <- entryPlaceOf L had; let b <- EntryCells.newEntry head a .none (rawInt L) .none pl; setField (.ref e) 1 b) (fun _ s' => wpAny M A (setFlight (.ref e) none) Q E s') E s := by
 refine qhp hfr hl hf he hd h1 fun h' T nT ne kp sl ee eT _ => ?_
 obtain ⟨oT, ts, gT, dT, sT⟩ := eT
 have dd := Obj.data_mapFields hd (·.setIfInBounds 1 (Value.ref T))
 refine qdJ (s := { s with heap := h' }) ee dd (by simp [h1]) gT dT sT ?_
 obtain ⟨o2, t2, q1, q2, q3⟩ := wE gT dT sT
 have nf : ∀ b o, s.heap.get? b = some o -> b ≠ T := fun b o q z => by rw [z, nT] at q; cases q
 refine k _ T ⟨fun b o hb hf q => (zE (nf b o q)).trans (kp b o (by simpa using hb) hf q), fun b o hb q => ?_⟩ ⟨_, _, o2, t2, a0, (zE (Ne.symm ne)).trans ee, ⟨Obj.cls_mapFields _ _, ?_, ?_⟩, dd, by simp [h1], ne, q1, q2, q3⟩ nT
 ·obtain ⟨sl, q'⟩ := sl b o hb q
  exact ⟨sl, (zE (nf b o q)).trans q'⟩
 ·rw [Array.getElem?_setIfInBounds_ne (by decide)]; exact h2
 ·rw [Array.getElem?_setIfInBounds_ne (by decide)]; exact h0
theorem qav {base : Heap} {env : PySem.Env} {outer : List PySem.Env} {L e T : Addr} {cls : Value} {Q : Unit -> Shared -> Prop} (hfr : A.frames = some (env :: outer)) (hl : s.heap.FunFrames base (env :: outer)) (hf : env.frame = some L) (F : qbr s.heap e T cls)
  (k : ∀ h' T', Lft s.heap h' [e, T] (frs (env :: outer)) -> qbr h' e T' cls -> (T' = T \/ s.heap.get? T' = none) -> Q () { s with heap := h' }) :
  wpAny M A (noteFrame (.ref e) env) (fun _ s₂ => wpAny M A (setFlight (.ref e) none) Q E s₂) E s := by
 obtain ⟨oe, vs, oT, ts, a0, he, ⟨hc, h2, h0⟩, hd, h1, hne, hT, hdT, h3⟩ := F
 subst hc
 have z3 : 3 < ts.size := (Array.getElem?_eq_some_iff.mp h3).1
 have z1 : 1 < vs.size := (Array.getElem?_eq_some_iff.mp h1).1
 have tT : (Value.ref T != Value.none) = true := by simp
 have tL : ¬ ((Value.none == rawInt L) = true) := by simp [rawInt]
 have nf := qjH hl hT hdT
 unfold noteFrame
 simp only [hf]
 refine wpAny_bind (wpAny_field he hd h1 ?_)
 rw [if_pos tT]
 refine wpAny_bind (wpAny_field hT hdT h3 ?_)
 rw [if_neg tL]
 refine wpAny_bind (wpAny_setField hT hdT z3 ?_)
 have hl1 : (s.heap.update T wD).FunFrames base (env :: outer) := hl.of_keeps fun b o q hn => ⟨o, (zE fun z => by subst z; rw [hT] at q; cases q; exact hn ts hdT).trans q, rfl⟩
 refine qdK (s := { s with heap := s.heap.update T wD }) hfr hl1 hf ((zE (Ne.symm hne)).trans he) hd z1 h2 h0 fun h' T' x y z => ?_
 refine k h' T' ⟨fun b o hb hf q => ?_, fun b o hb q => ?_⟩ y (.inr ?_)
 ·simp only [List.mem_cons, List.not_mem_nil, or_false, not_or] at hb
  exact x.keep b o (by simpa using hb.1) hf ((zE hb.2).trans q)
 ·exact x.slot b o hb ((zE fun (z : b = T) => nf (z ▸ hb)).trans q)
 ·by_cases e2 : T' = T
  ·subst e2
   obtain ⟨_, _, q, _⟩ := wE hT hdT z3
   have z' : (s.heap.update T' wD).get? T' = none := z
   rw [q] at z'; cases z'
  ·exact (zE e2).symm.trans z
theorem qeu {base : Heap} {env : PySem.Env} {outer : List PySem.Env} {L e T : Addr} {cls : Value} {Q : Unit -> Shared -> Prop} (hfr : A.frames = some (env :: outer)) (hl : s.heap.FunFrames base (env :: outer)) (hf : env.frame = some L) (F : qbr s.heap e T cls)
  (k : ∀ h' T', Lft s.heap h' [e, T] (frs (env :: outer)) -> qbr h' e T' cls -> (T' = T \/ s.heap.get? T' = none) -> Q () { s with heap := h' }) : wpAny M A (leaving env (.ref e)) Q E s := by
 unfold leaving
 exact wpAny_bind (qav hfr hl hf F k)
theorem qev {base h : Heap} {env : PySem.Env} {outer : List PySem.Env} {L e : Addr} {cls : Value} {args : List Value} {Q : Unit -> Shared -> Prop} (hfr : A.frames = some (env :: outer)) (hl : h.FunFrames base (env :: outer)) (hf : env.frame = some L) (hx : Heap.MadeExcOf h s.heap e cls args)
  (k : ∀ h' T', Lft s.heap h' [e] (frs (env :: outer)) -> qbr h' e T' cls -> s.heap.get? T' = none -> Q () { s with heap := h' }) : wpAny M A (leaving env (.ref e)) Q E s := by
 obtain ⟨t, he, htn, ht⟩ := hx.there
 have hl1 : s.heap.FunFrames base (env :: outer) := hl.of_keeps fun b o q _ => ⟨o, hx.keeps b o q, rfl⟩
 unfold leaving noteFrame
 simp only [hf]
 refine wpAny_bind (wpAny_bind (wpAny_field he rfl (x := .none) rfl ?_))
 rw [if_neg (by decide)]
 exact qdK hfr hl1 hf he rfl (of_decide_eq_true rfl) rfl rfl k
theorem qa2 {base : Heap} {l : List PySem.Env} {e T : Addr} {cls : Value} {Q : Unit -> Shared -> Prop} (hl : s.heap.FunFrames base l) (F : qbr s.heap e T cls)
  (k : ∀ h' T', Lft s.heap h' [e, T] (frs l) -> qbr h' e T' cls -> (T' = T \/ s.heap.get? T' = none) -> Q () { s with heap := h' }) :
  wpAny M A (setFlight (.ref e) none) Q E s := by
 obtain ⟨oe, vs, oT, ts, a0, he, hc, hd, h1, hne, hT, hdT, h3⟩ := F
 have z3 : 3 < ts.size := (Array.getElem?_eq_some_iff.mp h3).1
 have nf := qjH hl hT hdT
 refine qdJ he hd h1 hT hdT z3 ?_
 obtain ⟨o2, t2, q1, q2, q3⟩ := wE hT hdT z3
 refine k _ T ⟨fun b o hb _ q => ?_, fun b o hb q => ⟨o.slots, (zE fun (z : b = T) => nf (z ▸ hb)).trans q⟩⟩ ⟨oe, vs, o2, t2, a0, (zE (Ne.symm hne)).trans he, hc, hd, h1, hne, q1, q2, q3⟩ (.inl rfl)
 simp only [List.mem_cons, List.not_mem_nil, or_false, not_or] at hb
 exact (zE hb.2).trans q
end
theorem qiw {P : Program} {w : World} {H : Hp} {h h' : Heap} (x : HOk P w H h) (k : ∀ b o, (H b).isSome = true -> h.get? b = some o -> h'.get? b = some o) : HOk P w H h' := fun a o e =>
 (x a o e).stay (fun b u hb q => k b u (by
   rcases hb with rfl | hb; · rw [e]; rfl
   ·rw [hb]; rfl) q) (fun _ z => z) fun _ _ z => z
theorem yZ {P : Program} {w : World} {H : Hp} {h : Heap} {a : Addr} {o : HO} (x : yX P w H h a o) : ∃ u, h.get? a = some u := by
 cases o with
 | lst xs => obtain ⟨_, _, _, _, e⟩ := x; exact ⟨_, e⟩
 | tup xs => obtain ⟨_, _, _, ob, e, _⟩ := x; exact ⟨_, e⟩
 | dK kvs => obtain ⟨_, _, _, _, o, _, _, e, _⟩ := x; exact ⟨_, e⟩
 | dT kvs => obtain ⟨_, _, _, _, o, _, _, e, _⟩ := x; exact ⟨_, e⟩
 | set S n => obtain ⟨o, _, _, _, e, _⟩ := x; exact ⟨_, e⟩
 | ins C dx fs => obtain ⟨_, _, _, e, _⟩ := x; exact ⟨_, e⟩
 | own y => obtain ⟨_, e⟩ := x; exact ⟨_, e⟩
 | xd fs => obtain ⟨_, ⟨_, _, _, e, _⟩, _⟩ := x; exact ⟨_, e⟩
 | rng lo hi => obtain ⟨_, _, _, e⟩ := x; exact ⟨_, e⟩
 | frz ob u => obtain ⟨e, _⟩ := x; exact ⟨_, e⟩
 | tbl ps => exact ⟨_, (show h.get? a = some _ from x)⟩
 | met f y => exact ⟨_, (show h.get? a = some _ from x)⟩
 | ext φ => obtain ⟨_, e, _⟩ := x; exact e
section
variable {X : Cx} {pins : List (Addr × Obj)} {σ : St} {H : Hp} {s : Shared}
theorem qdL {H' : Hp} {s' : Shared} {h' : Heap} {ch : List Addr} (I : Inv X pins σ H s) (hs : X.stack = X.env :: X.outer) (hf : X.env.frame = some X.env.locals) (hex : X.ex = [])
  (u : Un (frs X.stack) [] H H' s.heap s'.heap) (hok : HOk X.prog X.w H' s'.heap) (hch : ∀ b ∈ ch, H' b = none) (hchn : ∀ b ∈ ch, s.heap.get? b = none) (x : Lft s'.heap h' ch (frs X.stack)) :
  Un (frs X.outer) [] X.H₀ H' X.s₀.heap h' /\ HOk X.prog X.w H' h' := by
 have hfs : frs X.stack = X.env.locals :: frs X.outer := by rw [hs]; unfold frs; rw [List.filterMap_cons, hf]
 have hb := I.base
 rw [hex] at hb
 have nL : ∀ b o, X.s₀.heap.get? b = some o -> b ≠ X.env.locals := fun b o q z => absurd (Nat.lt_of_lt_of_le (Heap.lt_size q) (z ▸ I.ok.above)) (Nat.lt_irrefl _)
 have nch : ∀ b o, X.s₀.heap.get? b = some o -> b ∉ ch := fun b o q z => by
  obtain ⟨o', q'⟩ := hb.there b o q (by simp)
  rw [hchn b z] at q'; cases q'
 have nfs : ∀ b o, X.s₀.heap.get? b = some o -> b ∉ frs X.outer -> b ∉ frs X.stack := fun b o q z y => by
  rw [hfs] at y
  exact (List.mem_cons.mp y).elim (nL b o q) z
 have yfs : ∀ b, b ∈ frs X.outer -> b ∈ frs X.stack := fun b z => by rw [hfs]; exact List.mem_cons_of_mem _ z
 refine ⟨⟨fun b o q n hb1 _ => ?_, fun b o q n hb1 _ => ?_, fun b o q n _ => ?_, fun b o q _ => ?_, fun b xs q => u.tups b xs (hb.tups b xs q), fun b o v q => u.frzs b o v (hb.frzs b o v q), fun b ps q => ?_⟩, ?_⟩
 ·exact x.keep b o (nch b o q) (nfs b o q hb1) (u.keep b o (hb.keep b o q n hb1 (by simp)) (hb.free b o q n (by simp)) (nfs b o q hb1) (by simp))
 ·obtain ⟨sl, q1⟩ := hb.slot b o q n hb1 (by simp)
  obtain ⟨sl2, q2⟩ := u.slot b _ q1 (hb.free b o q n (by simp)) (yfs b hb1) (by simp)
  obtain ⟨sl3, q3⟩ := x.slot b _ (yfs b hb1) q2
  exact ⟨sl3, q3⟩
 ·obtain ⟨o', q'⟩ := hb.there b o q (by simp)
  exact u.free b o' q' (hb.free b o q n (by simp)) (by simp)
 ·obtain ⟨o1, q1⟩ := hb.there b o q (by simp)
  obtain ⟨o2, q2⟩ := u.there b o1 q1 (by simp)
  by_cases hb1 : b ∈ frs X.stack
  ·obtain ⟨sl, q3⟩ := x.slot b o2 hb1 q2
   exact ⟨_, q3⟩
  ·exact ⟨o2, x.keep b o2 (nch b o q) hb1 q2⟩
 ·obtain ⟨m1, q1⟩ := hb.tbls b ps q
  obtain ⟨m2, q2⟩ := u.tbls b _ q1
  exact ⟨m1 ++ m2, by rw [q2, Array.append_assoc]⟩
 ·refine qiw hok fun b o hb1 q => x.keep b o (fun z => ?_) (fun z => ?_) q
  ·rw [hch b z] at hb1; cases hb1
  ·obtain ⟨_, o1, ho1, _⟩ := I.stack.mem z
   rw [u.free b o1 ho1 (I.stkFree b z) (by simp)] at hb1
   cases hb1
theorem qjI {s' : Shared} {E : XK} {u : Value} {A : Around} (I : Inv X pins σ H s) (hs : X.stack = X.env :: X.outer) (hf : X.env.frame = some X.env.locals) (hex : X.ex = []) (hA : A.frames = some X.stack) (x : CX1 X.prog X.w X.stack H s E u s') {E' : Value -> Shared -> Prop} :
  wpAny (model X.prog X.w) A (leaving X.env u) (fun _ s'' => CX1 X.prog X.w X.outer X.H₀ X.s₀ E u s'') E' s' := by
 obtain ⟨e, T, C, H', rfl, os, bare, un, hok, he, hT, hHe, hHT, F, q⟩ := x
 have hl : s'.heap.FunFrames X.base X.stack := by
  have h0 := I.stack
  have all : ∀ (l : List PySem.Env), (∀ b ∈ frs l, b ∈ frs X.stack) -> s.heap.FunFrames X.base l -> s'.heap.FunFrames X.base l := by
   intro l
   induction l with
   | nil => intro _ _; trivial
   | cons env r ih =>
    intro hss hl
    obtain ⟨hk, ⟨L, o, hf', hn, ho, hd⟩, hr⟩ := hl
    have hfr : frs (env :: r) = L :: frs r := by unfold frs; rw [List.filterMap_cons, hf']
    rw [hfr] at hss
    have hL := hss L List.mem_cons_self
    obtain ⟨sl, e⟩ := un.slot L o ho (I.stkFree L hL) hL (by simp)
    exact ⟨hk, ⟨L, _, hf', hn, e, hd⟩, ih (fun b hb => hss b (List.mem_cons_of_mem _ hb)) hr⟩
  exact all X.stack (fun _ z => z) h0
 rw [hs] at hl hA
 refine qeu hA hl hf F fun h' T' y1 y2 y3 => ?_
 rw [<- hs] at y1
 have hz : ∀ b ∈ [e, T], H' b = none := fun b hb => by
  simp only [List.mem_cons, List.not_mem_nil, or_false] at hb
  rcases hb with rfl | rfl
  ·exact hHe
  ·exact hHT
 have hzn : ∀ b ∈ [e, T], s.heap.get? b = none := fun b hb => by
  simp only [List.mem_cons, List.not_mem_nil, or_false] at hb
  rcases hb with rfl | rfl
  ·exact he
  ·exact hT
 obtain ⟨z1, z2⟩ := qdL I hs hf hex un hok hz hzn y1
 have up : ∀ b, s.heap.get? b = none -> X.s₀.heap.get? b = none := fun b hb => by
  cases q : X.s₀.heap.get? b with
  | none => rfl
  | some o =>
   obtain ⟨o', q'⟩ := I.base.there b o q (by rw [hex]; simp)
   rw [hb] at q'; cases q'
 have up' : ∀ b, s'.heap.get? b = none -> s.heap.get? b = none := fun b hb => by
  cases q : s.heap.get? b with
  | none => rfl
  | some o =>
   obtain ⟨o', q'⟩ := un.there b o q (by simp)
   rw [hb] at q'; cases q'
 have hT2 : s.heap.get? T' = none := y3.elim (fun z => z ▸ hT) (up' T')
 have hHT2 : H' T' = none := y3.elim (fun z => z ▸ hHT) fun z => by
  cases q : H' T' with
  | none => rfl
  | some o =>
   obtain ⟨o', q'⟩ := yZ (hok _ _ q)
   rw [z] at q'; cases q'
 exact ⟨e, T', C, H', rfl, os.trans I.os, bare, z1, z2, up e he, up T' hT2, hHe, hHT2, y2, q⟩
end
end L2.Sk
namespace L2.Sk
open PySem PySem.Spec PyProof.Rows
structure XC (base : Heap) (C : Addr) (bm : List Value) : Prop where
 hasBase : bm.contains (.type "BaseException") = true
 ex : ∃ nm q N bs hdct sn sub ab col dd k0 k1 k2 k3 k5 newId initId B bmB mN, base.get? C = some (excClassObj nm q C N bs bm hdct sn sub ab col dd k0 k1 k2 k3 k5 newId) /\ base.Ns N mN /\ mN "__init__" = none /\ OwnTail base bmB bm /\ ExcBaseFacts B newId initId bmB
def ur (n p : Nat) (body : MS) (ds : List D) : R D := if ds.length = p then match body (yL n ds) with
 | .ok (.rt d _) => .ok d
 | .ok (.nx _) => .ok .non
 | .exc x ρ => .exc x ρ
 | _ => .bad else .bad
section
variable {X : Cx} {c : Fc} {e : Expr} {es : List Expr} {pos cpos np : Pos}
theorem qhq {x : Str} {C : Addr} {bm : List Value} {t : TA} {E : XK} (hc : X.calm = true) (hg : Gl X x) (hm : X.mg x = some (.ref C)) (xc : XC X.base C bm) (ha : PA X (e :: es) t)
  (made : ∀ pins σ H s h' a us, Inv X pins σ H s -> Heap.MadeExcOf s.heap h' a (.ref C) us -> E (.ref C) none H -> X.xe (.ref a) { s with heap := h' })
  (hd : (x == ("__debug__" : Str)) = false := by decide) (he : starEach (e :: es) X.env = (false, eval e X.env) :: starEach es X.env := by rfl) (hpl : (backTo cpos (starEach es X.env)).any (·.1) = false := by rfl) :
  PS X (.Raise (some (.Call (.Name x np) (e :: es) [] cpos)) none pos) (fun _ σ H => t σ H fun vs H1 => vs.length <= sizeLine /\ E (.ref C) none H1) := by
 intro pins s σ H D I h
 obtain ⟨nm, q, N, bs, hdct, sn, sub, ab, col, dd, k0, k1, k2, k3, k5, newId, initId, B, bmB, mN, hC, hN, hni, T, FB⟩ := xc.ex
 refine wpAny_Raise_call_subT (C := C) (nm := nm) (q := q) (N := N) (bs := bs) (bm := bm) (hdct := hdct) (sn := sn) (sub := sub) (ab := ab) (col := col) (dd := dd) (k0 := k0) (k1 := k1) (k2 := k2) (k3 := k3) (k5 := k5)
  FB (mN := mN) xc.hasBase (I.ok.hd hc) (by rw [he]; show (false || (backTo cpos (starEach es X.env)).any (·.1)) = false; rw [hpl]; rfl) hni ?_
 have hn : PE X (.Name x np) (fun _ H Q => Q (.ref C) H) := qcM hg hm rfl hd
 refine thn (hn pins s σ H (fun v H1 => v = .ref C /\ H1 = H) I ⟨rfl, rfl⟩) fun f s1 h1 => ?_
 obtain ⟨v, H1, I1, rv, rfl, rfl⟩ := h1
 refine ⟨rv, ?_⟩
 have h2 := ha cpos pins s1 σ _ _ I1 h
 rw [he] at h2 |-
 refine Calls.evalArgs_plain (thn h2 fun vs s2 h3 => ?_)
 obtain ⟨ws, H2, I2, r2, hl, hE⟩ := h3
 refine ⟨rfl, by rw [<- r2.length]; exact hl, I2.bk _ _ hC, hN.keeps I2.bk, T.keeps I2.bk, fun h' a hx => made pins σ H2 s2 h' a vs I2 hx hE⟩
structure XL (X : Cx) (c : Fc) (cl : Str -> Option Addr) (E : XK) : Prop where
 made : ∀ C pins σ H s h' a us, Inv X pins σ H s -> Heap.MadeExcOf s.heap h' a (.ref C) us -> E (.ref C) none H -> X.xe (.ref a) { s with heap := h' }
 pass : qad (CX1 X.prog X.w) X E
 wish : ∀ x C H', cl x.cls = some C -> c.E x H' -> E (.ref C) none H'
structure XL2 (X : Cx) (c : Fc) (cl : Str -> Option Addr) (E : XK) : Prop where
 pass : qad (CX1 X.prog X.w) X E
 wish : ∀ x C H', cl x.cls = some C -> c.E x H' -> E (.ref C) none H'
theorem XL.two {X : Cx} {c : Fc} {cl : Str -> Option Addr} {E : XK} (L : XL X c cl E) : XL2 X c cl E := ⟨L.pass, L.wish⟩
def wR (x : Str) (f : M (List D)) : MS := fun ρ => match f ρ with
 | .ok (ds, ρ') => if qI ds.length then .exc ⟨x, .non⟩ ρ' else .bad
 | .exc z ρ' => .exc z ρ'
 | .bad => .bad
theorem vU {x : Str} {C : Addr} {bm : List Value} {f : M (List D)} {E : XK} {cl : Str -> Option Addr} (hc : X.calm = true) (L : XL X c cl E) (hcl : cl x = some C) (hg : Gl X x) (hm : X.mg x = some (.ref C)) (xc : XC X.base C bm) (ha : DA X c (e :: es) f)
  (hd : (x == ("__debug__" : Str)) = false := by decide) (he : starEach (e :: es) X.env = (false, eval e X.env) :: starEach es X.env := by rfl) (hpl : (backTo cpos (starEach es X.env)).any (·.1) = false := by rfl) :
  DS X c (.Raise (some (.Call (.Name x np) (e :: es) [] cpos)) none pos) (wR x f) := by
 obtain ⟨t, pa, w⟩ := ha
 refine ⟨_, qhq (E := E) hc hg hm xc pa (L.made C) hd he hpl, fun ρ σ H D r h => w ρ σ H _ r ?_⟩
 unfold wR at h
 cases ef : f ρ with
 | bad => rw [ef] at h; exact h
 | exc z ρ' => rw [ef] at h; exact fun H' r' g' => h σ H' r' g'.s
 | ok p =>
  obtain ⟨ds, ρ'⟩ := p
  rw [ef] at h
  intro vs H' r' i' g'
  by_cases hs : qI ds.length = true
  ·simp only [hs, if_true] at h
   exact ⟨by rw [i'.length]; exact of_decide_eq_true hs, L.wish ⟨x, .non⟩ C H' hcl (h σ H' r' g'.s)⟩
  ·simp only [hs] at h
   exact h.elim
def spX (K : Fr0) (cl : Str -> Option Addr) (F : List D -> R D) : Sp := fun vs H Q E => ∃ ds A, IsL K A H ds vs /\ (∀ a, A a -> True) /\ match F ds with
 | .ok d => ∀ v H', jK H H' -> Is K (fun a => A a \/ H a = none) H' d v -> Q v H'
 | .exc x _ => ∃ C, cl x.cls = some C /\ ∀ H', jK H H' -> E (.ref C) none H'
 | .bad => False
def zm (RN : List Str) (F : List D -> R D) (g : M (List D)) : M D := bnd g fun ds ρ => match F ds with
 | .ok d => .ok (d, ρ)
 | .exc x _ => if RN.contains x.cls then .exc x ρ else .bad
 | .bad => .bad
theorem qhr {k : Nat} {f : Addr} {fd : FuncData} {ps : List Str} {F : List D -> R D} {x : Str} {p : Pos} {g : M (List D)} {E : XK} {cl : Str -> Option Addr} (L : XL2 X c cl E) {RN : List Str} (hcl : ∀ n, RN.contains n = true -> (cl n).isSome = true)
  (G : jX X.prog X.w X.K X.mg X.base (CX1 X.prog X.w) k f fd ps (spX X.K cl F)) (hr : uS k X.A) (hg : Gl X x) (hm : X.mg x = some (.ref f)) (hk : PySem.W.keepIn X.K (.ref f) = true) (hb : vn X.K fd ps [])
  (ha : DA X c (e :: es) g) (hd : (x == ("__debug__" : Str)) = false := by decide) (he : starEach (e :: es) X.env = (false, eval e X.env) :: starEach es X.env := by rfl) (hpl : (backTo pos (starEach es X.env)).any (·.1) = false := by rfl) : DE X c (.Call (.Name x p) (e :: es) [] pos) (zm RN F g) := by
 obtain ⟨t, pa, w⟩ := ha
 refine ⟨_, qbf G hr hg hm hk hb .nil L.pass pa hd he hpl, fun ρ σ H Q r h => w ρ σ H _ r (WpL.bnd h fun ds ρ1 vs H1 r1 i1 g1 h1 => ?_)⟩
 rw [List.append_nil]
 refine ⟨ds, Cn c σ, i1, fun _ _ => trivial, ?_⟩
 cases ef : F ds with
 | bad => simp only [ef] at h1; exact h1.elim
 | exc z ρ' =>
  simp only [ef] at h1
  by_cases hz : RN.contains z.cls = true
  case neg => rw [if_neg hz] at h1; exact h1.elim
  rw [if_pos hz] at h1
  obtain ⟨C, hC⟩ := Option.isSome_iff_exists.mp (hcl z.cls hz)
  exact ⟨C, hC, fun H' sm => L.wish z C H' hC (h1 H' (r1.same sm) (.of_same sm))⟩
 | ok d =>
  simp only [ef] at h1
  exact fun v H' sm i => h1 v H' (r1.same sm) (Is.ext Ext.refl (fun a ha _ => ha.elim id r1.new) i) (.of_same sm)
def qix (F : List D -> R D) (g : M (List D)) : M D := bnd g fun ds ρ => match F ds with
 | .ok d => .ok (d, ρ)
 | _ => .bad
end
section
variable {P : Program} {w : World} {K : PySem.W.Frag} {mg : Str -> Option Value} {base : Heap}
theorem yG {N : List Str} {qual : Str} {scope : Scope} {f : Addr} {cdv : Value} {A : Around} {outer : List PySem.Env} {s : Shared} {H : Hp} {E : XK} {c : Fc} {cl : Str -> Option Addr} (hf : (envOfC qual scope s.heap.objs.size f cdv).frame = some s.heap.objs.size)
  (hw : ∀ x C H', cl x.cls = some C -> c.E x H' -> E (.ref C) none H') : XL (qgM (CX1 P w) P w K mg base N qual scope f cdv A outer s H E) c cl E where
 made := fun C pins σ H1 s1 h' a us I hx hE => by
  show wpAny (model P w) _ (leaving _ (.ref a)) _ _ _
  refine qev (s := { s1 with heap := h' }) (h := s1.heap) (base := base) I.ok.frames I.stack hf hx fun h2 T' y1 y2 y3 => ?_
  have hn : H1 a = none := by
   cases q : H1 a with
   | none => rfl
   | some o =>
    obtain ⟨o', q'⟩ := yZ (I.hok _ _ q)
    rw [hx.new] at q'; cases q'
  have hT : s1.heap.get? T' = none := by
   cases q : s1.heap.get? T' with
   | none => rfl
   | some o => rw [show ({ s1 with heap := h' } : Shared).heap.get? T' = some o from hx.keeps _ _ q] at y3; cases y3
  have hHT : H1 T' = none := by
   cases q : H1 T' with
   | none => rfl
   | some o =>
    obtain ⟨o', q'⟩ := yZ (I.hok _ _ q)
    rw [hT] at q'; cases q'
  have up : ∀ b, s1.heap.get? b = none -> s.heap.get? b = none := fun b hb => by
   cases q : s.heap.get? b with
   | none => rfl
   | some o =>
    obtain ⟨o', q'⟩ := I.base.there b o q (by show b ∉ ([] : List Addr); simp)
    rw [hb] at q'; cases q'
  obtain ⟨z1, z2⟩ := qdL (s' := { s1 with heap := h' }) I rfl hf rfl (Un.kept hx.keeps) (I.hok.kept hx.keeps) (fun b hb => by rw [List.mem_singleton] at hb; subst hb; exact hn) (fun b hb => by rw [List.mem_singleton] at hb; subst hb; exact hx.new) y1
  exact ⟨a, T', C, H1, rfl, I.os, I.bare, z1, z2, up a hx.new, up T' hT, hn, hHT, y2, hE⟩
 pass := fun pins σ H1 s1 u s' I x => qjI I rfl hf rfl I.ok.frames x
 wish := hw
theorem yH {x qual : Str} {st : Stmt} {f : Addr} {fd : FuncData} {N ps : List Str} {k : Nat} {O : List Nat} {body : MS} {cl : Str -> Option Addr} (F : Fun K x qual st f fd) (S : qp N ps (qd st)) (hO : ∀ i ∈ O, ps.length <= i)
  (hb : ∀ (cdv : Value) (A : Around) (outer : List PySem.Env) (s : Shared) (H : Hp) (E : XK) (B : Addr -> Prop), uS k (A.deeper (envOfC qual (qd st) s.heap.objs.size f cdv)) ->
   DSs (qgM (CX1 P w) P w K mg base N qual (qd st) f cdv A outer s H E) (cfn O [] B H (fun _ => False) (fun x H' => ∀ C, cl x.cls = some C -> E (.ref C) none H') fun _ => none) (qm st) body) :
  jX P w K mg base (CX1 P w) (k + 1) f fd ps (spX K cl (ur N.length ps.length body)) := by
 obtain ⟨oc, od, kV, doc, pm, an, cdv, ct, osl, rfl, lk, hcd⟩ := F.ex
 refine qkH lk hcd S (fun vs H Q E h => ?_) fun A outer s H vs Q E hr h => ?_
 ·obtain ⟨ds, B, il, _, h⟩ := h
  unfold ur at h
  by_cases e : ds.length = ps.length
  ·rw [il.length]; exact e
  ·rw [if_neg e] at h; exact h.elim
 ·obtain ⟨ds, B, il, _, h⟩ := h
  obtain ⟨t, p, wt⟩ := hb cdv A outer s H E B hr
  refine ⟨t, p, ?_⟩
  unfold ur at h
  by_cases e : ds.length = ps.length
  ·rw [if_pos e] at h
   refine wt (yL N.length ds) (zY N vs) H _ (qao il (fun i hi => by rw [e]; exact hO i hi)) ?_
   have same : ∀ {ρ : Env} {σ : St} {H' : Hp}, Rep K (cfn O [] B H (fun _ => False) (fun x H' => ∀ C, cl x.cls = some C -> E (.ref C) none H') fun _ => none) ρ σ H' -> jK H H' := fun r b o hb => r.kp b o hb fun z => z
   cases eb : body (yL N.length ds) with
   | bad => rw [eb] at h; exact h.elim
   | exc z ρ =>
    rw [eb] at h
    obtain ⟨C, hC, h⟩ := h
    exact fun σ' H' r' _ C' hC' => by
     rw [hC] at hC'; cases hC'
     exact h H' (same r')
   | ok fl =>
    rw [eb] at h
    cases fl with
    | nx ρ => exact fun σ' H' r' _ => h .non H' (same r') rfl
    | rt d ρ => exact fun v σ' H' r' i' _ => h v H' (same r') i'
    | bk ρ => exact h.elim
    | ct ρ => exact h.elim
  ·rw [if_neg e] at h; exact h.elim
structure z4 (P : Program) (w : World) (K : PySem.W.Frag) (mg : Str -> Option Value) (base : Heap) (k : Nat) (x : Str) (ps : List Str) (sp : Sp) : Prop where
 ex : ∃ f fd, jX P w K mg base (CX1 P w) k f fd ps sp /\ mg x = some (.ref f) /\ PySem.W.keepIn K (.ref f) = true /\ vn K fd ps []
end
theorem qiy {X : Cx} {c : Fc} {st : Stmt} {f : MS} (h : DS X.nox c st f) : DS X c st f := by
 obtain ⟨t, p, w⟩ := h
 exact ⟨t, fun pins s σ H D I hw => wpAny_mono (p pins s σ H D (I.wish _) hw) (fun _ _ q => q.unwish) fun _ _ z => False.elim z, w⟩
end L2.Sk
namespace L2.Sk
open PySem PySem.Spec PyProof.Rows
section
variable {M : Model} {A : Around} {E : Value -> Shared -> Prop}
variable {nm q nm' q' : Str} {C S N N' : Addr} {bs bm bs' bm' : List Value} {hdct hdct' : Bool} {sn sn' : List Str} {sub sub' : List Value} {ab ab' : Bool} {col col' : Option Bool} {dd dd' : Option Addr} {k0 k1 k2 k3 k5 j0 j1 j2 j3 j5 : Option Value} {newId newId' : String}
theorem vv {h : Heap} {g : Array GenState} {d : Drawn} {t : Nat} {os : OsState} {e : Addr} {oe : Obj} {Q : Bool -> Shared -> Prop}
  (hC : h.get? C = some (excClassObj nm q C N bs bm hdct sn sub ab col dd k0 k1 k2 k3 k5 newId)) (hS : h.get? S = some (excClassObj nm' q' S N' bs' bm' hdct' sn' sub' ab' col' dd' j0 j1 j2 j3 j5 newId'))
  (he : h.get? e = some oe) (hcls : oe.cls = .ref C) (hbase : bm'.contains (.type "BaseException") = true)
  (hq : Q ((Value.ref C :: bm).contains (.ref S)) ⟨h, g, d, t, os⟩) : wpAny M A (excMatches (.ref e) (.ref S)) Q E ⟨h, g, d, t, os⟩ := by
 have hcB : (Value.ref S :: bm').contains (.type "BaseException") = true := by rw [List.contains_cons, hbase, Bool.or_true]
 have f := tc_notTuple
 unfold excMatches
 repeat (first | (with_reducible refine wpAny_loadPart_at he ?_; rw [hcls]) | with_reducible refine wpAny_loadPart_at hS ?_ | (with_reducible refine wpAny_isSubtype_exc hS ?_; rw [hcB]) | with_reducible refine wpAny_isSubtype_exc hC ?_ | wp_step)
 all_goals (first | exact hq | (cases hb : (Value.ref C :: bm).contains (.ref S) <;> (rw [hb] at hq; wp_walk; exact hq)))
end
end L2.Sk
namespace L2
open PySem PySem.Spec PyProof.Rows
def AloneA (A : Around) (H : Hp) : Prop := ∃ e oe u vs, A.handled = some (.ref e) /\ H e = some (.frz oe u) /\ oe.data = .fields vs /\ vs[2]? = some .none
def qlp (A : Around) (sp : Sp) (dvs : List V) (E : XK) (t : TA) : TE := fun σ H Q => t σ H fun vs H1 => AloneA A H1 /\ sp (vs ++ dvs) H1 Q E
structure uj (k : Nat) (A : Around) : Prop where
 dp : A.depth + 3 * k + 5 < recursionLimit
 un : A.units + 16 * k + 200 < cLine
 gd : A.guards = some []
theorem uj.mono {j k : Nat} {A : Around} (r : uj k A) (h : j <= k) : uj j A := ⟨by have := r.dp; omega, by have := r.un; omega, r.gd⟩
theorem uj.deeper {k : Nat} {A : Around} (r : uj (k + 1) A) (env : Env) : uj k (A.deeper env) :=
 ⟨by have := r.dp; show A.depth + 1 + 3 * k + 5 < _; omega, by have := r.un; show A.units + 3 + 16 * k + 200 < _; omega, r.gd⟩
theorem uj.depth {k : Nat} {A : Around} (r : uj k A) : A.depth < recursionLimit := by have := r.dp; omega
structure qbs (P : Program) (w : World) (K : PySem.W.Frag) (mg : Str -> Option Value) (base : Heap) (CX : CXT) (k : Nat) (f : Addr) (fd : FuncData) (ps : List Str) (sp : Sp) : Prop where
 len : ∀ vs H Q E, sp vs H Q E -> vs.length = ps.length
 run : ∀ (A : Around) (outer : List Env) (s : Shared) (H : Hp) (args : Args) (us : List Value) (vs : List V) (Q : VK) (E : XK), uj k A -> AloneA A H -> qka P w K mg base A outer s H -> BindsTo s fd args (ps.zip us) -> zh vs us -> sp vs H Q E ->
  codeAny (model P w) A (.call (.ref f) args) (CR CX outer P w H s Q E) s
def qew (CX : CXT) (P : Program) (w : World) (K : PySem.W.Frag) (mg : Str -> Option Value) (base : Heap) (N : List Str) (qual : Str) (scope : Scope) (f : Addr) (cd : Value) (A : Around) (outer : List Env) (s : Shared) (H : Hp) (E : XK) : Cx where
 prog := P
 w := w
 K := K
 mg := mg
 base := base
 A := A.deeper (envOfC qual scope s.heap.objs.size f cd)
 N := N
 s₀ := s
 H₀ := H
 env := envOfC qual scope s.heap.objs.size f cd
 outer := outer
 stack := envOfC qual scope s.heap.objs.size f cd :: outer
 ex := []
 calm := false
 fn := fun _ => true
 pn := []
 xe := fun e s' => wpAny (model P w) (A.deeper (envOfC qual scope s.heap.objs.size f cd)) (leaving (envOfC qual scope s.heap.objs.size f cd) e) (fun _ s'' => CX outer H s E e s'') (fun e' s'' => CX outer H s E e' s'') s'
theorem qex {CX : CXT} {P : Program} {w : World} {K : PySem.W.Frag} {mg : Str -> Option Value} {base : Heap} {N ps : List Str} {qual : Str} {scope : Scope} {f : Addr} {cd : Value} {A : Around} {outer : List Env} {s s1 : Shared} {H : Hp} {E : XK} {us : List Value} {vs : List V}
  (S : qp N ps scope) (e0 : qka P w K mg base A outer s H) (hl : vs.length = ps.length) (r : zh vs us)
  (x : InCallC s s.heap.objs.size (bindL (envOfC qual scope s.heap.objs.size f cd).kindOf (ps.zip us) fun _ => none) (cellsFrom (s.heap.objs.size + 1) scope.names []) (bindC (envOfC qual scope s.heap.objs.size f cd).kindOf (ps.zip us) fun _ => none) s1) :
  Inv (qew CX P w K mg base N qual scope f cd A outer s H E) [] (zY N vs) H s1 := by
 have hpl : ps.length <= N.length := by have := congrArg List.length S.pre; rw [List.length_take] at this; omega
 obtain ⟨h1, tk, rfl, hk⟩ := x.done
 have noA : ∀ b : Addr, b ∉ (qew CX P w K mg base N qual scope f cd A outer s H E).ex := fun b z => absurd (show b ∈ ([] : List Addr) from z) (by simp)
 refine ⟨⟨e0.mod, S.kind, rfl, rfl, Nat.le_refl _, fun y z c h1 h2 => ?_, fun y hy => ?_, fun y c _ h => ?_, (fun z => Bool.noConfusion z), Around.frames_deeper e0.frames, .inr ⟨rfl, rfl⟩, fun b z => absurd z (noA b), e0.bs, e0.bsz, fun b _ _ => noA b, fun b z => absurd z (noA b), e0.funs, e0.frf⟩,
  rfl, e0.bare, Un.kept hk, ⟨_, x.toInCall.ns, fun i y v h1 h2 h3 => ?_⟩, fun y c h => ⟨_, x.cell y c h⟩, e0.hok.fresh (Nat.le_refl _), fun y c h => ?_, fun p hp => absurd (show p ∈ ([] : List (Addr × Obj)) from hp) (by simp), e0.hok.kept hk, ?_⟩
 ·exact name_of_addr x.apart (PySem.mem_of_lookup h1) (PySem.mem_of_lookup h2)
 ·have hy : scope.names.lookup y = some .cell \/ scope.names.lookup y = some .free := hy
  rcases hy with hy | hy
  ·exact wX hy
  ·exact absurd rfl (S.nofree _ (PySem.mem_of_lookup hy))
 ·exact Nat.le_of_lt (x.above y c (PySem.mem_of_lookup h))
 ·have hi : i < vs.length := by
   unfold zY at h2
   by_cases hi : i < vs.length
   ·exact hi
   ·rw [List.getElem?_append_right (by simpa using hi)] at h2
    rw [List.getElem?_replicate] at h2
    split at h2 <;> cases h2
  have ha : vs[i]? = some v := by
   unfold zY at h2
   rw [List.getElem?_append_left (by simpa using hi), List.getElem?_map] at h2
   cases e : vs[i]? with
   | none => rw [e] at h2; cases h2
   | some a => rw [e] at h2; cases h2; rfl
  obtain ⟨u, hu, rv⟩ := r.get ha
  have hp : ps[i]? = some y := by
   rw [<- S.pre, List.getElem?_take_of_lt (by omega)]; exact h1
  have ndP : ps.Nodup := by rw [<- S.pre]; exact S.nd.sublist (List.take_sublist _ _)
  refine ⟨u, rv, ?_⟩
  rcases S.par y (List.mem_of_getElem? hp) with k | k
  ·exact .inl ⟨k, qae ndP hp hu k⟩
  ·obtain ⟨c, e⟩ := wX (n := s.heap.objs.size + 1) k
   refine .inr ⟨.inl k, c, e, ?_⟩
   have q := x.cell y c e
   rw [qaf ndP hp hu (by show scope.names.lookup y ≠ _; rw [k]; decide)] at q
   exact q
 ·exact e0.hok.fresh (Nat.le_of_lt (x.above y c (PySem.mem_of_lookup h)))
 ·unfold zY
  show _ = N.length
  rw [List.length_append, List.length_map, List.length_replicate]
  omega
theorem qlq {CX : CXT} {P : Program} {w : World} {K : PySem.W.Frag} {mg : Str -> Option Value} {base : Heap} {k : Nat} {f : Addr} {name qual : Str} {params : Arguments} {body : List Stmt} {scope : Scope} {dV kV doc pm cdv ct oc : Value} {an od : Option Addr}
  {osl : Array (Option Value)} {N ps : List Str} {sp : Sp} (lk : K.lookup f = some ⟨oc, od, .func (PySem.W.fnOf name qual params body scope dV kV doc pm an cdv ct), osl⟩) (hcd : PySem.W.codeIn K cdv qual = true) (S : qp N ps scope)
  (len : ∀ vs H Q E, sp vs H Q E -> vs.length = ps.length)
  (hbody : ∀ (A : Around) (outer : List Env) (s : Shared) (H : Hp) (vs : List V) (Q : VK) (E : XK), uj k (A.deeper (envOfC qual scope s.heap.objs.size f cdv)) -> AloneA (A.deeper (envOfC qual scope s.heap.objs.size f cdv)) H -> sp vs H Q E ->
   ∃ t, PSs (qew CX P w K mg base N qual scope f cdv A outer s H E) body t /\ t { nx := fun _ H' => Q .non H', rt := Q } (zY N vs) H) :
  qbs P w K mg base CX (k + 1) f (PySem.W.fnOf name qual params body scope dV kV doc pm an cdv ct) ps sp := by
 refine ⟨len, fun A outer s H args us vs Q E hr al e0 hb r hsp => ?_⟩
 have hl := len _ _ _ _ hsp
 have KX : K.In s.heap := e0.mod.kin.keeps fun b o e => (e0.bs b o e).1
 have lim : s.heap.NoLimit := e0.mod.nolimit.keeps fun b o e => (e0.bs b o e).1
 have hkind : ∀ y ∈ ps.zip us, scope.names.lookup y.1 = some .local \/ (scope.names.lookup y.1 = some .cell /\ ((cellsFrom (s.heap.objs.size + 1) scope.names []).lookup y.1).isSome = true) := fun ⟨n, v⟩ hy => by
  rcases S.par n (List.of_mem_zip hy).1 with q | q
  ·exact .inl q
  ·exact .inr ⟨q, PySem.W.cellsFrom_some _ _ _ (.inl q)⟩
 refine codeAny_call_function hr.depth (KX _ _ lk) rfl S.co S.gen rfl (PySem.W.codeRec_of KX hcd) (hb _ _ _ _ ?_)
 refine wpAny_newFunctionEnv_cells S.kind hkind fun env he s1 x => ?_
 subst he
 refine ⟨lim.keeps x.toInCall.keep, codeAny_func ?_⟩
 obtain ⟨t, ht, hq⟩ := hbody A outer s H vs Q E (hr.deeper _) al hsp
 have I : Inv (qew CX P w K mg base N qual scope f cdv A outer s H E) [] (zY N vs) H s1 := qex S e0 hl r x
 refine wpAny_mono (ht [] s1 (zY N vs) H _ I hq) (fun fl s' hs => ?_) fun e s' hs => hs
 have fin : ∀ {σ' : St} {H' : Hp} {v : V} {u : Value}, Inv (qew CX P w K mg base N qual scope f cdv A outer s H E) [] σ' H' s' -> yp v u -> Q v H' -> CE outer P w H s Q u s' :=
  fun {σ' H' v u} J rv q => ⟨v, H', J.os, J.bare, J.base, J.hok, rv, q⟩
 cases fl with
 | ret u =>
  obtain ⟨v, σ', H', J, rv, q⟩ := hs
  exact fin J rv q
 | next =>
  obtain ⟨σ', H', J, q⟩ := hs
  exact fin (v := V.non) (u := Value.none) J rfl q
 | brk =>
  obtain ⟨_, _, _, q⟩ := hs
  exact False.elim q
 | cont =>
  obtain ⟨_, _, _, q⟩ := hs
  exact False.elim q
section
variable {X : Cx} {CX : CXT} {k : Nat} {f C : Addr} {fd : FuncData} {ps : List Str} {sp : Sp} {dvs : List V} {ds : List Value} {E : XK} {x m : Str} {p pos apos : Pos} {e o : Expr} {es : List Expr} {ta : TE} {t : TA}
theorem qjJ {pins : List (Addr × Obj)} {σ : St} {H : Hp} {s : Shared} {Q : VK} {us : List Value} {vs : List V} (F : qbs X.prog X.w X.K X.mg X.base CX k f fd ps sp) (hr : uj k X.A) (hb : vn X.K fd ps ds) (hd : zh dvs ds) (hx : qad CX X E)
  (I : Inv X pins σ H s) (r : zh vs us) (al : AloneA X.A H) (h : sp (vs ++ dvs) H Q E) : wpAny (model X.prog X.w) X.A (call (.ref f) us) (EP X pins σ Q) X.xe s := by
 have r2 : zh (vs ++ dvs) (us ++ ds) := r.append hd
 have hl : (us ++ ds).length = ps.length := by rw [<- r2.length]; exact F.len _ _ _ _ h
 refine wpAny_call (codeAny_mono (F.run X.A X.stack s H ⟨us, []⟩ (us ++ ds) (vs ++ dvs) Q E hr al I.env0 (hb s us I.kIn hl) r2 h) fun r s' hq => ?_)
 cases r with
 | error e => exact hx pins σ H s e s' I hq
 | ok fl =>
  cases fl with
  | ret u => exact I.after hq
  | next => exact False.elim hq
  | brk => exact False.elim hq
  | cont => exact False.elim hq
theorem qdM (F : qbs X.prog X.w X.K X.mg X.base CX k f fd ps sp) (hr : uj k X.A) (hg : Gl X x) (hm : X.mg x = some (.ref f)) (hk : PySem.W.keepIn X.K (.ref f) = true) (hb : vn X.K fd ps ds) (hd : zh dvs ds) (hx : qad CX X E)
  (ha : PA X (e :: es) t) (hdb : (x == ("__debug__" : Str)) = false := by decide) (he : starEach (e :: es) X.env = (false, eval e X.env) :: starEach es X.env := by rfl) (hpl : (backTo pos (starEach es X.env)).any (·.1) = false := by rfl) :
  PE X (.Call (.Name x p) (e :: es) [] pos) (qlp X.A sp dvs E t) := by
 intro pins s σ H Q I h
 refine wpAny_Call_Name_kw (qab I hg hm ?_ hdb)
 refine PySem.W.callWith_K (h₀ := X.base) I.ok.mod.kin hk (thn (ha pos pins s σ H _ I h) fun us s1 ⟨vs, H1, I1, r, q⟩ => ⟨I1.kIn, ?_⟩) he hpl
 exact qjJ F hr hb hd hx I1 r q.1 q.2
end
end L2
namespace L2.Sk
open PySem PySem.Spec PyProof.Rows
def isT (b : Bool) : Value -> Bool
 | .bool a => a == b
 | _ => false
section
variable {X : Cx}
end
def qnr (x : D) (ys : List D) : Option D := match x, ys with
 | .lst ds, [.bl b] => (vq ds).map fun bs => .int (bs.countP (· == b))
 | _, _ => none
def qlr (F : D -> List D -> Option D) (f : M D) (g : M (List D)) : M D := bnd f fun x => match x with
 | .lst ds => bnd g fun ys => lift (F (.lst ds) ys)
 | _ => fun _ => .bad
section
variable {X : Cx} {c : Fc} {o e : Expr} {es : List Expr} {apos cpos : Pos}
end
end L2.Sk
namespace L2.Sk
open PySem PySem.Spec PyProof.Rows
def isI (b : Int) : Value -> Bool
 | .int a _ => a == b
 | _ => false
section
variable {X : Cx}
end
def qns (x : D) (ys : List D) : Option D := match x, ys with
 | .lst ds, [.int b] => (uX ds).map fun ns => .int (ns.countP (· == b))
 | _, _ => none
end L2.Sk
namespace L2.Sk
open PySem PySem.Spec PyProof.Rows
@[reducible] def toX (X : Cx) (xe : Value -> Shared -> Prop) (pn : List (Addr × Obj)) : Cx := { X with xe := xe, pn := pn }
@[reducible] def hdX (X : Cx) (e : Addr) : Cx := { X with A := X.A.mark (some (.ref e)), calm := false, xe := fun _ _ => False }
section
variable {X : Cx} {pins : List (Addr × Obj)} {σ : St} {H : Hp} {s : Shared} {xe : Value -> Shared -> Prop}
theorem qiz (I : Inv X pins σ H s) : Inv (toX X xe (X.pn ++ pins)) [] σ H s :=
 let k := I.ok
 ⟨⟨k.mod, k.kind, k.glob, k.blt, k.above, k.inj, k.has, k.cab, k.hd, k.frames, k.stk, k.exf, k.bs, k.bsz, k.noex, k.exfs, k.funs, k.frf⟩, I.os, I.bare, I.base, I.loc, I.cell, I.free, I.freeC,
  fun p hp => I.pin p (by rw [List.append_nil] at hp; exact hp), I.hok, I.len⟩
theorem yj {pins2 : List (Addr × Obj)} (I : Inv (toX X xe (X.pn ++ pins)) pins2 σ H s) : Inv X pins σ H s :=
 let k := I.ok
 ⟨⟨k.mod, k.kind, k.glob, k.blt, k.above, k.inj, k.has, k.cab, k.hd, k.frames, k.stk, k.exf, k.bs, k.bsz, k.noex, k.exfs, k.funs, k.frf⟩, I.os, I.bare, I.base, I.loc, I.cell, I.free, I.freeC,
  fun p hp => I.pin p (List.mem_append_left _ hp), I.hok, I.len⟩
theorem qdN (e : Addr) (I : Inv X pins σ H s) : Inv (hdX X e) pins σ H s :=
 let k := I.ok
 ⟨⟨k.mod, k.kind, k.glob, k.blt, k.above, k.inj, k.has, k.cab, fun z => (nomatch z), k.frames, k.stk, k.exf, k.bs, k.bsz, k.noex, k.exfs, k.funs, k.frf⟩, I.os, I.bare, I.base, I.loc, I.cell, I.free, I.freeC, I.pin, I.hok, I.len⟩
theorem qdO {e : Addr} {σ' : St} {H' : Hp} {s' : Shared} (k : X.Ok) (I : Inv (hdX X e) pins σ' H' s') : Inv X pins σ' H' s' :=
 ⟨k, I.os, I.bare, I.base, I.loc, I.cell, I.free, I.freeC, I.pin, I.hok, I.len⟩
theorem qey {h' : Heap} {m' : Str -> Option Value} {tk : Nat} (I : Inv X pins σ H s) (hn : h'.Ns X.env.locals m') (hs : Heap.SameBut X.env.locals s.heap h') :
  Inv X pins (List.replicate X.N.length none) H { s with heap := h', toks := tk } := by
 obtain ⟨m, hn0, _⟩ := id I.loc
 obtain ⟨oL, _, _, hoL, _⟩ := id hn0
 have ne : ∀ b o, X.s₀.heap.get? b = some o -> b ≠ X.env.locals := fun b o q => Nat.ne_of_lt (Nat.lt_of_lt_of_le (Heap.lt_size q) I.ok.above)
 refine ⟨I.ok, I.os, I.bare, ⟨fun b o e n hb hx => (hs.2 b (ne b o e)).trans (I.base.keep b o e n hb hx), fun b o e n hb hx => ?_, I.base.free, fun b o e hx => ?_, I.base.tups, I.base.frzs, I.base.tbls⟩, ⟨m', hn, fun j y v e1 e2 e3 => ?_⟩, fun y c e => ?_, I.free, I.freeC, fun p hp => ?_, fun b ob e => ?_, by simp⟩
 ·obtain ⟨sl, q⟩ := I.base.slot b o e n hb hx
  exact ⟨sl, (hs.2 b (ne b o e)).trans q⟩
 ·obtain ⟨o', q⟩ := I.base.there b o e hx
  exact ⟨o', (hs.2 b (ne b o e)).trans q⟩
 ·rw [List.getElem?_replicate] at e2
  split at e2 <;> cases e2
 ·obtain ⟨w', z⟩ := I.cell y c e
  exact ⟨w', z.sameBut hs (I.cne y c e)⟩
 ·obtain ⟨e, n, nl, nf, d⟩ := I.pin p hp
  exact ⟨(hs.2 p.1 nl).trans e, n, nl, nf, d⟩
 ·refine (I.hok b ob e).stay (fun c w' hc q => (hs.2 c ?_).trans q) (fun _ q => q) fun _ _ q => q
  rintro rfl
  rcases hc with rfl | hc
  ·rw [I.free] at e; cases e
  ·rw [I.free] at hc; cases hc
theorem qbt {H' : Hp} {h' : Heap} (I : Inv X pins σ H s) (u : Un (frs X.stack) [] H H' s.heap h') : h'.FunFrames X.base X.stack := by
 have all : ∀ (l : List PySem.Env), (∀ b ∈ frs l, b ∈ frs X.stack) -> s.heap.FunFrames X.base l -> h'.FunFrames X.base l := by
  intro l
  induction l with
  | nil => intro _ _; trivial
  | cons env r ih =>
   intro hss hl
   obtain ⟨hk, ⟨L, o, hf', hn, ho, hd⟩, hr⟩ := hl
   have hfr : frs (env :: r) = L :: frs r := by unfold frs; rw [List.filterMap_cons, hf']
   rw [hfr] at hss
   have hL := hss L List.mem_cons_self
   obtain ⟨sl, e⟩ := u.slot L o ho (I.stkFree L hL) hL (by simp)
   exact ⟨hk, ⟨L, _, hf', hn, e, hd⟩, ih (fun b hb => hss b (List.mem_cons_of_mem _ hb)) hr⟩
 exact all X.stack (fun _ z => z) I.stack
theorem qdP {H' : Hp} {h1 h' : Heap} {ch : List Addr} (u : Un (frs X.stack) [] H H' s.heap h1) (hchn : ∀ b ∈ ch, s.heap.get? b = none) (x : Lft h1 h' ch (frs X.stack)) : Un (frs X.stack) [] H H' s.heap h' := by
 have nch : ∀ b o, s.heap.get? b = some o -> b ∉ ch := fun b o q z => by rw [hchn b z] at q; cases q
 refine ⟨fun b o q n hb hx => x.keep b o (nch b o q) hb (u.keep b o q n hb hx), fun b o q n hb hx => ?_, u.free, fun b o q hx => ?_, u.tups, u.frzs, u.tbls⟩
 ·obtain ⟨sl, q1⟩ := u.slot b o q n hb hx
  obtain ⟨sl2, q2⟩ := x.slot b _ hb q1
  exact ⟨sl2, q2⟩
 ·obtain ⟨o2, q2⟩ := u.there b o q hx
  by_cases hb : b ∈ frs X.stack
  ·obtain ⟨sl, q3⟩ := x.slot b o2 hb q2
   exact ⟨_, q3⟩
  ·exact ⟨o2, x.keep b o2 (nch b o q) hb q2⟩
theorem qbu {H' : Hp} {h1 h' : Heap} {ch : List Addr} (I : Inv X pins σ H s) (u : Un (frs X.stack) [] H H' s.heap h1) (hok : HOk X.prog X.w H' h1) (hch : ∀ b ∈ ch, H' b = none) (x : Lft h1 h' ch (frs X.stack)) : HOk X.prog X.w H' h' :=
 qiw hok fun b o hb1 q => x.keep b o (fun z => by rw [hch b z] at hb1; cases hb1) (fun z => by
  obtain ⟨_, o1, ho1, _⟩ := I.stack.mem z
  rw [u.free b o1 ho1 (I.stkFree b z) (by simp)] at hb1
  cases hb1) q
theorem qfZ {H' : Hp} {h' : Heap} {e : Addr} {o : HO} (u : Un (frs X.stack) [] H H' s.heap h') (he : s.heap.get? e = none) (hHe : H' e = none) : Un (frs X.stack) [] H (upd H' e o) s.heap h' := by
 have ne : ∀ b ob, s.heap.get? b = some ob -> b ≠ e := fun b ob q z => by rw [z, he] at q; cases q
 have ne' : ∀ b u, H' b = some u -> b ≠ e := fun b u q z => by rw [z, hHe] at q; cases q
 refine ⟨u.keep, u.slot, fun b ob q n hx => by rw [qt (ne b ob q)]; exact u.free b ob q n hx, u.there, fun b xs q => ?_, fun b ob w q => ?_, fun b ps q => ?_⟩
 ·have := u.tups b xs q
  rw [qt (ne' b _ this)]; exact this
 ·have := u.frzs b ob w q
  rw [qt (ne' b _ this)]; exact this
 ·obtain ⟨m, this⟩ := u.tbls b ps q
  exact ⟨m, by rw [qt (ne' b _ this)]; exact this⟩
theorem qdQ {P : Program} {w : World} {H' : Hp} {h' : Heap} {e : Addr} {oe : Obj} (hok : HOk P w H' h') (hHe : H' e = none) (he : h'.get? e = some oe) : HOk P w (upd H' e (.frz oe (.own e))) h' := fun b ob q => by
 by_cases hb : b = e
 ·subst hb
  rw [qv] at q
  cases q
  exact ⟨he, oe, he⟩
 ·rw [qt hb] at q
  have ne' : ∀ c u, H' c = some u -> c ≠ e := fun c u q z => by rw [z, hHe] at q; cases q
  exact (hok b ob q).stay (fun _ _ _ q => q) (fun c q => by rw [qt (ne' c _ q)]; exact q) fun c xs q => by rw [qt (ne' c _ q)]; exact q
end
def qiA (RN : List Str) (f : MS) (F : List D -> R D) : MS := fun ρ => match f ρ with
 | .exc x ρ' => if RN.contains x.cls then match F [.exc x.cls] with
   | .ok d => .ok (.rt d ρ')
   | _ => .bad
  else .bad
 | r => r
def reE (c : Fc) (E : Exn -> Hp -> Prop) : Fc := { c with E := E }
theorem Rep.reE {K : Fr0} {c : Fc} {E : Exn -> Hp -> Prop} {ρ : Env} {σ : St} {H : Hp} (r : Rep K c ρ σ H) : Rep K (Sk.reE c E) ρ σ H := ⟨r.len, r.val, r.own, r.inj, r.b0, r.kp, r.dm, r.pO, r.ps⟩
theorem Rep.unE {K : Fr0} {c : Fc} {E : Exn -> Hp -> Prop} {ρ : Env} {σ : St} {H : Hp} (r : Rep K (Sk.reE c E) ρ σ H) : Rep K c ρ σ H := ⟨r.len, r.val, r.own, r.inj, r.b0, r.kp, r.dm, r.pO, r.ps⟩
structure qmU (K : Fr0) (base : Heap) (RN : List Str) (S : Addr) : Prop where
 sup : ∃ bm, XC base S bm
 own : ∀ n C, clR K RN n = some C -> ∃ bm, XC base C bm /\ (Value.ref C :: bm).contains (.ref S) = true
 ki : ∀ n C, clR K RN n = some C -> XK6 K C
def ch (H6 : Hp) : Fc := ⟨[], [], fun a => H6 a = none, H6, fun _ => False, fun _ _ => False, fun _ => none⟩
theorem qls {K : Fr0} {n i : Nat} {H6 : Hp} {σ : St} {d : D} {v : V} (hl : σ.length = n) (hi : ∀ {A : Addr -> Prop}, Is K A H6 d v) : Rep K (ch H6) ((List.replicate n none).set i (some d)) (σ.set i (some v)) H6 := by
 refine ⟨by simp [hl], fun j d' h => ?_, fun j hj => (nomatch hj), fun j _ _ hj => (nomatch hj), fun _ h => h, fun _ _ h _ => h, fun _ h => h, fun _ h => h, fun j hj => (nomatch hj)⟩
 rw [List.getElem?_set] at h
 split at h
 ·rename_i e
  subst e
  rw [List.length_replicate] at h
  split at h
  ·rename_i hlt
   cases h
   exact ⟨v, List.getElem?_set_self (by rw [hl]; exact hlt), .inr ⟨by simp [ch], hi⟩⟩
  ·cases h
 ·rw [List.getElem?_replicate] at h
  split at h <;> cases h
def qaw (RN : List Str) (n i : Nat) (f : MS) (g : M D) : MS := fun ρ => match f ρ with
 | .exc x ρ' => if RN.contains x.cls then match g ((List.replicate n none).set i (some (.exc x.cls))) with
   | .ok (d, _) => .ok (.rt d ρ')
   | _ => .bad
  else .bad
 | r => r
theorem qc0 {X : Cx} {pins : List (Addr × Obj)} {σ : St} {H : Hp} {s : Shared} {n : Str} {c : Addr} {h' : Heap} {tk : Nat} (I : Inv X pins σ H s) (hc : X.env.cells.lookup n = some c) (hfn : X.fn n = true) (hs : Heap.SameBut c s.heap h') (hv : h'.IsCell c none) :
  Inv X pins (List.replicate X.N.length none) H { s with heap := h', toks := tk } := by
 obtain ⟨m, hn0, _⟩ := id I.loc
 obtain ⟨v0, oc, hoc, hocd⟩ := I.cell n c hc
 have big := I.ok.cab n c hfn hc
 have ne : ∀ b o, X.s₀.heap.get? b = some o -> b ≠ c := fun b o q => Nat.ne_of_lt (Nat.lt_of_lt_of_le (Heap.lt_size q) big)
 refine ⟨I.ok, I.os, I.bare, ⟨fun b o e q hb hx => (hs.2 b (ne b o e)).trans (I.base.keep b o e q hb hx), fun b o e q hb hx => ?_, I.base.free, fun b o e hx => ?_, I.base.tups, I.base.frzs, I.base.tbls⟩, ⟨m, hn0.sameBut hs (Ne.symm (I.cne n c hc)), fun j y v e1 e2 e3 => ?_⟩, fun y c' e => ?_, I.free, I.freeC, fun p hp => ?_, fun b ob e => ?_, by simp⟩
 ·obtain ⟨sl, z⟩ := I.base.slot b o e q hb hx
  exact ⟨sl, (hs.2 b (ne b o e)).trans z⟩
 ·obtain ⟨o', z⟩ := I.base.there b o e hx
  exact ⟨o', (hs.2 b (ne b o e)).trans z⟩
 ·rw [List.getElem?_replicate] at e2
  split at e2 <;> cases e2
 ·by_cases q : c' = c
  ·subst q; exact ⟨_, hv⟩
  ·obtain ⟨w', z⟩ := I.cell y c' e
   exact ⟨w', z.sameBut hs q⟩
 ·obtain ⟨e, q, nl, nf, d⟩ := I.pin p hp
  refine ⟨(hs.2 p.1 fun z => ?_).trans e, q, nl, nf, d⟩
  rw [z, hoc] at e
  exact d v0 (by rw [<- Option.some.inj e]; exact hocd)
 ·refine (I.hok b ob e).stay (fun b2 w' hb2 q => (hs.2 b2 ?_).trans q) (fun _ q => q) fun _ _ q => q
  rintro rfl
  have z := I.freeC n b2 hc
  rcases hb2 with rfl | hb2
  ·rw [z] at e; cases e
  ·rw [z] at hb2; cases hb2
theorem qf0 {X : Cx} {pins : List (Addr × Obj)} {σ : St} {H : Hp} {s : Shared} {n : Str} {i : Nat} {pos : Pos} {M : Model} {A : Around} {E : Value -> Shared -> Prop} {Q : Unit -> Shared -> Prop} (I : Inv X pins σ H s) (hN : X.N.Nodup) (hi : X.N[i]? = some n) (hx : X.env.scope.names.lookup n = some .cell) (hkn : X.env.kindOf n = some .cell) (hfn : X.fn n = true)
  (k : ∀ s', Inv X pins (List.replicate X.N.length none) H s' -> Q () s') : wpAny M A (do bindName X.env n .none; unbindBehindTheSuite X.env n pos) Q E s := by
 refine wpAny_bind (wpAny_bindName (vK (v := .non) (u := .none) I hN hi (.inr hx) rfl (fun s5 I5 => ?_) (.inl hfn)))
 obtain ⟨c, hc⟩ := I5.ok.has n (.inl hkn)
 obtain ⟨m, hn, hl⟩ := id I5.loc
 have hil : i < σ.length := by rw [I.len]; exact (List.getElem?_eq_some_iff.mp hi).1
 obtain ⟨u, ru, lk⟩ := hl i n .non hi (List.getElem?_set_self hil) (.inr (.inl hx))
 have hcv : s5.heap.IsCell c (some u) := by
  rcases lk with ⟨z, _⟩ | ⟨_, c', e, z⟩
  ·rw [hkn] at z; cases z
  ·rw [hc] at e; cases e; exact z
 unfold unbindBehindTheSuite
 refine wpAny_onRaise ?_
 unfold unbindName
 refine wpAny_bind (wpAny_point (wpAny_bind ?_))
 unfold deleteName
 simp only [hkn]
 refine wpAny_bind (wpAny_cellOf hc (wpAny_bind (wpAny_cellGet hcv ?_)))
 simp only [Option.isSome_some, if_true]
 exact wpAny_cellSet hcv fun h' hv hs => wpAny_point (k _ (qc0 (tk := s5.toks) I5 hc hfn hs hv))
section
variable {X : Cx} {c : Fc} {pos np hpos p1 p2 p3 p4 : Pos} {body : List Stmt}
theorem qnt {x n m : Str} {i : Nat} {S fm : Addr} {fd : FuncData} {ps : List Str} {k : Nat} {F : List D -> R D} {f : MS} {RN : List Str} (hN : X.N.Nodup) (hcx : X.stack = X.env :: X.outer) (hf : X.env.frame = some X.env.locals)
  (hcl : qmU X.K X.base RN S) (hgS : Gl X x) (hmS : X.mg x = some (.ref S))
  (G : qbs X.prog X.w X.K X.mg X.base CX0 k fm fd ps (spD X.K F)) (hr : uS k X.A) (hgm : Gl X m) (hmm : X.mg m = some (.ref fm)) (hkm : PySem.W.keepIn X.K (.ref fm) = true) (hbm : vn X.K fd ps [])
  (hb : ∀ (xe : Value -> Shared -> Prop) (pn : List (Addr × Obj)) (E : XK) (cE : Exn -> Hp -> Prop), XL2 (toX X xe pn) (reE c cE) (clR X.K RN) E -> DSs (toX X xe pn) (reE c cE) body f)
  (hi : X.N[i]? = some n := by rfl) (hx : X.env.scope.names.lookup n = some .local := by rfl) (hkn : X.env.kindOf n = some .local := by rfl)
  (hdx : (x == ("__debug__" : Str)) = false := by decide) (hdm : (m == ("__debug__" : Str)) = false := by decide) (hdn : (n == ("__debug__" : Str)) = false := by decide) (hcn : (n == ("__classdict__" : Str)) = false := by decide)
  (hst : starEach [.Name n p2] X.env = (false, eval (.Name n p2) X.env) :: starEach [] X.env := by rfl) (hpl : (backTo p3 (starEach [] X.env)).any (·.1) = false := by rfl) :
  DS X c (.Try body [.ExceptHandler (some (.Name x np)) (some n) [.Return (some (.Call (.Name m p1) [.Name n p2] [] p3)) p4] hpos] [] [] pos) (qiA RN f F) := by
 refine ⟨fun D σ H => ∃ ρ, Rep X.K c ρ σ H /\ WpS X.K c σ H D (qiA RN f F ρ), ?_, fun ρ σ H D r h => ⟨ρ, r, h⟩⟩
 rintro pins s σ H D I ⟨ρ, r, w⟩
 refine wpAny_Try_except ?_
 have hk := I.ok
 let xe : Value -> Shared -> Prop := fun e s₁ => wpAny (model X.prog X.w) X.A (noteFrame e X.env) (fun _ s₂ => wpAny (model X.prog X.w) X.A (setFlight e none) (fun _ s₃ => wpAny (model X.prog X.w) X.A (handleBy e X.env [.ExceptHandler (some (.Name x np)) (some n) [.Return (some (.Call (.Name m p1) [.Name n p2] [] p3)) p4] hpos]) (SP X pins D) X.xe s₃) X.xe s₂) X.xe s₁
 let cE : Exn -> Hp -> Prop := fun z H' => ∃ ρ' σ', f ρ = .exc z ρ' /\ Rep X.K c ρ' σ' H' /\ GrS c.O σ H σ' H'
 let E : XK := fun cv _ H' => ∃ C z, cv = .ref C /\ clR X.K RN z.cls = some C /\ cE z H'
 have L : XL2 (toX X xe (X.pn ++ pins)) (reE c cE) (clR X.K RN) E := by
  refine ⟨?_, fun z C H' h1 h2 => ⟨C, z, rfl, h1, h2⟩⟩
  intro pins2 σ2 H2 s2 u s' I2 hx2
  obtain ⟨e, T, C, H', rfl, os, bare, un, hok, he, hT, hHe, hHT, Fl, C', z, hC', hz, ρ', σ', ef, r', g'⟩ := hx2
  have eC : C = C' := Value.ref.inj hC'
  subst eC
  have I3 : Inv X pins σ2 H2 s2 := yj I2
  have hz2 : ∀ b ∈ [e, T], H' b = none := fun b hb => by
   simp only [List.mem_cons, List.not_mem_nil, or_false] at hb
   rcases hb with rfl | rfl
   ·exact hHe
   ·exact hHT
  have hz3 : ∀ b ∈ [e, T], s2.heap.get? b = none := fun b hb => by
   simp only [List.mem_cons, List.not_mem_nil, or_false] at hb
   rcases hb with rfl | rfl
   ·exact he
   ·exact hT
  have hl : s'.heap.FunFrames X.base X.stack := qbt I3 un
  have hA : X.A.frames = some (X.env :: X.outer) := by rw [<- hcx]; exact hk.frames
  show wpAny _ _ _ _ _ _
  rw [hcx] at hl
  refine qav hA hl hf Fl fun h3 T3 y1 y2 y3 => ?_
  rw [<- hcx] at y1
  have un3 : Un (frs X.stack) [] H2 H' s2.heap h3 := qdP un hz3 y1
  have hok3 : HOk X.prog X.w H' h3 := qbu I3 un hok hz2 y1
  have I4 : Inv X pins σ2 H' { s' with heap := h3 } := I3.call' (s' := { s' with heap := h3 }) (ch := []) os un3 hok3 bare (fun b hb => nomatch hb)
  have up : ∀ b, s'.heap.get? b = none -> s2.heap.get? b = none := fun b hb => by
   cases q : s2.heap.get? b with
   | none => rfl
   | some o =>
    obtain ⟨o', q'⟩ := un.there b o q (by simp)
    rw [hb] at q'; cases q'
  have hT3 : s2.heap.get? T3 = none := y3.elim (fun z => z ▸ hT) (up T3)
  have hHT3 : H' T3 = none := y3.elim (fun z => z ▸ hHT) fun z => by
   cases q : H' T3 with
   | none => rfl
   | some o =>
    obtain ⟨o', q'⟩ := yZ (hok _ _ q)
    rw [z] at q'; cases q'
  refine wpAny_handleBy_cons (codeAny_handlers_test ?_) (by intro q; cases q)
  refine qab (X := hdX X e) (qdN e I4) hgS hmS ?_ hdx
  obtain ⟨bmS, xS⟩ := hcl.sup
  obtain ⟨bm, xC, hin⟩ := hcl.own _ _ hz
  obtain ⟨nmS, qS, NS, bsS, hdctS, snS, subS, abS, colS, ddS, j0, j1, j2, j3, j5, newIdS, _, _, _, _, hS, _⟩ := xS.ex
  obtain ⟨nm, q, N, bs, hdct, sn, sub, ab, col, dd, k0, k1, k2, k3, k5, newId, _, _, _, _, hC, _⟩ := xC.ex
  obtain ⟨oe, vs, oT, ts, a0, hoe, hoc, hod, _⟩ := id y2
  refine vv (M := model X.prog X.w) (A := X.A.mark (some (.ref e))) (h := h3) (g := s'.gens) (d := s'.drawn) (t := s'.toks) (os := s'.os) (I4.bk _ _ hC) (I4.bk _ _ hS) hoe hoc.1 xS.hasBase ?_
  rw [hin]
  show codeAny _ _ _ _ _
  refine codeAny_handlers_suite_as ?_
  have hl3 : h3.FunFrames X.base X.stack := qbt I3 un3
  refine qa2 (s := { s' with heap := h3 }) hl3 y2 fun h4 T4 z1 z2 z3 => ?_
  have hz4 : ∀ b ∈ [e, T3], H' b = none := fun b hb => by
   simp only [List.mem_cons, List.not_mem_nil, or_false] at hb
   rcases hb with rfl | rfl
   ·exact hHe
   ·exact hHT3
  have hz5 : ∀ b ∈ [e, T3], s2.heap.get? b = none := fun b hb => by
   simp only [List.mem_cons, List.not_mem_nil, or_false] at hb
   rcases hb with rfl | rfl
   ·exact he
   ·exact hT3
  have un4 : Un (frs X.stack) [] H2 H' s2.heap h4 := qdP un3 hz5 z1
  have hok4 : HOk X.prog X.w H' h4 := qbu I3 un3 hok3 hz4 z1
  obtain ⟨oe4, vs4, oT4, ts4, a04, hoe4, hoc4, hod4, _⟩ := id z2
  have I5 : Inv X pins σ2 (upd H' e (.frz oe4 (.own e))) { s' with heap := h4 } := I3.call' (s' := { s' with heap := h4 }) (ch := []) os (qfZ un4 he hHe) (qdQ hok4 hHe hoe4) bare (fun b hb => nomatch hb)
  refine vK (v := .ref e) I5 hN hi (.inl hx) rfl (fun s5 I6 => ?_) (.inr hx)
  have sm : jK H' (upd H' e (.frz oe4 (.own e))) := qz hHe _
  have hil : IsL X.K (fun _ => False) (upd H' e (.frz oe4 (.own e))) [.exc z.cls] [.ref e] := ⟨.ref e, [], rfl, ⟨e, rfl, C, (wN hz).2, hcl.ki _ _ hz, oe4, vs4, qv, hoc4.1, hod4⟩, rfl⟩
  cases em : F [.exc z.cls] with
  | bad => simp only [qiA, ef, (wN hz).1, em, if_true] at w; exact w.elim
  | exc z' ρ'' => simp only [qiA, ef, (wN hz).1, em, if_true] at w; exact w.elim
  | ok d =>
   simp only [qiA, ef, (wN hz).1, em, if_true] at w
   have hσl : i < σ2.length := by rw [I5.len]; exact (List.getElem?_eq_some_iff.mp hi).1
   have call := qcN (qdo (pos := p4) (qdM (X := hdX X e) (E := fun _ _ _ => False) (pos := p3) (p := p1) G ⟨hr.dp, hr.un, hr.gd⟩ hgm hmm hkm hbm .nil (fun _ _ _ _ _ _ _ z => z.elim) (j7 (vL (X := hdX X e) (pos := p2) hi (.inl hx) hdn hcn) wM hst) hdm hst hpl))
   have run := call pins s5 _ _ ({ nx := fun _ _ => False, rt := D.rt } : qeR) (qdN e I6) ⟨.ref e, List.getElem?_set_self hσl, ⟨e, oe4, .own e, vs4, rfl, qv, hod4, hoc4.2.1⟩, [.exc z.cls], fun _ => False, hil, fun _ _ => trivial, by
    rw [em]
    exact fun v H6 sm6 i6 => w v σ' H6 (r'.same (fun b o q => sm6 b o (sm b o q))) (Is.ext Ext.refl (fun a ha _ => ha.elim (fun z => z.elim) fun hn => r'.b0 a (r'.dm a (sm.free hn))) i6) (g'.trans (Gr.of_same (fun b o q => sm6 b o (sm b o q))).s)⟩
   refine wpAny_mono run (fun fl s6 h6 => ?_) (fun _ _ z => z.elim)
   cases fl with
   | next => obtain ⟨_, _, _, z⟩ := h6; exact z.elim
   | brk => obtain ⟨_, _, _, z⟩ := h6; exact z.elim
   | cont => obtain ⟨_, _, _, z⟩ := h6; exact z.elim
   | ret u =>
    obtain ⟨v, σ7, H7, I7, rv, q7⟩ := h6
    have I8 := qdO hk I7
    obtain ⟨m8, hn8, _⟩ := id I8.loc
    exact wpAny_nameGoes hkn hn8 (by rw [hk.kind]; rfl) fun h9 m9 hn9 hs9 => ⟨v, _, H7, qey I8 hn9 hs9, rv, q7⟩
 obtain ⟨t, p, wt⟩ := hb xe (X.pn ++ pins) E cE L
 have w' : WpS X.K (reE c cE) σ H D (f ρ) := by
  cases ef : f ρ with
  | bad => simp only [qiA, ef] at w; exact w
  | exc z ρ' => exact fun σ' H' r' g' => ⟨ρ', σ', ef, r'.unE, g'⟩
  | ok fl =>
   simp only [qiA, ef] at w
   cases fl with
   | nx ρ' => exact fun σ' H' r' g' => w σ' H' r'.unE g'
   | rt d ρ' => exact fun v σ' H' r' i' g' => w v σ' H' r'.unE i' g'
   | bk ρ' => exact fun σ' H' r' g' => w σ' H' r'.unE g'
   | ct ρ' => exact fun σ' H' r' g' => w σ' H' r'.unE g'
 have run := p [] s σ H D (qiz I) (wt ρ σ H D r.reE w')
 refine wpAny_mono run (fun fl s1 h1 => ?_) (fun _ _ z => z)
 cases fl with
 | next =>
  obtain ⟨σ1, H1, I1, q1⟩ := h1
  exact wpAny_execs_nil ⟨σ1, H1, yj I1, q1⟩
 | brk => obtain ⟨σ1, H1, I1, q1⟩ := h1; exact ⟨σ1, H1, yj I1, q1⟩
 | cont => obtain ⟨σ1, H1, I1, q1⟩ := h1; exact ⟨σ1, H1, yj I1, q1⟩
 | ret u => obtain ⟨v, σ1, H1, I1, rv, q1⟩ := h1; exact ⟨v, σ1, H1, yj I1, rv, q1⟩
theorem qjK {x n : Str} {i : Nat} {S : Addr} {he : Expr} {f : MS} {g : M D} {RN : List Str} (hN : X.N.Nodup) (hcx : X.stack = X.env :: X.outer) (hf : X.env.frame = some X.env.locals)
  (hcl : qmU X.K X.base RN S) (hgS : Gl X x) (hmS : X.mg x = some (.ref S))
  (hh : ∀ (e : Addr) (H6 : Hp), AloneA (X.A.mark (some (.ref e))) H6 -> DE (hdX X e) (ch H6) he g)
  (hb : ∀ (xe : Value -> Shared -> Prop) (pn : List (Addr × Obj)) (E : XK) (cE : Exn -> Hp -> Prop), XL2 (toX X xe pn) (reE c cE) (clR X.K RN) E -> DSs (toX X xe pn) (reE c cE) body f)
  (hi : X.N[i]? = some n := by rfl) (hx : X.env.scope.names.lookup n = some .cell := by rfl) (hkn : X.env.kindOf n = some .cell := by rfl) (hfn : X.fn n = true := by rfl)
  (hdx : (x == ("__debug__" : Str)) = false := by decide)  :
  DS X c (.Try body [.ExceptHandler (some (.Name x np)) (some n) [.Return (some he) p4] hpos] [] [] pos) (qaw RN X.N.length i f g) := by
 refine ⟨fun D σ H => ∃ ρ, Rep X.K c ρ σ H /\ WpS X.K c σ H D (qaw RN X.N.length i f g ρ), ?_, fun ρ σ H D r h => ⟨ρ, r, h⟩⟩
 rintro pins s σ H D I ⟨ρ, r, w⟩
 refine wpAny_Try_except ?_
 have hk := I.ok
 let xe : Value -> Shared -> Prop := fun e s₁ => wpAny (model X.prog X.w) X.A (noteFrame e X.env) (fun _ s₂ => wpAny (model X.prog X.w) X.A (setFlight e none) (fun _ s₃ => wpAny (model X.prog X.w) X.A (handleBy e X.env [.ExceptHandler (some (.Name x np)) (some n) [.Return (some he) p4] hpos]) (SP X pins D) X.xe s₃) X.xe s₂) X.xe s₁
 let cE : Exn -> Hp -> Prop := fun z H' => ∃ ρ' σ', f ρ = .exc z ρ' /\ Rep X.K c ρ' σ' H' /\ GrS c.O σ H σ' H'
 let E : XK := fun cv _ H' => ∃ C z, cv = .ref C /\ clR X.K RN z.cls = some C /\ cE z H'
 have L : XL2 (toX X xe (X.pn ++ pins)) (reE c cE) (clR X.K RN) E := by
  refine ⟨?_, fun z C H' h1 h2 => ⟨C, z, rfl, h1, h2⟩⟩
  intro pins2 σ2 H2 s2 u s' I2 hx2
  obtain ⟨e, T, C, H', rfl, os, bare, un, hok, he, hT, hHe, hHT, Fl, C', z, hC', hz, ρ', σ', ef, r', g'⟩ := hx2
  have eC : C = C' := Value.ref.inj hC'
  subst eC
  have I3 : Inv X pins σ2 H2 s2 := yj I2
  have hz2 : ∀ b ∈ [e, T], H' b = none := fun b hb => by
   simp only [List.mem_cons, List.not_mem_nil, or_false] at hb
   rcases hb with rfl | rfl
   ·exact hHe
   ·exact hHT
  have hz3 : ∀ b ∈ [e, T], s2.heap.get? b = none := fun b hb => by
   simp only [List.mem_cons, List.not_mem_nil, or_false] at hb
   rcases hb with rfl | rfl
   ·exact he
   ·exact hT
  have hl : s'.heap.FunFrames X.base X.stack := qbt I3 un
  have hA : X.A.frames = some (X.env :: X.outer) := by rw [<- hcx]; exact hk.frames
  show wpAny _ _ _ _ _ _
  rw [hcx] at hl
  refine qav hA hl hf Fl fun h3 T3 y1 y2 y3 => ?_
  rw [<- hcx] at y1
  have un3 : Un (frs X.stack) [] H2 H' s2.heap h3 := qdP un hz3 y1
  have hok3 : HOk X.prog X.w H' h3 := qbu I3 un hok hz2 y1
  have I4 : Inv X pins σ2 H' { s' with heap := h3 } := I3.call' (s' := { s' with heap := h3 }) (ch := []) os un3 hok3 bare (fun b hb => nomatch hb)
  have up : ∀ b, s'.heap.get? b = none -> s2.heap.get? b = none := fun b hb => by
   cases q : s2.heap.get? b with
   | none => rfl
   | some o =>
    obtain ⟨o', q'⟩ := un.there b o q (by simp)
    rw [hb] at q'; cases q'
  have hT3 : s2.heap.get? T3 = none := y3.elim (fun z => z ▸ hT) (up T3)
  have hHT3 : H' T3 = none := y3.elim (fun z => z ▸ hHT) fun z => by
   cases q : H' T3 with
   | none => rfl
   | some o =>
    obtain ⟨o', q'⟩ := yZ (hok _ _ q)
    rw [z] at q'; cases q'
  refine wpAny_handleBy_cons (codeAny_handlers_test ?_) (by intro q; cases q)
  refine qab (X := hdX X e) (qdN e I4) hgS hmS ?_ hdx
  obtain ⟨bmS, xS⟩ := hcl.sup
  obtain ⟨bm, xC, hin⟩ := hcl.own _ _ hz
  obtain ⟨nmS, qS, NS, bsS, hdctS, snS, subS, abS, colS, ddS, j0, j1, j2, j3, j5, newIdS, _, _, _, _, hS, _⟩ := xS.ex
  obtain ⟨nm, q, N, bs, hdct, sn, sub, ab, col, dd, k0, k1, k2, k3, k5, newId, _, _, _, _, hC, _⟩ := xC.ex
  obtain ⟨oe, vs, oT, ts, a0, hoe, hoc, hod, _⟩ := id y2
  refine vv (M := model X.prog X.w) (A := X.A.mark (some (.ref e))) (h := h3) (g := s'.gens) (d := s'.drawn) (t := s'.toks) (os := s'.os) (I4.bk _ _ hC) (I4.bk _ _ hS) hoe hoc.1 xS.hasBase ?_
  rw [hin]
  show codeAny _ _ _ _ _
  refine codeAny_handlers_suite_as ?_
  have hl3 : h3.FunFrames X.base X.stack := qbt I3 un3
  refine qa2 (s := { s' with heap := h3 }) hl3 y2 fun h4 T4 z1 z2 z3 => ?_
  have hz4 : ∀ b ∈ [e, T3], H' b = none := fun b hb => by
   simp only [List.mem_cons, List.not_mem_nil, or_false] at hb
   rcases hb with rfl | rfl
   ·exact hHe
   ·exact hHT3
  have hz5 : ∀ b ∈ [e, T3], s2.heap.get? b = none := fun b hb => by
   simp only [List.mem_cons, List.not_mem_nil, or_false] at hb
   rcases hb with rfl | rfl
   ·exact he
   ·exact hT3
  have un4 : Un (frs X.stack) [] H2 H' s2.heap h4 := qdP un3 hz5 z1
  have hok4 : HOk X.prog X.w H' h4 := qbu I3 un3 hok3 hz4 z1
  obtain ⟨oe4, vs4, oT4, ts4, a04, hoe4, hoc4, hod4, _⟩ := id z2
  have I5 : Inv X pins σ2 (upd H' e (.frz oe4 (.own e))) { s' with heap := h4 } := I3.call' (s' := { s' with heap := h4 }) (ch := []) os (qfZ un4 he hHe) (qdQ hok4 hHe hoe4) bare (fun b hb => nomatch hb)
  refine vK (v := .ref e) I5 hN hi (.inr hx) rfl (fun s5 I6 => ?_) (.inl hfn)
  have sm : jK H' (upd H' e (.frz oe4 (.own e))) := qz hHe _
  have al : AloneA (X.A.mark (some (.ref e))) (upd H' e (.frz oe4 (.own e))) := ⟨e, oe4, .own e, vs4, rfl, qv, hod4, hoc4.2.1⟩
  have hσl : i < σ2.length := by rw [I5.len]; exact (List.getElem?_eq_some_iff.mp hi).1
  have rh := qls (K := X.K) (n := X.N.length) (i := i) (H6 := upd H' e (.frz oe4 (.own e))) (σ := σ2) (d := .exc z.cls) (v := .ref e) I5.len ⟨e, rfl, C, (wN hz).2, hcl.ki _ _ hz, oe4, vs4, qv, hoc4.1, hod4⟩
  cases em : g ((List.replicate X.N.length none).set i (some (.exc z.cls))) with
  | bad => simp only [qaw, ef, (wN hz).1, em, if_true] at w; exact w.elim
  | exc z' ρ'' => simp only [qaw, ef, (wN hz).1, em, if_true] at w; exact w.elim
  | ok dp =>
   obtain ⟨d, ρd⟩ := dp
   simp only [qaw, ef, (wN hz).1, em, if_true] at w
   obtain ⟨te, pe, we⟩ := hh e _ al
   have call := qcN (qdo (pos := p4) pe)
   have run := call pins s5 _ _ ({ nx := fun _ _ => False, rt := D.rt } : qeR) (qdN e I6) (we _ _ _ _ rh (by
    rw [em]
    exact fun v H6 r6 i6 _ => by
     have sm6 : jK (upd H' e (.frz oe4 (.own e))) H6 := fun b o q => r6.kp b o q fun z => z
     exact w v σ' H6 (r'.same (fun b o q => sm6 b o (sm b o q))) (Is.ext Ext.refl (fun a ha _ => r'.b0 a (r'.dm a (sm.free ha.1))) i6) (g'.trans (Gr.of_same (fun b o q => sm6 b o (sm b o q))).s)))
   refine wpAny_mono run (fun fl s6 h6 => ?_) (fun _ _ z => z.elim)
   cases fl with
   | next => obtain ⟨_, _, _, z⟩ := h6; exact z.elim
   | brk => obtain ⟨_, _, _, z⟩ := h6; exact z.elim
   | cont => obtain ⟨_, _, _, z⟩ := h6; exact z.elim
   | ret u =>
    obtain ⟨v, σ7, H7, I7, rv, q7⟩ := h6
    have I8 := qdO hk I7
    exact qf0 I8 hN hi hx hkn hfn fun s9 I9 => ⟨v, _, H7, I9, rv, q7⟩
 obtain ⟨t, p, wt⟩ := hb xe (X.pn ++ pins) E cE L
 have w' : WpS X.K (reE c cE) σ H D (f ρ) := by
  cases ef : f ρ with
  | bad => simp only [qaw, ef] at w; exact w
  | exc z ρ' => exact fun σ' H' r' g' => ⟨ρ', σ', ef, r'.unE, g'⟩
  | ok fl =>
   simp only [qaw, ef] at w
   cases fl with
   | nx ρ' => exact fun σ' H' r' g' => w σ' H' r'.unE g'
   | rt d ρ' => exact fun v σ' H' r' i' g' => w v σ' H' r'.unE i' g'
   | bk ρ' => exact fun σ' H' r' g' => w σ' H' r'.unE g'
   | ct ρ' => exact fun σ' H' r' g' => w σ' H' r'.unE g'
 have run := p [] s σ H D (qiz I) (wt ρ σ H D r.reE w')
 refine wpAny_mono run (fun fl s1 h1 => ?_) (fun _ _ z => z)
 cases fl with
 | next =>
  obtain ⟨σ1, H1, I1, q1⟩ := h1
  exact wpAny_execs_nil ⟨σ1, H1, yj I1, q1⟩
 | brk => obtain ⟨σ1, H1, I1, q1⟩ := h1; exact ⟨σ1, H1, yj I1, q1⟩
 | cont => obtain ⟨σ1, H1, I1, q1⟩ := h1; exact ⟨σ1, H1, yj I1, q1⟩
 | ret u => obtain ⟨v, σ1, H1, I1, rv, q1⟩ := h1; exact ⟨v, σ1, H1, yj I1, rv, q1⟩
end
end L2.Sk
namespace L2.Sk
open PySem PySem.Spec PyProof.Rows PySem.W
def bmV : List Value := [.type "ValueError", .type "Exception", .type "BaseException", .type "object"]
def qez (K : Fr0) (C S : Addr) : Bool := match K.lookup C with
 | some ⟨_, _, .cls cd, _⟩ => cd.mro.contains (.ref S)
 | _ => false
theorem qdR {K : Fr0} {h : Heap} {C S : Addr} (X : K.In h) (q : excIn K C bmV "ValueError.__new__" = true) (hs : qez K C S = true) : ∃ bm, XC h C bm /\ (Value.ref C :: bm).contains (.ref S) = true := by
 unfold excIn at q
 split at q
 ·rename_i dd cd sl ho
  split at q
  ·rename_i C' bm k0 k1 k2 k3 n k5 hm hl
   simp only [Bool.and_eq_true, beq_iff_eq, Bool.not_eq_true'] at q
   obtain ⟨⟨⟨⟨⟨e1, e2⟩, hdel⟩, ht⟩, hok⟩, hni⟩ := q
   subst e1 e2
   unfold qez at hs
   rw [ho] at hs
   dsimp only at hs
   rw [hm] at hs
   obtain ⟨nm, bs, mro, ns, qn, hd, sn, sub, ab, col, del⟩ := cd
   dsimp only at hm hdel hok hni
   subst hm hdel
   have hz : sl = #[k0, k1, k2, k3, some (.builtin _), k5] := Array.toList_inj.mp hl
   subst hz
   have hT := tail_of_in X ht
   refine ⟨bm, ⟨hT.hasType (by decide +kernel), nm, qn, ns, bs, hd, sn, sub, ab, col, dd, k0, k1, k2, k3, k5, _, "ValueError.__init__", "ValueError", bmV, _, X _ _ ho, .of_isNs (isNs_of_in X hok), nsMap_none_of_in X hok hni, hT, PySem.F.excBase_ValueError⟩, hs⟩
  ·cases q
 ·cases q
def qjL (K : Fr0) (D : Addr) : Bool :=
 findIn K (.ref D) "__getattribute__" == some (some (.builtin "BaseException.__getattribute__")) && findIn K (.ref D) "__getattr__" == some none &&
 findIn K (.ref D) "__class__" == some (some (.builtin "object.__class__")) && mroIn K D (.type "object") == some true && subIn K (.ref D) (.type "BaseException") == some true && (clsIn K D).isSome &&
 (["int", "bool", "str", "tuple", "list", "dict"].all fun T => kitOne K (.ref D) (.type T) == some false)
theorem qlt {K : Fr0} {D : Addr} (h : qjL K D = true) : XK6 K D := by
 unfold qjL at h
 simp only [Bool.and_eq_true, beq_iff_eq] at h
 obtain ⟨⟨⟨⟨⟨⟨h1, h2⟩, h3⟩, h4⟩, h5⟩, h6⟩, h7⟩ := h
 exact ⟨h1, h2, h3, h4, h5, h6, fun T hT => by simpa using List.all_eq_true.mp h7 T hT⟩
def qeA (n m : Str) : Bool := n == m || m == "SackError"
def qlu (K : Fr0) (S : Addr) (TN : List Str) (n : Str) : Bool := match uT K n with
 | some C => excIn K C bmV "ValueError.__new__" && qez K C S && qjL K C && kitOne K (.ref C) (.type "ValueError") == some true &&
  TN.all fun m => match uT K m with
   | some Cm => kitOne K (.ref C) (.ref Cm) == some (qeA n m)
   | none => false
 | none => false
def qmV (K : Fr0) (RN TN : List Str) : Bool := match uT K "SackError" with
 | some S => excIn K S bmV "ValueError.__new__" && qez K S S && RN.all (qlu K S TN)
 | none => false
structure XT (K : Fr0) (mg : Str -> Option Value) (RN TN : List Str) : Prop where
 all : qmV K RN TN = true
 mgc : ∀ n C, uT K n = some C -> mg n = some (.ref C)
theorem qhs {K : Fr0} {h : Heap} {mg : Str -> Option Value} (X : K.In h) (G : h.Ns mainGlobals mg) (n : Str) (C : Addr) (e : uT K n = some C) : mg n = some (.ref C) := by
 unfold uT at e
 split at e
 ·rename_i C' q
  cases e
  exact mg_of X G q
 ·cases e
section
variable {K : Fr0} {mg : Str -> Option Value} {RN TN : List Str}
theorem XT.sup (t : XT K mg RN TN) : ∃ S, uT K "SackError" = some S /\ excIn K S bmV "ValueError.__new__" = true /\ qez K S S = true /\ RN.all (qlu K S TN) = true := by
 have h := t.all
 unfold qmV at h
 split at h
 ·rename_i S e
  simp only [Bool.and_eq_true] at h
  exact ⟨S, e, h.1.1, h.1.2, h.2⟩
 ·cases h
theorem XT.row (t : XT K mg RN TN) {S : Addr} (hS : uT K "SackError" = some S) {n : Str} (hn : RN.contains n = true) : qlu K S TN n = true := by
 obtain ⟨S', e, _, _, h⟩ := t.sup
 rw [hS] at e
 cases e
 exact List.all_eq_true.mp h n (by simpa using hn)
theorem XT.cls (t : XT K mg RN TN) {n : Str} {C : Addr} (h : clR K RN n = some C) : uT K n = some C /\ ∃ S, uT K "SackError" = some S /\ excIn K C bmV "ValueError.__new__" = true /\ qez K C S = true /\ XK6 K C /\ kitOne K (.ref C) (.type "ValueError") = some true /\
  ∀ m ∈ TN, ∃ Cm, uT K m = some Cm /\ kitOne K (.ref C) (.ref Cm) = some (qeA n m) := by
 unfold clR at h
 split at h
 ·rename_i hn
  obtain ⟨S, hS, _⟩ := t.sup
  have r := t.row hS hn
  unfold qlu at r
  rw [h] at r
  simp only [Bool.and_eq_true, beq_iff_eq] at r
  obtain ⟨⟨⟨⟨r1, r2⟩, r3⟩, r4⟩, r5⟩ := r
  refine ⟨h, S, hS, r1, r2, qlt r3, r4, fun m hm => ?_⟩
  have := List.all_eq_true.mp r5 m hm
  split at this
  ·rename_i Cm e
   exact ⟨Cm, e, by simpa using this⟩
  ·cases this
 ·cases h
theorem XT.has (t : XT K mg RN TN) {n : Str} (hn : RN.contains n = true) : ∃ C, clR K RN n = some C := by
 obtain ⟨S, hS, _⟩ := t.sup
 have r := t.row hS hn
 unfold qlu at r
 split at r
 ·rename_i C e
  exact ⟨C, by unfold clR; rw [if_pos hn]; exact e⟩
 ·cases r
theorem XT.ask (t : XT K mg RN TN) {n m : Str} (hn : RN.contains n = true) (hm : m ∈ TN) : ∃ Cm, uT K m = some Cm := by
 obtain ⟨C, hC⟩ := t.has hn
 obtain ⟨_, _, _, _, _, _, _, h⟩ := t.cls hC
 obtain ⟨Cm, e, _⟩ := h m hm
 exact ⟨Cm, e⟩
theorem XT.xcls (t : XT K mg RN TN) {base : Heap} (X : K.In base) : ∃ S, mg "SackError" = some (.ref S) /\ qmU K base RN S := by
 obtain ⟨S, hS, h1, h2, _⟩ := t.sup
 refine ⟨S, t.mgc _ _ hS, ⟨(qdR X h1 h2).imp fun bm h => h.1, fun n C h => ?_, fun n C h => ?_⟩⟩
 ·obtain ⟨_, S', hS', r1, r2, _⟩ := t.cls h
  rw [hS] at hS'
  cases hS'
  exact qdR X r1 r2
 ·obtain ⟨_, _, _, _, _, r, _⟩ := t.cls h
  exact r
end
def qcK (RN : List Str) (m : Str) (f : M D) : M D := bnd f fun d => match d with
 | .exc n => if RN.contains n then ret (.bl (m == "ValueError" || qeA n m)) else fun _ => .bad
 | _ => fun _ => .bad
section
variable {X : Cx} {c : Fc} {a b e : Expr} {pos : Pos} {RN TN : List Str}
def qnu (K : Fr0) (RN : List Str) (m : Str) (Cm : V) : List V -> Hp -> VK -> Prop := fun xs H Q => ∃ v n A, xs = [v, Cm] /\ RN.contains n = true /\ Is K A H (.exc n) v /\ Q (.bl (m == "ValueError" || qeA n m)) H
theorem qdS {m : Str} {Cm : V} {um : Value} (hr : yp Cm um) (hu : ∀ u, yp Cm u -> u = um) (hk : ∀ n C, uT X.K n = some C -> RN.contains n = true -> kitOne X.K (.ref C) um = some (m == "ValueError" || qeA n m)) : yJ X (.builtin "isinstance") (qnu X.K RN m Cm) := by
 intro pins s σ H xs us Q I r h
 obtain ⟨v, n, A, rfl, hn, hi, q⟩ := h
 obtain ⟨u, w, rfl, r1, r2⟩ := zh.two r
 rw [hu w r2]
 obtain ⟨z, rfl, C, hC, h1, h2⟩ := hi
 cases (show u = Value.ref z from r1)
 exact qaW I h1 h2 (hk n C hC hn) fun tk => ⟨.bl _, H, I.tok tk, rfl, q⟩
theorem qf1 {m : Str} {f : M D} {t : TE} {Cm : V} (w : ∀ ρ σ H Q, Rep X.K c ρ σ H -> Wp X.K c σ H Q (f ρ) -> t σ H Q) : ∀ ρ σ H Q, Rep X.K c ρ σ H -> Wp X.K c σ H Q (qcK RN m f ρ) -> tCB (qnu X.K RN m Cm) (qgY t (qgY (tC Cm) qmF)) σ H Q := fun ρ σ H Q r h => w ρ σ H _ r (Wp.bnd h fun d ρ1 v H1 r1 i1 g1 h1 => by
 cases d with
 | exc n =>
  dsimp only at h1
  by_cases hn : RN.contains n = true
  ·rw [if_pos hn] at h1
   exact ⟨v, n, _, rfl, hn, i1, h1 _ H1 r1 rfl .refl⟩
  ·rw [if_neg hn] at h1
   exact h1.elim
 | _ => exact h1.elim)
theorem vw {m : Str} {mgl : Str -> Option Value} {p p2 : Pos} {f : M D} (t : XT X.K X.mg RN TN) (hm : m ∈ TN) (hne : (m == "ValueError") = false) (hg : Gl X "isinstance") (hmi : X.mg "isinstance" = none) (hg2 : Gl X m) (ha : DE X c a f)
  (hs : ∃ Cm, uT X.K m = some Cm)
  (hv : bootBuiltins "isinstance" = some (.builtin "isinstance") := by first | rfl | exact PySem.boot_isinstance) (hdb2 : (m == ("__debug__" : Str)) = false := by decide)
  (he : starEach [a, .Name m p2] X.env = (false, eval a X.env) :: starEach [.Name m p2] X.env := by rfl) (hpl : (backTo pos (starEach [.Name m p2] X.env)).any (·.1) = false := by rfl) : DE X c (.Call (.Name "isinstance" p) [a, .Name m p2] [] pos) (qcK RN m f) := by
 obtain ⟨ta, pa, w⟩ := ha
 obtain ⟨Cm, hCm⟩ := hs
 refine ⟨_, wY (qdS (RN := RN) (m := m) (Cm := .ref Cm) (um := .ref Cm) rfl (fun u h => h) fun n C hC hn => ?_) hg hmi hv (j7 pa (j7 (qcM (v := .ref Cm) hg2 (t.mgc m Cm hCm) rfl hdb2) wM (by rfl)) he) (by decide) (by decide) he hpl, qf1 w⟩
 have hcl : clR X.K RN n = some C := by unfold clR; rw [if_pos hn]; exact hC
 obtain ⟨_, _, _, _, _, _, _, h⟩ := t.cls hcl
 obtain ⟨Cm', e1, e2⟩ := h m hm
 rw [hCm] at e1
 cases e1
 rw [e2, hne]; rfl
theorem qjM {p p2 : Pos} {f : M D} (t : XT X.K X.mg RN TN) (hg : Gl X "isinstance") (hmi : X.mg "isinstance" = none) (hg2 : Gl X "ValueError") (hm2 : X.mg "ValueError" = none) (ha : DE X c a f)
  (hv : bootBuiltins "isinstance" = some (.builtin "isinstance") := by first | rfl | exact PySem.boot_isinstance) (hv2 : bootBuiltins "ValueError" = some (.type "ValueError") := by rfl)
  (he : starEach [a, .Name "ValueError" p2] X.env = (false, eval a X.env) :: starEach [.Name "ValueError" p2] X.env := by rfl) (hpl : (backTo pos (starEach [.Name "ValueError" p2] X.env)).any (·.1) = false := by rfl) : DE X c (.Call (.Name "isinstance" p) [a, .Name "ValueError" p2] [] pos) (qcK RN "ValueError" f) := by
 obtain ⟨ta, pa, w⟩ := ha
 refine ⟨_, wY (qdS (RN := RN) (m := "ValueError") (Cm := .ty "ValueError") (um := .type "ValueError") rfl (fun u h => h) fun n C hC hn => ?_) hg hmi hv (j7 pa (j7 (qeY (v := .ty "ValueError") hg2 hm2 hv2 rfl (by decide) (by decide)) wM (by rfl)) he) (by decide) (by decide) he hpl, qf1 w⟩
 have hcl : clR X.K RN n = some C := by unfold clR; rw [if_pos hn]; exact hC
 obtain ⟨_, _, _, _, _, _, h, _⟩ := t.cls hcl
 rw [h]; rfl
end
section
variable {P : Program} {w : World} {K : PySem.W.Frag} {mg : Str -> Option Value} {base : Heap}
theorem qdT {x qual : Str} {st : Stmt} {f : Addr} {fd : FuncData} {N ps : List Str} {k : Nat} {O : List Nat} {body : MS} (F : Fun K x qual st f fd) (S : qp N ps (qd st)) (hO : ∀ i ∈ O, ps.length <= i)
  (hb : ∀ (cdv : Value) (A : Around) (outer : List PySem.Env) (s : Shared) (H : Hp) (E : XK) (B : Addr -> Prop), uj k (A.deeper (envOfC qual (qd st) s.heap.objs.size f cdv)) -> AloneA (A.deeper (envOfC qual (qd st) s.heap.objs.size f cdv)) H ->
   DSs (qew CX0 P w K mg base N qual (qd st) f cdv A outer s H E).nox (cfn O [] B H (fun _ => False) (fun _ _ => False) fun _ => none) (qm st) body) :
  qbs P w K mg base CX0 (k + 1) f fd ps (spD K (dfn N.length ps.length body)) := by
 obtain ⟨oc, od, kV, doc, pm, an, cdv, ct, osl, rfl, lk, hcd⟩ := F.ex
 refine qlq lk hcd S (fun vs H Q E h => ?_) (fun A outer s H vs Q E hr al h => ?_)
 ·obtain ⟨ds, B, il, _, h⟩ := h
  unfold dfn at h
  by_cases e : ds.length = ps.length
  ·rw [il.length]; exact e
  ·rw [if_neg e] at h; exact h.elim
 ·obtain ⟨ds, B, il, _, h⟩ := h
  obtain ⟨t, p, wt⟩ := hb cdv A outer s H E B hr al
  refine ⟨t, p.nox, ?_⟩
  unfold dfn at h
  by_cases e : ds.length = ps.length
  ·rw [if_pos e] at h
   refine wt (yL N.length ds) (zY N vs) H _ (qao il (fun i hi => by rw [e]; exact hO i hi)) ?_
   have same : ∀ {ρ : Env} {σ : St} {H' : Hp}, Rep K (cfn O [] B H (fun _ => False) (fun _ _ => False) fun _ => none) ρ σ H' -> jK H H' := fun r b o hb => r.kp b o hb fun z => z
   cases eb : body (yL N.length ds) with
   | bad => rw [eb] at h; exact h.elim
   | exc z ρ => rw [eb] at h; exact h.elim
   | ok fl =>
    rw [eb] at h
    cases fl with
    | nx ρ => exact fun σ' H' r' _ => h .non H' (same r') rfl
    | rt d ρ => exact fun v σ' H' r' i' _ => h v H' (same r') i'
    | bk ρ => exact h.elim
    | ct ρ => exact h.elim
  ·rw [if_neg e] at h; exact h.elim
structure qc1 (P : Program) (w : World) (K : PySem.W.Frag) (mg : Str -> Option Value) (base : Heap) (k : Nat) (x : Str) (ps : List Str) (sp : Sp) : Prop where
 ex : ∃ f fd, qbs P w K mg base CX0 k f fd ps sp /\ mg x = some (.ref f) /\ PySem.W.keepIn K (.ref f) = true /\ vn K fd ps []
end
end L2.Sk
namespace L2.Sk
open PySem PySem.Spec PyProof.Rows
section
variable {ρ : Env} {f g : M D} {l : M (List D)} {p q : MS} {RN : List Str}
theorem w9 (F : List D -> R D) : zm RN F l ρ = match l ρ with | .ok (xs, ρ1) => (match F xs with | .ok d => .ok (d, ρ1) | .exc x _ => (if RN.contains x.cls then .exc x ρ1 else .bad) | .bad => .bad) | .exc x ρ' => .exc x ρ' | .bad => .bad := by
 simp only [zm, bnd]
 cases l ρ with
 | ok z => obtain ⟨z1, ρ1⟩ := z; cases F z1 <;> rfl
 | exc x ρ' => rfl
 | bad => rfl
theorem qdU (F : List D -> R D) : qix F l ρ = match l ρ with | .ok (xs, ρ1) => (match F xs with | .ok d => .ok (d, ρ1) | _ => .bad) | .exc x ρ' => .exc x ρ' | .bad => .bad := by
 simp only [qix, bnd]
 cases l ρ with
 | ok z => obtain ⟨z1, ρ1⟩ := z; cases F z1 <;> rfl
 | exc x ρ' => rfl
 | bad => rfl
theorem qdV (x : Str) : wR x l ρ = match l ρ with | .ok (ds, ρ') => (if qI ds.length then .exc ⟨x, .non⟩ ρ' else .bad) | .exc z ρ' => .exc z ρ' | .bad => .bad := rfl
theorem qnv (F : List D -> R D) : qiA RN p F ρ = match p ρ with | .exc x ρ' => (if RN.contains x.cls then (match F [.exc x.cls] with | .ok d => .ok (.rt d ρ') | _ => .bad) else .bad) | r => r := rfl
theorem qf2 (n i : Nat) (g : M D) : qaw RN n i p g ρ = match p ρ with | .exc x ρ' => (if RN.contains x.cls then (match g ((List.replicate n none).set i (some (.exc x.cls))) with | .ok (d, _) => .ok (.rt d ρ') | _ => .bad) else .bad) | r => r := rfl
theorem qiB (m : Str) : qcK RN m f ρ = match f ρ with | .ok (.exc n, ρ1) => (if RN.contains n then .ok (.bl (m == "ValueError" || qeA n m), ρ1) else .bad) | .ok _ => .bad | .exc x ρ' => .exc x ρ' | .bad => .bad := by
 simp only [qcK, bnd]
 cases f ρ with
 | ok z =>
  obtain ⟨z1, ρ1⟩ := z
  cases z1 <;> first | rfl | (dsimp only; split <;> rfl)
 | exc x ρ' => rfl
 | bad => rfl
theorem qf3 (F : D -> List D -> Option D) : qlr F f l ρ = match f ρ with
  | .ok (.lst ds, ρ1) => (match l ρ1 with | .ok (ys, ρ2) => (match F (.lst ds) ys with | some d => .ok (d, ρ2) | none => .bad) | .exc x ρ' => .exc x ρ' | .bad => .bad)
  | .ok _ => .bad | .exc x ρ' => .exc x ρ' | .bad => .bad := by
 simp only [qlr, bnd]
 cases f ρ with
 | ok z =>
  obtain ⟨z1, ρ1⟩ := z
  cases z1 with
  | lst ds =>
   show bnd l (fun ys => lift (F (D.lst ds) ys)) ρ1 = (match l ρ1 with | .ok (ys, ρ2) => (match F (.lst ds) ys with | some d => .ok (d, ρ2) | none => .bad) | .exc x ρ' => .exc x ρ' | .bad => .bad)
   unfold bnd
   cases l ρ1 with
   | ok z => obtain ⟨z2, ρ2⟩ := z; (dsimp only; cases F (.lst ds) z2 <;> rfl)
   | exc x ρ' => rfl
   | bad => rfl
  | _ => rfl
 | exc x ρ' => rfl
 | bad => rfl
end
theorem qbv {n p : Nat} {body : MS} {ds : List D} {d : D} (h : ds.length = p) (e : ∃ ρ, body (yL n ds) = .ok (.rt d ρ)) : ur n p body ds = .ok d := by
 obtain ⟨ρ, e⟩ := e
 unfold ur; rw [if_pos h, e]
theorem qa3 {n p : Nat} {body : MS} {ds : List D} (h : ds.length = p) (e : ∃ ρ, body (yL n ds) = .ok (.nx ρ)) : ur n p body ds = .ok .non := by
 obtain ⟨ρ, e⟩ := e
 unfold ur; rw [if_pos h, e]
theorem jH {n p : Nat} {body : MS} {ds : List D} {x : Exn} {ρ : Env} (h : ds.length = p) (e : body (yL n ds) = .exc x ρ) : ur n p body ds = .exc x ρ := by
 unfold ur; rw [if_pos h, e]
theorem uO {p q : MS} {ρ ρ' : Env} {x : Exn} (h : p ρ = .exc x ρ') : zr p q ρ = .exc x ρ' := by unfold zr; rw [h]
end L2.Sk
namespace L2.Sk
open PySem PySem.Spec PyProof.Rows
def unO (_ : Nat) (c : Fc) : Fc := { c with O := [], P := [], B := fun _ => True }
theorem Gr.unSame {c : Fc} {σ : St} {H H' : Hp} {i : Nat} (g : Gr (unO i c).O σ H H') : jK H H' := fun b o h => g.ext.at_ b o (fun j hj => by cases hj) h
theorem Rep.un {K : Fr0} {c : Fc} {ρ : Env} {σ : St} {H : Hp} {i : Nat} (r : Rep K c ρ σ H) (_ : i ∈ c.O) : Rep K (unO i c) ρ σ H := by
 have all : ∀ b : Addr, Cn (unO i c) σ b := fun b => ⟨trivial, fun j hj => by cases hj⟩
 refine ⟨r.len, fun k d hk => ?_, fun j hj => (by cases hj), fun k j a hk => (by cases hk), fun _ _ => trivial, r.kp, r.dm, fun j hj => (by cases hj), fun j hj => (by cases hj)⟩
 obtain ⟨v, h1, h2⟩ := r.val k d hk
 refine ⟨v, h1, .inr ⟨fun z => (by cases z), ?_⟩⟩
 rcases h2 with ⟨hk2, ds, a, xs, h3, h5, h6, h7⟩ | ⟨hk2, h3⟩
 ·subst h3 h5
  exact ⟨a, xs, rfl, all a, h6, IsL.ext Ext.refl (fun b _ _ => all b) h7⟩
 ·exact Is.ext Ext.refl (fun b _ _ => all b) h3
theorem Gr.un {c : Fc} {σ : St} {H H' : Hp} {i : Nat} (g : Gr (unO i c).O σ H H') : Gr c.O σ H H' := .of_same g.unSame
theorem Rep.re {K : Fr0} {c : Fc} {ρ : Env} {σ : St} {H H' : Hp} {i : Nat} (r : Rep K c ρ σ H) (_ : i ∈ c.O) (_ : Rep K (unO i c) ρ σ H') (g : Gr (unO i c).O σ H H') : Rep K c ρ σ H' := r.same g.unSame
open Classical in
open Classical in
open Classical in
noncomputable def qht (f : M (List D)) : M (List D) := fun ρ => match f ρ with
 | .ok (d, ρ') => if immL d = true /\ ρ' = ρ then .ok (d, ρ) else .bad
 | .exc x ρ' => if ρ' = ρ then .exc x ρ else .bad
 | .bad => .bad
theorem Rep.apart2 {K : Fr0} {c : Fc} {ρ ρ' : Env} {σ : St} {H H' : Hp} {a : Addr} (r : Rep K c ρ σ H) (hn : H a = none) (r' : Rep K c ρ' σ H') (g : Gr c.O σ H H') (hv : ∀ i d, i ∉ c.O -> ρ'[i]? = some (some d) -> ρ[i]? = some (some d)) (hc : ∀ i ds b xs, ρ'[i]? = some (some (.lst ds)) -> i ∈ c.O -> σ[i]? = some (some (.ref b)) -> H' b = some (.lst xs) -> IsL K (Cn c σ) H' ds xs -> IsL K (fun b => Cn c σ b /\ b ≠ a) H' ds xs) : qfx K c ρ' σ H' a where
 val := fun i d v h1 h2 h3 => by
  obtain ⟨w, h4, h5⟩ := r.get h2 (hv i d h2 h1)
  rw [h3] at h4
  cases h4
  exact Is.ext ⟨g.ext.tup, g.ext.frz, fun b o hb h => g.ext.at_ b o hb.1.2 h⟩ (fun _ h _ => h) (h5.fresh hn)
 cont := hc
 own := fun j hj e => (r.new hn).2 j hj e
 new := r.dm a hn
section
variable {X : Cx} {c : Fc} {e : Expr} {pos : Pos}
theorem WpI.bndN {K : Fr0} {σ : St} {H : Hp} {Q : VK} {f : M (List D)} {k : List D -> M (List D)} {ρ : Env} {Q' : It -> Hp -> Prop} (h : WpN K c σ H Q (Sk.bnd f k ρ)) (hQ : ∀ ds ρ' J H', Rep K c ρ' σ H' -> qft K (CnT c σ H') H' ds J -> Gr c.O σ H H' -> WpN K c σ H' Q (k ds ρ') -> Q' J H') : WpI K c σ H Q' (f ρ) := by
 unfold Sk.bnd at h
 cases e : f ρ with
 | ok p => rw [e] at h; exact fun v H' hr hi hg => hQ p.1 p.2 v H' hr hi hg (h.gr hg)
 | exc x ρ' => rw [e] at h; exact h
 | bad => rw [e] at h; exact h
def DCN (X : Cx) (c : Fc) (tg it elt : Expr) (ifs : List Expr) (scope : Scope) (N' : List Str) (nt : Nat) (fr : List Nat) (f : M (List D)) : Prop := ∃ wi, PI X tg it wi /\ ∀ ρ σ H Q, Rep X.K c ρ σ H -> WpN X.K c σ H Q (f ρ) -> qk5 X tg ifs elt scope N' wi nt fr σ H Q
def qjN (fo : Option (Nat × Nat)) (ρe : Env) : Bool := match fo with
 | none => true
 | some (i, _) => match ρe[i]? with
  | some (some (.lst ds)) => immL ds
  | _ => true
def qlv (nt : Nat) (fr : List Nat) (fo : Option (Nat × Nat)) (f : M (List D)) (g : D -> Env -> Option Env) (t : M Bool) (e : M D) : M (List D) := bnd f fun ds ρ => match zt g t e ds [] (z0 nt fr ρ) with
 | .ok (ys, ρe) => if immL ys = true /\ qjN fo ρe = true then .ok (ys, qhe fo ρe ρ) else .bad
 | _ => .bad
theorem qhu {c : Fc} {nt : Nat} {fr : List Nat} {fo : Option (Nat × Nat)} {ρe ρ : Env} (hfo : qhf c nt fr fo) : ∀ i d, i ∉ c.O -> (qhe fo ρe ρ)[i]? = some (some d) -> ρ[i]? = some (some d) := fun i d hi h => by
 cases fo with
 | none => exact h
 | some p =>
  obtain ⟨i', j'⟩ := p
  have h' : (ρ.set j' (ρe[i']?).join)[i]? = some (some d) := h
  have hne : i ≠ j' := fun e => hi (by rw [e]; exact hfo.1)
  rw [zu hne] at h'
  exact h'
theorem qhv {it elt tg : Expr} {ifs : List Expr} {scope : Scope} {N' : List Str} {nt : Nat} {fr : List Nat} {fo : Option (Nat × Nat)} {f : M (List D)} {g : D -> Env -> Option Env} {t : M Bool} {k : M D} (hc : X.calm = true) (hi : DI X c tg it f) (S : jN X scope N' nt fr)
  (hfo : qhf c nt fr fo)
  (hb : ∀ fp cl C s₀ H₀ pn B0 H1 Io' acc S', DG (zl X scope N' fp cl C s₀ H₀ pn) (cin B0 H1 (foO fo) Io' acc S') tg g /\ DF (zl X scope N' fp cl C s₀ H₀ pn) (cin B0 H1 (foO fo) Io' acc S') ifs t /\ DE (zl X scope N' fp cl C s₀ H₀ pn) (cin B0 H1 (foO fo) Io' acc S') elt k)
  : DCN X c tg it elt ifs scope N' nt fr (qlv nt fr fo f g t k) := by
 obtain ⟨wi, pi, wI⟩ := hi
 refine ⟨wi, pi, fun ρ σ H Q r h => wI ρ σ H _ r (WpI.bndN h fun ds ρ1 J H1 r1 iok g1 h1 => ?_)⟩
 intro acc fp cl C s₀ H₀ pn hn
 obtain ⟨⟨tg', pg, wg⟩, ⟨tt, pt, wt⟩, ⟨te, pe, we⟩⟩ := hb fp cl C s₀ H₀ pn (Cn c σ) H1 (w6 σ fo) acc fun j => (qy nt fr σ)[j]?
 refine ⟨tg', tt, te, pg, pt, pe, ?_⟩
 cases ew : zt g t k ds [] (z0 nt fr ρ1) with
 | exc x ρ' => rw [ew] at h1; exact h1.elim
 | bad => rw [ew] at h1; exact h1.elim
 | ok p =>
  rw [ew] at h1
  obtain ⟨ys, ρe⟩ := p
  simp only at h1
  by_cases him0 : immL ys = true /\ qjN fo ρe = true
  case neg => rw [if_neg him0] at h1; exact h1.elim
  rw [if_pos him0] at h1
  obtain ⟨him, him2⟩ := him0
  have accO : ∀ j ∈ foO fo, (qy nt fr σ)[j]? ≠ some (some (.ref acc)) := fun j hj e => by
   have r0 := r1.entry (acc := acc) hn hfo
   cases fo with
   | none => cases hj
   | some p =>
    obtain ⟨i', j'⟩ := p
    have e2 : j = i' := by simpa [foO] using hj
    subst e2
    obtain ⟨k2, j2, e1, e2, e3⟩ := jG e
    have hk2 : k2 = j - nt := by omega
    subst hk2
    rw [hfo.2.2.1] at e2
    cases e2
    obtain ⟨a, us, e4, e5, _⟩ := r1.own j' hfo.1 _ e3
    cases e4; rw [hn] at e5; cases e5
  refine ⟨fun i m σ' H' => m = ds.length - i /\ i <= ds.length /\ ∃ ρ' zs xs, Rep X.K (cin (Cn c σ) H1 (foO fo) (w6 σ fo) acc fun j => (qy nt fr σ)[j]?) ρ' σ' H' /\ (∀ j ∈ foO fo, σ'[j]? = (qy nt fr σ)[j]?) /\ H' acc = some (.lst xs) /\ IsL X.K (Cn (cin (Cn c σ) H1 (foO fo) (w6 σ fo) acc fun j => (qy nt fr σ)[j]?) σ') H' zs xs /\ zt g t k (ds.drop i) zs ρ' = .ok (ys, ρe),
   ⟨ds.length, by simp, Nat.zero_le _, z0 nt fr ρ1, [], [], r1.entry hn hfo, fun _ _ => rfl, qv, rfl, by simpa using ew⟩, ?_⟩
  rintro i m σ' H' ⟨rfl, hi, ρ', zs, xs, r', so, ha, iz, w⟩
  obtain ⟨_, gr⟩ := r1.leave hn hfo (fun i j e => so i (by rw [e]; simp [foO])) r'
  have ex : Ext (CnT c σ H1) H1 H' := ⟨gr.ext.tup, gr.ext.frz, fun b o hb hq => gr.ext.at_ b o hb.1.2 hq⟩
  have accC : ∀ τ : St, (∀ j ∈ foO fo, τ[j]? = (qy nt fr σ)[j]?) -> Cl (foO fo) τ acc := fun τ hτ j hj e => accO j hj (by rw [<- hτ j hj]; exact e)
  by_cases hlt : i < ds.length
  ·refine .inr ⟨iok.go H' i ds[i] ex (by simp [hlt]), fun x H'' y => ?_⟩
   obtain ⟨sm, ix⟩ := iok.yl H' i ds[i] x H'' ex (by simp [hlt]) y
   rw [vd hlt] at w
   unfold zt at w
   have ix2 : Is X.K (Cn (cin (Cn c σ) H1 (foO fo) (w6 σ fo) acc fun j => (qy nt fr σ)[j]?) σ') H'' ds[i] x := Is.ext Ext.refl (fun a ha _ => ⟨⟨ha.1, fun e => by
    have := ha.2
    rw [e, hn] at this; cases this⟩, fun j hj e => by
     rw [so j hj] at e
     cases fo with
     | none => cases hj
     | some p =>
      obtain ⟨i', j'⟩ := p
      have e2 : j = i' := by simpa [foO, cin] using hj
      subst e2
      obtain ⟨k2, j2, e1, e2, e3⟩ := jG e
      have hk2 : k2 = j - nt := by omega
      subst hk2
      rw [hfo.2.2.1] at e2
      cases e2
      exact ha.1.2 j' hfo.1 e3⟩) ix
   cases e1 : g ds[i] ρ' with
   | none => simp only [e1] at w; cases w
   | some ρ2 =>
    simp only [e1] at w
    refine wg ρ' σ' H'' ds[i] x ρ2 _ (r'.same sm) ix2 e1 fun σ2 r2 g2 o2 => ?_
    have so2 : ∀ j ∈ foO fo, σ2[j]? = (qy nt fr σ)[j]? := fun j hj => (o2 j hj).trans (so j hj)
    have ha2 : H'' acc = some (.lst xs) := sm _ _ ha
    have iz2 := g2.isL (IsL.ext (Ext.of_same sm) (fun _ h _ => h) iz)
    cases e2 : t ρ2 with
    | exc x ρ3 => simp only [e2] at w; cases w
    | bad => simp only [e2] at w; cases w
    | ok p2 =>
     obtain ⟨bb, ρ3⟩ := p2
     refine wt ρ2 σ2 H'' _ r2 ?_
     rw [e2]
     intro H3 r3 g3
     have ha3 : H3 acc = some (.lst xs) := g3.ext.at_ _ _ (accC σ2 so2) ha2
     have iz3 := g3.isL iz2
     cases bb with
     | false =>
      rw [if_neg Bool.false_ne_true]
      simp only [e2] at w
      exact ⟨ds.length - (i + 1), by omega, rfl, hlt, ρ3, zs, xs, r3, so2, ha3, iz3, w⟩
     | true =>
      rw [if_pos rfl]
      simp only [e2] at w
      cases e3 : k ρ3 with
      | exc x ρ4 => simp only [e3] at w; cases w
      | bad => simp only [e3] at w; cases w
      | ok p3 =>
       obtain ⟨d4, ρ4⟩ := p3
       simp only [e3] at w
       refine we ρ3 σ2 H3 _ r3 ?_
       rw [e3]
       intro y4 H4 r4 i4 g4
       have ha4 : H4 acc = some (.lst xs) := g4.ext.at_ _ _ (accC σ2 so2) ha3
       have hsz : qI (zs.length + 1) = true := by
        cases e5 : qI (zs.length + 1) with
        | true => rfl
        | false => rw [e5] at w; simp at w
       rw [if_pos hsz] at w
       have hsz' : zs.length + 1 <= sizeLine := of_decide_eq_true hsz
       have r5 := r4.grow (ys := xs ++ [y4]) ha4 (fun j hj e => accC σ2 so2 j hj e)
       have ext5 : Ext (Cn (cin (Cn c σ) H1 (foO fo) (w6 σ fo) acc fun j => (qy nt fr σ)[j]?) σ2) H4 (upd H4 acc (.lst (xs ++ [y4]))) := ⟨fun b us hb => by rw [qt (vm hb ha4 (by intro z; cases z))]; exact hb, fun b o u hb => by rw [qt (vm hb ha4 (by intro z; cases z))]; exact hb, fun b o hb hq => by rw [qt hb.1.2]; exact hq⟩
       refine ⟨xs, ha4, by rw [iz3.length]; omega, ds.length - (i + 1), by omega, rfl, hlt, ρ4, zs ++ [d4], xs ++ [y4], r5, so2, qv, ?_, w⟩
       exact IsL.append (IsL.ext ext5 (fun _ h _ => h) (g4.isL iz3)) (IsL.one (Is.ext ext5 (fun _ h _ => h) i4))
  ·have hie : i = ds.length := by omega
   subst hie
   rw [List.drop_of_length_le (Nat.le_refl _)] at w
   unfold zt at w
   cases w
   obtain ⟨r6, g6⟩ := r1.leave hn hfo (fun i j e => so i (by rw [e]; simp [foO])) r'
   have kp : ∀ b o, H1 b = some o -> ¬ w6 σ fo b -> H' b = some o := fun b o hb hio => r'.kp b o (by show upd H1 acc (.lst []) b = some o; rw [qt (qH hb hn)]; exact hb) fun z => z.elim hio fun e => absurd e (qH hb hn)
   have hcont : ∀ k ds b xs, (qhe fo ρe ρ1)[k]? = some (some (.lst ds)) -> k ∈ c.O -> σ[k]? = some (some (.ref b)) -> H' b = some (.lst xs) -> IsL X.K (Cn c σ) H' ds xs -> IsL X.K (fun b => Cn c σ b /\ b ≠ acc) H' ds xs := fun k ds b xs h2 h3 h4 h5 h6 => by
    by_cases hk : ∃ i', fo = some (i', k)
    ·obtain ⟨i', e⟩ := hk
     subst e
     have h2' : (ρ1.set k (ρe[i']?).join)[k]? = some (some (.lst ds)) := h2
     have hl : k < ρ1.length := by
      have := (List.getElem?_eq_some_iff.mp h2').1
      rwa [List.length_set] at this
     rw [List.getElem?_set_self hl] at h2'
     have he : ρe[i']? = some (some (.lst ds)) := vQ (Option.some.inj h2')
     have hi2 : immL ds = true := by
      unfold qjN at him2
      simp only [he] at him2
      exact him2
     exact IsL.imm hi2 h6
    ·have h2' : ρ1[k]? = some (some (.lst ds)) := by
      cases fo with
      | none => exact h2
      | some p =>
       obtain ⟨i', j'⟩ := p
       have h2'' : (ρ1.set j' (ρe[i']?).join)[k]? = some (some (.lst ds)) := h2
       rw [zu (fun e => hk ⟨i', by rw [e]⟩)] at h2''
       exact h2''
     obtain ⟨ds', b', ys', e1, e2, e3, e4⟩ := r1.getO h3 h2'
     cases e1
     rw [h4] at e2
     cases e2
     have h7 : H' b = some (.lst ys') := kp b _ e3 fun hio => by
      cases fo with
      | none => exact hio
      | some p =>
       obtain ⟨i', j'⟩ := p
       have e := r1.inj k j' b h3 hfo.1 h4 hio
       exact hk ⟨i', by rw [e]⟩
     rw [h5] at h7
     cases h7
     exact IsL.ext ⟨g6.ext.tup, g6.ext.frz, fun d o hd hq => g6.ext.at_ d o hd.2 hq⟩ (fun d hd hs => ⟨hd, fun e => by rw [e, hn] at hs; cases hs⟩) e4
   exact .inl ⟨iok.stop H' ex, h1 acc xs H' hn r6 (r1.apart2 hn r6 g6 (qhu hfo) hcont) ha trivial (IsL.imm him iz) g6⟩
theorem qhw {K : Fr0} {σ : St} {H : Hp} {Q : VK} {i : Nat} {f : M (List D)} {ρ : Env} (r : Rep K c ρ σ H) (ho : i ∈ c.O) (h : WpN K c σ H Q (qht f ρ)) : WpN K (unO i c) σ H Q (f ρ) := by
 unfold qht at h
 cases ef : f ρ with
 | bad => rw [ef] at h; exact h.elim
 | exc x ρ' =>
  rw [ef] at h
  simp only at h
  split at h
  ·rename_i e1
   subst e1
   exact fun H' r' g' => h H' (r.re ho r' g') g'.un
  ·exact h.elim
 | ok q =>
  obtain ⟨d, ρ'⟩ := q
  rw [ef] at h
  simp only at h
  split at h
  ·rename_i e2
   obtain ⟨e1, e2⟩ := e2
   subst e2
   exact fun a xs H' hn r' ap ha him il g' => h a xs H' hn (r.re ho r' g') (r.apart_same hn g'.unSame) ha him (IsL.imm e1 il) g'.un
  ·exact h.elim
theorem qhx {i : Nat} {tg it elt : Expr} {ifs : List Expr} {scope : Scope} {N' : List Str} {nt : Nat} {fr : List Nat} {f : M (List D)} (h : DCN X (unO i c) tg it elt ifs scope N' nt fr f) (ho : i ∈ c.O := by exact of_decide_eq_true rfl) : DCN X c tg it elt ifs scope N' nt fr (qht f) := by
 obtain ⟨t, p, w⟩ := h
 exact ⟨t, p, fun ρ σ H Q r h => w ρ σ H Q (r.un ho) (qhw r ho h)⟩
theorem qlw {tg it elt : Expr} {ifs : List Expr} {scope : Scope} {N' : List Str} {nt : Nat} {fr : List Nat} {f : M (List D)} (h : DCN X c tg it elt ifs scope N' nt fr f) (hc : X.calm = true) (S : jN X scope N' nt fr) (hs : ∀ x, foldedSetIterable it X.env x = pure x := by intro _; rfl) : DN X c (.ListComp elt [⟨tg, it, ifs, 0⟩] scope pos) f := by
 obtain ⟨wi, pi, w⟩ := h
 exact ⟨_, qfs hc pi S hs, w⟩
def qmg (f : M (List D)) : M D := bnd f fun ds => ret (.lst ds)
theorem qjO {K : Fr0} {σ : St} {H : Hp} {Q : VK} {f : M (List D)} {ρ : Env} (r : Rep K c ρ σ H) (h : Wp K c σ H Q (qmg f ρ)) : WpN K c σ H Q (f ρ) := by
 unfold qmg bnd at h
 cases ef : f ρ with
 | bad => rw [ef] at h; exact h
 | exc x ρ' => rw [ef] at h; exact h
 | ok q =>
  rw [ef] at h
  exact fun a xs H' hn r' ap ha him il g' => h _ H' r' ⟨a, xs, rfl, r.new hn, ha, IsL.ext Ext.refl (fun _ h _ => h.1) il⟩ g'
theorem qmW {f : M (List D)} (h : DN X c e f) : DE X c e (qmg f) := by
 obtain ⟨t, p, w⟩ := h
 exact ⟨t, p, fun ρ σ H Q r h => w ρ σ H Q r (qjO r h)⟩
def qnw : List D -> Option (List D)
 | [.int i, .int j] => if decide (-(2 ^ 62) <= i) && decide (i < 2 ^ 62) && decide (-(2 ^ 62) <= j) && decide (j < 2 ^ 62) then some (qbT i (j - i).toNat) else none
 | _ => none
def qlx (f : M (List D)) : M (List D) := bnd f fun ds => lift (qnw ds)
theorem qf4 {tg a b : Expr} {f : M (List D)} {p : Pos} (hg : Gl X "range") (hm : X.mg "range" = none) (ha : DA X c [a, b] f) (hs : starEach [a, b] X.env = [(false, eval a X.env), (false, eval b X.env)] := by rfl) (hs2 : starEach [b] X.env = [(false, eval b X.env)] := by rfl) : DI X c tg (.Call (.Name "range" p) [a, b] [] pos) (qlx f) := by
 obtain ⟨t, p, w⟩ := ha
 refine ⟨_, qe2 hg hm p hs hs2, fun ρ σ H Q r h => w ρ σ H _ r (WpL.bndI h fun ds ρ1 vs H1 r1 i1 g1 h1 => ?_)⟩
 obtain ⟨es, e, h2⟩ := uz h1
 unfold qnw at e
 split at e
 ·rename_i i j
  obtain ⟨v, u, rfl, e2, e3⟩ := IsL.inv2 i1
  cases e2
  cases e3
  split at e
  ·rename_i hb
   cases e
   simp only [Bool.and_eq_true] at hb
   exact ⟨i, j, rfl, ⟨of_decide_eq_true hb.1.1.1, of_decide_eq_true hb.1.1.2, of_decide_eq_true hb.1.2, of_decide_eq_true hb.2⟩, h2 _ H1 r1 (qfv i _) .refl⟩
  ·cases e
 ·cases e
theorem XL2.un {i : Nat} {cl : Str -> Option Addr} {E : XK} (L : XL2 X c cl E) : XL2 X (unO i c) cl E := ⟨L.pass, L.wish⟩
def qiC (i n : Nat) (g : D -> Env -> Option Env) (b : MS) : Nat -> MS
 | 0, ρ => match zQ i ρ with
  | some ds => if ds.length <= n then .ok (.nx ρ) else .bad
  | none => .bad
 | m + 1, ρ => match zQ i ρ with
  | some ds => match ds[n - (m + 1)]? with
   | none => .bad
   | some d => match g d ρ with
    | none => .bad
    | some ρ1 => match b ρ1 with
     | .ok (.nx ρ2) => qiC i n g b m ρ2
     | .ok (.ct ρ2) => qiC i n g b m ρ2
     | .ok (.bk ρ2) => .ok (.nx ρ2)
     | .ok (.rt r ρ2) => .ok (.rt r ρ2)
     | .exc x ρ2 => .exc x ρ2
     | .bad => .bad
  | none => .bad
end
section
variable {ρ : Env} {f : M D} {t : M Bool} {n : M (List D)}
open Classical in
open Classical in
open Classical in
end
end L2.Sk
namespace L2.Sk
open PySem PySem.Spec PyProof.Rows
def inA (x y : D) : Option D := match sqD y with
 | some ds => if qdA x && qdA y then some (.bl ((toPDs ds).any fun y => PyData.eqv y (vG x))) else none
 | none => none
section
variable {X : Cx}
end
end L2.Sk
namespace L2.Sk
open PySem PySem.Spec PyProof.Rows
section
variable {prog : Program} {w : World} {A : Around} {R : Result -> Shared -> Prop} {I : Addr} {fp wr : List Addr} {n : Nat} {P : Nat -> Value -> Prop} {St : Nat -> Heap -> Prop}
structure qly (prog : Program) (w : World) (A : Around) (P : Nat -> Value -> Prop) (bt : Nat -> Nat -> Bool) (Ok : Heap -> Prop) (wr : List Addr) (Z : Addr) : Prop where
 cmp : ∀ (i j : Nat) (x y : Value) (s : Shared) (Q E : Value -> Shared -> Prop), P i x -> P j y -> Ok s.heap -> Q (.bool (bt i j)) s -> wpAny (model prog w) A (richCompare .Lt x y) Q E s
 old : ∀ h h' : Heap, Ok h -> (∀ b o, b ∉ wr -> b ≠ Z -> h.get? b = some o -> h'.get? b = some o) -> Ok h'
theorem qeB (W : Walks prog w A.in1 I fp wr n P St) {bt : Nat -> Nat -> Bool} {Ok : Heap -> Prop} {Z : Addr} (gZ : Z ∉ fp) (C : qly prog w A.in1 P bt Ok wr Z) :
  ∀ (m q : Nat) (s : Shared) (best : Value) (z : Nat), n = q + 1 + m -> St (q + 1) s.heap -> P (argBest bt q) best -> Ok s.heap ->
  s.heap.get? Z = some { cls := .type "list", dict := none, data := .seq #[best, best] z, slots := #[] } ->
  (∀ y h2 t2, P (argBest bt (n - 1)) y -> (∀ b o, b ∉ wr -> b ≠ Z -> s.heap.get? b = some o -> h2.get? b = some o) -> R (.ok (.ret y)) { s with heap := h2, toks := t2 }) ->
  codeAny (model prog w) A (.builtin "min.loop" ⟨[.ref I, .none, .ref Z], []⟩) R s := by
 have gw : Z ∉ wr := fun e => gZ (W.sub _ e)
 have nm : (toString "min" ++ toString ".loop" : String) = "min.loop" := by decide
 intro m
 induction m with
 | zero =>
  intro q s best z en est eP eO eZ fin
  have eq1 : q + 1 = n := by omega
  have st' : St n s.heap := eq1 ▸ est
  refine codeAny_builtin PySem.F.entry_min_loop (by
   rw [Around.under_plainId PySem.F.plain_min_loop _]
   refine wpAny_bind (wpAny_seqItems eZ rfl ?_)
   refine wpAny_bind (wpAny_tryCatch (W.done s _ _ st' fun h1 t1 k1 => ?_))
   have eZ1 := k1 Z _ gw eZ
   refine wpAny_bind (wpAny_updateSeq eZ1 rfl (wpAny_bind (wpAny_letGo (wpAny_pure ?_))))
   exact fin best _ t1 (by rw [<- eq1]; exact eP) fun b o nb nz g => (Heap.get?_update_other _ _ (Ne.symm nz)).trans (k1 b o nb g))
 | succ m ih =>
  intro q s best z en est eP eO eZ fin
  have lt1 : q + 1 < n := by omega
  refine codeAny_builtin PySem.F.entry_min_loop (by
   rw [Around.under_plainId PySem.F.plain_min_loop _]
   refine wpAny_bind (wpAny_seqItems eZ rfl ?_)
   refine wpAny_bind (wpAny_tryCatch (W.item (q + 1) s _ _ lt1 est fun x h1 t1 eP1 est1 k1 => ?_))
   have eZ1 := k1 Z _ gw eZ
   have eO1 : Ok h1 := C.old _ _ eO fun b o nb _ g => k1 b o nb g
   refine wpAny_bind (wpAny_pure (wpAny_bind (wpAny_tryCatch (wpAny_holding (wpAny_bind (C.cmp (q + 1) (argBest bt q) x best _ _ _ eP1 eP eO1 ?_))))))
   refine wpAny_bind (wpAny_holding (wpAny_truthy_bool (wpAny_bind (wpAny_letGo (wpAny_pure ?_)))))
   cases less : bt (q + 1) (argBest bt q) with
   | true =>
    refine wpAny_bind (wpAny_updateSeq eZ1 rfl (wpAny_bind (wpAny_letGo ?_)))
    rw [nm]
    refine wpAny_pure ⟨plainId_quiet PySem.F.plain_min_loop _, ?_⟩
    refine ih (q + 1) _ x _ (by omega) (W.frame _ _ _ est1 fun b nb o g => ?_) (by simp only [argBest, less, if_true]; exact eP1) (C.old _ _ eO1 fun b o _ nz g => ?_) (Heap.get?_update_self _ eZ1 rfl) fun y h2 t2 eP2 k2 => ?_
    ·exact (Heap.get?_update_other _ _ (fun e : Z = b => gZ (by rw [e]; exact nb))).trans g
    ·exact (Heap.get?_update_other _ _ (Ne.symm nz)).trans g
    ·exact fin y h2 t2 eP2 fun b o nb nz g => k2 b o nb nz ((Heap.get?_update_other _ _ (Ne.symm nz)).trans (k1 b o nb g))
   | false =>
    refine wpAny_bind (wpAny_letGo ?_)
    rw [nm]
    refine wpAny_pure ⟨plainId_quiet PySem.F.plain_min_loop _, ?_⟩
    refine ih (q + 1) _ best z (by omega) est1 (by simp only [argBest, less, Bool.false_eq_true, if_false]; exact eP) eO1 eZ1 fun y h2 t2 eP2 k2 => ?_
    exact fin y h2 t2 eP2 fun b o nb nz g => k2 b o nb nz (k1 b o nb g))
theorem least_first (W : Walks prog w A.in1 I fp wr n P St) {bt : Nat -> Nat -> Bool} {Ok : Heap -> Prop} {Z : Addr} (gZ : Z ∉ fp) (C : qly prog w A.in1 P bt Ok wr Z) {s : Shared} {z : Nat} (hn : 0 < n) (est : St 0 s.heap) (eO : Ok s.heap)
  (eZ : s.heap.get? Z = some { cls := .type "list", dict := none, data := .seq #[] z, slots := #[] })
  (fin : ∀ y h2 t2, P (argBest bt (n - 1)) y -> (∀ b o, b ∉ wr -> b ≠ Z -> s.heap.get? b = some o -> h2.get? b = some o) -> R (.ok (.ret y)) { s with heap := h2, toks := t2 }) :
  codeAny (model prog w) A (.builtin "min.loop" ⟨[.ref I, .none, .ref Z], []⟩) R s := by
 have gw : Z ∉ wr := fun e => gZ (W.sub _ e)
 have nm : (toString "min" ++ toString ".loop" : String) = "min.loop" := by decide
 refine codeAny_builtin PySem.F.entry_min_loop (by
  rw [Around.under_plainId PySem.F.plain_min_loop _]
  refine wpAny_bind (wpAny_seqItems eZ rfl ?_)
  refine wpAny_bind (wpAny_tryCatch (W.item 0 s _ _ hn est fun x h1 t1 eP1 est1 k1 => ?_))
  have eZ1 := k1 Z _ gw eZ
  have eO1 : Ok h1 := C.old _ _ eO fun b o nb _ g => k1 b o nb g
  refine wpAny_bind (wpAny_pure (wpAny_bind (wpAny_updateSeq eZ1 rfl ?_)))
  rw [nm]
  refine wpAny_pure ⟨plainId_quiet PySem.F.plain_min_loop _, ?_⟩
  refine qeB W gZ C (n - 1) 0 _ x _ (by omega) (W.frame _ _ _ est1 fun b nb o g => ?_) eP1 (C.old _ _ eO1 fun b o _ nz g => ?_) (Heap.get?_update_self _ eZ1 rfl) fun y h2 t2 eP2 k2 => ?_
  ·exact (Heap.get?_update_other _ _ (fun e : Z = b => gZ (by rw [e]; exact nb))).trans g
  ·exact (Heap.get?_update_other _ _ (Ne.symm nz)).trans g
  ·exact fin y h2 t2 eP2 fun b o nb nz g => k2 b o nb nz ((Heap.get?_update_other _ _ (Ne.symm nz)).trans (k1 b o nb g)))
end
section
variable {prog : Program} {w : World} {A : Around} {E : Value -> Shared -> Prop} {s : Shared}
theorem qeC {l : Addr} {its : Array Value} {bt : Nat -> Nat -> Bool} {Q : Value -> Shared -> Prop} (hh : A.handled = none) (hl : s.heap.IsList l its) (hne : 0 < its.size)
  (hc : ∀ (i j : Nat) (x y : Value) (s1 : Shared) (Q E : Value -> Shared -> Prop), its[i]? = some x -> its[j]? = some y -> (∀ b o, s.heap.get? b = some o -> s1.heap.get? b = some o) -> Q (.bool (bt i j)) s1 -> wpAny (model prog w) A.in1 (richCompare .Lt x y) Q E s1)
  (fin : ∀ y h' tk, its[argBest bt (its.size - 1)]? = some y -> (∀ b o, s.heap.get? b = some o -> h'.get? b = some o) -> Q y { s with heap := h', toks := tk }) :
  wpAny (model prog w) A (call (.builtin "min") [.ref l]) Q E s := by
 have nm : (toString "min" ++ toString ".loop" : String) = "min.loop" := by decide
 refine call_function_tree PySem.F.kind_min PySem.F.plain_min PySem.F.entry_min (PySem.F.args_min1 _) ?_
 refine wpAny_bind (wpAny_of_eq (show Builtin.Builtins.bindParams "min" ["key", "default"] 0 ⟨[], []⟩ = pure [none, none] from rfl) (wpAny_bind (wpAny_pure ?_)))
 refine wpAny_bind (wpAny_pyIter_list hl ?_)
 have la : l < s.heap.objs.size := by obtain ⟨o, e, _⟩ := hl; exact Heap.lt_size e
 have W := Walks.list (prog := prog) (w := w) (A := A.in1) hh s.heap.objs.size l (Nat.ne_of_lt la) its
 refine wpAny_bind (wpAny_newObj_type ?_)
 rw [nm]
 refine wpAny_pure ⟨plainId_quiet PySem.F.plain_min_loop _, ?_⟩
 have up : ∀ b o, s.heap.get? b = some o -> ((s.heap.push { cls := .type "list_iterator", data := .fields #[.ref l, .int 0 0] }).push { cls := .type "list", data := .seq #[] }).get? b = some o := fun b o g => Heap.get?_push_of_some _ (Heap.get?_push_of_some _ g)
 have sz : (s.heap.push { cls := .type "list_iterator", data := .fields #[.ref l, .int 0 0] }).objs.size = s.heap.objs.size + 1 := by simp [Heap.push]
 refine least_first (Ok := fun h => ∀ b o, s.heap.get? b = some o -> h.get? b = some o) (bt := bt) W (fun z => ?_) ⟨fun i j x y s1 Q E p1 p2 ok q => hc i j x y s1 Q E p1 p2 ok q, fun h h' ok k b o g => k b o (fun z => ?_) (fun z => ?_) (ok b o g)⟩ hne ⟨?_, ?_⟩ up (Heap.get?_push_size _ rfl) fun y h2 t2 p k => ?_
 ·have z' : (s.heap.push { cls := .type "list_iterator", data := .fields #[.ref l, .int 0 0] }).objs.size = s.heap.objs.size \/ (s.heap.push { cls := .type "list_iterator", data := .fields #[.ref l, .int 0 0] }).objs.size = l := by simpa using z
  rw [sz] at z'
  rcases z' with e | e
  ·exact absurd e (Nat.succ_ne_self _)
  ·exact absurd (e ▸ la) (Nat.not_lt.mpr (Nat.le_succ _))
 ·have z' : b = s.heap.objs.size := by simpa using z
  exact Nat.ne_of_lt (Heap.lt_size g) z'
 ·have g' := Heap.lt_size g
  have z' : b = (s.heap.push { cls := .type "list_iterator", data := .fields #[.ref l, .int 0 0] }).objs.size := z
  rw [sz] at z'
  exact absurd (z' ▸ g') (Nat.not_lt.mpr (Nat.le_succ _))
 ·exact ⟨_, Heap.get?_push_of_some _ (Heap.get?_push_size _ rfl), rfl, rfl⟩
 ·exact hl.at fun o e => up l o e
 ·refine fin y h2 t2 p fun b o g => k b o (fun z => ?_) (fun z => ?_) (up b o g)
  ·have z' : b = s.heap.objs.size := by simpa using z
   exact Nat.ne_of_lt (Heap.lt_size g) z'
  ·have g' := Heap.lt_size g
   have z' : b = (s.heap.push { cls := .type "list_iterator", data := .fields #[.ref l, .int 0 0] }).objs.size := z
   rw [sz] at z'
   exact absurd (z' ▸ g') (Nat.not_lt.mpr (Nat.le_succ _))
end
def qf5 : List D -> Option (List (List Int))
 | [] => some []
 | .tup ts :: r => match uX ts, qf5 r with
  | some n, some ns => some (n :: ns)
  | _, _ => none
 | _ => none
def qgP (ns : List (List Int)) (i : Nat) : List Int := (ns[i]?).getD []
def qci (ns : List (List Int)) : Nat := argBest (fun i j => HT.lexLt (qgP ns i) (qgP ns j)) (ns.length - 1)
def qjP : List D -> Option D
 | [.lst ds] => match qf5 ds with
  | some (n :: ns) => some (.tup ((qgP (n :: ns) (qci (n :: ns))).map .int))
  | _ => none
 | _ => none
theorem qa4 (bt : Nat -> Nat -> Bool) : ∀ n, argBest bt n <= n
 | 0 => Nat.le_refl _
 | n + 1 => by
  have := qa4 bt n
  show (if bt (n + 1) (argBest bt n) then n + 1 else argBest bt n) <= n + 1
  split <;> omega
theorem qhy {n : List Int} {ns : List (List Int)} : qci (n :: ns) < (n :: ns).length := by
 have := qa4 (fun i j => HT.lexLt (qgP (n :: ns) i) (qgP (n :: ns) j)) ((n :: ns).length - 1)
 show argBest _ ((n :: ns).length - 1) < (n :: ns).length
 simp only [List.length_cons] at this |-
 omega
theorem qjQ {K : Fr0} {A : Addr -> Prop} {H : Hp} (ds : List D) : ∀ {xs : List V} {ns : List (List Int)}, IsL K A H ds xs -> qf5 ds = some ns -> xs.length = ns.length /\ ∀ i, i < ns.length -> ∃ a, xs[i]? = some (.ref a) /\ vE K H a ((qgP ns i).map V.int) := by
 induction ds with
 | nil =>
  intro xs ns h e
  have e1 : xs = [] := h
  have e2 : ns = [] := by unfold qf5 at e; exact (Option.some.inj e).symm
  subst e1 e2
  exact ⟨rfl, fun i hi => absurd hi (Nat.not_lt_zero _)⟩
 | cons d r ih =>
  intro xs ns h e
  obtain ⟨x, ys, hx, h1, h2⟩ := h
  subst hx
  unfold qf5 at e
  split at e
  ·rename_i heq
   cases heq
  ·rename_i ts r' heq
   cases heq
   obtain ⟨a, zs, hv, ta, il⟩ := h1
   subst hv
   split at e
   ·rename_i n ms e1 e2
    have e3 : n :: ms = ns := Option.some.inj e
    subst e3
    obtain ⟨l1, l2⟩ := ih h2 e2
    rw [j8 il e1] at ta
    refine ⟨by rw [List.length_cons, List.length_cons, l1], fun i hi => ?_⟩
    cases i with
    | zero => exact ⟨a, rfl, ta⟩
    | succ i =>
     obtain ⟨b, g1, g2⟩ := l2 i (by simpa using hi)
     exact ⟨b, by simpa using g1, g2⟩
   ·cases e
  ·cases e
section
variable {X : Cx}
def qhz (K : Fr0) : List V -> Hp -> VK -> Prop := fun xs H Q => ∃ (p : Addr) (vs : List V) (ns : List (List Int)), xs = [.ref p] /\ H p = some (.lst vs) /\ vs.length = ns.length /\ ns ≠ [] /\ (∀ i, i < ns.length -> ∃ a, vs[i]? = some (.ref a) /\ vE K H a ((qgP ns i).map V.int)) /\ ∀ v, vs[qci ns]? = some v -> Q v H
theorem qf6 {k : Nat} (hr : uS k X.A) : yJ X (.builtin "min") (qhz X.K) := by
 intro pins s σ H xs us Q I r h
 obtain ⟨p, vs, ns, rfl, hp, hlen, hne, hat, q⟩ := h
 obtain ⟨u, rfl, ru⟩ := zh.one r
 cases ru
 obtain ⟨its, rv, pl, hz⟩ := I.list (SqL.of hp)
 have hl := pl.isList
 have l2 : its.length = ns.length := by rw [<- rv.length]; exact hlen
 have hsz : 0 < its.toArray.size := by
  rw [List.size_toArray, l2]
  exact List.length_pos_iff.mpr hne
 have at_ : ∀ (i : Nat) (x : Value), its.toArray[i]? = some x -> ∃ a items, x = .ref a /\ IsTup s.heap a items /\ IntsAre items.toList (qgP ns i) := fun i x hx => by
  have hx' : its[i]? = some x := by simpa using hx
  have hi : i < ns.length := by rw [<- l2]; exact (List.getElem?_eq_some_iff.mp hx').1
  obtain ⟨a, h1, h2⟩ := hat i hi
  obtain ⟨u2, h3, h4⟩ := rv.get h1
  rw [hx'] at h3
  cases h3
  cases h4
  obtain ⟨its2, r2, p2, _⟩ := I.tuple h2.sq
  exact ⟨a, its2.toArray, rfl, p2, yR r2⟩
 refine qeC (bt := fun i j => HT.lexLt (qgP ns i) (qgP ns j)) hr.hd hl hsz (fun i j x y s1 Q E hx hy kp q => ?_) fun y h' tk hy kp => ?_
 ·obtain ⟨a, i1, rfl, t1, n1⟩ := at_ i x hx
  obtain ⟨b, i2, rfl, t2, n2⟩ := at_ j y hy
  have t1' : IsTup s1.heap a i1 := by obtain ⟨o, g, r⟩ := t1; exact ⟨o, kp a o g, r⟩
  have t2' : IsTup s1.heap b i2 := by obtain ⟨o, g, r⟩ := t2; exact ⟨o, kp b o g, r⟩
  have hu : X.A.in1.units < cLine := by have := hr.units; show X.A.units + 1 < cLine; omega
  exact HT.lt_tupInts t1' t2' n1 n2 hu q
 ·have hy' : its[qci ns]? = some y := by
   have e : its.toArray.size - 1 = ns.length - 1 := by rw [List.size_toArray, l2]
   rw [e] at hy
   simpa [qci] using hy
  have hb : qci ns < vs.length := by
   have := (List.getElem?_eq_some_iff.mp hy').1
   rw [rv.length]; exact this
  obtain ⟨u2, h3, h4⟩ := rv.get (List.getElem?_eq_getElem hb)
  rw [hy'] at h3
  cases h3
  exact ⟨vs[qci ns], H, I.kept kp, h4, q _ (List.getElem?_eq_getElem hb)⟩
end
theorem qeD {K : Fr0} : ww K qjP (qhz K) := by
 intro A H xs d vs Q hn h e k
 unfold qjP at e
 split at e
 ·rename_i ds
  obtain ⟨v, rfl, a, zs, rfl, _, ta, il⟩ := IsL.inv1 h
  split at e
  ·rename_i n ns hi
   cases e
   obtain ⟨l1, l2⟩ := qjQ _ il hi
   refine ⟨a, zs, n :: ns, rfl, ta, l1, by simp, l2, fun v hv => ?_⟩
   obtain ⟨b, h1, h2⟩ := l2 (qci (n :: ns)) qhy
   rw [hv] at h1
   cases h1
   exact k _ H (jK.refl H) ⟨b, _, rfl, h2, w5 _⟩
  ·cases e
 ·cases e
def qmX (xs : List D) : Option D := (qhm xs).or (qjP xs)
def qlz : List V -> Hp -> VK -> Prop := fun xs H Q => ∃ (p : Addr) (ns : List Int), xs = [.ref p] /\ H p = some (.lst (ns.map V.int)) /\ ns ≠ [] /\ Q (.int (qcY ns)) H
theorem qf7 {X : Cx} {k : Nat} (hr : uS k X.A) (hc : X.calm = true) : yJ X (.builtin "min") (fun xs H Q => qlz xs H Q \/ qhz X.K xs H Q) := by
 intro pins s σ H xs us Q I r h
 rcases h with h | h
 ·exact qfX hc pins s σ H xs us Q I r h
 ·exact qf6 hr pins s σ H xs us Q I r h
theorem qeE {K : Fr0} : ww K qmX (fun xs H Q => qlz xs H Q \/ qhz K xs H Q) := by
 intro A H xs d vs Q hn h e k
 unfold qmX at e
 cases e1 : qhm xs with
 | some b => rw [e1] at e; exact .inl (qes A H xs d vs Q hn h (by rw [e1]; exact e) k)
 | none => rw [e1] at e; exact .inr (qeD A H xs d vs Q hn h e k)
def qnx (x : D) (ys : List D) : Option D := match x, ys with
 | .lst ds, [d] => if ds.all qdA && qdA d then (ds.findIdx? fun e => PyData.eqv (vG e) (vG d)).map fun j => .int j else none
 | _, _ => none
end L2.Sk
namespace L2.Sk
open PySem PySem.Spec PyProof.Rows
theorem qdW {prog : Program} {w : World} {A : Around} (hh : A.handled = none) (it tu : Addr) (hne : tu ≠ it) (arr : Array Value) :
  Draws prog w A it [it, tu] arr.size (fun i x => arr[i]? = some x) (fun i h => h.IsListIter it tu i /\ h.IsList tu arr) where
 live := fun i h st => by obtain ⟨⟨o, e, _⟩, _⟩ := st; exact ⟨o, e⟩
 frame := fun i h h' st k => by
  obtain ⟨h1, o, e, r⟩ := st
  exact ⟨h1.at fun o q => k it (by simp) o q, o, k tu (by simp) o e, r⟩
 item := fun i s Q E hi st q => wpAny_nextOf_list_item st.1 st.2 (Array.getElem?_eq_getElem hi) fun h' h1 sb => q _ h' s.toks (Array.getElem?_eq_getElem hi) ⟨h1, by
  obtain ⟨o, e, r⟩ := st.2
  exact ⟨o, sb.extBut _ _ hne e, r⟩⟩ sb
 done := fun s Q E st q => wpAny_nextOf_list_end hh st.1 st.2 (Array.getElem?_eq_none (Nat.le_refl _)) q
section
variable {prog : Program} {w : World} {A : Around} {E : Value -> Shared -> Prop} {s : Shared}
theorem qeF {l : Addr} {xs : Array Value} {Q : Value -> Shared -> Prop} (t1 : s.heap.IsList l xs)
  (fin : ∀ h', IsEnum h' (s.heap.objs.size + 1) s.heap.objs.size 0 .none -> h'.IsListIter s.heap.objs.size l 0 -> (∀ c o, s.heap.get? c = some o -> h'.get? c = some o) -> Q (.ref (s.heap.objs.size + 1)) { s with heap := h' }) :
  wpAny (model prog w) A (call (.type "enumerate") [.ref l]) Q E s := by
 have meets : Meets (Builtin.«enumerate.__new__» ⟨[.type "enumerate", .ref l], []⟩) (fun _ R s => s.heap.IsList l xs /\
   R (.ok (.ret (.ref (s.heap.objs.size + 1)))) { s with heap := (s.heap.push { cls := .type "list_iterator", data := .fields #[.ref l, .int 0 0] }).push { cls := .type "enumerate", data := .fields #[.none, .bool false, .ref s.heap.objs.size, rawInt 0, .none, .none] } }) :=
  .of_wp fun prog w A R s h => by
   obtain ⟨hp, g, d, tk, os⟩ := s
   obtain ⟨ha, h⟩ := h
   have hsub := sub_enumerate
   have hA : Heap.IsList (Shared.heap ⟨hp, g, d, tk, os⟩) l xs := ha
   obtain ⟨o, ho, _⟩ := id ha
   have ho' : hp.get? l = some o := ho
   wp_walk using AutoSeq1.wpAny_loadPart' ho'
   refine wpAny_stack_any fun st => wpAny_pure ?_
   split
   ·rename_i c _ _ _ _ _
    cases (c == Value.type "enumerate")
    ·wp_walk using AutoSeq1.wpAny_loadPart' ho', wpAny_pyIter_list hA
     simp only [Heap.size_push] at *
     exact ⟨_, rfl, h⟩
    ·wp_walk using AutoSeq1.wpAny_loadPart' ho', wpAny_pyIter_list hA
     simp only [Heap.size_push] at *
     exact ⟨_, rfl, h⟩
   ·wp_walk using AutoSeq1.wpAny_loadPart' ho', wpAny_pyIter_list hA
    simp only [Heap.size_push] at *
    exact ⟨_, rfl, h⟩
 refine callType_new F.called_enumerate (by decide) (F.typeCall_enumerate_1 _) (F.newCall_enumerate_1 _) (fun obj => F.args_object_init_2 obj _) F.entry_enumerate_new meets ⟨t1, ?_⟩
 generalize e1 : s.heap.push { cls := .type "list_iterator", data := .fields #[.ref l, .int 0 0] } = m1
 have s1 : m1.objs.size = s.heap.objs.size + 1 := by rw [<- e1, Heap.size_push]
 have q1 : m1.get? s.heap.objs.size = some { cls := .type "list_iterator", data := .fields #[.ref l, .int 0 0] } := by rw [<- e1]; exact Heap.get?_push_size _ rfl
 have k1 : ∀ c o, s.heap.get? c = some o -> m1.get? c = some o := fun c o x => by rw [<- e1]; exact Heap.get?_push_of_some _ x
 generalize e2 : m1.push { cls := .type "enumerate", data := .fields #[.none, .bool false, .ref s.heap.objs.size, rawInt 0, .none, .none] } = m2
 have q2 : m2.get? (s.heap.objs.size + 1) = some { cls := .type "enumerate", data := .fields #[.none, .bool false, .ref s.heap.objs.size, rawInt 0, .none, .none] } := by rw [<- e2, <- s1]; exact Heap.get?_push_size _ rfl
 have k2 : ∀ c o, m1.get? c = some o -> m2.get? c = some o := fun c o x => by rw [<- e2]; exact Heap.get?_push_of_some _ x
 show _ /\ _
 exact ⟨⟨_, q2, rfl⟩, fin m2 q2 ⟨_, k2 _ _ q1, rfl, rfl⟩ fun c o x => k2 _ _ (k1 _ _ x)⟩
end
def qmY (K : Fr0) (a : Addr) (xs : List V) : It :=
 ⟨fun i H => i < xs.length /\ SqL K H a xs, fun i H x H' => ∃ p u, H p = none /\ xs[i]? = some u /\ x = .ref p /\ H' = upd H p (.tup [.int i, u]), fun i H => i = xs.length /\ SqL K H a xs⟩
def qob (z i1 a1 : Addr) (i : Nat) (h : Heap) : Prop := (∃ old, IsEnum h z i1 i old) /\ h.IsListIter i1 a1 i
theorem qeG {P : Program} {w : World} {K : Fr0} {es : List Expr} {kk : Nat} {pos : Pos} {z i1 a1 : Addr} {xs : List V} (zi : z ≠ i1) (za : z ≠ a1) (n1 : a1 ≠ i1) :
  qi0 P w K (.Tuple es kk pos) (qmY K a1 xs) [z, i1] z (qob z i1 a1) where
 mem := by simp
 obj := fun i h st b hb => by
  obtain ⟨⟨old, h1⟩, ⟨o4, h4, c4, d4⟩⟩ := st
  simp only [List.mem_cons, List.not_mem_nil, or_false] at hb
  rcases hb with rfl | rfl
  ·exact ⟨_, h1, fun v e => by cases (show Data.fields _ = Data.cell v from e)⟩
  ·exact ⟨_, h4, fun v e => by rw [d4] at e; cases e⟩
 keep := fun i h h' st k => by
  obtain ⟨⟨old, h1⟩, h4⟩ := st
  exact ⟨⟨old, k z (by simp) _ h1⟩, h4.at fun o e => k i1 (by simp) o e⟩
 item := by
  intro X hP hw hK hc i pins s σ H E I hf st hg
  subst hP hw hK
  obtain ⟨hlt, hx⟩ := hg
  obtain ⟨⟨old, h1⟩, h4⟩ := st
  obtain ⟨it1, r1, p1, z1⟩ := I.list hx
  have l1 : i < it1.toArray.size := by rw [List.size_toArray, <- r1.length]; omega
  have hh : X.A.in1.handled = none := I.ok.hd hc
  refine wpAny_pyNext_enum_itemD (qdW hh i1 a1 n1 it1.toArray) h1 ⟨h4, p1.isList⟩ l1 zi (by simp [zi, za]) fun x h' tk px ho u1 new hsz kp => ?_
  refine ⟨.ref s.heap.objs.size, rfl, wpAny_letOwnedTupleGo_enum ho fun h2' zz2 sb => ?_⟩
  obtain ⟨xv, hxv⟩ : ∃ v, xs[i]? = some v := ⟨xs[i]'(by omega), List.getElem?_eq_getElem (by omega)⟩
  obtain ⟨x', ex, rx⟩ := r1.get hxv
  have exx : x' = x := by
   have : it1.toArray[i]? = some x := px
   rw [List.getElem?_toArray, ex] at this
   exact Option.some.inj this
  subst exx
  have lz : z < s.heap.objs.size := Heap.lt_size h1
  have keep : ∀ b u, b ∉ [z, i1] -> s.heap.get? b = some u -> h2'.get? b = some u := fun b u hb e => by
   simp only [List.mem_cons, List.not_mem_nil, or_false, not_or] at hb
   exact (sb.2 b hb.1).trans (kp b u hb.1 hb.2 e)
  have I2 : Inv X pins σ (upd H s.heap.objs.size (.tup [.int i, xv])) { s with heap := h2', toks := tk + 1 } :=
   qfC I keep hf (Nat.le_refl _) ⟨by show 2 <= sizeLine; decide, [.int i tk, x'], .cons ⟨tk, rfl⟩ (.cons rx .nil), ⟨_, (sb.2 _ (Nat.ne_of_gt lz)).trans new, rfl, _, rfl⟩⟩
  refine ⟨.ref s.heap.objs.size, upd H s.heap.objs.size (.tup [.int i, xv]), I2, rfl, ⟨s.heap.objs.size, xv, I.hok.fresh (Nat.le_refl _), hxv, rfl, rfl⟩, ?_, fun b hb => ?_⟩
  ·exact ⟨⟨_, by simpa using zz2⟩, u1.1.at fun o e => (sb.2 i1 zi.symm).trans e⟩
  ·have hb1 : b ≠ s.heap.objs.size := by
    simp only [List.mem_cons, List.not_mem_nil, or_false] at hb
    obtain ⟨o4, g4, _⟩ := h4
    rcases hb with rfl | rfl
    ·exact Nat.ne_of_lt (Heap.lt_size h1)
    ·exact Nat.ne_of_lt (Heap.lt_size g4)
   rw [qt hb1]
   exact (hf b hb).1
 done := by
  intro X hP hw hK hc i pins s σ H E I hf st hg
  subst hP hw hK
  obtain ⟨hlt, hx⟩ := hg
  obtain ⟨⟨old, h1⟩, h4⟩ := st
  obtain ⟨it1, r1, p1, z1⟩ := I.list hx
  have hh : X.A.in1.handled = none := I.ok.hd hc
  have e : i = it1.toArray.size := by rw [List.size_toArray, <- r1.length]; exact hlt
  subst e
  refine wpAny_pyNext_enum_endD (qdW hh i1 a1 n1 it1.toArray) h1 ⟨h4, p1.isList⟩ fun h' kp => ⟨rfl, qfD (t' := s.toks) I (fun b u hb e => ?_) hf⟩
  simp only [List.mem_cons, List.not_mem_nil, or_false, not_or] at hb
  exact kp b u hb.2 e
 self := fun A i s Q E st h => by
  obtain ⟨⟨old, h1⟩, _⟩ := st
  exact wpAny_pyIter_enum h1 h
section
variable {X : Cx} {c : Fc} {a b e : Expr} {pos : Pos} {es : List Expr} {kk : Nat} {tp : Pos}
def qlA (K : Fr0) (ta : TA) : TI := fun σ H R => ta σ H fun vs H1 => ∃ a1 xs, vs = [.ref a1] /\ SqL K H1 a1 xs /\ R (qmY K a1 xs) H1
theorem qhA {ta : TA} {p : Pos} (hg : Gl X "enumerate") (hm : X.mg "enumerate" = none) (ha : PA X [a] ta) (hs : starEach [a] X.env = [(false, eval a X.env)] := by rfl) :
  PI X (.Tuple es kk tp) (.Call (.Name "enumerate" p) [a] [] pos) (qlA X.K ta) := by
 intro pins s σ H R I h
 refine Call_ (vo I hg hm PyProof.Rows.boot_enumerate (PyProof.Rows.callWith_type1 (thn (ha pos pins s σ H _ I h) fun us s1 ⟨vs, H1, I1, r1, q1⟩ => ?_) (by rw [hs]; rfl) (by rfl)))
 obtain ⟨a1, xs, e1, hx, q⟩ := q1
 subst e1
 obtain ⟨u1, rfl, ru1⟩ := zh.one r1
 cases (show u1 = Value.ref a1 from ru1)
 obtain ⟨it1, v1, p1, z1⟩ := I1.list hx
 refine qeF (show s1.heap.IsList a1 it1.toArray from p1.isList) fun h' zz g1 kp => ?_
 refine wpAny_pyIter_enum zz ?_
 have la1 : a1 < s1.heap.objs.size := by obtain ⟨o, e, _⟩ := p1.isList; exact Heap.lt_size e
 refine ⟨s1.heap.objs.size + 1, [s1.heap.objs.size + 1, s1.heap.objs.size], _, _, H1, rfl, I1.kept (t' := s1.toks) kp, qeG (xs := xs) (Nat.succ_ne_self _) (Nat.ne_of_gt (Nat.lt_succ_of_lt la1)) (Nat.ne_of_lt la1), ⟨⟨_, zz⟩, g1⟩, fun b hb => ?_, q⟩
 simp only [List.mem_cons, List.not_mem_nil, or_false] at hb
 have hb2 : s1.heap.objs.size <= b := by
  rcases hb with e | e <;> rw [e]
  ·exact Nat.le_add_right _ _
  ·exact Nat.le_refl _
 exact I1.fpOk hb2 (I1.hok.fresh hb2)
end
section
variable {X : Cx} {c : Fc} {a b e : Expr} {pos : Pos} {es : List Expr} {kk : Nat} {tp : Pos}
theorem qhB {K : Fr0} {A : Addr -> Prop} {H : Hp} {ds : List D} {xs : List V} {a1 : Addr} (hA : A a1) (t1 : H a1 = some (.lst xs)) (i1 : IsL K A H ds xs) : qft K A H (uE 0 ds) (qmY K a1 xs) where
 go := fun H' i d ex hd => by
  have hl : i < (uE 0 ds).length := (List.getElem?_eq_some_iff.mp hd).1
  rw [uY, <- i1.length] at hl
  exact ⟨hl, SqL.of (ex.at_ _ _ hA t1)⟩
 yl := fun H' i d x H'' ex hd y => by
  obtain ⟨p, u, hp, hu, rfl, rfl⟩ := y
  obtain ⟨dx, h1, rfl⟩ := qau hd
  obtain ⟨u', g1, g2⟩ := i1.get h1
  rw [hu] at g1
  cases g1
  have sm := qz hp (.tup [.int i, u])
  exact ⟨sm, p, [.int i, u], rfl, .inl qv, .int i, [u], rfl, by rw [Nat.zero_add]; rfl, u, [], rfl, Is.ext (Ext.of_same sm) (fun _ h _ => h) (Is.ext ex (fun _ h _ => h) g2), rfl⟩
 stop := fun H' ex => ⟨by rw [uY, i1.length], SqL.of (ex.at_ _ _ hA t1)⟩
def qiD : List D -> Option (List D)
 | [.lst xs] => some (uE 0 xs)
 | _ => none
def qax (f : M (List D)) : M (List D) := bnd f fun ds => lift (qiD ds)
theorem qdX {f : M (List D)} {p : Pos} (hg : Gl X "enumerate") (hm : X.mg "enumerate" = none) (ha : DA X c [a] f) (hs : starEach [a] X.env = [(false, eval a X.env)] := by rfl) :
  DI X c (.Tuple es kk tp) (.Call (.Name "enumerate" p) [a] [] pos) (qax f) := by
 obtain ⟨t, pa, w⟩ := ha
 refine ⟨_, qhA hg hm pa hs, fun ρ σ H Q r h => w ρ σ H _ r (WpL.bndI h fun ds ρ1 vs H1 r1 i1 g1 h1 => ?_)⟩
 obtain ⟨es', e, h2⟩ := uz h1
 unfold qiD at e
 split at e
 ·obtain ⟨v, rfl, j1⟩ := IsL.inv1 i1
  cases e
  obtain ⟨a1, xs, rfl, hA, t1, il1⟩ := Is.tr j1
  exact ⟨a1, xs, rfl, SqL.of t1, h2 _ H1 r1 (qhB hA t1 il1) .refl⟩
 ·cases e
end
end L2.Sk
namespace L2.Sk
open PySem PySem.Spec PyProof.Rows
section
variable {X : Cx} {c : Fc} {pos : Pos}
theorem qhC : PE X (.Dict [] [] pos) (fun σ H Q => ∀ p, H p = none -> Q (.ref p) (upd H p (.dK []))) := by
 intro pins s σ H Q I h
 have hf : H s.heap.objs.size = none := I.hok.fresh (Nat.le_refl _)
 refine wpAny_Dict_empty ⟨.ref s.heap.objs.size, upd H s.heap.objs.size (.dK []), I.laid (t' := s.toks) (fun b o q => Heap.get?_push_of_some _ q) (Nat.le_refl _) ?_, rfl, h _ hf⟩
 exact ⟨by show 0 <= sizeLine; decide, beq_eq_false_iff_ne.mpr (Ne.symm (Nat.ne_of_lt (qli I))), [], .nil, Heap.DictOf.new _⟩
theorem qhD : DE X c (.Dict [] [] pos) (ret (.dic [])) :=
 ⟨_, qhC, fun ρ σ H Q r h p hp => h _ _ (r.laid hp _) ⟨p, rfl, r.new hp, qv⟩ (.of_same (qz hp _))⟩
end
end L2.Sk
namespace L2.Sk
open PySem PySem.Spec PyProof.Rows
theorem qbw : entryFor table "proto.unchain" = some Builtin.«proto.unchain» := entryFor_of_fast (by kernel_rfl)
theorem qbx : plainId "proto.unchain" = true := by kernel_rfl
section
variable {prog : Program} {w : World} {A : Around} {E : Value -> Shared -> Prop} {s : Shared}
theorem qby {x h : Value} {e : Addr} {o : Obj} {vs : Array Value} {Q : Value -> Shared -> Prop} (he : s.heap.get? e = some o) (hd : o.data = .fields vs) (h2 : vs[2]? = some .none) (q : Q .none s) :
  wpAny (model prog w) A (runValue (.builtin "proto.unchain" ⟨[x, .ref e, h, .bool false], []⟩)) Q E s := by
 refine wpAny_runValue (codeAny_builtin qbw ?_)
 rw [Around.under_plainId qbx _]
 show wpAny _ A.in1 (field (.ref e) 2 >>= _) _ _ s
 refine wpAny_bind (wpAny_field he hd h2 ?_)
 rw [if_pos (show (Value.none == Value.none) = true by decide)]
 exact wpAny_pure q
theorem qc2 {it e : Addr} {o : Obj} {vs : Array Value} {x left step : Int} {Q : Option Value -> Shared -> Prop} (hh : A.handled = some (.ref e)) (he : s.heap.get? e = some o) (hd : o.data = .fields vs) (h2 : vs[2]? = some .none)
  (hit : IsRangeIter s.heap it x left step) (hleft : left <= 0) (q : ∀ h', Heap.ExtBut it s.heap h' -> Q none { s with heap := h' }) : wpAny (model prog w) A (pyNext (.ref it)) Q E s := by
 have ty : s.TypeIs (.ref it) "range_iterator" := ⟨_, hit, rfl⟩
 unfold pyNext
 refine wpAny_bind (wpAny_attempt (wpAny_callSpecial?_slot (name := Str.ofString "__next__") ty PySem.F.slot_range_iterator_next (wpAny_call_entry PySem.F.slot_range_iterator_next ty PySem.F.entry_range_iterator_next ?_ (PySem.F.args_range_iterator_next_1 _))))
 show wpAny (model prog w) _ (field (Value.ref it) 0 >>= _) _ _ s
 refine wpAny_bind (wpAny_field hit rfl (x := rawInt x) rfl (wpAny_bind (wpAny_field hit rfl (x := rawInt left) rfl (wpAny_bind (wpAny_field hit rfl (x := rawInt step) rfl ?_)))))
 show wpAny (model prog w) _ (if left <= 0 then _ else _) _ _ s
 rw [if_pos hleft]
 refine wpAny_bind (wpAny_rule (wpAny_bind ?_))
 show wpAny (model prog w) _ (newExc (.type "StopIteration") [] >>= _) _ _ _
 simp only [newExc, newTuple]
 refine wpAny_bind (wpAny_bind (wpAny_newObj_type ?_ (by size_fits)))
 refine wpAny_bind (m := firstArgMember _ _) (wpAny_of_eq (a := Value.none) (by first | rfl | (simp only [firstArgMember]; rfl)) (wpAny_newObj_type ?_ (by size_fits)))
 simp only [raiseNew]
 refine wpAny_bind (wpAny_handled ?_)
 rw [show A.in1.handled = some (.ref e) from hh]
 have le : e < s.heap.objs.size := Heap.lt_size he
 have sz : (s.heap.push { cls := Value.type "tuple", data := Data.seq #[] }).objs.size = s.heap.objs.size + 1 := by simp [Heap.push]
 have ne : (Value.ref e != Value.ref (s.heap.push { cls := Value.type "tuple", data := Data.seq #[] }).objs.size) = true := by
  rw [bne_iff_ne]
  intro z
  have z' := Value.ref.inj z
  rw [sz] at z'
  exact absurd (z' ▸ le) (Nat.not_lt.mpr (Nat.le_succ _))
 show wpAny _ _ (if (Value.ref e != Value.ref (s.heap.push { cls := Value.type "tuple", data := Data.seq #[] }).objs.size) = true then _ else _) _ _ _
 rw [if_pos ne]
 refine wpAny_bind (wpAny_holding (qby (Heap.get?_push_of_some _ (Heap.get?_push_of_some _ he)) hd h2 ?_))
 show wpAny _ _ (setField (.ref (s.heap.push { cls := Value.type "tuple", data := Data.seq #[] }).objs.size) 2 (.ref e) >>= _) _ _ _
 refine wpAny_bind (wpAny_setField (Heap.get?_push_size _ rfl) rfl (by show 2 < _; simp; omega) (wpAny_throw ?_))
 have hn : ((s.heap.push { cls := Value.type "tuple", data := Data.seq #[] }).push { cls := Value.type "StopIteration", data := Data.fields (#[Value.ref s.heap.objs.size, Value.none, Value.none, Value.none, Value.bool false, Value.none] ++ ownMembersOf (Value.type "StopIteration") []) }).get? (s.heap.push { cls := Value.type "tuple", data := Data.seq #[] }).objs.size = some { cls := Value.type "StopIteration", data := Data.fields (#[Value.ref s.heap.objs.size, Value.none, Value.none, Value.none, Value.bool false, Value.none] ++ ownMembersOf (Value.type "StopIteration") []) } := Heap.get?_push_size _ rfl
 refine wpAny_bind (wpAny_isInstance (T := "StopIteration") (b := true) ⟨_, Heap.get?_update_self _ hn rfl, rfl⟩ isSubtype_stop ?_)
 refine wpAny_pure (q _ fun b ob hb g => ?_)
 have lb : b < s.heap.objs.size := Heap.lt_size g
 refine (Heap.get?_update_other _ _ (fun z => ?_)).trans (Heap.get?_push_of_some _ (Heap.get?_push_of_some _ g))
 rw [sz] at z
 exact absurd (z ▸ lb) (Nat.not_lt.mpr (Nat.le_succ _))
end
theorem AloneA.laid {A : Around} {H : Hp} {p : Addr} {o : HO} (x : AloneA A H) (h : H p = none) : AloneA A (upd H p o) := by
 obtain ⟨e, oe, u, vs, h1, h2, h3⟩ := x
 exact ⟨e, oe, u, vs, h1, by rw [qt (qH h2 h)]; exact h2, h3⟩
theorem AloneA.rep {K : Fr0} {c : Fc} {A : Around} (x : AloneA A c.H0) (hio : ∀ a, ¬ c.Io a) (ρ : Env) (σ : St) (H : Hp) (r : Rep K c ρ σ H) : AloneA A H := by
 obtain ⟨e, oe, u, vs, h1, h2, h3⟩ := x
 exact ⟨e, oe, u, vs, h1, r.kp _ _ h2 (hio e), h3⟩
theorem AloneA.cin {K : Fr0} {A : Around} {B0 : Addr -> Prop} {H1 H : Hp} {acc : Addr} {S' : Nat -> Option (Option V)} {O' : List Nat} {Io' : Addr -> Prop} {ρ : Env} {σ : St} (x : AloneA A H1) (hn : H1 acc = none) (hio : ∀ a, ¬ Io' a) (r : Rep K (Sk.cin B0 H1 O' Io' acc S') ρ σ H) : AloneA A H := by
 obtain ⟨e, oe, u, vs, h1, h2, h3⟩ := x
 have ne : e ≠ acc := qH h2 hn
 exact ⟨e, oe, u, vs, h1, r.kp e _ (show upd H1 acc (.lst []) e = _ by rw [qt ne]; exact h2) (fun z => z.elim (hio e) ne), h3⟩
end L2.Sk
namespace L2
open PySem PySem.Spec PyProof.Rows L2.Sk
structure qlB (P : Program) (w : World) (K : PySem.W.Frag) (tg : Expr) (J : It) (fp : List Addr) (it : Addr) (tn : Nat -> Heap -> Prop) : Prop where
 mem : it ∈ fp
 obj : ∀ i h, tn i h -> ∀ b ∈ fp, ∃ o, h.get? b = some o /\ ∀ v, o.data ≠ .cell v
 keep : ∀ i h h', tn i h -> (∀ b ∈ fp, ∀ o, h.get? b = some o -> h'.get? b = some o) -> tn i h'
 item : ∀ (X : Cx), X.prog = P -> X.w = w -> X.K = K -> AloneA X.A X.H₀ -> ∀ (i : Nat) (pins : List (Addr × Obj)) (s : Shared) (σ : St) (H : Hp) (E : Value -> Shared -> Prop), Inv X pins σ H s -> (∀ b ∈ fp, qbU X pins H b) -> tn i s.heap -> J.go i H ->
  wpAny (model P w) X.A (pyNext (.ref it)) (fun r s1 => ∃ u, r = some u /\
   wpAny (model P w) X.A (letOwnedTupleGo tg (.ref it) u) (fun _ s2 => ∃ x H', Inv X pins σ H' s2 /\ yp x u /\ J.yld i H x H' /\ tn (i + 1) s2.heap /\ ∀ b ∈ fp, H' b = none) E s1) E s
 done : ∀ (X : Cx), X.prog = P -> X.w = w -> X.K = K -> AloneA X.A X.H₀ -> ∀ (i : Nat) (pins : List (Addr × Obj)) (s : Shared) (σ : St) (H : Hp) (E : Value -> Shared -> Prop), Inv X pins σ H s -> (∀ b ∈ fp, qbU X pins H b) -> tn i s.heap -> J.stop i H ->
  wpAny (model P w) X.A (pyNext (.ref it)) (fun r s1 => r = none /\ Inv X pins σ H s1) E s
 self : ∀ (A : Around) (i : Nat) (s : Shared) (Q : Value -> Shared -> Prop) (E : Value -> Shared -> Prop), tn i s.heap -> Q (.ref it) s -> wpAny (model P w) A (pyIter (.ref it)) Q E s
def qny (X : Cx) (pins : List (Addr × Obj)) (σ : St) (tg : Expr) (R : It -> Hp -> Prop) (itv : Value) (s2 : Shared) : Prop :=
 ∃ (it : Addr) (fp : List Addr) (tn : Nat -> Heap -> Prop) (J : It) (H' : Hp), itv = .ref it /\ Inv X pins σ H' s2 /\ qlB X.prog X.w X.K tg J fp it tn /\ tn 0 s2.heap /\ (∀ b ∈ fp, qbU X pins H' b) /\ R J H'
def PIH (X : Cx) (tg iter : Expr) (wi : TI) : Prop :=
 ∀ (pins : List (Addr × Obj)) (s : Shared) (σ : St) (H : Hp) (R : It -> Hp -> Prop), Inv X pins σ H s -> wi σ H R ->
  wpAny (model X.prog X.w) X.A (eval iter X.env) (fun v s1 => wpAny (model X.prog X.w) X.A (pyIter v) (qny X pins σ tg R) X.xe s1) X.xe s
theorem qc3 {P : Program} {w : World} {K : PySem.W.Frag} {tg : Expr} (it : Addr) (lo : Int) (n : Nat) : qlB P w K tg (Itr lo n) [it] it (fun i h => IsRangeIter h it (lo + (i : Nat) * 1) ((n : Int) - (i : Nat)) 1) where
 mem := by simp
 obj := fun i h st b hb => by
  have e : b = it := by simpa using hb
  subst e
  exact ⟨_, st, fun v z => by
   have z' : Data.fields _ = Data.cell v := z
   cases z'⟩
 keep := fun i h h' st k => k it (by simp) _ st
 item := by
  intro X hP hw hK hc i pins s σ H E I hf st hg
  subst hP hw hK
  obtain ⟨f0, f1, f2, f3, f4, f5⟩ := hf it (by simp)
  refine wpAny_pyNext_range_item st (by have : i < n := hg; omega) fun h' st1 sb => ?_
  have st' : IsRangeIter h' it (lo + ((i + 1 : Nat) : Int) * 1) ((n : Int) - ((i + 1 : Nat) : Int)) 1 := by
   have e1 : lo + ((i + 1 : Nat) : Int) * 1 = lo + (i : Nat) * 1 + 1 := by omega
   have e2 : (n : Int) - ((i + 1 : Nat) : Int) = (n : Int) - (i : Nat) - 1 := by omega
   rw [e1, e2]; exact st1
  have I1 : Inv X pins σ H { s with heap := h', toks := s.toks + 1 } := I.turned (fun b o hb e => (sb.2 b hb).trans e) f0 f1 f3 f4 f5
  refine ⟨_, rfl, qeZ (s := { s with heap := h', toks := s.toks + 1 }) (n := "range_iterator") st' rfl rfl (by decide) ⟨.int (lo + i), H, I1, ⟨s.toks, ?_⟩, ⟨rfl, rfl⟩, st', fun b hb => (hf b hb).1⟩⟩
  rw [Int.mul_one]
 done := by
  intro X hP hw hK hc i pins s σ H E I hf st hg
  subst hP hw hK
  obtain ⟨f0, f1, f2, f3, f4, f5⟩ := hf it (by simp)
  obtain ⟨e, oe, u, vs, hh, hHe, hde, h2⟩ := hc
  have hoe : s.heap.get? e = some oe := (I.hok e _ (I.base.frzs e oe u hHe)).1
  exact qc2 hh hoe hde h2 st (by have : n <= i := hg; omega) fun h' eb => ⟨rfl, I.turned (t' := s.toks) (fun b o hb e => eb b o hb e) f0 f1 f3 f4 f5⟩
 self := fun _ _ _ _ _ st h => wpAny_pyIter_rangeiter st h
section
variable {X : Cx} {tg : Expr}
theorem qf8 {pins : List (Addr × Obj)} {σ : St} {H : Hp} {s : Shared} {R : It -> Hp -> Prop} {E : Value -> Shared -> Prop} {lo hi : Int} {t u v : Tok} {tk : Nat} (I : Inv X pins σ H s) (h1 : -(2 ^ 62) <= lo) (h2 : lo < 2 ^ 62) (h3 : -(2 ^ 62) <= hi) (h4 : hi < 2 ^ 62)
  (q : R (Itr lo (hi - lo).toNat) H) : wpAny (model X.prog X.w) X.A (pyIter (.ref s.heap.objs.size)) (qny X pins σ tg R) E { s with heap := s.heap.push { cls := .type "range", data := .fields #[.int lo t, .int hi u, .int 1 v] }, toks := tk } := by
 refine wpAny_pyIter_range (IsRange.new ..) (small_one h1 h2 h3 h4) ?_
 have I1 : Inv X pins σ H { s with heap := s.heap.push { cls := .type "range", data := .fields #[.int lo t, .int hi u, .int 1 v] }, toks := tk } := I.kept fun b o e => Heap.get?_push_of_some _ e
 refine ⟨(s.heap.push { cls := .type "range", data := .fields #[.int lo t, .int hi u, .int 1 v] }).objs.size, [(s.heap.push { cls := .type "range", data := .fields #[.int lo t, .int hi u, .int 1 v] }).objs.size], _, _, H, rfl,
  I1.kept (t' := tk) fun b o e => Heap.get?_push_of_some _ e, qc3 _ lo (hi - lo).toNat, ?_, fun b hb => ?_, q⟩
 ·have e1 : lo + ((0 : Nat) : Int) * 1 = lo := by simp
  have e2 : (((hi - lo).toNat : Nat) : Int) - ((0 : Nat) : Int) = Builtin.Range.rangeSize lo hi 1 := by rw [rangeSize_one]; split <;> omega
  show IsRangeIter _ _ (lo + ((0 : Nat) : Int) * 1) ((((hi - lo).toNat : Nat) : Int) - ((0 : Nat) : Int)) 1
  rw [e1, e2]
  exact Heap.get?_push_size _ rfl
 ·have e : b = (s.heap.push { cls := .type "range", data := .fields #[.int lo t, .int hi u, .int 1 v] }).objs.size := by simpa using hb
  subst e
  exact I1.fpOk (Nat.le_refl _) (I1.hok.fresh (Nat.le_refl _))
theorem qeH {a : Expr} {ta : TA} {p pos : Pos} (hg : Gl X "range") (hm : X.mg "range" = none) (ha : PA X [a] ta) (hs : starEach [a] X.env = [(false, eval a X.env)] := by rfl) : PIH X tg (.Call (.Name "range" p) [a] [] pos) (qkw ta) := by
 intro pins s σ H R I h
 refine Call_ (vo I hg hm boot_range (PyProof.Rows.callWith_type1 (thn (ha pos pins s σ H _ I h) fun us s1 ⟨vs, H1, I1, r1, q1⟩ => ?_) hs rfl))
 obtain ⟨j, e, q1, q2, q⟩ := q1
 subst e
 cases r1 with
 | cons r rr =>
  cases rr
  obtain ⟨t, rfl⟩ := r
  exact call_range_1 (qf8 I1 (by omega) (by omega) q1 q2 (by simpa using q))
end
end L2
namespace L2.Sk
open PySem PySem.Spec PyProof.Rows
def qlC (X : Cx) (tg : Expr) (ifs : List Expr) (elt : Expr) (scope : Scope) (N' : List Str) (wi : TI) (nt : Nat) (fr : List Nat) : TE := fun σ H Q => wi σ H fun J H1 => AloneA X.A H1 /\ ∀ acc fp cl C s₀ H₀ pn, H1 acc = none ->
 ∃ (g : TG) (tt : TT) (te : TE), PG (zl X scope N' fp cl C s₀ H₀ pn) tg g /\ PF (zl X scope N' fp cl C s₀ H₀ pn) ifs tt /\ PE (zl X scope N' fp cl C s₀ H₀ pn) elt te /\
 ∃ W : Nat -> Nat -> St -> Hp -> Prop, (∃ m, W 0 m (qy nt fr σ) (upd H1 acc (.lst []))) /\
 ∀ i m σ' H', W i m σ' H' -> (J.stop i H' /\ Q (.ref acc) H') \/ (J.go i H' /\ ∀ x H'', J.yld i H' x H'' -> g x σ' H'' fun σ2 H2 => tt σ2 H2 fun b H3 =>
  if b = true then te σ2 H3 fun y H4 => ∃ ys, H4 acc = some (.lst ys) /\ ys.length < sizeLine /\ ∃ m', m' < m /\ W (i + 1) m' σ2 (upd H4 acc (.lst (ys ++ [y]))) else ∃ m', m' < m /\ W (i + 1) m' σ2 H3)
section
variable {X : Cx} {tg iter elt : Expr} {ifs : List Expr} {scope : Scope} {pos : Pos} {wi : TI} {N' : List Str} {nt : Nat} {fr : List Nat}
theorem qhE (hi : PIH X tg iter wi) (S : jN X scope N' nt fr)
  (hs : ∀ x, foldedSetIterable iter X.env x = pure x := by intro _; rfl) : PE X (.ListComp elt [⟨tg, iter, ifs, 0⟩] scope pos) (qlC X tg ifs elt scope N' wi nt fr) := by
 intro pins s σ H Q I hw
 obtain ⟨cl, hcl, cl1, cl2⟩ := vO (env := X.env) (scope := scope) (fun y hy hf => I.ok.has y.1 (.inl (S.frees y hy hf)))
 rw [eval_ListComp]
 refine wpAny_comprehension_free (use := none) rfl hs hcl S.kind S.names (thn (hi pins s σ H _ I hw) fun v s1 h1 => thn h1 fun itv s2 h2 => ?_)
 obtain ⟨it, fp, tn, J, H2, e, I2, T, st2, f2, hal, hR⟩ := h2
 subst e
 have hacc : H2 s2.heap.objs.size = none := I2.hok.fresh (Nat.le_refl _)
 have hc : AloneA X.A (upd H2 s2.heap.objs.size (.lst [])) := Sk.AloneA.laid hal hacc
 refine wpAny_newObj_type (wpAny_newFunctionEnv S.nocell (by intro y hy; simp at hy) (fun h₁ hns₁ hsb₁ => ?_) S.kind)
 dsimp only at hns₁ hsb₁ |-
 have I3 : Inv X pins σ (upd H2 s2.heap.objs.size (.lst [])) { s2 with heap := s2.heap.push { cls := .type "list", dict := none, data := .seq ([] : List Value).toArray } } :=
  I2.lnew (t' := s2.toks) (its := []) .nil (Nat.zero_le _)
 generalize hs3 : ({ s2 with heap := s2.heap.push { cls := .type "list", dict := none, data := .seq ([] : List Value).toArray } } : Shared) = s3 at I3
 have hh3 : s2.heap.push { cls := .type "list", dict := none, data := .seq ([] : List Value).toArray } = s3.heap := by rw [<- hs3]
 rw [hh3] at hns₁ hsb₁
 have old : ∀ b o, s3.heap.get? b = some o -> h₁.get? b = some o := fun b o q => hsb₁.extBut b o (Nat.ne_of_lt (Heap.lt_size q)) (Heap.get?_push_of_some _ q)
 have objs2 : ∀ b ∈ fp, ∃ o, s2.heap.get? b = some o := fun b hb => by
  obtain ⟨o, q, _⟩ := T.obj 0 _ st2 b hb
  exact ⟨o, q⟩
 have keep23 : ∀ b o, s2.heap.get? b = some o -> s3.heap.get? b = some o := fun b o q => by rw [<- hh3]; exact Heap.get?_push_of_some _ q
 have fpne : ∀ b ∈ fp, b ≠ s2.heap.objs.size := fun b hb => by
  obtain ⟨o, q⟩ := objs2 b hb
  exact Nat.ne_of_lt (Heap.lt_size q)
 have f3 : ∀ b ∈ fp, qbU X pins (upd H2 s2.heap.objs.size (.lst [])) b := fun b hb => ⟨by rw [qt (fpne b hb)]; exact (f2 b hb).1, (f2 b hb).2⟩
 have J0 : Inv (zl X scope N' fp cl s3.heap.objs.size s3 (upd H2 s2.heap.objs.size (.lst [])) (X.pn ++ pins)) [] (qy nt fr σ) (upd H2 s2.heap.objs.size (.lst [])) { s3 with heap := h₁, toks := s3.toks } :=
  qaX S I3 f3 (fun b hb => (objs2 b hb).imp fun o q => keep23 b o q) cl1 cl2 ⟨_, hns₁⟩ old
 obtain ⟨g, tt, te, hg, hf, he, W, ⟨m0, w0⟩, turn⟩ := hR s2.heap.objs.size fp cl s3.heap.objs.size s3 (upd H2 s2.heap.objs.size (.lst [])) (X.pn ++ pins) hacc
 have T0 : tn 0 h₁ := T.keep 0 _ _ st2 fun b hb o q => old b o (keep23 b o q)
 have s3e : ∀ tk : Nat, ({ s2 with heap := h₁, toks := tk } : Shared) = { s3 with heap := h₁, toks := tk } := fun tk => by rw [<- hs3]
 have loop : ∀ tk : Nat, codeAny (model X.prog X.w) X.A (.compLoop (.ListComp elt [⟨tg, iter, ifs, 0⟩] scope pos) 0 (.ref it) (.ref s2.heap.objs.size) (compEnvC scope cl s3.heap.objs.size X.env))
   (compPost (model X.prog X.w) X.A X.xe none (EP X pins σ Q) (.ref s2.heap.objs.size) s3.heap.objs.size) { s3 with heap := h₁, toks := tk } := fun tk => by
  have stat : ∀ {H' : Hp}, (∀ b ∈ fp, H' b = none) -> ∀ b ∈ fp, qbU (zl X scope N' fp cl s3.heap.objs.size s3 (upd H2 s2.heap.objs.size (.lst [])) (X.pn ++ pins)) [] H' b := fun {H'} hn b hb => by
   obtain ⟨o, q⟩ := objs2 b hb
   have hbC : b ≠ s3.heap.objs.size := Nat.ne_of_lt (Heap.lt_size (keep23 b o q))
   refine ⟨hn b hb, hbC, fun z => ?_, .inl hb, fun x c hx => (f2 b hb).2.2.2.2.1 x c (cl1 x c hx), fun p hp => ?_⟩
   ·rcases List.mem_cons.mp (I2.stkSub b z) with z | z
    ·exact (f2 b hb).2.1 z
    ·exact (f2 b hb).2.2.1 z
   ·have hp' : p ∈ X.pn ++ pins := by
     rcases List.mem_append.mp (show p ∈ (X.pn ++ pins) ++ [] from hp) with z | z
     ·exact z
     ·cases z
    exact (f2 b hb).2.2.2.2.2 p hp'
  have fr0 : ∀ b ∈ fp, upd H2 s2.heap.objs.size (.lst []) b = none := fun b hb => (f3 b hb).1
  refine qan (fun n s' => ∃ i σ' H', Inv (zl X scope N' fp cl s3.heap.objs.size s3 (upd H2 s2.heap.objs.size (.lst [])) (X.pn ++ pins)) [] σ' H' s' /\ tn i s'.heap /\ (∀ b ∈ fp, H' b = none) /\ W i n σ' H') ?_ m0
   ⟨0, qy nt fr σ, _, J0.tok tk, T0, fr0, w0⟩
  rintro n s4 ⟨i, σ4, H4, J4, st4, fr4, w4⟩
  rcases turn i n σ4 H4 w4 with ⟨stop, qn⟩ | ⟨go, step⟩
  ·refine thn (T.done (zl X scope N' fp cl s3.heap.objs.size s3 (upd H2 s2.heap.objs.size (.lst [])) (X.pn ++ pins)) rfl rfl rfl hc i [] s4 σ4 H4 _ J4 (stat fr4) st4 stop) fun r s5 ⟨hr, J5⟩ => ?_
   subst hr
   obtain ⟨m5, n5, _⟩ := J5.loc
   refine ⟨m5, n5, fun h' sb => ⟨.ref s2.heap.objs.size, H4, qdz I3 f3 J5 sb, rfl, qn⟩⟩
  ·refine thn (T.item (zl X scope N' fp cl s3.heap.objs.size s3 (upd H2 s2.heap.objs.size (.lst [])) (X.pn ++ pins)) rfl rfl rfl hc i [] s4 σ4 H4 _ J4 (stat fr4) st4 go) fun r s5 ⟨u, hr, h5⟩ => ?_
   subst hr
   refine thn h5 fun _ s6 ⟨x, H6, J6, r6, y6, st6, fr6⟩ => ?_
   have J6' := J6.pinned (stat fr6) (T.obj _ _ st6)
   have again : ∀ {σ7 : St} {H7 : Hp} {s7 : Shared}, Inv (zl X scope N' fp cl s3.heap.objs.size s3 (upd H2 s2.heap.objs.size (.lst [])) (X.pn ++ pins)) ([] ++ qaU fp s6.heap) σ7 H7 s7 -> (∃ m', m' < n /\ W (i + 1) m' σ7 H7) ->
     ∃ m, m < n /\ ∃ i σ' H', Inv (zl X scope N' fp cl s3.heap.objs.size s3 (upd H2 s2.heap.objs.size (.lst [])) (X.pn ++ pins)) [] σ' H' s7 /\ tn i s7.heap /\ (∀ b ∈ fp, H' b = none) /\ W i m σ' H' := fun {σ7 H7 s7} I7 hm => by
    obtain ⟨m', hm, w7⟩ := hm
    refine ⟨m', hm, i + 1, σ7, H7, I7.unpinned, T.keep _ _ _ st6 fun b hb o q => (I7.pin (b, o) (List.mem_append_right _ (List.mem_append_right _ (yQ hb q)))).1, fun b hb => ?_, w7⟩
    obtain ⟨o, q, d⟩ := T.obj _ _ st6 b hb
    exact (I7.pin (b, o) (List.mem_append_right _ (List.mem_append_right _ (yQ hb q)))).2.1
   refine thn (hg _ s6 σ4 H6 x u _ J6' r6 (step x H6 y6)) fun _ s7 ⟨σ7, H7, J7, q7⟩ => ?_
   refine thn (hf _ s7 σ7 H7 _ J7 q7) fun ok s8 ⟨H8, J8, q8⟩ => ?_
   cases ok with
   | false =>
    rw [if_neg Bool.false_ne_true] at q8 |-
    exact again J8 q8
   | true =>
    rw [if_pos rfl] at q8 |-
    refine thn (he _ s8 σ7 H8 _ J8 q8) fun z s9 ⟨y, H9, J9, r9, ys, hys, hz, hm⟩ => ?_
    refine thn (qah _ s9 σ7 H9 (.ref s2.heap.objs.size) [y] (.ref s2.heap.objs.size) [z] (fun _ H' => H' = upd H9 s2.heap.objs.size (.lst (ys ++ [y]))) J9 rfl (.cons r9 .nil) ⟨_, ys, y, rfl, rfl, hys, hz, rfl⟩) fun _ s10 ⟨_, H10, J10, _, e10⟩ => ?_
    subst e10
    exact again J10 hm
 have zY : ∀ tk : Nat, codeAny (model X.prog X.w) X.A (.compStart (.ListComp elt [⟨tg, iter, ifs, 0⟩] scope pos) 0 (.ref it) (.ref s2.heap.objs.size) (compEnvC scope cl s3.heap.objs.size X.env))
   (compPost (model X.prog X.w) X.A X.xe none (EP X pins σ Q) (.ref s2.heap.objs.size) s3.heap.objs.size) { s3 with heap := h₁, toks := tk } := fun tk =>
  codeAny_compStart_list (loop tk) (T.self X.A 0 _ _ _ T0 (loop tk))
 have fin := zY (s2.toks + ([] : List (Str × Value)).length)
 rw [<- s3e] at fin
 rw [<- hh3] at fin
 rw [hh3] at fin |-
 exact fin
end
def DIH (X : Cx) (c : Fc) (tg it : Expr) (f : M (List D)) : Prop := ∃ w, PIH X tg it w /\ ∀ ρ σ H Q, Rep X.K c ρ σ H -> WpI X.K c σ H Q (f ρ) -> w σ H Q
section
variable {X : Cx} {c : Fc} {tg a b e : Expr} {pos : Pos}
theorem qa5 {f : M (List D)} {p : Pos} (hg : Gl X "range") (hm : X.mg "range" = none) (ha : DA X c [a] f) (hs : starEach [a] X.env = [(false, eval a X.env)] := by rfl) : DIH X c tg (.Call (.Name "range" p) [a] [] pos) (zC f) := by
 obtain ⟨t, p, w⟩ := ha
 refine ⟨_, qeH hg hm p hs, fun ρ σ H Q r h => w ρ σ H _ r (WpL.bndI h fun ds ρ1 vs H1 r1 i1 g1 h1 => ?_)⟩
 obtain ⟨es, e, h2⟩ := uz h1
 unfold qhd at e
 split at e
 ·rename_i j
  obtain ⟨v, rfl, e2⟩ := IsL.inv1 i1
  cases e2
  by_cases hb : (decide (-(2 ^ 62) <= j) && decide (j < 2 ^ 62)) = true
  ·rw [if_pos hb] at e
   cases e
   rw [Bool.and_eq_true] at hb
   exact ⟨j, rfl, of_decide_eq_true hb.1, of_decide_eq_true hb.2, h2 _ H1 r1 (qfv 0 _) .refl⟩
  ·rw [if_neg hb] at e
   cases e
 ·cases e
theorem qdY {it elt : Expr} {ifs : List Expr} {scope : Scope} {N' : List Str} {nt : Nat} {fr : List Nat} {fo : Option (Nat × Nat)} {f : M (List D)} {g : D -> Env -> Option Env} {t : M Bool} {k : M D} (hal : ∀ ρ σ H, Rep X.K c ρ σ H -> AloneA X.A H) (hi : DIH X c tg it f) (S : jN X scope N' nt fr)
  (hfo : qhf c nt fr fo) (hz : fo = none)
  (hb : ∀ fp cl C s₀ H₀ pn B0 H1 Io' acc S', (∀ ρ σ H, Rep X.K (cin B0 H1 (foO fo) Io' acc S') ρ σ H -> AloneA X.A H) -> DG (zl X scope N' fp cl C s₀ H₀ pn) (cin B0 H1 (foO fo) Io' acc S') tg g /\ DF (zl X scope N' fp cl C s₀ H₀ pn) (cin B0 H1 (foO fo) Io' acc S') ifs t /\ DE (zl X scope N' fp cl C s₀ H₀ pn) (cin B0 H1 (foO fo) Io' acc S') elt k)
  (hs : ∀ x, foldedSetIterable it X.env x = pure x := by intro _; rfl) : DE X c (.ListComp elt [⟨tg, it, ifs, 0⟩] scope pos) (qV nt fr fo f g t k) := by
 obtain ⟨wi, pi, wI⟩ := hi
 refine ⟨_, qhE pi S hs, fun ρ σ H Q r h => wI ρ σ H _ r (WpI.bnd h fun ds ρ1 J H1 r1 iok g1 h1 => ?_)⟩
 refine ⟨hal _ _ _ r1, ?_⟩
 intro acc fp cl C s₀ H₀ pn hn
 obtain ⟨⟨tg', pg, wg⟩, ⟨tt, pt, wt⟩, ⟨te, pe, we⟩⟩ := hb fp cl C s₀ H₀ pn (Cn c σ) H1 (w6 σ fo) acc (fun j => (qy nt fr σ)[j]?) (fun ρ2 σ2 H2 q => Sk.AloneA.cin (hal _ _ _ r1) hn (fun a => by rw [hz]; exact id) q)
 refine ⟨tg', tt, te, pg, pt, pe, ?_⟩
 cases ew : zt g t k ds [] (z0 nt fr ρ1) with
 | exc x ρ' => rw [ew] at h1; exact h1.elim
 | bad => rw [ew] at h1; exact h1.elim
 | ok p =>
  rw [ew] at h1
  obtain ⟨ys, ρe⟩ := p
  have h1 : ∀ v H', Rep X.K c (qhe fo ρe ρ1) σ H' -> Is X.K (Cn c σ) H' (.lst ys) v -> Gr c.O σ H1 H' -> Q v H' := h1
  have accO : ∀ j ∈ foO fo, (qy nt fr σ)[j]? ≠ some (some (.ref acc)) := fun j hj e => by
   have r0 := r1.entry (acc := acc) hn hfo
   cases fo with
   | none => cases hj
   | some p =>
    obtain ⟨i', j'⟩ := p
    have e2 : j = i' := by simpa [foO] using hj
    subst e2
    obtain ⟨k2, j2, e1, e2, e3⟩ := jG e
    have hk2 : k2 = j - nt := by omega
    subst hk2
    rw [hfo.2.2.1] at e2
    cases e2
    obtain ⟨a, us, e4, e5, _⟩ := r1.own j' hfo.1 _ e3
    cases e4; rw [hn] at e5; cases e5
  refine ⟨fun i m σ' H' => m = ds.length - i /\ i <= ds.length /\ ∃ ρ' zs xs, Rep X.K (cin (Cn c σ) H1 (foO fo) (w6 σ fo) acc fun j => (qy nt fr σ)[j]?) ρ' σ' H' /\ (∀ j ∈ foO fo, σ'[j]? = (qy nt fr σ)[j]?) /\ H' acc = some (.lst xs) /\ IsL X.K (Cn (cin (Cn c σ) H1 (foO fo) (w6 σ fo) acc fun j => (qy nt fr σ)[j]?) σ') H' zs xs /\ zt g t k (ds.drop i) zs ρ' = .ok (ys, ρe),
   ⟨ds.length, by simp, Nat.zero_le _, z0 nt fr ρ1, [], [], r1.entry hn hfo, fun _ _ => rfl, qv, rfl, by simpa using ew⟩, ?_⟩
  rintro i m σ' H' ⟨rfl, hi, ρ', zs, xs, r', so, ha, iz, w⟩
  obtain ⟨_, gr⟩ := r1.leave hn hfo (fun i j e => so i (by rw [e]; simp [foO])) r'
  have ex : Ext (CnT c σ H1) H1 H' := ⟨gr.ext.tup, gr.ext.frz, fun b o hb hq => gr.ext.at_ b o hb.1.2 hq⟩
  have accC : ∀ τ : St, (∀ j ∈ foO fo, τ[j]? = (qy nt fr σ)[j]?) -> Cl (foO fo) τ acc := fun τ hτ j hj e => accO j hj (by rw [<- hτ j hj]; exact e)
  by_cases hlt : i < ds.length
  ·refine .inr ⟨iok.go H' i ds[i] ex (by simp [hlt]), fun x H'' y => ?_⟩
   obtain ⟨sm, ix⟩ := iok.yl H' i ds[i] x H'' ex (by simp [hlt]) y
   rw [vd hlt] at w
   unfold zt at w
   have ix2 : Is X.K (Cn (cin (Cn c σ) H1 (foO fo) (w6 σ fo) acc fun j => (qy nt fr σ)[j]?) σ') H'' ds[i] x := Is.ext Ext.refl (fun a ha _ => ⟨⟨ha.1, fun e => by
    have := ha.2
    rw [e, hn] at this; cases this⟩, fun j hj e => by
     rw [so j hj] at e
     cases fo with
     | none => cases hj
     | some p =>
      obtain ⟨i', j'⟩ := p
      have e2 : j = i' := by simpa [foO, cin] using hj
      subst e2
      obtain ⟨k2, j2, e1, e2, e3⟩ := jG e
      have hk2 : k2 = j - nt := by omega
      subst hk2
      rw [hfo.2.2.1] at e2
      cases e2
      exact ha.1.2 j' hfo.1 e3⟩) ix
   cases e1 : g ds[i] ρ' with
   | none => simp only [e1] at w; cases w
   | some ρ2 =>
    simp only [e1] at w
    refine wg ρ' σ' H'' ds[i] x ρ2 _ (r'.same sm) ix2 e1 fun σ2 r2 g2 o2 => ?_
    have so2 : ∀ j ∈ foO fo, σ2[j]? = (qy nt fr σ)[j]? := fun j hj => (o2 j hj).trans (so j hj)
    have ha2 : H'' acc = some (.lst xs) := sm _ _ ha
    have iz2 := g2.isL (IsL.ext (Ext.of_same sm) (fun _ h _ => h) iz)
    cases e2 : t ρ2 with
    | exc x ρ3 => simp only [e2] at w; cases w
    | bad => simp only [e2] at w; cases w
    | ok p2 =>
     obtain ⟨bb, ρ3⟩ := p2
     refine wt ρ2 σ2 H'' _ r2 ?_
     rw [e2]
     intro H3 r3 g3
     have ha3 : H3 acc = some (.lst xs) := g3.ext.at_ _ _ (accC σ2 so2) ha2
     have iz3 := g3.isL iz2
     cases bb with
     | false =>
      rw [if_neg Bool.false_ne_true]
      simp only [e2] at w
      exact ⟨ds.length - (i + 1), by omega, rfl, hlt, ρ3, zs, xs, r3, so2, ha3, iz3, w⟩
     | true =>
      rw [if_pos rfl]
      simp only [e2] at w
      cases e3 : k ρ3 with
      | exc x ρ4 => simp only [e3] at w; cases w
      | bad => simp only [e3] at w; cases w
      | ok p3 =>
       obtain ⟨d4, ρ4⟩ := p3
       simp only [e3] at w
       refine we ρ3 σ2 H3 _ r3 ?_
       rw [e3]
       intro y4 H4 r4 i4 g4
       have ha4 : H4 acc = some (.lst xs) := g4.ext.at_ _ _ (accC σ2 so2) ha3
       have hsz : qI (zs.length + 1) = true := by
        cases e5 : qI (zs.length + 1) with
        | true => rfl
        | false => rw [e5] at w; simp at w
       rw [if_pos hsz] at w
       have hsz' : zs.length + 1 <= sizeLine := of_decide_eq_true hsz
       have r5 := r4.grow (ys := xs ++ [y4]) ha4 (fun j hj e => accC σ2 so2 j hj e)
       have ext5 : Ext (Cn (cin (Cn c σ) H1 (foO fo) (w6 σ fo) acc fun j => (qy nt fr σ)[j]?) σ2) H4 (upd H4 acc (.lst (xs ++ [y4]))) := ⟨fun b us hb => by rw [qt (vm hb ha4 (by intro z; cases z))]; exact hb, fun b o u hb => by rw [qt (vm hb ha4 (by intro z; cases z))]; exact hb, fun b o hb hq => by rw [qt hb.1.2]; exact hq⟩
       refine ⟨xs, ha4, by rw [iz3.length]; omega, ds.length - (i + 1), by omega, rfl, hlt, ρ4, zs ++ [d4], xs ++ [y4], r5, so2, qv, ?_, w⟩
       exact IsL.append (IsL.ext ext5 (fun _ h _ => h) (g4.isL iz3)) (IsL.one (Is.ext ext5 (fun _ h _ => h) i4))
  ·have hie : i = ds.length := by omega
   subst hie
   rw [List.drop_of_length_le (Nat.le_refl _)] at w
   unfold zt at w
   cases w
   obtain ⟨r6, g6⟩ := r1.leave hn hfo (fun i j e => so i (by rw [e]; simp [foO])) r'
   exact .inl ⟨iok.stop H' ex, h1 _ H' r6 ⟨acc, xs, rfl, r1.new hn, ha, IsL.ext Ext.refl (fun a ha hs => ha.1.1) iz⟩ g6⟩
end
theorem uj.units {k : Nat} {A : Around} (r : uj k A) : A.units + 64 < cLine := by have := r.un; omega
section
variable {X : Cx} {c : Fc} {e : Expr} {es : List Expr} {pos : Pos}
theorem qjR {k : Nat} (hr : uj k X.A) : OpR X (compareOp .Eq) (qgO X.K false) := by
 intro pins s σ H x y v u Q I rx ry h
 obtain ⟨d, e, A, h1, h2, o1, o2, q⟩ := h
 obtain ⟨as, r1, _⟩ := uC I (qaY o1) h1 rx
 obtain ⟨bs, r2, _⟩ := uC I (qaY o2) h2 ry
 exact SeqAt.compareEq_shaped r1 r2 (wA o1) (wA o2) (uj.units hr) ⟨.bl _, H, I, rfl, by simpa using q⟩
theorem qmZ {K : Fr0} {A : Around} {e : Addr} {H6 : Hp} (al : AloneA (A.mark (some (.ref e))) H6) : ∀ ρ σ H, Rep K (ch H6) ρ σ H -> AloneA (A.mark (some (.ref e))) H := Sk.AloneA.rep (c := ch H6) al (fun _ z => z)
theorem qjS {k : Nat} {A : Around} {e : Addr} (hr : uS k A) : uj k (A.mark (some (.ref e))) := ⟨hr.dp, hr.un, hr.gd⟩
theorem qf9 {k : Nat} (hr : uj k X.A) : OpR X (compareOp .Eq) (fun x y H Q => rEq x y H Q \/ qgO X.K false x y H Q) := OpR.or qkD (qjR hr)
theorem qhF {k : Nat} {f : Addr} {fd : FuncData} {ps : List Str} {F : List D -> R D} {x : Str} {p : Pos} {g : M (List D)} (hal : ∀ ρ σ H, Rep X.K c ρ σ H -> AloneA X.A H)
  (G : qbs X.prog X.w X.K X.mg X.base CX0 k f fd ps (spD X.K F)) (hr : uj k X.A) (hg : Gl X x) (hm : X.mg x = some (.ref f)) (hk : PySem.W.keepIn X.K (.ref f) = true) (hb : vn X.K fd ps [])
  (ha : DA X c (e :: es) g) (hd : (x == ("__debug__" : Str)) = false := by decide) (he : starEach (e :: es) X.env = (false, eval e X.env) :: starEach es X.env := by rfl) (hpl : (backTo pos (starEach es X.env)).any (·.1) = false := by rfl) : DE X c (.Call (.Name x p) (e :: es) [] pos) (qj F g) := by
 obtain ⟨t, pa, w⟩ := ha
 refine ⟨_, qdM (E := fun _ _ _ => False) G hr hg hm hk hb .nil (fun _ _ _ _ _ _ _ z => z.elim) pa hd he hpl, fun ρ σ H Q r h => w ρ σ H _ r (WpL.bnd h fun ds ρ1 vs H1 r1 i1 g1 h1 => ⟨hal _ _ _ r1, ?_⟩)⟩
 rw [List.append_nil]
 refine ⟨ds, Cn c σ, i1, fun _ _ => trivial, ?_⟩
 cases ef : F ds with
 | bad => simp only [ef] at h1; exact h1.elim
 | exc z ρ' => simp only [ef] at h1; exact h1.elim
 | ok d =>
  simp only [ef] at h1
  exact fun v H' sm i => h1 v H' (r1.same sm) (Is.ext Ext.refl (fun a ha _ => ha.elim id r1.new) i) (.of_same sm)
end
end L2.Sk
namespace L2.Sk
open PySem PySem.Spec PyProof.Rows
theorem qcj (a d : Value) : argsOk "min" ⟨[a], [(("default" : Str), d)]⟩ := by unfold argsOk; kernel_rfl
theorem qck (a d : Value) : argsOk "max" ⟨[a], [(("default" : Str), d)]⟩ := by unfold argsOk; kernel_rfl
theorem zM {prog : Program} {w : World} {A : Around} {E : Value -> Shared -> Prop} {s : Shared} {id : String} {b : Builtin} {args : List Value} {kw : List (Str × Value)} {Q : Value -> Shared -> Prop} (hk : builtinKind id = none) (hp : plainId id = true) (hb : entryFor table id = some b) (ha : argsOk id ⟨args, kw⟩)
  (hc : wpAny (model prog w) A.in1 (b ⟨args, kw⟩) (fun fin s2 => match fin with
   | .done f => (match (Except.ok f : Result) with | .ok (.ret v) => Q v s2 | .ok _ => False | .error e => E e s2)
   | .again c2 => c2.quiet = true /\ codeAny (model prog w) A c2 (fun r s3 => match r with | .ok (.ret v) => Q v s3 | .ok _ => False | .error e => E e s3) s2) E s) :
  wpAny (model prog w) A (call (.builtin id) args kw) Q E s := by
 refine wpAny_call (codeAny_call_builtin hp hb ?_)
 simp only [checkBuiltinCall, hk]
 cases es : Manifest.signature? id with
 | none => exact wpAny_pure hc
 | some sg =>
  simp only [argsOk, es] at ha
  have h2 : Bind.checkArgs id sg ⟨args, kw⟩ = pure () := ha
  show wpAny _ A.in1 (Bind.checkArgs id sg ⟨args, kw⟩) _ _ s
  rw [h2]
  exact wpAny_pure hc
def qdZ (X : Cx) (f : Value) (ks : List Str) (r : List V -> List V -> Hp -> VK -> Prop) : Prop := ∀ (pins : List (Addr × Obj)) (s : Shared) (σ : St) (H : Hp) (xs : List V) (us : List Value) (zs : List V) (ws : List Value) (Q : VK), Inv X pins σ H s -> zh xs us -> zh zs ws -> r xs zs H Q ->
 wpAny (model X.prog X.w) X.A (call f us (ks.zip ws)) (EP X pins σ Q) X.xe s
theorem qga {X : Cx} {x : Str} {p pos : Pos} {e : Expr} {es : List Expr} {kws : List Keyword} {t tk : TA} {id : String} {ks : List Str} {r : List V -> List V -> Hp -> VK -> Prop} (hc : qdZ X (.builtin id) ks r) (hg : Gl X x) (hm : X.mg x = none) (hv : bootBuiltins x = some (.builtin id)) (ha : PA X (e :: es) t) (hkw : PK X kws tk)
  (hall : (backToKw pos (keywordEach kws X.env)).all (·.1.isSome) = true := by rfl) (hks : (backToKw pos (keywordEach kws X.env)).filterMap (·.1) = ks := by rfl) (hn : x ≠ "__name__" := by decide) (hdb : (x == ("__debug__" : Str)) = false := by decide)
  (he : starEach (e :: es) X.env = (false, eval e X.env) :: starEach es X.env := by rfl) (hpl : ((backTo pos (starEach (e :: es) X.env)).any (·.1) || (backToKw pos (keywordEach kws X.env)).any (·.1.isNone)) = false := by rfl) :
  PE X (.Call (.Name x p) (e :: es) kws pos) (fun σ H Q => t σ H fun vs H1 => tk σ H1 fun zs H2 => r vs zs H2 Q) := by
 intro pins s σ H Q I h
 refine wpAny_Call_Name_kw (vo I hg hm hv ?_ hn hdb)
 refine PySem.W.callWith_of (P := fun _ => True) hpl (fun _ _ => ⟨.machine, .inr (.inl rfl), .now⟩) (evalArgs_kw2 hall (thn (ha pos pins s σ H _ I h) fun us s1 ⟨vs, H1, I1, r1, q1⟩ => ?_) he)
 refine thn (hkw pos pins s1 σ H1 _ I1 q1) fun ws s2 ⟨zs, H2, I2, rz, q2⟩ => ⟨trivial, ?_⟩
 rw [hks, List.nil_append]
 exact hc pins s2 σ H2 vs us zs ws Q I2 r1 rz q2
section
variable {prog : Program} {w : World} {A : Around} {R : Result -> Shared -> Prop} {I : Addr} {fp wr : List Addr} {n : Nat} {P : Nat -> Value -> Prop} {St : Nat -> Heap -> Prop} {dv : Value}
structure qcl (prog : Program) (w : World) (A : Around) (P : Nat -> Value -> Prop) (bt : Nat -> Nat -> Bool) (Ok : Heap -> Prop) (wr : List Addr) (Z : Addr) : Prop where
 cmp : ∀ (i j : Nat) (x y : Value) (s : Shared) (Q E : Value -> Shared -> Prop), P i x -> P j y -> Ok s.heap -> Q (.bool (bt i j)) s -> wpAny (model prog w) A (richCompare .Lt x y) Q E s
 old : ∀ h h' : Heap, Ok h -> (∀ b o, b ∉ wr -> b ≠ Z -> h.get? b = some o -> h'.get? b = some o) -> Ok h'
theorem qgb (W : Walks prog w A.in1 I fp wr n P St) {bt : Nat -> Nat -> Bool} {Ok : Heap -> Prop} {Z : Addr} (gZ : Z ∉ fp) (C : qcl prog w A.in1 P bt Ok wr Z) :
  ∀ (m q : Nat) (s : Shared) (best : Value) (z : Nat), n = q + 1 + m -> St (q + 1) s.heap -> P (argBest bt q) best -> Ok s.heap ->
  s.heap.get? Z = some { cls := .type "list", dict := none, data := .seq #[best, best] z, slots := #[] } ->
  (∀ y h2 t2, P (argBest bt (n - 1)) y -> (∀ b o, b ∉ wr -> b ≠ Z -> s.heap.get? b = some o -> h2.get? b = some o) -> R (.ok (.ret y)) { s with heap := h2, toks := t2 }) ->
  codeAny (model prog w) A (.builtin "min.loop" ⟨[.ref I, .none, .ref Z], [(("default" : Str), dv)]⟩) R s := by
 have gw : Z ∉ wr := fun e => gZ (W.sub _ e)
 have nm : (toString "min" ++ toString ".loop" : String) = "min.loop" := by decide
 intro m
 induction m with
 | zero =>
  intro q s best z en est eP eO eZ fin
  have eq1 : q + 1 = n := by omega
  have st' : St n s.heap := eq1 ▸ est
  refine codeAny_builtin PySem.F.entry_min_loop (by
   rw [Around.under_plainId PySem.F.plain_min_loop _]
   refine wpAny_bind (wpAny_seqItems eZ rfl ?_)
   refine wpAny_bind (wpAny_tryCatch (W.done s _ _ st' fun h1 t1 k1 => ?_))
   have eZ1 := k1 Z _ gw eZ
   refine wpAny_bind (wpAny_updateSeq eZ1 rfl (wpAny_bind (wpAny_letGo (wpAny_pure ?_))))
   exact fin best _ t1 (by rw [<- eq1]; exact eP) fun b o nb nz g => (Heap.get?_update_other _ _ (Ne.symm nz)).trans (k1 b o nb g))
 | succ m ih =>
  intro q s best z en est eP eO eZ fin
  have lt1 : q + 1 < n := by omega
  refine codeAny_builtin PySem.F.entry_min_loop (by
   rw [Around.under_plainId PySem.F.plain_min_loop _]
   refine wpAny_bind (wpAny_seqItems eZ rfl ?_)
   refine wpAny_bind (wpAny_tryCatch (W.item (q + 1) s _ _ lt1 est fun x h1 t1 eP1 est1 k1 => ?_))
   have eZ1 := k1 Z _ gw eZ
   have eO1 : Ok h1 := C.old _ _ eO fun b o nb _ g => k1 b o nb g
   refine wpAny_bind (wpAny_pure (wpAny_bind (wpAny_tryCatch (wpAny_holding (wpAny_bind (C.cmp (q + 1) (argBest bt q) x best _ _ _ eP1 eP eO1 ?_))))))
   refine wpAny_bind (wpAny_holding (wpAny_truthy_bool (wpAny_bind (wpAny_letGo (wpAny_pure ?_)))))
   cases less : bt (q + 1) (argBest bt q) with
   | true =>
    refine wpAny_bind (wpAny_updateSeq eZ1 rfl (wpAny_bind (wpAny_letGo ?_)))
    rw [nm]
    refine wpAny_pure ⟨plainId_quiet PySem.F.plain_min_loop _, ?_⟩
    refine ih (q + 1) _ x _ (by omega) (W.frame _ _ _ est1 fun b nb o g => ?_) (by simp only [argBest, less, if_true]; exact eP1) (C.old _ _ eO1 fun b o _ nz g => ?_) (Heap.get?_update_self _ eZ1 rfl) fun y h2 t2 eP2 k2 => ?_
    ·exact (Heap.get?_update_other _ _ (fun e : Z = b => gZ (by rw [e]; exact nb))).trans g
    ·exact (Heap.get?_update_other _ _ (Ne.symm nz)).trans g
    ·exact fin y h2 t2 eP2 fun b o nb nz g => k2 b o nb nz ((Heap.get?_update_other _ _ (Ne.symm nz)).trans (k1 b o nb g))
   | false =>
    refine wpAny_bind (wpAny_letGo ?_)
    rw [nm]
    refine wpAny_pure ⟨plainId_quiet PySem.F.plain_min_loop _, ?_⟩
    refine ih (q + 1) _ best z (by omega) est1 (by simp only [argBest, less, Bool.false_eq_true, if_false]; exact eP) eO1 eZ1 fun y h2 t2 eP2 k2 => ?_
    exact fin y h2 t2 eP2 fun b o nb nz g => k2 b o nb nz (k1 b o nb g))
theorem qeI (W : Walks prog w A.in1 I fp wr n P St) {bt : Nat -> Nat -> Bool} {Ok : Heap -> Prop} {Z : Addr} (gZ : Z ∉ fp) (C : qcl prog w A.in1 P bt Ok wr Z) {s : Shared} {z : Nat} (hn : 0 < n) (est : St 0 s.heap) (eO : Ok s.heap)
  (eZ : s.heap.get? Z = some { cls := .type "list", dict := none, data := .seq #[] z, slots := #[] })
  (fin : ∀ y h2 t2, P (argBest bt (n - 1)) y -> (∀ b o, b ∉ wr -> b ≠ Z -> s.heap.get? b = some o -> h2.get? b = some o) -> R (.ok (.ret y)) { s with heap := h2, toks := t2 }) :
  codeAny (model prog w) A (.builtin "min.loop" ⟨[.ref I, .none, .ref Z], [(("default" : Str), dv)]⟩) R s := by
 have gw : Z ∉ wr := fun e => gZ (W.sub _ e)
 have nm : (toString "min" ++ toString ".loop" : String) = "min.loop" := by decide
 refine codeAny_builtin PySem.F.entry_min_loop (by
  rw [Around.under_plainId PySem.F.plain_min_loop _]
  refine wpAny_bind (wpAny_seqItems eZ rfl ?_)
  refine wpAny_bind (wpAny_tryCatch (W.item 0 s _ _ hn est fun x h1 t1 eP1 est1 k1 => ?_))
  have eZ1 := k1 Z _ gw eZ
  have eO1 : Ok h1 := C.old _ _ eO fun b o nb _ g => k1 b o nb g
  refine wpAny_bind (wpAny_pure (wpAny_bind (wpAny_updateSeq eZ1 rfl ?_)))
  rw [nm]
  refine wpAny_pure ⟨plainId_quiet PySem.F.plain_min_loop _, ?_⟩
  refine qgb W gZ C (n - 1) 0 _ x _ (by omega) (W.frame _ _ _ est1 fun b nb o g => ?_) eP1 (C.old _ _ eO1 fun b o _ nz g => ?_) (Heap.get?_update_self _ eZ1 rfl) fun y h2 t2 eP2 k2 => ?_
  ·exact (Heap.get?_update_other _ _ (fun e : Z = b => gZ (by rw [e]; exact nb))).trans g
  ·exact (Heap.get?_update_other _ _ (Ne.symm nz)).trans g
  ·exact fin y h2 t2 eP2 fun b o nb nz g => k2 b o nb nz ((Heap.get?_update_other _ _ (Ne.symm nz)).trans (k1 b o nb g)))
end
section
variable {prog : Program} {w : World} {A : Around} {E : Value -> Shared -> Prop} {s : Shared}
theorem qgc {l : Addr} {dv : Value} {its : Array Value} {bt : Nat -> Nat -> Bool} {Q : Value -> Shared -> Prop} (hh : A.handled = none) (hl : s.heap.IsList l its) (hne : 0 < its.size)
  (hc : ∀ (i j : Nat) (x y : Value) (s1 : Shared) (Q E : Value -> Shared -> Prop), its[i]? = some x -> its[j]? = some y -> (∀ b o, s.heap.get? b = some o -> s1.heap.get? b = some o) -> Q (.bool (bt i j)) s1 -> wpAny (model prog w) A.in1 (richCompare .Lt x y) Q E s1)
  (fin : ∀ y h' tk, its[argBest bt (its.size - 1)]? = some y -> (∀ b o, s.heap.get? b = some o -> h'.get? b = some o) -> Q y { s with heap := h', toks := tk }) :
  wpAny (model prog w) A (call (.builtin "min") [.ref l] [(("default" : Str), dv)]) Q E s := by
 have nm : (toString "min" ++ toString ".loop" : String) = "min.loop" := by decide
 refine zM PySem.F.kind_min PySem.F.plain_min PySem.F.entry_min (qcj _ _) ?_
 refine wpAny_bind (wpAny_of_eq (show Builtin.Builtins.bindParams "min" ["key", "default"] 0 ⟨[], [(("default" : Str), dv)]⟩ = pure [none, some dv] from rfl) (wpAny_bind (wpAny_pure ?_)))
 refine wpAny_bind (wpAny_pyIter_list hl ?_)
 have la : l < s.heap.objs.size := by obtain ⟨o, e, _⟩ := hl; exact Heap.lt_size e
 have W := Walks.list (prog := prog) (w := w) (A := A.in1) hh s.heap.objs.size l (Nat.ne_of_lt la) its
 refine wpAny_bind (wpAny_newObj_type ?_)
 rw [nm]
 refine wpAny_pure ⟨plainId_quiet PySem.F.plain_min_loop _, ?_⟩
 have up : ∀ b o, s.heap.get? b = some o -> ((s.heap.push { cls := .type "list_iterator", data := .fields #[.ref l, .int 0 0] }).push { cls := .type "list", data := .seq #[] }).get? b = some o := fun b o g => Heap.get?_push_of_some _ (Heap.get?_push_of_some _ g)
 have sz : (s.heap.push { cls := .type "list_iterator", data := .fields #[.ref l, .int 0 0] }).objs.size = s.heap.objs.size + 1 := by simp [Heap.push]
 refine qeI (Ok := fun h => ∀ b o, s.heap.get? b = some o -> h.get? b = some o) (bt := bt) W (fun z => ?_) ⟨fun i j x y s1 Q E p1 p2 ok q => hc i j x y s1 Q E p1 p2 ok q, fun h h' ok k b o g => k b o (fun z => ?_) (fun z => ?_) (ok b o g)⟩ hne ⟨?_, ?_⟩ up (Heap.get?_push_size _ rfl) fun y h2 t2 p k => ?_
 ·have z' : (s.heap.push { cls := .type "list_iterator", data := .fields #[.ref l, .int 0 0] }).objs.size = s.heap.objs.size \/ (s.heap.push { cls := .type "list_iterator", data := .fields #[.ref l, .int 0 0] }).objs.size = l := by simpa using z
  rw [sz] at z'
  rcases z' with e | e
  ·exact absurd e (Nat.succ_ne_self _)
  ·exact absurd (e ▸ la) (Nat.not_lt.mpr (Nat.le_succ _))
 ·have z' : b = s.heap.objs.size := by simpa using z
  exact Nat.ne_of_lt (Heap.lt_size g) z'
 ·have g' := Heap.lt_size g
  have z' : b = (s.heap.push { cls := .type "list_iterator", data := .fields #[.ref l, .int 0 0] }).objs.size := z
  rw [sz] at z'
  exact absurd (z' ▸ g') (Nat.not_lt.mpr (Nat.le_succ _))
 ·exact ⟨_, Heap.get?_push_of_some _ (Heap.get?_push_size _ rfl), rfl, rfl⟩
 ·exact hl.at fun o e => up l o e
 ·refine fin y h2 t2 p fun b o g => k b o (fun z => ?_) (fun z => ?_) (up b o g)
  ·have z' : b = s.heap.objs.size := by simpa using z
   exact Nat.ne_of_lt (Heap.lt_size g) z'
  ·have g' := Heap.lt_size g
   have z' : b = (s.heap.push { cls := .type "list_iterator", data := .fields #[.ref l, .int 0 0] }).objs.size := z
   rw [sz] at z'
   exact absurd (z' ▸ g') (Nat.not_lt.mpr (Nat.le_succ _))
end
section
variable {prog : Program} {w : World} {A : Around} {R : Result -> Shared -> Prop} {I : Addr} {fp wr : List Addr} {n : Nat} {P : Nat -> Value -> Prop} {St : Nat -> Heap -> Prop} {dv : Value}
structure qcm (prog : Program) (w : World) (A : Around) (P : Nat -> Value -> Prop) (bt : Nat -> Nat -> Bool) (Ok : Heap -> Prop) (wr : List Addr) (Z : Addr) : Prop where
 cmp : ∀ (i j : Nat) (x y : Value) (s : Shared) (Q E : Value -> Shared -> Prop), P i x -> P j y -> Ok s.heap -> Q (.bool (bt i j)) s -> wpAny (model prog w) A (richCompare .Gt x y) Q E s
 old : ∀ h h' : Heap, Ok h -> (∀ b o, b ∉ wr -> b ≠ Z -> h.get? b = some o -> h'.get? b = some o) -> Ok h'
theorem qgd (W : Walks prog w A.in1 I fp wr n P St) {bt : Nat -> Nat -> Bool} {Ok : Heap -> Prop} {Z : Addr} (gZ : Z ∉ fp) (C : qcm prog w A.in1 P bt Ok wr Z) :
  ∀ (m q : Nat) (s : Shared) (best : Value) (z : Nat), n = q + 1 + m -> St (q + 1) s.heap -> P (argBest bt q) best -> Ok s.heap ->
  s.heap.get? Z = some { cls := .type "list", dict := none, data := .seq #[best, best] z, slots := #[] } ->
  (∀ y h2 t2, P (argBest bt (n - 1)) y -> (∀ b o, b ∉ wr -> b ≠ Z -> s.heap.get? b = some o -> h2.get? b = some o) -> R (.ok (.ret y)) { s with heap := h2, toks := t2 }) ->
  codeAny (model prog w) A (.builtin "max.loop" ⟨[.ref I, .none, .ref Z], [(("default" : Str), dv)]⟩) R s := by
 have gw : Z ∉ wr := fun e => gZ (W.sub _ e)
 have nm : (toString "max" ++ toString ".loop" : String) = "max.loop" := by decide
 intro m
 induction m with
 | zero =>
  intro q s best z en est eP eO eZ fin
  have eq1 : q + 1 = n := by omega
  have st' : St n s.heap := eq1 ▸ est
  refine codeAny_builtin PySem.F.entry_max_loop (by
   rw [Around.under_plainId PySem.F.plain_max_loop _]
   refine wpAny_bind (wpAny_seqItems eZ rfl ?_)
   refine wpAny_bind (wpAny_tryCatch (W.done s _ _ st' fun h1 t1 k1 => ?_))
   have eZ1 := k1 Z _ gw eZ
   refine wpAny_bind (wpAny_updateSeq eZ1 rfl (wpAny_bind (wpAny_letGo (wpAny_pure ?_))))
   exact fin best _ t1 (by rw [<- eq1]; exact eP) fun b o nb nz g => (Heap.get?_update_other _ _ (Ne.symm nz)).trans (k1 b o nb g))
 | succ m ih =>
  intro q s best z en est eP eO eZ fin
  have lt1 : q + 1 < n := by omega
  refine codeAny_builtin PySem.F.entry_max_loop (by
   rw [Around.under_plainId PySem.F.plain_max_loop _]
   refine wpAny_bind (wpAny_seqItems eZ rfl ?_)
   refine wpAny_bind (wpAny_tryCatch (W.item (q + 1) s _ _ lt1 est fun x h1 t1 eP1 est1 k1 => ?_))
   have eZ1 := k1 Z _ gw eZ
   have eO1 : Ok h1 := C.old _ _ eO fun b o nb _ g => k1 b o nb g
   refine wpAny_bind (wpAny_pure (wpAny_bind (wpAny_tryCatch (wpAny_holding (wpAny_bind (C.cmp (q + 1) (argBest bt q) x best _ _ _ eP1 eP eO1 ?_))))))
   refine wpAny_bind (wpAny_holding (wpAny_truthy_bool (wpAny_bind (wpAny_letGo (wpAny_pure ?_)))))
   cases less : bt (q + 1) (argBest bt q) with
   | true =>
    refine wpAny_bind (wpAny_updateSeq eZ1 rfl (wpAny_bind (wpAny_letGo ?_)))
    rw [nm]
    refine wpAny_pure ⟨plainId_quiet PySem.F.plain_max_loop _, ?_⟩
    refine ih (q + 1) _ x _ (by omega) (W.frame _ _ _ est1 fun b nb o g => ?_) (by simp only [argBest, less, if_true]; exact eP1) (C.old _ _ eO1 fun b o _ nz g => ?_) (Heap.get?_update_self _ eZ1 rfl) fun y h2 t2 eP2 k2 => ?_
    ·exact (Heap.get?_update_other _ _ (fun e : Z = b => gZ (by rw [e]; exact nb))).trans g
    ·exact (Heap.get?_update_other _ _ (Ne.symm nz)).trans g
    ·exact fin y h2 t2 eP2 fun b o nb nz g => k2 b o nb nz ((Heap.get?_update_other _ _ (Ne.symm nz)).trans (k1 b o nb g))
   | false =>
    refine wpAny_bind (wpAny_letGo ?_)
    rw [nm]
    refine wpAny_pure ⟨plainId_quiet PySem.F.plain_max_loop _, ?_⟩
    refine ih (q + 1) _ best z (by omega) est1 (by simp only [argBest, less, Bool.false_eq_true, if_false]; exact eP) eO1 eZ1 fun y h2 t2 eP2 k2 => ?_
    exact fin y h2 t2 eP2 fun b o nb nz g => k2 b o nb nz (k1 b o nb g))
theorem qeJ (W : Walks prog w A.in1 I fp wr n P St) {bt : Nat -> Nat -> Bool} {Ok : Heap -> Prop} {Z : Addr} (gZ : Z ∉ fp) (C : qcm prog w A.in1 P bt Ok wr Z) {s : Shared} {z : Nat} (hn : 0 < n) (est : St 0 s.heap) (eO : Ok s.heap)
  (eZ : s.heap.get? Z = some { cls := .type "list", dict := none, data := .seq #[] z, slots := #[] })
  (fin : ∀ y h2 t2, P (argBest bt (n - 1)) y -> (∀ b o, b ∉ wr -> b ≠ Z -> s.heap.get? b = some o -> h2.get? b = some o) -> R (.ok (.ret y)) { s with heap := h2, toks := t2 }) :
  codeAny (model prog w) A (.builtin "max.loop" ⟨[.ref I, .none, .ref Z], [(("default" : Str), dv)]⟩) R s := by
 have gw : Z ∉ wr := fun e => gZ (W.sub _ e)
 have nm : (toString "max" ++ toString ".loop" : String) = "max.loop" := by decide
 refine codeAny_builtin PySem.F.entry_max_loop (by
  rw [Around.under_plainId PySem.F.plain_max_loop _]
  refine wpAny_bind (wpAny_seqItems eZ rfl ?_)
  refine wpAny_bind (wpAny_tryCatch (W.item 0 s _ _ hn est fun x h1 t1 eP1 est1 k1 => ?_))
  have eZ1 := k1 Z _ gw eZ
  have eO1 : Ok h1 := C.old _ _ eO fun b o nb _ g => k1 b o nb g
  refine wpAny_bind (wpAny_pure (wpAny_bind (wpAny_updateSeq eZ1 rfl ?_)))
  rw [nm]
  refine wpAny_pure ⟨plainId_quiet PySem.F.plain_max_loop _, ?_⟩
  refine qgd W gZ C (n - 1) 0 _ x _ (by omega) (W.frame _ _ _ est1 fun b nb o g => ?_) eP1 (C.old _ _ eO1 fun b o _ nz g => ?_) (Heap.get?_update_self _ eZ1 rfl) fun y h2 t2 eP2 k2 => ?_
  ·exact (Heap.get?_update_other _ _ (fun e : Z = b => gZ (by rw [e]; exact nb))).trans g
  ·exact (Heap.get?_update_other _ _ (Ne.symm nz)).trans g
  ·exact fin y h2 t2 eP2 fun b o nb nz g => k2 b o nb nz ((Heap.get?_update_other _ _ (Ne.symm nz)).trans (k1 b o nb g)))
end
section
variable {prog : Program} {w : World} {A : Around} {E : Value -> Shared -> Prop} {s : Shared}
theorem qge {l : Addr} {dv : Value} {its : Array Value} {bt : Nat -> Nat -> Bool} {Q : Value -> Shared -> Prop} (hh : A.handled = none) (hl : s.heap.IsList l its) (hne : 0 < its.size)
  (hc : ∀ (i j : Nat) (x y : Value) (s1 : Shared) (Q E : Value -> Shared -> Prop), its[i]? = some x -> its[j]? = some y -> (∀ b o, s.heap.get? b = some o -> s1.heap.get? b = some o) -> Q (.bool (bt i j)) s1 -> wpAny (model prog w) A.in1 (richCompare .Gt x y) Q E s1)
  (fin : ∀ y h' tk, its[argBest bt (its.size - 1)]? = some y -> (∀ b o, s.heap.get? b = some o -> h'.get? b = some o) -> Q y { s with heap := h', toks := tk }) :
  wpAny (model prog w) A (call (.builtin "max") [.ref l] [(("default" : Str), dv)]) Q E s := by
 have nm : (toString "max" ++ toString ".loop" : String) = "max.loop" := by decide
 refine zM PySem.F.kind_max PySem.F.plain_max PySem.F.entry_max (qck _ _) ?_
 refine wpAny_bind (wpAny_of_eq (show Builtin.Builtins.bindParams "max" ["key", "default"] 0 ⟨[], [(("default" : Str), dv)]⟩ = pure [none, some dv] from rfl) (wpAny_bind (wpAny_pure ?_)))
 refine wpAny_bind (wpAny_pyIter_list hl ?_)
 have la : l < s.heap.objs.size := by obtain ⟨o, e, _⟩ := hl; exact Heap.lt_size e
 have W := Walks.list (prog := prog) (w := w) (A := A.in1) hh s.heap.objs.size l (Nat.ne_of_lt la) its
 refine wpAny_bind (wpAny_newObj_type ?_)
 rw [nm]
 refine wpAny_pure ⟨plainId_quiet PySem.F.plain_max_loop _, ?_⟩
 have up : ∀ b o, s.heap.get? b = some o -> ((s.heap.push { cls := .type "list_iterator", data := .fields #[.ref l, .int 0 0] }).push { cls := .type "list", data := .seq #[] }).get? b = some o := fun b o g => Heap.get?_push_of_some _ (Heap.get?_push_of_some _ g)
 have sz : (s.heap.push { cls := .type "list_iterator", data := .fields #[.ref l, .int 0 0] }).objs.size = s.heap.objs.size + 1 := by simp [Heap.push]
 refine qeJ (Ok := fun h => ∀ b o, s.heap.get? b = some o -> h.get? b = some o) (bt := bt) W (fun z => ?_) ⟨fun i j x y s1 Q E p1 p2 ok q => hc i j x y s1 Q E p1 p2 ok q, fun h h' ok k b o g => k b o (fun z => ?_) (fun z => ?_) (ok b o g)⟩ hne ⟨?_, ?_⟩ up (Heap.get?_push_size _ rfl) fun y h2 t2 p k => ?_
 ·have z' : (s.heap.push { cls := .type "list_iterator", data := .fields #[.ref l, .int 0 0] }).objs.size = s.heap.objs.size \/ (s.heap.push { cls := .type "list_iterator", data := .fields #[.ref l, .int 0 0] }).objs.size = l := by simpa using z
  rw [sz] at z'
  rcases z' with e | e
  ·exact absurd e (Nat.succ_ne_self _)
  ·exact absurd (e ▸ la) (Nat.not_lt.mpr (Nat.le_succ _))
 ·have z' : b = s.heap.objs.size := by simpa using z
  exact Nat.ne_of_lt (Heap.lt_size g) z'
 ·have g' := Heap.lt_size g
  have z' : b = (s.heap.push { cls := .type "list_iterator", data := .fields #[.ref l, .int 0 0] }).objs.size := z
  rw [sz] at z'
  exact absurd (z' ▸ g') (Nat.not_lt.mpr (Nat.le_succ _))
 ·exact ⟨_, Heap.get?_push_of_some _ (Heap.get?_push_size _ rfl), rfl, rfl⟩
 ·exact hl.at fun o e => up l o e
 ·refine fin y h2 t2 p fun b o g => k b o (fun z => ?_) (fun z => ?_) (up b o g)
  ·have z' : b = s.heap.objs.size := by simpa using z
   exact Nat.ne_of_lt (Heap.lt_size g) z'
  ·have g' := Heap.lt_size g
   have z' : b = (s.heap.push { cls := .type "list_iterator", data := .fields #[.ref l, .int 0 0] }).objs.size := z
   rw [sz] at z'
   exact absurd (z' ▸ g') (Nat.not_lt.mpr (Nat.le_succ _))
end
section
variable {prog : Program} {w : World} {A : Around} {E : Value -> Shared -> Prop} {s : Shared}
theorem qcn {nm : String} {b : Builtin} {l : Addr} {its : Array Value} {dv : Value} {Q : Value -> Shared -> Prop} (hh : A.handled = none) (hl : s.heap.IsList l its) (he : its.size = 0)
  (hk : nm = "min" \/ nm = "max") (fin : ∀ h' tk, (∀ b o, s.heap.get? b = some o -> h'.get? b = some o) -> Q dv { s with heap := h', toks := tk }) :
  wpAny (model prog w) A (call (.builtin nm) [.ref l] [(("default" : Str), dv)]) Q E s := by
 have la : l < s.heap.objs.size := by obtain ⟨o, e, _⟩ := hl; exact Heap.lt_size e
 have W := Walks.list (prog := prog) (w := w) (A := A.in1) hh s.heap.objs.size l (Nat.ne_of_lt la) its
 have up : ∀ b o, s.heap.get? b = some o -> ((s.heap.push { cls := .type "list_iterator", data := .fields #[.ref l, .int 0 0] }).push { cls := .type "list", data := .seq #[] }).get? b = some o := fun b o g => Heap.get?_push_of_some _ (Heap.get?_push_of_some _ g)
 have st : Heap.IsListIter ((s.heap.push { cls := .type "list_iterator", data := .fields #[.ref l, .int 0 0] }).push { cls := .type "list", data := .seq #[] }) s.heap.objs.size l 0 := ⟨_, Heap.get?_push_of_some _ (Heap.get?_push_size _ rfl), rfl, rfl⟩
 have hl2 := hl.at fun o e => up l o e
 rcases hk with rfl | rfl
 ·have nm : (toString "min" ++ toString ".loop" : String) = "min.loop" := by decide
  refine zM PySem.F.kind_min PySem.F.plain_min PySem.F.entry_min (qcj _ _) ?_
  refine wpAny_bind (wpAny_of_eq (show Builtin.Builtins.bindParams "min" ["key", "default"] 0 ⟨[], [(("default" : Str), dv)]⟩ = pure [none, some dv] from rfl) (wpAny_bind (wpAny_pure ?_)))
  refine wpAny_bind (wpAny_pyIter_list hl (wpAny_bind (wpAny_newObj_type ?_)))
  rw [nm]
  refine wpAny_pure ⟨plainId_quiet PySem.F.plain_min_loop _, codeAny_builtin PySem.F.entry_min_loop ?_⟩
  rw [Around.under_plainId PySem.F.plain_min_loop _]
  refine wpAny_bind (wpAny_seqItems (Heap.get?_push_size _ rfl) rfl ?_)
  refine wpAny_bind (wpAny_tryCatch (W.done _ _ _ ⟨by rw [he]; exact st, hl2⟩ fun h1 t1 k1 => ?_))
  exact wpAny_bind (wpAny_rule (wpAny_pure (fin h1 t1 fun b o g => k1 b o (fun z => by
   have z' : b = s.heap.objs.size := by simpa using z
   exact Nat.ne_of_lt (Heap.lt_size g) z') (up b o g))))
 ·have nm : (toString "max" ++ toString ".loop" : String) = "max.loop" := by decide
  refine zM PySem.F.kind_max PySem.F.plain_max PySem.F.entry_max (qck _ _) ?_
  refine wpAny_bind (wpAny_of_eq (show Builtin.Builtins.bindParams "max" ["key", "default"] 0 ⟨[], [(("default" : Str), dv)]⟩ = pure [none, some dv] from rfl) (wpAny_bind (wpAny_pure ?_)))
  refine wpAny_bind (wpAny_pyIter_list hl (wpAny_bind (wpAny_newObj_type ?_)))
  rw [nm]
  refine wpAny_pure ⟨plainId_quiet PySem.F.plain_max_loop _, codeAny_builtin PySem.F.entry_max_loop ?_⟩
  rw [Around.under_plainId PySem.F.plain_max_loop _]
  refine wpAny_bind (wpAny_seqItems (Heap.get?_push_size _ rfl) rfl ?_)
  refine wpAny_bind (wpAny_tryCatch (W.done _ _ _ ⟨by rw [he]; exact st, hl2⟩ fun h1 t1 k1 => ?_))
  exact wpAny_bind (wpAny_rule (wpAny_pure (fin h1 t1 fun b o g => k1 b o (fun z => by
   have z' : b = s.heap.objs.size := by simpa using z
   exact Nat.ne_of_lt (Heap.lt_size g) z') (up b o g))))
end
end L2.Sk
namespace L2.Sk
open PySem PySem.Spec PyProof.Rows
section
variable {X : Cx}
def qlD : List V -> List V -> Hp -> VK -> Prop := fun xs zs H Q => ∃ (p : Addr) (ns : List Int) (z : V), xs = [.ref p] /\ zs = [z] /\ H p = some (.lst (ns.map V.int)) /\ Q (if ns = [] then z else .int (qcJ ns)) H
def qlE : List V -> List V -> Hp -> VK -> Prop := fun xs zs H Q => ∃ (p : Addr) (ns : List Int) (z : V), xs = [.ref p] /\ zs = [z] /\ H p = some (.lst (ns.map V.int)) /\ Q (if ns = [] then z else .int (qcY ns)) H
theorem qgf (hc : X.calm = true) : qdZ X (.builtin "max") ["default"] qlD := by
 intro pins s σ H xs us zs0 ws Q I r rz h
 obtain ⟨p, ns, z, rfl, rfl, hp, q⟩ := h
 obtain ⟨u, rfl, ru⟩ := zh.one r
 obtain ⟨w, rfl, rw0⟩ := zh.one rz
 cases ru
 obtain ⟨its, rv, pl, hz⟩ := I.list (SqL.of hp)
 have hl := pl.isList
 have hi : IntsAre its ns := yR rv
 obtain ⟨zs, hx⟩ := hi.allInts.items
 have hl' : s.heap.IsList p (intItems zs) := hx ▸ hl
 have e1 : ns = zs.toList.map (·.1) := by
  rw [<- nums_intItems, <- hx]
  exact (show numsOf its.toArray.toList = ns from hi.numsOf).symm
 by_cases hne : ns = []
 ·rw [if_pos hne] at q
  have hsz : (intItems zs).size = 0 := by
   have : zs.size = zs.toList.length := by simp
   rw [hne] at e1
   have e2 : zs.toList = [] := List.map_eq_nil_iff.mp e1.symm
   simp [intItems, this, e2]
  exact qcn (b := fun _ => pure default) (I.ok.hd hc) hl' hsz (.inr rfl) fun h' tk kp => ⟨z, H, I.kept kp, rw0, q⟩
 ·rw [if_neg hne] at q
  have hsz : 0 < zs.size := by
   cases hzz : zs.toList with
   | nil => rw [hzz] at e1; exact absurd e1 hne
   | cons a b =>
    have : zs.size = zs.toList.length := by simp
    rw [this, hzz]; simp
  refine qge (bt := fun i j => decide (numAt zs i > numAt zs j)) (I.ok.hd hc) hl' (by simpa [intItems] using hsz) (fun i j x y s1 Q E h1 h2 _ q => CmpOf.ints_gt (numAt zs) (fun _ _ => intItems_at) i j x y s1 Q E h1 h2 q) fun v h' tk hv hk => ?_
  have hv' : (intItems zs)[argBest (fun i j => decide (numAt zs i > numAt zs j)) (zs.size - 1)]? = some v := by simpa [intItems] using hv
  obtain ⟨t, rfl⟩ := intItems_at hv'
  obtain ⟨b1, b2⟩ := argBest_gt (numAt zs) (zs.size - 1)
  have e2 : qcJ ns = numAt zs (argBest (fun i j => decide (numAt zs i > numAt zs j)) (zs.size - 1)) := by
   refine qbq ?_ fun n hn => ?_
   ·rw [e1]
    exact List.mem_of_getElem? (yr (by omega))
   ·rw [e1] at hn
    obtain ⟨j, hj⟩ := List.mem_iff_getElem?.mp hn
    have hj2 : j < zs.size := by
     have := (List.getElem?_eq_some_iff.mp hj).1
     simpa using this
    rw [yr hj2] at hj
    cases hj
    exact b2 j (by omega)
  rw [<- e2]
  exact ⟨.int _, H, I.kept hk, ⟨_, rfl⟩, q⟩
theorem qgg (hc : X.calm = true) : qdZ X (.builtin "min") ["default"] qlE := by
 intro pins s σ H xs us zs0 ws Q I r rz h
 obtain ⟨p, ns, z, rfl, rfl, hp, q⟩ := h
 obtain ⟨u, rfl, ru⟩ := zh.one r
 obtain ⟨w, rfl, rw0⟩ := zh.one rz
 cases ru
 obtain ⟨its, rv, pl, hz⟩ := I.list (SqL.of hp)
 have hl := pl.isList
 have hi : IntsAre its ns := yR rv
 obtain ⟨zs, hx⟩ := hi.allInts.items
 have hl' : s.heap.IsList p (intItems zs) := hx ▸ hl
 have e1 : ns = zs.toList.map (·.1) := by
  rw [<- nums_intItems, <- hx]
  exact (show numsOf its.toArray.toList = ns from hi.numsOf).symm
 by_cases hne : ns = []
 ·rw [if_pos hne] at q
  have hsz : (intItems zs).size = 0 := by
   have : zs.size = zs.toList.length := by simp
   rw [hne] at e1
   have e2 : zs.toList = [] := List.map_eq_nil_iff.mp e1.symm
   simp [intItems, this, e2]
  exact qcn (b := fun _ => pure default) (I.ok.hd hc) hl' hsz (.inl rfl) fun h' tk kp => ⟨z, H, I.kept kp, rw0, q⟩
 ·rw [if_neg hne] at q
  have hsz : 0 < zs.size := by
   cases hzz : zs.toList with
   | nil => rw [hzz] at e1; exact absurd e1 hne
   | cons a b =>
    have : zs.size = zs.toList.length := by simp
    rw [this, hzz]; simp
  refine qgc (bt := fun i j => decide (numAt zs i < numAt zs j)) (I.ok.hd hc) hl' (by simpa [intItems] using hsz) (fun i j x y s1 Q E h1 h2 _ q => CmpOf.ints_lt (numAt zs) (fun _ _ => intItems_at) i j x y s1 Q E h1 h2 q) fun v h' tk hv hk => ?_
  have hv' : (intItems zs)[argBest (fun i j => decide (numAt zs i < numAt zs j)) (zs.size - 1)]? = some v := by simpa [intItems] using hv
  obtain ⟨t, rfl⟩ := intItems_at hv'
  obtain ⟨b1, b2⟩ := argBest_lt (numAt zs) (zs.size - 1)
  have e2 : qcY ns = numAt zs (argBest (fun i j => decide (numAt zs i < numAt zs j)) (zs.size - 1)) := by
   refine qcZ ?_ fun n hn => ?_
   ·rw [e1]
    exact List.mem_of_getElem? (yr (by omega))
   ·rw [e1] at hn
    obtain ⟨j, hj⟩ := List.mem_iff_getElem?.mp hn
    have hj2 : j < zs.size := by
     have := (List.getElem?_eq_some_iff.mp hj).1
     simpa using this
    rw [yr hj2] at hj
    cases hj
    exact b2 j (by omega)
  rw [<- e2]
  exact ⟨.int _, H, I.kept hk, ⟨_, rfl⟩, q⟩
end
def DK (X : Cx) (c : Fc) (kws : List Keyword) (f : M (List D)) : Prop := ∃ t, PK X kws t /\ ∀ ρ σ H Q, Rep X.K c ρ σ H -> WpL X.K c σ H Q (f ρ) -> t σ H Q
section
variable {X : Cx} {c : Fc} {a b e : Expr} {pos : Pos}
theorem qiE : DK X c [] (ret []) := ⟨_, qkG, fun _ _ H Q r h => h _ H r rfl .refl⟩
theorem qgh {kws : List Keyword} {nm : Option Str} {kpos : Pos} {f : M D} {g : M (List D)} (ha : DE X c e f) (hr : DK X c kws g) : DK X c (⟨nm, e, kpos⟩ :: kws) (qb f g) := by
 obtain ⟨ta, pa, wa⟩ := ha
 obtain ⟨tr, pr, wr⟩ := hr
 refine ⟨_, qi7 pa pr, fun ρ σ H Q r h => wa ρ σ H _ r (Wp.bndL h fun d ρ1 v H1 r1 i1 g1 h1 => wr ρ1 σ H1 _ r1 (WpL.bndL h1 fun ds ρ2 vs H2 r2 i2 g2 h2 => ?_))⟩
 exact h2 _ H2 r2 ⟨v, vs, rfl, g2.is i1, i2⟩ .refl
def uZ (F : List D -> List D -> Option D) (f g : M (List D)) : M D := bnd f fun xs => bnd g fun zs => lift (F xs zs)
def qgi (K : Fr0) (F : List D -> List D -> Option D) (r : List V -> List V -> Hp -> VK -> Prop) : Prop := ∀ A H xs zs d vs ws (Q : VK), (∀ a, H a = none -> A a) -> IsL K A H xs vs -> IsL K A H zs ws -> F xs zs = some d -> (∀ u H', jK H H' -> Is K A H' d u -> Q u H') -> r vs ws H Q
theorem qco {x : Str} {p : Pos} {es : List Expr} {kws : List Keyword} {id : String} {ks : List Str} {r : List V -> List V -> Hp -> VK -> Prop} {F : List D -> List D -> Option D} {f g : M (List D)} (hc : qdZ X (.builtin id) ks r) (hF : qgi X.K F r) (hg : Gl X x) (hm : X.mg x = none) (hv : bootBuiltins x = some (.builtin id)) (ha : DA X c (e :: es) f) (hkw : DK X c kws g)
  (hall : (backToKw pos (keywordEach kws X.env)).all (·.1.isSome) = true := by rfl) (hks : (backToKw pos (keywordEach kws X.env)).filterMap (·.1) = ks := by rfl) (hn : x ≠ "__name__" := by decide) (hdb : (x == ("__debug__" : Str)) = false := by decide)
  (he : starEach (e :: es) X.env = (false, eval e X.env) :: starEach es X.env := by rfl) (hpl : ((backTo pos (starEach (e :: es) X.env)).any (·.1) || (backToKw pos (keywordEach kws X.env)).any (·.1.isNone)) = false := by rfl) :
  DE X c (.Call (.Name x p) (e :: es) kws pos) (uZ F f g) := by
 obtain ⟨t, pa, wa⟩ := ha
 obtain ⟨tk, pk, wk⟩ := hkw
 refine ⟨_, qga hc hg hm hv pa pk hall hks hn hdb he hpl, fun ρ σ H Q r0 h => wa ρ σ H _ r0 (WpL.bnd h fun xs ρ1 vs H1 r1 i1 g1 h1 => wk ρ1 σ H1 _ r1 (WpL.bnd h1 fun zs ρ2 ws H2 r2 i2 g2 h2 => ?_))⟩
 obtain ⟨d, ed, h3⟩ := h2.lift
 exact hF (Cn c σ) H2 xs zs d vs ws Q (fun a ha => r2.new ha) (g2.isL i1) i2 ed fun u H' sm i => h3 u H' (r2.same sm) i (.of_same sm)
end
def qc4 (xs zs : List D) : Option D := match xs, zs with
 | [.lst ds], [z] => (uX ds).map fun ns => if ns = [] then z else .int (qcJ ns)
 | _, _ => none
def qc5 (xs zs : List D) : Option D := match xs, zs with
 | [.lst ds], [z] => (uX ds).map fun ns => if ns = [] then z else .int (qcY ns)
 | _, _ => none
theorem qeK {K : Fr0} : qgi K qc4 qlD := by
 intro A H xs zs d vs ws Q hn ix iz e k
 unfold qc4 at e
 split at e
 ·rename_i ds z
  obtain ⟨v, rfl, a, ys, rfl, _, ta, il⟩ := IsL.inv1 ix
  obtain ⟨w, rfl, iw⟩ := IsL.inv1 iz
  cases eb : uX ds with
  | none => rw [eb] at e; cases e
  | some ns =>
   rw [eb] at e
   have e' : (if ns = [] then z else D.int (qcJ ns)) = d := Option.some.inj e
   rw [j8 il eb] at ta
   refine ⟨a, ns, w, rfl, rfl, ta, k _ H (jK.refl H) ?_⟩
   rw [<- e']
   by_cases hne : ns = []
   ·rw [if_pos hne, if_pos hne]; exact iw
   ·rw [if_neg hne, if_neg hne]; rfl
 ·cases e
theorem qeL {K : Fr0} : qgi K qc5 qlE := by
 intro A H xs zs d vs ws Q hn ix iz e k
 unfold qc5 at e
 split at e
 ·rename_i ds z
  obtain ⟨v, rfl, a, ys, rfl, _, ta, il⟩ := IsL.inv1 ix
  obtain ⟨w, rfl, iw⟩ := IsL.inv1 iz
  cases eb : uX ds with
  | none => rw [eb] at e; cases e
  | some ns =>
   rw [eb] at e
   have e' : (if ns = [] then z else D.int (qcY ns)) = d := Option.some.inj e
   rw [j8 il eb] at ta
   refine ⟨a, ns, w, rfl, rfl, ta, k _ H (jK.refl H) ?_⟩
   rw [<- e']
   by_cases hne : ns = []
   ·rw [if_pos hne, if_pos hne]; exact iw
   ·rw [if_neg hne, if_neg hne]; rfl
 ·cases e
def slB (x : D) (lo hi : Option Int) : Option D := match x with
 | .tup ds => some (.tup (qmP ds lo hi))
 | .lst ds => some (.lst (qmP ds lo hi))
 | _ => none
def qnz (f : M D) (g k : M (Option Int)) : M D := bnd f fun d => bnd g fun l => bnd k fun u => lift (slB d l u)
section
variable {X : Cx} {c : Fc} {a b e : Expr} {pos p2 : Pos}
def qm0 (x y : D) : Option (List D) := match x, y with
 | .lst ds, .int k => if (decide (-(2 ^ 62) <= k) && decide (k < 2 ^ 62)) && (qI (ds.length * k.toNat) && immL ds) then some (List.replicate k.toNat ds).flatten else none
 | _, _ => none
def qnA (f g : M D) : M (List D) := bnd f fun x => bnd g fun y => lift (qm0 x y)
def qoc (f : M D) : M (List D) := bnd f fun x => lift (match x with
 | .lst ds => if immL ds then some ds else none
 | .tup ds => if immL ds then some ds else none
 | _ => none)
def qgj (i : Nat) (f : M D) : M D := fun ρ => match zQ i ρ with
 | none => .bad
 | some _ => (bnd f fun d ρ => match d, zQ i ρ with
  | .lst es, some ds => if immL es && qI (ds.length + es.length) then .ok (.non, ρ.set i (some (.lst (ds ++ es)))) else .bad
  | _, _ => .bad) ρ
def qnB (f : M (List D)) : M (List D) := fun ρ => match f ρ with
 | .ok ([.tup _], _) => qfT f ρ
 | _ => qax f ρ
end
end L2.Sk
namespace L2.Sk
open PySem PySem.Spec PyProof.Rows
section
variable {ρ : Env} {f g : M D} {l k : M (List D)}
theorem qmh (F : List D -> List D -> Option D) : uZ F l k ρ = match l ρ with | .ok (xs, ρ1) => (match k ρ1 with | .ok (zs, ρ2) => (match F xs zs with | some d => .ok (d, ρ2) | none => .bad) | .exc x ρ' => .exc x ρ' | .bad => .bad) | .exc x ρ' => .exc x ρ' | .bad => .bad := by
 simp only [uZ, bnd]
 cases l ρ with
 | ok z =>
  obtain ⟨z1, ρ1⟩ := z
  dsimp only
  cases k ρ1 with
  | ok z => obtain ⟨z2, ρ2⟩ := z; (dsimp only; cases F z1 z2 <;> rfl)
  | exc x ρ' => rfl
  | bad => rfl
 | exc x ρ' => rfl
 | bad => rfl
theorem qnC : qnA f g ρ = match f ρ with | .ok (x, ρ1) => (match g ρ1 with | .ok (y, ρ2) => (match qm0 x y with | some ds => .ok (ds, ρ2) | none => .bad) | .exc x ρ' => .exc x ρ' | .bad => .bad) | .exc x ρ' => .exc x ρ' | .bad => .bad := by
 simp only [qnA, bnd]
 cases f ρ with
 | ok z =>
  obtain ⟨z1, ρ1⟩ := z
  dsimp only
  cases g ρ1 with
  | ok z => obtain ⟨z2, ρ2⟩ := z; (dsimp only; cases qm0 z1 z2 <;> rfl)
  | exc x ρ' => rfl
  | bad => rfl
 | exc x ρ' => rfl
 | bad => rfl
theorem qlF (i : Nat) : qgj i f ρ = match zQ i ρ with
  | none => .bad
  | some _ => (match f ρ with | .ok (d, ρ1) => (match d, zQ i ρ1 with | .lst es, some ds => (if immL es && qI (ds.length + es.length) then .ok (.non, ρ1.set i (some (.lst (ds ++ es)))) else .bad) | _, _ => .bad) | .exc x ρ' => .exc x ρ' | .bad => .bad) := by
 unfold qgj
 cases zQ i ρ with
 | none => rfl
 | some z =>
  simp only [bnd]
  cases f ρ with
  | ok z => obtain ⟨z1, ρ1⟩ := z; rfl
  | exc x ρ' => rfl
  | bad => rfl
theorem qnD (p q : M (Option Int)) : qnz f p q ρ = match f ρ with | .ok (d, ρ1) => (match p ρ1 with | .ok (l, ρ2) => (match q ρ2 with | .ok (u, ρ3) => (match slB d l u with | some r => .ok (r, ρ3) | none => .bad) | .exc x ρ' => .exc x ρ' | .bad => .bad) | .exc x ρ' => .exc x ρ' | .bad => .bad) | .exc x ρ' => .exc x ρ' | .bad => .bad := by
 simp only [qnz, bnd]
 cases f ρ with
 | ok z =>
  obtain ⟨z1, ρ1⟩ := z
  dsimp only
  cases p ρ1 with
  | ok z =>
   obtain ⟨z2, ρ2⟩ := z
   dsimp only
   cases q ρ2 with
   | ok z => obtain ⟨z3, ρ3⟩ := z; (dsimp only; cases slB z1 z2 z3 <;> rfl)
   | exc x ρ' => rfl
   | bad => rfl
  | exc x ρ' => rfl
  | bad => rfl
 | exc x ρ' => rfl
 | bad => rfl
end
end L2.Sk
namespace L2.Sk
open PySem PySem.Spec PyProof.Rows
section
variable {X : Cx} {c : Fc} {e : Expr} {es : List Expr} {pos : Pos}
theorem dC {k j : Nat} {ps : List Str} {F : List D -> R D} {x : Str} {p : Pos} {g : M (List D)} (C : zU X.prog X.w X.K X.mg X.base k x ps (spD X.K F)) (hr : uS j X.A) (ha : DA X c (e :: es) g)
  (hk : k <= j := by decide) (hg : Gl X x := by rfl) (hd : (x == ("__debug__" : Str)) = false := by decide) (he : starEach (e :: es) X.env = (false, eval e X.env) :: starEach es X.env := by rfl) (hpl : (backTo pos (starEach es X.env)).any (·.1) = false := by rfl) : DE X c (.Call (.Name x p) (e :: es) [] pos) (qj F g) := by
 obtain ⟨f, fd, G, m, kk, b⟩ := C.ex
 exact qjs G (hr.mono hk) hg m kk b ha hd he hpl
theorem nC {k j : Nat} {ps : List Str} {F : List D -> R D} {x : Str} {p : Pos} {g : M (List D)} (C : zU X.prog X.w X.K X.mg X.base k x ps (spD X.K F)) (hr : uS j X.A) (ha : DA X c (e :: es) g)
  (hk : k <= j := by decide) (hg : Gl X x := by rfl) (hd : (x == ("__debug__" : Str)) = false := by decide) (he : starEach (e :: es) X.env = (false, eval e X.env) :: starEach es X.env := by rfl) (hpl : (backTo pos (starEach es X.env)).any (·.1) = false := by rfl) : DN X c (.Call (.Name x p) (e :: es) [] pos) (qeq F g) := by
 obtain ⟨f, fd, G, m, kk, b⟩ := C.ex
 exact qjy G (hr.mono hk) hg m kk b ha hd he hpl
theorem iC {k j i : Nat} {ps : List Str} {F : List D -> List D -> R (D × List D)} {x y : Str} {p p1 : Pos} {g : M (List D)} (C : zU X.prog X.w X.K X.mg X.base k x ps (qih X.K F)) (hr : uS j X.A) (ha : DA X c es g)
  (hk : k <= j := by decide) (hg : Gl X x := by rfl) (ho : i ∈ c.O := by exact of_decide_eq_true rfl) (hN : X.N[i]? = some y := by rfl) (hv : Vis X.env.scope y := by first | exact Or.inl rfl | exact Or.inr (Or.inl rfl) | exact Or.inr (Or.inr rfl)) (hdy : (y == ("__debug__" : Str)) = false := by decide) (hcd : (y == ("__classdict__" : Str)) = false := by decide)
  (hd : (x == ("__debug__" : Str)) = false := by decide) (he : starEach (.Name y p1 :: es) X.env = (false, eval (.Name y p1) X.env) :: starEach es X.env := by rfl) (hpl : (backTo pos (starEach es X.env)).any (·.1) = false := by rfl) : DE X c (.Call (.Name x p) (.Name y p1 :: es) [] pos) (qB F i g) := by
 obtain ⟨f, fd, G, m, kk, b⟩ := C.ex
 exact qfA G (hr.mono hk) hg m kk b ha ho hN hv hdy hcd hd he hpl
theorem xC {k j : Nat} {ps : List Str} {F : List D -> R D} {x : Str} {p : Pos} {g : M (List D)} {E : XK} {cl : Str -> Option Addr} {RN : List Str} (L : XL2 X c cl E) (hcl : ∀ n, RN.contains n = true -> (cl n).isSome = true) (C : z4 X.prog X.w X.K X.mg X.base k x ps (spX X.K cl F)) (hr : uS j X.A) (ha : DA X c (e :: es) g)
  (hk : k <= j := by decide) (hg : Gl X x := by rfl) (hd : (x == ("__debug__" : Str)) = false := by decide) (he : starEach (e :: es) X.env = (false, eval e X.env) :: starEach es X.env := by rfl) (hpl : (backTo pos (starEach es X.env)).any (·.1) = false := by rfl) : DE X c (.Call (.Name x p) (e :: es) [] pos) (zm RN F g) := by
 obtain ⟨f, fd, G, m, kk, b⟩ := C.ex
 exact qhr L hcl G (hr.mono hk) hg m kk b ha hd he hpl
theorem lC {k j : Nat} {ps : List Str} {F : List D -> R D} {x : Str} {p : Pos} {g : M (List D)} (hal : ∀ ρ σ H, Rep X.K c ρ σ H -> AloneA X.A H) (C : qc1 X.prog X.w X.K X.mg X.base k x ps (spD X.K F)) (hr : uj j X.A) (ha : DA X c (e :: es) g)
  (hk : k <= j := by decide) (hg : Gl X x := by rfl) (hd : (x == ("__debug__" : Str)) = false := by decide) (he : starEach (e :: es) X.env = (false, eval e X.env) :: starEach es X.env := by rfl) (hpl : (backTo pos (starEach es X.env)).any (·.1) = false := by rfl) : DE X c (.Call (.Name x p) (e :: es) [] pos) (qj F g) := by
 obtain ⟨f, fd, G, m, kk, b⟩ := C.ex
 exact qhF hal G (hr.mono hk) hg m kk b ha hd he hpl
theorem gI {x : Str} {i : Int} (h : ∃ t, X.mg x = some (.int i t)) (hg : Gl X x := by rfl) (hd : (x == ("__debug__" : Str)) = false := by decide) : DE X c (.Name x pos) (ret (.int i)) := by
 obtain ⟨t, h⟩ := h
 exact qfj (v := .int i) (d := .int i) hg h ⟨_, rfl⟩ (fun _ _ => rfl) hd
theorem gT {x : Str} {ns : List Int} (h : ∃ a, X.mg x = some (.ref a) /\ qmf X.K a ns) (hg : Gl X x := by rfl) (hd : (x == ("__debug__" : Str)) = false := by decide) : DE X c (.Name x pos) (ret (.tup (ns.map .int))) := by
 obtain ⟨a, h1, h2⟩ := h
 exact qho hg h1 h2 hd
end
theorem nd (N : List Str) (h : N.Nodup := by decide +kernel) : N.Nodup := h
theorem cs {X : Cx} (N N' : List Str) (nt : Nat) (fr : List Nat) (outer : Scope) {scope : Scope} (h0 : scope.kind = .function := by rfl) (h1 : ∀ y ∈ scope.names, y.2 ≠ .cell := by decide +kernel) (h2 : ∀ y ∈ scope.names, y.2 = .local -> scope.names.lookup y.1 = some .local := by decide +kernel)
  (h3 : ∀ y ∈ scope.names, y.2 = .free -> outer.names.lookup y.1 = some .cell := by decide +kernel) (h4 : N'.length = nt + fr.length := by rfl) (h5 : ∀ p ∈ fr.zipIdx, N'[nt + p.2]? = N[p.1]? /\ ((N[p.1]?).bind fun x => scope.names.lookup x) = some .free := by decide +kernel)
  (h6 : X.env.scope = outer := by rfl) (h7 : X.N = N := by rfl) : jN X scope N' nt fr := qjz.ok (outer := outer) (N := N) ⟨h0, h1, h2, h3, h4, h5⟩ h6 h7
theorem f0 {c : Fc} {nt : Nat} (fr O : List Nat) (e : c.O = O := by rfl) (h : ∀ j ∈ fr, j ∉ O := by decide) : qhf c nt fr none := fun j hj => by rw [e]; exact h j hj
theorem f1 {c : Fc} (nt : Nat) (fr O : List Nat) (i j : Nat) (e : c.O = O := by rfl) (h1 : j ∈ O := by decide) (h2 : nt <= i := by decide) (h3 : fr[i - nt]? = some j := by rfl) (h4 : ∀ p ∈ fr.zipIdx, nt + p.2 ≠ i -> p.1 ∉ O := by decide) : qhf c nt fr (some (i, j)) :=
 qjB (by rw [e]; exact h1) h2 h3 (by rw [e]; exact h4)
end L2.Sk
namespace L2.Sk
open PySem PySem.Spec PyProof.Rows
section
variable {X : Cx} {c : Fc}
end
end L2.Sk
namespace L2.Sk
open PySem PySem.Spec PyProof.Rows
end L2.Sk
namespace L2.Sk
open PySem PySem.Spec PyProof.Rows
def qhG : V -> List V -> Hp -> VK -> Prop := fun x vs H Q => ∃ l xs y, x = .ref l /\ vs = [.int 0, y] /\ H l = some (.lst xs) /\ xs.length < sizeLine /\ Q .non (upd H l (.lst (y :: xs)))
theorem qeM {X : Cx} : MtM X "list.insert" qhG := by
 intro pins s σ H x vs v us Q I rx rv h
 obtain ⟨l, xs, y, rfl, rfl, hH, hz, q⟩ := h
 cases rx
 obtain ⟨u0, u, rfl, r0, ru⟩ := rv.two
 obtain ⟨tk, rfl⟩ := r0
 obtain ⟨z, its, n, r, hl, e⟩ := I.lstM hH
 refine call_meets PySem.F.slot_list_insert ⟨_, e, rfl⟩ PySem.F.entry_list_insert (PySem.F.args_list_insert_3 _ _ _) (PySem.AutoSeq1.list_insert_list_int_val_1 l its.toArray n 0 _ u (by decide) (by rw [List.size_toArray]; omega)) ⟨e, ?_⟩
 refine ⟨.non, _, I.lset (its' := u :: its) (ys := y :: xs) hH e ?_ (.cons ru r) ?_, rfl, q⟩
 ·simp
 ·rw [List.length_cons]
  omega
section
variable {X : Cx} {c : Fc} {a b e : Expr} {pos : Pos}
def u3 (i : Nat) (f : M D) : M D := fun ρ => match zQ i ρ with
 | none => .bad
 | some _ => (bnd f fun d ρ => match zQ i ρ with
  | some ds => if qI (ds.length + 1) then .ok (.non, ρ.set i (some (.lst (d :: ds)))) else .bad
  | none => .bad) ρ
theorem qgk {i : Nat} {x : Str} {p1 apos cp : Pos} {cj : Nat} {f : M D} (he : DE X c e f) (ho : i ∈ c.O := by exact of_decide_eq_true rfl) (hN : X.N[i]? = some x := by rfl) (hv : Vis X.env.scope x := by first | exact Or.inl rfl | exact Or.inr (Or.inl rfl) | exact Or.inr (Or.inr rfl)) (hd : (x == ("__debug__" : Str)) = false := by decide) (hcd : (x == ("__classdict__" : Str)) = false := by decide)
  (hbase : attributeBase (.Name x p1) "insert" X.env (eval (.Name x p1) X.env) = eval (.Name x p1) X.env := by rfl)
  (hfew : ((backTo pos (starEach [.Constant (.int 0) cj cp, e] X.env)).all (fun x => !x.1) && (backToKw pos (keywordEach [] X.env)).all (fun x => x.1.isSome)
   && decide ([Expr.Constant (.int 0) cj cp, e].length + ([] : List Keyword).length + (if ([] : List Keyword).isEmpty then 0 else 1) < 30)) = true := by rfl)
  (hline : (apos.endLine == pos.line) = true := by rfl) (hs : starEach [.Constant (.int 0) cj cp, e] X.env = (false, eval (.Constant (.int 0) cj cp) X.env) :: starEach [e] X.env := by rfl) (hs2 : starEach [e] X.env = (false, eval e X.env) :: starEach [] X.env := by rfl) (hplain : (backTo pos (starEach [e] X.env)).any (·.1) = false := by rfl) :
  DE X c (.Call (.Attribute (.Name x p1) "insert" apos) [.Constant (.int 0) cj cp, e] [] pos) (u3 i f) := by
 obtain ⟨t, p, w⟩ := he
 refine ⟨_, qkM PySem.F.plainAttrs_list PySem.F.slot_list_insert PySem.F.type_list_insert qeM (vL hN hv hd hcd) (j7 qh8 (j7 p wM hs2) hs) hbase hfew hline hs hplain, fun ρ σ H Q r h => ?_⟩
 unfold u3 at h
 cases e0 : zQ i ρ with
 | none => rw [e0] at h; exact h.elim
 | some ds0 =>
  simp only [e0] at h
  obtain ⟨l, xs0, _, hl, hH, _⟩ := r.getLO ho e0
  refine ⟨.ref l, hl, .inl ⟨rfl, xs0, .inl (.inl hH)⟩, w ρ σ H _ r (Wp.bnd h fun d ρ1 v H1 r1 i1 g1 h1 => ?_)⟩
  cases e1 : zQ i ρ1 with
  | none => simp only [e1] at h1; exact h1.elim
  | some ds =>
   simp only [e1] at h1
   by_cases hb : qI (ds.length + 1) = true
   ·rw [if_pos hb] at h1
    obtain ⟨l', xs, him, hl', hH', il⟩ := r1.getLO ho e1
    rw [hl] at hl'
    cases hl'
    have hsz : ds.length + 1 <= sizeLine := of_decide_eq_true hb
    have ext : Ext (Cn c σ) H1 (upd H1 l (.lst (v :: xs))) := ⟨fun b us hb => zR (vm hb hH' (by intro z; cases z)) hb, fun b o u hb => zR (vm hb hH' (by intro z; cases z)) hb, fun b o hb hq => zR (fun e => hb.2 i ho (by rw [hl, e])) hq⟩
    obtain ⟨r2, g2⟩ := r1.io (H' := upd H1 l (.lst (v :: xs))) (bs := d :: ds) ho hl (fun b o hb ho => zR hb ho) qv trivial
     ⟨v, xs, rfl, Is.ext ext (fun _ h _ => h) i1, IsL.ext ext (fun _ h _ => h) il⟩ (fun b hb => qcU hb)
    exact ⟨l, xs, v, rfl, rfl, hH', by rw [il.length]; omega, h1 _ _ r2 rfl g2⟩
   ·rw [if_neg hb] at h1; exact h1.elim
def qhH (f : M (List D)) : M (List D) := bnd f fun ds => lift (if qI ds.length then some ds else none)
theorem qjT {es : List Expr} {f : M (List D)} (h : DA X c es f) : DN X c (.List es pos) (qhH f) := by
 obtain ⟨t, p, w⟩ := h
 refine ⟨_, qfb p, fun ρ σ H Q r h => w ρ σ H _ r (WpL.bndN h fun ds ρ1 vs H1 r1 i1 g1 h1 => ?_)⟩
 by_cases hb : qI ds.length = true
 ·rw [if_pos hb] at h1
  refine ⟨by rw [i1.length]; exact of_decide_eq_true hb, fun p hp => ?_⟩
  exact h1 p vs _ hp (r1.laid hp _) (r1.apart hp) qv trivial (IsL.ext (Ext.of_same (qz hp _)) (fun b h hs => ⟨h, fun e => by rw [e, hp] at hs; cases hs⟩) i1) (.of_same (qz hp _))
 ·rw [if_neg hb] at h1; exact h1.elim
end
end L2.Sk
namespace L2.Sk
open PySem PySem.Spec PyProof.Rows
theorem qbz : Slot "reversed" "__init__" "object.__init__" :=
 .of (owner := "object") (n := "__init__") (by rw [typeLookup_type, builtinLookup_eq_fast]; kernel_rfl) (by decide +kernel) (by decide +kernel) (by decide +kernel) (by first | exact Or.inl (by kernel_rfl) | exact Or.inr (by kernel_rfl)) (by rw [isSubtype_type]; kernel_rfl)
theorem qeN : TypeCalled "reversed" "reversed.__new__" "object.__init__" := ⟨by decide +kernel, F.create_reversed, ⟨_, _, F.mro_reversed⟩, F.made_reversed, F.plain_reversed_new, F.sub_reversed_self, qbz⟩
theorem jQ : Slot "reversed" "__next__" "reversed.__next__" :=
 .of (owner := "reversed") (n := "__next__") (by rw [typeLookup_type, builtinLookup_eq_fast]; kernel_rfl) (by decide +kernel) (by decide +kernel) (by decide +kernel) (by first | exact Or.inl (by kernel_rfl) | exact Or.inr (by kernel_rfl)) (by rw [isSubtype_type]; kernel_rfl)
theorem vx : entryFor table "reversed.__next__" = some Builtin.«reversed.__next__» := entryFor_of_tree (by kernel_rfl)
theorem qiF : typeLookup (.type "tuple") (Str.ofString "__reversed__") = pure none := by rw [typeLookup_type, builtinLookup_eq_fast]; kernel_rfl
theorem qbA : typeLookup (.type "tuple") (Str.ofString "__getitem__") = pure (some (.builtin "tuple.__getitem__")) := by rw [typeLookup_type, builtinLookup_eq_fast]; kernel_rfl
theorem qd0 : isSubtype (.type "tuple") (.type "dict") = pure false := by rw [isSubtype_type]; kernel_rfl
theorem qgl {l : Addr} {xs : Array Value} (hz : xs.size <= sizeLine) : Meets (Builtin.«reversed.__new__» ⟨[.type "reversed", .ref l], []⟩) (fun _ R s => s.heap.IsTuple l xs /\
   R (.ok (.ret (.ref s.heap.objs.size))) { s with heap := s.heap.push { cls := .type "reversed", data := .fields #[.ref l, rawInt ((xs.size : Int) - 1)] }, toks := s.toks + 1 + 1 }) :=
 .of_wp fun prog w A R s h => by
  obtain ⟨hp, g, d, tk, os⟩ := s
  obtain ⟨ha, h⟩ := h
  have hsub := F.sub_reversed_self
  have f1 := qiF
  have f2 := qbA
  have f3 := qd0
  have hA : Heap.IsTuple (Shared.heap ⟨hp, g, d, tk, os⟩) l xs := ha
  obtain ⟨o, e1, hc, m, hd⟩ := ha
  unfold Builtin.«reversed.__new__»
  refine wpAny_bind ?_
  wp_walk
  rw [hc]
  refine wpAny_of_eq (a := none) qiF ?_
  dsimp only
  refine wpAny_bind ?_
  show wpAny (model prog w) A.in1 (isInstance (Value.ref l) (Value.type "dict") >>= _) _ _ _
  refine wpAny_bind (wpAny_isInstance (T := "tuple") (b := false) ⟨o, e1, hc⟩ qd0 ?_)
  show wpAny (model prog w) A.in1 (specialOf (Value.ref l) (Str.ofString "__getitem__") >>= _) _ _ _
  refine wpAny_bind ?_
  wp_walk
  rw [hc]
  refine wpAny_of_eq (a := some (.builtin "tuple.__getitem__")) qbA ?_
  dsimp only
  rw [if_pos (by decide +kernel)]
  refine wpAny_pure ?_
  rw [if_neg (by decide)]
  have hfit : (xs.size : Int) < 2 ^ 63 := by have := qac; omega
  refine wpAny_bind (len_tuple hA hfit ?_)
  wp_walk
  exact ⟨_, rfl, h⟩
def qod (l : Addr) (i : Int) : Obj := { cls := .type "reversed", data := .fields #[.ref l, rawInt i] }
def qaS (h : Heap) (z l : Addr) (i : Int) : Prop := h.get? z = some (qod l i)
section
variable {prog : Program} {w : World} {A : Around} {E : Value -> Shared -> Prop} {s : Shared}
theorem qhI {l : Addr} {xs : Array Value} {Q : Value -> Shared -> Prop} (t1 : s.heap.IsTuple l xs) (hz : xs.size <= sizeLine)
  (fin : ∀ h', qaS h' s.heap.objs.size l ((xs.size : Int) - 1) -> (∀ c o, s.heap.get? c = some o -> h'.get? c = some o) -> Q (.ref s.heap.objs.size) { s with heap := h', toks := s.toks + 1 + 1 }) :
  wpAny (model prog w) A (call (.type "reversed") [.ref l]) Q E s := by
 refine callType_new qeN (by decide) (F.typeCall_reversed_1 _) (F.newCall_reversed_1 _) (fun obj => F.args_object_init_2 obj _) F.entry_reversed_new (qgl hz) ⟨t1, ?_⟩
 exact ⟨⟨_, Heap.get?_push_size _ rfl, rfl⟩, fin _ (Heap.get?_push_size _ rfl) fun c o x => Heap.get?_push_of_some _ x⟩
theorem vV (a : Value) : argsOk "reversed.__next__" ⟨[a], []⟩ := by
 unfold argsOk; kernel_rfl
theorem qlG {z l : Addr} {xs : Array Value} {i : Nat} {x : Value} {Q : Value -> Shared -> Prop} (zz : qaS s.heap z l (i : Int)) (t1 : s.heap.IsTuple l xs) (hx : xs[i]? = some x) (hz : xs.size <= sizeLine)
  (fin : ∀ h' tk, qaS h' z l ((i : Int) - 1) -> Heap.SameBut z s.heap h' -> Q x { s with heap := h', toks := tk }) :
  wpAny (model prog w) A (Builtin.«reversed.__next__» ⟨[.ref z], []⟩) (fun r s' => ∃ v, r = .done (.ret v) /\ Q v s') E s := by
 have hT : s.TypeIs (.ref l) "tuple" := by obtain ⟨o, e, hc, _⟩ := t1; exact ⟨o, e, hc⟩
 unfold Builtin.«reversed.__next__»
 refine wpAny_bind (wpAny_of_eq (a := (Value.ref z, [])) rfl ?_)
 dsimp only
 refine wpAny_bind (wpAny_field zz rfl (x := Value.ref l) rfl ?_)
 refine wpAny_bind (wpAny_field zz rfl (x := rawInt (i : Int)) rfl ?_)
 show wpAny (model prog w) A (if ((i : Nat) : Int) < 0 then _ else _) _ _ s
 rw [if_neg (by omega)]
 refine wpAny_bind (wpAny_specialOf hT qbA ?_)
 show wpAny (model prog w) A (if (false : Bool) = true then _ else _) _ _ s
 rw [if_neg (by decide)]
 refine wpAny_bind (wpAny_mkInt ?_)
 have hi : i < xs.size := (Array.getElem?_eq_some_iff.mp hx).1
 have hl63 := qac
 have hsq : seqIndex? (i : Int) xs.size = some i := by
  unfold seqIndex?
  simp only []
  first
   | (rw [if_neg (by omega)]; simp; omega)
   | (simp; omega)
   | (split <;> simp_all <;> omega)
 refine wpAny_bind (wpAny_attempt (PyProof.Rows.getItem_tuple (j := i) t1 (by omega) (by omega) hsq hx ?_))
 dsimp only
 refine wpAny_bind (wpAny_field zz rfl (x := rawInt (i : Int)) rfl ?_)
 refine wpAny_bind (wpAny_setField_rec zz (by simp) fun h' zz' b' => ?_)
 exact wpAny_pure ⟨x, rfl, fin h' _ zz' b'⟩
theorem qhJ (hh : A.handled = none) {z l : Addr} {Q : Fin -> Shared -> Prop} (zz : qaS s.heap z l (-1))
  (fin : ∀ h' e, Heap.ExtBut z s.heap h' -> (∃ o, h'.get? e = some o /\ o.cls = .type "StopIteration") -> E (.ref e) { s with heap := h' }) :
  wpAny (model prog w) A (Builtin.«reversed.__next__» ⟨[.ref z], []⟩) Q E s := by
 unfold Builtin.«reversed.__next__»
 refine wpAny_bind (wpAny_of_eq (a := (Value.ref z, [])) rfl ?_)
 dsimp only
 refine wpAny_bind (wpAny_field zz rfl (x := Value.ref l) rfl ?_)
 refine wpAny_bind (wpAny_field zz rfl (x := rawInt (-1)) rfl ?_)
 show wpAny (model prog w) A (if (-1 : Int) < 0 then _ else _) _ _ s
 rw [if_pos (by decide)]
 refine wpAny_bind (wpAny_rule (wpAny_bind ?_))
 show wpAny (model prog w) A (setField (Value.ref z) 1 (rawInt (-1)) >>= fun _ => setField (Value.ref z) 0 Value.none) _ _ _
 refine wpAny_bind (wpAny_setField_rec zz (by simp) fun h1 zz1 b1 => wpAny_setField_rec zz1 (by simp) fun h2 zz2 b2 => ?_)
 refine wpAny_bind ?_
 show wpAny (model prog w) _ (newExc (Value.type "StopIteration") [] >>= _) _ _ _
 refine wpAny_bind ?_
 simp only [newExc, newTuple]
 refine wpAny_bind (wpAny_newObj_type ?_ (by size_fits))
 refine wpAny_bind (m := firstArgMember _ _) (wpAny_of_eq (a := Value.none) (by first | rfl | (simp only [firstArgMember]; rfl)) ?_)
 refine wpAny_newObj_type ?_ (by size_fits)
 simp only [raiseNew]
 refine wpAny_bind (wpAny_handled ?_)
 rw [hh]
 exact wpAny_bind (wpAny_pure (wpAny_throw (fin _ _ (fun b o hb e => Heap.get?_push_of_some _ (Heap.get?_push_of_some _ (b2.extBut b o hb (b1.extBut b o hb e)))) ⟨_, Heap.get?_push_size _ rfl, rfl⟩)))
end
theorem vW : Slot "reversed" "__iter__" "reversed.__iter__" :=
 .of (owner := "reversed") (n := "__iter__") (by rw [typeLookup_type, builtinLookup_eq_fast]; kernel_rfl) (by decide +kernel) (by decide +kernel) (by decide +kernel) (by first | exact Or.inl (by kernel_rfl) | exact Or.inr (by kernel_rfl)) (by rw [isSubtype_type]; kernel_rfl)
theorem qbB (a : Value) : argsOk "reversed.__iter__" ⟨[a], []⟩ := by
 unfold argsOk; kernel_rfl
theorem qaT : entryFor table "reversed.__iter__" = some Builtin.«dict_keyiterator.__iter__» := by
 refine entryFor_alias (id' := "dict_keyiterator.__iter__") ?_ ?_ ?_ ?_
 ·kernel_rfl
 ·first | rfl | decide +kernel
 ·decide +kernel
 ·kernel_rfl
theorem qd1 {prog : Program} {w : World} {A : Around} {E : Value -> Shared -> Prop} {s : Shared} {z l : Addr} {i : Int} {Q : Value -> Shared -> Prop} (zz : qaS s.heap z l i) (h : Q (.ref z) s) : wpAny (model prog w) A (pyIter (.ref z)) Q E s := by
 have hT : s.TypeIs (.ref z) "reversed" := ⟨_, zz, rfl⟩
 refine wpAny_pyIter_slot hT vW (wpAny_call_entry vW hT qaT ?_ (qbB _))
 show wpAny _ _ (PySem.ret (Value.ref z)) _ _ s
 exact wpAny_pure ⟨_, rfl, "reversed", _, hT, jQ.lookup, h⟩
def Itv (K : Fr0) (a : Addr) (xs : List V) : It :=
 ⟨fun i H => i < xs.length /\ SqT K H a xs, fun i H x H' => H' = H /\ xs.reverse[i]? = some x, fun i H => i = xs.length /\ SqT K H a xs⟩
theorem qhK {P : Program} {w : World} {K : Fr0} {tg : Expr} {z a : Addr} {xs : List V} (hne : a ≠ z) : qi0 P w K tg (Itv K a xs) [z] z (fun i h => qaS h z a ((xs.length : Int) - 1 - (i : Nat))) where
 mem := by simp
 obj := fun i h st b hb => by
  have e : b = z := by simpa using hb
  subst e
  exact ⟨_, st, fun v e => by cases (show Data.fields _ = Data.cell v from e)⟩
 keep := fun i h h' st k => k z (by simp) _ st
 item := by
  intro X hP hw hK hc i pins s σ H E I hf st hg
  subst hP hw hK
  obtain ⟨hlt, hx⟩ := hg
  obtain ⟨f0, f1, f2, f3, f4, f5⟩ := hf z (by simp)
  obtain ⟨its, r1, p1, z1⟩ := I.tuple hx
  have hlen := r1.length
  have ei : ((xs.length : Int) - 1 - (i : Nat)) = ((xs.length - 1 - i : Nat) : Int) := by omega
  have st' : qaS s.heap z a ((xs.length - 1 - i : Nat) : Int) := by rw [<- ei]; exact st
  obtain ⟨xv, hxv⟩ : ∃ v, xs[xs.length - 1 - i]? = some v := ⟨xs[xs.length - 1 - i]'(by omega), List.getElem?_eq_getElem (by omega)⟩
  obtain ⟨x', ex, rx⟩ := r1.get hxv
  have hT : s.TypeIs (.ref z) "reversed" := ⟨_, st, rfl⟩
  unfold pyNext
  refine wpAny_bind (wpAny_attempt (wpAny_callSpecial?_slot (name := Str.ofString "__next__") hT jQ (wpAny_call_entry jQ hT vx
   (qlG st' p1 (x := x') (by rw [List.getElem?_toArray]; exact ex) (by rw [List.size_toArray, <- hlen]; exact z1) fun h' tk zz' sb => wpAny_pure ?_) (vV _))))
  have I1 : Inv X pins σ H { s with heap := h', toks := tk } := I.turned (fun b o hb e => sb.extBut b o hb e) f0 f1 f3 f4 f5
  have st2 : qaS h' z a ((xs.length : Int) - 1 - ((i + 1 : Nat) : Int)) := by
   have e2 : ((xs.length - 1 - i : Nat) : Int) - 1 = (xs.length : Int) - 1 - ((i + 1 : Nat) : Int) := by omega
   rw [<- e2]; exact zz'
  refine ⟨x', rfl, qeZ (s := { s with heap := h', toks := tk }) (n := "reversed") st2 rfl rfl (by decide) ⟨xv, H, I1, rx, ⟨rfl, ?_⟩, st2, fun b hb => (hf b hb).1⟩⟩
  rw [List.getElem?_reverse hlt]
  exact hxv
 done := by
  intro X hP hw hK hc i pins s σ H E I hf st hg
  subst hP hw hK
  obtain ⟨hlt, hx⟩ := hg
  obtain ⟨f0, f1, f2, f3, f4, f5⟩ := hf z (by simp)
  have ei : ((xs.length : Int) - 1 - (i : Nat)) = -1 := by omega
  have st' : qaS s.heap z a (-1) := by rw [<- ei]; exact st
  have hT : s.TypeIs (.ref z) "reversed" := ⟨_, st, rfl⟩
  have hh : X.A.in1.handled = none := I.ok.hd hc
  unfold pyNext
  refine wpAny_bind (wpAny_attempt (wpAny_callSpecial?_slot (name := Str.ofString "__next__") hT jQ (wpAny_call_entry jQ hT vx
   (qhJ hh st' fun h' e kp he => ?_) (vV _))))
  obtain ⟨o, ho, hcl⟩ := he
  exact wpAny_bind (wpAny_isInstance (T := "StopIteration") (b := true) ⟨o, ho, hcl⟩ isSubtype_stop (wpAny_pure ⟨rfl, I.turned (t' := s.toks) (fun b o hb e => kp b o hb e) f0 f1 f3 f4 f5⟩))
 self := fun A i s Q E st h => qd1 st h
section
variable {X : Cx} {c : Fc} {a e : Expr} {pos : Pos} {tg : Expr}
def qoe (K : Fr0) (ta : TA) : TI := fun σ H R => ta σ H fun vs H1 => ∃ b xs, vs = [.ref b] /\ SqT K H1 b xs /\ R (Itv K b xs) H1
theorem qlH {ta : TA} {p : Pos} (hg : Gl X "reversed") (hm : X.mg "reversed" = none) (ha : PA X [a] ta) (hs : starEach [a] X.env = [(false, eval a X.env)] := by rfl) :
  PI X tg (.Call (.Name "reversed" p) [a] [] pos) (qoe X.K ta) := by
 intro pins s σ H R I h
 refine Call_ (vo I hg hm PyProof.Rows.boot_reversed (PyProof.Rows.callWith_type1 (thn (ha pos pins s σ H _ I h) fun us s1 ⟨vs, H1, I1, r1, q1⟩ => ?_) hs rfl))
 obtain ⟨b, xs, e1, hx, q⟩ := q1
 subst e1
 obtain ⟨u1, rfl, ru1⟩ := zh.one r1
 cases (show u1 = Value.ref b from ru1)
 obtain ⟨its, v1, p1, z1⟩ := I1.tuple hx
 have hlen := v1.length
 refine qhI (show s1.heap.IsTuple b its.toArray from p1) (by rw [List.size_toArray, <- hlen]; exact z1) fun h' zz kp => ?_
 refine qd1 zz ?_
 have lb : b < s1.heap.objs.size := by obtain ⟨o, e, _⟩ := p1; exact Heap.lt_size e
 have zz' : qaS h' s1.heap.objs.size b ((xs.length : Int) - 1 - ((0 : Nat) : Int)) := by
  have e : ((its.toArray.size : Nat) : Int) - 1 = (xs.length : Int) - 1 - ((0 : Nat) : Int) := by rw [List.size_toArray, hlen]; omega
  rw [<- e]; exact zz
 refine ⟨s1.heap.objs.size, [s1.heap.objs.size], _, _, H1, rfl, I1.kept (t' := s1.toks + 1 + 1) kp, qhK (xs := xs) (Nat.ne_of_lt lb), zz', fun d hd => ?_, q⟩
 have e : d = s1.heap.objs.size := by simpa using hd
 subst e
 exact I1.fpOk (Nat.le_refl _) (I1.hok.fresh (Nat.le_refl _))
theorem qlI {K : Fr0} {A : Addr -> Prop} {H : Hp} {ds : List D} {xs : List V} {b : Addr} (t1 : vE K H b xs) (i1 : IsL K A H ds xs) : qft K A H ds.reverse (Itv K b xs) where
 go := fun H' i d ex hd => by
  have hl : i < ds.reverse.length := (List.getElem?_eq_some_iff.mp hd).1
  rw [List.length_reverse, <- i1.length] at hl
  exact ⟨hl, (t1.elim (fun h => .inl (ex.tup _ _ h)) .inr : vE K H' b xs).sq⟩
 yl := fun H' i d x H'' ex hd y => by
  obtain ⟨rfl, hy⟩ := y
  have hl : i < ds.length := by
   have := (List.getElem?_eq_some_iff.mp hd).1
   rwa [List.length_reverse] at this
  rw [List.getElem?_reverse hl] at hd
  rw [List.getElem?_reverse (by rw [i1.length]; exact hl), i1.length] at hy
  obtain ⟨x', g1, g2⟩ := i1.get hd
  rw [hy] at g1
  cases g1
  exact ⟨fun _ _ h => h, Is.ext ex (fun _ h _ => h) g2⟩
 stop := fun H' ex => ⟨by rw [List.length_reverse, i1.length], (t1.elim (fun h => .inl (ex.tup _ _ h)) .inr : vE K H' b xs).sq⟩
def qmi : List D -> Option (List D)
 | [.tup xs] => some xs.reverse
 | _ => none
def qlJ (f : M (List D)) : M (List D) := bnd f fun ds => lift (qmi ds)
theorem qlK {f : M (List D)} {p : Pos} (hg : Gl X "reversed") (hm : X.mg "reversed" = none) (ha : DA X c [a] f) (hs : starEach [a] X.env = [(false, eval a X.env)] := by rfl) :
  DI X c tg (.Call (.Name "reversed" p) [a] [] pos) (qlJ f) := by
 obtain ⟨t, pa, w⟩ := ha
 refine ⟨_, qlH hg hm pa hs, fun ρ σ H Q r h => w ρ σ H _ r (WpL.bndI h fun ds ρ1 vs H1 r1 i1 g1 h1 => ?_)⟩
 obtain ⟨es', e, h2⟩ := uz h1
 unfold qmi at e
 split at e
 ·obtain ⟨v, rfl, j1⟩ := IsL.inv1 i1
  cases e
  obtain ⟨a1, xs, rfl, t1, il1⟩ := Is.tr j1
  exact ⟨a1, xs, rfl, t1.sq, h2 _ H1 r1 (qlI t1 il1) .refl⟩
 ·cases e
theorem qlL {l : M (List D)} {ρ : Env} : qlJ l ρ = match l ρ with | .ok (d, ρ1) => (match qmi d with | some ds => .ok (ds, ρ1) | none => .bad) | .exc x ρ' => .exc x ρ' | .bad => .bad := by
 simp only [qlJ, bnd]
 cases l ρ with
 | ok z => obtain ⟨z1, ρ1⟩ := z; (dsimp only; cases qmi z1 <;> rfl)
 | exc x ρ' => rfl
 | bad => rfl
theorem qgm {f : M D} {ρ : Env} (i : Nat) : u3 i f ρ = match zQ i ρ with
  | none => .bad
  | some _ => (match f ρ with
   | .ok (d, ρ1) => (match zQ i ρ1 with | some ds => (if qI (ds.length + 1) then .ok (.non, ρ1.set i (some (.lst (d :: ds)))) else .bad) | none => .bad)
   | .exc x ρ' => .exc x ρ' | .bad => .bad) := by
 unfold u3
 cases zQ i ρ with
 | none => rfl
 | some z =>
  simp only [bnd]
  cases f ρ with
  | ok z => obtain ⟨z1, ρ1⟩ := z; rfl
  | exc x ρ' => rfl
  | bad => rfl
end
end L2.Sk
namespace L2.Sk
namespace Law
open PySem PySem.Spec PyProof.Rows
set_option maxHeartbeats 4000000
theorem qiG (ds : List D) (r : Env) : zQ 0 (some (.lst ds) :: r) = some ds := rfl
theorem qiH (i : Nat) (o : Option D) (r : Env) : zQ (i + 1) (o :: r) = zQ i r := rfl
theorem ix0 (a b c : D) : ixD (.tup [a, b, c]) (.int 0) = some a := rfl
theorem ix1 (a b c : D) : ixD (.tup [a, b, c]) (.int 1) = some b := rfl
theorem ix2 (a b c : D) : ixD (.tup [a, b, c]) (.int 2) = some c := rfl
theorem qc6 (i j : Int) : neB (.int i) (.int j) = some (.bl (!decide (i = j))) := rfl
theorem qay (i j : Int) : eqB (.int i) (.int j) = some (.bl (decide (i = j))) := rfl
theorem qaz (ds : List D) : qcT (tyD (.tup ds)) "tuple" = true := rfl
theorem vX (ds : List D) : qfp [.tup ds] = some (.int ds.length) := rfl
theorem qcp (d : D) : isN d .non = some (.bl (uq d)) := rfl
theorem qc7 (d : D) : qme d .non = some (.bl (!uq d)) := rfl
theorem u4 (i j : Int) : gtD (.int i) (.int j) = some (.bl (decide (j < i))) := rfl
theorem qgn (i j : Int) : ltD (.int i) (.int j) = some (.bl (decide (i < j))) := rfl
theorem qgo (i j : Int) : leD (.int i) (.int j) = some (.bl (decide (i <= j))) := rfl
local macro_rules | `(tactic| push_cast [$xs,*]) => `(tactic| simp only [yL, qfG, qmS, jP, qfI, qdE, qij, qkd, qnq, qaq, uD, qik, qhj, wQ, qil, qim, qlm, qin, qln, qio, qhk, qfJ, qa0, qdF, qcW, wC, qiq, qir, qis, vt, qdG, qfK, qit, qas, qfL, qfM, qfN, qfO, qfP, qiu, qat, qlo, qfQ, List.length_cons, List.length_nil, List.map_cons, List.map_nil, List.replicate, List.nil_append, List.cons_append, List.append_nil, List.getElem?_cons_zero, List.getElem?_cons_succ, List.set_cons_zero, List.set_cons_succ, Nat.reduceAdd, Nat.reduceSub, Nat.sub_self, Nat.zero_add, reduceIte, Bool.not_true, Bool.not_false, Bool.false_eq_true, if_true, if_false, ite_true, ite_false, cond_true, cond_false, decide_true, decide_false, ix0, ix1, ix2, qaz, vX, qc6, qay, qcp, qc7, u4, qgn, qgo, qiG, qiH, w9, qdU, qdV, qiB, qf3, qcX, $xs,*])
theorem qa6 {n p : Nat} {body : MS} {ds : List D} {d : D} (h : ds.length = p) (e : ∃ ρ, body (yL n ds) = .ok (.rt d ρ)) : dfn n p body ds = .ok d := by
 obtain ⟨ρ, e⟩ := e
 exact qjC h e
def qjU : D -> Bool
 | .int _ => true
 | _ => false
def z5 : D -> Bool
 | .int i => decide (0 <= i)
 | _ => false
def qgp : D -> Bool
 | .int i => decide (0 < i)
 | _ => false
def u5 : D -> Bool
 | .tup [a, b, c] => qgp a && z5 b && (uq c || z5 c)
 | _ => false
theorem qof {ds : List D} (h : ds.length = 3) : ∃ a b c, ds = [a, b, c] := by
 match ds, h with
 | [a, b, c], _ => exact ⟨a, b, c, rfl⟩
theorem qeO {ds : List D} (h : ds.length ≠ 3) : u5 (.tup ds) = false := by
 match ds, h with
 | [], _ => rfl
 | [_], _ => rfl
 | [_, _], _ => rfl
 | [a, b, c], h => exact absurd rfl h
 | _ :: _ :: _ :: _ :: _, _ => rfl
theorem qq {p q : MS} {ρ ρ' : Env} (h : p ρ = .ok (.nx ρ')) : zr p q ρ = q ρ' := by rw [qip, h]
theorem qaA {p q : MS} {ρ ρ' : Env} {d : D} (h : p ρ = .ok (.rt d ρ')) : zr p q ρ = .ok (.rt d ρ') := by rw [qip, h]
theorem qlM {e : M D} {f : D -> D} : ∀ (ds acc : List D) (o : Option D), (∀ d ∈ ds, e [some d] = .ok (f d, [some d])) -> acc.length + ds.length <= 1000 -> ∃ ρ', zt (qs 0) (ret true) e ds acc [o] = .ok (acc ++ ds.map f, ρ')
 | [], acc, o, _, _ => ⟨[o], by simp [zt]⟩
 | d :: ds, acc, o, h, hl => by
  have hl' : acc.length + (ds.length + 1) <= 1000 := hl
  obtain ⟨ρ', q⟩ := qlM ds (acc ++ [f d]) (some d) (fun x hx => h x (List.mem_cons_of_mem _ hx)) (by rw [List.length_append, List.length_singleton]; omega)
  refine ⟨ρ', ?_⟩
  unfold zt
  simp only [qs, List.set_cons_zero, ret, h d List.mem_cons_self, yD (show acc.length + 1 <= 1000000 by omega), if_true, q]
  simp
theorem qcq (f : D -> Bool) : ∀ ds : List D, vq (ds.map fun d => D.bl (f d)) = some (ds.map f)
 | [] => rfl
 | d :: ds => by simp [vq, qcq f ds]
theorem all_map {ds : List D} {f : D -> Bool} : qjn [.lst (ds.map fun d => D.bl (f d))] = some (.bl (ds.all f)) := by
 simp only [qjn, qcq, Option.map_some]
 congr 2
 rw [List.all_map]
 rfl
theorem qjV {F : List D -> R D} {f : D -> Bool} {xs : M (List D)} {ds : List D} {ρ : Env} (hx : xs ρ = .ok (ds, ρ)) (hF : ∀ d ∈ ds, F [d] = .ok (.bl (f d))) (hl : ds.length <= 1000) :
  yK qjn (qb (qV 1 [] none xs (qs 0) (ret true) (qj F (qb (dv 0) (ret [])))) (ret [])) ρ = .ok (.bl (ds.all f), ρ) := by
 obtain ⟨ρ', q⟩ := qlM (e := qj F (qb (dv 0) (ret []))) (f := fun d => D.bl (f d)) ds [] none (fun x hm => by push_cast []; rw [hF x hm]) (by simpa using hl)
 have q' : zt (qs 0) (ret true) (qj F (qb (dv 0) (ret []))) ds [] (z0 1 [] ρ) = .ok ([] ++ ds.map fun d => D.bl (f d), ρ') := q
 simp only [qaq, jP, qar, hx, q', qfG, List.nil_append, all_map]
 rfl
def zd : D -> Bool
 | .tup ds => decide (ds.length <= 12) && ds.all u5
 | _ => false
def leI : D -> D -> Bool
 | .int i, .int j => decide (i <= j)
 | _, _ => false
def qm1 (k x : D) : Bool := match k with
 | .tup [_, _, m] => z5 x && (uq m || leI x m)
 | _ => false
def qd2 : List D -> List D -> Bool
 | k :: ks, x :: xs => qm1 k x && qd2 ks xs
 | _, _ => true
def qnE : D -> D -> Bool
 | .tup xs, .tup ks => decide (xs.length = ks.length) && qd2 ks xs
 | _, _ => false
theorem vf {l : M (List D)} {ρ ρ1 : Env} {j : Int} (e : l ρ = .ok ([.int j], ρ1)) (h0 : 0 <= j) (h : j <= 1000000) : zC l ρ = .ok (qbT 0 j.toNat, ρ1) := by
 have h1 : (-(2 ^ 62) <= j) := by omega
 have h2 : (j < 2 ^ 62) := by omega
 have e2 : qhd [.int j] = some (qbT 0 j.toNat) := by
  simp only [qhd, h1, h2, decide_true, Bool.and_self, if_true]
 have e3 : zC l ρ = lift (qhd [.int j]) ρ1 := by
  show bnd l (fun ds => lift (qhd ds)) ρ = _
  rw [qmR, e]
 rw [e3, e2]
 rfl
theorem qgq {n m : Int} (h0 : 0 < m) (h1 : m < 1606938044258990275541962092341162602522202993782792835301376) : qam [.int n, .int m] = some (.tup [.int (n / m), .int (n % m)]) := by
 simp only [qam, qel, h0, h1, decide_true, Bool.and_self, if_true]
theorem at0 (d : D) (r : List D) : atI (d :: r) 0 = some d := by
 unfold atI ixN
 rw [if_pos (by omega), if_pos (by simp)]
 rfl
theorem qog : ixN 1 0 = some 0 := by decide
theorem yk (i j : Int) : jw (.int i) (.int j) = some (.int (i + j)) := rfl
theorem qd3 (i j : Int) : qjf (.int i) (.int j) = some (.int (i - j)) := rfl
theorem qiI {ds : List D} {k : Int} (h0 : 0 <= k) (h1 : k < ds.length) : ∃ d ∈ ds, ixD (.lst ds) (.int k) = some d := by
 obtain ⟨i, rfl⟩ := Int.eq_ofNat_of_zero_le h0
 have hi : i < ds.length := by omega
 refine ⟨ds[i], List.getElem_mem hi, ?_⟩
 show atI ds (i : Int) = _
 unfold atI ixN
 rw [if_pos (by omega), if_pos (by omega)]
 show ds[(i : Int).toNat]? = _
 rw [Int.toNat_natCast, List.getElem?_eq_getElem hi]
theorem vY {i j : Int} (h : 0 < j) : qb7 (.int i) (.int j) = some (.int (i % j)) := by
 simp only [qb7, qkb, h, decide_true, if_true]
theorem qcr {i j : Int} (h : 0 < j) (h1 : j < 1606938044258990275541962092341162602522202993782792835301376) : qfn (.int i) (.int j) = some (.int (i / j)) := by
 simp only [qfn, qkb, qel, h, h1, decide_true, Bool.and_self, if_true]
theorem qhL {i j : Int} (h : jZ i = true) : yM (.int i) (.int j) = some (.int (i * j)) := by
 simp only [yM, qfm, h, Bool.true_or, if_true]
theorem qhM {i j : Int} (h : jZ j = true) : yM (.int i) (.int j) = some (.int (i * j)) := by
 simp only [yM, qfm, h, Bool.or_true, if_true]
theorem qgr {i : Int} (h0 : 0 <= i) (h1 : i < 2000000000) : jZ i = true := by
 unfold jZ
 rw [Bool.and_eq_true, decide_eq_true_eq, decide_eq_true_eq]
 constructor <;> omega
def facts : List Int := [48271, 69621, 16807, 39373, 30269, 40014, 40692, 50021, 61687, 71993, 83869, 95561, 30307]
structure qom (w e : Nat) (d : D) : Prop where
 lv : (vG d).leavesShort 40 = true
 sh : (vG d).showable = true
 wt : (vG d).weight <= w
 dp : (vG d).depth <= e
def plain (d : D) : Bool := !(vG d).hasDict && noL d
theorem neg_int (i : Int) : qhi (.int i) = some (.int (-i)) := rfl
theorem qd4 {xs ys : List D} (h : xs.length + ys.length <= 1000000) : jw (.lst xs) (.lst ys) = some (.lst (xs ++ ys)) := by
 simp only [jw, yD h, if_true]
def pt (p : Int) : D -> Int
 | .tup [.int a, .int b, _] => if p = 0 then a else b
 | _ => 0
def num : D -> Int
 | .int x => x
 | _ => 0
def qm2 (p : Int) : List D -> List D -> List Int
 | k :: ks, x :: xs => (pt p k * num x) :: qm2 p ks xs
 | _, _ => []
theorem qaa : ∀ ns : List Int, uX (ns.map D.int) = some ns
 | [] => rfl
 | n :: ns => by simp [uX, qaa ns]
theorem qm3 {F : List D -> R D} {f g h : M D} {ρ : Env} {a b c d : D} (hf : f ρ = .ok (a, ρ)) (hg : g ρ = .ok (b, ρ)) (hh : h ρ = .ok (c, ρ)) (e : F [a, b, c] = .ok d) : qj F (qb f (qb g (qb h (ret [])))) ρ = .ok (d, ρ) := by
 have e1 : qb h (ret []) ρ = .ok ([c], ρ) := by rw [jP, hh]; rfl
 have e2 : qb g (qb h (ret [])) ρ = .ok ([b, c], ρ) := by rw [jP, hg]; dsimp only; rw [e1]
 have e3 : qb f (qb g (qb h (ret []))) ρ = .ok ([a, b, c], ρ) := by rw [jP, hf]; dsimp only; rw [e2]
 rw [uD, e3]
 dsimp only
 rw [e]
theorem qlN {F : List D -> Option D} {f : M D} {ρ : Env} {a d : D} (hf : f ρ = .ok (a, ρ)) (e : F [a] = some d) : yK F (qb f (ret [])) ρ = .ok (d, ρ) := by
 have e0 : qb f (ret []) ρ = .ok ([a], ρ) := by rw [jP, hf]; rfl
 rw [qaq, e0]
 dsimp only
 rw [e]
theorem qhN (i j : Int) : qb8 [.int i, .int j] = some (.int (if j < i then j else i)) := rfl
theorem qhO {α : Type} {e : M D} {t : M Bool} {k f : α -> D} {p : α -> Bool} {r : Env} : ∀ (as : List α) (acc : List D) (o : Option D), (∀ a ∈ as, t (some (k a) :: r) = .ok (p a, some (k a) :: r)) -> (∀ a ∈ as, p a = true -> e (some (k a) :: r) = .ok (f a, some (k a) :: r)) -> acc.length + as.length <= 1000000 ->
  ∃ o', zt (qs 0) t e (as.map k) acc (o :: r) = .ok (acc ++ (as.filter p).map f, o' :: r)
 | [], acc, o, _, _, _ => ⟨o, by simp [zt]⟩
 | a :: as, acc, o, ht, he, hl => by
  have hl' : acc.length + (as.length + 1) <= 1000000 := hl
  have h1 := ht a List.mem_cons_self
  rw [List.map_cons]
  unfold zt
  simp only [qs, List.set_cons_zero, h1]
  cases hp : p a with
  | false =>
   obtain ⟨o', q⟩ := qhO as acc (some (k a)) (fun x hx => ht x (List.mem_cons_of_mem _ hx)) (fun x hx => he x (List.mem_cons_of_mem _ hx)) (by omega)
   refine ⟨o', ?_⟩
   simp only [q, List.filter_cons, hp, Bool.false_eq_true, if_false]
  | true =>
   obtain ⟨o', q⟩ := qhO as (acc ++ [f a]) (some (k a)) (fun x hx => ht x (List.mem_cons_of_mem _ hx)) (fun x hx => he x (List.mem_cons_of_mem _ hx)) (by rw [List.length_append, List.length_singleton]; omega)
   refine ⟨o', ?_⟩
   simp only [he a List.mem_cons_self hp, yD (show acc.length + 1 <= 1000000 by omega), if_true, q, List.filter_cons, hp, List.map_cons, List.append_assoc, List.singleton_append]
theorem qgs {α : Type} {e : M D} {t : M Bool} {k : α -> D} {xs : M (List D)} {ρ r : Env} {fr : List Nat} (as : List α) (p : α -> Bool) (f : α -> D) (hx : xs ρ = .ok (as.map k, ρ)) (hr : z0 1 fr ρ = none :: r) (hl : as.length <= 1000000)
  (ht : ∀ a ∈ as, t (some (k a) :: r) = .ok (p a, some (k a) :: r)) (he : ∀ a ∈ as, p a = true -> e (some (k a) :: r) = .ok (f a, some (k a) :: r)) : qV 1 fr none xs (qs 0) t e ρ = .ok (.lst ((as.filter p).map f), ρ) := by
 obtain ⟨o', q⟩ := qhO as [] none ht he (by simpa using hl)
 rw [qar, hx]
 simp only [hr, q, List.nil_append]
 rfl
theorem qaB {α : Type} (as : List α) : as.filter (fun _ => true) = as := by simp
theorem qa7 {α : Type} {e : M D} {k : α -> D} {xs : M (List D)} {ρ r : Env} {fr : List Nat} (as : List α) (f : α -> D) (hx : xs ρ = .ok (as.map k, ρ)) (hr : z0 1 fr ρ = none :: r) (hl : as.length <= 1000000)
  (he : ∀ a ∈ as, e (some (k a) :: r) = .ok (f a, some (k a) :: r)) : qV 1 fr none xs (qs 0) (ret true) e ρ = .ok (.lst (as.map f), ρ) := by
 rw [qgs as (fun _ => true) f hx hr hl (fun _ _ => rfl) fun a ha _ => he a ha, qaB]
theorem wG {f : M D} {ρ : Env} {a : D} (hf : f ρ = .ok (a, ρ)) : qb f (ret []) ρ = .ok ([a], ρ) := by rw [jP, hf]; rfl
theorem qhP {f g : M D} {ρ : Env} {a b : D} (hf : f ρ = .ok (a, ρ)) (hg : g ρ = .ok (b, ρ)) : qb f (qb g (ret [])) ρ = .ok ([a, b], ρ) := by rw [jP, hf]; simp only [wG hg]
theorem qm4 {f g h : M D} {ρ : Env} {a b c : D} (hf : f ρ = .ok (a, ρ)) (hg : g ρ = .ok (b, ρ)) (hh : h ρ = .ok (c, ρ)) : qb f (qb g (qb h (ret []))) ρ = .ok ([a, b, c], ρ) := by rw [jP, hf]; simp only [qhP hg hh]
theorem qnF {f g : M D} {ρ : Env} {a b : D} (hf : f ρ = .ok (a, ρ)) (hg : g ρ = .ok (b, ρ)) : jm (qb f (qb g (ret []))) ρ = .ok (.tup [a, b], ρ) := by rw [qfI, qhP hf hg]; simp only [List.length_cons, List.length_nil, yD (show 0 + 1 + 1 <= 1000000 by omega), if_true]
theorem qiJ {F : List D -> R D} {f : M D} {ρ : Env} {a d : D} (hf : f ρ = .ok (a, ρ)) (e : F [a] = .ok d) : qj F (qb f (ret [])) ρ = .ok (d, ρ) := by rw [uD, wG hf]; simp only [e]
theorem wS {F : List D -> R D} {f g : M D} {ρ : Env} {a b d : D} (hf : f ρ = .ok (a, ρ)) (hg : g ρ = .ok (b, ρ)) (e : F [a, b] = .ok d) : qj F (qb f (qb g (ret []))) ρ = .ok (d, ρ) := by rw [uD, qhP hf hg]; simp only [e]
theorem qE {F : D -> D -> Option D} {f g : M D} {ρ : Env} {a b d : D} (hf : f ρ = .ok (a, ρ)) (hg : g ρ = .ok (b, ρ)) (e : F a b = some d) : d2 F f g ρ = .ok (d, ρ) := by rw [qkd, hf]; simp only [hg, e]
theorem vy {f : M D} {ρ : Env} {b : Bool} (hf : f ρ = .ok (.bl b, ρ)) : tst f ρ = .ok (b, ρ) := by rw [qhj, hf]; rfl
theorem qcL {t : M Bool} {p q : MS} {ρ : Env} (h : t ρ = .ok (true, ρ)) : sif t p q ρ = p ρ := by rw [qfJ, h]; rfl
theorem y0 {t : M Bool} {p q : MS} {ρ : Env} (h : t ρ = .ok (false, ρ)) : sif t p q ρ = q ρ := by rw [qfJ, h]; rfl
theorem qgt {i : Nat} {f : M D} {ρ : Env} {ds : List D} {d : D} (h : zQ i ρ = some ds) (hf : f ρ = .ok (d, ρ)) (hi : imm d = true) (hl : ds.length < 1000000) : zL (uB i f) ρ = .ok (.nx (ρ.set i (some (.lst (ds ++ [d]))))) := by
 simp only [wC, qat, h, hf, hi, yD (show ds.length + 1 <= 1000000 by omega), Bool.and_self, if_true]
theorem jr {G : D -> Env -> Option Env} {b : MS} {d : D} {ds : List D} {ρ ρ1 ρ2 : Env} (h1 : G d ρ = some ρ1) (h2 : b ρ1 = .ok (.nx ρ2)) : uA G b (d :: ds) ρ = uA G b ds ρ2 := by
 show (match G d ρ with | none => R.bad | some ρ1 => _) = _
 rw [h1]
 simp only [h2]
theorem io1 {F : List D -> List D -> R (D × List D)} {i : Nat} {f : M D} {ρ : Env} {ds ds' : List D} {a d : D} (h : zQ i ρ = some ds) (hf : f ρ = .ok (a, ρ)) (e : F ds [a] = .ok (d, ds')) : qB F i (qb f (ret [])) ρ = .ok (d, ρ.set i (some (.lst ds'))) := by
 simp only [qas, h, wG hf, e]
def mD : Option Int -> D
 | none => .non
 | some j => .int j
abbrev Kd := Int × Int × Option Int
def kD (x : Kd) : D := .tup [.int x.1, .int x.2.1, mD x.2.2]
def okK (x : Kd) : Prop := 0 < x.1 /\ 0 <= x.2.1 /\ (∀ j, x.2.2 = some j -> 0 <= j)
theorem qcs {x : Kd} (h : okK x) : u5 (kD x) = true := by
 obtain ⟨a, b, m⟩ := x
 obtain ⟨h1, h2, h3⟩ := h
 have e1 : qgp (.int a) = true := decide_eq_true h1
 have e2 : z5 (.int b) = true := decide_eq_true h2
 cases m with
 | none => simp only [kD, mD, u5, e1, e2, uq, Bool.true_and, Bool.true_or]
 | some j =>
  have e3 : z5 (.int j) = true := decide_eq_true (h3 j rfl)
  simp only [kD, mD, u5, e1, e2, e3, Bool.true_and, Bool.or_true]
theorem qa8 {ks : List Kd} (h : ∀ x ∈ ks, okK x) (hl : ks.length <= 12) : zd (.tup (ks.map kD)) = true := by
 have : (ks.map kD).all u5 = true := by
  rw [List.all_map]
  exact List.all_eq_true.mpr fun x hx => qcs (h x hx)
 simp only [zd, List.length_map, hl, decide_true, this, Bool.true_and]
theorem qbC (m : Option Int) : uq (mD m) = m.isNone := by cases m <;> rfl
theorem qgu {α : Type} {ds : List α} {n : Nat} {d : α} (h : ds[n]? = some d) : atI ds (n : Int) = some d := by
 unfold atI ixN
 have hl := (List.getElem?_eq_some_iff.mp h).1
 rw [if_pos (by omega), if_pos (by omega)]
 show ds[(n : Int).toNat]? = _
 rw [Int.toNat_natCast]; exact h
theorem qhQ (lo : Int) (n : Nat) : qbT lo n = (List.range n).map fun i => D.int (lo + (i : Nat)) := rfl
theorem qhR {α : Type} {as : List α} {f : α -> Int} : qk0 [.lst (as.map fun a => D.int (f a))] = some (.int (as.map f).sum) := by
 have : uX (as.map fun a => D.int (f a)) = some (as.map f) := by
  have := qaa (as.map f)
  rw [List.map_map] at this
  exact this
 simp only [qk0, this, Option.map_some]
theorem qgv {α : Type} {e : M D} {t : M Bool} {u v f : α -> D} {p : α -> Bool} {r : Env} : ∀ (as : List α) (acc : List D) (o o' : Option D), (∀ a ∈ as, t (some (u a) :: some (v a) :: r) = .ok (p a, some (u a) :: some (v a) :: r)) -> (∀ a ∈ as, p a = true -> e (some (u a) :: some (v a) :: r) = .ok (f a, some (u a) :: some (v a) :: r)) -> acc.length + as.length <= 1000000 ->
  ∃ o1 o2, zt (qeV 2 (uc (qs 0) (uc (qs 1) qeU))) t e (as.map fun a => .tup [u a, v a]) acc (o :: o' :: r) = .ok (acc ++ (as.filter p).map f, o1 :: o2 :: r)
 | [], acc, o, o', _, _, _ => ⟨o, o', by simp [zt]⟩
 | a :: as, acc, o, o', ht, he, hl => by
  have hl' : acc.length + (as.length + 1) <= 1000000 := hl
  have h1 := ht a List.mem_cons_self
  rw [List.map_cons]
  unfold zt
  have hg : qeV 2 (uc (qs 0) (uc (qs 1) qeU)) (.tup [u a, v a]) (o :: o' :: r) = some (some (u a) :: some (v a) :: r) := rfl
  simp only [hg, h1]
  cases hp : p a with
  | false =>
   obtain ⟨o1, o2, q⟩ := qgv as acc (some (u a)) (some (v a)) (fun x hx => ht x (List.mem_cons_of_mem _ hx)) (fun x hx => he x (List.mem_cons_of_mem _ hx)) (by omega)
   refine ⟨o1, o2, ?_⟩
   simp only [q, List.filter_cons, hp, Bool.false_eq_true, if_false]
  | true =>
   obtain ⟨o1, o2, q⟩ := qgv as (acc ++ [f a]) (some (u a)) (some (v a)) (fun x hx => ht x (List.mem_cons_of_mem _ hx)) (fun x hx => he x (List.mem_cons_of_mem _ hx)) (by rw [List.length_append, List.length_singleton]; omega)
   refine ⟨o1, o2, ?_⟩
   simp only [he a List.mem_cons_self hp, yD (show acc.length + 1 <= 1000000 by omega), if_true, q, List.filter_cons, hp, List.map_cons, List.append_assoc, List.singleton_append]
theorem qjW {α : Type} {e : M D} {t : M Bool} {u v : α -> D} {xs : M (List D)} {ρ r : Env} {fr : List Nat} (as : List α) (p : α -> Bool) (f : α -> D) (hx : xs ρ = .ok (as.map fun a => .tup [u a, v a], ρ)) (hr : z0 2 fr ρ = none :: none :: r) (hl : as.length <= 1000000)
  (ht : ∀ a ∈ as, t (some (u a) :: some (v a) :: r) = .ok (p a, some (u a) :: some (v a) :: r)) (he : ∀ a ∈ as, p a = true -> e (some (u a) :: some (v a) :: r) = .ok (f a, some (u a) :: some (v a) :: r)) : qV 2 fr none xs (qeV 2 (uc (qs 0) (uc (qs 1) qeU))) t e ρ = .ok (.lst ((as.filter p).map f), ρ) := by
 obtain ⟨o1, o2, q⟩ := qgv as [] none none ht he (by simpa using hl)
 rw [qar, hx]
 simp only [hr, q, List.nil_append]
 rfl
theorem qnG (n : Nat) : qbT 0 n = (List.range n).map fun i => D.int (i : Nat) := by
 unfold qbT
 refine List.map_congr_left fun i _ => ?_
 rw [Int.zero_add]
end Law
end L2.Sk
namespace L2.Sk.Law
def qnH : Nat -> (Nat -> Nat) -> Nat
 | 0, _ => 0
 | n + 1, f => qnH n f + f n
structure Kw where
 w : Int
 v : Int
 m : Option Int
def okT (k : Kw) (t : Nat) (r : Int) : Bool := decide ((t : Int) * k.w <= r) && (match k.m with | none => true | some j => decide ((t : Int) <= j))
def qnI (N : Nat) (φ : Int -> Nat) : List Kw -> Int -> Int -> Nat
 | [], _, y => φ y
 | k :: ks, r, y => qnH (N + 1) fun t => if okT k t r then qnI N φ ks (r - t * k.w) (y + t * k.v) else 0
def ofn (k : Kw) (r : Int) : Nat := (match k.m with | none => r / k.w | some j => if j < r / k.w then j else r / k.w).toNat
theorem qc8 {k : Kw} (hw : 1 <= k.w) (hm : ∀ j, k.m = some j -> 0 <= j) {r : Int} (hr : 0 <= r) (t : Nat) : okT k t r = decide (t <= ofn k r) := by
 have hd : 0 <= r / k.w := Int.ediv_nonneg hr (by omega)
 have he : ((t : Int) * k.w <= r) ↔ ((t : Int) <= r / k.w) := (Int.le_ediv_iff_mul_le (by omega)).symm
 unfold okT ofn
 cases hk : k.m with
 | none =>
  dsimp only
  rw [Bool.and_true, Bool.eq_iff_iff, decide_eq_true_eq, decide_eq_true_eq, he]
  omega
 | some j =>
  have hj := hm j hk
  dsimp only
  rw [Bool.eq_iff_iff, Bool.and_eq_true, decide_eq_true_eq, decide_eq_true_eq, decide_eq_true_eq, he]
  split <;> omega
theorem qiK {k : Kw} (hw : 1 <= k.w) (hm : ∀ j, k.m = some j -> 0 <= j) {r : Int} (hr : 0 <= r) {t : Nat} (h : t <= ofn k r) : (t : Int) * k.w <= r /\ (t : Int) <= r := by
 have h1 : okT k t r = true := by rw [qc8 hw hm hr]; exact decide_eq_true h
 unfold okT at h1
 rw [Bool.and_eq_true, decide_eq_true_eq] at h1
 refine ⟨h1.1, Int.le_trans ?_ h1.1⟩
 have := Int.mul_le_mul_of_nonneg_left hw (show (0 : Int) <= t by omega)
 omega
def zn : List Kw -> List Int -> Int
 | k :: ks, t :: ts => t * k.v + zn ks ts
 | _, _ => 0
theorem qaC (k : Kw) (t : Int) : ∀ (pre : List Kw) (ld : List Int), pre.length = ld.length -> zn (pre ++ [k]) (ld ++ [t]) = zn pre ld + t * k.v
 | [], [], _ => by simp [zn]
 | a :: pre, s :: ld, h => by
  have := qaC k t pre ld (by simpa using h)
  simp only [List.cons_append, zn, this]
  omega
def qaD (k : Kw) : Prop := 1 <= k.w /\ ∀ j, k.m = some j -> 0 <= j
end L2.Sk.Law
namespace L2.Sk
namespace Law
open PySem PySem.Spec PyProof.Rows
set_option maxHeartbeats 4000000
def Zn (ks : List Kw) (s z : Int) : Nat := qnI 20 (fun y => if y = z then 1 else 0) ks s 0
structure qnJ (ks : List Kw) (s : Int) (p : Int × Nat) : Prop where
 at_ : Zn ks s p.1 = p.2
 pos : 0 < p.2
 no : ∀ z, p.1 < z -> Zn ks s z = 0
end Law
end L2.Sk
namespace L2.Sk.Law
end L2.Sk.Law
namespace L2.Sk
namespace Law
open PySem PySem.Spec PyProof.Rows
set_option maxHeartbeats 4000000
open Classical in
open Classical in
theorem qlO {α : Type} {e : M D} {t : M Bool} {k : α -> D} {xs : M (List D)} {ρ r : Env} {fr : List Nat} {i j : Nat} (as : List α) (p : α -> Bool) (f : α -> D) (hx : xs ρ = .ok (as.map k, ρ)) (hr : z0 1 fr ρ = none :: r) (hl : as.length <= 1000000)
  (ht : ∀ a ∈ as, t (some (k a) :: r) = .ok (p a, some (k a) :: r)) (he : ∀ a ∈ as, p a = true -> e (some (k a) :: r) = .ok (f a, some (k a) :: r)) (hb : ∀ o : Option D, ρ.set j ((o :: r)[i]?).join = ρ) :
  qV 1 fr (some (i, j)) xs (qs 0) t e ρ = .ok (.lst ((as.filter p).map f), ρ) := by
 obtain ⟨o', q⟩ := qhO as [] none ht he (by simpa using hl)
 rw [qar, hx]
 simp only [hr, q, List.nil_append]
 show R.ok (D.lst ((as.filter p).map f), ρ.set j ((o' :: r)[i]?).join) = _
 rw [hb o']
theorem ue {F : List D -> R D} {f g h : M D} {ρ : Env} {a b c d : D} (hf : f ρ = .ok (a, ρ)) (hg : g ρ = .ok (b, ρ)) (hh : h ρ = .ok (c, ρ)) (e : F [a, b, c] = .ok d) : qj F (qb f (qb g (qb h (ret [])))) ρ = .ok (d, ρ) := qm3 hf hg hh e
theorem u6 {i : Nat} {f : M D} {ρ ρ1 : Env} {d : D} (h : f ρ = .ok (d, ρ1)) : jL i f ρ = .ok (.nx (ρ1.set i (some d))) := by rw [qdF, h]
theorem ut {f : M D} {ρ ρ1 : Env} {d : D} (h : f ρ = .ok (d, ρ1)) : yq f ρ = .ok (.rt d ρ1) := by rw [qa0, h]
theorem qhS {fr : List Nat} {e : M D} {ρ r : Env} (n : Nat) (d : D) (hn : n <= 1000) (hr : z0 1 fr ρ = none :: r) (h : ∀ i : Nat, i < n -> e (some (.int i) :: r) = .ok (d, some (.int i) :: r)) :
  qV 1 fr none (zC (qb (ret (.int (n : Int))) (ret []))) (qs 0) (ret true) e ρ = .ok (.lst (List.replicate n d), ρ) := by
 have e1 : zC (qb (ret (.int (n : Int))) (ret [])) ρ = .ok (qbT 0 n, ρ) := by
  have := vf (l := qb (ret (.int (n : Int))) (ret [])) (ρ := ρ) (ρ1 := ρ) (j := (n : Int)) rfl (by omega) (by omega)
  rw [this, Int.toNat_natCast]
 rw [qa7 (r := r) (k := fun i : Nat => D.int (0 + (i : Nat))) (List.range n) (fun _ => d) (by rw [e1, qhQ]) hr (by rw [List.length_range]; omega) fun i hi => ?_]
 ·rw [List.map_const', List.length_range]
 ·have := h i (List.mem_range.mp hi)
  rw [show ((0 : Int) + (i : Nat)) = (i : Int) by omega]
  exact this
theorem qgw {fr : List Nat} {e f : M D} {ρ r : Env} {p : MS} (n : Nat) (d x : D) (hn : n <= 1000) (hr : z0 1 fr ρ = none :: r) (h : ∀ i : Nat, i < n -> e (some (.int i) :: r) = .ok (d, some (.int i) :: r)) (hf : f ρ = .ok (x, ρ)) (hx : neB (.lst (List.replicate n d)) x = some (.bl false)) :
  sif (tst (d2 neB (qV 1 fr none (zC (qb (ret (.int (n : Int))) (ret []))) (qs 0) (ret true) e) f)) p wv ρ = .ok (.nx ρ) :=
 y0 (vy (qE (qhS n d hn hr h) hf hx))
end Law
end L2.Sk
namespace L2.Sk.Law
def vz : List Kw -> Int -> List (List Int)
 | [], _ => [[]]
 | k :: ks, r => (List.range (ofn k r + 1)).flatMap fun t : Nat => (vz ks (r - (t : Int) * k.w)).map fun l => (t : Int) :: l
def mxZ : List Int -> Int
 | [] => 0
 | a :: l => l.foldl max a
theorem qaE : ∀ (l : List Int) (a : Int), a <= l.foldl max a /\ (∀ x ∈ l, x <= l.foldl max a) /\ (l.foldl max a = a \/ l.foldl max a ∈ l)
 | [], a => ⟨Int.le_refl _, (fun _ h => by cases h), .inl rfl⟩
 | b :: l, a => by
  obtain ⟨h1, h2, h3⟩ := qaE l (max a b)
  rw [List.foldl_cons]
  refine ⟨by omega, fun x hx => ?_, ?_⟩
  ·rcases List.mem_cons.mp hx with rfl | hx
   ·omega
   ·exact h2 x hx
  ·rcases h3 with h3 | h3
   ·rw [h3]
    rcases Int.le_total a b with h | h
    ·right; rw [Int.max_eq_right h]; exact List.mem_cons_self
    ·left; exact Int.max_eq_left h
   ·exact .inr (List.mem_cons_of_mem _ h3)
theorem qlP {l : List Int} {x : Int} (h : x ∈ l) : x <= mxZ l := by
 cases l with
 | nil => cases h
 | cons a l =>
  obtain ⟨h1, h2, _⟩ := qaE l a
  rcases List.mem_cons.mp h with rfl | h
  ·exact h1
  ·exact h2 x h
theorem qjX {l : List Int} (h : l ≠ []) : mxZ l ∈ l := by
 cases l with
 | nil => exact absurd rfl h
 | cons a l =>
  rcases (qaE l a).2.2 with e | e
  ·show l.foldl max a ∈ _
   rw [e]; exact List.mem_cons_self
  ·exact List.mem_cons_of_mem _ e
end L2.Sk.Law
namespace L2.Sk.Law
def qC : List Kw -> List Int -> Int
 | k :: ks, t :: l => t * k.w + qC ks l
 | _, _ => 0
theorem wT (k : Kw) (t : Int) : ∀ (pre : List Kw) (ld : List Int), pre.length = ld.length -> qC (pre ++ [k]) (ld ++ [t]) = qC pre ld + t * k.w
 | [], [], _ => by simp [qC]
 | a :: pre, [], h => by simp at h
 | [], b :: ld, h => by simp at h
 | a :: pre, b :: ld, h => by
  have := wT k t pre ld (by simpa using h)
  simp only [List.cons_append, qC, this]
  omega
def qa9 (k : Kw) : Prop := 1 <= k.w /\ 0 <= k.v /\ ∀ j, k.m = some j -> 0 <= j
def cei (k : Kw) (g : Int) : Int := (g + k.v - 1) / k.v
def enT (k : Kw) (g : Int) : Nat := if k.v = 0 then 0 else (match k.m with | none => cei k g | some j => if j < cei k g then j else cei k g).toNat
def glf (k : Kw) (t : Nat) (g : Int) : Int := max 0 (g - (t : Int) * k.v)
theorem qlQ {k : Kw} (hv : 0 < k.v) (g : Int) : g <= cei k g * k.v := by
 unfold cei
 have h1 := Int.emod_add_mul_ediv (g + k.v - 1) k.v
 have h2 := Int.emod_lt_of_pos (g + k.v - 1) hv
 rw [Int.mul_comm] at h1
 omega
theorem qjY {k : Kw} (hv : 0 < k.v) {g : Int} (h0 : 0 <= g) : 0 <= cei k g := Int.ediv_nonneg (by omega) (by omega)
theorem qhT {k : Kw} (hv : 0 < k.v) {g G : Int} (h : g <= G) : cei k g <= cei k G := Int.ediv_le_ediv hv (by omega)
theorem qjZ {k : Kw} (hk : qa9 k) {g G : Int} (h : g <= G) : enT k g <= enT k G := by
 unfold enT
 by_cases hv : k.v = 0
 ·rw [if_pos hv, if_pos hv]
  exact Nat.le_refl _
 ·rw [if_neg hv, if_neg hv]
  have := qhT (k := k) (by have := hk.2.1; omega) h
  cases k.m with
  | none => show (cei k g).toNat <= (cei k G).toNat; omega
  | some j =>
   show (if j < cei k g then j else cei k g).toNat <= (if j < cei k G then j else cei k G).toNat
   split <;> split <;> omega
theorem qj0 {k : Kw} (hk : qa9 k) {g G : Int} (h0 : 0 <= g) {t : Nat} (h1 : enT k g < t) (h2 : t <= enT k G) : glf k (enT k g) g = 0 := by
 by_cases hv : k.v = 0
 ·unfold enT at h2
  rw [if_pos hv] at h2
  omega
 ·have hv' : 0 < k.v := by have := hk.2.1; omega
  have hc := qjY hv' h0
  have e : ((enT k g : Nat) : Int) = cei k g := by
   unfold enT at h1 h2 |-
   rw [if_neg hv] at h1 h2 |-
   cases hm : k.m with
   | none => show ((cei k g).toNat : Int) = _; omega
   | some j =>
    rw [hm] at h1 h2
    have h1 : (if j < cei k g then j else cei k g).toNat < t := h1
    have h2 : t <= (if j < cei k G then j else cei k G).toNat := h2
    show ((if j < cei k g then j else cei k g).toNat : Int) = _
    split at h1 <;> split at h2 <;> omega
  have := qlQ hv' g
  unfold glf
  rw [e]
  omega
theorem qgx {k : Kw} (hk : qa9 k) {g G : Int} (h0 : 0 <= g) (h : g <= G) (t : Nat) : 0 <= glf k t g /\ glf k t g <= g := by
 unfold glf
 have : 0 <= (t : Int) * k.v := Int.mul_nonneg (by omega) hk.2.1
 omega
def mnO : List Int -> Option Int
 | [] => none
 | a :: l => some (l.foldl min a)
theorem qaF : ∀ (l : List Int) (a : Int), l.foldl min a <= a /\ (∀ x ∈ l, l.foldl min a <= x) /\ (l.foldl min a = a \/ l.foldl min a ∈ l)
 | [], a => ⟨Int.le_refl _, (fun _ h => by cases h), .inl rfl⟩
 | b :: l, a => by
  obtain ⟨h1, h2, h3⟩ := qaF l (min a b)
  rw [List.foldl_cons]
  refine ⟨by omega, fun x hx => ?_, ?_⟩
  ·rcases List.mem_cons.mp hx with rfl | hx
   ·omega
   ·exact h2 x hx
  ·rcases h3 with h3 | h3
   ·rw [h3]
    rcases Int.le_total a b with h | h
    ·left; exact Int.min_eq_left h
    ·right; rw [Int.min_eq_right h]; exact List.mem_cons_self
   ·exact .inr (List.mem_cons_of_mem _ h3)
theorem qiL {l : List Int} {x : Int} (h : x ∈ l) : ∃ m, mnO l = some m /\ m <= x := by
 cases l with
 | nil => cases h
 | cons a l =>
  obtain ⟨h1, h2, _⟩ := qaF l a
  rcases List.mem_cons.mp h with rfl | h
  ·exact ⟨_, rfl, h1⟩
  ·exact ⟨_, rfl, h2 x h⟩
theorem qgy {l : List Int} {m : Int} (h : mnO l = some m) : m ∈ l := by
 cases l with
 | nil => cases h
 | cons a l =>
  have h : l.foldl min a = m := Option.some.inj h
  rcases (qaF l a).2.2 with e | e
  ·rw [h] at e
   rw [e]; exact List.mem_cons_self
  ·rw [h] at e
   exact List.mem_cons_of_mem _ e
def j4 : List Kw -> Int -> Option Int
 | [], g => if g = 0 then some 0 else none
 | k :: ks, g => mnO ((List.range (enT k g + 1)).filterMap fun t : Nat => (j4 ks (glf k t g)).map fun h => (t : Int) * k.w + h)
def wwO (k : Kw) (ks : List Kw) (g : Int) (t : Nat) : Option Int := (j4 ks (glf k t g)).map fun h => (t : Int) * k.w + h
theorem qba (k : Kw) (ks : List Kw) (g : Int) : j4 (k :: ks) g = mnO ((List.range (enT k g + 1)).filterMap (wwO k ks g)) := by rw [j4]; rfl
theorem wH {k : Kw} {ks : List Kw} {g : Int} {t : Nat} (ht : t <= enT k g) {h' : Int} (e : j4 ks (glf k t g) = some h') : ∃ h, j4 (k :: ks) g = some h /\ h <= (t : Int) * k.w + h' := by
 rw [qba]
 refine qiL (List.mem_filterMap.mpr ⟨t, List.mem_range.mpr (by omega), ?_⟩)
 unfold wwO
 rw [e]
 rfl
theorem qhU {k : Kw} {ks : List Kw} {g h : Int} (e : j4 (k :: ks) g = some h) : ∃ t, t <= enT k g /\ wwO k ks g t = some h := by
 rw [qba] at e
 obtain ⟨t, ht, et⟩ := List.mem_filterMap.mp (qgy e)
 exact ⟨t, by have := List.mem_range.mp ht; omega, et⟩
def leT (k : Kw) (ks : List Kw) (g : Int) : Nat := (List.range (enT k g + 1)).findIdx fun t : Nat => decide (wwO k ks g t = j4 (k :: ks) g)
def qlR : List Kw -> Int -> List Int
 | [], _ => []
 | k :: ks, g => (leT k ks g : Int) :: qlR ks (glf k (leT k ks g) g)
theorem qhV {k : Kw} {ks : List Kw} {g h : Int} (e : j4 (k :: ks) g = some h) : leT k ks g <= enT k g /\ wwO k ks g (leT k ks g) = some h /\ ∀ t, t < leT k ks g -> wwO k ks g t ≠ some h := by
 obtain ⟨t0, h0, e0⟩ := qhU e
 have hlt : leT k ks g < (List.range (enT k g + 1)).length := by
  unfold leT
  rw [List.findIdx_lt_length]
  exact ⟨t0, List.mem_range.mpr (by omega), decide_eq_true (by rw [e0, e])⟩
 rw [List.length_range] at hlt
 refine ⟨by omega, ?_, fun t ht => ?_⟩
 ·have := List.findIdx_getElem (xs := List.range (enT k g + 1)) (p := fun t : Nat => decide (wwO k ks g t = j4 (k :: ks) g)) (w := by rw [List.length_range]; exact hlt)
  have := of_decide_eq_true this
  rw [List.getElem_range] at this
  exact this.trans e
 ·have hn := List.not_of_lt_findIdx (xs := List.range (enT k g + 1)) (p := fun t : Nat => decide (wwO k ks g t = j4 (k :: ks) g)) (i := t) ht
  rw [List.getElem_range, e] at hn
  simpa using hn
def qgQ : List Kw -> Int -> List (List Int)
 | [], _ => [[]]
 | k :: ks, G => (List.range (enT k G + 1)).flatMap fun t : Nat => (qgQ ks G).map fun l => (t : Int) :: l
theorem qd5 {k : Kw} {ks : List Kw} {G : Int} {l : List Int} (h : l ∈ qgQ (k :: ks) G) : ∃ (t : Nat) (l' : List Int), t <= enT k G /\ l' ∈ qgQ ks G /\ l = (t : Int) :: l' := by
 obtain ⟨t, ht, h2⟩ := List.mem_flatMap.mp h
 obtain ⟨l', hl', rfl⟩ := List.mem_map.mp h2
 exact ⟨t, l', by have := List.mem_range.mp ht; omega, hl', rfl⟩
theorem vZ : ∀ (ks : List Kw) (G : Int), (∀ k ∈ ks, qa9 k) -> ∀ l ∈ qgQ ks G, 0 <= zn ks l
 | [], G, _, l, h => by
  have : l = [] := List.mem_singleton.mp h
  subst this
  exact Int.le_refl _
 | k :: ks, G, hk, l, h => by
  obtain ⟨t, l', ht, hl', rfl⟩ := qd5 h
  have := vZ ks G (fun x hx => hk x (List.mem_cons_of_mem _ hx)) l' hl'
  have h2 : 0 <= (t : Int) * k.v := Int.mul_nonneg (by omega) (hk k List.mem_cons_self).2.1
  show 0 <= (t : Int) * k.v + zn ks l'
  omega
theorem qbD : ∀ (ks : List Kw) (G g : Int), (∀ k ∈ ks, qa9 k) -> 0 <= g -> g <= G -> ∀ l ∈ qgQ ks G, g <= zn ks l -> ∃ h, j4 ks g = some h /\ h <= qC ks l
 | [], G, g, _, h0, _, l, hl, hw => by
  have : l = [] := List.mem_singleton.mp hl
  subst this
  have hw : g <= 0 := hw
  have : g = 0 := by omega
  subst this
  exact ⟨0, by simp [j4], Int.le_refl _⟩
 | k :: ks, G, g, hk, h0, hG, l, hl, hw => by
  obtain ⟨t, l', ht, hl', rfl⟩ := qd5 hl
  have gk := hk k List.mem_cons_self
  have hks := fun x hx => hk x (List.mem_cons_of_mem k hx)
  have wp := vZ ks G hks l' hl'
  have hw : g <= (t : Int) * k.v + zn ks l' := hw
  show ∃ h, j4 (k :: ks) g = some h /\ h <= (t : Int) * k.w + qC ks l'
  by_cases hte : t <= enT k g
  ·obtain ⟨a, b⟩ := qgx gk h0 hG t
   obtain ⟨h', e', le'⟩ := qbD ks G (glf k t g) hks a (by omega) l' hl' (by unfold glf; omega)
   obtain ⟨h, e, le⟩ := wH hte e'
   exact ⟨h, e, by omega⟩
  ·have z := qj0 gk h0 (by omega) ht
   obtain ⟨h', e', le'⟩ := qbD ks G 0 hks (Int.le_refl _) (by omega) l' hl' wp
   rw [<- z] at e'
   obtain ⟨h, e, le⟩ := wH (Nat.le_refl _) e'
   have m : ((enT k g : Nat) : Int) * k.w <= (t : Int) * k.w := Int.mul_le_mul_of_nonneg_right (by omega) (by have := gk.1; omega)
   exact ⟨h, e, by omega⟩
theorem least_first : ∀ (ks : List Kw) (G g h : Int), (∀ k ∈ ks, qa9 k) -> 0 <= g -> g <= G -> j4 ks g = some h -> ∃ ud, (qgQ ks G).filter (fun l => decide (g <= zn ks l) && decide (qC ks l = h)) = qlR ks g :: ud
 | [], G, g, h, _, h0, _, e => by
  have : g = 0 /\ h = 0 := by
   unfold j4 at e
   split at e
   ·exact ⟨by assumption, (Option.some.inj e).symm⟩
   ·cases e
  obtain ⟨rfl, rfl⟩ := this
  exact ⟨[], rfl⟩
 | k :: ks, G, g, h, hk, h0, hG, e => by
  have gk := hk k List.mem_cons_self
  have hks := fun x hx => hk x (List.mem_cons_of_mem k hx)
  obtain ⟨h1, h2, h3⟩ := qhV e
  have hmono := qjZ gk hG
  obtain ⟨h', e', eh⟩ : ∃ h', j4 ks (glf k (leT k ks g) g) = some h' /\ (leT k ks g : Int) * k.w + h' = h := by
   unfold wwO at h2
   cases ec : j4 ks (glf k (leT k ks g) g) with
   | none => rw [ec] at h2; cases h2
   | some h' => rw [ec] at h2; exact ⟨h', rfl, Option.some.inj h2⟩
  obtain ⟨a, b⟩ := qgx gk h0 hG (leT k ks g)
  obtain ⟨ud, ih⟩ := least_first ks G _ h' hks a (by omega) e'
  have split : List.range (enT k G + 1) = List.range (leT k ks g) ++ (leT k ks g :: (List.range' (leT k ks g + 1) (enT k G - leT k ks g))) := by
   rw [List.range_eq_range', List.range_eq_range', <- List.range'_succ]
   have := List.range'_append_1 (s := 0) (m := leT k ks g) (n := enT k G - leT k ks g + 1)
   rw [Nat.zero_add] at this
   rw [this]
   congr 1
   omega
  simp only [qgQ]
  rw [split, List.flatMap_append, List.flatMap_cons, List.filter_append, List.filter_append]
  have z : ((List.range (leT k ks g)).flatMap fun t : Nat => (qgQ ks G).map fun l => (t : Int) :: l).filter (fun l => decide (g <= zn (k :: ks) l) && decide (qC (k :: ks) l = h)) = [] := by
   rw [List.filter_eq_nil_iff]
   intro l hl
   obtain ⟨t, ht, h4⟩ := List.mem_flatMap.mp hl
   obtain ⟨l', hl', rfl⟩ := List.mem_map.mp h4
   have ht := List.mem_range.mp ht
   have h5 := h3 t ht
   have wp := vZ ks G hks l' hl'
   intro hc
   rw [Bool.and_eq_true, decide_eq_true_eq, decide_eq_true_eq] at hc
   have hc1 : g <= (t : Int) * k.v + zn ks l' := hc.1
   have hc2 : (t : Int) * k.w + qC ks l' = h := hc.2
   obtain ⟨a2, b2⟩ := qgx gk h0 hG t
   obtain ⟨q, eq, leq⟩ := qbD ks G (glf k t g) hks a2 (by omega) l' hl' (by unfold glf; omega)
   obtain ⟨z, ez, lez⟩ := wH (k := k) (t := t) (by omega) eq
   rw [e] at ez
   cases ez
   refine h5 ?_
   unfold wwO
   rw [eq]
   show some ((t : Int) * k.w + q) = some h
   congr 1
   omega
  rw [z, List.nil_append, List.filter_map]
  have ee : (qgQ ks G).filter ((fun l => decide (g <= zn (k :: ks) l) && decide (qC (k :: ks) l = h)) ∘ (fun l => (leT k ks g : Int) :: l)) = (qgQ ks G).filter (fun l => decide (glf k (leT k ks g) g <= zn ks l) && decide (qC ks l = h')) := by
   refine List.filter_congr fun l hl => ?_
   have wp := vZ ks G hks l hl
   have e1 : zn (k :: ks) ((leT k ks g : Int) :: l) = (leT k ks g : Int) * k.v + zn ks l := rfl
   have e2 : qC (k :: ks) ((leT k ks g : Int) :: l) = (leT k ks g : Int) * k.w + qC ks l := rfl
   simp only [Function.comp_def, e1, e2, <- eh]
   congr 1
   ·rw [decide_eq_decide]
    unfold glf
    omega
   ·rw [decide_eq_decide]
    omega
  rw [ee, ih]
  exact ⟨_, rfl⟩
end L2.Sk.Law
namespace L2.Sk.Law
structure Sel (f : List Int -> Option Int) (le : Int -> Int -> Prop) : Prop where
 no : f [] = none
 is : ∀ l, l ≠ [] -> ∃ m, f l = some m /\ m ∈ l /\ ∀ x ∈ l, le m x
 add : ∀ {a b : Int} (c : Int), le a b -> le (c + a) (c + b)
 anti : ∀ {a b : Int}, le a b -> le b a -> a = b
 tr : ∀ {a b c : Int}, le a b -> le b c -> le a c
 rf : ∀ a : Int, le a a
def mxO : List Int -> Option Int
 | [] => none
 | a :: l => some (l.foldl max a)
theorem qgz : Sel mnO (fun a b => a <= b) := by
 refine ⟨rfl, fun l hl => ?_, fun c h => by omega, fun h1 h2 => by omega, fun h1 h2 => by omega, fun a => Int.le_refl _⟩
 cases l with
 | nil => exact absurd rfl hl
 | cons a l =>
  refine ⟨_, rfl, qgy rfl, fun x hx => ?_⟩
  obtain ⟨m, e, h⟩ := qiL hx
  have e : l.foldl min a = m := Option.some.inj e
  rw [e]
  exact h
theorem qc9 : Sel mxO (fun a b => b <= a) := by
 refine ⟨rfl, fun l hl => ?_, fun c h => by omega, fun h1 h2 => by omega, fun h1 h2 => by omega, fun a => Int.le_refl _⟩
 cases l with
 | nil => exact absurd rfl hl
 | cons a l => exact ⟨_, rfl, qjX (l := a :: l) (by simp), fun x hx => qlP (l := a :: l) hx⟩
section
variable {f : List Int -> Option Int} {le : Int -> Int -> Prop} (S : Sel f le)
theorem Sel.some_of (S : Sel f le) {l : List Int} {m : Int} (h : f l = some m) : m ∈ l /\ ∀ x ∈ l, le m x := by
 by_cases hl : l = []
 ·subst hl
  rw [S.no] at h
  cases h
 ·obtain ⟨m', e, h1, h2⟩ := S.is l hl
  rw [h] at e
  cases e
  exact ⟨h1, h2⟩
theorem Sel.mem_of (S : Sel f le) {l : List Int} {x : Int} (h : x ∈ l) : ∃ m, f l = some m /\ le m x := by
 obtain ⟨m, e, _, h2⟩ := S.is l (fun e => by rw [e] at h; cases h)
 exact ⟨m, e, h2 x h⟩
end
def fR (f : List Int -> Option Int) : List Kw -> Int -> Option Int
 | [], r => if r = 0 then some 0 else none
 | k :: ks, r => f ((List.range (ofn k r + 1)).filterMap fun t : Nat => (fR f ks (r - (t : Int) * k.w)).map fun h => (t : Int) * k.v + h)
def wF (f : List Int -> Option Int) (k : Kw) (ks : List Kw) (r : Int) (t : Nat) : Option Int := (fR f ks (r - (t : Int) * k.w)).map fun h => (t : Int) * k.v + h
theorem qbE (f : List Int -> Option Int) (k : Kw) (ks : List Kw) (r : Int) : fR f (k :: ks) r = f ((List.range (ofn k r + 1)).filterMap (wF f k ks r)) := by rw [fR]; rfl
theorem qgA {f : List Int -> Option Int} {le : Int -> Int -> Prop} (S : Sel f le) {k : Kw} {ks : List Kw} {r : Int} {t : Nat} (ht : t <= ofn k r) {h' : Int} (e : fR f ks (r - (t : Int) * k.w) = some h') : ∃ h, fR f (k :: ks) r = some h /\ le h ((t : Int) * k.v + h') := by
 rw [qbE]
 refine S.mem_of (List.mem_filterMap.mpr ⟨t, List.mem_range.mpr (by omega), ?_⟩)
 unfold wF
 rw [e]
 rfl
theorem qm5 {f : List Int -> Option Int} {le : Int -> Int -> Prop} (S : Sel f le) {k : Kw} {ks : List Kw} {r h : Int} (e : fR f (k :: ks) r = some h) : ∃ t, t <= ofn k r /\ wF f k ks r t = some h := by
 rw [qbE] at e
 obtain ⟨t, ht, et⟩ := List.mem_filterMap.mp (S.some_of e).1
 exact ⟨t, by have := List.mem_range.mp ht; omega, et⟩
def fT (f : List Int -> Option Int) (k : Kw) (ks : List Kw) (r : Int) : Nat := (List.range (ofn k r + 1)).findIdx fun t : Nat => decide (wF f k ks r t = fR f (k :: ks) r)
def v4 (f : List Int -> Option Int) : List Kw -> Int -> List Int
 | [], _ => []
 | k :: ks, r => (fT f k ks r : Int) :: v4 f ks (r - (fT f k ks r : Int) * k.w)
theorem qda {f : List Int -> Option Int} {le : Int -> Int -> Prop} (S : Sel f le) {k : Kw} {ks : List Kw} {r h : Int} (e : fR f (k :: ks) r = some h) : fT f k ks r <= ofn k r /\ wF f k ks r (fT f k ks r) = some h /\ ∀ t, t < fT f k ks r -> wF f k ks r t ≠ some h := by
 obtain ⟨t0, h0, e0⟩ := qm5 S e
 have hlt : fT f k ks r < (List.range (ofn k r + 1)).length := by
  unfold fT
  rw [List.findIdx_lt_length]
  exact ⟨t0, List.mem_range.mpr (by omega), decide_eq_true (by rw [e0, e])⟩
 rw [List.length_range] at hlt
 refine ⟨by omega, ?_, fun t ht => ?_⟩
 ·have := List.findIdx_getElem (xs := List.range (ofn k r + 1)) (p := fun t : Nat => decide (wF f k ks r t = fR f (k :: ks) r)) (w := by rw [List.length_range]; exact hlt)
  have := of_decide_eq_true this
  rw [List.getElem_range] at this
  exact this.trans e
 ·have hn := List.not_of_lt_findIdx (xs := List.range (ofn k r + 1)) (p := fun t : Nat => decide (wF f k ks r t = fR f (k :: ks) r)) (i := t) ht
  rw [List.getElem_range, e] at hn
  simpa using hn
theorem v5 {k : Kw} {ks : List Kw} {r : Int} {l : List Int} : l ∈ vz (k :: ks) r ↔ ∃ (t : Nat) (l' : List Int), t <= ofn k r /\ l' ∈ vz ks (r - (t : Int) * k.w) /\ l = (t : Int) :: l' := by
 constructor
 ·intro h
  obtain ⟨t, ht, h2⟩ := List.mem_flatMap.mp h
  obtain ⟨l', hl', rfl⟩ := List.mem_map.mp h2
  exact ⟨t, l', by have := List.mem_range.mp ht; omega, hl', rfl⟩
 ·rintro ⟨t, l', ht, hl', rfl⟩
  exact List.mem_flatMap.mpr ⟨t, List.mem_range.mpr (by omega), List.mem_map.mpr ⟨l', hl', rfl⟩⟩
theorem qj1 {f : List Int -> Option Int} {le : Int -> Int -> Prop} (S : Sel f le) : ∀ (ks : List Kw) (r : Int), ∀ l ∈ vz ks r, qC ks l = r -> ∃ h, fR f ks r = some h /\ le h (zn ks l)
 | [], r, l, hl, hw => by
  have : l = [] := List.mem_singleton.mp hl
  subst this
  have hw : (0 : Int) = r := hw
  subst hw
  exact ⟨0, by simp [fR], S.rf _⟩
 | k :: ks, r, l, hl, hw => by
  obtain ⟨t, l', ht, hl', rfl⟩ := v5.mp hl
  have hw : (t : Int) * k.w + qC ks l' = r := hw
  obtain ⟨h', e', le'⟩ := qj1 S ks _ l' hl' (by omega)
  obtain ⟨h, e, q⟩ := qgA S ht e'
  exact ⟨h, e, S.tr q (S.add _ le')⟩
theorem qd6 {f : List Int -> Option Int} {le : Int -> Int -> Prop} (S : Sel f le) : ∀ (ks : List Kw) (r h : Int), fR f ks r = some h -> ∃ ud, (vz ks r).filter (fun l => decide (qC ks l = r) && decide (zn ks l = h)) = v4 f ks r :: ud
 | [], r, h, e => by
  have : r = 0 /\ h = 0 := by
   unfold fR at e
   split at e
   ·exact ⟨by assumption, (Option.some.inj e).symm⟩
   ·cases e
  obtain ⟨rfl, rfl⟩ := this
  exact ⟨[], rfl⟩
 | k :: ks, r, h, e => by
  obtain ⟨h1, h2, h3⟩ := qda S e
  obtain ⟨h', e', eh⟩ : ∃ h', fR f ks (r - (fT f k ks r : Int) * k.w) = some h' /\ (fT f k ks r : Int) * k.v + h' = h := by
   unfold wF at h2
   cases ec : fR f ks (r - (fT f k ks r : Int) * k.w) with
   | none => rw [ec] at h2; cases h2
   | some h' => rw [ec] at h2; exact ⟨h', rfl, Option.some.inj h2⟩
  obtain ⟨ud, ih⟩ := qd6 S ks _ h' e'
  have split : List.range (ofn k r + 1) = List.range (fT f k ks r) ++ (fT f k ks r :: (List.range' (fT f k ks r + 1) (ofn k r - fT f k ks r))) := by
   rw [List.range_eq_range', List.range_eq_range', <- List.range'_succ]
   have := List.range'_append_1 (s := 0) (m := fT f k ks r) (n := ofn k r - fT f k ks r + 1)
   rw [Nat.zero_add] at this
   rw [this]
   congr 1
   omega
  simp only [vz]
  rw [split, List.flatMap_append, List.flatMap_cons, List.filter_append, List.filter_append]
  have z : ((List.range (fT f k ks r)).flatMap fun t : Nat => (vz ks (r - (t : Int) * k.w)).map fun l => (t : Int) :: l).filter (fun l => decide (qC (k :: ks) l = r) && decide (zn (k :: ks) l = h)) = [] := by
   rw [List.filter_eq_nil_iff]
   intro l hl
   obtain ⟨t, ht, h4⟩ := List.mem_flatMap.mp hl
   obtain ⟨l', hl', rfl⟩ := List.mem_map.mp h4
   have ht := List.mem_range.mp ht
   have h5 := h3 t ht
   intro hc
   rw [Bool.and_eq_true, decide_eq_true_eq, decide_eq_true_eq] at hc
   have hc1 : (t : Int) * k.w + qC ks l' = r := hc.1
   have hc2 : (t : Int) * k.v + zn ks l' = h := hc.2
   obtain ⟨q, eq, leq⟩ := qj1 S ks _ l' hl' (show qC ks l' = r - (t : Int) * k.w by omega)
   obtain ⟨z, ez, lez⟩ := qgA S (k := k) (t := t) (show t <= ofn k r by omega) eq
   rw [e] at ez
   cases ez
   refine h5 ?_
   unfold wF
   rw [eq]
   show some ((t : Int) * k.v + q) = some h
   congr 1
   have : le ((t : Int) * k.v + q) ((t : Int) * k.v + zn ks l') := S.add _ leq
   rw [hc2] at this
   exact S.anti this lez
  rw [z, List.nil_append, List.filter_map]
  have ee : (fun l => decide (qC (k :: ks) l = r) && decide (zn (k :: ks) l = h)) ∘ (fun l => (fT f k ks r : Int) :: l) = (fun l => decide (qC ks l = r - (fT f k ks r : Int) * k.w) && decide (zn ks l = h')) := by
   funext l
   have e1 : zn (k :: ks) ((fT f k ks r : Int) :: l) = (fT f k ks r : Int) * k.v + zn ks l := rfl
   have e2 : qC (k :: ks) ((fT f k ks r : Int) :: l) = (fT f k ks r : Int) * k.w + qC ks l := rfl
   simp only [Function.comp_def, e1, e2, <- eh]
   congr 1
   ·rw [decide_eq_decide]
    omega
   ·rw [decide_eq_decide]
    omega
  rw [ee, ih]
  exact ⟨_, rfl⟩
def qiM : List Kw -> List Int -> Prop
 | [], [] => True
 | k :: ks, t :: l => 0 <= t /\ (∀ j, k.m = some j -> t <= j) /\ qiM ks l
 | _, _ => False
theorem qgB : ∀ (ks : List Kw) (l : List Int), qiM ks l -> ks.length = l.length
 | [], [], _ => rfl
 | k :: ks, t :: l, h => by rw [List.length_cons, List.length_cons, qgB ks l h.2.2]
 | [], t :: l, h => h.elim
 | k :: ks, [], h => h.elim
theorem qbb : ∀ (ks : List Kw) (l : List Int), (∀ k ∈ ks, qaD k) -> qiM ks l -> 0 <= qC ks l
 | [], [], _, _ => Int.le_refl _
 | k :: ks, t :: l, hk, h => by
  have := qbb ks l (fun x hx => hk x (List.mem_cons_of_mem _ hx)) h.2.2
  have h2 : 0 <= t * k.w := Int.mul_nonneg h.1 (by have := (hk k List.mem_cons_self).1; omega)
  show 0 <= t * k.w + qC ks l
  omega
 | [], t :: l, _, h => h.elim
 | k :: ks, [], _, h => h.elim
theorem v6 : ∀ (ks : List Kw) (r : Int) (l : List Int), (∀ k ∈ ks, qaD k) -> 0 <= r -> qC ks l = r -> (l ∈ vz ks r ↔ qiM ks l)
 | [], r, l, _, _, _ => by
  cases l with
  | nil => exact ⟨fun _ => trivial, fun _ => List.mem_singleton.mpr rfl⟩
  | cons a l => exact ⟨(fun h => by have := List.mem_singleton.mp h; cases this), fun h => h.elim⟩
 | k :: ks, r, [], _, _, _ => ⟨(fun h => by obtain ⟨t, l', _, _, e⟩ := v5.mp h; cases e), fun h => h.elim⟩
 | k :: ks, r, t :: l, hk, h0, hw => by
  have gk := hk k List.mem_cons_self
  have hks := fun x hx => hk x (List.mem_cons_of_mem k hx)
  have hw : t * k.w + qC ks l = r := hw
  constructor
  ·intro h
   obtain ⟨n, l', hn, hl', e⟩ := v5.mp h
   obtain ⟨rfl, rfl⟩ := List.cons.inj e
   have ok := qc8 gk.1 gk.2 h0 n
   rw [decide_eq_true hn] at ok
   unfold okT at ok
   rw [Bool.and_eq_true, decide_eq_true_eq] at ok
   refine ⟨by omega, fun j ej => ?_, (v6 ks _ l hks (by have := ok.1; omega) (by omega)).mp hl'⟩
   have := ok.2
   rw [ej] at this
   exact of_decide_eq_true this
  ·intro h
   have wn := qbb ks l hks h.2.2
   have ht : ((t.toNat : Nat) : Int) = t := by have := h.1; omega
   refine v5.mpr ⟨t.toNat, l, ?_, ?_, by rw [ht]⟩
   ·have ok : okT k t.toNat r = true := by
     unfold okT
     rw [Bool.and_eq_true, decide_eq_true_eq, ht]
     refine ⟨by omega, ?_⟩
     cases em : k.m with
     | none => rfl
     | some j => exact decide_eq_true (h.2.1 j em)
    rw [qc8 gk.1 gk.2 h0] at ok
    exact of_decide_eq_true ok
   ·rw [ht]
    exact (v6 ks _ l hks (by omega) (by omega)).mpr h.2.2
theorem qd7 (k : Kw) (t : Int) : ∀ (ks : List Kw) (l : List Int), qiM ks l -> 0 <= t -> (∀ j, k.m = some j -> t <= j) -> qiM (ks ++ [k]) (l ++ [t])
 | [], [], _, h1, h2 => ⟨h1, h2, trivial⟩
 | a :: ks, b :: l, h, h1, h2 => ⟨h.1, h.2.1, qd7 k t ks l h.2.2 h1 h2⟩
 | [], b :: l, h, _, _ => h.elim
 | a :: ks, [], h, _, _ => h.elim
theorem qgC : ∀ (ks : List Kw) (l : List Int), qiM ks l -> qiM ks.reverse l.reverse /\ qC ks.reverse l.reverse = qC ks l /\ zn ks.reverse l.reverse = zn ks l
 | [], [], _ => ⟨trivial, rfl, rfl⟩
 | k :: ks, t :: l, h => by
  obtain ⟨a, b, c⟩ := qgC ks l h.2.2
  have ln := qgB _ _ a
  rw [List.reverse_cons, List.reverse_cons]
  refine ⟨qd7 k t _ _ a h.1 h.2.1, ?_, ?_⟩
  ·rw [wT k t _ _ ln, b]
   show qC ks l + t * k.w = t * k.w + qC ks l
   omega
  ·rw [qaC k t _ _ ln, c]
   show zn ks l + t * k.v = t * k.v + zn ks l
   omega
 | [], t :: l, h => h.elim
 | k :: ks, [], h => h.elim
theorem qj2 {f : List Int -> Option Int} {le : Int -> Int -> Prop} (S : Sel f le) {ks : List Kw} {r h : Int} (e : fR f ks r = some h) : v4 f ks r ∈ vz ks r /\ qC ks (v4 f ks r) = r /\ zn ks (v4 f ks r) = h := by
 obtain ⟨ud, q⟩ := qd6 S ks r h e
 have : v4 f ks r ∈ (vz ks r).filter (fun l => decide (qC ks l = r) && decide (zn ks l = h)) := by rw [q]; exact List.mem_cons_self
 obtain ⟨a, b⟩ := List.mem_filter.mp this
 rw [Bool.and_eq_true, decide_eq_true_eq, decide_eq_true_eq] at b
 exact ⟨a, b.1, b.2⟩
theorem qdb {f : List Int -> Option Int} {le : Int -> Int -> Prop} (S : Sel f le) {ks : List Kw} (hk : ∀ k ∈ ks, qaD k) {r : Int} (h0 : 0 <= r) {h : Int} (e : fR f ks r = some h) : ∃ h', fR f ks.reverse r = some h' /\ le h' h := by
 obtain ⟨a, b, c⟩ := qj2 S e
 have v := (v6 ks r _ hk h0 b).mp a
 obtain ⟨v1, v2, v3⟩ := qgC ks _ v
 have hkr : ∀ k ∈ ks.reverse, qaD k := fun k hx => hk k (List.mem_reverse.mp hx)
 obtain ⟨h', e', q⟩ := qj1 S ks.reverse r _ ((v6 ks.reverse r _ hkr h0 (v2.trans b)).mpr v1) (v2.trans b)
 rw [v3, c] at q
 exact ⟨h', e', q⟩
theorem qlS {f : List Int -> Option Int} {le : Int -> Int -> Prop} (S : Sel f le) {ks : List Kw} (hk : ∀ k ∈ ks, qaD k) {r : Int} (h0 : 0 <= r) : fR f ks.reverse r = fR f ks r := by
 have hkr : ∀ k ∈ ks.reverse, qaD k := fun k hx => hk k (List.mem_reverse.mp hx)
 cases e : fR f ks r with
 | some h =>
  obtain ⟨h', e', q⟩ := qdb S hk h0 e
  obtain ⟨h2, e2, q2⟩ := qdb S hkr h0 e'
  rw [List.reverse_reverse, e] at e2
  cases e2
  rw [e', S.anti q q2]
 | none =>
  cases e' : fR f ks.reverse r with
  | none => rfl
  | some h' =>
   obtain ⟨h2, e2, q2⟩ := qdb S hkr h0 e'
   rw [List.reverse_reverse, e] at e2
   cases e2
end L2.Sk.Law
namespace L2.Sk
namespace Law
open PySem PySem.Spec PyProof.Rows
def top (i : Nat) : Stmt := PySem.Challenge.pw_sackloads_k54_full_refused.main.body.getD i (.Pass ⟨0, 0, 0, 0⟩)
abbrev jo : Stmt := top 22
abbrev ya : Stmt := top 35
abbrev jC : Stmt := top 37
abbrev qW : Stmt := top 39
abbrev yb : Stmt := top 33
abbrev yS : Stmt := top 16
abbrev yT : Stmt := top 17
abbrev z6 : Stmt := top 21
abbrev uu : Stmt := top 18
abbrev yc : Stmt := top 19
abbrev z7 : Stmt := top 20
abbrev z8 : Stmt := top 34
abbrev uF : Stmt := top 40
abbrev zI : Stmt := top 41
abbrev z9 : Stmt := top 42
abbrev zo : Stmt := top 43
abbrev jI : Stmt := top 36
abbrev qX : Stmt := top 44
abbrev jD : Stmt := top 45
abbrev zy : Stmt := top 46
abbrev qQ : Stmt := top 47
abbrev qY : Stmt := top 48
abbrev qaG : Stmt := top 49
abbrev yd : Stmt := top 30
abbrev qO : Stmt := top 51
abbrev qU : Stmt := top 24
abbrev zg : Stmt := top 50
abbrev ja : Stmt := top 28
abbrev zf : Stmt := top 27
abbrev qD : Stmt := top 29
abbrev zA : Stmt := top 52
abbrev jb : Stmt := top 53
abbrev jc : Stmt := top 60
abbrev zB : Stmt := top 58
abbrev jd : Stmt := top 59
abbrev jE : Stmt := top 61
abbrev ye : Stmt := top 56
abbrev zF : Stmt := top 57
abbrev yU : Stmt := top 55
abbrev v7 : Stmt := top 62
structure Txt (K : PySem.W.Frag) (mg : Str -> Option Value) : Prop where
 b_ValueError : mg "ValueError" = none
 b_all : mg "all" = none
 b_any : mg "any" = none
 b_bool : mg "bool" = none
 b_divmod : mg "divmod" = none
 b_enumerate : mg "enumerate" = none
 b_int : mg "int" = none
 b_isinstance : mg "isinstance" = none
 b_len : mg "len" = none
 b_max : mg "max" = none
 b_min : mg "min" = none
 b_range : mg "range" = none
 b_reversed : mg "reversed" = none
 b_sum : mg "sum" = none
 b_tuple : mg "tuple" = none
 c_ASKED_AT_MOST : ∃ t, mg "ASKED_AT_MOST" = some (.int 200 t)
 c_KINDS_AT_MOST : ∃ t, mg "KINDS_AT_MOST" = some (.int 12 t)
 c_MOST : ∃ t, mg "MOST" = some (.int 2 t)
 c_WEIGHT : ∃ t, mg "WEIGHT" = some (.int 0 t)
 c_WEIGHT_AT_MOST : ∃ t, mg "WEIGHT_AT_MOST" = some (.int 20 t)
 c_WORTH : ∃ t, mg "WORTH" = some (.int 1 t)
def RN : List Str := ["TooMany", "NoNumber", "NoStore", "NotEndless"]
def TN : List Str := ["SackError", "NoText", "NoLine", "NoKind", "NotEndless", "NotSingle", "TooMany", "NoLoad", "NoNumber", "NoStore"]
noncomputable def yN : MS :=
  (zr (jL 2 (d2 qfn (dv 1) (d2 ixD (dv 0) (ret (.int 0)))))
  (yq (dif (tst (d2 isN (d2 ixD (dv 0) (ret (.int 2))) (ret .non))) (dv 2) (yK qb8 (qb (dv 2) (qb (d2 ixD (dv 0) (ret (.int 2))) (ret [])))))))
noncomputable def jR : List D -> R D := dfn 3 2 yN
noncomputable def uG : MS :=
  (yq (d2 qjf (dv 2) (d2 yM (dv 1) (d2 ixD (dv 0) (ret (.int 0))))))
noncomputable def zN : List D -> R D := dfn 3 3 uG
noncomputable def uH : MS :=
  (yq (yK qk0 (qb (qV 1 [1, 0, 2] none (zC (qb (d2 jw (qj jR (qb (dv 0) (qb (dv 2) (ret [])))) (ret (.int 1))) (ret []))) (qs 0) (ret true) (d2 ixD (dv 1) (qj zN (qb (dv 2) (qb (dv 0) (qb (dv 3) (ret []))))))) (ret []))))
noncomputable def yf : List D -> R D := dfn 3 3 uH
noncomputable def jx : MS :=
  (zr (jL 2 (d2 jw (zP (qb (ret (.int 1)) (ret []))) (d2 yM (zP (qb (ret (.int 0)) (ret []))) (dv 1))))
  (zr (qen (qaO (dv 0)) (qs 3) (jL 2 (qV 1 [3, 2] none (zC (qb (d2 jw (dv 1) (ret (.int 1))) (ret []))) (qs 0) (ret true) (qj yf (qb (dv 1) (qb (dv 2) (qb (dv 0) (ret []))))))))
  (yq (dv 2))))
noncomputable def qZ : List D -> R D := dfn 4 2 jx
noncomputable def uv : MS :=
  (sif (tst (d2 gtD (dv 0) (ret (.int 200)))) (wR "TooMany" (qb (ret (.str "a room or a worth greater than 200 is asked for")) (ret []))) wv)
noncomputable def yV : List D -> R D := ur 1 1 uv
noncomputable def vg : MS :=
  (yq (qjc (qjm "int" (dv 0)) (qmc (qjm "bool" (dv 0)))))
noncomputable def vh : List D -> R D := dfn 1 1 vg
noncomputable def vi : MS :=
  (yq (qjc (qj vh (qb (dv 0) (ret []))) (d2 geD (dv 0) (ret (.int 0)))))
noncomputable def yg : List D -> R D := dfn 1 1 vi
noncomputable def yt : MS :=
  (sif (qeT (tst (qj yg (qb (dv 0) (ret []))))) (wR "NoNumber" (qb (ret (.str "this is no whole number from 0 on")) (ret []))) wv)
noncomputable def jJ : List D -> R D := ur 1 1 yt
noncomputable def v8 : MS :=
  (zr (sif (tor (qeT (tst (qjm "tuple" (dv 0)))) (tst (d2 neB (yK qfp (qb (dv 0) (ret []))) (ret (.int 3))))) (yq (ret (.bl false))) wv)
  (zr (sif (tor (qeT (tst (qj yg (qb (d2 ixD (dv 0) (ret (.int 0))) (ret []))))) (tst (d2 eqB (d2 ixD (dv 0) (ret (.int 0))) (ret (.int 0))))) (yq (ret (.bl false))) wv)
  (yq (qjc (qj yg (qb (d2 ixD (dv 0) (ret (.int 1))) (ret []))) (dor (d2 isN (d2 ixD (dv 0) (ret (.int 2))) (ret .non)) (qj yg (qb (d2 ixD (dv 0) (ret (.int 2))) (ret []))))))))
noncomputable def u7 : List D -> R D := dfn 1 1 v8
noncomputable def vj : MS :=
  (zr (sif (tor (qeT (tst (qjm "tuple" (dv 0)))) (tst (d2 gtD (yK qfp (qb (dv 0) (ret []))) (ret (.int 12))))) (yq (ret (.bl false))) wv)
  (yq (yK qjn (qb (qV 1 [] none (qaO (dv 0)) (qs 0) (ret true) (qj u7 (qb (dv 0) (ret [])))) (ret [])))))
noncomputable def vk : List D -> R D := dfn 1 1 vj
noncomputable def yu : MS :=
  (sif (qeT (tst (qj vk (qb (dv 0) (ret []))))) (wR "NoStore" (qb (ret (.str "this is no store")) (ret []))) wv)
noncomputable def zJ : List D -> R D := ur 1 1 yu
noncomputable def je : MS :=
  (zr (zL (zm RN zJ (qb (dv 0) (ret []))))
  (zr (zL (zm RN jJ (qb (dv 1) (ret []))))
  (zL (zm RN yV (qb (dv 1) (ret []))))))
noncomputable def qu : List D -> R D := ur 2 2 je
noncomputable def v9 : MS :=
  (zr (zL (zm RN qu (qb (dv 0) (qb (dv 1) (ret [])))))
  (yq (d2 gtD (d2 ixD (qj qZ (qb (dv 0) (qb (dv 1) (ret [])))) (dv 1)) (ret (.int 0)))))
noncomputable def wd : List D -> R D := ur 2 2 v9
noncomputable def yv : MS :=
  (zr (zL (zm RN qu (qb (dv 0) (qb (dv 1) (ret [])))))
  (yq (qV 2 [] none (qax (qb (qj qZ (qb (dv 0) (qb (dv 1) (ret [])))) (ret []))) (qeV 2 (uc (qs 0) (uc (qs 1) qeU))) (tst (d2 gtD (dv 1) (ret (.int 0)))) (dv 0))))
noncomputable def yw : List D -> R D := ur 2 2 yv
noncomputable def yx : MS :=
  (zr (zL (zm RN qu (qb (dv 0) (qb (dv 1) (ret [])))))
  (yq (d2 ixD (qj qZ (qb (dv 0) (qb (dv 1) (ret [])))) (dv 1))))
noncomputable def yy : List D -> R D := ur 2 2 yx
noncomputable def jS : MS :=
  (zr (jL 3 (qj jR (qb (dv 0) (qb (dv 2) (ret [])))))
  (yq (qV 1 [1, 0, 2] none (zC (qb (d2 jw (dv 3) (ret (.int 1))) (ret []))) (qs 0) (tst (d2 qme (d2 ixD (dv 1) (qj zN (qb (dv 2) (qb (dv 0) (qb (dv 3) (ret [])))))) (ret .non))) (dv 0))))
noncomputable def jf : List D -> R D := dfn 4 3 jS
noncomputable def uf : MS :=
  (yq (d2 jw (d2 yM (dv 1) (d2 ixD (dv 0) (ret (.int 1)))) (d2 ixD (dv 2) (qj zN (qb (dv 0) (qb (dv 1) (qb (dv 3) (ret []))))))))
noncomputable def jg : List D -> R D := dfn 4 4 uf
noncomputable def jy : MS :=
  (yq (qV 1 [0, 1, 2] none (qaO (qj jf (qb (dv 0) (qb (dv 1) (qb (dv 2) (ret [])))))) (qs 0) (ret true) (qj jg (qb (dv 1) (qb (dv 0) (qb (dv 2) (qb (dv 3) (ret []))))))))
noncomputable def qG : List D -> R D := dfn 3 3 jy
noncomputable def uI : MS :=
  (zr (qaR 2 (qhH (qb (d2 jw (zP (qb (ret (.int 0)) (ret []))) (d2 yM (zP (qb (ret .non) (ret []))) (dv 1))) (ret []))))
  (zr (qen (qlJ (qb (dv 0) (ret []))) (qs 3) (zL (u3 2 (qV 1 [3, 2] (some (2, 2)) (zC (qb (d2 jw (dv 1) (ret (.int 1))) (ret []))) (qs 0) (ret true) (uZ qc4 (qb (qj qG (qb (dv 1) (qb (qgN 2 (ret (.int 0))) (qb (dv 0) (ret []))))) (ret [])) (qb (ret .non) (ret [])))))))
  (qjq 2)))
noncomputable def yh : List D -> R D := dfn 4 2 uI
noncomputable def js : MS :=
  (zr (zL (zm RN qu (qb (dv 0) (qb (dv 1) (ret [])))))
  (yq (d2 ixD (d2 ixD (qj yh (qb (dv 0) (qb (dv 1) (ret [])))) (ret (.int 0))) (dv 1))))
noncomputable def jt : List D -> R D := ur 2 2 js
noncomputable def jh : MS :=
  (zr (zL (zm RN qu (qb (dv 0) (qb (dv 1) (ret [])))))
  (zr (jL 2 (d2 jw (zP (qb (ret (.int 0)) (ret []))) (d2 yM (zP (qb (ret .non) (ret []))) (dv 1))))
  (zr (qen (qaO (dv 0)) (qs 3) (jL 2 (qV 1 [3, 2] none (zC (qb (d2 jw (dv 1) (ret (.int 1))) (ret []))) (qs 0) (ret true) (uZ qc5 (qb (qj qG (qb (dv 1) (qb (dv 2) (qb (dv 0) (ret []))))) (ret [])) (qb (ret .non) (ret []))))))
  (yq (d2 ixD (dv 2) (dv 1))))))
noncomputable def ji : List D -> R D := ur 4 2 jh
noncomputable def jz : MS :=
  (zr (jL 4 (qj jf (qb (dv 0) (qb (dv 2) (qb (dv 3) (ret []))))))
  (yq (d2 ixD (qV 1 [1, 0, 2, 3] none (qaO (dv 4)) (qs 0) (tst (d2 eqB (qj jg (qb (dv 2) (qb (dv 0) (qb (dv 3) (qb (dv 4) (ret [])))))) (dv 1))) (dv 0)) (ret (.int 0)))))
noncomputable def zv : List D -> R D := dfn 5 4 jz
noncomputable def qbc : MS :=
  (zr (zL (zm RN qu (qb (dv 0) (qb (dv 1) (ret [])))))
  (zr (jL 2 (qj yh (qb (dv 0) (qb (dv 1) (ret [])))))
  (zr (sif (tst (d2 isN (d2 ixD (d2 ixD (dv 2) (ret (.int 0))) (dv 1)) (ret .non))) (yq (ret .non)) wv)
  (zr (qaR 3 (qk9 (ret [])))
  (zr (jL 4 (dv 1))
  (zr (qen (qfT (qb (dv 0) (ret []))) (qeV 2 (uc (qs 5) (uc (qs 6) qeU))) (zr (jL 7 (qj zv (qb (dv 6) (qb (d2 ixD (d2 ixD (dv 2) (dv 5)) (dv 4)) (qb (d2 ixD (dv 2) (d2 jw (dv 5) (ret (.int 1)))) (qb (dv 4) (ret [])))))))
  (zr (zL (uB 3 (dv 7)))
  (jL 4 (qj zN (qb (dv 6) (qb (dv 7) (qb (dv 4) (ret [])))))))))
  (yq (qfy 3))))))))
noncomputable def qct : List D -> R D := ur 8 2 qbc
noncomputable def wJ : MS :=
  (yq (yK qjG (qb (qV 1 [] none (qaO (dv 0)) (qs 0) (ret true) (d2 ixD (dv 0) (ret (.int 0)))) (ret []))))
noncomputable def uw : List D -> R D := dfn 1 1 wJ
noncomputable def uJ : MS :=
  (zr (jL 1 (yK qmX (qb (qV 1 [] none (qaO (dv 0)) (qs 0) (ret true) (d2 ixD (dv 0) (ret (.int 0)))) (ret []))))
  (zr (qaR 2 (qk9 (qb (ret (.bl true)) (ret []))))
  (zr (qen (qlx (qb (ret (.int 1)) (qb (d2 yM (dv 1) (qj uw (qb (dv 0) (ret [])))) (ret [])))) (qs 3) (zL (uB 2 (yK qmO (qb (qV 1 [3, 2] (some (2, 2)) (qaO (dv 0)) (qs 0) (ret true) (qjc (d2 leD (d2 ixD (dv 0) (ret (.int 0))) (dv 1)) (qgN 2 (d2 qjf (dv 1) (d2 ixD (dv 0) (ret (.int 0))))))) (ret []))))))
  (yq (qmg (qht (qlv 2 [] none (qax (qb (dv 2) (ret []))) (qeV 2 (uc (qs 0) (uc (qs 1) qeU))) (qeT (tst (dv 1))) (dv 0))))))))
noncomputable def uK : List D -> R D := dfn 4 1 uJ
noncomputable def zV : MS :=
  (zr (qa1 (tst (d2 gtD (dv 1) (ret (.int 0)))) (zr (jL 2 (d2 qb7 (dv 0) (dv 1)))
  (zr (jL 0 (dv 1))
  (jL 1 (dv 2)))))
  (yq (dv 0)))
noncomputable def zW : List D -> R D := dfn 3 2 zV
noncomputable def jp : MS :=
  (zr (jL 1 (ret (.int 0)))
  (zr (qen (qaO (dv 0)) (qs 2) (jL 1 (qj zW (qb (dv 1) (qb (d2 ixD (dv 2) (ret (.int 0))) (ret []))))))
  (yq (dv 1))))
noncomputable def zG : List D -> R D := dfn 3 1 jp
noncomputable def ug : MS :=
  (sif (tst (d2 gtD (qj uw (qb (dv 0) (ret []))) (ret (.int 20)))) (wR "TooMany" (qb (ret (.str "a weight is greater than 20")) (ret []))) wv)
noncomputable def uh : List D -> R D := ur 1 1 ug
noncomputable def uk : MS :=
  (sif (tor (tst (d2 eqB (dv 0) (jm (ret [])))) (qeT (tst (yK qjn (qb (qV 1 [] none (qaO (dv 0)) (qs 0) (ret true) (d2 isN (d2 ixD (dv 0) (ret (.int 2))) (ret .non))) (ret [])))))) (wR "NotEndless" (qb (ret (.str "there is no kind, or one that is not without end")) (ret []))) wv)
noncomputable def ym : List D -> R D := ur 1 1 uk
noncomputable def qL : MS :=
  (zr (zL (zm RN zJ (qb (dv 0) (ret []))))
  (zr (zL (zm RN ym (qb (dv 0) (ret []))))
  (zL (zm RN uh (qb (dv 0) (ret []))))))
noncomputable def qo : List D -> R D := ur 1 1 qL
noncomputable def ju : MS :=
  (zr (zL (zm RN qo (qb (dv 0) (ret []))))
  (zr (jL 1 (qj zG (qb (dv 0) (ret []))))
  (zr (sif (tst (d2 gtD (dv 1) (ret (.int 1)))) (yq (jm (qb (ret (.str "ever")) (qb (dv 1) (ret []))))) wv)
  (zr (jL 2 (qj uK (qb (dv 0) (ret []))))
  (yq (dif (tst (d2 eqB (dv 2) (zP (ret [])))) (jm (qb (ret (.str "none")) (ret []))) (jm (qb (ret (.str "last")) (qb (d2 ixD (dv 2) (d1 qhi (ret (.int 1)))) (ret []))))))))))
noncomputable def jv : List D -> R D := ur 3 1 ju
noncomputable def yz : MS :=
  (zr (zL (zm RN qo (qb (dv 0) (ret []))))
  (yq (dif (tst (d2 gtD (qj zG (qb (dv 0) (ret []))) (ret (.int 1)))) (ret .non) (yK qfp (qb (qj uK (qb (dv 0) (ret []))) (ret []))))))
noncomputable def yA : List D -> R D := ur 1 1 yz
noncomputable def jj : MS :=
  (sif (tst (d2 eqB (dv 0) (ret (.int 0)))) (zL (zm RN wd (qb (dv 1) (qb (dv 2) (ret []))))) (sif (tst (d2 eqB (dv 0) (ret (.int 1)))) (zL (zm RN yw (qb (dv 1) (qb (dv 2) (ret []))))) (sif (tst (d2 eqB (dv 0) (ret (.int 2)))) (zL (zm RN yy (qb (dv 1) (qb (dv 2) (ret []))))) (sif (tst (d2 eqB (dv 0) (ret (.int 3)))) (zL (zm RN jt (qb (dv 1) (qb (dv 2) (ret []))))) (sif (tst (d2 eqB (dv 0) (ret (.int 4)))) (zL (zm RN ji (qb (dv 1) (qb (dv 2) (ret []))))) (sif (tst (d2 eqB (dv 0) (ret (.int 5)))) (zL (zm RN qct (qb (dv 1) (qb (dv 2) (ret []))))) (sif (tst (d2 eqB (dv 0) (ret (.int 6)))) (zL (zm RN jv (qb (dv 1) (ret [])))) (zL (zm RN yA (qb (dv 1) (ret [])))))))))))
noncomputable def qM : List D -> R D := ur 3 3 jj
noncomputable def ul : MS :=
  (zr (jL 1 (zP (qb (qcK RN "NoStore" (dv 0)) (qb (qcK RN "NoNumber" (dv 0)) (qb (qcK RN "NoLoad" (dv 0)) (qb (qcK RN "TooMany" (dv 0)) (ret [])))))))
  (zr (jL 1 (d2 jw (dv 1) (zP (qb (qcK RN "NotSingle" (dv 0)) (qb (qcK RN "NotEndless" (dv 0)) (qb (qcK RN "NoKind" (dv 0)) (ret [])))))))
  (yq (d2 jw (dv 1) (zP (qb (qcK RN "NoLine" (dv 0)) (qb (qcK RN "NoText" (dv 0)) (ret []))))))))
noncomputable def vA : List D -> R D := dfn 2 1 ul
noncomputable def vH : MS :=
  (zr (sif (tor (qeT (tst (qcK RN "SackError" (dv 0)))) (qeT (tst (qcK RN "ValueError" (dv 0))))) (yq (ret (.bl false))) wv)
  (yq (d2 eqB (qj vA (qb (dv 0) (ret []))) (qV 1 [1] none (zC (qb (ret (.int 9)) (ret []))) (qs 0) (ret true) (d2 eqB (dv 0) (dv 1))))))
noncomputable def jF : List D -> R D := dfn 2 2 vH
noncomputable def y7 : MS :=
  (zr (qaw RN 4 3 (zL (zm RN qM (qb (dv 0) (qb (dv 1) (qb (dv 2) (ret [])))))) (qV 1 [3] none (zC (qb (ret (.int 9)) (ret []))) (qs 0) (tst (qj jF (qb (dv 1) (qb (dv 0) (ret []))))) (dv 0)))
  (yq (zP (ret []))))
noncomputable def ql : List D -> R D := dfn 4 3 y7
noncomputable def uL : MS :=
  (zr (qmd (yK qam (qb (qgN 0 (ret (.int 0))) (qb (dv 1) (ret [])))) (qeV 2 (uc (qs 2) (uc (qs 3) qeU))))
  (zr (qhg 0 (ret (.int 0)) (dv 2))
  (yq (dv 3))))
noncomputable def qk : List D -> List D -> R (D × List D) := qbn 4 2 uL
noncomputable def jT : MS :=
  (zr (jL 1 (zP (qb (ret .non) (qb (zP (qb (jm (qb (ret (.int 1)) (qb (ret (.int 1)) (qb (ret (.int 1)) (ret []))))) (ret []))) (qb (jm (qb (ret (.int 1)) (qb (ret (.int 1)) (qb (ret (.int 1)) (ret []))))) (qb (jm (qb (jm (qb (ret (.int 0)) (qb (ret (.int 1)) (qb (ret (.int 1)) (ret []))))) (ret []))) (qb (jm (qb (jm (qb (ret (.int 1)) (qb (d1 qhi (ret (.int 1))) (qb (ret (.int 1)) (ret []))))) (ret []))) (qb (jm (qb (jm (qb (ret (.int 1)) (qb (ret (.int 1)) (qb (d1 qhi (ret (.int 1))) (ret []))))) (ret []))) (qb (jm (qb (jm (qb (ret (.int 1)) (qb (ret (.int 1)) (ret [])))) (ret []))) (qb (jm (qb (jm (qb (ret (.bl true)) (qb (ret (.int 1)) (qb (ret (.int 1)) (ret []))))) (ret []))) (ret [])))))))))))
  (zr (jL 1 (d2 jw (dv 1) (zP (qb (jm (qb (jm (qb (ret (.int 1)) (qb (ret (.int 1)) (qb (ret (.str "1")) (ret []))))) (ret []))) (qb (d2 yM (jm (qb (jm (qb (ret (.int 1)) (qb (ret (.int 1)) (qb (ret (.int 1)) (ret []))))) (ret []))) (ret (.int 13))) (qb (ret (.str "1/1*1")) (qb (ret (.int 5)) (qb (ret (.dic [])) (qb (jm (qb (jm (qb (ret (.int 1)) (qb (ret .non) (qb (ret (.int 1)) (ret []))))) (ret []))) (qb (jm (qb (ret .non) (ret []))) (qb (jm (qb (jm (qb (ret (.int 1)) (qb (ret (.int 1)) (qb (ret (.bl true)) (ret []))))) (ret []))) (ret []))))))))))))
  (yq (d2 ixD (dv 1) (qB qk 0 (qb (ret (.int 16)) (ret [])))))))
noncomputable def zH : List D -> List D -> R (D × List D) := qbn 2 1 jT
noncomputable def ux : MS :=
  (zr (jL 2 (d2 jw (d2 yM (ret (.int 7919)) (dv 1)) (ret (.int 13))))
  (zr (sif (tst (d2 ltD (dv 1) (yK qfp (qb (dv 0) (ret []))))) (jL 2 (d2 ixD (dv 0) (dv 1))) wv)
  (zr (sif (tst (d2 eqB (d2 qb7 (dv 2) (ret (.int 2))) (ret (.int 0)))) (yq (zP (qb (d2 qfn (dv 2) (ret (.int 2))) (ret [])))) wv)
  (zr (jL 3 (ret (.int 0)))
  (zr (qen (zC (qb (ret (.int 16)) (ret []))) (qs 4) (zr (jL 5 (d2 qb7 (d2 jw (d2 jw (d2 yM (d2 qb7 (dv 2) (ret (.int 2147483647))) (ret (.int 48271))) (d2 yM (ret (.int 7919)) (dv 4))) (ret (.int 1))) (ret (.int 2147483647))))
  (zr (jL 5 (d2 qb7 (d2 yM (dv 5) (dv 5)) (ret (.int 2147483629))))
  (jL 3 (d2 jw (d2 yM (dv 3) (ret (.int 2147483647))) (d2 qb7 (d2 yM (dv 5) (d2 jw (dv 5) (ret (.int 13)))) (ret (.int 2147483647))))))))
  (yq (zP (qb (dv 3) (ret [])))))))))
noncomputable def yW : List D -> R D := dfn 6 2 ux
noncomputable def qhW : MS :=
  (zr (qen (zC (qb (yK qji (qb (ret (.int 1)) (qb (yK qb8 (qb (yK qfp (qb (dv 0) (ret []))) (qb (ret (.int 4)) (ret [])))) (ret [])))) (ret []))) (qs 1) (zr (qaR 2 (qeq yW (qb (dv 0) (qb (dv 1) (ret [])))))
  (zr (jL 3 (qB zH 2 (ret [])))
  (zr (jL 4 (d2 ixD (zP (qb (d2 qjf (d1 qhi (ret (.int 1))) (qB qk 2 (qb (ret (.int 9)) (ret [])))) (qb (ret (.bl true)) (qb (ret .non) (qb (ret (.str "3")) (qb (jm (qb (ret (.int 3)) (ret []))) (qb (zP (qb (ret (.int 3)) (ret []))) (ret [])))))))) (qB qk 2 (qb (ret (.int 6)) (ret [])))))
  (zr (sif (tst (d2 neB (qV 1 [3, 4] none (zC (qb (ret (.int 8)) (ret []))) (qs 0) (ret true) (qj ql (qb (dv 0) (qb (dv 1) (qb (dv 2) (ret [])))))) (d2 yM (zP (qb (zP (qb (ret (.int 0)) (ret []))) (ret []))) (ret (.int 8))))) (yq (ret (.bl false))) wv)
  (zr (jL 5 (jm (qb (jm (qb (d2 jw (ret (.int 1)) (qB qk 2 (qb (ret (.int 9)) (ret [])))) (qb (qB qk 2 (qb (ret (.int 9)) (ret []))) (qb (d2 jw (ret (.int 1)) (qB qk 2 (qb (ret (.int 3)) (ret [])))) (ret []))))) (ret []))))
  (zr (sif (tst (d2 neB (qV 1 [5, 4] none (zC (qb (ret (.int 6)) (ret []))) (qs 0) (ret true) (qj ql (qb (dv 0) (qb (dv 1) (qb (dv 2) (ret [])))))) (d2 yM (zP (qb (zP (qb (ret (.int 1)) (ret []))) (ret []))) (ret (.int 6))))) (yq (ret (.bl false))) wv)
  (zr (sif (tst (d2 neB (qV 1 [5, 2] (some (2, 2)) (zC (qb (ret (.int 6)) (ret []))) (qs 0) (ret true) (qj ql (qb (dv 0) (qb (dv 1) (qb (d2 jw (ret (.int 201)) (qB qk 2 (qb (ret (.int 99)) (ret [])))) (ret [])))))) (d2 yM (zP (qb (zP (qb (ret (.int 3)) (ret []))) (ret []))) (ret (.int 6))))) (yq (ret (.bl false))) wv)
  (zr (jL 6 (jm (qb (jm (qb (ret (.int 2)) (qb (ret (.int 3)) (qb (ret .non) (ret []))))) (qb (jm (qb (d2 jw (ret (.int 21)) (qB qk 2 (qb (ret (.int 99)) (ret [])))) (qb (ret (.int 1)) (qb (ret .non) (ret []))))) (ret [])))))
  (zr (qen (qaO (zP (qb (jm (qb (jm (ret [])) (qb (zP (qb (ret (.int 5)) (ret []))) (ret [])))) (qb (jm (qb (dv 5) (qb (zP (qb (ret (.int 5)) (ret []))) (ret [])))) (qb (jm (qb (d2 jw (dv 6) (dv 5)) (qb (zP (qb (ret (.int 5)) (ret []))) (ret [])))) (qb (jm (qb (dv 6) (qb (zP (qb (ret (.int 3)) (ret []))) (ret [])))) (qb (jm (qb (jm (qb (jm (qb (ret (.int 20)) (qb (ret (.int 1)) (qb (ret .non) (ret []))))) (ret []))) (qb (zP (ret [])) (ret [])))) (ret [])))))))) (qeV 2 (uc (qs 7) (uc (qs 8) qeU))) (sif (tst (d2 neB (qV 1 [7] none (qaO (jm (qb (ret (.int 6)) (qb (ret (.int 7)) (ret []))))) (qs 0) (ret true) (qj ql (qb (dv 0) (qb (dv 1) (qb (ret (.int 0)) (ret [])))))) (d2 yM (zP (qb (dv 8) (ret []))) (ret (.int 2))))) (yq (ret (.bl false))) wv))
  (sif (tst (d2 neB (qV 1 [5] none (zC (qb (ret (.int 6)) (ret []))) (qs 0) (ret true) (qj ql (qb (dv 0) (qb (dv 1) (qb (ret (.int 200)) (ret [])))))) (d2 yM (zP (qb (zP (ret [])) (ret []))) (ret (.int 6))))) (yq (ret (.bl false))) wv)))))))))))
  (yq (ret (.bl true))))
noncomputable def qdc : List D -> R D := dfn 9 1 qhW
local macro_rules | `(tactic| push_cast [$xs,*]) => `(tactic| simp only [yL, qfG, qmS, jP, qfI, qdE, qij, qkd, qnq, qaq, uD, qik, qhj, wQ, qil, qim, qlm, qin, qln, qio, qhk, qfJ, qa0, qdF, qcW, wC, qiq, qir, qis, vt, qdG, qfK, qit, qas, qfL, qfM, qfN, qfO, qfP, qiu, qat, qlo, qfQ, List.length_cons, List.length_nil, List.map_cons, List.map_nil, List.replicate, List.nil_append, List.cons_append, List.append_nil, List.getElem?_cons_zero, List.getElem?_cons_succ, List.set_cons_zero, List.set_cons_succ, Nat.reduceAdd, Nat.reduceSub, Nat.sub_self, Nat.zero_add, reduceIte, Bool.not_true, Bool.not_false, Bool.false_eq_true, if_true, if_false, ite_true, ite_false, cond_true, cond_false, decide_true, decide_false, ix0, ix1, ix2, qaz, vX, qc6, qay, qcp, qc7, u4, qgn, qgo, qiG, qiH, w9, qdU, qdV, qiB, qf3, qcX, $xs,*])
theorem qbF (d : D) : vh [d] = .ok (.bl (qjU d)) := by
 unfold vh vg
 refine qa6 rfl ⟨[some d], ?_⟩
 push_cast []
 cases d <;> rfl
theorem jU (d : D) : yg [d] = .ok (.bl (z5 d)) := by
 unfold yg vi
 refine qa6 rfl ⟨[some d], ?_⟩
 push_cast []
 rw [qbF]
 cases d <;> rfl
theorem qcu (d : D) : u7 [d] = .ok (.bl (u5 d)) := by
 unfold u7 v8
 refine qa6 rfl ⟨[some d], ?_⟩
 cases d with
 | tup ds =>
  by_cases h : ds.length = 3
  ·obtain ⟨a, b, c, rfl⟩ := qof h
   refine (qq (ρ' := [some (.tup [a, b, c])]) rfl).trans ?_
   by_cases hp : qgp a = true
   ·refine (qq (ρ' := [some (.tup [a, b, c])]) ?_).trans ?_
    ·cases a with
     | int i =>
      have h2 : 0 < i := of_decide_eq_true hp
      have h0 : 0 <= i := by omega
      have h1 : ¬ i = 0 := by omega
      push_cast [ix0, jU, z5, qay, wQ, h0, h1, decide_true, decide_false]
     | _ => exact absurd hp (by simp [qgp])
    ·push_cast [ix1, ix2, jU, qcp, u5, hp, wQ, Bool.true_and]
     cases hb : z5 b <;> cases hc : uq c <;> rfl
   ·refine (qaA (d := .bl false) (ρ' := [some (.tup [a, b, c])]) ?_).trans ?_
    ·cases a with
     | int i =>
      have h2 : ¬ 0 < i := fun z => hp (decide_eq_true z)
      push_cast [ix0, jU, z5, qay, wQ]
      by_cases h0 : 0 <= i
      ·have h1 : i = 0 := by omega
       subst h1; rfl
      ·simp only [h0, decide_false]
       rfl
     | _ => rfl
    ·have hp' : qgp a = false := by simpa using hp
     simp only [u5, hp', Bool.false_and]
  ·refine (qaA (d := .bl false) (ρ' := [some (.tup ds)]) ?_).trans ?_
   ·push_cast []
    have h3 : ¬ ((ds.length : Int) = 3) := by omega
    simp only [qaz, vX, qc6, h3, decide_false, wQ]
    rfl
   ·rw [qeO h]
 | _ => rfl
theorem wf (d : D) : vk [d] = .ok (.bl (zd d)) := by
 unfold vk vj
 refine qa6 rfl ⟨[some d], ?_⟩
 cases d with
 | tup ds =>
  by_cases h : ds.length <= 12
  ·have h2 : ¬ ((12 : Int) < (ds.length : Int)) := by omega
   refine (qq (ρ' := [some (.tup ds)]) ?_).trans ?_
   ·push_cast [qaz, vX, u4, h2, decide_false, wQ]
   ·rw [qa0, qjV (F := u7) (f := u5) (xs := qaO (dv 0)) (ds := ds) (ρ := [some (.tup ds)]) rfl (fun d _ => qcu d) (by omega)]
    simp only [zd, h, decide_true, Bool.true_and]
  ·have h2 : ((12 : Int) < (ds.length : Int)) := by omega
   refine (qaA (d := .bl false) (ρ' := [some (.tup ds)]) ?_).trans ?_
   ·push_cast [qaz, vX, u4, h2, decide_true, wQ]
   ·simp only [zd, h, decide_false, Bool.false_and]
 | _ => rfl
theorem sm1 : qI 1 = true := yD (by omega)
theorem jV (d : D) (h : zd d = true) : zJ [d] = .ok .non := by
 unfold zJ
 refine qa3 rfl ⟨[some d], ?_⟩
 unfold yu
 push_cast [wf, h]
theorem wU (d : D) (h : zd d = false) : zJ [d] = .exc ⟨"NoStore", .non⟩ [some d] := by
 unfold zJ
 refine jH rfl ?_
 unfold yu
 push_cast [wf, h, sm1]
theorem wj (d : D) (h : z5 d = true) : jJ [d] = .ok .non := by
 unfold jJ
 refine qa3 rfl ⟨[some d], ?_⟩
 unfold yt
 push_cast [jU, h]
theorem qcv (d : D) (h : z5 d = false) : jJ [d] = .exc ⟨"NoNumber", .non⟩ [some d] := by
 unfold jJ
 refine jH rfl ?_
 unfold yt
 push_cast [jU, h, sm1]
theorem vI {n m : Int} (h0 : 0 < m) (h1 : m < 1606938044258990275541962092341162602522202993782792835301376) : qk [.int n] [.int m] = .ok (.int (n % m), [.int (n / m)]) := by
 unfold qk
 refine qiv (ρ := [some (.lst [.int (n / m)]), some (.int m), some (.int (n / m)), some (.int (n % m))]) rfl ?_ rfl
 unfold uL
 refine (qq (ρ' := [some (.lst [.int n]), some (.int m), some (.int (n / m)), some (.int (n % m))]) ?_).trans ?_
 ·push_cast [at0, qgq h0 h1, qeV, uc, qs, qeU, Option.bind_some]
 ·refine (qq (ρ' := [some (.lst [.int (n / m)]), some (.int m), some (.int (n / m)), some (.int (n % m))]) ?_).trans rfl
  push_cast [qog, imm]
theorem qd8 {i : Int} (h0 : 0 <= i) (h1 : i < 3000000000) : jZ i = true := by
 unfold jZ
 rw [Bool.and_eq_true, decide_eq_true_eq, decide_eq_true_eq]
 constructor <;> omega
theorem qd9 (A B : Option D) (x : Int) : ∀ (ds : List D) (s : Int) (o o' : Option D), (∀ d ∈ ds, ∃ j : Int, d = .int j) -> ∃ s' o1 o2, uA (qs 4) (zr (jL 5 (d2 qb7 (d2 jw (d2 jw (d2 yM (d2 qb7 (dv 2) (ret (.int 2147483647))) (ret (.int 48271))) (d2 yM (ret (.int 7919)) (dv 4))) (ret (.int 1))) (ret (.int 2147483647)))) (zr (jL 5 (d2 qb7 (d2 yM (dv 5) (dv 5)) (ret (.int 2147483629)))) (jL 3 (d2 jw (d2 yM (dv 3) (ret (.int 2147483647))) (d2 qb7 (d2 yM (dv 5) (d2 jw (dv 5) (ret (.int 13)))) (ret (.int 2147483647))))))) ds [A, B, some (.int x), some (.int s), o, o'] = .ok (.nx [A, B, some (.int x), some (.int s'), o1, o2])
 | [], s, o, o', _ => ⟨s, o, o', rfl⟩
 | d :: ds, s, o, o', h => by
  obtain ⟨j, rfl⟩ := h d List.mem_cons_self
  let p : Int := (x % 2147483647 * 48271 + 7919 * j + 1) % 2147483647
  let q : Int := p * p % 2147483629
  have f48 : jZ 48271 = true := by decide
  have f79 : jZ 7919 = true := by decide
  have f21 : jZ 2147483647 = true := by decide
  have fp : jZ p = true := qd8 (Int.emod_nonneg _ (by omega)) (by have := Int.emod_lt_of_pos (x % 2147483647 * 48271 + 7919 * j + 1) (show (0 : Int) < 2147483647 by omega); simp only [p]; omega)
  have fq : jZ q = true := qd8 (Int.emod_nonneg _ (by omega)) (by have := Int.emod_lt_of_pos (p * p) (show (0 : Int) < 2147483629 by omega); simp only [q]; omega)
  obtain ⟨s', o1, o2, e⟩ := qd9 A B x ds (s * 2147483647 + q * (q + 13) % 2147483647) (some (.int j)) (some (.int q)) fun y hy => h y (List.mem_cons_of_mem _ hy)
  refine ⟨s', o1, o2, ?_⟩
  have st : (zr (jL 5 (d2 qb7 (d2 jw (d2 jw (d2 yM (d2 qb7 (dv 2) (ret (.int 2147483647))) (ret (.int 48271))) (d2 yM (ret (.int 7919)) (dv 4))) (ret (.int 1))) (ret (.int 2147483647)))) (zr (jL 5 (d2 qb7 (d2 yM (dv 5) (dv 5)) (ret (.int 2147483629)))) (jL 3 (d2 jw (d2 yM (dv 3) (ret (.int 2147483647))) (d2 qb7 (d2 yM (dv 5) (d2 jw (dv 5) (ret (.int 13)))) (ret (.int 2147483647))))))) [A, B, some (.int x), some (.int s), some (.int j), o'] = .ok (.nx [A, B, some (.int x), some (.int (s * 2147483647 + q * (q + 13) % 2147483647)), some (.int j), some (.int q)]) := by
   refine (qq (ρ' := [A, B, some (.int x), some (.int s), some (.int j), some (.int p)]) ?_).trans ?_
   ·push_cast [vY (j := 2147483647) (by decide), qhM f48, qhL f79, yk, p]
   refine (qq (ρ' := [A, B, some (.int x), some (.int s), some (.int j), some (.int q)]) ?_).trans ?_
   ·push_cast [qhL fp, vY (j := 2147483629) (by decide), q]
   ·push_cast [qhM f21, yk, qhL fq, vY (j := 2147483647) (by decide)]
  unfold uA
  simp only [qs, List.set_cons_zero, List.set_cons_succ, st]
  exact e
theorem qlT (ns : List Int) (i : Int) (h0 : 0 <= i) : ∃ n, yW [.fz ns, .int i] = .ok (.lst [.int n]) := by
 have f79 : jZ 7919 = true := by decide
 have s1 : ∃ x, (sif (tst (d2 ltD (dv 1) (yK qfp (qb (dv 0) (ret []))))) (jL 2 (d2 ixD (dv 0) (dv 1))) wv) [some (.fz ns), some (.int i), some (.int (7919 * i + 13)), none, none, none] = .ok (.nx [some (.fz ns), some (.int i), some (.int x), none, none, none]) := by
  by_cases h : i < ns.length
  ·obtain ⟨j, rfl⟩ := Int.eq_ofNat_of_zero_le h0
   have hj : j < ns.length := by omega
   have e : ixD (.fz ns) (.int (j : Int)) = some (.int ns[j]) := by
    show (atI ns (j : Int)).map D.int = _
    rw [qgu (List.getElem?_eq_getElem hj)]; rfl
   refine ⟨ns[j], ?_⟩
   push_cast [e, qfp, h]
  ·refine ⟨7919 * i + 13, ?_⟩
   push_cast [qfp, h]
 obtain ⟨x, e1⟩ := s1
 have s0 : (jL 2 (d2 jw (d2 yM (ret (.int 7919)) (dv 1)) (ret (.int 13)))) [some (.fz ns), some (.int i), none, none, none, none] = .ok (.nx [some (.fz ns), some (.int i), some (.int (7919 * i + 13)), none, none, none]) := by
  push_cast [qhL f79, yk]
 by_cases hx : x % 2 = 0
 ·refine ⟨x / 2, ?_⟩
  unfold yW ux
  refine qa6 rfl ⟨[some (.fz ns), some (.int i), some (.int x), none, none, none], ?_⟩
  refine (qq s0).trans ((qq e1).trans (qaA ?_))
  push_cast [vY (j := 2) (by decide), hx, qcr (j := 2) (by decide) (by decide), yD (show 1 <= 1000000 by omega)]
 ·obtain ⟨s', o1, o2, q⟩ := qd9 (some (.fz ns)) (some (.int i)) x (qbT 0 16) 0 none none fun d hd => by
   unfold qbT at hd
   obtain ⟨k, hk, rfl⟩ := List.mem_map.mp hd
   exact ⟨_, rfl⟩
  refine ⟨s', ?_⟩
  unfold yW ux
  refine qa6 rfl ⟨[some (.fz ns), some (.int i), some (.int x), some (.int s'), o1, o2], ?_⟩
  refine (qq s0).trans ((qq e1).trans ?_)
  refine (qq (ρ' := [some (.fz ns), some (.int i), some (.int x), none, none, none]) ?_).trans ?_
  ·push_cast [vY (j := 2) (by decide), hx]
  refine (qq (ρ' := [some (.fz ns), some (.int i), some (.int x), some (.int 0), none, none]) ?_).trans ?_
  ·push_cast []
  refine (qq (ρ' := [some (.fz ns), some (.int i), some (.int x), some (.int s'), o1, o2]) ?_).trans ?_
  ·rw [vt, vf (j := 16) (ρ1 := [some (.fz ns), some (.int i), some (.int x), some (.int 0), none, none]) rfl (by omega) (by omega)]
   exact q
  ·push_cast [yD (show 1 <= 1000000 by omega)]
theorem qj3 {p : MS} {g : M D} {n i : Nat} {ρ ρ' : Env} (h : p ρ = .ok (.nx ρ')) : qaw RN n i p g ρ = .ok (.nx ρ') := by rw [qf2, h]
theorem qlU {p : MS} {g : M D} {n i : Nat} {ρ ρ' ρ2 : Env} {d v : D} {x : Str} (h : p ρ = .exc ⟨x, v⟩ ρ') (hn : RN.contains x = true) (hg : g ((List.replicate n none).set i (some (.exc x))) = .ok (d, ρ2)) : qaw RN n i p g ρ = .ok (.rt d ρ') := by
 rw [qf2, h]
 simp only [hn, if_true, hg]
theorem yI {F : List D -> R D} {l : M (List D)} {ρ ρ2 : Env} {ds : List D} {x : Str} {v : D} (hl : l ρ = .ok (ds, ρ)) (h : F ds = .exc ⟨x, v⟩ ρ2) (hn : RN.contains x = true) : zL (zm RN F l) ρ = .exc ⟨x, v⟩ ρ := by
 rw [wC, w9, hl]
 simp only [h, hn, if_true]
theorem u8 {F : List D -> R D} {l : M (List D)} {ρ : Env} {ds : List D} {d : D} (hl : l ρ = .ok (ds, ρ)) (h : F ds = .ok d) : zL (zm RN F l) ρ = .ok (.nx ρ) := by
 rw [wC, w9, hl]
 simp only [h]
def yO : List D := [.non, .lst [.tup [.int 1, .int 1, .int 1]], .tup [.int 1, .int 1, .int 1], .tup [.tup [.int 0, .int 1, .int 1]], .tup [.tup [.int 1, .int (-1), .int 1]], .tup [.tup [.int 1, .int 1, .int (-1)]], .tup [.tup [.int 1, .int 1]], .tup [.tup [.bl true, .int 1, .int 1]], .tup [.tup [.int 1, .int 1, .str "1"]], .tup [.tup [.int 1, .int 1, .int 1], .tup [.int 1, .int 1, .int 1], .tup [.int 1, .int 1, .int 1], .tup [.int 1, .int 1, .int 1], .tup [.int 1, .int 1, .int 1], .tup [.int 1, .int 1, .int 1], .tup [.int 1, .int 1, .int 1], .tup [.int 1, .int 1, .int 1], .tup [.int 1, .int 1, .int 1], .tup [.int 1, .int 1, .int 1], .tup [.int 1, .int 1, .int 1], .tup [.int 1, .int 1, .int 1], .tup [.int 1, .int 1, .int 1]], .str "1/1*1", .int 5, .dic [], .tup [.tup [.int 1, .non, .int 1]], .tup [.non], .tup [.tup [.int 1, .int 1, .bl true]]]
theorem qcw (n : Int) : ∃ d ∈ yO, zH [.int n] [] = .ok (d, [.int (n / 16)]) := by
 obtain ⟨d, hd, e⟩ := qiI (ds := yO) (k := n % 16) (by omega) (by have : yO.length = 16 := rfl; omega)
 refine ⟨d, hd, ?_⟩
 ·unfold zH
  refine qiv (ρ := [some (.lst [.int (n / 16)]), some (.lst yO)]) rfl ?_ rfl
  unfold jT
  refine (qq (ρ' := [some (.lst [.int n]), some (.lst [.non, .lst [.tup [.int 1, .int 1, .int 1]], .tup [.int 1, .int 1, .int 1], .tup [.tup [.int 0, .int 1, .int 1]], .tup [.tup [.int 1, .int (-1), .int 1]], .tup [.tup [.int 1, .int 1, .int (-1)]], .tup [.tup [.int 1, .int 1]], .tup [.tup [.bl true, .int 1, .int 1]]])]) rfl).trans ((qq (ρ' := [some (.lst [.int n]), some (.lst yO)]) rfl).trans ?_)
  have e1 : qB qk 0 (qb (ret (.int 16)) (ret [])) [some (.lst [.int n]), some (.lst yO)] = .ok (.int (n % 16), [some (.lst [.int (n / 16)]), some (.lst yO)]) := by
   rw [io1 (a := .int 16) rfl rfl (vI (m := 16) (by decide) (by decide))]
   rfl
  rw [qa0, qkd]
  simp only [qmS, List.getElem?_cons_zero, List.getElem?_cons_succ, e1, e]
theorem qdd {d : D} (hd : d ∈ yO) : zd d = false := by
 simp only [yO, List.mem_cons, List.not_mem_nil, or_false] at hd
 rcases hd with h | h | h | h | h | h | h | h | h | h | h | h | h | h | h | h <;> (subst h; rfl)
theorem qde (n : Int) : ∃ d, zd d = false /\ zH [.int n] [] = .ok (d, [.int (n / 16)]) := by
 obtain ⟨d, hd, e⟩ := qcw n
 exact ⟨d, qdd hd, e⟩
def kw (k : Kw) : D := .tup [.int k.w, .int k.v, mD k.m]
def jM (k : Kw) : Prop := (1 <= k.w /\ k.w <= 25) /\ (0 <= k.v /\ k.v <= 39) /\ ∀ j, k.m = some j -> 0 <= j /\ j <= 5
theorem jM.kd {k : Kw} (h : jM k) : qaD k := ⟨h.1.1, fun j e => (h.2.2 j e).1⟩
theorem qlV (k : Kw) : ixD (kw k) (.int 0) = some (.int k.w) := rfl
theorem qm6 (k : Kw) : ixD (kw k) (.int 1) = some (.int k.v) := rfl
theorem qlW (k : Kw) : ixD (kw k) (.int 2) = some (mD k.m) := rfl
theorem jW {ds : List D} {i : Nat} {d : D} (h : ds[i]? = some d) : ixD (.lst ds) (.int (i : Nat)) = some d := qgu h
theorem qlX {k : Kw} (hk : jM k) : jZ k.v = true := qgr hk.2.1.1 (by have := hk.2.1.2; omega)
theorem qlY {k : Kw} (hk : jM k) : jZ k.w = true := qgr (by have := hk.1.1; omega) (by have := hk.1.2; omega)
theorem uP {k : Kw} (hk : jM k) {s : Int} (h0 : 0 <= s) : jR [kw k, .int s] = .ok (.int (ofn k s : Nat)) := by
 unfold jR yN
 have hd : 0 <= s / k.w := Int.ediv_nonneg h0 (by have := hk.1.1; omega)
 let ρ : Env := [some (kw k), some (.int s), some (.int (s / k.w))]
 refine qa6 rfl ⟨ρ, ?_⟩
 refine (qq (ρ' := ρ) ?_).trans ?_
 ·show jL 2 _ [some (kw k), some (.int s), none] = _
  rw [qdF, qE rfl (qE rfl rfl (qlV k)) (qcr (by have := hk.1.1; omega) (by have := hk.1.2; omega))]
  rfl
 ·have c1 : d2 isN (d2 ixD (dv 0) (ret (.int 2))) (ret .non) ρ = .ok (.bl k.m.isNone, ρ) := qE (qE rfl rfl (qlW k)) rfl (by rw [qcp, qbC])
  rw [qa0, qhk, vy c1]
  cases em : k.m with
  | none =>
   have e : ((ofn k s : Nat) : Int) = s / k.w := by unfold ofn; rw [em]; show ((s / k.w).toNat : Int) = _; omega
   rw [e]
   rfl
  | some j =>
   have hj := (hk.2.2 j em).1
   have e : ((ofn k s : Nat) : Int) = if j < s / k.w then j else s / k.w := by
    unfold ofn
    rw [em]
    show ((if j < s / k.w then j else s / k.w).toNat : Int) = _
    split <;> omega
   have c2 : yK qb8 (qb (dv 2) (qb (d2 ixD (dv 0) (ret (.int 2))) (ret []))) ρ = .ok (.int (ofn k s : Nat), ρ) := by
    rw [qaq, qhP rfl (qE rfl rfl (by rw [qlW, em]))]
    show (match qb8 [.int (s / k.w), .int j] with | some d => R.ok (d, ρ) | none => .bad) = _
    rw [qhN, e]
   show (match yK qb8 (qb (dv 2) (qb (d2 ixD (dv 0) (ret (.int 2))) (ret []))) ρ with | .ok (d, ρ1) => R.ok (Fl.rt d ρ1) | .exc x ρ' => .exc x ρ' | .bad => .bad) = _
   rw [c2]
theorem yn {k : Kw} (hk : jM k) (t s : Int) : zN [kw k, .int t, .int s] = .ok (.int (s - t * k.w)) := by
 unfold zN uG
 refine qa6 rfl ⟨[some (kw k), some (.int t), some (.int s)], ut ?_⟩
 exact qE rfl (qE rfl (qE rfl rfl (qlV k)) (qhM (qlY hk))) (qd3 _ _)
theorem qj4 {k : Kw} (hk : jM k) {s : Nat} : ofn k (s : Nat) <= s := by
 have := (qiK hk.kd.1 hk.kd.2 (show (0 : Int) <= (s : Nat) by omega) (Nat.le_refl (ofn k (s : Nat)))).2
 omega
theorem qcx {l : M (List D)} {ρ : Env} {k : Kw} {s : Int} (hn : ofn k s <= 200) (h : l ρ = .ok ([.int ((ofn k s : Nat) + 1)], ρ)) : zC l ρ = .ok ((List.range (ofn k s + 1)).map fun t => D.int (t : Nat), ρ) := by
 rw [vf h (by omega) (by omega)]
 have e : ((ofn k s : Nat) + 1 : Int).toNat = ofn k s + 1 := by omega
 rw [e, qnG]
theorem qbG {k : Kw} (hk : jM k) {s r : Nat} (hs : s <= r) {t : Nat} (ht : t <= ofn k (s : Nat)) : ∃ i : Nat, i <= r /\ ((i : Nat) : Int) = (s : Int) - t * k.w := by
 have := (qiK hk.kd.1 hk.kd.2 (show (0 : Int) <= (s : Int) by omega) ht).1
 have h2 : 0 <= (t : Int) * k.w := Int.mul_nonneg (by omega) (by have := hk.1.1; omega)
 exact ⟨((s : Int) - t * k.w).toNat, by omega, by omega⟩
def ub (f : Nat -> D) (r : Nat) : List D := (List.range (r + 1)).map f
theorem wl {f : Nat -> D} {r i : Nat} (h : i <= r) : (ub f r)[i]? = some (f i) := by
 unfold ub
 rw [List.getElem?_map, List.getElem?_range (by omega)]
 rfl
theorem qgD (d : D) (r : Nat) (hr : r <= 200) : yM (.lst [d]) (.int (r : Int)) = some (.lst ((List.range r).map fun _ => d)) := by
 have h1 : decide (-(2 ^ 62 : Int) <= (r : Int)) = true := decide_eq_true (by omega)
 have h2 : decide ((r : Int) < 2 ^ 62) = true := decide_eq_true (by omega)
 have e : ((r : Int)).toNat = r := by omega
 have h3 : qI (([d] : List D).length * ((r : Int)).toNat) = true := yD (by rw [e]; simp; omega)
 have hm : yM (.lst [d]) (.int (r : Int)) = some (.lst (List.replicate ((r : Int)).toNat [d]).flatten) := by
  simp only [yM, h1, h2, h3, Bool.and_self, if_true]
 have fl : ∀ n : Nat, (List.replicate n [d]).flatten = (List.range n).map fun _ => d := fun n => by
  induction n with
  | zero => rfl
  | succ n ih =>
   rw [List.replicate_succ, List.flatten_cons, ih, List.range_succ_eq_map, List.map_cons, List.map_map]
   rfl
 rw [hm, e, fl]
theorem qcy (a b : D) {f : Nat -> D} (h0 : f 0 = a) (h1 : ∀ i, f (i + 1) = b) (r : Nat) : a :: ((List.range r).map fun _ => b) = ub f r := by
 unfold ub
 rw [List.range_succ_eq_map, List.map_cons, List.map_map, h0]
 congr 1
 refine List.map_congr_left fun i _ => ?_
 exact (h1 i).symm
theorem qdf {n : Int} (h : n <= 200) : yV [.int n] = .ok .non := by
 unfold yV
 refine qa3 rfl ⟨[some (.int n)], ?_⟩
 unfold uv
 have h' : ¬ 200 < n := by omega
 push_cast [h']
theorem qeP {n : Int} (h : 200 < n) : yV [.int n] = .exc ⟨"TooMany", .non⟩ [some (.int n)] := by
 unfold yV
 refine jH rfl ?_
 unfold uv
 push_cast [h, sm1]
theorem wW : RN.contains "NoStore" = true := by decide
theorem qj5 : RN.contains "NoNumber" = true := by decide
theorem qdg : RN.contains "TooMany" = true := by decide
theorem yP {d : D} (hs : zd d = true) {n : Int} (h0 : 0 <= n) (h : n <= 200) : qu [d, .int n] = .ok .non := by
 have hc : z5 (.int n) = true := decide_eq_true h0
 unfold qu
 refine qa3 rfl ⟨[some d, some (.int n)], ?_⟩
 unfold je
 refine (qq (ρ' := [some d, some (.int n)]) ?_).trans ((qq (ρ' := [some d, some (.int n)]) ?_).trans ?_)
 ·push_cast [jV _ hs]
 ·push_cast [wj _ hc]
 ·push_cast [qdf h]
theorem qcz {d x : D} (hs : zd d = false) : qu [d, x] = .exc ⟨"NoStore", .non⟩ [some d, some x] := by
 unfold qu
 refine jH rfl ?_
 unfold je
 refine uO ?_
 push_cast [wU _ hs, wW]
theorem qcA {d x : D} (hs : zd d = true) (hc : z5 x = false) : qu [d, x] = .exc ⟨"NoNumber", .non⟩ [some d, some x] := by
 unfold qu
 refine jH rfl ?_
 unfold je
 refine (qq (ρ' := [some d, some x]) ?_).trans (uO ?_)
 ·push_cast [jV _ hs]
 ·push_cast [qcv _ hc, qj5]
theorem qcB {d : D} (hs : zd d = true) {n : Int} (h : 200 < n) : qu [d, .int n] = .exc ⟨"TooMany", .non⟩ [some d, some (.int n)] := by
 have hc : z5 (.int n) = true := decide_eq_true (by omega)
 unfold qu
 refine jH rfl ?_
 unfold je
 refine (qq (ρ' := [some d, some (.int n)]) ?_).trans ((qq (ρ' := [some d, some (.int n)]) ?_).trans ?_)
 ·push_cast [jV _ hs]
 ·push_cast [wj _ hc]
 ·push_cast [qeP h, qdg]
theorem wm {ks : List Kw} (h : ∀ k ∈ ks, jM k) (hl : ks.length <= 12) : zd (.tup (ks.map kw)) = true := by
 have : (ks.map kw).all u5 = true := by
  rw [List.all_map]
  refine List.all_eq_true.mpr fun k hk => ?_
  have g := h k hk
  exact qcs (x := (k.w, k.v, k.m)) ⟨by have := g.1.1; show 0 < k.w; omega, g.2.1.1, fun j e => (g.2.2 j e).1⟩
 simp only [zd, List.length_map, hl, decide_true, this, Bool.true_and]
theorem qj6 (m : Option Int) : qme (mD m) .non = some (.bl (!m.isNone)) := by rw [qc7, qbC]
theorem qgE {F : List D -> R D} {f g h k : M D} {ρ : Env} {a b c z d : D} (hf : f ρ = .ok (a, ρ)) (hg : g ρ = .ok (b, ρ)) (hh : h ρ = .ok (c, ρ)) (hk : k ρ = .ok (z, ρ)) (e : F [a, b, c, z] = .ok d) : qj F (qb f (qb g (qb h (qb k (ret []))))) ρ = .ok (d, ρ) := by
 rw [uD, jP, hf]
 simp only [qm4 hg hh hk, e]
def fD (f : List Int -> Option Int) (ks : List Kw) (i : Nat) : D := mD (fR f ks (i : Nat))
def ftL (f : List Int -> Option Int) (k : Kw) (ks : List Kw) (s : Nat) : List Nat := (List.range (ofn k (s : Nat) + 1)).filter fun t => (fR f ks ((s : Int) - t * k.w)).isSome
theorem qiN {f : List Int -> Option Int} {k : Kw} {ks : List Kw} {s : Nat} (hk : jM k) (hs : s <= 200) : (ftL f k ks s).length <= 201 := by
 have := qj4 hk (s := s)
 refine Nat.le_trans (List.length_filter_le _ _) ?_
 rw [List.length_range]
 omega
theorem ui {f : List Int -> Option Int} {k : Kw} {ks : List Kw} (hk : jM k) {s r : Nat} (hs : s <= r) (hr : r <= 200) : jf [kw k, .lst (ub (fD f ks) r), .int (s : Nat)] = .ok (.lst ((ftL f k ks s).map fun t => D.int (t : Nat))) := by
 have hn := qj4 hk (s := s)
 let K : Option D := some (kw k)
 let Rw : Option D := some (.lst (ub (fD f ks) r))
 let Sz : Option D := some (.int (s : Nat))
 let ρ : Env := [K, Rw, Sz, some (.int (ofn k (s : Nat) : Nat))]
 unfold jf jS
 refine qa6 rfl ⟨ρ, (qq (ρ' := ρ) ?_).trans (ut ?_)⟩
 ·show jL 3 _ [K, Rw, Sz, none] = _
  rw [u6 (wS rfl rfl (uP hk (by omega)))]
  rfl
 ·refine qgs (r := [Rw, K, Sz]) (k := fun t : Nat => D.int (t : Nat)) (List.range (ofn k (s : Nat) + 1)) (fun t => (fR f ks ((s : Int) - t * k.w)).isSome) (fun t => D.int (t : Nat)) (qcx (by omega) (wG (qE rfl rfl (yk _ _)))) rfl (by rw [List.length_range]; omega) (fun t ht => ?_) (fun t ht _ => rfl)
  obtain ⟨i, hi, ei⟩ := qbG hk hs (show t <= ofn k (s : Nat) by have := List.mem_range.mp ht; omega)
  refine vy (qE (qE rfl (ue rfl rfl rfl (yn hk (t : Nat) (s : Nat))) (d := fD f ks i) ?_) rfl ?_)
  ·rw [<- ei]
   exact jW (wl hi)
  ·unfold fD
   rw [qj6, ei]
   cases fR f ks ((s : Int) - t * k.w) <;> rfl
theorem qaH {f : List Int -> Option Int} {k : Kw} {ks : List Kw} (hk : jM k) {s r : Nat} (hs : s <= r) {t : Nat} (ht : t <= ofn k (s : Nat)) {h : Int} (e : fR f ks ((s : Int) - t * k.w) = some h) : jg [kw k, .int (t : Nat), .lst (ub (fD f ks) r), .int (s : Nat)] = .ok (.int ((t : Int) * k.v + h)) := by
 obtain ⟨i, hi, ei⟩ := qbG hk hs ht
 unfold jg uf
 refine qa6 rfl ⟨[some (kw k), some (.int (t : Nat)), some (.lst (ub (fD f ks) r)), some (.int (s : Nat))], ut ?_⟩
 refine qE (qE rfl (qE rfl rfl (qm6 k)) (qhM (qlX hk))) (qE rfl (ue rfl rfl rfl (yn hk (t : Nat) (s : Nat))) (d := .int h) ?_) (yk _ _)
 rw [<- ei, jW (wl hi)]
 unfold fD
 rw [ei, e]
 rfl
theorem qlZ {f : List Int -> Option Int} {k : Kw} {ks : List Kw} {s t : Nat} (h : t ∈ ftL f k ks s) : t <= ofn k (s : Nat) /\ ∃ h, fR f ks ((s : Int) - t * k.w) = some h := by
 obtain ⟨a, b⟩ := List.mem_filter.mp h
 refine ⟨by have := List.mem_range.mp a; omega, ?_⟩
 cases e : fR f ks ((s : Int) - t * k.w) with
 | none => rw [e] at b; cases b
 | some h => exact ⟨h, rfl⟩
def wO (f : List Int -> Option Int) (k : Kw) (ks : List Kw) (s : Nat) (t : Nat) : Int := (wF f k ks (s : Nat) t).getD 0
theorem uQ {f : List Int -> Option Int} {k : Kw} {ks : List Kw} (hk : jM k) {s r : Nat} (hs : s <= r) {t : Nat} (ht : t ∈ ftL f k ks s) : jg [kw k, .int (t : Nat), .lst (ub (fD f ks) r), .int (s : Nat)] = .ok (.int (wO f k ks s t)) := by
 obtain ⟨a, h, e⟩ := qlZ ht
 rw [qaH hk hs a e]
 unfold wO wF
 rw [e]
 rfl
theorem qiO {g : Nat -> Option Int} : ∀ l : List Nat, (l.filter fun t => (g t).isSome).map (fun t => D.int ((g t).getD 0)) = (l.filterMap g).map D.int
 | [] => rfl
 | t :: l => by
  have := qiO (g := g) l
  rw [List.filter_cons, List.filterMap_cons]
  cases e : g t with
  | none => exact this
  | some h => simp only [Option.isSome_some, if_true, List.map_cons, e, this, Option.getD_some]
theorem qj7 (f : List Int -> Option Int) (k : Kw) (ks : List Kw) (s t : Nat) : (wF f k ks (s : Nat) t).isSome = (fR f ks ((s : Int) - t * k.w)).isSome := by
 unfold wF
 cases fR f ks ((s : Int) - t * k.w) <;> rfl
theorem qiP (f : List Int -> Option Int) (k : Kw) (ks : List Kw) (s : Nat) : ftL f k ks s = (List.range (ofn k (s : Nat) + 1)).filter fun t => (wF f k ks (s : Nat) t).isSome := by
 unfold ftL
 refine List.filter_congr fun t _ => ?_
 rw [qj7]
theorem y8 {f : List Int -> Option Int} {k : Kw} {ks : List Kw} (hk : jM k) {s r : Nat} (hs : s <= r) (hr : r <= 200) : qG [kw k, .lst (ub (fD f ks) r), .int (s : Nat)] = .ok (.lst (((List.range (ofn k (s : Nat) + 1)).filterMap (wF f k ks (s : Nat))).map D.int)) := by
 let K : Option D := some (kw k)
 let Rw : Option D := some (.lst (ub (fD f ks) r))
 let Sz : Option D := some (.int (s : Nat))
 unfold qG jy
 refine qa6 rfl ⟨[K, Rw, Sz], ut ?_⟩
 rw [<- qiO, <- qiP]
 refine qa7 (r := [K, Rw, Sz]) (k := fun t : Nat => D.int (t : Nat)) (ftL f k ks s) _ ?_ rfl (by have := qiN (f := f) (ks := ks) hk (show s <= 200 by omega); omega) fun t ht => ?_
 ·rw [qdG, ue rfl rfl rfl (ui hk hs hr)]
  rfl
 ·exact qgE rfl rfl rfl rfl (uQ hk hs ht)
theorem ql0 (ns : List Int) : qc5 [.lst (ns.map D.int)] [.non] = some (mD (mnO ns)) := by
 unfold qc5
 simp only [qaa, Option.map_some]
 cases ns with
 | nil => rfl
 | cons a l =>
  rw [if_neg (by simp)]
  obtain ⟨m, e, h1, h2⟩ := qgz.is (a :: l) (by simp)
  rw [qcZ h1 h2, e]
  rfl
theorem ql1 (ns : List Int) : qc4 [.lst (ns.map D.int)] [.non] = some (mD (mxO ns)) := by
 unfold qc4
 simp only [qaa, Option.map_some]
 cases ns with
 | nil => rfl
 | cons a l =>
  rw [if_neg (by simp)]
  obtain ⟨m, e, h1, h2⟩ := qc9.is (a :: l) (by simp)
  rw [qbq h1 h2, e]
  rfl
theorem qiQ {F : List D -> List D -> Option D} {g : M D} {ρ : Env} {a z d : D} (hg : g ρ = .ok (a, ρ)) (e : F [a] [z] = some d) : uZ F (qb g (ret [])) (qb (ret z) (ret [])) ρ = .ok (d, ρ) := by
 unfold uZ bnd
 rw [wG hg]
 show lift (F [a] [z]) ρ = _
 rw [e]
 rfl
theorem qgF {i : Nat} {f : M D} {ρ : Env} {ds : List D} {d : D} (h : zQ i ρ = some ds) (hf : f ρ = .ok (d, ρ)) (hl : ds.length < 1000000) : zL (u3 i f) ρ = .ok (.nx (ρ.set i (some (.lst (d :: ds))))) := by
 rw [wC, qgm]
 simp only [h, hf, yD (show ds.length + 1 <= 1000000 by omega), if_true]
theorem qj8 {f : M (List D)} {ρ : Env} {ds : List D} (h : f ρ = .ok (ds, ρ)) (hl : ds.length <= 1000000) : qhH f ρ = .ok (ds, ρ) := by
 unfold qhH bnd
 rw [h]
 simp only [yD hl, if_true]
 rfl
theorem qhX {i : Nat} {ρ : Env} {d : D} {ds : List D} (h : zQ i ρ = some (d :: ds)) : qgN i (ret (.int 0)) ρ = .ok (d, ρ) := by
 have e : atI (d :: ds) 0 = some d := qgu (n := 0) rfl
 rw [qfM]
 simp only [h, qfG, e]
def yB (f : List Kw -> Nat -> D) (r : Nat) : List Kw -> List D
 | [] => [.lst (ub (f []) r)]
 | k :: ks => .lst (ub (f (k :: ks)) r) :: yB f r ks
theorem qea (f : List Kw -> Nat -> D) (r : Nat) : ∀ ks : List Kw, (yB f r ks).length = ks.length + 1
 | [] => rfl
 | k :: ks => by rw [yB, List.length_cons, qea f r ks, List.length_cons]
theorem qcC (f : List Kw -> Nat -> D) (r : Nat) : ∀ ks : List Kw, ∃ ud, yB f r ks = .lst (ub (f ks) r) :: ud
 | [] => ⟨[], rfl⟩
 | k :: ks => ⟨yB f r ks, rfl⟩
theorem qbH (f : List Kw -> Nat -> D) (r : Nat) : ∀ (ks : List Kw) (i : Nat), i <= ks.length -> (yB f r ks)[i]? = some (.lst (ub (f (ks.drop i)) r))
 | ks, 0, _ => by
  obtain ⟨ud, e⟩ := qcC f r ks
  rw [e]
  rfl
 | [], i + 1, h => by
  have : i + 1 <= 0 := h
  omega
 | k :: ks, i + 1, h => by
  rw [yB, List.getElem?_cons_succ, qbH f r ks i (by have : i + 1 <= ks.length + 1 := h; omega)]
  rfl
theorem qbI {ρ : Env} {r : Nat} (hr : r <= 200) (h1 : dv 1 ρ = .ok (.int (r : Nat), ρ)) : zC (qb (d2 jw (dv 1) (ret (.int 1))) (ret [])) ρ = .ok ((List.range (r + 1)).map fun s : Nat => D.int (s : Nat), ρ) := by
 have e : ((r : Int) + 1).toNat = r + 1 := by omega
 rw [vf (j := (r : Int) + 1) (ρ1 := ρ) (wG (qE h1 rfl (yk _ _))) (by omega) (by omega), e, qnG]
theorem qj9 {e : M D} {K X : D} {Y : Nat -> D} {r : Nat} (hr : r <= 200) (T : Option D) (ud : List D) (hl : ud.length <= 100) (hF : ∀ s : Nat, s <= r -> e [some (.int (s : Nat)), some K, some (.lst (X :: ud))] = .ok (Y s, [some (.int (s : Nat)), some K, some (.lst (X :: ud))])) :
  zL (u3 2 (qV 1 [3, 2] (some (2, 2)) (zC (qb (d2 jw (dv 1) (ret (.int 1))) (ret []))) (qs 0) (ret true) e)) [T, some (.int (r : Nat)), some (.lst (X :: ud)), some K] = .ok (.nx [T, some (.int (r : Nat)), some (.lst (.lst (ub Y r) :: X :: ud)), some K]) := by
 let ρ : Env := [T, some (.int (r : Nat)), some (.lst (X :: ud)), some K]
 have c := qlO (e := e) (t := ret true) (k := fun s : Nat => D.int (s : Nat)) (r := [some K, some (.lst (X :: ud))]) (fr := [3, 2]) (i := 2) (j := 2) (List.range (r + 1)) (fun _ => true) Y (qbI (ρ := ρ) hr rfl) rfl (by rw [List.length_range]; omega) (fun _ _ => rfl) (fun s hs _ => hF s (by have := List.mem_range.mp hs; omega)) (fun o => rfl)
 rw [qaB] at c
 exact qgF (ρ := ρ) rfl c (by rw [List.length_cons]; omega)
theorem qbd {r : Nat} (hr : r <= 200) (T : Option D) : ∀ (b ks : List Kw) (o3 : Option D), (∀ k ∈ b, jM k) -> b.length + ks.length <= 90 -> ∃ o3', uA (qs 3) (zL (u3 2 (qV 1 [3, 2] (some (2, 2)) (zC (qb (d2 jw (dv 1) (ret (.int 1))) (ret []))) (qs 0) (ret true) (uZ qc4 (qb (qj qG (qb (dv 1) (qb (qgN 2 (ret (.int 0))) (qb (dv 0) (ret []))))) (ret [])) (qb (ret .non) (ret [])))))) (b.map kw) [T, some (.int (r : Nat)), some (.lst (yB (fD mxO) r ks)), o3] = .ok (.nx [T, some (.int (r : Nat)), some (.lst (yB (fD mxO) r (b.reverse ++ ks))), o3'])
 | [], ks, o3, _, _ => ⟨o3, rfl⟩
 | k :: b, ks, o3, h, hl => by
  obtain ⟨o3', q⟩ := qbd hr T b (k :: ks) (some (kw k)) (fun x hx => h x (List.mem_cons_of_mem _ hx)) (by rw [List.length_cons] at hl |-; omega)
  obtain ⟨ud, e⟩ := qcC (fD mxO) r ks
  have hlen : ud.length = ks.length := by
   have := qea (fD mxO) r ks
   rw [e, List.length_cons] at this
   omega
  have s := qj9 (e := uZ qc4 (qb (qj qG (qb (dv 1) (qb (qgN 2 (ret (.int 0))) (qb (dv 0) (ret []))))) (ret [])) (qb (ret .non) (ret []))) (K := kw k) (X := .lst (ub (fD mxO ks) r)) (Y := fD mxO (k :: ks)) (r := r) (by omega) T ud (by rw [List.length_cons] at hl; omega) fun s hs => qiQ (ue rfl (qhX rfl) rfl (y8 (h k List.mem_cons_self) hs hr)) (by
   unfold fD
   rw [qbE]
   exact ql1 _)
  rw [<- e] at s
  refine ⟨o3', ?_⟩
  rw [List.map_cons, jr rfl s, List.reverse_cons, List.append_assoc]
  exact q
theorem ql2 (f : List Int -> Option Int) (r : Nat) : D.int 0 :: ((List.range r).map fun _ => D.non) = ub (fD f []) r := qcy (f := fD f []) (.int 0) .non rfl (fun i => by
 have : fR f [] ((i + 1 : Nat) : Int) = none := by
  unfold fR
  rw [if_neg (by omega)]
 show mD (fR f [] ((i + 1 : Nat) : Int)) = _
 rw [this]
 rfl) r
theorem qeb (f : List Int -> Option Int) {ρ : Env} {r : Nat} (hr : r <= 200) (h1 : dv 1 ρ = .ok (.int (r : Nat), ρ)) : d2 jw (zP (qb (ret (.int 0)) (ret []))) (d2 yM (zP (qb (ret .non) (ret []))) (dv 1)) ρ = .ok (.lst (ub (fD f []) r), ρ) := by
 have a1 : zP (qb (ret (.int 0)) (ret [])) ρ = .ok (.lst [.int 0], ρ) := by push_cast [sm1]
 have a0 : zP (qb (ret .non) (ret [])) ρ = .ok (.lst [.non], ρ) := by push_cast [sm1]
 refine qE a1 (qE a0 h1 (qgD .non r hr)) ?_
 rw [qd4 (by rw [List.length_map, List.length_range, List.length_cons, List.length_nil]; omega), <- ql2]
 rfl
theorem vB {ks : List Kw} (h : ∀ k ∈ ks, jM k) (hl : ks.length <= 4) {r : Nat} (hr : r <= 200) : yh [.tup (ks.map kw), .int (r : Nat)] = .ok (.lst (yB (fD mxO) r ks)) := by
 let T : Option D := some (.tup (ks.map kw))
 let Rm : Option D := some (.int (r : Nat))
 obtain ⟨o3', q⟩ := qbd hr T ks.reverse [] none (fun k hk => h k (List.mem_reverse.mp hk)) (by rw [List.length_reverse, List.length_nil]; omega)
 rw [List.reverse_reverse, List.append_nil] at q
 unfold yh uI
 refine qa6 rfl ⟨[T, Rm, some (.lst (yB (fD mxO) r ks)), o3'], ?_⟩
 refine (qq (ρ' := [T, Rm, some (.lst (yB (fD mxO) r [])), none]) ?_).trans ?_
 ·have a3 := qj8 (wG (qeb mxO (ρ := [T, Rm, none, none]) hr rfl)) (by rw [List.length_cons, List.length_nil]; omega)
  show qaR 2 _ [T, Rm, none, none] = _
  rw [qcW, a3]
  rfl
 refine (qq (ρ' := [T, Rm, some (.lst (yB (fD mxO) r ks)), o3']) ?_).trans rfl
 have a4 : qlJ (qb (dv 0) (ret [])) [T, Rm, some (.lst (yB (fD mxO) r [])), none] = .ok (ks.reverse.map kw, [T, Rm, some (.lst (yB (fD mxO) r [])), none]) := by
  rw [qlL, wG (a := .tup (ks.map kw)) rfl, List.map_reverse]
  rfl
 rw [vt, a4]
 exact q
theorem wK {ks : List Kw} (h : ∀ k ∈ ks, jM k) (hl : ks.length <= 4) {r : Nat} (hr : r <= 200) : jt [.tup (ks.map kw), .int (r : Nat)] = .ok (fD mxO ks r) := by
 let ρ : Env := [some (.tup (ks.map kw)), some (.int (r : Nat))]
 unfold jt
 refine qbv rfl ⟨ρ, ?_⟩
 unfold js
 refine (qq (ρ' := ρ) ?_).trans (ut ?_)
 ·push_cast [yP (wm h (by omega)) (show (0 : Int) <= (r : Nat) by omega) (by omega), ρ]
 ·exact qE (qE (wS rfl rfl (vB h hl hr)) rfl (jW (i := 0) (qbH (fD mxO) r ks 0 (by omega)))) rfl (jW (wl (Nat.le_refl r)))
theorem qcD {r : Nat} (hr : r <= 200) (T : Option D) : ∀ (b ks : List Kw) (o3 : Option D), (∀ k ∈ b, jM k) -> ∃ o3', uA (qs 3) (jL 2 (qV 1 [3, 2] none (zC (qb (d2 jw (dv 1) (ret (.int 1))) (ret []))) (qs 0) (ret true) (uZ qc5 (qb (qj qG (qb (dv 1) (qb (dv 2) (qb (dv 0) (ret []))))) (ret [])) (qb (ret .non) (ret []))))) (b.map kw) [T, some (.int (r : Nat)), some (.lst (ub (fD mnO ks) r)), o3] = .ok (.nx [T, some (.int (r : Nat)), some (.lst (ub (fD mnO (b.reverse ++ ks)) r)), o3'])
 | [], ks, o3, _ => ⟨o3, rfl⟩
 | k :: b, ks, o3, h => by
  obtain ⟨o3', q⟩ := qcD hr T b (k :: ks) (some (kw k)) (fun x hx => h x (List.mem_cons_of_mem _ hx))
  have hk := h k List.mem_cons_self
  let ρ : Env := [T, some (.int (r : Nat)), some (.lst (ub (fD mnO ks) r)), some (kw k)]
  have c : (qV 1 [3, 2] none (zC (qb (d2 jw (dv 1) (ret (.int 1))) (ret []))) (qs 0) (ret true) (uZ qc5 (qb (qj qG (qb (dv 1) (qb (dv 2) (qb (dv 0) (ret []))))) (ret [])) (qb (ret .non) (ret [])))) ρ = .ok (.lst (ub (fD mnO (k :: ks)) r), ρ) := by
   refine qa7 (r := [some (kw k), some (.lst (ub (fD mnO ks) r))]) (k := fun s : Nat => D.int (s : Nat)) (List.range (r + 1)) (fD mnO (k :: ks)) (qbI hr rfl) rfl (by rw [List.length_range]; omega) fun s hs => ?_
   refine qiQ (ue rfl rfl rfl (y8 hk (show s <= r by have := List.mem_range.mp hs; omega) hr)) ?_
   unfold fD
   rw [qbE]
   exact ql0 _
  refine ⟨o3', ?_⟩
  rw [List.map_cons, jr rfl (u6 c), List.reverse_cons, List.append_assoc]
  exact q
theorem wo {ks : List Kw} (h : ∀ k ∈ ks, jM k) (hl : ks.length <= 4) {r : Nat} (hr : r <= 200) : ji [.tup (ks.map kw), .int (r : Nat)] = .ok (fD mnO ks r) := by
 let T : Option D := some (.tup (ks.map kw))
 let Rm : Option D := some (.int (r : Nat))
 obtain ⟨o3', q⟩ := qcD hr T ks [] none h
 rw [List.append_nil] at q
 have e : fD mnO ks r = fD mnO ks.reverse r := by
  unfold fD
  rw [qlS qgz (fun k hk => (h k hk).kd) (by omega)]
 rw [e]
 unfold ji
 refine qbv rfl ⟨[T, Rm, some (.lst (ub (fD mnO ks.reverse) r)), o3'], ?_⟩
 unfold jh
 refine (qq (ρ' := [T, Rm, none, none]) ?_).trans ?_
 ·push_cast [yP (wm h (by omega)) (show (0 : Int) <= (r : Nat) by omega) (by omega), T, Rm]
 refine (qq (ρ' := [T, Rm, some (.lst (ub (fD mnO []) r)), none]) (u6 (qeb mnO (ρ := [T, Rm, none, none]) hr rfl))).trans ?_
 refine (qq (ρ' := [T, Rm, some (.lst (ub (fD mnO ks.reverse) r)), o3']) ?_).trans (ut (qE rfl rfl (jW (wl (Nat.le_refl r)))))
 rw [vt]
 exact q
theorem qcE {p : Nat -> Bool} {n x : Nat} (hx : x < n) (hp : p x = true) (hn : ∀ t, t < x -> p t = false) : ∃ ud, (List.range n).filter p = x :: ud := by
 have split : List.range n = List.range x ++ (x :: (List.range' (x + 1) (n - 1 - x))) := by
  rw [List.range_eq_range', List.range_eq_range', <- List.range'_succ]
  have := List.range'_append_1 (s := 0) (m := x) (n := n - 1 - x + 1)
  rw [Nat.zero_add] at this
  rw [this]
  congr 1
  omega
 rw [split, List.filter_append, List.filter_eq_nil_iff.mpr (fun t ht => by rw [hn t (List.mem_range.mp ht)]; simp), List.nil_append, List.filter_cons, if_pos hp]
 exact ⟨_, rfl⟩
theorem vJ {k : Kw} {ks : List Kw} (hk : jM k) {s r : Nat} (hs : s <= r) (hr : r <= 200) {h : Int} (eh : fR mxO (k :: ks) (s : Nat) = some h) : zv [kw k, fD mxO (k :: ks) s, .lst (ub (fD mxO ks) r), .int (s : Nat)] = .ok (.int (fT mxO k ks (s : Nat) : Nat)) := by
 obtain ⟨l1, l2, l3⟩ := qda qc9 eh
 have e : fD mxO (k :: ks) s = .int h := by
  unfold fD
  rw [eh]
  rfl
 rw [e]
 let K : Option D := some (kw k)
 let M : Option D := some (.int h)
 let Rw : Option D := some (.lst (ub (fD mxO ks) r))
 let Sz : Option D := some (.int (s : Nat))
 let L := ftL mxO k ks s
 let ρ : Env := [K, M, Rw, Sz, some (.lst (L.map fun t => D.int (t : Nat)))]
 unfold zv jz
 refine qa6 rfl ⟨ρ, (qq (ρ' := ρ) ?_).trans (ut ?_)⟩
 ·show jL 4 _ [K, M, Rw, Sz, none] = _
  rw [u6 (ue rfl rfl rfl (ui hk hs hr))]
  rfl
 ·have c := qgs (e := dv 0) (t := tst (d2 eqB (qj jg (qb (dv 2) (qb (dv 0) (qb (dv 3) (qb (dv 4) (ret [])))))) (dv 1))) (xs := qaO (dv 4)) (fr := [1, 0, 2, 3]) (ρ := ρ) (r := [M, K, Rw, Sz]) (k := fun t : Nat => D.int (t : Nat)) L (fun t => decide (wO mxO k ks s t = h)) (fun t => D.int (t : Nat)) rfl rfl (by have := qiN (f := mxO) (ks := ks) hk (show s <= 200 by omega); show (ftL mxO k ks s).length <= _; omega) (fun t ht => vy (qE (qgE rfl rfl rfl rfl (uQ hk hs ht)) rfl (qay _ _))) (fun t ht _ => rfl)
  have fl : L.filter (fun t => decide (wO mxO k ks s t = h)) = (List.range (ofn k (s : Nat) + 1)).filter fun t => decide (wF mxO k ks (s : Nat) t = some h) := by
   show (ftL mxO k ks s).filter _ = _
   rw [qiP, List.filter_filter]
   refine List.filter_congr fun t _ => ?_
   unfold wO
   cases wF mxO k ks (s : Nat) t with
   | none => simp
   | some z => simp
  obtain ⟨ud, er⟩ := qcE (p := fun t => decide (wF mxO k ks (s : Nat) t = some h)) (n := ofn k (s : Nat) + 1) (x := fT mxO k ks (s : Nat)) (by omega) (decide_eq_true l2) fun t ht => decide_eq_false (l3 t ht)
  rw [fl, er] at c
  exact qE c rfl (jW (i := 0) rfl)
theorem qcF (T Rm : Option D) {r : Nat} (hr : r <= 200) (RW : List D) : ∀ (b : List Kw) (p : Nat) (L : List D) (s : Nat) (h : Int) (o5 o6 o7 : Option D), (∀ k ∈ b, jM k) -> (∀ i, i <= b.length -> RW[p + i]? = some (.lst (ub (fD mxO (b.drop i)) r))) -> s <= r -> fR mxO b (s : Nat) = some h -> L.length + b.length <= 100 ->
  ∃ o4' o5' o6' o7', uA (qeV 2 (uc (qs 5) (uc (qs 6) qeU))) (zr (jL 7 (qj zv (qb (dv 6) (qb (d2 ixD (d2 ixD (dv 2) (dv 5)) (dv 4)) (qb (d2 ixD (dv 2) (d2 jw (dv 5) (ret (.int 1)))) (qb (dv 4) (ret []))))))) (zr (zL (uB 3 (dv 7))) (jL 4 (qj zN (qb (dv 6) (qb (dv 7) (qb (dv 4) (ret [])))))))) (uE p (b.map kw)) [T, Rm, some (.lst RW), some (.lst L), some (.int (s : Nat)), o5, o6, o7] = .ok (.nx [T, Rm, some (.lst RW), some (.lst (L ++ (v4 mxO b (s : Nat)).map D.int)), o4', o5', o6', o7'])
 | [], p, L, s, h, o5, o6, o7, _, _, _, _, _ => ⟨some (.int (s : Nat)), o5, o6, o7, by rw [show L ++ (v4 mxO [] ((s : Nat) : Int)).map D.int = L from List.append_nil L]; rfl⟩
 | k :: b, p, L, s, h, o5, o6, o7, hb, hR, hs, eh, hL => by
  have hk := hb k List.mem_cons_self
  obtain ⟨l1, l2, l3⟩ := qda qc9 eh
  let t := fT mxO k b (s : Nat)
  obtain ⟨i, hi, ei⟩ := qbG hk hs l1
  obtain ⟨h', eh'⟩ : ∃ h', fR mxO b (i : Nat) = some h' := by
   unfold wF at l2
   cases ec : fR mxO b ((s : Int) - (fT mxO k b (s : Nat) : Int) * k.w) with
   | none => rw [ec] at l2; cases l2
   | some h' => exact ⟨h', by rw [ei]; exact ec⟩
  obtain ⟨q4, q5, q6, q7, q⟩ := qcF T Rm hr RW b (p + 1) (L ++ [.int (t : Nat)]) i h' (some (.int (p : Nat))) (some (kw k)) (some (.int (t : Nat))) (fun x hx => hb x (List.mem_cons_of_mem _ hx)) (fun j hj => by
   have := hR (j + 1) (by rw [List.length_cons]; omega)
   rw [show p + 1 + j = p + (j + 1) by omega, this]
   rfl) hi eh' (by rw [List.length_append, List.length_cons, List.length_nil]; rw [List.length_cons] at hL; omega)
  refine ⟨q4, q5, q6, q7, ?_⟩
  have e0 : RW[p]? = some (.lst (ub (fD mxO (k :: b)) r)) := hR 0 (by omega)
  have e1 : RW[p + 1]? = some (.lst (ub (fD mxO b) r)) := hR 1 (by rw [List.length_cons]; omega)
  have step : (zr (jL 7 (qj zv (qb (dv 6) (qb (d2 ixD (d2 ixD (dv 2) (dv 5)) (dv 4)) (qb (d2 ixD (dv 2) (d2 jw (dv 5) (ret (.int 1)))) (qb (dv 4) (ret []))))))) (zr (zL (uB 3 (dv 7))) (jL 4 (qj zN (qb (dv 6) (qb (dv 7) (qb (dv 4) (ret [])))))))) [T, Rm, some (.lst RW), some (.lst L), some (.int (s : Nat)), some (.int (p : Nat)), some (kw k), o7] = .ok (.nx [T, Rm, some (.lst RW), some (.lst (L ++ [.int (t : Nat)])), some (.int (i : Nat)), some (.int (p : Nat)), some (kw k), some (.int (t : Nat))]) := by
   refine (qq (ρ' := [T, Rm, some (.lst RW), some (.lst L), some (.int (s : Nat)), some (.int (p : Nat)), some (kw k), some (.int (t : Nat))]) ?_).trans ((qq (ρ' := [T, Rm, some (.lst RW), some (.lst (L ++ [.int (t : Nat)])), some (.int (s : Nat)), some (.int (p : Nat)), some (kw k), some (.int (t : Nat))]) ?_).trans ?_)
   ·rw [u6 (qgE rfl (qE (qE rfl rfl (jW e0)) rfl (jW (wl hs))) (qE rfl (qE rfl rfl (yk _ _)) (show ixD (.lst RW) (.int ((p : Int) + 1)) = _ from jW (i := p + 1) e1)) rfl (vJ (ks := b) hk hs hr eh))]
    rfl
   ·rw [qgt (ds := L) (d := .int (t : Nat)) rfl rfl rfl (by omega)]
    rfl
   ·rw [u6 (ue rfl rfl rfl (yn hk (t : Nat) (s : Nat))), <- ei]
    rfl
  have pe : (L ++ (v4 mxO (k :: b) ((s : Nat) : Int)).map D.int) = L ++ [.int (t : Nat)] ++ (v4 mxO b ((i : Nat) : Int)).map D.int := by
   rw [v4, ei, List.map_cons, List.append_assoc]
   rfl
  rw [List.map_cons, uE, jr rfl step, q, pe]
def ldD (l : List Int) : D := .tup (l.map D.int)
def qm7 (ks : List Kw) (r : Int) : D := match fR mxO ks r with
 | none => .non
 | some _ => ldD (v4 mxO ks r)
theorem qgG {ks : List Kw} (h : ∀ k ∈ ks, jM k) (hl : ks.length <= 4) {r : Nat} (hr : r <= 200) : qct [.tup (ks.map kw), .int (r : Nat)] = .ok (qm7 ks (r : Nat)) := by
 let T : Option D := some (.tup (ks.map kw))
 let Rm : Option D := some (.int (r : Nat))
 let RW : Option D := some (.lst (yB (fD mxO) r ks))
 have c0 : d2 isN (d2 ixD (d2 ixD (dv 2) (ret (.int 0))) (dv 1)) (ret .non) [T, Rm, RW, none, none, none, none, none] = .ok (.bl (fR mxO ks (r : Nat)).isNone, [T, Rm, RW, none, none, none, none, none]) := qE (qE (qE rfl rfl (jW (i := 0) (qbH (fD mxO) r ks 0 (by omega)))) rfl (jW (wl (Nat.le_refl r)))) rfl (by
  rw [qcp]
  show some (D.bl (uq (fD mxO ks r))) = _
  unfold fD
  rw [qbC])
 have s1 : (zL (zm RN qu (qb (dv 0) (qb (dv 1) (ret []))))) [T, Rm, none, none, none, none, none, none] = .ok (.nx [T, Rm, none, none, none, none, none, none]) := by
  push_cast [yP (wm h (by omega)) (show (0 : Int) <= (r : Nat) by omega) (by omega), T, Rm]
 have s2 : (jL 2 (qj yh (qb (dv 0) (qb (dv 1) (ret []))))) [T, Rm, none, none, none, none, none, none] = .ok (.nx [T, Rm, RW, none, none, none, none, none]) := by
  rw [u6 (wS rfl rfl (vB h hl hr))]
  rfl
 unfold qct
 cases e : fR mxO ks (r : Nat) with
 | none =>
  refine qbv rfl ⟨[T, Rm, RW, none, none, none, none, none], ?_⟩
  unfold qbc qm7
  rw [e] at c0 |-
  refine (qq s1).trans ((qq s2).trans (qaA ?_))
  rw [qcL (vy c0)]
  rfl
 | some z =>
  obtain ⟨o4, o5, o6, o7, q⟩ := qcF T Rm hr (yB (fD mxO) r ks) ks 0 [] r z none none none h (fun i hi => by rw [Nat.zero_add]; exact qbH (fD mxO) r ks i hi) (Nat.le_refl r) e (by rw [List.length_nil]; omega)
  rw [List.nil_append] at q
  refine qbv rfl ⟨[T, Rm, RW, some (.lst ((v4 mxO ks (r : Nat)).map D.int)), o4, o5, o6, o7], ?_⟩
  unfold qbc qm7
  rw [e] at c0 |-
  refine (qq s1).trans ((qq s2).trans ((qq (ρ' := [T, Rm, RW, none, none, none, none, none]) ?_).trans ?_))
  ·rw [y0 (vy c0)]
   rfl
  refine (qq (ρ' := [T, Rm, RW, some (.lst []), none, none, none, none]) ?_).trans ?_
  ·push_cast [yD (show 0 <= 1000000 by omega), immL, Bool.and_self, RW]
  refine (qq (ρ' := [T, Rm, RW, some (.lst []), some (.int (r : Nat)), none, none, none]) rfl).trans ?_
  refine (qq (ρ' := [T, Rm, RW, some (.lst ((v4 mxO ks (r : Nat)).map D.int)), o4, o5, o6, o7]) ?_).trans rfl
  rw [vt, qcX, wG (a := .tup (ks.map kw)) rfl]
  exact q
theorem qgH {k : Kw} (hk : jM k) {s r : Nat} (hs : s <= r) (hr : r <= 200) (f : Nat -> Int) : ∃ n : Int, yf [kw k, .lst (ub (fun i => .int (f i)) r), .int (s : Nat)] = .ok (.int n) := by
 let K : Option D := some (kw k)
 let Rw : Option D := some (.lst (ub (fun i => .int (f i)) r))
 let Sz : Option D := some (.int (s : Nat))
 have hn := qj4 hk (s := s)
 let g : Nat -> Int := fun t => f ((s : Int) - t * k.w).toNat
 refine ⟨((List.range (ofn k (s : Nat) + 1)).map g).sum, ?_⟩
 unfold yf uH
 refine qa6 rfl ⟨[K, Rw, Sz], ut (qlN (a := .lst ((List.range (ofn k (s : Nat) + 1)).map fun t => D.int (g t))) ?_ qhR)⟩
 refine qa7 (r := [Rw, K, Sz]) (k := fun t : Nat => D.int (t : Nat)) (List.range (ofn k (s : Nat) + 1)) _ (qcx (by omega) (wG (qE (wS rfl rfl (uP hk (by omega))) rfl (yk _ _)))) rfl (by rw [List.length_range]; omega) fun t ht => ?_
 obtain ⟨i, hi, ei⟩ := qbG hk hs (show t <= ofn k (s : Nat) by have := List.mem_range.mp ht; omega)
 refine qE rfl (ue rfl rfl rfl (yn hk (t : Nat) (s : Nat))) ?_
 rw [<- ei, jW (wl hi)]
 show some (D.int (f i)) = some (D.int (f ((s : Int) - t * k.w).toNat))
 rw [<- ei, Int.toNat_natCast]
noncomputable def qhY {k : Kw} (hk : jM k) {r : Nat} (hr : r <= 200) (f : Nat -> Int) (s : Nat) : Int := if h : s <= r then (qgH hk h hr f).choose else 0
theorem qaI {r : Nat} (hr : r <= 200) (T : Option D) : ∀ (b : List Kw) (f : Nat -> Int) (o3 : Option D), (∀ k ∈ b, jM k) -> ∃ (f' : Nat -> Int) (o3' : Option D), uA (qs 3) (jL 2 (qV 1 [3, 2] none (zC (qb (d2 jw (dv 1) (ret (.int 1))) (ret []))) (qs 0) (ret true) (qj yf (qb (dv 1) (qb (dv 2) (qb (dv 0) (ret []))))))) (b.map kw) [T, some (.int (r : Nat)), some (.lst (ub (fun i => .int (f i)) r)), o3] = .ok (.nx [T, some (.int (r : Nat)), some (.lst (ub (fun i => .int (f' i)) r)), o3'])
 | [], f, o3, _ => ⟨f, o3, rfl⟩
 | k :: b, f, o3, h => by
  have hk := h k List.mem_cons_self
  obtain ⟨f', o3', q⟩ := qaI hr T b (qhY hk hr f) (some (kw k)) (fun x hx => h x (List.mem_cons_of_mem _ hx))
  let ρ : Env := [T, some (.int (r : Nat)), some (.lst (ub (fun i => .int (f i)) r)), some (kw k)]
  have c : (qV 1 [3, 2] none (zC (qb (d2 jw (dv 1) (ret (.int 1))) (ret []))) (qs 0) (ret true) (qj yf (qb (dv 1) (qb (dv 2) (qb (dv 0) (ret [])))))) ρ = .ok (.lst (ub (fun i => .int (qhY hk hr f i)) r), ρ) := by
   refine qa7 (r := [some (kw k), some (.lst (ub (fun i => .int (f i)) r))]) (k := fun s : Nat => D.int (s : Nat)) (List.range (r + 1)) (fun i => .int (qhY hk hr f i)) (qbI hr rfl) rfl (by rw [List.length_range]; omega) fun s hs => ?_
   have hs' : s <= r := by have := List.mem_range.mp hs; omega
   have e := (qgH hk hs' hr f).choose_spec
   refine ue rfl rfl rfl (e.trans ?_)
   unfold qhY
   rw [dif_pos hs']
  refine ⟨f', o3', ?_⟩
  rw [List.map_cons, jr rfl (u6 c)]
  exact q
theorem qaJ {ks : List Kw} (h : ∀ k ∈ ks, jM k) {r : Nat} (hr : r <= 200) : ∃ f : Nat -> Int, qZ [.tup (ks.map kw), .int (r : Nat)] = .ok (.lst (ub (fun i => .int (f i)) r)) := by
 let T : Option D := some (.tup (ks.map kw))
 let Rm : Option D := some (.int (r : Nat))
 let f0 : Nat -> Int := fun i => if i = 0 then 1 else 0
 obtain ⟨f, o3', q⟩ := qaI hr T ks f0 none h
 refine ⟨f, ?_⟩
 unfold qZ jx
 refine qa6 rfl ⟨[T, Rm, some (.lst (ub (fun i => .int (f i)) r)), o3'], ?_⟩
 refine (qq (ρ' := [T, Rm, some (.lst (ub (fun i => .int (f0 i)) r)), none]) ?_).trans ?_
 ·have a1 : zP (qb (ret (.int 1)) (ret [])) [T, Rm, none, none] = .ok (.lst [.int 1], [T, Rm, none, none]) := by push_cast [sm1]
  have a0 : zP (qb (ret (.int 0)) (ret [])) [T, Rm, none, none] = .ok (.lst [.int 0], [T, Rm, none, none]) := by push_cast [sm1]
  have a2 : d2 jw (zP (qb (ret (.int 1)) (ret []))) (d2 yM (zP (qb (ret (.int 0)) (ret []))) (dv 1)) [T, Rm, none, none] = .ok (.lst (ub (fun i => .int (f0 i)) r), [T, Rm, none, none]) := by
   refine qE a1 (qE a0 rfl (qgD (.int 0) r hr)) ?_
   rw [qd4 (by rw [List.length_map, List.length_range, List.length_cons, List.length_nil]; omega), <- qcy (f := fun i => .int (f0 i)) (.int 1) (.int 0) rfl (fun _ => rfl)]
   rfl
  show jL 2 _ [T, Rm, none, none] = _
  rw [u6 a2]
  rfl
 refine (qq (ρ' := [T, Rm, some (.lst (ub (fun i => .int (f i)) r)), o3']) ?_).trans rfl
 rw [vt]
 exact q
section
variable {ks : List Kw} (h : ∀ k ∈ ks, jM k) (hl : ks.length <= 4) {r : Nat} (hr : r <= 200)
include h hl hr
theorem qbJ (n : Nat) : zL (zm RN qu (qb (dv 0) (qb (dv 1) (ret [])))) ([some (.tup (ks.map kw)), some (.int (r : Nat))] ++ List.replicate n none) = .ok (.nx ([some (.tup (ks.map kw)), some (.int (r : Nat))] ++ List.replicate n none)) := u8 rfl (yP (wm h (by omega)) (show (0 : Int) <= (r : Nat) by omega) (by omega))
theorem qgI : ∃ d, wd [.tup (ks.map kw), .int (r : Nat)] = .ok d := by
 obtain ⟨f, e⟩ := qaJ h hr
 refine ⟨.bl (decide (0 < f r)), ?_⟩
 let ρ : Env := [some (.tup (ks.map kw)), some (.int (r : Nat))]
 unfold wd
 refine qbv rfl ⟨ρ, ?_⟩
 unfold v9
 exact (qq (qbJ h hl hr 0)).trans (ut (qE (qE (wS rfl rfl e) rfl (jW (wl (Nat.le_refl r)))) rfl (u4 _ _)))
theorem qhZ : ∃ d, yy [.tup (ks.map kw), .int (r : Nat)] = .ok d := by
 obtain ⟨f, e⟩ := qaJ h hr
 refine ⟨.int (f r), ?_⟩
 let ρ : Env := [some (.tup (ks.map kw)), some (.int (r : Nat))]
 unfold yy
 refine qbv rfl ⟨ρ, ?_⟩
 unfold yx
 exact (qq (qbJ h hl hr 0)).trans (ut (qE (wS rfl rfl e) rfl (jW (wl (Nat.le_refl r)))))
end
theorem qec {f : Nat -> D} : ∀ (l : List Nat) (p : Nat) (g : Nat -> Nat), (∀ i (hi : i < l.length), l[i] = g i) -> uE p (l.map f) = (List.range l.length).map fun i => .tup [.int (p + i : Nat), f (g i)]
 | [], p, g, _ => rfl
 | a :: l, p, g, h => by
  rw [List.map_cons, uE, qec l (p + 1) (fun i => g (i + 1)) (fun i hi => h (i + 1) (by rw [List.length_cons]; omega)), List.length_cons, List.range_succ_eq_map, List.map_cons, List.map_map]
  have : g 0 = a := (h 0 (by simp)).symm
  rw [this]
  congr 1
  refine List.map_congr_left fun i _ => ?_
  show D.tup [.int ((p + 1 + i : Nat) : Int), f (g (i + 1))] = D.tup [.int ((p + (i + 1) : Nat) : Int), f (g (i + 1))]
  rw [show p + 1 + i = p + (i + 1) by omega]
theorem qh0 (f : Nat -> D) (r : Nat) : uE 0 (ub f r) = (List.range (r + 1)).map fun i => .tup [.int (i : Nat), f i] := by
 unfold ub
 rw [qec (List.range (r + 1)) 0 (fun i => i) (fun i hi => List.getElem_range hi), List.length_range]
 refine List.map_congr_left fun i _ => ?_
 rw [Nat.zero_add]
theorem qh1 {g : M D} {ρ : Env} {xs : List D} (h : g ρ = .ok (.lst xs, ρ)) : qax (qb g (ret [])) ρ = .ok (uE 0 xs, ρ) := by
 unfold qax bnd
 rw [wG h]
 rfl
theorem ql3 {ks : List Kw} (h : ∀ k ∈ ks, jM k) (hl : ks.length <= 4) {r : Nat} (hr : r <= 200) : ∃ d, yw [.tup (ks.map kw), .int (r : Nat)] = .ok d := by
 obtain ⟨f, e⟩ := qaJ h hr
 let ρ : Env := [some (.tup (ks.map kw)), some (.int (r : Nat))]
 have c := qjW (e := dv 0) (t := tst (d2 gtD (dv 1) (ret (.int 0)))) (xs := qax (qb (qj qZ (qb (dv 0) (qb (dv 1) (ret [])))) (ret []))) (fr := []) (ρ := ρ) (r := []) (u := fun i : Nat => D.int (i : Nat)) (v := fun i => D.int (f i)) (List.range (r + 1)) (fun i => decide (0 < f i)) (fun i => D.int (i : Nat)) (by rw [qh1 (wS rfl rfl e), qh0]) rfl (by rw [List.length_range]; omega) (fun i _ => vy (qE rfl rfl (u4 _ _))) (fun i _ _ => rfl)
 refine ⟨.lst (((List.range (r + 1)).filter fun i => decide (0 < f i)).map fun i => D.int (i : Nat)), ?_⟩
 unfold yw
 refine qbv rfl ⟨ρ, ?_⟩
 unfold yv
 exact (qq (qbJ h hl hr 0)).trans (ut c)
theorem j6 {k s a : D} {x : Str} {v d : D} {ρ' ρ2 : Env} (hb : qM [k, s, a] = .exc ⟨x, v⟩ ρ') (hn : RN.contains x = true) (hg : (qV 1 [3] none (zC (qb (ret (.int 9)) (ret []))) (qs 0) (tst (qj jF (qb (dv 1) (qb (dv 0) (ret []))))) (dv 0)) [none, none, none, some (.exc x)] = .ok (d, ρ2)) : ql [k, s, a] = .ok d := by
 unfold ql
 refine qa6 rfl ⟨[some k, some s, some a, none], ?_⟩
 unfold y7
 refine qaA (qlU (x := x) (v := v) (d := d) (ρ' := [some k, some s, some a, none]) ?_ hn hg)
 push_cast [hb, hn]
theorem qiR {k s a : D} (hb : qM [k, s, a] = .ok .non) : ql [k, s, a] = .ok (.lst []) := by
 unfold ql
 let ρ : Env := [some k, some s, some a, none]
 refine qa6 rfl ⟨ρ, ?_⟩
 unfold y7
 refine (qq (ρ' := ρ) (qj3 ?_)).trans ?_
 ·push_cast [hb, ρ]
 ·push_cast [yD (show 0 <= 1000000 by omega), ρ]
theorem ql4 {p : MS} {ρ : Env} (h : p ρ = .ok (.nx ρ)) : ∃ ρ', p ρ = .ok (.nx ρ') := ⟨ρ, h⟩
theorem qnK {P : Nat -> Prop} (h0 : P 0) (h1 : P 1) (h2 : P 2) (h3 : P 3) (h4 : P 4) (h5 : P 5) : ∀ i, i < 6 -> P i
 | 0, _ => h0
 | 1, _ => h1
 | 2, _ => h2
 | 3, _ => h3
 | 4, _ => h4
 | 5, _ => h5
section
variable {s d v : D} {x : Str}
theorem qdh (h : qu [s, d] = .exc ⟨x, v⟩ [some s, some d]) (hn : RN.contains x = true) : ∀ i : Nat, i < 6 -> qM [.int i, s, d] = .exc ⟨x, v⟩ [some (.int i), some s, some d] := by
 have e0 : wd [s, d] = .exc ⟨x, v⟩ [some s, some d] := jH (n := 2) (p := 2) (body := v9) rfl (uO (yI rfl h hn))
 have e1 : yw [s, d] = .exc ⟨x, v⟩ [some s, some d] := jH (n := 2) (p := 2) (body := yv) rfl (uO (yI rfl h hn))
 have e2 : yy [s, d] = .exc ⟨x, v⟩ [some s, some d] := jH (n := 2) (p := 2) (body := yx) rfl (uO (yI rfl h hn))
 have e3 : jt [s, d] = .exc ⟨x, v⟩ [some s, some d] := jH (n := 2) (p := 2) (body := js) rfl (uO (yI rfl h hn))
 have e4 : ji [s, d] = .exc ⟨x, v⟩ [some s, some d, none, none] := jH (n := 4) (p := 2) (body := jh) rfl (uO (yI rfl h hn))
 have e5 : qct [s, d] = .exc ⟨x, v⟩ [some s, some d, none, none, none, none, none, none] := jH (n := 8) (p := 2) (body := qbc) rfl (uO (yI rfl h hn))
 refine qnK ?_ ?_ ?_ ?_ ?_ ?_ <;> (unfold qM; refine jH rfl ?_; unfold jj)
 ·exact (qcL rfl).trans (yI rfl e0 hn)
 ·exact (y0 rfl).trans ((qcL rfl).trans (yI rfl e1 hn))
 ·exact (y0 rfl).trans ((y0 rfl).trans ((qcL rfl).trans (yI rfl e2 hn)))
 ·exact (y0 rfl).trans ((y0 rfl).trans ((y0 rfl).trans ((qcL rfl).trans (yI rfl e3 hn))))
 ·exact (y0 rfl).trans ((y0 rfl).trans ((y0 rfl).trans ((y0 rfl).trans ((qcL rfl).trans (yI rfl e4 hn)))))
 ·exact (y0 rfl).trans ((y0 rfl).trans ((y0 rfl).trans ((y0 rfl).trans ((y0 rfl).trans ((qcL rfl).trans (yI rfl e5 hn))))))
theorem qaK (h : qo [s] = .exc ⟨x, v⟩ [some s]) (hn : RN.contains x = true) : qM [.int 6, s, d] = .exc ⟨x, v⟩ [some (.int 6), some s, some d] /\ qM [.int 7, s, d] = .exc ⟨x, v⟩ [some (.int 7), some s, some d] := by
 have e6 : jv [s] = .exc ⟨x, v⟩ [some s, none, none] := jH (n := 3) (p := 1) (body := ju) rfl (uO (yI rfl h hn))
 have e7 : yA [s] = .exc ⟨x, v⟩ [some s] := jH (n := 1) (p := 1) (body := yz) rfl (uO (yI rfl h hn))
 constructor <;> (unfold qM; refine jH rfl ?_; unfold jj; refine (y0 rfl).trans ((y0 rfl).trans ((y0 rfl).trans ((y0 rfl).trans ((y0 rfl).trans ((y0 rfl).trans ?_))))))
 ·exact (qcL rfl).trans (yI rfl e6 hn)
 ·exact (y0 rfl).trans (yI rfl e7 hn)
theorem qoh (h : zJ [s] = .exc ⟨x, v⟩ [some s]) (hn : RN.contains x = true) : qo [s] = .exc ⟨x, v⟩ [some s] := by
 unfold qo
 refine jH rfl ?_
 unfold qL
 refine uO ?_
 push_cast [h, hn]
theorem qnL (hs : zd s = true) (h : ym [s] = .exc ⟨x, v⟩ [some s]) (hn : RN.contains x = true) : qo [s] = .exc ⟨x, v⟩ [some s] := by
 unfold qo
 refine jH rfl ?_
 unfold qL
 refine (qq (ρ' := [some s]) ?_).trans (uO ?_)
 ·push_cast [jV s hs]
 ·push_cast [h, hn]
end
theorem rNE : RN.contains "NotEndless" = true := by decide
def one (p : Int) : D := .lst [.int p]
theorem qiS : (qV 1 [3] none (zC (qb (ret (.int 9)) (ret []))) (qs 0) (tst (qj jF (qb (dv 1) (qb (dv 0) (ret []))))) (dv 0)) [none, none, none, some (.exc "NoStore")] = .ok (one 0, [none, none, none, some (.exc "NoStore")]) := by kernel_rfl
theorem qoi : (qV 1 [3] none (zC (qb (ret (.int 9)) (ret []))) (qs 0) (tst (qj jF (qb (dv 1) (qb (dv 0) (ret []))))) (dv 0)) [none, none, none, some (.exc "NoNumber")] = .ok (one 1, [none, none, none, some (.exc "NoNumber")]) := by kernel_rfl
theorem qm8 : (qV 1 [3] none (zC (qb (ret (.int 9)) (ret []))) (qs 0) (tst (qj jF (qb (dv 1) (qb (dv 0) (ret []))))) (dv 0)) [none, none, none, some (.exc "TooMany")] = .ok (one 3, [none, none, none, some (.exc "TooMany")]) := by kernel_rfl
theorem qke : (qV 1 [3] none (zC (qb (ret (.int 9)) (ret []))) (qs 0) (tst (qj jF (qb (dv 1) (qb (dv 0) (ret []))))) (dv 0)) [none, none, none, some (.exc "NotEndless")] = .ok (one 5, [none, none, none, some (.exc "NotEndless")]) := by kernel_rfl
theorem ql5 {s : D} (d : D) (h : zd s = false) : ∀ i : Nat, i < 8 -> ql [.int i, s, d] = .ok (one 0) := fun i hi => by
 have f := qdh (d := d) (qcz h) wW
 have g := qaK (d := d) (qoh (wU s h) wW) wW
 match i, hi with
 | 0, _ => exact j6 (f 0 (by omega)) wW qiS
 | 1, _ => exact j6 (f 1 (by omega)) wW qiS
 | 2, _ => exact j6 (f 2 (by omega)) wW qiS
 | 3, _ => exact j6 (f 3 (by omega)) wW qiS
 | 4, _ => exact j6 (f 4 (by omega)) wW qiS
 | 5, _ => exact j6 (f 5 (by omega)) wW qiS
 | 6, _ => exact j6 g.1 wW qiS
 | 7, _ => exact j6 g.2 wW qiS
theorem ql6 {s d : D} (hs : zd s = true) (h : z5 d = false) : ∀ i : Nat, i < 6 -> ql [.int i, s, d] = .ok (one 1) := fun i hi =>
 j6 (qdh (qcA hs h) qj5 i hi) qj5 qoi
theorem ql7 {s : D} (hs : zd s = true) {n : Int} (h : 200 < n) : ∀ i : Nat, i < 6 -> ql [.int i, s, .int n] = .ok (one 3) := fun i hi =>
 j6 (qdh (qcB hs h) qdg i hi) qdg qm8
theorem qh2 {ks : List Kw} (h : ∀ k ∈ ks, jM k) (hl : ks.length <= 4) : ∀ i : Nat, i < 6 -> ql [.int i, .tup (ks.map kw), .int 200] = .ok (.lst []) := by
 obtain ⟨d0, e0⟩ := qgI h hl (Nat.le_refl 200)
 obtain ⟨d1, e1⟩ := ql3 h hl (Nat.le_refl 200)
 obtain ⟨d2', e2⟩ := qhZ h hl (Nat.le_refl 200)
 have e3 := wK h hl (Nat.le_refl 200)
 have e4 := wo h hl (Nat.le_refl 200)
 have e5 := qgG h hl (Nat.le_refl 200)
 have f : ∀ i : Nat, i < 6 -> qM [.int i, .tup (ks.map kw), .int ((200 : Nat) : Int)] = .ok .non := by
  refine qnK ?_ ?_ ?_ ?_ ?_ ?_ <;> (unfold qM; refine qa3 rfl (ql4 ?_); unfold jj)
  ·exact (qcL rfl).trans (u8 rfl e0)
  ·exact (y0 rfl).trans ((qcL rfl).trans (u8 rfl e1))
  ·exact (y0 rfl).trans ((y0 rfl).trans ((qcL rfl).trans (u8 rfl e2)))
  ·exact (y0 rfl).trans ((y0 rfl).trans ((y0 rfl).trans ((qcL rfl).trans (u8 rfl e3))))
  ·exact (y0 rfl).trans ((y0 rfl).trans ((y0 rfl).trans ((y0 rfl).trans ((qcL rfl).trans (u8 rfl e4)))))
  ·exact (y0 rfl).trans ((y0 rfl).trans ((y0 rfl).trans ((y0 rfl).trans ((y0 rfl).trans ((qcL rfl).trans (u8 rfl e5))))))
 exact fun i hi => qiR (f i hi)
def tw : D := (.tup [.tup [.int 20, .int 1, .non]])
theorem qoj : zW [.int 0, .int 20] = .ok (.int 20) := by
 unfold zW zV
 refine qa6 rfl ⟨[some (.int 20), some (.int 0), some (.int 0)], ?_⟩
 exact (qq (qfY (n := 3) (r := .ok (.nx [some (.int 20), some (.int 0), some (.int 0)])) (by kernel_rfl) (by intro z; cases z))).trans rfl
theorem qnM : zG [tw] = .ok (.int 20) := by
 unfold zG jp
 refine qa6 rfl ⟨[some tw, some (.int 20), some (.tup [.int 20, .int 1, .non])], ?_⟩
 refine (qq (ρ' := [some tw, some (.int 0), none]) rfl).trans ((qq (ρ' := [some tw, some (.int 20), some (.tup [.int 20, .int 1, .non])]) ?_).trans rfl)
 rw [vt]
 show uA (qs 2) _ [(.tup [.int 20, .int 1, .non])] [some tw, some (.int 0), none] = _
 rw [jr rfl (u6 (wS rfl (qE rfl rfl rfl) qoj))]
 rfl
theorem qnN : qo [tw] = .ok .non := by kernel_rfl
theorem qgJ : ql [.int 6, tw, .int 0] = .ok (.lst []) /\ ql [.int 7, tw, .int 0] = .ok (.lst []) := by
 have e6 : jv [tw] = .ok (.tup [.str "ever", .int 20]) := by
  unfold jv
  let ρ : Env := [some tw, some (.int 20), none]
  refine qbv rfl ⟨ρ, ?_⟩
  unfold ju
  refine (qq (ρ' := [some tw, none, none]) (u8 rfl qnN)).trans ((qq (ρ' := ρ) (u6 (qiJ rfl qnM))).trans (qaA ?_))
  rw [qcL (vy (qE rfl rfl (u4 _ _)))]
  exact ut (qnF rfl rfl)
 have e7 : yA [tw] = .ok .non := by
  unfold yA
  let ρ : Env := [some tw]
  refine qbv rfl ⟨ρ, ?_⟩
  unfold yz
  refine (qq (ρ' := ρ) (u8 rfl qnN)).trans (ut ?_)
  rw [qhk, vy (qE (qiJ rfl qnM) rfl (u4 _ _))]
  rfl
 constructor <;> (refine qiR ?_; unfold qM; refine qa3 rfl (ql4 ?_); unfold jj; refine (y0 rfl).trans ((y0 rfl).trans ((y0 rfl).trans ((y0 rfl).trans ((y0 rfl).trans ((y0 rfl).trans ?_))))))
 ·exact (qcL rfl).trans (u8 rfl e6)
 ·exact (y0 rfl).trans (u8 rfl e7)
def gD (w : Int) : D := .tup [(.tup [.int 2, .int 3, .non]), .tup [.int w, .int 1, .non]]
theorem qh3 {w : Int} (h : 21 <= w) : zd (gD w) = true := qa8 (ks := [(2, 3, none), (w, 1, none)]) (fun x hx => by
 simp only [List.mem_cons, List.not_mem_nil, or_false] at hx
 rcases hx with rfl | rfl
 ·exact ⟨by decide, by decide, fun j e => by cases e⟩
 ·exact ⟨by show 0 < w; omega, by show (0 : Int) <= 1; omega, fun j e => by cases e⟩) (of_decide_eq_true rfl)
theorem qh4 {w : Int} (h : 21 <= w) : qo [gD w] = .exc ⟨"TooMany", .non⟩ [some (gD w)] := by
 unfold qo
 refine jH rfl ?_
 unfold qL
 have e1 : ym [gD w] = .ok .non := rfl
 have e0 : uw [gD w] = .ok (.int w) := by
  have : uw [gD w] = .ok (.int (qcJ [2, w])) := rfl
  rw [this]
  have e : qcJ [2, w] = w := qbq (by simp) (fun n hn => by
   simp only [List.mem_cons, List.not_mem_nil, or_false] at hn
   rcases hn with rfl | rfl <;> omega)
  rw [e]
 have e2 : uh [gD w] = .exc ⟨"TooMany", .non⟩ [some (gD w)] := by
  unfold uh
  refine jH rfl ?_
  unfold ug
  have hw : (20 : Int) < w := by omega
  push_cast [e0, hw, sm1]
 refine (qq (ρ' := [some (gD w)]) ?_).trans ((qq (ρ' := [some (gD w)]) ?_).trans ?_)
 ·push_cast [jV _ (qh3 h)]
 ·push_cast [e1]
 ·push_cast [e2, qdg]
def qiT (a b c : Int) : D := .tup [.tup [.int a, .int b, .int c]]
def gO (w a b c : Int) : D := .tup [(.tup [.int 2, .int 3, .non]), .tup [.int w, .int 1, .non], .tup [.int a, .int b, .int c]]
theorem qh5 {w a b c : Int} (h : 21 <= w) (ha : 1 <= a) (hb : 0 <= b) (hc : 0 <= c) : zd (gO w a b c) = true := qa8 (ks := [(2, 3, none), (w, 1, none), (a, b, some c)]) (fun x hx => by
 simp only [List.mem_cons, List.not_mem_nil, or_false] at hx
 rcases hx with rfl | rfl | rfl
 ·exact ⟨by decide, by decide, fun j e => by cases e⟩
 ·exact ⟨by show 0 < w; omega, by show (0 : Int) <= 1; omega, fun j e => by cases e⟩
 ·exact ⟨by show 0 < a; omega, hb, fun j e => by cases e; exact hc⟩) (of_decide_eq_true rfl)
theorem qh6 (n : Int) : ∃ d n', z5 d = false /\ ∀ (S I o3 o4 o5 o6 o7 o8 : Option D), (jL 4 (d2 ixD (zP (qb (d2 qjf (d1 qhi (ret (.int 1))) (qB qk 2 (qb (ret (.int 9)) (ret [])))) (qb (ret (.bl true)) (qb (ret .non) (qb (ret (.str "3")) (qb (jm (qb (ret (.int 3)) (ret []))) (qb (zP (qb (ret (.int 3)) (ret []))) (ret [])))))))) (qB qk 2 (qb (ret (.int 6)) (ret []))))) [S, I, some (.lst [.int n]), o3, o4, o5, o6, o7, o8] = .ok (.nx [S, I, some (.lst [.int n']), o3, some d, o5, o6, o7, o8]) := by
 let n1 := n / 9
 obtain ⟨d, hd, e⟩ := qiI (ds := [.int (-1 - n % 9), .bl true, .non, .str "3", .tup [.int 3], .lst [.int 3]]) (k := n1 % 6) (by omega) (by simp; omega)
 refine ⟨d, n1 / 6, ?_, fun S I o3 o4 o5 o6 o7 o8 => ?_⟩
 ·simp only [List.mem_cons, List.not_mem_nil, or_false] at hd
  rcases hd with h | h | h | h | h | h
  ·subst h
   have : ¬ (0 : Int) <= -1 - n % 9 := by omega
   simp only [z5, this, decide_false]
  all_goals (subst h; rfl)
 ·push_cast [neg_int, vI (m := 9) (by decide) (by decide), vI (m := 6) (by decide) (by decide), qd3, yD (show 1 <= 1000000 by omega), yD (show 6 <= 1000000 by omega), e, n1]
theorem qed {s : D} (hs : zd s = true) : ∀ (as : List Nat) (acc : List D) (o : Option D) (n : Int), (∀ a ∈ as, a < 6) -> acc.length + as.length <= 1000 -> ∃ (o' : Option D) (n' : Int), zt (qs 0) (ret true) (qj ql (qb (dv 0) (qb (dv 1) (qb (d2 jw (ret (.int 201)) (qB qk 2 (qb (ret (.int 99)) (ret [])))) (ret []))))) (as.map fun i => D.int (i : Nat)) acc [o, some s, some (.lst [.int n])] = .ok (acc ++ as.map (fun _ => one 3), [o', some s, some (.lst [.int n'])])
 | [], acc, o, n, _, _ => ⟨o, n, by rw [List.map_nil, List.map_nil, List.append_nil]; rfl⟩
 | a :: as, acc, o, n, h, hl => by
  obtain ⟨o', n', q⟩ := qed hs as (acc ++ [one 3]) (some (.int (a : Nat))) (n / 99) (fun x hx => h x (List.mem_cons_of_mem _ hx)) (by rw [List.length_append, List.length_cons, List.length_nil]; rw [List.length_cons] at hl; omega)
  refine ⟨o', n', ?_⟩
  have hx : (201 : Int) + n % 99 > 200 := by omega
  have e1 : d2 jw (ret (.int 201)) (qB qk 2 (qb (ret (.int 99)) (ret []))) [some (.int (a : Nat)), some s, some (.lst [.int n])] = .ok (.int (201 + n % 99), [some (.int (a : Nat)), some s, some (.lst [.int (n / 99)])]) := by
   rw [qkd]
   show (match qB qk 2 (qb (ret (.int 99)) (ret [])) [some (.int (a : Nat)), some s, some (.lst [.int n])] with | .ok (b, ρ2) => (match jw (.int 201) b with | some d => R.ok (d, ρ2) | none => .bad) | .exc x ρ' => .exc x ρ' | .bad => .bad) = _
   rw [io1 (a := .int 99) (ds := [.int n]) rfl rfl (vI (m := 99) (by decide) (by decide))]
   rfl
  have e2 : qj ql (qb (dv 0) (qb (dv 1) (qb (d2 jw (ret (.int 201)) (qB qk 2 (qb (ret (.int 99)) (ret [])))) (ret [])))) [some (.int (a : Nat)), some s, some (.lst [.int n])] = .ok (one 3, [some (.int (a : Nat)), some s, some (.lst [.int (n / 99)])]) := by
   have e3 : qb (dv 0) (qb (dv 1) (qb (d2 jw (ret (.int 201)) (qB qk 2 (qb (ret (.int 99)) (ret [])))) (ret []))) [some (.int (a : Nat)), some s, some (.lst [.int n])] = .ok ([.int (a : Nat), s, .int (201 + n % 99)], [some (.int (a : Nat)), some s, some (.lst [.int (n / 99)])]) := by
    rw [jP]
    show (match qb (dv 1) (qb (d2 jw (ret (.int 201)) (qB qk 2 (qb (ret (.int 99)) (ret [])))) (ret [])) [some (.int (a : Nat)), some s, some (.lst [.int n])] with | .ok (ds, ρ2) => R.ok (D.int (a : Nat) :: ds, ρ2) | .exc x ρ' => .exc x ρ' | .bad => .bad) = _
    rw [jP]
    show (match (match qb (d2 jw (ret (.int 201)) (qB qk 2 (qb (ret (.int 99)) (ret [])))) (ret []) [some (.int (a : Nat)), some s, some (.lst [.int n])] with | .ok (ds, ρ2) => R.ok (s :: ds, ρ2) | .exc x ρ' => .exc x ρ' | .bad => .bad) with | .ok (ds, ρ2) => R.ok (D.int (a : Nat) :: ds, ρ2) | .exc x ρ' => .exc x ρ' | .bad => .bad) = _
    rw [jP, e1]
    rfl
   rw [uD, e3]
   simp only [ql7 hs hx a (h a List.mem_cons_self)]
  rw [List.map_cons]
  unfold zt
  have hg : qs 0 (.int (a : Nat)) [o, some s, some (.lst [.int n])] = some [some (.int (a : Nat)), some s, some (.lst [.int n])] := rfl
  simp only [hg, qfG, e2, yD (show acc.length + 1 <= 1000000 by rw [List.length_cons] at hl; omega), if_true]
  rw [q, List.map_cons, List.append_assoc]
  rfl
theorem qgK (d : D) (f : M D) (n : Nat) (hn : n <= 200) {ρ : Env} (h : f ρ = .ok (d, ρ)) : d2 yM (zP (qb f (ret []))) (ret (.int (n : Int))) ρ = .ok (.lst ((List.range n).map fun _ => d), ρ) := qE (by rw [qdE, wG h]; simp only [List.length_cons, List.length_nil, Nat.zero_add, sm1, if_true]) rfl (qgD d n hn)
theorem qm9 (f : M D) {d : D} {ρ : Env} (h : f ρ = .ok (d, ρ)) : zP (qb f (ret [])) ρ = .ok (.lst [d], ρ) := by
 rw [qdE, wG h]
 simp only [List.length_cons, List.length_nil, Nat.zero_add, sm1, if_true]
theorem qaL {s x : D} (S I B K3 K4 K5 K6 : Option D) (o7 o8 : Option D) (h6 : ql [.int 6, s, .int 0] = .ok x) (h7 : ql [.int 7, s, .int 0] = .ok x) (hx : neB (.lst [x, x]) (.lst [x, x]) = some (.bl false)) : (sif (tst (d2 neB (qV 1 [7] none (qaO (jm (qb (ret (.int 6)) (qb (ret (.int 7)) (ret []))))) (qs 0) (ret true) (qj ql (qb (dv 0) (qb (dv 1) (qb (ret (.int 0)) (ret [])))))) (d2 yM (zP (qb (dv 8) (ret []))) (ret (.int 2))))) (yq (ret (.bl false))) wv) [S, I, B, K3, K4, K5, K6, some s, some x] = .ok (.nx [S, I, B, K3, K4, K5, K6, some s, some x]) := by
 let ρ : Env := [S, I, B, K3, K4, K5, K6, some s, some x]
 have c : qV 1 [7] none (qaO (jm (qb (ret (.int 6)) (qb (ret (.int 7)) (ret []))))) (qs 0) (ret true) (qj ql (qb (dv 0) (qb (dv 1) (qb (ret (.int 0)) (ret []))))) ρ = .ok (.lst ([6, 7].map fun _ => x), ρ) := by
  refine qa7 (r := [some s]) (k := fun t : Nat => D.int (t : Nat)) [6, 7] (fun _ => x) ?_ rfl (by simp) fun t ht => ?_
  ·rw [qdG, qnF rfl rfl]
   rfl
  ·simp only [List.mem_cons, List.not_mem_nil, or_false] at ht
   rcases ht with rfl | rfl
   ·exact ue rfl rfl rfl h6
   ·exact ue rfl rfl rfl h7
 exact y0 (vy (qE c (qgK x (dv 8) 2 (by omega) rfl) hx))
noncomputable def qna : MS := (zr (qaR 2 (qeq yW (qb (dv 0) (qb (dv 1) (ret []))))) (zr (jL 3 (qB zH 2 (ret []))) (zr (jL 4 (d2 ixD (zP (qb (d2 qjf (d1 qhi (ret (.int 1))) (qB qk 2 (qb (ret (.int 9)) (ret [])))) (qb (ret (.bl true)) (qb (ret .non) (qb (ret (.str "3")) (qb (jm (qb (ret (.int 3)) (ret []))) (qb (zP (qb (ret (.int 3)) (ret []))) (ret [])))))))) (qB qk 2 (qb (ret (.int 6)) (ret []))))) (zr (sif (tst (d2 neB (qV 1 [3, 4] none (zC (qb (ret (.int 8)) (ret []))) (qs 0) (ret true) (qj ql (qb (dv 0) (qb (dv 1) (qb (dv 2) (ret [])))))) (d2 yM (zP (qb (zP (qb (ret (.int 0)) (ret []))) (ret []))) (ret (.int 8))))) (yq (ret (.bl false))) wv) (zr (jL 5 (jm (qb (jm (qb (d2 jw (ret (.int 1)) (qB qk 2 (qb (ret (.int 9)) (ret [])))) (qb (qB qk 2 (qb (ret (.int 9)) (ret []))) (qb (d2 jw (ret (.int 1)) (qB qk 2 (qb (ret (.int 3)) (ret [])))) (ret []))))) (ret [])))) (zr (sif (tst (d2 neB (qV 1 [5, 4] none (zC (qb (ret (.int 6)) (ret []))) (qs 0) (ret true) (qj ql (qb (dv 0) (qb (dv 1) (qb (dv 2) (ret [])))))) (d2 yM (zP (qb (zP (qb (ret (.int 1)) (ret []))) (ret []))) (ret (.int 6))))) (yq (ret (.bl false))) wv) (zr (sif (tst (d2 neB (qV 1 [5, 2] (some (2, 2)) (zC (qb (ret (.int 6)) (ret []))) (qs 0) (ret true) (qj ql (qb (dv 0) (qb (dv 1) (qb (d2 jw (ret (.int 201)) (qB qk 2 (qb (ret (.int 99)) (ret [])))) (ret [])))))) (d2 yM (zP (qb (zP (qb (ret (.int 3)) (ret []))) (ret []))) (ret (.int 6))))) (yq (ret (.bl false))) wv) (zr (jL 6 (jm (qb (jm (qb (ret (.int 2)) (qb (ret (.int 3)) (qb (ret .non) (ret []))))) (qb (jm (qb (d2 jw (ret (.int 21)) (qB qk 2 (qb (ret (.int 99)) (ret [])))) (qb (ret (.int 1)) (qb (ret .non) (ret []))))) (ret []))))) (zr (qen (qaO (zP (qb (jm (qb (jm (ret [])) (qb (zP (qb (ret (.int 5)) (ret []))) (ret [])))) (qb (jm (qb (dv 5) (qb (zP (qb (ret (.int 5)) (ret []))) (ret [])))) (qb (jm (qb (d2 jw (dv 6) (dv 5)) (qb (zP (qb (ret (.int 5)) (ret []))) (ret [])))) (qb (jm (qb (dv 6) (qb (zP (qb (ret (.int 3)) (ret []))) (ret [])))) (qb (jm (qb (jm (qb (jm (qb (ret (.int 20)) (qb (ret (.int 1)) (qb (ret .non) (ret []))))) (ret []))) (qb (zP (ret [])) (ret [])))) (ret [])))))))) (qeV 2 (uc (qs 7) (uc (qs 8) qeU))) (sif (tst (d2 neB (qV 1 [7] none (qaO (jm (qb (ret (.int 6)) (qb (ret (.int 7)) (ret []))))) (qs 0) (ret true) (qj ql (qb (dv 0) (qb (dv 1) (qb (ret (.int 0)) (ret [])))))) (d2 yM (zP (qb (dv 8) (ret []))) (ret (.int 2))))) (yq (ret (.bl false))) wv)) (sif (tst (d2 neB (qV 1 [5] none (zC (qb (ret (.int 6)) (ret []))) (qs 0) (ret true) (qj ql (qb (dv 0) (qb (dv 1) (qb (ret (.int 200)) (ret [])))))) (d2 yM (zP (qb (zP (ret [])) (ret []))) (ret (.int 6))))) (yq (ret (.bl false))) wv))))))))))
theorem qh7 (ns : List Int) (i : Int) (h0 : 0 <= i) (r : Env) (hr : r.length = 7) : ∃ r', r'.length = 7 /\ qna ([some (.fz ns), some (.int i)] ++ r) = .ok (.nx ([some (.fz ns), some (.int i)] ++ r')) := by
 match r, hr with
 | [o2, o3, o4, o5, o6, o7, o8], _ =>
  obtain ⟨n, eb⟩ := qlT ns i h0
  obtain ⟨bad, hbad, e1⟩ := qde n
  obtain ⟨none', n2, hnone, e2⟩ := qh6 (n / 16)
  let S : Option D := some (.fz ns)
  let I : Option D := some (.int i)
  let a : Int := 1 + n2 % 9
  let b : Int := n2 / 9 % 9
  let c : Int := 1 + n2 / 9 / 9 % 3
  let n3 := n2 / 9 / 9 / 3
  let ks : List Kw := [⟨a, b, some c⟩]
  have hk : ∀ k ∈ ks, jM k := fun k hk => by
   have : k = ⟨a, b, some c⟩ := List.mem_singleton.mp hk
   subst this
   refine ⟨⟨by show 1 <= 1 + n2 % 9; omega, by show 1 + n2 % 9 <= 25; omega⟩, ⟨by show 0 <= n2 / 9 % 9; omega, by show n2 / 9 % 9 <= 39; omega⟩, fun j e => ?_⟩
   have : c = j := Option.some.inj e
   subst this
   show 0 <= 1 + n2 / 9 / 9 % 3 /\ 1 + n2 / 9 / 9 % 3 <= 5
   omega
  have es : D.tup (ks.map kw) = qiT a b c := rfl
  have hs : zd (qiT a b c) = true := wm hk (by show 1 <= 12; omega)
  have t200 := qh2 hk (show 1 <= 4 by omega)
  rw [es] at t200
  obtain ⟨o', n4, qf⟩ := qed hs [0, 1, 2, 3, 4, 5] [] none n3 (fun x hx => by simp only [List.mem_cons, List.not_mem_nil, or_false] at hx; omega) (by simp)
  let w : Int := 21 + n4 % 99
  have hw : 21 <= w := by show 21 <= 21 + n4 % 99; omega
  let Bd : Option D := some bad
  let No : Option D := some none'
  let St : Option D := some (qiT a b c)
  let Gr : Option D := some (gD w)
  let B : Option D := some (.lst [.int (n4 / 99)])
  have hgo : zd (gO w a b c) = true := qh5 hw (by show 1 <= 1 + n2 % 9; omega) (by show 0 <= n2 / 9 % 9; omega) (by show 0 <= 1 + n2 / 9 / 9 % 3; omega)
  refine ⟨[B, Bd, No, St, Gr, some tw, some (.lst [])], rfl, ?_⟩
  unfold qna
  show (_ : MS) [S, I, o2, o3, o4, o5, o6, o7, o8] = _
  refine (qq (ρ' := [S, I, some (.lst [.int n]), o3, o4, o5, o6, o7, o8]) ?_).trans ?_
  ·push_cast [S, I, eb, immFs, immF, immL, imm, Bool.and_self]
  refine (qq (ρ' := [S, I, some (.lst [.int (n / 16)]), Bd, o4, o5, o6, o7, o8]) ?_).trans ?_
  ·push_cast [e1, Bd]
  refine (qq (e2 S I Bd o4 o5 o6 o7 o8)).trans ?_
  refine (qq (ρ' := [S, I, some (.lst [.int n2]), Bd, No, o5, o6, o7, o8]) (qgw (r := [Bd, No]) 8 (one 0) _ (by omega) rfl (fun j hj => ue rfl rfl rfl (ql5 none' hbad j hj)) (qgK (one 0) _ 8 (by omega) (qm9 _ rfl)) (by kernel_rfl))).trans ?_
  refine (qq (ρ' := [S, I, some (.lst [.int n3]), Bd, No, St, o6, o7, o8]) ?_).trans ?_
  ·push_cast [vI (m := 9) (by decide) (by decide), vI (m := 3) (by decide) (by decide), yk, sm1, yD (show 3 <= 1000000 by omega), St, qiT, a, b, c, n3, Bd, No]
  refine (qq (ρ' := [S, I, some (.lst [.int n3]), Bd, No, St, o6, o7, o8]) (qgw (r := [St, No]) 6 (one 1) _ (by omega) rfl (fun j hj => ue rfl rfl rfl (ql6 hs hnone j hj)) (qgK (one 1) _ 6 (by omega) (qm9 _ rfl)) (by kernel_rfl))).trans ?_
  refine (qq (ρ' := [S, I, some (.lst [.int n4]), Bd, No, St, o6, o7, o8]) ?_).trans ?_
  ·have cc : (qV 1 [5, 2] (some (2, 2)) (zC (qb (ret (.int 6)) (ret []))) (qs 0) (ret true) (qj ql (qb (dv 0) (qb (dv 1) (qb (d2 jw (ret (.int 201)) (qB qk 2 (qb (ret (.int 99)) (ret [])))) (ret [])))))) [S, I, some (.lst [.int n3]), Bd, No, St, o6, o7, o8] = .ok (.lst ([0, 1, 2, 3, 4, 5].map fun _ : Nat => one 3), [S, I, some (.lst [.int n4]), Bd, No, St, o6, o7, o8]) := by
    have er : zC (qb (ret (.int 6)) (ret [])) [S, I, some (.lst [.int n3]), Bd, No, St, o6, o7, o8] = .ok ([0, 1, 2, 3, 4, 5].map fun i : Nat => D.int (i : Nat), [S, I, some (.lst [.int n3]), Bd, No, St, o6, o7, o8]) := by
     rw [vf (j := 6) (ρ1 := [S, I, some (.lst [.int n3]), Bd, No, St, o6, o7, o8]) rfl (by omega) (by omega)]
     rfl
    rw [qar, er]
    have hc : z0 1 [5, 2] [S, I, some (.lst [.int n3]), Bd, No, St, o6, o7, o8] = [none, some (qiT a b c), some (.lst [.int n3])] := rfl
    simp only [hc, qf, List.nil_append]
    rfl
   have cr := qgK (one 3) (zP (qb (ret (.int 3)) (ret []))) 6 (by omega) (ρ := [S, I, some (.lst [.int n4]), Bd, No, St, o6, o7, o8]) (qm9 _ rfl)
   have hx : neB (.lst ([0, 1, 2, 3, 4, 5].map fun _ : Nat => one 3)) (.lst ((List.range 6).map fun _ => one 3)) = some (.bl false) := by kernel_rfl
   have ct : tst (d2 neB (qV 1 [5, 2] (some (2, 2)) (zC (qb (ret (.int 6)) (ret []))) (qs 0) (ret true) (qj ql (qb (dv 0) (qb (dv 1) (qb (d2 jw (ret (.int 201)) (qB qk 2 (qb (ret (.int 99)) (ret [])))) (ret [])))))) (d2 yM (zP (qb (zP (qb (ret (.int 3)) (ret []))) (ret []))) (ret (.int 6)))) [S, I, some (.lst [.int n3]), Bd, No, St, o6, o7, o8] = .ok (false, [S, I, some (.lst [.int n4]), Bd, No, St, o6, o7, o8]) := by
    rw [qhj, qkd, cc]
    have cr' : d2 yM (zP (qb (zP (qb (ret (.int 3)) (ret []))) (ret []))) (ret (.int 6)) [S, I, some (.lst [.int n4]), Bd, No, St, o6, o7, o8] = .ok (.lst ((List.range 6).map fun _ => one 3), [S, I, some (.lst [.int n4]), Bd, No, St, o6, o7, o8]) := cr
    simp only [cr', hx]
    rfl
   rw [qfJ, ct]
   rfl
  refine (qq (ρ' := [S, I, B, Bd, No, St, Gr, o7, o8]) ?_).trans ?_
  ·push_cast [vI (m := 99) (by decide) (by decide), yk, yD (show 2 <= 1000000 by omega), yD (show 3 <= 1000000 by omega), B, w, gD, Gr, Bd, No, St]
  refine (qq (ρ' := [S, I, B, Bd, No, St, Gr, some tw, some (.lst [])]) ?_).trans ?_
  ·have ai : (qaO (zP (qb (jm (qb (jm (ret [])) (qb (zP (qb (ret (.int 5)) (ret []))) (ret [])))) (qb (jm (qb (dv 5) (qb (zP (qb (ret (.int 5)) (ret []))) (ret [])))) (qb (jm (qb (d2 jw (dv 6) (dv 5)) (qb (zP (qb (ret (.int 5)) (ret []))) (ret [])))) (qb (jm (qb (dv 6) (qb (zP (qb (ret (.int 3)) (ret []))) (ret [])))) (qb (jm (qb (jm (qb (jm (qb (ret (.int 20)) (qb (ret (.int 1)) (qb (ret .non) (ret []))))) (ret []))) (qb (zP (ret [])) (ret [])))) (ret [])))))))) [S, I, B, Bd, No, St, Gr, o7, o8] = .ok ([.tup [.tup [], one 5], .tup [qiT a b c, one 5], .tup [gO w a b c, one 5], .tup [gD w, one 3], .tup [tw, .lst []]], [S, I, B, Bd, No, St, Gr, o7, o8]) := by
    have ad : jw (gD w) (qiT a b c) = some (gO w a b c) := rfl
    push_cast [qk7, yD (show 0 <= 1000000 by omega), sm1, yD (show 2 <= 1000000 by omega), yD (show 3 <= 1000000 by omega), yD (show 5 <= 1000000 by omega), ad, St, Gr]
    rfl
   have b1 := qaK (s := .tup []) (d := .int 0) (x := "NotEndless") (v := .non) (by kernel_rfl) rNE
   have b2 := qaK (d := .int 0) (qnL (x := "NotEndless") (v := .non) hs rfl rNE) rNE
   have b3 := qaK (d := .int 0) (qnL (x := "NotEndless") (v := .non) hgo rfl rNE) rNE
   have b4 := qaK (d := .int 0) (qh4 hw) qdg
   have n5 : neB (.lst [one 5, one 5]) (.lst [one 5, one 5]) = some (.bl false) := by kernel_rfl
   have n3' : neB (.lst [one 3, one 3]) (.lst [one 3, one 3]) = some (.bl false) := by kernel_rfl
   have n0 : neB (.lst [.lst [], .lst []]) (.lst [.lst [], .lst []]) = some (.bl false) := by kernel_rfl
   rw [vt, ai]
   show uA _ _ [.tup [.tup [], one 5], .tup [qiT a b c, one 5], .tup [gO w a b c, one 5], .tup [gD w, one 3], .tup [tw, .lst []]] _ = _
   rw [jr rfl (qaL S I B Bd No St Gr o7 o8 (j6 b1.1 rNE qke) (j6 b1.2 rNE qke) n5),
    jr rfl (qaL S I B Bd No St Gr o7 o8 (j6 b2.1 rNE qke) (j6 b2.2 rNE qke) n5),
    jr rfl (qaL S I B Bd No St Gr o7 o8 (j6 b3.1 rNE qke) (j6 b3.2 rNE qke) n5),
    jr rfl (qaL S I B Bd No St Gr o7 o8 (j6 b4.1 qdg qm8) (j6 b4.2 qdg qm8) n3'),
    jr rfl (qaL S I B Bd No St Gr o7 o8 qgJ.1 qgJ.2 n0)]
   rfl
  ·exact qgw (r := [St]) 6 (.lst []) _ (by omega) rfl (fun j hj => ue rfl rfl rfl (t200 j hj)) (qgK (.lst []) _ 6 (by omega) (by push_cast [yD (show 0 <= 1000000 by omega)])) (by kernel_rfl)
theorem qee (ns : List Int) : ∀ (ds : List D) (o1 : Option D) (r : Env), r.length = 7 -> (∀ d ∈ ds, ∃ i : Int, d = .int i /\ 0 <= i) -> ∃ ρ, uA (qs 1) qna ds ([some (.fz ns), o1] ++ r) = .ok (.nx ρ)
 | [], o1, r, _, _ => ⟨_, rfl⟩
 | d :: ds, o1, r, hr, h => by
  obtain ⟨i, rfl, h0⟩ := h d List.mem_cons_self
  obtain ⟨r', hr', e⟩ := qh7 ns i h0 r hr
  obtain ⟨ρ, q⟩ := qee ns ds (some (.int i)) r' hr' fun y hy => h y (List.mem_cons_of_mem _ hy)
  refine ⟨ρ, ?_⟩
  unfold uA
  simp only [qs, List.cons_append, List.nil_append, List.set_cons_zero, List.set_cons_succ] at e |-
  simp only [e]
  exact q
theorem law_true (ns : List Int) (hn : ns.length <= 63) : qdc [.fz ns] = .ok (.bl true) := by
 let j : Int := if (if (4 : Int) < (ns.length : Int) then (4 : Int) else (ns.length : Int)) > 1 then (if (4 : Int) < (ns.length : Int) then (4 : Int) else (ns.length : Int)) else 1
 have hj0 : 0 <= j := by simp only [j]; split <;> split <;> omega
 have hj1 : j <= 6 := by simp only [j]; split <;> split <;> omega
 obtain ⟨ρ, q⟩ := qee ns (qbT 0 j.toNat) none [none, none, none, none, none, none, none] rfl fun d hd => by
  unfold qbT at hd
  obtain ⟨k, hk, rfl⟩ := List.mem_map.mp hd
  exact ⟨_, rfl, by omega⟩
 unfold qdc
 refine qa6 rfl ⟨ρ, ?_⟩
 unfold qhW
 refine (qq (ρ' := ρ) ?_).trans rfl
 rw [vt, vf (j := j) (ρ1 := [some (.fz ns), none, none, none, none, none, none, none, none]) ?_ hj0 (by omega)]
 ·exact q
 ·rfl
section
variable {P : Program} {w : World} {K : PySem.W.Frag} {mg : Str -> Option Value} {base : Heap}
set_option maxHeartbeats 4000000
theorem vC : qp ["kind", "room", "alone"] ["kind", "room"] (qd jo) := ⟨rfl, rfl, rfl, by decide +kernel, rfl, by decide +kernel, by decide +kernel⟩
abbrev Q0 (P : Program) (w : World) (K : Fr0) (mg : Str -> Option Value) (base : Heap) : Prop := zU P w K mg base 1 "most_within" ["kind", "room"] (spD K jR)
theorem q0 {f : Addr} {fd : FuncData} (F : Fun K "most_within" "most_within" jo f fd) (m : mg "most_within" = some (.ref f)) (T : Txt K mg) (XTt : XT K mg RN TN) (hB : K.In base) : Q0 P w K mg base := by
 refine ⟨f, fd, ?_, m, F.kp, F.binds fun _ _ _ _ _ _ us hl => match us, hl with | [_, _], _ => rfl⟩
 show jX P w K mg base CX0 1 f fd ["kind", "room"] (spD K (dfn (["kind", "room", "alone"] : List Str).length (["kind", "room"] : List Str).length yN))
 refine zD (N := ["kind", "room", "alone"]) (ps := ["kind", "room"]) (k := 0) (O := []) (body := yN) F vC ?a ?b
 case a => decide
 intro cdv A outer s H E B hr
 exact (qh (zc (i := 2) vC.nd (qx qe5 qdv (qc 1) (jn qT qR (qc 0) (gI T.c_WEIGHT))))
   (qi (qF (qjd (zw qdq qbl (jn qT qR (qc 0) (gI T.c_MOST)) jY (qN _)) (qc 2) (zK (qbW rfl) qb9 rfl T.b_min qdD (qa (qc 2) (qa (jn qT qR (qc 0) (gI T.c_MOST)) qe)))))))
theorem qcG : qp ["kind", "times", "room"] ["kind", "times", "room"] (qd ya) := ⟨rfl, rfl, rfl, by decide +kernel, rfl, by decide +kernel, by decide +kernel⟩
abbrev Q1 (P : Program) (w : World) (K : Fr0) (mg : Str -> Option Value) (base : Heap) : Prop := zU P w K mg base 1 "room_left" ["kind", "times", "room"] (spD K zN)
theorem q1 {f : Addr} {fd : FuncData} (F : Fun K "room_left" "room_left" ya f fd) (m : mg "room_left" = some (.ref f)) (T : Txt K mg) (XTt : XT K mg RN TN) (hB : K.In base) : Q1 P w K mg base := by
 refine ⟨f, fd, ?_, m, F.kp, F.binds fun _ _ _ _ _ _ us hl => match us, hl with | [_, _, _], _ => rfl⟩
 show jX P w K mg base CX0 1 f fd ["kind", "times", "room"] (spD K (dfn (["kind", "times", "room"] : List Str).length (["kind", "times", "room"] : List Str).length uG))
 refine zD (N := ["kind", "times", "room"]) (ps := ["kind", "times", "room"]) (k := 0) (O := []) (body := uG) F qcG ?a ?b
 case a => decide
 intro cdv A outer s H E B hr
 exact (qi (qF (qx qe4 qcS (qc 2) (qx zT zp (qc 1) (jn qT qR (qc 0) (gI T.c_WEIGHT))))))
theorem qcH : qp ["kind", "row", "room"] ["kind", "row", "room"] (qd jC) := ⟨rfl, rfl, rfl, by decide +kernel, rfl, by decide +kernel, by decide +kernel⟩
abbrev Q2 (P : Program) (w : World) (K : Fr0) (mg : Str -> Option Value) (base : Heap) : Prop := zU P w K mg base 2 "many_with" ["kind", "row", "room"] (spD K yf)
theorem q2 {f : Addr} {fd : FuncData} (F : Fun K "many_with" "many_with" jC f fd) (m : mg "many_with" = some (.ref f)) (T : Txt K mg) (XTt : XT K mg RN TN) (hB : K.In base) (C_most_within : Q0 P w K mg base) (C_room_left : Q1 P w K mg base) : Q2 P w K mg base := by
 refine ⟨f, fd, ?_, m, F.kp, F.binds fun _ _ _ _ _ _ us hl => match us, hl with | [_, _, _], _ => rfl⟩
 show jX P w K mg base CX0 2 f fd ["kind", "row", "room"] (spD K (dfn (["kind", "row", "room"] : List Str).length (["kind", "row", "room"] : List Str).length uH))
 refine zD (N := ["kind", "row", "room"]) (ps := ["kind", "row", "room"]) (k := 1) (O := []) (body := uH) F qcH ?a ?b
 case a => decide
 intro cdv A outer s H E B hr
 exact (qi (qF (zK (qhb rfl) qfr rfl T.b_sum qlk (qa (zS (fo := none) rfl (zZ rfl T.b_range (qa (qx zj zk (dC C_most_within hr (qa (qc 0) (qa (qc 2) qe))) qg) qe)) (cs ["kind", "row", "room"] ["times", "row", "kind", "room"] 1 [1, 0, 2] (qd jC)) (f0 [1, 0, 2] []) (fun _ _ _ _ _ _ _ _ _ _ _ => ⟨(qA (i := 0) (nd ["times", "row", "kind", "room"])), yF, (jn qT qR (qc 1) (dC C_room_left hr (qa (qc 2) (qa (qc 0) (qa (qc 3) qe)))))⟩)) qe))))
theorem jq : qp ["store", "room", "row", "kind"] ["store", "room"] (qd qW) := ⟨rfl, rfl, rfl, by decide +kernel, rfl, by decide +kernel, by decide +kernel⟩
abbrev Q3 (P : Program) (w : World) (K : Fr0) (mg : Str -> Option Value) (base : Heap) : Prop := zU P w K mg base 3 "filling_counts" ["store", "room"] (spD K qZ)
theorem q3 {f : Addr} {fd : FuncData} (F : Fun K "filling_counts" "filling_counts" qW f fd) (m : mg "filling_counts" = some (.ref f)) (T : Txt K mg) (XTt : XT K mg RN TN) (hB : K.In base) (C_many_with : Q2 P w K mg base) : Q3 P w K mg base := by
 refine ⟨f, fd, ?_, m, F.kp, F.binds fun _ _ _ _ _ _ us hl => match us, hl with | [_, _], _ => rfl⟩
 show jX P w K mg base CX0 3 f fd ["store", "room"] (spD K (dfn (["store", "room", "row", "kind"] : List Str).length (["store", "room"] : List Str).length jx))
 refine zD (N := ["store", "room", "row", "kind"]) (ps := ["store", "room"]) (k := 2) (O := []) (body := jx) F jq ?a ?b
 case a => decide
 intro cdv A outer s H E B hr
 exact (qh (zc (i := 2) jq.nd (qx zj zk (zb (qa qg qe)) (qx zT zp (zb (qa qg qe)) (qc 1))))
   (qh (vP PassesOwn.never rfl (uM (qc 0)) (qA (i := 3) jq.nd) (qi (zc (i := 2) jq.nd (zS (fo := none) rfl (zZ rfl T.b_range (qa (qx zj zk (qc 1) qg) qe)) (cs ["store", "room", "row", "kind"] ["size", "kind", "row"] 1 [3, 2] (qd qW)) (f0 [3, 2] []) (fun _ _ _ _ _ _ _ _ _ _ _ => ⟨(qA (i := 0) (nd ["size", "kind", "row"])), yF, (dC C_many_with hr (qa (qc 1) (qa (qc 2) (qa (qc 0) qe))))⟩)))))
   (qi (qF (qc 2)))))
theorem qdi : qp ["number"] ["number"] (qd yb) := ⟨rfl, rfl, rfl, by decide +kernel, rfl, by decide +kernel, by decide +kernel⟩
abbrev Q4 (P : Program) (w : World) (K : Fr0) (mg : Str -> Option Value) (base : Heap) : Prop := z4 P w K mg base 1 "need_few" ["number"] (spX K (clR K RN) yV)
theorem q4 {f : Addr} {fd : FuncData} (F : Fun K "need_few" "need_few" yb f fd) (m : mg "need_few" = some (.ref f)) (T : Txt K mg) (XTt : XT K mg RN TN) (hB : K.In base) : Q4 P w K mg base := by
 have hcl : ∀ n, RN.contains n = true -> (clR K RN n).isSome = true := fun n hn => Option.isSome_iff_exists.mpr (XTt.has hn)
 have rn0 : RN.contains "TooMany" = true := by decide
 obtain ⟨S, mS, xS⟩ := XTt.xcls hB
 obtain ⟨C_TooMany, hc_TooMany⟩ := XTt.has (n := "TooMany") (by decide)
 have mc_TooMany := XTt.mgc _ _ (XTt.cls hc_TooMany).1
 obtain ⟨bm_TooMany, xc_TooMany, _⟩ := xS.own _ _ hc_TooMany
 refine ⟨f, fd, ?_, m, F.kp, F.binds fun _ _ _ _ _ _ us hl => match us, hl with | [_], _ => rfl⟩
 show jX P w K mg base (CX1 P w) 1 f fd ["number"] (spX K (clR K RN) (ur (["number"] : List Str).length (["number"] : List Str).length uv))
 refine yH (N := ["number"]) (ps := ["number"]) (k := 0) (O := []) (body := uv) (cl := clR K RN) F qdi ?a ?b
 case a => decide
 intro cdv A outer s H E B hr
 have L := yG (P := P) (w := w) (K := K) (mg := mg) (base := base) (N := ["number"]) (qual := "need_few") (scope := qd yb) (f := f) (cdv := cdv) (A := A) (outer := outer) (s := s) (H := H) (E := E) (c := cfn [] [] B H (fun _ => False) (fun x H' => ∀ C, clR K RN x.cls = some C -> E (.ref C) none H') fun _ => none) (cl := clR K RN) rfl (fun x C H' h1 h2 => h2 C h1)
 exact (qi (yC (zw qbV wP (qc 0) (gI T.c_ASKED_AT_MOST) (qN _)) (qi (vU rfl L hc_TooMany rfl mc_TooMany xc_TooMany (qa uU qe))) zq))
theorem qdj : qp ["thing"] ["thing"] (qd yS) := ⟨rfl, rfl, rfl, by decide +kernel, rfl, by decide +kernel, by decide +kernel⟩
abbrev Q5 (P : Program) (w : World) (K : Fr0) (mg : Str -> Option Value) (base : Heap) : Prop := zU P w K mg base 1 "is_whole" ["thing"] (spD K vh)
theorem q5 {f : Addr} {fd : FuncData} (F : Fun K "is_whole" "is_whole" yS f fd) (m : mg "is_whole" = some (.ref f)) (T : Txt K mg) (XTt : XT K mg RN TN) (hB : K.In base) : Q5 P w K mg base := by
 refine ⟨f, fd, ?_, m, F.kp, F.binds fun _ _ _ _ _ _ us hl => match us, hl with | [_], _ => rfl⟩
 show jX P w K mg base CX0 1 f fd ["thing"] (spD K (dfn (["thing"] : List Str).length (["thing"] : List Str).length vg))
 refine zD (N := ["thing"]) (ps := ["thing"]) (k := 0) (O := []) (body := vg) F qdj ?a ?b
 case a => decide
 intro cdv A outer s H E B hr
 exact (qi (qF (qdt (qdw qjl rfl T.b_isinstance rfl T.b_int qll (qc 0) qw) (qb4 (qkT (qdw qg8 rfl T.b_isinstance rfl T.b_bool qjA (qc 0) qw))))))
theorem qdk : qp ["thing"] ["thing"] (qd yT) := ⟨rfl, rfl, rfl, by decide +kernel, rfl, by decide +kernel, by decide +kernel⟩
abbrev Q6 (P : Program) (w : World) (K : Fr0) (mg : Str -> Option Value) (base : Heap) : Prop := zU P w K mg base 2 "is_count" ["thing"] (spD K yg)
theorem q6 {f : Addr} {fd : FuncData} (F : Fun K "is_count" "is_count" yT f fd) (m : mg "is_count" = some (.ref f)) (T : Txt K mg) (XTt : XT K mg RN TN) (hB : K.In base) (C_is_whole : Q5 P w K mg base) : Q6 P w K mg base := by
 refine ⟨f, fd, ?_, m, F.kp, F.binds fun _ _ _ _ _ _ us hl => match us, hl with | [_], _ => rfl⟩
 show jX P w K mg base CX0 2 f fd ["thing"] (spD K (dfn (["thing"] : List Str).length (["thing"] : List Str).length vi))
 refine zD (N := ["thing"]) (ps := ["thing"]) (k := 1) (O := []) (body := vi) F qdk ?a ?b
 case a => decide
 intro cdv A outer s H E B hr
 exact (qi (qF (qdt (dC C_is_whole hr (qa (qc 0) qe)) (qb4 (qaj qmC qkX (qc 0) qg (qN _))))))
theorem qbK : qp ["thing"] ["thing"] (qd z6) := ⟨rfl, rfl, rfl, by decide +kernel, rfl, by decide +kernel, by decide +kernel⟩
abbrev Q7 (P : Program) (w : World) (K : Fr0) (mg : Str -> Option Value) (base : Heap) : Prop := z4 P w K mg base 3 "need_count" ["thing"] (spX K (clR K RN) jJ)
theorem q7 {f : Addr} {fd : FuncData} (F : Fun K "need_count" "need_count" z6 f fd) (m : mg "need_count" = some (.ref f)) (T : Txt K mg) (XTt : XT K mg RN TN) (hB : K.In base) (C_is_count : Q6 P w K mg base) : Q7 P w K mg base := by
 have hcl : ∀ n, RN.contains n = true -> (clR K RN n).isSome = true := fun n hn => Option.isSome_iff_exists.mpr (XTt.has hn)
 have rn0 : RN.contains "TooMany" = true := by decide
 obtain ⟨S, mS, xS⟩ := XTt.xcls hB
 obtain ⟨C_NoNumber, hc_NoNumber⟩ := XTt.has (n := "NoNumber") (by decide)
 have mc_NoNumber := XTt.mgc _ _ (XTt.cls hc_NoNumber).1
 obtain ⟨bm_NoNumber, xc_NoNumber, _⟩ := xS.own _ _ hc_NoNumber
 refine ⟨f, fd, ?_, m, F.kp, F.binds fun _ _ _ _ _ _ us hl => match us, hl with | [_], _ => rfl⟩
 show jX P w K mg base (CX1 P w) 3 f fd ["thing"] (spX K (clR K RN) (ur (["thing"] : List Str).length (["thing"] : List Str).length yt))
 refine yH (N := ["thing"]) (ps := ["thing"]) (k := 2) (O := []) (body := yt) (cl := clR K RN) F qbK ?a ?b
 case a => decide
 intro cdv A outer s H E B hr
 have L := yG (P := P) (w := w) (K := K) (mg := mg) (base := base) (N := ["thing"]) (qual := "need_count") (scope := qd z6) (f := f) (cdv := cdv) (A := A) (outer := outer) (s := s) (H := H) (E := E) (c := cfn [] [] B H (fun _ => False) (fun x H' => ∀ C, clR K RN x.cls = some C -> E (.ref C) none H') fun _ => none) (cl := clR K RN) rfl (fun x C H' h1 h2 => h2 C h1)
 exact (qi (yC (vN (vp (dC C_is_count hr (qa (qc 0) qe)))) (qi (vU rfl L hc_NoNumber rfl mc_NoNumber xc_NoNumber (qa uU qe))) zq))
theorem qeQ : qp ["thing"] ["thing"] (qd uu) := ⟨rfl, rfl, rfl, by decide +kernel, rfl, by decide +kernel, by decide +kernel⟩
abbrev Q8 (P : Program) (w : World) (K : Fr0) (mg : Str -> Option Value) (base : Heap) : Prop := zU P w K mg base 3 "is_kind" ["thing"] (spD K u7)
theorem q8 {f : Addr} {fd : FuncData} (F : Fun K "is_kind" "is_kind" uu f fd) (m : mg "is_kind" = some (.ref f)) (T : Txt K mg) (XTt : XT K mg RN TN) (hB : K.In base) (C_is_count : Q6 P w K mg base) : Q8 P w K mg base := by
 refine ⟨f, fd, ?_, m, F.kp, F.binds fun _ _ _ _ _ _ us hl => match us, hl with | [_], _ => rfl⟩
 show jX P w K mg base CX0 3 f fd ["thing"] (spD K (dfn (["thing"] : List Str).length (["thing"] : List Str).length v8))
 refine zD (N := ["thing"]) (ps := ["thing"]) (k := 2) (O := []) (body := v8) F qeQ ?a ?b
 case a => decide
 intro cdv A outer s H E B hr
 exact (qh (yC (DW.dt (qfk (vN (vp (qdw qcb rfl T.b_isinstance rfl T.b_tuple qbp (qc 0) qw))) (qb3 (zw (qaZ hr) wB (zK uV uW rfl T.b_len qch (qa (qc 0) qe)) qg (qN _))))) (qi (qF vM)) zq)
   (qh (yC (DW.dt (qfk (vN (vp (dC C_is_count hr (qa (jn qT qR (qc 0) (gI T.c_WEIGHT)) qe)))) (qb3 (zw (uN hr) jO (jn qT qR (qc 0) (gI T.c_WEIGHT)) qg (qN _))))) (qi (qF vM)) zq)
   (qi (qF (qdt (dC C_is_count hr (qa (jn qT qR (qc 0) (gI T.c_WORTH)) qe)) (qb4 (qmL (qaj qdq qbl (jn qT qR (qc 0) (gI T.c_MOST)) jY (qN _)) (qb4 (dC C_is_count hr (qa (jn qT qR (qc 0) (gI T.c_MOST)) qe))))))))))
theorem qdl : qp ["thing"] ["thing"] (qd yc) := ⟨rfl, rfl, rfl, by decide +kernel, rfl, by decide +kernel, by decide +kernel⟩
abbrev Q9 (P : Program) (w : World) (K : Fr0) (mg : Str -> Option Value) (base : Heap) : Prop := zU P w K mg base 4 "is_store" ["thing"] (spD K vk)
theorem q9 {f : Addr} {fd : FuncData} (F : Fun K "is_store" "is_store" yc f fd) (m : mg "is_store" = some (.ref f)) (T : Txt K mg) (XTt : XT K mg RN TN) (hB : K.In base) (C_is_kind : Q8 P w K mg base) : Q9 P w K mg base := by
 refine ⟨f, fd, ?_, m, F.kp, F.binds fun _ _ _ _ _ _ us hl => match us, hl with | [_], _ => rfl⟩
 show jX P w K mg base CX0 4 f fd ["thing"] (spD K (dfn (["thing"] : List Str).length (["thing"] : List Str).length vj))
 refine zD (N := ["thing"]) (ps := ["thing"]) (k := 3) (O := []) (body := vj) F qdl ?a ?b
 case a => decide
 intro cdv A outer s H E B hr
 exact (qh (yC (DW.dt (qfk (vN (vp (qdw qcb rfl T.b_isinstance rfl T.b_tuple qbp (qc 0) qw))) (qb3 (zw qbV wP (zK uV uW rfl T.b_len qch (qa (qc 0) qe)) (gI T.c_KINDS_AT_MOST) (qN _))))) (qi (qF vM)) zq)
   (qi (qF (zK (qdy rfl) qcc rfl T.b_all qii (qa (zS (fo := none) rfl (uM (qc 0)) (cs ["thing"] ["part"] 1 [] (qd yc)) (f0 [] []) (fun _ _ _ _ _ _ _ _ _ _ _ => ⟨(qA (i := 0) (nd ["part"])), yF, (dC C_is_kind hr (qa (qc 0) qe))⟩)) qe)))))
theorem qbL : qp ["thing"] ["thing"] (qd z7) := ⟨rfl, rfl, rfl, by decide +kernel, rfl, by decide +kernel, by decide +kernel⟩
abbrev Q10 (P : Program) (w : World) (K : Fr0) (mg : Str -> Option Value) (base : Heap) : Prop := z4 P w K mg base 5 "need_store" ["thing"] (spX K (clR K RN) zJ)
theorem q10 {f : Addr} {fd : FuncData} (F : Fun K "need_store" "need_store" z7 f fd) (m : mg "need_store" = some (.ref f)) (T : Txt K mg) (XTt : XT K mg RN TN) (hB : K.In base) (C_is_store : Q9 P w K mg base) : Q10 P w K mg base := by
 have hcl : ∀ n, RN.contains n = true -> (clR K RN n).isSome = true := fun n hn => Option.isSome_iff_exists.mpr (XTt.has hn)
 have rn0 : RN.contains "TooMany" = true := by decide
 obtain ⟨S, mS, xS⟩ := XTt.xcls hB
 obtain ⟨C_NoStore, hc_NoStore⟩ := XTt.has (n := "NoStore") (by decide)
 have mc_NoStore := XTt.mgc _ _ (XTt.cls hc_NoStore).1
 obtain ⟨bm_NoStore, xc_NoStore, _⟩ := xS.own _ _ hc_NoStore
 refine ⟨f, fd, ?_, m, F.kp, F.binds fun _ _ _ _ _ _ us hl => match us, hl with | [_], _ => rfl⟩
 show jX P w K mg base (CX1 P w) 5 f fd ["thing"] (spX K (clR K RN) (ur (["thing"] : List Str).length (["thing"] : List Str).length yu))
 refine yH (N := ["thing"]) (ps := ["thing"]) (k := 4) (O := []) (body := yu) (cl := clR K RN) F qbL ?a ?b
 case a => decide
 intro cdv A outer s H E B hr
 have L := yG (P := P) (w := w) (K := K) (mg := mg) (base := base) (N := ["thing"]) (qual := "need_store") (scope := qd z7) (f := f) (cdv := cdv) (A := A) (outer := outer) (s := s) (H := H) (E := E) (c := cfn [] [] B H (fun _ => False) (fun x H' => ∀ C, clR K RN x.cls = some C -> E (.ref C) none H') fun _ => none) (cl := clR K RN) rfl (fun x C H' h1 h2 => h2 C h1)
 exact (qi (yC (vN (vp (dC C_is_store hr (qa (qc 0) qe)))) (qi (vU rfl L hc_NoStore rfl mc_NoStore xc_NoStore (qa uU qe))) zq))
theorem qbM : qp ["store", "number"] ["store", "number"] (qd z8) := ⟨rfl, rfl, rfl, by decide +kernel, rfl, by decide +kernel, by decide +kernel⟩
abbrev Q11 (P : Program) (w : World) (K : Fr0) (mg : Str -> Option Value) (base : Heap) : Prop := z4 P w K mg base 6 "need_asked" ["store", "number"] (spX K (clR K RN) qu)
theorem q11 {f : Addr} {fd : FuncData} (F : Fun K "need_asked" "need_asked" z8 f fd) (m : mg "need_asked" = some (.ref f)) (T : Txt K mg) (XTt : XT K mg RN TN) (hB : K.In base) (C_need_few : Q4 P w K mg base) (C_need_count : Q7 P w K mg base) (C_need_store : Q10 P w K mg base) : Q11 P w K mg base := by
 have hcl : ∀ n, RN.contains n = true -> (clR K RN n).isSome = true := fun n hn => Option.isSome_iff_exists.mpr (XTt.has hn)
 have rn0 : RN.contains "TooMany" = true := by decide
 obtain ⟨S, mS, xS⟩ := XTt.xcls hB
 refine ⟨f, fd, ?_, m, F.kp, F.binds fun _ _ _ _ _ _ us hl => match us, hl with | [_, _], _ => rfl⟩
 show jX P w K mg base (CX1 P w) 6 f fd ["store", "number"] (spX K (clR K RN) (ur (["store", "number"] : List Str).length (["store", "number"] : List Str).length je))
 refine yH (N := ["store", "number"]) (ps := ["store", "number"]) (k := 5) (O := []) (body := je) (cl := clR K RN) F qbM ?a ?b
 case a => decide
 intro cdv A outer s H E B hr
 have L := yG (P := P) (w := w) (K := K) (mg := mg) (base := base) (N := ["store", "number"]) (qual := "need_asked") (scope := qd z8) (f := f) (cdv := cdv) (A := A) (outer := outer) (s := s) (H := H) (E := E) (c := cfn [] [] B H (fun _ => False) (fun x H' => ∀ C, clR K RN x.cls = some C -> E (.ref C) none H') fun _ => none) (cl := clR K RN) rfl (fun x C H' h1 h2 => h2 C h1)
 exact (qh (qP (xC L.two hcl C_need_store hr (qa (qc 0) qe)))
   (qh (qP (xC L.two hcl C_need_count hr (qa (qc 1) qe)))
   (qi (qP (xC L.two hcl C_need_few hr (qa (qc 1) qe))))))
theorem qgL : qp ["store", "room"] ["store", "room"] (qd uF) := ⟨rfl, rfl, rfl, by decide +kernel, rfl, by decide +kernel, by decide +kernel⟩
abbrev Q12 (P : Program) (w : World) (K : Fr0) (mg : Str -> Option Value) (base : Heap) : Prop := z4 P w K mg base 7 "filled" ["store", "room"] (spX K (clR K RN) wd)
theorem q12 {f : Addr} {fd : FuncData} (F : Fun K "filled" "filled" uF f fd) (m : mg "filled" = some (.ref f)) (T : Txt K mg) (XTt : XT K mg RN TN) (hB : K.In base) (C_filling_counts : Q3 P w K mg base) (C_need_asked : Q11 P w K mg base) : Q12 P w K mg base := by
 have hcl : ∀ n, RN.contains n = true -> (clR K RN n).isSome = true := fun n hn => Option.isSome_iff_exists.mpr (XTt.has hn)
 have rn0 : RN.contains "TooMany" = true := by decide
 obtain ⟨S, mS, xS⟩ := XTt.xcls hB
 refine ⟨f, fd, ?_, m, F.kp, F.binds fun _ _ _ _ _ _ us hl => match us, hl with | [_, _], _ => rfl⟩
 show jX P w K mg base (CX1 P w) 7 f fd ["store", "room"] (spX K (clR K RN) (ur (["store", "room"] : List Str).length (["store", "room"] : List Str).length v9))
 refine yH (N := ["store", "room"]) (ps := ["store", "room"]) (k := 6) (O := []) (body := v9) (cl := clR K RN) F qgL ?a ?b
 case a => decide
 intro cdv A outer s H E B hr
 have L := yG (P := P) (w := w) (K := K) (mg := mg) (base := base) (N := ["store", "room"]) (qual := "filled") (scope := qd uF) (f := f) (cdv := cdv) (A := A) (outer := outer) (s := s) (H := H) (E := E) (c := cfn [] [] B H (fun _ => False) (fun x H' => ∀ C, clR K RN x.cls = some C -> E (.ref C) none H') fun _ => none) (cl := clR K RN) rfl (fun x C H' h1 h2 => h2 C h1)
 exact (qh (qP (xC L.two hcl C_need_asked hr (qa (qc 0) (qa (qc 1) qe))))
   (qi (qF (qaj qbV wP (jn qT qR (dC C_filling_counts hr (qa (qc 0) (qa (qc 1) qe))) (qc 1)) qg (qN _)))))
theorem qbN : qp ["store", "room"] ["store", "room"] (qd zI) := ⟨rfl, rfl, rfl, by decide +kernel, rfl, by decide +kernel, by decide +kernel⟩
abbrev Q13 (P : Program) (w : World) (K : Fr0) (mg : Str -> Option Value) (base : Heap) : Prop := z4 P w K mg base 7 "all_filled" ["store", "room"] (spX K (clR K RN) yw)
theorem q13 {f : Addr} {fd : FuncData} (F : Fun K "all_filled" "all_filled" zI f fd) (m : mg "all_filled" = some (.ref f)) (T : Txt K mg) (XTt : XT K mg RN TN) (hB : K.In base) (C_filling_counts : Q3 P w K mg base) (C_need_asked : Q11 P w K mg base) : Q13 P w K mg base := by
 have hcl : ∀ n, RN.contains n = true -> (clR K RN n).isSome = true := fun n hn => Option.isSome_iff_exists.mpr (XTt.has hn)
 have rn0 : RN.contains "TooMany" = true := by decide
 obtain ⟨S, mS, xS⟩ := XTt.xcls hB
 refine ⟨f, fd, ?_, m, F.kp, F.binds fun _ _ _ _ _ _ us hl => match us, hl with | [_, _], _ => rfl⟩
 show jX P w K mg base (CX1 P w) 7 f fd ["store", "room"] (spX K (clR K RN) (ur (["store", "room"] : List Str).length (["store", "room"] : List Str).length yv))
 refine yH (N := ["store", "room"]) (ps := ["store", "room"]) (k := 6) (O := []) (body := yv) (cl := clR K RN) F qbN ?a ?b
 case a => decide
 intro cdv A outer s H E B hr
 have L := yG (P := P) (w := w) (K := K) (mg := mg) (base := base) (N := ["store", "room"]) (qual := "all_filled") (scope := qd zI) (f := f) (cdv := cdv) (A := A) (outer := outer) (s := s) (H := H) (E := E) (c := cfn [] [] B H (fun _ => False) (fun x H' => ∀ C, clR K RN x.cls = some C -> E (.ref C) none H') fun _ => none) (cl := clR K RN) rfl (fun x C H' h1 h2 => h2 C h1)
 exact (qh (qP (xC L.two hcl C_need_asked hr (qa (qc 0) (qa (qc 1) qe))))
   (qi (qF (zS (fo := none) rfl (qdX rfl T.b_enumerate (qa (dC C_filling_counts hr (qa (qc 0) (qa (qc 1) qe))) qe)) (cs ["store", "room"] ["size", "many"] 2 [] (qd zI)) (f0 [] []) (fun _ _ _ _ _ _ _ _ _ _ _ => ⟨(qb5 (n := 2) rfl (yi (qA (i := 0) (nd ["size", "many"])) (yi (qA (i := 1) (nd ["size", "many"])) qak))), (qcd (zw qbV wP (qc 1) qg (qN _))), (qc 0)⟩)))))
theorem qbO : qp ["store", "room"] ["store", "room"] (qd z9) := ⟨rfl, rfl, rfl, by decide +kernel, rfl, by decide +kernel, by decide +kernel⟩
abbrev Q14 (P : Program) (w : World) (K : Fr0) (mg : Str -> Option Value) (base : Heap) : Prop := z4 P w K mg base 7 "fills_many" ["store", "room"] (spX K (clR K RN) yy)
theorem q14 {f : Addr} {fd : FuncData} (F : Fun K "fills_many" "fills_many" z9 f fd) (m : mg "fills_many" = some (.ref f)) (T : Txt K mg) (XTt : XT K mg RN TN) (hB : K.In base) (C_filling_counts : Q3 P w K mg base) (C_need_asked : Q11 P w K mg base) : Q14 P w K mg base := by
 have hcl : ∀ n, RN.contains n = true -> (clR K RN n).isSome = true := fun n hn => Option.isSome_iff_exists.mpr (XTt.has hn)
 have rn0 : RN.contains "TooMany" = true := by decide
 obtain ⟨S, mS, xS⟩ := XTt.xcls hB
 refine ⟨f, fd, ?_, m, F.kp, F.binds fun _ _ _ _ _ _ us hl => match us, hl with | [_, _], _ => rfl⟩
 show jX P w K mg base (CX1 P w) 7 f fd ["store", "room"] (spX K (clR K RN) (ur (["store", "room"] : List Str).length (["store", "room"] : List Str).length yx))
 refine yH (N := ["store", "room"]) (ps := ["store", "room"]) (k := 6) (O := []) (body := yx) (cl := clR K RN) F qbO ?a ?b
 case a => decide
 intro cdv A outer s H E B hr
 have L := yG (P := P) (w := w) (K := K) (mg := mg) (base := base) (N := ["store", "room"]) (qual := "fills_many") (scope := qd z9) (f := f) (cdv := cdv) (A := A) (outer := outer) (s := s) (H := H) (E := E) (c := cfn [] [] B H (fun _ => False) (fun x H' => ∀ C, clR K RN x.cls = some C -> E (.ref C) none H') fun _ => none) (cl := clR K RN) rfl (fun x C H' h1 h2 => h2 C h1)
 exact (qh (qP (xC L.two hcl C_need_asked hr (qa (qc 0) (qa (qc 1) qe))))
   (qi (qF (jn qT qR (dC C_filling_counts hr (qa (qc 0) (qa (qc 1) qe))) (qc 1)))))
theorem uR : qp ["kind", "row", "room", "last"] ["kind", "row", "room"] (qd zo) := ⟨rfl, rfl, rfl, by decide +kernel, rfl, by decide +kernel, by decide +kernel⟩
abbrev Q15 (P : Program) (w : World) (K : Fr0) (mg : Str -> Option Value) (base : Heap) : Prop := zU P w K mg base 2 "filling_times" ["kind", "row", "room"] (spD K jf)
theorem q15 {f : Addr} {fd : FuncData} (F : Fun K "filling_times" "filling_times" zo f fd) (m : mg "filling_times" = some (.ref f)) (T : Txt K mg) (XTt : XT K mg RN TN) (hB : K.In base) (C_room_left : Q1 P w K mg base) (C_most_within : Q0 P w K mg base) : Q15 P w K mg base := by
 refine ⟨f, fd, ?_, m, F.kp, F.binds fun _ _ _ _ _ _ us hl => match us, hl with | [_, _, _], _ => rfl⟩
 show jX P w K mg base CX0 2 f fd ["kind", "row", "room"] (spD K (dfn (["kind", "row", "room", "last"] : List Str).length (["kind", "row", "room"] : List Str).length jS))
 refine zD (N := ["kind", "row", "room", "last"]) (ps := ["kind", "row", "room"]) (k := 1) (O := []) (body := jS) F uR ?a ?b
 case a => decide
 intro cdv A outer s H E B hr
 exact (qh (zc (i := 3) uR.nd (dC C_most_within hr (qa (qc 0) (qa (qc 2) qe))))
   (qi (qF (zS (fo := none) rfl (zZ rfl T.b_range (qa (qx zj zk (qc 3) qg) qe)) (cs ["kind", "row", "room", "last"] ["times", "row", "kind", "room"] 1 [1, 0, 2] (qd zo)) (f0 [1, 0, 2] []) (fun _ _ _ _ _ _ _ _ _ _ _ => ⟨(qA (i := 0) (nd ["times", "row", "kind", "room"])), (qcd (zw qi1 qg4 (jn qT qR (qc 1) (dC C_room_left hr (qa (qc 2) (qa (qc 0) (qa (qc 3) qe))))) jY (qN _))), (qc 0)⟩)))))
theorem qbP : qp ["kind", "times", "row", "room"] ["kind", "times", "row", "room"] (qd jI) := ⟨rfl, rfl, rfl, by decide +kernel, rfl, by decide +kernel, by decide +kernel⟩
abbrev Q16 (P : Program) (w : World) (K : Fr0) (mg : Str -> Option Value) (base : Heap) : Prop := zU P w K mg base 2 "worth_with" ["kind", "times", "row", "room"] (spD K jg)
theorem q16 {f : Addr} {fd : FuncData} (F : Fun K "worth_with" "worth_with" jI f fd) (m : mg "worth_with" = some (.ref f)) (T : Txt K mg) (XTt : XT K mg RN TN) (hB : K.In base) (C_room_left : Q1 P w K mg base) : Q16 P w K mg base := by
 refine ⟨f, fd, ?_, m, F.kp, F.binds fun _ _ _ _ _ _ us hl => match us, hl with | [_, _, _, _], _ => rfl⟩
 show jX P w K mg base CX0 2 f fd ["kind", "times", "row", "room"] (spD K (dfn (["kind", "times", "row", "room"] : List Str).length (["kind", "times", "row", "room"] : List Str).length uf))
 refine zD (N := ["kind", "times", "row", "room"]) (ps := ["kind", "times", "row", "room"]) (k := 1) (O := []) (body := uf) F qbP ?a ?b
 case a => decide
 intro cdv A outer s H E B hr
 exact (qi (qF (qx zj zk (qx zT zp (qc 1) (jn qT qR (qc 0) (gI T.c_WORTH))) (jn qT qR (qc 2) (dC C_room_left hr (qa (qc 0) (qa (qc 1) (qa (qc 3) qe))))))))
theorem wL : qp ["kind", "row", "room"] ["kind", "row", "room"] (qd qX) := ⟨rfl, rfl, rfl, by decide +kernel, rfl, by decide +kernel, by decide +kernel⟩
abbrev Q17 (P : Program) (w : World) (K : Fr0) (mg : Str -> Option Value) (base : Heap) : Prop := zU P w K mg base 3 "filling_worths" ["kind", "row", "room"] (spD K qG)
theorem q17 {f : Addr} {fd : FuncData} (F : Fun K "filling_worths" "filling_worths" qX f fd) (m : mg "filling_worths" = some (.ref f)) (T : Txt K mg) (XTt : XT K mg RN TN) (hB : K.In base) (C_filling_times : Q15 P w K mg base) (C_worth_with : Q16 P w K mg base) : Q17 P w K mg base := by
 refine ⟨f, fd, ?_, m, F.kp, F.binds fun _ _ _ _ _ _ us hl => match us, hl with | [_, _, _], _ => rfl⟩
 show jX P w K mg base CX0 3 f fd ["kind", "row", "room"] (spD K (dfn (["kind", "row", "room"] : List Str).length (["kind", "row", "room"] : List Str).length jy))
 refine zD (N := ["kind", "row", "room"]) (ps := ["kind", "row", "room"]) (k := 2) (O := []) (body := jy) F wL ?a ?b
 case a => decide
 intro cdv A outer s H E B hr
 exact (qi (qF (zS (fo := none) rfl (uM (dC C_filling_times hr (qa (qc 0) (qa (qc 1) (qa (qc 2) qe))))) (cs ["kind", "row", "room"] ["times", "kind", "row", "room"] 1 [0, 1, 2] (qd qX)) (f0 [0, 1, 2] []) (fun _ _ _ _ _ _ _ _ _ _ _ => ⟨(qA (i := 0) (nd ["times", "kind", "row", "room"])), yF, (dC C_worth_with hr (qa (qc 1) (qa (qc 0) (qa (qc 2) (qa (qc 3) qe)))))⟩))))
theorem u9 : qp ["store", "room", "rows", "kind"] ["store", "room"] (qd jD) := ⟨rfl, rfl, rfl, by decide +kernel, rfl, by decide +kernel, by decide +kernel⟩
abbrev Q18 (P : Program) (w : World) (K : Fr0) (mg : Str -> Option Value) (base : Heap) : Prop := zU P w K mg base 4 "most_rows" ["store", "room"] (spD K yh)
theorem q18 {f : Addr} {fd : FuncData} (F : Fun K "most_rows" "most_rows" jD f fd) (m : mg "most_rows" = some (.ref f)) (T : Txt K mg) (XTt : XT K mg RN TN) (hB : K.In base) (C_filling_worths : Q17 P w K mg base) : Q18 P w K mg base := by
 refine ⟨f, fd, ?_, m, F.kp, F.binds fun _ _ _ _ _ _ us hl => match us, hl with | [_, _], _ => rfl⟩
 show jX P w K mg base CX0 4 f fd ["store", "room"] (spD K (dfn (["store", "room", "rows", "kind"] : List Str).length (["store", "room"] : List Str).length uI))
 refine zD (N := ["store", "room", "rows", "kind"]) (ps := ["store", "room"]) (k := 3) (O := [2]) (body := uI) F u9 ?a ?b
 case a => decide
 intro cdv A outer s H E B hr
 exact (qh (qbm (i := 2) u9.nd (qjT (qa (qx zj zk (zb (qa qg qe)) (qx zT zp (zb (qa jY qe)) (qc 1))) qe)))
   (qh (vP PassesOwn.never rfl (qlK rfl T.b_reversed (qa (qc 0) qe)) (qA (i := 3) u9.nd) (qi (qP (qgk (i := 2) (zS (fo := (some (2, 2))) rfl (zZ rfl T.b_range (qa (qx zj zk (qc 1) qg) qe)) (cs ["store", "room", "rows", "kind"] ["size", "kind", "rows"] 1 [3, 2] (qd jD)) (f1 1 [3, 2] [2] 2 2) (fun _ _ _ _ _ _ _ _ _ _ _ => ⟨(qA (i := 0) (nd ["size", "kind", "rows"])), yF, (qco (qgf rfl) qeK rfl T.b_max qfE (qa (dC C_filling_worths hr (qa (qc 1) (qa (qfz (i := 2) qg) (qa (qc 0) qe)))) qe) (qgh jY qiE))⟩))))))
   (qi (qjr (i := 2)))))
theorem qaM : qp ["store", "room"] ["store", "room"] (qd zy) := ⟨rfl, rfl, rfl, by decide +kernel, rfl, by decide +kernel, by decide +kernel⟩
abbrev Q19 (P : Program) (w : World) (K : Fr0) (mg : Str -> Option Value) (base : Heap) : Prop := z4 P w K mg base 7 "most_filling" ["store", "room"] (spX K (clR K RN) jt)
theorem q19 {f : Addr} {fd : FuncData} (F : Fun K "most_filling" "most_filling" zy f fd) (m : mg "most_filling" = some (.ref f)) (T : Txt K mg) (XTt : XT K mg RN TN) (hB : K.In base) (C_most_rows : Q18 P w K mg base) (C_need_asked : Q11 P w K mg base) : Q19 P w K mg base := by
 have hcl : ∀ n, RN.contains n = true -> (clR K RN n).isSome = true := fun n hn => Option.isSome_iff_exists.mpr (XTt.has hn)
 have rn0 : RN.contains "TooMany" = true := by decide
 obtain ⟨S, mS, xS⟩ := XTt.xcls hB
 refine ⟨f, fd, ?_, m, F.kp, F.binds fun _ _ _ _ _ _ us hl => match us, hl with | [_, _], _ => rfl⟩
 show jX P w K mg base (CX1 P w) 7 f fd ["store", "room"] (spX K (clR K RN) (ur (["store", "room"] : List Str).length (["store", "room"] : List Str).length js))
 refine yH (N := ["store", "room"]) (ps := ["store", "room"]) (k := 6) (O := []) (body := js) (cl := clR K RN) F qaM ?a ?b
 case a => decide
 intro cdv A outer s H E B hr
 have L := yG (P := P) (w := w) (K := K) (mg := mg) (base := base) (N := ["store", "room"]) (qual := "most_filling") (scope := qd zy) (f := f) (cdv := cdv) (A := A) (outer := outer) (s := s) (H := H) (E := E) (c := cfn [] [] B H (fun _ => False) (fun x H' => ∀ C, clR K RN x.cls = some C -> E (.ref C) none H') fun _ => none) (cl := clR K RN) rfl (fun x C H' h1 h2 => h2 C h1)
 exact (qh (qP (xC L.two hcl C_need_asked hr (qa (qc 0) (qa (qc 1) qe))))
   (qi (qF (jn qT qR (jn qT qR (dC C_most_rows hr (qa (qc 0) (qa (qc 1) qe))) qg) (qc 1)))))
theorem jA : qp ["store", "room", "row", "kind"] ["store", "room"] (qd qQ) := ⟨rfl, rfl, rfl, by decide +kernel, rfl, by decide +kernel, by decide +kernel⟩
abbrev Q20 (P : Program) (w : World) (K : Fr0) (mg : Str -> Option Value) (base : Heap) : Prop := z4 P w K mg base 7 "least_filling" ["store", "room"] (spX K (clR K RN) ji)
theorem q20 {f : Addr} {fd : FuncData} (F : Fun K "least_filling" "least_filling" qQ f fd) (m : mg "least_filling" = some (.ref f)) (T : Txt K mg) (XTt : XT K mg RN TN) (hB : K.In base) (C_filling_worths : Q17 P w K mg base) (C_need_asked : Q11 P w K mg base) : Q20 P w K mg base := by
 have hcl : ∀ n, RN.contains n = true -> (clR K RN n).isSome = true := fun n hn => Option.isSome_iff_exists.mpr (XTt.has hn)
 have rn0 : RN.contains "TooMany" = true := by decide
 obtain ⟨S, mS, xS⟩ := XTt.xcls hB
 refine ⟨f, fd, ?_, m, F.kp, F.binds fun _ _ _ _ _ _ us hl => match us, hl with | [_, _], _ => rfl⟩
 show jX P w K mg base (CX1 P w) 7 f fd ["store", "room"] (spX K (clR K RN) (ur (["store", "room", "row", "kind"] : List Str).length (["store", "room"] : List Str).length jh))
 refine yH (N := ["store", "room", "row", "kind"]) (ps := ["store", "room"]) (k := 6) (O := []) (body := jh) (cl := clR K RN) F jA ?a ?b
 case a => decide
 intro cdv A outer s H E B hr
 have L := yG (P := P) (w := w) (K := K) (mg := mg) (base := base) (N := ["store", "room", "row", "kind"]) (qual := "least_filling") (scope := qd qQ) (f := f) (cdv := cdv) (A := A) (outer := outer) (s := s) (H := H) (E := E) (c := cfn [] [] B H (fun _ => False) (fun x H' => ∀ C, clR K RN x.cls = some C -> E (.ref C) none H') fun _ => none) (cl := clR K RN) rfl (fun x C H' h1 h2 => h2 C h1)
 exact (qh (qP (xC L.two hcl C_need_asked hr (qa (qc 0) (qa (qc 1) qe))))
   (qh (zc (i := 2) jA.nd (qx zj zk (zb (qa qg qe)) (qx zT zp (zb (qa jY qe)) (qc 1))))
   (qh (qiy (vP PassesOwn.never rfl (uM (qc 0)) (qA (i := 3) jA.nd) (qi (zc (i := 2) jA.nd (zS (fo := none) rfl (zZ rfl T.b_range (qa (qx zj zk (qc 1) qg) qe)) (cs ["store", "room", "row", "kind"] ["size", "kind", "row"] 1 [3, 2] (qd qQ)) (f0 [3, 2] []) (fun _ _ _ _ _ _ _ _ _ _ _ => ⟨(qA (i := 0) (nd ["size", "kind", "row"])), yF, (qco (qgg rfl) qeL rfl T.b_min qdD (qa (dC C_filling_worths hr (qa (qc 1) (qa (qc 2) (qa (qc 0) qe)))) qe) (qgh jY qiE))⟩))))))
   (qi (qF (jn qT qR (qc 2) (qc 1)))))))
theorem uy : qp ["kind", "most", "row", "room", "fitting"] ["kind", "most", "row", "room"] (qd qY) := ⟨rfl, rfl, rfl, by decide +kernel, rfl, by decide +kernel, by decide +kernel⟩
abbrev Q21 (P : Program) (w : World) (K : Fr0) (mg : Str -> Option Value) (base : Heap) : Prop := zU P w K mg base 3 "fewest_of_most" ["kind", "most", "row", "room"] (spD K zv)
theorem q21 {f : Addr} {fd : FuncData} (F : Fun K "fewest_of_most" "fewest_of_most" qY f fd) (m : mg "fewest_of_most" = some (.ref f)) (T : Txt K mg) (XTt : XT K mg RN TN) (hB : K.In base) (C_worth_with : Q16 P w K mg base) (C_filling_times : Q15 P w K mg base) : Q21 P w K mg base := by
 refine ⟨f, fd, ?_, m, F.kp, F.binds fun _ _ _ _ _ _ us hl => match us, hl with | [_, _, _, _], _ => rfl⟩
 show jX P w K mg base CX0 3 f fd ["kind", "most", "row", "room"] (spD K (dfn (["kind", "most", "row", "room", "fitting"] : List Str).length (["kind", "most", "row", "room"] : List Str).length jz))
 refine zD (N := ["kind", "most", "row", "room", "fitting"]) (ps := ["kind", "most", "row", "room"]) (k := 2) (O := []) (body := jz) F uy ?a ?b
 case a => decide
 intro cdv A outer s H E B hr
 exact (qh (zc (i := 4) uy.nd (dC C_filling_times hr (qa (qc 0) (qa (qc 2) (qa (qc 3) qe)))))
   (qi (qF (jn qT qR (zS (fo := none) rfl (uM (qc 4)) (cs ["kind", "most", "row", "room", "fitting"] ["times", "most", "kind", "row", "room"] 1 [1, 0, 2, 3] (qd qY)) (f0 [1, 0, 2, 3] []) (fun _ _ _ _ _ _ _ _ _ _ _ => ⟨(qA (i := 0) (nd ["times", "most", "kind", "row", "room"])), (qcd (zw (uN hr) jO (dC C_worth_with hr (qa (qc 2) (qa (qc 0) (qa (qc 3) (qa (qc 4) qe))))) (qc 1) (qN _))), (qc 0)⟩)) qg))))
theorem va : qp ["store", "room", "rows", "load", "left", "place", "kind", "times"] ["store", "room"] (qd qaG) := ⟨rfl, rfl, rfl, by decide +kernel, rfl, by decide +kernel, by decide +kernel⟩
abbrev Q22 (P : Program) (w : World) (K : Fr0) (mg : Str -> Option Value) (base : Heap) : Prop := z4 P w K mg base 7 "fill" ["store", "room"] (spX K (clR K RN) qct)
theorem q22 {f : Addr} {fd : FuncData} (F : Fun K "fill" "fill" qaG f fd) (m : mg "fill" = some (.ref f)) (T : Txt K mg) (XTt : XT K mg RN TN) (hB : K.In base) (C_room_left : Q1 P w K mg base) (C_fewest_of_most : Q21 P w K mg base) (C_most_rows : Q18 P w K mg base) (C_need_asked : Q11 P w K mg base) : Q22 P w K mg base := by
 have hcl : ∀ n, RN.contains n = true -> (clR K RN n).isSome = true := fun n hn => Option.isSome_iff_exists.mpr (XTt.has hn)
 have rn0 : RN.contains "TooMany" = true := by decide
 obtain ⟨S, mS, xS⟩ := XTt.xcls hB
 refine ⟨f, fd, ?_, m, F.kp, F.binds fun _ _ _ _ _ _ us hl => match us, hl with | [_, _], _ => rfl⟩
 show jX P w K mg base (CX1 P w) 7 f fd ["store", "room"] (spX K (clR K RN) (ur (["store", "room", "rows", "load", "left", "place", "kind", "times"] : List Str).length (["store", "room"] : List Str).length qbc))
 refine yH (N := ["store", "room", "rows", "load", "left", "place", "kind", "times"]) (ps := ["store", "room"]) (k := 6) (O := [3]) (body := qbc) (cl := clR K RN) F va ?a ?b
 case a => decide
 intro cdv A outer s H E B hr
 have L := yG (P := P) (w := w) (K := K) (mg := mg) (base := base) (N := ["store", "room", "rows", "load", "left", "place", "kind", "times"]) (qual := "fill") (scope := qd qaG) (f := f) (cdv := cdv) (A := A) (outer := outer) (s := s) (H := H) (E := E) (c := cfn [3] [] B H (fun _ => False) (fun x H' => ∀ C, clR K RN x.cls = some C -> E (.ref C) none H') fun _ => none) (cl := clR K RN) rfl (fun x C H' h1 h2 => h2 C h1)
 exact (qh (qP (xC L.two hcl C_need_asked hr (qa (qc 0) (qa (qc 1) qe))))
   (qh (zc (i := 2) va.nd (dC C_most_rows hr (qa (qc 0) (qa (qc 1) qe))))
   (qh (yC (zw qdq qbl (jn qT qR (jn qT qR (qc 2) qg) (qc 1)) jY (qN _)) (qi (qF jY)) zq)
   (qh (qbm (i := 3) va.nd (qig qe))
   (qh (zc (i := 4) va.nd (qc 1))
   (qh (qiy (vP PassesOwn.never rfl (qjF rfl T.b_enumerate (qa (qc 0) qe)) (qb5 (n := 2) rfl (yi (qA (i := 5) va.nd) (yi (qA (i := 6) va.nd) qak))) (qh (zc (i := 7) va.nd (dC C_fewest_of_most hr (qa (qc 6) (qa (jn qT qR (jn qT qR (qc 2) (qc 5)) (qc 4)) (qa (jn qT qR (qc 2) (qx zj zk (qc 5) qg)) (qa (qc 4) qe))))))
   (qh (qP (qce (i := 3) (qc 7)))
   (qi (zc (i := 4) va.nd (dC C_room_left hr (qa (qc 6) (qa (qc 7) (qa (qc 4) qe))))))))))
   (qi (qF (qjp (i := 3) rfl T.b_tuple qbp)))))))))
theorem qdm : qp ["store"] ["store"] (qd yd) := ⟨rfl, rfl, rfl, by decide +kernel, rfl, by decide +kernel, by decide +kernel⟩
abbrev Q23 (P : Program) (w : World) (K : Fr0) (mg : Str -> Option Value) (base : Heap) : Prop := zU P w K mg base 1 "heaviest" ["store"] (spD K uw)
theorem q23 {f : Addr} {fd : FuncData} (F : Fun K "heaviest" "heaviest" yd f fd) (m : mg "heaviest" = some (.ref f)) (T : Txt K mg) (XTt : XT K mg RN TN) (hB : K.In base) : Q23 P w K mg base := by
 refine ⟨f, fd, ?_, m, F.kp, F.binds fun _ _ _ _ _ _ us hl => match us, hl with | [_], _ => rfl⟩
 show jX P w K mg base CX0 1 f fd ["store"] (spD K (dfn (["store"] : List Str).length (["store"] : List Str).length wJ))
 refine zD (N := ["store"]) (ps := ["store"]) (k := 0) (O := []) (body := wJ) F qdm ?a ?b
 case a => decide
 intro cdv A outer s H E B hr
 exact (qi (qF (zK (qfW rfl) qer rfl T.b_max qfE (qa (zS (fo := none) rfl (uM (qc 0)) (cs ["store"] ["kind"] 1 [] (qd yd)) (f0 [] []) (fun _ _ _ _ _ _ _ _ _ _ _ => ⟨(qA (i := 0) (nd ["kind"])), yF, (jn qT qR (qc 0) (gI T.c_WEIGHT))⟩)) qe))))
theorem yo : qp ["store", "lightest", "full", "room"] ["store"] (qd qO) := ⟨rfl, rfl, rfl, by decide +kernel, rfl, by decide +kernel, by decide +kernel⟩
abbrev Q24 (P : Program) (w : World) (K : Fr0) (mg : Str -> Option Value) (base : Heap) : Prop := zU P w K mg base 2 "never_rooms" ["store"] (spD K uK)
theorem q24 {f : Addr} {fd : FuncData} (F : Fun K "never_rooms" "never_rooms" qO f fd) (m : mg "never_rooms" = some (.ref f)) (T : Txt K mg) (XTt : XT K mg RN TN) (hB : K.In base) (C_heaviest : Q23 P w K mg base) : Q24 P w K mg base := by
 refine ⟨f, fd, ?_, m, F.kp, F.binds fun _ _ _ _ _ _ us hl => match us, hl with | [_], _ => rfl⟩
 show jX P w K mg base CX0 2 f fd ["store"] (spD K (dfn (["store", "lightest", "full", "room"] : List Str).length (["store"] : List Str).length uJ))
 refine zD (N := ["store", "lightest", "full", "room"]) (ps := ["store"]) (k := 1) (O := [2]) (body := uJ) F yo ?a ?b
 case a => decide
 intro cdv A outer s H E B hr
 exact (qh (zc (i := 1) yo.nd (zK (qf7 hr rfl) qeE rfl T.b_min qdD (qa (zS (fo := none) rfl (uM (qc 0)) (cs ["store", "lightest", "full", "room"] ["kind"] 1 [] (qd qO)) (f0 [] [2]) (fun _ _ _ _ _ _ _ _ _ _ _ => ⟨(qA (i := 0) (nd ["kind"])), yF, (jn qT qR (qc 0) (gI T.c_WEIGHT))⟩)) qe)))
   (qh (qbm (i := 2) yo.nd (qig (qa vM qe)))
   (qh (vP PassesOwn.never rfl (qf4 rfl T.b_range (qa qg (qa (qx zT zp (qc 1) (dC C_heaviest hr (qa (qc 0) qe))) qe))) (qA (i := 3) yo.nd) (qi (qP (qce (i := 2) (zK (qha rfl) qfq rfl T.b_any qlj (qa (zS (fo := (some (2, 2))) rfl (uM (qc 0)) (cs ["store", "lightest", "full", "room"] ["kind", "room", "full"] 1 [3, 2] (qd qO)) (f1 1 [3, 2] [2] 2 2) (fun _ _ _ _ _ _ _ _ _ _ _ => ⟨(qA (i := 0) (nd ["kind", "room", "full"])), yF, (qdt (qaj qmB qkW (jn qT qR (qc 0) (gI T.c_WEIGHT)) (qc 1) (qN _)) (qb4 (qfz (i := 2) (qx qe4 qcS (qc 1) (jn qT qR (qc 0) (gI T.c_WEIGHT))))))⟩)) qe))))))
   (qi (qF (qmW (qlw (qhx (i := 2) (qhv (fo := none) rfl (qdX rfl T.b_enumerate (qa (qc 2) qe)) (cs ["store", "lightest", "full", "room"] ["room", "is_full"] 2 [] (qd qO)) (f0 [] []) (fun _ _ _ _ _ _ _ _ _ _ _ => ⟨(qb5 (n := 2) rfl (yi (qA (i := 0) (nd ["room", "is_full"])) (yi (qA (i := 1) (nd ["room", "is_full"])) qak))), (qcd (vN (vp (qc 1)))), (qc 0)⟩))) rfl (cs ["store", "lightest", "full", "room"] ["room", "is_full"] 2 [] (qd qO)))))))))
theorem zO : qp ["one", "other", "rest"] ["one", "other"] (qd qU) := ⟨rfl, rfl, rfl, by decide +kernel, rfl, by decide +kernel, by decide +kernel⟩
abbrev Q25 (P : Program) (w : World) (K : Fr0) (mg : Str -> Option Value) (base : Heap) : Prop := zU P w K mg base 1 "greatest_divisor" ["one", "other"] (spD K zW)
theorem q25 {f : Addr} {fd : FuncData} (F : Fun K "greatest_divisor" "greatest_divisor" qU f fd) (m : mg "greatest_divisor" = some (.ref f)) (T : Txt K mg) (XTt : XT K mg RN TN) (hB : K.In base) : Q25 P w K mg base := by
 refine ⟨f, fd, ?_, m, F.kp, F.binds fun _ _ _ _ _ _ us hl => match us, hl with | [_, _], _ => rfl⟩
 show jX P w K mg base CX0 1 f fd ["one", "other"] (spD K (dfn (["one", "other", "rest"] : List Str).length (["one", "other"] : List Str).length zV))
 refine zD (N := ["one", "other", "rest"]) (ps := ["one", "other"]) (k := 0) (O := []) (body := zV) F zO ?a ?b
 case a => decide
 intro cdv A outer s H E B hr
 exact (qh (qhn PassesOwn.never (zw qbV wP (qc 1) qg (qN _)) (qh (zc (i := 2) zO.nd (qx qaV wx (qc 0) (qc 1)))
   (qh (zc (i := 0) zO.nd (qc 1))
   (qi (zc (i := 1) zO.nd (qc 2))))))
   (qi (qF (qc 0))))
theorem zX : qp ["store", "divisor", "kind"] ["store"] (qd zg) := ⟨rfl, rfl, rfl, by decide +kernel, rfl, by decide +kernel, by decide +kernel⟩
abbrev Q26 (P : Program) (w : World) (K : Fr0) (mg : Str -> Option Value) (base : Heap) : Prop := zU P w K mg base 2 "weights_divisor" ["store"] (spD K zG)
theorem q26 {f : Addr} {fd : FuncData} (F : Fun K "weights_divisor" "weights_divisor" zg f fd) (m : mg "weights_divisor" = some (.ref f)) (T : Txt K mg) (XTt : XT K mg RN TN) (hB : K.In base) (C_greatest_divisor : Q25 P w K mg base) : Q26 P w K mg base := by
 refine ⟨f, fd, ?_, m, F.kp, F.binds fun _ _ _ _ _ _ us hl => match us, hl with | [_], _ => rfl⟩
 show jX P w K mg base CX0 2 f fd ["store"] (spD K (dfn (["store", "divisor", "kind"] : List Str).length (["store"] : List Str).length jp))
 refine zD (N := ["store", "divisor", "kind"]) (ps := ["store"]) (k := 1) (O := []) (body := jp) F zX ?a ?b
 case a => decide
 intro cdv A outer s H E B hr
 exact (qh (zc (i := 1) zX.nd qg)
   (qh (vP PassesOwn.never rfl (uM (qc 0)) (qA (i := 2) zX.nd) (qi (zc (i := 1) zX.nd (dC C_greatest_divisor hr (qa (qc 1) (qa (jn qT qR (qc 2) (gI T.c_WEIGHT)) qe))))))
   (qi (qF (qc 1)))))
theorem qbQ : qp ["store"] ["store"] (qd ja) := ⟨rfl, rfl, rfl, by decide +kernel, rfl, by decide +kernel, by decide +kernel⟩
abbrev Q27 (P : Program) (w : World) (K : Fr0) (mg : Str -> Option Value) (base : Heap) : Prop := z4 P w K mg base 2 "need_light" ["store"] (spX K (clR K RN) uh)
theorem q27 {f : Addr} {fd : FuncData} (F : Fun K "need_light" "need_light" ja f fd) (m : mg "need_light" = some (.ref f)) (T : Txt K mg) (XTt : XT K mg RN TN) (hB : K.In base) (C_heaviest : Q23 P w K mg base) : Q27 P w K mg base := by
 have hcl : ∀ n, RN.contains n = true -> (clR K RN n).isSome = true := fun n hn => Option.isSome_iff_exists.mpr (XTt.has hn)
 have rn0 : RN.contains "TooMany" = true := by decide
 obtain ⟨S, mS, xS⟩ := XTt.xcls hB
 obtain ⟨C_TooMany, hc_TooMany⟩ := XTt.has (n := "TooMany") (by decide)
 have mc_TooMany := XTt.mgc _ _ (XTt.cls hc_TooMany).1
 obtain ⟨bm_TooMany, xc_TooMany, _⟩ := xS.own _ _ hc_TooMany
 refine ⟨f, fd, ?_, m, F.kp, F.binds fun _ _ _ _ _ _ us hl => match us, hl with | [_], _ => rfl⟩
 show jX P w K mg base (CX1 P w) 2 f fd ["store"] (spX K (clR K RN) (ur (["store"] : List Str).length (["store"] : List Str).length ug))
 refine yH (N := ["store"]) (ps := ["store"]) (k := 1) (O := []) (body := ug) (cl := clR K RN) F qbQ ?a ?b
 case a => decide
 intro cdv A outer s H E B hr
 have L := yG (P := P) (w := w) (K := K) (mg := mg) (base := base) (N := ["store"]) (qual := "need_light") (scope := qd ja) (f := f) (cdv := cdv) (A := A) (outer := outer) (s := s) (H := H) (E := E) (c := cfn [] [] B H (fun _ => False) (fun x H' => ∀ C, clR K RN x.cls = some C -> E (.ref C) none H') fun _ => none) (cl := clR K RN) rfl (fun x C H' h1 h2 => h2 C h1)
 exact (qi (yC (zw qbV wP (dC C_heaviest hr (qa (qc 0) qe)) (gI T.c_WEIGHT_AT_MOST) (qN _)) (qi (vU rfl L hc_TooMany rfl mc_TooMany xc_TooMany (qa uU qe))) zq))
theorem qaN : qp ["store"] ["store"] (qd zf) := ⟨rfl, rfl, rfl, by decide +kernel, rfl, by decide +kernel, by decide +kernel⟩
abbrev Q28 (P : Program) (w : World) (K : Fr0) (mg : Str -> Option Value) (base : Heap) : Prop := z4 P w K mg base 1 "need_endless" ["store"] (spX K (clR K RN) ym)
theorem q28 {f : Addr} {fd : FuncData} (F : Fun K "need_endless" "need_endless" zf f fd) (m : mg "need_endless" = some (.ref f)) (T : Txt K mg) (XTt : XT K mg RN TN) (hB : K.In base) : Q28 P w K mg base := by
 have hcl : ∀ n, RN.contains n = true -> (clR K RN n).isSome = true := fun n hn => Option.isSome_iff_exists.mpr (XTt.has hn)
 have rn0 : RN.contains "TooMany" = true := by decide
 obtain ⟨S, mS, xS⟩ := XTt.xcls hB
 obtain ⟨C_NotEndless, hc_NotEndless⟩ := XTt.has (n := "NotEndless") (by decide)
 have mc_NotEndless := XTt.mgc _ _ (XTt.cls hc_NotEndless).1
 obtain ⟨bm_NotEndless, xc_NotEndless, _⟩ := xS.own _ _ hc_NotEndless
 refine ⟨f, fd, ?_, m, F.kp, F.binds fun _ _ _ _ _ _ us hl => match us, hl with | [_], _ => rfl⟩
 show jX P w K mg base (CX1 P w) 1 f fd ["store"] (spX K (clR K RN) (ur (["store"] : List Str).length (["store"] : List Str).length uk))
 refine yH (N := ["store"]) (ps := ["store"]) (k := 0) (O := []) (body := uk) (cl := clR K RN) F qaN ?a ?b
 case a => decide
 intro cdv A outer s H E B hr
 have L := yG (P := P) (w := w) (K := K) (mg := mg) (base := base) (N := ["store"]) (qual := "need_endless") (scope := qd zf) (f := f) (cdv := cdv) (A := A) (outer := outer) (s := s) (H := H) (E := E) (c := cfn [] [] B H (fun _ => False) (fun x H' => ∀ C, clR K RN x.cls = some C -> E (.ref C) none H') fun _ => none) (cl := clR K RN) rfl (fun x C H' h1 h2 => h2 C h1)
 exact (qi (yC (DW.dt (qfk (zw (uN hr) jO (qc 0) (qK qe) (qN _)) (qb3 (vN (vp (zK (qdy rfl) qcc rfl T.b_all qii (qa (zS (fo := none) rfl (uM (qc 0)) (cs ["store"] ["kind"] 1 [] (qd zf)) (f0 [] []) (fun _ _ _ _ _ _ _ _ _ _ _ => ⟨(qA (i := 0) (nd ["kind"])), yF, (qaj qdq qbl (jn qT qR (qc 0) (gI T.c_MOST)) jY (qN _))⟩)) qe))))))) (qi (vU rfl L hc_NotEndless rfl mc_NotEndless xc_NotEndless (qa uU qe))) zq))
theorem vb : qp ["store"] ["store"] (qd qD) := ⟨rfl, rfl, rfl, by decide +kernel, rfl, by decide +kernel, by decide +kernel⟩
abbrev Q29 (P : Program) (w : World) (K : Fr0) (mg : Str -> Option Value) (base : Heap) : Prop := z4 P w K mg base 6 "need_light_endless" ["store"] (spX K (clR K RN) qo)
theorem q29 {f : Addr} {fd : FuncData} (F : Fun K "need_light_endless" "need_light_endless" qD f fd) (m : mg "need_light_endless" = some (.ref f)) (T : Txt K mg) (XTt : XT K mg RN TN) (hB : K.In base) (C_need_light : Q27 P w K mg base) (C_need_endless : Q28 P w K mg base) (C_need_store : Q10 P w K mg base) : Q29 P w K mg base := by
 have hcl : ∀ n, RN.contains n = true -> (clR K RN n).isSome = true := fun n hn => Option.isSome_iff_exists.mpr (XTt.has hn)
 have rn0 : RN.contains "TooMany" = true := by decide
 obtain ⟨S, mS, xS⟩ := XTt.xcls hB
 refine ⟨f, fd, ?_, m, F.kp, F.binds fun _ _ _ _ _ _ us hl => match us, hl with | [_], _ => rfl⟩
 show jX P w K mg base (CX1 P w) 6 f fd ["store"] (spX K (clR K RN) (ur (["store"] : List Str).length (["store"] : List Str).length qL))
 refine yH (N := ["store"]) (ps := ["store"]) (k := 5) (O := []) (body := qL) (cl := clR K RN) F vb ?a ?b
 case a => decide
 intro cdv A outer s H E B hr
 have L := yG (P := P) (w := w) (K := K) (mg := mg) (base := base) (N := ["store"]) (qual := "need_light_endless") (scope := qd qD) (f := f) (cdv := cdv) (A := A) (outer := outer) (s := s) (H := H) (E := E) (c := cfn [] [] B H (fun _ => False) (fun x H' => ∀ C, clR K RN x.cls = some C -> E (.ref C) none H') fun _ => none) (cl := clR K RN) rfl (fun x C H' h1 h2 => h2 C h1)
 exact (qh (qP (xC L.two hcl C_need_store hr (qa (qc 0) qe)))
   (qh (qP (xC L.two hcl C_need_endless hr (qa (qc 0) qe)))
   (qi (qP (xC L.two hcl C_need_light hr (qa (qc 0) qe))))))
theorem y9 : qp ["store", "divisor", "rooms"] ["store"] (qd zA) := ⟨rfl, rfl, rfl, by decide +kernel, rfl, by decide +kernel, by decide +kernel⟩
abbrev Q30 (P : Program) (w : World) (K : Fr0) (mg : Str -> Option Value) (base : Heap) : Prop := z4 P w K mg base 7 "never_filled" ["store"] (spX K (clR K RN) jv)
theorem q30 {f : Addr} {fd : FuncData} (F : Fun K "never_filled" "never_filled" zA f fd) (m : mg "never_filled" = some (.ref f)) (T : Txt K mg) (XTt : XT K mg RN TN) (hB : K.In base) (C_never_rooms : Q24 P w K mg base) (C_weights_divisor : Q26 P w K mg base) (C_need_light_endless : Q29 P w K mg base) : Q30 P w K mg base := by
 have hcl : ∀ n, RN.contains n = true -> (clR K RN n).isSome = true := fun n hn => Option.isSome_iff_exists.mpr (XTt.has hn)
 have rn0 : RN.contains "TooMany" = true := by decide
 obtain ⟨S, mS, xS⟩ := XTt.xcls hB
 refine ⟨f, fd, ?_, m, F.kp, F.binds fun _ _ _ _ _ _ us hl => match us, hl with | [_], _ => rfl⟩
 show jX P w K mg base (CX1 P w) 7 f fd ["store"] (spX K (clR K RN) (ur (["store", "divisor", "rooms"] : List Str).length (["store"] : List Str).length ju))
 refine yH (N := ["store", "divisor", "rooms"]) (ps := ["store"]) (k := 6) (O := []) (body := ju) (cl := clR K RN) F y9 ?a ?b
 case a => decide
 intro cdv A outer s H E B hr
 have L := yG (P := P) (w := w) (K := K) (mg := mg) (base := base) (N := ["store", "divisor", "rooms"]) (qual := "never_filled") (scope := qd zA) (f := f) (cdv := cdv) (A := A) (outer := outer) (s := s) (H := H) (E := E) (c := cfn [] [] B H (fun _ => False) (fun x H' => ∀ C, clR K RN x.cls = some C -> E (.ref C) none H') fun _ => none) (cl := clR K RN) rfl (fun x C H' h1 h2 => h2 C h1)
 exact (qh (qP (xC L.two hcl C_need_light_endless hr (qa (qc 0) qe)))
   (qh (zc (i := 1) y9.nd (dC C_weights_divisor hr (qa (qc 0) qe)))
   (qh (yC (zw qbV wP (qc 1) qg (qN _)) (qi (qF (qK (qa uU (qa (qc 1) qe))))) zq)
   (qh (zc (i := 2) y9.nd (dC C_never_rooms hr (qa (qc 0) qe)))
   (qi (qF (qjd (zw (uN hr) jO (qc 2) (zb qe) (qN _)) (qK (qa uU qe)) (qK (qa uU (qa (jn qT qR (qc 2) (qdC qg)) qe))))))))))
theorem qbR : qp ["store"] ["store"] (qd jb) := ⟨rfl, rfl, rfl, by decide +kernel, rfl, by decide +kernel, by decide +kernel⟩
abbrev Q31 (P : Program) (w : World) (K : Fr0) (mg : Str -> Option Value) (base : Heap) : Prop := z4 P w K mg base 7 "never_many" ["store"] (spX K (clR K RN) yA)
theorem q31 {f : Addr} {fd : FuncData} (F : Fun K "never_many" "never_many" jb f fd) (m : mg "never_many" = some (.ref f)) (T : Txt K mg) (XTt : XT K mg RN TN) (hB : K.In base) (C_weights_divisor : Q26 P w K mg base) (C_never_rooms : Q24 P w K mg base) (C_need_light_endless : Q29 P w K mg base) : Q31 P w K mg base := by
 have hcl : ∀ n, RN.contains n = true -> (clR K RN n).isSome = true := fun n hn => Option.isSome_iff_exists.mpr (XTt.has hn)
 have rn0 : RN.contains "TooMany" = true := by decide
 obtain ⟨S, mS, xS⟩ := XTt.xcls hB
 refine ⟨f, fd, ?_, m, F.kp, F.binds fun _ _ _ _ _ _ us hl => match us, hl with | [_], _ => rfl⟩
 show jX P w K mg base (CX1 P w) 7 f fd ["store"] (spX K (clR K RN) (ur (["store"] : List Str).length (["store"] : List Str).length yz))
 refine yH (N := ["store"]) (ps := ["store"]) (k := 6) (O := []) (body := yz) (cl := clR K RN) F qbR ?a ?b
 case a => decide
 intro cdv A outer s H E B hr
 have L := yG (P := P) (w := w) (K := K) (mg := mg) (base := base) (N := ["store"]) (qual := "never_many") (scope := qd jb) (f := f) (cdv := cdv) (A := A) (outer := outer) (s := s) (H := H) (E := E) (c := cfn [] [] B H (fun _ => False) (fun x H' => ∀ C, clR K RN x.cls = some C -> E (.ref C) none H') fun _ => none) (cl := clR K RN) rfl (fun x C H' h1 h2 => h2 C h1)
 exact (qh (qP (xC L.two hcl C_need_light_endless hr (qa (qc 0) qe)))
   (qi (qF (qjd (zw qbV wP (dC C_weights_divisor hr (qa (qc 0) qe)) qg (qN _)) jY (zK uV uW rfl T.b_len qch (qa (dC C_never_rooms hr (qa (qc 0) qe)) qe))))))
theorem qbS : qp ["kind", "store", "room"] ["kind", "store", "room"] (qd jc) := ⟨rfl, rfl, rfl, by decide +kernel, rfl, by decide +kernel, by decide +kernel⟩
abbrev Q32 (P : Program) (w : World) (K : Fr0) (mg : Str -> Option Value) (base : Heap) : Prop := z4 P w K mg base 8 "_law_asked" ["kind", "store", "room"] (spX K (clR K RN) qM)
theorem q32 {f : Addr} {fd : FuncData} (F : Fun K "_law_asked" "_law_asked" jc f fd) (m : mg "_law_asked" = some (.ref f)) (T : Txt K mg) (XTt : XT K mg RN TN) (hB : K.In base) (C_filled : Q12 P w K mg base) (C_all_filled : Q13 P w K mg base) (C_fills_many : Q14 P w K mg base) (C_most_filling : Q19 P w K mg base) (C_least_filling : Q20 P w K mg base) (C_fill : Q22 P w K mg base) (C_never_filled : Q30 P w K mg base) (C_never_many : Q31 P w K mg base) : Q32 P w K mg base := by
 have hcl : ∀ n, RN.contains n = true -> (clR K RN n).isSome = true := fun n hn => Option.isSome_iff_exists.mpr (XTt.has hn)
 have rn0 : RN.contains "TooMany" = true := by decide
 obtain ⟨S, mS, xS⟩ := XTt.xcls hB
 refine ⟨f, fd, ?_, m, F.kp, F.binds fun _ _ _ _ _ _ us hl => match us, hl with | [_, _, _], _ => rfl⟩
 show jX P w K mg base (CX1 P w) 8 f fd ["kind", "store", "room"] (spX K (clR K RN) (ur (["kind", "store", "room"] : List Str).length (["kind", "store", "room"] : List Str).length jj))
 refine yH (N := ["kind", "store", "room"]) (ps := ["kind", "store", "room"]) (k := 7) (O := []) (body := jj) (cl := clR K RN) F qbS ?a ?b
 case a => decide
 intro cdv A outer s H E B hr
 have L := yG (P := P) (w := w) (K := K) (mg := mg) (base := base) (N := ["kind", "store", "room"]) (qual := "_law_asked") (scope := qd jc) (f := f) (cdv := cdv) (A := A) (outer := outer) (s := s) (H := H) (E := E) (c := cfn [] [] B H (fun _ => False) (fun x H' => ∀ C, clR K RN x.cls = some C -> E (.ref C) none H') fun _ => none) (cl := clR K RN) rfl (fun x C H' h1 h2 => h2 C h1)
 exact (qi (yC (zw (uN hr) jO (qc 0) qg (qN _)) (qi (qP (xC L.two hcl C_filled hr (qa (qc 1) (qa (qc 2) qe))))) (qi (yC (zw (uN hr) jO (qc 0) qg (qN _)) (qi (qP (xC L.two hcl C_all_filled hr (qa (qc 1) (qa (qc 2) qe))))) (qi (yC (zw (uN hr) jO (qc 0) qg (qN _)) (qi (qP (xC L.two hcl C_fills_many hr (qa (qc 1) (qa (qc 2) qe))))) (qi (yC (zw (uN hr) jO (qc 0) qg (qN _)) (qi (qP (xC L.two hcl C_most_filling hr (qa (qc 1) (qa (qc 2) qe))))) (qi (yC (zw (uN hr) jO (qc 0) qg (qN _)) (qi (qP (xC L.two hcl C_least_filling hr (qa (qc 1) (qa (qc 2) qe))))) (qi (yC (zw (uN hr) jO (qc 0) qg (qN _)) (qi (qP (xC L.two hcl C_fill hr (qa (qc 1) (qa (qc 2) qe))))) (qi (yC (zw (uN hr) jO (qc 0) qg (qN _)) (qi (qP (xC L.two hcl C_never_filled hr (qa (qc 1) qe)))) (qi (qP (xC L.two hcl C_never_many hr (qa (qc 1) qe))))))))))))))))))
theorem ua : qp ["e", "found"] ["e"] (qd zB) := ⟨rfl, rfl, rfl, by decide +kernel, rfl, by decide +kernel, by decide +kernel⟩
abbrev Q33 (P : Program) (w : World) (K : Fr0) (mg : Str -> Option Value) (base : Heap) : Prop := qc1 P w K mg base 1 "_law_classes" ["e"] (spD K vA)
theorem q33 {f : Addr} {fd : FuncData} (F : Fun K "_law_classes" "_law_classes" zB f fd) (m : mg "_law_classes" = some (.ref f)) (T : Txt K mg) (XTt : XT K mg RN TN) (hB : K.In base) : Q33 P w K mg base := by
 have hcl : ∀ n, RN.contains n = true -> (clR K RN n).isSome = true := fun n hn => Option.isSome_iff_exists.mpr (XTt.has hn)
 have rn0 : RN.contains "TooMany" = true := by decide
 obtain ⟨S, mS, xS⟩ := XTt.xcls hB
 refine ⟨f, fd, ?_, m, F.kp, F.binds fun _ _ _ _ _ _ us hl => match us, hl with | [_], _ => rfl⟩
 show qbs P w K mg base CX0 1 f fd ["e"] (spD K (dfn (["e", "found"] : List Str).length (["e"] : List Str).length ul))
 refine qdT (N := ["e", "found"]) (ps := ["e"]) (k := 0) (O := []) (body := ul) F ua ?a ?b
 case a => decide
 intro cdv A outer s H E B hr al
 have hal : ∀ ρ σ H', Rep K (cfn [] [] B H (fun _ => False) (fun _ _ => False) fun _ => none) ρ σ H' -> AloneA (A.deeper (envOfC "_law_classes" (qd zB) s.heap.objs.size f cdv)) H' := Sk.AloneA.rep al (fun _ z => z)
 exact (qh (zc (i := 1) ua.nd (zb (qa (vw (RN := RN) (m := "NoStore") (mgl := mg) XTt (by decide) (by decide) rfl T.b_isinstance rfl (qc 0) (XTt.ask rn0 (by decide)) qw) (qa (vw (RN := RN) (m := "NoNumber") (mgl := mg) XTt (by decide) (by decide) rfl T.b_isinstance rfl (qc 0) (XTt.ask rn0 (by decide)) qw) (qa (vw (RN := RN) (m := "NoLoad") (mgl := mg) XTt (by decide) (by decide) rfl T.b_isinstance rfl (qc 0) (XTt.ask rn0 (by decide)) qw) (qa (vw (RN := RN) (m := "TooMany") (mgl := mg) XTt (by decide) (by decide) rfl T.b_isinstance rfl (qc 0) (XTt.ask rn0 (by decide)) qw) qe))))))
   (qh (zc (i := 1) ua.nd (qx zj zk (qc 1) (zb (qa (vw (RN := RN) (m := "NotSingle") (mgl := mg) XTt (by decide) (by decide) rfl T.b_isinstance rfl (qc 0) (XTt.ask rn0 (by decide)) qw) (qa (vw (RN := RN) (m := "NotEndless") (mgl := mg) XTt (by decide) (by decide) rfl T.b_isinstance rfl (qc 0) (XTt.ask rn0 (by decide)) qw) (qa (vw (RN := RN) (m := "NoKind") (mgl := mg) XTt (by decide) (by decide) rfl T.b_isinstance rfl (qc 0) (XTt.ask rn0 (by decide)) qw) qe))))))
   (qi (qF (qx zj zk (qc 1) (zb (qa (vw (RN := RN) (m := "NoLine") (mgl := mg) XTt (by decide) (by decide) rfl T.b_isinstance rfl (qc 0) (XTt.ask rn0 (by decide)) qw) (qa (vw (RN := RN) (m := "NoText") (mgl := mg) XTt (by decide) (by decide) rfl T.b_isinstance rfl (qc 0) (XTt.ask rn0 (by decide)) qw) qe))))))))
theorem qcI : qp ["e", "place"] ["e", "place"] (qd jd) := ⟨rfl, rfl, rfl, by decide +kernel, rfl, by decide +kernel, by decide +kernel⟩
abbrev Q34 (P : Program) (w : World) (K : Fr0) (mg : Str -> Option Value) (base : Heap) : Prop := qc1 P w K mg base 2 "_law_only" ["e", "place"] (spD K jF)
theorem q34 {f : Addr} {fd : FuncData} (F : Fun K "_law_only" "_law_only" jd f fd) (m : mg "_law_only" = some (.ref f)) (T : Txt K mg) (XTt : XT K mg RN TN) (hB : K.In base) (C__law_classes : Q33 P w K mg base) : Q34 P w K mg base := by
 have hcl : ∀ n, RN.contains n = true -> (clR K RN n).isSome = true := fun n hn => Option.isSome_iff_exists.mpr (XTt.has hn)
 have rn0 : RN.contains "TooMany" = true := by decide
 obtain ⟨S, mS, xS⟩ := XTt.xcls hB
 refine ⟨f, fd, ?_, m, F.kp, F.binds fun _ _ _ _ _ _ us hl => match us, hl with | [_, _], _ => rfl⟩
 show qbs P w K mg base CX0 2 f fd ["e", "place"] (spD K (dfn (["e", "place"] : List Str).length (["e", "place"] : List Str).length vH))
 refine qdT (N := ["e", "place"]) (ps := ["e", "place"]) (k := 1) (O := []) (body := vH) F qcI ?a ?b
 case a => decide
 intro cdv A outer s H E B hr al
 have hal : ∀ ρ σ H', Rep K (cfn [] [] B H (fun _ => False) (fun _ _ => False) fun _ => none) ρ σ H' -> AloneA (A.deeper (envOfC "_law_only" (qd jd) s.heap.objs.size f cdv)) H' := Sk.AloneA.rep al (fun _ z => z)
 exact (qh (yC (DW.dt (qfk (vN (vp (vw (RN := RN) (m := "SackError") (mgl := mg) XTt (by decide) (by decide) rfl T.b_isinstance rfl (qc 0) (XTt.ask rn0 (by decide)) qw))) (qb3 (vN (vp (qjM XTt rfl T.b_isinstance rfl T.b_ValueError (qc 0) qw)))))) (qi (qF vM)) zq)
   (qi (qF (qaj (qf9 hr) jO (lC hal C__law_classes hr (qa (qc 0) qe)) (qdY (fo := none) hal (qa5 rfl T.b_range (qa qg qe)) (cs ["e", "place"] ["k", "place"] 1 [1] (qd jd)) (f0 [1] []) rfl (fun _ _ _ _ _ _ _ _ _ _ _ hal => ⟨(qA (i := 0) (nd ["k", "place"])), yF, (qaj (qf9 hr) jO (qc 0) (qc 1) (qN _))⟩)) (qN _)))))
theorem wV : qp ["kind", "store", "room", "e"] ["kind", "store", "room"] (qd jE) := ⟨rfl, rfl, rfl, by decide +kernel, rfl, by decide +kernel, by decide +kernel⟩
abbrev Q35 (P : Program) (w : World) (K : Fr0) (mg : Str -> Option Value) (base : Heap) : Prop := zU P w K mg base 9 "_law_told" ["kind", "store", "room"] (spD K ql)
theorem q35 {f : Addr} {fd : FuncData} (F : Fun K "_law_told" "_law_told" jE f fd) (m : mg "_law_told" = some (.ref f)) (T : Txt K mg) (XTt : XT K mg RN TN) (hB : K.In base) (C__law_asked : Q32 P w K mg base) (C__law_only : Q34 P w K mg base) : Q35 P w K mg base := by
 have hcl : ∀ n, RN.contains n = true -> (clR K RN n).isSome = true := fun n hn => Option.isSome_iff_exists.mpr (XTt.has hn)
 have rn0 : RN.contains "TooMany" = true := by decide
 obtain ⟨S, mS, xS⟩ := XTt.xcls hB
 refine ⟨f, fd, ?_, m, F.kp, F.binds fun _ _ _ _ _ _ us hl => match us, hl with | [_, _, _], _ => rfl⟩
 show jX P w K mg base CX0 9 f fd ["kind", "store", "room"] (spD K (dfn (["kind", "store", "room", "e"] : List Str).length (["kind", "store", "room"] : List Str).length y7))
 refine zD (N := ["kind", "store", "room", "e"]) (ps := ["kind", "store", "room"]) (k := 8) (O := []) (body := y7) F wV ?a ?b
 case a => decide
 intro cdv A outer s H E B hr
 exact (qh (qjK (i := 3) wV.nd rfl rfl xS rfl mS (fun ee H6 al => have hal := qmZ (K := K) al; have hr := qjS (e := ee) hr; (qdY (fo := none) hal (qa5 rfl T.b_range (qa qg qe)) (cs ["kind", "store", "room", "e"] ["place", "e"] 1 [3] (qd jE)) (f0 [3] []) rfl (fun _ _ _ _ _ _ _ _ _ _ _ hal => ⟨(qA (i := 0) (nd ["place", "e"])), (qcd (vp (lC hal C__law_only hr (qa (qc 1) (qa (qc 0) qe))))), (qc 0)⟩))) (fun xe pn E2 cE L => (qi (qP (xC L hcl C__law_asked hr (qa (qc 0) (qa (qc 1) (qa (qc 2) qe))))))))
   (qi (qF (zb qe))))
theorem vc : qp ["box", "many", "left", "digit"] ["box", "many"] (qd ye) := ⟨rfl, rfl, rfl, by decide +kernel, rfl, by decide +kernel, by decide +kernel⟩
abbrev Q36 (P : Program) (w : World) (K : Fr0) (mg : Str -> Option Value) (base : Heap) : Prop := zU P w K mg base 1 "_law_take" ["box", "many"] (qih K qk)
theorem q36 {f : Addr} {fd : FuncData} (F : Fun K "_law_take" "_law_take" ye f fd) (m : mg "_law_take" = some (.ref f)) (T : Txt K mg) (XTt : XT K mg RN TN) (hB : K.In base) : Q36 P w K mg base := by
 refine ⟨f, fd, ?_, m, F.kp, F.binds fun _ _ _ _ _ _ us hl => match us, hl with | [_, _], _ => rfl⟩
 show jX P w K mg base CX0 1 f fd ["box", "many"] (qih K (qbn (["box", "many", "left", "digit"] : List Str).length (["box", "many"] : List Str).length uL))
 refine qlb (N := ["box", "many", "left", "digit"]) (ps := ["box", "many"]) (k := 0) (O := [0]) (body := uL) F vc ?a ?a0 ?b
 case a => decide
 case a0 => decide
 intro cdv A outer s H E B Io S hr
 exact (qh (qkU (zK qcO qca rfl T.b_divmod qfF (qa (qfz (i := 0) qg) (qa (qc 1) qe))) (qb5 (n := 2) rfl (yi (qA (i := 2) vc.nd) (yi (qA (i := 3) vc.nd) qak))))
   (qh (qjo (i := 0) (qc 2) qg)
   (qi (qF (qc 3)))))
theorem yE : qp ["box", "some"] ["box"] (qd zF) := ⟨rfl, rfl, rfl, by decide +kernel, rfl, by decide +kernel, by decide +kernel⟩
abbrev Q37 (P : Program) (w : World) (K : Fr0) (mg : Str -> Option Value) (base : Heap) : Prop := zU P w K mg base 2 "_law_no_store" ["box"] (qih K zH)
theorem q37 {f : Addr} {fd : FuncData} (F : Fun K "_law_no_store" "_law_no_store" zF f fd) (m : mg "_law_no_store" = some (.ref f)) (T : Txt K mg) (XTt : XT K mg RN TN) (hB : K.In base) (C__law_take : Q36 P w K mg base) : Q37 P w K mg base := by
 refine ⟨f, fd, ?_, m, F.kp, F.binds fun _ _ _ _ _ _ us hl => match us, hl with | [_], _ => rfl⟩
 show jX P w K mg base CX0 2 f fd ["box"] (qih K (qbn (["box", "some"] : List Str).length (["box"] : List Str).length jT))
 refine qlb (N := ["box", "some"]) (ps := ["box"]) (k := 1) (O := [0]) (body := jT) F yE ?a ?a0 ?b
 case a => decide
 case a0 => decide
 intro cdv A outer s H E B Io S hr
 exact (qh (zc (i := 1) yE.nd (zb (qa jY (qa (zb (qa (qK (qa qg (qa qg (qa qg qe)))) qe)) (qa (qK (qa qg (qa qg (qa qg qe)))) (qa (qK (qa (qK (qa qg (qa qg (qa qg qe)))) qe)) (qa (qK (qa (qK (qa qg (qa (qdC qg) (qa qg qe)))) qe)) (qa (qK (qa (qK (qa qg (qa qg (qa (qdC qg) qe)))) qe)) (qa (qK (qa (qK (qa qg (qa qg qe))) qe)) (qa (qK (qa (qK (qa vM (qa qg (qa qg qe)))) qe)) qe))))))))))
   (qh (zc (i := 1) yE.nd (qx zj zk (qc 1) (zb (qa (qK (qa (qK (qa qg (qa qg (qa uU qe)))) qe)) (qa (qx zT zp (qK (qa (qK (qa qg (qa qg (qa qg qe)))) qe)) qg) (qa uU (qa qg (qa qhD (qa (qK (qa (qK (qa qg (qa jY (qa qg qe)))) qe)) (qa (qK (qa jY qe)) (qa (qK (qa (qK (qa qg (qa qg (qa vM qe)))) qe)) qe)))))))))))
   (qi (qF (jn qT qR (qc 1) (iC (i := 0) C__law_take hr (qa qg qe)))))))
theorem jk : qp ["script", "k", "here", "number", "j", "part"] ["script", "k"] (qd yU) := ⟨rfl, rfl, rfl, by decide +kernel, rfl, by decide +kernel, by decide +kernel⟩
abbrev Q38 (P : Program) (w : World) (K : Fr0) (mg : Str -> Option Value) (base : Heap) : Prop := zU P w K mg base 1 "_law_box" ["script", "k"] (spD K yW)
theorem q38 {f : Addr} {fd : FuncData} (F : Fun K "_law_box" "_law_box" yU f fd) (m : mg "_law_box" = some (.ref f)) (T : Txt K mg) (XTt : XT K mg RN TN) (hB : K.In base) : Q38 P w K mg base := by
 refine ⟨f, fd, ?_, m, F.kp, F.binds fun _ _ _ _ _ _ us hl => match us, hl with | [_, _], _ => rfl⟩
 show jX P w K mg base CX0 1 f fd ["script", "k"] (spD K (dfn (["script", "k", "here", "number", "j", "part"] : List Str).length (["script", "k"] : List Str).length ux))
 refine zD (N := ["script", "k", "here", "number", "j", "part"]) (ps := ["script", "k"]) (k := 0) (O := []) (body := ux) F jk ?a ?b
 case a => decide
 intro cdv A outer s H E B hr
 exact (qh (zc (i := 2) jk.nd (qx zj zk (qx zT zp qg (qc 1)) qg))
   (qh (yC (zw qmA qkV (qc 1) (zK uV uW rfl T.b_len qch (qa (qc 0) qe)) (qN _)) (qi (zc (i := 2) jk.nd (jn qT qR (qc 0) (qc 1)))) zq)
   (qh (yC (zw (uN hr) jO (qx qaV wx (qc 2) qg) qg (qN _)) (qi (qF (zb (qa (qx qe5 qdv (qc 2) qg) qe)))) zq)
   (qh (zc (i := 3) jk.nd qg)
   (qh (vP PassesOwn.never rfl (zZ rfl T.b_range (qa qg qe)) (qA (i := 4) jk.nd) (qh (zc (i := 5) jk.nd (qx qaV wx (qx zj zk (qx zj zk (qx zT zp (qx qaV wx (qc 2) qg) qg) (qx zT zp qg (qc 4))) qg) qg))
   (qh (zc (i := 5) jk.nd (qx qaV wx (qx zT zp (qc 5) (qc 5)) qg))
   (qi (zc (i := 3) jk.nd (qx zj zk (qx zT zp (qc 3) qg) (qx qaV wx (qx zT zp (qc 5) (qx zj zk (qc 5) qg)) qg)))))))
   (qi (qF (zb (qa (qc 3) qe)))))))))
theorem wu : qp ["script", "k", "box", "bad", "none", "store", "great", "some", "due"] ["script"] (qd v7) := ⟨rfl, rfl, rfl, by decide +kernel, rfl, by decide +kernel, by decide +kernel⟩
theorem ql8 {f : Addr} {fd : FuncData} (F : Fun K "law" "law" v7 f fd) (T : Txt K mg) (XTt : XT K mg RN TN) (hB : K.In base) (C__law_told : Q35 P w K mg base) (C__law_take : Q36 P w K mg base) (C__law_no_store : Q37 P w K mg base) (C__law_box : Q38 P w K mg base) : jX P w K mg base CX0 10 f fd ["script"] (spD K qdc) := by
 show jX P w K mg base CX0 10 f fd ["script"] (spD K (dfn (["script", "k", "box", "bad", "none", "store", "great", "some", "due"] : List Str).length (["script"] : List Str).length qhW))
 refine zD (N := ["script", "k", "box", "bad", "none", "store", "great", "some", "due"]) (ps := ["script"]) (k := 9) (O := [2]) (body := qhW) F wu ?a ?b
 case a => decide
 intro cdv A outer s H E B hr
 exact (qh (vP PassesOwn.never rfl (zZ rfl T.b_range (qa (zK (qe9 rfl) qfo rfl T.b_max qfE (qa qg (qa (zK (qbW rfl) qb9 rfl T.b_min qdD (qa (zK uV uW rfl T.b_len qch (qa (qc 0) qe)) (qa qg qe))) qe))) qe)) (qA (i := 1) wu.nd) (qh (qbm (i := 2) wu.nd (nC C__law_box hr (qa (qc 0) (qa (qc 1) qe))))
   (qh (zc (i := 3) wu.nd (iC (i := 2) C__law_no_store hr qe))
   (qh (zc (i := 4) wu.nd (jn qT qR (zb (qa (qx qe4 qcS (qdC qg) (iC (i := 2) C__law_take hr (qa qg qe))) (qa vM (qa jY (qa uU (qa (qK (qa qg qe)) (qa (zb (qa qg qe)) qe))))))) (iC (i := 2) C__law_take hr (qa qg qe))))
   (qh (yC (zw (qaZ hr) wB (zS (fo := none) rfl (zZ rfl T.b_range (qa qg qe)) (cs ["script", "k", "box", "bad", "none", "store", "great", "some", "due"] ["kind", "bad", "none"] 1 [3, 4] (qd v7)) (f0 [3, 4] [2]) (fun _ _ _ _ _ _ _ _ _ _ _ => ⟨(qA (i := 0) (nd ["kind", "bad", "none"])), yF, (dC C__law_told hr (qa (qc 0) (qa (qc 1) (qa (qc 2) qe))))⟩)) (qx zT zp (zb (qa (zb (qa qg qe)) qe)) qg) (qN _)) (qi (qF vM)) zq)
   (qh (zc (i := 5) wu.nd (qK (qa (qK (qa (qx zj zk qg (iC (i := 2) C__law_take hr (qa qg qe))) (qa (iC (i := 2) C__law_take hr (qa qg qe)) (qa (qx zj zk qg (iC (i := 2) C__law_take hr (qa qg qe))) qe)))) qe)))
   (qh (yC (zw (qaZ hr) wB (zS (fo := none) rfl (zZ rfl T.b_range (qa qg qe)) (cs ["script", "k", "box", "bad", "none", "store", "great", "some", "due"] ["kind", "store", "none"] 1 [5, 4] (qd v7)) (f0 [5, 4] [2]) (fun _ _ _ _ _ _ _ _ _ _ _ => ⟨(qA (i := 0) (nd ["kind", "store", "none"])), yF, (dC C__law_told hr (qa (qc 0) (qa (qc 1) (qa (qc 2) qe))))⟩)) (qx zT zp (zb (qa (zb (qa qg qe)) qe)) qg) (qN _)) (qi (qF vM)) zq)
   (qh (yC (zw (qaZ hr) wB (zS (fo := (some (2, 2))) rfl (zZ rfl T.b_range (qa qg qe)) (cs ["script", "k", "box", "bad", "none", "store", "great", "some", "due"] ["kind", "store", "box"] 1 [5, 2] (qd v7)) (f1 1 [5, 2] [2] 2 2) (fun _ _ _ _ _ _ _ _ _ _ _ => ⟨(qA (i := 0) (nd ["kind", "store", "box"])), yF, (dC C__law_told hr (qa (qc 0) (qa (qc 1) (qa (qx zj zk qg (iC (i := 2) C__law_take hr (qa qg qe))) qe))))⟩)) (qx zT zp (zb (qa (zb (qa qg qe)) qe)) qg) (qN _)) (qi (qF vM)) zq)
   (qh (zc (i := 6) wu.nd (qK (qa (qK (qa qg (qa qg (qa jY qe)))) (qa (qK (qa (qx zj zk qg (iC (i := 2) C__law_take hr (qa qg qe))) (qa qg (qa jY qe)))) qe))))
   (qh (vP PassesOwn.never rfl (uM (zb (qa (qK (qa (qK qe) (qa (zb (qa qg qe)) qe))) (qa (qK (qa (qc 5) (qa (zb (qa qg qe)) qe))) (qa (qK (qa (qx zj zk (qc 6) (qc 5)) (qa (zb (qa qg qe)) qe))) (qa (qK (qa (qc 6) (qa (zb (qa qg qe)) qe))) (qa (qK (qa (qK (qa (qK (qa qg (qa qg (qa jY qe)))) qe)) (qa (zb qe) qe))) qe))))))) (qb5 (n := 2) rfl (yi (qA (i := 7) wu.nd) (yi (qA (i := 8) wu.nd) qak))) (qi (yC (zw (qaZ hr) wB (zS (fo := none) rfl (uM (qK (qa qg (qa qg qe)))) (cs ["script", "k", "box", "bad", "none", "store", "great", "some", "due"] ["kind", "some"] 1 [7] (qd v7)) (f0 [7] [2]) (fun _ _ _ _ _ _ _ _ _ _ _ => ⟨(qA (i := 0) (nd ["kind", "some"])), yF, (dC C__law_told hr (qa (qc 0) (qa (qc 1) (qa qg qe))))⟩)) (qx zT zp (zb (qa (qc 8) qe)) qg) (qN _)) (qi (qF vM)) zq)))
   (qi (yC (zw (qaZ hr) wB (zS (fo := none) rfl (zZ rfl T.b_range (qa qg qe)) (cs ["script", "k", "box", "bad", "none", "store", "great", "some", "due"] ["kind", "store"] 1 [5] (qd v7)) (f0 [5] [2]) (fun _ _ _ _ _ _ _ _ _ _ _ => ⟨(qA (i := 0) (nd ["kind", "store"])), yF, (dC C__law_told hr (qa (qc 0) (qa (qc 1) (qa qg qe))))⟩)) (qx zT zp (zb (qa (zb qe) qe)) qg) (qN _)) (qi (qF vM)) zq))))))))))))
   (qi (qF vM)))
end
theorem all_mk {l : PySem.W.OpenLaw} {w : World} {K : PySem.W.Frag} {h : Heap} {mg : Str -> Option Value} {fa f0 f1 f2 f3 f4 f5 f6 f7 f8 f9 f10 f11 f12 f13 f14 f15 f16 f17 f18 f19 f20 f21 f22 f23 f24 f25 f26 f27 f28 f29 f30 f31 f32 f33 f34 f35 f36 f37 f38 f39 : Addr} (X : K.In h) (G : h.Ns mainGlobals mg) (hfa : mg "law" = some (.ref fa))
  {od0 an0 od1 an1 od2 an2 od3 an3 od4 an4 od5 an5 od6 an6 od7 an7 od8 an8 od9 an9 od10 an10 od11 an11 od12 an12 od13 an13 od14 an14 od15 an15 od16 an16 od17 an17 od18 an18 od19 an19 od20 an20 od21 an21 od22 an22 od23 an23 od24 an24 od25 an25 od26 an26 od27 an27 od28 an28 od29 an29 od30 an30 od31 an31 od32 an32 od33 an33 od34 an34 od35 an35 od36 an36 od37 an37 od38 an38 od39 an39 : Option Addr} {sl0 sl1 sl2 sl3 sl4 sl5 sl6 sl7 sl8 sl9 sl10 sl11 sl12 sl13 sl14 sl15 sl16 sl17 sl18 sl19 sl20 sl21 sl22 sl23 sl24 sl25 sl26 sl27 sl28 sl29 sl30 sl31 sl32 sl33 sl34 sl35 sl36 sl37 sl38 sl39 : Array (Option Value)} {oc0 kV0 dc0 pm0 cd0 ct0 oc1 kV1 dc1 pm1 cd1 ct1 oc2 kV2 dc2 pm2 cd2 ct2 oc3 kV3 dc3 pm3 cd3 ct3 oc4 kV4 dc4 pm4 cd4 ct4 oc5 kV5 dc5 pm5 cd5 ct5 oc6 kV6 dc6 pm6 cd6 ct6 oc7 kV7 dc7 pm7 cd7 ct7 oc8 kV8 dc8 pm8 cd8 ct8 oc9 kV9 dc9 pm9 cd9 ct9 oc10 kV10 dc10 pm10 cd10 ct10 oc11 kV11 dc11 pm11 cd11 ct11 oc12 kV12 dc12 pm12 cd12 ct12 oc13 kV13 dc13 pm13 cd13 ct13 oc14 kV14 dc14 pm14 cd14 ct14 oc15 kV15 dc15 pm15 cd15 ct15 oc16 kV16 dc16 pm16 cd16 ct16 oc17 kV17 dc17 pm17 cd17 ct17 oc18 kV18 dc18 pm18 cd18 ct18 oc19 kV19 dc19 pm19 cd19 ct19 oc20 kV20 dc20 pm20 cd20 ct20 oc21 kV21 dc21 pm21 cd21 ct21 oc22 kV22 dc22 pm22 cd22 ct22 oc23 kV23 dc23 pm23 cd23 ct23 oc24 kV24 dc24 pm24 cd24 ct24 oc25 kV25 dc25 pm25 cd25 ct25 oc26 kV26 dc26 pm26 cd26 ct26 oc27 kV27 dc27 pm27 cd27 ct27 oc28 kV28 dc28 pm28 cd28 ct28 oc29 kV29 dc29 pm29 cd29 ct29 oc30 kV30 dc30 pm30 cd30 ct30 oc31 kV31 dc31 pm31 cd31 ct31 oc32 kV32 dc32 pm32 cd32 ct32 oc33 kV33 dc33 pm33 cd33 ct33 oc34 kV34 dc34 pm34 cd34 ct34 oc35 kV35 dc35 pm35 cd35 ct35 oc36 kV36 dc36 pm36 cd36 ct36 oc37 kV37 dc37 pm37 cd37 ct37 oc38 kV38 dc38 pm38 cd38 ct38 oc39 kV39 dc39 pm39 cd39 ct39 : Value} {tk_ASKED_AT_MOST : Tok} {tk_KINDS_AT_MOST : Tok} {tk_MOST : Tok} {tk_WEIGHT : Tok} {tk_WEIGHT_AT_MOST : Tok} {tk_WORTH : Tok}
  (a0 : PySem.W.nsIn K mainGlobals "most_within" = some (some (.ref f0))) (l0 : K.lookup f0 = some ⟨oc0, od0, .func (PySem.W.fnOf "most_within" "most_within" (qr jo) (qm jo) (qd jo) .none kV0 dc0 pm0 an0 cd0 ct0), sl0⟩) (c0 : PySem.W.codeIn K cd0 "most_within" = true) (k0 : PySem.W.keepIn K (.ref f0) = true)
  (a1 : PySem.W.nsIn K mainGlobals "room_left" = some (some (.ref f1))) (l1 : K.lookup f1 = some ⟨oc1, od1, .func (PySem.W.fnOf "room_left" "room_left" (qr ya) (qm ya) (qd ya) .none kV1 dc1 pm1 an1 cd1 ct1), sl1⟩) (c1 : PySem.W.codeIn K cd1 "room_left" = true) (k1 : PySem.W.keepIn K (.ref f1) = true)
  (a2 : PySem.W.nsIn K mainGlobals "many_with" = some (some (.ref f2))) (l2 : K.lookup f2 = some ⟨oc2, od2, .func (PySem.W.fnOf "many_with" "many_with" (qr jC) (qm jC) (qd jC) .none kV2 dc2 pm2 an2 cd2 ct2), sl2⟩) (c2 : PySem.W.codeIn K cd2 "many_with" = true) (k2 : PySem.W.keepIn K (.ref f2) = true)
  (a3 : PySem.W.nsIn K mainGlobals "filling_counts" = some (some (.ref f3))) (l3 : K.lookup f3 = some ⟨oc3, od3, .func (PySem.W.fnOf "filling_counts" "filling_counts" (qr qW) (qm qW) (qd qW) .none kV3 dc3 pm3 an3 cd3 ct3), sl3⟩) (c3 : PySem.W.codeIn K cd3 "filling_counts" = true) (k3 : PySem.W.keepIn K (.ref f3) = true)
  (a4 : PySem.W.nsIn K mainGlobals "need_few" = some (some (.ref f4))) (l4 : K.lookup f4 = some ⟨oc4, od4, .func (PySem.W.fnOf "need_few" "need_few" (qr yb) (qm yb) (qd yb) .none kV4 dc4 pm4 an4 cd4 ct4), sl4⟩) (c4 : PySem.W.codeIn K cd4 "need_few" = true) (k4 : PySem.W.keepIn K (.ref f4) = true)
  (a5 : PySem.W.nsIn K mainGlobals "is_whole" = some (some (.ref f5))) (l5 : K.lookup f5 = some ⟨oc5, od5, .func (PySem.W.fnOf "is_whole" "is_whole" (qr yS) (qm yS) (qd yS) .none kV5 dc5 pm5 an5 cd5 ct5), sl5⟩) (c5 : PySem.W.codeIn K cd5 "is_whole" = true) (k5 : PySem.W.keepIn K (.ref f5) = true)
  (a6 : PySem.W.nsIn K mainGlobals "is_count" = some (some (.ref f6))) (l6 : K.lookup f6 = some ⟨oc6, od6, .func (PySem.W.fnOf "is_count" "is_count" (qr yT) (qm yT) (qd yT) .none kV6 dc6 pm6 an6 cd6 ct6), sl6⟩) (c6 : PySem.W.codeIn K cd6 "is_count" = true) (k6 : PySem.W.keepIn K (.ref f6) = true)
  (a7 : PySem.W.nsIn K mainGlobals "need_count" = some (some (.ref f7))) (l7 : K.lookup f7 = some ⟨oc7, od7, .func (PySem.W.fnOf "need_count" "need_count" (qr z6) (qm z6) (qd z6) .none kV7 dc7 pm7 an7 cd7 ct7), sl7⟩) (c7 : PySem.W.codeIn K cd7 "need_count" = true) (k7 : PySem.W.keepIn K (.ref f7) = true)
  (a8 : PySem.W.nsIn K mainGlobals "is_kind" = some (some (.ref f8))) (l8 : K.lookup f8 = some ⟨oc8, od8, .func (PySem.W.fnOf "is_kind" "is_kind" (qr uu) (qm uu) (qd uu) .none kV8 dc8 pm8 an8 cd8 ct8), sl8⟩) (c8 : PySem.W.codeIn K cd8 "is_kind" = true) (k8 : PySem.W.keepIn K (.ref f8) = true)
  (a9 : PySem.W.nsIn K mainGlobals "is_store" = some (some (.ref f9))) (l9 : K.lookup f9 = some ⟨oc9, od9, .func (PySem.W.fnOf "is_store" "is_store" (qr yc) (qm yc) (qd yc) .none kV9 dc9 pm9 an9 cd9 ct9), sl9⟩) (c9 : PySem.W.codeIn K cd9 "is_store" = true) (k9 : PySem.W.keepIn K (.ref f9) = true)
  (a10 : PySem.W.nsIn K mainGlobals "need_store" = some (some (.ref f10))) (l10 : K.lookup f10 = some ⟨oc10, od10, .func (PySem.W.fnOf "need_store" "need_store" (qr z7) (qm z7) (qd z7) .none kV10 dc10 pm10 an10 cd10 ct10), sl10⟩) (c10 : PySem.W.codeIn K cd10 "need_store" = true) (k10 : PySem.W.keepIn K (.ref f10) = true)
  (a11 : PySem.W.nsIn K mainGlobals "need_asked" = some (some (.ref f11))) (l11 : K.lookup f11 = some ⟨oc11, od11, .func (PySem.W.fnOf "need_asked" "need_asked" (qr z8) (qm z8) (qd z8) .none kV11 dc11 pm11 an11 cd11 ct11), sl11⟩) (c11 : PySem.W.codeIn K cd11 "need_asked" = true) (k11 : PySem.W.keepIn K (.ref f11) = true)
  (a12 : PySem.W.nsIn K mainGlobals "filled" = some (some (.ref f12))) (l12 : K.lookup f12 = some ⟨oc12, od12, .func (PySem.W.fnOf "filled" "filled" (qr uF) (qm uF) (qd uF) .none kV12 dc12 pm12 an12 cd12 ct12), sl12⟩) (c12 : PySem.W.codeIn K cd12 "filled" = true) (k12 : PySem.W.keepIn K (.ref f12) = true)
  (a13 : PySem.W.nsIn K mainGlobals "all_filled" = some (some (.ref f13))) (l13 : K.lookup f13 = some ⟨oc13, od13, .func (PySem.W.fnOf "all_filled" "all_filled" (qr zI) (qm zI) (qd zI) .none kV13 dc13 pm13 an13 cd13 ct13), sl13⟩) (c13 : PySem.W.codeIn K cd13 "all_filled" = true) (k13 : PySem.W.keepIn K (.ref f13) = true)
  (a14 : PySem.W.nsIn K mainGlobals "fills_many" = some (some (.ref f14))) (l14 : K.lookup f14 = some ⟨oc14, od14, .func (PySem.W.fnOf "fills_many" "fills_many" (qr z9) (qm z9) (qd z9) .none kV14 dc14 pm14 an14 cd14 ct14), sl14⟩) (c14 : PySem.W.codeIn K cd14 "fills_many" = true) (k14 : PySem.W.keepIn K (.ref f14) = true)
  (a15 : PySem.W.nsIn K mainGlobals "filling_times" = some (some (.ref f15))) (l15 : K.lookup f15 = some ⟨oc15, od15, .func (PySem.W.fnOf "filling_times" "filling_times" (qr zo) (qm zo) (qd zo) .none kV15 dc15 pm15 an15 cd15 ct15), sl15⟩) (c15 : PySem.W.codeIn K cd15 "filling_times" = true) (k15 : PySem.W.keepIn K (.ref f15) = true)
  (a16 : PySem.W.nsIn K mainGlobals "worth_with" = some (some (.ref f16))) (l16 : K.lookup f16 = some ⟨oc16, od16, .func (PySem.W.fnOf "worth_with" "worth_with" (qr jI) (qm jI) (qd jI) .none kV16 dc16 pm16 an16 cd16 ct16), sl16⟩) (c16 : PySem.W.codeIn K cd16 "worth_with" = true) (k16 : PySem.W.keepIn K (.ref f16) = true)
  (a17 : PySem.W.nsIn K mainGlobals "filling_worths" = some (some (.ref f17))) (l17 : K.lookup f17 = some ⟨oc17, od17, .func (PySem.W.fnOf "filling_worths" "filling_worths" (qr qX) (qm qX) (qd qX) .none kV17 dc17 pm17 an17 cd17 ct17), sl17⟩) (c17 : PySem.W.codeIn K cd17 "filling_worths" = true) (k17 : PySem.W.keepIn K (.ref f17) = true)
  (a18 : PySem.W.nsIn K mainGlobals "most_rows" = some (some (.ref f18))) (l18 : K.lookup f18 = some ⟨oc18, od18, .func (PySem.W.fnOf "most_rows" "most_rows" (qr jD) (qm jD) (qd jD) .none kV18 dc18 pm18 an18 cd18 ct18), sl18⟩) (c18 : PySem.W.codeIn K cd18 "most_rows" = true) (k18 : PySem.W.keepIn K (.ref f18) = true)
  (a19 : PySem.W.nsIn K mainGlobals "most_filling" = some (some (.ref f19))) (l19 : K.lookup f19 = some ⟨oc19, od19, .func (PySem.W.fnOf "most_filling" "most_filling" (qr zy) (qm zy) (qd zy) .none kV19 dc19 pm19 an19 cd19 ct19), sl19⟩) (c19 : PySem.W.codeIn K cd19 "most_filling" = true) (k19 : PySem.W.keepIn K (.ref f19) = true)
  (a20 : PySem.W.nsIn K mainGlobals "least_filling" = some (some (.ref f20))) (l20 : K.lookup f20 = some ⟨oc20, od20, .func (PySem.W.fnOf "least_filling" "least_filling" (qr qQ) (qm qQ) (qd qQ) .none kV20 dc20 pm20 an20 cd20 ct20), sl20⟩) (c20 : PySem.W.codeIn K cd20 "least_filling" = true) (k20 : PySem.W.keepIn K (.ref f20) = true)
  (a21 : PySem.W.nsIn K mainGlobals "fewest_of_most" = some (some (.ref f21))) (l21 : K.lookup f21 = some ⟨oc21, od21, .func (PySem.W.fnOf "fewest_of_most" "fewest_of_most" (qr qY) (qm qY) (qd qY) .none kV21 dc21 pm21 an21 cd21 ct21), sl21⟩) (c21 : PySem.W.codeIn K cd21 "fewest_of_most" = true) (k21 : PySem.W.keepIn K (.ref f21) = true)
  (a22 : PySem.W.nsIn K mainGlobals "fill" = some (some (.ref f22))) (l22 : K.lookup f22 = some ⟨oc22, od22, .func (PySem.W.fnOf "fill" "fill" (qr qaG) (qm qaG) (qd qaG) .none kV22 dc22 pm22 an22 cd22 ct22), sl22⟩) (c22 : PySem.W.codeIn K cd22 "fill" = true) (k22 : PySem.W.keepIn K (.ref f22) = true)
  (a23 : PySem.W.nsIn K mainGlobals "heaviest" = some (some (.ref f23))) (l23 : K.lookup f23 = some ⟨oc23, od23, .func (PySem.W.fnOf "heaviest" "heaviest" (qr yd) (qm yd) (qd yd) .none kV23 dc23 pm23 an23 cd23 ct23), sl23⟩) (c23 : PySem.W.codeIn K cd23 "heaviest" = true) (k23 : PySem.W.keepIn K (.ref f23) = true)
  (a24 : PySem.W.nsIn K mainGlobals "never_rooms" = some (some (.ref f24))) (l24 : K.lookup f24 = some ⟨oc24, od24, .func (PySem.W.fnOf "never_rooms" "never_rooms" (qr qO) (qm qO) (qd qO) .none kV24 dc24 pm24 an24 cd24 ct24), sl24⟩) (c24 : PySem.W.codeIn K cd24 "never_rooms" = true) (k24 : PySem.W.keepIn K (.ref f24) = true)
  (a25 : PySem.W.nsIn K mainGlobals "greatest_divisor" = some (some (.ref f25))) (l25 : K.lookup f25 = some ⟨oc25, od25, .func (PySem.W.fnOf "greatest_divisor" "greatest_divisor" (qr qU) (qm qU) (qd qU) .none kV25 dc25 pm25 an25 cd25 ct25), sl25⟩) (c25 : PySem.W.codeIn K cd25 "greatest_divisor" = true) (k25 : PySem.W.keepIn K (.ref f25) = true)
  (a26 : PySem.W.nsIn K mainGlobals "weights_divisor" = some (some (.ref f26))) (l26 : K.lookup f26 = some ⟨oc26, od26, .func (PySem.W.fnOf "weights_divisor" "weights_divisor" (qr zg) (qm zg) (qd zg) .none kV26 dc26 pm26 an26 cd26 ct26), sl26⟩) (c26 : PySem.W.codeIn K cd26 "weights_divisor" = true) (k26 : PySem.W.keepIn K (.ref f26) = true)
  (a27 : PySem.W.nsIn K mainGlobals "need_light" = some (some (.ref f27))) (l27 : K.lookup f27 = some ⟨oc27, od27, .func (PySem.W.fnOf "need_light" "need_light" (qr ja) (qm ja) (qd ja) .none kV27 dc27 pm27 an27 cd27 ct27), sl27⟩) (c27 : PySem.W.codeIn K cd27 "need_light" = true) (k27 : PySem.W.keepIn K (.ref f27) = true)
  (a28 : PySem.W.nsIn K mainGlobals "need_endless" = some (some (.ref f28))) (l28 : K.lookup f28 = some ⟨oc28, od28, .func (PySem.W.fnOf "need_endless" "need_endless" (qr zf) (qm zf) (qd zf) .none kV28 dc28 pm28 an28 cd28 ct28), sl28⟩) (c28 : PySem.W.codeIn K cd28 "need_endless" = true) (k28 : PySem.W.keepIn K (.ref f28) = true)
  (a29 : PySem.W.nsIn K mainGlobals "need_light_endless" = some (some (.ref f29))) (l29 : K.lookup f29 = some ⟨oc29, od29, .func (PySem.W.fnOf "need_light_endless" "need_light_endless" (qr qD) (qm qD) (qd qD) .none kV29 dc29 pm29 an29 cd29 ct29), sl29⟩) (c29 : PySem.W.codeIn K cd29 "need_light_endless" = true) (k29 : PySem.W.keepIn K (.ref f29) = true)
  (a30 : PySem.W.nsIn K mainGlobals "never_filled" = some (some (.ref f30))) (l30 : K.lookup f30 = some ⟨oc30, od30, .func (PySem.W.fnOf "never_filled" "never_filled" (qr zA) (qm zA) (qd zA) .none kV30 dc30 pm30 an30 cd30 ct30), sl30⟩) (c30 : PySem.W.codeIn K cd30 "never_filled" = true) (k30 : PySem.W.keepIn K (.ref f30) = true)
  (a31 : PySem.W.nsIn K mainGlobals "never_many" = some (some (.ref f31))) (l31 : K.lookup f31 = some ⟨oc31, od31, .func (PySem.W.fnOf "never_many" "never_many" (qr jb) (qm jb) (qd jb) .none kV31 dc31 pm31 an31 cd31 ct31), sl31⟩) (c31 : PySem.W.codeIn K cd31 "never_many" = true) (k31 : PySem.W.keepIn K (.ref f31) = true)
  (a32 : PySem.W.nsIn K mainGlobals "_law_asked" = some (some (.ref f32))) (l32 : K.lookup f32 = some ⟨oc32, od32, .func (PySem.W.fnOf "_law_asked" "_law_asked" (qr jc) (qm jc) (qd jc) .none kV32 dc32 pm32 an32 cd32 ct32), sl32⟩) (c32 : PySem.W.codeIn K cd32 "_law_asked" = true) (k32 : PySem.W.keepIn K (.ref f32) = true)
  (a33 : PySem.W.nsIn K mainGlobals "_law_classes" = some (some (.ref f33))) (l33 : K.lookup f33 = some ⟨oc33, od33, .func (PySem.W.fnOf "_law_classes" "_law_classes" (qr zB) (qm zB) (qd zB) .none kV33 dc33 pm33 an33 cd33 ct33), sl33⟩) (c33 : PySem.W.codeIn K cd33 "_law_classes" = true) (k33 : PySem.W.keepIn K (.ref f33) = true)
  (a34 : PySem.W.nsIn K mainGlobals "_law_only" = some (some (.ref f34))) (l34 : K.lookup f34 = some ⟨oc34, od34, .func (PySem.W.fnOf "_law_only" "_law_only" (qr jd) (qm jd) (qd jd) .none kV34 dc34 pm34 an34 cd34 ct34), sl34⟩) (c34 : PySem.W.codeIn K cd34 "_law_only" = true) (k34 : PySem.W.keepIn K (.ref f34) = true)
  (a35 : PySem.W.nsIn K mainGlobals "_law_told" = some (some (.ref f35))) (l35 : K.lookup f35 = some ⟨oc35, od35, .func (PySem.W.fnOf "_law_told" "_law_told" (qr jE) (qm jE) (qd jE) .none kV35 dc35 pm35 an35 cd35 ct35), sl35⟩) (c35 : PySem.W.codeIn K cd35 "_law_told" = true) (k35 : PySem.W.keepIn K (.ref f35) = true)
  (a36 : PySem.W.nsIn K mainGlobals "_law_take" = some (some (.ref f36))) (l36 : K.lookup f36 = some ⟨oc36, od36, .func (PySem.W.fnOf "_law_take" "_law_take" (qr ye) (qm ye) (qd ye) .none kV36 dc36 pm36 an36 cd36 ct36), sl36⟩) (c36 : PySem.W.codeIn K cd36 "_law_take" = true) (k36 : PySem.W.keepIn K (.ref f36) = true)
  (a37 : PySem.W.nsIn K mainGlobals "_law_no_store" = some (some (.ref f37))) (l37 : K.lookup f37 = some ⟨oc37, od37, .func (PySem.W.fnOf "_law_no_store" "_law_no_store" (qr zF) (qm zF) (qd zF) .none kV37 dc37 pm37 an37 cd37 ct37), sl37⟩) (c37 : PySem.W.codeIn K cd37 "_law_no_store" = true) (k37 : PySem.W.keepIn K (.ref f37) = true)
  (a38 : PySem.W.nsIn K mainGlobals "_law_box" = some (some (.ref f38))) (l38 : K.lookup f38 = some ⟨oc38, od38, .func (PySem.W.fnOf "_law_box" "_law_box" (qr yU) (qm yU) (qd yU) .none kV38 dc38 pm38 an38 cd38 ct38), sl38⟩) (c38 : PySem.W.codeIn K cd38 "_law_box" = true) (k38 : PySem.W.keepIn K (.ref f38) = true)
  (a39 : PySem.W.nsIn K mainGlobals "law" = some (some (.ref f39))) (l39 : K.lookup f39 = some ⟨oc39, od39, .func (PySem.W.fnOf "law" "law" (qr v7) (qm v7) (qd v7) .none kV39 dc39 pm39 an39 cd39 ct39), sl39⟩) (c39 : PySem.W.codeIn K cd39 "law" = true) (k39 : PySem.W.keepIn K (.ref f39) = true)
  (zb_ValueError : PySem.W.nsIn K mainGlobals "ValueError" = some none)
  (zb_all : PySem.W.nsIn K mainGlobals "all" = some none)
  (zb_any : PySem.W.nsIn K mainGlobals "any" = some none)
  (zb_bool : PySem.W.nsIn K mainGlobals "bool" = some none)
  (zb_divmod : PySem.W.nsIn K mainGlobals "divmod" = some none)
  (zb_enumerate : PySem.W.nsIn K mainGlobals "enumerate" = some none)
  (zb_int : PySem.W.nsIn K mainGlobals "int" = some none)
  (zb_isinstance : PySem.W.nsIn K mainGlobals "isinstance" = some none)
  (zb_len : PySem.W.nsIn K mainGlobals "len" = some none)
  (zb_max : PySem.W.nsIn K mainGlobals "max" = some none)
  (zb_min : PySem.W.nsIn K mainGlobals "min" = some none)
  (zb_range : PySem.W.nsIn K mainGlobals "range" = some none)
  (zb_reversed : PySem.W.nsIn K mainGlobals "reversed" = some none)
  (zb_sum : PySem.W.nsIn K mainGlobals "sum" = some none)
  (zb_tuple : PySem.W.nsIn K mainGlobals "tuple" = some none)
  (xz : qmV K RN TN = true)
  (zg_ASKED_AT_MOST : PySem.W.nsIn K mainGlobals "ASKED_AT_MOST" = some (some (.int 200 tk_ASKED_AT_MOST)))
  (zg_KINDS_AT_MOST : PySem.W.nsIn K mainGlobals "KINDS_AT_MOST" = some (some (.int 12 tk_KINDS_AT_MOST)))
  (zg_MOST : PySem.W.nsIn K mainGlobals "MOST" = some (some (.int 2 tk_MOST)))
  (zg_WEIGHT : PySem.W.nsIn K mainGlobals "WEIGHT" = some (some (.int 0 tk_WEIGHT)))
  (zg_WEIGHT_AT_MOST : PySem.W.nsIn K mainGlobals "WEIGHT_AT_MOST" = some (some (.int 20 tk_WEIGHT_AT_MOST)))
  (zg_WORTH : PySem.W.nsIn K mainGlobals "WORTH" = some (some (.int 1 tk_WORTH))) :
  ∃ fd : FuncData, (∀ (s : Shared) (v : Value), BindsTo s fd ⟨[v], []⟩ [("script", v)]) /\ ∀ base : Heap, K.In base -> base.Ns mainGlobals mg -> jX l.prog w K mg base CX0 10 fa fd ["script"] (spD K qdc) := by
 have e := hfa.symm.trans (PySem.W.mg_of X G a39)
 cases e
 have T : Txt K mg := ⟨PySem.W.mg_none_of X G zb_ValueError, PySem.W.mg_none_of X G zb_all, PySem.W.mg_none_of X G zb_any, PySem.W.mg_none_of X G zb_bool, PySem.W.mg_none_of X G zb_divmod, PySem.W.mg_none_of X G zb_enumerate, PySem.W.mg_none_of X G zb_int, PySem.W.mg_none_of X G zb_isinstance, PySem.W.mg_none_of X G zb_len, PySem.W.mg_none_of X G zb_max, PySem.W.mg_none_of X G zb_min, PySem.W.mg_none_of X G zb_range, PySem.W.mg_none_of X G zb_reversed, PySem.W.mg_none_of X G zb_sum, PySem.W.mg_none_of X G zb_tuple, ⟨_, PySem.W.mg_of X G zg_ASKED_AT_MOST⟩, ⟨_, PySem.W.mg_of X G zg_KINDS_AT_MOST⟩, ⟨_, PySem.W.mg_of X G zg_MOST⟩, ⟨_, PySem.W.mg_of X G zg_WEIGHT⟩, ⟨_, PySem.W.mg_of X G zg_WEIGHT_AT_MOST⟩, ⟨_, PySem.W.mg_of X G zg_WORTH⟩⟩
 refine ⟨PySem.W.fnOf "law" "law" (qr v7) (qm v7) (qd v7) .none kV39 dc39 pm39 an39 cd39 ct39, fun s v => .of_eq rfl, fun base hB _ => ?_⟩
 have XTt : XT K mg RN TN := ⟨xz, qhs X G⟩
 have C_most_within := q0 (P := l.prog) (w := w) (base := base) (qJ (st := jo) l0 c0 k0) (PySem.W.mg_of X G a0) T XTt hB
 have C_room_left := q1 (P := l.prog) (w := w) (base := base) (qJ (st := ya) l1 c1 k1) (PySem.W.mg_of X G a1) T XTt hB
 have C_many_with := q2 (P := l.prog) (w := w) (base := base) (qJ (st := jC) l2 c2 k2) (PySem.W.mg_of X G a2) T XTt hB C_most_within C_room_left
 have C_filling_counts := q3 (P := l.prog) (w := w) (base := base) (qJ (st := qW) l3 c3 k3) (PySem.W.mg_of X G a3) T XTt hB C_many_with
 have C_need_few := q4 (P := l.prog) (w := w) (base := base) (qJ (st := yb) l4 c4 k4) (PySem.W.mg_of X G a4) T XTt hB
 have C_is_whole := q5 (P := l.prog) (w := w) (base := base) (qJ (st := yS) l5 c5 k5) (PySem.W.mg_of X G a5) T XTt hB
 have C_is_count := q6 (P := l.prog) (w := w) (base := base) (qJ (st := yT) l6 c6 k6) (PySem.W.mg_of X G a6) T XTt hB C_is_whole
 have C_need_count := q7 (P := l.prog) (w := w) (base := base) (qJ (st := z6) l7 c7 k7) (PySem.W.mg_of X G a7) T XTt hB C_is_count
 have C_is_kind := q8 (P := l.prog) (w := w) (base := base) (qJ (st := uu) l8 c8 k8) (PySem.W.mg_of X G a8) T XTt hB C_is_count
 have C_is_store := q9 (P := l.prog) (w := w) (base := base) (qJ (st := yc) l9 c9 k9) (PySem.W.mg_of X G a9) T XTt hB C_is_kind
 have C_need_store := q10 (P := l.prog) (w := w) (base := base) (qJ (st := z7) l10 c10 k10) (PySem.W.mg_of X G a10) T XTt hB C_is_store
 have C_need_asked := q11 (P := l.prog) (w := w) (base := base) (qJ (st := z8) l11 c11 k11) (PySem.W.mg_of X G a11) T XTt hB C_need_few C_need_count C_need_store
 have C_filled := q12 (P := l.prog) (w := w) (base := base) (qJ (st := uF) l12 c12 k12) (PySem.W.mg_of X G a12) T XTt hB C_filling_counts C_need_asked
 have C_all_filled := q13 (P := l.prog) (w := w) (base := base) (qJ (st := zI) l13 c13 k13) (PySem.W.mg_of X G a13) T XTt hB C_filling_counts C_need_asked
 have C_fills_many := q14 (P := l.prog) (w := w) (base := base) (qJ (st := z9) l14 c14 k14) (PySem.W.mg_of X G a14) T XTt hB C_filling_counts C_need_asked
 have C_filling_times := q15 (P := l.prog) (w := w) (base := base) (qJ (st := zo) l15 c15 k15) (PySem.W.mg_of X G a15) T XTt hB C_room_left C_most_within
 have C_worth_with := q16 (P := l.prog) (w := w) (base := base) (qJ (st := jI) l16 c16 k16) (PySem.W.mg_of X G a16) T XTt hB C_room_left
 have C_filling_worths := q17 (P := l.prog) (w := w) (base := base) (qJ (st := qX) l17 c17 k17) (PySem.W.mg_of X G a17) T XTt hB C_filling_times C_worth_with
 have C_most_rows := q18 (P := l.prog) (w := w) (base := base) (qJ (st := jD) l18 c18 k18) (PySem.W.mg_of X G a18) T XTt hB C_filling_worths
 have C_most_filling := q19 (P := l.prog) (w := w) (base := base) (qJ (st := zy) l19 c19 k19) (PySem.W.mg_of X G a19) T XTt hB C_most_rows C_need_asked
 have C_least_filling := q20 (P := l.prog) (w := w) (base := base) (qJ (st := qQ) l20 c20 k20) (PySem.W.mg_of X G a20) T XTt hB C_filling_worths C_need_asked
 have C_fewest_of_most := q21 (P := l.prog) (w := w) (base := base) (qJ (st := qY) l21 c21 k21) (PySem.W.mg_of X G a21) T XTt hB C_worth_with C_filling_times
 have C_fill := q22 (P := l.prog) (w := w) (base := base) (qJ (st := qaG) l22 c22 k22) (PySem.W.mg_of X G a22) T XTt hB C_room_left C_fewest_of_most C_most_rows C_need_asked
 have C_heaviest := q23 (P := l.prog) (w := w) (base := base) (qJ (st := yd) l23 c23 k23) (PySem.W.mg_of X G a23) T XTt hB
 have C_never_rooms := q24 (P := l.prog) (w := w) (base := base) (qJ (st := qO) l24 c24 k24) (PySem.W.mg_of X G a24) T XTt hB C_heaviest
 have C_greatest_divisor := q25 (P := l.prog) (w := w) (base := base) (qJ (st := qU) l25 c25 k25) (PySem.W.mg_of X G a25) T XTt hB
 have C_weights_divisor := q26 (P := l.prog) (w := w) (base := base) (qJ (st := zg) l26 c26 k26) (PySem.W.mg_of X G a26) T XTt hB C_greatest_divisor
 have C_need_light := q27 (P := l.prog) (w := w) (base := base) (qJ (st := ja) l27 c27 k27) (PySem.W.mg_of X G a27) T XTt hB C_heaviest
 have C_need_endless := q28 (P := l.prog) (w := w) (base := base) (qJ (st := zf) l28 c28 k28) (PySem.W.mg_of X G a28) T XTt hB
 have C_need_light_endless := q29 (P := l.prog) (w := w) (base := base) (qJ (st := qD) l29 c29 k29) (PySem.W.mg_of X G a29) T XTt hB C_need_light C_need_endless C_need_store
 have C_never_filled := q30 (P := l.prog) (w := w) (base := base) (qJ (st := zA) l30 c30 k30) (PySem.W.mg_of X G a30) T XTt hB C_never_rooms C_weights_divisor C_need_light_endless
 have C_never_many := q31 (P := l.prog) (w := w) (base := base) (qJ (st := jb) l31 c31 k31) (PySem.W.mg_of X G a31) T XTt hB C_weights_divisor C_never_rooms C_need_light_endless
 have C__law_asked := q32 (P := l.prog) (w := w) (base := base) (qJ (st := jc) l32 c32 k32) (PySem.W.mg_of X G a32) T XTt hB C_filled C_all_filled C_fills_many C_most_filling C_least_filling C_fill C_never_filled C_never_many
 have C__law_classes := q33 (P := l.prog) (w := w) (base := base) (qJ (st := zB) l33 c33 k33) (PySem.W.mg_of X G a33) T XTt hB
 have C__law_only := q34 (P := l.prog) (w := w) (base := base) (qJ (st := jd) l34 c34 k34) (PySem.W.mg_of X G a34) T XTt hB C__law_classes
 have C__law_told := q35 (P := l.prog) (w := w) (base := base) (qJ (st := jE) l35 c35 k35) (PySem.W.mg_of X G a35) T XTt hB C__law_asked C__law_only
 have C__law_take := q36 (P := l.prog) (w := w) (base := base) (qJ (st := ye) l36 c36 k36) (PySem.W.mg_of X G a36) T XTt hB
 have C__law_no_store := q37 (P := l.prog) (w := w) (base := base) (qJ (st := zF) l37 c37 k37) (PySem.W.mg_of X G a37) T XTt hB C__law_take
 have C__law_box := q38 (P := l.prog) (w := w) (base := base) (qJ (st := yU) l38 c38 k38) (PySem.W.mg_of X G a38) T XTt hB
 exact ql8 (P := l.prog) (w := w) (base := base) (qJ (st := v7) l39 c39 k39) T XTt hB C__law_told C__law_take C__law_no_store C__law_box
theorem qnb {K : Fr0} {H : Hp} {a : Addr} {ns : List Int} (hO : qmb H) (hS : SqL K H a (ns.map V.int)) : qkS K H a (ns.map V.int) := by
 rcases hS with (h | h) | h
 ·rcases hO a with z | ⟨o, xs, z⟩
  ·rw [h] at z; cases z
  ·rw [h] at z; cases z
 ·exact .inl h
 ·exact .inr h
theorem walk {l : PySem.W.OpenLaw} {q : Program} {loose : List Str} {XP : (Str -> Option Value) -> Heap -> Prop} {YP : World -> Heap -> Prop} {d : DefRec} {K : Params -> PySem.W.Frag} (hn : l.most = some 63) (hdf : d.params.defaults = [])
  (hY : ∀ (w : World) (h : Heap), YP w h -> (K w.params).In h) (hlaw : ∀ ns : List Int, ns.length <= 63 -> qdc [.fz ns] = .ok (.bl true))
  (F : ∀ (w : World) (mg : Str -> Option Value) (fa : Addr) (h : Heap), (K w.params).In h -> h.Ns mainGlobals mg -> mg d.name = some (.ref fa) ->
   ∃ fd : FuncData, (∀ (s : Shared) (u : Value), BindsTo s fd ⟨[u], []⟩ [("script", u)]) /\ ∀ base : Heap, (K w.params).In base -> base.Ns mainGlobals mg -> jX l.prog w (K w.params) mg base CX0 10 fa fd ["script"] (spD (K w.params) qdc)) :
  PySem.W.WalkO q loose XP YP l.row.toRowW d [] (fun f vs => PySem.call f vs) :=
 L2.walk_of (n := 63) (k := 10) (x := "script") (CX := fun _ => CX0) (sp := fun w => spD (K w.params) qdc) hn (by decide) hdf ⟨rfl, by decide, by decide, rfl⟩ hY F (fun w H a ns hl hO hS => by
  refine ⟨[.fz ns], fun _ => False, ⟨.ref a, [], rfl, ⟨a, rfl, qnb hO hS⟩, rfl⟩, fun _ _ => trivial, ?_⟩
  rw [hlaw ns hl]
  exact fun v H' _ h => h) fun _ _ _ _ _ z => z
end Law
end L2.Sk
open PySem PySem.W PyProof.Rows
set_option maxRecDepth 100000 in
set_option maxHeartbeats 0 in
theorem PySem.Challenge.cw_sackloads_k54_full_refused_holds : PySem.Challenge.rw_sackloads_k54_full_refused.Holds := by
 w_on; o_law; k_head; (case hw => w_witness2)
 k_fill
 refine L2.Sk.Law.walk (l := PySem.Challenge.rw_sackloads_k54_full_refused) rfl rfl (fun w h Y => by first | exact PySem.W.kIn_of Y | exact PySem.W.km_in_of Y) L2.Sk.Law.law_true ?F
 case F =>
  intro w mg fa h KX G hmg
  refine' L2.Sk.Law.all_mk KX G hmg ?a0 ?l0 ?c0 ?k0 ?a1 ?l1 ?c1 ?k1 ?a2 ?l2 ?c2 ?k2 ?a3 ?l3 ?c3 ?k3 ?a4 ?l4 ?c4 ?k4 ?a5 ?l5 ?c5 ?k5 ?a6 ?l6 ?c6 ?k6 ?a7 ?l7 ?c7 ?k7 ?a8 ?l8 ?c8 ?k8 ?a9 ?l9 ?c9 ?k9 ?a10 ?l10 ?c10 ?k10 ?a11 ?l11 ?c11 ?k11 ?a12 ?l12 ?c12 ?k12 ?a13 ?l13 ?c13 ?k13 ?a14 ?l14 ?c14 ?k14 ?a15 ?l15 ?c15 ?k15 ?a16 ?l16 ?c16 ?k16 ?a17 ?l17 ?c17 ?k17 ?a18 ?l18 ?c18 ?k18 ?a19 ?l19 ?c19 ?k19 ?a20 ?l20 ?c20 ?k20 ?a21 ?l21 ?c21 ?k21 ?a22 ?l22 ?c22 ?k22 ?a23 ?l23 ?c23 ?k23 ?a24 ?l24 ?c24 ?k24 ?a25 ?l25 ?c25 ?k25 ?a26 ?l26 ?c26 ?k26 ?a27 ?l27 ?c27 ?k27 ?a28 ?l28 ?c28 ?k28 ?a29 ?l29 ?c29 ?k29 ?a30 ?l30 ?c30 ?k30 ?a31 ?l31 ?c31 ?k31 ?a32 ?l32 ?c32 ?k32 ?a33 ?l33 ?c33 ?k33 ?a34 ?l34 ?c34 ?k34 ?a35 ?l35 ?c35 ?k35 ?a36 ?l36 ?c36 ?k36 ?a37 ?l37 ?c37 ?k37 ?a38 ?l38 ?c38 ?k38 ?a39 ?l39 ?c39 ?k39 ?zb_ValueError ?zb_all ?zb_any ?zb_bool ?zb_divmod ?zb_enumerate ?zb_int ?zb_isinstance ?zb_len ?zb_max ?zb_min ?zb_range ?zb_reversed ?zb_sum ?zb_tuple ?xz ?zg_ASKED_AT_MOST ?zg_KINDS_AT_MOST ?zg_MOST ?zg_WEIGHT ?zg_WEIGHT_AT_MOST ?zg_WORTH
  (case a0 => k_is)
  (case l0 => k_is)
  (case c0 => k_is)
  (case k0 => k_is)
  (case a1 => k_is)
  (case l1 => k_is)
  (case c1 => k_is)
  (case k1 => k_is)
  (case a2 => k_is)
  (case l2 => k_is)
  (case c2 => k_is)
  (case k2 => k_is)
  (case a3 => k_is)
  (case l3 => k_is)
  (case c3 => k_is)
  (case k3 => k_is)
  (case a4 => k_is)
  (case l4 => k_is)
  (case c4 => k_is)
  (case k4 => k_is)
  (case a5 => k_is)
  (case l5 => k_is)
  (case c5 => k_is)
  (case k5 => k_is)
  (case a6 => k_is)
  (case l6 => k_is)
  (case c6 => k_is)
  (case k6 => k_is)
  (case a7 => k_is)
  (case l7 => k_is)
  (case c7 => k_is)
  (case k7 => k_is)
  (case a8 => k_is)
  (case l8 => k_is)
  (case c8 => k_is)
  (case k8 => k_is)
  (case a9 => k_is)
  (case l9 => k_is)
  (case c9 => k_is)
  (case k9 => k_is)
  (case a10 => k_is)
  (case l10 => k_is)
  (case c10 => k_is)
  (case k10 => k_is)
  (case a11 => k_is)
  (case l11 => k_is)
  (case c11 => k_is)
  (case k11 => k_is)
  (case a12 => k_is)
  (case l12 => k_is)
  (case c12 => k_is)
  (case k12 => k_is)
  (case a13 => k_is)
  (case l13 => k_is)
  (case c13 => k_is)
  (case k13 => k_is)
  (case a14 => k_is)
  (case l14 => k_is)
  (case c14 => k_is)
  (case k14 => k_is)
  (case a15 => k_is)
  (case l15 => k_is)
  (case c15 => k_is)
  (case k15 => k_is)
  (case a16 => k_is)
  (case l16 => k_is)
  (case c16 => k_is)
  (case k16 => k_is)
  (case a17 => k_is)
  (case l17 => k_is)
  (case c17 => k_is)
  (case k17 => k_is)
  (case a18 => k_is)
  (case l18 => k_is)
  (case c18 => k_is)
  (case k18 => k_is)
  (case a19 => k_is)
  (case l19 => k_is)
  (case c19 => k_is)
  (case k19 => k_is)
  (case a20 => k_is)
  (case l20 => k_is)
  (case c20 => k_is)
  (case k20 => k_is)
  (case a21 => k_is)
  (case l21 => k_is)
  (case c21 => k_is)
  (case k21 => k_is)
  (case a22 => k_is)
  (case l22 => k_is)
  (case c22 => k_is)
  (case k22 => k_is)
  (case a23 => k_is)
  (case l23 => k_is)
  (case c23 => k_is)
  (case k23 => k_is)
  (case a24 => k_is)
  (case l24 => k_is)
  (case c24 => k_is)
  (case k24 => k_is)
  (case a25 => k_is)
  (case l25 => k_is)
  (case c25 => k_is)
  (case k25 => k_is)
  (case a26 => k_is)
  (case l26 => k_is)
  (case c26 => k_is)
  (case k26 => k_is)
  (case a27 => k_is)
  (case l27 => k_is)
  (case c27 => k_is)
  (case k27 => k_is)
  (case a28 => k_is)
  (case l28 => k_is)
  (case c28 => k_is)
  (case k28 => k_is)
  (case a29 => k_is)
  (case l29 => k_is)
  (case c29 => k_is)
  (case k29 => k_is)
  (case a30 => k_is)
  (case l30 => k_is)
  (case c30 => k_is)
  (case k30 => k_is)
  (case a31 => k_is)
  (case l31 => k_is)
  (case c31 => k_is)
  (case k31 => k_is)
  (case a32 => k_is)
  (case l32 => k_is)
  (case c32 => k_is)
  (case k32 => k_is)
  (case a33 => k_is)
  (case l33 => k_is)
  (case c33 => k_is)
  (case k33 => k_is)
  (case a34 => k_is)
  (case l34 => k_is)
  (case c34 => k_is)
  (case k34 => k_is)
  (case a35 => k_is)
  (case l35 => k_is)
  (case c35 => k_is)
  (case k35 => k_is)
  (case a36 => k_is)
  (case l36 => k_is)
  (case c36 => k_is)
  (case k36 => k_is)
  (case a37 => k_is)
  (case l37 => k_is)
  (case c37 => k_is)
  (case k37 => k_is)
  (case a38 => k_is)
  (case l38 => k_is)
  (case c38 => k_is)
  (case k38 => k_is)
  (case a39 => k_is)
  (case l39 => k_is)
  (case c39 => k_is)
  (case k39 => k_is)
  (case zb_ValueError => k_is)
  (case zb_all => k_is)
  (case zb_any => k_is)
  (case zb_bool => k_is)
  (case zb_divmod => k_is)
  (case zb_enumerate => k_is)
  (case zb_int => k_is)
  (case zb_isinstance => k_is)
  (case zb_len => k_is)
  (case zb_max => k_is)
  (case zb_min => k_is)
  (case zb_range => k_is)
  (case zb_reversed => k_is)
  (case zb_sum => k_is)
  (case zb_tuple => k_is)
  (case xz => kernel_rfl)
  (case zg_ASKED_AT_MOST => k_is)
  (case zg_KINDS_AT_MOST => k_is)
  (case zg_MOST => k_is)
  (case zg_WEIGHT => k_is)
  (case zg_WEIGHT_AT_MOST => k_is)
  (case zg_WORTH => k_is)
