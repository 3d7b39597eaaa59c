import PyProof.Rows.All
import Wide.All
import OpenK.AllK
import Wide.FinOn
import Lean
import PyProof.EqAt
import PyProof.EqKinds
import PyProof.TupleCall
import PySem.Challenge.RW_sackloads_k08_best_worths
def PySem.W.Fast.tw9811333057581018761 : Nat := 0
def PySem.W.Fast.tw7571086330836067934 : Nat := 0
def PySem.W.Fast.tw846454875828020053 : Nat := 0
def PySem.W.Fast.tw10632119492826324934 : Nat := 0
def PySem.W.Fast.tw11784254779957626643 : Nat := 0
def PySem.W.Fast.tw391033246569943028 : Nat := 0
set_option linter.all false
set_option Elab.async false
set_option maxRecDepth 100000
namespace L2
open PySem PySem.Spec PyProof.Rows
abbrev Key := Sum Int Str
def qiE : Key -> Value -> Bool
  | .inl k, v => Value.isInt k v
  | .inr x, v => Value.isStrOf x v
def qlv (w : World) : Key -> Int
  | .inl k => hashInt k
  | .inr x => hashStr w x
theorem zj : ∀ {k : Key} {v : Value}, qiE k v = true -> (∃ i t, k = Sum.inl i /\ v = Value.int i t) \/ (∃ x t, k = Sum.inr x /\ v = Value.str x t)
  | .inl i, v, h => by
    obtain ⟨t, e⟩ := Value.isInt_shape (k := i) (v := v) h
    exact .inl ⟨i, t, rfl, e⟩
  | .inr x, v, h => by
    obtain ⟨t, e⟩ := Value.isStrOf_shape (x := x) (v := v) h
    exact .inr ⟨x, t, rfl, e⟩
theorem qiF (a b : Int) : decide ((Sum.inl a : Key) = Sum.inl b) = (a == b) := by
  by_cases e : a = b
  . subst e; simp
  . have h : ¬ (Sum.inl a : Key) = Sum.inl b := fun q => e (Sum.inl.inj q)
    rw [decide_eq_false h]
    exact (beq_eq_false_iff_ne.mpr e).symm
theorem qiG (a b : Str) : decide ((Sum.inr a : Key) = Sum.inr b) = decide (a = b) := by
  by_cases e : a = b
  . subst e; simp
  . have h : ¬ (Sum.inr a : Key) = Sum.inr b := fun q => e (Sum.inr.inj q)
    rw [decide_eq_false h, decide_eq_false e]
theorem qiH (a : Int) (b : Str) : decide ((Sum.inl a : Key) = Sum.inr b) = false := decide_eq_false (fun q => nomatch q)
theorem qiI (a : Str) (b : Int) : decide ((Sum.inr a : Key) = Sum.inl b) = false := decide_eq_false (fun q => nomatch q)
def qay (prog : Program) (w : World) : PySem.KeyKind prog w Key where
  is := qiE
  hash := qlv w
  inj := fun v a b ha hb => by
    rcases zj ha with ⟨i, t, rfl, rfl⟩ | ⟨x, t, rfl, rfl⟩
    . rcases zj hb with ⟨j, u, rfl, e⟩ | ⟨y, u, rfl, e⟩
      . injection e with e1 _; rw [e1]
      . exact nomatch e
    . rcases zj hb with ⟨j, u, rfl, e⟩ | ⟨y, u, rfl, e⟩
      . exact nomatch e
      . injection e with e1 _; rw [e1]
  byValue := fun k v h => by
    rcases zj h with ⟨i, t, rfl, rfl⟩ | ⟨x, t, rfl, rfl⟩ <;> rfl
  pyHash := fun hv h => by
    rcases zj hv with ⟨i, t, rfl, rfl⟩ | ⟨x, t, rfl, rfl⟩
    . exact wpAny_pyHash_int h
    . exact wpAny_pyHash_str h
  eqBool := fun hu hv h => by
    rcases zj hu with ⟨i, t, rfl, rfl⟩ | ⟨x, t, rfl, rfl⟩
    . rcases zj hv with ⟨j, u, rfl, rfl⟩ | ⟨y, u, rfl, rfl⟩
      . rw [qiF] at h; exact wpAny_eqBool_int h
      . rw [qiH] at h; exact SeqAt.EqAt.int_str i t y u _ _ _ _ h
    . rcases zj hv with ⟨j, u, rfl, rfl⟩ | ⟨y, u, rfl, rfl⟩
      . rw [qiI] at h; exact SeqAt.EqAt.str_int x t j u _ _ _ _ h
      . rw [qiG] at h; exact wpAny_eqBool_str h
  «strs» := fun k x t v h => by
    rcases zj h with ⟨i, u, rfl, e⟩ | ⟨y, u, rfl, e⟩
    . exact nomatch e
    . injection e with e1 _
      subst e1
      cases v <;> rfl
end L2
namespace L2
open PySem PySem.Spec PyProof.Rows
inductive V where
  | non | bl (b : Bool) | int (i : Int) | str (x : Str) | byt (b : Array UInt8) | flt (b : UInt64) | ref (a : Addr) | ty (n : String)
  deriving DecidableEq
def jv : V -> Value -> Prop
  | .non, u => u = Value.none
  | .bl b, u => u = Value.bool b
  | .int i, u => ∃ t, u = Value.int i t
  | .str x, u => ∃ t, u = Value.str x t
  | .byt b, u => ∃ t, u = Value.bytes b t
  | .flt b, u => ∃ t, u = Value.float b t
  | .ref a, u => u = Value.ref a
  | .ty n, u => u = Value.type n
abbrev qY : List V -> List Value -> Prop := Paired jv
theorem qY.length {xs : List V} {us : List Value} (r : qY xs us) : xs.length = us.length := Paired.length r
theorem qY.get : ∀ {xs : List V} {us : List Value} {i : Nat} {x : V}, qY xs us -> xs[i]? = some x -> ∃ u, us[i]? = some u /\ jv x u
  | _, _, _, _, .nil, e => by simp at e
  | _, _, 0, _, .cons r _, e => by simp at e; subst e; exact ⟨_, rfl, r⟩
  | _, _, i + 1, x, .cons _ t, e => by
    obtain ⟨u, h1, h2⟩ := qY.get (i := i) (x := x) t (by simpa using e)
    exact ⟨u, by simpa using h1, h2⟩
theorem qY.set {x : V} {u : Value} (r : jv x u) : ∀ {xs : List V} {us : List Value} (i : Nat), qY xs us -> qY (xs.set i x) (us.set i u)
  | _, _, _, .nil => .nil
  | _, _, 0, .cons _ t => .cons r t
  | _, _, i + 1, .cons q t => .cons q (qY.set r i t)
theorem qY.append : ∀ {xs ys : List V} {us ws : List Value}, qY xs us -> qY ys ws -> qY (xs ++ ys) (us ++ ws)
  | _, _, _, _, .nil, s => s
  | _, _, _, _, .cons r t, s => .cons r (qY.append t s)
theorem qY.take : ∀ {xs : List V} {us : List Value} (n : Nat), qY xs us -> qY (xs.take n) (us.take n)
  | _, _, 0, _ => .nil
  | _, _, _ + 1, .nil => .nil
  | _, _, n + 1, .cons r t => .cons r (qY.take n t)
theorem qY.drop : ∀ {xs : List V} {us : List Value} (n : Nat), qY xs us -> qY (xs.drop n) (us.drop n)
  | _, _, 0, r => r
  | _, _, _ + 1, .nil => .nil
  | _, _, n + 1, .cons _ t => qY.drop n t
def qkh : Option V -> Option Value -> Prop
  | some v, some u => jv v u
  | none, none => True
  | _, _ => False
def KV {κ : Type} : List (κ × V) -> List (κ × Value) -> Prop := Paired fun (p : κ × V) (q : κ × Value) => p.1 = q.1 /\ jv p.2 q.2
def kV : Key -> V
  | .inl i => .int i
  | .inr x => .str x
inductive HO where
  /-- a list -/
  | lst (xs : List V)
  /-- a tuple (never changes) -/
  | tup (xs : List V)
  /-- a dict whose keys are ints and texts; one whose keys are tuples of ints and texts (the empty one is both) -/
  | dK (kvs : List (Key × V)) | dT (kvs : List (List Key × V))
  /-- a set of ints: its members, its size -/
  | set (S : Int -> Bool) (n : Nat)
  /-- an instance of the class at C, its dict at dx, its attributes -/
  | ins (C dx : Addr) (fs : List (Str × V))
  /-- the dict of the instance at x -/
  | own (x : Addr)
  /-- the dict of an exception -/
  | xd (fs : List (Str × V))
  /-- a bound method, f of x -/
  | met (f x : Addr)
  /-- a range object lo, lo + 1, .. below hi -/
  | rng (lo hi : Int)
  /-- a thing that is known to the object (the script; a dict while a loop walks it): read, never written while it is so -/
  | frz (o : Obj) (u : HO)
  /-- a code object's table -/
  | tbl (ps : Array Value)
  /-- any other thing, by what is true of its one object (a def of one's own: SetO a S n := HO.ext fun h => ..) -/
  | ext (φ : Heap -> Prop)
abbrev Hp := Addr -> Option HO
def upd (H : Hp) (a : Addr) (o : HO) : Hp := fun b => if b = a then some o else H b
theorem qv {H : Hp} {a : Addr} {o : HO} : upd H a o a = some o := by unfold upd; rw [if_pos rfl]
theorem qs {H : Hp} {a b : Addr} {o : HO} (h : b ≠ a) : upd H a o b = H b := by unfold upd; rw [if_neg h]
theorem uV {H : Hp} {a b : Addr} {o u : HO} (h : H a = some o) (h' : H b = some u) (d : o ≠ u) : a ≠ b := by
  intro e; subst e; rw [h] at h'; exact d (Option.some.inj h')
theorem qN {H : Hp} {a b : Addr} {o : HO} (h : H a = some o) (h' : H b = none) : a ≠ b := by
  intro e; subst e; rw [h] at h'; cases h'
section
variable (P : Program) (w : World)
def yf (H : Hp) (h : Heap) (a : Addr) : HO -> Prop
  | .lst xs => xs.length <= sizeLine /\ ∃ (its : List Value) (n : Nat), qY xs its /\ h.get? a = some { cls := .type "list", data := .seq its.toArray n }
  | .tup xs => xs.length <= sizeLine /\ ∃ its : List Value, qY xs its /\ IsTup h a its.toArray
  | .dK kvs => kvs.length <= sizeLine /\ (a == sysModules) = false /\ ∃ vs, KV kvs vs /\ h.DictOf (qay P w) a vs
  | .dT kvs => kvs.length <= sizeLine /\ (a == sysModules) = false /\ ∃ xs : List (List Key × Addr × Value),
      Paired (fun (p : List Key × V) (q : List Key × Addr × Value) => p.1 = q.1 /\ H q.2.1 = some (.tup (p.1.map kV)) /\ jv p.2 q.2.2) kvs xs /\
      ∃ o es ep, h.get? a = some o /\ o.ExactDict /\ o.data = .dict es ep /\ es.toList = xs.map (entryOfKey (tupleKind (qay P w))) /\ (xs.map (·.1)).Nodup
  | .set S n => h.SetOf (intKind P w) a S n
  | .ins C dx fs => H dx = some (.own a) /\ fs.length <= 1000 /\ dx ≠ a /\ h.get? a = some (PySem.W.instObj C dx) /\
      ∃ mA, h.Ns1 dx mA /\ (∀ f, qkh (fs.lookup f) (mA f)) /\ PySem.Within mA (fs.map (·.1))
  | .own _ => ∃ o, h.get? a = some o
  | .xd fs => ∃ mA, h.Ns1 a mA /\ ∀ f, qkh (fs.lookup f) (mA f)
  | .rng lo hi => ∃ t u v, h.get? a = some { cls := .type "range", data := .fields #[.int lo t, .int hi u, .int 1 v] }
  | .frz o u => h.get? a = some o /\ yf H h a u
  | .tbl ps => h.get? a = some { cls := .none, data := .fields ps }
  | .met f x => h.get? a = some (PySem.W.methodObj (.ref f) (.ref x))
  | .ext φ => φ h /\ (∃ o, h.get? a = some o) /\ ∀ h1 h2 : Heap, φ h1 -> (∀ o, h1.get? a = some o -> h2.get? a = some o) -> φ h2
def HOk (H : Hp) (h : Heap) : Prop := ∀ a o, H a = some o -> yf P w H h a o
end
section
variable {P : Program} {w : World} {H H' : Hp} {h h' : Heap} {a : Addr} {o : HO}
theorem yf.lt (x : yf P w H h a o) : a < h.objs.size := by
  cases o with
  | lst xs => obtain ⟨_, _, _, _, e⟩ := x; exact Heap.lt_size e
  | tup xs => obtain ⟨_, _, _, p⟩ := x; exact p.lt
  | dK kvs => obtain ⟨_, _, _, _, o, _, _, e, _⟩ := x; exact Heap.lt_size e
  | dT kvs => obtain ⟨_, _, _, _, o, _, _, e, _⟩ := x; exact Heap.lt_size e
  | set S n => obtain ⟨o, _, _, _, e, _⟩ := x; exact Heap.lt_size e
  | ins C dx fs => obtain ⟨_, _, _, e, _⟩ := x; exact Heap.lt_size e
  | own y => obtain ⟨_, e⟩ := x; exact Heap.lt_size e
  | xd fs => obtain ⟨_, ⟨_, _, _, e, _⟩, _⟩ := x; exact Heap.lt_size e
  | rng lo hi => obtain ⟨_, _, _, e⟩ := x; exact Heap.lt_size e
  | frz ob u => obtain ⟨e, _⟩ := x; exact Heap.lt_size e
  | tbl ps => exact Heap.lt_size (show h.get? a = some _ from x)
  | met f y => exact Heap.lt_size (show h.get? a = some _ from x)
  | ext φ => obtain ⟨_, ⟨_, e⟩, _⟩ := x; exact Heap.lt_size e
theorem Paired.mapP {α β : Type} {F G : α -> β -> Prop} : ∀ {l₁ : List α} {l₂ : List β}, Paired F l₁ l₂ -> (∀ a b, F a b -> G a b) -> Paired G l₁ l₂
  | _, _, .nil, _ => .nil
  | _, _, .cons r t, f => .cons (f _ _ r) (Paired.mapP t f)
theorem yf.stay (x : yf P w H h a o) (k : ∀ b u, (b = a \/ H b = some (.own a)) -> h.get? b = some u -> h'.get? b = some u)
    (ho : ∀ b, H b = some (.own a) -> H' b = some (.own a)) (ht : ∀ b xs, H b = some (.tup xs) -> H' b = some (.tup xs)) : yf P w H' h' a o := by
  induction o with
  | lst xs => obtain ⟨z, its, n, r, e⟩ := x; exact ⟨z, its, n, r, k _ _ (.inl rfl) e⟩
  | tup xs => obtain ⟨z, its, r, ob, e, c⟩ := x; exact ⟨z, its, r, ob, k _ _ (.inl rfl) e, c⟩
  | dK kvs => obtain ⟨z, y, vs, r, ob, es, ep, e, c⟩ := x; exact ⟨z, y, vs, r, ob, es, ep, k _ _ (.inl rfl) e, c⟩
  | dT kvs =>
    obtain ⟨z, y, xs, r, ob, es, ep, e, c⟩ := x
    exact ⟨z, y, xs, Paired.mapP r fun p q z => ⟨z.1, ht _ _ z.2.1, z.2.2⟩, ob, es, ep, k _ _ (.inl rfl) e, c⟩
  | set S n => obtain ⟨ob, es, ep, t, e, c⟩ := x; exact ⟨ob, es, ep, t, k _ _ (.inl rfl) e, c⟩
  | ins C dx fs =>
    obtain ⟨d, z, ne, e, mA, ⟨od, es, ep, e2, c⟩, r⟩ := x
    exact ⟨ho _ d, z, ne, k _ _ (.inl rfl) e, mA, ⟨od, es, ep, k _ _ (.inr d) e2, c⟩, r⟩
  | own y => obtain ⟨ob, e⟩ := x; exact ⟨ob, k _ _ (.inl rfl) e⟩
  | xd fs => obtain ⟨mA, ⟨od, es, ep, e, c⟩, r⟩ := x; exact ⟨mA, ⟨od, es, ep, k _ _ (.inl rfl) e, c⟩, r⟩
  | rng lo hi => obtain ⟨t, u, v, e⟩ := x; exact ⟨t, u, v, k _ _ (.inl rfl) e⟩
  | frz ob u ih => obtain ⟨e, q⟩ := x; exact ⟨k _ _ (.inl rfl) e, ih q⟩
  | tbl ps =>
    have e : h.get? a = some { cls := .none, data := .fields ps } := x
    show h'.get? a = some { cls := .none, data := .fields ps }
    exact k a _ (.inl rfl) e
  | met f y =>
    have e : h.get? a = some (PySem.W.methodObj (.ref f) (.ref y)) := x
    show h'.get? a = some (PySem.W.methodObj (.ref f) (.ref y))
    exact k a _ (.inl rfl) e
  | ext φ => obtain ⟨p, ⟨o, e⟩, st⟩ := x; exact ⟨st _ _ p fun o q => k _ _ (.inl rfl) q, ⟨o, k _ _ (.inl rfl) e⟩, st⟩
theorem HOk.lt (x : HOk P w H h) (e : H a = some o) : a < h.objs.size := (x a o e).lt
theorem HOk.fresh (x : HOk P w H h) (e : h.objs.size <= a) : H a = none := by
  cases q : H a with
  | none => rfl
  | some u => exact absurd (Nat.lt_of_lt_of_le (x.lt q) e) (Nat.lt_irrefl _)
theorem HOk.kept (x : HOk P w H h) (k : ∀ b u, h.get? b = some u -> h'.get? b = some u) : HOk P w H h' := fun a o e =>
  (x a o e).stay (fun b u _ q => k b u q) (fun _ q => q) fun _ _ q => q
theorem HOk.laid (x : HOk P w H h) (k : ∀ b u, h.get? b = some u -> h'.get? b = some u) (hp : h.objs.size <= a) (new : yf P w (upd H a o) h' a o) : HOk P w (upd H a o) h' := fun b u e => by
  have hn := x.fresh hp
  by_cases hb : b = a
  . subst hb; rw [qv] at e; cases e; exact new
  . rw [qs hb] at e
    exact (x b u e).stay (fun c v _ q => k c v q) (fun c q => by rw [qs (qN q hn)]; exact q) fun c xs q => by rw [qs (qN q hn)]; exact q
end
def Rd (H : Hp) (a : Addr) (u : HO) : Prop := H a = some u \/ ∃ o, H a = some (.frz o u)
theorem Rd.ok {P : Program} {w : World} {H : Hp} {h : Heap} {a : Addr} {u : HO} (r : Rd H a u) (x : HOk P w H h) : yf P w H h a u := by
  rcases r with r | ⟨o, r⟩
  . exact x a u r
  . obtain ⟨_, q⟩ := x a _ r
    exact q
def Mut : Option HO -> Prop
  | some (.lst _) => True
  | some (.dK _) => True
  | some (.dT _) => True
  | some (.set _ _) => True
  | some (.ins _ _ _) => True
  | some (.ext _) => True
  | _ => False
section
variable {P : Program} {w : World} {H : Hp} {h h' : Heap} {x e : Addr} {o' : HO}
theorem HOk.write (ok : HOk P w H h) (mu : Mut (H x)) (he : e = x \/ H e = some (.own x)) (k : ∀ b u, b ≠ e -> h.get? b = some u -> h'.get? b = some u) (heo : ∃ u, h'.get? e = some u)
    (new : yf P w (upd H x o') h' x o') : HOk P w (upd H x o') h' := fun b u q => by
  have nown : ∀ c y, H c = some (.own y) -> c ≠ x := fun c y r z => by subst z; rw [r] at mu; exact mu
  have ntup : ∀ c xs, H c = some (.tup xs) -> c ≠ x := fun c xs r z => by subst z; rw [r] at mu; exact mu
  by_cases hb : b = x
  . subst hb; rw [qv] at q; cases q; exact new
  . rw [qs hb] at q
    by_cases hbe : b = e
    . have q' : H b = some (.own x) := by
        rcases he with z | z
        . exact absurd (hbe.trans z) hb
        . rw [hbe]; exact z
      rw [q] at q'; cases q'
      obtain ⟨v, hv⟩ := heo
      exact ⟨v, by rw [hbe]; exact hv⟩
    . refine (ok b u q).stay (fun c v hc r => k c v ?_ r) (fun c r => by rw [qs (nown c b r)]; exact r) fun c xs r => by rw [qs (ntup c xs r)]; exact r
      rcases hc with rfl | hc
      . exact hbe
      . rintro rfl
        rcases he with z | z
        . exact nown c b hc z
        . rw [hc] at z; cases z; exact hb rfl
end
structure Un (fs ex : List Addr) (H H' : Hp) (h h' : Heap) : Prop where
  keep : ∀ b o, h.get? b = some o -> H b = none -> b ∉ fs -> b ∉ ex -> h'.get? b = some o
  slot : ∀ b o, h.get? b = some o -> H b = none -> b ∈ fs -> b ∉ ex -> ∃ sl, h'.get? b = some { o with slots := sl }
  free : ∀ b o, h.get? b = some o -> H b = none -> b ∉ ex -> H' b = none
  there : ∀ b o, h.get? b = some o -> b ∉ ex -> ∃ o', h'.get? b = some o'
  tups : ∀ b xs, H b = some (.tup xs) -> H' b = some (.tup xs)
  frzs : ∀ b o u, H b = some (.frz o u) -> H' b = some (.frz o u)
  tbls : ∀ b ps, H b = some (.tbl ps) -> ∃ more, H' b = some (.tbl (ps ++ more))
section
variable {fs fs' ex ex' : List Addr} {H H1 H2 : Hp} {h h1 h2 h' : Heap} {a x e : Addr} {o : HO}
theorem Un.any (u : Un fs ex H H1 h h1) {b : Addr} {ob : Obj} (q : h.get? b = some ob) (n : H b = none) (hx : b ∉ ex) : ∃ sl, h1.get? b = some { ob with slots := sl } := by
  by_cases hb : b ∈ fs
  . exact u.slot b ob q n hb hx
  . exact ⟨ob.slots, u.keep b ob q n hb hx⟩
theorem Un.trans (a : Un fs ex H H1 h h1) (b : Un fs ex H1 H2 h1 h2) : Un fs ex H H2 h h2 where
  keep := fun c ob q n hc hx => b.keep c ob (a.keep c ob q n hc hx) (a.free c ob q n hx) hc hx
  slot := fun c ob q n hc hx => by
    obtain ⟨sl, e1⟩ := a.slot c ob q n hc hx
    obtain ⟨sl', e2⟩ := b.slot c _ e1 (a.free c ob q n hx) hc hx
    exact ⟨sl', e2⟩
  free := fun c ob q n hx => by
    obtain ⟨o', e1⟩ := a.there c ob q hx
    exact b.free c o' e1 (a.free c ob q n hx) hx
  there := fun c ob q hx => by
    obtain ⟨o', e1⟩ := a.there c ob q hx
    exact b.there c o' e1 hx
  tups := fun c xs q => b.tups c xs (a.tups c xs q)
  frzs := fun c ob xs q => b.frzs c ob xs (a.frzs c ob xs q)
  tbls := fun c ps q => by
    obtain ⟨m1, e1⟩ := a.tbls c ps q
    obtain ⟨m2, e2⟩ := b.tbls c _ e1
    exact ⟨m1 ++ m2, by rw [e2, Array.append_assoc]⟩
theorem Un.kept (k : ∀ b u, h.get? b = some u -> h'.get? b = some u) : Un fs ex H H h h' :=
  ⟨fun b ob q _ _ _ => k b ob q, fun b ob q _ _ _ => ⟨ob.slots, k b ob q⟩, fun _ _ _ n _ => n, fun b ob q _ => ⟨ob, k b ob q⟩, fun _ _ q => q, fun _ _ _ q => q, fun _ ps q => ⟨#[], by rw [q]; simp⟩⟩
theorem Un.refl : Un fs ex H H h h := Un.kept fun _ _ q => q
theorem Un.laid (k : ∀ b u, h.get? b = some u -> h'.get? b = some u) (hp : h.objs.size <= a) (hn : H a = none) : Un fs ex H (upd H a o) h h' where
  keep := fun b u q _ _ _ => k b u q
  slot := fun b u q _ _ _ => ⟨u.slots, k b u q⟩
  free := fun b u q n _ => by rw [qs (Nat.ne_of_lt (Nat.lt_of_lt_of_le (Heap.lt_size q) hp))]; exact n
  there := fun b u q _ => ⟨u, k b u q⟩
  tups := fun b xs q => by rw [qs (qN q hn)]; exact q
  frzs := fun b u xs q => by rw [qs (qN q hn)]; exact q
  tbls := fun b ps q => ⟨#[], by rw [qs (qN q hn), q]; simp⟩
theorem Un.write (mu : Mut (H x)) (he : e = x \/ H e = some (.own x)) (k : ∀ b u, b ≠ e -> h.get? b = some u -> h'.get? b = some u) (heo : ∃ u, h'.get? e = some u) : Un fs ex H (upd H x o) h h' := by
  have hx : ∀ b, H b = none -> b ≠ x := fun b n z => by subst z; rw [n] at mu; exact mu
  have hb : ∀ b, H b = none -> b ≠ e := fun b n z => by
    subst z
    rcases he with r | r
    . exact hx b n r
    . rw [n] at r; cases r
  have hm : ∀ b u, H b = some u -> ¬ Mut (some u) -> b ≠ x := fun b u q nm z => by subst z; rw [q] at mu; exact nm mu
  refine ⟨fun b u q n _ _ => k b u (hb b n) q, fun b u q n _ _ => ⟨u.slots, k b u (hb b n) q⟩, fun b u q n _ => by rw [qs (hx b n)]; exact n, fun b u q _ => ?_,
    fun b xs q => by rw [qs (hm b _ q fun z => z)]; exact q, fun b u xs q => by rw [qs (hm b _ q fun z => z)]; exact q, fun b ps q => ⟨#[], by rw [qs (hm b _ q fun z => z), q]; simp⟩⟩
  by_cases hbe : b = e
  . subst hbe; exact heo
  . exact ⟨u, k b u hbe q⟩
end
def trk (h : Heap) (H : Hp) : List Addr := (List.range h.objs.size).filter fun a => (H a).isSome
def qfc (h : Heap) (H : Hp) : Heap := PySem.W.hideAll h (trk h H)
theorem qdB (h : Heap) (H : Hp) : (qfc h H).objs.size = h.objs.size := PySem.W.hideAll_size _ _
theorem qfd {h : Heap} {H : Hp} {b : Addr} {o : Obj} (e : h.get? b = some o) (n : H b = none) : (qfc h H).get? b = some o :=
  PySem.W.hideAll_get _ e fun hm => by
    have q : (H b).isSome = true := (List.mem_filter.mp hm).2
    rw [n] at q; simp at q
theorem qg8 {h : Heap} {H : Hp} {b : Addr} {o : Obj} (e : (qfc h H).get? b = some o) : h.get? b = some o /\ H b = none := by
  have e' : h.get? b = some o := PySem.W.of_hideAll (trk h H) e
  refine ⟨e', ?_⟩
  cases q : H b with
  | none => rfl
  | some x =>
    have hm : b ∈ trk h H := List.mem_filter.mpr ⟨List.mem_range.mpr (Heap.lt_size e'), by simp [q]⟩
    have z : (qfc h H).get? b = none := PySem.W.hideAll_none (trk h H) hm
    rw [z] at e; cases e
def qg9 (g h : Heap) (L : Addr) : List (Addr × Obj) := (List.range h.objs.size).filterMap fun a => if a = L \/ (g.get? a).isSome = true then none else (h.get? a).map fun o => (a, o)
def yv (g h : Heap) (L d : Addr) : List (Addr × Obj) := (qg9 g h L).filter fun p => decide (p.1 ≠ d)
end L2
namespace L2
open PySem PySem.Spec PyProof.Rows
structure Mod (K : PySem.W.Frag) (mg : Str -> Option Value) (base : Heap) : Prop where
  kin : K.In base
  glob : base.Ns mainGlobals mg
  blt : ∃ mb, base.Ns builtinsNs mb /\ ∀ x : Str, x ≠ "__name__" -> mb x = bootBuiltins x
  nolimit : base.NoLimit
/-- the context: a def's body (or a comprehension's block) running. base: fixed through the whole law; s₀, H₀: the entry; outer: the frames whose slots others may change (a def's callers); stack: all frames that run;
   ex: iterators that were made ahead of the entry and are walked here (a comprehension's); fn: the names whose cells were made at the entry (a def: all; a comprehension's block: its own); calm: not within an except suite; pn: pins that every state bears; xe: what is wanted of an exception that leaves the code -/
structure Cx where
  prog : Program
  w : World
  K : PySem.W.Frag
  mg : Str -> Option Value
  base : Heap
  A : Around
  N : List Str
  s₀ : Shared
  H₀ : Hp
  env : Env
  outer : List Env
  stack : List Env
  ex : List Addr
  fn : Str -> Bool
  calm : Bool
  pn : List (Addr × Obj)
  xe : Value -> Shared -> Prop
def frs (l : List Env) : List Addr := l.filterMap (·.frame)
abbrev Cx.fs (X : Cx) : List Addr := frs X.outer
def Vis (sc : Scope) (x : Str) : Prop := sc.names.lookup x = some .local \/ sc.names.lookup x = some .cell \/ sc.names.lookup x = some .free
def Loc (sc : Scope) (x : Str) : Prop := sc.names.lookup x = some .local \/ sc.names.lookup x = some .cell
def qlw (env : Env) (h : Heap) (m : Str -> Option Value) (x : Str) (u : Value) : Prop :=
  (env.kindOf x = some .local /\ m x = some u) \/ ((env.kindOf x = some .cell \/ env.kindOf x = some .free) /\ ∃ c, env.cells.lookup x = some c /\ h.IsCell c (some u))
structure Cx.Ok (X : Cx) : Prop where
  mod : Mod X.K X.mg X.base
  kind : X.env.scope.kind = .function
  glob : X.env.globals = mainGlobals
  blt : X.env.builtins = builtinsNs
  above : X.s₀.heap.objs.size <= X.env.locals
  inj : ∀ x y c, X.env.cells.lookup x = some c -> X.env.cells.lookup y = some c -> x = y
  has : ∀ x, (X.env.kindOf x = some .cell \/ X.env.kindOf x = some .free) -> ∃ c, X.env.cells.lookup x = some c
  cab : ∀ x c, X.fn x = true -> X.env.cells.lookup x = some c -> X.s₀.heap.objs.size <= c
  hd : X.calm = true -> X.A.handled = none
  frames : X.A.frames = some X.stack
  stk : X.stack = X.outer \/ (X.stack = X.env :: X.outer /\ X.env.frame = some X.env.locals)
  exf : ∀ b ∈ X.ex, b ≠ X.env.locals /\ ∀ x c, X.env.cells.lookup x = some c -> c ≠ b
  bs : ∀ b o, X.base.get? b = some o -> X.s₀.heap.get? b = some o /\ X.H₀ b = none
  bsz : X.base.objs.size <= X.s₀.heap.objs.size
  noex : ∀ b o, X.base.get? b = some o -> b ∉ X.ex
  exfs : ∀ b ∈ X.ex, b ∉ X.fs
  funs : X.s₀.heap.FunFrames X.base X.outer
  frf : ∀ b ∈ X.fs, X.H₀ b = none
structure Inv (X : Cx) (pins : List (Addr × Obj)) (σ : List (Option V)) (H : Hp) (s : Shared) : Prop where
  ok : X.Ok
  os : s.os = X.s₀.os
  bare : AllBare s.gens
  base : Un X.fs X.ex X.H₀ H X.s₀.heap s.heap
  loc : ∃ m, s.heap.Ns X.env.locals m /\ ∀ (i : Nat) (x : Str) (v : V), X.N[i]? = some x -> σ[i]? = some (some v) -> Vis X.env.scope x -> ∃ u, jv v u /\ qlw X.env s.heap m x u
  cell : ∀ x c, X.env.cells.lookup x = some c -> ∃ v, s.heap.IsCell c v
  free : H X.env.locals = none
  freeC : ∀ x c, X.env.cells.lookup x = some c -> H c = none
  pin : ∀ p ∈ X.pn ++ pins, s.heap.get? p.1 = some p.2 /\ H p.1 = none /\ p.1 ≠ X.env.locals /\ p.1 ∉ X.fs /\ ∀ v, p.2.data ≠ .cell v
  hok : HOk X.prog X.w H s.heap
  len : σ.length = X.N.length
section
variable {X : Cx} {pins : List (Addr × Obj)} {σ : List (Option V)} {H H' : Hp} {s : Shared} {h' : Heap}
theorem Cx.Ok.nofr (ok : X.Ok) {b : Addr} {o : Obj} (e : X.base.get? b = some o) : b ∉ X.fs := fun hb => by
  have := (ok.funs.mem hb).1
  rw [e] at this; cases this
theorem Inv.bs (I : Inv X pins σ H s) : ∀ b o, X.base.get? b = some o -> s.heap.get? b = some o /\ H b = none := fun b o e =>
  ⟨I.base.keep b o (I.ok.bs b o e).1 (I.ok.bs b o e).2 (I.ok.nofr e) (I.ok.noex b o e), I.base.free b o (I.ok.bs b o e).1 (I.ok.bs b o e).2 (I.ok.noex b o e)⟩
theorem Inv.bk (I : Inv X pins σ H s) : ∀ b o, X.base.get? b = some o -> s.heap.get? b = some o := fun b o e => (I.bs b o e).1
theorem Inv.mod (I : Inv X pins σ H s) : Mod X.K X.mg X.base := I.ok.mod
theorem Inv.kIn (I : Inv X pins σ H s) : X.K.In s.heap := I.ok.mod.kin.keeps I.bk
theorem Inv.lt (I : Inv X pins σ H s) : X.env.locals < s.heap.objs.size := let ⟨_, hn, _⟩ := I.loc; hn.lt
theorem Inv.sz (I : Inv X pins σ H s) : X.s₀.heap.objs.size <= s.heap.objs.size := Nat.le_trans I.ok.above (Nat.le_of_lt I.lt)
theorem Inv.nofs (I : Inv X pins σ H s) {a : Addr} (h : s.heap.objs.size <= a) : a ∉ X.fs := fun hb => by
  obtain ⟨_, o, ho, _⟩ := I.ok.funs.mem hb
  exact absurd (Nat.lt_of_lt_of_le (Heap.lt_size ho) (Nat.le_trans I.sz h)) (Nat.lt_irrefl _)
theorem Inv.cne (I : Inv X pins σ H s) : ∀ x c, X.env.cells.lookup x = some c -> c ≠ X.env.locals := fun x c e z => by
  obtain ⟨v, o, ho, hd⟩ := I.cell x c e
  obtain ⟨m, ⟨o', es, ep, ho', hd', _⟩, _⟩ := I.loc
  rw [z, ho'] at ho; cases ho; rw [hd'] at hd; cases hd
theorem Inv.funs (I : Inv X pins σ H s) : s.heap.FunFrames X.base X.outer := by
  have all : ∀ (l : List Env), (∀ b ∈ frs l, b ∈ X.fs) -> X.s₀.heap.FunFrames X.base l -> s.heap.FunFrames X.base l := by
    intro l
    induction l with
    | nil => intro _ _; trivial
    | cons env r ih =>
      intro hs hl
      obtain ⟨hk, ⟨L, o, hf, hn, ho, hd⟩, hr⟩ := hl
      have hL : L ∈ X.fs := hs L (by unfold frs; rw [List.filterMap_cons, hf]; exact List.mem_cons_self)
      obtain ⟨sl, e⟩ := I.base.slot L o ho (I.ok.frf L hL) hL fun z => I.ok.exfs L z hL
      exact ⟨hk, ⟨L, _, hf, hn, e, hd⟩, ih (fun b hb => hs b (by unfold frs; rw [List.filterMap_cons, hf]; exact List.mem_cons_of_mem _ hb)) hr⟩
  exact all X.outer (fun _ hb => hb) I.ok.funs
theorem Inv.stack (I : Inv X pins σ H s) : s.heap.FunFrames X.base X.stack := by
  rcases I.ok.stk with e | ⟨e, hf⟩
  . rw [e]; exact I.funs
  . rw [e]
    obtain ⟨m, hn, _⟩ := I.loc
    refine .cons (by rw [I.ok.kind]; decide) hf hn ?_ I.funs
    exact Heap.get?_none_of_le (Nat.le_trans I.ok.bsz I.ok.above)
theorem Inv.stkSub (I : Inv X pins σ H s) : ∀ b ∈ frs X.stack, b ∈ X.env.locals :: X.fs := fun b hb => by
  rcases I.ok.stk with e | ⟨e, hf⟩
  . rw [e] at hb; exact List.mem_cons_of_mem _ hb
  . rw [e] at hb
    unfold frs at hb
    rw [List.filterMap_cons, hf] at hb
    exact hb
theorem Inv.stkFree (I : Inv X pins σ H s) : ∀ b ∈ frs X.stack, H b = none := fun b hb => by
  rcases List.mem_cons.mp (I.stkSub b hb) with e | hb
  . rw [e]; exact I.free
  . obtain ⟨_, o, ho, _⟩ := I.ok.funs.mem hb
    exact I.base.free b o ho (I.ok.frf b hb) fun z => I.ok.exfs b z hb
theorem Inv.step {g' : Array GenState} {t' : Nat} {d' : Drawn} {ch : List Addr} (I : Inv X pins σ H s)
    (hch : ∀ b ∈ ch, (b ∈ X.ex \/ X.s₀.heap.objs.size <= b) /\ b ≠ X.env.locals /\ (∀ x c, X.env.cells.lookup x = some c -> c ≠ b) /\ ∀ p ∈ X.pn ++ pins, p.1 ≠ b)
    (keep : ∀ b o, b ≠ X.env.locals -> b ∉ X.fs -> b ∉ ch -> s.heap.get? b = some o -> H b = none -> h'.get? b = some o)
    (slot : ∀ b o, b ≠ X.env.locals -> b ∈ X.fs -> b ∉ ch -> s.heap.get? b = some o -> H b = none -> ∃ sl, h'.get? b = some { o with slots := sl }) (free : ∀ b o, b ∉ ch -> s.heap.get? b = some o -> H b = none -> H' b = none)
    (there : ∀ b o, b ∉ ch -> s.heap.get? b = some o -> ∃ o', h'.get? b = some o')
    (tups : ∀ b xs, H b = some (.tup xs) -> H' b = some (.tup xs)) (frzs : ∀ b o u, H b = some (.frz o u) -> H' b = some (.frz o u)) (tbls : ∀ b ps, H b = some (.tbl ps) -> ∃ more, H' b = some (.tbl (ps ++ more)))
    (ns : ∀ m, s.heap.Ns X.env.locals m -> h'.Ns X.env.locals m) (hok : HOk X.prog X.w H' h') (hg : AllBare g') :
    Inv X pins σ H' { s with heap := h', gens := g', drawn := d', toks := t' } := by
  have neL : ∀ b o, X.s₀.heap.get? b = some o -> b ≠ X.env.locals := fun b o e => Nat.ne_of_lt (Nat.lt_of_lt_of_le (Heap.lt_size e) I.ok.above)
  have neC : ∀ b o, X.s₀.heap.get? b = some o -> b ∉ X.ex -> b ∉ ch := fun b o e hx hb => by
    rcases (hch b hb).1 with z | z
    . exact hx z
    . exact absurd (Nat.lt_of_lt_of_le (Heap.lt_size e) z) (Nat.lt_irrefl _)
  have cellK : ∀ x c, X.env.cells.lookup x = some c -> ∀ v, s.heap.IsCell c v -> h'.IsCell c v := fun x c e v ⟨o, ho, hd⟩ => by
    have nch : c ∉ ch := fun z => (hch c z).2.2.1 x c e rfl
    by_cases hc : c ∈ X.fs
    . obtain ⟨sl, q⟩ := slot c o (I.cne x c e) hc nch ho (I.freeC x c e)
      exact ⟨_, q, hd⟩
    . exact ⟨o, keep c o (I.cne x c e) hc nch ho (I.freeC x c e), hd⟩
  refine ⟨I.ok, I.os, hg, ⟨fun b o e n hb hx => ?_, fun b o e n hb hx => ?_, fun b o e n hx => ?_, fun b o e hx => ?_, fun b xs e => tups b xs (I.base.tups b xs e), fun b o xs e => frzs b o xs (I.base.frzs b o xs e), fun b ps e => ?_⟩, ?_, fun x c e => ?_, ?_, fun x c e => ?_, fun p hp => ?_, hok, I.len⟩
  . exact keep b o (neL b o e) hb (neC b o e hx) (I.base.keep b o e n hb hx) (I.base.free b o e n hx)
  . obtain ⟨sl, e1⟩ := I.base.slot b o e n hb hx
    obtain ⟨sl', e2⟩ := slot b _ (neL b o e) hb (neC b o e hx) e1 (I.base.free b o e n hx)
    exact ⟨sl', e2⟩
  . obtain ⟨o', e1⟩ := I.base.there b o e hx
    exact free b o' (neC b o e hx) e1 (I.base.free b o e n hx)
  . obtain ⟨o', e1⟩ := I.base.there b o e hx
    exact there b o' (neC b o e hx) e1
  . obtain ⟨m1, e1⟩ := I.base.tbls b ps e
    obtain ⟨m2, e2⟩ := tbls b _ e1
    exact ⟨m1 ++ m2, by rw [e2, Array.append_assoc]⟩
  . obtain ⟨m, hn, hl⟩ := I.loc
    refine ⟨m, ns m hn, fun i x v e1 e2 e3 => ?_⟩
    obtain ⟨u, r, l⟩ := hl i x v e1 e2 e3
    refine ⟨u, r, ?_⟩
    rcases l with l | ⟨k, c, e, z⟩
    . exact .inl l
    . exact .inr ⟨k, c, e, cellK x c e _ z⟩
  . obtain ⟨v, z⟩ := I.cell x c e
    exact ⟨v, cellK x c e v z⟩
  . obtain ⟨m, ⟨o, _, _, ho, _⟩, _⟩ := I.loc
    exact free _ o (fun z => (hch _ z).2.1 rfl) ho I.free
  . obtain ⟨v, o, ho, hd⟩ := I.cell x c e
    exact free c o (fun z => (hch c z).2.2.1 x c e rfl) ho (I.freeC x c e)
  . obtain ⟨e, n, ne, nf, d⟩ := I.pin p hp
    have nch : p.1 ∉ ch := fun z => (hch p.1 z).2.2.2 p hp rfl
    exact ⟨keep p.1 p.2 ne nf nch e n, free p.1 p.2 nch e n, ne, nf, d⟩
theorem Inv.un {t' : Nat} (I : Inv X pins σ H s) (u : Un X.fs [] H H' s.heap h') (hok : HOk X.prog X.w H' h') : Inv X pins σ H' { s with heap := h', toks := t' } := by
  obtain ⟨m, ⟨o, es, ep, ho, r⟩, _⟩ := id I.loc
  obtain ⟨sl, hL⟩ := u.any ho I.free (by simp)
  exact I.step (g' := s.gens) (d' := s.drawn) (ch := []) (fun _ z => nomatch z) (fun b o _ hb _ e n => u.keep b o e n hb (by simp)) (fun b o _ hb _ e n => u.slot b o e n hb (by simp)) (fun b o _ e n => u.free b o e n (by simp)) (fun b o _ e => u.there b o e (by simp)) u.tups u.frzs u.tbls (fun m' hm => by
    obtain ⟨o', es', ep', ho', r'⟩ := hm
    rw [ho] at ho'; cases ho'
    exact ⟨_, es', ep', hL, r'⟩) hok I.bare
theorem Inv.call {g' : Array GenState} {t' : Nat} {d' : Drawn} {ch : List Addr} (I : Inv X pins σ H s) (u : Un (frs X.stack) ch H H' s.heap h') (hok : HOk X.prog X.w H' h') (hg : AllBare g')
    (hch : ∀ b ∈ ch, (b ∈ X.ex \/ X.s₀.heap.objs.size <= b) /\ b ≠ X.env.locals /\ (∀ x c, X.env.cells.lookup x = some c -> c ≠ b) /\ ∀ p ∈ X.pn ++ pins, p.1 ≠ b) :
    Inv X pins σ H' { s with heap := h', gens := g', drawn := d', toks := t' } := by
  obtain ⟨m, ⟨o, es, ep, ho, r⟩, _⟩ := id I.loc
  obtain ⟨sl, hL⟩ := u.any ho I.free fun z => (hch _ z).2.1 rfl
  exact I.step (ch := ch) hch (fun b o hL hb hc e n => u.keep b o e n (fun z => (List.mem_cons.mp (I.stkSub b z)).elim hL hb) hc) (fun b o _ _ hc e n => u.any e n hc) (fun b o hc e n => u.free b o e n hc) (fun b o hc e => u.there b o e hc) u.tups u.frzs u.tbls (fun m' hm => by
    obtain ⟨o', es', ep', ho', r'⟩ := hm
    rw [ho] at ho'; cases ho'
    exact ⟨_, es', ep', hL, r'⟩) hok hg
theorem Inv.turned {t' : Nat} {it : Addr} (I : Inv X pins σ H s) (k : ∀ b o, b ≠ it -> s.heap.get? b = some o -> h'.get? b = some o) (hn : H it = none) (hL : it ≠ X.env.locals)
    (h1 : it ∈ X.ex \/ X.s₀.heap.objs.size <= it) (h2 : ∀ x c, X.env.cells.lookup x = some c -> c ≠ it) (h3 : ∀ p ∈ X.pn ++ pins, p.1 ≠ it) : Inv X pins σ H { s with heap := h', toks := t' } := by
  have nit : ∀ b u, H b = some u -> b ≠ it := fun b u e z => by rw [z, hn] at e; cases e
  refine I.step (g' := s.gens) (d' := s.drawn) (ch := [it]) (fun b hb => ?_) (fun b o _ _ hc e _ => k b o (fun z => hc (by simp [z])) e) (fun b o _ _ hc e _ => ⟨o.slots, k b o (fun z => hc (by simp [z])) e⟩) (fun _ _ _ _ n => n)
    (fun b o hc e => ⟨o, k b o (fun z => hc (by simp [z])) e⟩) (fun _ _ e => e) (fun _ _ _ e => e) (fun b ps e => ⟨#[], by rw [e]; simp⟩) (fun m hm => ?_) (fun b u e => ?_) I.bare
  . have e : b = it := by simpa using hb
    subst e
    exact ⟨h1, hL, h2, h3⟩
  . obtain ⟨o, es, ep, ho, r⟩ := hm
    exact ⟨o, es, ep, k _ o (Ne.symm hL) ho, r⟩
  . refine (I.hok b u e).stay (fun c v hc q => k c v ?_ q) (fun _ q => q) fun _ _ q => q
    rcases hc with z | z
    . rw [z]; exact nit b u e
    . exact nit c _ z
theorem Inv.tok (I : Inv X pins σ H s) (t : Nat) : Inv X pins σ H { s with toks := t } := I.un (h' := s.heap) (t' := t) Un.refl I.hok
theorem Inv.kept {t' : Nat} (I : Inv X pins σ H s) (k : ∀ b u, s.heap.get? b = some u -> h'.get? b = some u) : Inv X pins σ H { s with heap := h', toks := t' } := I.un (Un.kept k) (I.hok.kept k)
theorem Inv.laid {a : Addr} {o : HO} {t' : Nat} (I : Inv X pins σ H s) (k : ∀ b u, s.heap.get? b = some u -> h'.get? b = some u) (hp : s.heap.objs.size <= a) (new : yf X.prog X.w (upd H a o) h' a o) :
    Inv X pins σ (upd H a o) { s with heap := h', toks := t' } := I.un (Un.laid k hp (I.hok.fresh hp)) (I.hok.laid k hp new)
theorem Inv.write {x e : Addr} {o : HO} {t' : Nat} (I : Inv X pins σ H s) (mu : Mut (H x)) (he : e = x \/ H e = some (.own x)) (k : ∀ b u, b ≠ e -> s.heap.get? b = some u -> h'.get? b = some u) (heo : ∃ u, h'.get? e = some u)
    (new : yf X.prog X.w (upd H x o) h' x o) : Inv X pins σ (upd H x o) { s with heap := h', toks := t' } := I.un (Un.write mu he k heo) (I.hok.write mu he k heo new)
theorem Inv.pins_of {pins' : List (Addr × Obj)} (I : Inv X pins σ H s) (h : ∀ p ∈ pins', s.heap.get? p.1 = some p.2 /\ H p.1 = none /\ p.1 ≠ X.env.locals /\ p.1 ∉ X.fs /\ ∀ v, p.2.data ≠ .cell v) : Inv X pins' σ H s :=
  ⟨I.ok, I.os, I.bare, I.base, I.loc, I.cell, I.free, I.freeC, fun p hp => (List.mem_append.mp hp).elim (fun z => I.pin p (List.mem_append_left _ z)) (h p), I.hok, I.len⟩
theorem qcp {N : List Str} (hN : N.Nodup) {i j : Nat} {x : Str} (a : N[i]? = some x) (b : N[j]? = some x) : i = j := by
  obtain ⟨h1, e1⟩ := List.getElem?_eq_some_iff.mp a
  obtain ⟨h2, e2⟩ := List.getElem?_eq_some_iff.mp b
  exact (List.getElem_inj hN).mp (e1.trans e2.symm)
theorem qbe {M : Model} {A : Around} {E : Value -> Shared -> Prop} {i : Nat} {x : Str} {v : V} {u : Value} {Q : Unit -> Shared -> Prop} (I : Inv X pins σ H s) (hN : X.N.Nodup) (hi : X.N[i]? = some x) (hx : Loc X.env.scope x) (r : jv v u)
    (h : ∀ s', Inv X pins (σ.set i (some v)) H s' -> (∃ a, Heap.SameBut a s.heap s'.heap /\ (a = X.env.locals \/ X.env.cells.lookup x = some a)) -> Q () s') (hf : X.fn x = true \/ X.env.scope.names.lookup x = some .local := by first | exact .inl rfl | exact .inr rfl | assumption) : wpAny M A (storeName X.env x u) Q E s := by
  obtain ⟨m, hn, hl⟩ := id I.loc
  have hcls : (X.env.scope.kind == .class || (X.env.scope.kind == .module && X.env.locals != X.env.globals)) = false := by rw [I.ok.kind]; rfl
  have hiσ : i < σ.length := by rw [I.len]; exact (List.getElem?_eq_some_iff.mp hi).1
  have cne := I.cne
  have tracked : ∀ {a : Addr} {h' : Heap}, (∃ o, s.heap.get? a = some o /\ H a = none) -> Heap.SameBut a s.heap h' -> HOk X.prog X.w H h' := fun {a h'} ha hs b ob e => by
    obtain ⟨_, _, hfree⟩ := ha
    refine (I.hok b ob e).stay (fun c w' hc q => (hs.2 c ?_).trans q) (fun _ q => q) fun _ _ q => q
    rintro rfl
    rcases hc with rfl | hc
    . rw [hfree] at e; cases e
    . rw [hfree] at hc; cases hc
  rcases hx with hk | hk
  . refine wpAny_storeName_local hk hn (fun h' hn' hs => ?_) hcls
    obtain ⟨oL, _, _, hoL, _⟩ := id hn
    refine h _ ⟨I.ok, I.os, I.bare, ⟨fun b o e n hb hx => ?_, fun b o e n hb hx => ?_, I.base.free, fun b o e hx => ?_, I.base.tups, I.base.frzs, I.base.tbls⟩, ⟨_, hn', fun j y v' e1 e2 e3 => ?_⟩, fun y c e => ?_, I.free, I.freeC, fun p hp => ?_, tracked ⟨oL, hoL, I.free⟩ hs, by simpa using I.len⟩ ⟨_, hs, .inl rfl⟩
    . exact (hs.2 b (Nat.ne_of_lt (Nat.lt_of_lt_of_le (Heap.lt_size e) I.ok.above))).trans (I.base.keep b o e n hb hx)
    . obtain ⟨sl, e1⟩ := I.base.slot b o e n hb hx
      exact ⟨sl, (hs.2 b (Nat.ne_of_lt (Nat.lt_of_lt_of_le (Heap.lt_size e) I.ok.above))).trans e1⟩
    . obtain ⟨o', e1⟩ := I.base.there b o e hx
      exact ⟨o', (hs.2 b (Nat.ne_of_lt (Nat.lt_of_lt_of_le (Heap.lt_size e) I.ok.above))).trans e1⟩
    . by_cases hj : j = i
      . subst hj
        rw [hi] at e1; cases e1
        rw [List.getElem?_set_self hiσ] at e2
        cases e2
        exact ⟨u, r, .inl ⟨hk, by simp⟩⟩
      . rw [List.getElem?_set_ne (Ne.symm hj)] at e2
        obtain ⟨u', r', q⟩ := hl j y v' e1 e2 e3
        refine ⟨u', r', ?_⟩
        rcases q with ⟨k, e⟩ | ⟨k, c, e, z⟩
        . refine .inl ⟨k, ?_⟩
          have : y ≠ x := fun e => hj (qcp hN e1 (e ▸ hi))
          simp [this, e]
        . exact .inr ⟨k, c, e, z.sameBut hs (cne y c e)⟩
    . obtain ⟨w', z⟩ := I.cell y c e
      exact ⟨w', z.sameBut hs (cne y c e)⟩
    . obtain ⟨e, n, ne, nf, d⟩ := I.pin p hp
      exact ⟨(hs.2 p.1 ne).trans e, n, ne, nf, d⟩
  . have hfn : X.fn x = true := by
      rcases hf with z | z
      . exact z
      . rw [z] at hk; cases hk
    obtain ⟨c, hc⟩ := I.ok.has x (.inl hk)
    obtain ⟨w', z⟩ := I.cell x c hc
    refine wpAny_storeName_cell I.ok.kind hk hc z (fun h' hc' hs => ?_)
    obtain ⟨oc, hoc, hocd⟩ := id z
    refine h { s with heap := h' } ⟨I.ok, I.os, I.bare, ⟨fun b o e n hb hx => ?_, fun b o e n hb hx => ?_, I.base.free, fun b o e hx => ?_, I.base.tups, I.base.frzs, I.base.tbls⟩, ⟨m, hn.sameBut hs (Ne.symm (cne x c hc)), fun j y v' e1 e2 e3 => ?_⟩, fun y c' e => ?_, I.free, I.freeC, fun p hp => ?_, tracked ⟨oc, hoc, I.freeC x c hc⟩ hs, by simpa using I.len⟩ ⟨c, hs, .inr hc⟩
    . exact (hs.2 b (Nat.ne_of_lt (Nat.lt_of_lt_of_le (Heap.lt_size e) (I.ok.cab x c hfn hc)))).trans (I.base.keep b o e n hb hx)
    . obtain ⟨sl, e1⟩ := I.base.slot b o e n hb hx
      exact ⟨sl, (hs.2 b (Nat.ne_of_lt (Nat.lt_of_lt_of_le (Heap.lt_size e) (I.ok.cab x c hfn hc)))).trans e1⟩
    . obtain ⟨o', e1⟩ := I.base.there b o e hx
      exact ⟨o', (hs.2 b (Nat.ne_of_lt (Nat.lt_of_lt_of_le (Heap.lt_size e) (I.ok.cab x c hfn hc)))).trans e1⟩
    . by_cases hj : j = i
      . subst hj
        rw [hi] at e1; cases e1
        rw [List.getElem?_set_self hiσ] at e2
        cases e2
        exact ⟨u, r, .inr ⟨.inl hk, c, hc, hc'⟩⟩
      . rw [List.getElem?_set_ne (Ne.symm hj)] at e2
        obtain ⟨u', r', q⟩ := hl j y v' e1 e2 e3
        refine ⟨u', r', ?_⟩
        rcases q with q | ⟨k, c', e, z'⟩
        . exact .inl q
        . refine .inr ⟨k, c', e, z'.sameBut hs ?_⟩
          rintro rfl
          exact hj (qcp hN e1 (I.ok.inj _ _ _ e hc ▸ hi))
    . by_cases hcc : c' = c
      . subst hcc; exact ⟨_, hc'⟩
      . obtain ⟨w2, z2⟩ := I.cell y c' e
        exact ⟨w2, z2.sameBut hs hcc⟩
    . obtain ⟨e, n, ne, nf, d⟩ := I.pin p hp
      refine ⟨(hs.2 p.1 ?_).trans e, n, ne, nf, d⟩
      intro q
      rw [q, hoc] at e
      have q' : oc = p.2 := Option.some.inj e
      exact d w' (by rw [<- q']; exact hocd)
theorem uW {M : Model} {A : Around} {E : Value -> Shared -> Prop} {i : Nat} {x : Str} {v : V} {u : Value} {Q : Unit -> Shared -> Prop} (I : Inv X pins σ H s) (hN : X.N.Nodup) (hi : X.N[i]? = some x) (hx : Loc X.env.scope x) (r : jv v u)
    (h : ∀ s', Inv X pins (σ.set i (some v)) H s' -> Q () s') (hf : X.fn x = true \/ X.env.scope.names.lookup x = some .local := by first | exact .inl rfl | exact .inr rfl | assumption) : wpAny M A (storeName X.env x u) Q E s :=
  qbe I hN hi hx r (fun s' I' _ => h s' I') hf
theorem Inv.call' {s' : Shared} {ch : List Addr} (I : Inv X pins σ H s) (ho : s'.os = s.os) (u : Un (frs X.stack) ch H H' s.heap s'.heap) (hok : HOk X.prog X.w H' s'.heap) (hg : AllBare s'.gens)
    (hch : ∀ b ∈ ch, (b ∈ X.ex \/ X.s₀.heap.objs.size <= b) /\ b ≠ X.env.locals /\ (∀ x c, X.env.cells.lookup x = some c -> c ≠ b) /\ ∀ p ∈ X.pn ++ pins, p.1 ≠ b) : Inv X pins σ H' s' := by
  obtain ⟨h', g', d', t', o'⟩ := s'
  have e : o' = s.os := ho
  subst e
  exact I.call (g' := g') (t' := t') (d' := d') u hok hg hch
end
abbrev XK := Value -> Option Addr -> Hp -> Prop
abbrev St := List (Option V)
abbrev VK := V -> Hp -> Prop
abbrev TE := St -> Hp -> VK -> Prop
abbrev TT := St -> Hp -> (Bool -> Hp -> Prop) -> Prop
abbrev TA := St -> Hp -> (List V -> Hp -> Prop) -> Prop
structure qdC where
  nx : St -> Hp -> Prop
  rt : VK
  bk : St -> Hp -> Prop := fun _ _ => False
  ct : St -> Hp -> Prop := fun _ _ => False
abbrev TS := qdC -> St -> Hp -> Prop
def EP (X : Cx) (pins : List (Addr × Obj)) (σ : St) (Q : VK) (u : Value) (s' : Shared) : Prop := ∃ v H', Inv X pins σ H' s' /\ jv v u /\ Q v H'
def TP (X : Cx) (pins : List (Addr × Obj)) (σ : St) (Q : Bool -> Hp -> Prop) (b : Bool) (s' : Shared) : Prop := ∃ H', Inv X pins σ H' s' /\ Q b H'
def AP (X : Cx) (pins : List (Addr × Obj)) (σ : St) (Q : List V -> Hp -> Prop) (us : List Value) (s' : Shared) : Prop := ∃ vs H', Inv X pins σ H' s' /\ qY vs us /\ Q vs H'
def SP (X : Cx) (pins : List (Addr × Obj)) (D : qdC) (f : Flow) (s' : Shared) : Prop :=
  match f with
  | .next => ∃ σ' H', Inv X pins σ' H' s' /\ D.nx σ' H'
  | .brk => ∃ σ' H', Inv X pins σ' H' s' /\ D.bk σ' H'
  | .cont => ∃ σ' H', Inv X pins σ' H' s' /\ D.ct σ' H'
  | .ret u => ∃ v σ' H', Inv X pins σ' H' s' /\ jv v u /\ D.rt v H'
def PE (X : Cx) (e : Expr) (t : TE) : Prop :=
  ∀ (pins : List (Addr × Obj)) (s : Shared) (σ : St) (H : Hp) (Q : VK), Inv X pins σ H s -> t σ H Q -> wpAny (model X.prog X.w) X.A (eval e X.env) (EP X pins σ Q) X.xe s
def PT (X : Cx) (e : Expr) (t : TT) : Prop :=
  ∀ (pins : List (Addr × Obj)) (s : Shared) (σ : St) (H : Hp) (Q : Bool -> Hp -> Prop), Inv X pins σ H s -> t σ H Q -> wpAny (model X.prog X.w) X.A (isTrue e X.env (eval e X.env)) (TP X pins σ Q) X.xe s
def PW (X : Cx) (e : Expr) (t : TT) : Prop :=
  ∀ (whole : Sem Value) (pins : List (Addr × Obj)) (s : Shared) (σ : St) (H : Hp) (Q : Bool -> Hp -> Prop), Inv X pins σ H s -> t σ H Q -> wpAny (model X.prog X.w) X.A (isTrue e X.env whole) (TP X pins σ Q) X.xe s
theorem PW.pt {X : Cx} {e : Expr} {t : TT} (h : PW X e t) : PT X e t := h _
def PA (X : Cx) (es : List Expr) (t : TA) : Prop :=
  ∀ (pos : Pos) (pins : List (Addr × Obj)) (s : Shared) (σ : St) (H : Hp) (Q : List V -> Hp -> Prop), Inv X pins σ H s -> t σ H Q -> wpAny (model X.prog X.w) X.A (spliced (backTo pos (starEach es X.env))) (AP X pins σ Q) X.xe s
def PS (X : Cx) (st : Stmt) (t : TS) : Prop :=
  ∀ (pins : List (Addr × Obj)) (s : Shared) (σ : St) (H : Hp) (D : qdC), Inv X pins σ H s -> t D σ H -> wpAny (model X.prog X.w) X.A (exec st X.env) (SP X pins D) X.xe s
def PSs (X : Cx) (st : List Stmt) (t : TS) : Prop :=
  ∀ (pins : List (Addr × Obj)) (s : Shared) (σ : St) (H : Hp) (D : qdC), Inv X pins σ H s -> t D σ H -> wpAny (model X.prog X.w) X.A (execs st X.env) (SP X pins D) X.xe s
theorem thn {α : Type} {t : Sem α} {Q Q' : α -> Shared -> Prop} {M : Model} {A : Around} {E : Value -> Shared -> Prop} {s : Shared} (h : wpAny M A t Q E s) (hQ : ∀ a s, Q a s -> Q' a s) : wpAny M A t Q' E s := wpAny_mono h hQ fun _ _ x => x
end L2
namespace L2
open PySem PySem.Spec PyProof.Rows
section
variable {X : Cx}
theorem bin {a b : Expr} {ta tb : TE} (ha : PE X a ta) (hb : PE X b tb) {pins : List (Addr × Obj)} {s : Shared} {σ : St} {H : Hp} {R : V -> V -> Hp -> Prop} (I : Inv X pins σ H s) (h : ta σ H fun x H1 => tb σ H1 fun y H2 => R x y H2)
    {α : Type} {Q : α -> Shared -> Prop} {f : Value -> Value -> Sem α}
    (hf : ∀ v u s2 x y H2, Inv X pins σ H2 s2 -> jv x v -> jv y u -> R x y H2 -> wpAny (model X.prog X.w) X.A (f v u) Q X.xe s2) :
    wpAny (model X.prog X.w) X.A (eval a X.env) (fun v s₁ => wpAny (model X.prog X.w) X.A (eval b X.env) (fun u s₂ => wpAny (model X.prog X.w) X.A (f v u) Q X.xe s₂) X.xe s₁) X.xe s := by
  refine thn (ha pins s σ H _ I h) fun v s1 ⟨x, H1, I1, r1, q1⟩ => ?_
  refine thn (hb pins s1 σ H1 _ I1 q1) fun u s2 ⟨y, H2, I2, r2, q2⟩ => ?_
  exact hf v u s2 x y H2 I2 r1 r2 q2
def qlx (i : Nat) : TE := fun σ H Q => ∃ v, σ[i]? = some (some v) /\ Q v H
def tC (v : V) : TE := fun _ H Q => Q v H
theorem uf {i : Nat} {x : Str} {pos : Pos} (hN : X.N[i]? = some x) (hv : Vis X.env.scope x) (hd : (x == ("__debug__" : Str)) = false := by decide) (hcd : (x == ("__classdict__" : Str)) = false := by decide) : PE X (.Name x pos) (qlx i) := by
  intro pins s σ H Q I h
  obtain ⟨v, e, h⟩ := h
  obtain ⟨m, hn, hl⟩ := I.loc
  obtain ⟨u, r, l⟩ := hl i x v hN e hv
  have fin : EP X pins σ Q u s := ⟨v, H, I, r, h⟩
  rcases l with ⟨hk, hm⟩ | ⟨hk, c, hc, hcell⟩
  . exact wpAny_Name (wpAny_loadName_local I.ok.kind hk hn hm fin) hd
  . rcases hk with hk | hk
    . exact wpAny_Name (wpAny_loadName_cell I.ok.kind hk hc hcell fin) hd
    . exact wpAny_Name (wpAny_loadName_free I.ok.kind hk hc hcell fin hcd) hd
theorem qgg {i j pos} : PE X (.Constant (.int i) j pos) (tC (.int i)) := fun _ _ _ H _ I h => wpAny_Constant_int ⟨.int i, H, I.tok _, ⟨_, rfl⟩, h⟩
theorem qki {b j pos} : PE X (.Constant (.bool b) j pos) (tC (.bl b)) := fun _ _ _ H _ I h => Constant_bool ⟨.bl b, H, I, rfl, h⟩
theorem qiJ {j pos} : PE X (.Constant .none j pos) (tC .non) := fun _ _ _ H _ I h => Constant_none ⟨.non, H, I, rfl, h⟩
theorem qiK {x j pos} : PE X (.Constant (.str x) j pos) (tC (.str x)) := fun _ _ _ H _ I h => Calls.Constant_str ⟨.str x, H, I.tok _, ⟨_, rfl⟩, h⟩
def Gl (X : Cx) (x : Str) : Prop := X.env.kindOf x = some .globalImplicit
theorem qaz {E : Value -> Shared -> Prop} {pins : List (Addr × Obj)} {s : Shared} {σ : St} {H : Hp} {x : Str} {u : Value} {pos : Pos} {Q : Value -> Shared -> Prop} (I : Inv X pins σ H s) (hg : Gl X x) (hm : X.mg x = some u) (h : Q u s)
    (hd : (x == ("__debug__" : Str)) = false := by decide) : wpAny (model X.prog X.w) X.A (eval (.Name x pos) X.env) Q E s :=
  Calls.Name_function_global I.ok.kind hg (Calls.loadGlobal_global (by rw [I.ok.glob]; exact I.mod.glob.keeps I.bk) hm h) hd
theorem qad {E : Value -> Shared -> Prop} {pins : List (Addr × Obj)} {s : Shared} {σ : St} {H : Hp} {x : Str} {u : Value} {pos : Pos} {Q : Value -> Shared -> Prop} (I : Inv X pins σ H s) (hg : Gl X x) (hm : X.mg x = none) (hv : bootBuiltins x = some u) (h : Q u s)
    (hn : x ≠ "__name__" := by decide) (hd : (x == ("__debug__" : Str)) = false := by decide) : wpAny (model X.prog X.w) X.A (eval (.Name x pos) X.env) Q E s := by
  obtain ⟨mb, h1, h2⟩ := I.mod.blt
  exact Calls.Name_function_global I.ok.kind hg (Calls.loadGlobal_builtin (by rw [I.ok.glob]; exact I.mod.glob.keeps I.bk) hm (by rw [I.ok.blt]; exact h1.keeps I.bk) ((h2 x hn).trans hv) h) hd
theorem qbW {x : Str} {v : V} {u : Value} {pos : Pos} (hg : Gl X x) (hm : X.mg x = some u) (r : jv v u) (hd : (x == ("__debug__" : Str)) = false := by decide) : PE X (.Name x pos) (tC v) :=
  fun _ _ _ H _ I h => qaz I hg hm ⟨v, H, I, r, h⟩ hd
theorem qdD {x : Str} {v : V} {u : Value} {pos : Pos} (hg : Gl X x) (hm : X.mg x = none) (hv : bootBuiltins x = some u) (r : jv v u) (hn : x ≠ "__name__" := by decide) (hd : (x == ("__debug__" : Str)) = false := by decide) : PE X (.Name x pos) (tC v) :=
  fun _ _ _ H _ I h => qad I hg hm hv ⟨v, H, I, r, h⟩ hn hd
variable {a b : Expr} {ta tb : TE} {pos : Pos}
def PC (X : Cx) (op : CmpOp) (a b : Expr) (t : TE) : Prop :=
  ∀ (pins : List (Addr × Obj)) (s : Shared) (σ : St) (H : Hp) (Q : VK), Inv X pins σ H s -> t σ H Q ->
    wpAny (model X.prog X.w) X.A (eval a X.env) (fun v s₁ => wpAny (model X.prog X.w) X.A (eval b X.env) (fun u s₂ => wpAny (model X.prog X.w) X.A (compareOp op v u) (EP X pins σ Q) X.xe s₂) X.xe s₁) X.xe s
theorem qfe (b : Expr) {op : CmpOp} (h : op ≠ .In) (h2 : op ≠ .NotIn) : behindInMarks op b = false := by
  have e1 : (op == CmpOp.In) = false := by cases op <;> first | rfl | exact absurd rfl h
  have e2 : (op == CmpOp.NotIn) = false := by cases op <;> first | rfl | exact absurd rfl h2
  cases b <;> simp [behindInMarks, e1, e2]
def tB (t : TE) : TT := fun σ H Q => t σ H fun x H1 => ∃ c, x = .bl c /\ Q c H1
theorem qk4 {op : CmpOp} {t : TE} (h : PC X op a b t) (h1 : behindInMarks op b = false := by first | exact qfe _ (by decide) (by decide) | rfl) : PT X (.Compare a [op] [b] pos) (tB t) := by
  intro pins s σ H Q I hw
  refine wpAny_isTrue_Compare1 (thn (h pins s σ H _ I hw) fun v s1 h1 => thn h1 fun u s2 h2 => thn h2 fun c s3 ⟨x, H1, I1, r1, q1⟩ => ?_) h1
  obtain ⟨d, rfl, q⟩ := q1
  cases r1
  exact wpAny_truthy_bool ⟨H1, I1, q⟩
theorem qiL {e : Expr} {t : TE} (h : PE X e t) (he : ∀ whole, isTrue e X.env whole = (do let v <- whole; standAt e.pos; holding [v] (truthy v)) := by intro _; rfl) : PT X e (tB t) := by
  intro pins s σ H Q I hw
  refine isTrue_plain (thn (h pins s σ H _ I hw) fun v s1 ⟨x, H1, I1, r1, q1⟩ => ?_) (he _)
  obtain ⟨d, rfl, q⟩ := q1
  cases r1
  exact wpAny_truthy_bool ⟨H1, I1, q⟩
variable {tA tB' : TT} {yv : List Expr}
def qly (t u : TT) : TT := fun σ H Q => t σ H fun c H1 => if c = true then u σ H1 Q else Q false H1
def tOr (t u : TT) : TT := fun σ H Q => t σ H fun c H1 => if c = true then Q true H1 else u σ H1 Q
def qlz (t : TT) : TT := fun σ H Q => t σ H fun c H1 => Q (!c) H1
theorem qha (ha : PT X a tA) : PW X (.BoolOp .And [a] pos) tA := by
  intro wh pins s σ H Q I h
  refine isTrue_and (thn (ha pins s σ H Q I h) fun c s1 e => ?_)
  cases c with
  | true => exact isTrue_and_nil e
  | false => exact e
theorem qiM (ha : PT X a tA) : PW X (.BoolOp .Or [a] pos) tA := by
  intro wh pins s σ H Q I h
  refine isTrue_or (thn (ha pins s σ H Q I h) fun c s1 e => ?_)
  cases c with
  | false => exact isTrue_or_nil e
  | true => exact e
theorem qiN (ha : PT X a tA) (hb : PW X (.BoolOp .And (b :: yv) pos) tB') : PW X (.BoolOp .And (a :: b :: yv) pos) (qly tA tB') := by
  intro wh pins s σ H Q I h
  refine isTrue_and (thn (ha pins s σ H _ I h) fun c s1 ⟨H1, I1, q1⟩ => ?_)
  cases c with
  | true => exact hb wh pins s1 σ H1 Q I1 q1
  | false => exact ⟨H1, I1, q1⟩
theorem qkj (ha : PT X a tA) (hb : PW X (.BoolOp .Or (b :: yv) pos) tB') : PW X (.BoolOp .Or (a :: b :: yv) pos) (tOr tA tB') := by
  intro wh pins s σ H Q I h
  refine isTrue_or (thn (ha pins s σ H _ I h) fun c s1 ⟨H1, I1, q1⟩ => ?_)
  cases c with
  | true => exact ⟨H1, I1, q1⟩
  | false => exact hb wh pins s1 σ H1 Q I1 q1
theorem qiO (ha : PT X a tA) : PT X (.UnaryOp .Not a pos) (qlz tA) := by
  intro pins s σ H Q I h
  exact isTrue_not (ha pins s σ H (fun c H1 => Q (!c) H1) I h)
def qkk (ta tb : TE) : TE := fun σ H Q => ta σ H fun x H1 => ∃ c, x = .bl c /\ if c = true then tb σ H1 Q else Q (.bl false) H1
def qlA (ta tb : TE) : TE := fun σ H Q => ta σ H fun x H1 => ∃ c, x = .bl c /\ if c = true then Q (.bl true) H1 else tb σ H1 Q
def qkl (ta : TE) : TE := fun σ H Q => ta σ H fun x H1 => ∃ c, x = .bl c /\ Q (.bl (!c)) H1
theorem qiP {op} {t : TE} (h : PE X a t) : PE X (.BoolOp op [a] pos) t := fun pins s σ H Q I hw => BoolOp_one (h pins s σ H Q I hw)
theorem qiQ (ha : PE X a ta) (hb : PE X (.BoolOp .And (b :: yv) pos) tb) : PE X (.BoolOp .And (a :: b :: yv) pos) (qkk ta tb) := by
  intro pins s σ H Q I h
  refine BoolOp_and (thn (ha pins s σ H _ I h) fun v s1 ⟨x, H1, I1, r1, q1⟩ => ?_)
  obtain ⟨c, rfl, q1⟩ := q1
  cases r1
  refine wpAny_truthy_bool ?_
  cases c with
  | true => exact hb pins s1 σ H1 Q I1 q1
  | false => exact ⟨.bl false, H1, I1, rfl, q1⟩
theorem qkm (ha : PE X a ta) (hb : PE X (.BoolOp .Or (b :: yv) pos) tb) : PE X (.BoolOp .Or (a :: b :: yv) pos) (qlA ta tb) := by
  intro pins s σ H Q I h
  refine BoolOp_or (thn (ha pins s σ H _ I h) fun v s1 ⟨x, H1, I1, r1, q1⟩ => ?_)
  obtain ⟨c, rfl, q1⟩ := q1
  cases r1
  refine wpAny_truthy_bool ?_
  cases c with
  | false => exact hb pins s1 σ H1 Q I1 q1
  | true => exact ⟨.bl true, H1, I1, rfl, q1⟩
theorem qiR (ha : PE X a ta) : PE X (.UnaryOp .Not a pos) (qkl ta) := by
  intro pins s σ H Q I h
  refine UnaryOp_ (thn (ha pins s σ H _ I h) fun v s1 ⟨x, H1, I1, r1, q1⟩ => ?_)
  obtain ⟨c, rfl, q1⟩ := q1
  cases r1
  exact not_of (wpAny_truthy_bool ⟨.bl (!c), H1, I1, rfl, q1⟩)
def tIf (t : TT) (ta tb : TE) : TE := fun σ H Q => t σ H fun c H1 => if c = true then ta σ H1 Q else tb σ H1 Q
theorem qff {c : Expr} (hc : PT X c tA) (ha : PE X a ta) (hb : PE X b tb) : PE X (.IfExp c a b pos) (tIf tA ta tb) := by
  intro pins s σ H Q I h
  refine wpAny_IfExp (thn (hc pins s σ H _ I h) fun d s1 ⟨H1, I1, q1⟩ => ?_)
  cases d with
  | true => exact ha pins s1 σ H1 Q I1 q1
  | false => exact hb pins s1 σ H1 Q I1 q1
end
end L2
namespace L2
open PySem PySem.Spec PyProof.Rows
def SqL (K : PySem.W.Frag) (H : Hp) (a : Addr) (xs : List V) : Prop :=
  Rd H a (.lst xs) \/
    ∃ (o : Obj) (its : Array Value) (n : Nat), K.lookup a = some o /\ o.cls = .type "list" /\ o.dict = none /\ o.data = .seq its n /\ its.size <= sizeLine /\ qY xs its.toList
def SqT (K : PySem.W.Frag) (H : Hp) (a : Addr) (xs : List V) : Prop :=
  Rd H a (.tup xs) \/
    ∃ (o : Obj) (its : Array Value) (n : Nat), K.lookup a = some o /\ o.cls = .type "tuple" /\ o.data = .seq its n /\ its.size <= sizeLine /\ qY xs its.toList
def qlB : Value -> Option V
  | .none => some .non
  | .bool b => some (.bl b)
  | .int i _ => some (.int i)
  | .str x _ => some (.str x)
  | .bytes b _ => some (.byt b)
  | .float b _ => some (.flt b)
  | .ref a => some (.ref a)
  | .type n => some (.ty n)
  | _ => none
theorem jv.abs {x : V} {u : Value} (r : jv x u) : qlB u = some x := by
  cases x with
  | non => cases r; rfl
  | bl _ => cases r; rfl
  | int _ => obtain ⟨t, rfl⟩ := r; rfl
  | str _ => obtain ⟨t, rfl⟩ := r; rfl
  | byt _ => obtain ⟨t, rfl⟩ := r; rfl
  | flt _ => obtain ⟨t, rfl⟩ := r; rfl
  | ref _ => cases r; rfl
  | ty _ => cases r; rfl
theorem jv.inj {x y : V} {u : Value} (r : jv x u) (q : jv y u) : x = y := Option.some.inj (r.abs.symm.trans q.abs)
theorem qY.inj : ∀ {xs ys : List V} {us : List Value}, qY xs us -> qY ys us -> xs = ys
  | _, _, _, .nil, .nil => rfl
  | _, _, _, .cons r t, .cons r' t' => by rw [r.inj r', qY.inj t t']
section
variable {X : Cx} {pins : List (Addr × Obj)} {σ : St} {H : Hp} {s : Shared} {a : Addr} {xs ys : List V}
theorem SqL.of {K : PySem.W.Frag} (h : H a = some (.lst xs)) : SqL K H a xs := .inl (.inl h)
theorem Inv.list (I : Inv X pins σ H s) (h : SqL X.K H a xs) : ∃ its : List Value, qY xs its /\ PlainL s.heap a its.toArray /\ xs.length <= sizeLine := by
  rcases h with h | ⟨o, its, n, hk, hc, hd, hs, hz, r⟩
  . obtain ⟨z, its, n, r, e⟩ := h.ok I.hok
    exact ⟨its, r, ⟨_, n, e, rfl, rfl, rfl⟩, z⟩
  . refine ⟨its.toList, r, ⟨o, n, I.kIn a o hk, hc, hd, by simpa using hs⟩, ?_⟩
    have e := r.length
    simp only [Array.length_toList] at e
    omega
theorem Inv.tuple (I : Inv X pins σ H s) (h : SqT X.K H a xs) : ∃ its : List Value, qY xs its /\ IsTup s.heap a its.toArray /\ xs.length <= sizeLine := by
  rcases h with h | ⟨o, its, n, hk, hc, hs, hz, r⟩
  . obtain ⟨z, its, r, p⟩ := h.ok I.hok
    exact ⟨its, r, p, z⟩
  . refine ⟨its.toList, r, ⟨o, I.kIn a o hk, hc, n, by simpa using hs⟩, ?_⟩
    have e := r.length
    simp only [Array.length_toList] at e
    omega
theorem Inv.list_inj (I : Inv X pins σ H s) (h : SqL X.K H a xs) (h' : SqL X.K H a ys) : xs = ys := by
  obtain ⟨its, r, ⟨o, n, e, _, _, d⟩, _⟩ := I.list h
  obtain ⟨its', r', ⟨o', n', e', _, _, d'⟩, _⟩ := I.list h'
  rw [e] at e'; cases e'
  rw [d] at d'
  injection d' with d1 _
  have : its = its' := by simpa using congrArg Array.toList d1
  subst this
  exact r.inj r'
theorem Inv.tuple_inj (I : Inv X pins σ H s) (h : SqT X.K H a xs) (h' : SqT X.K H a ys) : xs = ys := by
  obtain ⟨its, r, ⟨o, e, _, n, d⟩, _⟩ := I.tuple h
  obtain ⟨its', r', ⟨o', e', _, n', d'⟩, _⟩ := I.tuple h'
  rw [e] at e'; cases e'
  rw [d] at d'
  injection d' with d1 _
  have : its = its' := by simpa using congrArg Array.toList d1
  subst this
  exact r.inj r'
end
abbrev Cx.wish (X : Cx) (E : Value -> Shared -> Prop) : Cx := { X with xe := E }
abbrev Cx.nox (X : Cx) : Cx := X.wish fun _ _ => False
theorem Cx.Ok.wish {X : Cx} (ok : X.Ok) (E : Value -> Shared -> Prop) : (X.wish E).Ok :=
  ⟨ok.mod, ok.kind, ok.glob, ok.blt, ok.above, ok.inj, ok.has, ok.cab, ok.hd, ok.frames, ok.stk, ok.exf, ok.bs, ok.bsz, ok.noex, ok.exfs, ok.funs, ok.frf⟩
theorem Cx.Ok.unwish {X : Cx} {E : Value -> Shared -> Prop} (ok : (X.wish E).Ok) : X.Ok :=
  ⟨ok.mod, ok.kind, ok.glob, ok.blt, ok.above, ok.inj, ok.has, ok.cab, ok.hd, ok.frames, ok.stk, ok.exf, ok.bs, ok.bsz, ok.noex, ok.exfs, ok.funs, ok.frf⟩
section
variable {X : Cx} {pins : List (Addr × Obj)} {σ : St} {H : Hp} {s : Shared} {E : Value -> Shared -> Prop}
theorem Inv.wish (I : Inv X pins σ H s) (E : Value -> Shared -> Prop) : Inv (X.wish E) pins σ H s := ⟨I.ok.wish E, I.os, I.bare, I.base, I.loc, I.cell, I.free, I.freeC, I.pin, I.hok, I.len⟩
theorem Inv.unwish (I : Inv (X.wish E) pins σ H s) : Inv X pins σ H s := ⟨I.ok.unwish, I.os, I.bare, I.base, I.loc, I.cell, I.free, I.freeC, I.pin, I.hok, I.len⟩
theorem SP.unwish {D : qdC} {f : Flow} {s' : Shared} (h : SP (X.wish E) pins D f s') : SP X pins D f s' := by
  cases f with
  | next => obtain ⟨σ', H', I, q⟩ := h; exact ⟨σ', H', I.unwish, q⟩
  | brk => obtain ⟨σ', H', I, q⟩ := h; exact ⟨σ', H', I.unwish, q⟩
  | cont => obtain ⟨σ', H', I, q⟩ := h; exact ⟨σ', H', I.unwish, q⟩
  | ret u => obtain ⟨v, σ', H', I, r, q⟩ := h; exact ⟨v, σ', H', I.unwish, r, q⟩
theorem PE.nox {e : Expr} {t : TE} (h : PE X.nox e t) : PE X e t := fun pins s σ H Q I hw =>
  wpAny_mono (h pins s σ H Q (I.wish _) hw) (fun _ _ ⟨v, H', I', r, q⟩ => ⟨v, H', I'.unwish, r, q⟩) fun _ _ z => False.elim z
theorem PT.nox {e : Expr} {t : TT} (h : PT X.nox e t) : PT X e t := fun pins s σ H Q I hw =>
  wpAny_mono (h pins s σ H Q (I.wish _) hw) (fun _ _ ⟨H', I', q⟩ => ⟨H', I'.unwish, q⟩) fun _ _ z => False.elim z
theorem PSs.nox {st : List Stmt} {t : TS} (h : PSs X.nox st t) : PSs X st t := fun pins s σ H D I hw =>
  wpAny_mono (h pins s σ H D (I.wish _) hw) (fun _ _ q => q.unwish) fun _ _ z => False.elim z
end
section
variable {X : Cx} {st : Stmt} {yv : List Stmt} {t u : TS} {e : Expr} {te : TE} {pos : Pos}
def qkn : TS := fun D σ H => D.nx σ H
def qlC (t u : TS) : TS := fun D σ H => t { D with nx := u D } σ H
theorem qhb : PSs X [] qkn := fun _ _ σ H _ I h => wpAny_execs_nil ⟨σ, H, I, h⟩
theorem qfg (h1 : PS X st t) (h2 : PSs X yv u) : PSs X (st :: yv) (qlC t u) := by
  intro pins s σ H D I h
  refine wpAny_execs_cons (thn (h1 pins s σ H { D with nx := u D } I h) fun f s1 q => ?_)
  cases f with
  | next =>
    obtain ⟨σ', H', I', q⟩ := q
    exact h2 pins s1 σ' H' D I' q
  | ret v => exact q
  | brk => exact q
  | cont => exact q
theorem qdE (h1 : PS X st t) : PSs X [st] t := by
  intro pins s σ H D I h
  refine wpAny_execs_cons (thn (h1 pins s σ H D I h) fun f s1 q => ?_)
  cases f with
  | next => exact wpAny_execs_nil q
  | ret v => exact q
  | brk => exact q
  | cont => exact q
theorem Inv.quiet {pins : List (Addr × Obj)} {σ : St} {H : Hp} {s : Shared} (I : Inv X pins σ H s) : interactive X.env = false := by simp [interactive, I.ok.kind]
def qko (te : TE) : TS := fun D σ H => te σ H fun _ H1 => D.nx σ H1
theorem qhc (he : PE X e te) (hs : swapsWith e none pos.line X.env = pure false := by rfl) : PS X (.Expr e pos) (qko te) := by
  intro pins s σ H D I h
  exact wpAny_Expr_any (thn (he pins s σ H _ I h) fun v s1 ⟨x, H1, I1, r1, q1⟩ => ⟨σ, H1, I1, q1⟩) I.quiet hs
def qlD (te : TE) : TS := fun D σ H => te σ H D.rt
theorem qdF (he : PE X e te) : PS X (.Return (some e) pos) (qlD te) := by
  intro pins s σ H D I h
  exact wpAny_Return_some (thn (he pins s σ H _ I h) fun v s1 ⟨x, H1, I1, r1, q1⟩ => ⟨x, σ, H1, I1, r1, q1⟩)
def qlE (c : TT) (t u : TS) : TS := fun D σ H => c σ H fun b H1 => if b = true then t D σ H1 else u D σ H1
theorem qkp {c : Expr} {a b : List Stmt} {tc : TT} (hc : PT X c tc) (ha : PSs X a t) (hb : PSs X b u) : PS X (.If c a b pos) (qlE tc t u) := by
  intro pins s σ H D I h
  refine wpAny_If (thn (hc pins s σ H _ I h) fun d s1 ⟨H1, I1, q1⟩ => ?_)
  cases d with
  | true => exact ha pins s1 σ H1 D I1 q1
  | false => exact hb pins s1 σ H1 D I1 q1
end
abbrev TG := V -> St -> Hp -> (St -> Hp -> Prop) -> Prop
abbrev TGs := List V -> St -> Hp -> (St -> Hp -> Prop) -> Prop
def PG (X : Cx) (target : Expr) (t : TG) : Prop :=
  ∀ (pins : List (Addr × Obj)) (s : Shared) (σ : St) (H : Hp) (v : V) (u : Value) (Q : St -> Hp -> Prop), Inv X pins σ H s -> jv v u -> t v σ H Q ->
    wpAny (model X.prog X.w) X.A (assign target X.env u) (fun _ s' => ∃ σ' H', Inv X pins σ' H' s' /\ Q σ' H') X.xe s
def PGs (X : Cx) (ts : List Expr) (t : TGs) : Prop :=
  ∀ (pins : List (Addr × Obj)) (s : Shared) (σ : St) (H : Hp) (vs : List V) (us : List Value) (Q : St -> Hp -> Prop), Inv X pins σ H s -> qY vs us -> t vs σ H Q ->
    wpAny (model X.prog X.w) X.A (assignInOrder ((assignEach ts X.env).map (·.2)) us) (fun _ s' => ∃ σ' H', Inv X pins σ' H' s' /\ Q σ' H') X.xe s
abbrev qkq := V -> V -> V -> Hp -> (Hp -> Prop) -> Prop
def qk5 (X : Cx) (t : qkq) : Prop :=
  ∀ (pins : List (Addr × Obj)) (s : Shared) (σ : St) (H : Hp) (o i v : V) (ov iv u : Value) (Q : Hp -> Prop), Inv X pins σ H s -> jv o ov -> jv i iv -> jv v u -> t o i v H Q ->
    wpAny (model X.prog X.w) X.A (setItem ov iv u) (fun _ s' => ∃ H', Inv X pins σ H' s' /\ Q H') X.xe s
section
variable {X : Cx} {pos : Pos}
def qiS (i : Nat) : TG := fun v σ H Q => Q (σ.set i (some v)) H
theorem qhd {i : Nat} {x : Str} (hN : X.N.Nodup) (hi : X.N[i]? = some x) (hx : Loc X.env.scope x) (hf : X.fn x = true \/ X.env.scope.names.lookup x = some .local := by first | exact .inl rfl | exact .inr rfl | assumption) : PG X (.Name x pos) (qiS i) := by
  intro pins s σ H v u Q I r h
  exact wpAny_assign_Name (uW I hN hi hx r (fun s' I' => ⟨_, H, I', h⟩) hf)
def qlF : TGs := fun vs σ H Q => vs = [] /\ Q σ H
def qkr (t : TG) (u : TGs) : TGs := fun vs σ H Q => ∃ v r, vs = v :: r /\ t v σ H fun σ' H' => u r σ' H' Q
theorem qhe : PGs X [] qlF := by
  intro pins s σ H vs us Q I r h
  obtain ⟨e, h⟩ := h
  subst e
  cases r
  exact assignInOrder_nil ⟨σ, H, I, h⟩
theorem qfh {e : Expr} {es : List Expr} {t : TG} {u : TGs} (h1 : PG X e t) (h2 : PGs X es u)
    (hs : (assignEach (e :: es) X.env).map (·.2) = assign e X.env :: (assignEach es X.env).map (·.2) := by rfl) : PGs X (e :: es) (qkr t u) := by
  intro pins s σ H vs us Q I r h
  obtain ⟨v, vr, e1, h⟩ := h
  subst e1
  cases r with
  | cons r rr =>
    rw [hs]
    refine assignInOrder_cons (thn (h1 pins s σ H _ _ _ I r h) fun _ s1 ⟨σ1, H1, I1, q1⟩ => ?_)
    exact h2 pins s1 σ1 H1 _ _ Q I1 rr q1
def qlG (K : PySem.W.Frag) (n : Nat) (t : TGs) : TG := fun v σ H Q => ∃ a xs, v = .ref a /\ SqT K H a xs /\ xs.length = n /\ t xs σ H Q
theorem qiT {es : List Expr} {k : Nat} {t : TGs} {n : Nat} (hc : X.calm = true) (h : PGs X es t)
    (hn : (assignEach es X.env).length = n := by rfl) (hst : (assignEach es X.env).findIdx? (·.1) = none := by rfl) : PG X (.Tuple es k pos) (qlG X.K n t) := by
  intro pins s σ H v u Q I r hw
  obtain ⟨a, xs, e1, hq, hl, hw⟩ := hw
  subst e1
  cases r
  obtain ⟨its, rv, ht, hz⟩ := I.tuple hq
  refine assign_Tuple_tuple (I.ok.hd hc) ht (by simp [hn, <- hl, rv.length]) hst fun h' hx => ?_
  have I1 : Inv X pins σ H { s with heap := h' } := I.kept (t' := s.toks) fun b o e => hx b o (Nat.ne_of_lt (Heap.lt_size e)) e
  exact h pins _ σ H xs _ Q I1 (by simpa using rv) hw
def qlH (to ti : TE) (t : qkq) : TG := fun v σ H Q => to σ H fun o H1 => ti σ H1 fun i H2 => t o i v H2 fun H3 => Q σ H3
theorem qiU {o i : Expr} {to ti : TE} {t : qkq} (ho : PE X o to) (hi : PE X i ti) (hs : qk5 X t)
    (ha : ∀ v, assign (.Subscript o i pos) X.env v = (do
      let ov <- holding [v] (eval o X.env)
      let iv <- holding [v, ov] (eval i X.env)
      standAt pos
      holding [v, ov, iv] (setItem ov iv v)
      release [v, ov, iv] []) := by intro _; rfl) : PG X (.Subscript o i pos) (qlH to ti t) := by
  intro pins s σ H v u Q I r h
  rw [ha]
  refine wpAny_bind (wpAny_holding (thn (ho pins s σ H _ I h) fun ov s1 ⟨x, H1, I1, r1, q1⟩ => ?_))
  refine wpAny_bind (wpAny_holding (thn (hi pins s1 σ H1 _ I1 q1) fun iv s2 ⟨y, H2, I2, r2, q2⟩ => ?_))
  refine wpAny_bind (wpAny_standAt (wpAny_bind (wpAny_holding (thn (hs pins s2 σ H2 x y v ov iv u _ I2 r1 r2 r q2) fun _ s3 ⟨H3, I3, q3⟩ => ?_))))
  exact wpAny_release ⟨σ, H3, I3, q3⟩
def qk6 (te : TE) (g : TG) : TS := fun D σ H => te σ H fun x H1 => g x σ H1 D.nx
theorem qgh {tg e : Expr} {te : TE} {g : TG} (he : PE X e te) (hg : PG X tg g) (hs : swapsWithSole [tg] e pos.line X.env = pure false := by rfl) (hw : swappedStores [tg] e X.env = pure none := by rfl)
    (h1 : (assignEach [tg] X.env).map (·.2) = [assign tg X.env] := by rfl) : PS X (.Assign [tg] e pos) (qk6 te g) := by
  intro pins s σ H D I h
  refine wpAny_Assign_stores (thn (he pins s σ H _ I h) fun v s1 ⟨x, H1, I1, r1, q1⟩ => ?_) hs hw
  rw [h1]
  exact thn (hg pins s1 σ H1 x v _ I1 r1 q1) fun _ s2 q => q
theorem qgi {i : Nat} {x : Str} {e : Expr} {te : TE} {pos' : Pos} (hN : X.N.Nodup) (hi : X.N[i]? = some x) (hx : Loc X.env.scope x) (he : PE X e te) (hs : swapsWith e (some (.Name x pos')) pos.line X.env = pure false := by rfl) (hf : X.fn x = true \/ X.env.scope.names.lookup x = some .local := by first | exact .inl rfl | exact .inr rfl | assumption) :
    PS X (.Assign [.Name x pos'] e pos) (qk6 te (qiS i)) := by
  intro pins s σ H D I h
  refine wpAny_Assign_Name (thn (he pins s σ H _ I h) fun v s1 ⟨y, H1, I1, r1, q1⟩ => ?_) hs
  exact uW I1 hN hi hx r1 (fun s2 I2 => ⟨_, H1, I2, q1⟩) hf
def qlI (i j : Nat) (ta : TA) : TS := fun D σ H => ta σ H fun vs H1 => ∃ v w, vs = [v, w] /\ D.nx ((σ.set i (some v)).set j (some w)) H1
theorem qiV {i j : Nat} {x y : Str} {a b : Expr} {ta : TA} {px py pt : Pos} {kt k2 pt2} (hc : X.calm = true) (hN : X.N.Nodup) (hi : X.N[i]? = some x) (hj : X.N[j]? = some y) (hij : i ≠ j)
    (hx : X.env.scope.names.lookup x = some .local) (hy : X.env.scope.names.lookup y = some .local) (ha : PA X [a, b] ta)
    (hw : swappedStores [.Tuple [.Name x px, .Name y py] kt pt] (.Tuple [a, b] k2 pt2) X.env = pure (some [x, y]))
    (hs : swapsWithSole [.Tuple [.Name x px, .Name y py] kt pt] (.Tuple [a, b] k2 pt2) pos.line X.env = pure false := by rfl) :
    PS X (.Assign [.Tuple [.Name x px, .Name y py] kt pt] (.Tuple [a, b] k2 pt2) pos) (qlI i j ta) := by
  intro pins s σ H D I h
  rw [exec_Assign_arm]
  refine wpAny_bind (wpAny_standAt ?_)
  rw [hs]
  refine wpAny_bind (wpAny_pure ?_)
  rw [if_neg (by decide)]
  refine wpAny_bind (Tuple_ (thn (ha _ pins s σ H _ I h) fun us s1 ⟨vs, H1, I1, r1, q1⟩ => ?_))
  obtain ⟨v, w, e1, q1⟩ := q1
  subst e1
  obtain ⟨u1, u2, rfl, rv, rw'⟩ : ∃ u1 u2, us = [u1, u2] /\ jv v u1 /\ jv w u2 := by
    cases r1 with
    | cons p q =>
      cases q with
      | cons p' q' =>
        cases q'
        exact ⟨_, _, rfl, p, p'⟩
  refine wpAny_newObj_type ?_ (by show 2 <= sizeLine; decide)
  have I2 : Inv X pins σ H1 { s1 with heap := s1.heap.push { cls := .type "tuple", data := .seq [u1, u2].toArray } } := I1.kept (t' := s1.toks) fun b o e => Heap.get?_push_of_some _ e
  rw [hw]
  refine wpAny_bind (wpAny_pure ?_)
  show wpAny (model X.prog X.w) X.A (do rule "assign.swapped-stores"; let items <- unpackItems (.ref s1.heap.objs.size) 2 none; assignInOrder [fun v => bindName X.env y v, fun v => bindName X.env x v] items.reverse; pure Flow.next) _ _ _
  refine wpAny_bind (wpAny_rule (wpAny_bind (unpackItems_tuple (items := #[u1, u2]) (I.ok.hd hc) (IsTup.new s1.heap _) fun h' hx' => ?_)))
  have I3 := I2.kept (h' := h') (t' := s1.toks) fun b o e => hx' b o (Nat.ne_of_lt (Heap.lt_size e)) e
  show wpAny _ _ (assignInOrder [fun v => bindName X.env y v, fun v => bindName X.env x v] [u2, u1] >>= fun _ => pure Flow.next) _ _ _
  refine wpAny_bind (assignInOrder_cons (wpAny_bindName (uW I3 hN hj (.inl hy) rw' (fun s2 I4 => ?_) (.inr hy))))
  refine assignInOrder_cons (wpAny_bindName (uW I4 hN hi (.inl hx) rv (fun s3 I5 => assignInOrder_nil (wpAny_pure ?_)) (.inr hx)))
  rw [List.set_comm _ _ (Ne.symm hij)] at I5
  exact ⟨_, H1, I5, q1⟩
end
section
variable {X : Cx} {pos : Pos}
def qiW (c : TT) (tb : TS) : TS := fun D σ H => ∃ W : Nat -> St -> Hp -> Prop, (∃ m, W m σ H) /\ ∀ m σ H, W m σ H ->
  c σ H fun b H1 => if b = true then ∃ N : St -> Hp -> Prop, (∀ σ' H', N σ' H' -> ∃ m', m' < m /\ W m' σ' H') /\ tb { D with nx := N, ct := N, bk := D.nx } σ H1 else D.nx σ H1
theorem qfi {c : Expr} {body : List Stmt} {tc : TT} {tb : TS} (hp : PassesOwn (model X.prog X.w) X.A X.env X.xe) (hc : PT X c tc) (hb : PSs X body tb) : PS X (.While c body [] pos) (qiW tc tb) := by
  intro pins s σ H D I h
  obtain ⟨W, ⟨m0, w0⟩, turn⟩ := h
  refine wpAny_While (codeAny_whileLoop (fun n s' => ∃ σ' H', Inv X pins σ' H' s' /\ W n σ' H') ?_ m0 ⟨σ, H, I, w0⟩)
  rintro n s1 ⟨σ1, H1, I1, w1⟩
  refine wpAny_passesOwn hp (thn (hc pins s1 σ1 H1 _ I1 (turn n σ1 H1 w1)) fun b s2 ⟨H2, I2, q2⟩ => ?_)
  cases b with
  | true =>
    obtain ⟨N, hN, q2⟩ := q2
    rw [if_pos rfl]
    refine wpAny_passesOwn hp (thn (hb pins s2 σ1 H2 _ I2 q2) fun f s3 q3 => ?_)
    cases f with
    | next =>
      obtain ⟨σ3, H3, I3, n3⟩ := q3
      obtain ⟨m', hm, w3⟩ := hN σ3 H3 n3
      exact ⟨m', hm, σ3, H3, I3, w3⟩
    | cont =>
      obtain ⟨σ3, H3, I3, n3⟩ := q3
      obtain ⟨m', hm, w3⟩ := hN σ3 H3 n3
      exact ⟨m', hm, σ3, H3, I3, w3⟩
    | brk => exact q3
    | ret v => exact q3
  | false =>
    rw [if_neg Bool.false_ne_true]
    exact wpAny_execs_nil ⟨σ1, H2, I2, q2⟩
end
structure It where
  go : Nat -> Hp -> Prop
  yld : Nat -> Hp -> V -> Hp -> Prop
  stop : Nat -> Hp -> Prop
def qbV (X : Cx) (pins : List (Addr × Obj)) (H : Hp) (b : Addr) : Prop :=
  H b = none /\ b ≠ X.env.locals /\ b ∉ X.fs /\ (b ∈ X.ex \/ X.s₀.heap.objs.size <= b) /\ (∀ x c, X.env.cells.lookup x = some c -> c ≠ b) /\ ∀ p ∈ X.pn ++ pins, p.1 ≠ b
theorem Inv.fpOk {X : Cx} {pins : List (Addr × Obj)} {σ : St} {H H' : Hp} {s : Shared} {b : Addr} (I : Inv X pins σ H s) (hb : s.heap.objs.size <= b) (hn : H' b = none) : qbV X pins H' b := by
  refine ⟨hn, Nat.ne_of_gt (Nat.lt_of_lt_of_le I.lt hb), I.nofs hb, .inr (Nat.le_trans I.sz hb), fun x c e z => ?_, fun p hp z => ?_⟩
  . obtain ⟨v, q⟩ := I.cell x c e
    exact absurd (Nat.lt_of_lt_of_le q.lt (by rw [z]; exact hb)) (Nat.lt_irrefl _)
  . exact absurd (Nat.lt_of_lt_of_le (Heap.lt_size (I.pin p hp).1) (by rw [z]; exact hb)) (Nat.lt_irrefl _)
structure qiv (P : Program) (w : World) (K : PySem.W.Frag) (tg : Expr) (J : It) (fp : List Addr) (it : Addr) (tn : Nat -> Heap -> Prop) : Prop where
  mem : it ∈ fp
  obj : ∀ i h, tn i h -> ∀ b ∈ fp, ∃ o, h.get? b = some o /\ ∀ v, o.data ≠ .cell v
  keep : ∀ i h h', tn i h -> (∀ b ∈ fp, ∀ o, h.get? b = some o -> h'.get? b = some o) -> tn i h'
  item : ∀ (X : Cx), X.prog = P -> X.w = w -> X.K = K -> X.calm = true -> ∀ (i : Nat) (pins : List (Addr × Obj)) (s : Shared) (σ : St) (H : Hp) (E : Value -> Shared -> Prop), Inv X pins σ H s -> (∀ b ∈ fp, qbV X pins H b) -> tn i s.heap -> J.go i H ->
    wpAny (model P w) X.A (pyNext (.ref it)) (fun r s1 => ∃ u, r = some u /\
      wpAny (model P w) X.A (letOwnedTupleGo tg (.ref it) u) (fun _ s2 => ∃ x H', Inv X pins σ H' s2 /\ jv x u /\ J.yld i H x H' /\ tn (i + 1) s2.heap /\ ∀ b ∈ fp, H' b = none) E s1) E s
  done : ∀ (X : Cx), X.prog = P -> X.w = w -> X.K = K -> X.calm = true -> ∀ (i : Nat) (pins : List (Addr × Obj)) (s : Shared) (σ : St) (H : Hp) (E : Value -> Shared -> Prop), Inv X pins σ H s -> (∀ b ∈ fp, qbV X pins H b) -> tn i s.heap -> J.stop i H ->
    wpAny (model P w) X.A (pyNext (.ref it)) (fun r s1 => r = none /\ Inv X pins σ H s1) E s
  self : ∀ (A : Around) (i : Nat) (s : Shared) (Q : Value -> Shared -> Prop) (E : Value -> Shared -> Prop), tn i s.heap -> Q (.ref it) s -> wpAny (model P w) A (pyIter (.ref it)) Q E s
abbrev TI := St -> Hp -> (It -> Hp -> Prop) -> Prop
def PIE (X : Cx) (pins : List (Addr × Obj)) (σ : St) (tg : Expr) (R : It -> Hp -> Prop) (itv : Value) (s2 : Shared) : Prop :=
  ∃ (it : Addr) (fp : List Addr) (tn : Nat -> Heap -> Prop) (J : It) (H' : Hp), itv = .ref it /\ Inv X pins σ H' s2 /\ qiv X.prog X.w X.K tg J fp it tn /\ tn 0 s2.heap /\ (∀ b ∈ fp, qbV X pins H' b) /\ R J H'
def PI (X : Cx) (tg iter : Expr) (wi : TI) : Prop :=
  ∀ (pins : List (Addr × Obj)) (s : Shared) (σ : St) (H : Hp) (R : It -> Hp -> Prop), Inv X pins σ H s -> wi σ H R ->
    wpAny (model X.prog X.w) X.A (eval iter X.env) (fun v s1 => wpAny (model X.prog X.w) X.A (pyIter v) (PIE X pins σ tg R) X.xe s1) X.xe s
theorem qfj {M : Model} {A : Around} {E : Value -> Shared -> Prop} {s : Shared} {tg : Expr} {it : Addr} {u : Value} {o : Obj} {n : String} {vs : Array Value} {Q : Unit -> Shared -> Prop} (ho : s.heap.get? it = some o) (hc : o.cls = .type n) (hd : o.data = .fields vs)
    (hn : ["enumerate", "zip", "dict_itemiterator", "dict_reverseitemiterator", "odict_iterator", "itertools.zip_longest", "itertools.pairwise"].contains n = false) (hQ : Q () s) : wpAny M A (letOwnedTupleGo tg (.ref it) u) Q E s := by
  unfold letOwnedTupleGo
  cases tg <;> first
    | exact wpAny_pure hQ
    | (cases u <;> first
        | exact wpAny_pure hQ
        | (refine wpAny_bind (wpAny_load ho ?_)
           rw [hc, hd]
           show wpAny M A (if (["enumerate", "zip", "dict_itemiterator", "dict_reverseitemiterator", "odict_iterator", "itertools.zip_longest", "itertools.pairwise"].contains n && vs[0]? == some (rawInt _)) = true then _ else _) Q E s
           rw [if_neg (by intro h; rw [hn, Bool.false_and] at h; cases h)]
           exact wpAny_pure hQ))
def Itl (K : PySem.W.Frag) (a : Addr) : It :=
  ⟨fun i H => ∃ xs x, SqL K H a xs /\ xs[i]? = some x, fun i H x H' => H' = H /\ ∀ xs, SqL K H a xs -> xs[i]? = some x, fun i H => ∃ xs, SqL K H a xs /\ xs.length <= i⟩
def Itt (K : PySem.W.Frag) (a : Addr) : It :=
  ⟨fun i H => ∃ xs x, SqT K H a xs /\ xs[i]? = some x, fun i H x H' => H' = H /\ ∀ xs, SqT K H a xs -> xs[i]? = some x, fun i H => ∃ xs, SqT K H a xs /\ xs.length <= i⟩
def Itr (lo : Int) (n : Nat) : It := ⟨fun i _ => i < n, fun i H x H' => H' = H /\ x = .int (lo + i), fun i _ => n <= i⟩
theorem qdG {P : Program} {w : World} {K : PySem.W.Frag} {tg : Expr} (a it : Addr) : qiv P w K tg (Itl K a) [it] it (fun i h => h.IsListIter it a i) where
  mem := by simp
  obj := fun i h st b hb => by
    have e : b = it := by simpa using hb
    subst e
    obtain ⟨o, e, c, d⟩ := st
    exact ⟨o, e, fun v z => by rw [d] at z; cases z⟩
  keep := fun i h h' st k => st.at fun o e => k it (by simp) o e
  item := by
    intro X hP hw hK hc i pins s σ H E I hf st hg
    subst hP hw hK
    obtain ⟨xs, x, hq, hx⟩ := hg
    obtain ⟨its, rv, p, hz⟩ := I.list hq
    obtain ⟨u, hu, ru⟩ := rv.get hx
    obtain ⟨f0, f1, f2, f3, f4, f5⟩ := hf it (by simp)
    refine wpAny_pyNext_list_item st p.isList (x := u) (by simpa using hu) fun h' st' sb => ?_
    have I1 : Inv X pins σ H { s with heap := h' } := I.turned (t' := s.toks) (fun b o hb e => (sb.2 b hb).trans e) f0 f1 f3 f4 f5
    obtain ⟨o, e, c, d⟩ := id st'
    exact ⟨u, rfl, qfj (s := { s with heap := h' }) e c d (by decide) ⟨x, H, I1, ru, ⟨rfl, fun ys hy => by rw [I.list_inj hy hq]; exact hx⟩, st', fun b hb => (hf b hb).1⟩⟩
  done := by
    intro X hP hw hK hc i pins s σ H E I hf st hg
    subst hP hw hK
    obtain ⟨xs, hq, hx⟩ := hg
    obtain ⟨its, rv, p, hz⟩ := I.list hq
    obtain ⟨f0, f1, f2, f3, f4, f5⟩ := hf it (by simp)
    have hl := rv.length
    exact wpAny_pyNext_list_end (I.ok.hd hc) st p.isList (by simp; omega) fun h' eb => ⟨rfl, I.turned (t' := s.toks) (fun b o hb e => eb b o hb e) f0 f1 f3 f4 f5⟩
  self := fun _ _ _ _ _ st h => wpAny_pyIter_listiter st h
theorem qc6 {P : Program} {w : World} {K : PySem.W.Frag} {tg : Expr} (a it : Addr) : qiv P w K tg (Itt K a) [it] it (fun i h => h.IsTupleIter it a i) where
  mem := by simp
  obj := fun i h st b hb => by
    have e : b = it := by simpa using hb
    subst e
    obtain ⟨o, e, c, d⟩ := st
    exact ⟨o, e, fun v z => by rw [d] at z; cases z⟩
  keep := fun i h h' st k => st.at fun o e => k it (by simp) o e
  item := by
    intro X hP hw hK hc i pins s σ H E I hf st hg
    subst hP hw hK
    obtain ⟨xs, x, hq, hx⟩ := hg
    obtain ⟨its, rv, p, hz⟩ := I.tuple hq
    obtain ⟨u, hu, ru⟩ := rv.get hx
    obtain ⟨f0, f1, f2, f3, f4, f5⟩ := hf it (by simp)
    refine wpAny_pyNext_tuple_item st (show s.heap.IsTuple a its.toArray from p) (x := u) (by simpa using hu) fun h' st' sb => ?_
    have I1 : Inv X pins σ H { s with heap := h' } := I.turned (t' := s.toks) (fun b o hb e => (sb.2 b hb).trans e) f0 f1 f3 f4 f5
    obtain ⟨o, e, c, d⟩ := id st'
    exact ⟨u, rfl, qfj (s := { s with heap := h' }) e c d (by decide) ⟨x, H, I1, ru, ⟨rfl, fun ys hy => by rw [I.tuple_inj hy hq]; exact hx⟩, st', fun b hb => (hf b hb).1⟩⟩
  done := by
    intro X hP hw hK hc i pins s σ H E I hf st hg
    subst hP hw hK
    obtain ⟨xs, hq, hx⟩ := hg
    obtain ⟨its, rv, p, hz⟩ := I.tuple hq
    obtain ⟨f0, f1, f2, f3, f4, f5⟩ := hf it (by simp)
    have hl := rv.length
    exact wpAny_pyNext_tuple_end (I.ok.hd hc) st (show s.heap.IsTuple a its.toArray from p) (by simp; omega) fun h' eb => ⟨rfl, I.turned (t' := s.toks) (fun b o hb e => eb b o hb e) f0 f1 f3 f4 f5⟩
  self := fun _ _ _ _ _ st h => wpAny_pyIter_tupleiter st h
theorem qc7 {P : Program} {w : World} {K : PySem.W.Frag} {tg : Expr} (it : Addr) (lo : Int) (n : Nat) : qiv P w K tg (Itr lo n) [it] it (fun i h => IsRangeIter h it (lo + (i : Nat) * 1) ((n : Int) - (i : Nat)) 1) where
  mem := by simp
  obj := fun i h st b hb => by
    have e : b = it := by simpa using hb
    subst e
    exact ⟨_, st, fun v z => by
      have z' : Data.fields _ = Data.cell v := z
      cases z'⟩
  keep := fun i h h' st k => k it (by simp) _ st
  item := by
    intro X hP hw hK hc i pins s σ H E I hf st hg
    subst hP hw hK
    obtain ⟨f0, f1, f2, f3, f4, f5⟩ := hf it (by simp)
    have W := Walks.range (prog := X.prog) (w := X.w) (I.ok.hd hc) it lo 1 n
    refine W.item i s _ _ hg st fun v h' tk hv st' kk => ?_
    obtain ⟨t, rfl⟩ := hv
    have I1 : Inv X pins σ H { s with heap := h', toks := tk } := I.turned (fun b o hb e => kk b o (by simpa using hb) e) f0 f1 f3 f4 f5
    refine ⟨_, rfl, qfj (s := { s with heap := h', toks := tk }) (n := "range_iterator") st' rfl rfl (by decide) ⟨.int (lo + i), H, I1, ⟨t, ?_⟩, ⟨rfl, rfl⟩, st', fun b hb => (hf b hb).1⟩⟩
    rw [Int.mul_one]
  done := by
    intro X hP hw hK hc i pins s σ H E I hf st hg
    subst hP hw hK
    obtain ⟨f0, f1, f2, f3, f4, f5⟩ := hf it (by simp)
    exact wpAny_pyNext_range_end (I.ok.hd hc) st (by have : n <= i := hg; omega) fun h' eb => ⟨rfl, I.turned (t' := s.toks) (fun b o hb e => eb b o hb e) f0 f1 f3 f4 f5⟩
  self := fun _ _ _ _ _ st h => wpAny_pyIter_rangeiter st h
end L2
namespace L2
open PySem PySem.Spec PyProof.Rows
section
variable {X : Cx} {tg : Expr}
theorem qfk {pins : List (Addr × Obj)} {σ : St} {H : Hp} {s : Shared} {R : It -> Hp -> Prop} {E : Value -> Shared -> Prop} {lo hi : Int} {t u v : Tok} {tk : Nat} (I : Inv X pins σ H s) (h1 : -(2 ^ 62) <= lo) (h2 : lo < 2 ^ 62) (h3 : -(2 ^ 62) <= hi) (h4 : hi < 2 ^ 62)
    (q : R (Itr lo (hi - lo).toNat) H) : wpAny (model X.prog X.w) X.A (pyIter (.ref s.heap.objs.size)) (PIE X pins σ tg R) E { s with heap := s.heap.push { cls := .type "range", data := .fields #[.int lo t, .int hi u, .int 1 v] }, toks := tk } := by
  refine wpAny_pyIter_range (IsRange.new ..) (small_one h1 h2 h3 h4) ?_
  have I1 : Inv X pins σ H { s with heap := s.heap.push { cls := .type "range", data := .fields #[.int lo t, .int hi u, .int 1 v] }, toks := tk } := I.kept fun b o e => Heap.get?_push_of_some _ e
  refine ⟨(s.heap.push { cls := .type "range", data := .fields #[.int lo t, .int hi u, .int 1 v] }).objs.size, [(s.heap.push { cls := .type "range", data := .fields #[.int lo t, .int hi u, .int 1 v] }).objs.size], _, _, H, rfl,
    I1.kept (t' := tk) fun b o e => Heap.get?_push_of_some _ e, qc7 _ lo (hi - lo).toNat, ?_, fun b hb => ?_, q⟩
  . have e1 : lo + ((0 : Nat) : Int) * 1 = lo := by simp
    have e2 : (((hi - lo).toNat : Nat) : Int) - ((0 : Nat) : Int) = Builtin.Range.rangeSize lo hi 1 := by rw [rangeSize_one]; split <;> omega
    show IsRangeIter _ _ (lo + ((0 : Nat) : Int) * 1) ((((hi - lo).toNat : Nat) : Int) - ((0 : Nat) : Int)) 1
    rw [e1, e2]
    exact Heap.get?_push_size _ rfl
  . have e : b = (s.heap.push { cls := .type "range", data := .fields #[.int lo t, .int hi u, .int 1 v] }).objs.size := by simpa using hb
    subst e
    exact I1.fpOk (Nat.le_refl _) (I1.hok.fresh (Nat.le_refl _))
def qks (ta : TA) : TI := fun σ H R => ta σ H fun vs H1 => ∃ j : Int, vs = [.int j] /\ -(2 ^ 62) <= j /\ j < 2 ^ 62 /\ R (Itr 0 j.toNat) H1
theorem qdH {a : Expr} {ta : TA} {p pos : Pos} (hg : Gl X "range") (hm : X.mg "range" = none) (ha : PA X [a] ta) (hs : starEach [a] X.env = [(false, eval a X.env)] := by rfl) : PI X tg (.Call (.Name "range" p) [a] [] pos) (qks ta) := by
  intro pins s σ H R I h
  refine Call_ (qad I hg hm boot_range (PyProof.Rows.callWith_type1 (thn (ha pos pins s σ H _ I h) fun us s1 ⟨vs, H1, I1, r1, q1⟩ => ?_) hs rfl))
  obtain ⟨j, e, q1, q2, q⟩ := q1
  subst e
  cases r1 with
  | cons r rr =>
    cases rr
    obtain ⟨t, rfl⟩ := r
    exact call_range_1 (qfk I1 (by omega) (by omega) q1 q2 (by simpa using q))
def qlJ (wi : TI) (g : TG) (tb : TS) : TS := fun D σ H => wi σ H fun J H1 => ∃ W : Nat -> Nat -> St -> Hp -> Prop, (∃ m, W 0 m σ H1) /\ ∀ i m σ H, W i m σ H ->
  (J.stop i H /\ D.nx σ H) \/ (J.go i H /\ ∃ N : St -> Hp -> Prop, (∀ σ' H', N σ' H' -> ∃ m', m' < m /\ W (i + 1) m' σ' H') /\ ∀ x H', J.yld i H x H' -> g x σ H' fun σ2 H2 => tb { D with nx := N, ct := N, bk := D.nx } σ2 H2)
def qae (fp : List Addr) (h : Heap) : List (Addr × Obj) := fp.filterMap fun b => (h.get? b).map fun o => (b, o)
theorem jZ {fp : List Addr} {h : Heap} {b : Addr} {o : Obj} (hb : b ∈ fp) (e : h.get? b = some o) : (b, o) ∈ qae fp h := List.mem_filterMap.mpr ⟨b, hb, by rw [e]; rfl⟩
theorem qdI {fp : List Addr} {h : Heap} {p : Addr × Obj} (hp : p ∈ qae fp h) : p.1 ∈ fp /\ h.get? p.1 = some p.2 := by
  obtain ⟨b, hb, e⟩ := List.mem_filterMap.mp hp
  cases q : h.get? b with
  | none => rw [q] at e; cases e
  | some o =>
    rw [q] at e
    have e' : (b, o) = p := Option.some.inj e
    subst e'
    exact ⟨hb, q⟩
theorem Inv.pinned {pins : List (Addr × Obj)} {σ : St} {H : Hp} {s : Shared} {fp : List Addr} (I : Inv X pins σ H s) (hf : ∀ b ∈ fp, qbV X pins H b) (ho : ∀ b ∈ fp, ∃ o, s.heap.get? b = some o /\ ∀ v, o.data ≠ .cell v) : Inv X (pins ++ qae fp s.heap) σ H s :=
  I.pins_of fun p hp => (List.mem_append.mp hp).elim (fun z => I.pin p (List.mem_append_right _ z)) fun z => by
    obtain ⟨hb, e⟩ := qdI z
    obtain ⟨f0, f1, f2, _⟩ := hf p.1 hb
    obtain ⟨o, e', d⟩ := ho p.1 hb
    rw [e] at e'; cases e'
    exact ⟨e, f0, f1, f2, d⟩
theorem Inv.unpinned {pins pl : List (Addr × Obj)} {σ : St} {H : Hp} {s : Shared} (I : Inv X (pins ++ pl) σ H s) : Inv X pins σ H s := I.pins_of fun p hp => I.pin p (List.mem_append_right _ (List.mem_append_left _ hp))
theorem qiX {iter : Expr} {body : List Stmt} {wi : TI} {g : TG} {tb : TS} {pos : Pos} (hp : PassesOwn (model X.prog X.w) X.A X.env X.xe) (hc : X.calm = true) (hi : PI X tg iter wi) (hg : PG X tg g) (hb : PSs X body tb)
    (hs : ∀ x, foldedSetIterable iter X.env x = pure x := by intro _; rfl) : PS X (.For tg iter body [] pos) (qlJ wi g tb) := by
  intro pins s σ H D I h
  refine wpAny_For (thn (hi pins s σ H _ I h) fun v s1 h1 => thn h1 fun itv s2 h2 => ?_) hs
  obtain ⟨it, fp, tn, J, H2, e, I2, T, st2, f2, W, ⟨m0, w0⟩, turn⟩ := h2
  subst e
  have stat : ∀ {H' : Hp}, (∀ b ∈ fp, H' b = none) -> ∀ b ∈ fp, qbV X pins H' b := fun hn b hb => ⟨hn b hb, (f2 b hb).2⟩
  refine codeAny_forLoop_any (fun n s' => ∃ i σ' H', Inv X pins σ' H' s' /\ tn i s'.heap /\ (∀ b ∈ fp, H' b = none) /\ W i n σ' H') ?_ m0 ⟨0, σ, H2, I2, st2, fun b hb => (f2 b hb).1, w0⟩
  rintro n s3 ⟨i, σ3, H3, I3, st3, fr3, w3⟩
  rcases turn i n σ3 H3 w3 with ⟨stop, qn⟩ | ⟨go, N, hN, step⟩
  . refine wpAny_passesOwn hp (thn (T.done X rfl rfl rfl hc i pins s3 σ3 H3 X.xe I3 (stat fr3) st3 stop) fun r s4 ⟨hr, I4⟩ => ?_)
    subst hr
    exact wpAny_execs_nil ⟨σ3, H3, I4, qn⟩
  . refine wpAny_passesOwn hp (thn (T.item X rfl rfl rfl hc i pins s3 σ3 H3 X.xe I3 (stat fr3) st3 go) fun r s4 ⟨u, hr, h4⟩ => ?_)
    subst hr
    refine wpAny_passesOwn hp (thn h4 fun _ s5 ⟨x, H5, I5, r5, y5, st5, fr5⟩ => ?_)
    have I5' := I5.pinned (stat fr5) (T.obj _ _ st5)
    refine wpAny_passesOwn hp (thn (hg _ s5 σ3 H5 x u _ I5' r5 (step x H5 y5)) fun _ s6 ⟨σ6, H6, I6, q6⟩ => ?_)
    refine wpAny_passesOwn hp (thn (hb _ s6 σ6 H6 _ I6 q6) fun f s7 q7 => ?_)
    have again : ∀ {σ7 : St} {H7 : Hp}, Inv X (pins ++ qae fp s5.heap) σ7 H7 s7 -> N σ7 H7 -> ∃ m, m < n /\ ∃ i σ' H', Inv X pins σ' H' s7 /\ tn i s7.heap /\ (∀ b ∈ fp, H' b = none) /\ W i m σ' H' := fun {σ7 H7} I7 n7 => by
      obtain ⟨m', hm, w7⟩ := hN σ7 H7 n7
      refine ⟨m', hm, i + 1, σ7, H7, I7.unpinned, T.keep _ _ _ st5 fun b hb o e => (I7.pin (b, o) (List.mem_append_right _ (List.mem_append_right _ (jZ hb e)))).1, fun b hb => ?_, w7⟩
      obtain ⟨o, e, d⟩ := T.obj _ _ st5 b hb
      exact (I7.pin (b, o) (List.mem_append_right _ (List.mem_append_right _ (jZ hb e)))).2.1
    cases f with
    | next => obtain ⟨σ7, H7, I7, n7⟩ := q7; exact again I7 n7
    | cont => obtain ⟨σ7, H7, I7, n7⟩ := q7; exact again I7 n7
    | brk => obtain ⟨σ7, H7, I7, q7⟩ := q7; exact ⟨σ7, H7, I7.unpinned, q7⟩
    | ret v => obtain ⟨x7, σ7, H7, I7, r7, q7⟩ := q7; exact ⟨x7, σ7, H7, I7.unpinned, r7, q7⟩
end
end L2
namespace L2
open PySem PySem.Spec PyProof.Rows
abbrev R2 := V -> V -> Hp -> VK -> Prop
def OpR (X : Cx) (f : Value -> Value -> Sem Value) (r : R2) : Prop :=
  ∀ (pins : List (Addr × Obj)) (s : Shared) (σ : St) (H : Hp) (x y : V) (v u : Value) (Q : VK), Inv X pins σ H s -> jv x v -> jv y u -> r x y H Q ->
    wpAny (model X.prog X.w) X.A (f v u) (EP X pins σ Q) X.xe s
def UnR (X : Cx) (f : Value -> Sem Value) (r : V -> Hp -> VK -> Prop) : Prop :=
  ∀ (pins : List (Addr × Obj)) (s : Shared) (σ : St) (H : Hp) (x : V) (v : Value) (Q : VK), Inv X pins σ H s -> jv x v -> r x H Q ->
    wpAny (model X.prog X.w) X.A (f v) (EP X pins σ Q) X.xe s
def yD (X : Cx) (f : Value) (r : List V -> Hp -> VK -> Prop) : Prop :=
  ∀ (pins : List (Addr × Obj)) (s : Shared) (σ : St) (H : Hp) (xs : List V) (us : List Value) (Q : VK), Inv X pins σ H s -> qY xs us -> r xs H Q ->
    wpAny (model X.prog X.w) X.A (call f us) (EP X pins σ Q) X.xe s
def tOp (r : R2) (ta tb : TE) : TE := fun σ H Q => ta σ H fun x H1 => tb σ H1 fun y H2 => r x y H2 Q
def tUn (r : V -> Hp -> VK -> Prop) (ta : TE) : TE := fun σ H Q => ta σ H fun x H1 => r x H1 Q
def rI (C : Int -> Int -> Prop) (g : Int -> Int -> V) : R2 := fun x y H Q => ∃ i j, x = .int i /\ y = .int j /\ C i j /\ Q (g i j) H
def rI0 (g : Int -> Int -> V) : R2 := fun x y H Q => ∃ i j, x = .int i /\ y = .int j /\ Q (g i j) H
def rU (g : Int -> V) : V -> Hp -> VK -> Prop := fun x H Q => ∃ i, x = .int i /\ Q (g i) H
section
variable {X : Cx} {a b c : Expr} {ta tb tc : TE} {pos : Pos}
theorem qkt (ha : PE X a ta) (hb : PE X b tb) {pins : List (Addr × Obj)} {s : Shared} {σ : St} {H : Hp} {R : V -> V -> Hp -> Prop} (I : Inv X pins σ H s)
    (h : ta σ H fun x H1 => tb σ H1 fun y H2 => R x y H2) {Q : Value -> Shared -> Prop} {f : Value -> Value -> Sem Value}
    (hf : ∀ v u s2 x y H2, Inv X pins σ H2 s2 -> jv x v -> jv y u -> R x y H2 -> wpAny (model X.prog X.w) X.A (f v u) Q X.xe s2) :
    wpAny (model X.prog X.w) X.A (eval a X.env) (fun v s₁ => wpAny (model X.prog X.w) X.A (eval b X.env) (fun u s₂ => wpAny (model X.prog X.w) X.A (f v u) Q X.xe s₂) X.xe s₁) X.xe s := by
  refine thn (ha pins s σ H _ I h) fun v s1 ⟨x, H1, I1, r1, q1⟩ => ?_
  refine thn (hb pins s1 σ H1 _ I1 q1) fun u s2 ⟨y, H2, I2, r2, q2⟩ => ?_
  exact hf v u s2 x y H2 I2 r1 r2 q2
theorem qku {op : Operator} {r : R2} (ho : OpR X (binaryOp op) r) (ha : PE X a ta) (hb : PE X b tb) : PE X (.BinOp a op b pos) (tOp r ta tb) := by
  intro pins s σ H Q I h
  exact wpAny_BinOp (qkt ha hb I h fun v u s2 x y H2 I2 rx ry q => ho pins s2 σ H2 x y v u Q I2 rx ry q)
theorem qkv {op : UnaryOp} {r : V -> Hp -> VK -> Prop} (ho : UnR X (unaryOp op) r) (ha : PE X a ta) : PE X (.UnaryOp op a pos) (tUn r ta) := by
  intro pins s σ H Q I h
  exact UnaryOp_ (thn (ha pins s σ H _ I h) fun v s1 ⟨x, H1, I1, r1, q1⟩ => ho pins s1 σ H1 x v Q I1 r1 q1)
theorem opI {f : Value -> Value -> Sem Value} {C : Int -> Int -> Prop} {g : Int -> Int -> Int}
    (rule : ∀ (i j : Int) (t u : Tok) (s : Shared) (Q : Value -> Shared -> Prop) (E : Value -> Shared -> Prop), C i j -> Q (.int (g i j) s.toks) { s with toks := s.toks + 1 } -> wpAny (model X.prog X.w) X.A (f (.int i t) (.int j u)) Q E s) :
    OpR X f (rI C fun i j => .int (g i j)) := by
  intro pins s σ H x y v u Q I rx ry h
  obtain ⟨i, j, rfl, rfl, hc, q⟩ := h
  obtain ⟨t, rfl⟩ := rx
  obtain ⟨t', rfl⟩ := ry
  exact rule i j t t' s _ _ hc ⟨.int (g i j), H, I.tok _, ⟨_, rfl⟩, q⟩
theorem qk7 {f : Value -> Value -> Sem Value} {g : Int -> Int -> Int}
    (rule : ∀ (i j : Int) (t u : Tok) (s : Shared) (Q : Value -> Shared -> Prop) (E : Value -> Shared -> Prop), Q (.int (g i j) s.toks) { s with toks := s.toks + 1 } -> wpAny (model X.prog X.w) X.A (f (.int i t) (.int j u)) Q E s) :
    OpR X f (rI0 fun i j => .int (g i j)) := by
  intro pins s σ H x y v u Q I rx ry h
  obtain ⟨i, j, rfl, rfl, q⟩ := h
  obtain ⟨t, rfl⟩ := rx
  obtain ⟨t', rfl⟩ := ry
  exact rule i j t t' s _ _ ⟨.int (g i j), H, I.tok _, ⟨_, rfl⟩, q⟩
theorem qkw {f : Value -> Value -> Sem Value} {g : Int -> Int -> Bool}
    (rule : ∀ (i j : Int) (t u : Tok) (s : Shared) (Q : Value -> Shared -> Prop) (E : Value -> Shared -> Prop), Q (.bool (g i j)) s -> wpAny (model X.prog X.w) X.A (f (.int i t) (.int j u)) Q E s) :
    OpR X f (rI0 fun i j => .bl (g i j)) := by
  intro pins s σ H x y v u Q I rx ry h
  obtain ⟨i, j, rfl, rfl, q⟩ := h
  obtain ⟨t, rfl⟩ := rx
  obtain ⟨t', rfl⟩ := ry
  exact rule i j t t' s _ _ ⟨.bl (g i j), H, I, rfl, q⟩
def qiY (i j : Int) : Prop := 0 < j /\ j < 1606938044258990275541962092341162602522202993782792835301376
theorem qk8 {i j : Int} (h1 : 0 < j) (h2 : j < 1606938044258990275541962092341162602522202993782792835301376) : Builtin.divisionGoesByPylong i j = false := by
  refine PyProof.noPylong_of_log2 ?_
  have h0 : j.natAbs ≠ 0 := by omega
  have h3 : j.natAbs < 2 ^ 200 := by have : (2 : Nat) ^ 200 = 1606938044258990275541962092341162602522202993782792835301376 := by decide +kernel
                                     omega
  have := (Nat.log2_lt h0).mpr h3
  omega
def qk9 (i j : Int) : Prop := 0 <= j /\ j <= 1000000 /\ i.natAbs < 2 ^ 64
def qiZ (i j : Int) : Prop := (-(2 ^ 64) < i /\ i < 2 ^ 64) \/ (-(2 ^ 64) < j /\ j < 2 ^ 64)
theorem qiZ.ok {i j : Int} (h : qiZ i j) : IntMulOk i j := by
  rcases h with ⟨h1, h2⟩ | ⟨h1, h2⟩
  . exact .of_left (intBits_le_64 h1 h2)
  . exact .of_right (intBits_le_64 h1 h2)
theorem qi0 : OpR X (binaryOp .Add) (rI0 fun i j => .int (i + j)) := qk7 fun _ _ _ _ _ _ _ q => add_int q
theorem qgj : OpR X (binaryOp .Sub) (rI0 fun i j => .int (i - j)) := qk7 fun _ _ _ _ _ _ _ q => sub_int q
theorem qi1 : OpR X (binaryOp .Mult) (rI qiZ fun i j => .int (i * j)) := opI fun _ _ _ _ _ _ _ hc q => mul_int q hc.ok
theorem v6 : OpR X (binaryOp .FloorDiv) (rI qiY fun i j => .int (i / j)) := opI fun i j _ _ _ _ _ hc q => by
  have h1 : (0 : Int) < j := hc.1
  have h2 : j < 1606938044258990275541962092341162602522202993782792835301376 := hc.2
  exact floordiv_int (by omega) (by rw [Int.fdiv_eq_ediv_of_nonneg i (by omega)]; exact q) (.inl (qk8 h1 h2))
theorem qbf : OpR X (binaryOp .Mod) (rI (fun _ j => 0 < j) fun i j => .int (i % j)) := opI fun i j _ _ _ _ _ hc q => by
  have h1 : (0 : Int) < j := hc
  exact mod_int' (by omega) (by rw [Int.fmod_eq_emod_of_nonneg i (by omega)]; exact q)
theorem qi2 : OpR X (binaryOp .Pow) (rI qk9 fun i j => .int (i ^ j.toNat)) := opI fun _ _ _ _ _ _ _ hc q => pow_int_small hc.1 hc.2.1 hc.2.2 q
theorem unI {f : Value -> Sem Value} {g : Int -> Int}
    (rule : ∀ (i : Int) (t : Tok) (s : Shared) (Q : Value -> Shared -> Prop) (E : Value -> Shared -> Prop), Q (.int (g i) s.toks) { s with toks := s.toks + 1 } -> wpAny (model X.prog X.w) X.A (f (.int i t)) Q E s) :
    UnR X f (rU fun i => .int (g i)) := by
  intro pins s σ H x v Q I rx h
  obtain ⟨i, rfl, q⟩ := h
  obtain ⟨t, rfl⟩ := rx
  exact rule i t s _ _ ⟨.int (g i), H, I.tok _, ⟨_, rfl⟩, q⟩
theorem qi3 : UnR X (unaryOp .USub) (rU fun i => .int (-i)) := unI fun _ _ _ _ _ q => neg_int q
end
def qkx : V -> V -> Bool
  | .non, .non => true | .non, .int _ => true | .int _, .non => true | .non, .bl _ => true | .bl _, .non => true | .non, .str _ => true | .str _, .non => true
  | .int _, .int _ => true | .bl _, .bl _ => true | .str _, .str _ => true | .byt _, .byt _ => true
  | .int _, .str _ => true | .str _, .int _ => true | .bl _, .str _ => true | .str _, .bl _ => true
  | _, _ => false
def rEq : R2 := fun x y H Q => qkx x y = true /\ Q (.bl (decide (x = y))) H
def rNe : R2 := fun x y H Q => qkx x y = true /\ Q (.bl (!decide (x = y))) H
theorem qdJ {i j : Int} : decide (V.int i = V.int j) = (i == j) := by
  rw [Bool.eq_iff_iff]
  simp
theorem qgk {i j : Bool} : decide (V.bl i = V.bl j) = (i == j) := by
  rw [Bool.eq_iff_iff]
  simp
theorem qdK {i j : Str} : decide (V.str i = V.str j) = (i == j) := by
  rw [Bool.eq_iff_iff]
  simp
theorem qdL {i j : Array UInt8} : decide (V.byt i = V.byt j) = (i.toList == j.toList) := by
  rw [Bool.eq_iff_iff]
  cases i
  cases j
  simp
section
variable {X : Cx} {a b c : Expr} {ta tb tc : TE} {pos : Pos}
theorem qP {pins : List (Addr × Obj)} {σ : St} {H : Hp} {s : Shared} {Q : VK} {k k' : Bool} (I : Inv X pins σ H s) (q : Q (.bl k) H) (e : k = k') : EP X pins σ Q (.bool k') s := by
  subst e
  exact ⟨.bl k, H, I, rfl, q⟩
theorem qky : OpR X (compareOp .Eq) rEq := by
  intro pins s σ H x y v u Q I rx ry h
  obtain ⟨hs, q⟩ := h
  cases x with
  | non =>
    cases rx
    cases y with
    | non => cases ry; exact PySem.EqNone.eq_none_none (qP I q (by simp))
    | bl j => cases ry; exact PySem.EqNone.eq_none_bool (qP I q (by simp))
    | int j => obtain ⟨t', rfl⟩ := ry; exact PySem.EqNone.eq_none_int (qP I q (by simp))
    | str j => obtain ⟨t', rfl⟩ := ry; exact PySem.EqNone.eq_none_str (qP I q (by simp))
    | _ => exact absurd (show false = true from hs) Bool.false_ne_true
  | bl i =>
    cases rx
    cases y with
    | non => cases ry; exact PySem.EqNone.eq_bool_none (qP I q (by simp))
    | bl j => cases ry; exact eq_bool (qP I q qgk)
    | str j => obtain ⟨t', rfl⟩ := ry; exact PySem.EqMixed.eq_bool_str (qP I q (by simp))
    | _ => exact absurd (show false = true from hs) Bool.false_ne_true
  | int i =>
    obtain ⟨t, rfl⟩ := rx
    cases y with
    | non => cases ry; exact PySem.EqNone.eq_int_none (qP I q (by simp))
    | int j => obtain ⟨t', rfl⟩ := ry; exact eq_int (qP I q qdJ)
    | str j => obtain ⟨t', rfl⟩ := ry; exact PySem.EqMixed.eq_int_str (qP I q (by simp))
    | _ => exact absurd (show false = true from hs) Bool.false_ne_true
  | str i =>
    obtain ⟨t, rfl⟩ := rx
    cases y with
    | non => cases ry; exact PySem.EqNone.eq_str_none (qP I q (by simp))
    | bl j => cases ry; exact PySem.EqMixed.eq_str_bool (qP I q (by simp))
    | int j => obtain ⟨t', rfl⟩ := ry; exact PySem.EqMixed.eq_str_int (qP I q (by simp))
    | str j => obtain ⟨t', rfl⟩ := ry; exact eq_str (qP I q qdK)
    | _ => exact absurd (show false = true from hs) Bool.false_ne_true
  | byt i =>
    obtain ⟨t, rfl⟩ := rx
    cases y with
    | byt j => obtain ⟨t', rfl⟩ := ry; exact PySem.W.eq_bytes (qP I q qdL)
    | _ => exact absurd (show false = true from hs) Bool.false_ne_true
  | _ => cases y <;> exact absurd (show false = true from hs) Bool.false_ne_true
theorem qi4 : OpR X (compareOp .NotEq) rNe := by
  intro pins s σ H x y v u Q I rx ry h
  obtain ⟨hs, q⟩ := h
  cases x with
  | non =>
    cases rx
    cases y with
    | non => cases ry; exact PySem.EqNone.ne_none_none (qP I q (by simp))
    | bl j => cases ry; exact PySem.EqNone.ne_none_bool (qP I q (by simp))
    | int j => obtain ⟨t', rfl⟩ := ry; exact PySem.EqNone.ne_none_int (qP I q (by simp))
    | str j => obtain ⟨t', rfl⟩ := ry; exact PySem.EqNone.ne_none_str (qP I q (by simp))
    | _ => exact absurd (show false = true from hs) Bool.false_ne_true
  | bl i =>
    cases rx
    cases y with
    | non => cases ry; exact PySem.EqNone.ne_bool_none (qP I q (by simp))
    | bl j => cases ry; exact ne_bool (qP I q (congrArg not qgk))
    | str j => obtain ⟨t', rfl⟩ := ry; exact PySem.EqMixed.ne_bool_str (qP I q (by simp))
    | _ => exact absurd (show false = true from hs) Bool.false_ne_true
  | int i =>
    obtain ⟨t, rfl⟩ := rx
    cases y with
    | non => cases ry; exact PySem.EqNone.ne_int_none (qP I q (by simp))
    | int j => obtain ⟨t', rfl⟩ := ry; exact ne_int (qP I q (congrArg not qdJ))
    | str j => obtain ⟨t', rfl⟩ := ry; exact PySem.EqMixed.ne_int_str (qP I q (by simp))
    | _ => exact absurd (show false = true from hs) Bool.false_ne_true
  | str i =>
    obtain ⟨t, rfl⟩ := rx
    cases y with
    | non => cases ry; exact PySem.EqNone.ne_str_none (qP I q (by simp))
    | bl j => cases ry; exact PySem.EqMixed.ne_str_bool (qP I q (by simp))
    | int j => obtain ⟨t', rfl⟩ := ry; exact PySem.EqMixed.ne_str_int (qP I q (by simp))
    | str j => obtain ⟨t', rfl⟩ := ry; exact ne_str (qP I q (congrArg not qdK))
    | _ => exact absurd (show false = true from hs) Bool.false_ne_true
  | byt i =>
    obtain ⟨t, rfl⟩ := rx
    cases y with
    | byt j => obtain ⟨t', rfl⟩ := ry; exact PySem.W.ne_bytes (qP I q (congrArg not qdL))
    | _ => exact absurd (show false = true from hs) Bool.false_ne_true
  | _ => cases y <;> exact absurd (show false = true from hs) Bool.false_ne_true
theorem qi5 : OpR X (compareOp .Lt) (rI0 fun i j => .bl (decide (i < j))) := qkw fun _ _ _ _ _ _ _ q => lt_int q
theorem qi6 : OpR X (compareOp .Gt) (rI0 fun i j => .bl (decide (j < i))) := qkw fun _ _ _ _ _ _ _ q => gt_int q
theorem qkz : OpR X (compareOp .GtE) (rI0 fun i j => .bl (decide (j <= i))) := qkw fun _ _ _ _ _ _ _ q => ge_int q
theorem qgl : OpR X (compareOp .Is) (fun x y H Q => y = .non /\ Q (.bl (decide (x = .non))) H) := by
  intro pins s σ H x y v u Q I rx ry h
  obtain ⟨rfl, q⟩ := h
  cases ry
  refine is_none_gen (qP I q ?_)
  cases x <;> first
    | (cases rx; rfl)
    | (obtain ⟨t, rfl⟩ := rx; rfl)
theorem qhf : OpR X (compareOp .IsNot) (fun x y H Q => y = .non /\ Q (.bl (!decide (x = .non))) H) := by
  intro pins s σ H x y v u Q I rx ry h
  obtain ⟨rfl, q⟩ := h
  cases ry
  refine isnot_none_gen (qP I q ?_)
  cases x <;> first
    | (cases rx; rfl)
    | (obtain ⟨t, rfl⟩ := rx; rfl)
theorem OpR.or {f : Value -> Value -> Sem Value} {r r' : R2} (h : OpR X f r) (h' : OpR X f r') : OpR X f (fun x y H Q => r x y H Q \/ r' x y H Q) := by
  intro pins s σ H x y v u Q I rx ry q
  rcases q with q | q
  . exact h pins s σ H x y v u Q I rx ry q
  . exact h' pins s σ H x y v u Q I rx ry q
theorem zF (b : Expr) {op : CmpOp} (h : op ≠ .In := by decide) (h2 : op ≠ .NotIn := by decide) : behindInMarks op b = false := by
  have e1 : (op == CmpOp.In) = false := by cases op <;> first | rfl | exact absurd rfl h
  have e2 : (op == CmpOp.NotIn) = false := by cases op <;> first | rfl | exact absurd rfl h2
  cases b <;> simp [behindInMarks, e1, e2]
theorem qhg {op : CmpOp} {r : R2} (ho : OpR X (compareOp op) r) (ha : PE X a ta) (hb : PE X b tb) (hm : behindInMarks op b = false) : PE X (.Compare a [op] [b] pos) (tOp r ta tb) := by
  intro pins s σ H Q I h
  exact wpAny_Compare1 (qkt ha hb I h fun v u s2 x y H2 I2 rx ry q => ho pins s2 σ H2 x y v u Q I2 rx ry q) hm
def qkA (t : TE) : TT := fun σ H Q => t σ H fun x H' => ∃ k, x = .bl k /\ Q k H'
theorem qdM {op : CmpOp} {r : R2} (ho : OpR X (compareOp op) r) (ha : PE X a ta) (hb : PE X b tb) (hm : behindInMarks op b = false) : PT X (.Compare a [op] [b] pos) (qkA (tOp r ta tb)) := by
  intro pins s σ H Q I h
  refine wpAny_isTrue_Compare1 (thn (ha pins s σ H _ I h) fun v s1 ⟨x, H1, I1, r1, q1⟩ => thn (hb pins s1 σ H1 _ I1 q1) fun u s2 ⟨y, H2, I2, r2, q2⟩ =>
    thn (ho pins s2 σ H2 x y v u _ I2 r1 r2 q2) fun c s3 ⟨z, H3, I3, r3, k, e, q3⟩ => ?_) hm
  subst e
  cases r3
  exact wpAny_truthy_bool ⟨H3, I3, q3⟩
theorem v7 : (sizeLine : Nat) < 2 ^ 63 := by rw [sizeLine_eq]; decide
theorem qc8 : OpR X (binaryOp .Add) (fun x y H Q => ∃ i j, x = .str i /\ y = .str j /\ i.length + j.length <= sizeLine /\ Q (.str (i ++ j)) H) := by
  intro pins s σ H x y v u Q I rx ry h
  obtain ⟨i, j, rfl, rfl, hz, q⟩ := h
  obtain ⟨t, rfl⟩ := rx
  obtain ⟨t', rfl⟩ := ry
  exact add_str (fun t' tk => ⟨.str (i ++ j), H, I.tok _, ⟨_, rfl⟩, q⟩) hz
theorem qfl {x : V} {us : List Value} (r : qY [x] us) : ∃ u, us = [u] /\ jv x u := by
  cases r with
  | cons r1 r2 => cases r2; exact ⟨_, rfl, r1⟩
theorem qhh {x y : V} {us : List Value} (r : qY [x, y] us) : ∃ u w', us = [u, w'] /\ jv x u /\ jv y w' := by
  cases r with
  | cons r1 r2 =>
    cases r2 with
    | cons r3 r4 => cases r4; exact ⟨_, _, rfl, r1, r3⟩
theorem qfm : yD X (.builtin "abs") (fun xs H Q => ∃ i, xs = [.int i] /\ Q (.int (if i < 0 then -i else i)) H) := by
  intro pins s σ H xs us Q I r h
  obtain ⟨i, rfl, q⟩ := h
  obtain ⟨u, rfl, t, rfl⟩ := qfl r
  exact call_abs_int fun u tk => ⟨.int (if i < 0 then -i else i), H, I.tok _, ⟨_, rfl⟩, q⟩
theorem qdN (hc : X.calm = true) : yD X (.builtin "max") (fun xs H Q => ∃ i j, xs = [.int i, .int j] /\ Q (.int (if j > i then j else i)) H) := by
  intro pins s σ H xs us Q I r h
  obtain ⟨i, j, rfl, q⟩ := h
  obtain ⟨u, w', rfl, ⟨t, rfl⟩, ⟨t', rfl⟩⟩ := qhh r
  refine max_two_ints (I.ok.hd hc) fun h' tk k => ⟨_, H, I.kept k, ?_, q⟩
  by_cases hj : j > i
  . rw [if_pos hj, if_pos hj]; exact ⟨_, rfl⟩
  . rw [if_neg hj, if_neg hj]; exact ⟨_, rfl⟩
theorem v8 (hc : X.calm = true) : yD X (.builtin "min") (fun xs H Q => ∃ i j, xs = [.int i, .int j] /\ Q (.int (if j < i then j else i)) H) := by
  intro pins s σ H xs us Q I r h
  obtain ⟨i, j, rfl, q⟩ := h
  obtain ⟨u, w', rfl, ⟨t, rfl⟩, ⟨t', rfl⟩⟩ := qhh r
  refine min_two_ints (I.ok.hd hc) fun h' tk k => ⟨_, H, I.kept k, ?_, q⟩
  by_cases hj : j < i
  . rw [if_pos hj, if_pos hj]; exact ⟨_, rfl⟩
  . rw [if_neg hj, if_neg hj]; exact ⟨_, rfl⟩
theorem qbX : yD X (.builtin "divmod") (fun xs H Q => ∃ i j, xs = [.int i, .int j] /\ qiY i j /\ ∀ p, H p = none -> Q (.ref p) (upd H p (.tup [.int (i / j), .int (i % j)]))) := by
  intro pins s σ H xs us Q I r h
  obtain ⟨i, j, rfl, ⟨h1, h2⟩, q⟩ := h
  obtain ⟨u, w', rfl, ⟨t, rfl⟩, ⟨t', rfl⟩⟩ := qhh r
  refine divmod_int (by omega) ?_ (.inl (qk8 h1 h2))
  rw [Int.fdiv_eq_ediv_of_nonneg i (by omega), Int.fmod_eq_emod_of_nonneg i (by omega)]
  have hn : H s.heap.objs.size = none := I.hok.fresh (Nat.le_refl _)
  refine ⟨.ref s.heap.objs.size, _, ?_, rfl, q _ hn⟩
  refine I.laid (fun b o e => Heap.get?_push_of_some _ e) (Nat.le_refl _) ⟨by simp only [List.length_cons, List.length_nil]; rw [sizeLine_eq]; decide, [.int (i / j) s.toks, .int (i % j) (s.toks + 1)], .cons ⟨_, rfl⟩ (.cons ⟨_, rfl⟩ .nil), ?_⟩
  exact ⟨_, Heap.get?_push_size s.heap rfl, rfl, 0, rfl⟩
end
end L2
namespace L2
open PySem PySem.Spec PyProof.Rows
structure qkB (h : Heap) (x dx C : Addr) (mA : Str -> Option Value) : Prop where
  obj : h.get? x = some (PySem.W.instObj C dx)
  ns : h.Ns1 dx mA
  ne : dx ≠ x
theorem qdO {h : Heap} {dx : Addr} {mA : Str -> Option Value} (n : h.Ns1 dx mA) : ∃ od, h.get? dx = some od /\ ∀ name, PySem.W.lookIn name od = some (mA name) := by
  obtain ⟨o, es, ep, ho, hd, hk, _, hm⟩ := n
  refine ⟨o, ho, fun name => ?_⟩
  have e := hm name
  unfold nsFind findBy at e
  rw [<- Array.find?_toList] at e
  unfold PySem.W.lookIn
  rw [hd]
  dsimp only
  split
  . rename_i y q
    rw [q] at e
    exact congrArg some e
  . rename_i q
    rw [q] at e
    have a : es.toList.any (·.refKey) = false := by
      rw [List.any_eq_false]
      intro y hy
      obtain ⟨z, t, hkey⟩ := hk y (Array.mem_toList_iff.mp hy)
      simp [DictEntry.refKey, hkey]
    have a' : ¬ es.toList.any (·.refKey) = true := by rw [a]; exact Bool.false_ne_true
    rw [if_neg a']
    exact congrArg some e
theorem qkB.look {h : Heap} {x dx C : Addr} {mA : Str -> Option Value} (I : qkB h x dx C mA) : ∃ od, PySem.W.InstAt h x (PySem.W.instObj C dx) C (some od) /\ ∀ name, PySem.W.lookIn name od = some (mA name) :=
  let ⟨od, ho, hl⟩ := qdO I.ns
  ⟨od, ⟨I.obj, rfl, rfl, ho⟩, hl⟩
section
variable {prog : Program} {w : World} {A : Around} {E : Value -> Shared -> Prop} {s : Shared} {K : PySem.W.Frag} {x dx C f : Addr} {mA : Str -> Option Value} {name : Str} {v : Value}
end
def qlK (f : Str) (v : V) : List (Str × V) -> List (Str × V)
  | [] => [(f, v)]
  | (g, x) :: r => if g = f then (g, v) :: r else (g, x) :: qlK f v r
section
variable {P : Program} {w : World} {H H' : Hp} {h h' : Heap} {a C dx : Addr} {fs fs' : List (Str × V)}
theorem qhi (hok : HOk P w H h) (e : H a = some (.ins C dx fs)) : ∃ mA, qkB h a dx C mA /\ (∀ f, qkh (fs.lookup f) (mA f)) /\ PySem.Within mA (fs.map (·.1)) /\ fs.length <= 1000 /\ H dx = some (.own a) := by
  obtain ⟨d, z, ne, ob, mA, n, r, q⟩ := (show yf P w H h a (.ins C dx fs) from hok a _ e)
  exact ⟨mA, ⟨ob, n, ne⟩, r, q, z, d⟩
end
structure Cls (K : PySem.W.Frag) (C : Addr) : Prop where
  pg : PySem.W.plainGet K C Str.empty = true
  hd : PySem.W.hasDictIn K C = true
  po : PySem.W.plainOver K C = true
  sa : PySem.W.findIn K (.ref C) "__setattr__" = some (some (.builtin "object.__setattr__"))
theorem Cls.get {K : PySem.W.Frag} {C : Addr} (c : Cls K C) (f : Str) : PySem.W.plainGet K C f = true := c.pg
structure Con (K : PySem.W.Frag) (C : Addr) (f : Str) (v : V) (u : Value) : Prop where
  at_ : PySem.W.findIn K (.ref C) f = some (some u)
  rel : jv v u
  get : PySem.W.specialIn K u "__get__" = some none
  cp : PySem.W.copiedNames.contains f = false
structure qma (K : PySem.W.Frag) (C : Addr) (m : Str) (f : Addr) : Prop where
  at_ : PySem.W.findIn K (.ref C) m = some (some (.ref f))
  fn : PySem.W.isFn K (.ref f) = true
  kp : PySem.W.keepIn K (.ref f) = true
section
variable {X : Cx} {pins : List (Addr × Obj)} {σ : St} {H : Hp} {s : Shared} {a C dx : Addr} {fs : List (Str × V)} {f : Str} {v : V} {A : Around} {E : Value -> Shared -> Prop}
end
section
variable {X : Cx} {o e value : Expr} {f : Str} {pos pos' tpos : Pos} {ta tv : TE}
end
section
variable {X : Cx} {pins : List (Addr × Obj)} {σ : St} {H : Hp} {s : Shared} {A : Around} {E : Value -> Shared -> Prop} {Q : Value -> Shared -> Prop} {c : Value} {b : Bool}
inductive qdA (K : PySem.W.Frag) (H : Hp) : V -> Value -> Prop where
  | non : qdA K H .non (.type "NoneType")
  | bl (x : Bool) : qdA K H (.bl x) (.type "bool")
  | int (i : Int) : qdA K H (.int i) (.type "int")
  | str (x : Str) : qdA K H (.str x) (.type "str")
  | flt (x : UInt64) : qdA K H (.flt x) (.type "float")
  | lst {a : Addr} {xs : List V} (e : H a = some (.lst xs)) : qdA K H (.ref a) (.type "list")
  | frz {a : Addr} {o : Obj} {xs : List V} (e : H a = some (.frz o (.lst xs))) : qdA K H (.ref a) (.type "list")
  | tup {a : Addr} {xs : List V} (e : H a = some (.tup xs)) : qdA K H (.ref a) (.type "tuple")
  | dK {a : Addr} {kvs : List (Key × V)} (e : H a = some (.dK kvs)) : qdA K H (.ref a) (.type "dict")
  | dT {a : Addr} {kvs : List (List Key × V)} (e : H a = some (.dT kvs)) : qdA K H (.ref a) (.type "dict")
  | ins {a C dx : Addr} {fs : List (Str × V)} (e : H a = some (.ins C dx fs)) (cl : Cls K C) (ha : PySem.W.findIn K (.ref C) "__class__" = some (some (.builtin "object.__class__")))
      (hn : PySem.W.specialIn K (.builtin "object.__class__") "__get__" = some (some (.builtin "getset_descriptor.__get__"))) (htk : PySem.W.takesIn K (.builtin "object.__class__") = some true)
      (hm : PySem.W.mroIn K C (.type "object") = some true) : qdA K H (.ref a) (.ref C)
theorem yI {x : V} {u t : Value} (I : Inv X pins σ H s) (rx : jv x u) (ty : qdA X.K H x t) (e : PySem.W.kitOne X.K t c = some b) (h : ∀ tk, Q (.bool b) { s with toks := tk }) :
    wpAny (model X.prog X.w) A (call (.builtin "isinstance") [u, c]) Q E s := by
  cases ty with
  | non => cases (show u = Value.none from rx); exact PySem.W.kia_one PySem.W.kitx_none I.kIn True.intro e (fun z => nomatch z) h
  | bl y => cases (show u = Value.bool y from rx); exact PySem.W.kia_one PySem.W.kitx_bool I.kIn True.intro e (fun z => nomatch z) h
  | int i => obtain ⟨t, q⟩ := (show ∃ t, u = Value.int i t from rx); cases q; exact PySem.W.kia_one PySem.W.kitx_int I.kIn True.intro e (fun z => nomatch z) h
  | str y => obtain ⟨t, q⟩ := (show ∃ t, u = Value.str y t from rx); cases q; exact PySem.W.kia_one PySem.W.kitx_str I.kIn True.intro e (fun z => nomatch z) h
  | flt y => obtain ⟨t, q⟩ := (show ∃ t, u = Value.float y t from rx); cases q; exact PySem.W.kia_one PySem.W.kitx_float I.kIn True.intro e (fun z => nomatch z) h
  | @lst a xs ea =>
    cases (show u = Value.ref a from rx)
    obtain ⟨_, _, n, _, h1⟩ := (show yf X.prog X.w H s.heap a (.lst xs) from I.hok a _ ea)
    exact PySem.W.kia_one PySem.W.kitx_list I.kIn ⟨_, h1, rfl⟩ e (fun z => nomatch z) h
  | @frz a ob xs ea =>
    cases (show u = Value.ref a from rx)
    obtain ⟨_, _, _, n, _, h1⟩ := (show yf X.prog X.w H s.heap a (.frz ob (.lst xs)) from I.hok a _ ea)
    exact PySem.W.kia_one PySem.W.kitx_list I.kIn ⟨_, h1, rfl⟩ e (fun z => nomatch z) h
  | @tup a xs ea =>
    cases (show u = Value.ref a from rx)
    obtain ⟨_, _, _, p⟩ := (show yf X.prog X.w H s.heap a (.tup xs) from I.hok a _ ea)
    obtain ⟨o, h1, h2, _⟩ := p
    exact PySem.W.kia_one PySem.W.kitx_tuple I.kIn ⟨o, h1, h2⟩ e (fun z => nomatch z) h
  | @dK a kvs ea =>
    cases (show u = Value.ref a from rx)
    obtain ⟨_, _, vs, _, p⟩ := (show yf X.prog X.w H s.heap a (.dK kvs) from I.hok a _ ea)
    obtain ⟨o, es, ep, h1, h2, _⟩ := p
    exact PySem.W.kia_one PySem.W.kitx_dict I.kIn ⟨o, h1, h2.1⟩ e (fun z => nomatch z) h
  | @dT a kvs ea =>
    cases (show u = Value.ref a from rx)
    obtain ⟨_, _, xs, _, o, es, ep, h1, h2, _⟩ := (show yf X.prog X.w H s.heap a (.dT kvs) from I.hok a _ ea)
    exact PySem.W.kia_one PySem.W.kitx_dict I.kIn ⟨o, h1, h2.1⟩ e (fun z => nomatch z) h
  | @ins a C dx fs ea cl ha hn htk hm =>
    cases (show u = Value.ref a from rx)
    obtain ⟨mA, O, _⟩ := qhi I.hok ea
    obtain ⟨od, J, _⟩ := O.look
    exact PySem.W.kia_one (PySem.W.kitx_own (cl.get _) cl.hd ha hn htk hm) I.kIn J e (fun z => nomatch z) h
end
end L2
namespace L2
open PySem PySem.Spec PyProof.Rows
structure y9 (k : Nat) (A : Around) : Prop where
  hd : A.handled = none
  dp : A.depth + 3 * k + 5 < recursionLimit
  un : A.units + 16 * k + 200 < cLine
  gd : A.guards = some []
theorem y9.mono {j k : Nat} {A : Around} (r : y9 k A) (h : j <= k) : y9 j A := ⟨r.hd, by have := r.dp; omega, by have := r.un; omega, r.gd⟩
theorem y9.deeper {k : Nat} {A : Around} (r : y9 (k + 1) A) (env : Env) : y9 k (A.deeper env) :=
  ⟨r.hd, by have := r.dp; show A.depth + 1 + 3 * k + 5 < _; omega, by have := r.un; show A.units + 3 + 16 * k + 200 < _; omega, r.gd⟩
theorem y9.depth {k : Nat} {A : Around} (r : y9 k A) : A.depth < recursionLimit := by have := r.dp; omega
theorem y9.units {k : Nat} {A : Around} (r : y9 k A) : A.units + 64 < cLine := by have := r.un; omega
def qla : TA := fun _ H Q => Q [] H
def qhj (ta : TE) (tr : TA) : TA := fun σ H Q => ta σ H fun x H1 => tr σ H1 fun xs H2 => Q (x :: xs) H2
section
variable {X : Cx} {e : Expr} {es : List Expr} {te : TE} {t : TA} {pos : Pos}
theorem uX : PA X [] qla := fun _ _ _ _ H Q I h => Calls.spliced_nil ⟨[], H, I, .nil, h⟩
theorem jk (ha : PE X e te) (hr : PA X es t) (hs : starEach (e :: es) X.env = (false, eval e X.env) :: starEach es X.env := by rfl) : PA X (e :: es) (qhj te t) := by
  intro pos pins s σ H Q I h
  rw [hs]
  show wpAny _ _ (spliced ((false, eval e X.env) :: backTo pos (starEach es X.env))) _ _ s
  refine Calls.spliced_cons (thn (ha pins s σ H _ I h) fun u s1 ⟨x, H1, I1, r1, q1⟩ => ?_)
  exact thn (hr pos pins s1 σ H1 _ I1 q1) fun us s2 ⟨xs, H2, I2, r2, q2⟩ => ⟨x :: xs, H2, I2, .cons r1 r2, q2⟩
def qlL (t : TA) : TE := fun σ H Q => t σ H fun xs H1 => xs.length <= sizeLine /\ ∀ p, H1 p = none -> Q (.ref p) (upd H1 p (.tup xs))
def qlM (t : TA) : TE := fun σ H Q => t σ H fun xs H1 => xs.length <= sizeLine /\ ∀ p, H1 p = none -> Q (.ref p) (upd H1 p (.lst xs))
theorem qi7 {x1} (h : PA X es t) : PE X (.Tuple es x1 pos) (qlL t) := by
  intro pins s σ H Q I hq
  refine wpAny_Tuple_spliced (thn (h pos pins s σ H _ I hq) fun us s1 ⟨xs, H1, I1, r, z, q⟩ => ⟨by rw [<- r.length]; exact z, ?_⟩)
  have hf : H1 s1.heap.objs.size = none := I1.hok.fresh (Nat.le_refl _)
  refine ⟨.ref s1.heap.objs.size, upd H1 s1.heap.objs.size (.tup xs), I1.laid (t' := s1.toks) (fun b u e => Heap.get?_push_of_some _ e) (Nat.le_refl _) ?_, rfl, q _ hf⟩
  exact ⟨z, us, r, ⟨_, Heap.get?_push_size _ rfl, rfl, _, rfl⟩⟩
theorem qdP (h : PA X es t) : PE X (.List es pos) (qlM t) := by
  intro pins s σ H Q I hq
  refine wpAny_List_spliced (thn (h pos pins s σ H _ I hq) fun us s1 ⟨xs, H1, I1, r, z, q⟩ => ⟨by rw [<- r.length]; exact z, ?_⟩)
  have hf : H1 s1.heap.objs.size = none := I1.hok.fresh (Nat.le_refl _)
  refine ⟨.ref s1.heap.objs.size, upd H1 s1.heap.objs.size (.lst xs), I1.laid (t' := s1.toks) (fun b u e => Heap.get?_push_of_some _ e) (Nat.le_refl _) ?_, rfl, q _ hf⟩
  exact ⟨z, us, 0, r, Heap.get?_push_size _ rfl⟩
end
abbrev Sp := List V -> Hp -> VK -> XK -> Prop
abbrev CXT := List Env -> Hp -> Shared -> XK -> Value -> Shared -> Prop
structure qiw (P : Program) (w : World) (K : PySem.W.Frag) (mg : Str -> Option Value) (base : Heap) (A : Around) (outer : List Env) (s : Shared) (H : Hp) : Prop where
  frames : A.frames = some outer
  mod : Mod K mg base
  bs : ∀ b o, base.get? b = some o -> s.heap.get? b = some o /\ H b = none
  bsz : base.objs.size <= s.heap.objs.size
  funs : s.heap.FunFrames base outer
  frf : ∀ b ∈ frs outer, H b = none
  hok : HOk P w H s.heap
  bare : AllBare s.gens
def CE (outer : List Env) (P : Program) (w : World) (H : Hp) (s : Shared) (Q : VK) (u : Value) (s' : Shared) : Prop :=
  ∃ v H', s'.os = s.os /\ AllBare s'.gens /\ Un (frs outer) [] H H' s.heap s'.heap /\ HOk P w H' s'.heap /\ jv v u /\ Q v H'
def CR (CX : CXT) (outer : List Env) (P : Program) (w : World) (H : Hp) (s : Shared) (Q : VK) (E : XK) (r : Result) (s' : Shared) : Prop :=
  match r with
  | .ok (.ret u) => CE outer P w H s Q u s'
  | .ok _ => False
  | .error e => CX outer H s E e s'
structure jR (P : Program) (w : World) (K : PySem.W.Frag) (mg : Str -> Option Value) (base : Heap) (CX : CXT) (k : Nat) (f : Addr) (fd : FuncData) (ps : List Str) (sp : Sp) : Prop where
  len : ∀ vs H Q E, sp vs H Q E -> vs.length = ps.length
  run : ∀ (A : Around) (outer : List Env) (s : Shared) (H : Hp) (args : Args) (us : List Value) (vs : List V) (Q : VK) (E : XK), y9 k A -> qiw P w K mg base A outer s H -> BindsTo s fd args (ps.zip us) -> qY vs us -> sp vs H Q E ->
    codeAny (model P w) A (.call (.ref f) args) (CR CX outer P w H s Q E) s
theorem jR.mono {P : Program} {w : World} {K : PySem.W.Frag} {mg : Str -> Option Value} {base : Heap} {CX : CXT} {j k : Nat} {f : Addr} {fd : FuncData} {ps : List Str} {sp : Sp} (F : jR P w K mg base CX j f fd ps sp) (h : j <= k) :
    jR P w K mg base CX k f fd ps sp := ⟨F.len, fun A outer s H args us vs Q E hr => F.run A outer s H args us vs Q E (hr.mono h)⟩
section
variable {X : Cx} {pins : List (Addr × Obj)} {σ : St} {H : Hp} {s s' : Shared}
theorem Inv.env0 (I : Inv X pins σ H s) : qiw X.prog X.w X.K X.mg X.base X.A X.stack s H :=
  ⟨I.ok.frames, I.ok.mod, I.bs, Nat.le_trans I.ok.bsz I.sz, I.stack, I.stkFree, I.hok, I.bare⟩
theorem Inv.after {Q : VK} {u : Value} (I : Inv X pins σ H s) (h : CE X.stack X.prog X.w H s Q u s') : EP X pins σ Q u s' := by
  obtain ⟨v, H', os, bare, un, hok, r, q⟩ := h
  obtain ⟨hh, g, d, t, os'⟩ := s'
  obtain rfl : os' = s.os := os
  exact ⟨v, H', I.call (h' := hh) (g' := g) (d' := d) (t' := t) (ch := []) un hok bare (fun b z => absurd z (by simp)), r, q⟩
end
def qkC (sp : Sp) (dvs : List V) (E : XK) (t : TA) : TE := fun σ H Q => t σ H fun vs H1 => sp (vs ++ dvs) H1 Q E
def ug (K : PySem.W.Frag) (fd : FuncData) (ps : List Str) (ds : List Value) : Prop :=
  ∀ (s : Shared) (us : List Value), K.In s.heap -> (us ++ ds).length = ps.length -> BindsTo s fd ⟨us, []⟩ (ps.zip (us ++ ds))
theorem ug.all {K : PySem.W.Frag} {fd : FuncData} {ps : List Str} (h : ∀ us : List Value, us.length = ps.length -> bindArgs fd ⟨us, []⟩ = pure (ps.zip us)) : ug K fd ps [] := fun s us _ hl => by
  rw [List.append_nil] at hl |-
  exact .of_eq (h us hl)
def v9 (CX : CXT) (X : Cx) (E : XK) : Prop := ∀ (pins : List (Addr × Obj)) (σ : St) (H : Hp) (s : Shared) (e : Value) (s' : Shared), Inv X pins σ H s -> CX X.stack H s E e s' -> X.xe e s'
section
variable {X : Cx} {CX : CXT} {k : Nat} {f C : Addr} {fd : FuncData} {ps : List Str} {sp : Sp} {dvs : List V} {ds : List Value} {E : XK} {x m : Str} {p pos apos : Pos} {e o : Expr} {es : List Expr} {ta : TE} {t : TA}
theorem qi8 {pins : List (Addr × Obj)} {σ : St} {H : Hp} {s : Shared} {Q : VK} {us : List Value} {vs : List V} (F : jR X.prog X.w X.K X.mg X.base CX k f fd ps sp) (hr : y9 k X.A) (hb : ug X.K fd ps ds) (hd : qY dvs ds) (hx : v9 CX X E)
    (I : Inv X pins σ H s) (r : qY vs us) (h : sp (vs ++ dvs) H Q E) : wpAny (model X.prog X.w) X.A (call (.ref f) us) (EP X pins σ Q) X.xe s := by
  have r2 : qY (vs ++ dvs) (us ++ ds) := r.append hd
  have hl : (us ++ ds).length = ps.length := by rw [<- r2.length]; exact F.len _ _ _ _ h
  refine wpAny_call (codeAny_mono (F.run X.A X.stack s H ⟨us, []⟩ (us ++ ds) (vs ++ dvs) Q E hr I.env0 (hb s us I.kIn hl) r2 h) fun r s' hq => ?_)
  cases r with
  | error e => exact hx pins σ H s e s' I hq
  | ok fl =>
    cases fl with
    | ret u => exact I.after hq
    | next => exact False.elim hq
    | brk => exact False.elim hq
    | cont => exact False.elim hq
theorem wd (F : jR X.prog X.w X.K X.mg X.base CX k f fd ps sp) (hr : y9 k X.A) (hg : Gl X x) (hm : X.mg x = some (.ref f)) (hk : PySem.W.keepIn X.K (.ref f) = true) (hb : ug X.K fd ps ds) (hd : qY dvs ds) (hx : v9 CX X E)
    (ha : PA X (e :: es) t) (hdb : (x == ("__debug__" : Str)) = false := by decide) (he : starEach (e :: es) X.env = (false, eval e X.env) :: starEach es X.env := by rfl) (hpl : (backTo pos (starEach es X.env)).any (·.1) = false := by rfl) :
    PE X (.Call (.Name x p) (e :: es) [] pos) (qkC sp dvs E t) := by
  intro pins s σ H Q I h
  refine wpAny_Call_Name_kw (qaz I hg hm ?_ hdb)
  refine PySem.W.callWith_K (h₀ := X.base) I.ok.mod.kin hk (thn (ha pos pins s σ H _ I h) fun us s1 ⟨vs, H1, I1, r, q⟩ => ⟨I1.kIn, ?_⟩) he hpl
  exact qi8 F hr hb hd hx I1 r q
structure Mk (K : PySem.W.Frag) (C f : Addr) : Prop where
  makes : PySem.W.makesIn K C = true
  init : PySem.W.findIn K (.ref C) "__init__" = some (some (.ref f))
  fn : PySem.W.isFn K (.ref f) = true
  kp : PySem.W.keepIn K (.ref C) = true
end
section
variable {X : Cx} {CX : CXT} {k : Nat} {f C : Addr} {fd : FuncData} {ps ks : List Str} {sp : Sp} {E : XK} {x m : Str} {p pos apos kpos : Pos} {e o : Expr} {es : List Expr} {kws : List Keyword} {te ta : TE} {t tk : TA} {nm : Option Str}
variable {g : List Value -> List Value -> List Value} {gV : List V -> List V -> List V}
end
structure qt (N P : List Str) (sc : Scope) : Prop where
  kind : sc.kind = .function
  co : sc.isCoroutine = false
  gen : sc.isGenerator = false
  nd : N.Nodup
  pre : N.take P.length = P
  par : ∀ x ∈ P, sc.names.lookup x = some .local \/ sc.names.lookup x = some .cell
  nofree : ∀ y ∈ sc.names, y.2 ≠ .free
theorem qbg {kindOf : Str -> Option NameKind} {x : Str} : ∀ {binds : List (Str × Value)} {m : Str -> Option Value}, (∀ v, (x, v) ∉ binds) -> bindL kindOf binds m x = m x
  | [], _, _ => rfl
  | (n, v) :: r, m, h => by
    unfold bindL
    rw [qbg fun w hw => h w (List.mem_cons_of_mem _ hw)]
    split
    . have : x ≠ n := by rintro rfl; exact h v List.mem_cons_self
      simp [this]
    . rfl
theorem qbh {kindOf : Str -> Option NameKind} {x : Str} : ∀ {binds : List (Str × Value)} {m : Str -> Option Value}, (∀ v, (x, v) ∉ binds) -> bindC kindOf binds m x = m x
  | [], _, _ => rfl
  | (n, v) :: r, m, h => by
    unfold bindC
    rw [qbh fun w hw => h w (List.mem_cons_of_mem _ hw)]
    split
    . rfl
    . have : x ≠ n := by rintro rfl; exact h v List.mem_cons_self
      simp [this]
theorem wf {kindOf : Str -> Option NameKind} {x : Str} {v : Value} : ∀ {P : List Str} {vs : List Value} {i : Nat} {m : Str -> Option Value}, P.Nodup -> P[i]? = some x -> vs[i]? = some v -> kindOf x = some .local ->
    bindL kindOf (P.zip vs) m x = some v
  | [], _, _, _, _, h, _, _ => by simp at h
  | _ :: _, [], _, _, _, _, h, _ => by simp at h
  | p :: P, w :: vs, 0, m, nd, h1, h2, hk => by
    simp at h1 h2; subst h1; subst h2
    show bindL kindOf ((p, w) :: P.zip vs) m p = _
    unfold bindL
    rw [qbg fun v hv => (List.nodup_cons.mp nd).1 (List.of_mem_zip hv).1, if_pos hk]
    simp
  | p :: P, w :: vs, i + 1, m, nd, h1, h2, hk => by
    show bindL kindOf ((p, w) :: P.zip vs) m x = _
    unfold bindL
    exact wf (i := i) (List.nodup_cons.mp nd).2 (by simpa using h1) (by simpa using h2) hk
theorem wj {kindOf : Str -> Option NameKind} {x : Str} {v : Value} : ∀ {P : List Str} {vs : List Value} {i : Nat} {m : Str -> Option Value}, P.Nodup -> P[i]? = some x -> vs[i]? = some v -> kindOf x ≠ some .local ->
    bindC kindOf (P.zip vs) m x = some v
  | [], _, _, _, _, h, _, _ => by simp at h
  | _ :: _, [], _, _, _, _, h, _ => by simp at h
  | p :: P, w :: vs, 0, m, nd, h1, h2, hk => by
    simp at h1 h2; subst h1; subst h2
    show bindC kindOf ((p, w) :: P.zip vs) m p = _
    unfold bindC
    rw [qbh fun v hv => (List.nodup_cons.mp nd).1 (List.of_mem_zip hv).1, if_neg hk]
    simp
  | p :: P, w :: vs, i + 1, m, nd, h1, h2, hk => by
    show bindC kindOf ((p, w) :: P.zip vs) m x = _
    unfold bindC
    exact wj (i := i) (List.nodup_cons.mp nd).2 (by simpa using h1) (by simpa using h2) hk
def zL (N : List Str) (vs : List V) : St := vs.map some ++ List.replicate (N.length - vs.length) none
def qe7 (CX : CXT) (P : Program) (w : World) (K : PySem.W.Frag) (mg : Str -> Option Value) (base : Heap) (N : List Str) (qual : Str) (scope : Scope) (f : Addr) (cd : Value) (A : Around) (outer : List Env) (s : Shared) (H : Hp) (E : XK) : Cx where
  prog := P
  w := w
  K := K
  mg := mg
  base := base
  A := A.deeper (envOfC qual scope s.heap.objs.size f cd)
  N := N
  s₀ := s
  H₀ := H
  env := envOfC qual scope s.heap.objs.size f cd
  outer := outer
  stack := envOfC qual scope s.heap.objs.size f cd :: outer
  ex := []
  calm := true
  fn := fun _ => true
  pn := []
  xe := fun e s' => wpAny (model P w) (A.deeper (envOfC qual scope s.heap.objs.size f cd)) (leaving (envOfC qual scope s.heap.objs.size f cd) e) (fun _ s'' => CX outer H s E e s'') (fun e' s'' => CX outer H s E e' s'') s'
theorem vW {sc : Scope} {n : Nat} {x : Str} (h : sc.names.lookup x = some .cell) : ∃ c, (cellsFrom n sc.names []).lookup x = some c := by
  have q := PySem.W.cellsFrom_some sc.names n [] (.inl h)
  exact Option.isSome_iff_exists.mp q
theorem qdQ {CX : CXT} {P : Program} {w : World} {K : PySem.W.Frag} {mg : Str -> Option Value} {base : Heap} {N ps : List Str} {qual : Str} {scope : Scope} {f : Addr} {cd : Value} {A : Around} {outer : List Env} {s s1 : Shared} {H : Hp} {E : XK} {us : List Value} {vs : List V}
    (S : qt N ps scope) (hd : A.handled = none) (e0 : qiw P w K mg base A outer s H) (hl : vs.length = ps.length) (r : qY vs us)
    (x : InCallC s s.heap.objs.size (bindL (envOfC qual scope s.heap.objs.size f cd).kindOf (ps.zip us) fun _ => none) (cellsFrom (s.heap.objs.size + 1) scope.names []) (bindC (envOfC qual scope s.heap.objs.size f cd).kindOf (ps.zip us) fun _ => none) s1) :
    Inv (qe7 CX P w K mg base N qual scope f cd A outer s H E) [] (zL N vs) H s1 := by
  have hpl : ps.length <= N.length := by have := congrArg List.length S.pre; rw [List.length_take] at this; omega
  obtain ⟨h1, tk, rfl, hk⟩ := x.done
  have noA : ∀ b : Addr, b ∉ (qe7 CX P w K mg base N qual scope f cd A outer s H E).ex := fun b z => absurd (show b ∈ ([] : List Addr) from z) (by simp)
  refine ⟨⟨e0.mod, S.kind, rfl, rfl, Nat.le_refl _, fun y z c h1 h2 => ?_, fun y hy => ?_, fun y c _ h => ?_, fun _ => hd, Around.frames_deeper e0.frames, .inr ⟨rfl, rfl⟩, fun b z => absurd z (noA b), e0.bs, e0.bsz, fun b _ _ => noA b, fun b z => absurd z (noA b), e0.funs, e0.frf⟩,
    rfl, e0.bare, Un.kept hk, ⟨_, x.toInCall.ns, fun i y v h1 h2 h3 => ?_⟩, fun y c h => ⟨_, x.cell y c h⟩, e0.hok.fresh (Nat.le_refl _), fun y c h => ?_, fun p hp => absurd (show p ∈ ([] : List (Addr × Obj)) from hp) (by simp), e0.hok.kept hk, ?_⟩
  . exact name_of_addr x.apart (PySem.mem_of_lookup h1) (PySem.mem_of_lookup h2)
  . have hy : scope.names.lookup y = some .cell \/ scope.names.lookup y = some .free := hy
    rcases hy with hy | hy
    . exact vW hy
    . exact absurd rfl (S.nofree _ (PySem.mem_of_lookup hy))
  . exact Nat.le_of_lt (x.above y c (PySem.mem_of_lookup h))
  . have hi : i < vs.length := by
      unfold zL at h2
      by_cases hi : i < vs.length
      . exact hi
      . rw [List.getElem?_append_right (by simpa using hi)] at h2
        rw [List.getElem?_replicate] at h2
        split at h2 <;> cases h2
    have ha : vs[i]? = some v := by
      unfold zL at h2
      rw [List.getElem?_append_left (by simpa using hi), List.getElem?_map] at h2
      cases e : vs[i]? with
      | none => rw [e] at h2; cases h2
      | some a => rw [e] at h2; cases h2; rfl
    obtain ⟨u, hu, rv⟩ := r.get ha
    have hp : ps[i]? = some y := by
      rw [<- S.pre, List.getElem?_take_of_lt (by omega)]; exact h1
    have ndP : ps.Nodup := by rw [<- S.pre]; exact S.nd.sublist (List.take_sublist _ _)
    refine ⟨u, rv, ?_⟩
    rcases S.par y (List.mem_of_getElem? hp) with k | k
    . exact .inl ⟨k, wf ndP hp hu k⟩
    . obtain ⟨c, e⟩ := vW (n := s.heap.objs.size + 1) k
      refine .inr ⟨.inl k, c, e, ?_⟩
      have q := x.cell y c e
      rw [wj ndP hp hu (by show scope.names.lookup y ≠ _; rw [k]; decide)] at q
      exact q
  . exact e0.hok.fresh (Nat.le_of_lt (x.above y c (PySem.mem_of_lookup h)))
  . unfold zL
    show _ = N.length
    rw [List.length_append, List.length_map, List.length_replicate]
    omega
theorem qi9 {CX : CXT} {P : Program} {w : World} {K : PySem.W.Frag} {mg : Str -> Option Value} {base : Heap} {k : Nat} {f : Addr} {name qual : Str} {params : Arguments} {body : List Stmt} {scope : Scope} {dV kV doc pm cdv ct oc : Value} {an od : Option Addr}
    {osl : Array (Option Value)} {N ps : List Str} {sp : Sp} (lk : K.lookup f = some ⟨oc, od, .func (PySem.W.fnOf name qual params body scope dV kV doc pm an cdv ct), osl⟩) (hcd : PySem.W.codeIn K cdv qual = true) (S : qt N ps scope)
    (len : ∀ vs H Q E, sp vs H Q E -> vs.length = ps.length)
    (hbody : ∀ (A : Around) (outer : List Env) (s : Shared) (H : Hp) (vs : List V) (Q : VK) (E : XK), y9 k (A.deeper (envOfC qual scope s.heap.objs.size f cdv)) -> sp vs H Q E ->
      ∃ t, PSs (qe7 CX P w K mg base N qual scope f cdv A outer s H E) body t /\ t { nx := fun _ H' => Q .non H', rt := Q } (zL N vs) H) :
    jR P w K mg base CX (k + 1) f (PySem.W.fnOf name qual params body scope dV kV doc pm an cdv ct) ps sp := by
  refine ⟨len, fun A outer s H args us vs Q E hr e0 hb r hsp => ?_⟩
  have hl := len _ _ _ _ hsp
  have KX : K.In s.heap := e0.mod.kin.keeps fun b o e => (e0.bs b o e).1
  have lim : s.heap.NoLimit := e0.mod.nolimit.keeps fun b o e => (e0.bs b o e).1
  have hkind : ∀ y ∈ ps.zip us, scope.names.lookup y.1 = some .local \/ (scope.names.lookup y.1 = some .cell /\ ((cellsFrom (s.heap.objs.size + 1) scope.names []).lookup y.1).isSome = true) := fun ⟨n, v⟩ hy => by
    rcases S.par n (List.of_mem_zip hy).1 with q | q
    . exact .inl q
    . exact .inr ⟨q, PySem.W.cellsFrom_some _ _ _ (.inl q)⟩
  refine codeAny_call_function hr.depth (KX _ _ lk) rfl S.co S.gen rfl (PySem.W.codeRec_of KX hcd) (hb _ _ _ _ ?_)
  refine wpAny_newFunctionEnv_cells S.kind hkind fun env he s1 x => ?_
  subst he
  refine ⟨lim.keeps x.toInCall.keep, codeAny_func ?_⟩
  obtain ⟨t, ht, hq⟩ := hbody A outer s H vs Q E (hr.deeper _) hsp
  have I : Inv (qe7 CX P w K mg base N qual scope f cdv A outer s H E) [] (zL N vs) H s1 := qdQ S hr.hd e0 hl r x
  refine wpAny_mono (ht [] s1 (zL N vs) H _ I hq) (fun fl s' hs => ?_) fun e s' hs => hs
  have fin : ∀ {σ' : St} {H' : Hp} {v : V} {u : Value}, Inv (qe7 CX P w K mg base N qual scope f cdv A outer s H E) [] σ' H' s' -> jv v u -> Q v H' -> CE outer P w H s Q u s' :=
    fun {σ' H' v u} J rv q => ⟨v, H', J.os, J.bare, J.base, J.hok, rv, q⟩
  cases fl with
  | ret u =>
    obtain ⟨v, σ', H', J, rv, q⟩ := hs
    exact fin J rv q
  | next =>
    obtain ⟨σ', H', J, q⟩ := hs
    exact fin (v := V.non) (u := Value.none) J rfl q
  | brk =>
    obtain ⟨_, _, _, q⟩ := hs
    exact False.elim q
  | cont =>
    obtain ⟨_, _, _, q⟩ := hs
    exact False.elim q
end L2
namespace L2
open PySem PySem.Spec PyProof.Rows
section
variable {X : Cx} {x : Str} {p pos : Pos} {e : Expr} {es : List Expr} {t : TA} {id T : String} {r : List V -> Hp -> VK -> Prop}
def tCB (r : List V -> Hp -> VK -> Prop) (t : TA) : TE := fun σ H Q => t σ H fun vs H1 => r vs H1 Q
theorem uY (hc : yD X (.builtin id) r) (hg : Gl X x) (hm : X.mg x = none) (hv : bootBuiltins x = some (.builtin id)) (ha : PA X (e :: es) t) (hn : x ≠ "__name__" := by decide) (hdb : (x == ("__debug__" : Str)) = false := by decide)
    (he : starEach (e :: es) X.env = (false, eval e X.env) :: starEach es X.env := by rfl) (hpl : (backTo pos (starEach es X.env)).any (·.1) = false := by rfl) : PE X (.Call (.Name x p) (e :: es) [] pos) (tCB r t) := by
  intro pins s σ H Q I h
  refine wpAny_Call_Name_kw (qad I hg hm hv ?_ hn hdb)
  exact PyProof.Rows.callWith_builtin1 (thn (ha pos pins s σ H _ I h) fun us s1 ⟨vs, H1, I1, r1, q1⟩ => hc pins s1 σ H1 vs us Q I1 r1 q1) he hpl
theorem qdR (hc : yD X (.type T) r) (hg : Gl X x) (hm : X.mg x = none) (hv : bootBuiltins x = some (.type T)) (ha : PA X (e :: es) t) (hn : x ≠ "__name__" := by decide) (hdb : (x == ("__debug__" : Str)) = false := by decide)
    (he : starEach (e :: es) X.env = (false, eval e X.env) :: starEach es X.env := by rfl) (hpl : (backTo pos (starEach es X.env)).any (·.1) = false := by rfl) : PE X (.Call (.Name x p) (e :: es) [] pos) (tCB r t) := by
  intro pins s σ H Q I h
  refine wpAny_Call_Name_kw (qad I hg hm hv ?_ hn hdb)
  exact PyProof.Rows.callWith_type1 (thn (ha pos pins s σ H _ I h) fun us s1 ⟨vs, H1, I1, r1, q1⟩ => hc pins s1 σ H1 vs us Q I1 r1 q1) he hpl
end
end L2
namespace HT
open PySem PyProof.Rows
def lexLt : List Int -> List Int -> Bool
  | [], [] => false
  | [], _ :: _ => true
  | _ :: _, [] => false
  | x :: xs, y :: ys => if x = y then lexLt xs ys else decide (x < y)
section
open PySem.SeqAt
open PySem.AutoSeq1 (wpAny_loadPart')
open PySem.MeetsSeq PySem.MeetsSeq2 PySem.MeetsSeq3
end
section
variable {prog : Program} {w : World} {A : Around} {E : Value -> Shared -> Prop} {s : Shared}
theorem cat_tup {t b : Addr} {vs ws : List Value} {Q : Value -> Shared -> Prop} (ht : IsTup s.heap t vs.toArray) (hb : IsTup s.heap b ws.toArray) (hv : vs ≠ [])
    (h1 : ws = [] -> Q (.ref t) s) (h2 : ws ≠ [] -> Q (.ref s.heap.objs.size) { s with heap := s.heap.push { cls := .type "tuple", data := .seq (vs ++ ws).toArray } })
    (hsz : vs.length + ws.length <= sizeLine) : wpAny (model prog w) A (binaryOp .Add (.ref t) (.ref b)) Q E s := by
  obtain ⟨⟨cls, dd, data, sl⟩, ho, hc, n, hd⟩ := id ht
  obtain ⟨⟨cls2, dd2, data2, sl2⟩, ho2, hc2, n2, hd2⟩ := id hb
  simp only at hc hd hc2 hd2
  subst hc hd hc2 hd2
  have e : vs.toArray ++ ws.toArray = (vs ++ ws).toArray := by simp
  by_cases hw : ws = []
  . exact concat_meets ⟨_, ho, rfl⟩ ⟨_, ho2, rfl⟩ noFill_tuple_add seq_tuple_add PySem.F.slot_tuple_add PySem.F.entry_tuple_add (PySem.F.args_tuple_add_2 _ _)
      (tuple_addW1 t b vs.toArray ws.toArray n n2 dd dd2 sl sl2 (by simpa using hv) (by simp [hw])) ⟨ho, ho2, h1 hw⟩
  . refine concat_meets ⟨_, ho, rfl⟩ ⟨_, ho2, rfl⟩ noFill_tuple_add seq_tuple_add PySem.F.slot_tuple_add PySem.F.entry_tuple_add (PySem.F.args_tuple_add_2 _ _)
      (tuple_addW2 t b vs.toArray ws.toArray n n2 dd dd2 sl sl2 (by simpa using hv) (by simpa using hw) (by rw [List.size_toArray, List.size_toArray]; exact hsz)) ⟨ho, ho2, ?_⟩
    rw [e]
    exact h2 hw
def sIx (n d : Nat) : Option Int -> Nat
  | none => d
  | some v => if v < 0 then (v + (n : Int)).toNat else min v.toNat n
end
end HT
namespace L2
open PySem PySem.Spec PyProof.Rows
theorem qc9 {ns : List Int} : ∀ {us : List Value}, qY (ns.map V.int) us -> IntsAre us ns := by
  induction ns with
  | nil => intro us r; rw [List.map_nil] at r; cases r; exact .nil
  | cons n ns ih =>
    intro us r
    rw [List.map_cons] at r
    cases r with
    | cons r1 r2 =>
      obtain ⟨t, e⟩ := r1
      subst e
      exact .cons n t (ih r2)
section
variable {X : Cx} {e : Expr} {te : TE} {lo hi : Option Expr} {tl th : TO} {pos p2 : Pos}
def SlR (X : Cx) (r : V -> Option Int -> Option Int -> Hp -> VK -> Prop) : Prop :=
  ∀ (pins : List (Addr × Obj)) (s : Shared) (σ : St) (H : Hp) (x : V) (v vl vu : Value) (lo hi : Option Int) (sl : Addr) (Q : VK), Inv X pins σ H s -> jv x v -> s.heap.IsSliceOf sl vl vu .none -> IsPart vl lo -> IsPart vu hi -> r x lo hi H Q ->
    ∃ T id, typeLookup (.type T) "__getitem__" = pure (some (.builtin id)) /\ s.TypeIs v T /\ wpAny (model X.prog X.w) X.A (getItem v (.ref sl)) (EP X pins σ Q) X.xe s
theorem SlR.or {r r' : V -> Option Int -> Option Int -> Hp -> VK -> Prop} (h : SlR X r) (h' : SlR X r') : SlR X (fun x lo hi H Q => r x lo hi H Q \/ r' x lo hi H Q) := by
  intro pins s σ H x v vl vu lo hi sl Q I rx hs pl pu q
  rcases q with q | q
  . exact h pins s σ H x v vl vu lo hi sl Q I rx hs pl pu q
  . exact h' pins s σ H x v vl vu lo hi sl Q I rx hs pl pu q
def qj8 (xs : List V) (lo hi : Option Int) : List V := (xs.drop (HT.sIx xs.length 0 lo)).take (HT.sIx xs.length xs.length hi - HT.sIx xs.length 0 lo)
theorem qbY (xs : List V) (lo hi : Option Int) : (qj8 xs lo hi).length <= xs.length := by
  unfold qj8
  rw [List.length_take, List.length_drop]
  omega
def qja (K : PySem.W.Frag) : R2 := fun x y H Q => ∃ a b xs ys, x = .ref a /\ y = .ref b /\ SqT K H a xs /\ SqT K H b ys /\ xs ≠ [] /\ xs.length + ys.length <= sizeLine /\
  (ys = [] -> Q (.ref a) H) /\ (ys ≠ [] -> ∀ p, H p = none -> Q (.ref p) (upd H p (.tup (xs ++ ys))))
theorem qY.nil_iff {xs : List V} {us : List Value} (r : qY xs us) : us = [] ↔ xs = [] := by
  cases r with
  | nil => simp
  | cons _ _ => simp
theorem qhk : OpR X (binaryOp .Add) (qja X.K) := by
  intro pins s σ H x y v u Q I rx ry h
  obtain ⟨a, b, xs, ys, rfl, rfl, ha, hb, hx, hz, q1, q2⟩ := h
  cases rx
  cases ry
  obtain ⟨its, r1, p1, _⟩ := I.tuple ha
  obtain ⟨its2, r2, p2, _⟩ := I.tuple hb
  refine HT.cat_tup p1 p2 (fun z => hx (r1.nil_iff.mp z)) (fun z => ⟨.ref a, H, I, rfl, q1 (r2.nil_iff.mp z)⟩) (fun z => ?_) (by rw [<- r1.length, <- r2.length]; exact hz)
  refine ⟨.ref s.heap.objs.size, _, I.laid (t' := s.toks) (o := .tup (xs ++ ys)) (fun b ob q => Heap.get?_push_of_some _ q) (Nat.le_refl _) ?_, rfl, q2 (fun w => z (r2.nil_iff.mpr w)) _ (I.hok.fresh (Nat.le_refl _))⟩
  exact ⟨by rw [List.length_append]; exact hz, _, r1.append r2, IsTup.new _ _⟩
end
end L2
namespace L2
open PySem PySem.Spec PyProof.Rows
def ixN (n : Nat) (i : Int) : Option Nat := if 0 <= i then (if i < n then some i.toNat else none) else if -(n : Int) <= i then some (i + n).toNat else none
def atI {α : Type} (xs : List α) (i : Int) : Option α := (ixN xs.length i).bind fun j => xs[j]?
theorem qdS {n : Nat} {i : Int} {j : Nat} (h : ixN n i = some j) : seqIndex? i n = some j /\ j < n /\ -(n : Int) <= i /\ i < n := by
  unfold ixN at h
  by_cases h0 : 0 <= i
  . rw [if_pos h0] at h
    by_cases h1 : i < n
    . rw [if_pos h1] at h
      have e : i.toNat = j := Option.some.inj h
      exact ⟨by rw [seqIndex_of h0 h1, e], by omega, by omega, h1⟩
    . rw [if_neg h1] at h; cases h
  . rw [if_neg h0] at h
    by_cases h1 : -(n : Int) <= i
    . rw [if_pos h1] at h
      have e : (i + n).toNat = j := Option.some.inj h
      exact ⟨by rw [seqIndex_neg (by omega) h1, e], by omega, h1, by omega⟩
    . rw [if_neg h1] at h; cases h
theorem qdT {α : Type} {xs : List α} {i : Int} {v : α} (h : atI xs i = some v) : ∃ j, seqIndex? i xs.length = some j /\ xs[j]? = some v /\ j < xs.length /\ -(xs.length : Int) <= i /\ i < xs.length := by
  unfold atI at h
  cases e : ixN xs.length i with
  | none => rw [e] at h; cases h
  | some j =>
    rw [e] at h
    obtain ⟨h1, h2, h3, h4⟩ := qdS e
    exact ⟨j, h1, h, h2, h3, h4⟩
def qbZ (b : Expr) : Prop := ∀ o i, subscripted b false o i = operate [o, i] (getItem o i)
def IxR (X : Cx) (r : R2) : Prop :=
  ∀ (value slice : Expr) (pins : List (Addr × Obj)) (s : Shared) (σ : St) (H : Hp) (x y : V) (v u : Value) (Q : VK), Inv X pins σ H s -> jv x v -> jv y u -> r x y H Q ->
    subscripted slice false v u = operate [v, u] (getItem v u) -> wpAny (model X.prog X.w) X.A (subscriptTail value slice v u) (EP X pins σ Q) X.xe s
def MtR (X : Cx) (id : String) (r : V -> List V -> Hp -> VK -> Prop) : Prop :=
  ∀ (pins : List (Addr × Obj)) (s : Shared) (σ : St) (H : Hp) (x : V) (xs : List V) (v : Value) (us : List Value) (Q : VK), Inv X pins σ H s -> jv x v -> qY xs us -> r x xs H Q ->
    wpAny (model X.prog X.w) X.A (call (.builtin id) (v :: us)) (EP X pins σ Q) X.xe s
section
variable {X : Cx} {a b : Expr} {ta tb : TE} {pos : Pos}
theorem IxR.or {r r' : R2} (h : IxR X r) (h' : IxR X r') : IxR X (fun x y H Q => r x y H Q \/ r' x y H Q) := by
  intro value slice pins s σ H x y v u Q I rx ry q hs
  rcases q with q | q
  . exact h value slice pins s σ H x y v u Q I rx ry q hs
  . exact h' value slice pins s σ H x y v u Q I rx ry q hs
theorem MtR.or {id : String} {r r' : V -> List V -> Hp -> VK -> Prop} (h : MtR X id r) (h' : MtR X id r') : MtR X id (fun x xs H Q => r x xs H Q \/ r' x xs H Q) := by
  intro pins s σ H x xs v us Q I rx rs q
  rcases q with q | q
  . exact h pins s σ H x xs v us Q I rx rs q
  . exact h' pins s σ H x xs v us Q I rx rs q
theorem qjb {r : R2} (hr : IxR X r) (ha : PE X a ta) (hb : PE X b tb) (hs : qbZ b) : PE X (.Subscript a b pos) (tOp r ta tb) := by
  intro pins s σ H Q I h
  exact Subscript_ (qkt ha hb I h fun v u s2 x y H2 I2 rx ry q => hr a b pins s2 σ H2 x y v u Q I2 rx ry q (hs _ _))
def qkD (K : PySem.W.Frag) : R2 := fun x y H Q => ∃ p xs i v, x = .ref p /\ y = .int i /\ SqL K H p xs /\ atI xs i = some v /\ Q v H
def qkE (K : PySem.W.Frag) : R2 := fun x y H Q => ∃ p xs i v, x = .ref p /\ y = .int i /\ SqT K H p xs /\ atI xs i = some v /\ Q v H
theorem qdU : IxR X (qkD X.K) := by
  intro value slice pins s σ H x y v u Q I rx ry h hs
  obtain ⟨p, xs, i, z, rfl, rfl, hq, he, q⟩ := h
  cases rx
  obtain ⟨t, rfl⟩ := ry
  obtain ⟨its, r, pl, hz⟩ := I.list hq
  obtain ⟨j, h1, h2, h3, h4, h5⟩ := qdT he
  obtain ⟨w, ew, rw'⟩ := r.get h2
  have hl := r.length
  have hn := v7
  have fin : EP X pins σ Q w s := ⟨z, H, I, rw', q⟩
  by_cases h0 : 0 <= i
  . have hj : i.toNat = j := by
      rw [seqIndex_of h0 h5] at h1
      exact Option.some.inj h1
    exact item_listR pl.isList h0 (by omega) (by rw [hj]; simpa using ew) fin hs
  . have hj : (i + (its.toArray.size : Int)).toNat = j := by
      rw [seqIndex_neg (by omega) h4] at h1
      rw [List.size_toArray, <- hl]
      exact Option.some.inj h1
    exact subscriptTail_builtinR (x := w) pl.isList.typeIs slot_list_getitem.lookup
      (wpAny_getItem_list_neg (Q := fun r s' => r = w /\ EP X pins σ Q r s') pl.isList (by omega) (by rw [List.size_toArray] <;> omega) (by omega) (by rw [hj]; simpa using ew) ⟨rfl, fin⟩) hs
theorem qjc : IxR X (qkE X.K) := by
  intro value slice pins s σ H x y v u Q I rx ry h hs
  obtain ⟨p, xs, i, z, rfl, rfl, hq, he, q⟩ := h
  cases rx
  obtain ⟨t, rfl⟩ := ry
  obtain ⟨its, r, pl, hz⟩ := I.tuple hq
  obtain ⟨j, h1, h2, h3, h4, h5⟩ := qdT he
  obtain ⟨w, ew, rw'⟩ := r.get h2
  have hl := r.length
  have hn := v7
  have fin : EP X pins σ Q w s := ⟨z, H, I, rw', q⟩
  exact subscriptTail_builtinR (x := w) pl.typeIs slot_tuple_getitem.lookup
    (getItem_tuple (j := j) (Q := fun r s' => r = w /\ EP X pins σ Q r s') pl (by omega) (by omega) (by rw [List.size_toArray, <- hl]; exact h1) (by simpa using ew) ⟨rfl, fin⟩) hs
theorem qda (its : List Value) (n j : Nat) (u : Value) : Obj.mapSeq (·.setIfInBounds j u) { cls := .type "list", data := .seq its.toArray n } = { cls := .type "list", data := .seq (its.set j u).toArray n } := by
  simp [Obj.mapSeq]
theorem Inv.lst {pins : List (Addr × Obj)} {σ : St} {H : Hp} {s : Shared} {p : Addr} {xs : List V} (I : Inv X pins σ H s) (h : H p = some (.lst xs)) :
    ∃ (its : List Value) (n : Nat), qY xs its /\ s.heap.get? p = some { cls := .type "list", data := .seq its.toArray n } /\ xs.length <= sizeLine := by
  obtain ⟨z, its, n, r, e⟩ := I.hok p _ h
  exact ⟨its, n, r, e, z⟩
theorem Inv.lstUpd {pins : List (Addr × Obj)} {σ : St} {H : Hp} {s : Shared} {p : Addr} {xs ys : List V} {its its' : List Value} {n n' : Nat} {f : Obj -> Obj} (I : Inv X pins σ H s) (h : H p = some (.lst xs))
    (ho : s.heap.get? p = some { cls := .type "list", data := .seq its.toArray n }) (hf : f { cls := .type "list", data := .seq its.toArray n } = { cls := .type "list", data := .seq its'.toArray n' }) (r : qY ys its') (hz : ys.length <= sizeLine) (t : Nat) :
    Inv X pins σ (upd H p (.lst ys)) { s with heap := s.heap.update p f, toks := t } := by
  have e : (s.heap.update p f).get? p = some { cls := .type "list", data := .seq its'.toArray n' } := by
    rw [Heap.get?_update_self f ho (by rw [hf] <;> rfl), hf]
  refine I.write (x := p) (e := p) (by rw [h]; trivial) (.inl rfl) (fun b u hb q => (Heap.get?_update_other _ _ (Ne.symm hb)).trans q) ⟨_, e⟩ ?_
  exact ⟨hz, its', n', r, e⟩
def qkF : V -> V -> V -> Hp -> (Hp -> Prop) -> Prop := fun o i v H Q => ∃ p xs k j, o = .ref p /\ i = .int k /\ H p = some (.lst xs) /\ ixN xs.length k = some j /\ Q (upd H p (.lst (xs.set j v)))
theorem qfn : qk5 X qkF := by
  intro pins s σ H o i v ov iv u Q I ro ri rv h
  obtain ⟨p, xs, k, j, rfl, rfl, hp, hj, q⟩ := h
  cases ro
  obtain ⟨t, rfl⟩ := ri
  obtain ⟨its, n, r, ho, hz⟩ := I.lst hp
  obtain ⟨h1, h2, h3, h4⟩ := qdS hj
  have hl := r.length
  have hn := v7
  have I' : Inv X pins σ (upd H p (.lst (xs.set j v))) { s with heap := s.heap.update p (Obj.mapSeq (·.setIfInBounds j u)) } :=
    I.lstUpd hp ho (qda its n j u) (r.set rv j) (by rw [List.length_set]; exact hz) s.toks
  by_cases h0 : 0 <= k
  . have hk : k.toNat = j := by
      rw [seqIndex_of h0 h4] at h1
      exact Option.some.inj h1
    exact PySem.W.ki_setAt ho h0 (by omega) (by rw [List.size_toArray, <- hl]; exact h4) (by rw [hk]; exact ⟨_, I', q⟩)
  . have hk : (k + (its.toArray.size : Int)).toNat = j := by
      rw [seqIndex_neg (by omega) h3] at h1
      rw [List.size_toArray, <- hl]
      exact Option.some.inj h1
    exact PySem.W.ki_setBack ho (by omega) (by rw [List.size_toArray, <- hl]; exact h3) (by omega) (by rw [hk]; exact ⟨_, I', q⟩)
theorem qbi (lo hi : Option Int) (n : Nat) : (sliceBounds lo hi none n).1 = ((HT.sIx n 0 lo : Nat) : Int) /\ (sliceBounds lo hi none n).2.1 = ((HT.sIx n n hi : Nat) : Int) /\ (sliceBounds lo hi none n).2.2 = 1 := by
  refine ⟨?_, ?_, rfl⟩
  . cases lo with
    | none => simp [sliceBounds, HT.sIx]
    | some i =>
      simp only [sliceBounds, HT.sIx, Option.getD_none, show (1 : Int) > 0 by decide, if_true]
      by_cases h : i < 0
      . simp only [h, if_true] <;> omega
      . simp only [h, if_false] <;> omega
  . cases hi with
    | none => simp [sliceBounds, HT.sIx]
    | some i =>
      simp only [sliceBounds, HT.sIx, Option.getD_none, show (1 : Int) > 0 by decide, if_true]
      by_cases h : i < 0
      . simp only [h, if_true] <;> omega
      . simp only [h, if_false] <;> omega
theorem qaA (its : List Value) (lo hi : Option Int) : slicePick its.toArray lo hi none = ((its.drop (HT.sIx its.length 0 lo)).take (HT.sIx its.length its.length hi - HT.sIx its.length 0 lo)).toArray := by
  obtain ⟨h1, h2, h3⟩ := qbi lo hi its.toArray.size
  unfold slicePick
  rw [h1, h2, h3]
  simp only [sliceRange_one, pick_run, List.size_toArray] <;> rfl
def qlN (K : PySem.W.Frag) : V -> Option Int -> Option Int -> Hp -> VK -> Prop := fun x lo hi H Q => ∃ a xs, x = .ref a /\ SqL K H a xs /\ ∀ p, H p = none -> Q (.ref p) (upd H p (.lst (qj8 xs lo hi)))
theorem qkG : SlR X (qlN X.K) := by
  intro pins s σ H x v vl vu lo hi sl Q I rx hs pl pu h
  obtain ⟨a, xs, rfl, hx, q⟩ := h
  cases rx
  obtain ⟨its, r, ht, hz⟩ := I.list hx
  have hlen := r.length
  refine ⟨"list", _, slot_list_getitem.lookup, ht.isList.typeIs, ?_⟩
  refine wpAny_getItem_list_slice ht.isList hs pl pu .none (by simp) ?_ (by rw [List.size_toArray] <;> omega)
  rw [qaA, <- hlen]
  refine ⟨.ref s.heap.objs.size, _, I.laid (t' := s.toks) (o := .lst (qj8 xs lo hi)) (fun b ob q => Heap.get?_push_of_some _ q) (Nat.le_refl _) ?_, rfl, q _ (I.hok.fresh (Nat.le_refl _))⟩
  exact ⟨Nat.le_trans (qbY xs lo hi) hz, _, 0, (r.drop (HT.sIx xs.length 0 lo)).take (HT.sIx xs.length xs.length hi - HT.sIx xs.length 0 lo), Heap.get?_push_size _ rfl⟩
def qlO : V -> Bool
  | .non => true
  | .bl _ => true
  | .int _ => true
  | .str _ => true
  | _ => false
def eqV : V -> V -> Bool
  | .non, .non => true
  | .bl a, .bl b => a == b
  | .bl a, .int b => (if a then 1 else 0) == b
  | .int a, .bl b => a == (if b then 1 else 0)
  | .int a, .int b => a == b
  | .str a, .str b => a == b
  | _, _ => false
theorem qbj : yD X (.builtin "len") (fun xs H Q => ∃ p ys, xs = [.ref p] /\ (SqL X.K H p ys \/ SqT X.K H p ys) /\ Q (.int ys.length) H) := by
  intro pins s σ H xs us Q I r h
  obtain ⟨p, ys, rfl, hq, q⟩ := h
  obtain ⟨u, rfl, rx⟩ := qfl r
  cases rx
  have hn := v7
  rcases hq with hq | hq
  . obtain ⟨its, r', pl, hz⟩ := I.list hq
    have hlen := r'.length
    exact Calls.call_len_list pl.isList (by simp only [List.size_toArray] <;> omega) ⟨.int ys.length, H, I.tok _, ⟨s.toks + 1, by rw [List.size_toArray, hlen]⟩, q⟩
  . obtain ⟨its, r', pl, hz⟩ := I.tuple hq
    have hlen := r'.length
    exact len_tuple pl (by simp only [List.size_toArray] <;> omega) ⟨.int ys.length, H, I.tok _, ⟨s.toks + 1, by rw [List.size_toArray, hlen]⟩, q⟩
theorem qbk : yD X (.builtin "len") (fun xs H Q => ∃ z, xs = [.str z] /\ z.length <= sizeLine /\ Q (.int z.length) H) := by
  intro pins s σ H xs us Q I r h
  obtain ⟨z, rfl, hz, q⟩ := h
  obtain ⟨u, rfl, t, rfl⟩ := qfl r
  have hn := v7
  exact len_str (by omega) ⟨.int z.length, H, I.tok _, ⟨_, rfl⟩, q⟩
theorem yD.or {f : Value} {r r' : List V -> Hp -> VK -> Prop} (h : yD X f r) (h' : yD X f r') : yD X f (fun xs H Q => r xs H Q \/ r' xs H Q) := by
  intro pins s σ H xs us Q I rs q
  rcases q with q | q
  . exact h pins s σ H xs us Q I rs q
  . exact h' pins s σ H xs us Q I rs q
theorem qaB : yD X (.type "tuple") (fun xs H Q => ∃ p ys, xs = [.ref p] /\ ((SqL X.K H p ys /\ ∀ l, H l = none -> Q (.ref l) (upd H l (.tup ys))) \/ (SqT X.K H p ys /\ Q (.ref p) H))) := by
  intro pins s σ H xs us Q I r h
  obtain ⟨p, ys, rfl, h⟩ := h
  obtain ⟨u, rfl, rx⟩ := qfl r
  cases rx
  rcases h with ⟨hq, q⟩ | ⟨hq, q⟩
  . obtain ⟨its, r', pl, hz⟩ := I.list hq
    have hlen := r'.length
    refine call_tuple_list pl.isList (fun h' kp => ?_) (by simp only [List.size_toArray] <;> omega)
    have I1 : Inv X pins σ H { s with heap := h' } := I.kept (t' := s.toks) kp
    have I2 : Inv X pins σ (upd H h'.objs.size (.tup ys)) { s with heap := h'.push { cls := .type "tuple", data := .seq its.toArray } } :=
      I1.laid (t' := s.toks) (fun b o e => Heap.get?_push_of_some _ e) (Nat.le_refl _) (show yf X.prog X.w _ _ _ (.tup ys) from ⟨hz, its, r', IsTup.new _ _⟩)
    exact ⟨.ref h'.objs.size, _, I2, rfl, q _ (I1.hok.fresh (Nat.le_refl _))⟩
  . obtain ⟨its, r', pl, hz⟩ := I.tuple hq
    exact call_tuple_same pl ⟨.ref p, H, I, rfl, q⟩
def tyV (K : PySem.W.Frag) (T : String) (x : V) (H : Hp) : Prop := match x with
  | .str _ => T = "str"
  | .int _ => T = "int"
  | .ref p => (T = "list" /\ ∃ xs, SqL K H p xs) \/ (T = "tuple" /\ ∃ o, K.lookup p = some o /\ o.cls = .type "tuple" /\ o.dict = none) \/
      (T = "dict" /\ ((∃ kvs, H p = some (.dK kvs)) \/ ∃ kvs, H p = some (.dT kvs))) \/ (T = "set" /\ ∃ S n, H p = some (.set S n))
  | _ => False
theorem qjd {pins : List (Addr × Obj)} {σ : St} {H : Hp} {s : Shared} {T : String} {x : V} {v : Value} (I : Inv X pins σ H s) (r : jv x v) (ty : tyV X.K T x H) :
    s.TypeIs v T /\ ∀ a, v = .ref a -> ∃ ob, s.heap.get? a = some ob /\ ob.dict = none := by
  cases x with
  | str z =>
    obtain ⟨t, rfl⟩ := r
    cases (show T = "str" from ty)
    exact ⟨typeIs_str s z t, fun _ e => nomatch e⟩
  | int i =>
    obtain ⟨t, rfl⟩ := r
    cases (show T = "int" from ty)
    exact ⟨typeIs_int s i t, fun _ e => nomatch e⟩
  | ref p =>
    cases r
    rcases ty with ⟨rfl, xs, hq⟩ | ⟨rfl, o, hk, hc, hd⟩ | ⟨rfl, hk⟩ | ⟨rfl, S, n, hk⟩
    . obtain ⟨its, _, pl, _⟩ := I.list hq
      refine ⟨pl.isList.typeIs, fun a e => ?_⟩
      cases e
      obtain ⟨o, n, e, c, hd, _⟩ := pl
      exact ⟨o, e, hd⟩
    . refine ⟨⟨o, I.kIn p o hk, hc⟩, fun a e => ?_⟩
      cases e
      exact ⟨o, I.kIn _ o hk, hd⟩
    . have z : ∃ o, s.heap.get? p = some o /\ o.ExactDict := by
        rcases hk with ⟨kvs, hk⟩ | ⟨kvs, hk⟩
        . obtain ⟨_, _, _, _, o, _, _, e, ex, _⟩ := I.hok p _ hk
          exact ⟨o, e, ex⟩
        . obtain ⟨_, _, _, _, o, _, _, e, ex, _⟩ := I.hok p _ hk
          exact ⟨o, e, ex⟩
      obtain ⟨o, e, ex⟩ := z
      refine ⟨⟨o, e, ex.1⟩, fun a e2 => ?_⟩
      cases e2
      exact ⟨o, e, ex.2.1⟩
    . obtain ⟨o, _, _, _, e, ex, _⟩ := I.hok p _ hk
      refine ⟨⟨o, e, ex.1⟩, fun a e2 => ?_⟩
      cases e2
      exact ⟨o, e, ex.2.1⟩
  | _ => exact False.elim ty
def tBM (K : PySem.W.Frag) (T : String) (r : V -> List V -> Hp -> VK -> Prop) (to : TE) (t : TA) : TE := fun σ H Q => to σ H fun x H1 => tyV K T x H1 /\ t σ H1 fun xs H2 => r x xs H2 Q
variable {o e : Expr} {es : List Expr} {to : TE} {t : TA} {name : Str} {apos cpos : Pos} {T id : String} {r : V -> List V -> Hp -> VK -> Prop}
theorem qhl (pa : PlainAttrs T) (slot : Slot T name id) (hty : typeOf (.builtin id) = pure (.type "method_descriptor")) (hm : MtR X id r) (ho : PE X o to) (ha : PA X (e :: es) t)
    (hbase : attributeBase o name X.env (eval o X.env) = eval o X.env := by rfl)
    (hfew : ((backTo cpos (starEach (e :: es) X.env)).all (fun x => !x.1) && (backToKw cpos (keywordEach [] X.env)).all (fun x => x.1.isSome)
      && decide ((e :: es).length + ([] : List Keyword).length + (if ([] : List Keyword).isEmpty then 0 else 1) < 30)) = true := by rfl)
    (hline : (apos.endLine == cpos.line) = true := by rfl) (hs : starEach (e :: es) X.env = (false, eval e X.env) :: starEach es X.env := by rfl) (hplain : (backTo cpos (starEach es X.env)).any (·.1) = false := by rfl) :
    PE X (.Call (.Attribute o name apos) (e :: es) [] cpos) (tBM X.K T r to t) := by
  intro pins s σ H Q I h
  refine wpAny_Call_method_late hbase hfew hline rfl (thn (ho pins s σ H _ I h) fun v s1 ⟨x, H1, I1, r1, ty, q1⟩ => ?_)
  obtain ⟨h1, h2⟩ := qjd I1 r1 ty
  refine ⟨T, id, pa, slot, hty, h1, h2, ?_⟩
  have hA := ha cpos pins s1 σ H1 _ I1 q1
  rw [hs] at hA |-
  refine Calls.callWith_builtin (by show (false || (backTo cpos (starEach es X.env)).any (·.1)) = false; rw [hplain] <;> rfl) (Calls.evalArgs_plain ?_)
  exact thn hA fun us s2 ⟨vs, H2, I2, r2, q2⟩ => hm pins s2 σ H2 x vs v us Q I2 r1 r2 q2
/- xs.append(e), list.index on a module's tuple .. are MtR facts of 06m -/
end
end L2
namespace L2
open PySem PySem.Spec PyProof.Rows
def MtM (X : Cx) (id : String) (r : V -> List V -> Hp -> VK -> Prop) : Prop :=
  ∀ (pins : List (Addr × Obj)) (s : Shared) (σ : St) (H : Hp) (x : V) (xs : List V) (v : Value) (us : List Value) (Q : VK), Inv X pins σ H s -> jv x v -> qY xs us -> r x xs H Q ->
    wpAny (model X.prog X.w) X.A (call (.builtin id) (v :: us)) (EP X pins σ Q) X.xe s
theorem qY.one : ∀ {x : V} {us : List Value}, qY [x] us -> ∃ u, us = [u] /\ jv x u
  | _, _, .cons r .nil => ⟨_, rfl, r⟩
theorem qY.two : ∀ {x y : V} {us : List Value}, qY [x, y] us -> ∃ u v, us = [u, v] /\ jv x u /\ jv y v
  | _, _, _, .cons r (.cons q .nil) => ⟨_, _, rfl, r, q⟩
theorem qY.reverse {xs : List V} {us : List Value} (h : qY xs us) : qY xs.reverse us.reverse := by
  induction h with
  | nil => exact .nil
  | cons r t ih => rw [List.reverse_cons, List.reverse_cons]; exact qY.append ih (.cons r .nil)
theorem qY.rep {xs : List V} {us : List Value} (h : qY xs us) : ∀ k : Nat, qY (List.replicate k xs).flatten (List.replicate k us).flatten
  | 0 => .nil
  | k + 1 => by
    rw [List.replicate_succ, List.replicate_succ, List.flatten_cons, List.flatten_cons]
    exact qY.append h (qY.rep h k)
theorem wl (its : List Value) : ∀ (k : Nat) (acc : List Value),
    List.foldl (fun x1 x2 => x1 ++ x2) acc.toArray (List.replicate k its.toArray) = (acc ++ (List.replicate k its).flatten).toArray
  | 0, acc => by simp
  | k + 1, acc => by
    have e : acc.toArray ++ its.toArray = (acc ++ its).toArray := by simp
    have e2 : (acc ++ its) ++ (List.replicate k its).flatten = acc ++ (List.replicate (k + 1) its).flatten := by
      rw [List.replicate_succ, List.flatten_cons, List.append_assoc]
    rw [<- e2, <- wl its k (acc ++ its), <- e, List.replicate_succ, List.foldl_cons]
section
variable {X : Cx} {pins : List (Addr × Obj)} {σ : St} {H : Hp} {s : Shared} {l b : Addr} {xs ys zs : List V}
theorem Inv.lset {its its' : List Value} {n : Nat} {f : Array Value -> Array Value} {t' : Nat} (I : Inv X pins σ H s) (hH : H l = some (.lst xs))
    (e : s.heap.get? l = some { cls := .type "list", data := .seq its.toArray n }) (hf : f its.toArray = its'.toArray) (hv : qY ys its') (hz : ys.length <= sizeLine) :
    Inv X pins σ (upd H l (.lst ys)) { s with heap := s.heap.update l (Obj.mapSeq f), toks := t' } := by
  have q := PySem.IsL.update e f
  rw [hf] at q
  refine I.write (x := l) (e := l) (by rw [hH]; exact trivial) (.inl rfl) (fun b' u hb hu => (Heap.get?_update_other s.heap (Obj.mapSeq f) (Ne.symm hb)).trans hu) ⟨_, q⟩ ?_
  exact ⟨hz, its', _, hv, q⟩
theorem Inv.lnew {its : List Value} {t' : Nat} (I : Inv X pins σ H s) (hv : qY ys its) (hz : ys.length <= sizeLine) :
    Inv X pins σ (upd H s.heap.objs.size (.lst ys)) { s with heap := s.heap.push { cls := .type "list", data := .seq its.toArray }, toks := t' } :=
  I.laid (fun _ _ q => Heap.get?_push_of_some _ q) (Nat.le_refl _) ⟨hz, its, 0, hv, Heap.get?_push_size _ rfl⟩
theorem Inv.fresh (I : Inv X pins σ H s) : H s.heap.objs.size = none := I.hok.fresh (Nat.le_refl _)
theorem Inv.lstM (I : Inv X pins σ H s) (hH : H l = some (.lst xs)) : xs.length <= sizeLine /\ ∃ (its : List Value) (n : Nat), qY xs its /\ xs.length = its.length /\ s.heap.get? l = some { cls := .type "list", data := .seq its.toArray n } := by
  obtain ⟨z, its, n, r, e⟩ := I.hok l _ hH
  exact ⟨z, its, n, r, r.length, e⟩
theorem qcq {n : Nat} (h : n <= sizeLine) : Builtin.List.listTooLong n = false := by
  unfold Builtin.List.listTooLong
  exact decide_eq_false (by omega)
end
section
variable {X : Cx}
def qhm : V -> List V -> Hp -> VK -> Prop := fun x vs H Q => ∃ l xs y, x = .ref l /\ vs = [y] /\ H l = some (.lst xs) /\ xs.length < sizeLine /\ Q .non (upd H l (.lst (xs ++ [y])))
theorem wm : MtM X "list.append" qhm := by
  intro pins s σ H x vs v us Q I rx rv h
  obtain ⟨l, xs, y, rfl, rfl, hH, hz, q⟩ := h
  cases rx
  obtain ⟨u, rfl, ru⟩ := rv.one
  obtain ⟨z, its, n, r, hl, e⟩ := I.lstM hH
  refine call_meets F.slot_list_append ⟨_, e, rfl⟩ F.entry_list_append (F.args_list_append_2 _ _) (PySem.list_append l its.toArray n u (by rw [List.size_toArray]; omega)) ⟨e, ?_⟩
  refine ⟨.non, _, I.lset (its' := its ++ [u]) hH e (by simp) (r.append (.cons ru .nil)) ?_, rfl, q⟩
  rw [List.length_append, List.length_singleton]
  omega
def qhn : V -> List V -> Hp -> VK -> Prop := fun x vs H Q => ∃ l b xs zs, x = .ref l /\ vs = [.ref b] /\ H l = some (.lst xs) /\ H b = some (.lst zs) /\ xs.length + zs.length <= sizeLine /\ Q .non (upd H l (.lst (xs ++ zs)))
theorem qje : MtM X "list.extend" qhn := by
  intro pins s σ H x vs v us Q I rx rv h
  obtain ⟨l, b, xs, zs, rfl, rfl, hH, hB, hz, q⟩ := h
  cases rx
  obtain ⟨u, rfl, ru⟩ := rv.one
  cases ru
  obtain ⟨z, its, n, r, hl, e⟩ := I.lstM hH
  obtain ⟨z2, its2, n2, r2, hl2, e2⟩ := I.lstM hB
  have hsz : its.toArray.size + its2.toArray.size <= sizeLine := by rw [List.size_toArray, List.size_toArray]; omega
  have hlong : ¬ (!its.toArray.isEmpty && Builtin.List.listTooLong (its.toArray.size + its2.toArray.size)) = true := by
    rw [qcq hsz, Bool.and_false]
    exact Bool.false_ne_true
  refine call_meets F.slot_list_extend ⟨_, e, rfl⟩ F.entry_list_extend (F.args_list_extend_2 _ _)
    (AutoSeq1.list_extend_list_list_0 l its.toArray n b its2.toArray n2 hlong (by rw [List.size_toArray]; omega) (by omega)) ⟨e, e2, ?_⟩
  refine ⟨.non, _, I.lset (its' := its ++ its2) hH e (by simp) (r.append r2) ?_, rfl, q⟩
  rw [List.length_append]
  omega
def qlb : R2 := fun x y H Q => ∃ l b xs zs, x = .ref l /\ y = .ref b /\ H l = some (.lst xs) /\ H b = some (.lst zs) /\ xs.length + zs.length <= sizeLine /\ ∀ p, H p = none -> Q (.ref p) (upd H p (.lst (xs ++ zs)))
theorem qjf : OpR X (binaryOp .Add) qlb := by
  intro pins s σ H x y v u Q I rx ry h
  obtain ⟨l, b, xs, zs, rfl, rfl, hH, hB, hz, q⟩ := h
  cases rx
  cases ry
  obtain ⟨z, its, n, r, hl, e⟩ := I.lstM hH
  obtain ⟨z2, its2, n2, r2, hl2, e2⟩ := I.lstM hB
  refine PySem.P.add_list e e2 ?_ (by rw [List.size_toArray, List.size_toArray]; omega)
  have ea : its.toArray ++ its2.toArray = (its ++ its2).toArray := by simp
  rw [ea]
  exact ⟨.ref _, _, I.lnew (t' := s.toks) (r.append r2) (by rw [List.length_append]; omega), rfl, q _ I.fresh⟩
def qlc : R2 := fun x y H Q => ∃ l k xs, x = .ref l /\ y = .int k /\ H l = some (.lst xs) /\ -(2 ^ 63) <= k /\ k < 2 ^ 63 /\ xs.length * k.toNat <= sizeLine /\
  ∀ p, H p = none -> Q (.ref p) (upd H p (.lst (List.replicate k.toNat xs).flatten))
theorem qb0 {α : Type} (xs : List α) (k : Nat) : (List.replicate k xs).flatten.length = k * xs.length := by
  induction k with
  | zero => simp
  | succ k ih => rw [List.replicate_succ, List.flatten_cons, List.length_append, ih, Nat.succ_mul, Nat.add_comm]
theorem qjg : OpR X (binaryOp .Mult) qlc := by
  intro pins s σ H x y v u Q I rx ry h
  obtain ⟨l, k, xs, rfl, rfl, hH, h1, h2, hz, q⟩ := h
  cases rx
  obtain ⟨t, rfl⟩ := ry
  obtain ⟨z, its, n, r, hl, e⟩ := I.lstM hH
  have hlen : its.toArray.size * k.toNat <= sizeLine := by rw [List.size_toArray, <- hl]; exact hz
  have hcap : ¬ its.toArray.size * k.toNat > (2 ^ 63 - 1) / 8 := by
    have : (sizeLine : Nat) <= (2 ^ 63 - 1) / 8 := by decide
    omega
  have hfit : ¬ (!Builtin.List.listFitsIndex k) = true := by
    rw [fitsIndex_both h1 h2]
    exact Bool.false_ne_true
  have hlong : ¬ Builtin.List.listTooLong (its.toArray.size * k.toNat) = true := by
    rw [qcq hlen]
    exact Bool.false_ne_true
  have hnew : List.foldl (fun x1 x2 => x1 ++ x2) #[] (List.replicate (if its.toArray.isEmpty = true then 0 else k.toNat) its.toArray) = (List.replicate k.toNat its).flatten.toArray := by
    have f0 : ∀ m : Nat, List.foldl (fun x1 x2 => x1 ++ x2) #[] (List.replicate m its.toArray) = (List.replicate m its).flatten.toArray := fun m => by
      have := wl its m []
      rw [List.nil_append] at this
      exact this
    rw [f0]
    cases its with
    | nil => simp
    | cons a r' => rw [if_neg (by simp)]
  refine wpAny_binaryOp_repeat_ref (T := "list") (U := "int") (by decide) ⟨_, e, rfl⟩ (fun s' => typeIs_int s' k t) noFill_list_mul F.fills_int_mul F.slot_int_rmul repeat_list F.slot_int_index.lookup
    (call_meets F.slot_int_rmul (typeIs_int s k t) F.entry_int_rmul (F.args_int_rmul_2 _ _) (int___rmul___int_list k t l its.toArray n)
      ⟨e, rfl, ⟨_, e, rfl⟩, call_meets F.slot_list_mul ⟨_, e, rfl⟩ F.entry_list_mul (F.args_list_mul_2 _ _) (AutoListH.list___mul___list_int_3 l its.toArray n k t hfit hcap hlong) ⟨e, ?_⟩⟩)
  rw [hnew]
  exact ⟨.ref _, _, I.lnew (t' := s.toks) (r.rep k.toNat) (by rw [qb0, Nat.mul_comm]; exact hz), rfl, q _ I.fresh⟩
end
section
variable {prog : Program} {w : World} {A : Around} {E : Value -> Shared -> Prop} {s : Shared}
set_option maxRecDepth 100000 in
end
section
variable {X : Cx}
end
end L2
namespace Att
open PySem PySem.W PySem.Calls PyProof.Rows
theorem wn {P : Params} {h : Heap} : ∀ (ns : List Int) (vs : List Value), WellAll P h vs (ns.map WData.int) -> IntsAre vs ns := by
  intro ns
  induction ns with
  | nil =>
    intro vs w
    rw [List.map_nil] at w
    cases w
    exact .nil
  | cons n ns ih =>
    intro vs w
    rw [List.map_cons] at w
    cases w with
    | cons a b =>
      cases a
      exact .cons _ _ (ih _ b)
theorem qdV {l : OpenLaw} {n : Nat} (hn : l.most = some n) {P : Params} {h : Heap} {args : List WData} {vals : List Value}
    (hpre : l.row.toRowW.claim.pre args = true) (hwl : WellAll P h vals args) :
    ∃ a vs ns, vals = [Value.ref a] /\ args = [WData.list (ns.map WData.int)] /\ h.get? a = some { cls := .type "list", data := .seq vs.toArray } /\ IntsAre vs ns /\ ns.length <= n := by
  have hsh : WShape.hasAll [] args [.list .int] = true := (pre_splitW hpre).1
  have hc : l.pre.holds [] { args := args } = true := (pre_splitW hpre).2
  obtain ⟨d, r, rfl, h1, h2⟩ := hasAllW_cons hsh
  obtain rfl := hasAllW_nil h2
  obtain ⟨xs, rfl, h3⟩ := hasW_list h1
  obtain ⟨ns, rfl⟩ := items_int h3
  have hlen : ns.length <= n := by
    unfold OpenLaw.pre at hc
    have h4 : (WTm.not (.lt (.lit (.int (n : Int))) (.len (.arg 0)))).holds [] { args := [.list (ns.map .int)] } = true := by
      have h4 := (holds_andW hc).1
      rw [hn] at h4
      exact h4
    have h5 := condW_of h4 (w_not (w_lt w_lit (w_len_list (w_arg rfl))))
    rw [List.length_map] at h5
    refine Nat.le_of_not_lt fun q => ?_
    have q' : (n : Int) < ((ns.length : Nat) : Int) := by omega
    first
      | (rw [decide_eq_true q'] at h5; exact absurd h5 (by decide))
      | (simp at h5; omega)
  cases hwl with
  | cons w1 w2 =>
    cases w2
    cases w1 with
    | list ho hall => exact ⟨_, _, ns, rfl, rfl, ho, wn ns _ hall, hlen⟩
theorem qdW (l : OpenLaw) (args : List WData) : l.row.toRowW.claim.post args (.bool true) args = true :=
  postW_of (r := l.row.toRowW) (X := (true == true))
    (show WShape.has [] (.bool true) .bool = true by first | rfl | decide | simp [WShape.has, WShape.arms, WShape.armsAll])
    (show (WTm.eq .res (.lit (.bool true))).value [] { args := args, res := some (.bool true), after := args } = some (.bool (true == true)) from w_eq_bool (w_res rfl) w_lit) rfl
theorem attach_call {l : OpenLaw} {n : Nat} {q : Program} {loose : List Str} {XP : (Str -> Option Value) -> Heap -> Prop} {YP : World -> Heap -> Prop} {d : DefRec}
    (hn : l.most = some n) (hdf : d.params.defaults = [])
    (call : ∀ (w : World) (s₀ s₁ : Shared) (mg mb : Str -> Option Value) (fa : Addr) (o : Obj) (pm cd doc : Value) (a : Addr) (vs : List Value) (ns : List Int),
      Ground q loose [] XP w s₀ mg mb s₁.heap -> YP w s₁.heap ->
      s₁.heap.get? fa = some o -> o.data = .func (docDef d.name d.params d.body d.scope pm cd doc) -> s₁.heap.CodeRec cd d.name -> mg d.name = some (.ref fa) ->
      s₁.heap.get? a = some { cls := .type "list", data := .seq vs.toArray } -> IntsAre vs ns -> ns.length <= n -> s₁.gens = #[] ->
      codeAny (model l.prog w) callerA (.call (.ref fa) ⟨[.ref a], []⟩) (fun r s' => r = .ok (.ret (.bool true)) /\ OldK s₁.heap s'.heap /\ s'.os = s₁.os /\ AllBare s'.gens) s₁) :
    WalkO q loose XP YP l.row.toRowW d [] (fun f vs => PySem.call f vs) := by
  intro w s₀ s₁ mg mb G Y fa o pm cd doc dV kV ho hd hcd hD hmg hg args vals as hpre hlay hrd hwl hlo
  obtain rfl : dV = .none := Dflts.none hD hdf
  obtain rfl : kV = .none := Dflts.noKw hD
  obtain ⟨a, vs, ns, rfl, rfl, hobj, hints, hlen⟩ := qdV hn hpre hwl
  refine enter_call (codeAny_mono (call w s₀ s₁ mg mb fa o pm cd doc a vs ns G Y ho (fd_plain hd) hcd hmg hobj hints hlen hg) fun r s' hq => ?_)
  obtain ⟨rfl, h2, h3, h4⟩ := hq
  exact ⟨.inl ⟨.bool true, .bool true, [], rfl, fun _ => rfl, .bool true, qdW l _, fun _ => ⟨List.Pairwise.nil, fun _ hm => (nomatch hm)⟩⟩, h2, h3, h4⟩
section
variable {prog : Program} {w : World} {A : Around} {E : Value -> Shared -> Prop} {s : Shared} {K : Frag}
end
end Att
namespace L2
open PySem PySem.Spec PyProof.Rows
theorem qbl : ∀ {vs : List Value} {ns : List Int}, IntsAre vs ns -> qY (ns.map V.int) vs
  | _, _, .nil => .nil
  | _, _, .cons n t h => .cons ⟨t, rfl⟩ (qbl h)
def qj9 (H : Hp) : Prop := ∀ b, H b = none \/ ∃ o xs, H b = some (.frz o (.lst xs))
theorem qfo {P : Program} {w : World} {K : PySem.W.Frag} {mg mb : Str -> Option Value} {CX : CXT} {k : Nat} {fa a : Addr} {fd : FuncData} {x : Str} {sp : Sp} {s₁ : Shared} {vs : List Value} {ns : List Int}
    (KX : K.In s₁.heap) (hns : s₁.heap.Ns mainGlobals mg) (hb : s₁.heap.Ns builtinsNs mb) (hbb : ∀ x : Str, x ≠ "__name__" -> mb x = bootBuiltins x) (hlim : s₁.heap.NoLimit) (hg : s₁.gens = #[])
    (ha : s₁.heap.get? a = some { cls := .type "list", data := .seq vs.toArray }) (hi : IntsAre vs ns) (hl : ns.length <= sizeLine) (hr : y9 k callerA)
    (F : ∀ base : Heap, K.In base -> base.Ns mainGlobals mg -> jR P w K mg base CX k fa fd [x] sp) (hbind : ∀ (s : Shared) (u : Value), BindsTo s fd ⟨[u], []⟩ [(x, u)])
    (hsp : ∀ H : Hp, qj9 H -> SqL K H a (ns.map V.int) -> sp [.ref a] H (fun v _ => v = .bl true) fun _ _ _ => False)
    (hCX : ∀ H e s', CX [] H s₁ (fun _ _ _ => False) e s' -> False) :
    codeAny (model P w) callerA (.call (.ref fa) ⟨[.ref a], []⟩) (fun r s' => r = .ok (.ret (.bool true)) /\ OldK s₁.heap s'.heap /\ s'.os = s₁.os /\ AllBare s'.gens) s₁ := by
  have rv := qbl hi
  have lenV := hi.length
  have core : ∀ H : Hp, qj9 H -> SqL K H a (ns.map V.int) -> HOk P w H s₁.heap -> (∀ b, H b ≠ none -> b = a) -> (H a ≠ none -> K.lookup a = none) ->
      codeAny (model P w) callerA (.call (.ref fa) ⟨[.ref a], []⟩) (fun r s' => r = .ok (.ret (.bool true)) /\ OldK s₁.heap s'.heap /\ s'.os = s₁.os /\ AllBare s'.gens) s₁ := by
    intro H hO hS hok hA hK
    have base_of : ∀ {b : Addr} {o : Obj}, s₁.heap.get? b = some o -> H b = none -> (qfc s₁.heap H).get? b = some o := fun e n => qfd e n
    have noA : ∀ {b : Addr} {o : Obj} {es : Array DictEntry} {ep : Nat}, s₁.heap.get? b = some o -> o.data = .dict es ep -> H b = none := fun {b o es ep} e d => by
      cases q : H b with
      | none => rfl
      | some u =>
        have e' : b = a := hA b (by rw [q]; simp)
        subst e'
        rw [ha] at e; cases e
        have d' : Data.seq vs.toArray _ = Data.dict es ep := d
        cases d'
    have nsK : ∀ {b : Addr} {m : Str -> Option Value}, s₁.heap.Ns b m -> (qfc s₁.heap H).Ns b m := fun {b m} ⟨o, es, ep, e, d, r⟩ => ⟨o, es, ep, base_of e (noA e d), d, r⟩
    have hKb : K.In (qfc s₁.heap H) := fun b o e => base_of (KX b o e) (by
      cases q : H b with
      | none => rfl
      | some u =>
        have e' : b = a := hA b (by rw [q]; simp)
        subst e'
        rw [hK (by rw [q]; simp)] at e; cases e)
    have hM : Mod K mg (qfc s₁.heap H) := ⟨hKb, nsK hns, ⟨mb, nsK hb, hbb⟩, let ⟨mc, h1, h2⟩ := hlim; ⟨mc, nsK h1, h2⟩⟩
    have e0 : qiw P w K mg (qfc s₁.heap H) callerA [] s₁ H := ⟨rfl, hM, fun b o e => qg8 e, Nat.le_of_eq (qdB _ _), trivial, fun b hb => absurd (show b ∈ ([] : List Addr) from hb) (by simp), hok, .of_eq hg⟩
    refine codeAny_mono ((F _ hKb (nsK hns)).run callerA [] s₁ H ⟨[.ref a], []⟩ [.ref a] [.ref a] _ _ hr e0 (hbind s₁ (.ref a)) (.cons rfl .nil) (hsp H hO hS)) fun r s' h => ?_
    cases r with
    | error e => exact (hCX H e s' h).elim
    | ok fl =>
      cases fl with
      | next => exact False.elim h
      | brk => exact False.elim h
      | cont => exact False.elim h
      | ret u =>
        obtain ⟨v, H', os, bare, un, hok', r', q⟩ := h
        have q' : v = .bl true := q
        subst q'
        obtain rfl : u = Value.bool true := r'
        refine ⟨rfl, OldK.of_keep fun b o e => ?_, os, bare⟩
        cases q : H b with
        | none => exact un.keep b o e q (by intro z; exact absurd (show b ∈ ([] : List Addr) from z) (by simp)) (by simp)
        | some u =>
          rcases hO b with z | ⟨ob, xs, z⟩
          . rw [q] at z; cases z
          . have z2 := un.frzs b ob _ z
            obtain ⟨e1, _⟩ := hok b _ z
            obtain ⟨e2, _⟩ := hok' b _ z2
            rw [e] at e1; cases e1
            exact e2
  cases hk : K.lookup a with
  | some o =>
    have e := KX a o hk
    rw [ha] at e
    cases e
    refine core (fun _ => none) (fun _ => .inl rfl) (.inr ⟨_, vs.toArray, _, hk, rfl, rfl, rfl, by rw [List.size_toArray, lenV]; exact hl, by simpa using rv⟩) (fun b u z => by have z' : (none : Option HO) = some u := z; cases z') (fun b z => absurd rfl z) fun z => absurd rfl z
  | none =>
    refine core (fun b => if b = a then some (.frz { cls := .type "list", data := .seq vs.toArray } (.lst (ns.map V.int))) else none) (fun b => ?_) (.inl (.inr ⟨{ cls := .type "list", data := .seq vs.toArray }, if_pos rfl⟩)) (fun b u z => ?_) (fun b z => ?_) fun _ => hk
    . by_cases hb : b = a
      . exact .inr ⟨_, _, if_pos hb⟩
      . exact .inl (if_neg hb)
    . by_cases hb : b = a
      . have z' := (if_pos hb).symm.trans z
        cases z'
        subst hb
        exact ⟨ha, by rw [List.length_map]; exact hl, vs, _, rv, ha⟩
      . have z' := (if_neg hb).symm.trans z
        cases z'
    . by_cases hb : b = a
      . exact hb
      . exact absurd (if_neg hb) z
end L2
namespace L2
open PySem PySem.Spec PyProof.Rows
theorem walk_of {l : PySem.W.OpenLaw} {n k : Nat} {q : Program} {loose : List Str} {XP : (Str -> Option Value) -> Heap -> Prop} {YP : World -> Heap -> Prop} {d : DefRec} {K : Params -> PySem.W.Frag} {CX : World -> CXT} {sp : World -> Sp} {x : Str}
    (hn : l.most = some n) (hn2 : n <= sizeLine) (hdf : d.params.defaults = []) (hr : y9 k callerA)
    (hY : ∀ (w : World) (h : Heap), YP w h -> (K w.params).In h)
    (F : ∀ (w : World) (mg : Str -> Option Value) (fa : Addr) (h : Heap), (K w.params).In h -> h.Ns mainGlobals mg -> mg d.name = some (.ref fa) ->
      ∃ fd : FuncData, (∀ (s : Shared) (u : Value), BindsTo s fd ⟨[u], []⟩ [(x, u)]) /\
        ∀ base : Heap, (K w.params).In base -> base.Ns mainGlobals mg -> jR l.prog w (K w.params) mg base (CX w) k fa fd [x] (sp w))
    (hsp : ∀ (w : World) (H : Hp) (a : Addr) (ns : List Int), ns.length <= n -> qj9 H -> SqL (K w.params) H a (ns.map V.int) -> sp w [.ref a] H (fun v _ => v = .bl true) fun _ _ _ => False)
    (hCX : ∀ (w : World) (H : Hp) (s : Shared) (e : Value) (s' : Shared), CX w [] H s (fun _ _ _ => False) e s' -> False) :
    PySem.W.WalkO q loose XP YP l.row.toRowW d [] (fun f vs => PySem.call f vs) := by
  refine Att.attach_call hn hdf fun w s₀ s₁ mg mb fa o pm cd doc a vs ns G Y ho hd hcd hmg hobj hints hlen hg => ?_
  have KX := hY w _ Y
  obtain ⟨fd, hb, hF⟩ := F w mg fa _ KX G.T.g hmg
  exact qfo KX G.T.g G.T.b G.T.builtins G.T.nolimit hg hobj hints (Nat.le_trans hlen hn2) hr hF hb (fun H hO hS => hsp w H a ns hlen hO hS) fun H e s' => hCX w H s₁ e s'
end L2
/- THE LAST THEOREM (shape; LID, My.* are yours):
   My.Adr: a structure of the addresses that your layer names (classes, functions); My.Txt K t: a structure (Prop) of the equations over K;
   My.txt_mk : {K} {implicit addresses ..} (e1 : nsIn K mainGlobals "law" = some (some (.ref f))) (e2 : K.lookup f = some ⟨oc, od, .func (fnOf "law" "law" params body scope dV kV doc pm an cdv ct), sl⟩) (e3 : codeIn K cdv "law" = true) .. : ∃ t, My.Txt K t
set_option maxRecDepth 100000 in
set_option maxHeartbeats 0 in
theorem PySem.Challenge.cw_LID_holds : PySem.Challenge.rw_LID.Holds := by
  w_on; o_law; k_head; (case hw => w_witness2)
  k_fill
  refine L2.walk_of (l := PySem.Challenge.rw_LID) (n := 63) (k := 40) (x := "script") (CX := fun w => ..) (sp := fun _ => My.sp_law) rfl (by decide) rfl ⟨rfl, by decide, by decide⟩ (fun w h Y => PySem.W.kIn_of Y) ?F ?S ?C
  case F =>
    intro w mg fa h KX G hmg
    have T : ∃ t, My.Txt (L2.KOf KX) t := by
      dsimp only [L2.KOf]                          -- K must stand as «<heap const> w.params» for k_is
      refine' My.txt_mk ?e1 ?e2 ?e3 ..
      (case e1 => PySem.W.k_is)                    -- in the order: a name -> its address -> its object -> its parts
      (case e2 => PySem.W.k_is)
      ..
    obtain ⟨t, T⟩ := T
    have e0 := hmg.symm.trans (PySem.W.mg_of KX G T.law)
    cases e0                                       -- fa is the law's own address
    exact ⟨_, fun s u => .of_eq rfl, fun base kb nb => My.law_fn T kb nb⟩     -- if «.of_eq rfl» comes too early: refine' ⟨_, ?b, fun base kb nb => My.law_fn T kb nb⟩; exact fun s u => .of_eq rfl
  case S => exact fun w H a ns hl hO hS => ..
  case C => exact ..
(the tactic k_is has no namespace: write k_is) -/
namespace L2
open PySem PySem.Spec PyProof.Rows
def qw (s : Stmt) : Arguments := match s with
  | .FunctionDef _ a _ _ _ _ _ _ _ _ => a
  | _ => { posonlyargs := [], args := [], vararg := none, kwonlyargs := [], kw_defaults := [], kwarg := none, defaults := [] }
def qr (s : Stmt) : List Stmt := match s with
  | .FunctionDef _ _ b _ _ _ _ _ _ _ => b
  | _ => []
def qd (s : Stmt) : Scope := match s with
  | .FunctionDef _ _ _ _ _ _ sc _ _ _ => sc
  | _ => { kind := .function, names := [], isGenerator := false, isCoroutine := false }
abbrev CX0 : CXT := fun _ _ _ _ _ _ => False
abbrev E0 : XK := fun _ _ _ => False
theorem qho {X : Cx} : v9 CX0 X E0 := fun _ _ _ _ _ _ _ h => h.elim
structure Fun (K : PySem.W.Frag) (x qual : Str) (st : Stmt) (f : Addr) (fd : FuncData) : Prop where
  ex : ∃ (oc : Value) (od : Option Addr) (kV doc pm : Value) (an : Option Addr) (cdv ct : Value) (osl : Array (Option Value)),
    fd = PySem.W.fnOf x qual (qw st) (qr st) (qd st) .none kV doc pm an cdv ct /\ K.lookup f = some ⟨oc, od, .func fd, osl⟩ /\ PySem.W.codeIn K cdv qual = true
  kp : PySem.W.keepIn K (.ref f) = true
section
variable {P : Program} {w : World} {K : PySem.W.Frag} {mg : Str -> Option Value} {base : Heap}
theorem Fun.ok {x qual : Str} {st : Stmt} {f : Addr} {fd : FuncData} {N ps : List Str} {k : Nat} {sp : Sp} (F : Fun K x qual st f fd) (S : qt N ps (qd st)) (len : ∀ vs H Q E, sp vs H Q E -> vs.length = ps.length)
    (hbody : ∀ (cdv : Value) (A : Around) (outer : List Env) (s : Shared) (H : Hp) (vs : List V) (Q : VK) (E : XK), y9 k (A.deeper (envOfC qual (qd st) s.heap.objs.size f cdv)) -> sp vs H Q E ->
      ∃ t, PSs (qe7 CX0 P w K mg base N qual (qd st) f cdv A outer s H E).nox (qr st) t /\ t { nx := fun _ H' => Q .non H', rt := Q } (zL N vs) H) : jR P w K mg base CX0 (k + 1) f fd ps sp := by
  obtain ⟨oc, od, kV, doc, pm, an, cdv, ct, osl, rfl, lk, hcd⟩ := F.ex
  refine qi9 lk hcd S len fun A outer s H vs Q E hr hsp => ?_
  obtain ⟨t, h, q⟩ := hbody cdv A outer s H vs Q E hr hsp
  exact ⟨t, h.nox, q⟩
theorem Fun.binds {x qual : Str} {st : Stmt} {f : Addr} {fd : FuncData} {ps : List Str} (F : Fun K x qual st f fd)
    (h : ∀ (kV doc pm : Value) (an : Option Addr) (cdv ct : Value) (us : List Value), us.length = ps.length -> bindArgs (PySem.W.fnOf x qual (qw st) (qr st) (qd st) .none kV doc pm an cdv ct) ⟨us, []⟩ = pure (ps.zip us)) : ug K fd ps [] := by
  obtain ⟨oc, od, kV, doc, pm, an, cdv, ct, osl, rfl, lk, hcd⟩ := F.ex
  exact .all (h kV doc pm an cdv ct)
theorem zd {x qual : Str} {st : Stmt} {f : Addr} {oc : Value} {od an : Option Addr} {osl : Array (Option Value)} {kV doc pm cdv ct : Value} (l : K.lookup f = some ⟨oc, od, .func (PySem.W.fnOf x qual (qw st) (qr st) (qd st) .none kV doc pm an cdv ct), osl⟩)
    (c : PySem.W.codeIn K cdv qual = true) (k : PySem.W.keepIn K (.ref f) = true) : Fun K x qual st f (PySem.W.fnOf x qual (qw st) (qr st) (qd st) .none kV doc pm an cdv ct) := ⟨⟨oc, od, kV, doc, pm, an, cdv, ct, osl, rfl, l, c⟩, k⟩
end
section
variable {X : Cx}
end
theorem qix {A B : Prop} (h : B) : if false = true then A else B := by
  rw [if_neg Bool.false_ne_true]
  exact h
theorem qiy {A B : Prop} (h : A) : if true = true then A else B := by
  rw [if_pos rfl]
  exact h
def jm (H H' : Hp) : Prop := ∀ b o, H b = some o -> H' b = some o
theorem jm.refl (H : Hp) : jm H H := fun _ _ h => h
theorem jm.trans {H H1 H2 : Hp} (a : jm H H1) (b : jm H1 H2) : jm H H2 := fun c o h => b c o (a c o h)
theorem jm.free {H H' : Hp} (e : jm H H') {l : Addr} (h : H' l = Option.none) : H l = Option.none := by
  cases q : H l with
  | none => rfl
  | some o =>
    rw [e l o q] at h
    cases h
end L2
namespace L2.Sk
open PySem PySem.Spec PyProof.Rows
inductive D where
  | non | bl (b : Bool) | int (i : Int) | str (x : Str) | tup (xs : List D) | lst (xs : List D) | dic (kvs : List (Key × Int)) | fz (ns : List Int)
  | exc (n : Str)
abbrev Fr0 := PySem.W.Frag
structure XK6 (K : Fr0) (D : Addr) : Prop where
  ga : PySem.W.findIn K (.ref D) "__getattribute__" = some (some (.builtin "BaseException.__getattribute__"))
  gt : PySem.W.findIn K (.ref D) "__getattr__" = some none
  cl : PySem.W.findIn K (.ref D) "__class__" = some (some (.builtin "object.__class__"))
  ob : PySem.W.mroIn K D (.type "object") = some true
  be : PySem.W.subIn K (.ref D) (.type "BaseException") = some true
  is : (PySem.W.clsIn K D).isSome = true
  no : ∀ T ∈ ["int", "bool", "str", "tuple", "list", "dict"], PySem.W.kitOne K (.ref D) (.type T) = some false
def uh (K : Fr0) (n : Str) : Option Addr := match PySem.W.nsIn K mainGlobals n with
  | some (some (.ref C)) => some C
  | _ => none
def clR (K : Fr0) (RN : List Str) (n : Str) : Option Addr := if RN.contains n then uh K n else none
theorem qcr {K : Fr0} {RN : List Str} {n : Str} {C : Addr} (h : clR K RN n = some C) : RN.contains n = true /\ uh K n = some C := by
  unfold clR at h
  split at h
  . rename_i hn; exact ⟨hn, h⟩
  . cases h
def qlP (K : Fr0) (H : Hp) (a : Addr) (n : Str) : Prop := ∃ C, uh K n = some C /\ XK6 K C /\ ∃ o vs, H a = some (.frz o (.own a)) /\ o.cls = .ref C /\ o.data = .fields vs
def vq (K : Fr0) (H : Hp) (a : Addr) (xs : List V) : Prop :=
  H a = some (.tup xs) \/ ∃ (o : Obj) (its : Array Value) (n : Nat), K.lookup a = some o /\ o.cls = .type "tuple" /\ o.data = .seq its n /\ its.size <= sizeLine /\ qY xs its.toList
def qjh (K : Fr0) (H : Hp) (a : Addr) (xs : List V) : Prop :=
  (∃ o, H a = some (.frz o (.lst xs))) \/ ∃ (o : Obj) (its : Array Value) (n : Nat), K.lookup a = some o /\ o.cls = .type "list" /\ o.dict = none /\ o.data = .seq its n /\ its.size <= sizeLine /\ qY xs its.toList
theorem vq.sq {K : Fr0} {H : Hp} {a : Addr} {xs : List V} (h : vq K H a xs) : SqT K H a xs := by
  rcases h with h | h
  . exact .inl (.inl h)
  . exact .inr h
theorem qjh.sq {K : Fr0} {H : Hp} {a : Addr} {xs : List V} (h : qjh K H a xs) : SqL K H a xs := by
  rcases h with h | h
  . exact .inl (.inr h)
  . exact .inr h
mutual
def Is (K : Fr0) (A : Addr -> Prop) (H : Hp) : D -> V -> Prop
  | .non, v => v = .non
  | .bl b, v => v = .bl b
  | .int i, v => v = .int i
  | .str x, v => v = .str x
  | .tup ds, v => ∃ a xs, v = .ref a /\ vq K H a xs /\ IsL K A H ds xs
  | .lst ds, v => ∃ a xs, v = .ref a /\ A a /\ H a = some (.lst xs) /\ IsL K A H ds xs
  | .dic kvs, v => ∃ a, v = .ref a /\ A a /\ H a = some (.dK (kvs.map fun p => (p.1, V.int p.2)))
  | .fz ns, v => ∃ a, v = .ref a /\ qjh K H a (ns.map V.int)
  | .exc n, v => ∃ a, v = .ref a /\ qlP K H a n
def IsL (K : Fr0) (A : Addr -> Prop) (H : Hp) : List D -> List V -> Prop
  | [], xs => xs = []
  | d :: ds, xs => ∃ x ys, xs = x :: ys /\ Is K A H d x /\ IsL K A H ds ys
end
mutual
def imm : D -> Bool
  | .tup ds => immL ds
  | .lst _ => false
  | .dic _ => false
  | .fz _ => false
  | _ => true
def immL : List D -> Bool
  | [] => true
  | d :: ds => imm d && immL ds
end
structure Ext (A : Addr -> Prop) (H H' : Hp) : Prop where
  tup : ∀ b xs, H b = some (.tup xs) -> H' b = some (.tup xs)
  frz : ∀ b o u, H b = some (.frz o u) -> H' b = some (.frz o u)
  at_ : ∀ b o, A b -> H b = some o -> H' b = some o
theorem Ext.refl {A : Addr -> Prop} {H : Hp} : Ext A H H := ⟨fun _ _ h => h, fun _ _ _ h => h, fun _ _ _ h => h⟩
theorem Ext.of_same {A : Addr -> Prop} {H H' : Hp} (s : jm H H') : Ext A H H' := ⟨fun b xs h => s b _ h, fun b o u h => s b _ h, fun b o _ h => s b o h⟩
mutual
theorem Is.ext {K : Fr0} {A B : Addr -> Prop} {H H' : Hp} (e : Ext A H H') (hAB : ∀ a, A a -> (H a).isSome = true -> B a) : ∀ {d : D} {v : V}, Is K A H d v -> Is K B H' d v
  | .non, _, h => h
  | .bl _, _, h => h
  | .int _, _, h => h
  | .str _, _, h => h
  | .tup ds, _, ⟨a, xs, hv, h, r⟩ => ⟨a, xs, hv, h.elim (fun h => .inl (e.tup _ _ h)) .inr, IsL.ext e hAB r⟩
  | .lst ds, _, ⟨a, xs, hv, hA, h, r⟩ => ⟨a, xs, hv, hAB a hA (by rw [h]; rfl), e.at_ _ _ hA h, IsL.ext e hAB r⟩
  | .dic kvs, _, ⟨a, hv, hA, h⟩ => ⟨a, hv, hAB a hA (by rw [h]; rfl), e.at_ _ _ hA h⟩
  | .fz ns, _, ⟨a, hv, h⟩ => ⟨a, hv, h.elim (fun ⟨o, h⟩ => .inl ⟨o, e.frz _ _ _ h⟩) .inr⟩
  | .exc n, _, ⟨a, hv, C, hc, hk, o, vs, h, r⟩ => ⟨a, hv, C, hc, hk, o, vs, e.frz _ _ _ h, r⟩
theorem IsL.ext {K : Fr0} {A B : Addr -> Prop} {H H' : Hp} (e : Ext A H H') (hAB : ∀ a, A a -> (H a).isSome = true -> B a) : ∀ {ds : List D} {xs : List V}, IsL K A H ds xs -> IsL K B H' ds xs
  | [], _, h => h
  | _ :: _, _, ⟨x, ys, hx, h, r⟩ => ⟨x, ys, hx, Is.ext e hAB h, IsL.ext e hAB r⟩
end
mutual
theorem Is.imm {K : Fr0} {A B : Addr -> Prop} {H : Hp} : ∀ {d : D} {v : V}, imm d = true -> Is K A H d v -> Is K B H d v
  | .non, _, _, h => h
  | .bl _, _, _, h => h
  | .int _, _, _, h => h
  | .str _, _, _, h => h
  | .tup ds, _, i, ⟨a, xs, hv, h, r⟩ => ⟨a, xs, hv, h, IsL.imm (by simpa [Sk.imm] using i) r⟩
  | .lst _, _, i, _ => by simp [Sk.imm] at i
  | .dic _, _, i, _ => by simp [Sk.imm] at i
  | .fz _, _, i, _ => by simp [Sk.imm] at i
  | .exc _, _, _, h => h
theorem IsL.imm {K : Fr0} {A B : Addr -> Prop} {H : Hp} : ∀ {ds : List D} {xs : List V}, immL ds = true -> IsL K A H ds xs -> IsL K B H ds xs
  | [], _, _, h => h
  | d :: ds, _, i, ⟨x, ys, hx, h, r⟩ => by
    have i' : Sk.imm d = true /\ immL ds = true := by simpa [immL] using i
    exact ⟨x, ys, hx, Is.imm i'.1 h, IsL.imm i'.2 r⟩
end
theorem IsL.length {K : Fr0} {A : Addr -> Prop} {H : Hp} : ∀ {ds : List D} {xs : List V}, IsL K A H ds xs -> xs.length = ds.length
  | [], _, h => by rw [h]; rfl
  | _ :: _, _, ⟨x, ys, hx, _, r⟩ => by rw [hx, List.length_cons, List.length_cons, IsL.length r]
theorem IsL.get {K : Fr0} {A : Addr -> Prop} {H : Hp} : ∀ {ds : List D} {xs : List V} {i : Nat} {d : D}, IsL K A H ds xs -> ds[i]? = some d -> ∃ x, xs[i]? = some x /\ Is K A H d x
  | [], _, _, _, _, h => by simp at h
  | e :: _, _, 0, d, ⟨x, ys, hx, h, r⟩, hd => by
    have e1 : e = d := by simpa using hd
    subst e1
    exact ⟨x, by rw [hx]; rfl, h⟩
  | _ :: ds, _, i + 1, d, ⟨x, ys, hx, h, r⟩, hd => by
    obtain ⟨y, h1, h2⟩ := IsL.get (i := i) (d := d) r (by simpa using hd)
    exact ⟨y, by rw [hx]; simpa using h1, h2⟩
theorem IsL.append {K : Fr0} {A : Addr -> Prop} {H : Hp} : ∀ {ds es : List D} {xs ys : List V}, IsL K A H ds xs -> IsL K A H es ys -> IsL K A H (ds ++ es) (xs ++ ys)
  | [], _, _, _, h, g => by rw [h]; exact g
  | _ :: _, _, _, _, ⟨x, zs, hx, h, r⟩, g => ⟨x, zs ++ _, by rw [hx]; rfl, h, IsL.append r g⟩
theorem IsL.take {K : Fr0} {A : Addr -> Prop} {H : Hp} : ∀ {ds : List D} {xs : List V} (n : Nat), IsL K A H ds xs -> IsL K A H (ds.take n) (xs.take n)
  | _, _, 0, _ => by simp [IsL]
  | [], _, _ + 1, h => by rw [h]; simp [IsL]
  | _ :: _, _, n + 1, ⟨x, ys, hx, h, r⟩ => by rw [hx]; exact ⟨x, ys.take n, rfl, h, IsL.take n r⟩
theorem IsL.drop {K : Fr0} {A : Addr -> Prop} {H : Hp} : ∀ {ds : List D} {xs : List V} (n : Nat), IsL K A H ds xs -> IsL K A H (ds.drop n) (xs.drop n)
  | _, _, 0, h => h
  | [], _, _ + 1, h => by rw [h]; simp [IsL]
  | _ :: _, _, n + 1, ⟨x, ys, hx, h, r⟩ => by rw [hx]; exact IsL.drop n r
theorem IsL.one {K : Fr0} {A : Addr -> Prop} {H : Hp} {d : D} {v : V} (h : Is K A H d v) : IsL K A H [d] [v] := ⟨v, [], rfl, h, rfl⟩
theorem IsL.set {K : Fr0} {A : Addr -> Prop} {H : Hp} {d : D} {v : V} (hd : Is K A H d v) : ∀ {ds : List D} {xs : List V} (n : Nat), IsL K A H ds xs -> IsL K A H (ds.set n d) (xs.set n v)
  | [], _, _, h => by rw [h]; simp [IsL]
  | _ :: _, _, 0, ⟨x, ys, hx, h, r⟩ => by rw [hx]; exact ⟨v, ys, rfl, hd, r⟩
  | _ :: _, _, n + 1, ⟨x, ys, hx, h, r⟩ => by rw [hx]; exact ⟨x, ys.set n v, rfl, h, IsL.set hd n r⟩
abbrev Env := List (Option D)
structure Exn where
  cls : Str
  val : D
inductive R (α : Type) where
  | ok (a : α) | exc (x : Exn) (ρ : Env) | bad
structure Fc where
  O : List Nat
  P : List Nat
  B : Addr -> Prop
  H0 : Hp
  Io : Addr -> Prop
  E : Exn -> Hp -> Prop
  S : Nat -> Option (Option V)
def Cl (O : List Nat) (σ : St) (a : Addr) : Prop := ∀ j ∈ O, σ[j]? ≠ some (some (.ref a))
def Cn (c : Fc) (σ : St) (a : Addr) : Prop := c.B a /\ Cl c.O σ a
structure Rep (K : Fr0) (c : Fc) (ρ : Env) (σ : St) (H : Hp) : Prop where
  len : ρ.length = σ.length
  val : ∀ i d, ρ[i]? = some (some d) -> ∃ v, σ[i]? = some (some v) /\
    ((i ∈ c.O /\ ∃ ds a xs, d = .lst ds /\ v = .ref a /\ H a = some (.lst xs) /\ IsL K (Cn c σ) H ds xs) \/ (i ∉ c.O /\ Is K (Cn c σ) H d v))
  own : ∀ j ∈ c.O, ∀ v, σ[j]? = some (some v) -> ∃ a xs, v = .ref a /\ H a = some (.lst xs) /\ (c.H0 a = none \/ (j ∈ c.P /\ c.Io a))
  inj : ∀ i j a, i ∈ c.O -> j ∈ c.O -> σ[i]? = some (some (.ref a)) -> σ[j]? = some (some (.ref a)) -> i = j
  b0 : ∀ a, c.H0 a = none -> c.B a
  kp : ∀ b o, c.H0 b = some o -> ¬ c.Io b -> H b = some o
  dm : ∀ b, H b = none -> c.H0 b = none
  pO : ∀ j ∈ c.P, j ∈ c.O
  ps : ∀ j ∈ c.P, σ[j]? = c.S j
structure Gr (O : List Nat) (σ : St) (H H' : Hp) : Prop where
  ext : Ext (Cl O σ) H H'
  dom : ∀ b, H' b = none -> H b = none
theorem Gr.refl {O : List Nat} {σ : St} {H : Hp} : Gr O σ H H := ⟨Ext.refl, fun _ h => h⟩
theorem Gr.of_same {O : List Nat} {σ : St} {H H' : Hp} (s : jm H H') : Gr O σ H H' := ⟨Ext.of_same s, fun _ h => s.free h⟩
theorem Gr.trans {O : List Nat} {σ : St} {H H1 H2 : Hp} (a : Gr O σ H H1) (b : Gr O σ H1 H2) : Gr O σ H H2 :=
  ⟨⟨fun c xs h => b.ext.tup c xs (a.ext.tup c xs h), fun c o u h => b.ext.frz c o u (a.ext.frz c o u h), fun c o hc h => b.ext.at_ c o hc (a.ext.at_ c o hc h)⟩, fun c h => a.dom c (b.dom c h)⟩
theorem Gr.cn {c : Fc} {σ : St} {H H' : Hp} (g : Gr c.O σ H H') : Ext (Cn c σ) H H' := ⟨g.ext.tup, g.ext.frz, fun b o hb h => g.ext.at_ b o hb.2 h⟩
theorem Gr.is {K : Fr0} {c : Fc} {σ : St} {H H' : Hp} {d : D} {v : V} (g : Gr c.O σ H H') (h : Is K (Cn c σ) H d v) : Is K (Cn c σ) H' d v := Is.ext g.cn (fun _ h _ => h) h
theorem Gr.isL {K : Fr0} {c : Fc} {σ : St} {H H' : Hp} {d : List D} {v : List V} (g : Gr c.O σ H H') (h : IsL K (Cn c σ) H d v) : IsL K (Cn c σ) H' d v := IsL.ext g.cn (fun _ h _ => h) h
theorem Rep.new {K : Fr0} {c : Fc} {ρ : Env} {σ : St} {H : Hp} (r : Rep K c ρ σ H) {a : Addr} (h : H a = none) : Cn c σ a :=
  ⟨r.b0 a (r.dm a h), fun j hj e => by obtain ⟨b, xs, e1, e2, _⟩ := r.own j hj _ e; cases e1; rw [h] at e2; cases e2⟩
theorem Rep.same {K : Fr0} {c : Fc} {ρ : Env} {σ : St} {H H' : Hp} (r : Rep K c ρ σ H) (s : jm H H') : Rep K c ρ σ H' where
  len := r.len
  val := fun i d h => by
    obtain ⟨v, h1, h2⟩ := r.val i d h
    refine ⟨v, h1, ?_⟩
    rcases h2 with ⟨hi, ds, a, xs, h3, h5, h6, h7⟩ | ⟨hi, h3⟩
    . exact .inl ⟨hi, ds, a, xs, h3, h5, s _ _ h6, IsL.ext (Ext.of_same s) (fun _ h _ => h) h7⟩
    . exact .inr ⟨hi, Is.ext (Ext.of_same s) (fun _ h _ => h) h3⟩
  own := fun j hj v h => by
    obtain ⟨a, xs, h1, h2, h3⟩ := r.own j hj v h
    exact ⟨a, xs, h1, s _ _ h2, h3⟩
  inj := r.inj
  b0 := r.b0
  kp := fun b o h1 h2 => s _ _ (r.kp b o h1 h2)
  dm := fun b h => r.dm b (s.free h)
  pO := r.pO
  ps := r.ps
theorem Rep.get {K : Fr0} {c : Fc} {ρ : Env} {σ : St} {H : Hp} (r : Rep K c ρ σ H) {i : Nat} {d : D} (hi : i ∉ c.O) (h : ρ[i]? = some (some d)) : ∃ v, σ[i]? = some (some v) /\ Is K (Cn c σ) H d v := by
  obtain ⟨v, h1, h2⟩ := r.val i d h
  rcases h2 with ⟨h3, _⟩ | ⟨_, h3⟩
  . exact absurd h3 hi
  . exact ⟨v, h1, h3⟩
theorem Rep.getO {K : Fr0} {c : Fc} {ρ : Env} {σ : St} {H : Hp} (r : Rep K c ρ σ H) {i : Nat} {d : D} (hi : i ∈ c.O) (h : ρ[i]? = some (some d)) :
    ∃ ds a xs, d = .lst ds /\ σ[i]? = some (some (.ref a)) /\ H a = some (.lst xs) /\ IsL K (Cn c σ) H ds xs := by
  obtain ⟨v, h1, h2⟩ := r.val i d h
  rcases h2 with ⟨_, ds, a, xs, h3, h5, h6, h7⟩ | ⟨h3, _⟩
  . subst h5; exact ⟨ds, a, xs, h3, h1, h6, h7⟩
  . exact absurd hi h3
abbrev M (α : Type) := Env -> R (α × Env)
def Wp (K : Fr0) (c : Fc) (σ : St) (H : Hp) (Q : VK) : R (D × Env) -> Prop
  | .ok (d, ρ) => ∀ v H', Rep K c ρ σ H' -> Is K (Cn c σ) H' d v -> Gr c.O σ H H' -> Q v H'
  | .exc x ρ => ∀ H', Rep K c ρ σ H' -> Gr c.O σ H H' -> c.E x H'
  | .bad => False
def WpB (K : Fr0) (c : Fc) (σ : St) (H : Hp) (Q : Bool -> Hp -> Prop) : R (Bool × Env) -> Prop
  | .ok (b, ρ) => ∀ H', Rep K c ρ σ H' -> Gr c.O σ H H' -> Q b H'
  | .exc x ρ => ∀ H', Rep K c ρ σ H' -> Gr c.O σ H H' -> c.E x H'
  | .bad => False
def WpL (K : Fr0) (c : Fc) (σ : St) (H : Hp) (Q : List V -> Hp -> Prop) : R (List D × Env) -> Prop
  | .ok (ds, ρ) => ∀ vs H', Rep K c ρ σ H' -> IsL K (Cn c σ) H' ds vs -> Gr c.O σ H H' -> Q vs H'
  | .exc x ρ => ∀ H', Rep K c ρ σ H' -> Gr c.O σ H H' -> c.E x H'
  | .bad => False
def DE (X : Cx) (c : Fc) (e : Expr) (f : M D) : Prop := ∃ t, PE X e t /\ ∀ ρ σ H Q, Rep X.K c ρ σ H -> Wp X.K c σ H Q (f ρ) -> t σ H Q
def DT (X : Cx) (c : Fc) (e : Expr) (f : M Bool) : Prop := ∃ t, PT X e t /\ ∀ ρ σ H Q, Rep X.K c ρ σ H -> WpB X.K c σ H Q (f ρ) -> t σ H Q
def DA (X : Cx) (c : Fc) (es : List Expr) (f : M (List D)) : Prop := ∃ t, PA X es t /\ ∀ ρ σ H Q, Rep X.K c ρ σ H -> WpL X.K c σ H Q (f ρ) -> t σ H Q
def ret {α : Type} (a : α) : M α := fun ρ => .ok (a, ρ)
def bnd {α β : Type} (f : M α) (k : α -> M β) : M β := fun ρ => match f ρ with
  | .ok (a, ρ') => k a ρ'
  | .exc x ρ' => .exc x ρ'
  | .bad => .bad
def lift {α : Type} : Option α -> M α
  | some a => ret a
  | none => fun _ => .bad
section
variable {K : Fr0} {c : Fc} {σ : St} {H H1 : Hp} {Q : VK} {QB : Bool -> Hp -> Prop} {QL : List V -> Hp -> Prop} {r : R (D × Env)}
theorem Wp.gr : ∀ {r : R (D × Env)}, Wp K c σ H Q r -> Gr c.O σ H H1 -> Wp K c σ H1 Q r
  | .ok (d, ρ), h, g => fun v H' hr hi hg => h v H' hr hi (g.trans hg)
  | .exc x ρ, h, g => fun H' hr hg => h H' hr (g.trans hg)
  | .bad, h, _ => h
theorem WpB.gr : ∀ {r : R (Bool × Env)}, WpB K c σ H QB r -> Gr c.O σ H H1 -> WpB K c σ H1 QB r
  | .ok (d, ρ), h, g => fun H' hr hg => h H' hr (g.trans hg)
  | .exc x ρ, h, g => fun H' hr hg => h H' hr (g.trans hg)
  | .bad, h, _ => h
theorem WpL.gr : ∀ {r : R (List D × Env)}, WpL K c σ H QL r -> Gr c.O σ H H1 -> WpL K c σ H1 QL r
  | .ok (d, ρ), h, g => fun v H' hr hi hg => h v H' hr hi (g.trans hg)
  | .exc x ρ, h, g => fun H' hr hg => h H' hr (g.trans hg)
  | .bad, h, _ => h
theorem Wp.bnd {f : M D} {k : D -> M D} {ρ : Env} {Q' : VK} (h : Wp K c σ H Q (bnd f k ρ)) (hQ : ∀ d ρ' v H', Rep K c ρ' σ H' -> Is K (Cn c σ) H' d v -> Gr c.O σ H H' -> Wp K c σ H' Q (k d ρ') -> Q' v H') : Wp K c σ H Q' (f ρ) := by
  unfold Sk.bnd at h
  cases e : f ρ with
  | ok p => rw [e] at h; exact fun v H' hr hi hg => hQ p.1 p.2 v H' hr hi hg (h.gr hg)
  | exc x ρ' => rw [e] at h; exact h
  | bad => rw [e] at h; exact h
theorem Wp.bndB {f : M D} {k : D -> M Bool} {ρ : Env} {Q' : VK} (h : WpB K c σ H QB (Sk.bnd f k ρ)) (hQ : ∀ d ρ' v H', Rep K c ρ' σ H' -> Is K (Cn c σ) H' d v -> Gr c.O σ H H' -> WpB K c σ H' QB (k d ρ') -> Q' v H') : Wp K c σ H Q' (f ρ) := by
  unfold Sk.bnd at h
  cases e : f ρ with
  | ok p => rw [e] at h; exact fun v H' hr hi hg => hQ p.1 p.2 v H' hr hi hg (h.gr hg)
  | exc x ρ' => rw [e] at h; exact h
  | bad => rw [e] at h; exact h
theorem Wp.bndL {f : M D} {k : D -> M (List D)} {ρ : Env} {Q' : VK} (h : WpL K c σ H QL (Sk.bnd f k ρ)) (hQ : ∀ d ρ' v H', Rep K c ρ' σ H' -> Is K (Cn c σ) H' d v -> Gr c.O σ H H' -> WpL K c σ H' QL (k d ρ') -> Q' v H') : Wp K c σ H Q' (f ρ) := by
  unfold Sk.bnd at h
  cases e : f ρ with
  | ok p => rw [e] at h; exact fun v H' hr hi hg => hQ p.1 p.2 v H' hr hi hg (h.gr hg)
  | exc x ρ' => rw [e] at h; exact h
  | bad => rw [e] at h; exact h
theorem WpB.bnd {f : M Bool} {k : Bool -> M D} {ρ : Env} {Q' : Bool -> Hp -> Prop} (h : Wp K c σ H Q (Sk.bnd f k ρ)) (hQ : ∀ d ρ' H', Rep K c ρ' σ H' -> Gr c.O σ H H' -> Wp K c σ H' Q (k d ρ') -> Q' d H') : WpB K c σ H Q' (f ρ) := by
  unfold Sk.bnd at h
  cases e : f ρ with
  | ok p => rw [e] at h; exact fun H' hr hg => hQ p.1 p.2 H' hr hg (h.gr hg)
  | exc x ρ' => rw [e] at h; exact h
  | bad => rw [e] at h; exact h
theorem WpB.bndB {f : M Bool} {k : Bool -> M Bool} {ρ : Env} {Q' : Bool -> Hp -> Prop} (h : WpB K c σ H QB (Sk.bnd f k ρ)) (hQ : ∀ d ρ' H', Rep K c ρ' σ H' -> Gr c.O σ H H' -> WpB K c σ H' QB (k d ρ') -> Q' d H') : WpB K c σ H Q' (f ρ) := by
  unfold Sk.bnd at h
  cases e : f ρ with
  | ok p => rw [e] at h; exact fun H' hr hg => hQ p.1 p.2 H' hr hg (h.gr hg)
  | exc x ρ' => rw [e] at h; exact h
  | bad => rw [e] at h; exact h
theorem WpL.bnd {f : M (List D)} {k : List D -> M D} {ρ : Env} {Q' : List V -> Hp -> Prop} (h : Wp K c σ H Q (Sk.bnd f k ρ)) (hQ : ∀ d ρ' v H', Rep K c ρ' σ H' -> IsL K (Cn c σ) H' d v -> Gr c.O σ H H' -> Wp K c σ H' Q (k d ρ') -> Q' v H') : WpL K c σ H Q' (f ρ) := by
  unfold Sk.bnd at h
  cases e : f ρ with
  | ok p => rw [e] at h; exact fun v H' hr hi hg => hQ p.1 p.2 v H' hr hi hg (h.gr hg)
  | exc x ρ' => rw [e] at h; exact h
  | bad => rw [e] at h; exact h
theorem WpL.bndL {f : M (List D)} {k : List D -> M (List D)} {ρ : Env} {Q' : List V -> Hp -> Prop} (h : WpL K c σ H QL (Sk.bnd f k ρ)) (hQ : ∀ d ρ' v H', Rep K c ρ' σ H' -> IsL K (Cn c σ) H' d v -> Gr c.O σ H H' -> WpL K c σ H' QL (k d ρ') -> Q' v H') : WpL K c σ H Q' (f ρ) := by
  unfold Sk.bnd at h
  cases e : f ρ with
  | ok p => rw [e] at h; exact fun v H' hr hi hg => hQ p.1 p.2 v H' hr hi hg (h.gr hg)
  | exc x ρ' => rw [e] at h; exact h
  | bad => rw [e] at h; exact h
theorem Wp.lift {o : Option D} {ρ : Env} (h : Wp K c σ H Q (Sk.lift o ρ)) : ∃ d, o = some d /\ ∀ v H', Rep K c ρ σ H' -> Is K (Cn c σ) H' d v -> Gr c.O σ H H' -> Q v H' := by
  cases o with
  | none => exact h.elim
  | some d => exact ⟨d, rfl, h⟩
end
section
variable {X : Cx} {c : Fc} {a b e : Expr} {pos : Pos}
theorem qh {i j pos} : DE X c (.Constant (.int i) j pos) (ret (.int i)) := ⟨_, qgg, fun _ _ H Q r h => h _ H r rfl .refl⟩
theorem wp {i j pos} : DE X c (.Constant (.bool i) j pos) (ret (.bl i)) := ⟨_, qki, fun _ _ H Q r h => h _ H r rfl .refl⟩
theorem qbm {j pos} : DE X c (.Constant .none j pos) (ret .non) := ⟨_, qiJ, fun _ _ H Q r h => h _ H r rfl .refl⟩
theorem yw {x j pos} : DE X c (.Constant (.str x) j pos) (ret (.str x)) := ⟨_, qiK, fun _ _ H Q r h => h _ H r rfl .refl⟩
def dv (i : Nat) : M D := fun ρ => match ρ[i]? with
  | some (some d) => .ok (d, ρ)
  | _ => .bad
theorem qc (i : Nat) {x : Str} (ho : i ∉ c.O := by exact of_decide_eq_false rfl) (hN : X.N[i]? = some x := by rfl) (hv : Vis X.env.scope x := by first | exact Or.inl rfl | exact Or.inr (Or.inl rfl) | exact Or.inr (Or.inr rfl)) (hd : (x == ("__debug__" : Str)) = false := by decide)
    (hcd : (x == ("__classdict__" : Str)) = false := by decide) : DE X c (.Name x pos) (dv i) := by
  refine ⟨_, uf hN hv hd hcd, fun ρ σ H Q r h => ?_⟩
  unfold dv at h
  split at h
  . rename_i d e
    obtain ⟨v, h1, h2⟩ := r.get ho e
    exact ⟨v, h1, h v H r h2 .refl⟩
  . exact h.elim
theorem qdX {x : Str} {v : V} {u : Value} {d : D} (hg : Gl X x) (hm : X.mg x = some u) (rv : jv v u) (hd : ∀ H A, Is X.K A H d v) (hdb : (x == ("__debug__" : Str)) = false := by decide) : DE X c (.Name x pos) (ret d) :=
  ⟨_, qbW hg hm rv hdb, fun _ _ H Q r h => h _ H r (hd _ _) .refl⟩
theorem qe : DA X c [] (ret []) := ⟨_, uX, fun _ _ H Q r h => h _ H r rfl .refl⟩
def qa (f : M D) (g : M (List D)) : M (List D) := bnd f fun d => bnd g fun ds => ret (d :: ds)
theorem qb {es : List Expr} {f : M D} {g : M (List D)} (ha : DE X c e f) (hr : DA X c es g) (hs : starEach (e :: es) X.env = (false, eval e X.env) :: starEach es X.env := by rfl) : DA X c (e :: es) (qa f g) := by
  obtain ⟨ta, pa, wa⟩ := ha
  obtain ⟨tr, pr, wr⟩ := hr
  refine ⟨_, jk pa pr hs, fun ρ σ H Q r h => wa ρ σ H _ r (Wp.bndL h fun d ρ1 v H1 r1 i1 g1 h1 => wr ρ1 σ H1 _ r1 (WpL.bndL h1 fun ds ρ2 vs H2 r2 i2 g2 h2 => ?_))⟩
  exact h2 _ H2 r2 ⟨v, vs, rfl, g2.is i1, i2⟩ .refl
def qG (n : Nat) : Bool := decide (n <= sizeLine)
def uZ (f : M (List D)) : M D := bnd f fun ds => lift (if qG ds.length then some (.tup ds) else none)
def jQ (f : M (List D)) : M D := bnd f fun ds => lift (if qG ds.length then some (.lst ds) else none)
theorem qy {H : Hp} {p : Addr} (h : H p = none) (o : HO) : jm H (upd H p o) := fun b u q => by rw [qs (qN q h)]; exact q
theorem Rep.laid {K : Fr0} {ρ : Env} {σ : St} {H : Hp} (r : Rep K c ρ σ H) {p : Addr} (h : H p = none) (o : HO) : Rep K c ρ σ (upd H p o) := r.same (qy h o)
theorem zM {p : Bool} {d e : D} (h : (if p then some d else none) = some e) : p = true /\ d = e := by
  cases p with
  | true => exact ⟨rfl, by simpa using h⟩
  | false => simp at h
theorem wu {es : List Expr} {x1} {f : M (List D)} (h : DA X c es f) : DE X c (.Tuple es x1 pos) (uZ f) := by
  obtain ⟨t, p, w⟩ := h
  refine ⟨_, qi7 p, fun ρ σ H Q r h => w ρ σ H _ r (WpL.bnd h fun ds ρ1 vs H1 r1 i1 g1 h1 => ?_)⟩
  obtain ⟨d, e, h2⟩ := h1.lift
  obtain ⟨e1, e2⟩ := zM e
  subst e2
  refine ⟨by rw [i1.length]; exact of_decide_eq_true e1, fun p hp => h2 _ _ (r1.laid hp _) ⟨p, vs, rfl, .inl qv, IsL.ext (Ext.of_same (qy hp _)) (fun _ h _ => h) i1⟩ (.of_same (qy hp _))⟩
theorem jS {es : List Expr} {f : M (List D)} (h : DA X c es f) : DE X c (.List es pos) (jQ f) := by
  obtain ⟨t, p, w⟩ := h
  refine ⟨_, qdP p, fun ρ σ H Q r h => w ρ σ H _ r (WpL.bnd h fun ds ρ1 vs H1 r1 i1 g1 h1 => ?_)⟩
  obtain ⟨d, e, h2⟩ := h1.lift
  obtain ⟨e1, e2⟩ := zM e
  subst e2
  refine ⟨by rw [i1.length]; exact of_decide_eq_true e1, fun p hp => h2 _ _ (r1.laid hp _) ⟨p, vs, rfl, r1.new hp, qv, IsL.ext (Ext.of_same (qy hp _)) (fun _ h _ => h) i1⟩ (.of_same (qy hp _))⟩
def OpS (K : Fr0) (F : D -> D -> Option D) (r : R2) : Prop := ∀ (A : Addr -> Prop) (H : Hp) (x y d : D) (v u : V) (Q : VK), (∀ a, H a = none -> A a) -> Is K A H x v -> Is K A H y u -> F x y = some d ->
  (∀ w H', jm H H' -> Is K A H' d w -> Q w H') -> r v u H Q
def d2 (F : D -> D -> Option D) (f g : M D) : M D := bnd f fun x => bnd g fun y => lift (F x y)
theorem op2 {r : R2} {F : D -> D -> Option D} {f g : M D} {ta tb : TE} (hF : OpS X.K F r) (wa : ∀ ρ σ H Q, Rep X.K c ρ σ H -> Wp X.K c σ H Q (f ρ) -> ta σ H Q) (wb : ∀ ρ σ H Q, Rep X.K c ρ σ H -> Wp X.K c σ H Q (g ρ) -> tb σ H Q) :
    ∀ ρ σ H Q, Rep X.K c ρ σ H -> Wp X.K c σ H Q (d2 F f g ρ) -> tOp r ta tb σ H Q := fun ρ σ H Q rp h => wa ρ σ H _ rp (Wp.bnd h fun x ρ1 v H1 r1 i1 g1 h1 => wb ρ1 σ H1 _ r1 (Wp.bnd h1 fun y ρ2 u H2 r2 i2 g2 h2 => by
  obtain ⟨d, e, h3⟩ := h2.lift
  exact hF _ H2 x y d v u Q (fun a ha => r2.new ha) (g2.is i1) i2 e fun w H' s i => h3 w H' (r2.same s) i (.of_same s)))
theorem qu {op : Operator} {r : R2} {F : D -> D -> Option D} {f g : M D} (ho : OpR X (binaryOp op) r) (hF : OpS X.K F r) (ha : DE X c a f) (hb : DE X c b g) : DE X c (.BinOp a op b pos) (d2 F f g) := by
  obtain ⟨ta, pa, wa⟩ := ha
  obtain ⟨tb, pb, wb⟩ := hb
  exact ⟨_, qku ho pa pb, op2 hF wa wb⟩
theorem qgm {op : CmpOp} {r : R2} {F : D -> D -> Option D} {f g : M D} (ho : OpR X (compareOp op) r) (hF : OpS X.K F r) (ha : DE X c a f) (hb : DE X c b g) (hm : behindInMarks op b = false) : DE X c (.Compare a [op] [b] pos) (d2 F f g) := by
  obtain ⟨ta, pa, wa⟩ := ha
  obtain ⟨tb, pb, wb⟩ := hb
  exact ⟨_, qhg ho pa pb hm, op2 hF wa wb⟩
def asB : D -> Option Bool
  | .bl b => some b
  | _ => none
def tst (f : M D) : M Bool := bnd f fun d => lift (asB d)
theorem qcs {K : Fr0} {σ : St} {H : Hp} {QB : Bool -> Hp -> Prop} {o : Option Bool} {ρ : Env} (h : WpB K c σ H QB (lift o ρ)) : ∃ b, o = some b /\ ∀ H', Rep K c ρ σ H' -> Gr c.O σ H H' -> QB b H' := by
  cases o with
  | none => exact h.elim
  | some d => exact ⟨d, rfl, h⟩
theorem qaC {d : D} {b : Bool} (h : asB d = some b) : d = .bl b := by
  cases d <;> simp [asB] at h
  subst h; rfl
theorem z4 {op : CmpOp} {r : R2} {F : D -> D -> Option D} {f g : M D} (ho : OpR X (compareOp op) r) (hF : OpS X.K F r) (ha : DE X c a f) (hb : DE X c b g) (hm : behindInMarks op b = false) : DT X c (.Compare a [op] [b] pos) (tst (d2 F f g)) := by
  obtain ⟨ta, pa, wa⟩ := ha
  obtain ⟨tb, pb, wb⟩ := hb
  refine ⟨_, qdM ho pa pb hm, fun ρ σ H Q rp h => op2 hF wa wb ρ σ H _ rp (Wp.bndB h fun d ρ1 v H1 r1 i1 g1 h1 => ?_)⟩
  obtain ⟨b, e, h2⟩ := qcs h1
  have := qaC e
  subst this
  exact ⟨b, i1, h2 H1 r1 .refl⟩
theorem wv {f : M D} (h : DE X c e f) (he : ∀ whole, isTrue e X.env whole = (do let v <- whole; standAt e.pos; holding [v] (truthy v)) := by intro _; rfl) : DT X c e (tst f) := by
  obtain ⟨t, p, w⟩ := h
  refine ⟨_, qiL p he, fun ρ σ H Q rp h => w ρ σ H _ rp (Wp.bndB h fun d ρ1 v H1 r1 i1 g1 h1 => ?_)⟩
  obtain ⟨b, e, h2⟩ := qcs h1
  have := qaC e
  subst this
  exact ⟨b, i1, h2 H1 r1 .refl⟩
def qe8 (f : M Bool) : M Bool := bnd f fun b => ret (!b)
theorem ww {f : M Bool} (h : DT X c a f) : DT X c (.UnaryOp .Not a pos) (qe8 f) := by
  obtain ⟨t, p, w⟩ := h
  exact ⟨_, qiO p, fun ρ σ H Q rp h => w ρ σ H _ rp (WpB.bndB h fun d ρ1 H1 r1 g1 h1 => h1 H1 r1 .refl)⟩
def DW (X : Cx) (c : Fc) (e : Expr) (f : M Bool) : Prop := ∃ t, PW X e t /\ ∀ ρ σ H Q, Rep X.K c ρ σ H -> WpB X.K c σ H Q (f ρ) -> t σ H Q
theorem DW.dt {f : M Bool} (h : DW X c e f) : DT X c e f := by
  obtain ⟨t, p, w⟩ := h
  exact ⟨t, p.pt, w⟩
def qhp (f g : M Bool) : M Bool := bnd f fun b => if b then g else ret false
def tor (f g : M Bool) : M Bool := bnd f fun b => if b then ret true else g
variable {yv : List Expr}
theorem qhq {f : M Bool} (h : DT X c a f) : DW X c (.BoolOp .And [a] pos) f := by
  obtain ⟨t, p, w⟩ := h
  exact ⟨t, qha p, w⟩
theorem qbn {f : M Bool} (h : DT X c a f) : DW X c (.BoolOp .Or [a] pos) f := by
  obtain ⟨t, p, w⟩ := h
  exact ⟨t, qiM p, w⟩
theorem qji {f g : M Bool} (ha : DT X c a f) (hb : DW X c (.BoolOp .And (b :: yv) pos) g) : DW X c (.BoolOp .And (a :: b :: yv) pos) (qhp f g) := by
  obtain ⟨ta, pa, wa⟩ := ha
  obtain ⟨tb, pb, wb⟩ := hb
  refine ⟨_, qiN pa pb, fun ρ σ H Q rp h => wa ρ σ H _ rp (WpB.bndB h fun d ρ1 H1 r1 g1 h1 => ?_)⟩
  cases d with
  | true => exact qiy (wb ρ1 σ H1 Q r1 (by simpa using h1))
  | false => exact qix ((by simpa using h1 : WpB X.K c σ H1 Q (ret false ρ1)) H1 r1 .refl)
theorem qdY {f g : M Bool} (ha : DT X c a f) (hb : DW X c (.BoolOp .Or (b :: yv) pos) g) : DW X c (.BoolOp .Or (a :: b :: yv) pos) (tor f g) := by
  obtain ⟨ta, pa, wa⟩ := ha
  obtain ⟨tb, pb, wb⟩ := hb
  refine ⟨_, qkj pa pb, fun ρ σ H Q rp h => wa ρ σ H _ rp (WpB.bndB h fun d ρ1 H1 r1 g1 h1 => ?_)⟩
  cases d with
  | true => exact qiy ((by simpa using h1 : WpB X.K c σ H1 Q (ret true ρ1)) H1 r1 .refl)
  | false => exact qix (wb ρ1 σ H1 Q r1 (by simpa using h1))
def qka (f : M D) : M D := bnd f fun d => bnd (lift (asB d)) fun b => ret (.bl (!b))
def qiz (f g : M D) : M D := bnd f fun d => bnd (lift (asB d)) fun b => if b then g else ret (.bl false)
def dor (f g : M D) : M D := bnd f fun d => bnd (lift (asB d)) fun b => if b then ret (.bl true) else g
theorem qdZ {K : Fr0} {σ : St} {H : Hp} {Q : VK} {d : D} {k : Bool -> M D} {ρ : Env} (h : Wp K c σ H Q (bnd (lift (asB d)) k ρ)) : ∃ b, d = .bl b /\ Wp K c σ H Q (k b ρ) := by
  unfold bnd at h
  cases e : asB d with
  | none => rw [e] at h; exact h.elim
  | some b => rw [e] at h; exact ⟨b, qaC e, h⟩
theorem qct {op} {f : M D} (h : DE X c a f) : DE X c (.BoolOp op [a] pos) f := by
  obtain ⟨t, p, w⟩ := h
  exact ⟨t, qiP p, w⟩
theorem qjj {f : M D} (h : DE X c a f) : DE X c (.UnaryOp .Not a pos) (qka f) := by
  obtain ⟨t, p, w⟩ := h
  refine ⟨_, qiR p, fun ρ σ H Q rp h => w ρ σ H _ rp (Wp.bnd h fun d ρ1 v H1 r1 i1 g1 h1 => ?_)⟩
  obtain ⟨b, e, h2⟩ := qdZ h1
  subst e
  exact ⟨b, i1, h2 _ H1 r1 rfl .refl⟩
theorem qd0 {f g : M D} (ha : DE X c a f) (hb : DE X c (.BoolOp .And (b :: yv) pos) g) : DE X c (.BoolOp .And (a :: b :: yv) pos) (qiz f g) := by
  obtain ⟨ta, pa, wa⟩ := ha
  obtain ⟨tb, pb, wb⟩ := hb
  refine ⟨_, qiQ pa pb, fun ρ σ H Q rp h => wa ρ σ H _ rp (Wp.bnd h fun d ρ1 v H1 r1 i1 g1 h1 => ?_)⟩
  obtain ⟨k, e, h2⟩ := qdZ h1
  subst e
  refine ⟨k, i1, ?_⟩
  cases k with
  | true => exact qiy (wb ρ1 σ H1 Q r1 (by simpa using h2))
  | false => exact qix ((by simpa using h2 : Wp X.K c σ H1 Q (ret (.bl false) ρ1)) _ H1 r1 rfl .refl)
theorem qkH {f g : M D} (ha : DE X c a f) (hb : DE X c (.BoolOp .Or (b :: yv) pos) g) : DE X c (.BoolOp .Or (a :: b :: yv) pos) (dor f g) := by
  obtain ⟨ta, pa, wa⟩ := ha
  obtain ⟨tb, pb, wb⟩ := hb
  refine ⟨_, qkm pa pb, fun ρ σ H Q rp h => wa ρ σ H _ rp (Wp.bnd h fun d ρ1 v H1 r1 i1 g1 h1 => ?_)⟩
  obtain ⟨k, e, h2⟩ := qdZ h1
  subst e
  refine ⟨k, i1, ?_⟩
  cases k with
  | true => exact qiy ((by simpa using h2 : Wp X.K c σ H1 Q (ret (.bl true) ρ1)) _ H1 r1 rfl .refl)
  | false => exact qix (wb ρ1 σ H1 Q r1 (by simpa using h2))
def dif (f : M Bool) (g k : M D) : M D := bnd f fun b => if b then g else k
theorem qkI {t : Expr} {f : M Bool} {g k : M D} (ht : DT X c t f) (ha : DE X c a g) (hb : DE X c b k) : DE X c (.IfExp t a b pos) (dif f g k) := by
  obtain ⟨tt, pt, wt⟩ := ht
  obtain ⟨ta, pa, wa⟩ := ha
  obtain ⟨tb, pb, wb⟩ := hb
  refine ⟨_, qff pt pa pb, fun ρ σ H Q rp h => wt ρ σ H _ rp (WpB.bnd h fun d ρ1 H1 r1 g1 h1 => ?_)⟩
  cases d with
  | true => exact qiy (wa ρ1 σ H1 Q r1 (by simpa using h1))
  | false => exact qix (wb ρ1 σ H1 Q r1 (by simpa using h1))
def wY (K : Fr0) (F : List D -> Option D) (r : List V -> Hp -> VK -> Prop) : Prop := ∀ (A : Addr -> Prop) (H : Hp) (xs : List D) (d : D) (vs : List V) (Q : VK), (∀ a, H a = none -> A a) -> IsL K A H xs vs -> F xs = some d ->
  (∀ w H', jm H H' -> Is K A H' d w -> Q w H') -> r vs H Q
def qz (F : List D -> Option D) (f : M (List D)) : M D := bnd f fun ds => lift (F ds)
theorem qkJ {r : List V -> Hp -> VK -> Prop} {F : List D -> Option D} {f : M (List D)} {t : TA} (hF : wY X.K F r) (w : ∀ ρ σ H Q, Rep X.K c ρ σ H -> WpL X.K c σ H Q (f ρ) -> t σ H Q) :
    ∀ ρ σ H Q, Rep X.K c ρ σ H -> Wp X.K c σ H Q (qz F f ρ) -> tCB r t σ H Q := fun ρ σ H Q rp h => w ρ σ H _ rp (WpL.bnd h fun ds ρ1 vs H1 r1 i1 g1 h1 => by
  obtain ⟨d, e, h3⟩ := h1.lift
  exact hF _ H1 ds d vs Q (fun a ha => r1.new ha) i1 e fun w H' s i => h3 w H' (r1.same s) i (.of_same s))
theorem qH {id : String} {x : Str} {p : Pos} {es : List Expr} {r : List V -> Hp -> VK -> Prop} {F : List D -> Option D} {f : M (List D)} (hc : yD X (.builtin id) r) (hF : wY X.K F r) (hg : Gl X x) (hm : X.mg x = none) (hv : bootBuiltins x = some (.builtin id)) (ha : DA X c (e :: es) f) (hn : x ≠ "__name__" := by decide) (hdb : (x == ("__debug__" : Str)) = false := by decide)
    (he : starEach (e :: es) X.env = (false, eval e X.env) :: starEach es X.env := by rfl) (hpl : (backTo pos (starEach es X.env)).any (·.1) = false := by rfl) : DE X c (.Call (.Name x p) (e :: es) [] pos) (qz F f) := by
  obtain ⟨t, pa, w⟩ := ha
  exact ⟨_, uY hc hg hm hv pa hn hdb he hpl, qkJ hF w⟩
theorem jT {r : R2} {F : D -> D -> Option D} {f g : M D} (hr : IxR X r) (hF : OpS X.K F r) (ha : DE X c a f) (hb : DE X c b g) (hs : qbZ b := by intro _ _; rfl) : DE X c (.Subscript a b pos) (d2 F f g) := by
  obtain ⟨ta, pa, wa⟩ := ha
  obtain ⟨tb, pb, wb⟩ := hb
  exact ⟨_, qjb hr pa pb hs, op2 hF wa wb⟩
end
end L2.Sk
namespace L2.Sk
open PySem PySem.Spec PyProof.Rows
inductive Fl where
  | nx (ρ : Env) | rt (d : D) (ρ : Env) | bk (ρ : Env) | ct (ρ : Env)
structure GrS (O : List Nat) (σ : St) (H : Hp) (σ' : St) (H' : Hp) : Prop where
  ext : Ext (Cl O σ) H H'
  cl : ∀ b, Cl O σ b -> (H b).isSome = true -> Cl O σ' b
  dom : ∀ b, H' b = none -> H b = none
theorem qdb {H H' : Hp} {b : Addr} (dom : H' b = none -> H b = none) (h : (H b).isSome = true) : (H' b).isSome = true := by
  cases e : H' b with
  | none => rw [dom e] at h; cases h
  | some o => rfl
theorem GrS.refl {O : List Nat} {σ : St} {H : Hp} : GrS O σ H σ H := ⟨Ext.refl, fun _ h _ => h, fun _ h => h⟩
theorem Gr.s {O : List Nat} {σ : St} {H H' : Hp} (g : Gr O σ H H') : GrS O σ H σ H' := ⟨g.ext, fun _ h _ => h, g.dom⟩
theorem GrS.trans {O : List Nat} {σ σ1 σ2 : St} {H H1 H2 : Hp} (a : GrS O σ H σ1 H1) (b : GrS O σ1 H1 σ2 H2) : GrS O σ H σ2 H2 :=
  ⟨⟨fun c xs h => b.ext.tup c xs (a.ext.tup c xs h), fun c o u h => b.ext.frz c o u (a.ext.frz c o u h), fun c o hc h => b.ext.at_ c o (a.cl c hc (by rw [h]; rfl)) (a.ext.at_ c o hc h)⟩,
    fun c hc h => b.cl c (a.cl c hc h) (qdb (a.dom c) h), fun c h => a.dom c (b.dom c h)⟩
theorem GrS.is {K : Fr0} {c : Fc} {σ σ' : St} {H H' : Hp} {d : D} {v : V} (g : GrS c.O σ H σ' H') (h : Is K (Cn c σ) H d v) : Is K (Cn c σ') H' d v :=
  Is.ext ⟨g.ext.tup, g.ext.frz, fun b o hb h => g.ext.at_ b o hb.2 h⟩ (fun a ha hs => ⟨ha.1, g.cl a ha.2 hs⟩) h
theorem GrS.isL {K : Fr0} {c : Fc} {σ σ' : St} {H H' : Hp} {d : List D} {v : List V} (g : GrS c.O σ H σ' H') (h : IsL K (Cn c σ) H d v) : IsL K (Cn c σ') H' d v :=
  IsL.ext ⟨g.ext.tup, g.ext.frz, fun b o hb h => g.ext.at_ b o hb.2 h⟩ (fun a ha hs => ⟨ha.1, g.cl a ha.2 hs⟩) h
def WpS (K : Fr0) (c : Fc) (σ : St) (H : Hp) (D : qdC) : R Fl -> Prop
  | .ok (.nx ρ) => ∀ σ' H', Rep K c ρ σ' H' -> GrS c.O σ H σ' H' -> D.nx σ' H'
  | .ok (.rt d ρ) => ∀ v σ' H', Rep K c ρ σ' H' -> Is K c.B H' d v -> GrS c.O σ H σ' H' -> D.rt v H'
  | .ok (.bk ρ) => ∀ σ' H', Rep K c ρ σ' H' -> GrS c.O σ H σ' H' -> D.bk σ' H'
  | .ok (.ct ρ) => ∀ σ' H', Rep K c ρ σ' H' -> GrS c.O σ H σ' H' -> D.ct σ' H'
  | .exc x ρ => ∀ σ' H', Rep K c ρ σ' H' -> GrS c.O σ H σ' H' -> c.E x H'
  | .bad => False
abbrev MS := Env -> R Fl
def DS (X : Cx) (c : Fc) (st : Stmt) (f : MS) : Prop := ∃ t, PS X st t /\ ∀ ρ σ H D, Rep X.K c ρ σ H -> WpS X.K c σ H D (f ρ) -> t D σ H
def DSs (X : Cx) (c : Fc) (st : List Stmt) (f : MS) : Prop := ∃ t, PSs X st t /\ ∀ ρ σ H D, Rep X.K c ρ σ H -> WpS X.K c σ H D (f ρ) -> t D σ H
theorem WpS.gr {K : Fr0} {c : Fc} {σ σ1 : St} {H H1 : Hp} {D : qdC} : ∀ {r : R Fl}, WpS K c σ H D r -> GrS c.O σ H σ1 H1 -> WpS K c σ1 H1 D r
  | .ok (.nx ρ), h, g => fun σ' H' hr hg => h σ' H' hr (g.trans hg)
  | .ok (.rt d ρ), h, g => fun v σ' H' hr hi hg => h v σ' H' hr hi (g.trans hg)
  | .ok (.bk ρ), h, g => fun σ' H' hr hg => h σ' H' hr (g.trans hg)
  | .ok (.ct ρ), h, g => fun σ' H' hr hg => h σ' H' hr (g.trans hg)
  | .exc x ρ, h, g => fun σ' H' hr hg => h σ' H' hr (g.trans hg)
  | .bad, h, _ => h
def sbnd {α : Type} (f : M α) (k : α -> MS) : MS := fun ρ => match f ρ with
  | .ok (a, ρ') => k a ρ'
  | .exc x ρ' => .exc x ρ'
  | .bad => .bad
section
variable {K : Fr0} {c : Fc} {σ : St} {H : Hp} {D : qdC}
theorem Wp.sbnd {f : M Sk.D} {k : Sk.D -> MS} {ρ : Env} {Q' : VK} (h : WpS K c σ H D (sbnd f k ρ)) (hQ : ∀ d ρ' v H', Rep K c ρ' σ H' -> Is K (Cn c σ) H' d v -> Gr c.O σ H H' -> WpS K c σ H' D (k d ρ') -> Q' v H') : Wp K c σ H Q' (f ρ) := by
  unfold Sk.sbnd at h
  cases e : f ρ with
  | ok p => rw [e] at h; exact fun v H' hr hi hg => hQ p.1 p.2 v H' hr hi hg (h.gr hg.s)
  | exc x ρ' => rw [e] at h; exact fun H' hr hg => h σ H' hr hg.s
  | bad => rw [e] at h; exact h
theorem WpB.sbnd {f : M Bool} {k : Bool -> MS} {ρ : Env} {Q' : Bool -> Hp -> Prop} (h : WpS K c σ H D (sbnd f k ρ)) (hQ : ∀ d ρ' H', Rep K c ρ' σ H' -> Gr c.O σ H H' -> WpS K c σ H' D (k d ρ') -> Q' d H') : WpB K c σ H Q' (f ρ) := by
  unfold Sk.sbnd at h
  cases e : f ρ with
  | ok p => rw [e] at h; exact fun H' hr hg => hQ p.1 p.2 H' hr hg (h.gr hg.s)
  | exc x ρ' => rw [e] at h; exact fun H' hr hg => h σ H' hr hg.s
  | bad => rw [e] at h; exact h
theorem WpL.sbnd {f : M (List Sk.D)} {k : List Sk.D -> MS} {ρ : Env} {Q' : List V -> Hp -> Prop} (h : WpS K c σ H D (sbnd f k ρ)) (hQ : ∀ d ρ' v H', Rep K c ρ' σ H' -> IsL K (Cn c σ) H' d v -> Gr c.O σ H H' -> WpS K c σ H' D (k d ρ') -> Q' v H') : WpL K c σ H Q' (f ρ) := by
  unfold Sk.sbnd at h
  cases e : f ρ with
  | ok p => rw [e] at h; exact fun v H' hr hi hg => hQ p.1 p.2 v H' hr hi hg (h.gr hg.s)
  | exc x ρ' => rw [e] at h; exact fun H' hr hg => h σ H' hr hg.s
  | bad => rw [e] at h; exact h
end
def qB (f g : MS) : MS := fun ρ => match f ρ with
  | .ok (.nx ρ') => g ρ'
  | r => r
theorem WpS.mono_nx {K : Fr0} {c : Fc} {σ : St} {H : Hp} {D : qdC} {f g : MS} {ρ : Env} {N : St -> Hp -> Prop} (h : WpS K c σ H D (qB f g ρ)) (hN : ∀ ρ' σ' H', Rep K c ρ' σ' H' -> GrS c.O σ H σ' H' -> WpS K c σ' H' D (g ρ') -> N σ' H') :
    WpS K c σ H { D with nx := N } (f ρ) := by
  unfold qB at h
  cases e : f ρ with
  | ok fl =>
    rw [e] at h
    cases fl with
    | nx ρ' => exact fun σ' H' hr hg => hN ρ' σ' H' hr hg (h.gr hg)
    | rt d ρ' => exact h
    | bk ρ' => exact h
    | ct ρ' => exact h
  | exc x ρ' => rw [e] at h; exact h
  | bad => rw [e] at h; exact h
section
variable {X : Cx} {c : Fc} {a b e : Expr} {pos : Pos} {st : Stmt} {sts : List Stmt}
theorem qhr : DSs X c [] (fun ρ => .ok (.nx ρ)) := ⟨_, qhb, fun ρ σ H D r h => h σ H r .refl⟩
theorem qk {f : MS} (h : DS X c st f) : DSs X c [st] f := by
  obtain ⟨t, p, w⟩ := h
  exact ⟨t, qdE p, w⟩
theorem qf {f g : MS} (h : DS X c st f) (hr : DSs X c sts g) : DSs X c (st :: sts) (qB f g) := by
  obtain ⟨t, p, w⟩ := h
  obtain ⟨t2, p2, w2⟩ := hr
  exact ⟨_, qfg p p2, fun ρ σ H D r h => w ρ σ H _ r (h.mono_nx fun ρ' σ' H' r' g' h' => w2 ρ' σ' H' D r' h')⟩
def jt (f : M D) : MS := sbnd f fun d ρ => .ok (.rt d ρ)
theorem Is.cn {K : Fr0} {σ : St} {H : Hp} {d : D} {v : V} (h : Is K (Cn c σ) H d v) : Is K c.B H d v := Is.ext Ext.refl (fun _ h _ => h.1) h
theorem qJ {f : M D} (h : DE X c e f) : DS X c (.Return (some e) pos) (jt f) := by
  obtain ⟨t, p, w⟩ := h
  exact ⟨_, qdF p, fun ρ σ H D r h => w ρ σ H _ r (Wp.sbnd h fun d ρ1 v H1 r1 i1 g1 h1 => h1 v σ H1 r1 i1.cn .refl)⟩
def ji (f : M D) : MS := sbnd f fun _ ρ => .ok (.nx ρ)
theorem yE {f : M D} (h : DE X c e f) (hs : swapsWith e none pos.line X.env = pure false := by rfl) : DS X c (.Expr e pos) (ji f) := by
  obtain ⟨t, p, w⟩ := h
  exact ⟨_, qhc p hs, fun ρ σ H D r h => w ρ σ H _ r (Wp.sbnd h fun d ρ1 v H1 r1 i1 g1 h1 => h1 σ H1 r1 .refl)⟩
def sif (f : M Bool) (g k : MS) : MS := sbnd f fun b => if b then g else k
theorem yF {t : Expr} {s1 s2 : List Stmt} {f : M Bool} {g k : MS} (ht : DT X c t f) (ha : DSs X c s1 g) (hb : DSs X c s2 k) : DS X c (.If t s1 s2 pos) (sif f g k) := by
  obtain ⟨tt, pt, wt⟩ := ht
  obtain ⟨ta, pa, wa⟩ := ha
  obtain ⟨tb, pb, wb⟩ := hb
  refine ⟨_, qkp pt pa pb, fun ρ σ H D rp h => wt ρ σ H _ rp (WpB.sbnd h fun d ρ1 H1 r1 g1 h1 => ?_)⟩
  cases d with
  | true => exact qiy (wa ρ1 σ H1 D r1 (by simpa using h1))
  | false => exact qix (wb ρ1 σ H1 D r1 (by simpa using h1))
theorem zn {α : Type} {l : List α} {i j : Nat} {v : α} (h : j ≠ i) : (l.set i v)[j]? = l[j]? := List.getElem?_set_ne (Ne.symm h)
theorem Cl.set {O : List Nat} {σ : St} {i : Nat} {v : Option V} (hi : i ∉ O) (a : Addr) : Cl O (σ.set i v) a ↔ Cl O σ a := by
  constructor
  . intro h j hj
    have e : j ≠ i := fun e => hi (e ▸ hj)
    have := h j hj
    rw [zn e] at this
    exact this
  . intro h j hj
    have e : j ≠ i := fun e => hi (e ▸ hj)
    rw [zn e]
    exact h j hj
theorem Rep.set {K : Fr0} {ρ : Env} {σ : St} {H : Hp} {i : Nat} {d : D} {v : V} (r : Rep K c ρ σ H) (hi : i ∉ c.O) (h : Is K (Cn c σ) H d v) : Rep K c (ρ.set i (some d)) (σ.set i (some v)) H where
  len := by rw [List.length_set, List.length_set]; exact r.len
  val := fun j e hj => by
    have up : ∀ {d' : D} {v' : V}, Is K (Cn c σ) H d' v' -> Is K (Cn c (σ.set i (some v))) H d' v' := fun h => Is.ext Ext.refl (fun a ha _ => ⟨ha.1, (Cl.set hi a).mpr ha.2⟩) h
    by_cases e1 : j = i
    . subst e1
      have hl : j < ρ.length := by
        have := (List.getElem?_eq_some_iff.mp hj).1
        rwa [List.length_set] at this
      rw [List.getElem?_set_self hl] at hj
      cases hj
      refine ⟨v, List.getElem?_set_self (by rw [<- r.len]; exact hl), .inr ⟨hi, up h⟩⟩
    . rw [zn e1] at hj
      obtain ⟨w, h1, h2⟩ := r.val j e hj
      refine ⟨w, by rw [zn e1]; exact h1, ?_⟩
      rcases h2 with ⟨hj2, ds, a, xs, h3, h5, h6, h7⟩ | ⟨h3, h4⟩
      . exact .inl ⟨hj2, ds, a, xs, h3, h5, h6, IsL.ext Ext.refl (fun a ha _ => ⟨ha.1, (Cl.set hi a).mpr ha.2⟩) h7⟩
      . exact .inr ⟨h3, up h4⟩
  own := fun j hj w h => by
    have e1 : j ≠ i := fun e => hi (e ▸ hj)
    rw [zn e1] at h
    exact r.own j hj w h
  inj := fun j k a hj hk h1 h2 => by
    have e1 : j ≠ i := fun e => hi (e ▸ hj)
    have e2 : k ≠ i := fun e => hi (e ▸ hk)
    rw [zn e1] at h1
    rw [zn e2] at h2
    exact r.inj j k a hj hk h1 h2
  b0 := r.b0
  kp := r.kp
  dm := r.dm
  pO := r.pO
  ps := fun j hj => by
    have e : j ≠ i := fun e => hi (e ▸ r.pO j hj)
    rw [zn e]; exact r.ps j hj
theorem GrS.set {O : List Nat} {σ : St} {H : Hp} {i : Nat} {v : Option V} (hi : i ∉ O) : GrS O σ H (σ.set i v) H := ⟨Ext.refl, fun b h _ => (Cl.set hi b).mpr h, fun _ h => h⟩
def zp (i : Nat) (f : M D) : MS := sbnd f fun d ρ => .ok (.nx (ρ.set i (some d)))
theorem qQ {i : Nat} {x : Str} {pos' : Pos} {f : M D} (hN : X.N.Nodup) (he : DE X c e f) (ho : i ∉ c.O := by exact of_decide_eq_false rfl) (hi : X.N[i]? = some x := by rfl) (hx : Loc X.env.scope x := by first | exact Or.inl rfl | exact Or.inr rfl) (hs : swapsWith e (some (.Name x pos')) pos.line X.env = pure false := by rfl) (hf : X.fn x = true \/ X.env.scope.names.lookup x = some .local := by first | exact .inl rfl | exact .inr rfl | assumption) :
    DS X c (.Assign [.Name x pos'] e pos) (zp i f) := by
  obtain ⟨t, p, w⟩ := he
  refine ⟨_, qgi hN hi hx p hs hf, fun ρ σ H D r h => w ρ σ H _ r (Wp.sbnd h fun d ρ1 v H1 r1 i1 g1 h1 => ?_)⟩
  exact h1 _ H1 (r1.set ho i1) (.set ho)
def DG (X : Cx) (c : Fc) (tg : Expr) (f : D -> Env -> Option Env) : Prop := ∃ g, PG X tg g /\ ∀ ρ σ H d v ρ' (N : St -> Hp -> Prop), Rep X.K c ρ σ H -> Is X.K (Cn c σ) H d v -> f d ρ = some ρ' ->
  (∀ σ', Rep X.K c ρ' σ' H -> GrS c.O σ H σ' H -> (∀ j ∈ c.O, σ'[j]? = σ[j]?) -> N σ' H) -> g v σ H N
def ql (i : Nat) : D -> Env -> Option Env := fun d ρ => some (ρ.set i (some d))
theorem qE {i : Nat} {x : Str} (hN : X.N.Nodup) (ho : i ∉ c.O := by exact of_decide_eq_false rfl) (hi : X.N[i]? = some x := by rfl) (hx : Loc X.env.scope x := by first | exact Or.inl rfl | exact Or.inr rfl) (hf : X.fn x = true \/ X.env.scope.names.lookup x = some .local := by first | exact .inl rfl | exact .inr rfl | assumption) {p : Pos} : DG X c (.Name x p) (ql i) := by
  refine ⟨_, qhd hN hi hx hf, fun ρ σ H d v ρ' N r h e k => ?_⟩
  cases e
  exact k _ (r.set ho h) (.set ho) fun j hj => zn fun e => ho (e ▸ hj)
def DGs (X : Cx) (c : Fc) (tgs : List Expr) (f : List D -> Env -> Option Env) : Prop := ∃ g, PGs X tgs g /\ ∀ ρ σ H ds vs ρ' (N : St -> Hp -> Prop), Rep X.K c ρ σ H -> IsL X.K (Cn c σ) H ds vs -> f ds ρ = some ρ' ->
  (∀ σ', Rep X.K c ρ' σ' H -> GrS c.O σ H σ' H -> (∀ j ∈ c.O, σ'[j]? = σ[j]?) -> N σ' H) -> g vs σ H N
def qaf : List D -> Env -> Option Env
  | [], ρ => some ρ
  | _, _ => none
def ze (f : D -> Env -> Option Env) (g : List D -> Env -> Option Env) : List D -> Env -> Option Env
  | d :: ds, ρ => (f d ρ).bind (g ds)
  | _, _ => none
theorem vt : DGs X c [] qaf := by
  refine ⟨_, qhe, fun ρ σ H ds vs ρ' N r h e k => ?_⟩
  cases ds with
  | nil =>
    cases e
    exact ⟨h, k σ r .refl fun _ _ => rfl⟩
  | cons d ds => cases e
theorem zG {tg : Expr} {tgs : List Expr} {f : D -> Env -> Option Env} {g : List D -> Env -> Option Env} (h1 : DG X c tg f) (h2 : DGs X c tgs g)
    (hs : (assignEach (tg :: tgs) X.env).map (·.2) = assign tg X.env :: (assignEach tgs X.env).map (·.2) := by rfl) : DGs X c (tg :: tgs) (ze f g) := by
  obtain ⟨t1, p1, w1⟩ := h1
  obtain ⟨t2, p2, w2⟩ := h2
  refine ⟨_, qfh p1 p2 hs, fun ρ σ H ds vs ρ' N r h e k => ?_⟩
  cases ds with
  | nil => cases e
  | cons d ds =>
    obtain ⟨v, ws, rfl, i1, i2⟩ := h
    have e' : (f d ρ).bind (g ds) = some ρ' := e
    cases e1 : f d ρ with
    | none => rw [e1] at e'; cases e'
    | some ρ1 =>
      rw [e1] at e'
      exact ⟨v, ws, rfl, w1 ρ σ H d v ρ1 _ r i1 e1 fun σ1 r1 g1 o1 => w2 ρ1 σ1 H ds ws ρ' N r1 (g1.isL i2) e' fun σ2 r2 g2 o2 => k σ2 r2 (g1.trans g2) fun j hj => (o2 j hj).trans (o1 j hj)⟩
def qag (n : Nat) (g : List D -> Env -> Option Env) : D -> Env -> Option Env
  | .tup ds, ρ => if ds.length = n then g ds ρ else none
  | _, _ => none
theorem qah {es : List Expr} {k n : Nat} {p : Pos} {g : List D -> Env -> Option Env} (hc : X.calm = true) (h : DGs X c es g) (hn : (assignEach es X.env).length = n := by rfl) (hst : (assignEach es X.env).findIdx? (·.1) = none := by rfl) : DG X c (.Tuple es k p) (qag n g) := by
  obtain ⟨t, p, w⟩ := h
  refine ⟨_, qiT (n := n) hc p hn hst, fun ρ σ H d v ρ' N r h e q => ?_⟩
  cases d with
  | tup ds =>
    obtain ⟨a, xs, rfl, ta, il⟩ := h
    have e' : (if ds.length = n then g ds ρ else none) = some ρ' := e
    by_cases hl : ds.length = n
    . rw [if_pos hl] at e'
      exact ⟨a, xs, rfl, ta.sq, by rw [il.length]; exact hl, w ρ σ H ds xs ρ' N r il e' q⟩
    . rw [if_neg hl] at e'; cases e'
  | _ => cases e
def qgn (f : M D) (g : D -> Env -> Option Env) : MS := sbnd f fun d ρ => match g d ρ with
  | some ρ' => .ok (.nx ρ')
  | none => .bad
theorem qgo {tg : Expr} {f : M D} {g : D -> Env -> Option Env} (he : DE X c e f) (hg : DG X c tg g) (hs : swapsWithSole [tg] e pos.line X.env = pure false := by rfl) (hw : swappedStores [tg] e X.env = pure none := by rfl) (h1 : (assignEach [tg] X.env).map (·.2) = [assign tg X.env] := by rfl) : DS X c (.Assign [tg] e pos) (qgn f g) := by
  obtain ⟨t, p, w⟩ := he
  obtain ⟨t2, p2, w2⟩ := hg
  refine ⟨_, qgh p p2 hs hw h1, fun ρ σ H D r h => w ρ σ H _ r (Wp.sbnd h fun d ρ1 v H1 r1 i1 g1 h1 => ?_)⟩
  cases e : g d ρ1 with
  | none => rw [e] at h1; exact h1.elim
  | some ρ2 =>
    rw [e] at h1
    exact w2 ρ1 σ H1 d v ρ2 _ r1 i1 e fun σ' r2 g2 _ => h1 σ' H1 r2 g2
end
end L2.Sk
namespace L2.Sk
open PySem PySem.Spec PyProof.Rows
section
variable {K : Fr0}
def iiD (g : Int -> Int -> D) : D -> D -> Option D
  | .int i, .int j => some (g i j)
  | _, _ => none
def qgp (C : Int -> Int -> Bool) (g : Int -> Int -> D) : D -> D -> Option D
  | .int i, .int j => if C i j then some (g i j) else none
  | _, _ => none
theorem qaD {g : Int -> Int -> V} {gD : Int -> Int -> D} (hg : ∀ A H i j, Is K A H (gD i j) (g i j)) : OpS K (iiD gD) (rI0 g) := by
  intro A H x y d v u Q hn ix iy e k
  cases x <;> cases y <;> simp only [iiD] at e <;> try (cases e; done)
  rename_i i j
  cases (Option.some.inj e)
  cases (show v = .int i from ix)
  cases (show u = .int j from iy)
  exact ⟨i, j, rfl, rfl, k _ H (jm.refl H) (hg _ _ _ _)⟩
theorem qd1 {C : Int -> Int -> Prop} {CB : Int -> Int -> Bool} {g : Int -> Int -> V} {gD : Int -> Int -> D} (hC : ∀ i j, CB i j = true -> C i j) (hg : ∀ A H i j, Is K A H (gD i j) (g i j)) : OpS K (qgp CB gD) (rI C g) := by
  intro A H x y d v u Q hn ix iy e k
  cases x <;> cases y <;> simp only [qgp] at e <;> try (cases e; done)
  rename_i i j
  obtain ⟨e1, e2⟩ := zM e
  subst e2
  cases (show v = .int i from ix)
  cases (show u = .int j from iy)
  exact ⟨i, j, rfl, rfl, hC i j e1, k _ H (jm.refl H) (hg _ _ _ _)⟩
def qe9 : D -> D -> Option D := iiD fun i j => .int (i - j)
theorem qd2 : OpS K qe9 (rI0 fun i j => .int (i - j)) := qaD fun _ _ _ _ => rfl
def jL (i : Int) : Bool := decide (-(2 ^ 64) < i) && decide (i < 2 ^ 64)
theorem qbo {i : Int} (h : jL i = true) : -(2 ^ 64) < i /\ i < 2 ^ 64 := by
  unfold jL at h
  rw [Bool.and_eq_true] at h
  exact ⟨of_decide_eq_true h.1, of_decide_eq_true h.2⟩
def qb1 (i j : Int) : Bool := jL i || jL j
theorem qfp {i j : Int} (h : qb1 i j = true) : qiZ i j := by
  unfold qb1 at h
  rw [Bool.or_eq_true] at h
  rcases h with h | h
  . exact .inl (qbo h)
  . exact .inr (qbo h)
def qdc (i j : Int) : Bool := decide (0 < j) && decide (j < 1606938044258990275541962092341162602522202993782792835301376)
theorem qcu {i j : Int} (h : qdc i j = true) : qiY i j := by
  unfold qdc at h
  rw [Bool.and_eq_true] at h
  exact ⟨of_decide_eq_true h.1, of_decide_eq_true h.2⟩
def vv : D -> D -> Option D := qgp qdc fun i j => .int (i / j)
theorem u3 : OpS K vv (rI qiY fun i j => .int (i / j)) := qd1 (fun _ _ => qcu) fun _ _ _ _ => rfl
def qgq : D -> D -> Option D := qgp (fun _ j => decide (0 < j)) fun i j => .int (i % j)
theorem wx : OpS K qgq (rI (fun _ j => 0 < j) fun i j => .int (i % j)) := qd1 (fun _ _ h => of_decide_eq_true h) fun _ _ _ _ => rfl
def ltD : D -> D -> Option D := iiD fun i j => .bl (decide (i < j))
def leD : D -> D -> Option D := iiD fun i j => .bl (decide (i <= j))
def gtD : D -> D -> Option D := iiD fun i j => .bl (decide (j < i))
def geD : D -> D -> Option D := iiD fun i j => .bl (decide (j <= i))
theorem qgr : OpS K ltD (rI0 fun i j => .bl (decide (i < j))) := qaD fun _ _ _ _ => rfl
theorem qgs : OpS K gtD (rI0 fun i j => .bl (decide (j < i))) := qaD fun _ _ _ _ => rfl
theorem qjk : OpS K geD (rI0 fun i j => .bl (decide (j <= i))) := qaD fun _ _ _ _ => rfl
def sc2 : D -> D -> Option Bool
  | .non, .non => some true | .non, .int _ => some false | .int _, .non => some false | .non, .bl _ => some false | .bl _, .non => some false | .non, .str _ => some false | .str _, .non => some false
  | .int i, .int j => some (decide (i = j)) | .bl i, .bl j => some (decide (i = j)) | .str i, .str j => some (decide (i = j))
  | .int _, .str _ => some false | .str _, .int _ => some false | .bl _, .str _ => some false | .str _, .bl _ => some false
  | _, _ => none
def eqS (x y : D) : Option D := (sc2 x y).map D.bl
def neS (x y : D) : Option D := (sc2 x y).map fun b => D.bl (!b)
theorem qgt {A : Addr -> Prop} {H : Hp} {x y : D} {v u : V} {b : Bool} (ix : Is K A H x v) (iy : Is K A H y u) (e : sc2 x y = some b) : qkx v u = true /\ decide (v = u) = b := by
  cases x <;> cases y <;> simp only [sc2] at e <;> first
    | (cases e; done)
    | (cases ix; cases iy; cases e; exact ⟨rfl, rfl⟩)
    | (cases ix; cases iy; cases e; exact ⟨rfl, by simp⟩)
    | (cases ix; cases iy; cases e; exact ⟨rfl, by rw [Bool.eq_iff_iff]; simp⟩)
theorem qhs : OpS K eqS rEq := by
  intro A H x y d v u Q hn ix iy e k
  unfold eqS at e
  cases e1 : sc2 x y with
  | none => rw [e1] at e; cases e
  | some b =>
    rw [e1] at e
    cases e
    obtain ⟨h1, h2⟩ := qgt ix iy e1
    exact ⟨h1, by rw [h2]; exact k _ H (jm.refl H) rfl⟩
theorem qd3 : OpS K neS rNe := by
  intro A H x y d v u Q hn ix iy e k
  unfold neS at e
  cases e1 : sc2 x y with
  | none => rw [e1] at e; cases e
  | some b =>
    rw [e1] at e
    cases e
    obtain ⟨h1, h2⟩ := qgt ix iy e1
    exact ⟨h1, by rw [h2]; exact k _ H (jm.refl H) rfl⟩
def ua : D -> Bool
  | .non => true
  | _ => false
theorem vX {A : Addr -> Prop} {H : Hp} {x : D} {v : V} (ix : Is K A H x v) : decide (v = V.non) = ua x := by
  cases x with
  | non => cases ix; rfl
  | bl b => cases ix; rfl
  | int i => cases ix; rfl
  | str s => cases ix; rfl
  | tup ds => obtain ⟨a, xs, rfl, _⟩ := ix; rfl
  | lst ds => obtain ⟨a, xs, rfl, _⟩ := ix; rfl
  | dic ds => obtain ⟨a, rfl, _⟩ := ix; rfl
  | fz ds => obtain ⟨a, rfl, _⟩ := ix; rfl
  | exc ds => obtain ⟨a, rfl, _⟩ := ix; rfl
def isN (x y : D) : Option D := if ua y then some (.bl (ua x)) else none
def qfq (x y : D) : Option D := if ua y then some (.bl (!ua x)) else none
theorem qd4 : OpS K isN (fun x y H Q => y = .non /\ Q (.bl (decide (x = .non))) H) := by
  intro A H x y d v u Q hn ix iy e k
  obtain ⟨e1, e2⟩ := zM e
  subst e2
  have h := vX iy
  rw [e1] at h
  refine ⟨of_decide_eq_true h, ?_⟩
  rw [vX ix]
  exact k _ H (jm.refl H) rfl
theorem qfr : OpS K qfq (fun x y H Q => y = .non /\ Q (.bl (!decide (x = .non))) H) := by
  intro A H x y d v u Q hn ix iy e k
  obtain ⟨e1, e2⟩ := zM e
  subst e2
  have h := vX iy
  rw [e1] at h
  refine ⟨of_decide_eq_true h, ?_⟩
  rw [vX ix]
  exact k _ H (jm.refl H) rfl
def ixD : D -> D -> Option D
  | .tup ds, .int i => atI ds i
  | .lst ds, .int i => atI ds i
  | .fz ns, .int i => (atI ns i).map D.int
  | _, _ => none
theorem IsL.atI {A : Addr -> Prop} {H : Hp} {ds : List D} {xs : List V} {i : Int} {d : D} (h : IsL K A H ds xs) (e : L2.atI ds i = some d) : ∃ v, L2.atI xs i = some v /\ Is K A H d v := by
  unfold L2.atI at e |-
  rw [h.length]
  cases e1 : ixN ds.length i with
  | none => rw [e1] at e; cases e
  | some j =>
    rw [e1] at e
    exact h.get e
theorem zH : OpS K ixD (fun x y H Q => qkD K x y H Q \/ qkE K x y H Q) := by
  intro A H x y d v u Q hn ix iy e k
  cases x <;> cases y <;> simp only [ixD] at e <;> try (cases e; done)
  . rename_i ds i
    cases iy
    obtain ⟨a, xs, rfl, ta, il⟩ := ix
    obtain ⟨w, h1, h2⟩ := il.atI e
    exact .inr ⟨a, xs, i, w, rfl, rfl, ta.sq, h1, k w H (jm.refl H) h2⟩
  . rename_i ds i
    cases iy
    obtain ⟨a, xs, rfl, _, ta, il⟩ := ix
    obtain ⟨w, h1, h2⟩ := il.atI e
    exact .inl ⟨a, xs, i, w, rfl, rfl, .inl (.inl ta), h1, k w H (jm.refl H) h2⟩
  . rename_i ns i
    cases iy
    obtain ⟨a, rfl, ta⟩ := ix
    cases e1 : L2.atI ns i with
    | none => rw [e1] at e; cases e
    | some m =>
      rw [e1] at e
      cases e
      have h1 : L2.atI (ns.map V.int) i = some (V.int m) := by
        unfold L2.atI at e1 |-
        rw [List.length_map]
        cases e2 : ixN ns.length i with
        | none => rw [e2] at e1; cases e1
        | some j =>
          rw [e2] at e1
          have e3 : ns[j]? = some m := e1
          show (ns.map V.int)[j]? = some (V.int m)
          rw [List.getElem?_map, e3]; rfl
      exact .inl ⟨a, _, i, .int m, rfl, rfl, ta.sq, h1, k _ H (jm.refl H) rfl⟩
theorem IsL.inv1 {A : Addr -> Prop} {H : Hp} {d : D} {vs : List V} (h : IsL K A H [d] vs) : ∃ v, vs = [v] /\ Is K A H d v := by
  obtain ⟨x, ys, e1, e2, e3⟩ := h
  have e3' : ys = [] := e3
  exact ⟨x, by rw [e1, e3'], e2⟩
theorem IsL.inv2 {A : Addr -> Prop} {H : Hp} {d d' : D} {vs : List V} (h : IsL K A H [d, d'] vs) : ∃ v w, vs = [v, w] /\ Is K A H d v /\ Is K A H d' w := by
  obtain ⟨x, ys, e1, e2, e3⟩ := h
  obtain ⟨w, e4, e5⟩ := IsL.inv1 e3
  exact ⟨x, w, by rw [e1, e4], e2, e5⟩
def qkb : List D -> Option D
  | [.int i] => some (.int (if i < 0 then -i else i))
  | _ => none
theorem qd5 : wY K qkb (fun xs H Q => ∃ i, xs = [.int i] /\ Q (.int (if i < 0 then -i else i)) H) := by
  intro A H xs d vs Q hn h e k
  unfold qkb at e
  split at e
  . rename_i i
    obtain ⟨v, rfl, e2⟩ := IsL.inv1 h
    cases e2; cases e
    exact ⟨i, rfl, k _ H (jm.refl H) rfl⟩
  . cases e
def qht : List D -> Option D
  | [.int i, .int j] => some (.int (if j > i then j else i))
  | _ => none
def uR : List D -> Option D
  | [.int i, .int j] => some (.int (if j < i then j else i))
  | _ => none
theorem qd6 : wY K qht (fun xs H Q => ∃ i j, xs = [.int i, .int j] /\ Q (.int (if j > i then j else i)) H) := by
  intro A H xs d vs Q hn h e k
  unfold qht at e
  split at e
  . rename_i i j
    obtain ⟨v, w, rfl, e2, e3⟩ := IsL.inv2 h
    cases e2; cases e3; cases e
    exact ⟨i, j, rfl, k _ H (jm.refl H) rfl⟩
  . cases e
theorem wy : wY K uR (fun xs H Q => ∃ i j, xs = [.int i, .int j] /\ Q (.int (if j < i then j else i)) H) := by
  intro A H xs d vs Q hn h e k
  unfold uR at e
  split at e
  . rename_i i j
    obtain ⟨v, w, rfl, e2, e3⟩ := IsL.inv2 h
    cases e2; cases e3; cases e
    exact ⟨i, j, rfl, k _ H (jm.refl H) rfl⟩
  . cases e
def wz : List D -> Option D
  | [.int i, .int j] => if qdc i j then some (.tup [.int (i / j), .int (i % j)]) else none
  | _ => none
theorem qbp : wY K wz (fun xs H Q => ∃ i j, xs = [.int i, .int j] /\ qiY i j /\ ∀ p, H p = none -> Q (.ref p) (upd H p (.tup [.int (i / j), .int (i % j)]))) := by
  intro A H xs d vs Q hn h e k
  unfold wz at e
  split at e
  . rename_i i j
    obtain ⟨v, w, rfl, e2, e3⟩ := IsL.inv2 h
    cases e2; cases e3
    obtain ⟨e6, e7⟩ := zM e
    subst e7
    exact ⟨i, j, rfl, qcu e6, fun p hp => k _ _ (qy hp _) ⟨p, _, rfl, .inl qv, _, _, rfl, rfl, _, _, rfl, rfl, rfl⟩⟩
  . cases e
def qlQ : List D -> Option D
  | [.int i] => some (.int i)
  | [.bl b] => some (.int (if b then 1 else 0))
  | _ => none
def qfa : List D -> Option D
  | [.tup ds] => some (.int ds.length)
  | [.lst ds] => some (.int ds.length)
  | [.fz ns] => some (.int ns.length)
  | [.str x] => if qG x.length then some (.int x.length) else none
  | _ => none
def qld (K : Fr0) : List V -> Hp -> VK -> Prop := fun xs H Q => (∃ p ys, xs = [.ref p] /\ (SqL K H p ys \/ SqT K H p ys) /\ Q (.int ys.length) H) \/ (∃ z, xs = [.str z] /\ z.length <= sizeLine /\ Q (.int z.length) H)
theorem yJ {X : Cx} : yD X (.builtin "len") (qld X.K) := yD.or qbj qbk
theorem ui : wY K qfa (qld K) := by
  intro A H xs d vs Q hn h e k
  unfold qfa at e
  split at e
  . obtain ⟨v, rfl, a, zs, rfl, ta, il⟩ := IsL.inv1 h
    cases e
    exact .inl ⟨a, zs, rfl, .inr ta.sq, by rw [il.length]; exact k _ H (jm.refl H) rfl⟩
  . obtain ⟨v, rfl, a, zs, rfl, _, ta, il⟩ := IsL.inv1 h
    cases e
    exact .inl ⟨a, zs, rfl, .inl (.inl (.inl ta)), by rw [il.length]; exact k _ H (jm.refl H) rfl⟩
  . obtain ⟨v, rfl, a, rfl, ta⟩ := IsL.inv1 h
    cases e
    exact .inl ⟨a, _, rfl, .inl ta.sq, by rw [List.length_map]; exact k _ H (jm.refl H) rfl⟩
  . rename_i z
    obtain ⟨v, rfl, e2⟩ := IsL.inv1 h
    cases e2
    obtain ⟨e4, e5⟩ := zM e
    subst e5
    exact .inr ⟨z, rfl, of_decide_eq_true e4, k _ H (jm.refl H) rfl⟩
  . cases e
def qle : List D -> Option D
  | [.tup ds] => some (.tup ds)
  | [.lst ds] => some (.tup ds)
  | _ => none
end
end L2.Sk
namespace L2.Sk
open PySem PySem.Spec PySem.Calls PyProof.Rows PySem.W
def qgu (h : Heap) (a D : Addr) : Prop := ∃ o, h.get? a = some o /\ o.cls = .ref D
theorem qgu.looks {M : Model} {h : Heap} {a D : Addr} (I : qgu h a D) : Looks M h (typeOf (.ref a)) (.ref D) := by
  obtain ⟨o, h1, h2⟩ := I
  rw [<- h2]
  exact (Looks.ld h1).andThen .now
section
variable {prog : Program} {w : World} {A : Around} {E : Value -> Shared -> Prop} {K : Frag} {h : Heap} {g : Array GenState} {d : Drawn} {t : Nat} {os : OsState} {a D : Addr}
theorem qjl (hm : mroIn K D (.type "object") = some true) {tp : Value} {R : Result -> Shared -> Prop} (X : K.In h) (I : qgu h a D) (hq : R (.ok (.ret (.ref D))) ⟨h, g, d, t, os⟩) :
    codeAny (model prog w) A (.call (.builtin "getset_descriptor.__get__") ⟨[.builtin "object.__class__", .ref a, tp], []⟩) R ⟨h, g, d, t, os⟩ := by
  have L0 := I.looks (M := model prog w)
  have L1 := looks_mroIn (M := model prog w) X hm
  have hT5 : (⟨h, g, d, t, os⟩ : Shared).TypeIs (.builtin "object.__class__") "getset_descriptor" := F.typeOf_object_class
  refine codeAny_call_builtin F.slot_gs_get.plain F.entry_gs_get (F.slot_gs_get.check _ _ _ _ _ _ _ _ hT5 (F.args_gs_get _ _ _) ?_)
  have eo : ".".intercalate ("object.__class__".cutAt '.').dropLast = "object" := by decide +kernel
  repeat (any_goals (first | assumption | with_reducible refine L0.at ?_ | with_reducible refine L1.at ?_ | wp_step))
  rw [eo]
  refine L1.at ?_
  repeat (any_goals (first | assumption | with_reducible refine L0.at ?_ | wp_step))
  refine ⟨Code.quiet_builtin _ (by decide +kernel), codeAny_builtin F.entry_object_class ?_⟩
  repeat (any_goals (first | assumption | with_reducible refine L0.at ?_ | wp_step))
theorem qfs (ha : findIn K (.ref D) "__class__" = some (some (.builtin "object.__class__"))) (hm : mroIn K D (.type "object") = some true) {tk : Tok} {Q : Fin -> Shared -> Prop} (X : K.In h) (I : qgu h a D) (hq : Q (.done (.ret (.ref D))) ⟨h, g, d, t, os⟩) :
    wpAny (model prog w) A (Builtin.«object.__getattribute__» ⟨[.ref a, .str "__class__" tk], []⟩) Q E ⟨h, g, d, t, os⟩ := by
  have L0 := I.looks (M := model prog w)
  have L1 := looks_findIn (M := model prog w) X ha
  have hT5 : (⟨h, g, d, t, os⟩ : Shared).TypeIs (.builtin "object.__class__") "getset_descriptor" := F.typeOf_object_class
  have f5 := F.typeOf_object_class
  have f6 := F.slot_gs_get.lookup
  have f7 := F.slot_gs_set.lookup
  repeat (any_goals (first | assumption | with_reducible refine L0.at ?_ | with_reducible refine L1.at ?_ | wp_step))
  refine qjl hm X I ?_
  repeat (any_goals (first | assumption | wp_step))
theorem qft (hb : Looks (model prog w) h (isSubtype (.ref D) (.type "BaseException")) true) {nameV : Value} {Q : Unit -> Shared -> Prop} (I : qgu h a D) (hq : Q () ⟨h, g, d, t, os⟩) : wpAny (model prog w) A (checkBuiltinCall "BaseException.__getattribute__" ⟨[.ref a, nameV], []⟩) Q E ⟨h, g, d, t, os⟩ := by
  have hk : builtinKind "BaseException.__getattribute__" = some .slot := by decide +kernel
  have hsplit : splitId "BaseException.__getattribute__" = some ("BaseException", "__getattribute__") := by decide +kernel
  have L0 := I.looks (M := model prog w)
  have ha := F.args_bexc_ga (.ref a) nameV
  simp only [checkBuiltinCall, hk, hsplit]
  refine wpAny_bind ?_
  . unfold isInstance
    repeat (first | with_reducible refine L0.at ?_ | with_reducible refine hb.at ?_ | wp_step)
    exact hq
theorem qkK (FA : ExcAttrFacts "ValueError") (hga : findIn K (.ref D) "__getattribute__" = some (some (.builtin "BaseException.__getattribute__"))) (hgt : findIn K (.ref D) "__getattr__" = some none) (ha : findIn K (.ref D) "__class__" = some (some (.builtin "object.__class__"))) (hm : mroIn K D (.type "object") = some true)
    (hb : Looks (model prog w) h (isSubtype (.ref D) (.type "BaseException")) true) {tk : Tok} {fill expr : Bool} {Q : Value -> Shared -> Prop} (X : K.In h) (I : qgu h a D) (hq : Q (.ref D) ⟨h, g, d, t, os⟩) :
    wpAny (model prog w) A (getAttrBy (.ref a) (.str "__class__" tk) fill expr) Q E ⟨h, g, d, t, os⟩ := by
  have L0 := I.looks (M := model prog w)
  have L1 := looks_findIn (M := model prog w) X hga
  have L2 := looks_findIn (M := model prog w) X hgt
  have f3 := FA.ga.bind (.ref a)
  have hx0 : (expr && onTheHeap (Value.builtin "BaseException.__getattribute__")) = false := by cases expr <;> rfl
  have hx2 : (Value.builtin "BaseException.__getattribute__" == Value.builtin "object.__getattribute__") = false := by decide +kernel
  have hx1 : (onTheHeap (Value.ref D) && Value.builtin "BaseException.__getattribute__" == Value.builtin "object.__getattribute__") = false := by rw [hx2]; rfl
  repeat (any_goals (first | assumption | with_reducible refine L0.at ?_ | with_reducible refine L1.at ?_ | with_reducible refine L2.at ?_ | wp_step))
  refine codeAny_call_builtin FA.ga.plain F.entry_bexc_ga (qft hb I (qfs ha hm X I ?_))
  repeat (any_goals (first | assumption | wp_step))
theorem qhu (FA : ExcAttrFacts "ValueError") (hga : findIn K (.ref D) "__getattribute__" = some (some (.builtin "BaseException.__getattribute__"))) (hgt : findIn K (.ref D) "__getattr__" = some none) (ha : findIn K (.ref D) "__class__" = some (some (.builtin "object.__class__"))) (hm : mroIn K D (.type "object") = some true)
    (hb : Looks (model prog w) h (isSubtype (.ref D) (.type "BaseException")) true) {Q : Option Value -> Shared -> Prop} (X : K.In h) (I : qgu h a D) (hq : Q (some (.ref D)) ⟨h, g, d, t + 1, os⟩) :
    wpAny (model prog w) A (getAttr? (.ref a) "__class__") Q E ⟨h, g, d, t, os⟩ := by
  unfold getAttr? getAttrBy?
  repeat (any_goals (first | assumption | with_reducible apply qkK FA hga hgt ha hm hb X I | wp_step))
end
theorem qfu {K : Frag} {a D : Addr} (c : XK6 K D) : KitX K (.ref a) (.ref D) (fun h => qgu h a D) where
  ty := fun _ _ _ I => I.looks
  it := fun _ _ X _ => by
    obtain ⟨cdD, hcD⟩ := Option.isSome_iff_exists.mp c.is
    unfold clsIn at hcD
    split at hcD
    . rename_i c' d' cd' sl' ho
      intro A' Q' E' s' k q
      unfold isType loadHead
      exact wpAny_bind (wpAny_loadPart (k _ _ (X _ _ ho)) (wpAny_pure q))
    . cases hcD
  ne := fun h tp dd its n sl X htp => by
    obtain ⟨cdD, hcD⟩ := Option.isSome_iff_exists.mp c.is
    refine Bool.eq_false_iff.mpr fun q => ?_
    have e : D = tp := Value.ref.inj (beq_iff_eq.mp q)
    subst e
    unfold clsIn at hcD
    split at hcD
    . rename_i c' d' cd' sl' ho
      have z := (X _ _ ho).symm.trans htp
      cases z
    . cases hcD
  ca := fun {prog w A E Q s} X p k => by
    have I := p
    obtain ⟨h, g, d, t, os⟩ := s
    exact qhu PySem.F.attrBase_ValueError.toExcAttrFacts c.ga c.gt c.cl c.ob (looks_subIn X c.be) X I k
theorem qai {X : Cx} {pins : List (Addr × Obj)} {σ : St} {H : Hp} {s : Shared} {A : Around} {E : Value -> Shared -> Prop} {Q : Value -> Shared -> Prop} {a C : Addr} {c : Value} {b : Bool} (I : Inv X pins σ H s) (xc : XK6 X.K C) (hH : ∃ o vs, H a = some (.frz o (.own a)) /\ o.cls = .ref C /\ o.data = .fields vs)
    (e : kitOne X.K (.ref C) c = some b) (h : ∀ tk, Q (.bool b) { s with toks := tk }) : wpAny (model X.prog X.w) A (call (.builtin "isinstance") [.ref a, c]) Q E s := by
  obtain ⟨o, vs, h1, h2, _⟩ := hH
  obtain ⟨p, _⟩ := (show yf X.prog X.w H s.heap a (.frz o (.own a)) from I.hok a _ h1)
  exact kia_one (qfu xc) I.kIn ⟨o, p, h2⟩ e (fun z => nomatch z) h
end L2.Sk
namespace L2.Sk
open PySem PySem.Spec PyProof.Rows
def tyD : D -> String
  | .non => "NoneType"
  | .bl _ => "bool"
  | .int _ => "int"
  | .str _ => "str"
  | .tup _ => "tuple"
  | .lst _ => "list"
  | .dic _ => "dict"
  | .fz _ => "list"
  | .exc _ => "exc"
def qb2 (t T : String) : Bool := t == T || (t == "bool" && T == "int")
def qdd : List String := ["NoneType", "bool", "int", "str", "tuple", "list", "dict"]
theorem qhv (d : D) (h : ∀ C, d ≠ .exc C) : tyD d ∈ qdd := by
  cases d <;> first | (simp [tyD, qdd]; done) | exact absurd rfl (h _)
structure qiA (K : Fr0) (T : String) : Prop where
  ok : ∀ t ∈ qdd, PySem.W.kitOne K (.type t) (.type T) = some (qb2 t T)
  ex : T ∈ ["int", "bool", "str", "tuple", "list", "dict"]
  nx : qb2 "exc" T = false
theorem qhw {K : Fr0} : qiA K "int" := ⟨fun t ht => by
  simp only [qdd, List.mem_cons, List.not_mem_nil, or_false] at ht
  rcases ht with rfl | rfl | rfl | rfl | rfl | rfl | rfl <;> kernel_rfl, by decide, by decide⟩
theorem qfv {K : Fr0} : qiA K "bool" := ⟨fun t ht => by
  simp only [qdd, List.mem_cons, List.not_mem_nil, or_false] at ht
  rcases ht with rfl | rfl | rfl | rfl | rfl | rfl | rfl <;> kernel_rfl, by decide, by decide⟩
theorem qbq {K : Fr0} : qiA K "tuple" := ⟨fun t ht => by
  simp only [qdd, List.mem_cons, List.not_mem_nil, or_false] at ht
  rcases ht with rfl | rfl | rfl | rfl | rfl | rfl | rfl <;> kernel_rfl, by decide, by decide⟩
section
variable {X : Cx} {pins : List (Addr × Obj)} {σ : St} {H : Hp} {s : Shared} {A : Addr -> Prop} {E : Value -> Shared -> Prop} {Q : Value -> Shared -> Prop}
theorem qjm {d : D} {v : V} {u : Value} {T : String} (I : Inv X pins σ H s) (h : Is X.K A H d v) (rv : jv v u) (kt : qiA X.K T) (hQ : ∀ tk, Q (.bool (qb2 (tyD d) T)) { s with toks := tk }) :
    wpAny (model X.prog X.w) X.A (call (.builtin "isinstance") [u, .type T]) Q E s := by
  by_cases hx : ∃ C, d = .exc C
  . obtain ⟨C, rfl⟩ := hx
    obtain ⟨a, rfl, xa⟩ := h
    cases (show u = Value.ref a from rv)
    have q : ∀ tk, Q (.bool false) { s with toks := tk } := fun tk => by
      have := hQ tk
      rw [show tyD (.exc C) = "exc" from rfl, kt.nx] at this
      exact this
    obtain ⟨D0, h0, h1, h2⟩ := xa
    exact qai I h1 h2 (h1.no T kt.ex) q
  have e := kt.ok (tyD d) (qhv d fun C hC => hx ⟨C, hC⟩)
  cases d with
  | exc C => exact absurd ⟨C, rfl⟩ hx
  | non => cases h; exact yI I rv .non e hQ
  | bl b => cases h; exact yI I rv (.bl b) e hQ
  | int i => cases h; exact yI I rv (.int i) e hQ
  | str x => cases h; exact yI I rv (.str x) e hQ
  | tup ds =>
    obtain ⟨a, xs, rfl, ta, il⟩ := h
    cases (show u = Value.ref a from rv)
    obtain ⟨its, r, p, z⟩ := I.tuple ta.sq
    obtain ⟨o, h1, h2, _⟩ := p
    exact PySem.W.kia_one PySem.W.kitx_tuple I.kIn ⟨o, h1, h2⟩ e (fun z => nomatch z) hQ
  | lst ds =>
    obtain ⟨a, xs, rfl, hA, ta, il⟩ := h
    exact yI I rv (.lst ta) e hQ
  | dic kvs =>
    obtain ⟨a, rfl, hA, ta⟩ := h
    exact yI I rv (.dK ta) e hQ
  | fz ns =>
    obtain ⟨a, rfl, ta⟩ := h
    cases (show u = Value.ref a from rv)
    obtain ⟨its, r, p, z⟩ := I.list ta.sq
    obtain ⟨o, h1, h2, _⟩ := p.isList
    exact PySem.W.kia_one PySem.W.kitx_list I.kIn ⟨o, h1, h2⟩ e (fun z => nomatch z) hQ
end
def qhx (T : String) (f : M D) : M D := bnd f fun d => ret (.bl (qb2 (tyD d) T))
section
variable {X : Cx} {c : Fc} {a b e : Expr} {pos : Pos}
def qlR (K : Fr0) (T : String) : List V -> Hp -> VK -> Prop := fun xs H Q => ∃ v d A, xs = [v, .ty T] /\ Is K A H d v /\ Q (.bl (qb2 (tyD d) T)) H
theorem qfw {T : String} (kt : qiA X.K T) : yD X (.builtin "isinstance") (qlR X.K T) := by
  intro pins s σ H xs us Q I r h
  obtain ⟨v, d, A, rfl, hi, q⟩ := h
  obtain ⟨u, w, rfl, r1, r2⟩ := qY.two r
  cases (show w = Value.type T from r2)
  exact qjm I hi r1 kt fun tk => ⟨.bl _, H, I.tok tk, rfl, q⟩
theorem qcv {T : String} {x : Str} {p p2 : Pos} {f : M D} (kt : qiA X.K T) (hg : Gl X "isinstance") (hm : X.mg "isinstance" = none) (hg2 : Gl X x) (hm2 : X.mg x = none) (hv2 : bootBuiltins x = some (.type T)) (ha : DE X c a f)
    (hv : bootBuiltins "isinstance" = some (.builtin "isinstance") := by first | rfl | exact PySem.boot_isinstance) (hn2 : x ≠ "__name__" := by decide) (hdb2 : (x == ("__debug__" : Str)) = false := by decide)
    (he : starEach [a, .Name x p2] X.env = (false, eval a X.env) :: starEach [.Name x p2] X.env := by rfl) (hpl : (backTo pos (starEach [.Name x p2] X.env)).any (·.1) = false := by rfl) : DE X c (.Call (.Name "isinstance" p) [a, .Name x p2] [] pos) (qhx T f) := by
  obtain ⟨t, pa, w⟩ := ha
  refine ⟨_, uY (qfw kt) hg hm hv (jk pa (jk (qdD (v := .ty T) hg2 hm2 hv2 rfl hn2 hdb2) uX (by rfl)) he) (by decide) (by decide) he hpl, fun ρ σ H Q r h => w ρ σ H _ r (Wp.bnd h fun d ρ1 v H1 r1 i1 g1 h1 => ?_)⟩
  exact ⟨v, d, _, rfl, i1, h1 _ H1 r1 rfl .refl⟩
end
def ub : List D -> Option (List Bool)
  | [] => some []
  | .bl b :: r => (ub r).map (b :: ·)
  | _ => none
def vT : List D -> Option (List Int)
  | [] => some []
  | .int i :: r => (vT r).map (i :: ·)
  | _ => none
theorem yQ {K : Fr0} {A : Addr -> Prop} {H : Hp} : ∀ {ds : List D} {xs : List V} {bs : List Bool}, IsL K A H ds xs -> ub ds = some bs -> xs = bs.map V.bl
  | [], _, _, h, e => by cases e; exact h
  | .bl b :: r, _, bs, ⟨x, ys, hx, h1, h2⟩, e => by
    cases h1
    cases e1 : ub r with
    | none => simp [ub, e1] at e
    | some l =>
      simp [ub, e1] at e
      subst e
      rw [hx, yQ h2 e1]; rfl
  | .non :: _, _, _, _, e => by cases e
  | .int _ :: _, _, _, _, e => by cases e
  | .str _ :: _, _, _, _, e => by cases e
  | .tup _ :: _, _, _, _, e => by cases e
  | .lst _ :: _, _, _, _, e => by cases e
  | .dic _ :: _, _, _, _, e => by cases e
  | .fz _ :: _, _, _, _, e => by cases e
  | .exc _ :: _, _, _, _, e => by cases e
theorem vw {K : Fr0} {A : Addr -> Prop} {H : Hp} : ∀ {ds : List D} {xs : List V} {bs : List Int}, IsL K A H ds xs -> vT ds = some bs -> xs = bs.map V.int
  | [], _, _, h, e => by cases e; exact h
  | .int b :: r, _, bs, ⟨x, ys, hx, h1, h2⟩, e => by
    cases h1
    cases e1 : vT r with
    | none => simp [vT, e1] at e
    | some l =>
      simp [vT, e1] at e
      subst e
      rw [hx, vw h2 e1]; rfl
  | .non :: _, _, _, _, e => by cases e
  | .bl _ :: _, _, _, _, e => by cases e
  | .str _ :: _, _, _, _, e => by cases e
  | .tup _ :: _, _, _, _, e => by cases e
  | .lst _ :: _, _, _, _, e => by cases e
  | .dic _ :: _, _, _, _, e => by cases e
  | .fz _ :: _, _, _, _, e => by cases e
  | .exc _ :: _, _, _, _, e => by cases e
theorem qfx {bs : List Bool} : ∀ {us : List Value}, qY (bs.map V.bl) us -> LSm.BoolsAre us bs := by
  induction bs with
  | nil => intro us r; rw [List.map_nil] at r; cases r; exact .nil
  | cons b bs ih =>
    intro us r
    rw [List.map_cons] at r
    cases r with
    | cons r1 r2 =>
      cases (show _ = Value.bool b from r1)
      exact .cons b (ih r2)
section
variable {X : Cx}
theorem qfy (hc : X.calm = true) : yD X (.builtin "all") (fun xs H Q => ∃ (p : Addr) (bs : List Bool), xs = [.ref p] /\ H p = some (.lst (bs.map V.bl)) /\ Q (.bl (bs.all id)) H) := by
  intro pins s σ H xs us Q I r h
  obtain ⟨p, bs, rfl, hp, q⟩ := h
  obtain ⟨u, rfl, ru⟩ := qY.one r
  cases ru
  obtain ⟨its, rv, pl, hz⟩ := I.list (SqL.of hp)
  have hl := pl.isList
  have hb := qfx rv
  have hlt : p < s.heap.objs.size := by obtain ⟨_, e, _⟩ := hl; exact Heap.lt_size e
  refine call_all_walk (wpAny_pyIter_list hl ?_)
  refine ⟨s.heap.objs.size, [s.heap.objs.size, p], [s.heap.objs.size], its.toArray.size, _, _, fun i => (bs[i]?).getD true, rfl, Walks.list (A := X.A.in1) (I.ok.hd hc) _ p (Nat.ne_of_lt hlt) its.toArray,
    ⟨⟨_, Heap.get?_push_size _ rfl, rfl, rfl⟩, hl.push _⟩, fun i v s' Q' E' hP hQ => ?_, fun h' tk hk => ?_⟩
  . obtain ⟨b, e, rfl⟩ := hb.get i v (by simpa using hP)
    simp only [e, Option.getD_some] at hQ
    exact wpAny_truthy_bool hQ
  . have e : ((List.range its.toArray.size).all fun i => (bs[i]?).getD true) = bs.all id := by
      rw [List.size_toArray, hb.length]; exact LSm.range_all bs
    rw [e]
    exact ⟨.bl _, H, I.kept (LSm.kept_iter hk), rfl, q⟩
end
def qiB : List D -> Option D
  | [.lst ds] => (ub ds).map fun bs => .bl (bs.all id)
  | _ => none
section
variable {K : Fr0}
theorem qd7 : wY K qiB (fun xs H Q => ∃ (p : Addr) (bs : List Bool), xs = [.ref p] /\ H p = some (.lst (bs.map V.bl)) /\ Q (.bl (bs.all id)) H) := by
  intro A H xs d vs Q hn h e k
  unfold qiB at e
  split at e
  . obtain ⟨v, rfl, a, zs, rfl, _, ta, il⟩ := IsL.inv1 h
    obtain ⟨bs, h1, h2⟩ := Option.map_eq_some_iff.mp e
    subst h2
    rw [yQ il h1] at ta
    exact ⟨a, bs, rfl, ta, k _ H (jm.refl H) rfl⟩
  . cases e
end
section
variable {X : Cx}
def qgv (K : Fr0) : R2 := fun x y H Q => ∃ a b ys, x = .ref a /\ y = .ref b /\ SqT K H a [] /\ SqT K H b ys /\ Q (.ref b) H
theorem qfz : OpR X (binaryOp .Add) (qgv X.K) := by
  intro pins s σ H x y v u Q I rx ry h
  obtain ⟨a, b, ys, rfl, rfl, ha, hb, q⟩ := h
  cases rx
  cases ry
  obtain ⟨its, r1, p1, _⟩ := I.tuple ha
  obtain ⟨its2, r2, p2, _⟩ := I.tuple hb
  cases r1
  obtain ⟨⟨cls, dd, data, sl⟩, ho, hc, n, hd⟩ := id p1
  obtain ⟨⟨cls2, dd2, data2, sl2⟩, ho2, hc2, n2, hd2⟩ := id p2
  simp only at hc hd hc2 hd2
  subst hc hd hc2 hd2
  exact concat_meets ⟨_, ho, rfl⟩ ⟨_, ho2, rfl⟩ noFill_tuple_add seq_tuple_add PySem.F.slot_tuple_add PySem.F.entry_tuple_add (PySem.F.args_tuple_add_2 _ _)
      (tuple_addW0 a b [].toArray its2.toArray n n2 dd dd2 sl sl2 (by simp)) ⟨ho, ho2, ⟨.ref b, H, I, rfl, q⟩⟩
def qjn (K : Fr0) : R2 := fun x y H Q => (∃ i j, x = .int i /\ y = .int j /\ Q (.int (i + j)) H) \/ ((∃ i j, x = .str i /\ y = .str j /\ i.length + j.length <= sizeLine /\ Q (.str (i ++ j)) H) \/ (qgv K x y H Q \/ (qja K x y H Q \/ qlb x y H Q)))
theorem qT : OpR X (binaryOp .Add) (qjn X.K) := OpR.or qi0 (OpR.or qc8 (OpR.or qfz (OpR.or qhk qjf)))
end
def zt : D -> D -> Option D
  | .int i, .int j => some (.int (i + j))
  | .str x, .str y => if qG (x.length + y.length) then some (.str (x ++ y)) else none
  | .tup xs, .tup ys => if qG (xs.length + ys.length) then some (.tup (xs ++ ys)) else none
  | .lst xs, .lst ys => if qG (xs.length + ys.length) then some (.lst (xs ++ ys)) else none
  | _, _ => none
theorem qU {K : Fr0} : OpS K zt (qjn K) := by
  intro A H x y d v u Q hn ix iy e k
  cases x <;> cases y <;> simp only [zt] at e <;> try (cases e; done)
  . rename_i i j
    cases ix; cases iy; cases e
    exact .inl ⟨i, j, rfl, rfl, k _ H (jm.refl H) rfl⟩
  . rename_i i j
    cases ix; cases iy
    obtain ⟨e1, e2⟩ := zM e
    subst e2
    exact .inr (.inl ⟨i, j, rfl, rfl, of_decide_eq_true e1, k _ H (jm.refl H) rfl⟩)
  . rename_i ds es
    obtain ⟨a, xs, rfl, ta, il⟩ := ix
    obtain ⟨b, ys, rfl, tb, jl⟩ := iy
    obtain ⟨e1, e2⟩ := zM e
    subst e2
    have hs : xs.length + ys.length <= sizeLine := by rw [il.length, jl.length]; exact of_decide_eq_true e1
    refine .inr (.inr ?_)
    cases ds with
    | nil =>
      have hx : xs = [] := il
      subst hx
      exact .inl ⟨a, b, ys, rfl, rfl, ta.sq, tb.sq, k _ H (jm.refl H) ⟨b, ys, rfl, tb, jl⟩⟩
    | cons d0 ds =>
      refine .inr (.inl ⟨a, b, xs, ys, rfl, rfl, ta.sq, tb.sq, ?_, hs, fun hy => ?_, fun hy p hp => ?_⟩)
      . obtain ⟨x, zs, hx, _⟩ := il
        rw [hx]; simp
      . subst hy
        cases es with
        | nil => rw [List.append_nil] at k; exact k _ H (jm.refl H) ⟨a, xs, rfl, ta, il⟩
        | cons e0 es => obtain ⟨_, _, hx, _⟩ := jl; cases hx
      . exact k _ _ (qy hp _) ⟨p, xs ++ ys, rfl, .inl qv, IsL.ext (Ext.of_same (qy hp _)) (fun _ h _ => h) (IsL.append il jl)⟩
  . rename_i ds es
    obtain ⟨a, xs, rfl, hA, ta, il⟩ := ix
    obtain ⟨b, ys, rfl, hB, tb, jl⟩ := iy
    obtain ⟨e1, e2⟩ := zM e
    subst e2
    have hs : xs.length + ys.length <= sizeLine := by rw [il.length, jl.length]; exact of_decide_eq_true e1
    exact .inr (.inr (.inr (.inr ⟨a, b, xs, ys, rfl, rfl, ta, tb, hs, fun p hp => k _ _ (qy hp _) ⟨p, xs ++ ys, rfl, hn p hp, qv, IsL.ext (Ext.of_same (qy hp _)) (fun _ h _ => h) (IsL.append il jl)⟩⟩)))
section
variable {X : Cx}
end
def qkL (xs : List D) (lo hi : Option Int) : List D := (xs.drop (HT.sIx xs.length 0 lo)).take (HT.sIx xs.length xs.length hi - HT.sIx xs.length 0 lo)
def slD (x : D) (lo hi : Option Int) : Option D := match x with
  | .tup ds => some (.tup (qkL ds lo hi))
  | _ => none
section
variable {X : Cx} {c : Fc} {a b e : Expr} {pos p2 : Pos}
def asI : D -> Option Int
  | .int i => some i
  | _ => none
def qjo (f : M D) : M (Option Int) := bnd f fun d => match d with
  | .int i => ret (some i)
  | _ => fun _ => .bad
def dsl (f : M D) (g k : M (Option Int)) : M D := bnd f fun d => bnd g fun l => bnd k fun u => lift (slD d l u)
end
end L2.Sk
namespace L2.Sk
open PySem PySem.Spec PyProof.Rows
def zy (X : Cx) (scope : Scope) (N' : List Str) (fp : List Addr) (cl : List (Str × Addr)) (C : Addr) (s₀ : Shared) (H₀ : Hp) (pn : List (Addr × Obj)) : Cx where
  prog := X.prog
  w := X.w
  K := X.K
  mg := X.mg
  base := X.base
  A := X.A
  N := N'
  s₀ := s₀
  H₀ := H₀
  env := compEnvC scope cl C X.env
  outer := X.stack
  stack := X.stack
  ex := fp
  fn := fun _ => false
  calm := X.calm
  pn := pn
  xe := fun _ _ => False
def PF (X : Cx) (ifs : List Expr) (t : TT) : Prop := ∀ (pins : List (Addr × Obj)) (s : Shared) (σ : St) (H : Hp) (Q : Bool -> Hp -> Prop), Inv X pins σ H s -> t σ H Q ->
  wpAny (model X.prog X.w) X.A (forIn ifs true fun c r => if r = true then do let ok <- isTrue c X.env (eval c X.env); pure (ForInStep.yield ok) else pure (ForInStep.yield r)) (TP X pins σ Q) X.xe s
theorem qjp {X : Cx} : PF X [] (fun _ H Q => Q true H) := fun pins s σ H Q I h => wpAny_tests_nil ⟨H, I, h⟩
structure jM (X : Cx) (scope : Scope) (N' : List Str) (nt : Nat) (fr : List Nat) : Prop where
  kind : scope.kind = .function
  nocell : ∀ y ∈ scope.names, y.2 ≠ .cell
  names : ∀ y ∈ scope.names, y.2 = .local -> scope.names.lookup y.1 = some .local
  frees : ∀ y ∈ scope.names, y.2 = .free -> X.env.kindOf y.1 = some .cell
  len : N'.length = nt + fr.length
  slot : ∀ i j, fr[i]? = some j -> ∃ x, N'[nt + i]? = some x /\ X.N[j]? = some x /\ scope.names.lookup x = some .free
theorem vx {env : PySem.Env} : ∀ (names : List (Str × NameKind)) (cs : List (Str × Addr)), (∀ y ∈ names, y.2 = .free -> ∃ a, env.cells.lookup y.1 = some a) -> (∀ n a, cs.lookup n = some a -> env.cells.lookup n = some a) ->
    ∃ cl, (forIn names cs fun x r => match x with | (name, kind) => if (kind == NameKind.free) = true then do let a <- cellOf env name; pure (ForInStep.yield ((name, a) :: r)) else pure (ForInStep.yield r) : Sem (List (Str × Addr))) = pure cl /\
      (∀ n a, cl.lookup n = some a -> env.cells.lookup n = some a) /\ (∀ n, (∃ a, cs.lookup n = some a) -> ∃ a, cl.lookup n = some a) /\ ∀ y ∈ names, y.2 = .free -> ∃ a, cl.lookup y.1 = some a
  | [], cs, _, h => ⟨cs, rfl, h, fun _ h => h, fun y hy => by cases hy⟩
  | (n, k) :: r, cs, hf, h => by
    have hr : ∀ y ∈ r, y.2 = .free -> ∃ a, env.cells.lookup y.1 = some a := fun y hy => hf y (List.mem_cons_of_mem _ hy)
    rw [List.forIn_cons]
    by_cases hk : k = .free
    . subst hk
      obtain ⟨a, ha⟩ := hf (n, .free) List.mem_cons_self rfl
      have ha' : env.cells.lookup n = some a := ha
      have hcell : cellOf env n = pure a := by unfold cellOf; rw [ha']
      obtain ⟨cl, e1, e2, e3, e4⟩ := vx r ((n, a) :: cs) hr (fun m b hm => by
        rw [List.lookup_cons] at hm
        cases e : m == n with
        | true => rw [e] at hm; cases hm; rw [eq_of_beq e]; exact ha'
        | false => rw [e] at hm; exact h m b hm)
      refine ⟨cl, ?_, e2, fun m ⟨b, hm⟩ => e3 m ?_, fun y hy hyf => ?_⟩
      . show ((if (NameKind.free == NameKind.free) = true then _ else _) >>= _) = _
        rw [if_pos (by rfl), hcell]
        exact e1
      . rw [List.lookup_cons]
        cases e : m == n with
        | true => exact ⟨a, rfl⟩
        | false => exact ⟨b, hm⟩
      . rcases List.mem_cons.mp hy with rfl | hy
        . exact e3 n ⟨a, by rw [List.lookup_cons]; simp⟩
        . exact e4 y hy hyf
    . have hb : (k == NameKind.free) = false := by simpa using hk
      obtain ⟨cl, e1, e2, e3, e4⟩ := vx r cs hr h
      refine ⟨cl, ?_, e2, e3, fun y hy hyf => ?_⟩
      . show ((if (k == NameKind.free) = true then _ else _) >>= _) = _
        rw [hb, if_neg Bool.false_ne_true]
        exact e1
      . rcases List.mem_cons.mp hy with rfl | hy
        . exact absurd hyf hk
        . exact e4 y hy hyf
theorem u4 {env : PySem.Env} {scope : Scope} (hf : ∀ y ∈ scope.names, y.2 = .free -> ∃ a, env.cells.lookup y.1 = some a) :
    ∃ cl, closureFor scope env = pure cl /\ (∀ n a, cl.lookup n = some a -> env.cells.lookup n = some a) /\ ∀ y ∈ scope.names, y.2 = .free -> ∃ a, cl.lookup y.1 = some a := by
  obtain ⟨cl, e1, e2, _, e4⟩ := vx scope.names [] hf (fun n a h => by cases h)
  refine ⟨cl, ?_, e2, e4⟩
  unfold closureFor
  show (forIn scope.names [] _ >>= _) = _
  have e5 : (forIn scope.names [] fun x r => match x with | (name, kind) => if (kind == NameKind.free) = true then do let a <- cellOf env name; pure (ForInStep.yield ((name, a) :: r)) else pure (ForInStep.yield r) : Sem (List (Str × Addr))) = pure cl := e1
  first
    | (rw [e5]; rfl)
    | (simp only [bind_pure_comp, e5]; rfl)
theorem yg {env : PySem.Env} : ∀ {names : List (Str × NameKind)} {x : Str}, names.lookup x = some .free -> env.scope.kind = .function -> env.kindOf x = some .cell ->
    (names.map fun (n, k) => if (k == NameKind.free && env.scope.kind == .function && env.kindOf n == some .cell) then (n, NameKind.cell) else (n, k)).lookup x = some .cell
  | [], _, h, _, _ => by simp at h
  | (n, k) :: r, x, h, hk, hx => by
    have ih := @yg env r x
    show List.lookup x ((if (k == NameKind.free && env.scope.kind == .function && env.kindOf n == some .cell) = true then (n, NameKind.cell) else (n, k)) :: _) = _
    cases hxn : x == n with
    | true =>
      have e : x = n := eq_of_beq hxn
      subst e
      simp only [List.lookup_cons, hxn] at h
      cases h
      rw [if_pos (by rw [hk, hx]; rfl)]
      simp only [List.lookup_cons, hxn]
    | false =>
      simp only [List.lookup_cons, hxn] at h
      by_cases hc : (k == NameKind.free && env.scope.kind == .function && env.kindOf n == some .cell) = true
      . rw [if_pos hc]; simp only [List.lookup_cons, hxn]; exact ih h hk hx
      . rw [if_neg hc]; simp only [List.lookup_cons, hxn]; exact ih h hk hx
theorem jw {env : PySem.Env} : ∀ {names : List (Str × NameKind)} {x : Str} {q : NameKind}, (names.map fun (n, k) => if (k == NameKind.free && env.scope.kind == .function && env.kindOf n == some .cell) then (n, NameKind.cell) else (n, k)).lookup x = some q ->
    q = .cell \/ q = .free -> (∀ y ∈ names, y.2 ≠ .cell) -> ∃ k, (x, k) ∈ names /\ k = .free
  | [], _, _, h, _, _ => by simp at h
  | (n, k) :: r, x, q, h, hq, hc => by
    have ih := @jw env r x q
    have h' : List.lookup x ((if (k == NameKind.free && env.scope.kind == .function && env.kindOf n == some .cell) = true then (n, NameKind.cell) else (n, k)) :: (r.map fun (n, k) => if (k == NameKind.free && env.scope.kind == .function && env.kindOf n == some .cell) then (n, NameKind.cell) else (n, k))) = some q := h
    have hr : ∀ y ∈ r, y.2 ≠ .cell := fun y hy => hc y (List.mem_cons_of_mem _ hy)
    by_cases hcd : (k == NameKind.free && env.scope.kind == .function && env.kindOf n == some .cell) = true
    . rw [if_pos hcd] at h'
      cases hxn : x == n with
      | true =>
        have e : x = n := eq_of_beq hxn
        subst e
        refine ⟨k, List.mem_cons_self, ?_⟩
        rw [Bool.and_eq_true, Bool.and_eq_true] at hcd
        exact eq_of_beq hcd.1.1
      | false =>
        simp only [List.lookup_cons, hxn] at h'
        obtain ⟨k', m, e⟩ := ih h' hq hr
        exact ⟨k', List.mem_cons_of_mem _ m, e⟩
    . rw [if_neg hcd] at h'
      cases hxn : x == n with
      | true =>
        have e : x = n := eq_of_beq hxn
        subst e
        simp only [List.lookup_cons, hxn] at h'
        cases h'
        rcases hq with rfl | rfl
        . exact absurd rfl (hc (x, .cell) List.mem_cons_self)
        . exact ⟨.free, List.mem_cons_self, rfl⟩
      | false =>
        simp only [List.lookup_cons, hxn] at h'
        obtain ⟨k', m, e⟩ := ih h' hq hr
        exact ⟨k', List.mem_cons_of_mem _ m, e⟩
def qC (nt : Nat) (fr : List Nat) (σ : St) : St := List.replicate nt none ++ fr.map fun j => (σ[j]?).join
def qhy (X : Cx) (tg : Expr) (ifs : List Expr) (elt : Expr) (scope : Scope) (N' : List Str) (wi : TI) (nt : Nat) (fr : List Nat) : TE := fun σ H Q => wi σ H fun J H1 => ∀ acc fp cl C s₀ H₀ pn, H1 acc = none ->
  ∃ (g : TG) (tt : TT) (te : TE), PG (zy X scope N' fp cl C s₀ H₀ pn) tg g /\ PF (zy X scope N' fp cl C s₀ H₀ pn) ifs tt /\ PE (zy X scope N' fp cl C s₀ H₀ pn) elt te /\
  ∃ W : Nat -> Nat -> St -> Hp -> Prop, (∃ m, W 0 m (qC nt fr σ) (upd H1 acc (.lst []))) /\
  ∀ i m σ' H', W i m σ' H' -> (J.stop i H' /\ Q (.ref acc) H') \/ (J.go i H' /\ ∀ x H'', J.yld i H' x H'' -> g x σ' H'' fun σ2 H2 => tt σ2 H2 fun b H3 =>
    if b = true then te σ2 H3 fun y H4 => ∃ ys, H4 acc = some (.lst ys) /\ ys.length < sizeLine /\ ∃ m', m' < m /\ W (i + 1) m' σ2 (upd H4 acc (.lst (ys ++ [y]))) else ∃ m', m' < m /\ W (i + 1) m' σ2 H3)
section
variable {X : Cx} {tg iter elt : Expr} {ifs : List Expr} {scope : Scope} {pos : Pos} {wi : TI} {N' : List Str} {nt : Nat} {fr : List Nat}
theorem wA {prog : Program} {w : World} {A : Around} {R : Result -> Shared -> Prop} {s : Shared} {it acc : Value} {env : PySem.Env} (I : Nat -> Shared -> Prop)
    (turn : ∀ n s, I n s -> wpAny (model prog w) A (pyNext it) (fun r s₁ => match r with
      | none => R (.ok .next) s₁
      | some v => wpAny (model prog w) A (letOwnedTupleGo tg it v) (fun _ s₁' => wpAny (model prog w) A (assign tg env v) (fun _ s₂ =>
          wpAny (model prog w) A (forIn ifs true fun c r => if r = true then do let ok <- isTrue c env (eval c env); pure (ForInStep.yield ok) else pure (ForInStep.yield r)) (fun ok s₃ =>
            if ok = true then wpAny (model prog w) A (eval elt env) (fun x s₄ =>
              wpAny (model prog w) A (call (.builtin "list.append") [acc, x]) (fun _ s₅ => ∃ m, m < n /\ I m s₅) (fun _ _ => False) s₄) (fun _ _ => False) s₃
            else ∃ m, m < n /\ I m s₃) (fun _ _ => False) s₂) (fun _ _ => False) s₁') (fun _ _ => False) s₁) (fun _ _ => False) s)
    (n : Nat) (h : I n s) : codeAny (model prog w) A (.compLoop (.ListComp elt [⟨tg, iter, ifs, 0⟩] scope pos) 0 it acc env) R s := by
  refine codeAny_loop rfl I (fun n s hI => ?_) n h
  show wpAny _ A ((compTurn (.ListComp elt [⟨tg, iter, ifs, 0⟩] scope pos) 0 it acc env).onRaise (fun x => do noteFrame x env; theTreesLotGoes x)) _ _ s
  refine wpAny_noted ?_
  rw [compTurn_list]
  refine wpAny_bind (wpAny_standAt (wpAny_bind (wpAny_mono (turn n s hI) (fun r s₁ h₁ => ?_) fun _ _ h' => h'.elim)))
  cases r with
  | none => exact wpAny_pure h₁
  | some v =>
    refine wpAny_bind (wpAny_mono h₁ (fun _ s₁' h₁' => ?_) fun _ _ h' => h'.elim)
    refine wpAny_bind (wpAny_mono h₁' (fun _ s₂ h₂ => wpAny_bind (wpAny_mono h₂ (fun ok s₃ h₃ => ?_) fun _ _ h' => h'.elim)) fun _ _ h' => h'.elim)
    cases ok with
    | false => exact wpAny_pure ⟨rfl, h₃⟩
    | true =>
      exact wpAny_bind (wpAny_bind (wpAny_mono h₃ (fun x s₄ h₄ => wpAny_bind (wpAny_mono h₄ (fun _ s₅ h₅ => wpAny_pure (wpAny_pure ⟨rfl, h₅⟩)) fun _ _ h' => h'.elim)) fun _ _ h' => h'.elim))
theorem qaj {pins : List (Addr × Obj)} {σ : St} {H : Hp} {s : Shared} {h₁ : Heap} {tk : Nat} {fp : List Addr} {cl : List (Str × Addr)} (S : jM X scope N' nt fr) (I : Inv X pins σ H s) (hfp : ∀ b ∈ fp, qbV X pins H b)
    (hex : ∀ b ∈ fp, ∃ o, s.heap.get? b = some o) (cl1 : ∀ n a, cl.lookup n = some a -> X.env.cells.lookup n = some a) (cl2 : ∀ y ∈ scope.names, y.2 = .free -> ∃ a, cl.lookup y.1 = some a)
    (hns : ∃ m, h₁.Ns s.heap.objs.size m) (old : ∀ b o, s.heap.get? b = some o -> h₁.get? b = some o) :
    Inv (zy X scope N' fp cl s.heap.objs.size s H (X.pn ++ pins)) [] (qC nt fr σ) H { s with heap := h₁, toks := tk } := by
  have stkB : ∀ b ∈ frs X.stack, b = X.env.locals \/ b ∈ X.fs := fun b hb => List.mem_cons.mp (I.stkSub b hb)
  have hC : ∀ b o, s.heap.get? b = some o -> b ≠ s.heap.objs.size := fun b o e => Nat.ne_of_lt (Heap.lt_size e)
  obtain ⟨m, hn⟩ := hns
  refine ⟨⟨I.ok.mod, S.kind, I.ok.glob, I.ok.blt, Nat.le_refl _, fun x y c h1 h2 => I.ok.inj x y c (cl1 x c h1) (cl1 y c h2), fun x hx => ?_, fun x c hx => ?_, I.ok.hd, I.ok.frames, .inl rfl, fun b hb => ⟨?_, fun x c hx => (hfp b hb).2.2.2.2.1 x c (cl1 x c hx)⟩, I.bs, Nat.le_trans I.ok.bsz I.sz, fun b o e hb => ?_, fun b hb hb2 => ?_, I.stack, I.stkFree⟩,
    rfl, I.bare, Un.kept old, ⟨m, hn, fun i x v h1 h2 h3 => ?_⟩, fun x c hx => ?_, I.hok.fresh (Nat.le_refl _), fun x c hx => I.freeC x c (cl1 x c hx), fun p hp => ?_, I.hok.kept old, ?_⟩
  . have hx' : ∃ k, (x, k) ∈ scope.names /\ k = .free := by
      rcases hx with hx | hx
      . exact jw (env := X.env) (q := .cell) hx (.inl rfl) S.nocell
      . exact jw (env := X.env) (q := .free) hx (.inr rfl) S.nocell
    obtain ⟨k, m, rfl⟩ := hx'
    exact cl2 (x, .free) m rfl
  . have hx' : false = true := hx
    cases hx'
  . obtain ⟨o, e⟩ := hex b hb
    exact hC b o e
  . obtain ⟨f0, f1, f2, f3, f4, f5⟩ := hfp b hb
    rcases f3 with z | z
    . exact I.ok.noex b o e z
    . exact absurd (Nat.lt_of_lt_of_le (Heap.lt_size e) (Nat.le_trans I.ok.bsz z)) (Nat.lt_irrefl _)
  . obtain ⟨f0, f1, f2, f3, f4, f5⟩ := hfp b hb
    rcases stkB b hb2 with z | z
    . exact f1 z
    . exact f2 z
  . -- names
    have hi : nt <= i := by
      apply Nat.le_of_not_lt
      intro hlt
      unfold qC at h2
      rw [List.getElem?_append_left (by simpa using hlt), List.getElem?_replicate] at h2
      split at h2 <;> cases h2
    have h2' : (fr.map fun j => (σ[j]?).join)[i - nt]? = some (some v) := by
      unfold qC at h2
      rw [List.getElem?_append_right (by simpa using hi), List.length_replicate] at h2
      exact h2
    rw [List.getElem?_map] at h2'
    cases ej : fr[i - nt]? with
    | none => rw [ej] at h2'; cases h2'
    | some j =>
      rw [ej] at h2'
      have hσ : (σ[j]?).join = some v := by simpa using h2'
      have hσ' : σ[j]? = some (some v) := by
        cases e : σ[j]? with
        | none => rw [e] at hσ; cases hσ
        | some o =>
          rw [e] at hσ
          have : o = some v := hσ
          rw [this]
      obtain ⟨y, hy1, hy2, hy3⟩ := S.slot (i - nt) j ej
      have hii : nt + (i - nt) = i := by omega
      rw [hii] at hy1
      have exy : y = x := by
        have h1' : N'[i]? = some x := h1
        rw [h1'] at hy1
        exact (Option.some.inj hy1).symm
      subst exy
      have hmem : (y, NameKind.free) ∈ scope.names := PySem.mem_of_lookup hy3
      have hcellk : X.env.kindOf y = some .cell := S.frees (y, .free) hmem rfl
      obtain ⟨m0, hn0, hl0⟩ := I.loc
      obtain ⟨u, ru, lk⟩ := hl0 j y v hy2 hσ' (.inr (.inl hcellk))
      refine ⟨u, ru, .inr ⟨.inl (yg hy3 I.ok.kind hcellk), ?_⟩⟩
      rcases lk with ⟨k1, _⟩ | ⟨_, c, e, z⟩
      . rw [hcellk] at k1; cases k1
      . obtain ⟨a, ea⟩ := cl2 (y, .free) hmem rfl
        have ea' := cl1 y a ea
        rw [e] at ea'
        cases ea'
        obtain ⟨o, ho, hd⟩ := z
        exact ⟨c, ea, o, old _ _ ho, hd⟩
  . obtain ⟨v, o, ho, hd⟩ := I.cell x c (cl1 x c hx)
    exact ⟨v, o, old _ _ ho, hd⟩
  . have hp' : p ∈ X.pn ++ pins := by
      rcases List.mem_append.mp (show p ∈ (X.pn ++ pins) ++ [] from hp) with z | z
      . exact z
      . cases z
    obtain ⟨e, n, ne, nf, d⟩ := I.pin p hp'
    refine ⟨old _ _ e, n, hC _ _ e, fun z => ?_, d⟩
    rcases stkB p.1 z with z | z
    . exact ne z
    . exact nf z
  . show (qC nt fr σ).length = N'.length
    unfold qC
    rw [List.length_append, List.length_replicate, List.length_map, S.len]
theorem qcw {pins : List (Addr × Obj)} {σ σ' : St} {H H' : Hp} {s s' : Shared} {h' : Heap} {fp : List Addr} {cl : List (Str × Addr)} (I : Inv X pins σ H s) (hfp : ∀ b ∈ fp, qbV X pins H b)
    (J : Inv (zy X scope N' fp cl s.heap.objs.size s H (X.pn ++ pins)) [] σ' H' s') (sb : Heap.SameBut s.heap.objs.size s'.heap h') : Inv X pins σ H' { s' with heap := h' } := by
  have hC : H' s.heap.objs.size = none := J.free
  have u := J.base
  have big : ∀ b o, s.heap.get? b = some o -> b ≠ s.heap.objs.size := fun b o e => Nat.ne_of_lt (Heap.lt_size e)
  have get' : ∀ b, b ≠ s.heap.objs.size -> h'.get? b = s'.heap.get? b := fun b hb => sb.2 b hb
  have u2 : Un (frs X.stack) fp H H' s.heap h' :=
    ⟨fun b o e n hb hx => (get' b (big b o e)).trans (u.keep b o e n hb hx), fun b o e n hb hx => by
      obtain ⟨sl, q⟩ := u.slot b o e n hb hx
      exact ⟨sl, (get' b (big b o e)).trans q⟩, u.free, fun b o e hx => by
      obtain ⟨o', q⟩ := u.there b o e hx
      exact ⟨o', (get' b (big b o e)).trans q⟩, u.tups, u.frzs, u.tbls⟩
  refine I.call' (s' := { s' with heap := h' }) (ch := fp) J.os u2 (fun b o e => ?_) J.bare (fun b hb => ?_)
  . refine (J.hok b o e).stay (fun c v hc q => ?_) (fun _ q => q) fun _ _ q => q
    refine (get' c ?_).trans q
    rintro rfl
    rcases hc with hc | hc
    . rw [<- hc, hC] at e; cases e
    . rw [hC] at hc; cases hc
  . obtain ⟨f0, f1, f2, f3, f4, f5⟩ := hfp b hb
    exact ⟨f3, f1, f4, f5⟩
theorem qhz (hc : X.calm = true) (hi : PI X tg iter wi) (S : jM X scope N' nt fr)
    (hs : ∀ x, foldedSetIterable iter X.env x = pure x := by intro _; rfl) : PE X (.ListComp elt [⟨tg, iter, ifs, 0⟩] scope pos) (qhy X tg ifs elt scope N' wi nt fr) := by
  intro pins s σ H Q I hw
  obtain ⟨cl, hcl, cl1, cl2⟩ := u4 (env := X.env) (scope := scope) (fun y hy hf => I.ok.has y.1 (.inl (S.frees y hy hf)))
  rw [eval_ListComp]
  refine wpAny_comprehension_free (use := none) rfl hs hcl S.kind S.names (thn (hi pins s σ H _ I hw) fun v s1 h1 => thn h1 fun itv s2 h2 => ?_)
  obtain ⟨it, fp, tn, J, H2, e, I2, T, st2, f2, hR⟩ := h2
  subst e
  have hacc : H2 s2.heap.objs.size = none := I2.hok.fresh (Nat.le_refl _)
  refine wpAny_newObj_type (wpAny_newFunctionEnv S.nocell (by intro y hy; simp at hy) (fun h₁ hns₁ hsb₁ => ?_) S.kind)
  dsimp only at hns₁ hsb₁ |-
  have I3 : Inv X pins σ (upd H2 s2.heap.objs.size (.lst [])) { s2 with heap := s2.heap.push { cls := .type "list", dict := none, data := .seq ([] : List Value).toArray } } :=
    I2.lnew (t' := s2.toks) (its := []) .nil (Nat.zero_le _)
  generalize hs3 : ({ s2 with heap := s2.heap.push { cls := .type "list", dict := none, data := .seq ([] : List Value).toArray } } : Shared) = s3 at I3
  have hh3 : s2.heap.push { cls := .type "list", dict := none, data := .seq ([] : List Value).toArray } = s3.heap := by rw [<- hs3]
  rw [hh3] at hns₁ hsb₁
  have old : ∀ b o, s3.heap.get? b = some o -> h₁.get? b = some o := fun b o q => hsb₁.extBut b o (Nat.ne_of_lt (Heap.lt_size q)) (Heap.get?_push_of_some _ q)
  have objs2 : ∀ b ∈ fp, ∃ o, s2.heap.get? b = some o := fun b hb => by
    obtain ⟨o, q, _⟩ := T.obj 0 _ st2 b hb
    exact ⟨o, q⟩
  have keep23 : ∀ b o, s2.heap.get? b = some o -> s3.heap.get? b = some o := fun b o q => by rw [<- hh3]; exact Heap.get?_push_of_some _ q
  have fpne : ∀ b ∈ fp, b ≠ s2.heap.objs.size := fun b hb => by
    obtain ⟨o, q⟩ := objs2 b hb
    exact Nat.ne_of_lt (Heap.lt_size q)
  have f3 : ∀ b ∈ fp, qbV X pins (upd H2 s2.heap.objs.size (.lst [])) b := fun b hb => ⟨by rw [qs (fpne b hb)]; exact (f2 b hb).1, (f2 b hb).2⟩
  have J0 : Inv (zy X scope N' fp cl s3.heap.objs.size s3 (upd H2 s2.heap.objs.size (.lst [])) (X.pn ++ pins)) [] (qC nt fr σ) (upd H2 s2.heap.objs.size (.lst [])) { s3 with heap := h₁, toks := s3.toks } :=
    qaj S I3 f3 (fun b hb => (objs2 b hb).imp fun o q => keep23 b o q) cl1 cl2 ⟨_, hns₁⟩ old
  obtain ⟨g, tt, te, hg, hf, he, W, ⟨m0, w0⟩, turn⟩ := hR s2.heap.objs.size fp cl s3.heap.objs.size s3 (upd H2 s2.heap.objs.size (.lst [])) (X.pn ++ pins) hacc
  have T0 : tn 0 h₁ := T.keep 0 _ _ st2 fun b hb o q => old b o (keep23 b o q)
  have s3e : ∀ tk : Nat, ({ s2 with heap := h₁, toks := tk } : Shared) = { s3 with heap := h₁, toks := tk } := fun tk => by rw [<- hs3]
  have loop : ∀ tk : Nat, codeAny (model X.prog X.w) X.A (.compLoop (.ListComp elt [⟨tg, iter, ifs, 0⟩] scope pos) 0 (.ref it) (.ref s2.heap.objs.size) (compEnvC scope cl s3.heap.objs.size X.env))
      (compPost (model X.prog X.w) X.A X.xe none (EP X pins σ Q) (.ref s2.heap.objs.size) s3.heap.objs.size) { s3 with heap := h₁, toks := tk } := fun tk => by
    have stat : ∀ {H' : Hp}, (∀ b ∈ fp, H' b = none) -> ∀ b ∈ fp, qbV (zy X scope N' fp cl s3.heap.objs.size s3 (upd H2 s2.heap.objs.size (.lst [])) (X.pn ++ pins)) [] H' b := fun {H'} hn b hb => by
      obtain ⟨o, q⟩ := objs2 b hb
      have hbC : b ≠ s3.heap.objs.size := Nat.ne_of_lt (Heap.lt_size (keep23 b o q))
      refine ⟨hn b hb, hbC, fun z => ?_, .inl hb, fun x c hx => (f2 b hb).2.2.2.2.1 x c (cl1 x c hx), fun p hp => ?_⟩
      . rcases List.mem_cons.mp (I2.stkSub b z) with z | z
        . exact (f2 b hb).2.1 z
        . exact (f2 b hb).2.2.1 z
      . have hp' : p ∈ X.pn ++ pins := by
          rcases List.mem_append.mp (show p ∈ (X.pn ++ pins) ++ [] from hp) with z | z
          . exact z
          . cases z
        exact (f2 b hb).2.2.2.2.2 p hp'
    have fr0 : ∀ b ∈ fp, upd H2 s2.heap.objs.size (.lst []) b = none := fun b hb => (f3 b hb).1
    refine wA (fun n s' => ∃ i σ' H', Inv (zy X scope N' fp cl s3.heap.objs.size s3 (upd H2 s2.heap.objs.size (.lst [])) (X.pn ++ pins)) [] σ' H' s' /\ tn i s'.heap /\ (∀ b ∈ fp, H' b = none) /\ W i n σ' H') ?_ m0
      ⟨0, qC nt fr σ, _, J0.tok tk, T0, fr0, w0⟩
    rintro n s4 ⟨i, σ4, H4, J4, st4, fr4, w4⟩
    rcases turn i n σ4 H4 w4 with ⟨stop, qn⟩ | ⟨go, step⟩
    . refine thn (T.done (zy X scope N' fp cl s3.heap.objs.size s3 (upd H2 s2.heap.objs.size (.lst [])) (X.pn ++ pins)) rfl rfl rfl hc i [] s4 σ4 H4 _ J4 (stat fr4) st4 stop) fun r s5 ⟨hr, J5⟩ => ?_
      subst hr
      obtain ⟨m5, n5, _⟩ := J5.loc
      refine ⟨m5, n5, fun h' sb => ⟨.ref s2.heap.objs.size, H4, qcw I3 f3 J5 sb, rfl, qn⟩⟩
    . refine thn (T.item (zy X scope N' fp cl s3.heap.objs.size s3 (upd H2 s2.heap.objs.size (.lst [])) (X.pn ++ pins)) rfl rfl rfl hc i [] s4 σ4 H4 _ J4 (stat fr4) st4 go) fun r s5 ⟨u, hr, h5⟩ => ?_
      subst hr
      refine thn h5 fun _ s6 ⟨x, H6, J6, r6, y6, st6, fr6⟩ => ?_
      have J6' := J6.pinned (stat fr6) (T.obj _ _ st6)
      have again : ∀ {σ7 : St} {H7 : Hp} {s7 : Shared}, Inv (zy X scope N' fp cl s3.heap.objs.size s3 (upd H2 s2.heap.objs.size (.lst [])) (X.pn ++ pins)) ([] ++ qae fp s6.heap) σ7 H7 s7 -> (∃ m', m' < n /\ W (i + 1) m' σ7 H7) ->
          ∃ m, m < n /\ ∃ i σ' H', Inv (zy X scope N' fp cl s3.heap.objs.size s3 (upd H2 s2.heap.objs.size (.lst [])) (X.pn ++ pins)) [] σ' H' s7 /\ tn i s7.heap /\ (∀ b ∈ fp, H' b = none) /\ W i m σ' H' := fun {σ7 H7 s7} I7 hm => by
        obtain ⟨m', hm, w7⟩ := hm
        refine ⟨m', hm, i + 1, σ7, H7, I7.unpinned, T.keep _ _ _ st6 fun b hb o q => (I7.pin (b, o) (List.mem_append_right _ (List.mem_append_right _ (jZ hb q)))).1, fun b hb => ?_, w7⟩
        obtain ⟨o, q, d⟩ := T.obj _ _ st6 b hb
        exact (I7.pin (b, o) (List.mem_append_right _ (List.mem_append_right _ (jZ hb q)))).2.1
      refine thn (hg _ s6 σ4 H6 x u _ J6' r6 (step x H6 y6)) fun _ s7 ⟨σ7, H7, J7, q7⟩ => ?_
      refine thn (hf _ s7 σ7 H7 _ J7 q7) fun ok s8 ⟨H8, J8, q8⟩ => ?_
      cases ok with
      | false =>
        rw [if_neg Bool.false_ne_true] at q8 |-
        exact again J8 q8
      | true =>
        rw [if_pos rfl] at q8 |-
        refine thn (he _ s8 σ7 H8 _ J8 q8) fun z s9 ⟨y, H9, J9, r9, ys, hys, hz, hm⟩ => ?_
        refine thn (wm _ s9 σ7 H9 (.ref s2.heap.objs.size) [y] (.ref s2.heap.objs.size) [z] (fun _ H' => H' = upd H9 s2.heap.objs.size (.lst (ys ++ [y]))) J9 rfl (.cons r9 .nil) ⟨_, ys, y, rfl, rfl, hys, hz, rfl⟩) fun _ s10 ⟨_, H10, J10, _, e10⟩ => ?_
        subst e10
        exact again J10 hm
  have zL : ∀ tk : Nat, codeAny (model X.prog X.w) X.A (.compStart (.ListComp elt [⟨tg, iter, ifs, 0⟩] scope pos) 0 (.ref it) (.ref s2.heap.objs.size) (compEnvC scope cl s3.heap.objs.size X.env))
      (compPost (model X.prog X.w) X.A X.xe none (EP X pins σ Q) (.ref s2.heap.objs.size) s3.heap.objs.size) { s3 with heap := h₁, toks := tk } := fun tk =>
    codeAny_compStart_list (loop tk) (T.self X.A 0 _ _ _ T0 (loop tk))
  have fin := zL (s2.toks + ([] : List (Str × Value)).length)
  rw [<- s3e] at fin
  rw [<- hh3] at fin
  rw [hh3] at fin |-
  exact fin
end
end L2.Sk
namespace L2.Sk
open PySem PySem.Spec PyProof.Rows
structure qfA (K : Fr0) (A : Addr -> Prop) (H : Hp) (ds : List D) (J : It) : Prop where
  go : ∀ H' i d, Ext A H H' -> ds[i]? = some d -> J.go i H'
  yl : ∀ H' i d x H'', Ext A H H' -> ds[i]? = some d -> J.yld i H' x H'' -> jm H' H'' /\ Is K A H'' d x
  stop : ∀ H', Ext A H H' -> J.stop ds.length H'
def CnT (c : Fc) (σ : St) (H : Hp) (a : Addr) : Prop := Cn c σ a /\ (H a).isSome = true
def WpI (K : Fr0) (c : Fc) (σ : St) (H : Hp) (Q : It -> Hp -> Prop) : R (List D × Env) -> Prop
  | .ok (ds, ρ) => ∀ J H', Rep K c ρ σ H' -> qfA K (CnT c σ H') H' ds J -> Gr c.O σ H H' -> Q J H'
  | .exc x ρ => ∀ H', Rep K c ρ σ H' -> Gr c.O σ H H' -> c.E x H'
  | .bad => False
def DI (X : Cx) (c : Fc) (tg it : Expr) (f : M (List D)) : Prop := ∃ w, PI X tg it w /\ ∀ ρ σ H Q, Rep X.K c ρ σ H -> WpI X.K c σ H Q (f ρ) -> w σ H Q
section
variable {X : Cx} {c : Fc} {tg a b e : Expr} {pos : Pos}
def qlS (K : Fr0) (tl : TE) : TI := fun σ H R => tl σ H fun x H1 => (∃ a, x = .ref a /\ (∃ xs, SqL K H1 a xs) /\ R (Itl K a) H1) \/ (∃ a, x = .ref a /\ (∃ xs, SqT K H1 a xs) /\ R (Itt K a) H1)
theorem qjq {tl : TE} (hl : PE X e tl) : PI X tg e (qlS X.K tl) := by
  intro pins s σ H R I h
  refine thn (hl pins s σ H _ I h) fun v s1 ⟨x, H1, I1, r1, q1⟩ => ?_
  rcases q1 with ⟨a, e, ⟨xs, hq⟩, q⟩ | ⟨a, e, ⟨xs, hq⟩, q⟩
  . subst e
    cases r1
    obtain ⟨its, rv, p, hz⟩ := I1.list hq
    refine wpAny_pyIter_list p.isList ?_
    refine ⟨s1.heap.objs.size, [s1.heap.objs.size], _, _, H1, rfl, I1.kept (t' := s1.toks) fun b o e => Heap.get?_push_of_some _ e, qdG a _, ⟨_, Heap.get?_push_size _ rfl, rfl, rfl⟩, fun b hb => ?_, q⟩
    have e : b = s1.heap.objs.size := by simpa using hb
    subst e
    exact I1.fpOk (Nat.le_refl _) (I1.hok.fresh (Nat.le_refl _))
  . subst e
    cases r1
    obtain ⟨its, rv, p, hz⟩ := I1.tuple hq
    refine wpAny_pyIter_tuple (show s1.heap.IsTuple a its.toArray from p) ?_
    refine ⟨s1.heap.objs.size, [s1.heap.objs.size], _, _, H1, rfl, I1.kept (t' := s1.toks) fun b o e => Heap.get?_push_of_some _ e, qc6 a _, ⟨_, Heap.get?_push_size _ rfl, rfl, rfl⟩, fun b hb => ?_, q⟩
    have e : b = s1.heap.objs.size := by simpa using hb
    subst e
    exact I1.fpOk (Nat.le_refl _) (I1.hok.fresh (Nat.le_refl _))
def qiC : D -> Option (List D)
  | .tup ds => some ds
  | .lst ds => some ds
  | .fz ns => some (ns.map .int)
  | _ => none
theorem SqL.inj {K : Fr0} {H : Hp} {a : Addr} {xs ys : List V} (h : H a = some (.lst xs)) (q : SqL K H a ys) (hk : ∀ o, K.lookup a = some o -> False) : ys = xs := by
  rcases q with (q | ⟨o, q⟩) | ⟨o, _, _, q, _⟩
  . rw [h] at q; cases q; rfl
  . rw [h] at q; cases q
  . exact (hk o q).elim
theorem qaE {K : Fr0} {A : Addr -> Prop} {H : Hp} : ∀ ns : List Int, IsL K A H (ns.map .int) (ns.map V.int)
  | [] => rfl
  | n :: ns => ⟨.int n, ns.map V.int, rfl, rfl, qaE ns⟩
theorem qd8 {K : Fr0} {A : Addr -> Prop} {H : Hp} {ds : List D} {xs : List V} {a : Addr} (hs : ∀ H', Ext A H H' -> SqL K H' a xs) (il : IsL K A H ds xs) : qfA K A H ds (Itl K a) where
  go := fun H' i d ex hd => by
    obtain ⟨x, h1, h2⟩ := il.get hd
    exact ⟨xs, x, hs H' ex, h1⟩
  yl := fun H' i d x H'' ex hd y => by
    obtain ⟨e, y⟩ := y
    subst e
    obtain ⟨x', h1, h2⟩ := il.get hd
    have h3 := y xs (hs _ ex)
    rw [h1] at h3
    cases h3
    exact ⟨jm.refl _, Is.ext ex (fun _ h _ => h) h2⟩
  stop := fun H' ex => ⟨xs, hs H' ex, by rw [il.length]; exact Nat.le_refl _⟩
theorem qjr {K : Fr0} {A : Addr -> Prop} {H : Hp} {ds : List D} {xs : List V} {a : Addr} (hs : vq K H a xs) (il : IsL K A H ds xs) : qfA K A H ds (Itt K a) where
  go := fun H' i d ex hd => by
    obtain ⟨x, h1, h2⟩ := il.get hd
    exact ⟨xs, x, (hs.elim (fun h => .inl (ex.tup _ _ h)) .inr : vq K H' a xs).sq, h1⟩
  yl := fun H' i d x H'' ex hd y => by
    obtain ⟨e, y⟩ := y
    subst e
    obtain ⟨x', h1, h2⟩ := il.get hd
    have h3 := y xs (hs.elim (fun h => .inl (ex.tup _ _ h)) .inr : vq K _ a xs).sq
    rw [h1] at h3
    cases h3
    exact ⟨jm.refl _, Is.ext ex (fun _ h _ => h) h2⟩
  stop := fun H' ex => ⟨xs, (hs.elim (fun h => .inl (ex.tup _ _ h)) .inr : vq K H' a xs).sq, by rw [il.length]; exact Nat.le_refl _⟩
def uJ (f : M D) : M (List D) := bnd f fun d => lift (qiC d)
theorem vY {K : Fr0} {σ : St} {H : Hp} {Q : It -> Hp -> Prop} {o : Option (List D)} {ρ : Env} (h : WpI K c σ H Q (lift o ρ)) : ∃ ds, o = some ds /\ ∀ J H', Rep K c ρ σ H' -> qfA K (CnT c σ H') H' ds J -> Gr c.O σ H H' -> Q J H' := by
  cases o with
  | none => exact h.elim
  | some d => exact ⟨d, rfl, h⟩
theorem WpI.gr {K : Fr0} {σ : St} {H H1 : Hp} {Q : It -> Hp -> Prop} : ∀ {r : R (List D × Env)}, WpI K c σ H Q r -> Gr c.O σ H H1 -> WpI K c σ H1 Q r
  | .ok (d, ρ), h, g => fun v H' hr hi hg => h v H' hr hi (g.trans hg)
  | .exc x ρ, h, g => fun H' hr hg => h H' hr (g.trans hg)
  | .bad, h, _ => h
theorem Wp.bndI {K : Fr0} {σ : St} {H : Hp} {Q : It -> Hp -> Prop} {f : M D} {k : D -> M (List D)} {ρ : Env} {Q' : VK} (h : WpI K c σ H Q (Sk.bnd f k ρ)) (hQ : ∀ d ρ' v H', Rep K c ρ' σ H' -> Is K (Cn c σ) H' d v -> Gr c.O σ H H' -> WpI K c σ H' Q (k d ρ') -> Q' v H') : Wp K c σ H Q' (f ρ) := by
  unfold Sk.bnd at h
  cases e : f ρ with
  | ok p => rw [e] at h; exact fun v H' hr hi hg => hQ p.1 p.2 v H' hr hi hg (h.gr hg)
  | exc x ρ' => rw [e] at h; exact h
  | bad => rw [e] at h; exact h
theorem WpL.bndI {K : Fr0} {σ : St} {H : Hp} {Q : It -> Hp -> Prop} {f : M (List D)} {k : List D -> M (List D)} {ρ : Env} {Q' : List V -> Hp -> Prop} (h : WpI K c σ H Q (Sk.bnd f k ρ)) (hQ : ∀ d ρ' v H', Rep K c ρ' σ H' -> IsL K (Cn c σ) H' d v -> Gr c.O σ H H' -> WpI K c σ H' Q (k d ρ') -> Q' v H') : WpL K c σ H Q' (f ρ) := by
  unfold Sk.bnd at h
  cases e : f ρ with
  | ok p => rw [e] at h; exact fun v H' hr hi hg => hQ p.1 p.2 v H' hr hi hg (h.gr hg)
  | exc x ρ' => rw [e] at h; exact h
  | bad => rw [e] at h; exact h
theorem Is.tr {K : Fr0} {A : Addr -> Prop} {H : Hp} {d : D} {v : V} (h : Is K A H d v) : Is K (fun a => A a /\ (H a).isSome = true) H d v := Is.ext Ext.refl (fun a h1 h2 => ⟨h1, h2⟩) h
theorem vN {f : M D} (h : DE X c e f) : DI X c tg e (uJ f) := by
  obtain ⟨t, p, w⟩ := h
  refine ⟨_, qjq p, fun ρ σ H Q r h => w ρ σ H _ r (Wp.bndI h fun d ρ1 v H1 r1 i1 g1 h1 => ?_)⟩
  obtain ⟨ds, e, h2⟩ := vY h1
  have i2 : Is X.K (CnT c σ H1) H1 d v := i1.tr
  cases d <;> simp only [qiC] at e <;> try (cases e; done)
  . cases e
    obtain ⟨a, xs, rfl, ta, il⟩ := i2
    exact .inr ⟨a, rfl, ⟨xs, ta.sq⟩, h2 _ H1 r1 (qjr ta il) .refl⟩
  . cases e
    obtain ⟨a, xs, rfl, hA, ta, il⟩ := i2
    exact .inl ⟨a, rfl, ⟨xs, .inl (.inl ta)⟩, h2 _ H1 r1 (qd8 (fun H' ex => .inl (.inl (ex.at_ _ _ hA ta))) il) .refl⟩
  . cases e
    obtain ⟨a, rfl, ta⟩ := i2
    exact .inl ⟨a, rfl, ⟨_, ta.sq⟩, h2 _ H1 r1 (qd8 (fun H' ex => (ta.elim (fun ⟨o, h⟩ => .inl ⟨o, ex.frz _ _ _ h⟩) .inr : qjh X.K H' a _).sq) (qaE _)) .refl⟩
def wZ (lo : Int) (n : Nat) : List D := (List.range n).map fun i => .int (lo + (i : Nat))
theorem qjs {K : Fr0} {A : Addr -> Prop} {H : Hp} (lo : Int) (n : Nat) : qfA K A H (wZ lo n) (Itr lo n) where
  go := fun H' i d ex hd => by
    have : i < (wZ lo n).length := (List.getElem?_eq_some_iff.mp hd).1
    show i < n
    simpa [wZ] using this
  yl := fun H' i d x H'' ex hd y => by
    obtain ⟨e, y⟩ := y
    subst e
    subst y
    refine ⟨jm.refl _, ?_⟩
    unfold wZ at hd
    rw [List.getElem?_map] at hd
    cases e2 : (List.range n)[i]? with
    | none => rw [e2] at hd; cases hd
    | some j =>
      rw [e2] at hd
      have hj : j = i := by
        have := (List.getElem?_eq_some_iff.mp e2).2
        simpa using this.symm
      subst hj
      cases hd
      rfl
  stop := fun H' ex => by show n <= (wZ lo n).length; simp [wZ]
def qgw : List D -> Option (List D)
  | [.int j] => if decide (-(2 ^ 62) <= j) && decide (j < 2 ^ 62) then some (wZ 0 j.toNat) else none
  | _ => none
def zf (f : M (List D)) : M (List D) := bnd f fun ds => lift (qgw ds)
theorem zN {f : M (List D)} {p : Pos} (hg : Gl X "range") (hm : X.mg "range" = none) (ha : DA X c [a] f) (hs : starEach [a] X.env = [(false, eval a X.env)] := by rfl) : DI X c tg (.Call (.Name "range" p) [a] [] pos) (zf f) := by
  obtain ⟨t, p, w⟩ := ha
  refine ⟨_, qdH hg hm p hs, fun ρ σ H Q r h => w ρ σ H _ r (WpL.bndI h fun ds ρ1 vs H1 r1 i1 g1 h1 => ?_)⟩
  obtain ⟨es, e, h2⟩ := vY h1
  unfold qgw at e
  split at e
  . rename_i j
    obtain ⟨v, rfl, e2⟩ := IsL.inv1 i1
    cases e2
    by_cases hb : (decide (-(2 ^ 62) <= j) && decide (j < 2 ^ 62)) = true
    . rw [if_pos hb] at e
      cases e
      rw [Bool.and_eq_true] at hb
      exact ⟨j, rfl, of_decide_eq_true hb.1, of_decide_eq_true hb.2, h2 _ H1 r1 (qjs 0 _) .refl⟩
    . rw [if_neg hb] at e
      cases e
  . cases e
def jU (g : D -> Env -> Option Env) (b : MS) : List D -> MS
  | [], ρ => .ok (.nx ρ)
  | d :: ds, ρ => match g d ρ with
    | none => .bad
    | some ρ1 => match b ρ1 with
      | .ok (.nx ρ2) => jU g b ds ρ2
      | .ok (.ct ρ2) => jU g b ds ρ2
      | .ok (.bk ρ2) => .ok (.nx ρ2)
      | .ok (.rt r ρ2) => .ok (.rt r ρ2)
      | .exc x ρ2 => .exc x ρ2
      | .bad => .bad
def u5 (f : M (List D)) (g : D -> Env -> Option Env) (b : MS) : MS := sbnd f fun ds => jU g b ds
theorem WpI.sbnd {K : Fr0} {σ : St} {H : Hp} {D' : qdC} {f : M (List D)} {k : List D -> MS} {ρ : Env} {Q' : It -> Hp -> Prop} (h : WpS K c σ H D' (Sk.sbnd f k ρ))
    (hQ : ∀ ds ρ' J H', Rep K c ρ' σ H' -> qfA K (CnT c σ H') H' ds J -> Gr c.O σ H H' -> WpS K c σ H' D' (k ds ρ') -> Q' J H') : WpI K c σ H Q' (f ρ) := by
  unfold Sk.sbnd at h
  cases e : f ρ with
  | ok p => rw [e] at h; exact fun v H' hr hi hg => hQ p.1 p.2 v H' hr hi hg (h.gr hg.s)
  | exc x ρ' => rw [e] at h; exact fun H' hr hg => h σ H' hr hg.s
  | bad => rw [e] at h; exact h
theorem GrS.extT {σ σ' : St} {H H' : Hp} (g : GrS c.O σ H σ' H') : Ext (CnT c σ H) H H' := ⟨g.ext.tup, g.ext.frz, fun b o hb h => g.ext.at_ b o hb.1.2 h⟩
theorem GrS.cnT {σ σ' : St} {H H' : Hp} (g : GrS c.O σ H σ' H') {a : Addr} (h : CnT c σ H a) : Cn c σ' a := ⟨h.1.1, g.cl a h.1.2 h.2⟩
theorem vy {α : Type} {l : List α} {i : Nat} (h : i < l.length) : l.drop i = l[i] :: l.drop (i + 1) := List.drop_eq_getElem_cons h
theorem uc {it : Expr} {body : List Stmt} {f : M (List D)} {g : D -> Env -> Option Env} {b : MS} (hp : PassesOwn (model X.prog X.w) X.A X.env X.xe) (hc : X.calm = true) (hi : DI X c tg it f) (hg : DG X c tg g) (hb : DSs X c body b)
    (hs : ∀ x, foldedSetIterable it X.env x = pure x := by intro _; rfl) : DS X c (.For tg it body [] pos) (u5 f g b) := by
  obtain ⟨wi, pi, wI⟩ := hi
  obtain ⟨tg', pg, wg⟩ := hg
  obtain ⟨tb, pb, wb⟩ := hb
  refine ⟨_, qiX hp hc pi pg pb hs, fun ρ σ H D' r h => wI ρ σ H _ r (WpI.sbnd h fun ds ρ1 J H1 r1 iok g1 h1 => ?_)⟩
  refine ⟨fun i m σ' H' => m = ds.length - i /\ i <= ds.length /\ ∃ ρ', Rep X.K c ρ' σ' H' /\ GrS c.O σ H1 σ' H' /\ WpS X.K c σ' H' D' (jU g b (ds.drop i) ρ'), ⟨ds.length, by simp, Nat.zero_le _, ρ1, r1, .refl, by simpa using h1⟩, ?_⟩
  rintro i m σ' H' ⟨rfl, hi, ρ', r', gs, w⟩
  by_cases hlt : i < ds.length
  . refine .inr ⟨iok.go H' i ds[i] gs.extT (by simp [hlt]), fun σ2 H2 => ∃ ρ2, Rep X.K c ρ2 σ2 H2 /\ GrS c.O σ H1 σ2 H2 /\ WpS X.K c σ2 H2 D' (jU g b (ds.drop (i + 1)) ρ2), fun σ2 H2 n => ⟨ds.length - (i + 1), by omega, rfl, hlt, n⟩, fun x H'' y => ?_⟩
    obtain ⟨sm, ix⟩ := iok.yl H' i ds[i] x H'' gs.extT (by simp [hlt]) y
    rw [vy hlt] at w
    unfold jU at w
    have gs2 : GrS c.O σ H1 σ' H'' := gs.trans (Gr.of_same sm).s
    have ix2 : Is X.K (Cn c σ') H'' ds[i] x := Is.ext Ext.refl (fun a ha _ => gs2.cnT ha) ix
    cases e1 : g ds[i] ρ' with
    | none => simp only [e1] at w; exact w.elim
    | some ρ2 =>
      simp only [e1] at w
      refine wg ρ' σ' H'' ds[i] x ρ2 _ (r'.same sm) ix2 e1 fun σ2 r2 g2 _ => wb ρ2 σ2 H'' _ r2 ?_
      have w2 := w.gr ((Gr.of_same sm).s.trans g2)
      have gs3 : GrS c.O σ H1 σ2 H'' := gs2.trans g2
      cases e2 : b ρ2 with
      | ok fl =>
        cases fl with
        | nx ρ3 => simp only [e2] at w2; exact fun σ3 H3 r3 g3 => ⟨ρ3, r3, gs3.trans g3, w2.gr g3⟩
        | ct ρ3 => simp only [e2] at w2; exact fun σ3 H3 r3 g3 => ⟨ρ3, r3, gs3.trans g3, w2.gr g3⟩
        | bk ρ3 => simp only [e2] at w2; exact w2
        | rt d ρ3 => simp only [e2] at w2; exact w2
      | exc x ρ3 => simp only [e2] at w2; exact w2
      | bad => simp only [e2] at w2; exact w2
  . have hie : i = ds.length := by omega
    subst hie
    rw [List.drop_of_length_le (Nat.le_refl _)] at w
    exact .inl ⟨iok.stop H' gs.extT, w σ' H' r' .refl⟩
end
def cin (B0 : Addr -> Prop) (H1 : Hp) (O' : List Nat) (Io' : Addr -> Prop) (acc : Addr) (S' : Nat -> Option (Option V)) : Fc where
  O := O'
  P := O'
  B := fun a => B0 a /\ a ≠ acc
  H0 := upd H1 acc (.lst [])
  Io := fun a => Io' a \/ a = acc
  E := fun _ _ => False
  S := S'
def zO (g : D -> Env -> Option Env) (t : M Bool) (e : M D) : List D -> List D -> Env -> R (List D × Env)
  | [], acc, ρ => .ok (acc, ρ)
  | d :: ds, acc, ρ => match g d ρ with
    | none => .bad
    | some ρ1 => match t ρ1 with
      | .ok (true, ρ2) => match e ρ2 with
        | .ok (y, ρ3) => if qG (acc.length + 1) then zO g t e ds (acc ++ [y]) ρ3 else .bad
        | _ => .bad
      | .ok (false, ρ2) => zO g t e ds acc ρ2
      | _ => .bad
def jn (nt : Nat) (fr : List Nat) (ρ : Env) : Env := List.replicate nt none ++ fr.map fun j => (ρ[j]?).join
def qiD (fo : Option (Nat × Nat)) (ρe ρ : Env) : Env := match fo with
  | none => ρ
  | some (i, j) => ρ.set j (ρe[i]?).join
def qV (nt : Nat) (fr : List Nat) (fo : Option (Nat × Nat)) (f : M (List D)) (g : D -> Env -> Option Env) (t : M Bool) (e : M D) : M D := bnd f fun ds ρ => match zO g t e ds [] (jn nt fr ρ) with
  | .ok (ys, ρe) => .ok (.lst ys, qiD fo ρe ρ)
  | _ => .bad
def DF (X : Cx) (c : Fc) (ifs : List Expr) (f : M Bool) : Prop := ∃ t, PF X ifs t /\ ∀ ρ σ H Q, Rep X.K c ρ σ H -> WpB X.K c σ H Q (f ρ) -> t σ H Q
def foO (fo : Option (Nat × Nat)) : List Nat := match fo with
  | none => []
  | some (i, _) => [i]
section
variable {X : Cx} {c : Fc} {tg a b e : Expr} {pos : Pos}
theorem u6 : DF X c [] (ret true) := ⟨_, qjp, fun ρ σ H Q r h => h H r .refl⟩
theorem WpI.bnd {K : Fr0} {σ : St} {H : Hp} {Q : VK} {f : M (List D)} {k : List D -> M D} {ρ : Env} {Q' : It -> Hp -> Prop} (h : Wp K c σ H Q (Sk.bnd f k ρ))
    (hQ : ∀ ds ρ' J H', Rep K c ρ' σ H' -> qfA K (CnT c σ H') H' ds J -> Gr c.O σ H H' -> Wp K c σ H' Q (k ds ρ') -> Q' J H') : WpI K c σ H Q' (f ρ) := by
  unfold Sk.bnd at h
  cases e : f ρ with
  | ok p => rw [e] at h; exact fun v H' hr hi hg => hQ p.1 p.2 v H' hr hi hg (h.gr hg)
  | exc x ρ' => rw [e] at h; exact h
  | bad => rw [e] at h; exact h
theorem Rep.grow {K : Fr0} {B0 : Addr -> Prop} {H1 : Hp} {O' : List Nat} {Io' : Addr -> Prop} {acc : Addr} {S' : Nat -> Option (Option V)} {ρ : Env} {σ : St} {H : Hp} {xs ys : List V} (r : Rep K (cin B0 H1 O' Io' acc S') ρ σ H) (h : H acc = some (.lst xs)) (ho : ∀ j ∈ O', σ[j]? ≠ some (some (.ref acc))) :
    Rep K (cin B0 H1 O' Io' acc S') ρ σ (upd H acc (.lst ys)) := by
  have ext : Ext (fun a => a ≠ acc) H (upd H acc (.lst ys)) := ⟨fun b zs hb => by rw [qs (uV hb h (by intro z; cases z))]; exact hb, fun b o u hb => by rw [qs (uV hb h (by intro z; cases z))]; exact hb, fun b o hb hq => by rw [qs hb]; exact hq⟩
  have cnext : Ext (Cn (cin B0 H1 O' Io' acc S') σ) H (upd H acc (.lst ys)) := ⟨ext.tup, ext.frz, fun b o hb hq => ext.at_ b o hb.1.2 hq⟩
  refine ⟨r.len, fun i d hd => ?_, fun j hj v hv => ?_, r.inj, r.b0, fun b o hb hio => ?_, fun b hb => ?_, r.pO, r.ps⟩
  . obtain ⟨v, h1, h2⟩ := r.val i d hd
    refine ⟨v, h1, ?_⟩
    rcases h2 with ⟨hi, ds, a, zs, h3, h5, h6, h7⟩ | ⟨hi, h3⟩
    . subst h5
      have ne : a ≠ acc := fun e => ho i hi (by rw [h1, e])
      exact .inl ⟨hi, ds, a, zs, h3, rfl, by rw [qs ne]; exact h6, IsL.ext cnext (fun _ h _ => h) h7⟩
    . exact .inr ⟨hi, Is.ext cnext (fun _ h _ => h) h3⟩
  . obtain ⟨a, zs, h1, h2, h3⟩ := r.own j hj v hv
    subst h1
    have ne : a ≠ acc := fun e => ho j hj (by rw [hv, e])
    exact ⟨a, zs, rfl, by rw [qs ne]; exact h2, h3⟩
  . have ne : b ≠ acc := fun e => hio (.inr e)
    rw [qs ne]
    exact r.kp b o hb hio
  . by_cases e : b = acc
    . subst e; rw [qv] at hb; cases hb
    . rw [qs e] at hb; exact r.dm b hb
theorem wB {α : Type} {o : Option (Option α)} {a : α} (h : o.join = some a) : o = some (some a) := by
  cases o with
  | none => cases h
  | some x => have : x = some a := h; rw [this]
def qhA (c : Fc) (nt : Nat) (fr : List Nat) (fo : Option (Nat × Nat)) : Prop := match fo with
  | none => ∀ j ∈ fr, j ∉ c.O
  | some (i, j) => j ∈ c.O /\ nt <= i /\ fr[i - nt]? = some j /\ ∀ k j', fr[k]? = some j' -> nt + k ≠ i -> j' ∉ c.O
def qbd (σ : St) (fo : Option (Nat × Nat)) (a : Addr) : Prop := match fo with
  | none => False
  | some (_, j) => σ[j]? = some (some (.ref a))
theorem vz {nt : Nat} {fr : List Nat} {σ : St} {k j : Nat} (h : fr[k]? = some j) : (qC nt fr σ)[nt + k]? = some (σ[j]?).join := by
  unfold qC
  rw [List.getElem?_append_right (by simp), List.length_replicate, List.getElem?_map, show nt + k - nt = k by omega, h]
  rfl
theorem qde {nt : Nat} {fr : List Nat} {ρ : Env} {i : Nat} {d : D} (hd : (jn nt fr ρ)[i]? = some (some d)) : ∃ k j, i = nt + k /\ fr[k]? = some j /\ ρ[j]? = some (some d) := by
  have hi : nt <= i := by
    apply Nat.le_of_not_lt
    intro hlt
    unfold jn at hd
    rw [List.getElem?_append_left (by simpa using hlt), List.getElem?_replicate] at hd
    split at hd <;> cases hd
  unfold jn at hd
  rw [List.getElem?_append_right (by simpa using hi), List.length_replicate, List.getElem?_map] at hd
  cases ej : fr[i - nt]? with
  | none => rw [ej] at hd; cases hd
  | some j =>
    rw [ej] at hd
    exact ⟨i - nt, j, by omega, ej, wB (by simpa using hd)⟩
theorem j4 {nt : Nat} {fr : List Nat} {σ : St} {i : Nat} {d : V} (hd : (qC nt fr σ)[i]? = some (some d)) : ∃ k j, i = nt + k /\ fr[k]? = some j /\ σ[j]? = some (some d) := by
  have hi : nt <= i := by
    apply Nat.le_of_not_lt
    intro hlt
    unfold qC at hd
    rw [List.getElem?_append_left (by simpa using hlt), List.getElem?_replicate] at hd
    split at hd <;> cases hd
  unfold qC at hd
  rw [List.getElem?_append_right (by simpa using hi), List.length_replicate, List.getElem?_map] at hd
  cases ej : fr[i - nt]? with
  | none => rw [ej] at hd; cases hd
  | some j =>
    rw [ej] at hd
    exact ⟨i - nt, j, by omega, ej, wB (by simpa using hd)⟩
theorem Rep.entry {K : Fr0} {nt : Nat} {fr : List Nat} {fo : Option (Nat × Nat)} {acc : Addr} {ρ : Env} {σ : St} {H : Hp} (r : Rep K c ρ σ H) (hn : H acc = none) (hfo : qhA c nt fr fo) :
    Rep K (cin (Cn c σ) H (foO fo) (qbd σ fo) acc fun j => (qC nt fr σ)[j]?) (jn nt fr ρ) (qC nt fr σ) (upd H acc (.lst [])) := by
  have sm : jm H (upd H acc (.lst [])) := qy hn _
  have ownI : ∀ i ∈ foO fo, ∀ v, (qC nt fr σ)[i]? = some (some v) -> ∃ j, fo = some (i, j) /\ j ∈ c.O /\ σ[j]? = some (some v) := fun i hi v hv => by
    cases fo with
    | none => cases hi
    | some p =>
      obtain ⟨i', j'⟩ := p
      have e : i = i' := by simpa [foO] using hi
      subst e
      obtain ⟨h1, h2, h3, h4⟩ := hfo
      obtain ⟨k, j, e1, e2, e3⟩ := j4 hv
      have hk : k = i - nt := by omega
      subst hk
      rw [h3] at e2
      cases e2
      exact ⟨j', rfl, h1, e3⟩
  have clI : ∀ a, Cl c.O σ a -> Cl (foO fo) (qC nt fr σ) a := fun a ha i hi e => by
    obtain ⟨j, _, hj, e2⟩ := ownI i hi _ e
    exact ha j hj e2
  refine ⟨by simp [jn, qC], fun i d hd => ?_, fun i hi v hv => ?_, fun i j a hi hj h1 h2 => ?_, fun a ha => ?_, fun b o hb hio => ?_, fun b hb => ?_, fun _ h => h, fun _ _ => rfl⟩
  . obtain ⟨k, j, e1, e2, e3⟩ := qde hd
    subst e1
    by_cases hO : nt + k ∈ foO fo
    . obtain ⟨v, hv⟩ : ∃ v, σ[j]? = some (some v) := by
        obtain ⟨v, h1, _⟩ := r.val j d e3
        exact ⟨v, h1⟩
      have hc : (qC nt fr σ)[nt + k]? = some (some v) := by rw [vz e2, hv]; rfl
      obtain ⟨j', f1, f2, f3⟩ := ownI _ hO v hc
      subst f1
      obtain ⟨g1, g2, g3, g4⟩ := hfo
      rw [show nt + k - nt = k by omega, e2] at g3
      cases g3
      obtain ⟨ds, a, xs, h1, h3, h4, h5⟩ := r.getO g1 e3
      rw [hv] at h3
      cases h3
      exact ⟨.ref a, hc, .inl ⟨hO, ds, a, xs, h1, rfl, sm _ _ h4, IsL.ext (Ext.of_same sm) (fun b hb hs => ⟨⟨hb, fun e => by subst e; rw [hn] at hs; cases hs⟩, clI b hb.2⟩) h5⟩⟩
    . have hj : j ∉ c.O := by
        cases fo with
        | none => exact hfo j (List.mem_of_getElem? e2)
        | some p =>
          obtain ⟨i', j'⟩ := p
          exact hfo.2.2.2 k j e2 (fun e => hO (by simp [foO, e]))
      obtain ⟨v, h1, h2⟩ := r.get hj e3
      refine ⟨v, by rw [vz e2, h1]; rfl, .inr ⟨hO, ?_⟩⟩
      refine Is.ext (Ext.of_same sm) (fun a ha hs => ⟨⟨ha, fun e => ?_⟩, clI a ha.2⟩) h2
      subst e; rw [hn] at hs; cases hs
  . obtain ⟨j, f1, f2, f3⟩ := ownI i hi v hv
    obtain ⟨a, xs, h1, h2, h3⟩ := r.own j f2 v f3
    subst h1 f1
    exact ⟨a, xs, rfl, sm _ _ h2, .inr ⟨hi, .inl f3⟩⟩
  . cases fo with
    | none => cases hi
    | some p =>
      obtain ⟨i', j'⟩ := p
      have e : i = i' := by simpa [foO, cin] using hi
      have e2 : j = i' := by simpa [foO, cin] using hj
      rw [e, e2]
  . have ha' : upd H acc (.lst []) a = none := ha
    by_cases e : a = acc
    . subst e; rw [qv] at ha'; cases ha'
    . rw [qs e] at ha'; exact ⟨r.new ha', e⟩
  . exact hb
  . exact hb
theorem Rep.leave {K : Fr0} {nt : Nat} {fr : List Nat} {fo : Option (Nat × Nat)} {acc : Addr} {ρ ρe : Env} {σ σe : St} {H H' : Hp} (r : Rep K c ρ σ H) (hn : H acc = none) (hfo : qhA c nt fr fo) (hf : ∀ i j, fo = some (i, j) -> σe[i]? = (qC nt fr σ)[i]?)
    (q : Rep K (cin (Cn c σ) H (foO fo) (qbd σ fo) acc fun j => (qC nt fr σ)[j]?) ρe σe H') : Rep K c (qiD fo ρe ρ) σ H' /\ Gr c.O σ H H' := by
  have kp : ∀ b o, H b = some o -> ¬ qbd σ fo b -> H' b = some o := fun b o hb hio => q.kp b o (by show upd H acc (.lst []) b = some o; rw [qs (qN hb hn)]; exact hb) fun z => z.elim hio fun e => absurd e (qN hb hn)
  have clean : ∀ b, Cl c.O σ b -> ¬ qbd σ fo b := fun b hb hio => by
    cases fo with
    | none => exact hio
    | some p => exact hb p.2 hfo.1 hio
  have dom : ∀ b, H' b = none -> H b = none := fun b hb => by
    have := q.dm b hb
    by_cases e : b = acc
    . subst e; exact hn
    . have this : upd H acc (.lst []) b = none := this
      rw [qs e] at this; exact this
  have notT : ∀ b xs, H b = some (.tup xs) -> ¬ qbd σ fo b := fun b xs hb hio => by
    cases fo with
    | none => exact hio
    | some p =>
      obtain ⟨a, ys, e1, e2, _⟩ := r.own p.2 hfo.1 _ hio
      cases e1; rw [hb] at e2; cases e2
  have notF : ∀ b o u, H b = some (.frz o u) -> ¬ qbd σ fo b := fun b o u hb hio => by
    cases fo with
    | none => exact hio
    | some p =>
      obtain ⟨a, ys, e1, e2, _⟩ := r.own p.2 hfo.1 _ hio
      cases e1; rw [hb] at e2; cases e2
  have gr : Gr c.O σ H H' := ⟨⟨fun b xs hb => kp b _ hb (notT b xs hb), fun b o u hb => kp b _ hb (notF b o u hb), fun b o hc hb => kp b o hb (clean b hc)⟩, dom⟩
  refine ⟨⟨?_, fun k d hd => ?_, fun j hj v hv => ?_, r.inj, r.b0, fun b o hb hio => ?_, fun b hb => r.dm b (dom b hb), r.pO, r.ps⟩, gr⟩
  . cases fo with
    | none => exact r.len
    | some p => show (ρ.set _ _).length = _; rw [List.length_set]; exact r.len
  . -- an old slot, or the one that came qiD
    have oldSlot : ρ[k]? = some (some d) -> (∀ i, fo ≠ some (i, k)) -> ∃ v, σ[k]? = some (some v) /\ ((k ∈ c.O /\ ∃ ds a xs, d = .lst ds /\ v = .ref a /\ H' a = some (.lst xs) /\ IsL K (Cn c σ) H' ds xs) \/ (k ∉ c.O /\ Is K (Cn c σ) H' d v)) := fun hk hne => by
      obtain ⟨v, h1, h2⟩ := r.val k d hk
      refine ⟨v, h1, ?_⟩
      rcases h2 with ⟨hi, ds, a, xs, h3, h5, h6, h7⟩ | ⟨hi, h3⟩
      . subst h5
        refine .inl ⟨hi, ds, a, xs, h3, rfl, kp a _ h6 (fun hio => ?_), gr.isL h7⟩
        cases fo with
        | none => exact hio
        | some p =>
          obtain ⟨i', j'⟩ := p
          have e := r.inj k j' a hi hfo.1 h1 hio
          exact hne i' (by rw [e])
      . exact .inr ⟨hi, gr.is h3⟩
    cases fo with
    | none => exact oldSlot hd (fun i e => by cases e)
    | some p =>
      obtain ⟨i', j'⟩ := p
      have hd' : (ρ.set j' (ρe[i']?).join)[k]? = some (some d) := hd
      by_cases e : k = j'
      . subst e
        have hl : k < ρ.length := by
          have := (List.getElem?_eq_some_iff.mp hd').1
          rwa [List.length_set] at this
        rw [List.getElem?_set_self hl] at hd'
        have he : ρe[i']? = some (some d) := wB (Option.some.inj hd')
        obtain ⟨ds, a, xs, h1, h3, h4, h5⟩ := q.getO (show i' ∈ foO (some (i', k)) by simp [foO]) he
        have h3' := hf i' k rfl
        rw [h3] at h3'
        obtain ⟨k2, j2, e1, e2, e3⟩ := j4 h3'.symm
        have hk2 : k2 = i' - nt := by omega
        subst hk2
        rw [hfo.2.2.1] at e2
        cases e2
        exact ⟨.ref a, e3, .inl ⟨hfo.1, ds, a, xs, h1, rfl, h4, IsL.ext Ext.refl (fun b hb _ => hb.1.1) h5⟩⟩
      . rw [zn e] at hd'
        exact oldSlot hd' (fun i e2 => e (by cases e2; rfl))
  . obtain ⟨a, xs, h1, h2, h3⟩ := r.own j hj v hv
    subst h1
    by_cases hio : qbd σ fo a
    . cases fo with
      | none => exact hio.elim
      | some p =>
        obtain ⟨i', j'⟩ := p
        have hc : (qC nt fr σ)[i']? = some (some (.ref a)) := by
          have := vz (σ := σ) (nt := nt) hfo.2.2.1
          rw [show nt + (i' - nt) = i' by have := hfo.2.1; omega] at this
          rw [this]
          have hio' : σ[j']? = some (some (.ref a)) := hio
          rw [hio']; rfl
        have h3' := hf i' j' rfl
        rw [hc] at h3'
        obtain ⟨a', ys, e1, e2, _⟩ := q.own i' (by simp [foO, cin]) _ h3'
        cases e1
        exact ⟨a, ys, rfl, e2, h3⟩
    . exact ⟨a, xs, rfl, kp a _ h2 hio, h3⟩
  . by_cases hio2 : qbd σ fo b
    . cases fo with
      | none => exact hio2.elim
      | some p =>
        obtain ⟨a, ys, e1, e2, e3⟩ := r.own p.2 hfo.1 _ hio2
        cases e1
        rcases e3 with e3 | e3
        . rw [hb] at e3; cases e3
        . exact absurd e3.2 hio
    . exact kp b o (r.kp b o hb hio) hio2
theorem uj {it elt : Expr} {ifs : List Expr} {scope : Scope} {N' : List Str} {nt : Nat} {fr : List Nat} {fo : Option (Nat × Nat)} {f : M (List D)} {g : D -> Env -> Option Env} {t : M Bool} {k : M D} (hc : X.calm = true) (hi : DI X c tg it f) (S : jM X scope N' nt fr)
    (hfo : qhA c nt fr fo)
    (hb : ∀ fp cl C s₀ H₀ pn B0 H1 Io' acc S', DG (zy X scope N' fp cl C s₀ H₀ pn) (cin B0 H1 (foO fo) Io' acc S') tg g /\ DF (zy X scope N' fp cl C s₀ H₀ pn) (cin B0 H1 (foO fo) Io' acc S') ifs t /\ DE (zy X scope N' fp cl C s₀ H₀ pn) (cin B0 H1 (foO fo) Io' acc S') elt k)
    (hs : ∀ x, foldedSetIterable it X.env x = pure x := by intro _; rfl) : DE X c (.ListComp elt [⟨tg, it, ifs, 0⟩] scope pos) (qV nt fr fo f g t k) := by
  obtain ⟨wi, pi, wI⟩ := hi
  refine ⟨_, qhz hc pi S hs, fun ρ σ H Q r h => wI ρ σ H _ r (WpI.bnd h fun ds ρ1 J H1 r1 iok g1 h1 => ?_)⟩
  intro acc fp cl C s₀ H₀ pn hn
  obtain ⟨⟨tg', pg, wg⟩, ⟨tt, pt, wt⟩, ⟨te, pe, we⟩⟩ := hb fp cl C s₀ H₀ pn (Cn c σ) H1 (qbd σ fo) acc fun j => (qC nt fr σ)[j]?
  refine ⟨tg', tt, te, pg, pt, pe, ?_⟩
  cases ew : zO g t k ds [] (jn nt fr ρ1) with
  | exc x ρ' => rw [ew] at h1; exact h1.elim
  | bad => rw [ew] at h1; exact h1.elim
  | ok p =>
    rw [ew] at h1
    obtain ⟨ys, ρe⟩ := p
    have h1 : ∀ v H', Rep X.K c (qiD fo ρe ρ1) σ H' -> Is X.K (Cn c σ) H' (.lst ys) v -> Gr c.O σ H1 H' -> Q v H' := h1
    have accO : ∀ j ∈ foO fo, (qC nt fr σ)[j]? ≠ some (some (.ref acc)) := fun j hj e => by
      have r0 := r1.entry (acc := acc) hn hfo
      cases fo with
      | none => cases hj
      | some p =>
        obtain ⟨i', j'⟩ := p
        have e2 : j = i' := by simpa [foO] using hj
        subst e2
        obtain ⟨k2, j2, e1, e2, e3⟩ := j4 e
        have hk2 : k2 = j - nt := by omega
        subst hk2
        rw [hfo.2.2.1] at e2
        cases e2
        obtain ⟨a, us, e4, e5, _⟩ := r1.own j' hfo.1 _ e3
        cases e4; rw [hn] at e5; cases e5
    refine ⟨fun i m σ' H' => m = ds.length - i /\ i <= ds.length /\ ∃ ρ' zs xs, Rep X.K (cin (Cn c σ) H1 (foO fo) (qbd σ fo) acc fun j => (qC nt fr σ)[j]?) ρ' σ' H' /\ (∀ j ∈ foO fo, σ'[j]? = (qC nt fr σ)[j]?) /\ H' acc = some (.lst xs) /\ IsL X.K (Cn (cin (Cn c σ) H1 (foO fo) (qbd σ fo) acc fun j => (qC nt fr σ)[j]?) σ') H' zs xs /\ zO g t k (ds.drop i) zs ρ' = .ok (ys, ρe),
      ⟨ds.length, by simp, Nat.zero_le _, jn nt fr ρ1, [], [], r1.entry hn hfo, fun _ _ => rfl, qv, rfl, by simpa using ew⟩, ?_⟩
    rintro i m σ' H' ⟨rfl, hi, ρ', zs, xs, r', so, ha, iz, w⟩
    obtain ⟨_, gr⟩ := r1.leave hn hfo (fun i j e => so i (by rw [e]; simp [foO])) r'
    have ex : Ext (CnT c σ H1) H1 H' := ⟨gr.ext.tup, gr.ext.frz, fun b o hb hq => gr.ext.at_ b o hb.1.2 hq⟩
    have accC : ∀ τ : St, (∀ j ∈ foO fo, τ[j]? = (qC nt fr σ)[j]?) -> Cl (foO fo) τ acc := fun τ hτ j hj e => accO j hj (by rw [<- hτ j hj]; exact e)
    by_cases hlt : i < ds.length
    . refine .inr ⟨iok.go H' i ds[i] ex (by simp [hlt]), fun x H'' y => ?_⟩
      obtain ⟨sm, ix⟩ := iok.yl H' i ds[i] x H'' ex (by simp [hlt]) y
      rw [vy hlt] at w
      unfold zO at w
      have ix2 : Is X.K (Cn (cin (Cn c σ) H1 (foO fo) (qbd σ fo) acc fun j => (qC nt fr σ)[j]?) σ') H'' ds[i] x := Is.ext Ext.refl (fun a ha _ => ⟨⟨ha.1, fun e => by
        have := ha.2
        rw [e, hn] at this; cases this⟩, fun j hj e => by
          rw [so j hj] at e
          cases fo with
          | none => cases hj
          | some p =>
            obtain ⟨i', j'⟩ := p
            have e2 : j = i' := by simpa [foO, cin] using hj
            subst e2
            obtain ⟨k2, j2, e1, e2, e3⟩ := j4 e
            have hk2 : k2 = j - nt := by omega
            subst hk2
            rw [hfo.2.2.1] at e2
            cases e2
            exact ha.1.2 j' hfo.1 e3⟩) ix
      cases e1 : g ds[i] ρ' with
      | none => simp only [e1] at w; cases w
      | some ρ2 =>
        simp only [e1] at w
        refine wg ρ' σ' H'' ds[i] x ρ2 _ (r'.same sm) ix2 e1 fun σ2 r2 g2 o2 => ?_
        have so2 : ∀ j ∈ foO fo, σ2[j]? = (qC nt fr σ)[j]? := fun j hj => (o2 j hj).trans (so j hj)
        have ha2 : H'' acc = some (.lst xs) := sm _ _ ha
        have iz2 := g2.isL (IsL.ext (Ext.of_same sm) (fun _ h _ => h) iz)
        cases e2 : t ρ2 with
        | exc x ρ3 => simp only [e2] at w; cases w
        | bad => simp only [e2] at w; cases w
        | ok p2 =>
          obtain ⟨bb, ρ3⟩ := p2
          refine wt ρ2 σ2 H'' _ r2 ?_
          rw [e2]
          intro H3 r3 g3
          have ha3 : H3 acc = some (.lst xs) := g3.ext.at_ _ _ (accC σ2 so2) ha2
          have iz3 := g3.isL iz2
          cases bb with
          | false =>
            rw [if_neg Bool.false_ne_true]
            simp only [e2] at w
            exact ⟨ds.length - (i + 1), by omega, rfl, hlt, ρ3, zs, xs, r3, so2, ha3, iz3, w⟩
          | true =>
            rw [if_pos rfl]
            simp only [e2] at w
            cases e3 : k ρ3 with
            | exc x ρ4 => simp only [e3] at w; cases w
            | bad => simp only [e3] at w; cases w
            | ok p3 =>
              obtain ⟨d4, ρ4⟩ := p3
              simp only [e3] at w
              refine we ρ3 σ2 H3 _ r3 ?_
              rw [e3]
              intro y4 H4 r4 i4 g4
              have ha4 : H4 acc = some (.lst xs) := g4.ext.at_ _ _ (accC σ2 so2) ha3
              have hsz : qG (zs.length + 1) = true := by
                cases e5 : qG (zs.length + 1) with
                | true => rfl
                | false => rw [e5] at w; simp at w
              rw [if_pos hsz] at w
              have hsz' : zs.length + 1 <= sizeLine := of_decide_eq_true hsz
              have r5 := r4.grow (ys := xs ++ [y4]) ha4 (fun j hj e => accC σ2 so2 j hj e)
              have ext5 : Ext (Cn (cin (Cn c σ) H1 (foO fo) (qbd σ fo) acc fun j => (qC nt fr σ)[j]?) σ2) H4 (upd H4 acc (.lst (xs ++ [y4]))) := ⟨fun b us hb => by rw [qs (uV hb ha4 (by intro z; cases z))]; exact hb, fun b o u hb => by rw [qs (uV hb ha4 (by intro z; cases z))]; exact hb, fun b o hb hq => by rw [qs hb.1.2]; exact hq⟩
              refine ⟨xs, ha4, by rw [iz3.length]; omega, ds.length - (i + 1), by omega, rfl, hlt, ρ4, zs ++ [d4], xs ++ [y4], r5, so2, qv, ?_, w⟩
              exact IsL.append (IsL.ext ext5 (fun _ h _ => h) (g4.isL iz3)) (IsL.one (Is.ext ext5 (fun _ h _ => h) i4))
    . have hie : i = ds.length := by omega
      subst hie
      rw [List.drop_of_length_le (Nat.le_refl _)] at w
      unfold zO at w
      cases w
      obtain ⟨r6, g6⟩ := r1.leave hn hfo (fun i j e => so i (by rw [e]; simp [foO])) r'
      exact .inl ⟨iok.stop H' ex, h1 _ H' r6 ⟨acc, xs, rfl, r1.new hn, ha, IsL.ext Ext.refl (fun a ha hs => ha.1.1) iz⟩ g6⟩
end
end L2.Sk
namespace L2.Sk
open PySem PySem.Spec PyProof.Rows
theorem Rep.io {K : Fr0} {c : Fc} {ρ : Env} {σ : St} {H H' : Hp} {i : Nat} {a : Addr} {bs : List D} {xs : List V} (r : Rep K c ρ σ H) (hi : i ∈ c.O) (hs : σ[i]? = some (some (.ref a))) (kp : ∀ b o, b ≠ a -> H b = some o -> H' b = some o)
    (ha : H' a = some (.lst xs)) (him : True) (il : IsL K (Cn c σ) H' bs xs) (dm : ∀ b, H' b = none -> H b = none) : Rep K c (ρ.set i (some (.lst bs))) σ H' /\ Gr c.O σ H H' := by
  obtain ⟨a', xs0, e0, h0, hown⟩ := r.own i hi _ hs
  cases e0
  have gr : Gr c.O σ H H' := ⟨⟨fun b us hb => kp b _ (uV hb h0 (by intro z; cases z)) hb, fun b o u hb => kp b _ (uV hb h0 (by intro z; cases z)) hb, fun b o hc hb => kp b o (fun e => hc i hi (by rw [hs, e])) hb⟩, dm⟩
  refine ⟨⟨by rw [List.length_set]; exact r.len, fun k d hk => ?_, fun j hj v hv => ?_, r.inj, r.b0, fun b o hb hio => ?_, fun b hb => r.dm b (dm b hb), r.pO, r.ps⟩, gr⟩
  . by_cases e : k = i
    . subst e
      have hl : k < ρ.length := by
        have := (List.getElem?_eq_some_iff.mp hk).1
        rwa [List.length_set] at this
      rw [List.getElem?_set_self hl] at hk
      cases hk
      exact ⟨.ref a, hs, .inl ⟨hi, bs, a, xs, rfl, rfl, ha, il⟩⟩
    . rw [zn e] at hk
      obtain ⟨v, h1, h2⟩ := r.val k d hk
      refine ⟨v, h1, ?_⟩
      rcases h2 with ⟨hk2, ds, b, ys, h3, h5, h6, h7⟩ | ⟨hk2, h3⟩
      . subst h5
        have ne : b ≠ a := fun e2 => e (r.inj k i a hk2 hi (by rw [h1, e2]) hs)
        exact .inl ⟨hk2, ds, b, ys, h3, rfl, kp b _ ne h6, gr.isL h7⟩
      . exact .inr ⟨hk2, gr.is h3⟩
  . obtain ⟨b, ys, h1, h2, h3⟩ := r.own j hj v hv
    subst h1
    by_cases e : b = a
    . subst e; exact ⟨b, xs, rfl, ha, h3⟩
    . exact ⟨b, ys, rfl, kp b _ e h2, h3⟩
  . have ne : b ≠ a := fun e => by
      subst e
      rcases hown with z | z
      . rw [hb] at z; cases z
      . exact hio z.2
    exact kp b o ne (r.kp b o hb hio)
def zu (i : Nat) (ρ : Env) : Option (List D) := match ρ[i]? with
  | some (some (.lst ds)) => some ds
  | _ => none
theorem qd9 {i : Nat} {ρ : Env} {ds : List D} (h : zu i ρ = some ds) : ρ[i]? = some (some (.lst ds)) := by
  unfold zu at h
  split at h
  . rename_i e; cases h; exact e
  . cases h
theorem Rep.getLO {K : Fr0} {c : Fc} {ρ : Env} {σ : St} {H : Hp} (r : Rep K c ρ σ H) {i : Nat} {ds : List D} (hi : i ∈ c.O) (h : zu i ρ = some ds) :
    ∃ a xs, True /\ σ[i]? = some (some (.ref a)) /\ H a = some (.lst xs) /\ IsL K (Cn c σ) H ds xs := by
  obtain ⟨ds', a, xs, h1, h3, h4, h5⟩ := r.getO hi (qd9 h)
  cases h1
  exact ⟨a, xs, trivial, h3, h4, h5⟩
theorem zA {H : Hp} {a b : Addr} {o u : HO} (h : b ≠ a) (hb : H b = some o) : upd H a u b = some o := by rw [qs h]; exact hb
theorem qb3 {H : Hp} {a b : Addr} {u : HO} (h : upd H a u b = none) : H b = none := by
  by_cases e : b = a
  . subst e; rw [qv] at h; cases h
  . rw [qs e] at h; exact h
section
variable {X : Cx} {c : Fc} {a b e : Expr} {pos : Pos}
def qZ (i : Nat) (f : M D) : M D := fun ρ => match zu i ρ with
  | none => .bad
  | some _ => (bnd f fun d ρ => match zu i ρ with
    | some ds => if imm d && qG (ds.length + 1) then .ok (.non, ρ.set i (some (.lst (ds ++ [d])))) else .bad
    | none => .bad) ρ
theorem u7 {i : Nat} {x : Str} {p1 apos : Pos} {f : M D} (he : DE X c e f) (ho : i ∈ c.O := by exact of_decide_eq_true rfl) (hN : X.N[i]? = some x := by rfl) (hv : Vis X.env.scope x := by first | exact Or.inl rfl | exact Or.inr (Or.inl rfl) | exact Or.inr (Or.inr rfl)) (hd : (x == ("__debug__" : Str)) = false := by decide) (hcd : (x == ("__classdict__" : Str)) = false := by decide)
    (hbase : attributeBase (.Name x p1) "append" X.env (eval (.Name x p1) X.env) = eval (.Name x p1) X.env := by rfl)
    (hfew : ((backTo pos (starEach [e] X.env)).all (fun x => !x.1) && (backToKw pos (keywordEach [] X.env)).all (fun x => x.1.isSome)
      && decide ([e].length + ([] : List Keyword).length + (if ([] : List Keyword).isEmpty then 0 else 1) < 30)) = true := by rfl)
    (hline : (apos.endLine == pos.line) = true := by rfl) (hs : starEach [e] X.env = (false, eval e X.env) :: starEach [] X.env := by rfl) (hplain : (backTo pos (starEach [] X.env)).any (·.1) = false := by rfl) :
    DE X c (.Call (.Attribute (.Name x p1) "append" apos) [e] [] pos) (qZ i f) := by
  obtain ⟨t, p, w⟩ := he
  refine ⟨_, qhl PySem.F.plainAttrs_list PySem.F.slot_list_append PySem.F.type_list_append wm (uf hN hv hd hcd) (jk p uX hs) hbase hfew hline hs hplain, fun ρ σ H Q r h => ?_⟩
  unfold qZ at h
  cases e0 : zu i ρ with
  | none => rw [e0] at h; exact h.elim
  | some ds0 =>
    simp only [e0] at h
    obtain ⟨l, xs0, _, hl, hH, _⟩ := r.getLO ho e0
    refine ⟨.ref l, hl, .inl ⟨rfl, xs0, .inl (.inl hH)⟩, w ρ σ H _ r (Wp.bnd h fun d ρ1 v H1 r1 i1 g1 h1 => ?_)⟩
    cases e1 : zu i ρ1 with
    | none => simp only [e1] at h1; exact h1.elim
    | some ds =>
      simp only [e1] at h1
      by_cases hb : (imm d && qG (ds.length + 1)) = true
      . rw [if_pos hb] at h1
        rw [Bool.and_eq_true] at hb
        obtain ⟨l', xs, him, hl', hH', il⟩ := r1.getLO ho e1
        rw [hl] at hl'
        cases hl'
        have hsz : ds.length + 1 <= sizeLine := of_decide_eq_true hb.2
        have ext : Ext (Cn c σ) H1 (upd H1 l (.lst (xs ++ [v]))) := ⟨fun b us hb => zA (uV hb hH' (by intro z; cases z)) hb, fun b o u hb => zA (uV hb hH' (by intro z; cases z)) hb, fun b o hb hq => zA (fun e => hb.2 i ho (by rw [hl, e])) hq⟩
        obtain ⟨r2, g2⟩ := r1.io (H' := upd H1 l (.lst (xs ++ [v]))) (bs := ds ++ [d]) ho hl (fun b o hb ho => zA hb ho) qv trivial
          (IsL.append (IsL.ext ext (fun _ h _ => h) il) (IsL.one (Is.ext ext (fun _ h _ => h) i1))) (fun b hb => qb3 hb)
        exact ⟨l, xs, v, rfl, rfl, hH', by rw [il.length]; omega, h1 _ _ r2 rfl g2⟩
      . rw [if_neg hb] at h1; exact h1.elim
def qfB (i : Nat) (k f : M D) : MS := sbnd f fun d ρ => match zu i ρ with
  | none => .bad
  | some _ => (sbnd k fun j ρ => match j, zu i ρ with
    | .int n, some ds => match ixN ds.length n with
      | some q => if imm d then .ok (.nx (ρ.set i (some (.lst (ds.set q d))))) else .bad
      | none => .bad
    | _, _ => .bad) ρ
theorem qhB {i : Nat} {x : Str} {p1 p2 : Pos} {ke : Expr} {f k : M D} (he : DE X c e f) (hk : DE X c ke k) (ho : i ∈ c.O := by exact of_decide_eq_true rfl) (hN : X.N[i]? = some x := by rfl) (hv : Vis X.env.scope x := by first | exact Or.inl rfl | exact Or.inr (Or.inl rfl) | exact Or.inr (Or.inr rfl)) (hd : (x == ("__debug__" : Str)) = false := by decide) (hcd : (x == ("__classdict__" : Str)) = false := by decide)
    (ha : ∀ v, assign (.Subscript (.Name x p1) ke p2) X.env v = (do
      let ov <- holding [v] (eval (.Name x p1) X.env)
      let iv <- holding [v, ov] (eval ke X.env)
      standAt p2
      holding [v, ov, iv] (setItem ov iv v)
      release [v, ov, iv] []) := by intro _; rfl)
    (hs : swapsWithSole [.Subscript (.Name x p1) ke p2] e pos.line X.env = pure false := by rfl) (hw : swappedStores [.Subscript (.Name x p1) ke p2] e X.env = pure none := by rfl) (h1 : (assignEach [.Subscript (.Name x p1) ke p2] X.env).map (·.2) = [assign (.Subscript (.Name x p1) ke p2) X.env] := by rfl) :
    DS X c (.Assign [.Subscript (.Name x p1) ke p2] e pos) (qfB i k f) := by
  obtain ⟨t, p, w⟩ := he
  obtain ⟨tk, pk, wk⟩ := hk
  refine ⟨_, qgh p (qiU (uf hN hv hd hcd) pk qfn ha) hs hw h1, fun ρ σ H D r h => w ρ σ H _ r (Wp.sbnd h fun d ρ1 v H1 r1 i1 g1 h1 => ?_)⟩
  cases e0 : zu i ρ1 with
  | none => simp only [e0] at h1; exact h1.elim
  | some ds0 =>
    simp only [e0] at h1
    obtain ⟨l, xs0, _, hl, hH, _⟩ := r1.getLO ho e0
    refine ⟨.ref l, hl, wk ρ1 σ H1 _ r1 (Wp.sbnd h1 fun j ρ2 u H2 r2 i2 g2 h2 => ?_)⟩
    cases j with
    | int n =>
      cases e1 : zu i ρ2 with
      | none => simp only [e1] at h2; exact h2.elim
      | some ds =>
        simp only [e1] at h2
        cases e2 : ixN ds.length n with
        | none => simp only [e2] at h2; exact h2.elim
        | some q =>
          simp only [e2] at h2
          by_cases hb : imm d = true
          . rw [if_pos hb] at h2
            obtain ⟨l', xs, him, hl', hH', il⟩ := r2.getLO ho e1
            rw [hl] at hl'
            cases hl'
            cases i2
            have i3 := g2.is i1
            have ext : Ext (Cn c σ) H2 (upd H2 l (.lst (xs.set q v))) := ⟨fun b us hb => zA (uV hb hH' (by intro z; cases z)) hb, fun b o u hb => zA (uV hb hH' (by intro z; cases z)) hb, fun b o hb hq => zA (fun e => hb.2 i ho (by rw [hl, e])) hq⟩
            obtain ⟨r3, g3⟩ := r2.io (H' := upd H2 l (.lst (xs.set q v))) (bs := ds.set q d) ho hl (fun b o hb ho => zA hb ho) qv trivial
              (IsL.set (Is.ext ext (fun _ h _ => h) i3) q (IsL.ext ext (fun _ h _ => h) il)) (fun b hb => qb3 hb)
            exact ⟨l, xs, n, q, rfl, rfl, hH', by rw [il.length]; exact e2, h2 σ _ r3 g3.s⟩
          . rw [if_neg hb] at h2; exact h2.elim
    | _ => exact h2.elim
structure qfC (K : Fr0) (c : Fc) (ρ : Env) (σ : St) (H : Hp) (a : Addr) : Prop where
  val : ∀ i d v, ρ[i]? = some (some d) -> i ∉ c.O -> σ[i]? = some (some v) -> Is K (fun b => Cn c σ b /\ b ≠ a) H d v
  cont : ∀ i ds b xs, ρ[i]? = some (some (.lst ds)) -> i ∈ c.O -> σ[i]? = some (some (.ref b)) -> H b = some (.lst xs) -> IsL K (Cn c σ) H ds xs -> IsL K (fun b => Cn c σ b /\ b ≠ a) H ds xs
  own : ∀ j ∈ c.O, σ[j]? ≠ some (some (.ref a))
  new : c.H0 a = none
theorem Is.fresh {K : Fr0} {A : Addr -> Prop} {H : Hp} {d : D} {v : V} {a : Addr} (h : Is K A H d v) (hn : H a = none) : Is K (fun b => A b /\ b ≠ a) H d v := Is.ext Ext.refl (fun b h1 h2 => ⟨h1, fun e => by rw [e, hn] at h2; cases h2⟩) h
theorem Rep.apart {K : Fr0} {ρ : Env} {σ : St} {H : Hp} {a : Addr} {o : HO} (r : Rep K c ρ σ H) (hn : H a = none) : qfC K c ρ σ (upd H a o) a where
  val := fun i d v h1 h2 h3 => by
    obtain ⟨w, h4, h5⟩ := r.get h2 h1
    rw [h3] at h4
    cases h4
    exact Is.ext (Ext.of_same (qy hn _)) (fun _ h _ => h) (h5.fresh hn)
  cont := fun i ds b xs h1 h2 h3 h4 _ => by
    obtain ⟨ds', a', ys, e1, e2, e3, e4⟩ := r.getO h2 h1
    cases e1
    rw [h3] at e2
    cases e2
    have := qy hn o _ _ e3
    rw [h4] at this
    cases this
    exact IsL.ext (Ext.of_same (qy hn _)) (fun b hb hs => ⟨hb, fun e => by rw [e, hn] at hs; cases hs⟩) e4
  own := fun j hj e => (r.new hn).2 j hj e
  new := r.dm a hn
theorem Rep.apart_same {K : Fr0} {ρ : Env} {σ : St} {H H' : Hp} {a : Addr} (r : Rep K c ρ σ H) (hn : H a = none) (sm : jm H H') : qfC K c ρ σ H' a where
  val := fun i d v h1 h2 h3 => by
    obtain ⟨w, h4, h5⟩ := r.get h2 h1
    rw [h3] at h4
    cases h4
    exact Is.ext (Ext.of_same sm) (fun _ h _ => h) (h5.fresh hn)
  cont := fun i ds b xs h1 h2 h3 h4 _ => by
    obtain ⟨ds', a', ys, e1, e2, e3, e4⟩ := r.getO h2 h1
    cases e1
    rw [h3] at e2
    cases e2
    have := sm _ _ e3
    rw [h4] at this
    cases this
    exact IsL.ext (Ext.of_same sm) (fun b hb hs => ⟨hb, fun e => by rw [e, hn] at hs; cases hs⟩) e4
  own := fun j hj e => (r.new hn).2 j hj e
  new := r.dm a hn
def WpN (K : Fr0) (c : Fc) (σ : St) (H : Hp) (Q : VK) : R (List D × Env) -> Prop
  | .ok (ds, ρ) => ∀ a xs H', H a = none -> Rep K c ρ σ H' -> qfC K c ρ σ H' a -> H' a = some (.lst xs) -> True -> IsL K (fun b => Cn c σ b /\ b ≠ a) H' ds xs -> Gr c.O σ H H' -> Q (.ref a) H'
  | .exc x ρ => ∀ H', Rep K c ρ σ H' -> Gr c.O σ H H' -> c.E x H'
  | .bad => False
def DN (X : Cx) (c : Fc) (e : Expr) (f : M (List D)) : Prop := ∃ t, PE X e t /\ ∀ ρ σ H Q, Rep X.K c ρ σ H -> WpN X.K c σ H Q (f ρ) -> t σ H Q
theorem WpN.gr {K : Fr0} {σ : St} {H H1 : Hp} {Q : VK} : ∀ {r : R (List D × Env)}, WpN K c σ H Q r -> Gr c.O σ H H1 -> WpN K c σ H1 Q r
  | .ok (d, ρ), h, g => fun a xs H' hn h1 h2 h3 h4 h5 hg => h a xs H' (g.dom a hn) h1 h2 h3 h4 h5 (g.trans hg)
  | .exc x ρ, h, g => fun H' hr hg => h H' hr (g.trans hg)
  | .bad, h, _ => h
theorem WpL.bndN {K : Fr0} {σ : St} {H : Hp} {Q : VK} {f : M (List D)} {k : List D -> M (List D)} {ρ : Env} {Q' : List V -> Hp -> Prop} (h : WpN K c σ H Q (Sk.bnd f k ρ)) (hQ : ∀ d ρ' v H', Rep K c ρ' σ H' -> IsL K (Cn c σ) H' d v -> Gr c.O σ H H' -> WpN K c σ H' Q (k d ρ') -> Q' v H') : WpL K c σ H Q' (f ρ) := by
  unfold Sk.bnd at h
  cases e : f ρ with
  | ok p => rw [e] at h; exact fun v H' hr hi hg => hQ p.1 p.2 v H' hr hi hg (h.gr hg)
  | exc x ρ' => rw [e] at h; exact h
  | bad => rw [e] at h; exact h
def qfD (f : M (List D)) : M (List D) := bnd f fun ds => lift (if immL ds && qG ds.length then some ds else none)
theorem qea {es : List Expr} {f : M (List D)} (h : DA X c es f) : DN X c (.List es pos) (qfD f) := by
  obtain ⟨t, p, w⟩ := h
  refine ⟨_, qdP p, fun ρ σ H Q r h => w ρ σ H _ r (WpL.bndN h fun ds ρ1 vs H1 r1 i1 g1 h1 => ?_)⟩
  by_cases hb : (immL ds && qG ds.length) = true
  . rw [if_pos hb] at h1
    rw [Bool.and_eq_true] at hb
    refine ⟨by rw [i1.length]; exact of_decide_eq_true hb.2, fun p hp => ?_⟩
    exact h1 p vs _ hp (r1.laid hp _) (r1.apart hp) qv trivial (IsL.ext (Ext.of_same (qy hp _)) (fun b h hs => ⟨h, fun e => by rw [e, hp] at hs; cases hs⟩) i1) (.of_same (qy hp _))
  . rw [if_neg hb] at h1; exact h1.elim
theorem Cl.setO {O : List Nat} {σ : St} {i : Nat} {a b : Addr} (h : Cl O σ b) (hb : b ≠ a) : Cl O (σ.set i (some (.ref a))) b := fun j hj e => by
  by_cases hji : j = i
  . subst hji
    have hl : j < σ.length := by
      have := (List.getElem?_eq_some_iff.mp e).1
      rwa [List.length_set] at this
    rw [List.getElem?_set_self hl] at e
    cases e
    exact hb rfl
  . rw [zn hji] at e
    exact h j hj e
theorem Rep.setO {K : Fr0} {ρ : Env} {σ : St} {H : Hp} {i : Nat} {a : Addr} {ds : List D} {xs : List V} (r : Rep K c ρ σ H) (hi : i ∈ c.O) (hP : i ∉ c.P) (ap : qfC K c ρ σ H a) (ha : H a = some (.lst xs)) (him : True) (il : IsL K (fun b => Cn c σ b /\ b ≠ a) H ds xs) :
    Rep K c (ρ.set i (some (.lst ds))) (σ.set i (some (.ref a))) H where
  len := by rw [List.length_set, List.length_set]; exact r.len
  val := fun j e hj => by
    by_cases e1 : j = i
    . subst e1
      have hl : j < ρ.length := by
        have := (List.getElem?_eq_some_iff.mp hj).1
        rwa [List.length_set] at this
      rw [List.getElem?_set_self hl] at hj
      cases hj
      exact ⟨.ref a, List.getElem?_set_self (by rw [<- r.len]; exact hl), .inl ⟨hi, ds, a, xs, rfl, rfl, ha, IsL.ext Ext.refl (fun b hb _ => ⟨hb.1.1, hb.1.2.setO hb.2⟩) il⟩⟩
    . rw [zn e1] at hj
      obtain ⟨w, h1, h2⟩ := r.val j e hj
      refine ⟨w, by rw [zn e1]; exact h1, ?_⟩
      rcases h2 with ⟨g1, ds', b', xs', g3, g5, g6, g7⟩ | ⟨h3, h4⟩
      . subst g3 g5
        exact .inl ⟨g1, ds', b', xs', rfl, rfl, g6, IsL.ext Ext.refl (fun b hb _ => ⟨hb.1.1, hb.1.2.setO hb.2⟩) (ap.cont j ds' b' xs' hj g1 h1 g6 g7)⟩
      . exact .inr ⟨h3, Is.ext Ext.refl (fun b hb _ => ⟨hb.1.1, hb.1.2.setO hb.2⟩) (ap.val j e w hj h3 h1)⟩
  own := fun j hj w h => by
    by_cases e1 : j = i
    . subst e1
      have hl : j < σ.length := by
        have := (List.getElem?_eq_some_iff.mp h).1
        rwa [List.length_set] at this
      rw [List.getElem?_set_self hl] at h
      cases h
      exact ⟨a, xs, rfl, ha, .inl ap.new⟩
    . rw [zn e1] at h
      exact r.own j hj w h
  inj := fun j k b hj hk h1 h2 => by
    by_cases e1 : j = i
    . by_cases e2 : k = i
      . rw [e1, e2]
      . subst e1
        have hl : j < σ.length := by
          have := (List.getElem?_eq_some_iff.mp h1).1
          rwa [List.length_set] at this
        rw [List.getElem?_set_self hl] at h1
        cases h1
        rw [zn e2] at h2
        exact absurd h2 (ap.own k hk)
    . by_cases e2 : k = i
      . subst e2
        have hl : k < σ.length := by
          have := (List.getElem?_eq_some_iff.mp h2).1
          rwa [List.length_set] at this
        rw [List.getElem?_set_self hl] at h2
        cases h2
        rw [zn e1] at h1
        exact absurd h1 (ap.own j hj)
      . rw [zn e1] at h1
        rw [zn e2] at h2
        exact r.inj j k b hj hk h1 h2
  b0 := r.b0
  kp := r.kp
  dm := r.dm
  pO := r.pO
  ps := fun j hj => by
    have e : j ≠ i := fun e => hP (e ▸ hj)
    rw [zn e]; exact r.ps j hj
def yG (i : Nat) (f : M (List D)) : MS := sbnd f fun ds ρ => .ok (.nx (ρ.set i (some (.lst ds))))
theorem vA {i : Nat} {x : Str} {pos' : Pos} {f : M (List D)} (hN : X.N.Nodup) (he : DN X c e f) (ho : i ∈ c.O := by exact of_decide_eq_true rfl) (hP : i ∉ c.P := by exact of_decide_eq_false rfl) (hi : X.N[i]? = some x := by rfl) (hx : Loc X.env.scope x := by first | exact Or.inl rfl | exact Or.inr rfl) (hs : swapsWith e (some (.Name x pos')) pos.line X.env = pure false := by rfl) (hf : X.fn x = true \/ X.env.scope.names.lookup x = some .local := by first | exact .inl rfl | exact .inr rfl | assumption) :
    DS X c (.Assign [.Name x pos'] e pos) (yG i f) := by
  obtain ⟨t, p, w⟩ := he
  refine ⟨_, qgi hN hi hx p hs hf, fun ρ σ H D r h => w ρ σ H _ r ?_⟩
  unfold yG sbnd at h
  cases ef : f ρ with
  | bad => rw [ef] at h; exact h
  | exc z ρ' => rw [ef] at h; exact fun H' hr hg => h σ H' hr hg.s
  | ok q =>
    rw [ef] at h
    intro a xs H' hn r' ap ha him il g'
    exact h _ H' (r'.setO ho hP ap ha him il) ⟨g'.ext, fun b hb hs => hb.setO (fun e => by rw [e, hn] at hs; exact absurd hs (by simp)), g'.dom⟩
def qbr (i : Nat) : M D := fun ρ => match zu i ρ with
  | some ds => .ok (.int ds.length, ρ)
  | none => .bad
theorem qhC {i : Nat} {x : Str} {p p1 : Pos} (hg : Gl X "len") (hm : X.mg "len" = none) (ho : i ∈ c.O := by exact of_decide_eq_true rfl) (hN : X.N[i]? = some x := by rfl) (hv : Vis X.env.scope x := by first | exact Or.inl rfl | exact Or.inr (Or.inl rfl) | exact Or.inr (Or.inr rfl)) (hd : (x == ("__debug__" : Str)) = false := by decide) (hcd : (x == ("__classdict__" : Str)) = false := by decide) :
    DE X c (.Call (.Name "len" p) [.Name x p1] [] pos) (qbr i) := by
  refine ⟨_, uY yJ hg hm PySem.boot_len (jk (uf hN hv hd hcd) uX), fun ρ σ H Q r h => ?_⟩
  unfold qbr at h
  cases e0 : zu i ρ with
  | none => simp only [e0] at h; exact h.elim
  | some ds =>
    simp only [e0] at h
    obtain ⟨l, xs, him, hl, hH, il⟩ := r.getLO ho e0
    exact ⟨.ref l, hl, .inl ⟨l, xs, rfl, .inl (.inl (.inl hH)), by rw [il.length]; exact h _ H r rfl .refl⟩⟩
def qdf (i : Nat) : M D := fun ρ => match zu i ρ with
  | some ds => .ok (.tup ds, ρ)
  | none => .bad
theorem qeb {i : Nat} {x : Str} {p p1 : Pos} (hg : Gl X "tuple") (hm : X.mg "tuple" = none) (hb : bootBuiltins "tuple" = some (.type "tuple") := by first | rfl | exact PySem.boot_tuple) (ho : i ∈ c.O := by exact of_decide_eq_true rfl) (hN : X.N[i]? = some x := by rfl) (hv : Vis X.env.scope x := by first | exact Or.inl rfl | exact Or.inr (Or.inl rfl) | exact Or.inr (Or.inr rfl)) (hd : (x == ("__debug__" : Str)) = false := by decide) (hcd : (x == ("__classdict__" : Str)) = false := by decide) :
    DE X c (.Call (.Name "tuple" p) [.Name x p1] [] pos) (qdf i) := by
  refine ⟨_, qdR qaB hg hm hb (jk (uf hN hv hd hcd) uX), fun ρ σ H Q r h => ?_⟩
  unfold qdf at h
  cases e0 : zu i ρ with
  | none => simp only [e0] at h; exact h.elim
  | some ds =>
    simp only [e0] at h
    obtain ⟨l, xs, him, hl, hH, il⟩ := r.getLO ho e0
    refine ⟨.ref l, hl, l, xs, rfl, .inl ⟨.inl (.inl hH), fun p hp => h _ _ (r.laid hp _) ⟨p, xs, rfl, .inl qv, ?_⟩ (.of_same (qy hp _))⟩⟩
    exact IsL.ext (Ext.of_same (qy hp _)) (fun _ h _ => h) il
def qcx (i : Nat) (g : M D) : M D := fun ρ => match zu i ρ with
  | none => .bad
  | some _ => (bnd g fun k ρ => match k, zu i ρ with
    | .int n, some ds => match atI ds n with
      | some d => .ok (d, ρ)
      | none => .bad
    | _, _ => .bad) ρ
theorem qec {i : Nat} {x : Str} {p1 : Pos} {g : M D} (hb : DE X c b g) (hs : qbZ b := by intro _ _; rfl) (ho : i ∈ c.O := by exact of_decide_eq_true rfl) (hN : X.N[i]? = some x := by rfl) (hv : Vis X.env.scope x := by first | exact Or.inl rfl | exact Or.inr (Or.inl rfl) | exact Or.inr (Or.inr rfl)) (hd : (x == ("__debug__" : Str)) = false := by decide) (hcd : (x == ("__classdict__" : Str)) = false := by decide) :
    DE X c (.Subscript (.Name x p1) b pos) (qcx i g) := by
  obtain ⟨tb, pb, wb⟩ := hb
  refine ⟨_, qjb qdU (uf hN hv hd hcd) pb hs, fun ρ σ H Q r h => ?_⟩
  unfold qcx at h
  cases e0 : zu i ρ with
  | none => simp only [e0] at h; exact h.elim
  | some ds0 =>
    simp only [e0] at h
    obtain ⟨l, xs0, _, hl, hH, _⟩ := r.getLO ho e0
    refine ⟨.ref l, hl, wb ρ σ H _ r (Wp.bnd h fun k ρ1 v H1 r1 i1 g1 h1 => ?_)⟩
    cases k with
    | int n =>
      cases e1 : zu i ρ1 with
      | none => simp only [e1] at h1; exact h1.elim
      | some ds =>
        simp only [e1] at h1
        cases e2 : atI ds n with
        | none => simp only [e2] at h1; exact h1.elim
        | some d =>
          simp only [e2] at h1
          obtain ⟨l', xs, him, hl', hH', il⟩ := r1.getLO ho e1
          rw [hl] at hl'
          cases hl'
          cases i1
          obtain ⟨w, h3, h4⟩ := il.atI e2
          exact ⟨l, xs, n, w, rfl, rfl, .inl (.inl hH'), h3, h1 w H1 r1 h4 .refl⟩
    | _ => exact h1.elim
def qhD (i : Nat) : MS := fun ρ => match zu i ρ with
  | some ds => .ok (.rt (.lst ds) ρ)
  | none => .bad
theorem qhE {i : Nat} {x : Str} {p1 : Pos} (ho : i ∈ c.O := by exact of_decide_eq_true rfl) (hP : i ∉ c.P := by exact of_decide_eq_false rfl) (hN : X.N[i]? = some x := by rfl) (hv : Vis X.env.scope x := by first | exact Or.inl rfl | exact Or.inr (Or.inl rfl) | exact Or.inr (Or.inr rfl)) (hd : (x == ("__debug__" : Str)) = false := by decide) (hcd : (x == ("__classdict__" : Str)) = false := by decide) :
    DS X c (.Return (some (.Name x p1)) pos) (qhD i) := by
  refine ⟨_, qdF (uf hN hv hd hcd), fun ρ σ H D r h => ?_⟩
  unfold qhD at h
  cases e0 : zu i ρ with
  | none => simp only [e0] at h; exact h.elim
  | some ds =>
    simp only [e0] at h
    obtain ⟨l, xs, him, hl, hH, il⟩ := r.getLO ho e0
    obtain ⟨a, ys, e1, e2, e3⟩ := r.own i ho _ hl
    cases e1
    have hB : c.B l := by
      rcases e3 with z | z
      . exact r.b0 l z
      . exact absurd z.1 hP
    exact ⟨.ref l, hl, h (.ref l) σ H r ⟨l, xs, rfl, hB, hH, IsL.ext Ext.refl (fun _ h _ => h.1) il⟩ .refl⟩
end
def cfn (O P : List Nat) (A : Addr -> Prop) (H : Hp) (Io : Addr -> Prop) (E : Exn -> Hp -> Prop) (S : Nat -> Option (Option V)) : Fc where
  O := O
  P := P
  B := fun a => A a \/ H a = none
  H0 := H
  Io := Io
  E := E
  S := S
def jV (n : Nat) (ds : List D) : Env := ds.map some ++ List.replicate (n - ds.length) none
def spD (K : Fr0) (F : List D -> R D) : Sp := fun vs H Q _ => ∃ ds A, IsL K A H ds vs /\ (∀ a, A a -> True) /\ match F ds with
  | .ok d => ∀ v H', jm H H' -> Is K (fun a => A a \/ H a = none) H' d v -> Q v H'
  | _ => False
def qfb (K : Fr0) (F : List D -> List D -> R (D × List D)) : Sp := fun vs H Q _ => ∃ (bs ds : List D) (A : Addr -> Prop) (a : Addr) (xs vs' : List V), vs = .ref a :: vs' /\ H a = some (.lst xs) /\ True /\ IsL K A H bs xs /\ ¬ A a /\ IsL K A H ds vs' /\ match F bs ds with
  | .ok (d, bs') => ∀ v H' xs', (∀ b o, b ≠ a -> H b = some o -> H' b = some o) -> (∀ b, H' b = none -> H b = none) -> H' a = some (.lst xs') -> True -> IsL K (fun b => A b \/ H b = none) H' bs' xs' -> Is K (fun b => A b \/ H b = none) H' d v -> Q v H'
  | _ => False
def dfn (n p : Nat) (body : MS) (ds : List D) : R D := if ds.length = p then match body (jV n ds) with
  | .ok (.rt d _) => .ok d
  | .ok (.nx _) => .ok .non
  | _ => .bad else .bad
def wC (n p : Nat) (body : MS) (bs ds : List D) : R (D × List D) := if ds.length + 1 = p then match body (jV n (.lst bs :: ds)) with
  | .ok (.rt d ρ) => match zu 0 ρ with
    | some bs' => .ok (d, bs')
    | none => .bad
  | .ok (.nx ρ) => match zu 0 ρ with
    | some bs' => .ok (.non, bs')
    | none => .bad
  | _ => .bad else .bad
theorem u8 {N : List Str} {vs : List V} {i : Nat} {v : V} (h : (zL N vs)[i]? = some (some v)) : vs[i]? = some v := by
  unfold zL at h
  by_cases hi : i < vs.length
  . rw [List.getElem?_append_left (by simpa using hi), List.getElem?_map] at h
    cases e : vs[i]? with
    | none => rw [e] at h; cases h
    | some w => rw [e] at h; cases h; rfl
  . rw [List.getElem?_append_right (by simpa using hi), List.getElem?_replicate] at h
    split at h <;> cases h
theorem vZ {N : List Str} {vs : List V} {i : Nat} {v : V} (h : vs[i]? = some v) : (zL N vs)[i]? = some (some v) := by
  unfold zL
  have hi : i < vs.length := (List.getElem?_eq_some_iff.mp h).1
  rw [List.getElem?_append_left (by simpa using hi), List.getElem?_map, h]; rfl
theorem qbs {n : Nat} {ds : List D} {i : Nat} {d : D} (h : (jV n ds)[i]? = some (some d)) : ds[i]? = some d := by
  unfold jV at h
  by_cases hi : i < ds.length
  . rw [List.getElem?_append_left (by simpa using hi), List.getElem?_map] at h
    cases e : ds[i]? with
    | none => rw [e] at h; cases h
    | some w => rw [e] at h; cases h; rfl
  . rw [List.getElem?_append_right (by simpa using hi), List.getElem?_replicate] at h
    split at h <;> cases h
theorem wD {K : Fr0} {N : List Str} {O : List Nat} {A : Addr -> Prop} {H : Hp} {E : Exn -> Hp -> Prop} {ds : List D} {vs : List V} (il : IsL K A H ds vs) (hO : ∀ i ∈ O, ds.length <= i) :
    Rep K (cfn O [] A H (fun _ => False) E fun _ => none) (jV N.length ds) (zL N vs) H where
  len := by unfold jV zL; simp [il.length]
  val := fun i d h => by
    have h1 := qbs h
    obtain ⟨v, h2, h3⟩ := il.get h1
    have hi : i ∉ O := fun z => by
      have := (List.getElem?_eq_some_iff.mp h1).1
      have := hO i z
      omega
    refine ⟨v, vZ h2, .inr ⟨hi, Is.ext Ext.refl (fun a ha _ => ⟨.inl ha, fun j hj e => ?_⟩) h3⟩⟩
    have := (List.getElem?_eq_some_iff.mp (u8 e)).1
    have := hO j hj
    rw [il.length] at *
    omega
  own := fun j hj v h => by
    have := (List.getElem?_eq_some_iff.mp (u8 h)).1
    have := hO j hj
    rw [il.length] at *
    omega
  inj := fun i j a hi hj h1 h2 => by
    have := (List.getElem?_eq_some_iff.mp (u8 h1)).1
    have := hO i hi
    rw [il.length] at *
    omega
  b0 := fun a h => .inr h
  kp := fun b o h _ => h
  dm := fun b h => h
  pO := fun j hj => by cases hj
  ps := fun j hj => by cases hj
section
variable {P : Program} {w : World} {K : PySem.W.Frag} {mg : Str -> Option Value} {base : Heap}
theorem zD {x qual : Str} {st : Stmt} {f : Addr} {fd : FuncData} {N ps : List Str} {k : Nat} {O : List Nat} {body : MS} (F : Fun K x qual st f fd) (S : qt N ps (qd st)) (hO : ∀ i ∈ O, ps.length <= i)
    (hb : ∀ (cdv : Value) (A : Around) (outer : List PySem.Env) (s : Shared) (H : Hp) (E : XK) (B : Addr -> Prop), y9 k (A.deeper (envOfC qual (qd st) s.heap.objs.size f cdv)) ->
      DSs (qe7 CX0 P w K mg base N qual (qd st) f cdv A outer s H E).nox (cfn O [] B H (fun _ => False) (fun _ _ => False) fun _ => none) (qr st) body) :
    jR P w K mg base CX0 (k + 1) f fd ps (spD K (dfn N.length ps.length body)) := by
  refine F.ok S (fun vs H Q E h => ?_) (fun cdv A outer s H vs Q E hr h => ?_)
  . obtain ⟨ds, B, il, _, h⟩ := h
    unfold dfn at h
    by_cases e : ds.length = ps.length
    . rw [il.length]; exact e
    . rw [if_neg e] at h; exact h.elim
  . obtain ⟨ds, B, il, _, h⟩ := h
    obtain ⟨t, p, wt⟩ := hb cdv A outer s H E B hr
    refine ⟨t, p, ?_⟩
    unfold dfn at h
    by_cases e : ds.length = ps.length
    . rw [if_pos e] at h
      refine wt (jV N.length ds) (zL N vs) H _ (wD il (fun i hi => by rw [e]; exact hO i hi)) ?_
      have same : ∀ {ρ : Env} {σ : St} {H' : Hp}, Rep K (cfn O [] B H (fun _ => False) (fun _ _ => False) fun _ => none) ρ σ H' -> jm H H' := fun r b o hb => r.kp b o hb fun z => z
      cases eb : body (jV N.length ds) with
      | bad => rw [eb] at h; exact h.elim
      | exc z ρ => rw [eb] at h; exact h.elim
      | ok fl =>
        rw [eb] at h
        cases fl with
        | nx ρ => exact fun σ' H' r' _ => h .non H' (same r') rfl
        | rt d ρ => exact fun v σ' H' r' i' _ => h v H' (same r') i'
        | bk ρ => exact h.elim
        | ct ρ => exact h.elim
    . rw [if_neg e] at h; exact h.elim
theorem qhF {x qual : Str} {st : Stmt} {f : Addr} {fd : FuncData} {N ps : List Str} {k : Nat} {O : List Nat} {body : MS} (F : Fun K x qual st f fd) (S : qt N ps (qd st)) (hO : ∀ i ∈ O, i = 0 \/ ps.length <= i) (h0 : 0 ∈ O)
    (hb : ∀ (cdv : Value) (A : Around) (outer : List PySem.Env) (s : Shared) (H : Hp) (E : XK) (B Io : Addr -> Prop) (S : Nat -> Option (Option V)), y9 k (A.deeper (envOfC qual (qd st) s.heap.objs.size f cdv)) ->
      DSs (qe7 CX0 P w K mg base N qual (qd st) f cdv A outer s H E).nox (cfn O [0] B H Io (fun _ _ => False) S) (qr st) body) :
    jR P w K mg base CX0 (k + 1) f fd ps (qfb K (wC N.length ps.length body)) := by
  refine F.ok S (fun vs H Q E h => ?_) (fun cdv A outer s H vs Q E hr h => ?_)
  . obtain ⟨bs, ds, B, a, xs, vs', rfl, ha, him, ib, nA, il, h⟩ := h
    unfold wC at h
    by_cases e : ds.length + 1 = ps.length
    . rw [List.length_cons, il.length]; exact e
    . rw [if_neg e] at h; exact h.elim
  . obtain ⟨bs, ds, B, a, xs, vs', rfl, ha, him, ib, nA, il, h⟩ := h
    obtain ⟨t, p, wt⟩ := hb cdv A outer s H E B (fun b => b = a) (fun j => (zL N (.ref a :: vs'))[j]?) hr
    refine ⟨t, p, ?_⟩
    unfold wC at h
    by_cases e : ds.length + 1 = ps.length
    . rw [if_pos e] at h
      have only : ∀ j ∈ O, ∀ v, (zL N (.ref a :: vs'))[j]? = some (some v) -> j = 0 /\ v = .ref a := fun j hj v hv => by
        have h1 := u8 hv
        rcases hO j hj with z | z
        . subst z; cases h1; exact ⟨rfl, rfl⟩
        . have := (List.getElem?_eq_some_iff.mp h1).1
          rw [List.length_cons, il.length] at this
          omega
      have r0 : Rep K (cfn O [0] B H (fun b => b = a) (fun _ _ => False) fun j => (zL N (.ref a :: vs'))[j]?) (jV N.length (.lst bs :: ds)) (zL N (.ref a :: vs')) H := by
        refine ⟨by unfold jV zL; simp [il.length], fun i d hd => ?_, fun j hj v hv => ?_, fun i j b hi hj h1 h2 => ?_, fun b hb => .inr hb, fun b o hb _ => hb, fun b hb => hb, fun j hj => ?_, fun _ _ => rfl⟩
        . have h1 := qbs hd
          cases i with
          | zero =>
            cases h1
            exact ⟨.ref a, vZ rfl, .inl ⟨h0, bs, a, xs, rfl, rfl, ha, IsL.ext Ext.refl (fun b hb _ => ⟨.inl hb, fun j hj e2 => by obtain ⟨_, e3⟩ := only j hj _ e2; cases e3; exact nA hb⟩) ib⟩⟩
          | succ i =>
            have h1' : ds[i]? = some d := by simpa using h1
            obtain ⟨v, h2, h3⟩ := il.get h1'
            have hi : i + 1 ∉ O := fun z => by
              have h4 := (List.getElem?_eq_some_iff.mp h1').1
              rcases hO _ z with q | q
              . cases q
              . omega
            refine ⟨v, vZ (by simpa using h2), .inr ⟨hi, Is.ext Ext.refl (fun b hb _ => ⟨.inl hb, fun j hj e2 => ?_⟩) h3⟩⟩
            obtain ⟨_, e3⟩ := only j hj _ e2
            cases e3
            exact nA hb
        . obtain ⟨rfl, rfl⟩ := only j hj v hv
          exact ⟨a, xs, rfl, ha, .inr ⟨by simp [cfn], rfl⟩⟩
        . rw [(only i hi _ h1).1, (only j hj _ h2).1]
        . have : j = 0 := by simpa [cfn] using hj
          rw [this]; exact h0
      refine wt _ _ H _ r0 ?_
      have fin : ∀ {ρ : Env} {σ : St} {H' : Hp} {bs' : List D}, Rep K (cfn O [0] B H (fun b => b = a) (fun _ _ => False) fun j => (zL N (.ref a :: vs'))[j]?) ρ σ H' -> zu 0 ρ = some bs' ->
          ∃ xs', H' a = some (.lst xs') /\ True /\ IsL K (fun b => B b \/ H b = none) H' bs' xs' := fun {ρ σ H' bs'} r e1 => by
        obtain ⟨l, ys, h1, h2, h3, h4⟩ := r.getLO h0 e1
        have h5 := r.ps 0 (by simp [cfn])
        have h6 : (cfn O [0] B H (fun b => b = a) (fun _ _ => False) fun j => (zL N (.ref a :: vs'))[j]?).S 0 = some (some (.ref a)) := vZ rfl
        rw [h2, h6] at h5
        cases h5
        exact ⟨ys, h3, h1, IsL.ext Ext.refl (fun b hb _ => hb.1) h4⟩
      have kps : ∀ {ρ : Env} {σ : St} {H' : Hp}, Rep K (cfn O [0] B H (fun b => b = a) (fun _ _ => False) fun j => (zL N (.ref a :: vs'))[j]?) ρ σ H' -> ∀ b o, b ≠ a -> H b = some o -> H' b = some o := fun r b o hb ho => r.kp b o ho hb
      cases eb : body (jV N.length (.lst bs :: ds)) with
      | bad => rw [eb] at h; exact h.elim
      | exc z ρ => rw [eb] at h; exact h.elim
      | ok fl =>
        rw [eb] at h
        cases fl with
        | nx ρ =>
          cases eg : zu 0 ρ with
          | none => simp only [eg] at h
          | some bs' =>
            simp only [eg] at h
            exact fun σ' H' r' _ => by
              obtain ⟨xs', h1, h2, h3⟩ := fin r' eg
              exact h .non H' xs' (kps r') (fun b hb => r'.dm b hb) h1 h2 h3 rfl
        | rt d ρ =>
          cases eg : zu 0 ρ with
          | none => simp only [eg] at h
          | some bs' =>
            simp only [eg] at h
            exact fun v σ' H' r' i' _ => by
              obtain ⟨xs', h1, h2, h3⟩ := fin r' eg
              exact h v H' xs' (kps r') (fun b hb => r'.dm b hb) h1 h2 h3 i'
        | bk ρ => exact h.elim
        | ct ρ => exact h.elim
    . rw [if_neg e] at h; exact h.elim
end
section
variable {X : Cx} {c : Fc} {a b e : Expr} {pos : Pos}
def qj (F : List D -> R D) (g : M (List D)) : M D := bnd g fun ds ρ => match F ds with
  | .ok d => .ok (d, ρ)
  | _ => .bad
theorem qhG {k : Nat} {f : Addr} {fd : FuncData} {ps : List Str} {F : List D -> R D} {x : Str} {p : Pos} {es : List Expr} {g : M (List D)} (G : jR X.prog X.w X.K X.mg X.base CX0 k f fd ps (spD X.K F)) (hr : y9 k X.A) (hg : Gl X x) (hm : X.mg x = some (.ref f)) (hk : PySem.W.keepIn X.K (.ref f) = true) (hb : ug X.K fd ps [])
    (ha : DA X c (e :: es) g) (hd : (x == ("__debug__" : Str)) = false := by decide) (he : starEach (e :: es) X.env = (false, eval e X.env) :: starEach es X.env := by rfl) (hpl : (backTo pos (starEach es X.env)).any (·.1) = false := by rfl) : DE X c (.Call (.Name x p) (e :: es) [] pos) (qj F g) := by
  obtain ⟨t, pa, w⟩ := ha
  refine ⟨_, wd G hr hg hm hk hb .nil qho pa hd he hpl, fun ρ σ H Q r h => w ρ σ H _ r (WpL.bnd h fun ds ρ1 vs H1 r1 i1 g1 h1 => ?_)⟩
  rw [List.append_nil]
  refine ⟨ds, Cn c σ, i1, fun _ _ => trivial, ?_⟩
  cases ef : F ds with
  | bad => simp only [ef] at h1; exact h1.elim
  | exc z ρ' => simp only [ef] at h1; exact h1.elim
  | ok d =>
    simp only [ef] at h1
    exact fun v H' sm i => h1 v H' (r1.same sm) (Is.ext Ext.refl (fun a ha _ => ha.elim id r1.new) i) (.of_same sm)
def qq (F : List D -> List D -> R (D × List D)) (i : Nat) (g : M (List D)) : M D := fun ρ => match zu i ρ with
  | none => .bad
  | some _ => (bnd g fun ds ρ => match zu i ρ with
    | none => .bad
    | some bs => match F bs ds with
      | .ok (d, bs') => .ok (d, ρ.set i (some (.lst bs')))
      | _ => .bad) ρ
theorem qed {k i : Nat} {f : Addr} {fd : FuncData} {ps : List Str} {F : List D -> List D -> R (D × List D)} {x y : Str} {p p1 : Pos} {es : List Expr} {g : M (List D)} (G : jR X.prog X.w X.K X.mg X.base CX0 k f fd ps (qfb X.K F)) (hr : y9 k X.A) (hg : Gl X x) (hm : X.mg x = some (.ref f)) (hk : PySem.W.keepIn X.K (.ref f) = true) (hb : ug X.K fd ps [])
    (ha : DA X c es g) (ho : i ∈ c.O := by exact of_decide_eq_true rfl) (hN : X.N[i]? = some y := by rfl) (hv : Vis X.env.scope y := by first | exact Or.inl rfl | exact Or.inr (Or.inl rfl) | exact Or.inr (Or.inr rfl)) (hdy : (y == ("__debug__" : Str)) = false := by decide) (hcd : (y == ("__classdict__" : Str)) = false := by decide)
    (hd : (x == ("__debug__" : Str)) = false := by decide) (he : starEach (.Name y p1 :: es) X.env = (false, eval (.Name y p1) X.env) :: starEach es X.env := by rfl) (hpl : (backTo pos (starEach es X.env)).any (·.1) = false := by rfl) : DE X c (.Call (.Name x p) (.Name y p1 :: es) [] pos) (qq F i g) := by
  obtain ⟨t, pa, w⟩ := ha
  refine ⟨_, wd G hr hg hm hk hb .nil qho (jk (uf hN hv hdy hcd) pa he) hd he hpl, fun ρ σ H Q r h => ?_⟩
  unfold qq at h
  cases e0 : zu i ρ with
  | none => simp only [e0] at h; exact h.elim
  | some ds0 =>
    simp only [e0] at h
    obtain ⟨l, xs0, _, hl, hH, _⟩ := r.getLO ho e0
    refine ⟨.ref l, hl, w ρ σ H _ r (WpL.bnd h fun ds ρ1 vs H1 r1 i1 g1 h1 => ?_)⟩
    show qfb X.K F (.ref l :: vs ++ []) H1 Q E0
    rw [List.append_nil]
    cases e1 : zu i ρ1 with
    | none => simp only [e1] at h1; exact h1.elim
    | some bs =>
      simp only [e1] at h1
      obtain ⟨l', xs, him, hl', hH', il⟩ := r1.getLO ho e1
      rw [hl] at hl'
      cases hl'
      refine ⟨bs, ds, Cn c σ, l, xs, vs, rfl, hH', him, il, fun hc => hc.2 i ho hl, i1, ?_⟩
      cases ef : F bs ds with
      | bad => simp only [ef] at h1; exact h1.elim
      | exc z ρ' => simp only [ef] at h1; exact h1.elim
      | ok q =>
        obtain ⟨d, bs'⟩ := q
        simp only [ef] at h1
        intro v H' xs' kp dm ha2 him2 il2 i2
        obtain ⟨r2, g2⟩ := r1.io (bs := bs') ho hl kp ha2 him2 (IsL.ext Ext.refl (fun a ha _ => ha.elim id r1.new) il2) dm
        exact h1 v H' r2 (Is.ext Ext.refl (fun a ha _ => ha.elim id r1.new) i2) g2
end
end L2.Sk
namespace L2.Sk
open PySem PySem.Spec PyProof.Rows
def qfE : Key -> PyData
  | .inl i => .int i
  | .inr x => .str x
mutual
def zq : D -> PyData
  | .non => .none
  | .bl b => .bool b
  | .int i => .int i
  | .str x => .str x
  | .tup ds => .tuple (toPDs ds)
  | .lst ds => .list (toPDs ds)
  | .dic kvs => .dict (kvs.map fun p => (qfE p.1, .int p.2))
  | .fz ns => .list (ns.map .int)
  | .exc _ => .dict [(.int (2 ^ 2000), .none)]
def toPDs : List D -> List PyData
  | [] => []
  | d :: ds => zq d :: toPDs ds
end
mutual
def noL : D -> Bool
  | .tup ds => noLs ds
  | .lst _ => false
  | .fz _ => false
  | _ => true
def noLs : List D -> Bool
  | [] => true
  | d :: ds => noL d && noLs ds
end
mutual
def noX : D -> Bool
  | .tup ds => noXs ds
  | .lst ds => noXs ds
  | .exc _ => false
  | _ => true
def noXs : List D -> Bool
  | [] => true
  | d :: ds => noX d && noXs ds
end
mutual
theorem qgx : ∀ {d : D}, (zq d).showable = true -> noX d = true
  | .non, _ => rfl
  | .bl _, _ => rfl
  | .int _, _ => rfl
  | .str _, _ => rfl
  | .tup ds, h => by unfold noX; exact noXs_sh (by simpa [zq, PyData.showable] using h)
  | .lst ds, h => by unfold noX; exact noXs_sh (by simpa [zq, PyData.showable] using h)
  | .dic _, _ => rfl
  | .fz _, _ => rfl
  | .exc _, h => by
    have e : (PyData.dict [(.int (2 ^ 2000), .none)]).showable = false := by decide +kernel
    rw [show zq (.exc _) = PyData.dict [(.int (2 ^ 2000), .none)] from rfl, e] at h
    cases h
theorem noXs_sh : ∀ {ds : List D}, PyData.showableAll (toPDs ds) = true -> noXs ds = true
  | [], _ => rfl
  | d :: ds, h => by
    have h' : (zq d).showable = true /\ PyData.showableAll (toPDs ds) = true := by simpa [toPDs, PyData.showableAll] using h
    unfold noXs
    rw [qgx h'.1, noXs_sh h'.2]; rfl
end
mutual
theorem qee : ∀ {d : D}, (zq d).canLay0 = true -> noX d = true
  | .non, _ => rfl
  | .bl _, _ => rfl
  | .int _, _ => rfl
  | .str _, _ => rfl
  | .tup ds, h => by unfold noX; exact noXs_lay (by simpa [zq, PyData.canLay0] using h)
  | .lst ds, h => by unfold noX; exact noXs_lay (by simpa [zq, PyData.canLay0] using h)
  | .dic _, _ => rfl
  | .fz _, _ => rfl
  | .exc _, h => by simp [zq, PyData.canLay0] at h
theorem noXs_lay : ∀ {ds : List D}, PyData.canLayAll0 (toPDs ds) = true -> noXs ds = true
  | [], _ => rfl
  | d :: ds, h => by
    have h' : (zq d).canLay0 = true /\ PyData.canLayAll0 (toPDs ds) = true := by simpa [toPDs, PyData.canLayAll0] using h
    unfold noXs
    rw [qee h'.1, noXs_lay h'.2]; rfl
end
theorem u9 {h : Heap} : ∀ {ns : List Int} {us : List Value}, qY (ns.map V.int) us -> ∃ as, ReadsAll h us (ns.map .int) as
  | [], us, r => by
    rw [List.map_nil] at r; cases r; exact ⟨[], .nil⟩
  | n :: ns, us, r => by
    rw [List.map_cons] at r
    cases r with
    | cons r1 r2 =>
      obtain ⟨t, e⟩ := r1
      subst e
      obtain ⟨as, q⟩ := u9 (ns := ns) r2
      exact ⟨[] ++ as, .cons (.int n t) q⟩
theorem qb4 {α : Type} {x : α} {l l' : List α} (h1 : x ∉ l) (h2 : x ∉ l') : x ∉ l ++ l' := fun h => (List.mem_append.mp h).elim h1 h2
theorem wE {P : Program} {w : World} {h : Heap} : ∀ {kvs : List (Key × Int)} {es : List DictEntry} {vs : List (Key × Value)}, KV (kvs.map fun p => (p.1, V.int p.2)) vs -> Pairs (qay P w) es vs ->
    ReadsAll h (es.map (·.key)) ((kvs.map fun p => (qfE p.1, PyData.int p.2)).map (·.1)) [] /\ ReadsAll h (es.map (·.val)) ((kvs.map fun p => (qfE p.1, PyData.int p.2)).map (·.2)) []
  | [], es, vs, r, p => by
    have r' : KV ([] : List (Key × V)) vs := r
    unfold KV at r'
    cases r'
    cases p
    exact ⟨.nil, .nil⟩
  | (k, i) :: kvs, es, vs, r, p => by
    have r' : KV ((k, V.int i) :: kvs.map fun p => (p.1, V.int p.2)) vs := r
    unfold KV at r'
    cases r' with
    | cons r1 r2 =>
      cases p with
      | cons p1 p2 p3 =>
        obtain ⟨q1, q2⟩ := wE (h := h) (kvs := kvs) r2 p3
        obtain ⟨e1, t, e2⟩ := r1
        have hk : ∀ {e : DictEntry} {kv : Key × Value}, k = kv.1 -> (qay P w).is kv.1 e.key = true -> Reads h e.key (qfE k) [] := fun {e kv} hk hi => by
          subst hk
          rcases zj hi with ⟨i, t, e1, e2⟩ | ⟨x, t, e1, e2⟩
          . rw [e1, e2]; exact .int i t
          . rw [e1, e2]; exact .str x t
        refine ⟨.cons (as := []) (bs := []) (hk e1 p1) q1, .cons (as := []) (bs := []) ?_ q2⟩
        show Reads h _ (.int i) []
        dsimp only
        rw [p2, e2]
        exact .int i t
section
variable {X : Cx} {pins : List (Addr × Obj)} {σ : St} {H : Hp} {s : Shared} {A : Addr -> Prop}
mutual
theorem yx (I : Inv X pins σ H s) : ∀ {d : D} {v : V} {u : Value}, noX d = true -> Is X.K A H d v -> jv v u -> ∃ as, Reads s.heap u (zq d) as /\ (noL d = true -> sysModules ∉ as)
  | .non, _, _, _, h, r => by cases h; cases r; exact ⟨[], .none, by simp⟩
  | .bl b, _, _, _, h, r => by cases h; cases r; exact ⟨[], .bool b, by simp⟩
  | .int i, _, _, _, h, r => by cases h; obtain ⟨t, rfl⟩ := r; exact ⟨[], .int i t, by simp⟩
  | .str x, _, _, _, h, r => by cases h; obtain ⟨t, rfl⟩ := r; exact ⟨[], .str x t, by simp⟩
  | .tup ds, _, _, nx, ⟨a, xs, hv, ta, il⟩, r => by
    subst hv
    cases r
    obtain ⟨its, rv, p, _⟩ := I.tuple ta.sq
    obtain ⟨o, h1, h2, n, h3⟩ := p
    obtain ⟨as, q, nl⟩ := readsL_of I (by simpa [noX] using nx) il rv
    exact ⟨as, .tuple h1 h2 h3 (by simpa using q), fun z => nl (by simpa [noL] using z)⟩
  | .lst ds, _, _, nx, ⟨a, xs, hv, _, ta, il⟩, r => by
    subst hv
    cases r
    obtain ⟨its, rv, p, _⟩ := I.list (SqL.of ta)
    obtain ⟨o, h1, h2, n, h3⟩ := p.isList
    obtain ⟨as, q, nl⟩ := readsL_of I (by simpa [noX] using nx) il rv
    exact ⟨a :: as, .list h1 h2 h3 (by simpa using q), fun z => by simp [noL] at z⟩
  | .dic kvs, _, _, _, ⟨a, hv, _, ta⟩, r => by
    subst hv
    cases r
    obtain ⟨hz, hS, vs, rk, o, es, ep, h1, h2, h3, h4, h5, h6⟩ := (show yf X.prog X.w H s.heap a (.dK _) from I.hok a _ ta)
    obtain ⟨q1, q2⟩ := wE (h := s.heap) rk h5
    refine ⟨_, Reads.dict (as := []) (bs := []) h1 h2.1 h3 q1 q2, fun _ hm => ?_⟩
    have : sysModules = a := by simpa using hm
    rw [<- this] at hS
    simp at hS
  | .exc _, _, _, nx, _, _ => by simp [noX] at nx
  | .fz ns, _, _, _, ⟨a, hv, ta⟩, r => by
    subst hv
    cases r
    obtain ⟨its, rv, p, _⟩ := I.list ta.sq
    obtain ⟨o, h1, h2, n, h3⟩ := p.isList
    obtain ⟨as, q⟩ := u9 rv
    exact ⟨a :: as, .list h1 h2 h3 (by simpa using q), fun z => by simp [noL] at z⟩
theorem readsL_of (I : Inv X pins σ H s) : ∀ {ds : List D} {xs : List V} {us : List Value}, noXs ds = true -> IsL X.K A H ds xs -> qY xs us -> ∃ as, ReadsAll s.heap us (toPDs ds) as /\ (noLs ds = true -> sysModules ∉ as)
  | [], _, _, _, h, r => by cases h; cases r; exact ⟨[], .nil, by simp⟩
  | d :: ds, _, _, nx, ⟨x, ys, hx, h1, h2⟩, r => by
    subst hx
    cases r with
    | cons r1 r2 =>
      have nx' : noX d = true /\ noXs ds = true := by simpa [noXs] using nx
      obtain ⟨as, q1, n1⟩ := yx I nx'.1 h1 r1
      obtain ⟨bs, q2, n2⟩ := readsL_of I nx'.2 h2 r2
      exact ⟨as ++ bs, .cons q1 q2, fun z => by
        have z' : noL d = true /\ noLs ds = true := by simpa [noLs] using z
        exact qb4 (n1 z'.1) (n2 z'.2)⟩
end
end
def vO (d : D) : Bool := (zq d).showable && decide ((zq d).shown.length <= sizeLine) && decide ((zq d).depth <= 50) && (!(zq d).hasDict || noL d)
def qjt (K : Fr0) : List V -> Hp -> VK -> Prop := fun xs H Q => ∃ v d A, xs = [v] /\ Is K A H d v /\ vO d = true /\ Q (.str (zq d).shown) H
section
variable {X : Cx}
theorem j6 {k : Nat} (hr : y9 k X.A) : yD X (.builtin "repr") (qjt X.K) := by
  intro pins s σ H xs us Q I r h
  obtain ⟨v, d, A, rfl, hi, ok, q⟩ := h
  obtain ⟨u, rfl, ru⟩ := qY.one r
  unfold vO at ok
  simp only [Bool.and_eq_true, decide_eq_true_eq] at ok
  obtain ⟨⟨⟨o1, o2⟩, o3⟩, o4⟩ := ok
  obtain ⟨as, rd, nl⟩ := yx I (qgx o1) hi ru
  have hun := hr.un
  have big : ∀ a, u = .ref a -> wpAny (model X.prog X.w) X.A (call (.builtin "repr") [u]) (EP X pins σ Q) X.xe s := fun a e => by
    subst e
    refine repr_of_reads' rd o1 (fun hd => nl ?_) hr.gd (by omega) (fun _ _ e => e) (fun h' u tk hk => ⟨.str _, H, I.kept hk, ⟨_, rfl⟩, q⟩) o2
    rw [hd] at o4
    simpa using o4
  cases d with
  | non => cases hi; cases ru; exact PySem.P.repr_of_none ⟨.str _, H, I.tok _, ⟨_, rfl⟩, q⟩
  | bl b => cases hi; cases ru; exact PySem.P.repr_of_bool ⟨.str _, H, I.tok _, ⟨s.toks, by cases b <;> rfl⟩, q⟩
  | int i =>
    cases hi; obtain ⟨t, rfl⟩ := ru
    exact PySem.P.repr_of_int (of_decide_eq_true o1) ⟨.str _, H, I.tok _, ⟨_, rfl⟩, q⟩
  | str x => cases hi; obtain ⟨t, rfl⟩ := ru; exact PySem.P.repr_of_str ⟨.str _, H, I.tok _, ⟨_, rfl⟩, q⟩ o2
  | tup ds => obtain ⟨a, zs, rfl, _⟩ := hi; exact big a ru
  | lst ds => obtain ⟨a, zs, rfl, _⟩ := hi; exact big a ru
  | dic kvs => obtain ⟨a, rfl, _⟩ := hi; exact big a ru
  | fz ns => obtain ⟨a, rfl, _⟩ := hi; exact big a ru
  | exc C => obtain ⟨a, rfl, _⟩ := hi; exact big a ru
end
def zE : List D -> Option D
  | [d] => if vO d then some (.str (zq d).shown) else none
  | _ => none
theorem j7 {K : Fr0} : wY K zE (qjt K) := by
  intro A H xs d vs Q hn h e k
  unfold zE at e
  split at e
  . rename_i d0
    obtain ⟨v, rfl, e2⟩ := IsL.inv1 h
    obtain ⟨e6, e7⟩ := zM e
    subst e7
    exact ⟨v, d0, A, rfl, e2, e6, k _ H (jm.refl H) rfl⟩
  . cases e
def v0 (d : D) : Bool := (zq d).canLay0 && decide ((zq d).depth <= 50)
def qgy (K : Fr0) (neg : Bool) : R2 := fun x y H Q => ∃ d e A, Is K A H d x /\ Is K A H e y /\ v0 d = true /\ v0 e = true /\ Q (.bl (if neg then !PyData.eqv (zq d) (zq e) else PyData.eqv (zq d) (zq e))) H
section
variable {X : Cx}
theorem qaF {d : D} (h : v0 d = true) : SeqAt.shaped (zq d) = true := by
  unfold v0 at h
  unfold SeqAt.shaped
  simp only [Bool.and_eq_true, decide_eq_true_eq] at h |-
  exact ⟨h.1, by omega⟩
theorem qak {d : D} (h : v0 d = true) : noX d = true := by
  unfold v0 at h
  rw [Bool.and_eq_true] at h
  exact qee h.1
theorem qju {k : Nat} (hr : y9 k X.A) : OpR X (compareOp .Eq) (qgy X.K false) := by
  intro pins s σ H x y v u Q I rx ry h
  obtain ⟨d, e, A, h1, h2, o1, o2, q⟩ := h
  obtain ⟨as, r1, _⟩ := yx I (qak o1) h1 rx
  obtain ⟨bs, r2, _⟩ := yx I (qak o2) h2 ry
  exact SeqAt.compareEq_shaped r1 r2 (qaF o1) (qaF o2) hr.units ⟨.bl _, H, I, rfl, by simpa using q⟩
theorem qgz {k : Nat} (hr : y9 k X.A) : OpR X (compareOp .NotEq) (qgy X.K true) := by
  intro pins s σ H x y v u Q I rx ry h
  obtain ⟨d, e, A, h1, h2, o1, o2, q⟩ := h
  obtain ⟨as, r1, _⟩ := yx I (qak o1) h1 rx
  obtain ⟨bs, r2, _⟩ := yx I (qak o2) h2 ry
  exact SeqAt.compareNe_shaped r1 r2 (qaF o1) (qaF o2) hr.units ⟨.bl _, H, I, rfl, by simpa using q⟩
end
def eqA (x y : D) : Option D := if v0 x && v0 y then some (.bl (PyData.eqv (zq x) (zq y))) else none
def neA (x y : D) : Option D := if v0 x && v0 y then some (.bl (!PyData.eqv (zq x) (zq y))) else none
theorem qhH {K : Fr0} : OpS K eqA (qgy K false) := by
  intro A H x y d v u Q hn ix iy e k
  obtain ⟨e1, e2⟩ := zM e
  rw [Bool.and_eq_true] at e1
  subst e2
  exact ⟨x, y, A, ix, iy, e1.1, e1.2, k _ H (jm.refl H) rfl⟩
theorem qhI {K : Fr0} : OpS K neA (qgy K true) := by
  intro A H x y d v u Q hn ix iy e k
  obtain ⟨e1, e2⟩ := zM e
  rw [Bool.and_eq_true] at e1
  subst e2
  exact ⟨x, y, A, ix, iy, e1.1, e1.2, k _ H (jm.refl H) rfl⟩
section
variable {X : Cx} {c : Fc} {a b e : Expr} {pos : Pos}
def qgA (i : Nat) (g : M D) : M D := fun ρ => match zu i ρ with
  | none => .bad
  | some _ => (bnd g fun y ρ => match zu i ρ with
    | none => .bad
    | some ds => lift (neA (.lst ds) y) ρ) ρ
theorem qjv {i k : Nat} {x : Str} {p1 : Pos} {g : M D} (hr : y9 k X.A) (hb : DE X c b g) (ho : i ∈ c.O := by exact of_decide_eq_true rfl) (hN : X.N[i]? = some x := by rfl) (hv : Vis X.env.scope x := by first | exact Or.inl rfl | exact Or.inr (Or.inl rfl) | exact Or.inr (Or.inr rfl)) (hd : (x == ("__debug__" : Str)) = false := by decide) (hcd : (x == ("__classdict__" : Str)) = false := by decide) :
    DT X c (.Compare (.Name x p1) [.NotEq] [b] pos) (tst (qgA i g)) := by
  obtain ⟨tb, pb, wb⟩ := hb
  refine ⟨_, qdM (qgz hr) (uf hN hv hd hcd) pb (zF _), fun ρ σ H Q r h => ?_⟩
  unfold tst qgA bnd at h
  cases e0 : zu i ρ with
  | none => simp only [e0] at h; exact h.elim
  | some ds0 =>
    simp only [e0] at h
    obtain ⟨l, xs0, _, hl, hH, _⟩ := r.getLO ho e0
    refine ⟨.ref l, hl, wb ρ σ H _ r ?_⟩
    cases eg : g ρ with
    | bad => simp only [eg] at h; exact h
    | exc z ρ' => simp only [eg] at h; exact h
    | ok q =>
      obtain ⟨y, ρ1⟩ := q
      simp only [eg] at h
      intro u H1 r1 i1 g1
      cases e1 : zu i ρ1 with
      | none => simp only [e1] at h; exact h.elim
      | some ds =>
        simp only [e1] at h
        cases en : neA (.lst ds) y with
        | none => simp only [en, lift] at h; exact h.elim
        | some d =>
          simp only [en, lift, ret] at h
          obtain ⟨e3, e4⟩ := zM en
          rw [Bool.and_eq_true] at e3
          subst e4
          obtain ⟨l', xs, him, hl', hH', il⟩ := r1.getLO ho e1
          rw [hl] at hl'
          cases hl'
          refine ⟨.lst ds, y, fun _ => True, ⟨l, xs, rfl, trivial, hH', IsL.ext Ext.refl (fun _ h _ => trivial) il⟩, Is.ext Ext.refl (fun _ _ _ => trivial) i1, e3.1, e3.2, _, rfl, ?_⟩
          exact h H1 r1 g1
end
end L2.Sk
namespace L2.Sk
open PySem PySem.Spec PyProof.Rows
section
variable {prog : Program} {w : World} {A : Around} {E : Value -> Shared -> Prop} {s : Shared}
theorem qhJ {it tu : Addr} {k : Nat} {arr : Array Value} {x : Value} {Q : Value -> Shared -> Prop} (hI : s.heap.IsTupleIter it tu k) (hT : s.heap.IsTuple tu arr) (hx : arr[k]? = some x)
    (q : ∀ h', h'.IsTupleIter it tu (k + 1) -> Heap.SameBut it s.heap h' -> Q x { s with heap := h' }) : wpAny (model prog w) A (Builtin.SmallTypes.nextOf (.ref it)) Q E s := by
  obtain ⟨ob, e1, e2, e3⟩ := id hI
  obtain ⟨ot, f1, _, m, f2⟩ := hT
  unfold Builtin.SmallTypes.nextOf
  refine wpAny_bind (wpAny_callSpecial?_slot (name := Str.ofString "__next__") hI.typeIs F.slot_tuple_iterator_next (wpAny_call_entry F.slot_tuple_iterator_next hI.typeIs F.entry_tuple_iterator_next ?_ (F.args_tuple_iterator_next_1 _)))
  show wpAny (model prog w) _ (field (Value.ref it) 0 >>= _) _ _ s
  refine wpAny_bind (wpAny_field e1 e3 (x := Value.ref tu) rfl ?_)
  show wpAny (model prog w) _ (if (Value.ref tu == Value.none) = true then _ else _) _ _ s
  rw [if_neg (show ¬ ((Value.ref tu == Value.none) = true) from Bool.false_ne_true)]
  show wpAny (model prog w) _ (field (Value.ref it) 1 >>= _) _ _ s
  refine wpAny_bind (wpAny_field e1 e3 (x := Value.int k 0) rfl ?_)
  show wpAny (model prog w) _ (seqItems? (Value.ref tu) >>= _) _ _ s
  refine wpAny_bind (wpAny_seqItems f1 f2 ?_)
  simp only [Int.toNat_natCast, hx]
  refine wpAny_bind (wpAny_setField e1 e3 (by simp) (wpAny_pure ⟨x, rfl, wpAny_pure (q _ ?_ (Heap.SameBut.update ..))⟩))
  exact ⟨_, Heap.get?_update_self _ e1 (Obj.isFreed_of_fields (Obj.data_mapFields e3 _)), (Obj.cls_mapFields ..).trans e2, by rw [Obj.data_mapFields e3]; simp [rawInt]⟩
theorem qhK {it tu : Addr} {k : Nat} {arr : Array Value} {Q : Value -> Shared -> Prop} (hh : A.handled = none) (hI : s.heap.IsTupleIter it tu k) (hT : s.heap.IsTuple tu arr) (hx : arr[k]? = none)
    (q : ∀ h' e, Heap.ExtBut it s.heap h' -> (∃ o, h'.get? e = some o /\ o.cls = .type "StopIteration") -> E (.ref e) { s with heap := h' }) : wpAny (model prog w) A (Builtin.SmallTypes.nextOf (.ref it)) Q E s := by
  obtain ⟨ob, e1, e2, e3⟩ := id hI
  obtain ⟨ot, f1, _, m, f2⟩ := hT
  unfold Builtin.SmallTypes.nextOf
  refine wpAny_bind (wpAny_callSpecial?_slot (name := Str.ofString "__next__") hI.typeIs F.slot_tuple_iterator_next (wpAny_call_entry F.slot_tuple_iterator_next hI.typeIs F.entry_tuple_iterator_next ?_ (F.args_tuple_iterator_next_1 _)))
  show wpAny (model prog w) _ (field (Value.ref it) 0 >>= _) _ _ s
  refine wpAny_bind (wpAny_field e1 e3 (x := Value.ref tu) rfl ?_)
  show wpAny (model prog w) _ (if (Value.ref tu == Value.none) = true then _ else _) _ _ s
  rw [if_neg (show ¬ ((Value.ref tu == Value.none) = true) from Bool.false_ne_true)]
  show wpAny (model prog w) _ (field (Value.ref it) 1 >>= _) _ _ s
  refine wpAny_bind (wpAny_field e1 e3 (x := Value.int k 0) rfl ?_)
  show wpAny (model prog w) _ (seqItems? (Value.ref tu) >>= _) _ _ s
  refine wpAny_bind (wpAny_seqItems f1 f2 ?_)
  simp only [Int.toNat_natCast, hx]
  refine wpAny_bind (wpAny_rule (wpAny_bind (wpAny_setField e1 e3 (by simp) ?_)))
  show wpAny (model prog w) _ (newExc (Value.type "StopIteration") [] >>= _) _ _ _
  refine wpAny_bind ?_
  simp only [newExc, newTuple]
  refine wpAny_bind (wpAny_newObj_type ?_ (by size_fits))
  refine wpAny_bind (m := firstArgMember _ _) (wpAny_of_eq (a := Value.none) (by first | rfl | (simp only [firstArgMember]; rfl)) ?_)
  refine wpAny_newObj_type ?_ (by size_fits)
  simp only [raiseNew]
  refine wpAny_bind (wpAny_handled ?_)
  first | rw [show A.in1.handled = none from hh] | rw [hh]
  exact wpAny_bind (wpAny_pure (wpAny_throw (q _ _ (((Heap.SameBut.update ..).extBut.push _).push _) ⟨_, Heap.get?_push_size _ rfl, rfl⟩)))
end
theorem qcy {prog : Program} {w : World} {A : Around} (hh : A.handled = none) (it tu : Addr) (hne : tu ≠ it) (arr : Array Value) :
    Draws prog w A it [it, tu] arr.size (fun i x => arr[i]? = some x) (fun i h => h.IsTupleIter it tu i /\ h.IsTuple tu arr) where
  live := fun i h st => by obtain ⟨⟨o, e, _⟩, _⟩ := st; exact ⟨o, e⟩
  frame := fun i h h' st k => by
    obtain ⟨h1, o, e, r⟩ := st
    exact ⟨h1.at fun o q => k it (by simp) o q, o, k tu (by simp) o e, r⟩
  item := fun i s Q E hi st q => qhJ st.1 st.2 (Array.getElem?_eq_getElem hi) fun h' h1 sb => q _ h' s.toks (Array.getElem?_eq_getElem hi) ⟨h1, by
    obtain ⟨o, e, r⟩ := st.2
    exact ⟨o, sb.extBut _ _ hne e, r⟩⟩ sb
  done := fun s Q E st q => qhK hh st.1 st.2 (Array.getElem?_eq_none (Nat.le_refl _)) q
section
variable {prog : Program} {w : World} {A : Around} {E : Value -> Shared -> Prop} {s : Shared} {z TI TO i1 i2 : Addr} {fp1 fp2 : List Addr} {n1 n2 k : Nat} {P1 P2 : Nat -> Value -> Prop} {S1 S2 : Nat -> Heap -> Prop}
end
section
variable {X : Cx} {pins : List (Addr × Obj)} {σ : St} {H : Hp} {s : Shared} {h' : Heap}
theorem qhL {ch : List Addr} {T : Addr} {o : HO} {t' : Nat} (I : Inv X pins σ H s) (k : ∀ b u, b ∉ ch -> s.heap.get? b = some u -> h'.get? b = some u) (hf : ∀ b ∈ ch, qbV X pins H b) (hT : s.heap.objs.size <= T) (new : yf X.prog X.w (upd H T o) h' T o) :
    Inv X pins σ (upd H T o) { s with heap := h', toks := t' } := by
  have hn : H T = none := I.hok.fresh hT
  have nch : ∀ b u, H b = some u -> b ∉ ch := fun b u e z => by rw [(hf b z).1] at e; cases e
  refine I.step (g' := s.gens) (d' := s.drawn) (ch := ch) (fun b hb => ⟨(hf b hb).2.2.2.1, (hf b hb).2.1, (hf b hb).2.2.2.2.1, (hf b hb).2.2.2.2.2⟩) (fun b u _ _ hc e _ => k b u hc e) (fun b u _ _ hc e _ => ⟨u.slots, k b u hc e⟩) (fun b u hc e n => ?_)
    (fun b u hc e => ⟨u, k b u hc e⟩) (fun b xs e => by rw [qs (qN e hn)]; exact e) (fun b u xs e => by rw [qs (qN e hn)]; exact e) (fun b ps e => ⟨#[], by rw [qs (qN e hn), e]; simp⟩) (fun m hm => ?_) (fun b u e => ?_) I.bare
  . rw [qs (Nat.ne_of_lt (Nat.lt_of_lt_of_le (Heap.lt_size e) hT))]; exact n
  . obtain ⟨ob, es, ep, ho, r⟩ := hm
    exact ⟨ob, es, ep, k _ ob (fun z => (hf _ z).2.1 rfl) ho, r⟩
  . by_cases hb : b = T
    . subst hb; rw [qv] at e; cases e; exact new
    . rw [qs hb] at e
      refine (I.hok b u e).stay (fun c v hc q => k c v ?_ q) (fun c q => by rw [qs (qN q hn)]; exact q) fun c xs q => by rw [qs (qN q hn)]; exact q
      rcases hc with z | z
      . rw [z]; exact nch b u e
      . exact nch c _ z
theorem qhM {ch : List Addr} {t' : Nat} (I : Inv X pins σ H s) (k : ∀ b u, b ∉ ch -> s.heap.get? b = some u -> h'.get? b = some u) (hf : ∀ b ∈ ch, qbV X pins H b) : Inv X pins σ H { s with heap := h', toks := t' } := by
  have nch : ∀ b u, H b = some u -> b ∉ ch := fun b u e z => by rw [(hf b z).1] at e; cases e
  refine I.step (g' := s.gens) (d' := s.drawn) (ch := ch) (fun b hb => ⟨(hf b hb).2.2.2.1, (hf b hb).2.1, (hf b hb).2.2.2.2.1, (hf b hb).2.2.2.2.2⟩) (fun b u _ _ hc e _ => k b u hc e) (fun b u _ _ hc e _ => ⟨u.slots, k b u hc e⟩) (fun b u hc e n => n)
    (fun b u hc e => ⟨u, k b u hc e⟩) (fun b xs e => e) (fun b u xs e => e) (fun b ps e => ⟨#[], by rw [e]; simp⟩) (fun m hm => ?_) (fun b u e => ?_) I.bare
  . obtain ⟨ob, es, ep, ho, r⟩ := hm
    exact ⟨ob, es, ep, k _ ob (fun z => (hf _ z).2.1 rfl) ho, r⟩
  . refine (I.hok b u e).stay (fun c v hc q => k c v ?_ q) (fun c q => q) fun c xs q => q
    rcases hc with z | z
    . rw [z]; exact nch b u e
    . exact nch c _ z
end
section
variable {X : Cx} {c : Fc} {a b e : Expr} {pos : Pos} {es : List Expr} {kk : Nat} {tp : Pos}
def qlf : List D -> List D -> List D
  | x :: xs, y :: ys => .tup [x, y] :: qlf xs ys
  | _, _ => []
def qkM : List D -> Option (List D)
  | [.tup xs, .tup ys] => some (qlf xs ys)
  | _ => none
def qlg (f : M (List D)) : M (List D) := bnd f fun ds => lift (qkM ds)
end
end L2.Sk
namespace L2.Sk
open PySem PySem.Spec PyProof.Rows
theorem qaG : fillsNumberSlot (.type "tuple") "mul" = pure false := by
  first | kernel_rfl | (unfold fillsNumberSlot; kernel_rfl) | decide +kernel
theorem qdg : seqRepeat? (.type "tuple") = pure (some (.builtin "tuple.__mul__")) := by
  first | kernel_rfl | (unfold seqRepeat?; kernel_rfl) | decide +kernel
theorem qbt (a : Int) (t : Tok) (l : Addr) (dd : Option Addr) (items : Array Value) (n : Nat) (sl : Array (Option Value)) :
    Meets (Builtin.«int.__rmul__» ⟨[.int a t, .ref l], []⟩) (fun _ R s => s.heap.get? l = some { cls := .type "tuple", dict := dd, data := .seq items n, slots := sl } /\ R (.ok (.ret .notImplemented)) s) :=
  .of_wp fun prog w A R s h => by
    obtain ⟨hp, g, d, tk, os⟩ := s
    obtain ⟨hl, h⟩ := h
    wp_walk using wpAny_loadPart' hl
    exact ⟨_, rfl, h⟩
theorem qjw (l : Addr) (dd : Option Addr) (items : Array Value) (n : Nat) (sl : Array (Option Value)) (k : Int) (t : Tok) (h0 : ¬ items.isEmpty = true) (h1 : ¬ (k == 1) = true) (h2 : ¬ k <= 0) (h3 : ¬ (decide (k < -(2 ^ 63)) || decide (k >= 2 ^ 63)) = true)
    (h4 : ¬ (items.size : Int) * k > (2 ^ 63 - 1) / 8) (h5 : ¬ Builtin.Tuple.tupleTooMany ((items.size : Int) * k) = true) (h6 : ((List.replicate k.toNat items).foldl (· ++ ·) #[]).size <= sizeLine) :
    Meets (Builtin.«tuple.__mul__» ⟨[.ref l, .int k t], []⟩) (fun _ R s => s.heap.get? l = some { cls := .type "tuple", dict := dd, data := .seq items n, slots := sl } /\
      R (.ok (.ret (.ref s.heap.objs.size))) { s with heap := s.heap.push { cls := .type "tuple", data := .seq ((List.replicate k.toNat items).foldl (· ++ ·) #[]) } }) :=
  .of_wp fun prog w A R s h => by
    obtain ⟨hp, g, d, tk, os⟩ := s
    obtain ⟨hl, h⟩ := h
    have f1 := AutoSeq1.idx_int
    have f2 := AutoSeq1.sub_tuple_tuple
    have h01 : ¬ (items.isEmpty || k == 1) = true := by simp only [Bool.or_eq_true, not_or]; exact ⟨h0, h1⟩
    have h02 : ¬ (decide (k <= 0) || items.isEmpty) = true := by simp only [Bool.or_eq_true, decide_eq_true_eq, not_or]; exact ⟨h2, h0⟩
    wp_walk using wpAny_loadPart' hl
    rw [if_neg h3]
    wp_walk using wpAny_loadPart' hl
    rw [if_neg h4]
    wp_walk using wpAny_loadPart' hl
    exact ⟨_, rfl, h⟩
section
variable {X : Cx}
def qjx (K : Fr0) : R2 := fun x y H Q => ∃ a xs k, x = .ref a /\ y = .int k /\ SqT K H a xs /\ xs ≠ [] /\ 2 <= k /\ xs.length * k.toNat <= sizeLine /\ ∀ p, H p = none -> Q (.ref p) (upd H p (.tup (List.replicate k.toNat xs).flatten))
theorem qhN : OpR X (binaryOp .Mult) (qjx X.K) := by
  intro pins s σ H x y v u Q I rx ry h
  obtain ⟨a, xs, k, rfl, rfl, hx, hne, hk, hz, q⟩ := h
  cases rx
  obtain ⟨t, rfl⟩ := ry
  obtain ⟨its, r, p1, _⟩ := I.tuple hx
  obtain ⟨⟨cls, dd, data, sl⟩, ho, hc, n, hd⟩ := id p1
  simp only at hc hd
  subst hc hd
  have hl := r.length
  have hnew : List.foldl (fun x1 x2 => x1 ++ x2) #[] (List.replicate k.toNat its.toArray) = (List.replicate k.toNat its).flatten.toArray := by
    have := wl its k.toNat []
    rw [List.nil_append] at this
    exact this
  have hlen : (List.replicate k.toNat its).flatten.length = k.toNat * its.length := qb0 its k.toNat
  have hsl : (sizeLine : Nat) = 16777216 := sizeLine_eq
  have e0 : ¬ its.toArray.isEmpty = true := by
    intro e
    have : its = [] := by simpa using e
    rw [this] at hl
    exact hne (List.length_eq_zero_iff.mp hl)
  have pos1 : 1 <= its.length := by
    cases its with
    | nil => simp at e0
    | cons z zs => simp
  have kk : ((k.toNat : Nat) : Int) = k := Int.toNat_of_nonneg (by omega)
  have mm : (its.toArray.size : Int) * k = ((its.length * k.toNat : Nat) : Int) := by rw [List.size_toArray, Int.natCast_mul, kk]
  have zz : its.length * k.toNat <= sizeLine := by rw [<- hl]; exact hz
  have kle : k.toNat <= its.length * k.toNat := Nat.le_mul_of_pos_left _ pos1
  have T1 : s.TypeIs (.ref a) "tuple" := ⟨_, ho, rfl⟩
  refine wpAny_binaryOp_repeat_ref (T := "tuple") (U := "int") (by decide) T1 (fun s' => typeIs_int s' k t) qaG F.fills_int_mul F.slot_int_rmul qdg F.slot_int_index.lookup
    (call_meets F.slot_int_rmul (typeIs_int s k t) F.entry_int_rmul (F.args_int_rmul_2 _ _) (qbt k t a dd its.toArray n sl)
      ⟨ho, rfl, T1, call_meets F.slot_tuple_mul T1 F.entry_tuple_mul (F.args_tuple_mul_2 _ _) (qjw a dd its.toArray n sl k t e0 (by simp; omega) (by omega) (by simp; omega) (by rw [mm]; omega) ?_ (by rw [hnew, List.size_toArray, hlen, Nat.mul_comm]; exact zz)) ⟨ho, ?_⟩⟩)
  . rw [mm]
    show ¬ decide (((its.length * k.toNat : Nat) : Int) > (sizeLine : Int)) = true
    rw [decide_eq_true_eq]
    omega
  . rw [hnew]
    refine ⟨.ref s.heap.objs.size, _, I.laid (t' := s.toks) (o := .tup (List.replicate k.toNat xs).flatten) (fun b ob q => Heap.get?_push_of_some _ q) (Nat.le_refl _) ?_, rfl, q _ (I.hok.fresh (Nat.le_refl _))⟩
    exact ⟨by rw [qb0, Nat.mul_comm]; exact hz, _, r.rep k.toNat, IsTup.new _ _⟩
def qjy (K : Fr0) : R2 := fun x y H Q => (rI qiZ (fun i j => .int (i * j))) x y H Q \/ (qjx K x y H Q \/ qlc x y H Q)
theorem jo : OpR X (binaryOp .Mult) (qjy X.K) := OpR.or qi1 (OpR.or qhN qjg)
end
def yr : D -> D -> Option D
  | .int i, .int j => if qb1 i j then some (.int (i * j)) else none
  | .tup ds, .int k => if (!ds.isEmpty && decide (2 <= k)) && qG (ds.length * k.toNat) then some (.tup (List.replicate k.toNat ds).flatten) else none
  | .lst ds, .int k => if (decide (-(2 ^ 62) <= k) && decide (k < 2 ^ 62)) && qG (ds.length * k.toNat) then some (.lst (List.replicate k.toNat ds).flatten) else none
  | _, _ => none
theorem IsL.rep {K : Fr0} {A : Addr -> Prop} {H : Hp} {ds : List D} {xs : List V} (h : IsL K A H ds xs) : ∀ k : Nat, IsL K A H (List.replicate k ds).flatten (List.replicate k xs).flatten
  | 0 => by simp [IsL]
  | k + 1 => by
    rw [List.replicate_succ, List.replicate_succ, List.flatten_cons, List.flatten_cons]
    exact IsL.append h (IsL.rep h k)
theorem zI {K : Fr0} : OpS K yr (qjy K) := by
  intro A H x y d v u Q hn ix iy e k
  cases x <;> cases y <;> simp only [yr] at e <;> try (cases e; done)
  . rename_i i j
    obtain ⟨e1, e2⟩ := zM e
    subst e2
    cases ix; cases iy
    exact .inl ⟨i, j, rfl, rfl, qfp e1, k _ H (jm.refl H) rfl⟩
  . rename_i ds j
    obtain ⟨a, xs, rfl, ta, il⟩ := ix
    cases iy
    obtain ⟨e1, e2⟩ := zM e
    subst e2
    rw [Bool.and_eq_true, Bool.and_eq_true] at e1
    obtain ⟨⟨e3, e4⟩, e5⟩ := e1
    refine .inr (.inl ⟨a, xs, j, rfl, rfl, ta.sq, fun z => ?_, of_decide_eq_true e4, by rw [il.length]; exact of_decide_eq_true e5, fun p hp => k _ _ (qy hp _) ⟨p, _, rfl, .inl qv, IsL.ext (Ext.of_same (qy hp _)) (fun _ h _ => h) (IsL.rep il _)⟩⟩)
    have := il.length
    rw [z] at this
    have : ds = [] := List.length_eq_zero_iff.mp this.symm
    rw [this] at e3
    simp at e3
  . rename_i ds j
    obtain ⟨a, xs, rfl, _, ta, il⟩ := ix
    cases iy
    obtain ⟨e1, e2⟩ := zM e
    subst e2
    rw [Bool.and_eq_true, Bool.and_eq_true] at e1
    obtain ⟨⟨e3, e4⟩, e5⟩ := e1
    have e3' := of_decide_eq_true e3
    have e4' := of_decide_eq_true e4
    refine .inr (.inr ⟨a, j, xs, rfl, rfl, ta, by omega, by omega, by rw [il.length]; exact of_decide_eq_true e5, fun p hp => k _ _ (qy hp _) ⟨p, _, rfl, hn p hp, qv, IsL.ext (Ext.of_same (qy hp _)) (fun _ h _ => h) (IsL.rep il _)⟩⟩)
def qgB : D -> Option D
  | .int i => some (.int (-i))
  | _ => none
def d1 (F : D -> Option D) (f : M D) : M D := bnd f fun x => lift (F x)
def qhO (i j : Int) : Bool := decide (0 <= j) && decide (j <= 1000000) && decide (i.natAbs < 2 ^ 64)
def qgC : D -> D -> Option D := qgp qhO fun i j => .int (i ^ j.toNat)
theorem qhP {K : Fr0} : OpS K qgC (rI qk9 fun i j => .int (i ^ j.toNat)) := qd1 (fun i j h => by
  unfold qhO at h
  rw [Bool.and_eq_true, Bool.and_eq_true] at h
  exact ⟨of_decide_eq_true h.1.1, of_decide_eq_true h.1.2, of_decide_eq_true h.2⟩) fun _ _ _ _ => rfl
section
variable {X : Cx} {c : Fc} {a b e : Expr} {pos : Pos}
theorem qjz {f : M D} (h : DE X c a f) : DE X c (.UnaryOp .USub a pos) (d1 qgB f) := by
  obtain ⟨t, p, w⟩ := h
  refine ⟨_, qkv qi3 p, fun ρ σ H Q r h => w ρ σ H _ r (Wp.bnd h fun d ρ1 v H1 r1 i1 g1 h1 => ?_)⟩
  obtain ⟨d', e, h2⟩ := h1.lift
  cases d <;> simp only [qgB] at e <;> try (cases e; done)
  rename_i i
  cases e
  cases i1
  exact ⟨i, rfl, h2 _ H1 r1 rfl .refl⟩
def qhQ (i j : Nat) (f : M (List D)) : MS := sbnd f fun ds ρ => match ds with
  | [d, e] => .ok (.nx ((ρ.set i (some d)).set j (some e)))
  | _ => .bad
theorem qgD {i j : Nat} {x y : Str} {f : M (List D)} {px py pt : Pos} {kt k2 pt2} (hN : X.N.Nodup) (ha : DA X c [a, b] f) (hw : swappedStores [.Tuple [.Name x px, .Name y py] kt pt] (.Tuple [a, b] k2 pt2) X.env = pure (some [x, y])) (hc : X.calm = true := by rfl) (hi : X.N[i]? = some x := by rfl) (hj : X.N[j]? = some y := by rfl) (hij : i ≠ j := by decide)
    (hx : X.env.scope.names.lookup x = some .local := by rfl) (hy : X.env.scope.names.lookup y = some .local := by rfl) (ho : i ∉ c.O := by exact of_decide_eq_false rfl) (hp : j ∉ c.O := by exact of_decide_eq_false rfl)
    (hs : swapsWithSole [.Tuple [.Name x px, .Name y py] kt pt] (.Tuple [a, b] k2 pt2) pos.line X.env = pure false := by rfl) :
    DS X c (.Assign [.Tuple [.Name x px, .Name y py] kt pt] (.Tuple [a, b] k2 pt2) pos) (qhQ i j f) := by
  obtain ⟨t, p, w⟩ := ha
  refine ⟨_, qiV hc hN hi hj hij hx hy p hw hs, fun ρ σ H D r h => w ρ σ H _ r (WpL.sbnd h fun ds ρ1 vs H1 r1 i1 g1 h1 => ?_)⟩
  match ds, i1, h1 with
  | [], _, h1 => exact h1.elim
  | [_], _, h1 => exact h1.elim
  | [d, e], i1, h1 =>
    obtain ⟨v, u, rfl, j1, j2⟩ := IsL.inv2 i1
    refine ⟨v, u, rfl, h1 _ H1 ((r1.set ho j1).set hp ?_) ((GrS.set ho).trans (GrS.set hp))⟩
    exact (GrS.set (H := H1) ho).is j2
  | _ :: _ :: _ :: _, _, h1 => exact h1.elim
mutual
def immF : D -> Bool
  | .tup ds => immFs ds
  | .lst _ => false
  | .dic _ => false
  | _ => true
def immFs : List D -> Bool
  | [] => true
  | d :: ds => immF d && immFs ds
end
mutual
theorem Is.immF {K : Fr0} {A B : Addr -> Prop} {H : Hp} : ∀ {d : D} {v : V}, immF d = true -> Is K A H d v -> Is K B H d v
  | .non, _, _, h => h
  | .bl _, _, _, h => h
  | .int _, _, _, h => h
  | .str _, _, _, h => h
  | .tup ds, _, i, ⟨a, xs, hv, h, r⟩ => ⟨a, xs, hv, h, IsL.immF (by simpa [Sk.immF] using i) r⟩
  | .lst _, _, i, _ => by simp [Sk.immF] at i
  | .dic _, _, i, _ => by simp [Sk.immF] at i
  | .fz _, _, _, h => h
  | .exc _, _, _, h => h
theorem IsL.immF {K : Fr0} {A B : Addr -> Prop} {H : Hp} : ∀ {ds : List D} {xs : List V}, immFs ds = true -> IsL K A H ds xs -> IsL K B H ds xs
  | [], _, _, h => h
  | d :: ds, _, i, ⟨x, ys, hx, h, r⟩ => by
    have i' : Sk.immF d = true /\ immFs ds = true := by simpa [immFs] using i
    exact ⟨x, ys, hx, Is.immF i'.1 h, IsL.immF i'.2 r⟩
end
def va (F : List D -> R D) (g : M (List D)) : M (List D) := bnd g fun ds ρ => if immFs ds then match F ds with
  | .ok (.lst bs) => if immL bs then .ok (bs, ρ) else .bad
  | _ => .bad else .bad
theorem qhR {k : Nat} {f : Addr} {fd : FuncData} {ps : List Str} {F : List D -> R D} {x : Str} {p : Pos} {es : List Expr} {g : M (List D)} (G : jR X.prog X.w X.K X.mg X.base CX0 k f fd ps (spD X.K F)) (hr : y9 k X.A) (hg : Gl X x) (hm : X.mg x = some (.ref f)) (hk : PySem.W.keepIn X.K (.ref f) = true) (hb : ug X.K fd ps [])
    (ha : DA X c (e :: es) g) (hd : (x == ("__debug__" : Str)) = false := by decide) (he : starEach (e :: es) X.env = (false, eval e X.env) :: starEach es X.env := by rfl) (hpl : (backTo pos (starEach es X.env)).any (·.1) = false := by rfl) : DN X c (.Call (.Name x p) (e :: es) [] pos) (va F g) := by
  obtain ⟨t, pa, w⟩ := ha
  refine ⟨_, wd G hr hg hm hk hb .nil qho pa hd he hpl, fun ρ σ H Q r h => w ρ σ H _ r (WpL.bndN h fun ds ρ1 vs H1 r1 i1 g1 h1 => ?_)⟩
  rw [List.append_nil]
  by_cases him : immFs ds = true
  . rw [if_pos him] at h1
    refine ⟨ds, fun _ => False, IsL.immF him i1, fun _ _ => trivial, ?_⟩
    cases ef : F ds with
    | bad => simp only [ef] at h1; exact h1.elim
    | exc z ρ' => simp only [ef] at h1; exact h1.elim
    | ok d =>
      cases d with
      | lst bs =>
        simp only [ef] at h1
        by_cases hb2 : immL bs = true
        . rw [if_pos hb2] at h1
          intro v H' sm i
          obtain ⟨a, xs, rfl, hA, ha2, il⟩ := i
          have hn : H1 a = none := hA.elim False.elim id
          exact h1 a xs H' hn (r1.same sm) (r1.apart_same hn sm) ha2 trivial (IsL.imm hb2 il) (.of_same sm)
        . rw [if_neg hb2] at h1; exact h1.elim
      | _ => simp only [ef] at h1; exact h1.elim
  . rw [if_neg him] at h1; exact h1.elim
end
structure qhS (outer : Scope) (N : List Str) (scope : Scope) (N' : List Str) (nt : Nat) (fr : List Nat) : Prop where
  kind : scope.kind = .function
  nocell : ∀ y ∈ scope.names, y.2 ≠ .cell
  names : ∀ y ∈ scope.names, y.2 = .local -> scope.names.lookup y.1 = some .local
  frees : ∀ y ∈ scope.names, y.2 = .free -> outer.names.lookup y.1 = some .cell
  len : N'.length = nt + fr.length
  slots : ∀ p ∈ fr.zipIdx, N'[nt + p.2]? = N[p.1]? /\ ((N[p.1]?).bind fun x => scope.names.lookup x) = some .free
theorem qhS.ok {X : Cx} {outer : Scope} {N : List Str} {scope : Scope} {N' : List Str} {nt : Nat} {fr : List Nat} (S : qhS outer N scope N' nt fr) (h1 : X.env.scope = outer) (h2 : X.N = N) : jM X scope N' nt fr := by
  subst h1 h2
  refine ⟨S.kind, S.nocell, S.names, S.frees, S.len, fun i j h => ?_⟩
  have hm : (j, i) ∈ fr.zipIdx := by
    rw [List.mem_iff_getElem?]
    refine ⟨i, ?_⟩
    rw [List.getElem?_zipIdx, h]
    simp
  obtain ⟨h3, h4⟩ := S.slots (j, i) hm
  cases e : X.N[j]? with
  | none =>
    have h4' : ((X.N[j]?).bind fun x => scope.names.lookup x) = some .free := h4
    rw [e] at h4'; cases h4'
  | some x =>
    have h4' : ((X.N[j]?).bind fun x => scope.names.lookup x) = some .free := h4
    rw [e] at h4'
    exact ⟨x, by have h3' : N'[nt + i]? = X.N[j]? := h3
                 rw [h3', e], rfl, h4'⟩
structure zP (P : Program) (w : World) (K : PySem.W.Frag) (mg : Str -> Option Value) (base : Heap) (k : Nat) (x : Str) (ps : List Str) (sp : Sp) : Prop where
  ex : ∃ f fd, jR P w K mg base CX0 k f fd ps sp /\ mg x = some (.ref f) /\ PySem.W.keepIn K (.ref f) = true /\ ug K fd ps []
end L2.Sk
namespace L2.Sk
open PySem PySem.Spec PyProof.Rows
theorem qbu : bootBuiltins "len" = some (.builtin "len") := by decide +kernel
theorem qjA : bootBuiltins "abs" = some (.builtin "abs") := by decide +kernel
theorem qal : bootBuiltins "max" = some (.builtin "max") := by decide +kernel
theorem qef : bootBuiltins "min" = some (.builtin "min") := by decide +kernel
theorem qjB : bootBuiltins "all" = some (.builtin "all") := by decide +kernel
theorem qeg : bootBuiltins "divmod" = some (.builtin "divmod") := by decide +kernel
theorem vB : bootBuiltins "repr" = some (.builtin "repr") := by decide +kernel
theorem qjC : bootBuiltins "int" = some (.type "int") := by decide +kernel
theorem qhT : bootBuiltins "bool" = some (.type "bool") := by decide +kernel
theorem v2 : bootBuiltins "tuple" = some (.type "tuple") := by decide +kernel
theorem qA : bootBuiltins "isinstance" = some (.builtin "isinstance") := by decide +kernel
def jW : MS := fun ρ => .ok (.nx ρ)
theorem qK {X : Cx} {c : Fc} : DSs X c [] jW := qhr
theorem zJ {X : Cx} : IxR X (fun x y H Q => qkD X.K x y H Q \/ qkE X.K x y H Q) := qdU.or qjc
theorem qhU {c : Fc} {nt : Nat} {fr : List Nat} {i j : Nat} (h1 : j ∈ c.O) (h2 : nt <= i) (h3 : fr[i - nt]? = some j) (h4 : ∀ p ∈ fr.zipIdx, nt + p.2 ≠ i -> p.1 ∉ c.O) : qhA c nt fr (some (i, j)) :=
  ⟨h1, h2, h3, fun k j' h hk => h4 (j', k) (by rw [List.mem_iff_getElem?]; exact ⟨k, by rw [List.getElem?_zipIdx, h]; simp⟩) hk⟩
def eqB (x y : D) : Option D := match sc2 x y with
  | some b => some (.bl b)
  | none => eqA x y
def neB (x y : D) : Option D := match sc2 x y with
  | some b => some (.bl (!b))
  | none => neA x y
theorem vP {X : Cx} {k : Nat} (hr : y9 k X.A) : OpR X (compareOp .Eq) (fun x y H Q => rEq x y H Q \/ qgy X.K false x y H Q) := OpR.or qky (qju hr)
theorem qam {X : Cx} {k : Nat} (hr : y9 k X.A) : OpR X (compareOp .NotEq) (fun x y H Q => rNe x y H Q \/ qgy X.K true x y H Q) := OpR.or qi4 (qgz hr)
theorem uk {K : Fr0} : OpS K eqB (fun x y H Q => rEq x y H Q \/ qgy K false x y H Q) := by
  intro A H x y d v u Q hn ix iy e k
  unfold eqB at e
  cases e1 : sc2 x y with
  | some b => simp only [e1] at e; exact .inl (qhs A H x y d v u Q hn ix iy (by unfold eqS; rw [e1]; exact e) k)
  | none => simp only [e1] at e; exact .inr (qhH A H x y d v u Q hn ix iy e k)
theorem vC {K : Fr0} : OpS K neB (fun x y H Q => rNe x y H Q \/ qgy K true x y H Q) := by
  intro A H x y d v u Q hn ix iy e k
  unfold neB at e
  cases e1 : sc2 x y with
  | some b => simp only [e1] at e; exact .inl (qd3 A H x y d v u Q hn ix iy (by unfold neS; rw [e1]; exact e) k)
  | none => simp only [e1] at e; exact .inr (qhI A H x y d v u Q hn ix iy e k)
end L2.Sk
namespace L2.Sk
section
variable {α β : Type} {ρ : Env} {f g k : M D} {t u : M Bool} {l m : M (List D)} {p q r : MS}
theorem qfF (a : α) : ret a ρ = .ok (a, ρ) := rfl
theorem qeh (o : Option α) : lift o ρ = match o with | some a => .ok (a, ρ) | none => .bad := by cases o <;> rfl
theorem qkN {f : M α} {k : α -> M β} : bnd f k ρ = match f ρ with | .ok (a, ρ') => k a ρ' | .exc x ρ' => .exc x ρ' | .bad => .bad := rfl
theorem qlh (i : Nat) : dv i ρ = match ρ[i]? with | some (some d) => .ok (d, ρ) | _ => .bad := rfl
theorem yh : qa f l ρ = match f ρ with | .ok (d, ρ1) => (match l ρ1 with | .ok (ds, ρ2) => .ok (d :: ds, ρ2) | .exc x ρ' => .exc x ρ' | .bad => .bad) | .exc x ρ' => .exc x ρ' | .bad => .bad := by
  simp only [qa, bnd, sbnd]
  cases f ρ with
  | ok z =>
    obtain ⟨z1, ρ1⟩ := z
    simp only [ret]
    cases l ρ1 with
    | ok z => obtain ⟨z2, ρ2⟩ := z; rfl
    | exc x ρ' => rfl
    | bad => rfl
  | exc x ρ' => rfl
  | bad => rfl
theorem qbv : uZ l ρ = match l ρ with | .ok (ds, ρ1) => (if qG ds.length then .ok (.tup ds, ρ1) else .bad) | .exc x ρ' => .exc x ρ' | .bad => .bad := by
  simp only [uZ, bnd, sbnd]
  cases l ρ with
  | ok z =>
    obtain ⟨z1, ρ1⟩ := z
    cases h : qG z1.length <;> simp [h, lift, ret]
  | exc x ρ' => rfl
  | bad => rfl
theorem qei : jQ l ρ = match l ρ with | .ok (ds, ρ1) => (if qG ds.length then .ok (.lst ds, ρ1) else .bad) | .exc x ρ' => .exc x ρ' | .bad => .bad := by
  simp only [jQ, bnd, sbnd]
  cases l ρ with
  | ok z =>
    obtain ⟨z1, ρ1⟩ := z
    cases h : qG z1.length <;> simp [h, lift, ret]
  | exc x ρ' => rfl
  | bad => rfl
theorem qgE : qfD l ρ = match l ρ with | .ok (ds, ρ1) => (if immL ds && qG ds.length then .ok (ds, ρ1) else .bad) | .exc x ρ' => .exc x ρ' | .bad => .bad := by
  simp only [qfD, bnd, sbnd]
  cases l ρ with
  | ok z =>
    obtain ⟨z1, ρ1⟩ := z
    cases h : (immL z1 && qG z1.length) <;> simp [h, lift, ret]
  | exc x ρ' => rfl
  | bad => rfl
theorem qkO (F : D -> D -> Option D) : d2 F f g ρ = match f ρ with | .ok (x, ρ1) => (match g ρ1 with | .ok (y, ρ2) => (match F x y with | some d => .ok (d, ρ2) | none => .bad) | .exc x ρ' => .exc x ρ' | .bad => .bad) | .exc x ρ' => .exc x ρ' | .bad => .bad := by
  simp only [d2, bnd, sbnd]
  cases f ρ with
  | ok z =>
    obtain ⟨z1, ρ1⟩ := z
    dsimp only <;>
    cases g ρ1 with
    | ok z => obtain ⟨z2, ρ2⟩ := z; (dsimp only; cases F z1 z2 <;> rfl)
    | exc x ρ' => rfl
    | bad => rfl
  | exc x ρ' => rfl
  | bad => rfl
theorem qli (F : D -> Option D) : d1 F f ρ = match f ρ with | .ok (x, ρ1) => (match F x with | some d => .ok (d, ρ1) | none => .bad) | .exc x ρ' => .exc x ρ' | .bad => .bad := by
  simp only [d1, bnd, sbnd]
  cases f ρ with
  | ok z =>
    obtain ⟨z1, ρ1⟩ := z
    (dsimp only; cases F z1 <;> rfl)
  | exc x ρ' => rfl
  | bad => rfl
theorem vE (F : List D -> Option D) : qz F l ρ = match l ρ with | .ok (xs, ρ1) => (match F xs with | some d => .ok (d, ρ1) | none => .bad) | .exc x ρ' => .exc x ρ' | .bad => .bad := by
  simp only [qz, bnd, sbnd]
  cases l ρ with
  | ok z =>
    obtain ⟨z1, ρ1⟩ := z
    (dsimp only; cases F z1 <;> rfl)
  | exc x ρ' => rfl
  | bad => rfl
theorem vb (F : List D -> R D) : qj F l ρ = match l ρ with | .ok (xs, ρ1) => (match F xs with | .ok d => .ok (d, ρ1) | _ => .bad) | .exc x ρ' => .exc x ρ' | .bad => .bad := by
  simp only [qj, bnd, sbnd]
  cases l ρ with
  | ok z =>
    obtain ⟨z1, ρ1⟩ := z
    cases F z1 <;> rfl
  | exc x ρ' => rfl
  | bad => rfl
theorem qgF (T : String) : qhx T f ρ = match f ρ with | .ok (d, ρ1) => .ok (.bl (qb2 (tyD d) T), ρ1) | .exc x ρ' => .exc x ρ' | .bad => .bad := by
  simp only [qhx, bnd, sbnd]
  cases f ρ with
  | ok z =>
    obtain ⟨z1, ρ1⟩ := z
    rfl
  | exc x ρ' => rfl
  | bad => rfl
theorem qhV : tst f ρ = match f ρ with | .ok (d, ρ1) => (match asB d with | some b => .ok (b, ρ1) | none => .bad) | .exc x ρ' => .exc x ρ' | .bad => .bad := by
  simp only [tst, bnd, sbnd]
  cases f ρ with
  | ok z =>
    obtain ⟨z1, ρ1⟩ := z
    (dsimp only; cases asB z1 <;> rfl)
  | exc x ρ' => rfl
  | bad => rfl
theorem vQ (b : Bool) : asB (.bl b) = some b := rfl
theorem qgG : qe8 t ρ = match t ρ with | .ok (b, ρ1) => .ok (!b, ρ1) | .exc x ρ' => .exc x ρ' | .bad => .bad := by
  simp only [qe8, bnd, sbnd]
  cases t ρ with
  | ok z =>
    obtain ⟨z1, ρ1⟩ := z
    rfl
  | exc x ρ' => rfl
  | bad => rfl
theorem qgH : qhp t u ρ = match t ρ with | .ok (b, ρ1) => (bif b then u ρ1 else .ok (false, ρ1)) | .exc x ρ' => .exc x ρ' | .bad => .bad := by
  simp only [qhp, bnd, sbnd]
  cases t ρ with
  | ok z =>
    obtain ⟨z1, ρ1⟩ := z
    cases z1 <;> rfl
  | exc x ρ' => rfl
  | bad => rfl
theorem qhW : tor t u ρ = match t ρ with | .ok (b, ρ1) => (bif b then .ok (true, ρ1) else u ρ1) | .exc x ρ' => .exc x ρ' | .bad => .bad := by
  simp only [tor, bnd, sbnd]
  cases t ρ with
  | ok z =>
    obtain ⟨z1, ρ1⟩ := z
    cases z1 <;> rfl
  | exc x ρ' => rfl
  | bad => rfl
theorem qgI : qiz f g ρ = match f ρ with | .ok (d, ρ1) => (match asB d with | some b => (bif b then g ρ1 else .ok (.bl false, ρ1)) | none => .bad) | .exc x ρ' => .exc x ρ' | .bad => .bad := by
  simp only [qiz, bnd, sbnd]
  cases f ρ with
  | ok z =>
    obtain ⟨z1, ρ1⟩ := z
    simp only [qeh]
    cases asB z1 with
    | none => rfl
    | some b => cases b <;> rfl
  | exc x ρ' => rfl
  | bad => rfl
theorem qjD : dor f g ρ = match f ρ with | .ok (d, ρ1) => (match asB d with | some b => (bif b then .ok (.bl true, ρ1) else g ρ1) | none => .bad) | .exc x ρ' => .exc x ρ' | .bad => .bad := by
  simp only [dor, bnd, sbnd]
  cases f ρ with
  | ok z =>
    obtain ⟨z1, ρ1⟩ := z
    simp only [qeh]
    cases asB z1 with
    | none => rfl
    | some b => cases b <;> rfl
  | exc x ρ' => rfl
  | bad => rfl
theorem qgJ : qka f ρ = match f ρ with | .ok (d, ρ1) => (match asB d with | some b => .ok (.bl (!b), ρ1) | none => .bad) | .exc x ρ' => .exc x ρ' | .bad => .bad := by
  simp only [qka, bnd, sbnd]
  cases f ρ with
  | ok z =>
    obtain ⟨z1, ρ1⟩ := z
    simp only [qeh]
    cases asB z1 with
    | none => rfl
    | some b => cases b <;> rfl
  | exc x ρ' => rfl
  | bad => rfl
theorem qhX : dif t f g ρ = match t ρ with | .ok (b, ρ1) => (bif b then f ρ1 else g ρ1) | .exc x ρ' => .exc x ρ' | .bad => .bad := by
  simp only [dif, bnd, sbnd]
  cases t ρ with
  | ok z =>
    obtain ⟨z1, ρ1⟩ := z
    cases z1 <;> rfl
  | exc x ρ' => rfl
  | bad => rfl
theorem qfG : sif t p q ρ = match t ρ with | .ok (b, ρ1) => (bif b then p ρ1 else q ρ1) | .exc x ρ' => .exc x ρ' | .bad => .bad := by
  simp only [sif, bnd, sbnd]
  cases t ρ with
  | ok z =>
    obtain ⟨z1, ρ1⟩ := z
    cases z1 <;> rfl
  | exc x ρ' => rfl
  | bad => rfl
theorem qgK : qB p q ρ = match p ρ with | .ok (.nx ρ') => q ρ' | z => z := by
  unfold qB
  cases p ρ with
  | ok z => cases z <;> rfl
  | exc x ρ' => rfl
  | bad => rfl
theorem vR : jt f ρ = match f ρ with | .ok (d, ρ1) => .ok (.rt d ρ1) | .exc x ρ' => .exc x ρ' | .bad => .bad := by
  simp only [jt, bnd, sbnd]
  cases f ρ with
  | ok z =>
    obtain ⟨z1, ρ1⟩ := z
    rfl
  | exc x ρ' => rfl
  | bad => rfl
theorem uK (i : Nat) : zp i f ρ = match f ρ with | .ok (d, ρ1) => .ok (.nx (ρ1.set i (some d))) | .exc x ρ' => .exc x ρ' | .bad => .bad := by
  simp only [zp, bnd, sbnd]
  cases f ρ with
  | ok z =>
    obtain ⟨z1, ρ1⟩ := z
    rfl
  | exc x ρ' => rfl
  | bad => rfl
theorem qaH (i : Nat) : yG i l ρ = match l ρ with | .ok (ds, ρ1) => .ok (.nx (ρ1.set i (some (.lst ds)))) | .exc x ρ' => .exc x ρ' | .bad => .bad := by
  simp only [yG, bnd, sbnd]
  cases l ρ with
  | ok z =>
    obtain ⟨z1, ρ1⟩ := z
    rfl
  | exc x ρ' => rfl
  | bad => rfl
theorem qaI : ji f ρ = match f ρ with | .ok (_, ρ1) => .ok (.nx ρ1) | .exc x ρ' => .exc x ρ' | .bad => .bad := by
  simp only [ji, bnd, sbnd]
  cases f ρ with
  | ok z =>
    obtain ⟨z1, ρ1⟩ := z
    rfl
  | exc x ρ' => rfl
  | bad => rfl
theorem qej : jW ρ = .ok (.nx ρ) := rfl
theorem qgL (i j : Nat) : qhQ i j l ρ = match l ρ with | .ok ([d, e], ρ1) => .ok (.nx ((ρ1.set i (some d)).set j (some e))) | .ok _ => .bad | .exc x ρ' => .exc x ρ' | .bad => .bad := by
  simp only [qhQ, bnd, sbnd]
  cases l ρ with
  | ok z =>
    obtain ⟨z1, ρ1⟩ := z
    match z1 with
    | [] => rfl
    | [_] => rfl
    | [_, _] => rfl
    | _ :: _ :: _ :: _ => rfl
  | exc x ρ' => rfl
  | bad => rfl
theorem qek (G : D -> Env -> Option Env) : qgn f G ρ = match f ρ with | .ok (d, ρ1) => (match G d ρ1 with | some ρ2 => .ok (.nx ρ2) | none => .bad) | .exc x ρ' => .exc x ρ' | .bad => .bad := by
  simp only [qgn, bnd, sbnd]
  cases f ρ with
  | ok z =>
    obtain ⟨z1, ρ1⟩ := z
    dsimp only <;>
    cases G z1 ρ1 <;> rfl
  | exc x ρ' => rfl
  | bad => rfl
theorem yy (G : D -> Env -> Option Env) (b : MS) : u5 l G b ρ = match l ρ with | .ok (ds, ρ1) => jU G b ds ρ1 | .exc x ρ' => .exc x ρ' | .bad => .bad := by
  simp only [u5, bnd, sbnd]
  cases l ρ with
  | ok z =>
    obtain ⟨z1, ρ1⟩ := z
    rfl
  | exc x ρ' => rfl
  | bad => rfl
theorem qel : uJ f ρ = match f ρ with | .ok (d, ρ1) => (match qiC d with | some ds => .ok (ds, ρ1) | none => .bad) | .exc x ρ' => .exc x ρ' | .bad => .bad := by
  simp only [uJ, bnd, sbnd]
  cases f ρ with
  | ok z =>
    obtain ⟨z1, ρ1⟩ := z
    (dsimp only; cases qiC z1 <;> rfl)
  | exc x ρ' => rfl
  | bad => rfl
theorem qem : zf l ρ = match l ρ with | .ok (d, ρ1) => (match qgw d with | some ds => .ok (ds, ρ1) | none => .bad) | .exc x ρ' => .exc x ρ' | .bad => .bad := by
  simp only [zf, bnd, sbnd]
  cases l ρ with
  | ok z =>
    obtain ⟨z1, ρ1⟩ := z
    (dsimp only; cases qgw z1 <;> rfl)
  | exc x ρ' => rfl
  | bad => rfl
theorem qgM : qlg l ρ = match l ρ with | .ok (d, ρ1) => (match qkM d with | some ds => .ok (ds, ρ1) | none => .bad) | .exc x ρ' => .exc x ρ' | .bad => .bad := by
  simp only [qlg, bnd, sbnd]
  cases l ρ with
  | ok z =>
    obtain ⟨z1, ρ1⟩ := z
    (dsimp only; cases qkM z1 <;> rfl)
  | exc x ρ' => rfl
  | bad => rfl
theorem qaJ {nt : Nat} {fr : List Nat} {fo : Option (Nat × Nat)} {G : D -> Env -> Option Env} {e : M D} : qV nt fr fo l G t e ρ = match l ρ with
    | .ok (ds, ρ1) => (match zO G t e ds [] (jn nt fr ρ1) with | .ok (ys, ρe) => .ok (.lst ys, qiD fo ρe ρ1) | _ => .bad) | .exc x ρ' => .exc x ρ' | .bad => .bad := by
  simp only [qV, bnd, sbnd]
  cases l ρ with
  | ok z =>
    obtain ⟨z1, ρ1⟩ := z
    dsimp only <;>
    cases zO G t e z1 [] (jn nt fr ρ1) with
    | ok z => obtain ⟨z2, ρ2⟩ := z; rfl
    | exc x ρ' => rfl
    | bad => rfl
  | exc x ρ' => rfl
  | bad => rfl
theorem qbw (F : List D -> List D -> R (D × List D)) (i : Nat) : qq F i l ρ = match zu i ρ with
    | none => .bad
    | some _ => (match l ρ with
      | .ok (ds, ρ1) => (match zu i ρ1 with
        | none => .bad
        | some bs => (match F bs ds with | .ok (d, bs') => .ok (d, ρ1.set i (some (.lst bs'))) | _ => .bad))
      | .exc x ρ' => .exc x ρ' | .bad => .bad) := by
  simp only [qq, bnd]
  cases zu i ρ with
  | none => rfl
  | some _ =>
    dsimp only <;>
    cases l ρ with
    | ok z =>
      obtain ⟨z1, ρ1⟩ := z
      dsimp only <;>
      cases zu i ρ1 with
      | none => rfl
      | some bs =>
        dsimp only <;>
        cases F bs z1 with
        | ok z => obtain ⟨z2, z3⟩ := z; rfl
        | exc x ρ' => rfl
        | bad => rfl
    | exc x ρ' => rfl
    | bad => rfl
theorem qb5 (F : List D -> R D) : va F l ρ = match l ρ with
    | .ok (ds, ρ1) => (if immFs ds then (match F ds with | .ok (.lst bs) => (if immL bs then .ok (bs, ρ1) else .bad) | _ => .bad) else .bad) | .exc x ρ' => .exc x ρ' | .bad => .bad := by
  simp only [va, bnd, sbnd]
  cases l ρ with
  | ok z =>
    obtain ⟨z1, ρ1⟩ := z
    dsimp only <;>
    cases immFs z1 with
    | false => rfl
    | true =>
      simp only [if_true]
      cases F z1 with
      | ok z => cases z <;> rfl
      | exc x ρ' => rfl
      | bad => rfl
  | exc x ρ' => rfl
  | bad => rfl
theorem qen (i : Nat) : qcx i f ρ = match zu i ρ with
    | none => .bad
    | some _ => (match f ρ with
      | .ok (k, ρ1) => (match k, zu i ρ1 with
        | .int n, some ds => (match atI ds n with | some d => .ok (d, ρ1) | none => .bad)
        | _, _ => .bad)
      | .exc x ρ' => .exc x ρ' | .bad => .bad) := by
  simp only [qcx, bnd]
  cases zu i ρ with
  | none => rfl
  | some _ =>
    dsimp only <;>
    cases f ρ with
    | ok z =>
      obtain ⟨z1, ρ1⟩ := z
      dsimp only <;>
      cases z1 <;> cases zu i ρ1 <;> try rfl
    | exc x ρ' => rfl
    | bad => rfl
theorem qeo (i : Nat) : qfB i k f ρ = match f ρ with
    | .ok (d, ρ1) => (match zu i ρ1 with
      | none => .bad
      | some _ => (match k ρ1 with
        | .ok (j, ρ2) => (match j, zu i ρ2 with
          | .int n, some ds => (match ixN ds.length n with
            | some q => if imm d then .ok (.nx (ρ2.set i (some (.lst (ds.set q d))))) else .bad
            | none => .bad)
          | _, _ => .bad)
        | .exc x ρ' => .exc x ρ' | .bad => .bad))
    | .exc x ρ' => .exc x ρ' | .bad => .bad := by
  simp only [qfB, bnd, sbnd]
  cases f ρ with
  | ok z =>
    obtain ⟨z1, ρ1⟩ := z
    dsimp only <;>
    cases zu i ρ1 with
    | none => rfl
    | some _ =>
      dsimp only <;>
      cases k ρ1 with
      | ok z =>
        obtain ⟨z2, ρ2⟩ := z
        dsimp only <;>
        cases z2 <;> cases zu i ρ2 <;> try rfl
      | exc x ρ' => rfl
      | bad => rfl
  | exc x ρ' => rfl
  | bad => rfl
theorem qep (i : Nat) : qbr i ρ = match zu i ρ with | some ds => .ok (.int ds.length, ρ) | none => .bad := by
  unfold qbr
  cases zu i ρ <;> rfl
theorem qeq (i : Nat) : qdf i ρ = match zu i ρ with | some ds => .ok (.tup ds, ρ) | none => .bad := by
  unfold qdf
  cases zu i ρ <;> rfl
theorem qgN (i : Nat) : qgA i f ρ = match zu i ρ with
    | none => .bad
    | some _ => (match f ρ with
      | .ok (y, ρ1) => (match zu i ρ1 with
        | none => .bad
        | some ds => (match neA (.lst ds) y with | some d => .ok (d, ρ1) | none => .bad))
      | .exc x ρ' => .exc x ρ' | .bad => .bad) := by
  simp only [qgA, bnd]
  cases zu i ρ with
  | none => rfl
  | some _ =>
    dsimp only <;>
    cases f ρ with
    | ok z =>
      obtain ⟨z1, ρ1⟩ := z
      dsimp only <;>
      cases zu i ρ1 with
      | none => rfl
      | some ds => (dsimp only; cases neA (.lst ds) z1 <;> rfl)
    | exc x ρ' => rfl
    | bad => rfl
theorem wF (i : Nat) : qZ i f ρ = match zu i ρ with
    | none => .bad
    | some _ => (match f ρ with
      | .ok (d, ρ1) => (match zu i ρ1 with
        | some ds => if imm d && qG (ds.length + 1) then .ok (.non, ρ1.set i (some (.lst (ds ++ [d])))) else .bad
        | none => .bad)
      | .exc x ρ' => .exc x ρ' | .bad => .bad) := by
  simp only [qZ, bnd]
  cases zu i ρ with
  | none => rfl
  | some _ =>
    dsimp only <;>
    cases f ρ with
    | ok z =>
      obtain ⟨z1, ρ1⟩ := z
      dsimp only <;>
      cases zu i ρ1 <;> rfl
    | exc x ρ' => rfl
    | bad => rfl
theorem qjE {g k : M (Option Int)} : dsl f g k ρ = match f ρ with
    | .ok (d, ρ1) => (match g ρ1 with
      | .ok (lo, ρ2) => (match k ρ2 with
        | .ok (hi, ρ3) => (match slD d lo hi with | some x => .ok (x, ρ3) | none => .bad)
        | .exc x ρ' => .exc x ρ' | .bad => .bad)
      | .exc x ρ' => .exc x ρ' | .bad => .bad)
    | .exc x ρ' => .exc x ρ' | .bad => .bad := by
  simp only [dsl, bnd, sbnd]
  cases f ρ with
  | ok z =>
    obtain ⟨z1, ρ1⟩ := z
    dsimp only <;>
    cases g ρ1 with
    | ok z =>
      obtain ⟨z2, ρ2⟩ := z
      dsimp only <;>
      cases k ρ2 with
      | ok z => obtain ⟨z3, ρ3⟩ := z; (dsimp only; cases slD z1 z2 z3 <;> rfl)
      | exc x ρ' => rfl
      | bad => rfl
    | exc x ρ' => rfl
    | bad => rfl
  | exc x ρ' => rfl
  | bad => rfl
theorem qer : qjo f ρ = match f ρ with | .ok (.int i, ρ1) => .ok (some i, ρ1) | .ok _ => .bad | .exc x ρ' => .exc x ρ' | .bad => .bad := by
  simp only [qjo, bnd, sbnd]
  cases f ρ with
  | ok z =>
    obtain ⟨z1, ρ1⟩ := z
    cases z1 <;> rfl
  | exc x ρ' => rfl
  | bad => rfl
end
theorem zQ {n : Nat} (h : n <= 1000000) : qG n = true := by
  unfold qG
  exact decide_eq_true (Nat.le_trans h (by rw [PySem.sizeLine_eq]; decide))
theorem qhY {n p : Nat} {body : MS} {ds : List D} {d : D} {ρ : Env} (h : ds.length = p) (e : body (jV n ds) = .ok (.rt d ρ)) : dfn n p body ds = .ok d := by
  unfold dfn; rw [if_pos h, e]
theorem qes {n p : Nat} {body : MS} {bs ds bs' : List D} {d : D} {ρ : Env} (h : ds.length + 1 = p) (e : body (jV n (.lst bs :: ds)) = .ok (.rt d ρ)) (g : zu 0 ρ = some bs') : wC n p body bs ds = .ok (d, bs') := by
  unfold wC; rw [if_pos h, e]; simp only [g]
end L2.Sk
namespace L2.Sk
open PySem PySem.Spec PyProof.Rows
section
variable {prog : Program} {w : World} {A : Around} {E : Value -> Shared -> Prop} {s : Shared}
theorem qet {l : Addr} {xs : Array Value} {Q : Value -> Shared -> Prop} (t1 : s.heap.IsTuple l xs)
    (fin : ∀ h', IsEnum h' (s.heap.objs.size + 1) s.heap.objs.size 0 .none -> h'.IsTupleIter s.heap.objs.size l 0 -> (∀ c o, s.heap.get? c = some o -> h'.get? c = some o) -> Q (.ref (s.heap.objs.size + 1)) { s with heap := h' }) :
    wpAny (model prog w) A (call (.type "enumerate") [.ref l]) Q E s := by
  have meets : Meets (Builtin.«enumerate.__new__» ⟨[.type "enumerate", .ref l], []⟩) (fun _ R s => s.heap.IsTuple l xs /\
      R (.ok (.ret (.ref (s.heap.objs.size + 1)))) { s with heap := (s.heap.push { cls := .type "tuple_iterator", data := .fields #[.ref l, .int 0 0] }).push { cls := .type "enumerate", data := .fields #[.none, .bool false, .ref s.heap.objs.size, rawInt 0, .none, .none] } }) :=
    .of_wp fun prog w A R s h => by
      obtain ⟨hp, g, d, tk, os⟩ := s
      obtain ⟨ha, h⟩ := h
      have hsub := sub_enumerate
      have hA : Heap.IsTuple (Shared.heap ⟨hp, g, d, tk, os⟩) l xs := ha
      obtain ⟨o, ho, _⟩ := id ha
      have ho' : hp.get? l = some o := ho
      wp_walk using AutoSeq1.wpAny_loadPart' ho'
      refine wpAny_stack_any fun st => wpAny_pure ?_
      split
      . rename_i c _ _ _ _ _
        cases (c == Value.type "enumerate")
        . wp_walk using AutoSeq1.wpAny_loadPart' ho', wpAny_pyIter_tuple hA
          simp only [Heap.size_push] at *
          exact ⟨_, rfl, h⟩
        . wp_walk using AutoSeq1.wpAny_loadPart' ho', wpAny_pyIter_tuple hA
          simp only [Heap.size_push] at *
          exact ⟨_, rfl, h⟩
      . wp_walk using AutoSeq1.wpAny_loadPart' ho', wpAny_pyIter_tuple hA
        simp only [Heap.size_push] at *
        exact ⟨_, rfl, h⟩
  refine callType_new F.called_enumerate (by decide) (F.typeCall_enumerate_1 _) (F.newCall_enumerate_1 _) (fun obj => F.args_object_init_2 obj _) F.entry_enumerate_new meets ⟨t1, ?_⟩
  generalize e1 : s.heap.push { cls := .type "tuple_iterator", data := .fields #[.ref l, .int 0 0] } = m1
  have s1 : m1.objs.size = s.heap.objs.size + 1 := by rw [<- e1, Heap.size_push]
  have q1 : m1.get? s.heap.objs.size = some { cls := .type "tuple_iterator", data := .fields #[.ref l, .int 0 0] } := by rw [<- e1]; exact Heap.get?_push_size _ rfl
  have k1 : ∀ c o, s.heap.get? c = some o -> m1.get? c = some o := fun c o x => by rw [<- e1]; exact Heap.get?_push_of_some _ x
  generalize e2 : m1.push { cls := .type "enumerate", data := .fields #[.none, .bool false, .ref s.heap.objs.size, rawInt 0, .none, .none] } = m2
  have q2 : m2.get? (s.heap.objs.size + 1) = some { cls := .type "enumerate", data := .fields #[.none, .bool false, .ref s.heap.objs.size, rawInt 0, .none, .none] } := by rw [<- e2, <- s1]; exact Heap.get?_push_size _ rfl
  have k2 : ∀ c o, m1.get? c = some o -> m2.get? c = some o := fun c o x => by rw [<- e2]; exact Heap.get?_push_of_some _ x
  show _ /\ _
  exact ⟨⟨_, q2, rfl⟩, fin m2 q2 ⟨_, k2 _ _ q1, rfl, rfl⟩ fun c o x => k2 _ _ (k1 _ _ x)⟩
end
def Ite (K : Fr0) (a : Addr) (xs : List V) : It :=
  ⟨fun i H => i < xs.length /\ SqT K H a xs, fun i H x H' => ∃ p u, H p = none /\ xs[i]? = some u /\ x = .ref p /\ H' = upd H p (.tup [.int i, u]), fun i H => i = xs.length /\ SqT K H a xs⟩
def ESt (z i1 a1 : Addr) (i : Nat) (h : Heap) : Prop := (∃ old, IsEnum h z i1 i old) /\ h.IsTupleIter i1 a1 i
theorem qeu {P : Program} {w : World} {K : Fr0} {es : List Expr} {kk : Nat} {pos : Pos} {z i1 a1 : Addr} {xs : List V} (zi : z ≠ i1) (za : z ≠ a1) (n1 : a1 ≠ i1) :
    qiv P w K (.Tuple es kk pos) (Ite K a1 xs) [z, i1] z (ESt z i1 a1) where
  mem := by simp
  obj := fun i h st b hb => by
    obtain ⟨⟨old, h1⟩, ⟨o4, h4, c4, d4⟩⟩ := st
    simp only [List.mem_cons, List.not_mem_nil, or_false] at hb
    rcases hb with rfl | rfl
    . exact ⟨_, h1, fun v e => by cases (show Data.fields _ = Data.cell v from e)⟩
    . exact ⟨_, h4, fun v e => by rw [d4] at e; cases e⟩
  keep := fun i h h' st k => by
    obtain ⟨⟨old, h1⟩, h4⟩ := st
    exact ⟨⟨old, k z (by simp) _ h1⟩, h4.at fun o e => k i1 (by simp) o e⟩
  item := by
    intro X hP hw hK hc i pins s σ H E I hf st hg
    subst hP hw hK
    obtain ⟨hlt, hx⟩ := hg
    obtain ⟨⟨old, h1⟩, h4⟩ := st
    obtain ⟨it1, r1, p1, z1⟩ := I.tuple hx
    have l1 : i < it1.toArray.size := by rw [List.size_toArray, <- r1.length]; omega
    have hh : X.A.in1.handled = none := I.ok.hd hc
    refine wpAny_pyNext_enum_itemD (qcy hh i1 a1 n1 it1.toArray) h1 ⟨h4, p1⟩ l1 zi (by simp [zi, za]) fun x h' tk px ho u1 new hsz kp => ?_
    refine ⟨.ref s.heap.objs.size, rfl, wpAny_letOwnedTupleGo_enum ho fun h2' zz2 sb => ?_⟩
    obtain ⟨xv, hxv⟩ : ∃ v, xs[i]? = some v := ⟨xs[i]'(by omega), List.getElem?_eq_getElem (by omega)⟩
    obtain ⟨x', ex, rx⟩ := r1.get hxv
    have exx : x' = x := by
      have : it1.toArray[i]? = some x := px
      rw [List.getElem?_toArray, ex] at this
      exact Option.some.inj this
    subst exx
    have lz : z < s.heap.objs.size := Heap.lt_size h1
    have keep : ∀ b u, b ∉ [z, i1] -> s.heap.get? b = some u -> h2'.get? b = some u := fun b u hb e => by
      simp only [List.mem_cons, List.not_mem_nil, or_false, not_or] at hb
      exact (sb.2 b hb.1).trans (kp b u hb.1 hb.2 e)
    have I2 : Inv X pins σ (upd H s.heap.objs.size (.tup [.int i, xv])) { s with heap := h2', toks := tk + 1 } :=
      qhL I keep hf (Nat.le_refl _) ⟨by show 2 <= sizeLine; decide, [.int i tk, x'], .cons ⟨tk, rfl⟩ (.cons rx .nil), ⟨_, (sb.2 _ (Nat.ne_of_gt lz)).trans new, rfl, _, rfl⟩⟩
    refine ⟨.ref s.heap.objs.size, upd H s.heap.objs.size (.tup [.int i, xv]), I2, rfl, ⟨s.heap.objs.size, xv, I.hok.fresh (Nat.le_refl _), hxv, rfl, rfl⟩, ?_, fun b hb => ?_⟩
    . exact ⟨⟨_, by simpa using zz2⟩, u1.1.at fun o e => (sb.2 i1 zi.symm).trans e⟩
    . have hb1 : b ≠ s.heap.objs.size := by
        simp only [List.mem_cons, List.not_mem_nil, or_false] at hb
        obtain ⟨o4, g4, _⟩ := h4
        rcases hb with rfl | rfl
        . exact Nat.ne_of_lt (Heap.lt_size h1)
        . exact Nat.ne_of_lt (Heap.lt_size g4)
      rw [qs hb1]
      exact (hf b hb).1
  done := by
    intro X hP hw hK hc i pins s σ H E I hf st hg
    subst hP hw hK
    obtain ⟨hlt, hx⟩ := hg
    obtain ⟨⟨old, h1⟩, h4⟩ := st
    obtain ⟨it1, r1, p1, z1⟩ := I.tuple hx
    have hh : X.A.in1.handled = none := I.ok.hd hc
    have e : i = it1.toArray.size := by rw [List.size_toArray, <- r1.length]; exact hlt
    subst e
    refine wpAny_pyNext_enum_endD (qcy hh i1 a1 n1 it1.toArray) h1 ⟨h4, p1⟩ fun h' kp => ⟨rfl, qhM (t' := s.toks) I (fun b u hb e => ?_) hf⟩
    simp only [List.mem_cons, List.not_mem_nil, or_false, not_or] at hb
    exact kp b u hb.2 e
  self := fun A i s Q E st h => by
    obtain ⟨⟨old, h1⟩, _⟩ := st
    exact wpAny_pyIter_enum h1 h
section
variable {X : Cx} {c : Fc} {a b e : Expr} {pos : Pos} {es : List Expr} {kk : Nat} {tp : Pos}
def qkP (K : Fr0) (ta : TA) : TI := fun σ H R => ta σ H fun vs H1 => ∃ a1 xs, vs = [.ref a1] /\ SqT K H1 a1 xs /\ R (Ite K a1 xs) H1
theorem qhZ {ta : TA} {p : Pos} (hg : Gl X "enumerate") (hm : X.mg "enumerate" = none) (ha : PA X [a] ta) (hs : starEach [a] X.env = [(false, eval a X.env)] := by rfl) :
    PI X (.Tuple es kk tp) (.Call (.Name "enumerate" p) [a] [] pos) (qkP X.K ta) := by
  intro pins s σ H R I h
  refine Call_ (qad I hg hm PyProof.Rows.boot_enumerate (PyProof.Rows.callWith_type1 (thn (ha pos pins s σ H _ I h) fun us s1 ⟨vs, H1, I1, r1, q1⟩ => ?_) (by rw [hs]; rfl) (by rfl)))
  obtain ⟨a1, xs, e1, hx, q⟩ := q1
  subst e1
  obtain ⟨u1, rfl, ru1⟩ := qY.one r1
  cases (show u1 = Value.ref a1 from ru1)
  obtain ⟨it1, v1, p1, z1⟩ := I1.tuple hx
  refine qet (show s1.heap.IsTuple a1 it1.toArray from p1) fun h' zz g1 kp => ?_
  refine wpAny_pyIter_enum zz ?_
  have la1 : a1 < s1.heap.objs.size := by obtain ⟨o, e, _⟩ := p1; exact Heap.lt_size e
  refine ⟨s1.heap.objs.size + 1, [s1.heap.objs.size + 1, s1.heap.objs.size], _, _, H1, rfl, I1.kept (t' := s1.toks) kp, qeu (xs := xs) (Nat.succ_ne_self _) (Nat.ne_of_gt (Nat.lt_succ_of_lt la1)) (Nat.ne_of_lt la1), ⟨⟨_, zz⟩, g1⟩, fun b hb => ?_, q⟩
  simp only [List.mem_cons, List.not_mem_nil, or_false] at hb
  have hb2 : s1.heap.objs.size <= b := by
    rcases hb with e | e <;> rw [e]
    . exact Nat.le_add_right _ _
    . exact Nat.le_refl _
  exact I1.fpOk hb2 (I1.hok.fresh hb2)
def vF (k : Nat) : List D -> List D
  | [] => []
  | x :: xs => .tup [.int (k : Nat), x] :: vF (k + 1) xs
theorem wG : ∀ (k : Nat) (xs : List D), (vF k xs).length = xs.length
  | _, [] => rfl
  | k, x :: xs => by simp [vF, wG (k + 1) xs]
theorem qbx : ∀ {xs : List D} {k i : Nat} {d : D}, (vF k xs)[i]? = some d -> ∃ x, xs[i]? = some x /\ d = .tup [.int ((k + i : Nat) : Int), x]
  | [], _, _, _, h => by simp [vF] at h
  | x :: xs, k, 0, d, h => by
    have : D.tup [.int (k : Nat), x] = d := by simpa [vF] using h
    exact ⟨x, rfl, this.symm⟩
  | x :: xs, k, i + 1, d, h => by
    obtain ⟨y, h1, h2⟩ := qbx (xs := xs) (k := k + 1) (i := i) (d := d) (by simpa [vF] using h)
    exact ⟨y, by simpa using h1, by rw [h2]; congr 4; omega⟩
theorem qh0 {K : Fr0} {A : Addr -> Prop} {H : Hp} {ds : List D} {xs : List V} {a1 : Addr} (t1 : vq K H a1 xs) (i1 : IsL K A H ds xs) : qfA K A H (vF 0 ds) (Ite K a1 xs) where
  go := fun H' i d ex hd => by
    have hl : i < (vF 0 ds).length := (List.getElem?_eq_some_iff.mp hd).1
    rw [wG, <- i1.length] at hl
    exact ⟨hl, (t1.elim (fun h => .inl (ex.tup _ _ h)) .inr : vq K H' a1 xs).sq⟩
  yl := fun H' i d x H'' ex hd y => by
    obtain ⟨p, u, hp, hu, rfl, rfl⟩ := y
    obtain ⟨dx, h1, rfl⟩ := qbx hd
    obtain ⟨u', g1, g2⟩ := i1.get h1
    rw [hu] at g1
    cases g1
    have sm := qy hp (.tup [.int i, u])
    exact ⟨sm, p, [.int i, u], rfl, .inl qv, .int i, [u], rfl, by rw [Nat.zero_add]; rfl, u, [], rfl, Is.ext (Ext.of_same sm) (fun _ h _ => h) (Is.ext ex (fun _ h _ => h) g2), rfl⟩
  stop := fun H' ex => ⟨by rw [wG, i1.length], (t1.elim (fun h => .inl (ex.tup _ _ h)) .inr : vq K H' a1 xs).sq⟩
def qfH : List D -> Option (List D)
  | [.tup xs] => some (vF 0 xs)
  | _ => none
def qev (f : M (List D)) : M (List D) := bnd f fun ds => lift (qfH ds)
theorem qh1 {f : M (List D)} {p : Pos} (hg : Gl X "enumerate") (hm : X.mg "enumerate" = none) (ha : DA X c [a] f) (hs : starEach [a] X.env = [(false, eval a X.env)] := by rfl) :
    DI X c (.Tuple es kk tp) (.Call (.Name "enumerate" p) [a] [] pos) (qev f) := by
  obtain ⟨t, pa, w⟩ := ha
  refine ⟨_, qhZ hg hm pa hs, fun ρ σ H Q r h => w ρ σ H _ r (WpL.bndI h fun ds ρ1 vs H1 r1 i1 g1 h1 => ?_)⟩
  obtain ⟨es', e, h2⟩ := vY h1
  unfold qfH at e
  split at e
  . obtain ⟨v, rfl, j1⟩ := IsL.inv1 i1
    cases e
    obtain ⟨a1, xs, rfl, t1, il1⟩ := Is.tr j1
    exact ⟨a1, xs, rfl, t1.sq, h2 _ H1 r1 (qh0 t1 il1) .refl⟩
  . cases e
end
def vD : D -> V
  | .bl b => .bl b
  | .int i => .int i
  | .str x => .str x
  | _ => .non
def flD : D -> Bool
  | .non => true
  | .bl _ => true
  | .int _ => true
  | .str _ => true
  | _ => false
def sqD : D -> Option (List D)
  | .tup ds => some ds
  | .lst ds => some ds
  | _ => none
def inD (x y : D) : Option D := match sqD y with
  | some ds => if flD x && ds.all flD then some (.bl (ds.any fun d => eqV (vD d) (vD x))) else none
  | none => none
theorem qb6 {l : M (List D)} {ρ : Env} : qev l ρ = match l ρ with | .ok (d, ρ1) => (match qfH d with | some ds => .ok (ds, ρ1) | none => .bad) | .exc x ρ' => .exc x ρ' | .bad => .bad := by
  simp only [qev, bnd]
  cases l ρ with
  | ok z => obtain ⟨z1, ρ1⟩ := z; (dsimp only; cases qfH z1 <;> rfl)
  | exc x ρ' => rfl
  | bad => rfl
end L2.Sk
namespace L2.Sk
open PySem PySem.Spec PyProof.Rows
section
variable {X : Cx} {tg iter elt : Expr} {ifs : List Expr} {scope : Scope} {pos : Pos} {wi : TI} {N' : List Str} {nt : Nat} {fr : List Nat}
theorem qh2 {i : Nat} {x : Str} {pos' spos : Pos} (hN : X.N.Nodup) (hix : X.N[i]? = some x) (hx : Loc X.env.scope x) (hfx : X.fn x = true \/ X.env.scope.names.lookup x = some .local) (hc : X.calm = true) (hi : PI X tg iter wi) (S : jM X scope N' nt fr)
    (hsw : swapsWith (.ListComp elt [⟨tg, iter, ifs, 0⟩] scope pos) (some (.Name x pos')) spos.line X.env = pure true)
    (hs : ∀ x, foldedSetIterable iter X.env x = pure x := by intro _; rfl) : PS X (.Assign [.Name x pos'] (.ListComp elt [⟨tg, iter, ifs, 0⟩] scope pos) spos) (fun D σ H => qhy X tg ifs elt scope N' wi nt fr σ H fun v H' => D.nx (σ.set i (some v)) H') := by
  intro pins s σ H D I hw
  obtain ⟨cl, hcl, cl1, cl2⟩ := u4 (env := X.env) (scope := scope) (fun y hy hf => I.ok.has y.1 (.inl (S.frees y hy hf)))
  rw [exec_Assign_Name_used _ _ _ _ hsw]
  refine wpAny_bind (wpAny_standAt (wpAny_bind ?_))
  show wpAny (model X.prog X.w) X.A (comprehension (.ListComp elt [⟨tg, iter, ifs, 0⟩] scope pos) scope X.env _ (newList []) false (eval iter X.env) (some (assign (.Name x pos') X.env)) >>= fun _ => pure ()) _ _ s
  refine wpAny_bind (thn (Q := fun _ s' => SP X pins D .next s') ?_ fun _ s' q => wpAny_pure (wpAny_pure q))
  refine wpAny_comprehension_free (use := some (assign (.Name x pos') X.env)) rfl hs hcl S.kind S.names (thn (hi pins s σ H _ I hw) fun v s1 h1 => thn h1 fun itv s2 h2 => ?_)
  obtain ⟨it, fp, tn, J, H2, e, I2, T, st2, f2, hR⟩ := h2
  subst e
  have hacc : H2 s2.heap.objs.size = none := I2.hok.fresh (Nat.le_refl _)
  refine wpAny_newObj_type (wpAny_newFunctionEnv S.nocell (by intro y hy; simp at hy) (fun h₁ hns₁ hsb₁ => ?_) S.kind)
  dsimp only at hns₁ hsb₁ |-
  have I3 : Inv X pins σ (upd H2 s2.heap.objs.size (.lst [])) { s2 with heap := s2.heap.push { cls := .type "list", dict := none, data := .seq ([] : List Value).toArray } } :=
    I2.lnew (t' := s2.toks) (its := []) .nil (Nat.zero_le _)
  generalize hs3 : ({ s2 with heap := s2.heap.push { cls := .type "list", dict := none, data := .seq ([] : List Value).toArray } } : Shared) = s3 at I3
  have hh3 : s2.heap.push { cls := .type "list", dict := none, data := .seq ([] : List Value).toArray } = s3.heap := by rw [<- hs3]
  rw [hh3] at hns₁ hsb₁
  have old : ∀ b o, s3.heap.get? b = some o -> h₁.get? b = some o := fun b o q => hsb₁.extBut b o (Nat.ne_of_lt (Heap.lt_size q)) (Heap.get?_push_of_some _ q)
  have objs2 : ∀ b ∈ fp, ∃ o, s2.heap.get? b = some o := fun b hb => by
    obtain ⟨o, q, _⟩ := T.obj 0 _ st2 b hb
    exact ⟨o, q⟩
  have keep23 : ∀ b o, s2.heap.get? b = some o -> s3.heap.get? b = some o := fun b o q => by rw [<- hh3]; exact Heap.get?_push_of_some _ q
  have fpne : ∀ b ∈ fp, b ≠ s2.heap.objs.size := fun b hb => by
    obtain ⟨o, q⟩ := objs2 b hb
    exact Nat.ne_of_lt (Heap.lt_size q)
  have f3 : ∀ b ∈ fp, qbV X pins (upd H2 s2.heap.objs.size (.lst [])) b := fun b hb => ⟨by rw [qs (fpne b hb)]; exact (f2 b hb).1, (f2 b hb).2⟩
  have J0 : Inv (zy X scope N' fp cl s3.heap.objs.size s3 (upd H2 s2.heap.objs.size (.lst [])) (X.pn ++ pins)) [] (qC nt fr σ) (upd H2 s2.heap.objs.size (.lst [])) { s3 with heap := h₁, toks := s3.toks } :=
    qaj S I3 f3 (fun b hb => (objs2 b hb).imp fun o q => keep23 b o q) cl1 cl2 ⟨_, hns₁⟩ old
  obtain ⟨g, tt, te, hg, hf, he, W, ⟨m0, w0⟩, turn⟩ := hR s2.heap.objs.size fp cl s3.heap.objs.size s3 (upd H2 s2.heap.objs.size (.lst [])) (X.pn ++ pins) hacc
  have T0 : tn 0 h₁ := T.keep 0 _ _ st2 fun b hb o q => old b o (keep23 b o q)
  have s3e : ∀ tk : Nat, ({ s2 with heap := h₁, toks := tk } : Shared) = { s3 with heap := h₁, toks := tk } := fun tk => by rw [<- hs3]
  have loop : ∀ tk : Nat, codeAny (model X.prog X.w) X.A (.compLoop (.ListComp elt [⟨tg, iter, ifs, 0⟩] scope pos) 0 (.ref it) (.ref s2.heap.objs.size) (compEnvC scope cl s3.heap.objs.size X.env))
      (compPost (model X.prog X.w) X.A X.xe (some (assign (.Name x pos') X.env)) (fun _ s' => SP X pins D .next s') (.ref s2.heap.objs.size) s3.heap.objs.size) { s3 with heap := h₁, toks := tk } := fun tk => by
    have stat : ∀ {H' : Hp}, (∀ b ∈ fp, H' b = none) -> ∀ b ∈ fp, qbV (zy X scope N' fp cl s3.heap.objs.size s3 (upd H2 s2.heap.objs.size (.lst [])) (X.pn ++ pins)) [] H' b := fun {H'} hn b hb => by
      obtain ⟨o, q⟩ := objs2 b hb
      have hbC : b ≠ s3.heap.objs.size := Nat.ne_of_lt (Heap.lt_size (keep23 b o q))
      refine ⟨hn b hb, hbC, fun z => ?_, .inl hb, fun x c hx => (f2 b hb).2.2.2.2.1 x c (cl1 x c hx), fun p hp => ?_⟩
      . rcases List.mem_cons.mp (I2.stkSub b z) with z | z
        . exact (f2 b hb).2.1 z
        . exact (f2 b hb).2.2.1 z
      . have hp' : p ∈ X.pn ++ pins := by
          rcases List.mem_append.mp (show p ∈ (X.pn ++ pins) ++ [] from hp) with z | z
          . exact z
          . cases z
        exact (f2 b hb).2.2.2.2.2 p hp'
    have fr0 : ∀ b ∈ fp, upd H2 s2.heap.objs.size (.lst []) b = none := fun b hb => (f3 b hb).1
    refine wA (fun n s' => ∃ i σ' H', Inv (zy X scope N' fp cl s3.heap.objs.size s3 (upd H2 s2.heap.objs.size (.lst [])) (X.pn ++ pins)) [] σ' H' s' /\ tn i s'.heap /\ (∀ b ∈ fp, H' b = none) /\ W i n σ' H') ?_ m0
      ⟨0, qC nt fr σ, _, J0.tok tk, T0, fr0, w0⟩
    rintro n s4 ⟨i, σ4, H4, J4, st4, fr4, w4⟩
    rcases turn i n σ4 H4 w4 with ⟨stop, qn⟩ | ⟨go, step⟩
    . refine thn (T.done (zy X scope N' fp cl s3.heap.objs.size s3 (upd H2 s2.heap.objs.size (.lst [])) (X.pn ++ pins)) rfl rfl rfl hc i [] s4 σ4 H4 _ J4 (stat fr4) st4 stop) fun r s5 ⟨hr, J5⟩ => ?_
      subst hr
      obtain ⟨m5, n5, _⟩ := J5.loc
      have I5 : Inv X pins σ H4 s5 := qcw I3 f3 J5 (Heap.SameBut.refl ..)
      have lC : X.env.locals ≠ s3.heap.objs.size := Nat.ne_of_lt I3.lt
      have cC : ∀ y c, X.env.cells.lookup y = some c -> c ≠ s3.heap.objs.size := fun y c hy => by
        obtain ⟨v, o, ho, _⟩ := I3.cell y c hy
        exact Nat.ne_of_lt (Heap.lt_size ho)
      have pC : ∀ p ∈ X.pn ++ pins, p.1 ≠ s3.heap.objs.size := fun p hp => Nat.ne_of_lt (Heap.lt_size (I3.pin p hp).1)
      refine wpAny_assign_Name (qbe (v := .ref s2.heap.objs.size) I5 hN hix hx rfl (fun s'' I6 ⟨a, sb, ha⟩ => ?_) hfx)
      have aC : s3.heap.objs.size ≠ a := by
        rcases ha with rfl | ha
        . exact lC.symm
        . exact (cC _ _ ha).symm
      exact ⟨m5, n5.sameBut sb aC, fun h' sb' => ⟨_, H4, I6.turned (t' := s''.toks) (fun b o hb q => (sb'.2 b hb).trans q) J5.free lC.symm (.inr I3.sz) cC pC, qn⟩⟩
    . refine thn (T.item (zy X scope N' fp cl s3.heap.objs.size s3 (upd H2 s2.heap.objs.size (.lst [])) (X.pn ++ pins)) rfl rfl rfl hc i [] s4 σ4 H4 _ J4 (stat fr4) st4 go) fun r s5 ⟨u, hr, h5⟩ => ?_
      subst hr
      refine thn h5 fun _ s6 ⟨x, H6, J6, r6, y6, st6, fr6⟩ => ?_
      have J6' := J6.pinned (stat fr6) (T.obj _ _ st6)
      have again : ∀ {σ7 : St} {H7 : Hp} {s7 : Shared}, Inv (zy X scope N' fp cl s3.heap.objs.size s3 (upd H2 s2.heap.objs.size (.lst [])) (X.pn ++ pins)) ([] ++ qae fp s6.heap) σ7 H7 s7 -> (∃ m', m' < n /\ W (i + 1) m' σ7 H7) ->
          ∃ m, m < n /\ ∃ i σ' H', Inv (zy X scope N' fp cl s3.heap.objs.size s3 (upd H2 s2.heap.objs.size (.lst [])) (X.pn ++ pins)) [] σ' H' s7 /\ tn i s7.heap /\ (∀ b ∈ fp, H' b = none) /\ W i m σ' H' := fun {σ7 H7 s7} I7 hm => by
        obtain ⟨m', hm, w7⟩ := hm
        refine ⟨m', hm, i + 1, σ7, H7, I7.unpinned, T.keep _ _ _ st6 fun b hb o q => (I7.pin (b, o) (List.mem_append_right _ (List.mem_append_right _ (jZ hb q)))).1, fun b hb => ?_, w7⟩
        obtain ⟨o, q, d⟩ := T.obj _ _ st6 b hb
        exact (I7.pin (b, o) (List.mem_append_right _ (List.mem_append_right _ (jZ hb q)))).2.1
      refine thn (hg _ s6 σ4 H6 x u _ J6' r6 (step x H6 y6)) fun _ s7 ⟨σ7, H7, J7, q7⟩ => ?_
      refine thn (hf _ s7 σ7 H7 _ J7 q7) fun ok s8 ⟨H8, J8, q8⟩ => ?_
      cases ok with
      | false =>
        rw [if_neg Bool.false_ne_true] at q8 |-
        exact again J8 q8
      | true =>
        rw [if_pos rfl] at q8 |-
        refine thn (he _ s8 σ7 H8 _ J8 q8) fun z s9 ⟨y, H9, J9, r9, ys, hys, hz, hm⟩ => ?_
        refine thn (wm _ s9 σ7 H9 (.ref s2.heap.objs.size) [y] (.ref s2.heap.objs.size) [z] (fun _ H' => H' = upd H9 s2.heap.objs.size (.lst (ys ++ [y]))) J9 rfl (.cons r9 .nil) ⟨_, ys, y, rfl, rfl, hys, hz, rfl⟩) fun _ s10 ⟨_, H10, J10, _, e10⟩ => ?_
        subst e10
        exact again J10 hm
  have zL : ∀ tk : Nat, codeAny (model X.prog X.w) X.A (.compStart (.ListComp elt [⟨tg, iter, ifs, 0⟩] scope pos) 0 (.ref it) (.ref s2.heap.objs.size) (compEnvC scope cl s3.heap.objs.size X.env))
      (compPost (model X.prog X.w) X.A X.xe (some (assign (.Name x pos') X.env)) (fun _ s' => SP X pins D .next s') (.ref s2.heap.objs.size) s3.heap.objs.size) { s3 with heap := h₁, toks := tk } := fun tk =>
    codeAny_compStart_list (loop tk) (T.self X.A 0 _ _ _ T0 (loop tk))
  have fin := zL (s2.toks + ([] : List (Str × Value)).length)
  rw [<- s3e] at fin
  rw [<- hh3] at fin
  rw [hh3] at fin |-
  exact fin
end
section
variable {X : Cx} {c : Fc}
def DC (X : Cx) (c : Fc) (tg it elt : Expr) (ifs : List Expr) (scope : Scope) (N' : List Str) (nt : Nat) (fr : List Nat) (f : M D) : Prop := ∃ wi, PI X tg it wi /\ ∀ ρ σ H Q, Rep X.K c ρ σ H -> Wp X.K c σ H Q (f ρ) -> qhy X tg ifs elt scope N' wi nt fr σ H Q
theorem qh3 {it elt tg : Expr} {ifs : List Expr} {scope : Scope} {N' : List Str} {nt : Nat} {fr : List Nat} {fo : Option (Nat × Nat)} {f : M (List D)} {g : D -> Env -> Option Env} {t : M Bool} {k : M D} (hc : X.calm = true) (hi : DI X c tg it f) (S : jM X scope N' nt fr)
    (hfo : qhA c nt fr fo)
    (hb : ∀ fp cl C s₀ H₀ pn B0 H1 Io' acc S', DG (zy X scope N' fp cl C s₀ H₀ pn) (cin B0 H1 (foO fo) Io' acc S') tg g /\ DF (zy X scope N' fp cl C s₀ H₀ pn) (cin B0 H1 (foO fo) Io' acc S') ifs t /\ DE (zy X scope N' fp cl C s₀ H₀ pn) (cin B0 H1 (foO fo) Io' acc S') elt k)
    : DC X c tg it elt ifs scope N' nt fr (qV nt fr fo f g t k) := by
  obtain ⟨wi, pi, wI⟩ := hi
  refine ⟨wi, pi, fun ρ σ H Q r h => wI ρ σ H _ r (WpI.bnd h fun ds ρ1 J H1 r1 iok g1 h1 => ?_)⟩
  intro acc fp cl C s₀ H₀ pn hn
  obtain ⟨⟨tg', pg, wg⟩, ⟨tt, pt, wt⟩, ⟨te, pe, we⟩⟩ := hb fp cl C s₀ H₀ pn (Cn c σ) H1 (qbd σ fo) acc fun j => (qC nt fr σ)[j]?
  refine ⟨tg', tt, te, pg, pt, pe, ?_⟩
  cases ew : zO g t k ds [] (jn nt fr ρ1) with
  | exc x ρ' => rw [ew] at h1; exact h1.elim
  | bad => rw [ew] at h1; exact h1.elim
  | ok p =>
    rw [ew] at h1
    obtain ⟨ys, ρe⟩ := p
    have h1 : ∀ v H', Rep X.K c (qiD fo ρe ρ1) σ H' -> Is X.K (Cn c σ) H' (.lst ys) v -> Gr c.O σ H1 H' -> Q v H' := h1
    have accO : ∀ j ∈ foO fo, (qC nt fr σ)[j]? ≠ some (some (.ref acc)) := fun j hj e => by
      have r0 := r1.entry (acc := acc) hn hfo
      cases fo with
      | none => cases hj
      | some p =>
        obtain ⟨i', j'⟩ := p
        have e2 : j = i' := by simpa [foO] using hj
        subst e2
        obtain ⟨k2, j2, e1, e2, e3⟩ := j4 e
        have hk2 : k2 = j - nt := by omega
        subst hk2
        rw [hfo.2.2.1] at e2
        cases e2
        obtain ⟨a, us, e4, e5, _⟩ := r1.own j' hfo.1 _ e3
        cases e4; rw [hn] at e5; cases e5
    refine ⟨fun i m σ' H' => m = ds.length - i /\ i <= ds.length /\ ∃ ρ' zs xs, Rep X.K (cin (Cn c σ) H1 (foO fo) (qbd σ fo) acc fun j => (qC nt fr σ)[j]?) ρ' σ' H' /\ (∀ j ∈ foO fo, σ'[j]? = (qC nt fr σ)[j]?) /\ H' acc = some (.lst xs) /\ IsL X.K (Cn (cin (Cn c σ) H1 (foO fo) (qbd σ fo) acc fun j => (qC nt fr σ)[j]?) σ') H' zs xs /\ zO g t k (ds.drop i) zs ρ' = .ok (ys, ρe),
      ⟨ds.length, by simp, Nat.zero_le _, jn nt fr ρ1, [], [], r1.entry hn hfo, fun _ _ => rfl, qv, rfl, by simpa using ew⟩, ?_⟩
    rintro i m σ' H' ⟨rfl, hi, ρ', zs, xs, r', so, ha, iz, w⟩
    obtain ⟨_, gr⟩ := r1.leave hn hfo (fun i j e => so i (by rw [e]; simp [foO])) r'
    have ex : Ext (CnT c σ H1) H1 H' := ⟨gr.ext.tup, gr.ext.frz, fun b o hb hq => gr.ext.at_ b o hb.1.2 hq⟩
    have accC : ∀ τ : St, (∀ j ∈ foO fo, τ[j]? = (qC nt fr σ)[j]?) -> Cl (foO fo) τ acc := fun τ hτ j hj e => accO j hj (by rw [<- hτ j hj]; exact e)
    by_cases hlt : i < ds.length
    . refine .inr ⟨iok.go H' i ds[i] ex (by simp [hlt]), fun x H'' y => ?_⟩
      obtain ⟨sm, ix⟩ := iok.yl H' i ds[i] x H'' ex (by simp [hlt]) y
      rw [vy hlt] at w
      unfold zO at w
      have ix2 : Is X.K (Cn (cin (Cn c σ) H1 (foO fo) (qbd σ fo) acc fun j => (qC nt fr σ)[j]?) σ') H'' ds[i] x := Is.ext Ext.refl (fun a ha _ => ⟨⟨ha.1, fun e => by
        have := ha.2
        rw [e, hn] at this; cases this⟩, fun j hj e => by
          rw [so j hj] at e
          cases fo with
          | none => cases hj
          | some p =>
            obtain ⟨i', j'⟩ := p
            have e2 : j = i' := by simpa [foO, cin] using hj
            subst e2
            obtain ⟨k2, j2, e1, e2, e3⟩ := j4 e
            have hk2 : k2 = j - nt := by omega
            subst hk2
            rw [hfo.2.2.1] at e2
            cases e2
            exact ha.1.2 j' hfo.1 e3⟩) ix
      cases e1 : g ds[i] ρ' with
      | none => simp only [e1] at w; cases w
      | some ρ2 =>
        simp only [e1] at w
        refine wg ρ' σ' H'' ds[i] x ρ2 _ (r'.same sm) ix2 e1 fun σ2 r2 g2 o2 => ?_
        have so2 : ∀ j ∈ foO fo, σ2[j]? = (qC nt fr σ)[j]? := fun j hj => (o2 j hj).trans (so j hj)
        have ha2 : H'' acc = some (.lst xs) := sm _ _ ha
        have iz2 := g2.isL (IsL.ext (Ext.of_same sm) (fun _ h _ => h) iz)
        cases e2 : t ρ2 with
        | exc x ρ3 => simp only [e2] at w; cases w
        | bad => simp only [e2] at w; cases w
        | ok p2 =>
          obtain ⟨bb, ρ3⟩ := p2
          refine wt ρ2 σ2 H'' _ r2 ?_
          rw [e2]
          intro H3 r3 g3
          have ha3 : H3 acc = some (.lst xs) := g3.ext.at_ _ _ (accC σ2 so2) ha2
          have iz3 := g3.isL iz2
          cases bb with
          | false =>
            rw [if_neg Bool.false_ne_true]
            simp only [e2] at w
            exact ⟨ds.length - (i + 1), by omega, rfl, hlt, ρ3, zs, xs, r3, so2, ha3, iz3, w⟩
          | true =>
            rw [if_pos rfl]
            simp only [e2] at w
            cases e3 : k ρ3 with
            | exc x ρ4 => simp only [e3] at w; cases w
            | bad => simp only [e3] at w; cases w
            | ok p3 =>
              obtain ⟨d4, ρ4⟩ := p3
              simp only [e3] at w
              refine we ρ3 σ2 H3 _ r3 ?_
              rw [e3]
              intro y4 H4 r4 i4 g4
              have ha4 : H4 acc = some (.lst xs) := g4.ext.at_ _ _ (accC σ2 so2) ha3
              have hsz : qG (zs.length + 1) = true := by
                cases e5 : qG (zs.length + 1) with
                | true => rfl
                | false => rw [e5] at w; simp at w
              rw [if_pos hsz] at w
              have hsz' : zs.length + 1 <= sizeLine := of_decide_eq_true hsz
              have r5 := r4.grow (ys := xs ++ [y4]) ha4 (fun j hj e => accC σ2 so2 j hj e)
              have ext5 : Ext (Cn (cin (Cn c σ) H1 (foO fo) (qbd σ fo) acc fun j => (qC nt fr σ)[j]?) σ2) H4 (upd H4 acc (.lst (xs ++ [y4]))) := ⟨fun b us hb => by rw [qs (uV hb ha4 (by intro z; cases z))]; exact hb, fun b o u hb => by rw [qs (uV hb ha4 (by intro z; cases z))]; exact hb, fun b o hb hq => by rw [qs hb.1.2]; exact hq⟩
              refine ⟨xs, ha4, by rw [iz3.length]; omega, ds.length - (i + 1), by omega, rfl, hlt, ρ4, zs ++ [d4], xs ++ [y4], r5, so2, qv, ?_, w⟩
              exact IsL.append (IsL.ext ext5 (fun _ h _ => h) (g4.isL iz3)) (IsL.one (Is.ext ext5 (fun _ h _ => h) i4))
    . have hie : i = ds.length := by omega
      subst hie
      rw [List.drop_of_length_le (Nat.le_refl _)] at w
      unfold zO at w
      cases w
      obtain ⟨r6, g6⟩ := r1.leave hn hfo (fun i j e => so i (by rw [e]; simp [foO])) r'
      exact .inl ⟨iok.stop H' ex, h1 _ H' r6 ⟨acc, xs, rfl, r1.new hn, ha, IsL.ext Ext.refl (fun a ha hs => ha.1.1) iz⟩ g6⟩
theorem qh4 {i : Nat} {x : Str} {pos' spos pos : Pos} {tg it elt : Expr} {ifs : List Expr} {scope : Scope} {N' : List Str} {nt : Nat} {fr : List Nat} {f : M D} (hN : X.N.Nodup) (h : DC X c tg it elt ifs scope N' nt fr f) (hc : X.calm = true) (S : jM X scope N' nt fr)
    (ho : i ∉ c.O := by exact of_decide_eq_false rfl) (hix : X.N[i]? = some x := by rfl) (hx : Loc X.env.scope x := by first | exact Or.inl rfl | exact Or.inr rfl) (hfx : X.fn x = true \/ X.env.scope.names.lookup x = some .local := by first | exact .inl rfl | exact .inr rfl | assumption)
    (hsw : swapsWith (.ListComp elt [⟨tg, it, ifs, 0⟩] scope pos) (some (.Name x pos')) spos.line X.env = pure true := by rfl) (hs : ∀ x, foldedSetIterable it X.env x = pure x := by intro _; rfl) :
    DS X c (.Assign [.Name x pos'] (.ListComp elt [⟨tg, it, ifs, 0⟩] scope pos) spos) (zp i f) := by
  obtain ⟨wi, pi, w⟩ := h
  refine ⟨_, qh2 hN hix hx hfx hc pi S hsw hs, fun ρ σ H D r h => w ρ σ H _ r (Wp.sbnd h fun d ρ1 v H1 r1 i1 g1 h1 => ?_)⟩
  exact h1 _ H1 (r1.set ho i1) (.set ho)
end
end L2.Sk
namespace L2.Sk
open PySem PySem.Spec PyProof.Rows
def qby : List Int -> Int
  | [] => 0
  | [n] => n
  | n :: m :: ns => max n (qby (m :: ns))
theorem qcz : ∀ (n : Int) (ns : List Int), qby (n :: ns) ∈ n :: ns
  | n, [] => List.mem_cons_self
  | n, m :: ns => by
    have h := qcz m ns
    show max n (qby (m :: ns)) ∈ _
    rw [Int.max_def]
    split
    . exact List.mem_cons_of_mem _ h
    . exact List.mem_cons_self
theorem qew : ∀ (n : Int) (ns : List Int), ∀ k ∈ n :: ns, k <= qby (n :: ns)
  | n, [] => fun k hk => by
    have : k = n := by simpa using hk
    rw [this]; exact Int.le_refl _
  | n, m :: ns => fun k hk => by
    have h := qew m ns
    show k <= max n (qby (m :: ns))
    rcases List.mem_cons.mp hk with rfl | hk
    . exact Int.le_max_left ..
    . exact Int.le_trans (h k hk) (Int.le_max_right ..)
theorem qaK {ns : List Int} {z : Int} (h1 : z ∈ ns) (h2 : ∀ n ∈ ns, n <= z) : qby ns = z := by
  cases ns with
  | nil => cases h1
  | cons n ns => exact Int.le_antisymm (h2 _ (qcz n ns)) (qew n ns z h1)
theorem qbz {zs : Array (Int × Tok)} {i : Nat} (h : i < zs.size) : (zs.toList.map (·.1))[i]? = some (numAt zs i) := by
  have h' : i < zs.toList.length := by simpa using h
  rw [List.getElem?_map, List.getElem?_eq_getElem h']
  simp [numAt, h]
section
variable {X : Cx}
theorem ul (hc : X.calm = true) : yD X (.builtin "max") (fun xs H Q => ∃ (p : Addr) (ns : List Int), xs = [.ref p] /\ H p = some (.lst (ns.map V.int)) /\ ns ≠ [] /\ Q (.int (qby ns)) H) := by
  intro pins s σ H xs us Q I r h
  obtain ⟨p, ns, rfl, hp, hne, q⟩ := h
  obtain ⟨u, rfl, ru⟩ := qY.one r
  cases ru
  obtain ⟨its, rv, pl, hz⟩ := I.list (SqL.of hp)
  have hl := pl.isList
  have hi : IntsAre its ns := qc9 rv
  obtain ⟨zs, hx⟩ := hi.allInts.items
  have hl' : s.heap.IsList p (intItems zs) := hx ▸ hl
  have e1 : ns = zs.toList.map (·.1) := by
    rw [<- nums_intItems, <- hx]
    exact (show numsOf its.toArray.toList = ns from hi.numsOf).symm
  have hsz : 0 < zs.size := by
    cases hzz : zs.toList with
    | nil => rw [hzz] at e1; exact absurd e1 hne
    | cons a b =>
      have : zs.size = zs.toList.length := by simp
      rw [this, hzz]; simp
  refine max_intList (I.ok.hd hc) hl' hsz fun v h' tk hv hk => ?_
  obtain ⟨t, rfl⟩ := intItems_at hv
  obtain ⟨b1, b2⟩ := argBest_gt (numAt zs) (zs.size - 1)
  have e2 : qby ns = numAt zs (argBest (fun i j => decide (numAt zs i > numAt zs j)) (zs.size - 1)) := by
    refine qaK ?_ fun n hn => ?_
    . rw [e1]
      exact List.mem_of_getElem? (qbz (by omega))
    . rw [e1] at hn
      obtain ⟨j, hj⟩ := List.mem_iff_getElem?.mp hn
      have hj2 : j < zs.size := by
        have := (List.getElem?_eq_some_iff.mp hj).1
        simpa using this
      rw [qbz hj2] at hj
      cases hj
      exact b2 j (by omega)
  rw [<- e2]
  exact ⟨.int _, H, I.kept hk, ⟨_, rfl⟩, q⟩
end
def ue : List D -> Option D
  | [.lst ds] => match vT ds with
    | some (n :: ns) => some (.int (qby (n :: ns)))
    | _ => none
  | _ => none
theorem yK {K : Fr0} : wY K ue (fun xs H Q => ∃ (p : Addr) (ns : List Int), xs = [.ref p] /\ H p = some (.lst (ns.map V.int)) /\ ns ≠ [] /\ Q (.int (qby ns)) H) := by
  intro A H xs d vs Q hn h e k
  unfold ue at e
  split at e
  . obtain ⟨v, rfl, a, zs, rfl, _, ta, il⟩ := IsL.inv1 h
    split at e
    . rename_i n ns hi
      cases e
      rw [vw il hi] at ta
      exact ⟨a, n :: ns, rfl, ta, by simp, k _ H (jm.refl H) rfl⟩
    . cases e
  . cases e
end L2.Sk
namespace L2.Sk
open PySem PySem.Spec PyProof.Rows
def yt (t : M Bool) (b : MS) : Nat -> MS
  | 0, _ => .bad
  | n + 1, ρ => match t ρ with
    | .ok (true, ρ1) => match b ρ1 with
      | .ok (.nx ρ2) => yt t b n ρ2
      | .ok (.ct ρ2) => yt t b n ρ2
      | .ok (.bk ρ2) => .ok (.nx ρ2)
      | .ok (.rt d ρ2) => .ok (.rt d ρ2)
      | .exc x ρ2 => .exc x ρ2
      | .bad => .bad
    | .ok (false, ρ1) => .ok (.nx ρ1)
    | .exc x ρ1 => .exc x ρ1
    | .bad => .bad
open Classical in
noncomputable def qan (t : M Bool) (b : MS) : MS := fun ρ => if h : ∃ n, yt t b n ρ ≠ .bad then yt t b h.choose ρ else .bad
theorem ux {t : M Bool} {b : MS} : ∀ {n : Nat} {ρ : Env} (k : Nat), yt t b n ρ ≠ .bad -> yt t b (n + k) ρ = yt t b n ρ
  | 0, ρ, k, h => absurd rfl h
  | n + 1, ρ, k, h => by
    have e : n + 1 + k = (n + k) + 1 := by omega
    rw [e]
    unfold yt at h |-
    cases et : t ρ with
    | ok p =>
      obtain ⟨v, ρ1⟩ := p
      rw [et] at h
      cases v with
      | false => rfl
      | true =>
        dsimp only at h |-
        cases eb : b ρ1 with
        | ok fl =>
          rw [eb] at h
          cases fl with
          | nx ρ2 => exact ux k h
          | ct ρ2 => exact ux k h
          | bk ρ2 => rfl
          | rt d ρ2 => rfl
        | exc x ρ2 => rfl
        | bad => rfl
    | exc x ρ1 => rfl
    | bad => rfl
theorem qex {t : M Bool} {b : MS} {n : Nat} {ρ : Env} {r : R Fl} (h : yt t b n ρ = r) (hb : r ≠ .bad) : qan t b ρ = r := by
  have hx : ∃ n, yt t b n ρ ≠ .bad := ⟨n, by rw [h]; exact hb⟩
  unfold qan
  rw [dif_pos hx]
  have hc := hx.choose_spec
  generalize hx.choose = m at hc
  rcases Nat.le_total m n with hl | hl
  . obtain ⟨k, rfl⟩ := Nat.exists_eq_add_of_le hl
    rw [<- ux k hc]; exact h
  . obtain ⟨k, rfl⟩ := Nat.exists_eq_add_of_le hl
    rw [ux k (by rw [h]; exact hb)]; exact h
theorem qdh {t : M Bool} {b : MS} {ρ : Env} : ∃ n, qan t b ρ = yt t b n ρ := by
  unfold qan
  split
  . exact ⟨_, rfl⟩
  . exact ⟨0, rfl⟩
section
variable {X : Cx} {c : Fc} {pos : Pos}
theorem qfI {e : Expr} {body : List Stmt} {t : M Bool} {b : MS} (hp : PassesOwn (model X.prog X.w) X.A X.env X.xe) (ht : DT X c e t) (hb : DSs X c body b) : DS X c (.While e body [] pos) (qan t b) := by
  obtain ⟨tc, pc, wc⟩ := ht
  obtain ⟨tb, pb, wb⟩ := hb
  refine ⟨_, qfi hp pc pb, fun ρ σ H D' r h => ?_⟩
  obtain ⟨n, en⟩ := qdh (t := t) (b := b) (ρ := ρ)
  rw [en] at h
  refine ⟨fun m σ' H' => ∃ ρ', Rep X.K c ρ' σ' H' /\ WpS X.K c σ' H' D' (yt t b m ρ'), ⟨n, ρ, r, h⟩, ?_⟩
  rintro m σ' H' ⟨ρ', r', w⟩
  cases m with
  | zero => exact w.elim
  | succ m =>
    unfold yt at w
    refine wc ρ' σ' H' _ r' ?_
    cases et : t ρ' with
    | bad => rw [et] at w; exact w
    | exc x ρ1 => rw [et] at w; exact fun H1 r1 g1 => w σ' H1 r1 g1.s
    | ok p =>
      obtain ⟨v, ρ1⟩ := p
      rw [et] at w
      intro H1 r1 g1
      cases v with
      | false =>
        rw [if_neg Bool.false_ne_true]
        exact w σ' H1 r1 g1.s
      | true =>
        rw [if_pos rfl]
        dsimp only at w
        refine ⟨fun σ2 H2 => ∃ ρ2, Rep X.K c ρ2 σ2 H2 /\ WpS X.K c σ2 H2 D' (yt t b m ρ2), fun σ2 H2 q => ⟨m, Nat.lt_succ_self m, q⟩, wb ρ1 σ' H1 _ r1 ?_⟩
        have w2 := w.gr g1.s
        cases e2 : b ρ1 with
        | ok fl =>
          cases fl with
          | nx ρ3 => simp only [e2] at w2; exact fun σ3 H3 r3 g3 => ⟨ρ3, r3, w2.gr g3⟩
          | ct ρ3 => simp only [e2] at w2; exact fun σ3 H3 r3 g3 => ⟨ρ3, r3, w2.gr g3⟩
          | bk ρ3 => simp only [e2] at w2; exact w2
          | rt d ρ3 => simp only [e2] at w2; exact w2
        | exc x ρ3 => simp only [e2] at w2; exact w2
        | bad => simp only [e2] at w2; exact w2
end
end L2.Sk
namespace L2.Sk
open PySem PySem.Spec PyProof.Rows
def qkc (K : Fr0) (a : Addr) (ns : List Int) : Prop := ∃ (o : Obj) (its : Array Value) (n : Nat), K.lookup a = some o /\ o.cls = .type "tuple" /\ o.data = .seq its n /\ its.size <= sizeLine /\ qY (ns.map V.int) its.toList
theorem qkc.is {K : Fr0} {a : Addr} {ns : List Int} (h : qkc K a ns) (H : Hp) (A : Addr -> Prop) : Is K A H (.tup (ns.map .int)) (.ref a) := ⟨a, _, rfl, .inr h, qaE ns⟩
theorem qfJ {X : Cx} {c : Fc} {x : Str} {a : Addr} {ns : List Int} {pos : Pos} (hg : Gl X x) (hm : X.mg x = some (.ref a)) (ht : qkc X.K a ns) (hdb : (x == ("__debug__" : Str)) = false := by decide) : DE X c (.Name x pos) (ret (.tup (ns.map .int))) :=
  qdX (v := .ref a) hg hm rfl (fun H A => ht.is H A) hdb
end L2.Sk
namespace L2.Sk
open PySem PySem.Spec PyProof.Rows
def qaL (h : Heap) (e T : Addr) (cls : Value) : Prop :=
  ∃ oe vs oT ts a0, h.get? e = some oe /\ (oe.cls = cls /\ vs[2]? = some .none /\ vs[0]? = some a0) /\ oe.data = .fields vs /\ vs[1]? = some (.ref T) /\ T ≠ e /\ h.get? T = some oT /\ oT.data = .fields ts /\ ts[3]? = some .none
def CX1 (P : Program) (w : World) : CXT := fun outer H s E u s' => ∃ e T C H', u = .ref e /\ s'.os = s.os /\ AllBare s'.gens /\ Un (frs outer) [] H H' s.heap s'.heap /\ HOk P w H' s'.heap /\
  s.heap.get? e = none /\ s.heap.get? T = none /\ H' e = none /\ H' T = none /\ qaL s'.heap e T (.ref C) /\ E (.ref C) none H'
structure Lft (h h' : Heap) (ch fs : List Addr) : Prop where
  keep : ∀ b o, b ∉ ch -> b ∉ fs -> h.get? b = some o -> h'.get? b = some o
  slot : ∀ b o, b ∈ fs -> h.get? b = some o -> ∃ sl, h'.get? b = some { o with slots := sl }
section
variable {M : Model} {A : Around} {E : Value -> Shared -> Prop} {s : Shared}
abbrev vG : Obj -> Obj := Obj.mapFields (·.setIfInBounds 3 Value.none)
theorem qh5 {base : Heap} {l : List PySem.Env} {h : Heap} {b : Addr} {o : Obj} {vs : Array Value} (hl : h.FunFrames base l) (hb : h.get? b = some o) (hd : o.data = .fields vs) : b ∉ frs l := fun z => by
  obtain ⟨_, o', ho', hn⟩ := hl.mem z
  rw [hb] at ho'
  cases ho'
  exact hn vs hd
theorem qcA {e T : Addr} {oe oT : Obj} {vs ts : Array Value} {Q : Unit -> Shared -> Prop} (he : s.heap.get? e = some oe) (hd : oe.data = .fields vs) (h1 : vs[1]? = some (.ref T)) (hT : s.heap.get? T = some oT) (hdT : oT.data = .fields ts) (h3 : 3 < ts.size)
    (k : Q () { s with heap := s.heap.update T vG }) : wpAny M A (setFlight (.ref e) none) Q E s := by
  unfold setFlight
  refine wpAny_bind (wpAny_field he hd h1 ?_)
  have t : (Value.ref T != Value.none) = true := by simp
  rw [if_pos t]
  exact wpAny_setField hT hdT h3 k
theorem vH {h : Heap} {T : Addr} {oT : Obj} {ts : Array Value} (hT : h.get? T = some oT) (hdT : oT.data = .fields ts) (h3 : 3 < ts.size) : ∃ o2 t2, (h.update T vG).get? T = some o2 /\ o2.data = .fields t2 /\ t2[3]? = some .none :=
  ⟨_, _, Heap.get?_update_self _ hT (Obj.isFreed_of_fields (Obj.data_mapFields hdT _)), Obj.data_mapFields hdT _, by simp [h3]⟩
theorem zo {h : Heap} {T b : Addr} (n : b ≠ T) : (h.update T vG).get? b = h.get? b := Heap.get?_update_other _ _ (Ne.symm n)
theorem qfK {base : Heap} {env : PySem.Env} {outer : List PySem.Env} {L e : Addr} {oe : Obj} {vs : Array Value} {head : Value} {had : Bool} {Q : Unit -> Shared -> Prop} (hfr : A.frames = some (env :: outer)) (hl : s.heap.FunFrames base (env :: outer)) (hf : env.frame = some L)
    (he : s.heap.get? e = some oe) (hd : oe.data = .fields vs) (h1 : 1 < vs.size)
    (k : ∀ h' T, s.heap.get? T = none -> T ≠ e -> (∀ b o, b ≠ e -> b ∉ frs (env :: outer) -> s.heap.get? b = some o -> h'.get? b = some o) -> (∀ b o, b ∈ frs (env :: outer) -> s.heap.get? b = some o -> ∃ sl, h'.get? b = some { o with slots := sl }) ->
      h'.get? e = some (Obj.mapFields (·.setIfInBounds 1 (Value.ref T)) oe) -> (∃ oT ts, h'.get? T = some oT /\ oT.data = .fields ts /\ 3 < ts.size) -> h'.FunFrames base (env :: outer) -> Q () { s with heap := h' }) :
    wpAny M A (do let a <- frameOf env; let pl <- entryPlaceOf L had; let b <- EntryCells.newEntry head a .none (rawInt L) .none pl; setField (.ref e) 1 b) Q E s := by
  have hene := qh5 hl he hd
  refine wpAny_bind (wpAny_frameOf_fun hfr hl hf fun h₁ hs₁ => wpAny_bind (wpAny_entryPlaceOf fun pl hpl => ?_))
  unfold EntryCells.newEntry newFields
  have he₁ : h₁.get? e = some oe := (hs₁.2.1 e hene).trans he
  refine wpAny_bind (wpAny_newObj_type ?_ (hpl.sizeOk5 _ _ _ _ _))
  generalize hob : ({ cls := Value.type "traceback", dict := none, data := Data.fields ([head, Value.ref L, Value.none, rawInt L, Value.none] ++ (if pl.isEmpty then List.replicate 6 Value.none else pl)).toArray } : Obj) = ob
  have nT : h₁.objs.size ≠ e := Nat.ne_of_gt (Heap.lt_size he₁)
  have hnT : s.heap.get? h₁.objs.size = none := by
    cases q : s.heap.get? h₁.objs.size with
    | none => rfl
    | some o =>
      obtain ⟨sl, q'⟩ := hs₁.2.2 _ o q
      exact absurd (Heap.lt_size q') (Nat.lt_irrefl _)
  refine wpAny_setField (Heap.get?_push_of_some _ he₁) hd h1 ?_
  have keep : ∀ b o, b ≠ e -> h₁.get? b = some o -> ((h₁.push ob).update e (Obj.mapFields (·.setIfInBounds 1 (Value.ref h₁.objs.size)))).get? b = some o := fun b o hb q => (Heap.get?_update_other _ _ (Ne.symm hb)).trans (Heap.get?_push_of_some _ q)
  refine k _ h₁.objs.size hnT nT (fun b o hb hf q => keep b o hb ((hs₁.2.1 b hf).trans q)) (fun b o hb q => ?_) (Heap.get?_update_self _ (Heap.get?_push_of_some _ he₁) (Obj.isFreed_of_fields (Obj.data_mapFields hd _))) ⟨ob, ([head, Value.ref L, Value.none, rawInt L, Value.none] ++ (if pl.isEmpty then List.replicate 6 Value.none else pl)).toArray, ?_, by rw [<- hob], by simp⟩ (hl.of_keeps fun b o q hn => ?_)
  . obtain ⟨sl, q'⟩ := hs₁.2.2 b o q
    exact ⟨sl, keep b _ (fun z => hene (z ▸ hb)) q'⟩
  . exact (Heap.get?_update_other _ _ (Ne.symm nT)).trans (Heap.get?_push_size _ (by rw [<- hob]; rfl))
  . obtain ⟨sl, q'⟩ := hs₁.2.2 b o q
    exact ⟨_, keep b _ (fun z => by subst z; rw [he] at q; cases q; exact hn vs hd) q', rfl⟩
theorem qcB {base : Heap} {env : PySem.Env} {outer : List PySem.Env} {L e : Addr} {oe : Obj} {vs : Array Value} {a0 head : Value} {had : Bool} {Q : Unit -> Shared -> Prop} (hfr : A.frames = some (env :: outer)) (hl : s.heap.FunFrames base (env :: outer)) (hf : env.frame = some L)
    (he : s.heap.get? e = some oe) (hd : oe.data = .fields vs) (h1 : 1 < vs.size) (h2 : vs[2]? = some .none) (h0 : vs[0]? = some a0)
    (k : ∀ h' T', Lft s.heap h' [e] (frs (env :: outer)) -> qaL h' e T' oe.cls -> s.heap.get? T' = none -> Q () { s with heap := h' }) :
    wpAny M A (do let a <- frameOf env; let pl <- entryPlaceOf L had; let b <- EntryCells.newEntry head a .none (rawInt L) .none pl; setField (.ref e) 1 b) (fun _ s' => wpAny M A (setFlight (.ref e) none) Q E s') E s := by
  refine qfK hfr hl hf he hd h1 fun h' T nT ne kp sl ee eT _ => ?_
  obtain ⟨oT, ts, gT, dT, sT⟩ := eT
  have dd := Obj.data_mapFields hd (·.setIfInBounds 1 (Value.ref T))
  refine qcA (s := { s with heap := h' }) ee dd (by simp [h1]) gT dT sT ?_
  obtain ⟨o2, t2, q1, q2, q3⟩ := vH gT dT sT
  have nf : ∀ b o, s.heap.get? b = some o -> b ≠ T := fun b o q z => by rw [z, nT] at q; cases q
  refine k _ T ⟨fun b o hb hf q => (zo (nf b o q)).trans (kp b o (by simpa using hb) hf q), fun b o hb q => ?_⟩ ⟨_, _, o2, t2, a0, (zo (Ne.symm ne)).trans ee, ⟨Obj.cls_mapFields _ _, ?_, ?_⟩, dd, by simp [h1], ne, q1, q2, q3⟩ nT
  . obtain ⟨sl, q'⟩ := sl b o hb q
    exact ⟨sl, (zo (nf b o q)).trans q'⟩
  . rw [Array.getElem?_setIfInBounds_ne (by decide)]; exact h2
  . rw [Array.getElem?_setIfInBounds_ne (by decide)]; exact h0
theorem qbA {base : Heap} {env : PySem.Env} {outer : List PySem.Env} {L e T : Addr} {cls : Value} {Q : Unit -> Shared -> Prop} (hfr : A.frames = some (env :: outer)) (hl : s.heap.FunFrames base (env :: outer)) (hf : env.frame = some L) (F : qaL s.heap e T cls)
    (k : ∀ h' T', Lft s.heap h' [e, T] (frs (env :: outer)) -> qaL h' e T' cls -> (T' = T \/ s.heap.get? T' = none) -> Q () { s with heap := h' }) :
    wpAny M A (noteFrame (.ref e) env) (fun _ s₂ => wpAny M A (setFlight (.ref e) none) Q E s₂) E s := by
  obtain ⟨oe, vs, oT, ts, a0, he, ⟨hc, h2, h0⟩, hd, h1, hne, hT, hdT, h3⟩ := F
  subst hc
  have z3 : 3 < ts.size := (Array.getElem?_eq_some_iff.mp h3).1
  have z1 : 1 < vs.size := (Array.getElem?_eq_some_iff.mp h1).1
  have tT : (Value.ref T != Value.none) = true := by simp
  have tL : ¬ ((Value.none == rawInt L) = true) := by simp [rawInt]
  have nf := qh5 hl hT hdT
  unfold noteFrame
  simp only [hf]
  refine wpAny_bind (wpAny_field he hd h1 ?_)
  rw [if_pos tT]
  refine wpAny_bind (wpAny_field hT hdT h3 ?_)
  rw [if_neg tL]
  refine wpAny_bind (wpAny_setField hT hdT z3 ?_)
  have hl1 : (s.heap.update T vG).FunFrames base (env :: outer) := hl.of_keeps fun b o q hn => ⟨o, (zo fun z => by subst z; rw [hT] at q; cases q; exact hn ts hdT).trans q, rfl⟩
  refine qcB (s := { s with heap := s.heap.update T vG }) hfr hl1 hf ((zo (Ne.symm hne)).trans he) hd z1 h2 h0 fun h' T' x y z => ?_
  refine k h' T' ⟨fun b o hb hf q => ?_, fun b o hb q => ?_⟩ y (.inr ?_)
  . simp only [List.mem_cons, List.not_mem_nil, or_false, not_or] at hb
    exact x.keep b o (by simpa using hb.1) hf ((zo hb.2).trans q)
  . exact x.slot b o hb ((zo fun (z : b = T) => nf (z ▸ hb)).trans q)
  . by_cases e2 : T' = T
    . subst e2
      obtain ⟨_, _, q, _⟩ := vH hT hdT z3
      have z' : (s.heap.update T' vG).get? T' = none := z
      rw [q] at z'; cases z'
    . exact (zo e2).symm.trans z
theorem qdi {base : Heap} {env : PySem.Env} {outer : List PySem.Env} {L e T : Addr} {cls : Value} {Q : Unit -> Shared -> Prop} (hfr : A.frames = some (env :: outer)) (hl : s.heap.FunFrames base (env :: outer)) (hf : env.frame = some L) (F : qaL s.heap e T cls)
    (k : ∀ h' T', Lft s.heap h' [e, T] (frs (env :: outer)) -> qaL h' e T' cls -> (T' = T \/ s.heap.get? T' = none) -> Q () { s with heap := h' }) : wpAny M A (leaving env (.ref e)) Q E s := by
  unfold leaving
  exact wpAny_bind (qbA hfr hl hf F k)
theorem qdj {base h : Heap} {env : PySem.Env} {outer : List PySem.Env} {L e : Addr} {cls : Value} {args : List Value} {Q : Unit -> Shared -> Prop} (hfr : A.frames = some (env :: outer)) (hl : h.FunFrames base (env :: outer)) (hf : env.frame = some L) (hx : Heap.MadeExcOf h s.heap e cls args)
    (k : ∀ h' T', Lft s.heap h' [e] (frs (env :: outer)) -> qaL h' e T' cls -> s.heap.get? T' = none -> Q () { s with heap := h' }) : wpAny M A (leaving env (.ref e)) Q E s := by
  obtain ⟨t, he, htn, ht⟩ := hx.there
  have hl1 : s.heap.FunFrames base (env :: outer) := hl.of_keeps fun b o q _ => ⟨o, hx.keeps b o q, rfl⟩
  unfold leaving noteFrame
  simp only [hf]
  refine wpAny_bind (wpAny_bind (wpAny_field he rfl (x := .none) rfl ?_))
  rw [if_neg (by decide)]
  exact qcB hfr hl1 hf he rfl (of_decide_eq_true rfl) rfl rfl k
theorem qdk {base : Heap} {l : List PySem.Env} {e T : Addr} {cls : Value} {Q : Unit -> Shared -> Prop} (hl : s.heap.FunFrames base l) (F : qaL s.heap e T cls)
    (k : ∀ h' T', Lft s.heap h' [e, T] (frs l) -> qaL h' e T' cls -> (T' = T \/ s.heap.get? T' = none) -> Q () { s with heap := h' }) :
    wpAny M A (setFlight (.ref e) none) Q E s := by
  obtain ⟨oe, vs, oT, ts, a0, he, hc, hd, h1, hne, hT, hdT, h3⟩ := F
  have z3 : 3 < ts.size := (Array.getElem?_eq_some_iff.mp h3).1
  have nf := qh5 hl hT hdT
  refine qcA he hd h1 hT hdT z3 ?_
  obtain ⟨o2, t2, q1, q2, q3⟩ := vH hT hdT z3
  refine k _ T ⟨fun b o hb _ q => ?_, fun b o hb q => ⟨o.slots, (zo fun (z : b = T) => nf (z ▸ hb)).trans q⟩⟩ ⟨oe, vs, o2, t2, a0, (zo (Ne.symm hne)).trans he, hc, hd, h1, hne, q1, q2, q3⟩ (.inl rfl)
  simp only [List.mem_cons, List.not_mem_nil, or_false, not_or] at hb
  exact (zo hb.2).trans q
end
theorem qgO {P : Program} {w : World} {H : Hp} {h h' : Heap} (x : HOk P w H h) (k : ∀ b o, (H b).isSome = true -> h.get? b = some o -> h'.get? b = some o) : HOk P w H h' := fun a o e =>
  (x a o e).stay (fun b u hb q => k b u (by rcases hb with rfl | hb; · rw [e]; rfl
                                            . rw [hb]; rfl) q) (fun _ z => z) fun _ _ z => z
theorem yR {P : Program} {w : World} {H : Hp} {h : Heap} {a : Addr} {o : HO} (x : yf P w H h a o) : ∃ u, h.get? a = some u := by
  cases o with
  | lst xs => obtain ⟨_, _, _, _, e⟩ := x; exact ⟨_, e⟩
  | tup xs => obtain ⟨_, _, _, ob, e, _⟩ := x; exact ⟨_, e⟩
  | dK kvs => obtain ⟨_, _, _, _, o, _, _, e, _⟩ := x; exact ⟨_, e⟩
  | dT kvs => obtain ⟨_, _, _, _, o, _, _, e, _⟩ := x; exact ⟨_, e⟩
  | set S n => obtain ⟨o, _, _, _, e, _⟩ := x; exact ⟨_, e⟩
  | ins C dx fs => obtain ⟨_, _, _, e, _⟩ := x; exact ⟨_, e⟩
  | own y => obtain ⟨_, e⟩ := x; exact ⟨_, e⟩
  | xd fs => obtain ⟨_, ⟨_, _, _, e, _⟩, _⟩ := x; exact ⟨_, e⟩
  | rng lo hi => obtain ⟨_, _, _, e⟩ := x; exact ⟨_, e⟩
  | frz ob u => obtain ⟨e, _⟩ := x; exact ⟨_, e⟩
  | tbl ps => exact ⟨_, (show h.get? a = some _ from x)⟩
  | met f y => exact ⟨_, (show h.get? a = some _ from x)⟩
  | ext φ => obtain ⟨_, e, _⟩ := x; exact e
section
variable {X : Cx} {pins : List (Addr × Obj)} {σ : St} {H : Hp} {s : Shared}
theorem qcC {H' : Hp} {s' : Shared} {h' : Heap} {ch : List Addr} (I : Inv X pins σ H s) (hs : X.stack = X.env :: X.outer) (hf : X.env.frame = some X.env.locals) (hex : X.ex = [])
    (u : Un (frs X.stack) [] H H' s.heap s'.heap) (hok : HOk X.prog X.w H' s'.heap) (hch : ∀ b ∈ ch, H' b = none) (hchn : ∀ b ∈ ch, s.heap.get? b = none) (x : Lft s'.heap h' ch (frs X.stack)) :
    Un (frs X.outer) [] X.H₀ H' X.s₀.heap h' /\ HOk X.prog X.w H' h' := by
  have hfs : frs X.stack = X.env.locals :: frs X.outer := by rw [hs]; unfold frs; rw [List.filterMap_cons, hf]
  have hb := I.base
  rw [hex] at hb
  have nL : ∀ b o, X.s₀.heap.get? b = some o -> b ≠ X.env.locals := fun b o q z => absurd (Nat.lt_of_lt_of_le (Heap.lt_size q) (z ▸ I.ok.above)) (Nat.lt_irrefl _)
  have nch : ∀ b o, X.s₀.heap.get? b = some o -> b ∉ ch := fun b o q z => by
    obtain ⟨o', q'⟩ := hb.there b o q (by simp)
    rw [hchn b z] at q'; cases q'
  have nfs : ∀ b o, X.s₀.heap.get? b = some o -> b ∉ frs X.outer -> b ∉ frs X.stack := fun b o q z y => by
    rw [hfs] at y
    exact (List.mem_cons.mp y).elim (nL b o q) z
  have yfs : ∀ b, b ∈ frs X.outer -> b ∈ frs X.stack := fun b z => by rw [hfs]; exact List.mem_cons_of_mem _ z
  refine ⟨⟨fun b o q n hb1 _ => ?_, fun b o q n hb1 _ => ?_, fun b o q n _ => ?_, fun b o q _ => ?_, fun b xs q => u.tups b xs (hb.tups b xs q), fun b o v q => u.frzs b o v (hb.frzs b o v q), fun b ps q => ?_⟩, ?_⟩
  . exact x.keep b o (nch b o q) (nfs b o q hb1) (u.keep b o (hb.keep b o q n hb1 (by simp)) (hb.free b o q n (by simp)) (nfs b o q hb1) (by simp))
  . obtain ⟨sl, q1⟩ := hb.slot b o q n hb1 (by simp)
    obtain ⟨sl2, q2⟩ := u.slot b _ q1 (hb.free b o q n (by simp)) (yfs b hb1) (by simp)
    obtain ⟨sl3, q3⟩ := x.slot b _ (yfs b hb1) q2
    exact ⟨sl3, q3⟩
  . obtain ⟨o', q'⟩ := hb.there b o q (by simp)
    exact u.free b o' q' (hb.free b o q n (by simp)) (by simp)
  . obtain ⟨o1, q1⟩ := hb.there b o q (by simp)
    obtain ⟨o2, q2⟩ := u.there b o1 q1 (by simp)
    by_cases hb1 : b ∈ frs X.stack
    . obtain ⟨sl, q3⟩ := x.slot b o2 hb1 q2
      exact ⟨_, q3⟩
    . exact ⟨o2, x.keep b o2 (nch b o q) hb1 q2⟩
  . obtain ⟨m1, q1⟩ := hb.tbls b ps q
    obtain ⟨m2, q2⟩ := u.tbls b _ q1
    exact ⟨m1 ++ m2, by rw [q2, Array.append_assoc]⟩
  . refine qgO hok fun b o hb1 q => x.keep b o (fun z => ?_) (fun z => ?_) q
    . rw [hch b z] at hb1; cases hb1
    . obtain ⟨_, o1, ho1, _⟩ := I.stack.mem z
      rw [u.free b o1 ho1 (I.stkFree b z) (by simp)] at hb1
      cases hb1
theorem qh6 {s' : Shared} {E : XK} {u : Value} {A : Around} (I : Inv X pins σ H s) (hs : X.stack = X.env :: X.outer) (hf : X.env.frame = some X.env.locals) (hex : X.ex = []) (hA : A.frames = some X.stack) (x : CX1 X.prog X.w X.stack H s E u s') {E' : Value -> Shared -> Prop} :
    wpAny (model X.prog X.w) A (leaving X.env u) (fun _ s'' => CX1 X.prog X.w X.outer X.H₀ X.s₀ E u s'') E' s' := by
  obtain ⟨e, T, C, H', rfl, os, bare, un, hok, he, hT, hHe, hHT, F, q⟩ := x
  have hl : s'.heap.FunFrames X.base X.stack := by
    have h0 := I.stack
    have all : ∀ (l : List PySem.Env), (∀ b ∈ frs l, b ∈ frs X.stack) -> s.heap.FunFrames X.base l -> s'.heap.FunFrames X.base l := by
      intro l
      induction l with
      | nil => intro _ _; trivial
      | cons env r ih =>
        intro hss hl
        obtain ⟨hk, ⟨L, o, hf', hn, ho, hd⟩, hr⟩ := hl
        have hfr : frs (env :: r) = L :: frs r := by unfold frs; rw [List.filterMap_cons, hf']
        rw [hfr] at hss
        have hL := hss L List.mem_cons_self
        obtain ⟨sl, e⟩ := un.slot L o ho (I.stkFree L hL) hL (by simp)
        exact ⟨hk, ⟨L, _, hf', hn, e, hd⟩, ih (fun b hb => hss b (List.mem_cons_of_mem _ hb)) hr⟩
    exact all X.stack (fun _ z => z) h0
  rw [hs] at hl hA
  refine qdi hA hl hf F fun h' T' y1 y2 y3 => ?_
  rw [<- hs] at y1
  have hz : ∀ b ∈ [e, T], H' b = none := fun b hb => by
    simp only [List.mem_cons, List.not_mem_nil, or_false] at hb
    rcases hb with rfl | rfl
    . exact hHe
    . exact hHT
  have hzn : ∀ b ∈ [e, T], s.heap.get? b = none := fun b hb => by
    simp only [List.mem_cons, List.not_mem_nil, or_false] at hb
    rcases hb with rfl | rfl
    . exact he
    . exact hT
  obtain ⟨z1, z2⟩ := qcC I hs hf hex un hok hz hzn y1
  have up : ∀ b, s.heap.get? b = none -> X.s₀.heap.get? b = none := fun b hb => by
    cases q : X.s₀.heap.get? b with
    | none => rfl
    | some o =>
      obtain ⟨o', q'⟩ := I.base.there b o q (by rw [hex]; simp)
      rw [hb] at q'; cases q'
  have up' : ∀ b, s'.heap.get? b = none -> s.heap.get? b = none := fun b hb => by
    cases q : s.heap.get? b with
    | none => rfl
    | some o =>
      obtain ⟨o', q'⟩ := un.there b o q (by simp)
      rw [hb] at q'; cases q'
  have hT2 : s.heap.get? T' = none := y3.elim (fun z => z ▸ hT) (up' T')
  have hHT2 : H' T' = none := y3.elim (fun z => z ▸ hHT) fun z => by
    cases q : H' T' with
    | none => rfl
    | some o =>
      obtain ⟨o', q'⟩ := yR (hok _ _ q)
      rw [z] at q'; cases q'
  exact ⟨e, T', C, H', rfl, os.trans I.os, bare, z1, z2, up e he, up T' hT2, hHe, hHT2, y2, q⟩
end
end L2.Sk
namespace L2.Sk
open PySem PySem.Spec PyProof.Rows
structure XC (base : Heap) (C : Addr) (bm : List Value) : Prop where
  hasBase : bm.contains (.type "BaseException") = true
  ex : ∃ nm q N bs hdct sn sub ab col dd k0 k1 k2 k3 k5 newId initId B bmB mN, base.get? C = some (excClassObj nm q C N bs bm hdct sn sub ab col dd k0 k1 k2 k3 k5 newId) /\ base.Ns N mN /\ mN "__init__" = none /\ OwnTail base bmB bm /\ ExcBaseFacts B newId initId bmB
def wH (n p : Nat) (body : MS) (ds : List D) : R D := if ds.length = p then match body (jV n ds) with
  | .ok (.rt d _) => .ok d
  | .ok (.nx _) => .ok .non
  | .exc x ρ => .exc x ρ
  | _ => .bad else .bad
section
variable {X : Cx} {c : Fc} {e : Expr} {es : List Expr} {pos cpos np : Pos}
theorem qfL {x : Str} {C : Addr} {bm : List Value} {t : TA} {E : XK} (hc : X.calm = true) (hg : Gl X x) (hm : X.mg x = some (.ref C)) (xc : XC X.base C bm) (ha : PA X (e :: es) t)
    (made : ∀ pins σ H s h' a us, Inv X pins σ H s -> Heap.MadeExcOf s.heap h' a (.ref C) us -> E (.ref C) none H -> X.xe (.ref a) { s with heap := h' })
    (hd : (x == ("__debug__" : Str)) = false := by decide) (he : starEach (e :: es) X.env = (false, eval e X.env) :: starEach es X.env := by rfl) (hpl : (backTo cpos (starEach es X.env)).any (·.1) = false := by rfl) :
    PS X (.Raise (some (.Call (.Name x np) (e :: es) [] cpos)) none pos) (fun _ σ H => t σ H fun vs H1 => vs.length <= sizeLine /\ E (.ref C) none H1) := by
  intro pins s σ H D I h
  obtain ⟨nm, q, N, bs, hdct, sn, sub, ab, col, dd, k0, k1, k2, k3, k5, newId, initId, B, bmB, mN, hC, hN, hni, T, FB⟩ := xc.ex
  refine wpAny_Raise_call_subT (C := C) (nm := nm) (q := q) (N := N) (bs := bs) (bm := bm) (hdct := hdct) (sn := sn) (sub := sub) (ab := ab) (col := col) (dd := dd) (k0 := k0) (k1 := k1) (k2 := k2) (k3 := k3) (k5 := k5)
    FB (mN := mN) xc.hasBase (I.ok.hd hc) (by rw [he]; show (false || (backTo cpos (starEach es X.env)).any (·.1)) = false; rw [hpl]; rfl) hni ?_
  have hn : PE X (.Name x np) (fun _ H Q => Q (.ref C) H) := qbW hg hm rfl hd
  refine thn (hn pins s σ H (fun v H1 => v = .ref C /\ H1 = H) I ⟨rfl, rfl⟩) fun f s1 h1 => ?_
  obtain ⟨v, H1, I1, rv, rfl, rfl⟩ := h1
  refine ⟨rv, ?_⟩
  have h2 := ha cpos pins s1 σ _ _ I1 h
  rw [he] at h2 |-
  refine Calls.evalArgs_plain (thn h2 fun vs s2 h3 => ?_)
  obtain ⟨ws, H2, I2, r2, hl, hE⟩ := h3
  refine ⟨rfl, by rw [<- r2.length]; exact hl, I2.bk _ _ hC, hN.keeps I2.bk, T.keeps I2.bk, fun h' a hx => made pins σ H2 s2 h' a vs I2 hx hE⟩
structure XL (X : Cx) (c : Fc) (cl : Str -> Option Addr) (E : XK) : Prop where
  made : ∀ C pins σ H s h' a us, Inv X pins σ H s -> Heap.MadeExcOf s.heap h' a (.ref C) us -> E (.ref C) none H -> X.xe (.ref a) { s with heap := h' }
  pass : v9 (CX1 X.prog X.w) X E
  wish : ∀ x C H', cl x.cls = some C -> c.E x H' -> E (.ref C) none H'
structure XL2 (X : Cx) (c : Fc) (cl : Str -> Option Addr) (E : XK) : Prop where
  pass : v9 (CX1 X.prog X.w) X E
  wish : ∀ x C H', cl x.cls = some C -> c.E x H' -> E (.ref C) none H'
theorem XL.two {X : Cx} {c : Fc} {cl : Str -> Option Addr} {E : XK} (L : XL X c cl E) : XL2 X c cl E := ⟨L.pass, L.wish⟩
def qao (x : Str) (f : M (List D)) : MS := fun ρ => match f ρ with
  | .ok (ds, ρ') => if qG ds.length then .exc ⟨x, .non⟩ ρ' else .bad
  | .exc z ρ' => .exc z ρ'
  | .bad => .bad
theorem qaM {x : Str} {C : Addr} {bm : List Value} {f : M (List D)} {E : XK} {cl : Str -> Option Addr} (hc : X.calm = true) (L : XL X c cl E) (hcl : cl x = some C) (hg : Gl X x) (hm : X.mg x = some (.ref C)) (xc : XC X.base C bm) (ha : DA X c (e :: es) f)
    (hd : (x == ("__debug__" : Str)) = false := by decide) (he : starEach (e :: es) X.env = (false, eval e X.env) :: starEach es X.env := by rfl) (hpl : (backTo cpos (starEach es X.env)).any (·.1) = false := by rfl) :
    DS X c (.Raise (some (.Call (.Name x np) (e :: es) [] cpos)) none pos) (qao x f) := by
  obtain ⟨t, pa, w⟩ := ha
  refine ⟨_, qfL (E := E) hc hg hm xc pa (L.made C) hd he hpl, fun ρ σ H D r h => w ρ σ H _ r ?_⟩
  unfold qao at h
  cases ef : f ρ with
  | bad => rw [ef] at h; exact h
  | exc z ρ' => rw [ef] at h; exact fun H' r' g' => h σ H' r' g'.s
  | ok p =>
    obtain ⟨ds, ρ'⟩ := p
    rw [ef] at h
    intro vs H' r' i' g'
    by_cases hs : qG ds.length = true
    . simp only [hs, if_true] at h
      exact ⟨by rw [i'.length]; exact of_decide_eq_true hs, L.wish ⟨x, .non⟩ C H' hcl (h σ H' r' g'.s)⟩
    . simp only [hs] at h
      exact h.elim
def spX (K : Fr0) (cl : Str -> Option Addr) (F : List D -> R D) : Sp := fun vs H Q E => ∃ ds A, IsL K A H ds vs /\ (∀ a, A a -> True) /\ match F ds with
  | .ok d => ∀ v H', jm H H' -> Is K (fun a => A a \/ H a = none) H' d v -> Q v H'
  | .exc x _ => ∃ C, cl x.cls = some C /\ ∀ H', jm H H' -> E (.ref C) none H'
  | .bad => False
def yL (RN : List Str) (F : List D -> R D) (g : M (List D)) : M D := bnd g fun ds ρ => match F ds with
  | .ok d => .ok (d, ρ)
  | .exc x _ => if RN.contains x.cls then .exc x ρ else .bad
  | .bad => .bad
theorem qfM {k : Nat} {f : Addr} {fd : FuncData} {ps : List Str} {F : List D -> R D} {x : Str} {p : Pos} {g : M (List D)} {E : XK} {cl : Str -> Option Addr} (L : XL2 X c cl E) {RN : List Str} (hcl : ∀ n, RN.contains n = true -> (cl n).isSome = true)
    (G : jR X.prog X.w X.K X.mg X.base (CX1 X.prog X.w) k f fd ps (spX X.K cl F)) (hr : y9 k X.A) (hg : Gl X x) (hm : X.mg x = some (.ref f)) (hk : PySem.W.keepIn X.K (.ref f) = true) (hb : ug X.K fd ps [])
    (ha : DA X c (e :: es) g) (hd : (x == ("__debug__" : Str)) = false := by decide) (he : starEach (e :: es) X.env = (false, eval e X.env) :: starEach es X.env := by rfl) (hpl : (backTo pos (starEach es X.env)).any (·.1) = false := by rfl) : DE X c (.Call (.Name x p) (e :: es) [] pos) (yL RN F g) := by
  obtain ⟨t, pa, w⟩ := ha
  refine ⟨_, wd G hr hg hm hk hb .nil L.pass pa hd he hpl, fun ρ σ H Q r h => w ρ σ H _ r (WpL.bnd h fun ds ρ1 vs H1 r1 i1 g1 h1 => ?_)⟩
  rw [List.append_nil]
  refine ⟨ds, Cn c σ, i1, fun _ _ => trivial, ?_⟩
  cases ef : F ds with
  | bad => simp only [ef] at h1; exact h1.elim
  | exc z ρ' =>
    simp only [ef] at h1
    by_cases hz : RN.contains z.cls = true
    case neg => rw [if_neg hz] at h1; exact h1.elim
    rw [if_pos hz] at h1
    obtain ⟨C, hC⟩ := Option.isSome_iff_exists.mp (hcl z.cls hz)
    exact ⟨C, hC, fun H' sm => L.wish z C H' hC (h1 H' (r1.same sm) (.of_same sm))⟩
  | ok d =>
    simp only [ef] at h1
    exact fun v H' sm i => h1 v H' (r1.same sm) (Is.ext Ext.refl (fun a ha _ => ha.elim id r1.new) i) (.of_same sm)
def qcD (F : List D -> R D) (g : M (List D)) : M D := bnd g fun ds ρ => match F ds with
  | .ok d => .ok (d, ρ)
  | _ => .bad
theorem qfN {k : Nat} {f : Addr} {fd : FuncData} {ps : List Str} {F : List D -> R D} {x : Str} {p : Pos} {g : M (List D)} {cl : Str -> Option Addr}
    (G : jR X.prog X.w X.K X.mg X.base (CX1 X.prog X.w) k f fd ps (spX X.K cl F)) (hr : y9 k X.A) (hg : Gl X x) (hm : X.mg x = some (.ref f)) (hk : PySem.W.keepIn X.K (.ref f) = true) (hb : ug X.K fd ps [])
    (ha : DA X c (e :: es) g) (hd : (x == ("__debug__" : Str)) = false := by decide) (he : starEach (e :: es) X.env = (false, eval e X.env) :: starEach es X.env := by rfl) (hpl : (backTo pos (starEach es X.env)).any (·.1) = false := by rfl) : DE X c (.Call (.Name x p) (e :: es) [] pos) (qcD F g) := by
  obtain ⟨t, pa, w⟩ := ha
  refine ⟨_, wd (E := fun _ _ _ => False) G hr hg hm hk hb .nil (fun _ _ _ _ _ _ _ ⟨_, _, _, _, _, _, _, _, _, _, _, _, _, _, z⟩ => z.elim) pa hd he hpl, fun ρ σ H Q r h => w ρ σ H _ r (WpL.bnd h fun ds ρ1 vs H1 r1 i1 g1 h1 => ?_)⟩
  rw [List.append_nil]
  refine ⟨ds, Cn c σ, i1, fun _ _ => trivial, ?_⟩
  cases ef : F ds with
  | bad => simp only [ef] at h1; exact h1.elim
  | exc z ρ' => simp only [ef] at h1; exact h1.elim
  | ok d =>
    simp only [ef] at h1
    exact fun v H' sm i => h1 v H' (r1.same sm) (Is.ext Ext.refl (fun a ha _ => ha.elim id r1.new) i) (.of_same sm)
end
section
variable {P : Program} {w : World} {K : PySem.W.Frag} {mg : Str -> Option Value} {base : Heap}
theorem wJ {N : List Str} {qual : Str} {scope : Scope} {f : Addr} {cdv : Value} {A : Around} {outer : List PySem.Env} {s : Shared} {H : Hp} {E : XK} {c : Fc} {cl : Str -> Option Addr} (hf : (envOfC qual scope s.heap.objs.size f cdv).frame = some s.heap.objs.size)
    (hw : ∀ x C H', cl x.cls = some C -> c.E x H' -> E (.ref C) none H') : XL (qe7 (CX1 P w) P w K mg base N qual scope f cdv A outer s H E) c cl E where
  made := fun C pins σ H1 s1 h' a us I hx hE => by
    show wpAny (model P w) _ (leaving _ (.ref a)) _ _ _
    refine qdj (s := { s1 with heap := h' }) (h := s1.heap) (base := base) I.ok.frames I.stack hf hx fun h2 T' y1 y2 y3 => ?_
    have hn : H1 a = none := by
      cases q : H1 a with
      | none => rfl
      | some o =>
        obtain ⟨o', q'⟩ := yR (I.hok _ _ q)
        rw [hx.new] at q'; cases q'
    have hT : s1.heap.get? T' = none := by
      cases q : s1.heap.get? T' with
      | none => rfl
      | some o => rw [show ({ s1 with heap := h' } : Shared).heap.get? T' = some o from hx.keeps _ _ q] at y3; cases y3
    have hHT : H1 T' = none := by
      cases q : H1 T' with
      | none => rfl
      | some o =>
        obtain ⟨o', q'⟩ := yR (I.hok _ _ q)
        rw [hT] at q'; cases q'
    have up : ∀ b, s1.heap.get? b = none -> s.heap.get? b = none := fun b hb => by
      cases q : s.heap.get? b with
      | none => rfl
      | some o =>
        obtain ⟨o', q'⟩ := I.base.there b o q (by show b ∉ ([] : List Addr); simp)
        rw [hb] at q'; cases q'
    obtain ⟨z1, z2⟩ := qcC (s' := { s1 with heap := h' }) I rfl hf rfl (Un.kept hx.keeps) (I.hok.kept hx.keeps) (fun b hb => by rw [List.mem_singleton] at hb; subst hb; exact hn) (fun b hb => by rw [List.mem_singleton] at hb; subst hb; exact hx.new) y1
    exact ⟨a, T', C, H1, rfl, I.os, I.bare, z1, z2, up a hx.new, up T' hT, hn, hHT, y2, hE⟩
  pass := fun pins σ H1 s1 u s' I x => qh6 I rfl hf rfl I.ok.frames x
  wish := hw
theorem wK {x qual : Str} {st : Stmt} {f : Addr} {fd : FuncData} {N ps : List Str} {k : Nat} {O : List Nat} {body : MS} {cl : Str -> Option Addr} (F : Fun K x qual st f fd) (S : qt N ps (qd st)) (hO : ∀ i ∈ O, ps.length <= i)
    (hb : ∀ (cdv : Value) (A : Around) (outer : List PySem.Env) (s : Shared) (H : Hp) (E : XK) (B : Addr -> Prop), y9 k (A.deeper (envOfC qual (qd st) s.heap.objs.size f cdv)) ->
      DSs (qe7 (CX1 P w) P w K mg base N qual (qd st) f cdv A outer s H E) (cfn O [] B H (fun _ => False) (fun x H' => ∀ C, cl x.cls = some C -> E (.ref C) none H') fun _ => none) (qr st) body) :
    jR P w K mg base (CX1 P w) (k + 1) f fd ps (spX K cl (wH N.length ps.length body)) := by
  obtain ⟨oc, od, kV, doc, pm, an, cdv, ct, osl, rfl, lk, hcd⟩ := F.ex
  refine qi9 lk hcd S (fun vs H Q E h => ?_) fun A outer s H vs Q E hr h => ?_
  . obtain ⟨ds, B, il, _, h⟩ := h
    unfold wH at h
    by_cases e : ds.length = ps.length
    . rw [il.length]; exact e
    . rw [if_neg e] at h; exact h.elim
  . obtain ⟨ds, B, il, _, h⟩ := h
    obtain ⟨t, p, wt⟩ := hb cdv A outer s H E B hr
    refine ⟨t, p, ?_⟩
    unfold wH at h
    by_cases e : ds.length = ps.length
    . rw [if_pos e] at h
      refine wt (jV N.length ds) (zL N vs) H _ (wD il (fun i hi => by rw [e]; exact hO i hi)) ?_
      have same : ∀ {ρ : Env} {σ : St} {H' : Hp}, Rep K (cfn O [] B H (fun _ => False) (fun x H' => ∀ C, cl x.cls = some C -> E (.ref C) none H') fun _ => none) ρ σ H' -> jm H H' := fun r b o hb => r.kp b o hb fun z => z
      cases eb : body (jV N.length ds) with
      | bad => rw [eb] at h; exact h.elim
      | exc z ρ =>
        rw [eb] at h
        obtain ⟨C, hC, h⟩ := h
        exact fun σ' H' r' _ C' hC' => by
          rw [hC] at hC'; cases hC'
          exact h H' (same r')
      | ok fl =>
        rw [eb] at h
        cases fl with
        | nx ρ => exact fun σ' H' r' _ => h .non H' (same r') rfl
        | rt d ρ => exact fun v σ' H' r' i' _ => h v H' (same r') i'
        | bk ρ => exact h.elim
        | ct ρ => exact h.elim
    . rw [if_neg e] at h; exact h.elim
structure yS (P : Program) (w : World) (K : PySem.W.Frag) (mg : Str -> Option Value) (base : Heap) (k : Nat) (x : Str) (ps : List Str) (sp : Sp) : Prop where
  ex : ∃ f fd, jR P w K mg base (CX1 P w) k f fd ps sp /\ mg x = some (.ref f) /\ PySem.W.keepIn K (.ref f) = true /\ ug K fd ps []
end
theorem qjF {X : Cx} {c : Fc} {st : Stmt} {f : MS} (h : DS X.nox c st f) : DS X c st f := by
  obtain ⟨t, p, w⟩ := h
  exact ⟨t, fun pins s σ H D I hw => wpAny_mono (p pins s σ H D (I.wish _) hw) (fun _ _ q => q.unwish) fun _ _ z => False.elim z, w⟩
end L2.Sk
namespace L2.Sk
open PySem PySem.Spec PyProof.Rows
section
variable {M : Model} {A : Around} {E : Value -> Shared -> Prop}
variable {nm q nm' q' : Str} {C S N N' : Addr} {bs bm bs' bm' : List Value} {hdct hdct' : Bool} {sn sn' : List Str} {sub sub' : List Value} {ab ab' : Bool} {col col' : Option Bool} {dd dd' : Option Addr} {k0 k1 k2 k3 k5 j0 j1 j2 j3 j5 : Option Value} {newId newId' : String}
theorem w5 {h : Heap} {g : Array GenState} {d : Drawn} {t : Nat} {os : OsState} {e : Addr} {oe : Obj} {Q : Bool -> Shared -> Prop}
    (hC : h.get? C = some (excClassObj nm q C N bs bm hdct sn sub ab col dd k0 k1 k2 k3 k5 newId)) (hS : h.get? S = some (excClassObj nm' q' S N' bs' bm' hdct' sn' sub' ab' col' dd' j0 j1 j2 j3 j5 newId'))
    (he : h.get? e = some oe) (hcls : oe.cls = .ref C) (hbase : bm'.contains (.type "BaseException") = true)
    (hq : Q ((Value.ref C :: bm).contains (.ref S)) ⟨h, g, d, t, os⟩) : wpAny M A (excMatches (.ref e) (.ref S)) Q E ⟨h, g, d, t, os⟩ := by
  have hcB : (Value.ref S :: bm').contains (.type "BaseException") = true := by rw [List.contains_cons, hbase, Bool.or_true]
  have f := tc_notTuple
  unfold excMatches
  repeat (first | (with_reducible refine wpAny_loadPart_at he ?_; rw [hcls]) | with_reducible refine wpAny_loadPart_at hS ?_ | (with_reducible refine wpAny_isSubtype_exc hS ?_; rw [hcB]) | with_reducible refine wpAny_isSubtype_exc hC ?_ | wp_step)
  all_goals (first | exact hq | (cases hb : (Value.ref C :: bm).contains (.ref S) <;> (rw [hb] at hq; wp_walk; exact hq)))
end
end L2.Sk
namespace L2
open PySem PySem.Spec PyProof.Rows
def AloneA (A : Around) (H : Hp) : Prop := ∃ e oe u vs, A.handled = some (.ref e) /\ H e = some (.frz oe u) /\ oe.data = .fields vs /\ vs[2]? = some .none
def qjG (A : Around) (sp : Sp) (dvs : List V) (E : XK) (t : TA) : TE := fun σ H Q => t σ H fun vs H1 => AloneA A H1 /\ sp (vs ++ dvs) H1 Q E
structure uo (k : Nat) (A : Around) : Prop where
  dp : A.depth + 3 * k + 5 < recursionLimit
  un : A.units + 16 * k + 200 < cLine
  gd : A.guards = some []
theorem uo.mono {j k : Nat} {A : Around} (r : uo k A) (h : j <= k) : uo j A := ⟨by have := r.dp; omega, by have := r.un; omega, r.gd⟩
theorem uo.deeper {k : Nat} {A : Around} (r : uo (k + 1) A) (env : Env) : uo k (A.deeper env) :=
  ⟨by have := r.dp; show A.depth + 1 + 3 * k + 5 < _; omega, by have := r.un; show A.units + 3 + 16 * k + 200 < _; omega, r.gd⟩
theorem uo.depth {k : Nat} {A : Around} (r : uo k A) : A.depth < recursionLimit := by have := r.dp; omega
structure qbB (P : Program) (w : World) (K : PySem.W.Frag) (mg : Str -> Option Value) (base : Heap) (CX : CXT) (k : Nat) (f : Addr) (fd : FuncData) (ps : List Str) (sp : Sp) : Prop where
  len : ∀ vs H Q E, sp vs H Q E -> vs.length = ps.length
  run : ∀ (A : Around) (outer : List Env) (s : Shared) (H : Hp) (args : Args) (us : List Value) (vs : List V) (Q : VK) (E : XK), uo k A -> AloneA A H -> qiw P w K mg base A outer s H -> BindsTo s fd args (ps.zip us) -> qY vs us -> sp vs H Q E ->
    codeAny (model P w) A (.call (.ref f) args) (CR CX outer P w H s Q E) s
def qdl (CX : CXT) (P : Program) (w : World) (K : PySem.W.Frag) (mg : Str -> Option Value) (base : Heap) (N : List Str) (qual : Str) (scope : Scope) (f : Addr) (cd : Value) (A : Around) (outer : List Env) (s : Shared) (H : Hp) (E : XK) : Cx where
  prog := P
  w := w
  K := K
  mg := mg
  base := base
  A := A.deeper (envOfC qual scope s.heap.objs.size f cd)
  N := N
  s₀ := s
  H₀ := H
  env := envOfC qual scope s.heap.objs.size f cd
  outer := outer
  stack := envOfC qual scope s.heap.objs.size f cd :: outer
  ex := []
  calm := false
  fn := fun _ => true
  pn := []
  xe := fun e s' => wpAny (model P w) (A.deeper (envOfC qual scope s.heap.objs.size f cd)) (leaving (envOfC qual scope s.heap.objs.size f cd) e) (fun _ s'' => CX outer H s E e s'') (fun e' s'' => CX outer H s E e' s'') s'
theorem qdm {CX : CXT} {P : Program} {w : World} {K : PySem.W.Frag} {mg : Str -> Option Value} {base : Heap} {N ps : List Str} {qual : Str} {scope : Scope} {f : Addr} {cd : Value} {A : Around} {outer : List Env} {s s1 : Shared} {H : Hp} {E : XK} {us : List Value} {vs : List V}
    (S : qt N ps scope) (e0 : qiw P w K mg base A outer s H) (hl : vs.length = ps.length) (r : qY vs us)
    (x : InCallC s s.heap.objs.size (bindL (envOfC qual scope s.heap.objs.size f cd).kindOf (ps.zip us) fun _ => none) (cellsFrom (s.heap.objs.size + 1) scope.names []) (bindC (envOfC qual scope s.heap.objs.size f cd).kindOf (ps.zip us) fun _ => none) s1) :
    Inv (qdl CX P w K mg base N qual scope f cd A outer s H E) [] (zL N vs) H s1 := by
  have hpl : ps.length <= N.length := by have := congrArg List.length S.pre; rw [List.length_take] at this; omega
  obtain ⟨h1, tk, rfl, hk⟩ := x.done
  have noA : ∀ b : Addr, b ∉ (qdl CX P w K mg base N qual scope f cd A outer s H E).ex := fun b z => absurd (show b ∈ ([] : List Addr) from z) (by simp)
  refine ⟨⟨e0.mod, S.kind, rfl, rfl, Nat.le_refl _, fun y z c h1 h2 => ?_, fun y hy => ?_, fun y c _ h => ?_, (fun z => Bool.noConfusion z), Around.frames_deeper e0.frames, .inr ⟨rfl, rfl⟩, fun b z => absurd z (noA b), e0.bs, e0.bsz, fun b _ _ => noA b, fun b z => absurd z (noA b), e0.funs, e0.frf⟩,
    rfl, e0.bare, Un.kept hk, ⟨_, x.toInCall.ns, fun i y v h1 h2 h3 => ?_⟩, fun y c h => ⟨_, x.cell y c h⟩, e0.hok.fresh (Nat.le_refl _), fun y c h => ?_, fun p hp => absurd (show p ∈ ([] : List (Addr × Obj)) from hp) (by simp), e0.hok.kept hk, ?_⟩
  . exact name_of_addr x.apart (PySem.mem_of_lookup h1) (PySem.mem_of_lookup h2)
  . have hy : scope.names.lookup y = some .cell \/ scope.names.lookup y = some .free := hy
    rcases hy with hy | hy
    . exact vW hy
    . exact absurd rfl (S.nofree _ (PySem.mem_of_lookup hy))
  . exact Nat.le_of_lt (x.above y c (PySem.mem_of_lookup h))
  . have hi : i < vs.length := by
      unfold zL at h2
      by_cases hi : i < vs.length
      . exact hi
      . rw [List.getElem?_append_right (by simpa using hi)] at h2
        rw [List.getElem?_replicate] at h2
        split at h2 <;> cases h2
    have ha : vs[i]? = some v := by
      unfold zL at h2
      rw [List.getElem?_append_left (by simpa using hi), List.getElem?_map] at h2
      cases e : vs[i]? with
      | none => rw [e] at h2; cases h2
      | some a => rw [e] at h2; cases h2; rfl
    obtain ⟨u, hu, rv⟩ := r.get ha
    have hp : ps[i]? = some y := by
      rw [<- S.pre, List.getElem?_take_of_lt (by omega)]; exact h1
    have ndP : ps.Nodup := by rw [<- S.pre]; exact S.nd.sublist (List.take_sublist _ _)
    refine ⟨u, rv, ?_⟩
    rcases S.par y (List.mem_of_getElem? hp) with k | k
    . exact .inl ⟨k, wf ndP hp hu k⟩
    . obtain ⟨c, e⟩ := vW (n := s.heap.objs.size + 1) k
      refine .inr ⟨.inl k, c, e, ?_⟩
      have q := x.cell y c e
      rw [wj ndP hp hu (by show scope.names.lookup y ≠ _; rw [k]; decide)] at q
      exact q
  . exact e0.hok.fresh (Nat.le_of_lt (x.above y c (PySem.mem_of_lookup h)))
  . unfold zL
    show _ = N.length
    rw [List.length_append, List.length_map, List.length_replicate]
    omega
theorem qjH {CX : CXT} {P : Program} {w : World} {K : PySem.W.Frag} {mg : Str -> Option Value} {base : Heap} {k : Nat} {f : Addr} {name qual : Str} {params : Arguments} {body : List Stmt} {scope : Scope} {dV kV doc pm cdv ct oc : Value} {an od : Option Addr}
    {osl : Array (Option Value)} {N ps : List Str} {sp : Sp} (lk : K.lookup f = some ⟨oc, od, .func (PySem.W.fnOf name qual params body scope dV kV doc pm an cdv ct), osl⟩) (hcd : PySem.W.codeIn K cdv qual = true) (S : qt N ps scope)
    (len : ∀ vs H Q E, sp vs H Q E -> vs.length = ps.length)
    (hbody : ∀ (A : Around) (outer : List Env) (s : Shared) (H : Hp) (vs : List V) (Q : VK) (E : XK), uo k (A.deeper (envOfC qual scope s.heap.objs.size f cdv)) -> AloneA (A.deeper (envOfC qual scope s.heap.objs.size f cdv)) H -> sp vs H Q E ->
      ∃ t, PSs (qdl CX P w K mg base N qual scope f cdv A outer s H E) body t /\ t { nx := fun _ H' => Q .non H', rt := Q } (zL N vs) H) :
    qbB P w K mg base CX (k + 1) f (PySem.W.fnOf name qual params body scope dV kV doc pm an cdv ct) ps sp := by
  refine ⟨len, fun A outer s H args us vs Q E hr al e0 hb r hsp => ?_⟩
  have hl := len _ _ _ _ hsp
  have KX : K.In s.heap := e0.mod.kin.keeps fun b o e => (e0.bs b o e).1
  have lim : s.heap.NoLimit := e0.mod.nolimit.keeps fun b o e => (e0.bs b o e).1
  have hkind : ∀ y ∈ ps.zip us, scope.names.lookup y.1 = some .local \/ (scope.names.lookup y.1 = some .cell /\ ((cellsFrom (s.heap.objs.size + 1) scope.names []).lookup y.1).isSome = true) := fun ⟨n, v⟩ hy => by
    rcases S.par n (List.of_mem_zip hy).1 with q | q
    . exact .inl q
    . exact .inr ⟨q, PySem.W.cellsFrom_some _ _ _ (.inl q)⟩
  refine codeAny_call_function hr.depth (KX _ _ lk) rfl S.co S.gen rfl (PySem.W.codeRec_of KX hcd) (hb _ _ _ _ ?_)
  refine wpAny_newFunctionEnv_cells S.kind hkind fun env he s1 x => ?_
  subst he
  refine ⟨lim.keeps x.toInCall.keep, codeAny_func ?_⟩
  obtain ⟨t, ht, hq⟩ := hbody A outer s H vs Q E (hr.deeper _) al hsp
  have I : Inv (qdl CX P w K mg base N qual scope f cdv A outer s H E) [] (zL N vs) H s1 := qdm S e0 hl r x
  refine wpAny_mono (ht [] s1 (zL N vs) H _ I hq) (fun fl s' hs => ?_) fun e s' hs => hs
  have fin : ∀ {σ' : St} {H' : Hp} {v : V} {u : Value}, Inv (qdl CX P w K mg base N qual scope f cdv A outer s H E) [] σ' H' s' -> jv v u -> Q v H' -> CE outer P w H s Q u s' :=
    fun {σ' H' v u} J rv q => ⟨v, H', J.os, J.bare, J.base, J.hok, rv, q⟩
  cases fl with
  | ret u =>
    obtain ⟨v, σ', H', J, rv, q⟩ := hs
    exact fin J rv q
  | next =>
    obtain ⟨σ', H', J, q⟩ := hs
    exact fin (v := V.non) (u := Value.none) J rfl q
  | brk =>
    obtain ⟨_, _, _, q⟩ := hs
    exact False.elim q
  | cont =>
    obtain ⟨_, _, _, q⟩ := hs
    exact False.elim q
section
variable {X : Cx} {CX : CXT} {k : Nat} {f C : Addr} {fd : FuncData} {ps : List Str} {sp : Sp} {dvs : List V} {ds : List Value} {E : XK} {x m : Str} {p pos apos : Pos} {e o : Expr} {es : List Expr} {ta : TE} {t : TA}
theorem qh7 {pins : List (Addr × Obj)} {σ : St} {H : Hp} {s : Shared} {Q : VK} {us : List Value} {vs : List V} (F : qbB X.prog X.w X.K X.mg X.base CX k f fd ps sp) (hr : uo k X.A) (hb : ug X.K fd ps ds) (hd : qY dvs ds) (hx : v9 CX X E)
    (I : Inv X pins σ H s) (r : qY vs us) (al : AloneA X.A H) (h : sp (vs ++ dvs) H Q E) : wpAny (model X.prog X.w) X.A (call (.ref f) us) (EP X pins σ Q) X.xe s := by
  have r2 : qY (vs ++ dvs) (us ++ ds) := r.append hd
  have hl : (us ++ ds).length = ps.length := by rw [<- r2.length]; exact F.len _ _ _ _ h
  refine wpAny_call (codeAny_mono (F.run X.A X.stack s H ⟨us, []⟩ (us ++ ds) (vs ++ dvs) Q E hr al I.env0 (hb s us I.kIn hl) r2 h) fun r s' hq => ?_)
  cases r with
  | error e => exact hx pins σ H s e s' I hq
  | ok fl =>
    cases fl with
    | ret u => exact I.after hq
    | next => exact False.elim hq
    | brk => exact False.elim hq
    | cont => exact False.elim hq
theorem qcE (F : qbB X.prog X.w X.K X.mg X.base CX k f fd ps sp) (hr : uo k X.A) (hg : Gl X x) (hm : X.mg x = some (.ref f)) (hk : PySem.W.keepIn X.K (.ref f) = true) (hb : ug X.K fd ps ds) (hd : qY dvs ds) (hx : v9 CX X E)
    (ha : PA X (e :: es) t) (hdb : (x == ("__debug__" : Str)) = false := by decide) (he : starEach (e :: es) X.env = (false, eval e X.env) :: starEach es X.env := by rfl) (hpl : (backTo pos (starEach es X.env)).any (·.1) = false := by rfl) :
    PE X (.Call (.Name x p) (e :: es) [] pos) (qjG X.A sp dvs E t) := by
  intro pins s σ H Q I h
  refine wpAny_Call_Name_kw (qaz I hg hm ?_ hdb)
  refine PySem.W.callWith_K (h₀ := X.base) I.ok.mod.kin hk (thn (ha pos pins s σ H _ I h) fun us s1 ⟨vs, H1, I1, r, q⟩ => ⟨I1.kIn, ?_⟩) he hpl
  exact qh7 F hr hb hd hx I1 r q.1 q.2
end
end L2
namespace L2.Sk
open PySem PySem.Spec PyProof.Rows
def isT (b : Bool) : Value -> Bool
  | .bool a => a == b
  | _ => false
theorem vI : ∀ {bs : List Bool} {us : List Value}, qY (bs.map V.bl) us -> us = bs.map Value.bool
  | [], _, r => by rw [List.map_nil] at r; cases r; rfl
  | b :: bs, _, r => by
    rw [List.map_cons] at r
    cases r with
    | cons r1 r2 =>
      have e : _ = Value.bool b := r1
      rw [e, vI r2]; rfl
theorem qap (b : Bool) : ∀ bs : List Bool, List.countP (isT b) (bs.map Value.bool) = bs.countP (· == b)
  | [] => rfl
  | a :: bs => by simp [List.countP_cons, qap b bs, isT]
def qgP : V -> List V -> Hp -> VK -> Prop := fun x vs H Q => ∃ (l : Addr) (bs : List Bool) (b : Bool), x = .ref l /\ vs = [.bl b] /\ H l = some (.lst (bs.map V.bl)) /\ Q (.int (bs.countP (· == b))) H
def qgQ : V -> List V -> Hp -> VK -> Prop := fun x vs H Q => ∃ (l : Addr) (bs : List Bool) (b : Bool) (j : Nat), x = .ref l /\ vs = [.bl b] /\ H l = some (.lst (bs.map V.bl)) /\ bs.findIdx? (· == b) = some j /\ Q (.int j) H
section
variable {X : Cx}
theorem qfO : MtR X "list.count" qgP := by
  intro pins s σ H x vs v us Q I rx rv h
  obtain ⟨l, bs, b, rfl, rfl, hH, q⟩ := h
  cases rx
  obtain ⟨u, rfl, ru⟩ := qY.one rv
  have ru' : u = Value.bool b := ru
  subst ru'
  obtain ⟨z, its, n, r, hl, e⟩ := I.lstM hH
  have hi := vI r
  subst hi
  refine call_meets F.slot_list_count ⟨_, e, rfl⟩ F.entry_list_count (F.args_list_count_2 _ _) (SeqAt.list_countAt l (bs.map Value.bool).toArray n none #[] (.bool b) (isT b)) ⟨e, fun y hy => ?_, ?_⟩
  . have hy' : y ∈ bs.map Value.bool := by simpa using hy
    obtain ⟨a, _, rfl⟩ := List.mem_map.mp hy'
    exact SeqAt.EqAt.bool_bool a b
  . refine ⟨.int _, H, I.tok _, ⟨s.toks, ?_⟩, q⟩
    show Value.int _ _ = Value.int _ _
    rw [List.toList_toArray, qap]
theorem qfP : MtR X "list.index" qgQ := by
  intro pins s σ H x vs v us Q I rx rv h
  obtain ⟨l, bs, b, j, rfl, rfl, hH, hj, q⟩ := h
  cases rx
  obtain ⟨u, rfl, ru⟩ := qY.one rv
  have ru' : u = Value.bool b := ru
  subst ru'
  obtain ⟨z, its, n, r, hl, e⟩ := I.lstM hH
  have hi := vI r
  subst hi
  rw [List.findIdx?_eq_some_iff_getElem] at hj
  obtain ⟨h1, h2, h3⟩ := hj
  have hz : bs.length <= sizeLine := by simpa using z
  rw [sizeLine_eq] at hz
  refine call_meets F.slot_list_index ⟨_, e, rfl⟩ F.entry_list_index (F.args_list_index_2 _ _) (SeqAt.list_indexAt l (bs.map Value.bool).toArray n none #[] (.bool b) (isT b) j (by simpa using h1) (by omega) ?_ ?_) ⟨e, fun y hy => ?_, ?_⟩
  . simpa [isT] using h2
  . intro m hm hmj
    have := h3 m hmj
    simpa [isT] using this
  . have hy' : y ∈ bs.map Value.bool := by simpa using hy
    obtain ⟨a, _, rfl⟩ := List.mem_map.mp hy'
    exact SeqAt.EqAt.bool_bool a b
  . exact ⟨.int _, H, I.tok _, ⟨s.toks, rfl⟩, q⟩
end
def qbC (x : D) (ys : List D) : Option D := match x, ys with
  | .lst ds, [.bl b] => (ub ds).map fun bs => .int (bs.countP (· == b))
  | _, _ => none
def qbD (x : D) (ys : List D) : Option D := match x, ys with
  | .lst ds, [.bl b] => (ub ds).bind fun bs => (bs.findIdx? (· == b)).map fun j => .int j
  | _, _ => none
def qaN (F : D -> List D -> Option D) (f : M D) (g : M (List D)) : M D := bnd f fun x => match x with
  | .lst ds => bnd g fun ys => lift (F (.lst ds) ys)
  | _ => fun _ => .bad
def qey (K : Fr0) (F : D -> List D -> Option D) (r : V -> List V -> Hp -> VK -> Prop) : Prop := ∀ A H x ys d v vs (Q : VK), (∀ a, H a = none -> A a) -> Is K A H x v -> IsL K A H ys vs -> F x ys = some d -> (∀ u H', jm H H' -> Is K A H' d u -> Q u H') -> r v vs H Q
theorem qb7 {K : Fr0} : qey K qbC qgP := by
  intro A H x ys d v vs Q hn ix iy e k
  unfold qbC at e
  split at e
  . rename_i ds b
    obtain ⟨u, rfl, e2⟩ := IsL.inv1 iy
    cases e2
    obtain ⟨a, xs, rfl, _, ta, il⟩ := ix
    cases eb : ub ds with
    | none => rw [eb] at e; cases e
    | some bs =>
      rw [eb] at e
      cases e
      rw [yQ il eb] at ta
      exact ⟨a, bs, b, rfl, rfl, ta, k _ H (jm.refl H) rfl⟩
  . cases e
theorem qb8 {K : Fr0} : qey K qbD qgQ := by
  intro A H x ys d v vs Q hn ix iy e k
  unfold qbD at e
  split at e
  . rename_i ds b
    obtain ⟨u, rfl, e2⟩ := IsL.inv1 iy
    cases e2
    obtain ⟨a, xs, rfl, _, ta, il⟩ := ix
    cases eb : ub ds with
    | none => rw [eb] at e; cases e
    | some bs =>
      rw [eb] at e
      cases ej : bs.findIdx? (· == b) with
      | none => simp only [Option.bind_some, ej] at e; cases e
      | some j =>
        simp only [Option.bind_some, ej, Option.map_some] at e
        cases e
        rw [yQ il eb] at ta
        exact ⟨a, bs, b, j, rfl, rfl, ta, ej, k _ H (jm.refl H) rfl⟩
  . cases e
section
variable {X : Cx} {c : Fc} {o e : Expr} {es : List Expr} {apos cpos : Pos}
theorem qaO {id : String} {name : Str} {r : V -> List V -> Hp -> VK -> Prop} {F : D -> List D -> Option D} {f : M D} {g : M (List D)} (slot : Slot "list" name id) (hty : typeOf (.builtin id) = pure (.type "method_descriptor")) (hm : MtR X id r) (hF : qey X.K F r)
    (ho : DE X c o f) (ha : DA X c (e :: es) g)
    (hbase : attributeBase o name X.env (eval o X.env) = eval o X.env := by rfl)
    (hfew : ((backTo cpos (starEach (e :: es) X.env)).all (fun x => !x.1) && (backToKw cpos (keywordEach [] X.env)).all (fun x => x.1.isSome)
      && decide ((e :: es).length + ([] : List Keyword).length + (if ([] : List Keyword).isEmpty then 0 else 1) < 30)) = true := by rfl)
    (hline : (apos.endLine == cpos.line) = true := by rfl) (hs : starEach (e :: es) X.env = (false, eval e X.env) :: starEach es X.env := by rfl) (hplain : (backTo cpos (starEach es X.env)).any (·.1) = false := by rfl) :
    DE X c (.Call (.Attribute o name apos) (e :: es) [] cpos) (qaN F f g) := by
  obtain ⟨to, po, wo⟩ := ho
  obtain ⟨t, pa, wa⟩ := ha
  refine ⟨_, qhl PySem.F.plainAttrs_list slot hty hm po pa hbase hfew hline hs hplain, fun ρ σ H Q r0 h => wo ρ σ H _ r0 (Wp.bnd h fun x ρ1 v H1 r1 i1 g1 h1 => ?_)⟩
  cases x with
  | lst ds =>
    obtain ⟨a, xs, rfl, ha, hH, il⟩ := i1
    refine ⟨.inl ⟨rfl, xs, .inl (.inl hH)⟩, wa ρ1 σ H1 _ r1 (WpL.bnd h1 fun ys ρ2 vs H2 r2 i2 g2 h2 => ?_)⟩
    obtain ⟨d, ed, h3⟩ := h2.lift
    exact hF (Cn c σ) H2 (.lst ds) ys d (.ref a) vs Q (fun a ha => r2.new ha) (g2.is ⟨a, xs, rfl, ha, hH, il⟩) i2 ed fun u H' sm i => h3 u H' (r2.same sm) i (.of_same sm)
  | _ => exact h1.elim
end
end L2.Sk
namespace L2.Sk
open PySem PySem.Spec PyProof.Rows
def isI (b : Int) : Value -> Bool
  | .int a _ => a == b
  | _ => false
theorem qgR {b : Int} : ∀ {ns : List Int} {us : List Value} {i : Nat} {u : Value}, qY (ns.map V.int) us -> us[i]? = some u -> ∃ n t, ns[i]? = some n /\ u = .int n t
  | [], us, i, u, r, h => by
    rw [List.map_nil] at r; cases r; simp at h
  | n :: ns, us, i, u, r, h => by
    rw [List.map_cons] at r
    cases r with
    | cons r1 r2 =>
      obtain ⟨t, rfl⟩ := r1
      cases i with
      | zero =>
        have : Value.int n t = u := by simpa using h
        exact ⟨n, t, rfl, this.symm⟩
      | succ i =>
        obtain ⟨m, t', h1, h2⟩ := qgR (b := b) (i := i) r2 (by simpa using h)
        exact ⟨m, t', by simpa using h1, h2⟩
theorem qaq (b : Int) : ∀ {ns : List Int} {us : List Value}, qY (ns.map V.int) us -> us.countP (isI b) = ns.countP (· == b)
  | [], us, r => by rw [List.map_nil] at r; cases r; rfl
  | n :: ns, us, r => by
    rw [List.map_cons] at r
    cases r with
    | cons r1 r2 =>
      obtain ⟨t, rfl⟩ := r1
      rw [List.countP_cons, List.countP_cons, qaq b r2]
      rfl
def qez : V -> List V -> Hp -> VK -> Prop := fun x vs H Q => ∃ (l : Addr) (ns : List Int) (b : Int), x = .ref l /\ vs = [.int b] /\ H l = some (.lst (ns.map V.int)) /\ Q (.int (ns.countP (· == b))) H
section
variable {X : Cx}
theorem qeA : MtR X "list.count" qez := by
  intro pins s σ H x vs v us Q I rx rv h
  obtain ⟨l, ns, b, rfl, rfl, hH, q⟩ := h
  cases rx
  obtain ⟨u, rfl, ru⟩ := qY.one rv
  obtain ⟨t, rfl⟩ := ru
  obtain ⟨z, its, n, r, hl, e⟩ := I.lstM hH
  refine call_meets F.slot_list_count ⟨_, e, rfl⟩ F.entry_list_count (F.args_list_count_2 _ _) (SeqAt.list_countAt l its.toArray n none #[] (.int b t) (isI b)) ⟨e, fun y hy => ?_, ?_⟩
  . have hy' : y ∈ its := by simpa using hy
    obtain ⟨i, hi⟩ := List.mem_iff_getElem?.mp hy'
    obtain ⟨m, t', _, rfl⟩ := qgR (b := b) r hi
    exact SeqAt.EqAt.int_int m t' b t
  . refine ⟨.int _, H, I.tok _, ⟨s.toks, ?_⟩, q⟩
    show Value.int _ _ = Value.int _ _
    rw [List.toList_toArray, qaq b r]
end
def qar (x : D) (ys : List D) : Option D := match x, ys with
  | .lst ds, [.int b] => (vT ds).map fun ns => .int (ns.countP (· == b))
  | _, _ => none
theorem qbE {K : Fr0} : qey K qar qez := by
  intro A H x ys d v vs Q hn ix iy e k
  unfold qar at e
  split at e
  . rename_i ds b
    obtain ⟨u, rfl, e2⟩ := IsL.inv1 iy
    cases e2
    obtain ⟨a, xs, rfl, _, ta, il⟩ := ix
    cases eb : vT ds with
    | none => rw [eb] at e; cases e
    | some bs =>
      rw [eb] at e
      cases e
      rw [vw il eb] at ta
      exact ⟨a, bs, b, rfl, rfl, ta, k _ H (jm.refl H) rfl⟩
  . cases e
end L2.Sk
namespace L2.Sk
open PySem PySem.Spec PyProof.Rows
@[reducible] def toX (X : Cx) (xe : Value -> Shared -> Prop) (pn : List (Addr × Obj)) : Cx := { X with xe := xe, pn := pn }
@[reducible] def hdX (X : Cx) (e : Addr) : Cx := { X with A := X.A.mark (some (.ref e)), calm := false, xe := fun _ _ => False }
section
variable {X : Cx} {pins : List (Addr × Obj)} {σ : St} {H : Hp} {s : Shared} {xe : Value -> Shared -> Prop}
theorem qjI (I : Inv X pins σ H s) : Inv (toX X xe (X.pn ++ pins)) [] σ H s :=
  let k := I.ok
  ⟨⟨k.mod, k.kind, k.glob, k.blt, k.above, k.inj, k.has, k.cab, k.hd, k.frames, k.stk, k.exf, k.bs, k.bsz, k.noex, k.exfs, k.funs, k.frf⟩, I.os, I.bare, I.base, I.loc, I.cell, I.free, I.freeC,
    fun p hp => I.pin p (by rw [List.append_nil] at hp; exact hp), I.hok, I.len⟩
theorem vc {pins2 : List (Addr × Obj)} (I : Inv (toX X xe (X.pn ++ pins)) pins2 σ H s) : Inv X pins σ H s :=
  let k := I.ok
  ⟨⟨k.mod, k.kind, k.glob, k.blt, k.above, k.inj, k.has, k.cab, k.hd, k.frames, k.stk, k.exf, k.bs, k.bsz, k.noex, k.exfs, k.funs, k.frf⟩, I.os, I.bare, I.base, I.loc, I.cell, I.free, I.freeC,
    fun p hp => I.pin p (List.mem_append_left _ hp), I.hok, I.len⟩
theorem qgS (e : Addr) (I : Inv X pins σ H s) : Inv (hdX X e) pins σ H s :=
  let k := I.ok
  ⟨⟨k.mod, k.kind, k.glob, k.blt, k.above, k.inj, k.has, k.cab, fun z => (nomatch z), k.frames, k.stk, k.exf, k.bs, k.bsz, k.noex, k.exfs, k.funs, k.frf⟩, I.os, I.bare, I.base, I.loc, I.cell, I.free, I.freeC, I.pin, I.hok, I.len⟩
theorem qfQ {e : Addr} {σ' : St} {H' : Hp} {s' : Shared} (k : X.Ok) (I : Inv (hdX X e) pins σ' H' s') : Inv X pins σ' H' s' :=
  ⟨k, I.os, I.bare, I.base, I.loc, I.cell, I.free, I.freeC, I.pin, I.hok, I.len⟩
theorem qdn {h' : Heap} {m' : Str -> Option Value} {tk : Nat} (I : Inv X pins σ H s) (hn : h'.Ns X.env.locals m') (hs : Heap.SameBut X.env.locals s.heap h') :
    Inv X pins (List.replicate X.N.length none) H { s with heap := h', toks := tk } := by
  obtain ⟨m, hn0, _⟩ := id I.loc
  obtain ⟨oL, _, _, hoL, _⟩ := id hn0
  have ne : ∀ b o, X.s₀.heap.get? b = some o -> b ≠ X.env.locals := fun b o q => Nat.ne_of_lt (Nat.lt_of_lt_of_le (Heap.lt_size q) I.ok.above)
  refine ⟨I.ok, I.os, I.bare, ⟨fun b o e n hb hx => (hs.2 b (ne b o e)).trans (I.base.keep b o e n hb hx), fun b o e n hb hx => ?_, I.base.free, fun b o e hx => ?_, I.base.tups, I.base.frzs, I.base.tbls⟩, ⟨m', hn, fun j y v e1 e2 e3 => ?_⟩, fun y c e => ?_, I.free, I.freeC, fun p hp => ?_, fun b ob e => ?_, by simp⟩
  . obtain ⟨sl, q⟩ := I.base.slot b o e n hb hx
    exact ⟨sl, (hs.2 b (ne b o e)).trans q⟩
  . obtain ⟨o', q⟩ := I.base.there b o e hx
    exact ⟨o', (hs.2 b (ne b o e)).trans q⟩
  . rw [List.getElem?_replicate] at e2
    split at e2 <;> cases e2
  . obtain ⟨w', z⟩ := I.cell y c e
    exact ⟨w', z.sameBut hs (I.cne y c e)⟩
  . obtain ⟨e, n, nl, nf, d⟩ := I.pin p hp
    exact ⟨(hs.2 p.1 nl).trans e, n, nl, nf, d⟩
  . refine (I.hok b ob e).stay (fun c w' hc q => (hs.2 c ?_).trans q) (fun _ q => q) fun _ _ q => q
    rintro rfl
    rcases hc with rfl | hc
    . rw [I.free] at e; cases e
    . rw [I.free] at hc; cases hc
theorem qeB {H' : Hp} {h' : Heap} (I : Inv X pins σ H s) (u : Un (frs X.stack) [] H H' s.heap h') : h'.FunFrames X.base X.stack := by
  have all : ∀ (l : List PySem.Env), (∀ b ∈ frs l, b ∈ frs X.stack) -> s.heap.FunFrames X.base l -> h'.FunFrames X.base l := by
    intro l
    induction l with
    | nil => intro _ _; trivial
    | cons env r ih =>
      intro hss hl
      obtain ⟨hk, ⟨L, o, hf', hn, ho, hd⟩, hr⟩ := hl
      have hfr : frs (env :: r) = L :: frs r := by unfold frs; rw [List.filterMap_cons, hf']
      rw [hfr] at hss
      have hL := hss L List.mem_cons_self
      obtain ⟨sl, e⟩ := u.slot L o ho (I.stkFree L hL) hL (by simp)
      exact ⟨hk, ⟨L, _, hf', hn, e, hd⟩, ih (fun b hb => hss b (List.mem_cons_of_mem _ hb)) hr⟩
  exact all X.stack (fun _ z => z) I.stack
theorem qgT {H' : Hp} {h1 h' : Heap} {ch : List Addr} (u : Un (frs X.stack) [] H H' s.heap h1) (hchn : ∀ b ∈ ch, s.heap.get? b = none) (x : Lft h1 h' ch (frs X.stack)) : Un (frs X.stack) [] H H' s.heap h' := by
  have nch : ∀ b o, s.heap.get? b = some o -> b ∉ ch := fun b o q z => by rw [hchn b z] at q; cases q
  refine ⟨fun b o q n hb hx => x.keep b o (nch b o q) hb (u.keep b o q n hb hx), fun b o q n hb hx => ?_, u.free, fun b o q hx => ?_, u.tups, u.frzs, u.tbls⟩
  . obtain ⟨sl, q1⟩ := u.slot b o q n hb hx
    obtain ⟨sl2, q2⟩ := x.slot b _ hb q1
    exact ⟨sl2, q2⟩
  . obtain ⟨o2, q2⟩ := u.there b o q hx
    by_cases hb : b ∈ frs X.stack
    . obtain ⟨sl, q3⟩ := x.slot b o2 hb q2
      exact ⟨_, q3⟩
    . exact ⟨o2, x.keep b o2 (nch b o q) hb q2⟩
theorem qeC {H' : Hp} {h1 h' : Heap} {ch : List Addr} (I : Inv X pins σ H s) (u : Un (frs X.stack) [] H H' s.heap h1) (hok : HOk X.prog X.w H' h1) (hch : ∀ b ∈ ch, H' b = none) (x : Lft h1 h' ch (frs X.stack)) : HOk X.prog X.w H' h' :=
  qgO hok fun b o hb1 q => x.keep b o (fun z => by rw [hch b z] at hb1; cases hb1) (fun z => by
    obtain ⟨_, o1, ho1, _⟩ := I.stack.mem z
    rw [u.free b o1 ho1 (I.stkFree b z) (by simp)] at hb1
    cases hb1) q
theorem qh8 {H' : Hp} {h' : Heap} {e : Addr} {o : HO} (u : Un (frs X.stack) [] H H' s.heap h') (he : s.heap.get? e = none) (hHe : H' e = none) : Un (frs X.stack) [] H (upd H' e o) s.heap h' := by
  have ne : ∀ b ob, s.heap.get? b = some ob -> b ≠ e := fun b ob q z => by rw [z, he] at q; cases q
  have ne' : ∀ b u, H' b = some u -> b ≠ e := fun b u q z => by rw [z, hHe] at q; cases q
  refine ⟨u.keep, u.slot, fun b ob q n hx => by rw [qs (ne b ob q)]; exact u.free b ob q n hx, u.there, fun b xs q => ?_, fun b ob w q => ?_, fun b ps q => ?_⟩
  . have := u.tups b xs q
    rw [qs (ne' b _ this)]; exact this
  . have := u.frzs b ob w q
    rw [qs (ne' b _ this)]; exact this
  . obtain ⟨m, this⟩ := u.tbls b ps q
    exact ⟨m, by rw [qs (ne' b _ this)]; exact this⟩
theorem qfR {P : Program} {w : World} {H' : Hp} {h' : Heap} {e : Addr} {oe : Obj} (hok : HOk P w H' h') (hHe : H' e = none) (he : h'.get? e = some oe) : HOk P w (upd H' e (.frz oe (.own e))) h' := fun b ob q => by
  by_cases hb : b = e
  . subst hb
    rw [qv] at q
    cases q
    exact ⟨he, oe, he⟩
  . rw [qs hb] at q
    have ne' : ∀ c u, H' c = some u -> c ≠ e := fun c u q z => by rw [z, hHe] at q; cases q
    exact (hok b ob q).stay (fun _ _ _ q => q) (fun c q => by rw [qs (ne' c _ q)]; exact q) fun c xs q => by rw [qs (ne' c _ q)]; exact q
end
def qeD (RN : List Str) (f : MS) (F : List D -> R D) : MS := fun ρ => match f ρ with
  | .exc x ρ' => if RN.contains x.cls then match F [.exc x.cls] with
      | .ok d => .ok (.rt d ρ')
      | _ => .bad
    else .bad
  | r => r
def reE (c : Fc) (E : Exn -> Hp -> Prop) : Fc := { c with E := E }
theorem Rep.reE {K : Fr0} {c : Fc} {E : Exn -> Hp -> Prop} {ρ : Env} {σ : St} {H : Hp} (r : Rep K c ρ σ H) : Rep K (Sk.reE c E) ρ σ H := ⟨r.len, r.val, r.own, r.inj, r.b0, r.kp, r.dm, r.pO, r.ps⟩
theorem Rep.unE {K : Fr0} {c : Fc} {E : Exn -> Hp -> Prop} {ρ : Env} {σ : St} {H : Hp} (r : Rep K (Sk.reE c E) ρ σ H) : Rep K c ρ σ H := ⟨r.len, r.val, r.own, r.inj, r.b0, r.kp, r.dm, r.pO, r.ps⟩
structure qlj (K : Fr0) (base : Heap) (RN : List Str) (S : Addr) : Prop where
  sup : ∃ bm, XC base S bm
  own : ∀ n C, clR K RN n = some C -> ∃ bm, XC base C bm /\ (Value.ref C :: bm).contains (.ref S) = true
  ki : ∀ n C, clR K RN n = some C -> XK6 K C
def ch (H6 : Hp) : Fc := ⟨[], [], fun a => H6 a = none, H6, fun _ => False, fun _ _ => False, fun _ => none⟩
section
variable {X : Cx} {c : Fc} {pos np hpos p1 p2 p3 p4 : Pos} {body : List Stmt}
theorem qjJ {x n m : Str} {i : Nat} {S fm : Addr} {fd : FuncData} {ps : List Str} {k : Nat} {F : List D -> R D} {f : MS} {RN : List Str} (hN : X.N.Nodup) (hcx : X.stack = X.env :: X.outer) (hf : X.env.frame = some X.env.locals)
    (hcl : qlj X.K X.base RN S) (hgS : Gl X x) (hmS : X.mg x = some (.ref S))
    (G : qbB X.prog X.w X.K X.mg X.base CX0 k fm fd ps (spD X.K F)) (hr : y9 k X.A) (hgm : Gl X m) (hmm : X.mg m = some (.ref fm)) (hkm : PySem.W.keepIn X.K (.ref fm) = true) (hbm : ug X.K fd ps [])
    (hb : ∀ (xe : Value -> Shared -> Prop) (pn : List (Addr × Obj)) (E : XK) (cE : Exn -> Hp -> Prop), XL2 (toX X xe pn) (reE c cE) (clR X.K RN) E -> DSs (toX X xe pn) (reE c cE) body f)
    (hi : X.N[i]? = some n := by rfl) (hx : X.env.scope.names.lookup n = some .local := by rfl) (hkn : X.env.kindOf n = some .local := by rfl)
    (hdx : (x == ("__debug__" : Str)) = false := by decide) (hdm : (m == ("__debug__" : Str)) = false := by decide) (hdn : (n == ("__debug__" : Str)) = false := by decide) (hcn : (n == ("__classdict__" : Str)) = false := by decide)
    (hst : starEach [.Name n p2] X.env = (false, eval (.Name n p2) X.env) :: starEach [] X.env := by rfl) (hpl : (backTo p3 (starEach [] X.env)).any (·.1) = false := by rfl) :
    DS X c (.Try body [.ExceptHandler (some (.Name x np)) (some n) [.Return (some (.Call (.Name m p1) [.Name n p2] [] p3)) p4] hpos] [] [] pos) (qeD RN f F) := by
  refine ⟨fun D σ H => ∃ ρ, Rep X.K c ρ σ H /\ WpS X.K c σ H D (qeD RN f F ρ), ?_, fun ρ σ H D r h => ⟨ρ, r, h⟩⟩
  rintro pins s σ H D I ⟨ρ, r, w⟩
  refine wpAny_Try_except ?_
  have hk := I.ok
  let xe : Value -> Shared -> Prop := fun e s₁ => wpAny (model X.prog X.w) X.A (noteFrame e X.env) (fun _ s₂ => wpAny (model X.prog X.w) X.A (setFlight e none) (fun _ s₃ => wpAny (model X.prog X.w) X.A (handleBy e X.env [.ExceptHandler (some (.Name x np)) (some n) [.Return (some (.Call (.Name m p1) [.Name n p2] [] p3)) p4] hpos]) (SP X pins D) X.xe s₃) X.xe s₂) X.xe s₁
  let cE : Exn -> Hp -> Prop := fun z H' => ∃ ρ' σ', f ρ = .exc z ρ' /\ Rep X.K c ρ' σ' H' /\ GrS c.O σ H σ' H'
  let E : XK := fun cv _ H' => ∃ C z, cv = .ref C /\ clR X.K RN z.cls = some C /\ cE z H'
  have L : XL2 (toX X xe (X.pn ++ pins)) (reE c cE) (clR X.K RN) E := by
    refine ⟨?_, fun z C H' h1 h2 => ⟨C, z, rfl, h1, h2⟩⟩
    intro pins2 σ2 H2 s2 u s' I2 hx2
    obtain ⟨e, T, C, H', rfl, os, bare, un, hok, he, hT, hHe, hHT, Fl, C', z, hC', hz, ρ', σ', ef, r', g'⟩ := hx2
    have eC : C = C' := Value.ref.inj hC'
    subst eC
    have I3 : Inv X pins σ2 H2 s2 := vc I2
    have hz2 : ∀ b ∈ [e, T], H' b = none := fun b hb => by
      simp only [List.mem_cons, List.not_mem_nil, or_false] at hb
      rcases hb with rfl | rfl
      . exact hHe
      . exact hHT
    have hz3 : ∀ b ∈ [e, T], s2.heap.get? b = none := fun b hb => by
      simp only [List.mem_cons, List.not_mem_nil, or_false] at hb
      rcases hb with rfl | rfl
      . exact he
      . exact hT
    have hl : s'.heap.FunFrames X.base X.stack := qeB I3 un
    have hA : X.A.frames = some (X.env :: X.outer) := by rw [<- hcx]; exact hk.frames
    show wpAny _ _ _ _ _ _
    rw [hcx] at hl
    refine qbA hA hl hf Fl fun h3 T3 y1 y2 y3 => ?_
    rw [<- hcx] at y1
    have un3 : Un (frs X.stack) [] H2 H' s2.heap h3 := qgT un hz3 y1
    have hok3 : HOk X.prog X.w H' h3 := qeC I3 un hok hz2 y1
    have I4 : Inv X pins σ2 H' { s' with heap := h3 } := I3.call' (s' := { s' with heap := h3 }) (ch := []) os un3 hok3 bare (fun b hb => nomatch hb)
    have up : ∀ b, s'.heap.get? b = none -> s2.heap.get? b = none := fun b hb => by
      cases q : s2.heap.get? b with
      | none => rfl
      | some o =>
        obtain ⟨o', q'⟩ := un.there b o q (by simp)
        rw [hb] at q'; cases q'
    have hT3 : s2.heap.get? T3 = none := y3.elim (fun z => z ▸ hT) (up T3)
    have hHT3 : H' T3 = none := y3.elim (fun z => z ▸ hHT) fun z => by
      cases q : H' T3 with
      | none => rfl
      | some o =>
        obtain ⟨o', q'⟩ := yR (hok _ _ q)
        rw [z] at q'; cases q'
    refine wpAny_handleBy_cons (codeAny_handlers_test ?_) (by intro q; cases q)
    refine qaz (X := hdX X e) (qgS e I4) hgS hmS ?_ hdx
    obtain ⟨bmS, xS⟩ := hcl.sup
    obtain ⟨bm, xC, hin⟩ := hcl.own _ _ hz
    obtain ⟨nmS, qS, NS, bsS, hdctS, snS, subS, abS, colS, ddS, j0, j1, j2, j3, j5, newIdS, _, _, _, _, hS, _⟩ := xS.ex
    obtain ⟨nm, q, N, bs, hdct, sn, sub, ab, col, dd, k0, k1, k2, k3, k5, newId, _, _, _, _, hC, _⟩ := xC.ex
    obtain ⟨oe, vs, oT, ts, a0, hoe, hoc, hod, _⟩ := id y2
    refine w5 (M := model X.prog X.w) (A := X.A.mark (some (.ref e))) (h := h3) (g := s'.gens) (d := s'.drawn) (t := s'.toks) (os := s'.os) (I4.bk _ _ hC) (I4.bk _ _ hS) hoe hoc.1 xS.hasBase ?_
    rw [hin]
    show codeAny _ _ _ _ _
    refine codeAny_handlers_suite_as ?_
    have hl3 : h3.FunFrames X.base X.stack := qeB I3 un3
    refine qdk (s := { s' with heap := h3 }) hl3 y2 fun h4 T4 z1 z2 z3 => ?_
    have hz4 : ∀ b ∈ [e, T3], H' b = none := fun b hb => by
      simp only [List.mem_cons, List.not_mem_nil, or_false] at hb
      rcases hb with rfl | rfl
      . exact hHe
      . exact hHT3
    have hz5 : ∀ b ∈ [e, T3], s2.heap.get? b = none := fun b hb => by
      simp only [List.mem_cons, List.not_mem_nil, or_false] at hb
      rcases hb with rfl | rfl
      . exact he
      . exact hT3
    have un4 : Un (frs X.stack) [] H2 H' s2.heap h4 := qgT un3 hz5 z1
    have hok4 : HOk X.prog X.w H' h4 := qeC I3 un3 hok3 hz4 z1
    obtain ⟨oe4, vs4, oT4, ts4, a04, hoe4, hoc4, hod4, _⟩ := id z2
    have I5 : Inv X pins σ2 (upd H' e (.frz oe4 (.own e))) { s' with heap := h4 } := I3.call' (s' := { s' with heap := h4 }) (ch := []) os (qh8 un4 he hHe) (qfR hok4 hHe hoe4) bare (fun b hb => nomatch hb)
    refine uW (v := .ref e) I5 hN hi (.inl hx) rfl (fun s5 I6 => ?_) (.inr hx)
    have sm : jm H' (upd H' e (.frz oe4 (.own e))) := qy hHe _
    have hil : IsL X.K (fun _ => False) (upd H' e (.frz oe4 (.own e))) [.exc z.cls] [.ref e] := ⟨.ref e, [], rfl, ⟨e, rfl, C, (qcr hz).2, hcl.ki _ _ hz, oe4, vs4, qv, hoc4.1, hod4⟩, rfl⟩
    cases em : F [.exc z.cls] with
    | bad => simp only [qeD, ef, (qcr hz).1, em, if_true] at w; exact w.elim
    | exc z' ρ'' => simp only [qeD, ef, (qcr hz).1, em, if_true] at w; exact w.elim
    | ok d =>
      simp only [qeD, ef, (qcr hz).1, em, if_true] at w
      have hσl : i < σ2.length := by rw [I5.len]; exact (List.getElem?_eq_some_iff.mp hi).1
      have call := qdE (qdF (pos := p4) (qcE (X := hdX X e) (E := fun _ _ _ => False) (pos := p3) (p := p1) G ⟨hr.dp, hr.un, hr.gd⟩ hgm hmm hkm hbm .nil (fun _ _ _ _ _ _ _ z => z.elim) (jk (uf (X := hdX X e) (pos := p2) hi (.inl hx) hdn hcn) uX hst) hdm hst hpl))
      have run := call pins s5 _ _ ({ nx := fun _ _ => False, rt := D.rt } : qdC) (qgS e I6) ⟨.ref e, List.getElem?_set_self hσl, ⟨e, oe4, .own e, vs4, rfl, qv, hod4, hoc4.2.1⟩, [.exc z.cls], fun _ => False, hil, fun _ _ => trivial, by
        rw [em]
        exact fun v H6 sm6 i6 => w v σ' H6 (r'.same (fun b o q => sm6 b o (sm b o q))) (Is.ext Ext.refl (fun a ha _ => ha.elim (fun z => z.elim) fun hn => r'.b0 a (r'.dm a (sm.free hn))) i6) (g'.trans (Gr.of_same (fun b o q => sm6 b o (sm b o q))).s)⟩
      refine wpAny_mono run (fun fl s6 h6 => ?_) (fun _ _ z => z.elim)
      cases fl with
      | next => obtain ⟨_, _, _, z⟩ := h6; exact z.elim
      | brk => obtain ⟨_, _, _, z⟩ := h6; exact z.elim
      | cont => obtain ⟨_, _, _, z⟩ := h6; exact z.elim
      | ret u =>
        obtain ⟨v, σ7, H7, I7, rv, q7⟩ := h6
        have I8 := qfQ hk I7
        obtain ⟨m8, hn8, _⟩ := id I8.loc
        exact wpAny_nameGoes hkn hn8 (by rw [hk.kind]; rfl) fun h9 m9 hn9 hs9 => ⟨v, _, H7, qdn I8 hn9 hs9, rv, q7⟩
  obtain ⟨t, p, wt⟩ := hb xe (X.pn ++ pins) E cE L
  have w' : WpS X.K (reE c cE) σ H D (f ρ) := by
    cases ef : f ρ with
    | bad => simp only [qeD, ef] at w; exact w
    | exc z ρ' => exact fun σ' H' r' g' => ⟨ρ', σ', ef, r'.unE, g'⟩
    | ok fl =>
      simp only [qeD, ef] at w
      cases fl with
      | nx ρ' => exact fun σ' H' r' g' => w σ' H' r'.unE g'
      | rt d ρ' => exact fun v σ' H' r' i' g' => w v σ' H' r'.unE i' g'
      | bk ρ' => exact fun σ' H' r' g' => w σ' H' r'.unE g'
      | ct ρ' => exact fun σ' H' r' g' => w σ' H' r'.unE g'
  have run := p [] s σ H D (qjI I) (wt ρ σ H D r.reE w')
  refine wpAny_mono run (fun fl s1 h1 => ?_) (fun _ _ z => z)
  cases fl with
  | next =>
    obtain ⟨σ1, H1, I1, q1⟩ := h1
    exact wpAny_execs_nil ⟨σ1, H1, vc I1, q1⟩
  | brk => obtain ⟨σ1, H1, I1, q1⟩ := h1; exact ⟨σ1, H1, vc I1, q1⟩
  | cont => obtain ⟨σ1, H1, I1, q1⟩ := h1; exact ⟨σ1, H1, vc I1, q1⟩
  | ret u => obtain ⟨v, σ1, H1, I1, rv, q1⟩ := h1; exact ⟨v, σ1, H1, vc I1, rv, q1⟩
end
end L2.Sk
namespace L2.Sk
open PySem PySem.Spec PyProof.Rows PySem.W
def bmV : List Value := [.type "ValueError", .type "Exception", .type "BaseException", .type "object"]
def qdo (K : Fr0) (C S : Addr) : Bool := match K.lookup C with
  | some ⟨_, _, .cls cd, _⟩ => cd.mro.contains (.ref S)
  | _ => false
theorem qcF {K : Fr0} {h : Heap} {C S : Addr} (X : K.In h) (q : excIn K C bmV "ValueError.__new__" = true) (hs : qdo K C S = true) : ∃ bm, XC h C bm /\ (Value.ref C :: bm).contains (.ref S) = true := by
  unfold excIn at q
  split at q
  . rename_i dd cd sl ho
    split at q
    . rename_i C' bm k0 k1 k2 k3 n k5 hm hl
      simp only [Bool.and_eq_true, beq_iff_eq, Bool.not_eq_true'] at q
      obtain ⟨⟨⟨⟨⟨e1, e2⟩, hdel⟩, ht⟩, hok⟩, hni⟩ := q
      subst e1 e2
      unfold qdo at hs
      rw [ho] at hs
      dsimp only at hs
      rw [hm] at hs
      obtain ⟨nm, bs, mro, ns, qn, hd, sn, sub, ab, col, del⟩ := cd
      dsimp only at hm hdel hok hni
      subst hm hdel
      have hz : sl = #[k0, k1, k2, k3, some (.builtin _), k5] := Array.toList_inj.mp hl
      subst hz
      have hT := tail_of_in X ht
      refine ⟨bm, ⟨hT.hasType (by decide +kernel), nm, qn, ns, bs, hd, sn, sub, ab, col, dd, k0, k1, k2, k3, k5, _, "ValueError.__init__", "ValueError", bmV, _, X _ _ ho, .of_isNs (isNs_of_in X hok), nsMap_none_of_in X hok hni, hT, PySem.F.excBase_ValueError⟩, hs⟩
    . cases q
  . cases q
def qh9 (K : Fr0) (D : Addr) : Bool :=
  findIn K (.ref D) "__getattribute__" == some (some (.builtin "BaseException.__getattribute__")) && findIn K (.ref D) "__getattr__" == some none &&
  findIn K (.ref D) "__class__" == some (some (.builtin "object.__class__")) && mroIn K D (.type "object") == some true && subIn K (.ref D) (.type "BaseException") == some true && (clsIn K D).isSome &&
  (["int", "bool", "str", "tuple", "list", "dict"].all fun T => kitOne K (.ref D) (.type T) == some false)
theorem qjK {K : Fr0} {D : Addr} (h : qh9 K D = true) : XK6 K D := by
  unfold qh9 at h
  simp only [Bool.and_eq_true, beq_iff_eq] at h
  obtain ⟨⟨⟨⟨⟨⟨h1, h2⟩, h3⟩, h4⟩, h5⟩, h6⟩, h7⟩ := h
  exact ⟨h1, h2, h3, h4, h5, h6, fun T hT => by simpa using List.all_eq_true.mp h7 T hT⟩
def yu (n m : Str) : Bool := n == m || m == "SackError"
def qjL (K : Fr0) (S : Addr) (TN : List Str) (n : Str) : Bool := match uh K n with
  | some C => excIn K C bmV "ValueError.__new__" && qdo K C S && qh9 K C && kitOne K (.ref C) (.type "ValueError") == some true &&
    TN.all fun m => match uh K m with
      | some Cm => kitOne K (.ref C) (.ref Cm) == some (yu n m)
      | none => false
  | none => false
def qkQ (K : Fr0) (RN TN : List Str) : Bool := match uh K "SackError" with
  | some S => excIn K S bmV "ValueError.__new__" && qdo K S S && RN.all (qjL K S TN)
  | none => false
structure XT (K : Fr0) (mg : Str -> Option Value) (RN TN : List Str) : Prop where
  all : qkQ K RN TN = true
  mgc : ∀ n C, uh K n = some C -> mg n = some (.ref C)
theorem qfS {K : Fr0} {h : Heap} {mg : Str -> Option Value} (X : K.In h) (G : h.Ns mainGlobals mg) (n : Str) (C : Addr) (e : uh K n = some C) : mg n = some (.ref C) := by
  unfold uh at e
  split at e
  . rename_i C' q
    cases e
    exact mg_of X G q
  . cases e
section
variable {K : Fr0} {mg : Str -> Option Value} {RN TN : List Str}
theorem XT.sup (t : XT K mg RN TN) : ∃ S, uh K "SackError" = some S /\ excIn K S bmV "ValueError.__new__" = true /\ qdo K S S = true /\ RN.all (qjL K S TN) = true := by
  have h := t.all
  unfold qkQ at h
  split at h
  . rename_i S e
    simp only [Bool.and_eq_true] at h
    exact ⟨S, e, h.1.1, h.1.2, h.2⟩
  . cases h
theorem XT.row (t : XT K mg RN TN) {S : Addr} (hS : uh K "SackError" = some S) {n : Str} (hn : RN.contains n = true) : qjL K S TN n = true := by
  obtain ⟨S', e, _, _, h⟩ := t.sup
  rw [hS] at e
  cases e
  exact List.all_eq_true.mp h n (by simpa using hn)
theorem XT.cls (t : XT K mg RN TN) {n : Str} {C : Addr} (h : clR K RN n = some C) : uh K n = some C /\ ∃ S, uh K "SackError" = some S /\ excIn K C bmV "ValueError.__new__" = true /\ qdo K C S = true /\ XK6 K C /\ kitOne K (.ref C) (.type "ValueError") = some true /\
    ∀ m ∈ TN, ∃ Cm, uh K m = some Cm /\ kitOne K (.ref C) (.ref Cm) = some (yu n m) := by
  unfold clR at h
  split at h
  . rename_i hn
    obtain ⟨S, hS, _⟩ := t.sup
    have r := t.row hS hn
    unfold qjL at r
    rw [h] at r
    simp only [Bool.and_eq_true, beq_iff_eq] at r
    obtain ⟨⟨⟨⟨r1, r2⟩, r3⟩, r4⟩, r5⟩ := r
    refine ⟨h, S, hS, r1, r2, qjK r3, r4, fun m hm => ?_⟩
    have := List.all_eq_true.mp r5 m hm
    split at this
    . rename_i Cm e
      exact ⟨Cm, e, by simpa using this⟩
    . cases this
  . cases h
theorem XT.has (t : XT K mg RN TN) {n : Str} (hn : RN.contains n = true) : ∃ C, clR K RN n = some C := by
  obtain ⟨S, hS, _⟩ := t.sup
  have r := t.row hS hn
  unfold qjL at r
  split at r
  . rename_i C e
    exact ⟨C, by unfold clR; rw [if_pos hn]; exact e⟩
  . cases r
theorem XT.ask (t : XT K mg RN TN) {n m : Str} (hn : RN.contains n = true) (hm : m ∈ TN) : ∃ Cm, uh K m = some Cm := by
  obtain ⟨C, hC⟩ := t.has hn
  obtain ⟨_, _, _, _, _, _, _, h⟩ := t.cls hC
  obtain ⟨Cm, e, _⟩ := h m hm
  exact ⟨Cm, e⟩
theorem XT.xcls (t : XT K mg RN TN) {base : Heap} (X : K.In base) : ∃ S, mg "SackError" = some (.ref S) /\ qlj K base RN S := by
  obtain ⟨S, hS, h1, h2, _⟩ := t.sup
  refine ⟨S, t.mgc _ _ hS, ⟨(qcF X h1 h2).imp fun bm h => h.1, fun n C h => ?_, fun n C h => ?_⟩⟩
  . obtain ⟨_, S', hS', r1, r2, _⟩ := t.cls h
    rw [hS] at hS'
    cases hS'
    exact qcF X r1 r2
  . obtain ⟨_, _, _, _, _, r, _⟩ := t.cls h
    exact r
end
theorem qcG : typeOf (.builtin "list.count") = pure (.type "method_descriptor") := by kernel_rfl
theorem qcH : typeOf (.builtin "list.index") = pure (.type "method_descriptor") := by kernel_rfl
def qdp (RN : List Str) (m : Str) (f : M D) : M D := bnd f fun d => match d with
  | .exc n => if RN.contains n then ret (.bl (m == "ValueError" || yu n m)) else fun _ => .bad
  | _ => fun _ => .bad
section
variable {X : Cx} {c : Fc} {a b e : Expr} {pos : Pos} {RN TN : List Str}
def qlk (K : Fr0) (RN : List Str) (m : Str) (Cm : V) : List V -> Hp -> VK -> Prop := fun xs H Q => ∃ v n A, xs = [v, Cm] /\ RN.contains n = true /\ Is K A H (.exc n) v /\ Q (.bl (m == "ValueError" || yu n m)) H
theorem qcI {m : Str} {Cm : V} {um : Value} (hr : jv Cm um) (hu : ∀ u, jv Cm u -> u = um) (hk : ∀ n C, uh X.K n = some C -> RN.contains n = true -> kitOne X.K (.ref C) um = some (m == "ValueError" || yu n m)) : yD X (.builtin "isinstance") (qlk X.K RN m Cm) := by
  intro pins s σ H xs us Q I r h
  obtain ⟨v, n, A, rfl, hn, hi, q⟩ := h
  obtain ⟨u, w, rfl, r1, r2⟩ := qY.two r
  rw [hu w r2]
  obtain ⟨z, rfl, C, hC, h1, h2⟩ := hi
  cases (show u = Value.ref z from r1)
  exact qai I h1 h2 (hk n C hC hn) fun tk => ⟨.bl _, H, I.tok tk, rfl, q⟩
theorem qeE {m : Str} {f : M D} {t : TE} {Cm : V} (w : ∀ ρ σ H Q, Rep X.K c ρ σ H -> Wp X.K c σ H Q (f ρ) -> t σ H Q) : ∀ ρ σ H Q, Rep X.K c ρ σ H -> Wp X.K c σ H Q (qdp RN m f ρ) -> tCB (qlk X.K RN m Cm) (qhj t (qhj (tC Cm) qla)) σ H Q := fun ρ σ H Q r h => w ρ σ H _ r (Wp.bnd h fun d ρ1 v H1 r1 i1 g1 h1 => by
  cases d with
  | exc n =>
    dsimp only at h1
    by_cases hn : RN.contains n = true
    . rw [if_pos hn] at h1
      exact ⟨v, n, _, rfl, hn, i1, h1 _ H1 r1 rfl .refl⟩
    . rw [if_neg hn] at h1
      exact h1.elim
  | _ => exact h1.elim)
theorem wL {m : Str} {mgl : Str -> Option Value} {p p2 : Pos} {f : M D} (t : XT X.K X.mg RN TN) (hm : m ∈ TN) (hne : (m == "ValueError") = false) (hg : Gl X "isinstance") (hmi : X.mg "isinstance" = none) (hg2 : Gl X m) (ha : DE X c a f)
    (hs : ∃ Cm, uh X.K m = some Cm)
    (hv : bootBuiltins "isinstance" = some (.builtin "isinstance") := by first | rfl | exact PySem.boot_isinstance) (hdb2 : (m == ("__debug__" : Str)) = false := by decide)
    (he : starEach [a, .Name m p2] X.env = (false, eval a X.env) :: starEach [.Name m p2] X.env := by rfl) (hpl : (backTo pos (starEach [.Name m p2] X.env)).any (·.1) = false := by rfl) : DE X c (.Call (.Name "isinstance" p) [a, .Name m p2] [] pos) (qdp RN m f) := by
  obtain ⟨ta, pa, w⟩ := ha
  obtain ⟨Cm, hCm⟩ := hs
  refine ⟨_, uY (qcI (RN := RN) (m := m) (Cm := .ref Cm) (um := .ref Cm) rfl (fun u h => h) fun n C hC hn => ?_) hg hmi hv (jk pa (jk (qbW (v := .ref Cm) hg2 (t.mgc m Cm hCm) rfl hdb2) uX (by rfl)) he) (by decide) (by decide) he hpl, qeE w⟩
  have hcl : clR X.K RN n = some C := by unfold clR; rw [if_pos hn]; exact hC
  obtain ⟨_, _, _, _, _, _, _, h⟩ := t.cls hcl
  obtain ⟨Cm', e1, e2⟩ := h m hm
  rw [hCm] at e1
  cases e1
  rw [e2, hne]; rfl
theorem qia {p p2 : Pos} {f : M D} (t : XT X.K X.mg RN TN) (hg : Gl X "isinstance") (hmi : X.mg "isinstance" = none) (hg2 : Gl X "ValueError") (hm2 : X.mg "ValueError" = none) (ha : DE X c a f)
    (hv : bootBuiltins "isinstance" = some (.builtin "isinstance") := by first | rfl | exact PySem.boot_isinstance) (hv2 : bootBuiltins "ValueError" = some (.type "ValueError") := by rfl)
    (he : starEach [a, .Name "ValueError" p2] X.env = (false, eval a X.env) :: starEach [.Name "ValueError" p2] X.env := by rfl) (hpl : (backTo pos (starEach [.Name "ValueError" p2] X.env)).any (·.1) = false := by rfl) : DE X c (.Call (.Name "isinstance" p) [a, .Name "ValueError" p2] [] pos) (qdp RN "ValueError" f) := by
  obtain ⟨ta, pa, w⟩ := ha
  refine ⟨_, uY (qcI (RN := RN) (m := "ValueError") (Cm := .ty "ValueError") (um := .type "ValueError") rfl (fun u h => h) fun n C hC hn => ?_) hg hmi hv (jk pa (jk (qdD (v := .ty "ValueError") hg2 hm2 hv2 rfl (by decide) (by decide)) uX (by rfl)) he) (by decide) (by decide) he hpl, qeE w⟩
  have hcl : clR X.K RN n = some C := by unfold clR; rw [if_pos hn]; exact hC
  obtain ⟨_, _, _, _, _, _, h, _⟩ := t.cls hcl
  rw [h]; rfl
end
section
variable {P : Program} {w : World} {K : PySem.W.Frag} {mg : Str -> Option Value} {base : Heap}
theorem qfT {x qual : Str} {st : Stmt} {f : Addr} {fd : FuncData} {N ps : List Str} {k : Nat} {O : List Nat} {body : MS} (F : Fun K x qual st f fd) (S : qt N ps (qd st)) (hO : ∀ i ∈ O, ps.length <= i)
    (hb : ∀ (cdv : Value) (A : Around) (outer : List PySem.Env) (s : Shared) (H : Hp) (E : XK) (B : Addr -> Prop), uo k (A.deeper (envOfC qual (qd st) s.heap.objs.size f cdv)) -> AloneA (A.deeper (envOfC qual (qd st) s.heap.objs.size f cdv)) H ->
      DSs (qdl CX0 P w K mg base N qual (qd st) f cdv A outer s H E).nox (cfn O [] B H (fun _ => False) (fun _ _ => False) fun _ => none) (qr st) body) :
    qbB P w K mg base CX0 (k + 1) f fd ps (spD K (dfn N.length ps.length body)) := by
  obtain ⟨oc, od, kV, doc, pm, an, cdv, ct, osl, rfl, lk, hcd⟩ := F.ex
  refine qjH lk hcd S (fun vs H Q E h => ?_) (fun A outer s H vs Q E hr al h => ?_)
  . obtain ⟨ds, B, il, _, h⟩ := h
    unfold dfn at h
    by_cases e : ds.length = ps.length
    . rw [il.length]; exact e
    . rw [if_neg e] at h; exact h.elim
  . obtain ⟨ds, B, il, _, h⟩ := h
    obtain ⟨t, p, wt⟩ := hb cdv A outer s H E B hr al
    refine ⟨t, p.nox, ?_⟩
    unfold dfn at h
    by_cases e : ds.length = ps.length
    . rw [if_pos e] at h
      refine wt (jV N.length ds) (zL N vs) H _ (wD il (fun i hi => by rw [e]; exact hO i hi)) ?_
      have same : ∀ {ρ : Env} {σ : St} {H' : Hp}, Rep K (cfn O [] B H (fun _ => False) (fun _ _ => False) fun _ => none) ρ σ H' -> jm H H' := fun r b o hb => r.kp b o hb fun z => z
      cases eb : body (jV N.length ds) with
      | bad => rw [eb] at h; exact h.elim
      | exc z ρ => rw [eb] at h; exact h.elim
      | ok fl =>
        rw [eb] at h
        cases fl with
        | nx ρ => exact fun σ' H' r' _ => h .non H' (same r') rfl
        | rt d ρ => exact fun v σ' H' r' i' _ => h v H' (same r') i'
        | bk ρ => exact h.elim
        | ct ρ => exact h.elim
    . rw [if_neg e] at h; exact h.elim
structure qeF (P : Program) (w : World) (K : PySem.W.Frag) (mg : Str -> Option Value) (base : Heap) (k : Nat) (x : Str) (ps : List Str) (sp : Sp) : Prop where
  ex : ∃ f fd, qbB P w K mg base CX0 k f fd ps sp /\ mg x = some (.ref f) /\ PySem.W.keepIn K (.ref f) = true /\ ug K fd ps []
end
end L2.Sk
namespace L2.Sk
open PySem PySem.Spec PyProof.Rows
section
variable {ρ : Env} {f g : M D} {l : M (List D)} {p q : MS} {RN : List Str}
theorem qcJ (F : List D -> R D) : yL RN F l ρ = match l ρ with | .ok (xs, ρ1) => (match F xs with | .ok d => .ok (d, ρ1) | .exc x _ => (if RN.contains x.cls then .exc x ρ1 else .bad) | .bad => .bad) | .exc x ρ' => .exc x ρ' | .bad => .bad := by
  simp only [yL, bnd]
  cases l ρ with
  | ok z => obtain ⟨z1, ρ1⟩ := z; cases F z1 <;> rfl
  | exc x ρ' => rfl
  | bad => rfl
theorem qcK (F : List D -> R D) : qcD F l ρ = match l ρ with | .ok (xs, ρ1) => (match F xs with | .ok d => .ok (d, ρ1) | _ => .bad) | .exc x ρ' => .exc x ρ' | .bad => .bad := by
  simp only [qcD, bnd]
  cases l ρ with
  | ok z => obtain ⟨z1, ρ1⟩ := z; cases F z1 <;> rfl
  | exc x ρ' => rfl
  | bad => rfl
theorem qcL (x : Str) : qao x l ρ = match l ρ with | .ok (ds, ρ') => (if qG ds.length then .exc ⟨x, .non⟩ ρ' else .bad) | .exc z ρ' => .exc z ρ' | .bad => .bad := rfl
theorem qgU (F : List D -> R D) : qeD RN p F ρ = match p ρ with | .exc x ρ' => (if RN.contains x.cls then (match F [.exc x.cls] with | .ok d => .ok (.rt d ρ') | _ => .bad) else .bad) | r => r := rfl
theorem qgV (m : Str) : qdp RN m f ρ = match f ρ with | .ok (.exc n, ρ1) => (if RN.contains n then .ok (.bl (m == "ValueError" || yu n m), ρ1) else .bad) | .ok _ => .bad | .exc x ρ' => .exc x ρ' | .bad => .bad := by
  simp only [qdp, bnd]
  cases f ρ with
  | ok z =>
    obtain ⟨z1, ρ1⟩ := z
    cases z1 <;> first | rfl | (dsimp only; split <;> rfl)
  | exc x ρ' => rfl
  | bad => rfl
theorem qaP (F : D -> List D -> Option D) : qaN F f l ρ = match f ρ with
    | .ok (.lst ds, ρ1) => (match l ρ1 with | .ok (ys, ρ2) => (match F (.lst ds) ys with | some d => .ok (d, ρ2) | none => .bad) | .exc x ρ' => .exc x ρ' | .bad => .bad)
    | .ok _ => .bad | .exc x ρ' => .exc x ρ' | .bad => .bad := by
  simp only [qaN, bnd]
  cases f ρ with
  | ok z =>
    obtain ⟨z1, ρ1⟩ := z
    cases z1 with
    | lst ds =>
      show bnd l (fun ys => lift (F (D.lst ds) ys)) ρ1 = (match l ρ1 with | .ok (ys, ρ2) => (match F (.lst ds) ys with | some d => .ok (d, ρ2) | none => .bad) | .exc x ρ' => .exc x ρ' | .bad => .bad)
      unfold bnd
      cases l ρ1 with
      | ok z => obtain ⟨z2, ρ2⟩ := z; (dsimp only; cases F (.lst ds) z2 <;> rfl)
      | exc x ρ' => rfl
      | bad => rfl
    | _ => rfl
  | exc x ρ' => rfl
  | bad => rfl
end
theorem qib {n p : Nat} {body : MS} {ds : List D} {d : D} (h : ds.length = p) (e : ∃ ρ, body (jV n ds) = .ok (.rt d ρ)) : wH n p body ds = .ok d := by
  obtain ⟨ρ, e⟩ := e
  unfold wH; rw [if_pos h, e]
theorem qcM {n p : Nat} {body : MS} {ds : List D} (h : ds.length = p) (e : ∃ ρ, body (jV n ds) = .ok (.nx ρ)) : wH n p body ds = .ok .non := by
  obtain ⟨ρ, e⟩ := e
  unfold wH; rw [if_pos h, e]
theorem wM {n p : Nat} {body : MS} {ds : List D} {x : Exn} {ρ : Env} (h : ds.length = p) (e : body (jV n ds) = .exc x ρ) : wH n p body ds = .exc x ρ := by
  unfold wH; rw [if_pos h, e]
theorem qbF {p q : MS} {ρ ρ' : Env} {x : Exn} (h : p ρ = .exc x ρ') : qB p q ρ = .exc x ρ' := by unfold qB; rw [h]
end L2.Sk
namespace L2.Sk
open PySem PySem.Spec PyProof.Rows
def unO (_ : Nat) (c : Fc) : Fc := { c with O := [], P := [], B := fun _ => True }
theorem Gr.unSame {c : Fc} {σ : St} {H H' : Hp} {i : Nat} (g : Gr (unO i c).O σ H H') : jm H H' := fun b o h => g.ext.at_ b o (fun j hj => by cases hj) h
theorem Rep.un {K : Fr0} {c : Fc} {ρ : Env} {σ : St} {H : Hp} {i : Nat} (r : Rep K c ρ σ H) (_ : i ∈ c.O) : Rep K (unO i c) ρ σ H := by
  have all : ∀ b : Addr, Cn (unO i c) σ b := fun b => ⟨trivial, fun j hj => by cases hj⟩
  refine ⟨r.len, fun k d hk => ?_, fun j hj => (by cases hj), fun k j a hk => (by cases hk), fun _ _ => trivial, r.kp, r.dm, fun j hj => (by cases hj), fun j hj => (by cases hj)⟩
  obtain ⟨v, h1, h2⟩ := r.val k d hk
  refine ⟨v, h1, .inr ⟨fun z => (by cases z), ?_⟩⟩
  rcases h2 with ⟨hk2, ds, a, xs, h3, h5, h6, h7⟩ | ⟨hk2, h3⟩
  . subst h3 h5
    exact ⟨a, xs, rfl, all a, h6, IsL.ext Ext.refl (fun b _ _ => all b) h7⟩
  . exact Is.ext Ext.refl (fun b _ _ => all b) h3
theorem Gr.un {c : Fc} {σ : St} {H H' : Hp} {i : Nat} (g : Gr (unO i c).O σ H H') : Gr c.O σ H H' := .of_same g.unSame
theorem Rep.re {K : Fr0} {c : Fc} {ρ : Env} {σ : St} {H H' : Hp} {i : Nat} (r : Rep K c ρ σ H) (_ : i ∈ c.O) (_ : Rep K (unO i c) ρ σ H') (g : Gr (unO i c).O σ H H') : Rep K c ρ σ H' := r.same g.unSame
open Classical in
noncomputable def vd (f : M D) : M D := fun ρ => match f ρ with
  | .ok (d, ρ') => if imm d = true /\ ρ' = ρ then .ok (d, ρ) else .bad
  | .exc x ρ' => if ρ' = ρ then .exc x ρ else .bad
  | .bad => .bad
open Classical in
open Classical in
section
variable {X : Cx} {c : Fc} {e : Expr} {pos : Pos}
theorem qeG {i : Nat} {f : M D} (h : DE X (unO i c) e f) (ho : i ∈ c.O := by exact of_decide_eq_true rfl) : DE X c e (vd f) := by
  obtain ⟨t, p, w⟩ := h
  refine ⟨t, p, fun ρ σ H Q r h => w ρ σ H Q (r.un ho) ?_⟩
  unfold vd at h
  cases ef : f ρ with
  | bad => rw [ef] at h; exact h.elim
  | exc x ρ' =>
    rw [ef] at h
    simp only at h
    split at h
    . rename_i e1
      subst e1
      exact fun H' r' g' => h H' (r.re ho r' g') g'.un
    . exact h.elim
  | ok q =>
    obtain ⟨d, ρ'⟩ := q
    rw [ef] at h
    simp only at h
    split at h
    . rename_i e1
      obtain ⟨e1, e2⟩ := e1
      subst e2
      exact fun v H' r' i' g' => h v H' (r.re ho r' g') (Is.imm e1 i') g'.un
    . exact h.elim
def qmb : List D -> Option (List D)
  | [.int i, .int j] => if decide (-(2 ^ 62) <= i) && decide (i < 2 ^ 62) && decide (-(2 ^ 62) <= j) && decide (j < 2 ^ 62) then some (wZ i (j - i).toNat) else none
  | _ => none
theorem XL2.un {i : Nat} {cl : Str -> Option Addr} {E : XK} (L : XL2 X c cl E) : XL2 X (unO i c) cl E := ⟨L.pass, L.wish⟩
def qgW (i n : Nat) (g : D -> Env -> Option Env) (b : MS) : Nat -> MS
  | 0, ρ => match zu i ρ with
    | some ds => if ds.length <= n then .ok (.nx ρ) else .bad
    | none => .bad
  | m + 1, ρ => match zu i ρ with
    | some ds => match ds[n - (m + 1)]? with
      | none => .bad
      | some d => match g d ρ with
        | none => .bad
        | some ρ1 => match b ρ1 with
          | .ok (.nx ρ2) => qgW i n g b m ρ2
          | .ok (.ct ρ2) => qgW i n g b m ρ2
          | .ok (.bk ρ2) => .ok (.nx ρ2)
          | .ok (.rt r ρ2) => .ok (.rt r ρ2)
          | .exc x ρ2 => .exc x ρ2
          | .bad => .bad
    | none => .bad
end
section
variable {ρ : Env} {f : M D} {t : M Bool} {n : M (List D)}
open Classical in
theorem qic : vd f ρ = match f ρ with | .ok (d, ρ') => (if imm d = true /\ ρ' = ρ then .ok (d, ρ) else .bad) | .exc x ρ' => (if ρ' = ρ then .exc x ρ else .bad) | .bad => .bad := rfl
open Classical in
open Classical in
end
end L2.Sk
namespace L2.Sk
open PySem PySem.Spec PyProof.Rows
def inA (x y : D) : Option D := match sqD y with
  | some ds => if v0 x && v0 y then some (.bl ((toPDs ds).any fun y => PyData.eqv y (zq x))) else none
  | none => none
section
variable {X : Cx}
theorem qcN {d : D} (h : v0 d = true) : (zq d).canLay0 = true /\ (zq d).depth <= 50 := by
  unfold v0 at h
  rw [Bool.and_eq_true, decide_eq_true_eq] at h
  exact h
end
end L2.Sk
namespace L2.Sk
open PySem PySem.Spec PyProof.Rows
section
variable {prog : Program} {w : World} {A : Around} {R : Result -> Shared -> Prop} {I : Addr} {fp wr : List Addr} {n : Nat} {P : Nat -> Value -> Prop} {St : Nat -> Heap -> Prop}
end
section
variable {prog : Program} {w : World} {A : Around} {E : Value -> Shared -> Prop} {s : Shared}
end
def qjM : List D -> Option (List (List Int))
  | [] => some []
  | .tup ts :: r => match vT ts, qjM r with
    | some n, some ns => some (n :: ns)
    | _, _ => none
  | _ => none
def qkR (ns : List (List Int)) (i : Nat) : List Int := (ns[i]?).getD []
def qkS (ns : List (List Int)) : Nat := argBest (fun i j => HT.lexLt (qkR ns i) (qkR ns j)) (ns.length - 1)
def qlT : List D -> Option D
  | [.lst ds] => match qjM ds with
    | some (n :: ns) => some (.tup ((qkR (n :: ns) (qkS (n :: ns))).map .int))
    | _ => none
  | _ => none
section
variable {X : Cx}
end
def qeH (K : Fr0) : V -> List V -> Hp -> VK -> Prop := fun x vs H Q => ∃ (l : Addr) (xs : List V) (ds : List D) (d : D) (y : V) (A : Addr -> Prop) (j : Nat), x = .ref l /\ vs = [y] /\ H l = some (.lst xs) /\ IsL K A H ds xs /\ Is K A H d y /\ ds.all v0 = true /\ v0 d = true /\ ds.findIdx? (fun e => PyData.eqv (zq e) (zq d)) = some j /\ Q (.int j) H
theorem qeI {X : Cx} {k : Nat} (hr : y9 k X.A) : MtR X "list.index" (qeH X.K) := by
  intro pins s σ H x vs v us Q I rx rv h
  obtain ⟨l, xs, ds, d, y, A, j, rfl, rfl, hH, il, id', ok1, ok2, hj, q⟩ := h
  cases rx
  obtain ⟨u, rfl, ru⟩ := qY.one rv
  obtain ⟨z, its, n, r, hl, e⟩ := I.lstM hH
  obtain ⟨bs, rd, _⟩ := yx I (qak ok2) id' ru
  have c2 := qcN ok2
  have hlen : its.length = ds.length := by rw [<- r.length]; exact il.length
  have rds : ∀ m (hm : m < ds.length), ∃ as, Reads s.heap (its[m]'(by omega)) (zq ds[m]) as /\ (zq ds[m]).canLay0 = true /\ (zq ds[m]).depth <= 50 := fun m hm => by
    obtain ⟨x1, h1, h2⟩ := il.get (List.getElem?_eq_getElem hm)
    obtain ⟨u1, h3, h4⟩ := r.get h1
    rw [List.getElem?_eq_getElem (show m < its.length by omega)] at h3
    cases h3
    have ok := List.all_eq_true.mp ok1 ds[m] (List.getElem_mem hm)
    obtain ⟨as, ra, _⟩ := yx I (qak ok) h2 h4
    exact ⟨as, ra, qcN ok⟩
  rw [List.findIdx?_eq_some_iff_getElem] at hj
  obtain ⟨h1, h2, h3⟩ := hj
  have hz : ds.length <= sizeLine := by rw [<- il.length]; exact z
  rw [sizeLine_eq] at hz
  have hu := hr.units
  have val : ∀ m (hm : m < ds.length), PyData.eqv (SeqAt.readOf s.heap (its[m]'(by omega))) (zq d) = PyData.eqv (zq ds[m]) (zq d) := fun m hm => by
    obtain ⟨as, ra, c1, _⟩ := rds m hm
    rw [SeqAt.readOf_eq c1 ra]
  refine call_meets PySem.F.slot_list_index ⟨_, e, rfl⟩ PySem.F.entry_list_index (PySem.F.args_list_index_2 _ _) (SeqAt.list_indexAt l its.toArray n none #[] u (fun y => PyData.eqv (SeqAt.readOf s.heap y) (zq d)) j (by simpa [hlen] using h1) (by omega) ?_ ?_) ⟨e, fun y hy => ?_, ?_⟩
  . simp only [List.getElem_toArray]
    rw [val j h1]
    exact h2
  . intro m hm hmj
    have hm' : m < ds.length := by omega
    simp only [List.getElem_toArray]
    rw [val m hm']
    have := h3 m hmj
    simpa using this
  . have hy' : y ∈ its := by simpa using hy
    obtain ⟨i, hi⟩ := List.mem_iff_getElem?.mp hy'
    obtain ⟨hi1, hi2⟩ := List.getElem?_eq_some_iff.mp hi
    subst hi2
    obtain ⟨as, ra, c1, d1⟩ := rds i (by omega)
    show SeqAt.EqAt _ _ _ _ (PyData.eqv (SeqAt.readOf s.heap its[i]) (zq d))
    rw [SeqAt.readOf_eq c1 ra]
    exact SeqAt.eqAt_reads _ _ _ _ _ _ _ _ ra rd c1 c2.1 (by show X.A.units + 1 + min _ _ < cLine; omega)
  . exact ⟨.int _, H, I.tok _, ⟨s.toks, rfl⟩, q⟩
def qas (x : D) (ys : List D) : Option D := match x, ys with
  | .lst ds, [d] => if ds.all v0 && v0 d then (ds.findIdx? fun e => PyData.eqv (zq e) (zq d)).map fun j => .int j else none
  | _, _ => none
theorem qbG {K : Fr0} : qey K qas (qeH K) := by
  intro A H x ys d v vs Q hn ix iy e k
  unfold qas at e
  split at e
  . rename_i ds y
    obtain ⟨u, rfl, e2⟩ := IsL.inv1 iy
    obtain ⟨a, xs, rfl, _, ta, il⟩ := ix
    split at e
    . rename_i hok
      rw [Bool.and_eq_true] at hok
      cases ej : ds.findIdx? (fun e => PyData.eqv (zq e) (zq y)) with
      | none => rw [ej] at e; cases e
      | some j =>
        rw [ej] at e
        cases e
        exact ⟨a, xs, ds, y, u, A, j, rfl, rfl, ta, il, e2, hok.1, hok.2, ej, k _ H (jm.refl H) rfl⟩
    . cases e
  . cases e
end L2.Sk
namespace L2.Sk
open PySem PySem.Spec PyProof.Rows
section
variable {prog : Program} {w : World} {A : Around} {E : Value -> Shared -> Prop} {s : Shared}
end
section
variable {X : Cx} {c : Fc} {a b e : Expr} {pos : Pos} {es : List Expr} {kk : Nat} {tp : Pos}
end
section
variable {X : Cx} {c : Fc} {a b e : Expr} {pos : Pos} {es : List Expr} {kk : Nat} {tp : Pos}
def qjN : List D -> Option (List D)
  | [.lst xs] => some (vF 0 xs)
  | _ => none
def qjO (f : M (List D)) : M (List D) := bnd f fun ds => lift (qjN ds)
end
end L2.Sk
namespace L2.Sk
open PySem PySem.Spec PyProof.Rows
section
variable {X : Cx} {c : Fc} {pos : Pos}
end
end L2.Sk
namespace L2.Sk
open PySem PySem.Spec PyProof.Rows
section
variable {prog : Program} {w : World} {A : Around} {E : Value -> Shared -> Prop} {s : Shared}
end
theorem AloneA.laid {A : Around} {H : Hp} {p : Addr} {o : HO} (x : AloneA A H) (h : H p = none) : AloneA A (upd H p o) := by
  obtain ⟨e, oe, u, vs, h1, h2, h3⟩ := x
  exact ⟨e, oe, u, vs, h1, by rw [qs (qN h2 h)]; exact h2, h3⟩
theorem AloneA.rep {K : Fr0} {c : Fc} {A : Around} (x : AloneA A c.H0) (hio : ∀ a, ¬ c.Io a) (ρ : Env) (σ : St) (H : Hp) (r : Rep K c ρ σ H) : AloneA A H := by
  obtain ⟨e, oe, u, vs, h1, h2, h3⟩ := x
  exact ⟨e, oe, u, vs, h1, r.kp _ _ h2 (hio e), h3⟩
end L2.Sk
namespace L2
open PySem PySem.Spec PyProof.Rows L2.Sk
structure qlU (P : Program) (w : World) (K : PySem.W.Frag) (tg : Expr) (J : It) (fp : List Addr) (it : Addr) (tn : Nat -> Heap -> Prop) : Prop where
  mem : it ∈ fp
  obj : ∀ i h, tn i h -> ∀ b ∈ fp, ∃ o, h.get? b = some o /\ ∀ v, o.data ≠ .cell v
  keep : ∀ i h h', tn i h -> (∀ b ∈ fp, ∀ o, h.get? b = some o -> h'.get? b = some o) -> tn i h'
  item : ∀ (X : Cx), X.prog = P -> X.w = w -> X.K = K -> AloneA X.A X.H₀ -> ∀ (i : Nat) (pins : List (Addr × Obj)) (s : Shared) (σ : St) (H : Hp) (E : Value -> Shared -> Prop), Inv X pins σ H s -> (∀ b ∈ fp, qbV X pins H b) -> tn i s.heap -> J.go i H ->
    wpAny (model P w) X.A (pyNext (.ref it)) (fun r s1 => ∃ u, r = some u /\
      wpAny (model P w) X.A (letOwnedTupleGo tg (.ref it) u) (fun _ s2 => ∃ x H', Inv X pins σ H' s2 /\ jv x u /\ J.yld i H x H' /\ tn (i + 1) s2.heap /\ ∀ b ∈ fp, H' b = none) E s1) E s
  done : ∀ (X : Cx), X.prog = P -> X.w = w -> X.K = K -> AloneA X.A X.H₀ -> ∀ (i : Nat) (pins : List (Addr × Obj)) (s : Shared) (σ : St) (H : Hp) (E : Value -> Shared -> Prop), Inv X pins σ H s -> (∀ b ∈ fp, qbV X pins H b) -> tn i s.heap -> J.stop i H ->
    wpAny (model P w) X.A (pyNext (.ref it)) (fun r s1 => r = none /\ Inv X pins σ H s1) E s
  self : ∀ (A : Around) (i : Nat) (s : Shared) (Q : Value -> Shared -> Prop) (E : Value -> Shared -> Prop), tn i s.heap -> Q (.ref it) s -> wpAny (model P w) A (pyIter (.ref it)) Q E s
section
variable {X : Cx} {tg : Expr}
end
end L2
namespace L2.Sk
open PySem PySem.Spec PyProof.Rows
section
variable {X : Cx} {tg iter elt : Expr} {ifs : List Expr} {scope : Scope} {pos : Pos} {wi : TI} {N' : List Str} {nt : Nat} {fr : List Nat}
end
section
variable {X : Cx} {c : Fc} {tg a b e : Expr} {pos : Pos}
end
theorem uo.units {k : Nat} {A : Around} (r : uo k A) : A.units + 64 < cLine := by have := r.un; omega
section
variable {X : Cx} {c : Fc} {e : Expr} {es : List Expr} {pos : Pos}
theorem qfU {k : Nat} {f : Addr} {fd : FuncData} {ps : List Str} {F : List D -> R D} {x : Str} {p : Pos} {g : M (List D)} (hal : ∀ ρ σ H, Rep X.K c ρ σ H -> AloneA X.A H)
    (G : qbB X.prog X.w X.K X.mg X.base CX0 k f fd ps (spD X.K F)) (hr : uo k X.A) (hg : Gl X x) (hm : X.mg x = some (.ref f)) (hk : PySem.W.keepIn X.K (.ref f) = true) (hb : ug X.K fd ps [])
    (ha : DA X c (e :: es) g) (hd : (x == ("__debug__" : Str)) = false := by decide) (he : starEach (e :: es) X.env = (false, eval e X.env) :: starEach es X.env := by rfl) (hpl : (backTo pos (starEach es X.env)).any (·.1) = false := by rfl) : DE X c (.Call (.Name x p) (e :: es) [] pos) (qj F g) := by
  obtain ⟨t, pa, w⟩ := ha
  refine ⟨_, qcE (E := fun _ _ _ => False) G hr hg hm hk hb .nil (fun _ _ _ _ _ _ _ z => z.elim) pa hd he hpl, fun ρ σ H Q r h => w ρ σ H _ r (WpL.bnd h fun ds ρ1 vs H1 r1 i1 g1 h1 => ⟨hal _ _ _ r1, ?_⟩)⟩
  rw [List.append_nil]
  refine ⟨ds, Cn c σ, i1, fun _ _ => trivial, ?_⟩
  cases ef : F ds with
  | bad => simp only [ef] at h1; exact h1.elim
  | exc z ρ' => simp only [ef] at h1; exact h1.elim
  | ok d =>
    simp only [ef] at h1
    exact fun v H' sm i => h1 v H' (r1.same sm) (Is.ext Ext.refl (fun a ha _ => ha.elim id r1.new) i) (.of_same sm)
end
end L2.Sk
namespace L2.Sk
open PySem PySem.Spec PyProof.Rows
section
variable {prog : Program} {w : World} {A : Around} {R : Result -> Shared -> Prop} {I : Addr} {fp wr : List Addr} {n : Nat} {P : Nat -> Value -> Prop} {St : Nat -> Heap -> Prop} {dv : Value}
end
section
variable {prog : Program} {w : World} {A : Around} {E : Value -> Shared -> Prop} {s : Shared}
end
section
variable {prog : Program} {w : World} {A : Around} {R : Result -> Shared -> Prop} {I : Addr} {fp wr : List Addr} {n : Nat} {P : Nat -> Value -> Prop} {St : Nat -> Heap -> Prop} {dv : Value}
end
section
variable {prog : Program} {w : World} {A : Around} {E : Value -> Shared -> Prop} {s : Shared}
end
section
variable {prog : Program} {w : World} {A : Around} {E : Value -> Shared -> Prop} {s : Shared}
end
end L2.Sk
namespace L2.Sk
open PySem PySem.Spec PyProof.Rows
section
variable {X : Cx}
end
section
variable {X : Cx} {c : Fc} {a b e : Expr} {pos : Pos}
def qgX (F : List D -> List D -> Option D) (f g : M (List D)) : M D := bnd f fun xs => bnd g fun zs => lift (F xs zs)
end
def qlV (xs zs : List D) : Option D := match xs, zs with
  | [.lst ds], [z] => (vT ds).map fun ns => if ns = [] then z else .int (qby ns)
  | _, _ => none
def slB (x : D) (lo hi : Option Int) : Option D := match x with
  | .tup ds => some (.tup (qkL ds lo hi))
  | .lst ds => some (.lst (qkL ds lo hi))
  | _ => none
def qll (f : M D) (g k : M (Option Int)) : M D := bnd f fun d => bnd g fun l => bnd k fun u => lift (slB d l u)
section
variable {X : Cx} {c : Fc} {a b e : Expr} {pos p2 : Pos}
def qkT (x y : D) : Option (List D) := match x, y with
  | .lst ds, .int k => if (decide (-(2 ^ 62) <= k) && decide (k < 2 ^ 62)) && (qG (ds.length * k.toNat) && immL ds) then some (List.replicate k.toNat ds).flatten else none
  | _, _ => none
def qlm (f g : M D) : M (List D) := bnd f fun x => bnd g fun y => lift (qkT x y)
def qlW (f : M D) : M (List D) := bnd f fun x => lift (match x with
  | .lst ds => if immL ds then some ds else none
  | .tup ds => if immL ds then some ds else none
  | _ => none)
def qeJ (i : Nat) (f : M D) : M D := fun ρ => match zu i ρ with
  | none => .bad
  | some _ => (bnd f fun d ρ => match d, zu i ρ with
    | .lst es, some ds => if immL es && qG (ds.length + es.length) then .ok (.non, ρ.set i (some (.lst (ds ++ es)))) else .bad
    | _, _ => .bad) ρ
def qln (f : M (List D)) : M (List D) := fun ρ => match f ρ with
  | .ok ([.tup _], _) => qev f ρ
  | _ => qjO f ρ
end
end L2.Sk
namespace L2.Sk
open PySem PySem.Spec PyProof.Rows
section
variable {ρ : Env} {f g : M D} {l k : M (List D)}
theorem qkd (F : List D -> List D -> Option D) : qgX F l k ρ = match l ρ with | .ok (xs, ρ1) => (match k ρ1 with | .ok (zs, ρ2) => (match F xs zs with | some d => .ok (d, ρ2) | none => .bad) | .exc x ρ' => .exc x ρ' | .bad => .bad) | .exc x ρ' => .exc x ρ' | .bad => .bad := by
  simp only [qgX, bnd]
  cases l ρ with
  | ok z =>
    obtain ⟨z1, ρ1⟩ := z
    dsimp only
    cases k ρ1 with
    | ok z => obtain ⟨z2, ρ2⟩ := z; (dsimp only; cases F z1 z2 <;> rfl)
    | exc x ρ' => rfl
    | bad => rfl
  | exc x ρ' => rfl
  | bad => rfl
theorem qlo : qlm f g ρ = match f ρ with | .ok (x, ρ1) => (match g ρ1 with | .ok (y, ρ2) => (match qkT x y with | some ds => .ok (ds, ρ2) | none => .bad) | .exc x ρ' => .exc x ρ' | .bad => .bad) | .exc x ρ' => .exc x ρ' | .bad => .bad := by
  simp only [qlm, bnd]
  cases f ρ with
  | ok z =>
    obtain ⟨z1, ρ1⟩ := z
    dsimp only
    cases g ρ1 with
    | ok z => obtain ⟨z2, ρ2⟩ := z; (dsimp only; cases qkT z1 z2 <;> rfl)
    | exc x ρ' => rfl
    | bad => rfl
  | exc x ρ' => rfl
  | bad => rfl
theorem qjP (i : Nat) : qeJ i f ρ = match zu i ρ with
    | none => .bad
    | some _ => (match f ρ with | .ok (d, ρ1) => (match d, zu i ρ1 with | .lst es, some ds => (if immL es && qG (ds.length + es.length) then .ok (.non, ρ1.set i (some (.lst (ds ++ es)))) else .bad) | _, _ => .bad) | .exc x ρ' => .exc x ρ' | .bad => .bad) := by
  unfold qeJ
  cases zu i ρ with
  | none => rfl
  | some z =>
    simp only [bnd]
    cases f ρ with
    | ok z => obtain ⟨z1, ρ1⟩ := z; rfl
    | exc x ρ' => rfl
    | bad => rfl
theorem qlp (p q : M (Option Int)) : qll f p q ρ = match f ρ with | .ok (d, ρ1) => (match p ρ1 with | .ok (l, ρ2) => (match q ρ2 with | .ok (u, ρ3) => (match slB d l u with | some r => .ok (r, ρ3) | none => .bad) | .exc x ρ' => .exc x ρ' | .bad => .bad) | .exc x ρ' => .exc x ρ' | .bad => .bad) | .exc x ρ' => .exc x ρ' | .bad => .bad := by
  simp only [qll, bnd]
  cases f ρ with
  | ok z =>
    obtain ⟨z1, ρ1⟩ := z
    dsimp only
    cases p ρ1 with
    | ok z =>
      obtain ⟨z2, ρ2⟩ := z
      dsimp only
      cases q ρ2 with
      | ok z => obtain ⟨z3, ρ3⟩ := z; (dsimp only; cases slB z1 z2 z3 <;> rfl)
      | exc x ρ' => rfl
      | bad => rfl
    | exc x ρ' => rfl
    | bad => rfl
  | exc x ρ' => rfl
  | bad => rfl
end
end L2.Sk
namespace L2.Sk
open PySem PySem.Spec PyProof.Rows
section
variable {X : Cx} {c : Fc} {e : Expr} {es : List Expr} {pos : Pos}
theorem dC {k j : Nat} {ps : List Str} {F : List D -> R D} {x : Str} {p : Pos} {g : M (List D)} (C : zP X.prog X.w X.K X.mg X.base k x ps (spD X.K F)) (hr : y9 j X.A) (ha : DA X c (e :: es) g)
    (hk : k <= j := by decide) (hg : Gl X x := by rfl) (hd : (x == ("__debug__" : Str)) = false := by decide) (he : starEach (e :: es) X.env = (false, eval e X.env) :: starEach es X.env := by rfl) (hpl : (backTo pos (starEach es X.env)).any (·.1) = false := by rfl) : DE X c (.Call (.Name x p) (e :: es) [] pos) (qj F g) := by
  obtain ⟨f, fd, G, m, kk, b⟩ := C.ex
  exact qhG G (hr.mono hk) hg m kk b ha hd he hpl
theorem nC {k j : Nat} {ps : List Str} {F : List D -> R D} {x : Str} {p : Pos} {g : M (List D)} (C : zP X.prog X.w X.K X.mg X.base k x ps (spD X.K F)) (hr : y9 j X.A) (ha : DA X c (e :: es) g)
    (hk : k <= j := by decide) (hg : Gl X x := by rfl) (hd : (x == ("__debug__" : Str)) = false := by decide) (he : starEach (e :: es) X.env = (false, eval e X.env) :: starEach es X.env := by rfl) (hpl : (backTo pos (starEach es X.env)).any (·.1) = false := by rfl) : DN X c (.Call (.Name x p) (e :: es) [] pos) (va F g) := by
  obtain ⟨f, fd, G, m, kk, b⟩ := C.ex
  exact qhR G (hr.mono hk) hg m kk b ha hd he hpl
theorem iC {k j i : Nat} {ps : List Str} {F : List D -> List D -> R (D × List D)} {x y : Str} {p p1 : Pos} {g : M (List D)} (C : zP X.prog X.w X.K X.mg X.base k x ps (qfb X.K F)) (hr : y9 j X.A) (ha : DA X c es g)
    (hk : k <= j := by decide) (hg : Gl X x := by rfl) (ho : i ∈ c.O := by exact of_decide_eq_true rfl) (hN : X.N[i]? = some y := by rfl) (hv : Vis X.env.scope y := by first | exact Or.inl rfl | exact Or.inr (Or.inl rfl) | exact Or.inr (Or.inr rfl)) (hdy : (y == ("__debug__" : Str)) = false := by decide) (hcd : (y == ("__classdict__" : Str)) = false := by decide)
    (hd : (x == ("__debug__" : Str)) = false := by decide) (he : starEach (.Name y p1 :: es) X.env = (false, eval (.Name y p1) X.env) :: starEach es X.env := by rfl) (hpl : (backTo pos (starEach es X.env)).any (·.1) = false := by rfl) : DE X c (.Call (.Name x p) (.Name y p1 :: es) [] pos) (qq F i g) := by
  obtain ⟨f, fd, G, m, kk, b⟩ := C.ex
  exact qed G (hr.mono hk) hg m kk b ha ho hN hv hdy hcd hd he hpl
theorem xC {k j : Nat} {ps : List Str} {F : List D -> R D} {x : Str} {p : Pos} {g : M (List D)} {E : XK} {cl : Str -> Option Addr} {RN : List Str} (L : XL2 X c cl E) (hcl : ∀ n, RN.contains n = true -> (cl n).isSome = true) (C : yS X.prog X.w X.K X.mg X.base k x ps (spX X.K cl F)) (hr : y9 j X.A) (ha : DA X c (e :: es) g)
    (hk : k <= j := by decide) (hg : Gl X x := by rfl) (hd : (x == ("__debug__" : Str)) = false := by decide) (he : starEach (e :: es) X.env = (false, eval e X.env) :: starEach es X.env := by rfl) (hpl : (backTo pos (starEach es X.env)).any (·.1) = false := by rfl) : DE X c (.Call (.Name x p) (e :: es) [] pos) (yL RN F g) := by
  obtain ⟨f, fd, G, m, kk, b⟩ := C.ex
  exact qfM L hcl G (hr.mono hk) hg m kk b ha hd he hpl
theorem pC {k j : Nat} {ps : List Str} {F : List D -> R D} {x : Str} {p : Pos} {g : M (List D)} {cl : Str -> Option Addr} (C : yS X.prog X.w X.K X.mg X.base k x ps (spX X.K cl F)) (hr : y9 j X.A) (ha : DA X c (e :: es) g)
    (hk : k <= j := by decide) (hg : Gl X x := by rfl) (hd : (x == ("__debug__" : Str)) = false := by decide) (he : starEach (e :: es) X.env = (false, eval e X.env) :: starEach es X.env := by rfl) (hpl : (backTo pos (starEach es X.env)).any (·.1) = false := by rfl) : DE X c (.Call (.Name x p) (e :: es) [] pos) (qcD F g) := by
  obtain ⟨f, fd, G, m, kk, b⟩ := C.ex
  exact qfN G (hr.mono hk) hg m kk b ha hd he hpl
theorem lC {k j : Nat} {ps : List Str} {F : List D -> R D} {x : Str} {p : Pos} {g : M (List D)} (hal : ∀ ρ σ H, Rep X.K c ρ σ H -> AloneA X.A H) (C : qeF X.prog X.w X.K X.mg X.base k x ps (spD X.K F)) (hr : uo j X.A) (ha : DA X c (e :: es) g)
    (hk : k <= j := by decide) (hg : Gl X x := by rfl) (hd : (x == ("__debug__" : Str)) = false := by decide) (he : starEach (e :: es) X.env = (false, eval e X.env) :: starEach es X.env := by rfl) (hpl : (backTo pos (starEach es X.env)).any (·.1) = false := by rfl) : DE X c (.Call (.Name x p) (e :: es) [] pos) (qj F g) := by
  obtain ⟨f, fd, G, m, kk, b⟩ := C.ex
  exact qfU hal G (hr.mono hk) hg m kk b ha hd he hpl
theorem gI {x : Str} {i : Int} (h : ∃ t, X.mg x = some (.int i t)) (hg : Gl X x := by rfl) (hd : (x == ("__debug__" : Str)) = false := by decide) : DE X c (.Name x pos) (ret (.int i)) := by
  obtain ⟨t, h⟩ := h
  exact qdX (v := .int i) (d := .int i) hg h ⟨_, rfl⟩ (fun _ _ => rfl) hd
theorem gT {x : Str} {ns : List Int} (h : ∃ a, X.mg x = some (.ref a) /\ qkc X.K a ns) (hg : Gl X x := by rfl) (hd : (x == ("__debug__" : Str)) = false := by decide) : DE X c (.Name x pos) (ret (.tup (ns.map .int))) := by
  obtain ⟨a, h1, h2⟩ := h
  exact qfJ hg h1 h2 hd
end
theorem nd (N : List Str) (h : N.Nodup := by decide +kernel) : N.Nodup := h
theorem cs {X : Cx} (N N' : List Str) (nt : Nat) (fr : List Nat) (outer : Scope) {scope : Scope} (h0 : scope.kind = .function := by rfl) (h1 : ∀ y ∈ scope.names, y.2 ≠ .cell := by decide +kernel) (h2 : ∀ y ∈ scope.names, y.2 = .local -> scope.names.lookup y.1 = some .local := by decide +kernel)
    (h3 : ∀ y ∈ scope.names, y.2 = .free -> outer.names.lookup y.1 = some .cell := by decide +kernel) (h4 : N'.length = nt + fr.length := by rfl) (h5 : ∀ p ∈ fr.zipIdx, N'[nt + p.2]? = N[p.1]? /\ ((N[p.1]?).bind fun x => scope.names.lookup x) = some .free := by decide +kernel)
    (h6 : X.env.scope = outer := by rfl) (h7 : X.N = N := by rfl) : jM X scope N' nt fr := qhS.ok (outer := outer) (N := N) ⟨h0, h1, h2, h3, h4, h5⟩ h6 h7
theorem f0 {c : Fc} {nt : Nat} (fr O : List Nat) (e : c.O = O := by rfl) (h : ∀ j ∈ fr, j ∉ O := by decide) : qhA c nt fr none := fun j hj => by rw [e]; exact h j hj
theorem f1 {c : Fc} (nt : Nat) (fr O : List Nat) (i j : Nat) (e : c.O = O := by rfl) (h1 : j ∈ O := by decide) (h2 : nt <= i := by decide) (h3 : fr[i - nt]? = some j := by rfl) (h4 : ∀ p ∈ fr.zipIdx, nt + p.2 ≠ i -> p.1 ∉ O := by decide) : qhA c nt fr (some (i, j)) :=
  qhU (by rw [e]; exact h1) h2 h3 (by rw [e]; exact h4)
end L2.Sk
namespace L2.Sk
open PySem PySem.Spec PyProof.Rows
section
variable {X : Cx} {c : Fc}
end
end L2.Sk
namespace L2.Sk
open PySem PySem.Spec PyProof.Rows
end L2.Sk
namespace L2.Sk
open PySem PySem.Spec PyProof.Rows
def qfV : V -> List V -> Hp -> VK -> Prop := fun x vs H Q => ∃ l xs y, x = .ref l /\ vs = [.int 0, y] /\ H l = some (.lst xs) /\ xs.length < sizeLine /\ Q .non (upd H l (.lst (y :: xs)))
theorem qdq {X : Cx} : MtM X "list.insert" qfV := by
  intro pins s σ H x vs v us Q I rx rv h
  obtain ⟨l, xs, y, rfl, rfl, hH, hz, q⟩ := h
  cases rx
  obtain ⟨u0, u, rfl, r0, ru⟩ := rv.two
  obtain ⟨tk, rfl⟩ := r0
  obtain ⟨z, its, n, r, hl, e⟩ := I.lstM hH
  refine call_meets PySem.F.slot_list_insert ⟨_, e, rfl⟩ PySem.F.entry_list_insert (PySem.F.args_list_insert_3 _ _ _) (PySem.AutoSeq1.list_insert_list_int_val_1 l its.toArray n 0 _ u (by decide) (by rw [List.size_toArray]; omega)) ⟨e, ?_⟩
  refine ⟨.non, _, I.lset (its' := u :: its) (ys := y :: xs) hH e ?_ (.cons ru r) ?_, rfl, q⟩
  . simp
  . rw [List.length_cons]
    omega
section
variable {X : Cx} {c : Fc} {a b e : Expr} {pos : Pos}
def uq (i : Nat) (f : M D) : M D := fun ρ => match zu i ρ with
  | none => .bad
  | some _ => (bnd f fun d ρ => match zu i ρ with
    | some ds => if qG (ds.length + 1) then .ok (.non, ρ.set i (some (.lst (d :: ds)))) else .bad
    | none => .bad) ρ
theorem qeK {i : Nat} {x : Str} {p1 apos cp : Pos} {cj : Nat} {f : M D} (he : DE X c e f) (ho : i ∈ c.O := by exact of_decide_eq_true rfl) (hN : X.N[i]? = some x := by rfl) (hv : Vis X.env.scope x := by first | exact Or.inl rfl | exact Or.inr (Or.inl rfl) | exact Or.inr (Or.inr rfl)) (hd : (x == ("__debug__" : Str)) = false := by decide) (hcd : (x == ("__classdict__" : Str)) = false := by decide)
    (hbase : attributeBase (.Name x p1) "insert" X.env (eval (.Name x p1) X.env) = eval (.Name x p1) X.env := by rfl)
    (hfew : ((backTo pos (starEach [.Constant (.int 0) cj cp, e] X.env)).all (fun x => !x.1) && (backToKw pos (keywordEach [] X.env)).all (fun x => x.1.isSome)
      && decide ([Expr.Constant (.int 0) cj cp, e].length + ([] : List Keyword).length + (if ([] : List Keyword).isEmpty then 0 else 1) < 30)) = true := by rfl)
    (hline : (apos.endLine == pos.line) = true := by rfl) (hs : starEach [.Constant (.int 0) cj cp, e] X.env = (false, eval (.Constant (.int 0) cj cp) X.env) :: starEach [e] X.env := by rfl) (hs2 : starEach [e] X.env = (false, eval e X.env) :: starEach [] X.env := by rfl) (hplain : (backTo pos (starEach [e] X.env)).any (·.1) = false := by rfl) :
    DE X c (.Call (.Attribute (.Name x p1) "insert" apos) [.Constant (.int 0) cj cp, e] [] pos) (uq i f) := by
  obtain ⟨t, p, w⟩ := he
  refine ⟨_, qhl PySem.F.plainAttrs_list PySem.F.slot_list_insert PySem.F.type_list_insert qdq (uf hN hv hd hcd) (jk qgg (jk p uX hs2) hs) hbase hfew hline hs hplain, fun ρ σ H Q r h => ?_⟩
  unfold uq at h
  cases e0 : zu i ρ with
  | none => rw [e0] at h; exact h.elim
  | some ds0 =>
    simp only [e0] at h
    obtain ⟨l, xs0, _, hl, hH, _⟩ := r.getLO ho e0
    refine ⟨.ref l, hl, .inl ⟨rfl, xs0, .inl (.inl hH)⟩, w ρ σ H _ r (Wp.bnd h fun d ρ1 v H1 r1 i1 g1 h1 => ?_)⟩
    cases e1 : zu i ρ1 with
    | none => simp only [e1] at h1; exact h1.elim
    | some ds =>
      simp only [e1] at h1
      by_cases hb : qG (ds.length + 1) = true
      . rw [if_pos hb] at h1
        obtain ⟨l', xs, him, hl', hH', il⟩ := r1.getLO ho e1
        rw [hl] at hl'
        cases hl'
        have hsz : ds.length + 1 <= sizeLine := of_decide_eq_true hb
        have ext : Ext (Cn c σ) H1 (upd H1 l (.lst (v :: xs))) := ⟨fun b us hb => zA (uV hb hH' (by intro z; cases z)) hb, fun b o u hb => zA (uV hb hH' (by intro z; cases z)) hb, fun b o hb hq => zA (fun e => hb.2 i ho (by rw [hl, e])) hq⟩
        obtain ⟨r2, g2⟩ := r1.io (H' := upd H1 l (.lst (v :: xs))) (bs := d :: ds) ho hl (fun b o hb ho => zA hb ho) qv trivial
          ⟨v, xs, rfl, Is.ext ext (fun _ h _ => h) i1, IsL.ext ext (fun _ h _ => h) il⟩ (fun b hb => qb3 hb)
        exact ⟨l, xs, v, rfl, rfl, hH', by rw [il.length]; omega, h1 _ _ r2 rfl g2⟩
      . rw [if_neg hb] at h1; exact h1.elim
def qfW (f : M (List D)) : M (List D) := bnd f fun ds => lift (if qG ds.length then some ds else none)
theorem qid {es : List Expr} {f : M (List D)} (h : DA X c es f) : DN X c (.List es pos) (qfW f) := by
  obtain ⟨t, p, w⟩ := h
  refine ⟨_, qdP p, fun ρ σ H Q r h => w ρ σ H _ r (WpL.bndN h fun ds ρ1 vs H1 r1 i1 g1 h1 => ?_)⟩
  by_cases hb : qG ds.length = true
  . rw [if_pos hb] at h1
    refine ⟨by rw [i1.length]; exact of_decide_eq_true hb, fun p hp => ?_⟩
    exact h1 p vs _ hp (r1.laid hp _) (r1.apart hp) qv trivial (IsL.ext (Ext.of_same (qy hp _)) (fun b h hs => ⟨h, fun e => by rw [e, hp] at hs; cases hs⟩) i1) (.of_same (qy hp _))
  . rw [if_neg hb] at h1; exact h1.elim
end
end L2.Sk
namespace L2.Sk
open PySem PySem.Spec PyProof.Rows
theorem qaQ : Slot "reversed" "__init__" "object.__init__" :=
  .of (owner := "object") (n := "__init__") (by rw [typeLookup_type, builtinLookup_eq_fast]; kernel_rfl) (by decide +kernel) (by decide +kernel) (by decide +kernel) (by first | exact Or.inl (by kernel_rfl) | exact Or.inr (by kernel_rfl)) (by rw [isSubtype_type]; kernel_rfl)
theorem qdr : TypeCalled "reversed" "reversed.__new__" "object.__init__" := ⟨by decide +kernel, F.create_reversed, ⟨_, _, F.mro_reversed⟩, F.made_reversed, F.plain_reversed_new, F.sub_reversed_self, qaQ⟩
theorem jp : Slot "reversed" "__next__" "reversed.__next__" :=
  .of (owner := "reversed") (n := "__next__") (by rw [typeLookup_type, builtinLookup_eq_fast]; kernel_rfl) (by decide +kernel) (by decide +kernel) (by decide +kernel) (by first | exact Or.inl (by kernel_rfl) | exact Or.inr (by kernel_rfl)) (by rw [isSubtype_type]; kernel_rfl)
theorem uL : entryFor table "reversed.__next__" = some Builtin.«reversed.__next__» := entryFor_of_tree (by kernel_rfl)
theorem qgY : typeLookup (.type "tuple") (Str.ofString "__reversed__") = pure none := by rw [typeLookup_type, builtinLookup_eq_fast]; kernel_rfl
theorem qaR : typeLookup (.type "tuple") (Str.ofString "__getitem__") = pure (some (.builtin "tuple.__getitem__")) := by rw [typeLookup_type, builtinLookup_eq_fast]; kernel_rfl
theorem qcO : isSubtype (.type "tuple") (.type "dict") = pure false := by rw [isSubtype_type]; kernel_rfl
theorem qeL {l : Addr} {xs : Array Value} (hz : xs.size <= sizeLine) : Meets (Builtin.«reversed.__new__» ⟨[.type "reversed", .ref l], []⟩) (fun _ R s => s.heap.IsTuple l xs /\
      R (.ok (.ret (.ref s.heap.objs.size))) { s with heap := s.heap.push { cls := .type "reversed", data := .fields #[.ref l, rawInt ((xs.size : Int) - 1)] }, toks := s.toks + 1 + 1 }) :=
  .of_wp fun prog w A R s h => by
    obtain ⟨hp, g, d, tk, os⟩ := s
    obtain ⟨ha, h⟩ := h
    have hsub := F.sub_reversed_self
    have f1 := qgY
    have f2 := qaR
    have f3 := qcO
    have hA : Heap.IsTuple (Shared.heap ⟨hp, g, d, tk, os⟩) l xs := ha
    obtain ⟨o, e1, hc, m, hd⟩ := ha
    unfold Builtin.«reversed.__new__»
    refine wpAny_bind ?_
    wp_walk
    rw [hc]
    refine wpAny_of_eq (a := none) qgY ?_
    dsimp only
    refine wpAny_bind ?_
    show wpAny (model prog w) A.in1 (isInstance (Value.ref l) (Value.type "dict") >>= _) _ _ _
    refine wpAny_bind (wpAny_isInstance (T := "tuple") (b := false) ⟨o, e1, hc⟩ qcO ?_)
    show wpAny (model prog w) A.in1 (specialOf (Value.ref l) (Str.ofString "__getitem__") >>= _) _ _ _
    refine wpAny_bind ?_
    wp_walk
    rw [hc]
    refine wpAny_of_eq (a := some (.builtin "tuple.__getitem__")) qaR ?_
    dsimp only
    rw [if_pos (by decide +kernel)]
    refine wpAny_pure ?_
    rw [if_neg (by decide)]
    have hfit : (xs.size : Int) < 2 ^ 63 := by have := v7; omega
    refine wpAny_bind (len_tuple hA hfit ?_)
    wp_walk
    exact ⟨_, rfl, h⟩
def qlX (l : Addr) (i : Int) : Obj := { cls := .type "reversed", data := .fields #[.ref l, rawInt i] }
def w6 (h : Heap) (z l : Addr) (i : Int) : Prop := h.get? z = some (qlX l i)
section
variable {prog : Program} {w : World} {A : Around} {E : Value -> Shared -> Prop} {s : Shared}
theorem qfX {l : Addr} {xs : Array Value} {Q : Value -> Shared -> Prop} (t1 : s.heap.IsTuple l xs) (hz : xs.size <= sizeLine)
    (fin : ∀ h', w6 h' s.heap.objs.size l ((xs.size : Int) - 1) -> (∀ c o, s.heap.get? c = some o -> h'.get? c = some o) -> Q (.ref s.heap.objs.size) { s with heap := h', toks := s.toks + 1 + 1 }) :
    wpAny (model prog w) A (call (.type "reversed") [.ref l]) Q E s := by
  refine callType_new qdr (by decide) (F.typeCall_reversed_1 _) (F.newCall_reversed_1 _) (fun obj => F.args_object_init_2 obj _) F.entry_reversed_new (qeL hz) ⟨t1, ?_⟩
  exact ⟨⟨_, Heap.get?_push_size _ rfl, rfl⟩, fin _ (Heap.get?_push_size _ rfl) fun c o x => Heap.get?_push_of_some _ x⟩
theorem ve (a : Value) : argsOk "reversed.__next__" ⟨[a], []⟩ := by
  unfold argsOk; kernel_rfl
theorem qjQ {z l : Addr} {xs : Array Value} {i : Nat} {x : Value} {Q : Value -> Shared -> Prop} (zz : w6 s.heap z l (i : Int)) (t1 : s.heap.IsTuple l xs) (hx : xs[i]? = some x) (hz : xs.size <= sizeLine)
    (fin : ∀ h' tk, w6 h' z l ((i : Int) - 1) -> Heap.SameBut z s.heap h' -> Q x { s with heap := h', toks := tk }) :
    wpAny (model prog w) A (Builtin.«reversed.__next__» ⟨[.ref z], []⟩) (fun r s' => ∃ v, r = .done (.ret v) /\ Q v s') E s := by
  have hT : s.TypeIs (.ref l) "tuple" := by obtain ⟨o, e, hc, _⟩ := t1; exact ⟨o, e, hc⟩
  unfold Builtin.«reversed.__next__»
  refine wpAny_bind (wpAny_of_eq (a := (Value.ref z, [])) rfl ?_)
  dsimp only
  refine wpAny_bind (wpAny_field zz rfl (x := Value.ref l) rfl ?_)
  refine wpAny_bind (wpAny_field zz rfl (x := rawInt (i : Int)) rfl ?_)
  show wpAny (model prog w) A (if ((i : Nat) : Int) < 0 then _ else _) _ _ s
  rw [if_neg (by omega)]
  refine wpAny_bind (wpAny_specialOf hT qaR ?_)
  show wpAny (model prog w) A (if (false : Bool) = true then _ else _) _ _ s
  rw [if_neg (by decide)]
  refine wpAny_bind (wpAny_mkInt ?_)
  have hi : i < xs.size := (Array.getElem?_eq_some_iff.mp hx).1
  have hl63 := v7
  have hsq : seqIndex? (i : Int) xs.size = some i := by
    unfold seqIndex?
    simp only []
    first
      | (rw [if_neg (by omega)]; simp; omega)
      | (simp; omega)
      | (split <;> simp_all <;> omega)
  refine wpAny_bind (wpAny_attempt (PyProof.Rows.getItem_tuple (j := i) t1 (by omega) (by omega) hsq hx ?_))
  dsimp only
  refine wpAny_bind (wpAny_field zz rfl (x := rawInt (i : Int)) rfl ?_)
  refine wpAny_bind (wpAny_setField_rec zz (by simp) fun h' zz' b' => ?_)
  exact wpAny_pure ⟨x, rfl, fin h' _ zz' b'⟩
theorem qfY (hh : A.handled = none) {z l : Addr} {Q : Fin -> Shared -> Prop} (zz : w6 s.heap z l (-1))
    (fin : ∀ h' e, Heap.ExtBut z s.heap h' -> (∃ o, h'.get? e = some o /\ o.cls = .type "StopIteration") -> E (.ref e) { s with heap := h' }) :
    wpAny (model prog w) A (Builtin.«reversed.__next__» ⟨[.ref z], []⟩) Q E s := by
  unfold Builtin.«reversed.__next__»
  refine wpAny_bind (wpAny_of_eq (a := (Value.ref z, [])) rfl ?_)
  dsimp only
  refine wpAny_bind (wpAny_field zz rfl (x := Value.ref l) rfl ?_)
  refine wpAny_bind (wpAny_field zz rfl (x := rawInt (-1)) rfl ?_)
  show wpAny (model prog w) A (if (-1 : Int) < 0 then _ else _) _ _ s
  rw [if_pos (by decide)]
  refine wpAny_bind (wpAny_rule (wpAny_bind ?_))
  show wpAny (model prog w) A (setField (Value.ref z) 1 (rawInt (-1)) >>= fun _ => setField (Value.ref z) 0 Value.none) _ _ _
  refine wpAny_bind (wpAny_setField_rec zz (by simp) fun h1 zz1 b1 => wpAny_setField_rec zz1 (by simp) fun h2 zz2 b2 => ?_)
  refine wpAny_bind ?_
  show wpAny (model prog w) _ (newExc (Value.type "StopIteration") [] >>= _) _ _ _
  refine wpAny_bind ?_
  simp only [newExc, newTuple]
  refine wpAny_bind (wpAny_newObj_type ?_ (by size_fits))
  refine wpAny_bind (m := firstArgMember _ _) (wpAny_of_eq (a := Value.none) (by first | rfl | (simp only [firstArgMember]; rfl)) ?_)
  refine wpAny_newObj_type ?_ (by size_fits)
  simp only [raiseNew]
  refine wpAny_bind (wpAny_handled ?_)
  rw [hh]
  exact wpAny_bind (wpAny_pure (wpAny_throw (fin _ _ (fun b o hb e => Heap.get?_push_of_some _ (Heap.get?_push_of_some _ (b2.extBut b o hb (b1.extBut b o hb e)))) ⟨_, Heap.get?_push_size _ rfl, rfl⟩)))
end
theorem vf : Slot "reversed" "__iter__" "reversed.__iter__" :=
  .of (owner := "reversed") (n := "__iter__") (by rw [typeLookup_type, builtinLookup_eq_fast]; kernel_rfl) (by decide +kernel) (by decide +kernel) (by decide +kernel) (by first | exact Or.inl (by kernel_rfl) | exact Or.inr (by kernel_rfl)) (by rw [isSubtype_type]; kernel_rfl)
theorem qaS (a : Value) : argsOk "reversed.__iter__" ⟨[a], []⟩ := by
  unfold argsOk; kernel_rfl
theorem w8 : entryFor table "reversed.__iter__" = some Builtin.«dict_keyiterator.__iter__» := by
  refine entryFor_alias (id' := "dict_keyiterator.__iter__") ?_ ?_ ?_ ?_
  . kernel_rfl
  . first | rfl | decide +kernel
  . decide +kernel
  . kernel_rfl
theorem qcP {prog : Program} {w : World} {A : Around} {E : Value -> Shared -> Prop} {s : Shared} {z l : Addr} {i : Int} {Q : Value -> Shared -> Prop} (zz : w6 s.heap z l i) (h : Q (.ref z) s) : wpAny (model prog w) A (pyIter (.ref z)) Q E s := by
  have hT : s.TypeIs (.ref z) "reversed" := ⟨_, zz, rfl⟩
  refine wpAny_pyIter_slot hT vf (wpAny_call_entry vf hT w8 ?_ (qaS _))
  show wpAny _ _ (PySem.ret (Value.ref z)) _ _ s
  exact wpAny_pure ⟨_, rfl, "reversed", _, hT, jp.lookup, h⟩
def Itv (K : Fr0) (a : Addr) (xs : List V) : It :=
  ⟨fun i H => i < xs.length /\ SqT K H a xs, fun i H x H' => H' = H /\ xs.reverse[i]? = some x, fun i H => i = xs.length /\ SqT K H a xs⟩
theorem qfZ {P : Program} {w : World} {K : Fr0} {tg : Expr} {z a : Addr} {xs : List V} (hne : a ≠ z) : qiv P w K tg (Itv K a xs) [z] z (fun i h => w6 h z a ((xs.length : Int) - 1 - (i : Nat))) where
  mem := by simp
  obj := fun i h st b hb => by
    have e : b = z := by simpa using hb
    subst e
    exact ⟨_, st, fun v e => by cases (show Data.fields _ = Data.cell v from e)⟩
  keep := fun i h h' st k => k z (by simp) _ st
  item := by
    intro X hP hw hK hc i pins s σ H E I hf st hg
    subst hP hw hK
    obtain ⟨hlt, hx⟩ := hg
    obtain ⟨f0, f1, f2, f3, f4, f5⟩ := hf z (by simp)
    obtain ⟨its, r1, p1, z1⟩ := I.tuple hx
    have hlen := r1.length
    have ei : ((xs.length : Int) - 1 - (i : Nat)) = ((xs.length - 1 - i : Nat) : Int) := by omega
    have st' : w6 s.heap z a ((xs.length - 1 - i : Nat) : Int) := by rw [<- ei]; exact st
    obtain ⟨xv, hxv⟩ : ∃ v, xs[xs.length - 1 - i]? = some v := ⟨xs[xs.length - 1 - i]'(by omega), List.getElem?_eq_getElem (by omega)⟩
    obtain ⟨x', ex, rx⟩ := r1.get hxv
    have hT : s.TypeIs (.ref z) "reversed" := ⟨_, st, rfl⟩
    unfold pyNext
    refine wpAny_bind (wpAny_attempt (wpAny_callSpecial?_slot (name := Str.ofString "__next__") hT jp (wpAny_call_entry jp hT uL
      (qjQ st' p1 (x := x') (by rw [List.getElem?_toArray]; exact ex) (by rw [List.size_toArray, <- hlen]; exact z1) fun h' tk zz' sb => wpAny_pure ?_) (ve _))))
    have I1 : Inv X pins σ H { s with heap := h', toks := tk } := I.turned (fun b o hb e => sb.extBut b o hb e) f0 f1 f3 f4 f5
    have st2 : w6 h' z a ((xs.length : Int) - 1 - ((i + 1 : Nat) : Int)) := by
      have e2 : ((xs.length - 1 - i : Nat) : Int) - 1 = (xs.length : Int) - 1 - ((i + 1 : Nat) : Int) := by omega
      rw [<- e2]; exact zz'
    refine ⟨x', rfl, qfj (s := { s with heap := h', toks := tk }) (n := "reversed") st2 rfl rfl (by decide) ⟨xv, H, I1, rx, ⟨rfl, ?_⟩, st2, fun b hb => (hf b hb).1⟩⟩
    rw [List.getElem?_reverse hlt]
    exact hxv
  done := by
    intro X hP hw hK hc i pins s σ H E I hf st hg
    subst hP hw hK
    obtain ⟨hlt, hx⟩ := hg
    obtain ⟨f0, f1, f2, f3, f4, f5⟩ := hf z (by simp)
    have ei : ((xs.length : Int) - 1 - (i : Nat)) = -1 := by omega
    have st' : w6 s.heap z a (-1) := by rw [<- ei]; exact st
    have hT : s.TypeIs (.ref z) "reversed" := ⟨_, st, rfl⟩
    have hh : X.A.in1.handled = none := I.ok.hd hc
    unfold pyNext
    refine wpAny_bind (wpAny_attempt (wpAny_callSpecial?_slot (name := Str.ofString "__next__") hT jp (wpAny_call_entry jp hT uL
      (qfY hh st' fun h' e kp he => ?_) (ve _))))
    obtain ⟨o, ho, hcl⟩ := he
    exact wpAny_bind (wpAny_isInstance (T := "StopIteration") (b := true) ⟨o, ho, hcl⟩ isSubtype_stop (wpAny_pure ⟨rfl, I.turned (t' := s.toks) (fun b o hb e => kp b o hb e) f0 f1 f3 f4 f5⟩))
  self := fun A i s Q E st h => qcP st h
section
variable {X : Cx} {c : Fc} {a e : Expr} {pos : Pos} {tg : Expr}
def qlY (K : Fr0) (ta : TA) : TI := fun σ H R => ta σ H fun vs H1 => ∃ b xs, vs = [.ref b] /\ SqT K H1 b xs /\ R (Itv K b xs) H1
theorem qjR {ta : TA} {p : Pos} (hg : Gl X "reversed") (hm : X.mg "reversed" = none) (ha : PA X [a] ta) (hs : starEach [a] X.env = [(false, eval a X.env)] := by rfl) :
    PI X tg (.Call (.Name "reversed" p) [a] [] pos) (qlY X.K ta) := by
  intro pins s σ H R I h
  refine Call_ (qad I hg hm PyProof.Rows.boot_reversed (PyProof.Rows.callWith_type1 (thn (ha pos pins s σ H _ I h) fun us s1 ⟨vs, H1, I1, r1, q1⟩ => ?_) hs rfl))
  obtain ⟨b, xs, e1, hx, q⟩ := q1
  subst e1
  obtain ⟨u1, rfl, ru1⟩ := qY.one r1
  cases (show u1 = Value.ref b from ru1)
  obtain ⟨its, v1, p1, z1⟩ := I1.tuple hx
  have hlen := v1.length
  refine qfX (show s1.heap.IsTuple b its.toArray from p1) (by rw [List.size_toArray, <- hlen]; exact z1) fun h' zz kp => ?_
  refine qcP zz ?_
  have lb : b < s1.heap.objs.size := by obtain ⟨o, e, _⟩ := p1; exact Heap.lt_size e
  have zz' : w6 h' s1.heap.objs.size b ((xs.length : Int) - 1 - ((0 : Nat) : Int)) := by
    have e : ((its.toArray.size : Nat) : Int) - 1 = (xs.length : Int) - 1 - ((0 : Nat) : Int) := by rw [List.size_toArray, hlen]; omega
    rw [<- e]; exact zz
  refine ⟨s1.heap.objs.size, [s1.heap.objs.size], _, _, H1, rfl, I1.kept (t' := s1.toks + 1 + 1) kp, qfZ (xs := xs) (Nat.ne_of_lt lb), zz', fun d hd => ?_, q⟩
  have e : d = s1.heap.objs.size := by simpa using hd
  subst e
  exact I1.fpOk (Nat.le_refl _) (I1.hok.fresh (Nat.le_refl _))
theorem qjS {K : Fr0} {A : Addr -> Prop} {H : Hp} {ds : List D} {xs : List V} {b : Addr} (t1 : vq K H b xs) (i1 : IsL K A H ds xs) : qfA K A H ds.reverse (Itv K b xs) where
  go := fun H' i d ex hd => by
    have hl : i < ds.reverse.length := (List.getElem?_eq_some_iff.mp hd).1
    rw [List.length_reverse, <- i1.length] at hl
    exact ⟨hl, (t1.elim (fun h => .inl (ex.tup _ _ h)) .inr : vq K H' b xs).sq⟩
  yl := fun H' i d x H'' ex hd y => by
    obtain ⟨rfl, hy⟩ := y
    have hl : i < ds.length := by
      have := (List.getElem?_eq_some_iff.mp hd).1
      rwa [List.length_reverse] at this
    rw [List.getElem?_reverse hl] at hd
    rw [List.getElem?_reverse (by rw [i1.length]; exact hl), i1.length] at hy
    obtain ⟨x', g1, g2⟩ := i1.get hd
    rw [hy] at g1
    cases g1
    exact ⟨fun _ _ h => h, Is.ext ex (fun _ h _ => h) g2⟩
  stop := fun H' ex => ⟨by rw [List.length_reverse, i1.length], (t1.elim (fun h => .inl (ex.tup _ _ h)) .inr : vq K H' b xs).sq⟩
def qke : List D -> Option (List D)
  | [.tup xs] => some xs.reverse
  | _ => none
def qjT (f : M (List D)) : M (List D) := bnd f fun ds => lift (qke ds)
theorem qjU {f : M (List D)} {p : Pos} (hg : Gl X "reversed") (hm : X.mg "reversed" = none) (ha : DA X c [a] f) (hs : starEach [a] X.env = [(false, eval a X.env)] := by rfl) :
    DI X c tg (.Call (.Name "reversed" p) [a] [] pos) (qjT f) := by
  obtain ⟨t, pa, w⟩ := ha
  refine ⟨_, qjR hg hm pa hs, fun ρ σ H Q r h => w ρ σ H _ r (WpL.bndI h fun ds ρ1 vs H1 r1 i1 g1 h1 => ?_)⟩
  obtain ⟨es', e, h2⟩ := vY h1
  unfold qke at e
  split at e
  . obtain ⟨v, rfl, j1⟩ := IsL.inv1 i1
    cases e
    obtain ⟨a1, xs, rfl, t1, il1⟩ := Is.tr j1
    exact ⟨a1, xs, rfl, t1.sq, h2 _ H1 r1 (qjS t1 il1) .refl⟩
  . cases e
theorem qjV {l : M (List D)} {ρ : Env} : qjT l ρ = match l ρ with | .ok (d, ρ1) => (match qke d with | some ds => .ok (ds, ρ1) | none => .bad) | .exc x ρ' => .exc x ρ' | .bad => .bad := by
  simp only [qjT, bnd]
  cases l ρ with
  | ok z => obtain ⟨z1, ρ1⟩ := z; (dsimp only; cases qke z1 <;> rfl)
  | exc x ρ' => rfl
  | bad => rfl
theorem qeM {f : M D} {ρ : Env} (i : Nat) : uq i f ρ = match zu i ρ with
    | none => .bad
    | some _ => (match f ρ with
      | .ok (d, ρ1) => (match zu i ρ1 with | some ds => (if qG (ds.length + 1) then .ok (.non, ρ1.set i (some (.lst (d :: ds)))) else .bad) | none => .bad)
      | .exc x ρ' => .exc x ρ' | .bad => .bad) := by
  unfold uq
  cases zu i ρ with
  | none => rfl
  | some z =>
    simp only [bnd]
    cases f ρ with
    | ok z => obtain ⟨z1, ρ1⟩ := z; rfl
    | exc x ρ' => rfl
    | bad => rfl
end
end L2.Sk
namespace L2.Sk
namespace Law
open PySem PySem.Spec PyProof.Rows
set_option maxHeartbeats 4000000
theorem qgZ (ds : List D) (r : Env) : zu 0 (some (.lst ds) :: r) = some ds := rfl
theorem qg0 (i : Nat) (o : Option D) (r : Env) : zu (i + 1) (o :: r) = zu i r := rfl
theorem ix0 (a b c : D) : ixD (.tup [a, b, c]) (.int 0) = some a := rfl
theorem ix1 (a b c : D) : ixD (.tup [a, b, c]) (.int 1) = some b := rfl
theorem ix2 (a b c : D) : ixD (.tup [a, b, c]) (.int 2) = some c := rfl
theorem qb9 (i j : Int) : neB (.int i) (.int j) = some (.bl (!decide (i = j))) := rfl
theorem qaT (i j : Int) : eqB (.int i) (.int j) = some (.bl (decide (i = j))) := rfl
theorem wN (ds : List D) : qb2 (tyD (.tup ds)) "tuple" = true := rfl
theorem uy (ds : List D) : qfa [.tup ds] = some (.int ds.length) := rfl
theorem qcQ (d : D) : isN d .non = some (.bl (ua d)) := rfl
theorem qca (d : D) : qfq d .non = some (.bl (!ua d)) := rfl
theorem qaU (i j : Int) : gtD (.int i) (.int j) = some (.bl (decide (j < i))) := rfl
theorem qaV (i j : Int) : ltD (.int i) (.int j) = some (.bl (decide (i < j))) := rfl
theorem qeN (i j : Int) : leD (.int i) (.int j) = some (.bl (decide (i <= j))) := rfl
local macro_rules | `(tactic| push_cast [$xs,*]) => `(tactic| simp only [jV, qfF, qlh, yh, qbv, qei, qgE, qkO, qli, vE, vb, qgF, qhV, vQ, qgG, qgH, qhW, qgI, qjD, qgJ, qhX, qfG, vR, uK, qaH, qaI, qej, qgL, qek, yy, qel, qem, qgM, qbw, qb5, qen, qeo, qep, qeq, qgN, wF, qjE, qer, List.length_cons, List.length_nil, List.map_cons, List.map_nil, List.replicate, List.nil_append, List.cons_append, List.append_nil, List.getElem?_cons_zero, List.getElem?_cons_succ, List.set_cons_zero, List.set_cons_succ, Nat.reduceAdd, Nat.reduceSub, Nat.sub_self, Nat.zero_add, reduceIte, Bool.not_true, Bool.not_false, Bool.false_eq_true, if_true, if_false, ite_true, ite_false, cond_true, cond_false, decide_true, decide_false, ix0, ix1, ix2, wN, uy, qb9, qaT, qcQ, qca, qaU, qaV, qeN, qgZ, qg0, qcJ, qcK, qcL, qgV, qaP, qb6, $xs,*])
theorem vJ {n p : Nat} {body : MS} {ds : List D} {d : D} (h : ds.length = p) (e : ∃ ρ, body (jV n ds) = .ok (.rt d ρ)) : dfn n p body ds = .ok d := by
  obtain ⟨ρ, e⟩ := e
  exact qhY h e
def qie : D -> Bool
  | .int _ => true
  | _ => false
def z8 : D -> Bool
  | .int i => decide (0 <= i)
  | _ => false
def qeO : D -> Bool
  | .int i => decide (0 < i)
  | _ => false
def uM : D -> Bool
  | .tup [a, b, c] => qeO a && z8 b && (ua c || z8 c)
  | _ => false
theorem qlZ {ds : List D} (h : ds.length = 3) : ∃ a b c, ds = [a, b, c] := by
  match ds, h with
  | [a, b, c], _ => exact ⟨a, b, c, rfl⟩
theorem qds {ds : List D} (h : ds.length ≠ 3) : uM (.tup ds) = false := by
  match ds, h with
  | [], _ => rfl
  | [_], _ => rfl
  | [_, _], _ => rfl
  | [a, b, c], h => exact absurd rfl h
  | _ :: _ :: _ :: _ :: _, _ => rfl
theorem qm {p q : MS} {ρ ρ' : Env} (h : p ρ = .ok (.nx ρ')) : qB p q ρ = q ρ' := by rw [qgK, h]
theorem wO {p q : MS} {ρ ρ' : Env} {d : D} (h : p ρ = .ok (.rt d ρ')) : qB p q ρ = .ok (.rt d ρ') := by rw [qgK, h]
theorem qjW {e : M D} {f : D -> D} : ∀ (ds acc : List D) (o : Option D), (∀ d ∈ ds, e [some d] = .ok (f d, [some d])) -> acc.length + ds.length <= 1000 -> ∃ ρ', zO (ql 0) (ret true) e ds acc [o] = .ok (acc ++ ds.map f, ρ')
  | [], acc, o, _, _ => ⟨[o], by simp [zO]⟩
  | d :: ds, acc, o, h, hl => by
    have hl' : acc.length + (ds.length + 1) <= 1000 := hl
    obtain ⟨ρ', q⟩ := qjW ds (acc ++ [f d]) (some d) (fun x hx => h x (List.mem_cons_of_mem _ hx)) (by rw [List.length_append, List.length_singleton]; omega)
    refine ⟨ρ', ?_⟩
    unfold zO
    simp only [ql, List.set_cons_zero, ret, h d List.mem_cons_self, zQ (show acc.length + 1 <= 1000000 by omega), if_true, q]
    simp
theorem qbH (f : D -> Bool) : ∀ ds : List D, ub (ds.map fun d => D.bl (f d)) = some (ds.map f)
  | [] => rfl
  | d :: ds => by simp [ub, qbH f ds]
theorem all_map {ds : List D} {f : D -> Bool} : qiB [.lst (ds.map fun d => D.bl (f d))] = some (.bl (ds.all f)) := by
  simp only [qiB, qbH, Option.map_some]
  congr 2
  rw [List.all_map]
  rfl
theorem qif {F : List D -> R D} {f : D -> Bool} {xs : M (List D)} {ds : List D} {ρ : Env} (hx : xs ρ = .ok (ds, ρ)) (hF : ∀ d ∈ ds, F [d] = .ok (.bl (f d))) (hl : ds.length <= 1000) :
    qz qiB (qa (qV 1 [] none xs (ql 0) (ret true) (qj F (qa (dv 0) (ret [])))) (ret [])) ρ = .ok (.bl (ds.all f), ρ) := by
  obtain ⟨ρ', q⟩ := qjW (e := qj F (qa (dv 0) (ret []))) (f := fun d => D.bl (f d)) ds [] none (fun x hm => by push_cast []; rw [hF x hm]) (by simpa using hl)
  have q' : zO (ql 0) (ret true) (qj F (qa (dv 0) (ret []))) ds [] (jn 1 [] ρ) = .ok ([] ++ ds.map fun d => D.bl (f d), ρ') := q
  simp only [vE, yh, qaJ, hx, q', qfF, List.nil_append, all_map]
  rfl
def yH : D -> Bool
  | .tup ds => decide (ds.length <= 12) && ds.all uM
  | _ => false
def leI : D -> D -> Bool
  | .int i, .int j => decide (i <= j)
  | _, _ => false
def qkU (k x : D) : Bool := match k with
  | .tup [_, _, m] => z8 x && (ua m || leI x m)
  | _ => false
def qcR : List D -> List D -> Bool
  | k :: ks, x :: xs => qkU k x && qcR ks xs
  | _, _ => true
def qlq : D -> D -> Bool
  | .tup xs, .tup ks => decide (xs.length = ks.length) && qcR ks xs
  | _, _ => false
theorem qg1 {ds : List D} {i : Nat} {d : D} (h : ds[i]? = some d) : ixD (.tup ds) (.int (i : Nat)) = some d := by
  have hi : i < ds.length := (List.getElem?_eq_some_iff.mp h).1
  show atI ds (i : Int) = some d
  unfold atI ixN
  rw [if_pos (by omega), if_pos (by omega)]
  simpa using h
theorem jX {l : M (List D)} {ρ ρ1 : Env} {j : Int} (e : l ρ = .ok ([.int j], ρ1)) (h0 : 0 <= j) (h : j <= 1000000) : zf l ρ = .ok (wZ 0 j.toNat, ρ1) := by
  have h1 : (-(2 ^ 62) <= j) := by omega
  have h2 : (j < 2 ^ 62) := by omega
  have e2 : qgw [.int j] = some (wZ 0 j.toNat) := by
    simp only [qgw, h1, h2, decide_true, Bool.and_self, if_true]
  have e3 : zf l ρ = lift (qgw [.int j]) ρ1 := by
    show bnd l (fun ds => lift (qgw ds)) ρ = _
    rw [qkN, e]
  rw [e3, e2]
  rfl
theorem qeP {n m : Int} (h0 : 0 < m) (h1 : m < 1606938044258990275541962092341162602522202993782792835301376) : wz [.int n, .int m] = some (.tup [.int (n / m), .int (n % m)]) := by
  simp only [wz, qdc, h0, h1, decide_true, Bool.and_self, if_true]
theorem at0 (d : D) (r : List D) : atI (d :: r) 0 = some d := by
  unfold atI ixN
  rw [if_pos (by omega), if_pos (by simp)]
  rfl
theorem ql0 : ixN 1 0 = some 0 := by decide
theorem zg (i j : Int) : zt (.int i) (.int j) = some (.int (i + j)) := rfl
theorem qcS (i j : Int) : qe9 (.int i) (.int j) = some (.int (i - j)) := rfl
theorem qeQ {ds : List D} {k : Int} (h0 : 0 <= k) (h1 : k < ds.length) : ∃ d ∈ ds, ixD (.lst ds) (.int k) = some d := by
  obtain ⟨i, rfl⟩ := Int.eq_ofNat_of_zero_le h0
  have hi : i < ds.length := by omega
  refine ⟨ds[i], List.getElem_mem hi, ?_⟩
  show atI ds (i : Int) = _
  unfold atI ixN
  rw [if_pos (by omega), if_pos (by omega)]
  show ds[(i : Int).toNat]? = _
  rw [Int.toNat_natCast, List.getElem?_eq_getElem hi]
theorem ql1 (i : Int) : yr (.int 2) (.int i) = some (.int (2 * i)) := by
  have h : qb1 2 i = true := by
    unfold qb1
    have : jL 2 = true := by decide
    rw [this]; rfl
  simp only [yr, h, if_true]
def qig (c m : D) : Prop := m = c \/ ∃ j, m = .int j /\ 0 <= j /\ j <= 5
def zK (k : D) : Prop := ∃ a b m, k = .tup [.int a, .int b, m] /\ 1 <= a /\ a <= 25 /\ 0 <= b /\ b <= 39 /\ qig .non m
theorem zK.imm {k : D} (h : zK k) : imm k = true := by
  obtain ⟨a, b, m, rfl, _, _, _, _, hm⟩ := h
  rcases hm with rfl | ⟨j, rfl, _⟩ <;> rfl
theorem zK.lay {k : D} (h : zK k) : (zq k).canLay0 = true /\ (zq k).depth = 1 := by
  obtain ⟨a, b, m, rfl, _, _, _, _, hm⟩ := h
  rcases hm with rfl | ⟨j, rfl, _⟩ <;> exact ⟨rfl, rfl⟩
theorem qg2 : ∀ ks : List D, (∀ k ∈ ks, zK k) -> PyData.canLayAll0 (toPDs ks) = true /\ PyData.depthAll (toPDs ks) <= 1
  | [], _ => ⟨rfl, Nat.zero_le _⟩
  | k :: ks, h => by
    obtain ⟨h1, h2⟩ := qg2 ks fun x hx => h x (List.mem_cons_of_mem _ hx)
    obtain ⟨g1, g2⟩ := (h k List.mem_cons_self).lay
    unfold toPDs
    simp only [PyData.canLayAll0, PyData.depthAll, h1, g1, g2, Bool.and_self, true_and]
    omega
theorem qcb {ks : List D} (h : ∀ k ∈ ks, zK k) : ∃ b, neA (.lst ks) (.lst []) = some (.bl b) /\ (b = true -> ks ≠ []) := by
  obtain ⟨h1, h2⟩ := qg2 ks h
  have e1 : v0 (.lst ks) = true := by
    have e : v0 (.lst ks) = (PyData.canLayAll0 (toPDs ks) && decide (PyData.depthAll (toPDs ks) + 1 <= 50)) := by
      simp only [v0, zq, PyData.canLay0, PyData.depth]
    rw [e, h1, Bool.true_and, decide_eq_true_eq]
    omega
  have e2 : v0 (.lst []) = true := rfl
  refine ⟨!PyData.eqv (zq (.lst ks)) (zq (.lst [])), by simp only [neA, e1, e2, Bool.and_self, if_true], fun hb hn => ?_⟩
  subst hn
  exact absurd hb (by decide)
theorem qjX {ds : List D} {k : Int} (h0 : 0 <= k) (h1 : k < ds.length) : ∃ d ∈ ds, atI ds k = some d := by
  obtain ⟨d, hd, e⟩ := qeQ h0 h1
  exact ⟨d, hd, e⟩
theorem qf0 (j : Nat) : (wZ 0 j).length = j := by simp [wZ]
theorem uz {i j : Int} (h : 0 < j) : qgq (.int i) (.int j) = some (.int (i % j)) := by
  simp only [qgq, qgp, h, decide_true, if_true]
theorem ur {i j : Int} (h : 0 < j) (h1 : j < 1606938044258990275541962092341162602522202993782792835301376) : vv (.int i) (.int j) = some (.int (i / j)) := by
  simp only [vv, qgp, qdc, h, h1, decide_true, Bool.and_self, if_true]
theorem qcc {i j : Int} (h : jL i = true) : yr (.int i) (.int j) = some (.int (i * j)) := by
  simp only [yr, qb1, h, Bool.true_or, if_true]
theorem qih {i j : Int} (h : jL j = true) : yr (.int i) (.int j) = some (.int (i * j)) := by
  simp only [yr, qb1, h, Bool.or_true, if_true]
theorem qaW {i : Int} (h0 : 0 <= i) (h1 : i < 2000000000) : jL i = true := by
  unfold jL
  rw [Bool.and_eq_true, decide_eq_true_eq, decide_eq_true_eq]
  constructor <;> omega
def facts : List Int := [48271, 69621, 16807, 39373, 30269, 40014, 40692, 50021, 61687, 71993, 83869, 95561, 30307]
structure qeR (w e : Nat) (d : D) : Prop where
  lv : (zq d).leavesShort 40 = true
  sh : (zq d).showable = true
  wt : (zq d).weight <= w
  dp : (zq d).depth <= e
theorem qaX {w e : Nat} : ∀ ds : List D, (∀ d ∈ ds, qeR w e d) -> PyData.leavesShortAll 40 (toPDs ds) = true /\ PyData.showableAll (toPDs ds) = true /\ PyData.weightAll (toPDs ds) <= ds.length * (w + 1) /\ PyData.depthAll (toPDs ds) <= e
  | [], _ => ⟨rfl, rfl, Nat.zero_le _, Nat.zero_le _⟩
  | d :: ds, h => by
    obtain ⟨h1, h2, h3, h4⟩ := qaX ds fun x hx => h x (List.mem_cons_of_mem _ hx)
    have g := h d List.mem_cons_self
    have g3 := g.wt
    have g4 := g.dp
    simp only [toPDs, PyData.leavesShortAll, PyData.showableAll, PyData.weightAll, PyData.depthAll, h1, h2, g.lv, g.sh, Bool.and_self, true_and, List.length_cons, Nat.succ_mul]
    omega
theorem qf1 {w e n : Nat} {ds : List D} (h : ∀ d ∈ ds, qeR w e d) (hl : ds.length <= n) : qeR (n * (w + 1)) (e + 1) (.tup ds) := by
  obtain ⟨h1, h2, h3, h4⟩ := qaX ds h
  refine ⟨?_, ?_, ?_, ?_⟩
  . simp only [zq, PyData.leavesShort, h1]
  . simp only [zq, PyData.showable, h2]
  . simp only [zq, PyData.weight]
    exact Nat.le_trans h3 (Nat.mul_le_mul_right _ hl)
  . simp only [zq, PyData.depth]
    omega
theorem qf2 {w e n : Nat} {ds : List D} (h : ∀ d ∈ ds, qeR w e d) (hl : ds.length <= n) : qeR (n * (w + 1)) (e + 1) (.lst ds) := by
  obtain ⟨h1, h2, h3, h4⟩ := qaX ds h
  refine ⟨?_, ?_, ?_, ?_⟩
  . simp only [zq, PyData.leavesShort, h1]
  . simp only [zq, PyData.showable, h2]
  . simp only [zq, PyData.weight]
    exact Nat.le_trans h3 (Nat.mul_le_mul_right _ hl)
  . simp only [zq, PyData.depth]
    omega
def dl (d : D) : Bool := !(zq d).hasDict || noL d
def plain (d : D) : Bool := !(zq d).hasDict && noL d
def dlL (ds : List D) : Bool := !PyData.hasDictAll (toPDs ds) || noLs ds
theorem qcd {w e : Nat} {d : D} (h : qeR w e d) (hw : w <= 100000) (he : e <= 50) (hd : dl d = true) : vO d = true := by
  have h1 := PyData.shown_le 40 (by omega) _ h.lv
  have h2 : (40 + 2) * (zq d).weight <= 42 * 100000 := Nat.mul_le_mul_left _ (Nat.le_trans h.wt hw)
  have h3 := h.dp
  have e1 : (zq d).shown.length <= sizeLine := by rw [PySem.sizeLine_eq]; omega
  have e2 : (zq d).depth <= 50 := by omega
  unfold dl at hd
  simp only [vO, h.sh, e1, e2, decide_true, Bool.true_and, hd]
theorem wP : ∀ xs : List D, (∀ d ∈ xs, plain d = true) -> PyData.hasDictAll (toPDs xs) = false /\ noLs xs = true
  | [], _ => ⟨rfl, rfl⟩
  | x :: xs, h => by
    obtain ⟨h1, h2⟩ := wP xs fun y hy => h y (List.mem_cons_of_mem _ hy)
    have g := h x List.mem_cons_self
    unfold plain at g
    rw [Bool.and_eq_true, Bool.not_eq_true'] at g
    simp [toPDs, PyData.hasDictAll, noLs, h1, h2, g.1, g.2]
theorem qjY (ds : List D) : dl (.tup ds) = dlL ds := by
  simp only [dl, dlL, zq, PyData.hasDict, noL]
theorem neg_int (i : Int) : qgB (.int i) = some (.int (-i)) := rfl
theorem v3 {xs ys : List D} (h : xs.length + ys.length <= 1000000) : zt (.lst xs) (.lst ys) = some (.lst (xs ++ ys)) := by
  simp only [zt, zQ h, if_true]
theorem qf3 {xs ys : List D} (h : xs.length + ys.length <= 1000000) : zt (.tup xs) (.tup ys) = some (.tup (xs ++ ys)) := by
  simp only [zt, zQ h, if_true]
def pt (p : Int) : D -> Int
  | .tup [.int a, .int b, _] => if p = 0 then a else b
  | _ => 0
def num : D -> Int
  | .int x => x
  | _ => 0
def qkV (p : Int) : List D -> List D -> List Int
  | k :: ks, x :: xs => (pt p k * num x) :: qkV p ks xs
  | _, _ => []
theorem qaY : ∀ ns : List Int, vT (ns.map D.int) = some ns
  | [] => rfl
  | n :: ns => by simp [vT, qaY ns]
theorem qaZ {i : Int} (h : i.natAbs < 10 ^ 39) : qeR 130 0 (.int i) := by
  have hl : i.natAbs.log2 < 130 := by
    by_cases h0 : i.natAbs = 0
    . rw [h0]; decide
    . refine (Nat.log2_lt h0).mpr (Nat.lt_of_lt_of_le h (by decide +kernel))
  refine ⟨?_, ?_, ?_, Nat.le_refl _⟩
  . show decide ((PyData.shown (.int i)).length <= 40) = true
    refine decide_eq_true ?_
    have e := int_text_length_le10 (k := 39) (by decide) h
    show (Str.ofString (toString i)).length <= 40
    rw [PySem.ofString_length]
    exact e
  . show decide (i.natAbs.log2 < 1920) = true
    exact decide_eq_true (by omega)
  . show (if (i == 0) = true then 0 else i.natAbs.log2 + 1) <= 130
    split <;> omega
theorem qf4 {i : Int} (h : i.natAbs < 10 ^ 39) : zE [.int i] = some (.str (PyData.shown (.int i))) := by
  have : vO (.int i) = true := qcd (qaZ h) (by omega) (by omega) rfl
  simp only [zE, this, if_true]; rfl
theorem qce (x : Str) : neB (.str x) (.str x) = some (.bl false) := by
  show some (D.bl (!decide (x = x))) = _
  rw [decide_eq_true rfl]; rfl
theorem qf5 {F : List D -> R D} {f g h : M D} {ρ : Env} {a b c d : D} (hf : f ρ = .ok (a, ρ)) (hg : g ρ = .ok (b, ρ)) (hh : h ρ = .ok (c, ρ)) (e : F [a, b, c] = .ok d) : qj F (qa f (qa g (qa h (ret [])))) ρ = .ok (d, ρ) := by
  have e1 : qa h (ret []) ρ = .ok ([c], ρ) := by rw [yh, hh]; rfl
  have e2 : qa g (qa h (ret [])) ρ = .ok ([b, c], ρ) := by rw [yh, hg]; dsimp only; rw [e1]
  have e3 : qa f (qa g (qa h (ret []))) ρ = .ok ([a, b, c], ρ) := by rw [yh, hf]; dsimp only; rw [e2]
  rw [vb, e3]
  dsimp only
  rw [e]
theorem vg {F : List D -> Option D} {f : M D} {ρ : Env} {a d : D} (hf : f ρ = .ok (a, ρ)) (e : F [a] = some d) : qz F (qa f (ret [])) ρ = .ok (d, ρ) := by
  have e0 : qa f (ret []) ρ = .ok ([a], ρ) := by rw [yh, hf]; rfl
  rw [vE, e0]
  dsimp only
  rw [e]
theorem qeS {xs : List D} (h : ∀ x ∈ xs, x = .non \/ ∃ v : Int, x = .int v /\ v.natAbs < 10 ^ 39) (hl : xs.length <= 12) : zE [.tup xs] = some (.str (zq (.tup xs)).shown) := by
  have hn : qeR (12 * 131) 1 (.tup xs) := qf1 (fun d hd => by
    rcases h d hd with rfl | ⟨v, rfl, hv⟩
    . exact ⟨rfl, rfl, Nat.zero_le _, Nat.zero_le _⟩
    . exact qaZ hv) hl
  have hp := wP xs fun d hd => by
    rcases h d hd with rfl | ⟨v, rfl, hv⟩ <;> rfl
  have : vO (.tup xs) = true := qcd hn (by omega) (by omega) (by rw [qjY]; unfold dlL; rw [hp.1]; rfl)
  simp only [zE, this, if_true]
theorem qcT (i j : Int) : uR [.int i, .int j] = some (.int (if j < i then j else i)) := rfl
theorem qkW : qgC (.int 10) (.int 20) = some (.int 100000000000000000000) := by
  have h : qhO 10 20 = true := by decide +kernel
  have e : (10 : Int) ^ (20 : Int).toNat = 100000000000000000000 := by decide +kernel
  simp only [qgC, qgp, h, if_true, e]
theorem qf6 {α : Type} {e : M D} {t : M Bool} {k f : α -> D} {p : α -> Bool} {r : Env} : ∀ (as : List α) (acc : List D) (o : Option D), (∀ a ∈ as, t (some (k a) :: r) = .ok (p a, some (k a) :: r)) -> (∀ a ∈ as, p a = true -> e (some (k a) :: r) = .ok (f a, some (k a) :: r)) -> acc.length + as.length <= 1000000 ->
    ∃ o', zO (ql 0) t e (as.map k) acc (o :: r) = .ok (acc ++ (as.filter p).map f, o' :: r)
  | [], acc, o, _, _, _ => ⟨o, by simp [zO]⟩
  | a :: as, acc, o, ht, he, hl => by
    have hl' : acc.length + (as.length + 1) <= 1000000 := hl
    have h1 := ht a List.mem_cons_self
    rw [List.map_cons]
    unfold zO
    simp only [ql, List.set_cons_zero, h1]
    cases hp : p a with
    | false =>
      obtain ⟨o', q⟩ := qf6 as acc (some (k a)) (fun x hx => ht x (List.mem_cons_of_mem _ hx)) (fun x hx => he x (List.mem_cons_of_mem _ hx)) (by omega)
      refine ⟨o', ?_⟩
      simp only [q, List.filter_cons, hp, Bool.false_eq_true, if_false]
    | true =>
      obtain ⟨o', q⟩ := qf6 as (acc ++ [f a]) (some (k a)) (fun x hx => ht x (List.mem_cons_of_mem _ hx)) (fun x hx => he x (List.mem_cons_of_mem _ hx)) (by rw [List.length_append, List.length_singleton]; omega)
      refine ⟨o', ?_⟩
      simp only [he a List.mem_cons_self hp, zQ (show acc.length + 1 <= 1000000 by omega), if_true, q, List.filter_cons, hp, List.map_cons, List.append_assoc, List.singleton_append]
theorem qjZ {α : Type} {e : M D} {t : M Bool} {k : α -> D} {xs : M (List D)} {ρ r : Env} {fr : List Nat} (as : List α) (p : α -> Bool) (f : α -> D) (hx : xs ρ = .ok (as.map k, ρ)) (hr : jn 1 fr ρ = none :: r) (hl : as.length <= 1000000)
    (ht : ∀ a ∈ as, t (some (k a) :: r) = .ok (p a, some (k a) :: r)) (he : ∀ a ∈ as, p a = true -> e (some (k a) :: r) = .ok (f a, some (k a) :: r)) : qV 1 fr none xs (ql 0) t e ρ = .ok (.lst ((as.filter p).map f), ρ) := by
  obtain ⟨o', q⟩ := qf6 as [] none ht he (by simpa using hl)
  rw [qaJ, hx]
  simp only [hr, q, List.nil_append]
  rfl
theorem uS {α : Type} (as : List α) : as.filter (fun _ => true) = as := by simp
theorem qbI {α : Type} {e : M D} {k : α -> D} {xs : M (List D)} {ρ r : Env} {fr : List Nat} (as : List α) (f : α -> D) (hx : xs ρ = .ok (as.map k, ρ)) (hr : jn 1 fr ρ = none :: r) (hl : as.length <= 1000000)
    (he : ∀ a ∈ as, e (some (k a) :: r) = .ok (f a, some (k a) :: r)) : qV 1 fr none xs (ql 0) (ret true) e ρ = .ok (.lst (as.map f), ρ) := by
  rw [qjZ as (fun _ => true) f hx hr hl (fun _ _ => rfl) fun a ha _ => he a ha, uS]
theorem vh {α β : Type} {G : D -> Env -> Option Env} {b : MS} {k : α -> D} {step : β -> α -> β} {Inv : Nat -> β -> Env -> Prop} : ∀ (as : List α) (n : Nat) (s : β) (ρ : Env), Inv n s ρ ->
    (∀ a ∈ as, ∀ m s ρ, n <= m -> m < n + as.length -> Inv m s ρ -> ∃ ρ1 ρ2, G (k a) ρ = some ρ1 /\ b ρ1 = .ok (.nx ρ2) /\ Inv (m + 1) (step s a) ρ2) ->
    ∃ ρ', jU G b (as.map k) ρ = .ok (.nx ρ') /\ Inv (n + as.length) (as.foldl step s) ρ'
  | [], n, s, ρ, h, _ => ⟨ρ, rfl, h⟩
  | a :: as, n, s, ρ, h, H => by
    obtain ⟨ρ1, ρ2, h1, h2, h3⟩ := H a List.mem_cons_self n s ρ (Nat.le_refl _) (by rw [List.length_cons]; omega) h
    obtain ⟨ρ', q, w⟩ := vh as (n + 1) (step s a) ρ2 h3 fun x hx m s ρ m1 m2 => H x (List.mem_cons_of_mem _ hx) m s ρ (by omega) (by rw [List.length_cons]; omega)
    refine ⟨ρ', ?_, ?_⟩
    . rw [List.map_cons]
      unfold jU
      simp only [h1, h2]
      exact q
    . rw [List.length_cons, show n + (as.length + 1) = n + 1 + as.length by omega]
      exact w
theorem vK {f : M D} {ρ : Env} {a : D} (hf : f ρ = .ok (a, ρ)) : qa f (ret []) ρ = .ok ([a], ρ) := by rw [yh, hf]; rfl
theorem qeT {f g : M D} {ρ : Env} {a b : D} (hf : f ρ = .ok (a, ρ)) (hg : g ρ = .ok (b, ρ)) : qa f (qa g (ret [])) ρ = .ok ([a, b], ρ) := by rw [yh, hf]; simp only [vK hg]
theorem qii {f g h : M D} {ρ : Env} {a b c : D} (hf : f ρ = .ok (a, ρ)) (hg : g ρ = .ok (b, ρ)) (hh : h ρ = .ok (c, ρ)) : qa f (qa g (qa h (ret []))) ρ = .ok ([a, b, c], ρ) := by rw [yh, hf]; simp only [qeT hg hh]
theorem ql2 {f g : M D} {ρ : Env} {a b : D} (hf : f ρ = .ok (a, ρ)) (hg : g ρ = .ok (b, ρ)) : uZ (qa f (qa g (ret []))) ρ = .ok (.tup [a, b], ρ) := by rw [qbv, qeT hf hg]; simp only [List.length_cons, List.length_nil, zQ (show 0 + 1 + 1 <= 1000000 by omega), if_true]
theorem ql3 {f g h : M D} {ρ : Env} {a b c : D} (hf : f ρ = .ok (a, ρ)) (hg : g ρ = .ok (b, ρ)) (hh : h ρ = .ok (c, ρ)) : uZ (qa f (qa g (qa h (ret [])))) ρ = .ok (.tup [a, b, c], ρ) := by rw [qbv, qii hf hg hh]; simp only [List.length_cons, List.length_nil, zQ (show 0 + 1 + 1 + 1 <= 1000000 by omega), if_true]
theorem qat {F : List D -> R D} {f g : M D} {ρ : Env} {a b d : D} (hf : f ρ = .ok (a, ρ)) (hg : g ρ = .ok (b, ρ)) (e : F [a, b] = .ok d) : qj F (qa f (qa g (ret []))) ρ = .ok (d, ρ) := by rw [vb, qeT hf hg]; simp only [e]
theorem qx {F : D -> D -> Option D} {f g : M D} {ρ : Env} {a b d : D} (hf : f ρ = .ok (a, ρ)) (hg : g ρ = .ok (b, ρ)) (e : F a b = some d) : d2 F f g ρ = .ok (d, ρ) := by rw [qkO, hf]; simp only [hg, e]
theorem vi {f : M D} {ρ : Env} {b : Bool} (hf : f ρ = .ok (.bl b, ρ)) : tst f ρ = .ok (b, ρ) := by rw [qhV, hf]; rfl
theorem ql4 {t : M Bool} {p q : MS} {ρ : Env} (h : t ρ = .ok (true, ρ)) : sif t p q ρ = p ρ := by rw [qfG, h]; rfl
theorem qkf {t : M Bool} {p q : MS} {ρ : Env} (h : t ρ = .ok (false, ρ)) : sif t p q ρ = q ρ := by rw [qfG, h]; rfl
theorem wQ {i : Nat} {f : M D} {ρ : Env} {ds : List D} {d : D} (h : zu i ρ = some ds) (hf : f ρ = .ok (d, ρ)) (hi : imm d = true) (hl : ds.length < 1000000) : ji (qZ i f) ρ = .ok (.nx (ρ.set i (some (.lst (ds ++ [d]))))) := by
  simp only [qaI, wF, h, hf, hi, zQ (show ds.length + 1 <= 1000000 by omega), Bool.and_self, if_true]
theorem ut {G : D -> Env -> Option Env} {b : MS} {d : D} {ds : List D} {ρ ρ1 ρ2 : Env} (h1 : G d ρ = some ρ1) (h2 : b ρ1 = .ok (.nx ρ2)) : jU G b (d :: ds) ρ = jU G b ds ρ2 := by
  show (match G d ρ with | none => R.bad | some ρ1 => _) = _
  rw [h1]
  simp only [h2]
def mD : Option Int -> D
  | none => .non
  | some j => .int j
abbrev Kd := Int × Int × Option Int
def kD (x : Kd) : D := .tup [.int x.1, .int x.2.1, mD x.2.2]
theorem qcU {α : Type} {f : α -> D} : ∀ {as : List α}, (∀ a ∈ as, imm (f a) = true) -> immL (as.map f) = true
  | [], _ => rfl
  | a :: as, h => by simp only [List.map_cons, immL, h a List.mem_cons_self, qcU fun x hx => h x (List.mem_cons_of_mem _ hx), Bool.and_self]
def okK (x : Kd) : Prop := 0 < x.1 /\ 0 <= x.2.1 /\ (∀ j, x.2.2 = some j -> 0 <= j)
theorem qeU {x : Kd} (h : okK x) : uM (kD x) = true := by
  obtain ⟨a, b, m⟩ := x
  obtain ⟨h1, h2, h3⟩ := h
  have e1 : qeO (.int a) = true := decide_eq_true h1
  have e2 : z8 (.int b) = true := decide_eq_true h2
  cases m with
  | none => simp only [kD, mD, uM, e1, e2, ua, Bool.true_and, Bool.true_or]
  | some j =>
    have e3 : z8 (.int j) = true := decide_eq_true (h3 j rfl)
    simp only [kD, mD, uM, e1, e2, e3, Bool.true_and, Bool.or_true]
theorem qcV (m : Option Int) : ua (mD m) = m.isNone := by cases m <;> rfl
theorem qg3 {α : Type} {ds : List α} {n : Nat} {d : α} (h : ds[n]? = some d) : atI ds (n : Int) = some d := by
  unfold atI ixN
  have hl := (List.getElem?_eq_some_iff.mp h).1
  rw [if_pos (by omega), if_pos (by omega)]
  show ds[(n : Int).toNat]? = _
  rw [Int.toNat_natCast]; exact h
theorem qf7 (lo : Int) (n : Nat) : wZ lo n = (List.range n).map fun i => D.int (lo + (i : Nat)) := rfl
theorem qeV {α : Type} {e : M D} {t : M Bool} {u v f : α -> D} {p : α -> Bool} {r : Env} : ∀ (as : List α) (acc : List D) (o o' : Option D), (∀ a ∈ as, t (some (u a) :: some (v a) :: r) = .ok (p a, some (u a) :: some (v a) :: r)) -> (∀ a ∈ as, p a = true -> e (some (u a) :: some (v a) :: r) = .ok (f a, some (u a) :: some (v a) :: r)) -> acc.length + as.length <= 1000000 ->
    ∃ o1 o2, zO (qag 2 (ze (ql 0) (ze (ql 1) qaf))) t e (as.map fun a => .tup [u a, v a]) acc (o :: o' :: r) = .ok (acc ++ (as.filter p).map f, o1 :: o2 :: r)
  | [], acc, o, o', _, _, _ => ⟨o, o', by simp [zO]⟩
  | a :: as, acc, o, o', ht, he, hl => by
    have hl' : acc.length + (as.length + 1) <= 1000000 := hl
    have h1 := ht a List.mem_cons_self
    rw [List.map_cons]
    unfold zO
    have hg : qag 2 (ze (ql 0) (ze (ql 1) qaf)) (.tup [u a, v a]) (o :: o' :: r) = some (some (u a) :: some (v a) :: r) := rfl
    simp only [hg, h1]
    cases hp : p a with
    | false =>
      obtain ⟨o1, o2, q⟩ := qeV as acc (some (u a)) (some (v a)) (fun x hx => ht x (List.mem_cons_of_mem _ hx)) (fun x hx => he x (List.mem_cons_of_mem _ hx)) (by omega)
      refine ⟨o1, o2, ?_⟩
      simp only [q, List.filter_cons, hp, Bool.false_eq_true, if_false]
    | true =>
      obtain ⟨o1, o2, q⟩ := qeV as (acc ++ [f a]) (some (u a)) (some (v a)) (fun x hx => ht x (List.mem_cons_of_mem _ hx)) (fun x hx => he x (List.mem_cons_of_mem _ hx)) (by rw [List.length_append, List.length_singleton]; omega)
      refine ⟨o1, o2, ?_⟩
      simp only [he a List.mem_cons_self hp, zQ (show acc.length + 1 <= 1000000 by omega), if_true, q, List.filter_cons, hp, List.map_cons, List.append_assoc, List.singleton_append]
theorem qij {α : Type} {e : M D} {t : M Bool} {u v : α -> D} {xs : M (List D)} {ρ r : Env} {fr : List Nat} (as : List α) (p : α -> Bool) (f : α -> D) (hx : xs ρ = .ok (as.map fun a => .tup [u a, v a], ρ)) (hr : jn 2 fr ρ = none :: none :: r) (hl : as.length <= 1000000)
    (ht : ∀ a ∈ as, t (some (u a) :: some (v a) :: r) = .ok (p a, some (u a) :: some (v a) :: r)) (he : ∀ a ∈ as, p a = true -> e (some (u a) :: some (v a) :: r) = .ok (f a, some (u a) :: some (v a) :: r)) : qV 2 fr none xs (qag 2 (ze (ql 0) (ze (ql 1) qaf))) t e ρ = .ok (.lst ((as.filter p).map f), ρ) := by
  obtain ⟨o1, o2, q⟩ := qeV as [] none none ht he (by simpa using hl)
  rw [qaJ, hx]
  simp only [hr, q, List.nil_append]
  rfl
theorem qkg (n : Nat) : wZ 0 n = (List.range n).map fun i => D.int (i : Nat) := by
  unfold wZ
  refine List.map_congr_left fun i _ => ?_
  rw [Int.zero_add]
theorem qeW {i : Int} (h : i.natAbs < 10 ^ 39) : qeR 130 0 (.int i) := qaZ h
end Law
end L2.Sk
namespace L2.Sk.Law
def qlr : Nat -> (Nat -> Nat) -> Nat
  | 0, _ => 0
  | n + 1, f => qlr n f + f n
structure Kw where
  w : Int
  v : Int
  m : Option Int
def okT (k : Kw) (t : Nat) (r : Int) : Bool := decide ((t : Int) * k.w <= r) && (match k.m with | none => true | some j => decide ((t : Int) <= j))
def qls (N : Nat) (φ : Int -> Nat) : List Kw -> Int -> Int -> Nat
  | [], _, y => φ y
  | k :: ks, r, y => qlr (N + 1) fun t => if okT k t r then qls N φ ks (r - t * k.w) (y + t * k.v) else 0
def ofn (k : Kw) (r : Int) : Nat := (match k.m with | none => r / k.w | some j => if j < r / k.w then j else r / k.w).toNat
theorem qik {k : Kw} (hw : 1 <= k.w) (hm : ∀ j, k.m = some j -> 0 <= j) {r : Int} (hr : 0 <= r) (t : Nat) : okT k t r = decide (t <= ofn k r) := by
  have hd : 0 <= r / k.w := Int.ediv_nonneg hr (by omega)
  have he : ((t : Int) * k.w <= r) ↔ ((t : Int) <= r / k.w) := (Int.le_ediv_iff_mul_le (by omega)).symm
  unfold okT ofn
  cases hk : k.m with
  | none =>
    dsimp only
    rw [Bool.and_true, Bool.eq_iff_iff, decide_eq_true_eq, decide_eq_true_eq, he]
    omega
  | some j =>
    have hj := hm j hk
    dsimp only
    rw [Bool.eq_iff_iff, Bool.and_eq_true, decide_eq_true_eq, decide_eq_true_eq, decide_eq_true_eq, he]
    split <;> omega
theorem qcW {k : Kw} (hw : 1 <= k.w) (hm : ∀ j, k.m = some j -> 0 <= j) {r : Int} (hr : 0 <= r) {t : Nat} (h : t <= ofn k r) : (t : Int) * k.w <= r /\ (t : Int) <= r := by
  have h1 : okT k t r = true := by rw [qik hw hm hr]; exact decide_eq_true h
  unfold okT at h1
  rw [Bool.and_eq_true, decide_eq_true_eq] at h1
  refine ⟨h1.1, Int.le_trans ?_ h1.1⟩
  have := Int.mul_le_mul_of_nonneg_left hw (show (0 : Int) <= t by omega)
  omega
def vj (k : Kw) (found : List (List Int × Int)) : List (List Int × Int) := found.flatMap fun p => (List.range (ofn k p.2 + 1)).map fun (t : Nat) => (p.1 ++ [(t : Int)], p.2 - (t : Int) * k.w)
def qF : List Kw -> List Int -> Int
  | k :: ks, t :: ts => t * k.v + qF ks ts
  | _, _ => 0
theorem wR (k : Kw) (t : Int) : ∀ (pre : List Kw) (ld : List Int), pre.length = ld.length -> qF (pre ++ [k]) (ld ++ [t]) = qF pre ld + t * k.v
  | [], [], _ => by simp [qF]
  | a :: pre, s :: ld, h => by
    have := wR k t pre ld (by simpa using h)
    simp only [List.cons_append, qF, this]
    omega
def qj0 (k : Kw) : Prop := 1 <= k.w /\ ∀ j, k.m = some j -> 0 <= j
end L2.Sk.Law
namespace L2.Sk
namespace Law
open PySem PySem.Spec PyProof.Rows
set_option maxHeartbeats 4000000
def Zn (ks : List Kw) (s z : Int) : Nat := qls 20 (fun y => if y = z then 1 else 0) ks s 0
structure qlt (ks : List Kw) (s : Int) (p : Int × Nat) : Prop where
  at_ : Zn ks s p.1 = p.2
  pos : 0 < p.2
  no : ∀ z, p.1 < z -> Zn ks s z = 0
def yM (ks : List Kw) (r : Int) : List (List Int × Int) := ks.foldl (fun f k => vj k f) [([], r)]
end Law
end L2.Sk
namespace L2.Sk.Law
end L2.Sk.Law
namespace L2.Sk
namespace Law
open PySem PySem.Spec PyProof.Rows
set_option maxHeartbeats 4000000
open Classical in
open Classical in
theorem qj1 {α : Type} {e : M D} {t : M Bool} {k : α -> D} {xs : M (List D)} {ρ r : Env} {fr : List Nat} {i j : Nat} (as : List α) (p : α -> Bool) (f : α -> D) (hx : xs ρ = .ok (as.map k, ρ)) (hr : jn 1 fr ρ = none :: r) (hl : as.length <= 1000000)
    (ht : ∀ a ∈ as, t (some (k a) :: r) = .ok (p a, some (k a) :: r)) (he : ∀ a ∈ as, p a = true -> e (some (k a) :: r) = .ok (f a, some (k a) :: r)) (hb : ∀ o : Option D, ρ.set j ((o :: r)[i]?).join = ρ) :
    qV 1 fr (some (i, j)) xs (ql 0) t e ρ = .ok (.lst ((as.filter p).map f), ρ) := by
  obtain ⟨o', q⟩ := qf6 as [] none ht he (by simpa using hl)
  rw [qaJ, hx]
  simp only [hr, q, List.nil_append]
  show R.ok (D.lst ((as.filter p).map f), ρ.set j ((o' :: r)[i]?).join) = _
  rw [hb o']
theorem ql5 {t u : M Bool} {ρ : Env} (h1 : t ρ = .ok (false, ρ)) (h2 : u ρ = .ok (false, ρ)) : tor t u ρ = .ok (false, ρ) := by rw [qhW, h1]; exact h2
theorem qau {F : List D -> R D} {f g h : M D} {ρ : Env} {a b c d : D} (hf : f ρ = .ok (a, ρ)) (hg : g ρ = .ok (b, ρ)) (hh : h ρ = .ok (c, ρ)) (e : F [a, b, c] = .ok d) : qj F (qa f (qa g (qa h (ret [])))) ρ = .ok (d, ρ) := qf5 hf hg hh e
theorem qcX {i : Nat} {f : M D} {ρ ρ1 : Env} {d : D} (h : f ρ = .ok (d, ρ1)) : zp i f ρ = .ok (.nx (ρ1.set i (some d))) := by rw [uK, h]
theorem qcY {f : M D} {ρ ρ1 : Env} {d : D} (h : f ρ = .ok (d, ρ1)) : jt f ρ = .ok (.rt d ρ1) := by rw [vR, h]
theorem wS {b : MS} {i : Nat} {ρ : Env} (hi : i < ρ.length) : ∀ (ds : List D) (o : Option D), (∀ d ∈ ds, b (ρ.set i (some d)) = .ok (.nx (ρ.set i (some d)))) -> ∃ o', jU (ql i) b ds (ρ.set i o) = .ok (.nx (ρ.set i o'))
  | [], o, _ => ⟨o, rfl⟩
  | d :: ds, o, h => by
    obtain ⟨o', q⟩ := wS hi ds (some d) fun x hx => h x (List.mem_cons_of_mem _ hx)
    refine ⟨o', ?_⟩
    unfold jU
    have e : ql i d (ρ.set i o) = some (ρ.set i (some d)) := by
      show some ((ρ.set i o).set i (some d)) = _
      rw [List.set_set]
    rw [e]
    simp only [h d List.mem_cons_self]
    exact q
theorem qf8 {fr : List Nat} {e : M D} {ρ r : Env} (n : Nat) (d : D) (hn : n <= 1000) (hr : jn 1 fr ρ = none :: r) (h : ∀ i : Nat, i < n -> e (some (.int i) :: r) = .ok (d, some (.int i) :: r)) :
    qV 1 fr none (zf (qa (ret (.int (n : Int))) (ret []))) (ql 0) (ret true) e ρ = .ok (.lst (List.replicate n d), ρ) := by
  have e1 : zf (qa (ret (.int (n : Int))) (ret [])) ρ = .ok (wZ 0 n, ρ) := by
    have := jX (l := qa (ret (.int (n : Int))) (ret [])) (ρ := ρ) (ρ1 := ρ) (j := (n : Int)) rfl (by omega) (by omega)
    rw [this, Int.toNat_natCast]
  rw [qbI (r := r) (k := fun i : Nat => D.int (0 + (i : Nat))) (List.range n) (fun _ => d) (by rw [e1, qf7]) hr (by rw [List.length_range]; omega) fun i hi => ?_]
  . rw [List.map_const', List.length_range]
  . have := h i (List.mem_range.mp hi)
    rw [show ((0 : Int) + (i : Nat)) = (i : Int) by omega]
    exact this
theorem qg4 {fr : List Nat} {e f : M D} {ρ r : Env} {p : MS} (n : Nat) (d x : D) (hn : n <= 1000) (hr : jn 1 fr ρ = none :: r) (h : ∀ i : Nat, i < n -> e (some (.int i) :: r) = .ok (d, some (.int i) :: r)) (hf : f ρ = .ok (x, ρ)) (hx : neB (.lst (List.replicate n d)) x = some (.bl false)) :
    sif (tst (d2 neB (qV 1 fr none (zf (qa (ret (.int (n : Int))) (ret []))) (ql 0) (ret true) e) f)) p jW ρ = .ok (.nx ρ) :=
  qkf (vi (qx (qf8 n d hn hr h) hf hx))
theorem ql6 {P : Nat -> Prop} (h0 : P 0) (h1 : P 1) (h2 : P 2) : ∀ i, i < 3 -> P i
  | 0, _ => h0
  | 1, _ => h1
  | 2, _ => h2
end Law
end L2.Sk
namespace L2.Sk.Law
def ju : List Kw -> Int -> List (List Int)
  | [], _ => [[]]
  | k :: ks, r => (List.range (ofn k r + 1)).flatMap fun t : Nat => (ju ks (r - (t : Int) * k.w)).map fun l => (t : Int) :: l
theorem qav : ∀ (ks : List Kw) (found : List (List Int × Int)), (ks.foldl (fun f k => vj k f) found).map (·.1) = found.flatMap fun p => (ju ks p.2).map fun l => p.1 ++ l
  | [], found => by
    simp only [List.foldl_nil, ju, List.map_cons, List.map_nil, List.append_nil]
    induction found with
    | nil => rfl
    | cons p found ih => rw [List.map_cons, List.flatMap_cons, ih]; rfl
  | k :: ks, found => by
    rw [List.foldl_cons, qav ks (vj k found)]
    unfold vj
    rw [List.flatMap_assoc]
    congr 1
    funext p
    simp only [ju]
    rw [List.flatMap_map, List.map_flatMap]
    congr 1
    funext t
    rw [List.map_map]
    congr 1
    funext l
    simp
theorem wT (ks : List Kw) (r : Int) : (ks.foldl (fun f k => vj k f) [([], r)]).map (·.1) = ju ks r := by
  rw [qav]
  simp
def mxZ : List Int -> Int
  | [] => 0
  | a :: l => l.foldl max a
theorem wU : ∀ (l : List Int) (a : Int), a <= l.foldl max a /\ (∀ x ∈ l, x <= l.foldl max a) /\ (l.foldl max a = a \/ l.foldl max a ∈ l)
  | [], a => ⟨Int.le_refl _, (fun _ h => by cases h), .inl rfl⟩
  | b :: l, a => by
    obtain ⟨h1, h2, h3⟩ := wU l (max a b)
    rw [List.foldl_cons]
    refine ⟨by omega, fun x hx => ?_, ?_⟩
    . rcases List.mem_cons.mp hx with rfl | hx
      . omega
      . exact h2 x hx
    . rcases h3 with h3 | h3
      . rw [h3]
        rcases Int.le_total a b with h | h
        . right; rw [Int.max_eq_right h]; exact List.mem_cons_self
        . left; exact Int.max_eq_left h
      . exact .inr (List.mem_cons_of_mem _ h3)
theorem qg5 {l : List Int} {x : Int} (h : x ∈ l) : x <= mxZ l := by
  cases l with
  | nil => cases h
  | cons a l =>
    obtain ⟨h1, h2, _⟩ := wU l a
    rcases List.mem_cons.mp h with rfl | h
    . exact h1
    . exact h2 x h
theorem qeX {l : List Int} (h : l ≠ []) : mxZ l ∈ l := by
  cases l with
  | nil => exact absurd rfl h
  | cons a l =>
    rcases (wU l a).2.2 with e | e
    . show l.foldl max a ∈ _
      rw [e]; exact List.mem_cons_self
    . exact List.mem_cons_of_mem _ e
def qL : List Kw -> Int -> Int
  | [], _ => 0
  | k :: ks, r => mxZ ((List.range (ofn k r + 1)).map fun t : Nat => (t : Int) * k.v + qL ks (r - (t : Int) * k.w))
theorem qcf {k : Kw} {ks : List Kw} {r : Int} {t : Nat} (h : t <= ofn k r) : (t : Int) * k.v + qL ks (r - (t : Int) * k.w) <= qL (k :: ks) r := qg5 (List.mem_map.mpr ⟨t, List.mem_range.mpr (by omega), rfl⟩)
theorem qeY (k : Kw) (ks : List Kw) (r : Int) : ∃ t, t <= ofn k r /\ (t : Int) * k.v + qL ks (r - (t : Int) * k.w) = qL (k :: ks) r := by
  have h := qeX (l := (List.range (ofn k r + 1)).map fun t : Nat => (t : Int) * k.v + qL ks (r - (t : Int) * k.w)) (by simp)
  obtain ⟨t, ht, e⟩ := List.mem_map.mp h
  exact ⟨t, by have := List.mem_range.mp ht; omega, e⟩
theorem v4 : ∀ (ks : List Kw) (r : Int) (l : List Int), l ∈ ju ks r -> qF ks l <= qL ks r
  | [], r, l, h => by
    have : l = [] := List.mem_singleton.mp h
    subst this
    exact Int.le_refl _
  | k :: ks, r, l, h => by
    obtain ⟨t, ht, h2⟩ := List.mem_flatMap.mp h
    obtain ⟨l', hl', rfl⟩ := List.mem_map.mp h2
    have h3 := v4 ks _ l' hl'
    have h4 := qcf (k := k) (ks := ks) (r := r) (t := t) (by have := List.mem_range.mp ht; omega)
    show (t : Int) * k.v + qF ks l' <= _
    omega
def qW (k : Kw) (ks : List Kw) (r : Int) : Nat := (List.range (ofn k r + 1)).findIdx fun t : Nat => decide ((t : Int) * k.v + qL ks (r - (t : Int) * k.w) = qL (k :: ks) r)
def yi : List Kw -> Int -> List Int
  | [], _ => []
  | k :: ks, r => (qW k ks r : Int) :: yi ks (r - (qW k ks r : Int) * k.w)
theorem uA (k : Kw) (ks : List Kw) (r : Int) : qW k ks r <= ofn k r /\ (qW k ks r : Int) * k.v + qL ks (r - (qW k ks r : Int) * k.w) = qL (k :: ks) r /\ ∀ t, t < qW k ks r -> (t : Int) * k.v + qL ks (r - (t : Int) * k.w) < qL (k :: ks) r := by
  obtain ⟨t0, h0, e0⟩ := qeY k ks r
  have hlt : qW k ks r < (List.range (ofn k r + 1)).length := by
    unfold qW
    rw [List.findIdx_lt_length]
    exact ⟨t0, List.mem_range.mpr (by omega), decide_eq_true e0⟩
  rw [List.length_range] at hlt
  refine ⟨by omega, ?_, fun t ht => ?_⟩
  . have := List.findIdx_getElem (xs := List.range (ofn k r + 1)) (p := fun t : Nat => decide ((t : Int) * k.v + qL ks (r - (t : Int) * k.w) = qL (k :: ks) r)) (w := by rw [List.length_range]; exact hlt)
    have := of_decide_eq_true this
    rw [List.getElem_range] at this
    exact this
  . have hn := List.not_of_lt_findIdx (xs := List.range (ofn k r + 1)) (p := fun t : Nat => decide ((t : Int) * k.v + qL ks (r - (t : Int) * k.w) = qL (k :: ks) r)) (i := t) ht
    rw [List.getElem_range] at hn
    have h1 := qcf (k := k) (ks := ks) (r := r) (t := t) (by omega)
    have h2 : ¬ ((t : Int) * k.v + qL ks (r - (t : Int) * k.w) = qL (k :: ks) r) := by simpa using hn
    omega
theorem vL : ∀ (ks : List Kw) (r : Int), ∃ yv, (ju ks r).filter (fun l => decide (qF ks l = qL ks r)) = yi ks r :: yv
  | [], r => ⟨[], rfl⟩
  | k :: ks, r => by
    obtain ⟨h1, h2, h3⟩ := uA k ks r
    obtain ⟨yv, ih⟩ := vL ks (r - (qW k ks r : Int) * k.w)
    have split : List.range (ofn k r + 1) = List.range (qW k ks r) ++ (qW k ks r :: (List.range' (qW k ks r + 1) (ofn k r - qW k ks r))) := by
      rw [List.range_eq_range', List.range_eq_range', <- List.range'_succ]
      have := List.range'_append_1 (s := 0) (m := qW k ks r) (n := ofn k r - qW k ks r + 1)
      rw [Nat.zero_add] at this
      rw [this]
      congr 1
      omega
    simp only [ju]
    rw [split, List.flatMap_append, List.flatMap_cons, List.filter_append, List.filter_append]
    have z : ((List.range (qW k ks r)).flatMap fun t : Nat => (ju ks (r - (t : Int) * k.w)).map fun l => (t : Int) :: l).filter (fun l => decide (qF (k :: ks) l = qL (k :: ks) r)) = [] := by
      rw [List.filter_eq_nil_iff]
      intro l hl
      obtain ⟨t, ht, h4⟩ := List.mem_flatMap.mp hl
      obtain ⟨l', hl', rfl⟩ := List.mem_map.mp h4
      have h5 := h3 t (List.mem_range.mp ht)
      have h6 := v4 ks _ l' hl'
      have e : qF (k :: ks) ((t : Int) :: l') = (t : Int) * k.v + qF ks l' := rfl
      rw [e]
      simp
      omega
    rw [z, List.nil_append, List.filter_map]
    have e : (fun l => decide (qF (k :: ks) l = qL (k :: ks) r)) ∘ (fun l => (qW k ks r : Int) :: l) = fun l => decide (qF ks l = qL ks (r - (qW k ks r : Int) * k.w)) := by
      funext l
      have e1 : qF (k :: ks) ((qW k ks r : Int) :: l) = (qW k ks r : Int) * k.v + qF ks l := rfl
      simp only [Function.comp_def, e1, <- h2]
      rw [decide_eq_decide]
      omega
    rw [e, ih]
    exact ⟨_, rfl⟩
end L2.Sk.Law
namespace L2.Sk
namespace Law
open PySem PySem.Spec PyProof.Rows
def top (i : Nat) : Stmt := PySem.Challenge.pw_sackloads_k08_best_worths.main.body.getD i (.Pass ⟨0, 0, 0, 0⟩)
abbrev jx : Stmt := top 36
abbrev zR : Stmt := top 42
abbrev jy : Stmt := top 24
abbrev jd : Stmt := top 25
abbrev zb : Stmt := top 30
abbrev zZ : Stmt := top 19
abbrev z9 : Stmt := top 26
abbrev ja : Stmt := top 27
abbrev jz : Stmt := top 22
abbrev j8 : Stmt := top 13
abbrev j9 : Stmt := top 14
abbrev zS : Stmt := top 18
abbrev yN : Stmt := top 15
abbrev jA : Stmt := top 16
abbrev zT : Stmt := top 17
abbrev zU : Stmt := top 23
abbrev jb : Stmt := top 31
abbrev zv : Stmt := top 28
abbrev zV : Stmt := top 29
abbrev jB : Stmt := top 43
abbrev ya : Stmt := top 39
abbrev qI : Stmt := top 40
abbrev qR : Stmt := top 41
abbrev zB : Stmt := top 37
abbrev zC : Stmt := top 38
abbrev yb : Stmt := top 34
abbrev jC : Stmt := top 33
abbrev yc : Stmt := top 35
abbrev vU : Stmt := top 44
structure Txt (K : PySem.W.Frag) (mg : Str -> Option Value) : Prop where
  b_ValueError : mg "ValueError" = none
  b_abs : mg "abs" = none
  b_all : mg "all" = none
  b_bool : mg "bool" = none
  b_divmod : mg "divmod" = none
  b_enumerate : mg "enumerate" = none
  b_int : mg "int" = none
  b_isinstance : mg "isinstance" = none
  b_len : mg "len" = none
  b_max : mg "max" = none
  b_min : mg "min" = none
  b_range : mg "range" = none
  b_repr : mg "repr" = none
  b_reversed : mg "reversed" = none
  b_tuple : mg "tuple" = none
  c_ASKED_AT_MOST : ∃ t, mg "ASKED_AT_MOST" = some (.int 200 t)
  c_KINDS_AT_MOST : ∃ t, mg "KINDS_AT_MOST" = some (.int 12 t)
  c_MOST : ∃ t, mg "MOST" = some (.int 2 t)
  c_WEIGHT : ∃ t, mg "WEIGHT" = some (.int 0 t)
  c_WORTH : ∃ t, mg "WORTH" = some (.int 1 t)
def RN : List Str := ["TooMany", "NoNumber", "NoStore"]
def TN : List Str := ["SackError", "NoText", "NotSingle", "TooMany", "NoLoad", "NoNumber", "NoStore"]
noncomputable def yT : MS :=
    (qB (qgn (qz wz (qa (qcx 0 (ret (.int 0))) (qa (dv 1) (ret [])))) (qag 2 (ze (ql 2) (ze (ql 3) qaf))))
    (qB (qfB 0 (ret (.int 0)) (dv 2))
    (jt (dv 3))))
noncomputable def qi : List D -> List D -> R (D × List D) := wC 4 2 yT
noncomputable def jN : MS :=
    (qB (sif (tor (qe8 (tst (qdp RN "SackError" (dv 0)))) (qe8 (tst (qdp RN "ValueError" (dv 0))))) (jt (ret (.str "other"))) jW)
    (qB (zp 1 (jQ (qa (qdp RN "NoStore" (dv 0)) (qa (qdp RN "NoNumber" (dv 0)) (qa (qdp RN "NoLoad" (dv 0)) (qa (qdp RN "TooMany" (dv 0)) (ret [])))))))
    (qB (zp 1 (d2 zt (dv 1) (jQ (qa (qdp RN "NotSingle" (dv 0)) (qa (qdp RN "NoText" (dv 0)) (ret []))))))
    (qB (sif (tst (d2 neS (qaN qbC (dv 1) (qa (ret (.bl true)) (ret []))) (ret (.int 1)))) (jt (ret (.str "other"))) jW)
    (jt (d2 ixD (jQ (qa (ret (.str "store")) (qa (ret (.str "number")) (qa (ret (.str "load")) (qa (ret (.str "many")) (qa (ret (.str "single")) (qa (ret (.str "text")) (ret [])))))))) (qaN qbD (dv 1) (qa (ret (.bl true)) (ret [])))))))))
noncomputable def zW : List D -> R D := dfn 2 1 jN
noncomputable def yU : MS :=
    (jt (d2 qe9 (dv 2) (d2 yr (dv 1) (d2 ixD (dv 0) (ret (.int 0))))))
noncomputable def jc : List D -> R D := dfn 3 3 yU
noncomputable def yz : MS :=
    (jt (d2 zt (d2 yr (dv 1) (d2 ixD (dv 0) (ret (.int 1)))) (d2 ixD (dv 2) (qj jc (qa (dv 0) (qa (dv 1) (qa (dv 3) (ret []))))))))
noncomputable def zh : List D -> R D := dfn 4 4 yz
noncomputable def z6 : MS :=
    (qB (zp 4 (ret (.int 0)))
    (qB (qan (tst (d2 ltD (qj zh (qa (dv 0) (qa (dv 4) (qa (dv 2) (qa (dv 3) (ret [])))))) (dv 1))) (zp 4 (d2 zt (dv 4) (ret (.int 1)))))
    (jt (dv 4))))
noncomputable def zc : List D -> R D := dfn 5 4 z6
noncomputable def jY : MS :=
    (qB (zp 2 (d2 vv (dv 1) (d2 ixD (dv 0) (ret (.int 0)))))
    (jt (dif (tst (d2 isN (d2 ixD (dv 0) (ret (.int 2))) (ret .non))) (dv 2) (qz uR (qa (dv 2) (qa (d2 ixD (dv 0) (ret (.int 2))) (ret [])))))))
noncomputable def jq : List D -> R D := dfn 3 2 jY
noncomputable def yV : MS :=
    (jt (qz ue (qa (qV 1 [0, 1, 2] none (zf (qa (d2 zt (qj jq (qa (dv 0) (qa (dv 2) (ret [])))) (ret (.int 1))) (ret []))) (ql 0) (ret true) (qj zh (qa (dv 1) (qa (dv 0) (qa (dv 2) (qa (dv 3) (ret []))))))) (ret []))))
noncomputable def zX : List D -> R D := dfn 3 3 yV
noncomputable def yW : MS :=
    (qB (yG 2 (qfW (qa (d2 yr (jQ (qa (ret (.int 0)) (ret []))) (d2 zt (dv 1) (ret (.int 1)))) (ret []))))
    (qB (u5 (qjT (qa (dv 0) (ret []))) (ql 3) (ji (uq 2 (qV 1 [3, 2] (some (2, 2)) (zf (qa (d2 zt (dv 1) (ret (.int 1))) (ret []))) (ql 0) (ret true) (qj zX (qa (dv 1) (qa (qcx 2 (ret (.int 0))) (qa (dv 0) (ret [])))))))))
    (qhD 2)))
noncomputable def yj : List D -> R D := dfn 4 2 yW
noncomputable def yO : MS :=
    (sif (tst (d2 gtD (dv 0) (ret (.int 200)))) (qao "TooMany" (qa (ret (.str "a room or a worth greater than 200 is asked for")) (ret []))) jW)
noncomputable def yd : List D -> R D := wH 1 1 yO
noncomputable def uB : MS :=
    (jt (qiz (qhx "int" (dv 0)) (qka (qhx "bool" (dv 0)))))
noncomputable def uC : List D -> R D := dfn 1 1 uB
noncomputable def uD : MS :=
    (jt (qiz (qj uC (qa (dv 0) (ret []))) (d2 geD (dv 0) (ret (.int 0)))))
noncomputable def jD : List D -> R D := dfn 1 1 uD
noncomputable def jO : MS :=
    (sif (qe8 (tst (qj jD (qa (dv 0) (ret []))))) (qao "NoNumber" (qa (ret (.str "this is no whole number from 0 on")) (ret []))) jW)
noncomputable def je : List D -> R D := wH 1 1 jO
noncomputable def vk : MS :=
    (qB (sif (tor (qe8 (tst (qhx "tuple" (dv 0)))) (tst (d2 neB (qz qfa (qa (dv 0) (ret []))) (ret (.int 3))))) (jt (ret (.bl false))) jW)
    (qB (sif (tor (qe8 (tst (qj jD (qa (d2 ixD (dv 0) (ret (.int 0))) (ret []))))) (tst (d2 eqB (d2 ixD (dv 0) (ret (.int 0))) (ret (.int 0))))) (jt (ret (.bl false))) jW)
    (jt (qiz (qj jD (qa (d2 ixD (dv 0) (ret (.int 1))) (ret []))) (dor (d2 isN (d2 ixD (dv 0) (ret (.int 2))) (ret .non)) (qj jD (qa (d2 ixD (dv 0) (ret (.int 2))) (ret []))))))))
noncomputable def uu : List D -> R D := dfn 1 1 vk
noncomputable def uE : MS :=
    (qB (sif (tor (qe8 (tst (qhx "tuple" (dv 0)))) (tst (d2 gtD (qz qfa (qa (dv 0) (ret []))) (ret (.int 12))))) (jt (ret (.bl false))) jW)
    (jt (qz qiB (qa (qV 1 [] none (uJ (dv 0)) (ql 0) (ret true) (qj uu (qa (dv 0) (ret [])))) (ret [])))))
noncomputable def uF : List D -> R D := dfn 1 1 uE
noncomputable def yA : MS :=
    (sif (qe8 (tst (qj uF (qa (dv 0) (ret []))))) (qao "NoStore" (qa (ret (.str "this is no store")) (ret []))) jW)
noncomputable def yB : List D -> R D := wH 1 1 yA
noncomputable def jf : MS :=
    (qB (ji (yL RN yB (qa (dv 0) (ret []))))
    (qB (ji (yL RN je (qa (dv 1) (ret []))))
    (ji (yL RN yd (qa (dv 1) (ret []))))))
noncomputable def qM : List D -> R D := wH 2 2 jf
noncomputable def yk : MS :=
    (qB (ji (yL RN qM (qa (dv 0) (qa (dv 1) (ret [])))))
    (qB (zp 2 (qj yj (qa (dv 0) (qa (dv 1) (ret [])))))
    (qB (yG 3 (qfD (ret [])))
    (qB (zp 4 (dv 1))
    (qB (u5 (qev (qa (dv 0) (ret []))) (qag 2 (ze (ql 5) (ze (ql 6) qaf))) (qB (zp 7 (qj zc (qa (dv 6) (qa (d2 ixD (d2 ixD (dv 2) (dv 5)) (dv 4)) (qa (d2 ixD (dv 2) (d2 zt (dv 5) (ret (.int 1)))) (qa (dv 4) (ret [])))))))
    (qB (ji (qZ 3 (dv 7)))
    (zp 4 (qj jc (qa (dv 6) (qa (dv 7) (qa (dv 4) (ret [])))))))))
    (jt (qdf 3)))))))
noncomputable def jE : List D -> R D := wH 8 2 yk
noncomputable def jr : MS :=
    (qB (ji (yL RN qM (qa (dv 0) (qa (dv 1) (ret [])))))
    (jt (d2 ixD (qj yj (qa (dv 0) (qa (dv 1) (ret [])))) (ret (.int 0)))))
noncomputable def zw : List D -> R D := wH 2 2 jr
noncomputable def jP : MS :=
    (jt (d2 ixD (yL RN zw (qa (dv 0) (qa (dv 1) (ret [])))) (dv 1)))
noncomputable def jg : List D -> R D := wH 2 2 jP
noncomputable def zx : MS :=
    (qeD RN (qB (sif (tst (d2 eqB (dv 0) (ret (.int 0)))) (jt (yL RN zw (qa (dv 1) (qa (dv 2) (ret []))))) jW)
    (qB (sif (tst (d2 eqB (dv 0) (ret (.int 1)))) (jt (yL RN jg (qa (dv 1) (qa (dv 2) (ret []))))) jW)
    (jt (yL RN jE (qa (dv 1) (qa (dv 2) (ret []))))))) zW)
noncomputable def qg : List D -> R D := dfn 4 3 zx
noncomputable def uG : MS :=
    (qB (zp 3 (ret (.int 0)))
    (qB (u5 (zf (qa (qz qfa (qa (dv 0) (ret []))) (ret []))) (ql 4) (zp 3 (d2 zt (dv 3) (d2 yr (d2 ixD (d2 ixD (dv 0) (dv 4)) (dv 2)) (d2 ixD (dv 1) (dv 4))))))
    (jt (dv 3))))
noncomputable def qO : List D -> R D := dfn 5 3 uG
noncomputable def z7 : MS :=
    (qB (zp 2 (jQ (qa (uZ (qa (uZ (ret [])) (qa (dv 1) (ret [])))) (ret []))))
    (qB (u5 (uJ (dv 0)) (qag 3 (ze (ql 3) (ze (ql 4) (ze (ql 5) qaf)))) (qB (zp 6 (jQ (ret [])))
    (qB (u5 (uJ (dv 2)) (qag 2 (ze (ql 7) (ze (ql 8) qaf))) (qB (zp 9 (d2 vv (dv 8) (dv 3)))
    (qB (sif (tst (d2 qfq (dv 5) (ret .non))) (zp 9 (qz uR (qa (dv 9) (qa (dv 5) (ret []))))) jW)
    (zp 6 (d2 zt (dv 6) (qV 1 [7, 8, 3] none (zf (qa (d2 zt (dv 9) (ret (.int 1))) (ret []))) (ql 0) (ret true) (uZ (qa (d2 zt (dv 1) (uZ (qa (dv 0) (ret [])))) (qa (d2 qe9 (dv 2) (d2 yr (dv 0) (dv 3))) (ret []))))))))))
    (zp 2 (dv 6)))))
    (jt (qV 2 [] none (uJ (dv 2)) (qag 2 (ze (ql 0) (ze (ql 1) qaf))) (ret true) (dv 0)))))
noncomputable def qo : List D -> R D := dfn 10 2 z7
noncomputable def jI : MS :=
    (qB (zp 2 (qj qo (qa (dv 0) (qa (dv 1) (ret [])))))
    (qB (zp 3 (qV 1 [0] none (uJ (dv 2)) (ql 0) (ret true) (qj qO (qa (dv 1) (qa (dv 0) (qa (ret (.int 1)) (ret [])))))))
    (jt (uZ (qa (qz ue (qa (dv 3) (ret []))) (qa (d2 ixD (dv 2) (qaN qas (dv 3) (qa (qz ue (qa (dv 3) (ret []))) (ret [])))) (qa (qaN qar (dv 3) (qa (qz ue (qa (dv 3) (ret []))) (ret []))) (ret []))))))))
noncomputable def zk : List D -> R D := dfn 4 2 jI
noncomputable def jJ : MS :=
    (qB (zp 2 (qq qi 0 (qa (ret (.int 6)) (ret []))))
    (qB (qhQ 3 4 (qa (d2 zt (ret (.int 1)) (qq qi 0 (qa (ret (.int 7)) (ret [])))) (qa (qq qi 0 (qa (ret (.int 10)) (ret []))) (ret []))))
    (qB (sif (tst (d2 eqB (dv 2) (ret (.int 1)))) (zp 4 (d2 yr (ret (.int 2)) (dv 3))) jW)
    (qB (sif (tst (d2 eqB (dv 2) (ret (.int 2)))) (zp 4 (d2 zt (dv 3) (qq qi 0 (qa (ret (.int 3)) (ret []))))) jW)
    (qB (sif (tst (d2 eqB (dv 2) (ret (.int 3)))) (qhQ 3 4 (qa (d2 zt (ret (.int 1)) (qq qi 0 (qa (ret (.int 25)) (ret [])))) (qa (qq qi 0 (qa (ret (.int 40)) (ret []))) (ret [])))) jW)
    (qB (zp 5 (d2 ixD (jQ (qa (ret (.int 1)) (qa (ret (.int 1)) (qa (ret (.int 1)) (qa (ret (.int 2)) (qa (ret (.int 3)) (qa (ret (.int 0)) (qa (ret (.int 5)) (qa (dv 1) (ret [])))))))))) (qq qi 0 (qa (ret (.int 8)) (ret [])))))
    (jt (uZ (qa (dv 3) (qa (dv 4) (qa (dv 5) (ret []))))))))))))
noncomputable def zl : List D -> List D -> R (D × List D) := wC 6 2 jJ
noncomputable def jK : MS :=
    (qB (yG 3 (qfD (ret [])))
    (qB (u5 (zf (qa (qq qi 0 (qa (d2 zt (dv 1) (ret (.int 1))) (ret []))) (ret []))) (ql 4) (qB (zp 5 (qq zl 0 (qa (dv 2) (ret []))))
    (qB (sif (qhp (tst (qgA 3 (jQ (ret [])))) (tst (d2 eqB (qq qi 0 (qa (ret (.int 7)) (ret []))) (ret (.int 6))))) (zp 5 (qcx 3 (qq qi 0 (qa (qbr 3) (ret []))))) jW)
    (ji (qZ 3 (dv 5))))))
    (jt (qdf 3))))
noncomputable def zm : List D -> List D -> R (D × List D) := wC 6 3 jK
noncomputable def uH : MS :=
    (qB (zp 2 (jQ (qa (ret (.int 48271)) (qa (ret (.int 69621)) (qa (ret (.int 16807)) (qa (ret (.int 39373)) (qa (ret (.int 30269)) (qa (ret (.int 40014)) (qa (ret (.int 40692)) (qa (ret (.int 50021)) (qa (ret (.int 61687)) (qa (ret (.int 71993)) (qa (ret (.int 83869)) (qa (ret (.int 95561)) (qa (ret (.int 30307)) (ret []))))))))))))))))
    (qB (zp 3 (d2 zt (d2 zt (d2 yr (d2 zt (d2 qgq (dv 0) (ret (.int 2147483647))) (ret (.int 12345))) (d2 ixD (dv 2) (d2 qgq (dv 1) (ret (.int 13))))) (d2 yr (ret (.int 977)) (dv 1))) (d2 yr (ret (.int 7919)) (d2 vv (dv 1) (ret (.int 13))))))
    (qB (zp 3 (d2 qgq (dv 3) (ret (.int 1000000007))))
    (jt (d2 vv (d2 qgq (d2 zt (d2 yr (dv 3) (dv 3)) (d2 yr (ret (.int 48271)) (dv 1))) (ret (.int 1000000007))) (ret (.int 7)))))))
noncomputable def ye : List D -> R D := dfn 4 2 uH
noncomputable def ym : MS :=
    (qB (sif (tst (d2 ltD (dv 1) (qz qfa (qa (dv 0) (ret []))))) (jt (d2 ixD (dv 0) (dv 1))) jW)
    (jt (ret (.int 0))))
noncomputable def jF : List D -> R D := dfn 2 2 ym
noncomputable def yP : MS :=
    (qB (zp 2 (qj jF (qa (dv 0) (qa (dv 1) (ret [])))))
    (qB (sif (tst (d2 eqB (d2 qgq (dv 2) (ret (.int 2))) (ret (.int 0)))) (jt (jQ (qa (d2 vv (qz qkb (qa (dv 2) (ret []))) (ret (.int 2))) (ret [])))) jW)
    (qB (zp 3 (ret (.int 0)))
    (qB (u5 (zf (qa (ret (.int 40)) (ret []))) (ql 4) (zp 3 (d2 zt (d2 yr (dv 3) (ret (.int 142857143))) (qj ye (qa (dv 2) (qa (dv 4) (ret [])))))))
    (jt (jQ (qa (dv 3) (ret []))))))))
noncomputable def jh : List D -> R D := dfn 5 2 yP
noncomputable def qf9 : MS :=
    (qB (u5 (zf (qa (qz qht (qa (ret (.int 1)) (qa (qz uR (qa (qz qfa (qa (dv 0) (ret []))) (qa (ret (.int 3)) (ret [])))) (ret [])))) (ret []))) (ql 1) (qB (yG 2 (va jh (qa (dv 0) (qa (dv 1) (ret [])))))
    (qB (zp 3 (qq zm 2 (qa (ret (.int 4)) (qa (ret .non) (ret [])))))
    (qB (zp 4 (qq qi 2 (qa (ret (.int 19)) (ret []))))
    (qB (yG 5 (qfD (ret [])))
    (qB (u5 (zf (qa (d2 zt (dv 4) (ret (.int 1))) (ret []))) (ql 6) (ji (qZ 5 (qz ue (qa (d2 zt (jQ (qa (ret (.int 0)) (ret []))) (qV 1 [3] none (uJ (qj qo (qa (dv 3) (qa (dv 6) (ret []))))) (ql 0) (ret true) (qj qO (qa (dv 1) (qa (dv 0) (qa (ret (.int 1)) (ret []))))))) (ret []))))))
    (qB (u5 (zf (qa (ret (.int 2)) (ret []))) (ql 7) (qB (yG 8 (va qg (qa (ret (.int 0)) (qa (dv 3) (qa (dv 4) (ret []))))))
    (qB (sif (tst (d2 neB (vd (qz zE (qa (dv 8) (ret [])))) (vd (qz zE (qa (dv 5) (ret [])))))) (jt (ret (.bl false))) jW)
    (ji (qZ 8 (ret (.int 0)))))))
    (qB (qgn (qj zk (qa (dv 3) (qa (dv 4) (ret [])))) (qag 3 (ze (ql 9) (ze (ql 10) (ze (ql 11) qaf)))))
    (qB (sif (tor (tst (d2 neB (qz zE (qa (qj qg (qa (ret (.int 1)) (qa (dv 3) (qa (dv 4) (ret []))))) (ret []))) (qz zE (qa (dv 9) (ret []))))) (tst (d2 neB (qz zE (qa (qj qg (qa (ret (.int 2)) (qa (dv 3) (qa (dv 4) (ret []))))) (ret []))) (qz zE (qa (dv 10) (ret [])))))) (jt (ret (.bl false))) jW)
    (qB (u5 (uJ (jQ (qa (d1 qgB (ret (.int 1))) (qa (ret .non) (qa (ret (.bl true)) (qa (ret (.str "1")) (qa (uZ (qa (ret (.int 1)) (ret []))) (ret [])))))))) (ql 12) (sif (tst (d2 neB (qV 1 [3, 12] none (zf (qa (ret (.int 3)) (ret []))) (ql 0) (ret true) (qj qg (qa (dv 0) (qa (dv 1) (qa (dv 2) (ret [])))))) (d2 yr (jQ (qa (ret (.str "number")) (ret []))) (ret (.int 3))))) (jt (ret (.bl false))) jW))
    (u5 (uJ (jQ (qa (ret (.int 201)) (qa (d2 zt (ret (.int 201)) (qq qi 2 (qa (d2 qgC (ret (.int 10)) (ret (.int 20))) (ret [])))) (ret []))))) (ql 13) (sif (tst (d2 neB (qV 1 [3, 13] none (zf (qa (ret (.int 3)) (ret []))) (ql 0) (ret true) (qj qg (qa (dv 0) (qa (dv 1) (qa (dv 2) (ret [])))))) (d2 yr (jQ (qa (ret (.str "many")) (ret []))) (ret (.int 3))))) (jt (ret (.bl false))) jW))))))))))))
    (jt (ret (.bl true))))
noncomputable def qcg : List D -> R D := dfn 14 1 qf9
local macro_rules | `(tactic| push_cast [$xs,*]) => `(tactic| simp only [jV, qfF, qlh, yh, qbv, qei, qgE, qkO, qli, vE, vb, qgF, qhV, vQ, qgG, qgH, qhW, qgI, qjD, qgJ, qhX, qfG, vR, uK, qaH, qaI, qej, qgL, qek, yy, qel, qem, qgM, qbw, qb5, qen, qeo, qep, qeq, qgN, wF, qjE, qer, List.length_cons, List.length_nil, List.map_cons, List.map_nil, List.replicate, List.nil_append, List.cons_append, List.append_nil, List.getElem?_cons_zero, List.getElem?_cons_succ, List.set_cons_zero, List.set_cons_succ, Nat.reduceAdd, Nat.reduceSub, Nat.sub_self, Nat.zero_add, reduceIte, Bool.not_true, Bool.not_false, Bool.false_eq_true, if_true, if_false, ite_true, ite_false, cond_true, cond_false, decide_true, decide_false, ix0, ix1, ix2, wN, uy, qb9, qaT, qcQ, qca, qaU, qaV, qeN, qgZ, qg0, qcJ, qcK, qcL, qgV, qaP, qb6, $xs,*])
theorem qa0 (d : D) : uC [d] = .ok (.bl (qie d)) := by
  unfold uC uB
  refine vJ rfl ⟨[some d], ?_⟩
  push_cast []
  cases d <;> rfl
theorem js (d : D) : jD [d] = .ok (.bl (z8 d)) := by
  unfold jD uD
  refine vJ rfl ⟨[some d], ?_⟩
  push_cast []
  rw [qa0]
  cases d <;> rfl
theorem qbJ (d : D) : uu [d] = .ok (.bl (uM d)) := by
  unfold uu vk
  refine vJ rfl ⟨[some d], ?_⟩
  cases d with
  | tup ds =>
    by_cases h : ds.length = 3
    . obtain ⟨a, b, c, rfl⟩ := qlZ h
      refine (qm (ρ' := [some (.tup [a, b, c])]) rfl).trans ?_
      by_cases hp : qeO a = true
      . refine (qm (ρ' := [some (.tup [a, b, c])]) ?_).trans ?_
        . cases a with
          | int i =>
            have h2 : 0 < i := of_decide_eq_true hp
            have h0 : 0 <= i := by omega
            have h1 : ¬ i = 0 := by omega
            push_cast [ix0, js, z8, qaT, vQ, h0, h1, decide_true, decide_false]
          | _ => exact absurd hp (by simp [qeO])
        . push_cast [ix1, ix2, js, qcQ, uM, hp, vQ, Bool.true_and]
          cases hb : z8 b <;> cases hc : ua c <;> rfl
      . refine (wO (d := .bl false) (ρ' := [some (.tup [a, b, c])]) ?_).trans ?_
        . cases a with
          | int i =>
            have h2 : ¬ 0 < i := fun z => hp (decide_eq_true z)
            push_cast [ix0, js, z8, qaT, vQ]
            by_cases h0 : 0 <= i
            . have h1 : i = 0 := by omega
              subst h1; rfl
            . simp only [h0, decide_false]
              rfl
          | _ => rfl
        . have hp' : qeO a = false := by simpa using hp
          simp only [uM, hp', Bool.false_and]
    . refine (wO (d := .bl false) (ρ' := [some (.tup ds)]) ?_).trans ?_
      . push_cast []
        have h3 : ¬ ((ds.length : Int) = 3) := by omega
        simp only [wN, uy, qb9, h3, decide_false, vQ]
        rfl
      . rw [qds h]
  | _ => rfl
theorem qa1 (d : D) : uF [d] = .ok (.bl (yH d)) := by
  unfold uF uE
  refine vJ rfl ⟨[some d], ?_⟩
  cases d with
  | tup ds =>
    by_cases h : ds.length <= 12
    . have h2 : ¬ ((12 : Int) < (ds.length : Int)) := by omega
      refine (qm (ρ' := [some (.tup ds)]) ?_).trans ?_
      . push_cast [wN, uy, qaU, h2, decide_false, vQ]
      . rw [vR, qif (F := uu) (f := uM) (xs := uJ (dv 0)) (ds := ds) (ρ := [some (.tup ds)]) rfl (fun d _ => qbJ d) (by omega)]
        simp only [yH, h, decide_true, Bool.true_and]
    . have h2 : ((12 : Int) < (ds.length : Int)) := by omega
      refine (wO (d := .bl false) (ρ' := [some (.tup ds)]) ?_).trans ?_
      . push_cast [wN, uy, qaU, h2, decide_true, vQ]
      . simp only [yH, h, decide_false, Bool.false_and]
  | _ => rfl
theorem sm1 : qG 1 = true := zQ (by omega)
theorem yX (d : D) (h : yH d = true) : yB [d] = .ok .non := by
  unfold yB
  refine qcM rfl ⟨[some d], ?_⟩
  unfold yA
  push_cast [qa1, h]
theorem vm (d : D) (h : z8 d = true) : je [d] = .ok .non := by
  unfold je
  refine qcM rfl ⟨[some d], ?_⟩
  unfold jO
  push_cast [js, h]
theorem qbK (d : D) (h : z8 d = false) : je [d] = .exc ⟨"NoNumber", .non⟩ [some d] := by
  unfold je
  refine wM rfl ?_
  unfold jO
  push_cast [js, h, sm1]
theorem qeZ {p : MS} {F : List D -> R D} {ρ ρ' : Env} {d : D} (h : p ρ = .ok (.rt d ρ')) : qeD RN p F ρ = .ok (.rt d ρ') := by rw [qgU, h]
theorem qil {p : MS} {F : List D -> R D} {ρ ρ' : Env} {d v : D} {n : Str} (h : p ρ = .exc ⟨n, v⟩ ρ') (hn : RN.contains n = true) (hF : F [.exc n] = .ok d) : qeD RN p F ρ = .ok (.rt d ρ') := by
  rw [qgU, h]
  simp only [hn, if_true, hF]
theorem jG {n m : Int} (h0 : 0 < m) (h1 : m < 1606938044258990275541962092341162602522202993782792835301376) : qi [.int n] [.int m] = .ok (.int (n % m), [.int (n / m)]) := by
  unfold qi
  refine qes (ρ := [some (.lst [.int (n / m)]), some (.int m), some (.int (n / m)), some (.int (n % m))]) rfl ?_ rfl
  unfold yT
  refine (qm (ρ' := [some (.lst [.int n]), some (.int m), some (.int (n / m)), some (.int (n % m))]) ?_).trans ?_
  . push_cast [at0, qeP h0 h1, qag, ze, ql, qaf, Option.bind_some]
  . refine (qm (ρ' := [some (.lst [.int (n / m)]), some (.int m), some (.int (n / m)), some (.int (n % m))]) ?_).trans rfl
    push_cast [ql0, imm]
theorem qdt (n : Int) (c : D) : ∃ a b m n', zl [.int n] [c] = .ok (.tup [.int a, .int b, m], [.int n']) /\ 1 <= a /\ a <= 25 /\ 0 <= b /\ b <= 39 /\ qig c m := by
  have s2 : ∀ n k : Int, ∃ n' a b, (qhQ 3 4 (qa (d2 zt (ret (.int 1)) (qq qi 0 (qa (ret (.int 7)) (ret [])))) (qa (qq qi 0 (qa (ret (.int 10)) (ret []))) (ret [])))) [some (.lst [.int n]), some c, some (.int k), none, none, none] = .ok (.nx [some (.lst [.int n']), some c, some (.int k), some (.int a), some (.int b), none]) /\ 1 <= a /\ a <= 7 /\ 0 <= b /\ b <= 9 := by
    intro n k
    refine ⟨n / 7 / 10, 1 + n % 7, n / 7 % 10, ?_, by omega, by omega, by omega, by omega⟩
    push_cast [jG (m := 7) (by decide) (by decide), jG (m := 10) (by decide) (by decide), zg]
  have s3 : ∀ n k a b : Int, 1 <= a -> a <= 7 -> 0 <= b -> b <= 9 -> ∃ b', (sif (tst (d2 eqB (dv 2) (ret (.int 1)))) (zp 4 (d2 yr (ret (.int 2)) (dv 3))) jW) [some (.lst [.int n]), some c, some (.int k), some (.int a), some (.int b), none] = .ok (.nx [some (.lst [.int n]), some c, some (.int k), some (.int a), some (.int b'), none]) /\ 0 <= b' /\ b' <= 14 := by
    intro n k a b h1 h2 h3 h4
    by_cases hk : k = 1
    . refine ⟨2 * a, ?_, by omega, by omega⟩
      push_cast [hk, ql1]
    . refine ⟨b, ?_, by omega, by omega⟩
      push_cast [hk]
  have s4 : ∀ n k a b : Int, 1 <= a -> a <= 7 -> 0 <= b -> b <= 14 -> ∃ n' b', (sif (tst (d2 eqB (dv 2) (ret (.int 2)))) (zp 4 (d2 zt (dv 3) (qq qi 0 (qa (ret (.int 3)) (ret []))))) jW) [some (.lst [.int n]), some c, some (.int k), some (.int a), some (.int b), none] = .ok (.nx [some (.lst [.int n']), some c, some (.int k), some (.int a), some (.int b'), none]) /\ 0 <= b' /\ b' <= 14 := by
    intro n k a b h1 h2 h3 h4
    by_cases hk : k = 2
    . refine ⟨n / 3, a + n % 3, ?_, by omega, by omega⟩
      push_cast [hk, zg, jG (m := 3) (by decide) (by decide)]
    . refine ⟨n, b, ?_, by omega, by omega⟩
      push_cast [hk]
  have s5 : ∀ n k a b : Int, 1 <= a -> a <= 7 -> 0 <= b -> b <= 14 -> ∃ n' a' b', (sif (tst (d2 eqB (dv 2) (ret (.int 3)))) (qhQ 3 4 (qa (d2 zt (ret (.int 1)) (qq qi 0 (qa (ret (.int 25)) (ret [])))) (qa (qq qi 0 (qa (ret (.int 40)) (ret []))) (ret [])))) jW) [some (.lst [.int n]), some c, some (.int k), some (.int a), some (.int b), none] = .ok (.nx [some (.lst [.int n']), some c, some (.int k), some (.int a'), some (.int b'), none]) /\ 1 <= a' /\ a' <= 25 /\ 0 <= b' /\ b' <= 39 := by
    intro n k a b h1 h2 h3 h4
    by_cases hk : k = 3
    . refine ⟨n / 25 / 40, 1 + n % 25, n / 25 % 40, ?_, by omega, by omega, by omega, by omega⟩
      push_cast [hk, zg, jG (m := 25) (by decide) (by decide), jG (m := 40) (by decide) (by decide)]
    . refine ⟨n, a, b, ?_, by omega, by omega, by omega, by omega⟩
      push_cast [hk]
  have s6 : ∀ n k a b : Int, ∃ n' m, (zp 5 (d2 ixD (jQ (qa (ret (.int 1)) (qa (ret (.int 1)) (qa (ret (.int 1)) (qa (ret (.int 2)) (qa (ret (.int 3)) (qa (ret (.int 0)) (qa (ret (.int 5)) (qa (dv 1) (ret [])))))))))) (qq qi 0 (qa (ret (.int 8)) (ret []))))) [some (.lst [.int n]), some c, some (.int k), some (.int a), some (.int b), none] = .ok (.nx [some (.lst [.int n']), some c, some (.int k), some (.int a), some (.int b), some m]) /\ qig c m := by
    intro n k a b
    obtain ⟨m, hm, e⟩ := qeQ (ds := [.int 1, .int 1, .int 1, .int 2, .int 3, .int 0, .int 5, c]) (k := n % 8) (by omega) (by simp; omega)
    refine ⟨n / 8, m, ?_, ?_⟩
    . push_cast [jG (m := 8) (by decide) (by decide), zQ (show 8 <= 1000000 by omega), e]
    . simp only [List.mem_cons, List.not_mem_nil, or_false] at hm
      rcases hm with h | h | h | h | h | h | h | h
      . exact .inr ⟨_, h, by omega, by omega⟩
      . exact .inr ⟨_, h, by omega, by omega⟩
      . exact .inr ⟨_, h, by omega, by omega⟩
      . exact .inr ⟨_, h, by omega, by omega⟩
      . exact .inr ⟨_, h, by omega, by omega⟩
      . exact .inr ⟨_, h, by omega, by omega⟩
      . exact .inr ⟨_, h, by omega, by omega⟩
      . exact .inl h
  obtain ⟨n2, a2, b2, e2, p2, q2, r2, t2⟩ := s2 (n / 6) (n % 6)
  obtain ⟨b3, e3, r3, t3⟩ := s3 n2 (n % 6) a2 b2 p2 q2 r2 t2
  obtain ⟨n4, b4, e4, r4, t4⟩ := s4 n2 (n % 6) a2 b3 p2 q2 r3 t3
  obtain ⟨n5, a5, b5, e5, p5, q5, r5, t5⟩ := s5 n4 (n % 6) a2 b4 p2 q2 r4 t4
  obtain ⟨n6, m, e6, g6⟩ := s6 n5 (n % 6) a5 b5
  refine ⟨a5, b5, m, n6, ?_, p5, q5, r5, t5, g6⟩
  unfold zl
  refine qes (ρ := [some (.lst [.int n6]), some c, some (.int (n % 6)), some (.int a5), some (.int b5), some m]) rfl ?_ rfl
  unfold jJ
  refine (qm (ρ' := [some (.lst [.int (n / 6)]), some c, some (.int (n % 6)), none, none, none]) ?_).trans ?_
  . push_cast [jG (m := 6) (by decide) (by decide)]
  refine (qm e2).trans ?_
  refine (qm e3).trans ?_
  refine (qm e4).trans ?_
  refine (qm e5).trans ?_
  refine (qm e6).trans ?_
  push_cast [zQ (show 3 <= 1000000 by omega)]
theorem qdu (n : Int) (ks : List D) (o4 o5 : Option D) (h : ∀ k ∈ ks, zK k) (hl : ks.length <= 12) : ∃ n' k', zK k' /\ (qB (zp 5 (qq zl 0 (qa (dv 2) (ret [])))) (qB (sif (qhp (tst (qgA 3 (jQ (ret [])))) (tst (d2 eqB (qq qi 0 (qa (ret (.int 7)) (ret []))) (ret (.int 6))))) (zp 5 (qcx 3 (qq qi 0 (qa (qbr 3) (ret []))))) jW) (ji (qZ 3 (dv 5))))) [some (.lst [.int n]), some (.int 4), some .non, some (.lst ks), o4, o5] = .ok (.nx [some (.lst [.int n']), some (.int 4), some .non, some (.lst (ks ++ [k'])), o4, some k']) := by
  obtain ⟨a, b, m, n1, e1, p1, p2, p3, p4, p5⟩ := qdt n .non
  have gk : zK (.tup [.int a, .int b, m]) := ⟨a, b, m, rfl, p1, p2, p3, p4, p5⟩
  obtain ⟨b0, eb, hb⟩ := qcb h
  have s1 : (zp 5 (qq zl 0 (qa (dv 2) (ret [])))) [some (.lst [.int n]), some (.int 4), some .non, some (.lst ks), o4, o5] = .ok (.nx [some (.lst [.int n1]), some (.int 4), some .non, some (.lst ks), o4, some (.tup [.int a, .int b, m])]) := by
    push_cast [e1]
  have s2 : ∃ n' k', zK k' /\ (sif (qhp (tst (qgA 3 (jQ (ret [])))) (tst (d2 eqB (qq qi 0 (qa (ret (.int 7)) (ret []))) (ret (.int 6))))) (zp 5 (qcx 3 (qq qi 0 (qa (qbr 3) (ret []))))) jW) [some (.lst [.int n1]), some (.int 4), some .non, some (.lst ks), o4, some (.tup [.int a, .int b, m])] = .ok (.nx [some (.lst [.int n']), some (.int 4), some .non, some (.lst ks), o4, some k']) := by
    cases b0 with
    | false =>
      refine ⟨n1, _, gk, ?_⟩
      push_cast [eb, zQ (show 0 <= 1000000 by omega)]
    | true =>
      have hne := hb rfl
      have hpos : 0 < ks.length := List.length_pos_iff.mpr hne
      by_cases h6 : n1 % 7 = 6
      . obtain ⟨k', hk', e⟩ := qjX (ds := ks) (k := n1 / 7 % (ks.length : Int)) (Int.emod_nonneg _ (by omega)) (Int.emod_lt_of_pos _ (by omega))
        refine ⟨n1 / 7 / (ks.length : Int), k', h k' hk', ?_⟩
        push_cast [eb, zQ (show 0 <= 1000000 by omega), jG (m := 7) (by decide) (by decide), h6, jG (m := (ks.length : Int)) (by omega) (by omega), e]
      . refine ⟨n1 / 7, _, gk, ?_⟩
        push_cast [eb, zQ (show 0 <= 1000000 by omega), jG (m := 7) (by decide) (by decide), h6]
  obtain ⟨n2, k', gk', e2⟩ := s2
  refine ⟨n2, k', gk', ?_⟩
  refine (qm s1).trans ((qm e2).trans ?_)
  push_cast [gk'.imm, zQ (show ks.length + 1 <= 1000000 by omega), Bool.and_self]
theorem qaw : ∀ (ds : List D) (n : Int) (ks : List D) (o4 o5 : Option D), (∀ k ∈ ks, zK k) -> ks.length + ds.length <= 4 ->
    ∃ n' ks' o4' o5', jU (ql 4) (qB (zp 5 (qq zl 0 (qa (dv 2) (ret [])))) (qB (sif (qhp (tst (qgA 3 (jQ (ret [])))) (tst (d2 eqB (qq qi 0 (qa (ret (.int 7)) (ret []))) (ret (.int 6))))) (zp 5 (qcx 3 (qq qi 0 (qa (qbr 3) (ret []))))) jW) (ji (qZ 3 (dv 5))))) ds [some (.lst [.int n]), some (.int 4), some .non, some (.lst ks), o4, o5] = .ok (.nx [some (.lst [.int n']), some (.int 4), some .non, some (.lst ks'), o4', o5']) /\ (∀ k ∈ ks', zK k) /\ ks'.length <= 4
  | [], n, ks, o4, o5, h, hl => ⟨n, ks, o4, o5, rfl, h, by simpa using hl⟩
  | d :: ds, n, ks, o4, o5, h, hl => by
    have hl' : ks.length + (ds.length + 1) <= 4 := hl
    obtain ⟨n1, k', gk, e⟩ := qdu n ks (some d) o5 h (by omega)
    obtain ⟨n', ks', o4', o5', q, g, l⟩ := qaw ds n1 (ks ++ [k']) (some d) (some k') (fun x hx => (List.mem_append.mp hx).elim (h x) fun hx => by
      rw [List.mem_singleton] at hx; subst hx; exact gk) (by rw [List.length_append, List.length_singleton]; omega)
    refine ⟨n', ks', o4', o5', ?_, g, l⟩
    unfold jU
    simp only [ql, List.set_cons_zero, List.set_cons_succ, e]
    exact q
theorem qdv (n : Int) : ∃ ks n', zm [.int n] [.int 4, .non] = .ok (.tup ks, [.int n']) /\ (∀ k ∈ ks, zK k) /\ ks.length <= 4 := by
  obtain ⟨n', ks', o4', o5', q, g, l⟩ := qaw (wZ 0 (n % 5).toNat) (n / 5) [] none none (fun _ h => by cases h) (by rw [qf0]; simp; omega)
  refine ⟨ks', n', ?_, g, l⟩
  unfold zm
  refine qes (ρ := [some (.lst [.int n']), some (.int 4), some .non, some (.lst ks'), o4', o5']) rfl ?_ rfl
  unfold jK
  refine (qm (ρ' := [some (.lst [.int n]), some (.int 4), some .non, some (.lst []), none, none]) ?_).trans ?_
  . push_cast [immL, zQ (show 0 <= 1000000 by omega), Bool.and_self]
  refine (qm (ρ' := [some (.lst [.int n']), some (.int 4), some .non, some (.lst ks'), o4', o5']) ?_).trans ?_
  . rw [yy, jX (j := n % 5) (ρ1 := [some (.lst [.int (n / 5)]), some (.int 4), some .non, some (.lst []), none, none]) ?_ (by omega) (by omega)]
    . exact q
    . push_cast [zg, jG (m := 5) (by decide) (by decide), Int.reduceAdd]
  . push_cast []
theorem qim (ns : List Int) (i : Int) (h0 : 0 <= i) : ∃ x, jF [.fz ns, .int i] = .ok (.int x) := by
  by_cases h : i < ns.length
  . obtain ⟨j, rfl⟩ := Int.eq_ofNat_of_zero_le h0
    have hj : j < ns.length := by omega
    have e : ixD (.fz ns) (.int (j : Int)) = some (.int ns[j]) := by
      show (atI ns (j : Int)).map D.int = _
      unfold atI ixN
      rw [if_pos (by omega), if_pos (by omega)]
      show (ns[(j : Int).toNat]?).map D.int = _
      rw [Int.toNat_natCast, List.getElem?_eq_getElem hj]; rfl
    refine ⟨ns[j], ?_⟩
    unfold jF ym
    refine vJ rfl ⟨[some (.fz ns), some (.int (j : Int))], ?_⟩
    refine (wO (d := .int ns[j]) (ρ' := [some (.fz ns), some (.int (j : Int))]) ?_)
    push_cast [e, qfa, h]
  . refine ⟨0, ?_⟩
    unfold jF ym
    refine vJ rfl ⟨[some (.fz ns), some (.int i)], ?_⟩
    refine (qm (ρ' := [some (.fz ns), some (.int i)]) ?_).trans rfl
    push_cast [qfa, h]
theorem qj2 (x j : Int) (h0 : 0 <= j) (h1 : j < 40) : ∃ v, ye [.int x, .int j] = .ok (.int v) := by
  obtain ⟨m, hm, e⟩ := qeQ (ds := [.int 48271, .int 69621, .int 16807, .int 39373, .int 30269, .int 40014, .int 40692, .int 50021, .int 61687, .int 71993, .int 83869, .int 95561, .int 30307]) (k := j % 13) (by omega) (by simp; omega)
  have hm2 : ∃ c, m = .int c /\ jL c = true := by
    have : m ∈ facts.map D.int := hm
    obtain ⟨c, hc, rfl⟩ := List.mem_map.mp this
    exact ⟨c, rfl, List.all_eq_true.mp (show facts.all jL = true by decide) c hc⟩
  obtain ⟨c, rfl, hc⟩ := hm2
  have f3 : ∀ s : Int, jL (s % 1000000007) = true := fun s => qaW (by omega) (by omega)
  have f977 : jL 977 = true := by decide
  have f79 : jL 7919 = true := by decide
  have f48 : jL 48271 = true := by decide
  let L : D := .lst [.int 48271, .int 69621, .int 16807, .int 39373, .int 30269, .int 40014, .int 40692, .int 50021, .int 61687, .int 71993, .int 83869, .int 95561, .int 30307]
  let s1 : Int := (x % 2147483647 + 12345) * c + 977 * j + 7919 * (j / 13)
  let s2 : Int := s1 % 1000000007
  refine ⟨(s2 * s2 + 48271 * j) % 1000000007 / 7, ?_⟩
  unfold ye uH
  refine vJ rfl ⟨[some (.int x), some (.int j), some L, some (.int s2)], ?_⟩
  refine (qm (ρ' := [some (.int x), some (.int j), some L, none]) ?_).trans ?_
  . push_cast [zQ (show 13 <= 1000000 by omega)]
    rfl
  refine (qm (ρ' := [some (.int x), some (.int j), some L, some (.int s1)]) ?_).trans ?_
  . push_cast [L, uz (j := 2147483647) (by decide), uz (j := 13) (by decide), zg, e, qih hc, qcc f977, qcc f79, ur (j := 13) (by decide) (by decide)]
    rfl
  refine (qm (ρ' := [some (.int x), some (.int j), some L, some (.int s2)]) ?_).trans ?_
  . push_cast [uz (j := 1000000007) (by decide), s2]
  . push_cast [uz (j := 1000000007) (by decide), s2, zg, qcc (f3 _), qcc f48, ur (j := 7) (by decide) (by decide)]
theorem qcZ (A B : Option D) (x : Int) : ∀ (ds : List D) (s : Int) (o : Option D), (∀ d ∈ ds, ∃ j : Int, d = .int j /\ 0 <= j /\ j < 40) -> ∃ s' o', jU (ql 4) (zp 3 (d2 zt (d2 yr (dv 3) (ret (.int 142857143))) (qj ye (qa (dv 2) (qa (dv 4) (ret [])))))) ds [A, B, some (.int x), some (.int s), o] = .ok (.nx [A, B, some (.int x), some (.int s'), o'])
  | [], s, o, _ => ⟨s, o, rfl⟩
  | d :: ds, s, o, h => by
    obtain ⟨j, rfl, h0, h1⟩ := h d List.mem_cons_self
    obtain ⟨v, e⟩ := qj2 x j h0 h1
    obtain ⟨s', o', q⟩ := qcZ A B x ds (s * 142857143 + v) (some (.int j)) fun y hy => h y (List.mem_cons_of_mem _ hy)
    refine ⟨s', o', ?_⟩
    have st : (zp 3 (d2 zt (d2 yr (dv 3) (ret (.int 142857143))) (qj ye (qa (dv 2) (qa (dv 4) (ret [])))))) [A, B, some (.int x), some (.int s), some (.int j)] = .ok (.nx [A, B, some (.int x), some (.int (s * 142857143 + v)), some (.int j)]) := by
      push_cast [e, qih (j := 142857143) (by decide), zg]
    unfold jU
    simp only [ql, List.set_cons_zero, List.set_cons_succ, st]
    exact q
theorem qj3 (ns : List Int) (i : Int) (h0 : 0 <= i) : ∃ n, jh [.fz ns, .int i] = .ok (.lst [.int n]) := by
  obtain ⟨x, e⟩ := qim ns i h0
  have s1 : (zp 2 (qj jF (qa (dv 0) (qa (dv 1) (ret []))))) [some (.fz ns), some (.int i), none, none, none] = .ok (.nx [some (.fz ns), some (.int i), some (.int x), none, none]) := by
    push_cast [e]
  by_cases hx : x % 2 = 0
  . refine ⟨(if x < 0 then -x else x) / 2, ?_⟩
    unfold jh yP
    refine vJ rfl ⟨[some (.fz ns), some (.int i), some (.int x), none, none], ?_⟩
    refine (qm s1).trans (wO ?_)
    push_cast [uz (j := 2) (by decide), hx, qkb, ur (j := 2) (by decide) (by decide), zQ (show 1 <= 1000000 by omega)]
  . obtain ⟨s', o', q⟩ := qcZ (some (.fz ns)) (some (.int i)) x (wZ 0 40) 0 none fun d hd => by
      unfold wZ at hd
      obtain ⟨k, hk, rfl⟩ := List.mem_map.mp hd
      have hk' := List.mem_range.mp hk
      exact ⟨_, rfl, by omega, by omega⟩
    refine ⟨s', ?_⟩
    unfold jh yP
    refine vJ rfl ⟨[some (.fz ns), some (.int i), some (.int x), some (.int s'), o'], ?_⟩
    refine (qm s1).trans ?_
    refine (qm (ρ' := [some (.fz ns), some (.int i), some (.int x), none, none]) ?_).trans ?_
    . push_cast [uz (j := 2) (by decide), hx]
    refine (qm (ρ' := [some (.fz ns), some (.int i), some (.int x), some (.int 0), none]) ?_).trans ?_
    . push_cast []
    refine (qm (ρ' := [some (.fz ns), some (.int i), some (.int x), some (.int s'), o']) ?_).trans ?_
    . rw [yy, jX (j := 40) (ρ1 := [some (.fz ns), some (.int i), some (.int x), some (.int 0), none]) rfl (by omega) (by omega)]
      exact q
    . push_cast [zQ (show 1 <= 1000000 by omega)]
def kw (k : Kw) : D := .tup [.int k.w, .int k.v, mD k.m]
def z0 (k : Kw) : Prop := (1 <= k.w /\ k.w <= 25) /\ (0 <= k.v /\ k.v <= 39) /\ ∀ j, k.m = some j -> 0 <= j /\ j <= 5
theorem z0.kd {k : Kw} (h : z0 k) : qj0 k := ⟨h.1.1, fun j e => (h.2.2 j e).1⟩
theorem qc0 : ∀ ds : List D, (∀ d ∈ ds, zK d) -> ∃ ks : List Kw, ds = ks.map kw /\ ∀ k ∈ ks, z0 k
  | [], _ => ⟨[], rfl, fun _ h => by cases h⟩
  | d :: ds, h => by
    obtain ⟨ks, e, g⟩ := qc0 ds fun x hx => h x (List.mem_cons_of_mem _ hx)
    obtain ⟨a, b, m, rfl, h1, h2, h3, h4, hm⟩ := h d List.mem_cons_self
    have : ∃ o : Option Int, m = mD o /\ ∀ j, o = some j -> 0 <= j /\ j <= 5 := by
      rcases hm with rfl | ⟨j, rfl, j0, j1⟩
      . exact ⟨none, rfl, fun j e => by cases e⟩
      . exact ⟨some j, rfl, fun i e => by cases e; exact ⟨j0, j1⟩⟩
    obtain ⟨o, rfl, ho⟩ := this
    refine ⟨⟨a, b, o⟩ :: ks, by rw [e]; rfl, fun k hk => ?_⟩
    rcases List.mem_cons.mp hk with rfl | hk
    . exact ⟨⟨h1, h2⟩, ⟨h3, h4⟩, ho⟩
    . exact g k hk
theorem qj4 (k : Kw) : ixD (kw k) (.int 0) = some (.int k.w) := rfl
theorem qj5 (k : Kw) : ixD (kw k) (.int 1) = some (.int k.v) := rfl
theorem qj6 (k : Kw) : ixD (kw k) (.int 2) = some (mD k.m) := rfl
theorem uT {ds : List D} {i : Nat} {d : D} (h : ds[i]? = some d) : ixD (.lst ds) (.int (i : Nat)) = some d := qg3 h
theorem vV {k : Kw} (hk : z0 k) {s : Int} (h0 : 0 <= s) : jq [kw k, .int s] = .ok (.int (ofn k s : Nat)) := by
  unfold jq jY
  have hd : 0 <= s / k.w := Int.ediv_nonneg h0 (by have := hk.1.1; omega)
  let ρ : Env := [some (kw k), some (.int s), some (.int (s / k.w))]
  refine vJ rfl ⟨ρ, ?_⟩
  refine (qm (ρ' := ρ) ?_).trans ?_
  . show zp 2 _ [some (kw k), some (.int s), none] = _
    rw [uK, qx rfl (qx rfl rfl (qj4 k)) (ur (by have := hk.1.1; omega) (by have := hk.1.2; omega))]
    rfl
  . have c1 : d2 isN (d2 ixD (dv 0) (ret (.int 2))) (ret .non) ρ = .ok (.bl k.m.isNone, ρ) := qx (qx rfl rfl (qj6 k)) rfl (by rw [qcQ, qcV])
    rw [vR, qhX, vi c1]
    cases em : k.m with
    | none =>
      have e : ((ofn k s : Nat) : Int) = s / k.w := by unfold ofn; rw [em]; show ((s / k.w).toNat : Int) = _; omega
      rw [e]
      rfl
    | some j =>
      have hj := (hk.2.2 j em).1
      have e : ((ofn k s : Nat) : Int) = if j < s / k.w then j else s / k.w := by
        unfold ofn
        rw [em]
        show ((if j < s / k.w then j else s / k.w).toNat : Int) = _
        split <;> omega
      have c2 : qz uR (qa (dv 2) (qa (d2 ixD (dv 0) (ret (.int 2))) (ret []))) ρ = .ok (.int (ofn k s : Nat), ρ) := by
        rw [vE, qeT rfl (qx rfl rfl (by rw [qj6, em]))]
        show (match uR [.int (s / k.w), .int j] with | some d => R.ok (d, ρ) | none => .bad) = _
        rw [qcT, e]
      show (match qz uR (qa (dv 2) (qa (d2 ixD (dv 0) (ret (.int 2))) (ret []))) ρ with | .ok (d, ρ1) => R.ok (Fl.rt d ρ1) | .exc x ρ' => .exc x ρ' | .bad => .bad) = _
      rw [c2]
theorem uN (k : Kw) {t : Nat} (ht : t <= 20) (s : Int) : jc [kw k, .int (t : Nat), .int s] = .ok (.int (s - t * k.w)) := by
  unfold jc yU
  refine vJ rfl ⟨[some (kw k), some (.int (t : Nat)), some (.int s)], ?_⟩
  show jt _ [some (kw k), some (.int (t : Nat)), some (.int s)] = _
  rw [vR, qx rfl (qx rfl (qx rfl rfl (qj4 k)) (qcc (qaW (by omega) (by omega)))) (qcS _ _)]
theorem qbL {l : M (List D)} {ρ : Env} {k : Kw} {s : Int} (hn : ofn k s <= 20) (h : l ρ = .ok ([.int ((ofn k s : Nat) + 1)], ρ)) : zf l ρ = .ok ((List.range (ofn k s + 1)).map fun t => D.int (t : Nat), ρ) := by
  rw [jX h (by omega) (by omega)]
  have e : ((ofn k s : Nat) + 1 : Int).toNat = ofn k s + 1 := by omega
  rw [e, qkg]
theorem wV {k : Kw} (hk : z0 k) {s : Int} (h0 : 0 <= s) (h1 : s <= 20) : ofn k s <= 20 := by
  have := (qcW hk.kd.1 hk.kd.2 h0 (Nat.le_refl (ofn k s))).2
  omega
theorem qe0 {k : Kw} (hk : z0 k) {s r : Nat} (hs : s <= r) (hr : r <= 20) {t : Nat} (ht : t <= ofn k s) : ∃ i : Nat, i <= r /\ ((i : Nat) : Int) = (s : Int) - t * k.w := by
  have := (qcW hk.kd.1 hk.kd.2 (show (0 : Int) <= (s : Int) by omega) ht).1
  have h2 : 0 <= (t : Int) * k.w := Int.mul_nonneg (by omega) (by have := hk.1.1; omega)
  exact ⟨((s : Int) - t * k.w).toNat, by omega, by omega⟩
def jj (f : Nat -> D) (r : Nat) : List D := (List.range (r + 1)).map f
theorem qe1 {f : Nat -> D} {r i : Nat} (h : i <= r) : (jj f r)[i]? = some (f i) := by
  unfold jj
  rw [List.getElem?_map, List.getElem?_range (by omega)]
  rfl
theorem qe2 (d : D) (r : Nat) (hr : r <= 200) : yr (.lst [d]) (.int ((r : Int) + 1)) = some (.lst (jj (fun _ => d) r)) := by
  have h1 : decide (-(2 ^ 62 : Int) <= (r : Int) + 1) = true := decide_eq_true (by omega)
  have h2 : decide ((r : Int) + 1 < 2 ^ 62) = true := decide_eq_true (by omega)
  have e : ((r : Int) + 1).toNat = r + 1 := by omega
  have h3 : qG (([d] : List D).length * ((r : Int) + 1).toNat) = true := zQ (by rw [e]; simp; omega)
  have hm : yr (.lst [d]) (.int ((r : Int) + 1)) = some (.lst (List.replicate ((r : Int) + 1).toNat [d]).flatten) := by
    simp only [yr, h1, h2, h3, Bool.and_self, if_true]
  have fl : ∀ n : Nat, (List.replicate n [d]).flatten = (List.range n).map fun _ => d := fun n => by
    induction n with
    | zero => rfl
    | succ n ih =>
      rw [List.replicate_succ, List.flatten_cons, ih, List.range_succ_eq_map, List.map_cons, List.map_map]
      rfl
  rw [hm, e, fl]
  rfl
theorem qch {n : Int} (h : n <= 200) : yd [.int n] = .ok .non := by
  unfold yd
  refine qcM rfl ⟨[some (.int n)], ?_⟩
  unfold yO
  have h' : ¬ 200 < n := by omega
  push_cast [h']
theorem qkX : RN.contains "NoNumber" = true := by decide
theorem qkY : RN.contains "TooMany" = true := by decide
theorem vn {d : D} (hs : yH d = true) {n : Int} (h0 : 0 <= n) (h : n <= 200) : qM [d, .int n] = .ok .non := by
  have hc : z8 (.int n) = true := decide_eq_true h0
  unfold qM
  refine qcM rfl ⟨[some d, some (.int n)], ?_⟩
  unfold jf
  refine (qm (ρ' := [some d, some (.int n)]) ?_).trans ((qm (ρ' := [some d, some (.int n)]) ?_).trans ?_)
  . push_cast [yX _ hs]
  . push_cast [vm _ hc]
  . push_cast [qch h]
theorem qbM {d x : D} (hs : yH d = true) (hc : z8 x = false) : qM [d, x] = .exc ⟨"NoNumber", .non⟩ [some d, some x] := by
  unfold qM
  refine wM rfl ?_
  unfold jf
  refine (qm (ρ' := [some d, some x]) ?_).trans (qbF ?_)
  . push_cast [yX _ hs]
  . push_cast [qbK _ hc, qkX]
theorem qa2 {ks : List Kw} (h : ∀ k ∈ ks, z0 k) (hl : ks.length <= 12) : yH (.tup (ks.map kw)) = true := by
  have : (ks.map kw).all uM = true := by
    rw [List.all_map]
    refine List.all_eq_true.mpr fun k hk => ?_
    have g := h k hk
    exact qeU (x := (k.w, k.v, k.m)) ⟨by have := g.1.1; show 0 < k.w; omega, g.2.1.1, fun j e => (g.2.2 j e).1⟩
  simp only [yH, List.length_map, hl, decide_true, this, Bool.true_and]
theorem wW {α : Type} {l : List α} {f : α -> Int} (h : l ≠ []) : ue [.lst (l.map fun a => D.int (f a))] = some (.int (qby (l.map f))) := by
  cases l with
  | nil => exact absurd rfl h
  | cons a l =>
    have := qaY ((a :: l).map f)
    rw [List.map_map] at this
    simp only [Function.comp_def, List.map_cons] at this
    simp only [List.map_cons, ue, this]
def ldD (l : List Int) : D := .tup (l.map D.int)
def qD (p : List Int × Int) : D := .tup [ldD p.1, .int p.2]
def yY (k : Kw) (p : List Int × Int) : List (List Int × Int) := (List.range (ofn k p.2 + 1)).map fun (t : Nat) => (p.1 ++ [(t : Int)], p.2 - (t : Int) * k.w)
theorem qa3 {α β : Type} (g : α -> List β) : ∀ (l : List α) (acc : List β), l.foldl (fun acc a => acc ++ g a) acc = acc ++ l.flatMap g
  | [], acc => by simp
  | a :: l, acc => by rw [List.foldl_cons, qa3 g l, List.flatMap_cons, List.append_assoc]
theorem qa4 (k : Kw) (F : List (List Int × Int)) : vj k F = F.flatMap (yY k) := rfl
structure okF (n : Nat) (F : List (List Int × Int)) : Prop where
  bd : ∀ p ∈ F, 0 <= p.2 /\ p.2 <= 20 /\ p.1.length = n
  len : F.length <= 21 ^ n
theorem vM {k : Kw} (hk : z0 k) {n : Nat} {p : List Int × Int} (h : 0 <= p.2 /\ p.2 <= 20 /\ p.1.length = n) : (yY k p).length <= 21 /\ ∀ q ∈ yY k p, 0 <= q.2 /\ q.2 <= 20 /\ q.1.length = n + 1 := by
  have hn := wV hk h.1 h.2.1
  refine ⟨by unfold yY; rw [List.length_map, List.length_range]; omega, fun q hq => ?_⟩
  obtain ⟨t, ht, rfl⟩ := List.mem_map.mp hq
  have ht' : t <= ofn k p.2 := by have := List.mem_range.mp ht; omega
  obtain ⟨g1, _⟩ := qcW hk.kd.1 hk.kd.2 h.1 ht'
  have g2 : 0 <= (t : Int) * k.w := Int.mul_nonneg (by omega) (by have := hk.1.1; omega)
  refine ⟨by show 0 <= p.2 - t * k.w; omega, by show p.2 - t * k.w <= 20; omega, by simp [h.2.2]⟩
theorem qc1 {α β : Type} {g : α -> List β} {n : Nat} : ∀ l : List α, (∀ a ∈ l, (g a).length <= n) -> (l.flatMap g).length <= l.length * n
  | [], _ => by simp
  | a :: l, h => by
    have h1 := h a List.mem_cons_self
    have h2 := qc1 l fun x hx => h x (List.mem_cons_of_mem _ hx)
    rw [List.flatMap_cons, List.length_append, List.length_cons, Nat.succ_mul]
    omega
theorem okF.step {k : Kw} (hk : z0 k) {n : Nat} {F : List (List Int × Int)} (h : okF n F) : okF (n + 1) (vj k F) := by
  refine ⟨fun q hq => ?_, ?_⟩
  . rw [qa4] at hq
    obtain ⟨p, hp, hq⟩ := List.mem_flatMap.mp hq
    exact (vM hk (h.bd p hp)).2 q hq
  . rw [qa4, Nat.pow_succ]
    exact Nat.le_trans (qc1 F fun p hp => (vM hk (h.bd p hp)).1) (Nat.mul_le_mul_right _ h.len)
theorem qin (m : Option Int) : qfq (mD m) .non = some (.bl (!m.isNone)) := by rw [qca, qcV]
theorem qio (T Rm : Option D) {k : Kw} (hk : z0 k) {n : Nat} (hn : n <= 3) {F : List (List Int × Int)} (h : okF n F) (o6 o7 o8 o9 : Option D) :
    ∃ q7 q8 q9, (qB (zp 6 (jQ (ret []))) (qB (u5 (uJ (dv 2)) (qag 2 (ze (ql 7) (ze (ql 8) qaf))) (qB (zp 9 (d2 vv (dv 8) (dv 3))) (qB (sif (tst (d2 qfq (dv 5) (ret .non))) (zp 9 (qz uR (qa (dv 9) (qa (dv 5) (ret []))))) jW) (zp 6 (d2 zt (dv 6) (qV 1 [7, 8, 3] none (zf (qa (d2 zt (dv 9) (ret (.int 1))) (ret []))) (ql 0) (ret true) (uZ (qa (d2 zt (dv 1) (uZ (qa (dv 0) (ret [])))) (qa (d2 qe9 (dv 2) (d2 yr (dv 0) (dv 3))) (ret [])))))))))) (zp 2 (dv 6)))) [T, Rm, some (.lst (F.map qD)), some (.int k.w), some (.int k.v), some (mD k.m), o6, o7, o8, o9] = .ok (.nx [T, Rm, some (.lst ((vj k F).map qD)), some (.int k.w), some (.int k.v), some (mD k.m), some (.lst ((vj k F).map qD)), q7, q8, q9]) := by
  have hF : F.length <= 9261 := Nat.le_trans h.len (Nat.le_trans (Nat.pow_le_pow_right (by omega) hn) (by decide))
  let Fd : Option D := some (.lst (F.map qD))
  let A : Option D := some (.int k.w)
  let B : Option D := some (.int k.v)
  let Mo : Option D := some (mD k.m)
  obtain ⟨ρ', q, o7', o8', o9', hlen, rfl⟩ := vh (G := qag 2 (ze (ql 7) (ze (ql 8) qaf))) (b := (qB (zp 9 (d2 vv (dv 8) (dv 3))) (qB (sif (tst (d2 qfq (dv 5) (ret .non))) (zp 9 (qz uR (qa (dv 9) (qa (dv 5) (ret []))))) jW) (zp 6 (d2 zt (dv 6) (qV 1 [7, 8, 3] none (zf (qa (d2 zt (dv 9) (ret (.int 1))) (ret []))) (ql 0) (ret true) (uZ (qa (d2 zt (dv 1) (uZ (qa (dv 0) (ret [])))) (qa (d2 qe9 (dv 2) (d2 yr (dv 0) (dv 3))) (ret [])))))))))) (k := qD) (step := fun acc p => acc ++ yY k p) (Inv := fun m acc ρ => ∃ o7 o8 o9, acc.length <= m * 21 /\ ρ = [T, Rm, Fd, A, B, Mo, some (.lst (acc.map qD)), o7, o8, o9]) F 0 [] [T, Rm, Fd, A, B, Mo, some (.lst []), o7, o8, o9] ⟨o7, o8, o9, Nat.le_refl _, rfl⟩ (fun p hp m acc ρ _ hm => by
    rintro ⟨o7, o8, o9, hacc, rfl⟩
    obtain ⟨b0, b1, b2⟩ := h.bd p hp
    have hof := wV hk b0 b1
    have so := vM hk (h.bd p hp)
    have hd : 0 <= p.2 / k.w := Int.ediv_nonneg b0 (by have := hk.1.1; omega)
    let Ac : Option D := some (.lst (acc.map qD))
    let Ld : Option D := some (ldD p.1)
    let Lf : Option D := some (.int p.2)
    let ρ1 : Env := [T, Rm, Fd, A, B, Mo, Ac, Ld, Lf, o9]
    let ρ2 : Env := [T, Rm, Fd, A, B, Mo, Ac, Ld, Lf, some (.int (p.2 / k.w))]
    let ρ3 : Env := [T, Rm, Fd, A, B, Mo, Ac, Ld, Lf, some (.int (ofn k p.2 : Nat))]
    have e1 : (zp 9 (d2 vv (dv 8) (dv 3))) ρ1 = .ok (.nx ρ2) := by
      have c : d2 vv (dv 8) (dv 3) ρ1 = .ok (.int (p.2 / k.w), ρ1) := qx rfl rfl (ur (by have := hk.1.1; omega) (by have := hk.1.2; omega))
      rw [uK, c]
      rfl
    have e2 : (sif (tst (d2 qfq (dv 5) (ret .non))) (zp 9 (qz uR (qa (dv 9) (qa (dv 5) (ret []))))) jW) ρ2 = .ok (.nx ρ3) := by
      have c1 : d2 qfq (dv 5) (ret .non) ρ2 = .ok (.bl (!k.m.isNone), ρ2) := qx rfl rfl (qin k.m)
      cases em : k.m with
      | none =>
        have e : ((ofn k p.2 : Nat) : Int) = p.2 / k.w := by unfold ofn; rw [em]; show ((p.2 / k.w).toNat : Int) = _; omega
        rw [em] at c1
        rw [qkf (vi c1)]
        simp only [ρ2, ρ3, e, qej]
      | some j =>
        have hj := (hk.2.2 j em).1
        have e : ((ofn k p.2 : Nat) : Int) = if j < p.2 / k.w then j else p.2 / k.w := by
          unfold ofn
          rw [em]
          show ((if j < p.2 / k.w then j else p.2 / k.w).toNat : Int) = _
          split <;> omega
        rw [em] at c1
        rw [ql4 (vi c1)]
        have c2 : qz uR (qa (dv 9) (qa (dv 5) (ret []))) ρ2 = .ok (.int (ofn k p.2 : Nat), ρ2) := by
          have hv : dv 5 ρ2 = .ok (.int j, ρ2) := by
            show R.ok (mD k.m, ρ2) = _
            rw [em]
            rfl
          rw [vE, qeT rfl hv]
          show (match uR [.int (p.2 / k.w), .int j] with | some d => R.ok (d, ρ2) | none => .bad) = _
          rw [qcT, e]
        rw [uK, c2]
        rfl
    have e3 : (zp 6 (d2 zt (dv 6) (qV 1 [7, 8, 3] none (zf (qa (d2 zt (dv 9) (ret (.int 1))) (ret []))) (ql 0) (ret true) (uZ (qa (d2 zt (dv 1) (uZ (qa (dv 0) (ret [])))) (qa (d2 qe9 (dv 2) (d2 yr (dv 0) (dv 3))) (ret []))))))) ρ3 = .ok (.nx [T, Rm, Fd, A, B, Mo, some (.lst ((acc ++ yY k p).map qD)), Ld, Lf, some (.int (ofn k p.2 : Nat))]) := by
      have c : qV 1 [7, 8, 3] none (zf (qa (d2 zt (dv 9) (ret (.int 1))) (ret []))) (ql 0) (ret true) (uZ (qa (d2 zt (dv 1) (uZ (qa (dv 0) (ret [])))) (qa (d2 qe9 (dv 2) (d2 yr (dv 0) (dv 3))) (ret [])))) ρ3 = .ok (.lst ((List.range (ofn k p.2 + 1)).map fun (t : Nat) => qD (p.1 ++ [(t : Int)], p.2 - (t : Int) * k.w)), ρ3) := by
        refine qbI (r := [Ld, Lf, A]) (k := fun t : Nat => D.int (t : Nat)) _ _ (qbL hof (vK (qx rfl rfl (zg _ _)))) rfl (by rw [List.length_range]; omega) fun t ht => ?_
        have ht' : t <= ofn k p.2 := by have := List.mem_range.mp ht; omega
        have ad : zt (ldD p.1) (.tup [.int (t : Nat)]) = some (ldD (p.1 ++ [(t : Int)])) := by
          unfold ldD
          rw [qf3 (by rw [List.length_map, b2]; simp; omega), List.map_append]
          rfl
        have t1 : uZ (qa (dv 0) (ret [])) [some (.int (t : Nat)), Ld, Lf, A] = .ok (.tup [.int (t : Nat)], [some (.int (t : Nat)), Ld, Lf, A]) := by
          rw [qbv, vK rfl]
          simp only [List.length_cons, List.length_nil, Nat.zero_add, sm1, if_true]
        exact ql2 (qx rfl t1 ad) (qx rfl (qx rfl rfl (qcc (qaW (by omega) (by omega)))) (qcS _ _))
      have ml : (yY k p).map qD = (List.range (ofn k p.2 + 1)).map fun (t : Nat) => qD (p.1 ++ [(t : Int)], p.2 - (t : Int) * k.w) := by
        unfold yY
        rw [List.map_map]
        rfl
      rw [<- ml] at c
      have c2 : (d2 zt (dv 6) (qV 1 [7, 8, 3] none (zf (qa (d2 zt (dv 9) (ret (.int 1))) (ret []))) (ql 0) (ret true) (uZ (qa (d2 zt (dv 1) (uZ (qa (dv 0) (ret [])))) (qa (d2 qe9 (dv 2) (d2 yr (dv 0) (dv 3))) (ret [])))))) ρ3 = .ok (.lst ((acc ++ yY k p).map qD), ρ3) := qx rfl c (by rw [v3 (by rw [List.length_map, List.length_map]; have := so.1; omega), List.map_append])
      rw [uK, c2]
      rfl
    refine ⟨ρ1, _, rfl, (qm e1).trans ((qm e2).trans e3), Ld, Lf, some (.int (ofn k p.2 : Nat)), ?_, rfl⟩
    rw [List.length_append]
    have := so.1
    omega)
  rw [qa3, List.nil_append, <- qa4] at q
  refine ⟨o7', o8', o9', ?_⟩
  refine (qm (ρ' := [T, Rm, Fd, A, B, Mo, some (.lst []), o7, o8, o9]) ?_).trans ?_
  . push_cast [zQ (show 0 <= 1000000 by omega), Fd, A, B, Mo]
  refine (qm (ρ' := [T, Rm, Fd, A, B, Mo, some (.lst ((vj k F).map qD)), o7', o8', o9']) ?_).trans ?_
  . rw [yy]
    exact q
  . rfl
theorem yn {ks : List Kw} (h : ∀ k ∈ ks, z0 k) (hl : ks.length <= 4) {r : Nat} (hr : r <= 20) : qo [.tup (ks.map kw), .int (r : Nat)] = .ok (.lst ((yM ks r).map fun p => ldD p.1)) /\ okF ks.length (yM ks r) := by
  let T : Option D := some (.tup (ks.map kw))
  let Rm : Option D := some (.int (r : Nat))
  have loop : ∀ (b : List Kw) (n : Nat) (F : List (List Int × Int)) (o3 o4 o5 o6 o7 o8 o9 : Option D), (∀ k ∈ b, z0 k) -> okF n F -> n + b.length <= 4 -> ∃ o3' o4' o5' o6' o7' o8' o9', jU (qag 3 (ze (ql 3) (ze (ql 4) (ze (ql 5) qaf)))) (qB (zp 6 (jQ (ret []))) (qB (u5 (uJ (dv 2)) (qag 2 (ze (ql 7) (ze (ql 8) qaf))) (qB (zp 9 (d2 vv (dv 8) (dv 3))) (qB (sif (tst (d2 qfq (dv 5) (ret .non))) (zp 9 (qz uR (qa (dv 9) (qa (dv 5) (ret []))))) jW) (zp 6 (d2 zt (dv 6) (qV 1 [7, 8, 3] none (zf (qa (d2 zt (dv 9) (ret (.int 1))) (ret []))) (ql 0) (ret true) (uZ (qa (d2 zt (dv 1) (uZ (qa (dv 0) (ret [])))) (qa (d2 qe9 (dv 2) (d2 yr (dv 0) (dv 3))) (ret [])))))))))) (zp 2 (dv 6)))) (b.map kw) [T, Rm, some (.lst (F.map qD)), o3, o4, o5, o6, o7, o8, o9] = .ok (.nx [T, Rm, some (.lst ((b.foldl (fun f k => vj k f) F).map qD)), o3', o4', o5', o6', o7', o8', o9']) /\ okF (n + b.length) (b.foldl (fun f k => vj k f) F) := fun b => by
    induction b with
    | nil => intro n F o3 o4 o5 o6 o7 o8 o9 _ hF _; exact ⟨o3, o4, o5, o6, o7, o8, o9, rfl, hF⟩
    | cons k b ih =>
      intro n F o3 o4 o5 o6 o7 o8 o9 hb hF hn
      have hn' : n + (b.length + 1) <= 4 := hn
      have hk := hb k List.mem_cons_self
      obtain ⟨q7, q8, q9, e⟩ := qio T Rm hk (by omega) hF o6 o7 o8 o9
      obtain ⟨p3, p4, p5, p6, p7, p8, p9, q, g⟩ := ih (n + 1) (vj k F) (some (.int k.w)) (some (.int k.v)) (some (mD k.m)) (some (.lst ((vj k F).map qD))) q7 q8 q9 (fun x hx => hb x (List.mem_cons_of_mem _ hx)) (hF.step hk) (by omega)
      refine ⟨p3, p4, p5, p6, p7, p8, p9, ?_, ?_⟩
      . rw [List.map_cons, ut rfl e, q]
        rfl
      . rw [List.foldl_cons, List.length_cons, show n + (b.length + 1) = n + 1 + b.length by omega]
        exact g
  have h0 : okF 0 [([], ((r : Nat) : Int))] := ⟨fun p hp => by
    rw [List.mem_singleton] at hp
    subst hp
    exact ⟨by show (0 : Int) <= (r : Nat); omega, by show ((r : Nat) : Int) <= 20; omega, rfl⟩, Nat.le_refl _⟩
  obtain ⟨p3, p4, p5, p6, p7, p8, p9, q, g⟩ := loop ks 0 [([], ((r : Nat) : Int))] none none none none none none none h h0 (by omega)
  rw [Nat.zero_add] at g
  refine ⟨?_, g⟩
  have hln : (yM ks r).length <= 194481 := Nat.le_trans g.len (Nat.le_trans (Nat.pow_le_pow_right (by omega) hl) (by decide))
  unfold qo z7
  let ρ' : Env := [T, Rm, some (.lst ((yM ks r).map qD)), p3, p4, p5, p6, p7, p8, p9]
  refine vJ rfl ⟨ρ', ?_⟩
  refine (qm (ρ' := [T, Rm, some (.lst (([([], ((r : Nat) : Int))] : List (List Int × Int)).map qD)), none, none, none, none, none, none, none]) ?_).trans ?_
  . push_cast [zQ (show 0 <= 1000000 by omega), sm1, zQ (show 2 <= 1000000 by omega), T, Rm]
    rfl
  refine (qm (ρ' := ρ') ?_).trans ?_
  . rw [yy]
    exact q
  . have c : qV 2 [] none (uJ (dv 2)) (qag 2 (ze (ql 0) (ze (ql 1) qaf))) (ret true) (dv 0) ρ' = .ok (.lst ((yM ks r).map fun p => ldD p.1), ρ') := by
      have := qij (e := dv 0) (t := ret true) (xs := uJ (dv 2)) (fr := []) (ρ := ρ') (r := []) (u := fun p : List Int × Int => ldD p.1) (v := fun p => D.int p.2) (yM ks r) (fun _ => true) (fun p => ldD p.1) rfl rfl (by omega) (fun _ _ => rfl) (fun _ _ _ => rfl)
      rw [uS] at this
      exact this
    rw [vR, c]
def qga (ks : List Kw) (i : Nat) : Kw := (ks[i]?).getD ⟨1, 0, none⟩
def lAt (l : List Int) (i : Nat) : Int := (l[i]?).getD 0
theorem qax {ks : List Kw} {l : List Int} (hl : ks.length = l.length) : ∀ n, n <= ks.length -> (List.range n).foldl (fun s i => s + (qga ks i).v * lAt l i) 0 = qF (ks.take n) (l.take n)
  | 0, _ => rfl
  | n + 1, h => by
    rw [List.range_succ, List.foldl_append, qax hl n (by omega)]
    have h1 : n < ks.length := by omega
    have h2 : n < l.length := by omega
    rw [List.take_succ_eq_append_getElem h1, List.take_succ_eq_append_getElem h2, wR _ _ _ _ (by rw [List.length_take, List.length_take]; omega)]
    have e1 : qga ks n = ks[n] := by unfold qga; rw [List.getElem?_eq_getElem h1]; rfl
    have e2 : lAt l n = l[n] := by unfold lAt; rw [List.getElem?_eq_getElem h2]; rfl
    show qF (ks.take n) (l.take n) + (qga ks n).v * lAt l n = _
    rw [e1, e2, Int.mul_comm]
theorem vo {ks : List Kw} (h : ∀ k ∈ ks, z0 k) (hl : ks.length <= 4) {l : List Int} (hn : l.length = ks.length) : qO [.tup (ks.map kw), ldD l, .int 1] = .ok (.int (qF ks l)) := by
  let T : Option D := some (.tup (ks.map kw))
  let Ld : Option D := some (ldD l)
  let O : Option D := some (.int 1)
  obtain ⟨ρ', q, o4, rfl⟩ := vh (G := ql 4) (b := (zp 3 (d2 zt (dv 3) (d2 yr (d2 ixD (d2 ixD (dv 0) (dv 4)) (dv 2)) (d2 ixD (dv 1) (dv 4)))))) (k := fun i : Nat => D.int (i : Nat)) (step := fun (s : Int) (i : Nat) => s + (qga ks i).v * lAt l i) (Inv := fun n s ρ => ∃ o4, ρ = [T, Ld, O, some (.int s), o4]) (List.range ks.length) 0 0 [T, Ld, O, some (.int 0), none] ⟨none, rfl⟩ (fun i hi n s ρ _ _ => by
    rintro ⟨o4, rfl⟩
    have hi' := List.mem_range.mp hi
    have k1 : ks[i]? = some (qga ks i) := by unfold qga; rw [List.getElem?_eq_getElem hi']; rfl
    have l1 : l[i]? = some (lAt l i) := by unfold lAt; rw [List.getElem?_eq_getElem (by omega)]; rfl
    have g := h _ (List.mem_of_getElem? k1)
    let ρ1 : Env := [T, Ld, O, some (.int s), some (.int (i : Nat))]
    have c : (d2 zt (dv 3) (d2 yr (d2 ixD (d2 ixD (dv 0) (dv 4)) (dv 2)) (d2 ixD (dv 1) (dv 4)))) ρ1 = .ok (.int (s + (qga ks i).v * lAt l i), ρ1) := qx rfl (qx (qx (qx rfl rfl (qg1 (by rw [List.getElem?_map, k1]; rfl))) rfl (qj5 _)) (qx rfl rfl (qg1 (by rw [List.getElem?_map, l1]; rfl))) (qcc (qaW g.2.1.1 (by have := g.2.1.2; omega)))) (zg _ _)
    refine ⟨ρ1, [T, Ld, O, some (.int (s + (qga ks i).v * lAt l i)), some (.int (i : Nat))], rfl, ?_, _, rfl⟩
    rw [uK, c]
    rfl)
  rw [qax hn.symm _ (Nat.le_refl _), List.take_length, <- hn, List.take_length] at q
  unfold qO uG
  refine vJ rfl ⟨[T, Ld, O, some (.int (qF ks l)), o4], ?_⟩
  refine (qm (ρ' := [T, Ld, O, some (.int 0), none]) rfl).trans ?_
  refine (qm (ρ' := [T, Ld, O, some (.int (qF ks l)), o4]) ?_).trans rfl
  rw [yy, jX (j := (ks.length : Nat)) (ρ1 := [T, Ld, O, some (.int 0), none]) (vK (vg (a := .tup (ks.map kw)) rfl (by rw [uy, List.length_map]))) (by omega) (by omega), Int.toNat_natCast, qkg, <- hn]
  exact q
theorem qip (a b : Int) : PyData.eqv (zq (.int a)) (zq (.int b)) = decide (a = b) := rfl
theorem yZ : RN.contains "NoNumber" = true := by decide
theorem w9 : zW [.exc "NoNumber"] = .ok (.str "number") := by
  have f0 : (("SackError" : Str) == "ValueError" || yu "NoNumber" "SackError") = true := by decide
  have f1 : (("ValueError" : Str) == "ValueError" || yu "NoNumber" "ValueError") = true := by decide
  have f2 : (("NoStore" : Str) == "ValueError" || yu "NoNumber" "NoStore") = false := by decide
  have f3 : (("NoNumber" : Str) == "ValueError" || yu "NoNumber" "NoNumber") = true := by decide
  have f4 : (("NoLoad" : Str) == "ValueError" || yu "NoNumber" "NoLoad") = false := by decide
  have f5 : (("TooMany" : Str) == "ValueError" || yu "NoNumber" "TooMany") = false := by decide
  have f6 : (("NotSingle" : Str) == "ValueError" || yu "NoNumber" "NotSingle") = false := by decide
  have f7 : (("NoText" : Str) == "ValueError" || yu "NoNumber" "NoText") = false := by decide
  unfold zW
  refine vJ rfl ⟨[some (.exc "NoNumber"), some (.lst [.bl false, .bl true, .bl false, .bl false, .bl false, .bl false])], ?_⟩
  unfold jN
  refine (qm (ρ' := [some (.exc "NoNumber"), none]) ?_).trans ?_
  . push_cast [f0, f1, yZ]
  refine (qm (ρ' := [some (.exc "NoNumber"), some (.lst [.bl false, .bl true, .bl false, .bl false])]) ?_).trans ?_
  . push_cast [f2, f3, f4, f5, yZ, zQ (show 4 <= 1000000 by omega)]
  refine (qm (ρ' := [some (.exc "NoNumber"), some (.lst [.bl false, .bl true, .bl false, .bl false, .bl false, .bl false])]) ?_).trans ?_
  . push_cast [f6, f7, yZ, zQ (show 2 <= 1000000 by omega), v3 (xs := [.bl false, .bl true, .bl false, .bl false]) (ys := [.bl false, .bl false]) (by simp)]
  have c1 : qbC (.lst [.bl false, .bl true, .bl false, .bl false, .bl false, .bl false]) [.bl true] = some (.int 1) := rfl
  have c2 : neS (.int 1) (.int 1) = some (.bl false) := rfl
  have c3 : qbD (.lst [.bl false, .bl true, .bl false, .bl false, .bl false, .bl false]) [.bl true] = some (.int 1) := rfl
  have c4 : ixD (.lst [.str "store", .str "number", .str "load", .str "many", .str "single", .str "text"]) (.int 1) = some (.str "number") := rfl
  refine (qm (ρ' := [some (.exc "NoNumber"), some (.lst [.bl false, .bl true, .bl false, .bl false, .bl false, .bl false])]) ?_).trans ?_
  . push_cast [c1, c2]
  . push_cast [c3, c4, zQ (show 6 <= 1000000 by omega)]
theorem uI : RN.contains "TooMany" = true := by decide
theorem qa5 : zW [.exc "TooMany"] = .ok (.str "many") := by
  have f0 : (("SackError" : Str) == "ValueError" || yu "TooMany" "SackError") = true := by decide
  have f1 : (("ValueError" : Str) == "ValueError" || yu "TooMany" "ValueError") = true := by decide
  have f2 : (("NoStore" : Str) == "ValueError" || yu "TooMany" "NoStore") = false := by decide
  have f3 : (("NoNumber" : Str) == "ValueError" || yu "TooMany" "NoNumber") = false := by decide
  have f4 : (("NoLoad" : Str) == "ValueError" || yu "TooMany" "NoLoad") = false := by decide
  have f5 : (("TooMany" : Str) == "ValueError" || yu "TooMany" "TooMany") = true := by decide
  have f6 : (("NotSingle" : Str) == "ValueError" || yu "TooMany" "NotSingle") = false := by decide
  have f7 : (("NoText" : Str) == "ValueError" || yu "TooMany" "NoText") = false := by decide
  unfold zW
  refine vJ rfl ⟨[some (.exc "TooMany"), some (.lst [.bl false, .bl false, .bl false, .bl true, .bl false, .bl false])], ?_⟩
  unfold jN
  refine (qm (ρ' := [some (.exc "TooMany"), none]) ?_).trans ?_
  . push_cast [f0, f1, uI]
  refine (qm (ρ' := [some (.exc "TooMany"), some (.lst [.bl false, .bl false, .bl false, .bl true])]) ?_).trans ?_
  . push_cast [f2, f3, f4, f5, uI, zQ (show 4 <= 1000000 by omega)]
  refine (qm (ρ' := [some (.exc "TooMany"), some (.lst [.bl false, .bl false, .bl false, .bl true, .bl false, .bl false])]) ?_).trans ?_
  . push_cast [f6, f7, uI, zQ (show 2 <= 1000000 by omega), v3 (xs := [.bl false, .bl false, .bl false, .bl true]) (ys := [.bl false, .bl false]) (by simp)]
  have c1 : qbC (.lst [.bl false, .bl false, .bl false, .bl true, .bl false, .bl false]) [.bl true] = some (.int 1) := rfl
  have c2 : neS (.int 1) (.int 1) = some (.bl false) := rfl
  have c3 : qbD (.lst [.bl false, .bl false, .bl false, .bl true, .bl false, .bl false]) [.bl true] = some (.int 3) := rfl
  have c4 : ixD (.lst [.str "store", .str "number", .str "load", .str "many", .str "single", .str "text"]) (.int 3) = some (.str "many") := rfl
  refine (qm (ρ' := [some (.exc "TooMany"), some (.lst [.bl false, .bl false, .bl false, .bl true, .bl false, .bl false])]) ?_).trans ?_
  . push_cast [c1, c2]
  . push_cast [c3, c4, zQ (show 6 <= 1000000 by omega)]
def bD (ks : List Kw) (i : Nat) : D := .int (qL ks (i : Nat))
theorem yo {ks : List Kw} {k : Kw} (hk : z0 k) {s r : Nat} (hs : s <= r) (hr : r <= 20) {t : Nat} (ht : t <= ofn k s) : zh [kw k, .int (t : Nat), .lst (jj (bD ks) r), .int (s : Nat)] = .ok (.int ((t : Int) * k.v + qL ks ((s : Int) - t * k.w))) := by
  have hn := wV hk (show (0 : Int) <= (s : Int) by omega) (by omega)
  obtain ⟨i, hi, ei⟩ := qe0 hk hs hr ht
  have hv := hk.2.1
  unfold zh yz
  refine vJ rfl ⟨[some (kw k), some (.int (t : Nat)), some (.lst (jj (bD ks) r)), some (.int (s : Nat))], qcY ?_⟩
  refine qx (qx rfl (qx rfl rfl (qj5 k)) (qih (show jL k.v = true by unfold jL; simp; omega))) (qx rfl (qf5 rfl rfl rfl (uN k (by omega) s)) (d := bD ks i) ?_) ?_
  . rw [<- ei]
    exact uT (qe1 hi)
  . unfold bD
    rw [zg, ei]
theorem qc2 {F : List D -> R D} {f g h k : M D} {ρ : Env} {a b c z d : D} (hf : f ρ = .ok (a, ρ)) (hg : g ρ = .ok (b, ρ)) (hh : h ρ = .ok (c, ρ)) (hk : k ρ = .ok (z, ρ)) (e : F [a, b, c, z] = .ok d) : qj F (qa f (qa g (qa h (qa k (ret []))))) ρ = .ok (d, ρ) := by
  rw [vb, yh, hf]
  simp only [qii hg hh hk, e]
theorem qgb (k : Kw) (ks : List Kw) (s : Nat) : bD (k :: ks) s = .int (qby ((List.range (ofn k (s : Nat) + 1)).map fun t : Nat => (t : Int) * k.v + qL ks ((s : Int) - t * k.w))) := by
  have e : qL (k :: ks) ((s : Nat) : Int) = mxZ ((List.range (ofn k (s : Nat) + 1)).map fun t : Nat => (t : Int) * k.v + qL ks ((s : Int) - t * k.w)) := by rw [qL]
  unfold bD
  rw [e]
  generalize hl : (List.range (ofn k (s : Nat) + 1)).map (fun t : Nat => (t : Int) * k.v + qL ks ((s : Int) - t * k.w)) = l
  have hne : l ≠ [] := by
    rw [<- hl]
    simp
  rw [qaK (qeX hne) fun n hn => qg5 hn]
theorem qaa {ks : List Kw} {k : Kw} (hk : z0 k) {s r : Nat} (hs : s <= r) (hr : r <= 20) : zX [kw k, .lst (jj (bD ks) r), .int (s : Nat)] = .ok (bD (k :: ks) s) := by
  let ρ : Env := [some (kw k), some (.lst (jj (bD ks) r)), some (.int (s : Nat))]
  have hn := wV hk (show (0 : Int) <= (s : Int) by omega) (by omega)
  unfold zX yV
  refine vJ rfl ⟨ρ, qcY ?_⟩
  have c1 : qV 1 [0, 1, 2] none (zf (qa (d2 zt (qj jq (qa (dv 0) (qa (dv 2) (ret [])))) (ret (.int 1))) (ret []))) (ql 0) (ret true) (qj zh (qa (dv 1) (qa (dv 0) (qa (dv 2) (qa (dv 3) (ret [])))))) ρ = .ok (.lst ((List.range (ofn k s + 1)).map fun (t : Nat) => D.int ((t : Int) * k.v + qL ks ((s : Int) - t * k.w))), ρ) := by
    refine qbI (r := [some (kw k), some (.lst (jj (bD ks) r)), some (.int (s : Nat))]) (k := fun t : Nat => D.int (t : Nat)) _ _ (qbL hn (vK (qx (qat rfl rfl (vV hk (by omega))) rfl (zg _ _)))) rfl (by rw [List.length_range]; omega) fun t ht => ?_
    have ht' : t <= ofn k s := by have := List.mem_range.mp ht; omega
    exact qc2 rfl rfl rfl rfl (yo (ks := ks) hk hs hr ht')
  refine vg c1 ?_
  rw [qgb, wW (by simp)]
theorem ql7 {t : M Bool} {b : MS} {n : Nat} {ρ ρ1 ρ2 : Env} (h : t ρ = .ok (true, ρ1)) (hb : b ρ1 = .ok (.nx ρ2)) : yt t b (n + 1) ρ = yt t b n ρ2 := by
  show (match t ρ with | .ok (true, ρ1) => (match b ρ1 with | .ok (.nx ρ2) => yt t b n ρ2 | .ok (.ct ρ2) => yt t b n ρ2 | .ok (.bk ρ2) => .ok (.nx ρ2) | .ok (.rt d ρ2) => .ok (.rt d ρ2) | .exc x ρ2 => .exc x ρ2 | .bad => .bad) | .ok (false, ρ1) => .ok (.nx ρ1) | .exc x ρ1 => .exc x ρ1 | .bad => .bad) = _
  simp only [h, hb]
theorem ql8 {t : M Bool} {b : MS} {n : Nat} {ρ ρ1 : Env} (h : t ρ = .ok (false, ρ1)) : yt t b (n + 1) ρ = .ok (.nx ρ1) := by
  show (match t ρ with | .ok (true, ρ1) => (match b ρ1 with | .ok (.nx ρ2) => yt t b n ρ2 | .ok (.ct ρ2) => yt t b n ρ2 | .ok (.bk ρ2) => .ok (.nx ρ2) | .ok (.rt d ρ2) => .ok (.rt d ρ2) | .exc x ρ2 => .exc x ρ2 | .bad => .bad) | .ok (false, ρ1) => .ok (.nx ρ1) | .exc x ρ1 => .exc x ρ1 | .bad => .bad) = _
  simp only [h]
theorem ql9 (t : Nat) : zt (.int (t : Nat)) (.int 1) = some (.int ((t + 1 : Nat) : Int)) := by rw [zg]; rfl
theorem qe3 {i : Nat} {f : M D} {ρ : Env} {ds : List D} {d : D} (h : zu i ρ = some ds) (hf : f ρ = .ok (d, ρ)) (hl : ds.length < 1000000) : ji (uq i f) ρ = .ok (.nx (ρ.set i (some (.lst (d :: ds))))) := by
  rw [qaI, qeM]
  simp only [h, hf, zQ (show ds.length + 1 <= 1000000 by omega), if_true]
theorem qiq {f : M (List D)} {ρ : Env} {ds : List D} (h : f ρ = .ok (ds, ρ)) (hl : ds.length <= 1000000) : qfW f ρ = .ok (ds, ρ) := by
  unfold qfW bnd
  rw [h]
  simp only [zQ hl, if_true]
  rfl
theorem qgc {i : Nat} {ρ : Env} {d : D} {ds : List D} (h : zu i ρ = some (d :: ds)) : qcx i (ret (.int 0)) ρ = .ok (d, ρ) := by
  have e : atI (d :: ds) 0 = some d := qg3 (n := 0) rfl
  rw [qen]
  simp only [h, qfF, e]
def z5 (f : List Kw -> Nat -> D) (r : Nat) : List Kw -> List D
  | [] => [.lst (jj (f []) r)]
  | k :: ks => .lst (jj (f (k :: ks)) r) :: z5 f r ks
theorem qc3 (f : List Kw -> Nat -> D) (r : Nat) : ∀ ks : List Kw, (z5 f r ks).length = ks.length + 1
  | [] => rfl
  | k :: ks => by rw [z5, List.length_cons, qc3 f r ks, List.length_cons]
theorem qbN (f : List Kw -> Nat -> D) (r : Nat) : ∀ ks : List Kw, ∃ yv, z5 f r ks = .lst (jj (f ks) r) :: yv
  | [] => ⟨[], rfl⟩
  | k :: ks => ⟨z5 f r ks, rfl⟩
theorem qci (f : List Kw -> Nat -> D) (r : Nat) : ∀ (ks : List Kw) (i : Nat), i <= ks.length -> (z5 f r ks)[i]? = some (.lst (jj (f (ks.drop i)) r))
  | ks, 0, _ => by
    obtain ⟨yv, e⟩ := qbN f r ks
    rw [e]
    rfl
  | [], i + 1, h => by
    have : i + 1 <= 0 := h
    omega
  | k :: ks, i + 1, h => by
    rw [z5, List.getElem?_cons_succ, qci f r ks i (by have : i + 1 <= ks.length + 1 := h; omega)]
    rfl
theorem qir {K X : D} {Y : Nat -> D} {r : Nat} (hr : r <= 200) (T : Option D) (yv : List D) (hl : yv.length <= 100) (hF : ∀ s : Nat, s <= r -> zX [K, X, .int (s : Nat)] = .ok (Y s)) :
    (ji (uq 2 (qV 1 [3, 2] (some (2, 2)) (zf (qa (d2 zt (dv 1) (ret (.int 1))) (ret []))) (ql 0) (ret true) (qj zX (qa (dv 1) (qa (qcx 2 (ret (.int 0))) (qa (dv 0) (ret [])))))))) [T, some (.int (r : Nat)), some (.lst (X :: yv)), some K] = .ok (.nx [T, some (.int (r : Nat)), some (.lst (.lst (jj Y r) :: X :: yv)), some K]) := by
  let ρ : Env := [T, some (.int (r : Nat)), some (.lst (X :: yv)), some K]
  have hx : zf (qa (d2 zt (dv 1) (ret (.int 1))) (ret [])) ρ = .ok ((List.range (r + 1)).map fun s : Nat => D.int (s : Nat), ρ) := by
    have e : ((r : Int) + 1).toNat = r + 1 := by omega
    rw [jX (j := (r : Int) + 1) (ρ1 := ρ) (vK (qx rfl rfl (zg _ _))) (by omega) (by omega), e, qkg]
  have c := qj1 (e := qj zX (qa (dv 1) (qa (qcx 2 (ret (.int 0))) (qa (dv 0) (ret []))))) (t := ret true) (k := fun s : Nat => D.int (s : Nat)) (r := [some K, some (.lst (X :: yv))]) (fr := [3, 2]) (i := 2) (j := 2) (List.range (r + 1)) (fun _ => true) Y hx rfl (by rw [List.length_range]; omega) (fun _ _ => rfl) (fun s hs _ => qau rfl (qgc rfl) rfl (hF s (by have := List.mem_range.mp hs; omega))) (fun o => rfl)
  rw [uS] at c
  exact qe3 (ρ := ρ) rfl c (by rw [List.length_cons]; omega)
theorem qbO {r : Nat} (hr : r <= 20) (T : Option D) : ∀ (b ks : List Kw) (o3 : Option D), (∀ k ∈ b, z0 k) -> b.length + ks.length <= 90 -> ∃ o3', jU (ql 3) (ji (uq 2 (qV 1 [3, 2] (some (2, 2)) (zf (qa (d2 zt (dv 1) (ret (.int 1))) (ret []))) (ql 0) (ret true) (qj zX (qa (dv 1) (qa (qcx 2 (ret (.int 0))) (qa (dv 0) (ret [])))))))) (b.map kw) [T, some (.int (r : Nat)), some (.lst (z5 bD r ks)), o3] = .ok (.nx [T, some (.int (r : Nat)), some (.lst (z5 bD r (b.reverse ++ ks))), o3'])
  | [], ks, o3, _, _ => ⟨o3, rfl⟩
  | k :: b, ks, o3, h, hl => by
    obtain ⟨o3', q⟩ := qbO hr T b (k :: ks) (some (kw k)) (fun x hx => h x (List.mem_cons_of_mem _ hx)) (by rw [List.length_cons] at hl |-; omega)
    obtain ⟨yv, e⟩ := qbN bD r ks
    have hlen : yv.length = ks.length := by
      have := qc3 bD r ks
      rw [e, List.length_cons] at this
      omega
    have s := qir (K := kw k) (X := .lst (jj (bD ks) r)) (Y := bD (k :: ks)) (r := r) (by omega) T yv (by rw [List.length_cons] at hl; omega) fun s hs => qaa (h k List.mem_cons_self) hs hr
    rw [<- e] at s
    refine ⟨o3', ?_⟩
    rw [List.map_cons, ut rfl s, List.reverse_cons, List.append_assoc]
    exact q
theorem uO {ks : List Kw} (h : ∀ k ∈ ks, z0 k) (hl : ks.length <= 4) {r : Nat} (hr : r <= 20) : yj [.tup (ks.map kw), .int (r : Nat)] = .ok (.lst (z5 bD r ks)) := by
  let T : Option D := some (.tup (ks.map kw))
  let Rm : Option D := some (.int (r : Nat))
  obtain ⟨o3', q⟩ := qbO hr T ks.reverse [] none (fun k hk => h k (List.mem_reverse.mp hk)) (by rw [List.length_reverse, List.length_nil]; omega)
  rw [List.reverse_reverse, List.append_nil] at q
  unfold yj yW
  refine vJ rfl ⟨[T, Rm, some (.lst (z5 bD r ks)), o3'], ?_⟩
  refine (qm (ρ' := [T, Rm, some (.lst (z5 bD r [])), none]) ?_).trans ?_
  . have a1 : jQ (qa (ret (.int 0)) (ret [])) [T, Rm, none, none] = .ok (.lst [.int 0], [T, Rm, none, none]) := by push_cast [sm1]
    have a2 : d2 yr (jQ (qa (ret (.int 0)) (ret []))) (d2 zt (dv 1) (ret (.int 1))) [T, Rm, none, none] = .ok (.lst (jj (bD []) r), [T, Rm, none, none]) := qx a1 (qx rfl rfl (zg _ _)) (qe2 (.int 0) r (by omega))
    have a3 := qiq (vK a2) (by rw [List.length_cons, List.length_nil]; omega)
    show yG 2 _ [T, Rm, none, none] = _
    rw [qaH, a3]
    rfl
  refine (qm (ρ' := [T, Rm, some (.lst (z5 bD r ks)), o3']) ?_).trans rfl
  have a4 : qjT (qa (dv 0) (ret [])) [T, Rm, some (.lst (z5 bD r [])), none] = .ok (ks.reverse.map kw, [T, Rm, some (.lst (z5 bD r [])), none]) := by
    rw [qjV, vK (a := .tup (ks.map kw)) rfl, List.map_reverse]
    rfl
  rw [yy, a4]
  exact q
theorem ud {ks : List Kw} (h : ∀ k ∈ ks, z0 k) (hl : ks.length <= 4) {r : Nat} (hr : r <= 20) : zw [.tup (ks.map kw), .int (r : Nat)] = .ok (.lst (jj (bD ks) r)) := by
  let ρ : Env := [some (.tup (ks.map kw)), some (.int (r : Nat))]
  unfold zw
  refine qib rfl ⟨ρ, ?_⟩
  unfold jr
  refine (qm (ρ' := ρ) ?_).trans (qcY ?_)
  . push_cast [vn (qa2 h (by omega)) (show (0 : Int) <= (r : Nat) by omega) (by omega), ρ]
  . exact qx (qat rfl rfl (uO h hl hr)) rfl (uT (i := 0) (qci bD r ks 0 (by omega)))
theorem wX {ks : List Kw} (h : ∀ k ∈ ks, z0 k) (hl : ks.length <= 4) {r : Nat} (hr : r <= 20) : jg [.tup (ks.map kw), .int (r : Nat)] = .ok (bD ks r) := by
  let ρ : Env := [some (.tup (ks.map kw)), some (.int (r : Nat))]
  unfold jg
  refine qib rfl ⟨ρ, ?_⟩
  unfold jP
  refine qcY (qx (a := .lst (jj (bD ks) r)) ?_ rfl (uT (qe1 (Nat.le_refl r))))
  push_cast [ud h hl hr, ρ]
theorem qcj {k : Kw} {ks : List Kw} (hk : z0 k) {s r : Nat} (hs : s <= r) (hr : r <= 20) : ∀ (n t : Nat), t + n = qW k ks (s : Nat) -> yt (tst (d2 ltD (qj zh (qa (dv 0) (qa (dv 4) (qa (dv 2) (qa (dv 3) (ret [])))))) (dv 1))) (zp 4 (d2 zt (dv 4) (ret (.int 1)))) (n + 1) [some (kw k), some (bD (k :: ks) s), some (.lst (jj (bD ks) r)), some (.int (s : Nat)), some (.int (t : Nat))] = .ok (.nx [some (kw k), some (bD (k :: ks) s), some (.lst (jj (bD ks) r)), some (.int (s : Nat)), some (.int (qW k ks (s : Nat) : Nat))]) := fun n => by
  obtain ⟨l1, l2, l3⟩ := uA k ks ((s : Nat) : Int)
  induction n with
  | zero =>
    intro t e
    have e : t = qW k ks (s : Nat) := e
    subst e
    have c : tst (d2 ltD (qj zh (qa (dv 0) (qa (dv 4) (qa (dv 2) (qa (dv 3) (ret [])))))) (dv 1)) [some (kw k), some (bD (k :: ks) s), some (.lst (jj (bD ks) r)), some (.int (s : Nat)), some (.int (qW k ks (s : Nat) : Nat))] = .ok (false, [some (kw k), some (bD (k :: ks) s), some (.lst (jj (bD ks) r)), some (.int (s : Nat)), some (.int (qW k ks (s : Nat) : Nat))]) := by
      refine vi (qx (qc2 rfl rfl rfl rfl (yo (ks := ks) hk hs hr l1)) rfl ?_)
      unfold bD
      rw [qaV, l2, decide_eq_false (by omega)]
    exact ql8 c
  | succ n ih =>
    intro t e
    have hlt : t < qW k ks (s : Nat) := by omega
    have c : tst (d2 ltD (qj zh (qa (dv 0) (qa (dv 4) (qa (dv 2) (qa (dv 3) (ret [])))))) (dv 1)) [some (kw k), some (bD (k :: ks) s), some (.lst (jj (bD ks) r)), some (.int (s : Nat)), some (.int (t : Nat))] = .ok (true, [some (kw k), some (bD (k :: ks) s), some (.lst (jj (bD ks) r)), some (.int (s : Nat)), some (.int (t : Nat))]) := by
      refine vi (qx (qc2 rfl rfl rfl rfl (yo (ks := ks) hk hs hr (by omega))) rfl ?_)
      unfold bD
      rw [qaV, decide_eq_true (l3 t hlt)]
    have s1 : zp 4 (d2 zt (dv 4) (ret (.int 1))) [some (kw k), some (bD (k :: ks) s), some (.lst (jj (bD ks) r)), some (.int (s : Nat)), some (.int (t : Nat))] = .ok (.nx [some (kw k), some (bD (k :: ks) s), some (.lst (jj (bD ks) r)), some (.int (s : Nat)), some (.int ((t + 1 : Nat) : Int))]) := by
      rw [qcX (qx rfl rfl (ql9 t))]
      rfl
    exact (ql7 c s1).trans (ih (t + 1) (by omega))
theorem uU {k : Kw} {ks : List Kw} (hk : z0 k) {s r : Nat} (hs : s <= r) (hr : r <= 20) : zc [kw k, bD (k :: ks) s, .lst (jj (bD ks) r), .int (s : Nat)] = .ok (.int (qW k ks (s : Nat) : Nat)) := by
  have q := qcj (ks := ks) hk hs hr (qW k ks (s : Nat)) 0 (by omega)
  unfold zc z6
  refine vJ rfl ⟨[some (kw k), some (bD (k :: ks) s), some (.lst (jj (bD ks) r)), some (.int (s : Nat)), some (.int (qW k ks (s : Nat) : Nat))], ?_⟩
  refine (qm (ρ' := [some (kw k), some (bD (k :: ks) s), some (.lst (jj (bD ks) r)), some (.int (s : Nat)), some (.int 0)]) rfl).trans ?_
  exact (qm (qex q (by intro z; cases z))).trans rfl
theorem qbP (T Rm : Option D) {r : Nat} (hr : r <= 20) (RW : List D) : ∀ (b : List Kw) (p : Nat) (L : List D) (s : Nat) (o5 o6 o7 : Option D), (∀ k ∈ b, z0 k) -> (∀ i, i <= b.length -> RW[p + i]? = some (.lst (jj (bD (b.drop i)) r))) -> s <= r -> L.length + b.length <= 100 ->
    ∃ o4' o5' o6' o7', jU (qag 2 (ze (ql 5) (ze (ql 6) qaf))) (qB (zp 7 (qj zc (qa (dv 6) (qa (d2 ixD (d2 ixD (dv 2) (dv 5)) (dv 4)) (qa (d2 ixD (dv 2) (d2 zt (dv 5) (ret (.int 1)))) (qa (dv 4) (ret []))))))) (qB (ji (qZ 3 (dv 7))) (zp 4 (qj jc (qa (dv 6) (qa (dv 7) (qa (dv 4) (ret [])))))))) (vF p (b.map kw)) [T, Rm, some (.lst RW), some (.lst L), some (.int (s : Nat)), o5, o6, o7] = .ok (.nx [T, Rm, some (.lst RW), some (.lst (L ++ (yi b (s : Nat)).map D.int)), o4', o5', o6', o7'])
  | [], p, L, s, o5, o6, o7, _, _, _, _ => ⟨some (.int (s : Nat)), o5, o6, o7, by rw [show L ++ (yi [] ((s : Nat) : Int)).map D.int = L from List.append_nil L]; rfl⟩
  | k :: b, p, L, s, o5, o6, o7, h, hR, hs, hL => by
    have hk := h k List.mem_cons_self
    obtain ⟨l1, l2, l3⟩ := uA k b ((s : Nat) : Int)
    have l20 := wV hk (show (0 : Int) <= (s : Nat) by omega) (by omega)
    obtain ⟨i, hi, ei⟩ := qe0 hk hs hr l1
    let t := qW k b (s : Nat)
    obtain ⟨q4, q5, q6, q7, q⟩ := qbP T Rm hr RW b (p + 1) (L ++ [.int (t : Nat)]) i (some (.int (p : Nat))) (some (kw k)) (some (.int (t : Nat))) (fun x hx => h x (List.mem_cons_of_mem _ hx)) (fun j hj => by
      have := hR (j + 1) (by rw [List.length_cons]; omega)
      rw [show p + 1 + j = p + (j + 1) by omega, this]
      rfl) hi (by rw [List.length_append, List.length_cons, List.length_nil]; rw [List.length_cons] at hL; omega)
    refine ⟨q4, q5, q6, q7, ?_⟩
    have e0 : RW[p]? = some (.lst (jj (bD (k :: b)) r)) := hR 0 (by omega)
    have e1 : RW[p + 1]? = some (.lst (jj (bD b) r)) := hR 1 (by rw [List.length_cons]; omega)
    have step : (qB (zp 7 (qj zc (qa (dv 6) (qa (d2 ixD (d2 ixD (dv 2) (dv 5)) (dv 4)) (qa (d2 ixD (dv 2) (d2 zt (dv 5) (ret (.int 1)))) (qa (dv 4) (ret []))))))) (qB (ji (qZ 3 (dv 7))) (zp 4 (qj jc (qa (dv 6) (qa (dv 7) (qa (dv 4) (ret [])))))))) [T, Rm, some (.lst RW), some (.lst L), some (.int (s : Nat)), some (.int (p : Nat)), some (kw k), o7] = .ok (.nx [T, Rm, some (.lst RW), some (.lst (L ++ [.int (t : Nat)])), some (.int (i : Nat)), some (.int (p : Nat)), some (kw k), some (.int (t : Nat))]) := by
      refine (qm (ρ' := [T, Rm, some (.lst RW), some (.lst L), some (.int (s : Nat)), some (.int (p : Nat)), some (kw k), some (.int (t : Nat))]) ?_).trans ((qm (ρ' := [T, Rm, some (.lst RW), some (.lst (L ++ [.int (t : Nat)])), some (.int (s : Nat)), some (.int (p : Nat)), some (kw k), some (.int (t : Nat))]) ?_).trans ?_)
      . rw [qcX (qc2 rfl (qx (qx rfl rfl (uT e0)) rfl (uT (qe1 hs))) (qx rfl (qx rfl rfl (zg _ _)) (show ixD (.lst RW) (.int ((p : Int) + 1)) = _ from uT (i := p + 1) e1)) rfl (uU (ks := b) hk hs hr))]
        rfl
      . rw [wQ (ds := L) (d := .int (t : Nat)) rfl rfl rfl (by omega)]
        rfl
      . rw [qcX (qau rfl rfl rfl (uN k (by show qW k b (s : Nat) <= 20; omega) s)), <- ei]
        rfl
    have pe : (L ++ (yi (k :: b) ((s : Nat) : Int)).map D.int) = L ++ [.int (t : Nat)] ++ (yi b ((i : Nat) : Int)).map D.int := by
      rw [yi, ei, List.map_cons, List.append_assoc]
      rfl
    rw [List.map_cons, vF, ut rfl step, q, pe]
theorem qab {ks : List Kw} (h : ∀ k ∈ ks, z0 k) (hl : ks.length <= 4) {r : Nat} (hr : r <= 20) : jE [.tup (ks.map kw), .int (r : Nat)] = .ok (ldD (yi ks (r : Nat))) := by
  let T : Option D := some (.tup (ks.map kw))
  let Rm : Option D := some (.int (r : Nat))
  obtain ⟨o4, o5, o6, o7, q⟩ := qbP T Rm hr (z5 bD r ks) ks 0 [] r none none none h (fun i hi => by rw [Nat.zero_add]; exact qci bD r ks i hi) (Nat.le_refl r) (by rw [List.length_nil]; omega)
  rw [List.nil_append] at q
  unfold jE
  refine qib rfl ⟨[T, Rm, some (.lst (z5 bD r ks)), some (.lst ((yi ks (r : Nat)).map D.int)), o4, o5, o6, o7], ?_⟩
  unfold yk
  refine (qm (ρ' := [T, Rm, none, none, none, none, none, none]) ?_).trans ?_
  . push_cast [vn (qa2 h (by omega)) (show (0 : Int) <= (r : Nat) by omega) (by omega), T, Rm]
  refine (qm (ρ' := [T, Rm, some (.lst (z5 bD r ks)), none, none, none, none, none]) ?_).trans ?_
  . rw [qcX (qat rfl rfl (uO h hl hr))]
    rfl
  refine (qm (ρ' := [T, Rm, some (.lst (z5 bD r ks)), some (.lst []), none, none, none, none]) ?_).trans ?_
  . push_cast [zQ (show 0 <= 1000000 by omega), immL, Bool.and_self]
  refine (qm (ρ' := [T, Rm, some (.lst (z5 bD r ks)), some (.lst []), some (.int (r : Nat)), none, none, none]) rfl).trans ?_
  refine (qm (ρ' := [T, Rm, some (.lst (z5 bD r ks)), some (.lst ((yi ks (r : Nat)).map D.int)), o4, o5, o6, o7]) ?_).trans rfl
  rw [yy, qb6, vK (a := .tup (ks.map kw)) rfl]
  exact q
theorem qe4 {k : Kw} (hk : z0 k) {r : Int} (h0 : 0 <= r) (h1 : r <= 20) {t : Nat} (ht : t <= ofn k r) : 0 <= r - (t : Int) * k.w /\ r - (t : Int) * k.w <= 20 := by
  have := (qcW hk.kd.1 hk.kd.2 h0 ht).1
  have h2 : 0 <= (t : Int) * k.w := Int.mul_nonneg (by omega) (by have := hk.1.1; omega)
  omega
theorem v5 : ∀ (ks : List Kw) (r : Int), 0 <= qL ks r
  | [], _ => Int.le_refl _
  | k :: ks, r => by
    have h1 := qcf (k := k) (ks := ks) (r := r) (t := 0) (by omega)
    have h2 := v5 ks (r - ((0 : Nat) : Int) * k.w)
    have e : ((0 : Nat) : Int) * k.v = 0 := Int.zero_mul _
    omega
theorem qa6 : ∀ (ks : List Kw), (∀ k ∈ ks, z0 k) -> ∀ r : Int, 0 <= r -> r <= 20 -> qL ks r <= 780 * (ks.length : Int)
  | [], _, _, _, _ => by show (0 : Int) <= _; simp
  | k :: ks, h, r, h0, h1 => by
    have hk := h k List.mem_cons_self
    obtain ⟨t, ht, e⟩ := qeY k ks r
    obtain ⟨a, b⟩ := qe4 hk h0 h1 ht
    have ih := qa6 ks (fun x hx => h x (List.mem_cons_of_mem _ hx)) _ a b
    have h20 := wV hk h0 h1
    have hv := hk.2.1
    have m : (t : Int) * k.v <= 20 * 39 := Int.mul_le_mul (by omega) hv.2 hv.1 (by omega)
    rw [List.length_cons]
    omega
theorem qe5 : ∀ (ks : List Kw), (∀ k ∈ ks, z0 k) -> ∀ r : Int, 0 <= r -> r <= 20 -> (yi ks r).length = ks.length /\ ∀ x ∈ yi ks r, 0 <= x /\ x <= 20
  | [], _, _, _, _ => ⟨rfl, fun x hx => by cases hx⟩
  | k :: ks, h, r, h0, h1 => by
    have hk := h k List.mem_cons_self
    obtain ⟨l1, l2, l3⟩ := uA k ks r
    obtain ⟨a, b⟩ := qe4 hk h0 h1 l1
    obtain ⟨c, d⟩ := qe5 ks (fun x hx => h x (List.mem_cons_of_mem _ hx)) _ a b
    have h20 := wV hk h0 h1
    rw [yi]
    refine ⟨by rw [List.length_cons, c, List.length_cons], fun x hx => ?_⟩
    rcases List.mem_cons.mp hx with rfl | hx
    . omega
    . exact d x hx
theorem vp {β : Type} (ks : List Kw) (r : Int) (g : List Int -> β) : (yM ks r).map (fun p => g p.1) = (ju ks r).map g := by
  rw [<- wT, List.map_map]
  rfl
theorem qa7 (ks : List Kw) (r : Int) : yi ks r ∈ ju ks r /\ qF ks (yi ks r) = qL ks r := by
  obtain ⟨yv, e⟩ := vL ks r
  have : yi ks r ∈ (ju ks r).filter (fun l => decide (qF ks l = qL ks r)) := by rw [e]; exact List.mem_cons_self
  obtain ⟨a, b⟩ := List.mem_filter.mp this
  exact ⟨a, of_decide_eq_true b⟩
theorem qe6 (ks : List Kw) (r : Int) : qby ((ju ks r).map (qF ks)) = qL ks r := by
  obtain ⟨a, b⟩ := qa7 ks r
  refine qaK (List.mem_map.mpr ⟨_, a, b⟩) fun n hn => ?_
  obtain ⟨l, hl, rfl⟩ := List.mem_map.mp hn
  exact v4 ks r l hl
theorem qdw (ks : List Kw) (r : Int) : qby (0 :: (ju ks r).map (qF ks)) = qL ks r := by
  obtain ⟨a, b⟩ := qa7 ks r
  refine qaK (List.mem_cons_of_mem _ (List.mem_map.mpr ⟨_, a, b⟩)) fun n hn => ?_
  rcases List.mem_cons.mp hn with rfl | hn
  . exact v5 ks r
  . obtain ⟨l, hl, rfl⟩ := List.mem_map.mp hn
    exact v4 ks r l hl
theorem qc4 {α : Type} {p : α -> Bool} : ∀ (l : List α) (x : α) (yv : List α), l.filter p = x :: yv -> l[l.findIdx p]? = some x
  | [], x, yv, h => by cases h
  | a :: l, x, yv, h => by
    rw [List.filter_cons] at h
    rw [List.findIdx_cons]
    cases e : p a with
    | true =>
      rw [e, if_pos rfl] at h
      cases h
      rfl
    | false =>
      rw [e] at h
      have := qc4 l x yv h
      rw [cond_false, List.getElem?_cons_succ]
      exact this
theorem qck {l : List Int} {M : Int} (h : M ∈ l) : qas (.lst (l.map D.int)) [.int M] = some (.int ((l.findIdx fun n => decide (n = M)) : Nat)) := by
  have o1 : (l.map D.int).all v0 = true := by
    rw [List.all_map]
    exact List.all_eq_true.mpr fun _ _ => rfl
  have o2 : v0 (.int M) = true := rfl
  have hj : l.findIdx (fun n => decide (n = M)) < l.length := List.findIdx_lt_length_of_exists ⟨M, h, decide_eq_true rfl⟩
  have e : (l.map D.int).findIdx? (fun d => PyData.eqv (zq d) (zq (.int M))) = some (l.findIdx fun n => decide (n = M)) := by
    rw [List.findIdx?_map]
    have : (fun d => PyData.eqv (zq d) (zq (.int M))) ∘ D.int = fun n => decide (n = M) := by
      funext n
      exact qip n M
    rw [this]
    exact List.findIdx?_eq_some_of_exists ⟨M, h, decide_eq_true rfl⟩
  unfold qas
  simp only [o1, o2, Bool.and_self, if_true, e, Option.map_some]
  rfl
theorem qdx {ks : List Kw} (h : ∀ k ∈ ks, z0 k) (hl : ks.length <= 4) {r : Nat} (hr : r <= 20) : ∃ c, zk [.tup (ks.map kw), .int (r : Nat)] = .ok (.tup [.int (qL ks (r : Nat)), ldD (yi ks (r : Nat)), c]) := by
  obtain ⟨e1, g⟩ := yn h hl hr
  have hln : (yM ks r).length <= 194481 := Nat.le_trans g.len (Nat.le_trans (Nat.pow_le_pow_right (by omega) hl) (by decide))
  let LL := ju ks (r : Nat)
  let W := LL.map (qF ks)
  have hM : qby W = qL ks (r : Nat) := qe6 ks _
  obtain ⟨bm1, bm2⟩ := qa7 ks ((r : Nat) : Int)
  have hmem : qL ks (r : Nat) ∈ W := List.mem_map.mpr ⟨_, bm1, bm2⟩
  have hW : LL ≠ [] := fun e => by
    have : yi ks ((r : Nat) : Int) ∈ LL := bm1
    rw [e] at this
    cases this
  let T : Option D := some (.tup (ks.map kw))
  let Rm : Option D := some (.int (r : Nat))
  let So : Option D := some (.lst (LL.map ldD))
  let ρ : Env := [T, Rm, So, some (.lst (W.map D.int))]
  have mx : qz ue (qa (dv 3) (ret [])) ρ = .ok (.int (qL ks (r : Nat)), ρ) := by
    refine vg rfl ?_
    have := wW (f := qF ks) hW
    rw [show (LL.map fun a => D.int (qF ks a)) = W.map D.int by show _ = (LL.map (qF ks)).map D.int; rw [List.map_map]; rfl] at this
    rw [this]
    show some (D.int (qby W)) = _
    rw [hM]
  obtain ⟨yv, ep⟩ := vL ks ((r : Nat) : Int)
  have fi : W.findIdx (fun n => decide (n = qL ks (r : Nat))) = LL.findIdx fun l => decide (qF ks l = qL ks (r : Nat)) := by
    show (LL.map (qF ks)).findIdx _ = _
    rw [List.findIdx_map]
    rfl
  have ld : (LL.map ldD)[LL.findIdx fun l => decide (qF ks l = qL ks (r : Nat))]? = some (ldD (yi ks (r : Nat))) := by
    rw [List.getElem?_map, qc4 LL _ yv ep]
    rfl
  have ix : qaN qas (dv 3) (qa (qz ue (qa (dv 3) (ret []))) (ret [])) ρ = .ok (.int ((LL.findIdx fun l => decide (qF ks l = qL ks (r : Nat))) : Nat), ρ) := by
    rw [qaP]
    have g3 : dv 3 ρ = .ok (.lst (W.map D.int), ρ) := rfl
    rw [g3]
    simp only [vK mx, qck hmem, fi]
  have ct : ∃ c, qaN qar (dv 3) (qa (qz ue (qa (dv 3) (ret []))) (ret [])) ρ = .ok (c, ρ) := by
    rw [qaP]
    have g3 : dv 3 ρ = .ok (.lst (W.map D.int), ρ) := rfl
    have cc : qar (.lst (W.map D.int)) [.int (qL ks (r : Nat))] = some (.int (W.countP (· == qL ks (r : Nat)) : Nat)) := by
      unfold qar
      simp only [qaY, Option.map_some]
    rw [g3]
    simp only [vK mx, cc]
    exact ⟨_, rfl⟩
  obtain ⟨c, ct⟩ := ct
  refine ⟨c, ?_⟩
  have e1' : qo [.tup (ks.map kw), .int (r : Nat)] = .ok (.lst (LL.map ldD)) := by rw [e1, vp ks _ ldD]
  unfold zk jI
  refine vJ rfl ⟨ρ, ?_⟩
  refine (qm (ρ' := [T, Rm, So, none]) ?_).trans ?_
  . show zp 2 _ [T, Rm, none, none] = _
    rw [uK, qat rfl rfl e1']
    rfl
  refine (qm (ρ' := ρ) ?_).trans ?_
  . have c : (qV 1 [0] none (uJ (dv 2)) (ql 0) (ret true) (qj qO (qa (dv 1) (qa (dv 0) (qa (ret (.int 1)) (ret [])))))) [T, Rm, So, none] = .ok (.lst ((yM ks r).map fun p => D.int (qF ks p.1)), [T, Rm, So, none]) := by
      refine qbI (r := [T]) (k := fun p : List Int × Int => ldD p.1) (yM ks r) _ ?_ rfl (by omega) fun p hp => ?_
      . rw [vp ks _ ldD]
        rfl
      . exact qf5 rfl rfl rfl (vo h hl (g.bd p hp).2.2)
    rw [vp ks _ fun l => D.int (qF ks l)] at c
    rw [uK, c, show (LL.map fun a => D.int (qF ks a)) = W.map D.int by show _ = (LL.map (qF ks)).map D.int; rw [List.map_map]; rfl]
    rfl
  . rw [vR, ql3 mx (qx rfl ix (uT ld)) ct]
theorem qbQ {n : Int} (h : 200 < n) : yd [.int n] = .exc ⟨"TooMany", .non⟩ [some (.int n)] := by
  unfold yd
  refine wM rfl ?_
  unfold yO
  push_cast [h, sm1]
theorem uP {d : D} (hs : yH d = true) {n : Int} (h : 200 < n) : qM [d, .int n] = .exc ⟨"TooMany", .non⟩ [some d, some (.int n)] := by
  have hc : z8 (.int n) = true := decide_eq_true (by omega)
  unfold qM
  refine wM rfl ?_
  unfold jf
  refine (qm (ρ' := [some d, some (.int n)]) ?_).trans ((qm (ρ' := [some d, some (.int n)]) ?_).trans ?_)
  . push_cast [yX _ hs]
  . push_cast [vm _ hc]
  . push_cast [qbQ h, qkY]
theorem qkZ {ks : List Kw} (h : ∀ k ∈ ks, z0 k) (hl : ks.length <= 4) {r : Nat} (hr : r <= 20) : qg [.int 0, .tup (ks.map kw), .int (r : Nat)] = .ok (.lst (jj (bD ks) r)) := by
  unfold qg zx
  let ρ : Env := [some (.int 0), some (.tup (ks.map kw)), some (.int (r : Nat)), none]
  refine vJ rfl ⟨ρ, qeZ (wO (ρ' := ρ) ?_)⟩
  push_cast [ρ, ud h hl hr]
theorem qk0 {ks : List Kw} (h : ∀ k ∈ ks, z0 k) (hl : ks.length <= 4) {r : Nat} (hr : r <= 20) : qg [.int 1, .tup (ks.map kw), .int (r : Nat)] = .ok (.int (qL ks (r : Nat))) := by
  unfold qg zx
  let ρ : Env := [some (.int 1), some (.tup (ks.map kw)), some (.int (r : Nat)), none]
  have h1 : ¬ ((1 : Int) = 0) := by omega
  refine vJ rfl ⟨ρ, qeZ ((qm (ρ' := ρ) ?_).trans (wO (ρ' := ρ) ?_))⟩
  . push_cast [ρ, h1]
  . push_cast [ρ, wX h hl hr]
    rfl
theorem qk1 {ks : List Kw} (h : ∀ k ∈ ks, z0 k) (hl : ks.length <= 4) {r : Nat} (hr : r <= 20) : qg [.int 2, .tup (ks.map kw), .int (r : Nat)] = .ok (ldD (yi ks (r : Nat))) := by
  unfold qg zx
  let ρ : Env := [some (.int 2), some (.tup (ks.map kw)), some (.int (r : Nat)), none]
  have h0 : ¬ ((2 : Int) = 0) := by omega
  have h1 : ¬ ((2 : Int) = 1) := by omega
  refine vJ rfl ⟨ρ, qeZ ((qm (ρ' := ρ) ?_).trans ((qm (ρ' := ρ) ?_).trans ?_))⟩
  . push_cast [ρ, h0]
  . push_cast [ρ, h1]
  . push_cast [ρ, qab h hl hr]
theorem qg6 {s x : D} {n : Str} {w : D} (hn : RN.contains n = true) (he : qM [s, x] = .exc ⟨n, .non⟩ [some s, some x]) (hm : zW [.exc n] = .ok w) : ∀ j : Nat, j < 3 -> qg [.int (j : Nat), s, x] = .ok w := by
  have l : zw [s, x] = .exc ⟨n, .non⟩ [some s, some x] := by
    unfold zw
    refine wM rfl ?_
    unfold jr
    refine qbF ?_
    push_cast [he, hn]
  have b : jg [s, x] = .exc ⟨n, .non⟩ [some s, some x] := by
    unfold jg
    refine wM rfl ?_
    unfold jP
    push_cast [l, hn]
  have c : jE [s, x] = .exc ⟨n, .non⟩ [some s, some x, none, none, none, none, none, none] := by
    unfold jE
    refine wM rfl ?_
    unfold yk
    refine qbF ?_
    push_cast [he, hn]
  have h1 : ¬ ((1 : Int) = 0) := by omega
  have h2 : ¬ ((2 : Int) = 0) := by omega
  have h3 : ¬ ((2 : Int) = 1) := by omega
  refine ql6 ?_ ?_ ?_
  . show qg [.int 0, s, x] = _
    unfold qg zx
    let ρ : Env := [some (.int 0), some s, some x, none]
    refine vJ rfl ⟨ρ, qil (n := n) (v := .non) (qbF ?_) hn hm⟩
    push_cast [ρ, l, hn]
  . show qg [.int 1, s, x] = _
    unfold qg zx
    let ρ : Env := [some (.int 1), some s, some x, none]
    refine vJ rfl ⟨ρ, qil (n := n) (v := .non) ((qm (ρ' := ρ) ?_).trans (qbF ?_)) hn hm⟩
    . push_cast [ρ, h1]
    . push_cast [ρ, b, hn]
  . show qg [.int 2, s, x] = _
    unfold qg zx
    let ρ : Env := [some (.int 2), some s, some x, none]
    refine vJ rfl ⟨ρ, qil (n := n) (v := .non) ((qm (ρ' := ρ) ?_).trans ((qm (ρ' := ρ) ?_).trans ?_)) hn hm⟩
    . push_cast [ρ, h2]
    . push_cast [ρ, h3]
    . push_cast [ρ, c, hn]
theorem qgd (ks : List Kw) (h : ∀ k ∈ ks, z0 k) (hl : ks.length <= 4) {r : Nat} (hr : r <= 20) : zE [.lst (jj (bD ks) r)] = some (.str (zq (.lst (jj (bD ks) r))).shown) := by
  have hx : ∀ d ∈ jj (bD ks) r, qeR 130 0 d /\ plain d = true := fun d hd => by
    obtain ⟨i, hi, rfl⟩ := List.mem_map.mp hd
    have hi := List.mem_range.mp hi
    have a := v5 ks ((i : Nat) : Int)
    have b := qa6 ks h ((i : Nat) : Int) (by omega) (by omega)
    exact ⟨qeW (by show (qL ks ((i : Nat) : Int)).natAbs < 10 ^ 39; omega), rfl⟩
  have hn : qeR (21 * 131) 1 (.lst (jj (bD ks) r)) := qf2 (fun d hd => (hx d hd).1) (by unfold jj; rw [List.length_map, List.length_range]; omega)
  have hp := wP (jj (bD ks) r) fun d hd => (hx d hd).2
  have : vO (.lst (jj (bD ks) r)) = true := qcd hn (by omega) (by omega) (by
    show (!(zq (.lst (jj (bD ks) r))).hasDict || noL (.lst (jj (bD ks) r))) = true
    simp only [zq, PyData.hasDict, hp.1, Bool.not_false, Bool.true_or])
  simp only [zE, this, if_true]
theorem qis (k : Kw) : immF (kw k) = true := by
  obtain ⟨w, v, m⟩ := k
  cases m <;> rfl
theorem qbR {α : Type} {f : α -> D} (h : ∀ a, immF (f a) = true) : ∀ as : List α, immFs (as.map f) = true
  | [] => rfl
  | a :: as => by rw [List.map_cons, immFs, h a, qbR h as]; rfl
theorem qit {f : Nat -> Int} {r : Nat} : immL (jj (fun i => .int (f i)) r) = true := qcU fun _ _ => rfl
theorem qge {ks : List Kw} (h : ∀ k ∈ ks, z0 k) (hl : ks.length <= 4) (S I B Rm : Option D) (r0 : List (Option D)) {r : Nat} (hr : r <= 20) (o6 : Option D) : ∃ o6', jU (ql 6) (ji (qZ 5 (qz ue (qa (d2 zt (jQ (qa (ret (.int 0)) (ret []))) (qV 1 [3] none (uJ (qj qo (qa (dv 3) (qa (dv 6) (ret []))))) (ql 0) (ret true) (qj qO (qa (dv 1) (qa (dv 0) (qa (ret (.int 1)) (ret []))))))) (ret []))))) ((List.range (r + 1)).map fun s : Nat => D.int (s : Nat)) ([S, I, B, some (.tup (ks.map kw)), Rm, some (.lst []), o6] ++ r0) = .ok (.nx ([S, I, B, some (.tup (ks.map kw)), Rm, some (.lst (jj (bD ks) r)), o6'] ++ r0)) := by
  let T : Option D := some (.tup (ks.map kw))
  obtain ⟨ρ', q, _, o6', rfl⟩ := vh (G := ql 6) (b := (ji (qZ 5 (qz ue (qa (d2 zt (jQ (qa (ret (.int 0)) (ret []))) (qV 1 [3] none (uJ (qj qo (qa (dv 3) (qa (dv 6) (ret []))))) (ql 0) (ret true) (qj qO (qa (dv 1) (qa (dv 0) (qa (ret (.int 1)) (ret []))))))) (ret [])))))) (k := fun s : Nat => D.int (s : Nat)) (step := fun (l : List D) (s : Nat) => l ++ [bD ks s]) (Inv := fun n l ρ => l.length = n /\ ∃ o6, ρ = [S, I, B, T, Rm, some (.lst l), o6] ++ r0) (List.range (r + 1)) 0 [] ([S, I, B, T, Rm, some (.lst []), o6] ++ r0) ⟨rfl, o6, rfl⟩ (fun s hs n l ρ _ hn => by
    rintro ⟨hln, o6, rfl⟩
    have hs' := List.mem_range.mp hs
    rw [List.length_range] at hn
    let ρ1 : Env := [S, I, B, T, Rm, some (.lst l), some (.int (s : Nat))] ++ r0
    obtain ⟨e1, g⟩ := yn h hl (show s <= 20 by omega)
    have hlen : (yM ks s).length <= 194481 := Nat.le_trans g.len (Nat.le_trans (Nat.pow_le_pow_right (by omega) hl) (by decide))
    have c : qV 1 [3] none (uJ (qj qo (qa (dv 3) (qa (dv 6) (ret []))))) (ql 0) (ret true) (qj qO (qa (dv 1) (qa (dv 0) (qa (ret (.int 1)) (ret []))))) ρ1 = .ok (.lst ((yM ks s).map fun p => D.int (qF ks p.1)), ρ1) := by
      refine qbI (r := [T]) (k := fun p : List Int × Int => ldD p.1) (yM ks s) _ ?_ rfl (by omega) fun p hp => ?_
      . rw [qel, qat rfl rfl e1]
        rfl
      . exact qf5 rfl rfl rfl (vo h hl (g.bd p hp).2.2)
    rw [vp ks _ fun l => D.int (qF ks l)] at c
    have hlen' : (ju ks (s : Nat)).length <= 194481 := by rw [<- wT, List.length_map]; exact hlen
    have c2 : d2 zt (jQ (qa (ret (.int 0)) (ret []))) (qV 1 [3] none (uJ (qj qo (qa (dv 3) (qa (dv 6) (ret []))))) (ql 0) (ret true) (qj qO (qa (dv 1) (qa (dv 0) (qa (ret (.int 1)) (ret [])))))) ρ1 = .ok (.lst (.int 0 :: (ju ks (s : Nat)).map fun l => D.int (qF ks l)), ρ1) := by
      refine qx (a := .lst [.int 0]) (by push_cast [sm1]) c ?_
      rw [v3 (by rw [List.length_map, List.length_cons, List.length_nil]; omega)]
      rfl
    have c3 : qz ue (qa (d2 zt (jQ (qa (ret (.int 0)) (ret []))) (qV 1 [3] none (uJ (qj qo (qa (dv 3) (qa (dv 6) (ret []))))) (ql 0) (ret true) (qj qO (qa (dv 1) (qa (dv 0) (qa (ret (.int 1)) (ret []))))))) (ret [])) ρ1 = .ok (bD ks s, ρ1) := by
      refine vg c2 ?_
      have := wW (l := (0 : Int) :: (ju ks (s : Nat)).map (qF ks)) (f := fun n => n) (by simp)
      rw [List.map_cons, List.map_map, List.map_id' , qdw] at this
      exact this
    refine ⟨ρ1, [S, I, B, T, Rm, some (.lst (l ++ [bD ks s])), some (.int (s : Nat))] ++ r0, rfl, ?_, by rw [List.length_append, hln]; rfl, _, rfl⟩
    rw [wQ (ds := l) (ρ := ρ1) rfl c3 rfl (by omega)]
    rfl)
  refine ⟨o6', ?_⟩
  rw [show (List.range (r + 1)).foldl (fun (l : List D) (s : Nat) => l ++ [bD ks s]) [] = jj (bD ks) r by
    rw [qa3, List.nil_append]
    unfold jj
    rw [<- List.map_eq_flatMap]] at q
  exact q
theorem qiu : neB (.lst (List.replicate 3 (.str "number"))) (.lst (jj (fun _ => .str "number") 2)) = some (.bl false) := by kernel_rfl
theorem qk2 : neB (.lst (List.replicate 3 (.str "many"))) (.lst (jj (fun _ => .str "many") 2)) = some (.bl false) := by kernel_rfl
theorem qlu (x : Str) (ρ : Env) : d2 yr (jQ (qa (ret (.str x)) (ret []))) (ret (.int 3)) ρ = .ok (.lst (jj (fun _ => .str x) 2), ρ) := qx (by rw [qei, vK rfl]; simp only [List.length_cons, List.length_nil, Nat.zero_add, sm1, if_true]) rfl (qe2 (.str x) 2 (by omega))
theorem qdy {s : D} (hs : yH s = true) : ∀ d ∈ [.int (-1), .non, .bl true, .str "1", .tup [.int 1]], ∀ j : Nat, j < 3 -> qg [.int (j : Nat), s, d] = .ok (.str "number") := fun d hd => by
  have hc : z8 d = false := by
    simp only [List.mem_cons, List.not_mem_nil, or_false] at hd
    rcases hd with rfl | rfl | rfl | rfl | rfl <;> rfl
  exact qg6 yZ (qbM hs hc) w9
theorem qg7 {ks : List Kw} (h : ∀ k ∈ ks, z0 k) (hl : ks.length <= 4) (S I B o6 : Option D) (r0 : List (Option D)) {r : Nat} (hr : r <= 20) (l o8 : Option D) : (qB (yG 8 (va qg (qa (ret (.int 0)) (qa (dv 3) (qa (dv 4) (ret [])))))) (qB (sif (tst (d2 neB (vd (qz zE (qa (dv 8) (ret [])))) (vd (qz zE (qa (dv 5) (ret [])))))) (jt (ret (.bl false))) jW) (ji (qZ 8 (ret (.int 0)))))) ([S, I, B, some (.tup (ks.map kw)), some (.int (r : Nat)), some (.lst (jj (bD ks) r)), o6, l, o8] ++ r0) = .ok (.nx ([S, I, B, some (.tup (ks.map kw)), some (.int (r : Nat)), some (.lst (jj (bD ks) r)), o6, l, some (.lst (jj (bD ks) r ++ [.int 0]))] ++ r0)) := by
  let T : Option D := some (.tup (ks.map kw))
  let Rm : Option D := some (.int (r : Nat))
  let W : Option D := some (.lst (jj (bD ks) r))
  let ρ1 : Env := [S, I, B, T, Rm, W, o6, l, W] ++ r0
  refine (qm (ρ' := ρ1) ?_).trans ((qm (ρ' := ρ1) ?_).trans ?_)
  . have c : va qg (qa (ret (.int 0)) (qa (dv 3) (qa (dv 4) (ret [])))) ([S, I, B, T, Rm, W, o6, l, o8] ++ r0) = .ok (jj (bD ks) r, [S, I, B, T, Rm, W, o6, l, o8] ++ r0) := by
      have i1 : immFs [.int 0, .tup (ks.map kw), .int (r : Nat)] = true := by
        simp only [immFs, immF, qbR qis, Bool.and_self]
      have i2 : immL (jj (bD ks) r) = true := qit (f := fun i => qL ks (i : Nat))
      rw [qb5, qii (a := .int 0) (b := .tup (ks.map kw)) (c := .int (r : Nat)) rfl rfl rfl]
      simp only [i1, qkZ h hl hr, i2, if_true]
    rw [qaH, c]
    rfl
  . have rr := qgd ks h hl hr
    have a (j : Nat) (hj : dv j ρ1 = .ok (.lst (jj (bD ks) r), ρ1)) : vd (qz zE (qa (dv j) (ret []))) ρ1 = .ok (.str (zq (.lst (jj (bD ks) r))).shown, ρ1) := by
      rw [qic, vg hj rr]
      simp only [imm, and_self, if_true]
    exact qkf (vi (qx (a 8 rfl) (a 5 rfl) (qce _)))
  . rw [wQ (ds := jj (bD ks) r) (d := .int 0) (ρ := ρ1) rfl rfl rfl (by unfold jj; rw [List.length_map, List.length_range]; omega)]
    rfl
theorem qgf (ns : List Int) (i : Int) (h0 : 0 <= i) (r : Env) (hr : r.length = 12) : ∃ r', r'.length = 12 /\ (qB (yG 2 (va jh (qa (dv 0) (qa (dv 1) (ret []))))) (qB (zp 3 (qq zm 2 (qa (ret (.int 4)) (qa (ret .non) (ret []))))) (qB (zp 4 (qq qi 2 (qa (ret (.int 19)) (ret [])))) (qB (yG 5 (qfD (ret []))) (qB (u5 (zf (qa (d2 zt (dv 4) (ret (.int 1))) (ret []))) (ql 6) (ji (qZ 5 (qz ue (qa (d2 zt (jQ (qa (ret (.int 0)) (ret []))) (qV 1 [3] none (uJ (qj qo (qa (dv 3) (qa (dv 6) (ret []))))) (ql 0) (ret true) (qj qO (qa (dv 1) (qa (dv 0) (qa (ret (.int 1)) (ret []))))))) (ret [])))))) (qB (u5 (zf (qa (ret (.int 2)) (ret []))) (ql 7) (qB (yG 8 (va qg (qa (ret (.int 0)) (qa (dv 3) (qa (dv 4) (ret [])))))) (qB (sif (tst (d2 neB (vd (qz zE (qa (dv 8) (ret [])))) (vd (qz zE (qa (dv 5) (ret [])))))) (jt (ret (.bl false))) jW) (ji (qZ 8 (ret (.int 0))))))) (qB (qgn (qj zk (qa (dv 3) (qa (dv 4) (ret [])))) (qag 3 (ze (ql 9) (ze (ql 10) (ze (ql 11) qaf))))) (qB (sif (tor (tst (d2 neB (qz zE (qa (qj qg (qa (ret (.int 1)) (qa (dv 3) (qa (dv 4) (ret []))))) (ret []))) (qz zE (qa (dv 9) (ret []))))) (tst (d2 neB (qz zE (qa (qj qg (qa (ret (.int 2)) (qa (dv 3) (qa (dv 4) (ret []))))) (ret []))) (qz zE (qa (dv 10) (ret [])))))) (jt (ret (.bl false))) jW) (qB (u5 (uJ (jQ (qa (d1 qgB (ret (.int 1))) (qa (ret .non) (qa (ret (.bl true)) (qa (ret (.str "1")) (qa (uZ (qa (ret (.int 1)) (ret []))) (ret [])))))))) (ql 12) (sif (tst (d2 neB (qV 1 [3, 12] none (zf (qa (ret (.int 3)) (ret []))) (ql 0) (ret true) (qj qg (qa (dv 0) (qa (dv 1) (qa (dv 2) (ret [])))))) (d2 yr (jQ (qa (ret (.str "number")) (ret []))) (ret (.int 3))))) (jt (ret (.bl false))) jW)) (u5 (uJ (jQ (qa (ret (.int 201)) (qa (d2 zt (ret (.int 201)) (qq qi 2 (qa (d2 qgC (ret (.int 10)) (ret (.int 20))) (ret [])))) (ret []))))) (ql 13) (sif (tst (d2 neB (qV 1 [3, 13] none (zf (qa (ret (.int 3)) (ret []))) (ql 0) (ret true) (qj qg (qa (dv 0) (qa (dv 1) (qa (dv 2) (ret [])))))) (d2 yr (jQ (qa (ret (.str "many")) (ret []))) (ret (.int 3))))) (jt (ret (.bl false))) jW))))))))))) ([some (.fz ns), some (.int i)] ++ r) = .ok (.nx ([some (.fz ns), some (.int i)] ++ r')) := by
  match r, hr with
  | [o2, o3, o4, o5, o6, o7, o8, o9, o10, o11, o12, o13], _ =>
    obtain ⟨n, eb⟩ := qj3 ns i h0
    obtain ⟨dks, n1, es, hk0, hl0⟩ := qdv n
    obtain ⟨ks, rfl, hk⟩ := qc0 dks hk0
    have hl : ks.length <= 4 := by rw [List.length_map] at hl0; exact hl0
    let rm : Nat := (n1 % 19).toNat
    have hrm : rm <= 20 := by show (n1 % 19).toNat <= 20; omega
    have erm : (.int (n1 % 19) : D) = .int (rm : Nat) := by congr 1; show _ = (((n1 % 19).toNat : Nat) : Int); omega
    let n2 := n1 / 19
    let n3 := n2 / 100000000000000000000
    let m3 := n2 % 100000000000000000000
    have hs := qa2 hk (show ks.length <= 12 by omega)
    obtain ⟨ct, ebo⟩ := qdx hk hl hrm
    let S : Option D := some (.fz ns)
    let I : Option D := some (.int i)
    let B : Option D := some (.lst [.int n2])
    let B3 : Option D := some (.lst [.int n3])
    let K : Option D := some (.tup (ks.map kw))
    let Rm : Option D := some (.int (rm : Nat))
    let W : Option D := some (.lst (jj (bD ks) rm))
    let V : Option D := some (.lst (jj (bD ks) rm ++ [.int 0]))
    let Be : Option D := some (.int (qL ks (rm : Nat)))
    let Ld : Option D := some (ldD (yi ks (rm : Nat)))
    obtain ⟨q6, du⟩ := qge hk hl S I B Rm [o7, o8, o9, o10, o11, o12, o13] hrm o6
    obtain ⟨q12, th⟩ := wS (b := (sif (tst (d2 neB (qV 1 [3, 12] none (zf (qa (ret (.int 3)) (ret []))) (ql 0) (ret true) (qj qg (qa (dv 0) (qa (dv 1) (qa (dv 2) (ret [])))))) (d2 yr (jQ (qa (ret (.str "number")) (ret []))) (ret (.int 3))))) (jt (ret (.bl false))) jW)) (i := 12) (ρ := [S, I, B, K, Rm, W, q6, some (.int 1), V, Be, Ld, some ct, o12, o13]) (of_decide_eq_true rfl) [.int (-1), .non, .bl true, .str "1", .tup [.int 1]] o12 (fun d hd => qg4 (r := [K, some d]) 3 (.str "number") _ (by omega) rfl (fun j hj => qau rfl rfl rfl (qdy hs d hd j hj)) (qlu _ _) qiu)
    obtain ⟨q13, fr⟩ := wS (b := (sif (tst (d2 neB (qV 1 [3, 13] none (zf (qa (ret (.int 3)) (ret []))) (ql 0) (ret true) (qj qg (qa (dv 0) (qa (dv 1) (qa (dv 2) (ret [])))))) (d2 yr (jQ (qa (ret (.str "many")) (ret []))) (ret (.int 3))))) (jt (ret (.bl false))) jW)) (i := 13) (ρ := [S, I, B3, K, Rm, W, q6, some (.int 1), V, Be, Ld, some ct, q12, o13]) (of_decide_eq_true rfl) [.int 201, .int (201 + m3)] o13 (fun d hd => by
      have he : qM [.tup (ks.map kw), d] = .exc ⟨"TooMany", .non⟩ [some (.tup (ks.map kw)), some d] := by
        simp only [List.mem_cons, List.not_mem_nil, or_false] at hd
        rcases hd with rfl | rfl
        . exact uP hs (by omega)
        . exact uP hs (by show (200 : Int) < 201 + n2 % 100000000000000000000; omega)
      exact qg4 (r := [K, some d]) 3 (.str "many") _ (by omega) rfl (fun j hj => qau rfl rfl rfl (qg6 uI he qa5 j hj)) (qlu _ _) qk2)
    refine ⟨[B3, K, Rm, W, q6, some (.int 1), V, Be, Ld, some ct, q12, q13], rfl, ?_⟩
    show (qB (yG 2 (va jh (qa (dv 0) (qa (dv 1) (ret []))))) (qB (zp 3 (qq zm 2 (qa (ret (.int 4)) (qa (ret .non) (ret []))))) (qB (zp 4 (qq qi 2 (qa (ret (.int 19)) (ret [])))) (qB (yG 5 (qfD (ret []))) (qB (u5 (zf (qa (d2 zt (dv 4) (ret (.int 1))) (ret []))) (ql 6) (ji (qZ 5 (qz ue (qa (d2 zt (jQ (qa (ret (.int 0)) (ret []))) (qV 1 [3] none (uJ (qj qo (qa (dv 3) (qa (dv 6) (ret []))))) (ql 0) (ret true) (qj qO (qa (dv 1) (qa (dv 0) (qa (ret (.int 1)) (ret []))))))) (ret [])))))) (qB (u5 (zf (qa (ret (.int 2)) (ret []))) (ql 7) (qB (yG 8 (va qg (qa (ret (.int 0)) (qa (dv 3) (qa (dv 4) (ret [])))))) (qB (sif (tst (d2 neB (vd (qz zE (qa (dv 8) (ret [])))) (vd (qz zE (qa (dv 5) (ret [])))))) (jt (ret (.bl false))) jW) (ji (qZ 8 (ret (.int 0))))))) (qB (qgn (qj zk (qa (dv 3) (qa (dv 4) (ret [])))) (qag 3 (ze (ql 9) (ze (ql 10) (ze (ql 11) qaf))))) (qB (sif (tor (tst (d2 neB (qz zE (qa (qj qg (qa (ret (.int 1)) (qa (dv 3) (qa (dv 4) (ret []))))) (ret []))) (qz zE (qa (dv 9) (ret []))))) (tst (d2 neB (qz zE (qa (qj qg (qa (ret (.int 2)) (qa (dv 3) (qa (dv 4) (ret []))))) (ret []))) (qz zE (qa (dv 10) (ret [])))))) (jt (ret (.bl false))) jW) (qB (u5 (uJ (jQ (qa (d1 qgB (ret (.int 1))) (qa (ret .non) (qa (ret (.bl true)) (qa (ret (.str "1")) (qa (uZ (qa (ret (.int 1)) (ret []))) (ret [])))))))) (ql 12) (sif (tst (d2 neB (qV 1 [3, 12] none (zf (qa (ret (.int 3)) (ret []))) (ql 0) (ret true) (qj qg (qa (dv 0) (qa (dv 1) (qa (dv 2) (ret [])))))) (d2 yr (jQ (qa (ret (.str "number")) (ret []))) (ret (.int 3))))) (jt (ret (.bl false))) jW)) (u5 (uJ (jQ (qa (ret (.int 201)) (qa (d2 zt (ret (.int 201)) (qq qi 2 (qa (d2 qgC (ret (.int 10)) (ret (.int 20))) (ret [])))) (ret []))))) (ql 13) (sif (tst (d2 neB (qV 1 [3, 13] none (zf (qa (ret (.int 3)) (ret []))) (ql 0) (ret true) (qj qg (qa (dv 0) (qa (dv 1) (qa (dv 2) (ret [])))))) (d2 yr (jQ (qa (ret (.str "many")) (ret []))) (ret (.int 3))))) (jt (ret (.bl false))) jW))))))))))) [S, I, o2, o3, o4, o5, o6, o7, o8, o9, o10, o11, o12, o13] = _
    refine (qm (ρ' := [S, I, some (.lst [.int n]), o3, o4, o5, o6, o7, o8, o9, o10, o11, o12, o13]) ?_).trans ?_
    . push_cast [S, I, eb, immFs, immF, immL, imm, Bool.and_self]
    refine (qm (ρ' := [S, I, some (.lst [.int n1]), K, o4, o5, o6, o7, o8, o9, o10, o11, o12, o13]) ?_).trans ?_
    . push_cast [es]
      rfl
    refine (qm (ρ' := [S, I, B, K, Rm, o5, o6, o7, o8, o9, o10, o11, o12, o13]) ?_).trans ?_
    . push_cast [jG (m := 19) (by decide) (by decide)]
      rw [erm]
    refine (qm (ρ' := [S, I, B, K, Rm, some (.lst []), o6, o7, o8, o9, o10, o11, o12, o13]) ?_).trans ?_
    . push_cast [zQ (show 0 <= 1000000 by omega), immL, Bool.and_self, B, K, Rm]
    refine (qm (ρ' := [S, I, B, K, Rm, W, q6, o7, o8, o9, o10, o11, o12, o13]) ?_).trans ?_
    . have e : ((rm : Int) + 1).toNat = rm + 1 := by omega
      rw [yy, jX (j := (rm : Int) + 1) (ρ1 := [S, I, B, K, Rm, some (.lst []), o6, o7, o8, o9, o10, o11, o12, o13]) (vK (qx rfl rfl (zg _ _))) (by omega) (by omega), e, qkg]
      exact du
    refine (qm (ρ' := [S, I, B, K, Rm, W, q6, some (.int 1), V, o9, o10, o11, o12, o13]) ?_).trans ?_
    . rw [yy, jX (j := 2) (ρ1 := [S, I, B, K, Rm, W, q6, o7, o8, o9, o10, o11, o12, o13]) rfl (by omega) (by omega)]
      show jU (ql 7) _ [.int 0, .int 1] _ = _
      rw [ut rfl (qg7 hk hl S I B q6 [o9, o10, o11, o12, o13] hrm (some (.int 0)) o8), ut rfl (qg7 hk hl S I B q6 [o9, o10, o11, o12, o13] hrm (some (.int 1)) V)]
      rfl
    let ρ : Env := [S, I, B, K, Rm, W, q6, some (.int 1), V, Be, Ld, some ct, o12, o13]
    refine (qm (ρ' := ρ) ?_).trans ?_
    . rw [qek, qat rfl rfl ebo]
      rfl
    refine (qm (ρ' := ρ) ?_).trans ?_
    . have a := v5 ks ((rm : Nat) : Int)
      have b := qa6 ks hk ((rm : Nat) : Int) (by omega) (by omega)
      have r1 : zE [.int (qL ks (rm : Nat))] = some (.str (PyData.shown (.int (qL ks (rm : Nat))))) := qf4 (by omega)
      obtain ⟨pl, pb⟩ := qe5 ks hk ((rm : Nat) : Int) (by omega) (by omega)
      have r2 : zE [ldD (yi ks (rm : Nat))] = some (.str (zq (ldD (yi ks (rm : Nat)))).shown) := qeS (fun x hx => by
        obtain ⟨v, hv, rfl⟩ := List.mem_map.mp hx
        have := pb v hv
        exact .inr ⟨v, rfl, by omega⟩) (by rw [List.length_map, pl]; omega)
      exact qkf (ql5 (vi (qx (vg (qau rfl rfl rfl (qk0 hk hl hrm)) r1) (vg rfl r1) (qce _))) (vi (qx (vg (qau rfl rfl rfl (qk1 hk hl hrm)) r2) (vg rfl r2) (qce _))))
    refine (qm (ρ' := [S, I, B, K, Rm, W, q6, some (.int 1), V, Be, Ld, some ct, q12, o13]) ?_).trans ?_
    . have c : (uJ (jQ (qa (d1 qgB (ret (.int 1))) (qa (ret .non) (qa (ret (.bl true)) (qa (ret (.str "1")) (qa (uZ (qa (ret (.int 1)) (ret []))) (ret [])))))))) ρ = .ok ([.int (-1), .non, .bl true, .str "1", .tup [.int 1]], ρ) := by
        push_cast [qiC, neg_int, sm1, zQ (show 5 <= 1000000 by omega)]
      rw [yy, c]
      exact th
    . have c : (uJ (jQ (qa (ret (.int 201)) (qa (d2 zt (ret (.int 201)) (qq qi 2 (qa (d2 qgC (ret (.int 10)) (ret (.int 20))) (ret [])))) (ret []))))) [S, I, B, K, Rm, W, q6, some (.int 1), V, Be, Ld, some ct, q12, o13] = .ok ([.int 201, .int (201 + m3)], [S, I, B3, K, Rm, W, q6, some (.int 1), V, Be, Ld, some ct, q12, o13]) := by
        have tk : qi [.int n2] [.int 100000000000000000000] = .ok (.int m3, [.int n3]) := jG (by decide) (by decide)
        push_cast [qiC, qkW, tk, zg, zQ (show 2 <= 1000000 by omega), B]
        rfl
      rw [yy, c]
      exact fr
theorem qc5 (ns : List Int) : ∀ (ds : List D) (o1 : Option D) (r : Env), r.length = 12 -> (∀ d ∈ ds, ∃ i : Int, d = .int i /\ 0 <= i) -> ∃ ρ, jU (ql 1) (qB (yG 2 (va jh (qa (dv 0) (qa (dv 1) (ret []))))) (qB (zp 3 (qq zm 2 (qa (ret (.int 4)) (qa (ret .non) (ret []))))) (qB (zp 4 (qq qi 2 (qa (ret (.int 19)) (ret [])))) (qB (yG 5 (qfD (ret []))) (qB (u5 (zf (qa (d2 zt (dv 4) (ret (.int 1))) (ret []))) (ql 6) (ji (qZ 5 (qz ue (qa (d2 zt (jQ (qa (ret (.int 0)) (ret []))) (qV 1 [3] none (uJ (qj qo (qa (dv 3) (qa (dv 6) (ret []))))) (ql 0) (ret true) (qj qO (qa (dv 1) (qa (dv 0) (qa (ret (.int 1)) (ret []))))))) (ret [])))))) (qB (u5 (zf (qa (ret (.int 2)) (ret []))) (ql 7) (qB (yG 8 (va qg (qa (ret (.int 0)) (qa (dv 3) (qa (dv 4) (ret [])))))) (qB (sif (tst (d2 neB (vd (qz zE (qa (dv 8) (ret [])))) (vd (qz zE (qa (dv 5) (ret [])))))) (jt (ret (.bl false))) jW) (ji (qZ 8 (ret (.int 0))))))) (qB (qgn (qj zk (qa (dv 3) (qa (dv 4) (ret [])))) (qag 3 (ze (ql 9) (ze (ql 10) (ze (ql 11) qaf))))) (qB (sif (tor (tst (d2 neB (qz zE (qa (qj qg (qa (ret (.int 1)) (qa (dv 3) (qa (dv 4) (ret []))))) (ret []))) (qz zE (qa (dv 9) (ret []))))) (tst (d2 neB (qz zE (qa (qj qg (qa (ret (.int 2)) (qa (dv 3) (qa (dv 4) (ret []))))) (ret []))) (qz zE (qa (dv 10) (ret [])))))) (jt (ret (.bl false))) jW) (qB (u5 (uJ (jQ (qa (d1 qgB (ret (.int 1))) (qa (ret .non) (qa (ret (.bl true)) (qa (ret (.str "1")) (qa (uZ (qa (ret (.int 1)) (ret []))) (ret [])))))))) (ql 12) (sif (tst (d2 neB (qV 1 [3, 12] none (zf (qa (ret (.int 3)) (ret []))) (ql 0) (ret true) (qj qg (qa (dv 0) (qa (dv 1) (qa (dv 2) (ret [])))))) (d2 yr (jQ (qa (ret (.str "number")) (ret []))) (ret (.int 3))))) (jt (ret (.bl false))) jW)) (u5 (uJ (jQ (qa (ret (.int 201)) (qa (d2 zt (ret (.int 201)) (qq qi 2 (qa (d2 qgC (ret (.int 10)) (ret (.int 20))) (ret [])))) (ret []))))) (ql 13) (sif (tst (d2 neB (qV 1 [3, 13] none (zf (qa (ret (.int 3)) (ret []))) (ql 0) (ret true) (qj qg (qa (dv 0) (qa (dv 1) (qa (dv 2) (ret [])))))) (d2 yr (jQ (qa (ret (.str "many")) (ret []))) (ret (.int 3))))) (jt (ret (.bl false))) jW))))))))))) ds ([some (.fz ns), o1] ++ r) = .ok (.nx ρ)
  | [], o1, r, _, _ => ⟨_, rfl⟩
  | d :: ds, o1, r, hr, h => by
    obtain ⟨i, rfl, h0⟩ := h d List.mem_cons_self
    obtain ⟨r', hr', e⟩ := qgf ns i h0 r hr
    obtain ⟨ρ, q⟩ := qc5 ns ds (some (.int i)) r' hr' fun y hy => h y (List.mem_cons_of_mem _ hy)
    refine ⟨ρ, ?_⟩
    unfold jU
    simp only [ql, List.cons_append, List.nil_append, List.set_cons_zero, List.set_cons_succ] at e |-
    simp only [e]
    exact q
theorem law_true (ns : List Int) (hn : ns.length <= 63) : qcg [.fz ns] = .ok (.bl true) := by
  let j : Int := if (if (3 : Int) < (ns.length : Int) then (3 : Int) else (ns.length : Int)) > 1 then (if (3 : Int) < (ns.length : Int) then (3 : Int) else (ns.length : Int)) else 1
  have hj0 : 0 <= j := by simp only [j]; split <;> split <;> omega
  have hj1 : j <= 6 := by simp only [j]; split <;> split <;> omega
  obtain ⟨ρ, q⟩ := qc5 ns (wZ 0 j.toNat) none [none, none, none, none, none, none, none, none, none, none, none, none] rfl fun d hd => by
    unfold wZ at hd
    obtain ⟨k, hk, rfl⟩ := List.mem_map.mp hd
    exact ⟨_, rfl, by omega⟩
  unfold qcg
  refine vJ rfl ⟨ρ, ?_⟩
  unfold qf9
  refine (qm (ρ' := ρ) ?_).trans rfl
  rw [yy, jX (j := j) (ρ1 := [some (.fz ns), none, none, none, none, none, none, none, none, none, none, none, none, none]) ?_ hj0 (by omega)]
  . exact q
  . rfl
section
variable {P : Program} {w : World} {K : PySem.W.Frag} {mg : Str -> Option Value} {base : Heap}
set_option maxHeartbeats 4000000
theorem uv : qt ["box", "many", "left", "digit"] ["box", "many"] (qd jx) := ⟨rfl, rfl, rfl, by decide +kernel, rfl, by decide +kernel, by decide +kernel⟩
abbrev Q0 (P : Program) (w : World) (K : Fr0) (mg : Str -> Option Value) (base : Heap) : Prop := zP P w K mg base 1 "_law_take" ["box", "many"] (qfb K qi)
theorem q0 {f : Addr} {fd : FuncData} (F : Fun K "_law_take" "_law_take" jx f fd) (m : mg "_law_take" = some (.ref f)) (T : Txt K mg) (XTt : XT K mg RN TN) (hB : K.In base) : Q0 P w K mg base := by
  refine ⟨f, fd, ?_, m, F.kp, F.binds fun _ _ _ _ _ _ us hl => match us, hl with | [_, _], _ => rfl⟩
  show jR P w K mg base CX0 1 f fd ["box", "many"] (qfb K (wC (["box", "many", "left", "digit"] : List Str).length (["box", "many"] : List Str).length yT))
  refine qhF (N := ["box", "many", "left", "digit"]) (ps := ["box", "many"]) (k := 0) (O := [0]) (body := yT) F uv ?a ?a0 ?b
  case a => decide
  case a0 => decide
  intro cdv A outer s H E B Io S hr
  exact (qf (qgo (qH qbX qbp rfl T.b_divmod qeg (qb (qec (i := 0) qh) (qb (qc 1) qe))) (qah (n := 2) rfl (zG (qE (i := 2) uv.nd) (zG (qE (i := 3) uv.nd) vt))))
      (qf (qhB (i := 0) (qc 2) qh)
      (qk (qJ (qc 3)))))
theorem y0 : qt ["e", "found"] ["e"] (qd zR) := ⟨rfl, rfl, rfl, by decide +kernel, rfl, by decide +kernel, by decide +kernel⟩
abbrev Q1 (P : Program) (w : World) (K : Fr0) (mg : Str -> Option Value) (base : Heap) : Prop := qeF P w K mg base 1 "_law_marks" ["e"] (spD K zW)
theorem q1 {f : Addr} {fd : FuncData} (F : Fun K "_law_marks" "_law_marks" zR f fd) (m : mg "_law_marks" = some (.ref f)) (T : Txt K mg) (XTt : XT K mg RN TN) (hB : K.In base) : Q1 P w K mg base := by
  have hcl : ∀ n, RN.contains n = true -> (clR K RN n).isSome = true := fun n hn => Option.isSome_iff_exists.mpr (XTt.has hn)
  have rn0 : RN.contains "TooMany" = true := by decide
  obtain ⟨S, mS, xS⟩ := XTt.xcls hB
  refine ⟨f, fd, ?_, m, F.kp, F.binds fun _ _ _ _ _ _ us hl => match us, hl with | [_], _ => rfl⟩
  show qbB P w K mg base CX0 1 f fd ["e"] (spD K (dfn (["e", "found"] : List Str).length (["e"] : List Str).length jN))
  refine qfT (N := ["e", "found"]) (ps := ["e"]) (k := 0) (O := []) (body := jN) F y0 ?a ?b
  case a => decide
  intro cdv A outer s H E B hr al
  have hal : ∀ ρ σ H', Rep K (cfn [] [] B H (fun _ => False) (fun _ _ => False) fun _ => none) ρ σ H' -> AloneA (A.deeper (envOfC "_law_marks" (qd zR) s.heap.objs.size f cdv)) H' := Sk.AloneA.rep al (fun _ z => z)
  exact (qf (yF (DW.dt (qdY (ww (wv (wL (RN := RN) (m := "SackError") (mgl := mg) XTt (by decide) (by decide) rfl T.b_isinstance rfl (qc 0) (XTt.ask rn0 (by decide)) qA))) (qbn (ww (wv (qia XTt rfl T.b_isinstance rfl T.b_ValueError (qc 0) qA)))))) (qk (qJ yw)) qK)
      (qf (qQ (i := 1) y0.nd (jS (qb (wL (RN := RN) (m := "NoStore") (mgl := mg) XTt (by decide) (by decide) rfl T.b_isinstance rfl (qc 0) (XTt.ask rn0 (by decide)) qA) (qb (wL (RN := RN) (m := "NoNumber") (mgl := mg) XTt (by decide) (by decide) rfl T.b_isinstance rfl (qc 0) (XTt.ask rn0 (by decide)) qA) (qb (wL (RN := RN) (m := "NoLoad") (mgl := mg) XTt (by decide) (by decide) rfl T.b_isinstance rfl (qc 0) (XTt.ask rn0 (by decide)) qA) (qb (wL (RN := RN) (m := "TooMany") (mgl := mg) XTt (by decide) (by decide) rfl T.b_isinstance rfl (qc 0) (XTt.ask rn0 (by decide)) qA) qe))))))
      (qf (qQ (i := 1) y0.nd (qu qT qU (qc 1) (jS (qb (wL (RN := RN) (m := "NotSingle") (mgl := mg) XTt (by decide) (by decide) rfl T.b_isinstance rfl (qc 0) (XTt.ask rn0 (by decide)) qA) (qb (wL (RN := RN) (m := "NoText") (mgl := mg) XTt (by decide) (by decide) rfl T.b_isinstance rfl (qc 0) (XTt.ask rn0 (by decide)) qA) qe)))))
      (qf (yF (z4 qi4 qd3 (qaO PySem.F.slot_list_count qcG qfO qb7 (qc 1) (qb wp qe)) qh (zF _)) (qk (qJ yw)) qK)
      (qk (qJ (jT zJ zH (jS (qb yw (qb yw (qb yw (qb yw (qb yw (qb yw qe))))))) (qaO PySem.F.slot_list_index qcH qfP qb8 (qc 1) (qb wp qe)))))))))
theorem qbS : qt ["kind", "times", "room"] ["kind", "times", "room"] (qd jy) := ⟨rfl, rfl, rfl, by decide +kernel, rfl, by decide +kernel, by decide +kernel⟩
abbrev Q2 (P : Program) (w : World) (K : Fr0) (mg : Str -> Option Value) (base : Heap) : Prop := zP P w K mg base 1 "room_left" ["kind", "times", "room"] (spD K jc)
theorem q2 {f : Addr} {fd : FuncData} (F : Fun K "room_left" "room_left" jy f fd) (m : mg "room_left" = some (.ref f)) (T : Txt K mg) (XTt : XT K mg RN TN) (hB : K.In base) : Q2 P w K mg base := by
  refine ⟨f, fd, ?_, m, F.kp, F.binds fun _ _ _ _ _ _ us hl => match us, hl with | [_, _, _], _ => rfl⟩
  show jR P w K mg base CX0 1 f fd ["kind", "times", "room"] (spD K (dfn (["kind", "times", "room"] : List Str).length (["kind", "times", "room"] : List Str).length yU))
  refine zD (N := ["kind", "times", "room"]) (ps := ["kind", "times", "room"]) (k := 0) (O := []) (body := yU) F qbS ?a ?b
  case a => decide
  intro cdv A outer s H E B hr
  exact (qk (qJ (qu qgj qd2 (qc 2) (qu jo zI (qc 1) (jT zJ zH (qc 0) (gI T.c_WEIGHT))))))
theorem qa8 : qt ["kind", "times", "row", "room"] ["kind", "times", "row", "room"] (qd jd) := ⟨rfl, rfl, rfl, by decide +kernel, rfl, by decide +kernel, by decide +kernel⟩
abbrev Q3 (P : Program) (w : World) (K : Fr0) (mg : Str -> Option Value) (base : Heap) : Prop := zP P w K mg base 2 "worth_with" ["kind", "times", "row", "room"] (spD K zh)
theorem q3 {f : Addr} {fd : FuncData} (F : Fun K "worth_with" "worth_with" jd f fd) (m : mg "worth_with" = some (.ref f)) (T : Txt K mg) (XTt : XT K mg RN TN) (hB : K.In base) (C_room_left : Q2 P w K mg base) : Q3 P w K mg base := by
  refine ⟨f, fd, ?_, m, F.kp, F.binds fun _ _ _ _ _ _ us hl => match us, hl with | [_, _, _, _], _ => rfl⟩
  show jR P w K mg base CX0 2 f fd ["kind", "times", "row", "room"] (spD K (dfn (["kind", "times", "row", "room"] : List Str).length (["kind", "times", "row", "room"] : List Str).length yz))
  refine zD (N := ["kind", "times", "row", "room"]) (ps := ["kind", "times", "row", "room"]) (k := 1) (O := []) (body := yz) F qa8 ?a ?b
  case a => decide
  intro cdv A outer s H E B hr
  exact (qk (qJ (qu qT qU (qu jo zI (qc 1) (jT zJ zH (qc 0) (gI T.c_WORTH))) (jT zJ zH (qc 2) (dC C_room_left hr (qb (qc 0) (qb (qc 1) (qb (qc 3) qe))))))))
theorem jH : qt ["kind", "best", "row", "room", "times"] ["kind", "best", "row", "room"] (qd zb) := ⟨rfl, rfl, rfl, by decide +kernel, rfl, by decide +kernel, by decide +kernel⟩
abbrev Q4 (P : Program) (w : World) (K : Fr0) (mg : Str -> Option Value) (base : Heap) : Prop := zP P w K mg base 3 "fewest_of_best" ["kind", "best", "row", "room"] (spD K zc)
theorem q4 {f : Addr} {fd : FuncData} (F : Fun K "fewest_of_best" "fewest_of_best" zb f fd) (m : mg "fewest_of_best" = some (.ref f)) (T : Txt K mg) (XTt : XT K mg RN TN) (hB : K.In base) (C_worth_with : Q3 P w K mg base) : Q4 P w K mg base := by
  refine ⟨f, fd, ?_, m, F.kp, F.binds fun _ _ _ _ _ _ us hl => match us, hl with | [_, _, _, _], _ => rfl⟩
  show jR P w K mg base CX0 3 f fd ["kind", "best", "row", "room"] (spD K (dfn (["kind", "best", "row", "room", "times"] : List Str).length (["kind", "best", "row", "room"] : List Str).length z6))
  refine zD (N := ["kind", "best", "row", "room", "times"]) (ps := ["kind", "best", "row", "room"]) (k := 2) (O := []) (body := z6) F jH ?a ?b
  case a => decide
  intro cdv A outer s H E B hr
  exact (qf (qQ (i := 4) jH.nd qh)
      (qf (qfI PassesOwn.never (z4 qi5 qgr (dC C_worth_with hr (qb (qc 0) (qb (qc 4) (qb (qc 2) (qb (qc 3) qe))))) (qc 1) (zF _)) (qk (qQ (i := 4) jH.nd (qu qT qU (qc 4) qh))))
      (qk (qJ (qc 4)))))
theorem uQ : qt ["kind", "room", "alone"] ["kind", "room"] (qd zZ) := ⟨rfl, rfl, rfl, by decide +kernel, rfl, by decide +kernel, by decide +kernel⟩
abbrev Q5 (P : Program) (w : World) (K : Fr0) (mg : Str -> Option Value) (base : Heap) : Prop := zP P w K mg base 1 "most_within" ["kind", "room"] (spD K jq)
theorem q5 {f : Addr} {fd : FuncData} (F : Fun K "most_within" "most_within" zZ f fd) (m : mg "most_within" = some (.ref f)) (T : Txt K mg) (XTt : XT K mg RN TN) (hB : K.In base) : Q5 P w K mg base := by
  refine ⟨f, fd, ?_, m, F.kp, F.binds fun _ _ _ _ _ _ us hl => match us, hl with | [_, _], _ => rfl⟩
  show jR P w K mg base CX0 1 f fd ["kind", "room"] (spD K (dfn (["kind", "room", "alone"] : List Str).length (["kind", "room"] : List Str).length jY))
  refine zD (N := ["kind", "room", "alone"]) (ps := ["kind", "room"]) (k := 0) (O := []) (body := jY) F uQ ?a ?b
  case a => decide
  intro cdv A outer s H E B hr
  exact (qf (qQ (i := 2) uQ.nd (qu v6 u3 (qc 1) (jT zJ zH (qc 0) (gI T.c_WEIGHT))))
      (qk (qJ (qkI (z4 qgl qd4 (jT zJ zH (qc 0) (gI T.c_MOST)) qbm (zF _)) (qc 2) (qH (v8 rfl) wy rfl T.b_min qef (qb (qc 2) (qb (jT zJ zH (qc 0) (gI T.c_MOST)) qe)))))))
theorem qbT : qt ["kind", "row", "room"] ["kind", "row", "room"] (qd z9) := ⟨rfl, rfl, rfl, by decide +kernel, rfl, by decide +kernel, by decide +kernel⟩
abbrev Q6 (P : Program) (w : World) (K : Fr0) (mg : Str -> Option Value) (base : Heap) : Prop := zP P w K mg base 3 "best_with" ["kind", "row", "room"] (spD K zX)
theorem q6 {f : Addr} {fd : FuncData} (F : Fun K "best_with" "best_with" z9 f fd) (m : mg "best_with" = some (.ref f)) (T : Txt K mg) (XTt : XT K mg RN TN) (hB : K.In base) (C_most_within : Q5 P w K mg base) (C_worth_with : Q3 P w K mg base) : Q6 P w K mg base := by
  refine ⟨f, fd, ?_, m, F.kp, F.binds fun _ _ _ _ _ _ us hl => match us, hl with | [_, _, _], _ => rfl⟩
  show jR P w K mg base CX0 3 f fd ["kind", "row", "room"] (spD K (dfn (["kind", "row", "room"] : List Str).length (["kind", "row", "room"] : List Str).length yV))
  refine zD (N := ["kind", "row", "room"]) (ps := ["kind", "row", "room"]) (k := 2) (O := []) (body := yV) F qbT ?a ?b
  case a => decide
  intro cdv A outer s H E B hr
  exact (qk (qJ (qH (ul rfl) yK rfl T.b_max qal (qb (uj (fo := none) rfl (zN rfl T.b_range (qb (qu qT qU (dC C_most_within hr (qb (qc 0) (qb (qc 2) qe))) qh) qe)) (cs ["kind", "row", "room"] ["times", "kind", "row", "room"] 1 [0, 1, 2] (qd z9)) (f0 [0, 1, 2] []) (fun _ _ _ _ _ _ _ _ _ _ _ => ⟨(qE (i := 0) (nd ["times", "kind", "row", "room"])), u6, (dC C_worth_with hr (qb (qc 1) (qb (qc 0) (qb (qc 2) (qb (qc 3) qe)))))⟩)) qe))))
theorem uw : qt ["store", "room", "rows", "kind"] ["store", "room"] (qd ja) := ⟨rfl, rfl, rfl, by decide +kernel, rfl, by decide +kernel, by decide +kernel⟩
abbrev Q7 (P : Program) (w : World) (K : Fr0) (mg : Str -> Option Value) (base : Heap) : Prop := zP P w K mg base 4 "best_rows" ["store", "room"] (spD K yj)
theorem q7 {f : Addr} {fd : FuncData} (F : Fun K "best_rows" "best_rows" ja f fd) (m : mg "best_rows" = some (.ref f)) (T : Txt K mg) (XTt : XT K mg RN TN) (hB : K.In base) (C_best_with : Q6 P w K mg base) : Q7 P w K mg base := by
  refine ⟨f, fd, ?_, m, F.kp, F.binds fun _ _ _ _ _ _ us hl => match us, hl with | [_, _], _ => rfl⟩
  show jR P w K mg base CX0 4 f fd ["store", "room"] (spD K (dfn (["store", "room", "rows", "kind"] : List Str).length (["store", "room"] : List Str).length yW))
  refine zD (N := ["store", "room", "rows", "kind"]) (ps := ["store", "room"]) (k := 3) (O := [2]) (body := yW) F uw ?a ?b
  case a => decide
  intro cdv A outer s H E B hr
  exact (qf (vA (i := 2) uw.nd (qid (qb (qu jo zI (jS (qb qh qe)) (qu qT qU (qc 1) qh)) qe)))
      (qf (uc PassesOwn.never rfl (qjU rfl T.b_reversed (qb (qc 0) qe)) (qE (i := 3) uw.nd) (qk (yE (qeK (i := 2) (uj (fo := (some (2, 2))) rfl (zN rfl T.b_range (qb (qu qT qU (qc 1) qh) qe)) (cs ["store", "room", "rows", "kind"] ["size", "kind", "rows"] 1 [3, 2] (qd ja)) (f1 1 [3, 2] [2] 2 2) (fun _ _ _ _ _ _ _ _ _ _ _ => ⟨(qE (i := 0) (nd ["size", "kind", "rows"])), u6, (dC C_best_with hr (qb (qc 1) (qb (qec (i := 2) qh) (qb (qc 0) qe))))⟩))))))
      (qk (qhE (i := 2)))))
theorem qcl : qt ["number"] ["number"] (qd jz) := ⟨rfl, rfl, rfl, by decide +kernel, rfl, by decide +kernel, by decide +kernel⟩
abbrev Q8 (P : Program) (w : World) (K : Fr0) (mg : Str -> Option Value) (base : Heap) : Prop := yS P w K mg base 1 "need_few" ["number"] (spX K (clR K RN) yd)
theorem q8 {f : Addr} {fd : FuncData} (F : Fun K "need_few" "need_few" jz f fd) (m : mg "need_few" = some (.ref f)) (T : Txt K mg) (XTt : XT K mg RN TN) (hB : K.In base) : Q8 P w K mg base := by
  have hcl : ∀ n, RN.contains n = true -> (clR K RN n).isSome = true := fun n hn => Option.isSome_iff_exists.mpr (XTt.has hn)
  have rn0 : RN.contains "TooMany" = true := by decide
  obtain ⟨S, mS, xS⟩ := XTt.xcls hB
  obtain ⟨C_TooMany, hc_TooMany⟩ := XTt.has (n := "TooMany") (by decide)
  have mc_TooMany := XTt.mgc _ _ (XTt.cls hc_TooMany).1
  obtain ⟨bm_TooMany, xc_TooMany, _⟩ := xS.own _ _ hc_TooMany
  refine ⟨f, fd, ?_, m, F.kp, F.binds fun _ _ _ _ _ _ us hl => match us, hl with | [_], _ => rfl⟩
  show jR P w K mg base (CX1 P w) 1 f fd ["number"] (spX K (clR K RN) (wH (["number"] : List Str).length (["number"] : List Str).length yO))
  refine wK (N := ["number"]) (ps := ["number"]) (k := 0) (O := []) (body := yO) (cl := clR K RN) F qcl ?a ?b
  case a => decide
  intro cdv A outer s H E B hr
  have L := wJ (P := P) (w := w) (K := K) (mg := mg) (base := base) (N := ["number"]) (qual := "need_few") (scope := qd jz) (f := f) (cdv := cdv) (A := A) (outer := outer) (s := s) (H := H) (E := E) (c := cfn [] [] B H (fun _ => False) (fun x H' => ∀ C, clR K RN x.cls = some C -> E (.ref C) none H') fun _ => none) (cl := clR K RN) rfl (fun x C H' h1 h2 => h2 C h1)
  exact (qk (yF (z4 qi6 qgs (qc 0) (gI T.c_ASKED_AT_MOST) (zF _)) (qk (qaM rfl L hc_TooMany rfl mc_TooMany xc_TooMany (qb yw qe))) qK))
theorem qcm : qt ["thing"] ["thing"] (qd j8) := ⟨rfl, rfl, rfl, by decide +kernel, rfl, by decide +kernel, by decide +kernel⟩
abbrev Q9 (P : Program) (w : World) (K : Fr0) (mg : Str -> Option Value) (base : Heap) : Prop := zP P w K mg base 1 "is_whole" ["thing"] (spD K uC)
theorem q9 {f : Addr} {fd : FuncData} (F : Fun K "is_whole" "is_whole" j8 f fd) (m : mg "is_whole" = some (.ref f)) (T : Txt K mg) (XTt : XT K mg RN TN) (hB : K.In base) : Q9 P w K mg base := by
  refine ⟨f, fd, ?_, m, F.kp, F.binds fun _ _ _ _ _ _ us hl => match us, hl with | [_], _ => rfl⟩
  show jR P w K mg base CX0 1 f fd ["thing"] (spD K (dfn (["thing"] : List Str).length (["thing"] : List Str).length uB))
  refine zD (N := ["thing"]) (ps := ["thing"]) (k := 0) (O := []) (body := uB) F qcm ?a ?b
  case a => decide
  intro cdv A outer s H E B hr
  exact (qk (qJ (qd0 (qcv qhw rfl T.b_isinstance rfl T.b_int qjC (qc 0) qA) (qct (qjj (qcv qfv rfl T.b_isinstance rfl T.b_bool qhT (qc 0) qA))))))
theorem qcn : qt ["thing"] ["thing"] (qd j9) := ⟨rfl, rfl, rfl, by decide +kernel, rfl, by decide +kernel, by decide +kernel⟩
abbrev Q10 (P : Program) (w : World) (K : Fr0) (mg : Str -> Option Value) (base : Heap) : Prop := zP P w K mg base 2 "is_count" ["thing"] (spD K jD)
theorem q10 {f : Addr} {fd : FuncData} (F : Fun K "is_count" "is_count" j9 f fd) (m : mg "is_count" = some (.ref f)) (T : Txt K mg) (XTt : XT K mg RN TN) (hB : K.In base) (C_is_whole : Q9 P w K mg base) : Q10 P w K mg base := by
  refine ⟨f, fd, ?_, m, F.kp, F.binds fun _ _ _ _ _ _ us hl => match us, hl with | [_], _ => rfl⟩
  show jR P w K mg base CX0 2 f fd ["thing"] (spD K (dfn (["thing"] : List Str).length (["thing"] : List Str).length uD))
  refine zD (N := ["thing"]) (ps := ["thing"]) (k := 1) (O := []) (body := uD) F qcn ?a ?b
  case a => decide
  intro cdv A outer s H E B hr
  exact (qk (qJ (qd0 (dC C_is_whole hr (qb (qc 0) qe)) (qct (qgm qkz qjk (qc 0) qh (zF _))))))
theorem qa9 : qt ["thing"] ["thing"] (qd zS) := ⟨rfl, rfl, rfl, by decide +kernel, rfl, by decide +kernel, by decide +kernel⟩
abbrev Q11 (P : Program) (w : World) (K : Fr0) (mg : Str -> Option Value) (base : Heap) : Prop := yS P w K mg base 3 "need_count" ["thing"] (spX K (clR K RN) je)
theorem q11 {f : Addr} {fd : FuncData} (F : Fun K "need_count" "need_count" zS f fd) (m : mg "need_count" = some (.ref f)) (T : Txt K mg) (XTt : XT K mg RN TN) (hB : K.In base) (C_is_count : Q10 P w K mg base) : Q11 P w K mg base := by
  have hcl : ∀ n, RN.contains n = true -> (clR K RN n).isSome = true := fun n hn => Option.isSome_iff_exists.mpr (XTt.has hn)
  have rn0 : RN.contains "TooMany" = true := by decide
  obtain ⟨S, mS, xS⟩ := XTt.xcls hB
  obtain ⟨C_NoNumber, hc_NoNumber⟩ := XTt.has (n := "NoNumber") (by decide)
  have mc_NoNumber := XTt.mgc _ _ (XTt.cls hc_NoNumber).1
  obtain ⟨bm_NoNumber, xc_NoNumber, _⟩ := xS.own _ _ hc_NoNumber
  refine ⟨f, fd, ?_, m, F.kp, F.binds fun _ _ _ _ _ _ us hl => match us, hl with | [_], _ => rfl⟩
  show jR P w K mg base (CX1 P w) 3 f fd ["thing"] (spX K (clR K RN) (wH (["thing"] : List Str).length (["thing"] : List Str).length jO))
  refine wK (N := ["thing"]) (ps := ["thing"]) (k := 2) (O := []) (body := jO) (cl := clR K RN) F qa9 ?a ?b
  case a => decide
  intro cdv A outer s H E B hr
  have L := wJ (P := P) (w := w) (K := K) (mg := mg) (base := base) (N := ["thing"]) (qual := "need_count") (scope := qd zS) (f := f) (cdv := cdv) (A := A) (outer := outer) (s := s) (H := H) (E := E) (c := cfn [] [] B H (fun _ => False) (fun x H' => ∀ C, clR K RN x.cls = some C -> E (.ref C) none H') fun _ => none) (cl := clR K RN) rfl (fun x C H' h1 h2 => h2 C h1)
  exact (qk (yF (ww (wv (dC C_is_count hr (qb (qc 0) qe)))) (qk (qaM rfl L hc_NoNumber rfl mc_NoNumber xc_NoNumber (qb yw qe))) qK))
theorem qdz : qt ["thing"] ["thing"] (qd yN) := ⟨rfl, rfl, rfl, by decide +kernel, rfl, by decide +kernel, by decide +kernel⟩
abbrev Q12 (P : Program) (w : World) (K : Fr0) (mg : Str -> Option Value) (base : Heap) : Prop := zP P w K mg base 3 "is_kind" ["thing"] (spD K uu)
theorem q12 {f : Addr} {fd : FuncData} (F : Fun K "is_kind" "is_kind" yN f fd) (m : mg "is_kind" = some (.ref f)) (T : Txt K mg) (XTt : XT K mg RN TN) (hB : K.In base) (C_is_count : Q10 P w K mg base) : Q12 P w K mg base := by
  refine ⟨f, fd, ?_, m, F.kp, F.binds fun _ _ _ _ _ _ us hl => match us, hl with | [_], _ => rfl⟩
  show jR P w K mg base CX0 3 f fd ["thing"] (spD K (dfn (["thing"] : List Str).length (["thing"] : List Str).length vk))
  refine zD (N := ["thing"]) (ps := ["thing"]) (k := 2) (O := []) (body := vk) F qdz ?a ?b
  case a => decide
  intro cdv A outer s H E B hr
  exact (qf (yF (DW.dt (qdY (ww (wv (qcv qbq rfl T.b_isinstance rfl T.b_tuple v2 (qc 0) qA))) (qbn (z4 (qam hr) vC (qH yJ ui rfl T.b_len qbu (qb (qc 0) qe)) qh (zF _))))) (qk (qJ wp)) qK)
      (qf (yF (DW.dt (qdY (ww (wv (dC C_is_count hr (qb (jT zJ zH (qc 0) (gI T.c_WEIGHT)) qe)))) (qbn (z4 (vP hr) uk (jT zJ zH (qc 0) (gI T.c_WEIGHT)) qh (zF _))))) (qk (qJ wp)) qK)
      (qk (qJ (qd0 (dC C_is_count hr (qb (jT zJ zH (qc 0) (gI T.c_WORTH)) qe)) (qct (qkH (qgm qgl qd4 (jT zJ zH (qc 0) (gI T.c_MOST)) qbm (zF _)) (qct (dC C_is_count hr (qb (jT zJ zH (qc 0) (gI T.c_MOST)) qe))))))))))
theorem qco : qt ["thing"] ["thing"] (qd jA) := ⟨rfl, rfl, rfl, by decide +kernel, rfl, by decide +kernel, by decide +kernel⟩
abbrev Q13 (P : Program) (w : World) (K : Fr0) (mg : Str -> Option Value) (base : Heap) : Prop := zP P w K mg base 4 "is_store" ["thing"] (spD K uF)
theorem q13 {f : Addr} {fd : FuncData} (F : Fun K "is_store" "is_store" jA f fd) (m : mg "is_store" = some (.ref f)) (T : Txt K mg) (XTt : XT K mg RN TN) (hB : K.In base) (C_is_kind : Q12 P w K mg base) : Q13 P w K mg base := by
  refine ⟨f, fd, ?_, m, F.kp, F.binds fun _ _ _ _ _ _ us hl => match us, hl with | [_], _ => rfl⟩
  show jR P w K mg base CX0 4 f fd ["thing"] (spD K (dfn (["thing"] : List Str).length (["thing"] : List Str).length uE))
  refine zD (N := ["thing"]) (ps := ["thing"]) (k := 3) (O := []) (body := uE) F qco ?a ?b
  case a => decide
  intro cdv A outer s H E B hr
  exact (qf (yF (DW.dt (qdY (ww (wv (qcv qbq rfl T.b_isinstance rfl T.b_tuple v2 (qc 0) qA))) (qbn (z4 qi6 qgs (qH yJ ui rfl T.b_len qbu (qb (qc 0) qe)) (gI T.c_KINDS_AT_MOST) (zF _))))) (qk (qJ wp)) qK)
      (qk (qJ (qH (qfy rfl) qd7 rfl T.b_all qjB (qb (uj (fo := none) rfl (vN (qc 0)) (cs ["thing"] ["part"] 1 [] (qd jA)) (f0 [] []) (fun _ _ _ _ _ _ _ _ _ _ _ => ⟨(qE (i := 0) (nd ["part"])), u6, (dC C_is_kind hr (qb (qc 0) qe))⟩)) qe)))))
theorem qba : qt ["thing"] ["thing"] (qd zT) := ⟨rfl, rfl, rfl, by decide +kernel, rfl, by decide +kernel, by decide +kernel⟩
abbrev Q14 (P : Program) (w : World) (K : Fr0) (mg : Str -> Option Value) (base : Heap) : Prop := yS P w K mg base 5 "need_store" ["thing"] (spX K (clR K RN) yB)
theorem q14 {f : Addr} {fd : FuncData} (F : Fun K "need_store" "need_store" zT f fd) (m : mg "need_store" = some (.ref f)) (T : Txt K mg) (XTt : XT K mg RN TN) (hB : K.In base) (C_is_store : Q13 P w K mg base) : Q14 P w K mg base := by
  have hcl : ∀ n, RN.contains n = true -> (clR K RN n).isSome = true := fun n hn => Option.isSome_iff_exists.mpr (XTt.has hn)
  have rn0 : RN.contains "TooMany" = true := by decide
  obtain ⟨S, mS, xS⟩ := XTt.xcls hB
  obtain ⟨C_NoStore, hc_NoStore⟩ := XTt.has (n := "NoStore") (by decide)
  have mc_NoStore := XTt.mgc _ _ (XTt.cls hc_NoStore).1
  obtain ⟨bm_NoStore, xc_NoStore, _⟩ := xS.own _ _ hc_NoStore
  refine ⟨f, fd, ?_, m, F.kp, F.binds fun _ _ _ _ _ _ us hl => match us, hl with | [_], _ => rfl⟩
  show jR P w K mg base (CX1 P w) 5 f fd ["thing"] (spX K (clR K RN) (wH (["thing"] : List Str).length (["thing"] : List Str).length yA))
  refine wK (N := ["thing"]) (ps := ["thing"]) (k := 4) (O := []) (body := yA) (cl := clR K RN) F qba ?a ?b
  case a => decide
  intro cdv A outer s H E B hr
  have L := wJ (P := P) (w := w) (K := K) (mg := mg) (base := base) (N := ["thing"]) (qual := "need_store") (scope := qd zT) (f := f) (cdv := cdv) (A := A) (outer := outer) (s := s) (H := H) (E := E) (c := cfn [] [] B H (fun _ => False) (fun x H' => ∀ C, clR K RN x.cls = some C -> E (.ref C) none H') fun _ => none) (cl := clR K RN) rfl (fun x C H' h1 h2 => h2 C h1)
  exact (qk (yF (ww (wv (dC C_is_store hr (qb (qc 0) qe)))) (qk (qaM rfl L hc_NoStore rfl mc_NoStore xc_NoStore (qb yw qe))) qK))
theorem qbb : qt ["store", "number"] ["store", "number"] (qd zU) := ⟨rfl, rfl, rfl, by decide +kernel, rfl, by decide +kernel, by decide +kernel⟩
abbrev Q15 (P : Program) (w : World) (K : Fr0) (mg : Str -> Option Value) (base : Heap) : Prop := yS P w K mg base 6 "need_asked" ["store", "number"] (spX K (clR K RN) qM)
theorem q15 {f : Addr} {fd : FuncData} (F : Fun K "need_asked" "need_asked" zU f fd) (m : mg "need_asked" = some (.ref f)) (T : Txt K mg) (XTt : XT K mg RN TN) (hB : K.In base) (C_need_few : Q8 P w K mg base) (C_need_count : Q11 P w K mg base) (C_need_store : Q14 P w K mg base) : Q15 P w K mg base := by
  have hcl : ∀ n, RN.contains n = true -> (clR K RN n).isSome = true := fun n hn => Option.isSome_iff_exists.mpr (XTt.has hn)
  have rn0 : RN.contains "TooMany" = true := by decide
  obtain ⟨S, mS, xS⟩ := XTt.xcls hB
  refine ⟨f, fd, ?_, m, F.kp, F.binds fun _ _ _ _ _ _ us hl => match us, hl with | [_, _], _ => rfl⟩
  show jR P w K mg base (CX1 P w) 6 f fd ["store", "number"] (spX K (clR K RN) (wH (["store", "number"] : List Str).length (["store", "number"] : List Str).length jf))
  refine wK (N := ["store", "number"]) (ps := ["store", "number"]) (k := 5) (O := []) (body := jf) (cl := clR K RN) F qbb ?a ?b
  case a => decide
  intro cdv A outer s H E B hr
  have L := wJ (P := P) (w := w) (K := K) (mg := mg) (base := base) (N := ["store", "number"]) (qual := "need_asked") (scope := qd zU) (f := f) (cdv := cdv) (A := A) (outer := outer) (s := s) (H := H) (E := E) (c := cfn [] [] B H (fun _ => False) (fun x H' => ∀ C, clR K RN x.cls = some C -> E (.ref C) none H') fun _ => none) (cl := clR K RN) rfl (fun x C H' h1 h2 => h2 C h1)
  exact (qf (yE (xC L.two hcl C_need_store hr (qb (qc 0) qe)))
      (qf (yE (xC L.two hcl C_need_count hr (qb (qc 1) qe)))
      (qk (yE (xC L.two hcl C_need_few hr (qb (qc 1) qe))))))
theorem zr : qt ["store", "room", "rows", "load", "left", "place", "kind", "times"] ["store", "room"] (qd jb) := ⟨rfl, rfl, rfl, by decide +kernel, rfl, by decide +kernel, by decide +kernel⟩
abbrev Q16 (P : Program) (w : World) (K : Fr0) (mg : Str -> Option Value) (base : Heap) : Prop := yS P w K mg base 7 "best_load" ["store", "room"] (spX K (clR K RN) jE)
theorem q16 {f : Addr} {fd : FuncData} (F : Fun K "best_load" "best_load" jb f fd) (m : mg "best_load" = some (.ref f)) (T : Txt K mg) (XTt : XT K mg RN TN) (hB : K.In base) (C_room_left : Q2 P w K mg base) (C_fewest_of_best : Q4 P w K mg base) (C_best_rows : Q7 P w K mg base) (C_need_asked : Q15 P w K mg base) : Q16 P w K mg base := by
  have hcl : ∀ n, RN.contains n = true -> (clR K RN n).isSome = true := fun n hn => Option.isSome_iff_exists.mpr (XTt.has hn)
  have rn0 : RN.contains "TooMany" = true := by decide
  obtain ⟨S, mS, xS⟩ := XTt.xcls hB
  refine ⟨f, fd, ?_, m, F.kp, F.binds fun _ _ _ _ _ _ us hl => match us, hl with | [_, _], _ => rfl⟩
  show jR P w K mg base (CX1 P w) 7 f fd ["store", "room"] (spX K (clR K RN) (wH (["store", "room", "rows", "load", "left", "place", "kind", "times"] : List Str).length (["store", "room"] : List Str).length yk))
  refine wK (N := ["store", "room", "rows", "load", "left", "place", "kind", "times"]) (ps := ["store", "room"]) (k := 6) (O := [3]) (body := yk) (cl := clR K RN) F zr ?a ?b
  case a => decide
  intro cdv A outer s H E B hr
  have L := wJ (P := P) (w := w) (K := K) (mg := mg) (base := base) (N := ["store", "room", "rows", "load", "left", "place", "kind", "times"]) (qual := "best_load") (scope := qd jb) (f := f) (cdv := cdv) (A := A) (outer := outer) (s := s) (H := H) (E := E) (c := cfn [3] [] B H (fun _ => False) (fun x H' => ∀ C, clR K RN x.cls = some C -> E (.ref C) none H') fun _ => none) (cl := clR K RN) rfl (fun x C H' h1 h2 => h2 C h1)
  exact (qf (yE (xC L.two hcl C_need_asked hr (qb (qc 0) (qb (qc 1) qe))))
      (qf (qQ (i := 2) zr.nd (dC C_best_rows hr (qb (qc 0) (qb (qc 1) qe))))
      (qf (vA (i := 3) zr.nd (qea qe))
      (qf (qQ (i := 4) zr.nd (qc 1))
      (qf (qjF (uc PassesOwn.never rfl (qh1 rfl T.b_enumerate (qb (qc 0) qe)) (qah (n := 2) rfl (zG (qE (i := 5) zr.nd) (zG (qE (i := 6) zr.nd) vt))) (qf (qQ (i := 7) zr.nd (dC C_fewest_of_best hr (qb (qc 6) (qb (jT zJ zH (jT zJ zH (qc 2) (qc 5)) (qc 4)) (qb (jT zJ zH (qc 2) (qu qT qU (qc 5) qh)) (qb (qc 4) qe))))))
      (qf (yE (u7 (i := 3) (qc 7)))
      (qk (qQ (i := 4) zr.nd (dC C_room_left hr (qb (qc 6) (qb (qc 7) (qb (qc 4) qe))))))))))
      (qk (qJ (qeb (i := 3) rfl T.b_tuple v2))))))))
theorem qac : qt ["store", "room"] ["store", "room"] (qd zv) := ⟨rfl, rfl, rfl, by decide +kernel, rfl, by decide +kernel, by decide +kernel⟩
abbrev Q17 (P : Program) (w : World) (K : Fr0) (mg : Str -> Option Value) (base : Heap) : Prop := yS P w K mg base 7 "best_worths" ["store", "room"] (spX K (clR K RN) zw)
theorem q17 {f : Addr} {fd : FuncData} (F : Fun K "best_worths" "best_worths" zv f fd) (m : mg "best_worths" = some (.ref f)) (T : Txt K mg) (XTt : XT K mg RN TN) (hB : K.In base) (C_best_rows : Q7 P w K mg base) (C_need_asked : Q15 P w K mg base) : Q17 P w K mg base := by
  have hcl : ∀ n, RN.contains n = true -> (clR K RN n).isSome = true := fun n hn => Option.isSome_iff_exists.mpr (XTt.has hn)
  have rn0 : RN.contains "TooMany" = true := by decide
  obtain ⟨S, mS, xS⟩ := XTt.xcls hB
  refine ⟨f, fd, ?_, m, F.kp, F.binds fun _ _ _ _ _ _ us hl => match us, hl with | [_, _], _ => rfl⟩
  show jR P w K mg base (CX1 P w) 7 f fd ["store", "room"] (spX K (clR K RN) (wH (["store", "room"] : List Str).length (["store", "room"] : List Str).length jr))
  refine wK (N := ["store", "room"]) (ps := ["store", "room"]) (k := 6) (O := []) (body := jr) (cl := clR K RN) F qac ?a ?b
  case a => decide
  intro cdv A outer s H E B hr
  have L := wJ (P := P) (w := w) (K := K) (mg := mg) (base := base) (N := ["store", "room"]) (qual := "best_worths") (scope := qd zv) (f := f) (cdv := cdv) (A := A) (outer := outer) (s := s) (H := H) (E := E) (c := cfn [] [] B H (fun _ => False) (fun x H' => ∀ C, clR K RN x.cls = some C -> E (.ref C) none H') fun _ => none) (cl := clR K RN) rfl (fun x C H' h1 h2 => h2 C h1)
  exact (qf (yE (xC L.two hcl C_need_asked hr (qb (qc 0) (qb (qc 1) qe))))
      (qk (qJ (jT zJ zH (dC C_best_rows hr (qb (qc 0) (qb (qc 1) qe))) qh))))
theorem qbc : qt ["store", "room"] ["store", "room"] (qd zV) := ⟨rfl, rfl, rfl, by decide +kernel, rfl, by decide +kernel, by decide +kernel⟩
abbrev Q18 (P : Program) (w : World) (K : Fr0) (mg : Str -> Option Value) (base : Heap) : Prop := yS P w K mg base 8 "best_worth" ["store", "room"] (spX K (clR K RN) jg)
theorem q18 {f : Addr} {fd : FuncData} (F : Fun K "best_worth" "best_worth" zV f fd) (m : mg "best_worth" = some (.ref f)) (T : Txt K mg) (XTt : XT K mg RN TN) (hB : K.In base) (C_best_worths : Q17 P w K mg base) : Q18 P w K mg base := by
  have hcl : ∀ n, RN.contains n = true -> (clR K RN n).isSome = true := fun n hn => Option.isSome_iff_exists.mpr (XTt.has hn)
  have rn0 : RN.contains "TooMany" = true := by decide
  obtain ⟨S, mS, xS⟩ := XTt.xcls hB
  refine ⟨f, fd, ?_, m, F.kp, F.binds fun _ _ _ _ _ _ us hl => match us, hl with | [_, _], _ => rfl⟩
  show jR P w K mg base (CX1 P w) 8 f fd ["store", "room"] (spX K (clR K RN) (wH (["store", "room"] : List Str).length (["store", "room"] : List Str).length jP))
  refine wK (N := ["store", "room"]) (ps := ["store", "room"]) (k := 7) (O := []) (body := jP) (cl := clR K RN) F qbc ?a ?b
  case a => decide
  intro cdv A outer s H E B hr
  have L := wJ (P := P) (w := w) (K := K) (mg := mg) (base := base) (N := ["store", "room"]) (qual := "best_worth") (scope := qd zV) (f := f) (cdv := cdv) (A := A) (outer := outer) (s := s) (H := H) (E := E) (c := cfn [] [] B H (fun _ => False) (fun x H' => ∀ C, clR K RN x.cls = some C -> E (.ref C) none H') fun _ => none) (cl := clR K RN) rfl (fun x C H' h1 h2 => h2 C h1)
  exact (qk (qJ (jT zJ zH (xC L.two hcl C_best_worths hr (qb (qc 0) (qb (qc 1) qe))) (qc 1))))
theorem vS : qt ["kind", "store", "room", "e"] ["kind", "store", "room"] (qd jB) := ⟨rfl, rfl, rfl, by decide +kernel, rfl, by decide +kernel, by decide +kernel⟩
abbrev Q19 (P : Program) (w : World) (K : Fr0) (mg : Str -> Option Value) (base : Heap) : Prop := zP P w K mg base 9 "_law_said" ["kind", "store", "room"] (spD K qg)
theorem q19 {f : Addr} {fd : FuncData} (F : Fun K "_law_said" "_law_said" jB f fd) (m : mg "_law_said" = some (.ref f)) (T : Txt K mg) (XTt : XT K mg RN TN) (hB : K.In base) (C__law_marks : Q1 P w K mg base) (C_best_load : Q16 P w K mg base) (C_best_worth : Q18 P w K mg base) (C_best_worths : Q17 P w K mg base) : Q19 P w K mg base := by
  obtain ⟨f__law_marks, fd__law_marks, G__law_marks, m__law_marks, k__law_marks, b__law_marks⟩ := C__law_marks.ex
  have hcl : ∀ n, RN.contains n = true -> (clR K RN n).isSome = true := fun n hn => Option.isSome_iff_exists.mpr (XTt.has hn)
  have rn0 : RN.contains "TooMany" = true := by decide
  obtain ⟨S, mS, xS⟩ := XTt.xcls hB
  refine ⟨f, fd, ?_, m, F.kp, F.binds fun _ _ _ _ _ _ us hl => match us, hl with | [_, _, _], _ => rfl⟩
  show jR P w K mg base CX0 9 f fd ["kind", "store", "room"] (spD K (dfn (["kind", "store", "room", "e"] : List Str).length (["kind", "store", "room"] : List Str).length zx))
  refine zD (N := ["kind", "store", "room", "e"]) (ps := ["kind", "store", "room"]) (k := 8) (O := []) (body := zx) F vS ?a ?b
  case a => decide
  intro cdv A outer s H E B hr
  exact (qk (qjJ (i := 3) vS.nd rfl rfl xS rfl mS G__law_marks (hr.mono (by decide)) rfl m__law_marks k__law_marks b__law_marks (fun xe pn E2 cE L => (qf (yF (z4 (vP hr) uk (qc 0) qh (zF _)) (qk (qJ (xC L hcl C_best_worths hr (qb (qc 1) (qb (qc 2) qe))))) qK)
      (qf (yF (z4 (vP hr) uk (qc 0) qh (zF _)) (qk (qJ (xC L hcl C_best_worth hr (qb (qc 1) (qb (qc 2) qe))))) qK)
      (qk (qJ (xC L hcl C_best_load hr (qb (qc 1) (qb (qc 2) qe))))))))))
theorem y7 : qt ["store", "load", "place", "found", "at"] ["store", "load", "place"] (qd ya) := ⟨rfl, rfl, rfl, by decide +kernel, rfl, by decide +kernel, by decide +kernel⟩
abbrev Q20 (P : Program) (w : World) (K : Fr0) (mg : Str -> Option Value) (base : Heap) : Prop := zP P w K mg base 1 "_law_sum" ["store", "load", "place"] (spD K qO)
theorem q20 {f : Addr} {fd : FuncData} (F : Fun K "_law_sum" "_law_sum" ya f fd) (m : mg "_law_sum" = some (.ref f)) (T : Txt K mg) (XTt : XT K mg RN TN) (hB : K.In base) : Q20 P w K mg base := by
  refine ⟨f, fd, ?_, m, F.kp, F.binds fun _ _ _ _ _ _ us hl => match us, hl with | [_, _, _], _ => rfl⟩
  show jR P w K mg base CX0 1 f fd ["store", "load", "place"] (spD K (dfn (["store", "load", "place", "found", "at"] : List Str).length (["store", "load", "place"] : List Str).length uG))
  refine zD (N := ["store", "load", "place", "found", "at"]) (ps := ["store", "load", "place"]) (k := 0) (O := []) (body := uG) F y7 ?a ?b
  case a => decide
  intro cdv A outer s H E B hr
  exact (qf (qQ (i := 3) y7.nd qh)
      (qf (uc PassesOwn.never rfl (zN rfl T.b_range (qb (qH yJ ui rfl T.b_len qbu (qb (qc 0) qe)) qe)) (qE (i := 4) y7.nd) (qk (qQ (i := 3) y7.nd (qu qT qU (qc 3) (qu jo zI (jT zJ zH (jT zJ zH (qc 0) (qc 4)) (qc 2)) (jT zJ zH (qc 1) (qc 4)))))))
      (qk (qJ (qc 3)))))
theorem qp : qt ["store", "room", "found", "heavy", "dear", "most", "later", "load", "left", "often"] ["store", "room"] (qd qI) := ⟨rfl, rfl, rfl, by decide +kernel, rfl, by decide +kernel, by decide +kernel⟩
abbrev Q21 (P : Program) (w : World) (K : Fr0) (mg : Str -> Option Value) (base : Heap) : Prop := zP P w K mg base 1 "_law_all_loads" ["store", "room"] (spD K qo)
theorem q21 {f : Addr} {fd : FuncData} (F : Fun K "_law_all_loads" "_law_all_loads" qI f fd) (m : mg "_law_all_loads" = some (.ref f)) (T : Txt K mg) (XTt : XT K mg RN TN) (hB : K.In base) : Q21 P w K mg base := by
  refine ⟨f, fd, ?_, m, F.kp, F.binds fun _ _ _ _ _ _ us hl => match us, hl with | [_, _], _ => rfl⟩
  show jR P w K mg base CX0 1 f fd ["store", "room"] (spD K (dfn (["store", "room", "found", "heavy", "dear", "most", "later", "load", "left", "often"] : List Str).length (["store", "room"] : List Str).length z7))
  refine zD (N := ["store", "room", "found", "heavy", "dear", "most", "later", "load", "left", "often"]) (ps := ["store", "room"]) (k := 0) (O := []) (body := z7) F qp ?a ?b
  case a => decide
  intro cdv A outer s H E B hr
  exact (qf (qQ (i := 2) qp.nd (jS (qb (wu (qb (wu qe) (qb (qc 1) qe))) qe)))
      (qf (uc PassesOwn.never rfl (vN (qc 0)) (qah (n := 3) rfl (zG (qE (i := 3) qp.nd) (zG (qE (i := 4) qp.nd) (zG (qE (i := 5) qp.nd) vt)))) (qf (qQ (i := 6) qp.nd (jS qe))
      (qf (uc PassesOwn.never rfl (vN (qc 2)) (qah (n := 2) rfl (zG (qE (i := 7) qp.nd) (zG (qE (i := 8) qp.nd) vt))) (qf (qQ (i := 9) qp.nd (qu v6 u3 (qc 8) (qc 3)))
      (qf (yF (z4 qhf qfr (qc 5) qbm (zF _)) (qk (qQ (i := 9) qp.nd (qH (v8 rfl) wy rfl T.b_min qef (qb (qc 9) (qb (qc 5) qe))))) qK)
      (qk (qQ (i := 6) qp.nd (qu qT qU (qc 6) (uj (fo := none) rfl (zN rfl T.b_range (qb (qu qT qU (qc 9) qh) qe)) (cs ["store", "room", "found", "heavy", "dear", "most", "later", "load", "left", "often"] ["k", "load", "left", "heavy"] 1 [7, 8, 3] (qd qI)) (f0 [7, 8, 3] []) (fun _ _ _ _ _ _ _ _ _ _ _ => ⟨(qE (i := 0) (nd ["k", "load", "left", "heavy"])), u6, (wu (qb (qu qT qU (qc 1) (wu (qb (qc 0) qe))) (qb (qu qgj qd2 (qc 2) (qu jo zI (qc 0) (qc 3))) qe)))⟩))))))))
      (qk (qQ (i := 2) qp.nd (qc 6))))))
      (qk (qJ (uj (fo := none) rfl (vN (qc 2)) (cs ["store", "room", "found", "heavy", "dear", "most", "later", "load", "left", "often"] ["load", "left"] 2 [] (qd qI)) (f0 [] []) (fun _ _ _ _ _ _ _ _ _ _ _ => ⟨(qah (n := 2) rfl (zG (qE (i := 0) (nd ["load", "left"])) (zG (qE (i := 1) (nd ["load", "left"])) vt))), u6, (qc 0)⟩))))))
theorem yp : qt ["store", "room", "some", "worths"] ["store", "room"] (qd qR) := ⟨rfl, rfl, rfl, by decide +kernel, rfl, by decide +kernel, by decide +kernel⟩
abbrev Q22 (P : Program) (w : World) (K : Fr0) (mg : Str -> Option Value) (base : Heap) : Prop := zP P w K mg base 2 "_law_best_of" ["store", "room"] (spD K zk)
theorem q22 {f : Addr} {fd : FuncData} (F : Fun K "_law_best_of" "_law_best_of" qR f fd) (m : mg "_law_best_of" = some (.ref f)) (T : Txt K mg) (XTt : XT K mg RN TN) (hB : K.In base) (C__law_sum : Q20 P w K mg base) (C__law_all_loads : Q21 P w K mg base) : Q22 P w K mg base := by
  refine ⟨f, fd, ?_, m, F.kp, F.binds fun _ _ _ _ _ _ us hl => match us, hl with | [_, _], _ => rfl⟩
  show jR P w K mg base CX0 2 f fd ["store", "room"] (spD K (dfn (["store", "room", "some", "worths"] : List Str).length (["store", "room"] : List Str).length jI))
  refine zD (N := ["store", "room", "some", "worths"]) (ps := ["store", "room"]) (k := 1) (O := []) (body := jI) F yp ?a ?b
  case a => decide
  intro cdv A outer s H E B hr
  exact (qf (qQ (i := 2) yp.nd (dC C__law_all_loads hr (qb (qc 0) (qb (qc 1) qe))))
      (qf (qh4 (i := 3) yp.nd (qh3 (fo := none) rfl (vN (qc 2)) (cs ["store", "room", "some", "worths"] ["load", "store"] 1 [0] (qd qR)) (f0 [0] []) (fun _ _ _ _ _ _ _ _ _ _ _ => ⟨(qE (i := 0) (nd ["load", "store"])), u6, (dC C__law_sum hr (qb (qc 1) (qb (qc 0) (qb qh qe))))⟩)) rfl (cs ["store", "room", "some", "worths"] ["load", "store"] 1 [0] (qd qR)))
      (qk (qJ (wu (qb (qH (ul rfl) yK rfl T.b_max qal (qb (qc 3) qe)) (qb (jT zJ zH (qc 2) (qaO PySem.F.slot_list_index qcH (qeI hr) qbG (qc 3) (qb (qH (ul rfl) yK rfl T.b_max qal (qb (qc 3) qe)) qe))) (qb (qaO PySem.F.slot_list_count qcG qeA qbE (qc 3) (qb (qH (ul rfl) yK rfl T.b_max qal (qb (qc 3) qe)) qe)) qe))))))))
theorem qX : qt ["box", "ends", "way", "heavy", "dear", "often"] ["box", "ends"] (qd zB) := ⟨rfl, rfl, rfl, by decide +kernel, rfl, by decide +kernel, by decide +kernel⟩
abbrev Q23 (P : Program) (w : World) (K : Fr0) (mg : Str -> Option Value) (base : Heap) : Prop := zP P w K mg base 2 "_law_kind_of" ["box", "ends"] (qfb K zl)
theorem q23 {f : Addr} {fd : FuncData} (F : Fun K "_law_kind_of" "_law_kind_of" zB f fd) (m : mg "_law_kind_of" = some (.ref f)) (T : Txt K mg) (XTt : XT K mg RN TN) (hB : K.In base) (C__law_take : Q0 P w K mg base) : Q23 P w K mg base := by
  refine ⟨f, fd, ?_, m, F.kp, F.binds fun _ _ _ _ _ _ us hl => match us, hl with | [_, _], _ => rfl⟩
  show jR P w K mg base CX0 2 f fd ["box", "ends"] (qfb K (wC (["box", "ends", "way", "heavy", "dear", "often"] : List Str).length (["box", "ends"] : List Str).length jJ))
  refine qhF (N := ["box", "ends", "way", "heavy", "dear", "often"]) (ps := ["box", "ends"]) (k := 1) (O := [0]) (body := jJ) F qX ?a ?a0 ?b
  case a => decide
  case a0 => decide
  intro cdv A outer s H E B Io S hr
  exact (qf (qQ (i := 2) qX.nd (iC (i := 0) C__law_take hr (qb qh qe)))
      (qf (qgD (i := 3) (j := 4) qX.nd (qb (qu qT qU qh (iC (i := 0) C__law_take hr (qb qh qe))) (qb (iC (i := 0) C__law_take hr (qb qh qe)) qe)) rfl)
      (qf (yF (z4 (vP hr) uk (qc 2) qh (zF _)) (qk (qQ (i := 4) qX.nd (qu jo zI qh (qc 3)))) qK)
      (qf (yF (z4 (vP hr) uk (qc 2) qh (zF _)) (qk (qQ (i := 4) qX.nd (qu qT qU (qc 3) (iC (i := 0) C__law_take hr (qb qh qe))))) qK)
      (qf (yF (z4 (vP hr) uk (qc 2) qh (zF _)) (qk (qgD (i := 3) (j := 4) qX.nd (qb (qu qT qU qh (iC (i := 0) C__law_take hr (qb qh qe))) (qb (iC (i := 0) C__law_take hr (qb qh qe)) qe)) rfl)) qK)
      (qf (qQ (i := 5) qX.nd (jT zJ zH (jS (qb qh (qb qh (qb qh (qb qh (qb qh (qb qh (qb qh (qb (qc 1) qe))))))))) (iC (i := 0) C__law_take hr (qb qh qe))))
      (qk (qJ (wu (qb (qc 3) (qb (qc 4) (qb (qc 5) qe))))))))))))
theorem zY : qt ["box", "most", "ends", "found", "k", "kind"] ["box", "most", "ends"] (qd zC) := ⟨rfl, rfl, rfl, by decide +kernel, rfl, by decide +kernel, by decide +kernel⟩
abbrev Q24 (P : Program) (w : World) (K : Fr0) (mg : Str -> Option Value) (base : Heap) : Prop := zP P w K mg base 3 "_law_stocked" ["box", "most", "ends"] (qfb K zm)
theorem q24 {f : Addr} {fd : FuncData} (F : Fun K "_law_stocked" "_law_stocked" zC f fd) (m : mg "_law_stocked" = some (.ref f)) (T : Txt K mg) (XTt : XT K mg RN TN) (hB : K.In base) (C__law_take : Q0 P w K mg base) (C__law_kind_of : Q23 P w K mg base) : Q24 P w K mg base := by
  refine ⟨f, fd, ?_, m, F.kp, F.binds fun _ _ _ _ _ _ us hl => match us, hl with | [_, _, _], _ => rfl⟩
  show jR P w K mg base CX0 3 f fd ["box", "most", "ends"] (qfb K (wC (["box", "most", "ends", "found", "k", "kind"] : List Str).length (["box", "most", "ends"] : List Str).length jK))
  refine qhF (N := ["box", "most", "ends", "found", "k", "kind"]) (ps := ["box", "most", "ends"]) (k := 2) (O := [0, 3]) (body := jK) F zY ?a ?a0 ?b
  case a => decide
  case a0 => decide
  intro cdv A outer s H E B Io S hr
  exact (qf (vA (i := 3) zY.nd (qea qe))
      (qf (uc PassesOwn.never rfl (zN rfl T.b_range (qb (iC (i := 0) C__law_take hr (qb (qu qT qU (qc 1) qh) qe)) qe)) (qE (i := 4) zY.nd) (qf (qQ (i := 5) zY.nd (iC (i := 0) C__law_kind_of hr (qb (qc 2) qe)))
      (qf (yF (DW.dt (qji (qjv (i := 3) hr (jS qe)) (qhq (z4 (vP hr) uk (iC (i := 0) C__law_take hr (qb qh qe)) qh (zF _))))) (qk (qQ (i := 5) zY.nd (qec (i := 3) (iC (i := 0) C__law_take hr (qb (qhC (i := 3) rfl T.b_len) qe))))) qK)
      (qk (yE (u7 (i := 3) (qc 5)))))))
      (qk (qJ (qeb (i := 3) rfl T.b_tuple v2)))))
theorem y8 : qt ["cell", "k", "some", "stir"] ["cell", "k"] (qd yb) := ⟨rfl, rfl, rfl, by decide +kernel, rfl, by decide +kernel, by decide +kernel⟩
abbrev Q25 (P : Program) (w : World) (K : Fr0) (mg : Str -> Option Value) (base : Heap) : Prop := zP P w K mg base 1 "_law_mix" ["cell", "k"] (spD K ye)
theorem q25 {f : Addr} {fd : FuncData} (F : Fun K "_law_mix" "_law_mix" yb f fd) (m : mg "_law_mix" = some (.ref f)) (T : Txt K mg) (XTt : XT K mg RN TN) (hB : K.In base) : Q25 P w K mg base := by
  refine ⟨f, fd, ?_, m, F.kp, F.binds fun _ _ _ _ _ _ us hl => match us, hl with | [_, _], _ => rfl⟩
  show jR P w K mg base CX0 1 f fd ["cell", "k"] (spD K (dfn (["cell", "k", "some", "stir"] : List Str).length (["cell", "k"] : List Str).length uH))
  refine zD (N := ["cell", "k", "some", "stir"]) (ps := ["cell", "k"]) (k := 0) (O := []) (body := uH) F y8 ?a ?b
  case a => decide
  intro cdv A outer s H E B hr
  exact (qf (qQ (i := 2) y8.nd (jS (qb qh (qb qh (qb qh (qb qh (qb qh (qb qh (qb qh (qb qh (qb qh (qb qh (qb qh (qb qh (qb qh qe)))))))))))))))
      (qf (qQ (i := 3) y8.nd (qu qT qU (qu qT qU (qu jo zI (qu qT qU (qu qbf wx (qc 0) qh) qh) (jT zJ zH (qc 2) (qu qbf wx (qc 1) qh))) (qu jo zI qh (qc 1))) (qu jo zI qh (qu v6 u3 (qc 1) qh))))
      (qf (qQ (i := 3) y8.nd (qu qbf wx (qc 3) qh))
      (qk (qJ (qu v6 u3 (qu qbf wx (qu qT qU (qu jo zI (qc 3) (qc 3)) (qu jo zI qh (qc 1))) qh) qh))))))
theorem qbU : qt ["script", "k"] ["script", "k"] (qd jC) := ⟨rfl, rfl, rfl, by decide +kernel, rfl, by decide +kernel, by decide +kernel⟩
abbrev Q26 (P : Program) (w : World) (K : Fr0) (mg : Str -> Option Value) (base : Heap) : Prop := zP P w K mg base 1 "_law_cell" ["script", "k"] (spD K jF)
theorem q26 {f : Addr} {fd : FuncData} (F : Fun K "_law_cell" "_law_cell" jC f fd) (m : mg "_law_cell" = some (.ref f)) (T : Txt K mg) (XTt : XT K mg RN TN) (hB : K.In base) : Q26 P w K mg base := by
  refine ⟨f, fd, ?_, m, F.kp, F.binds fun _ _ _ _ _ _ us hl => match us, hl with | [_, _], _ => rfl⟩
  show jR P w K mg base CX0 1 f fd ["script", "k"] (spD K (dfn (["script", "k"] : List Str).length (["script", "k"] : List Str).length ym))
  refine zD (N := ["script", "k"]) (ps := ["script", "k"]) (k := 0) (O := []) (body := ym) F qbU ?a ?b
  case a => decide
  intro cdv A outer s H E B hr
  exact (qf (yF (z4 qi5 qgr (qc 1) (qH yJ ui rfl T.b_len qbu (qb (qc 0) qe)) (zF _)) (qk (qJ (jT zJ zH (qc 0) (qc 1)))) qK)
      (qk (qJ qh)))
theorem yq : qt ["script", "k", "cell", "number", "j"] ["script", "k"] (qd yc) := ⟨rfl, rfl, rfl, by decide +kernel, rfl, by decide +kernel, by decide +kernel⟩
abbrev Q27 (P : Program) (w : World) (K : Fr0) (mg : Str -> Option Value) (base : Heap) : Prop := zP P w K mg base 2 "_law_box" ["script", "k"] (spD K jh)
theorem q27 {f : Addr} {fd : FuncData} (F : Fun K "_law_box" "_law_box" yc f fd) (m : mg "_law_box" = some (.ref f)) (T : Txt K mg) (XTt : XT K mg RN TN) (hB : K.In base) (C__law_mix : Q25 P w K mg base) (C__law_cell : Q26 P w K mg base) : Q27 P w K mg base := by
  refine ⟨f, fd, ?_, m, F.kp, F.binds fun _ _ _ _ _ _ us hl => match us, hl with | [_, _], _ => rfl⟩
  show jR P w K mg base CX0 2 f fd ["script", "k"] (spD K (dfn (["script", "k", "cell", "number", "j"] : List Str).length (["script", "k"] : List Str).length yP))
  refine zD (N := ["script", "k", "cell", "number", "j"]) (ps := ["script", "k"]) (k := 1) (O := []) (body := yP) F yq ?a ?b
  case a => decide
  intro cdv A outer s H E B hr
  exact (qf (qQ (i := 2) yq.nd (dC C__law_cell hr (qb (qc 0) (qb (qc 1) qe))))
      (qf (yF (z4 (vP hr) uk (qu qbf wx (qc 2) qh) qh (zF _)) (qk (qJ (jS (qb (qu v6 u3 (qH qfm qd5 rfl T.b_abs qjA (qb (qc 2) qe)) qh) qe)))) qK)
      (qf (qQ (i := 3) yq.nd qh)
      (qf (uc PassesOwn.never rfl (zN rfl T.b_range (qb qh qe)) (qE (i := 4) yq.nd) (qk (qQ (i := 3) yq.nd (qu qT qU (qu jo zI (qc 3) qh) (dC C__law_mix hr (qb (qc 2) (qb (qc 4) qe)))))))
      (qk (qJ (jS (qb (qc 3) qe))))))))
theorem yC : qt ["script", "k", "box", "store", "room", "due", "heavy", "lap", "found", "best", "load", "many", "thing", "far"] ["script"] (qd vU) := ⟨rfl, rfl, rfl, by decide +kernel, rfl, by decide +kernel, by decide +kernel⟩
theorem qj7 {f : Addr} {fd : FuncData} (F : Fun K "law" "law" vU f fd) (T : Txt K mg) (XTt : XT K mg RN TN) (hB : K.In base) (C__law_take : Q0 P w K mg base) (C__law_said : Q19 P w K mg base) (C__law_best_of : Q22 P w K mg base) (C__law_all_loads : Q21 P w K mg base) (C__law_sum : Q20 P w K mg base) (C__law_stocked : Q24 P w K mg base) (C__law_box : Q27 P w K mg base) : jR P w K mg base CX0 10 f fd ["script"] (spD K qcg) := by
  show jR P w K mg base CX0 10 f fd ["script"] (spD K (dfn (["script", "k", "box", "store", "room", "due", "heavy", "lap", "found", "best", "load", "many", "thing", "far"] : List Str).length (["script"] : List Str).length qf9))
  refine zD (N := ["script", "k", "box", "store", "room", "due", "heavy", "lap", "found", "best", "load", "many", "thing", "far"]) (ps := ["script"]) (k := 9) (O := [2, 5, 8]) (body := qf9) F yC ?a ?b
  case a => decide
  intro cdv A outer s H E B hr
  exact (qf (uc PassesOwn.never rfl (zN rfl T.b_range (qb (qH (qdN rfl) qd6 rfl T.b_max qal (qb qh (qb (qH (v8 rfl) wy rfl T.b_min qef (qb (qH yJ ui rfl T.b_len qbu (qb (qc 0) qe)) (qb qh qe))) qe))) qe)) (qE (i := 1) yC.nd) (qf (vA (i := 2) yC.nd (nC C__law_box hr (qb (qc 0) (qb (qc 1) qe))))
      (qf (qQ (i := 3) yC.nd (iC (i := 2) C__law_stocked hr (qb qh (qb qbm qe))))
      (qf (qQ (i := 4) yC.nd (iC (i := 2) C__law_take hr (qb qh qe)))
      (qf (vA (i := 5) yC.nd (qea qe))
      (qf (uc PassesOwn.never rfl (zN rfl T.b_range (qb (qu qT qU (qc 4) qh) qe)) (qE (i := 6) yC.nd) (qk (yE (u7 (i := 5) (qH (ul rfl) yK rfl T.b_max qal (qb (qu qT qU (jS (qb qh qe)) (uj (fo := none) rfl (vN (dC C__law_all_loads hr (qb (qc 3) (qb (qc 6) qe)))) (cs ["script", "k", "box", "store", "room", "due", "heavy", "lap", "found", "best", "load", "many", "thing", "far"] ["load", "store"] 1 [3] (qd vU)) (f0 [3] [2, 5, 8]) (fun _ _ _ _ _ _ _ _ _ _ _ => ⟨(qE (i := 0) (nd ["load", "store"])), u6, (dC C__law_sum hr (qb (qc 1) (qb (qc 0) (qb qh qe))))⟩))) qe))))))
      (qf (uc PassesOwn.never rfl (zN rfl T.b_range (qb qh qe)) (qE (i := 7) yC.nd) (qf (vA (i := 8) yC.nd (nC C__law_said hr (qb qh (qb (qc 3) (qb (qc 4) qe)))))
      (qf (yF (z4 (qam hr) vC (qeG (i := 8) (qH (j6 hr) j7 rfl T.b_repr vB (qb (qc 8) qe))) (qeG (i := 5) (qH (j6 hr) j7 rfl T.b_repr vB (qb (qc 5) qe))) (zF _)) (qk (qJ wp)) qK)
      (qk (yE (u7 (i := 8) qh))))))
      (qf (qgo (dC C__law_best_of hr (qb (qc 3) (qb (qc 4) qe))) (qah (n := 3) rfl (zG (qE (i := 9) yC.nd) (zG (qE (i := 10) yC.nd) (zG (qE (i := 11) yC.nd) vt)))))
      (qf (yF (DW.dt (qdY (z4 (qam hr) vC (qH (j6 hr) j7 rfl T.b_repr vB (qb (dC C__law_said hr (qb qh (qb (qc 3) (qb (qc 4) qe)))) qe)) (qH (j6 hr) j7 rfl T.b_repr vB (qb (qc 9) qe)) (zF _)) (qbn (z4 (qam hr) vC (qH (j6 hr) j7 rfl T.b_repr vB (qb (dC C__law_said hr (qb qh (qb (qc 3) (qb (qc 4) qe)))) qe)) (qH (j6 hr) j7 rfl T.b_repr vB (qb (qc 10) qe)) (zF _))))) (qk (qJ wp)) qK)
      (qf (uc PassesOwn.never rfl (vN (jS (qb (qjz qh) (qb qbm (qb wp (qb yw (qb (wu (qb qh qe)) qe))))))) (qE (i := 12) yC.nd) (qk (yF (z4 (qam hr) vC (uj (fo := none) rfl (zN rfl T.b_range (qb qh qe)) (cs ["script", "k", "box", "store", "room", "due", "heavy", "lap", "found", "best", "load", "many", "thing", "far"] ["kind", "store", "thing"] 1 [3, 12] (qd vU)) (f0 [3, 12] [2, 5, 8]) (fun _ _ _ _ _ _ _ _ _ _ _ => ⟨(qE (i := 0) (nd ["kind", "store", "thing"])), u6, (dC C__law_said hr (qb (qc 0) (qb (qc 1) (qb (qc 2) qe))))⟩)) (qu jo zI (jS (qb yw qe)) qh) (zF _)) (qk (qJ wp)) qK)))
      (qk (uc PassesOwn.never rfl (vN (jS (qb qh (qb (qu qT qU qh (iC (i := 2) C__law_take hr (qb (qu qi2 qhP qh qh) qe))) qe)))) (qE (i := 13) yC.nd) (qk (yF (z4 (qam hr) vC (uj (fo := none) rfl (zN rfl T.b_range (qb qh qe)) (cs ["script", "k", "box", "store", "room", "due", "heavy", "lap", "found", "best", "load", "many", "thing", "far"] ["kind", "store", "far"] 1 [3, 13] (qd vU)) (f0 [3, 13] [2, 5, 8]) (fun _ _ _ _ _ _ _ _ _ _ _ => ⟨(qE (i := 0) (nd ["kind", "store", "far"])), u6, (dC C__law_said hr (qb (qc 0) (qb (qc 1) (qb (qc 2) qe))))⟩)) (qu jo zI (jS (qb yw qe)) qh) (zF _)) (qk (qJ wp)) qK))))))))))))))
      (qk (qJ wp)))
end
theorem all_mk {l : PySem.W.OpenLaw} {w : World} {K : PySem.W.Frag} {h : Heap} {mg : Str -> Option Value} {fa f0 f1 f2 f3 f4 f5 f6 f7 f8 f9 f10 f11 f12 f13 f14 f15 f16 f17 f18 f19 f20 f21 f22 f23 f24 f25 f26 f27 f28 : Addr} (X : K.In h) (G : h.Ns mainGlobals mg) (hfa : mg "law" = some (.ref fa))
    {od0 an0 od1 an1 od2 an2 od3 an3 od4 an4 od5 an5 od6 an6 od7 an7 od8 an8 od9 an9 od10 an10 od11 an11 od12 an12 od13 an13 od14 an14 od15 an15 od16 an16 od17 an17 od18 an18 od19 an19 od20 an20 od21 an21 od22 an22 od23 an23 od24 an24 od25 an25 od26 an26 od27 an27 od28 an28 : Option Addr} {sl0 sl1 sl2 sl3 sl4 sl5 sl6 sl7 sl8 sl9 sl10 sl11 sl12 sl13 sl14 sl15 sl16 sl17 sl18 sl19 sl20 sl21 sl22 sl23 sl24 sl25 sl26 sl27 sl28 : Array (Option Value)} {oc0 kV0 dc0 pm0 cd0 ct0 oc1 kV1 dc1 pm1 cd1 ct1 oc2 kV2 dc2 pm2 cd2 ct2 oc3 kV3 dc3 pm3 cd3 ct3 oc4 kV4 dc4 pm4 cd4 ct4 oc5 kV5 dc5 pm5 cd5 ct5 oc6 kV6 dc6 pm6 cd6 ct6 oc7 kV7 dc7 pm7 cd7 ct7 oc8 kV8 dc8 pm8 cd8 ct8 oc9 kV9 dc9 pm9 cd9 ct9 oc10 kV10 dc10 pm10 cd10 ct10 oc11 kV11 dc11 pm11 cd11 ct11 oc12 kV12 dc12 pm12 cd12 ct12 oc13 kV13 dc13 pm13 cd13 ct13 oc14 kV14 dc14 pm14 cd14 ct14 oc15 kV15 dc15 pm15 cd15 ct15 oc16 kV16 dc16 pm16 cd16 ct16 oc17 kV17 dc17 pm17 cd17 ct17 oc18 kV18 dc18 pm18 cd18 ct18 oc19 kV19 dc19 pm19 cd19 ct19 oc20 kV20 dc20 pm20 cd20 ct20 oc21 kV21 dc21 pm21 cd21 ct21 oc22 kV22 dc22 pm22 cd22 ct22 oc23 kV23 dc23 pm23 cd23 ct23 oc24 kV24 dc24 pm24 cd24 ct24 oc25 kV25 dc25 pm25 cd25 ct25 oc26 kV26 dc26 pm26 cd26 ct26 oc27 kV27 dc27 pm27 cd27 ct27 oc28 kV28 dc28 pm28 cd28 ct28 : Value} {tk_ASKED_AT_MOST : Tok} {tk_KINDS_AT_MOST : Tok} {tk_MOST : Tok} {tk_WEIGHT : Tok} {tk_WORTH : Tok}
    (a0 : PySem.W.nsIn K mainGlobals "_law_take" = some (some (.ref f0))) (l0 : K.lookup f0 = some ⟨oc0, od0, .func (PySem.W.fnOf "_law_take" "_law_take" (qw jx) (qr jx) (qd jx) .none kV0 dc0 pm0 an0 cd0 ct0), sl0⟩) (c0 : PySem.W.codeIn K cd0 "_law_take" = true) (k0 : PySem.W.keepIn K (.ref f0) = true)
    (a1 : PySem.W.nsIn K mainGlobals "_law_marks" = some (some (.ref f1))) (l1 : K.lookup f1 = some ⟨oc1, od1, .func (PySem.W.fnOf "_law_marks" "_law_marks" (qw zR) (qr zR) (qd zR) .none kV1 dc1 pm1 an1 cd1 ct1), sl1⟩) (c1 : PySem.W.codeIn K cd1 "_law_marks" = true) (k1 : PySem.W.keepIn K (.ref f1) = true)
    (a2 : PySem.W.nsIn K mainGlobals "room_left" = some (some (.ref f2))) (l2 : K.lookup f2 = some ⟨oc2, od2, .func (PySem.W.fnOf "room_left" "room_left" (qw jy) (qr jy) (qd jy) .none kV2 dc2 pm2 an2 cd2 ct2), sl2⟩) (c2 : PySem.W.codeIn K cd2 "room_left" = true) (k2 : PySem.W.keepIn K (.ref f2) = true)
    (a3 : PySem.W.nsIn K mainGlobals "worth_with" = some (some (.ref f3))) (l3 : K.lookup f3 = some ⟨oc3, od3, .func (PySem.W.fnOf "worth_with" "worth_with" (qw jd) (qr jd) (qd jd) .none kV3 dc3 pm3 an3 cd3 ct3), sl3⟩) (c3 : PySem.W.codeIn K cd3 "worth_with" = true) (k3 : PySem.W.keepIn K (.ref f3) = true)
    (a4 : PySem.W.nsIn K mainGlobals "fewest_of_best" = some (some (.ref f4))) (l4 : K.lookup f4 = some ⟨oc4, od4, .func (PySem.W.fnOf "fewest_of_best" "fewest_of_best" (qw zb) (qr zb) (qd zb) .none kV4 dc4 pm4 an4 cd4 ct4), sl4⟩) (c4 : PySem.W.codeIn K cd4 "fewest_of_best" = true) (k4 : PySem.W.keepIn K (.ref f4) = true)
    (a5 : PySem.W.nsIn K mainGlobals "most_within" = some (some (.ref f5))) (l5 : K.lookup f5 = some ⟨oc5, od5, .func (PySem.W.fnOf "most_within" "most_within" (qw zZ) (qr zZ) (qd zZ) .none kV5 dc5 pm5 an5 cd5 ct5), sl5⟩) (c5 : PySem.W.codeIn K cd5 "most_within" = true) (k5 : PySem.W.keepIn K (.ref f5) = true)
    (a6 : PySem.W.nsIn K mainGlobals "best_with" = some (some (.ref f6))) (l6 : K.lookup f6 = some ⟨oc6, od6, .func (PySem.W.fnOf "best_with" "best_with" (qw z9) (qr z9) (qd z9) .none kV6 dc6 pm6 an6 cd6 ct6), sl6⟩) (c6 : PySem.W.codeIn K cd6 "best_with" = true) (k6 : PySem.W.keepIn K (.ref f6) = true)
    (a7 : PySem.W.nsIn K mainGlobals "best_rows" = some (some (.ref f7))) (l7 : K.lookup f7 = some ⟨oc7, od7, .func (PySem.W.fnOf "best_rows" "best_rows" (qw ja) (qr ja) (qd ja) .none kV7 dc7 pm7 an7 cd7 ct7), sl7⟩) (c7 : PySem.W.codeIn K cd7 "best_rows" = true) (k7 : PySem.W.keepIn K (.ref f7) = true)
    (a8 : PySem.W.nsIn K mainGlobals "need_few" = some (some (.ref f8))) (l8 : K.lookup f8 = some ⟨oc8, od8, .func (PySem.W.fnOf "need_few" "need_few" (qw jz) (qr jz) (qd jz) .none kV8 dc8 pm8 an8 cd8 ct8), sl8⟩) (c8 : PySem.W.codeIn K cd8 "need_few" = true) (k8 : PySem.W.keepIn K (.ref f8) = true)
    (a9 : PySem.W.nsIn K mainGlobals "is_whole" = some (some (.ref f9))) (l9 : K.lookup f9 = some ⟨oc9, od9, .func (PySem.W.fnOf "is_whole" "is_whole" (qw j8) (qr j8) (qd j8) .none kV9 dc9 pm9 an9 cd9 ct9), sl9⟩) (c9 : PySem.W.codeIn K cd9 "is_whole" = true) (k9 : PySem.W.keepIn K (.ref f9) = true)
    (a10 : PySem.W.nsIn K mainGlobals "is_count" = some (some (.ref f10))) (l10 : K.lookup f10 = some ⟨oc10, od10, .func (PySem.W.fnOf "is_count" "is_count" (qw j9) (qr j9) (qd j9) .none kV10 dc10 pm10 an10 cd10 ct10), sl10⟩) (c10 : PySem.W.codeIn K cd10 "is_count" = true) (k10 : PySem.W.keepIn K (.ref f10) = true)
    (a11 : PySem.W.nsIn K mainGlobals "need_count" = some (some (.ref f11))) (l11 : K.lookup f11 = some ⟨oc11, od11, .func (PySem.W.fnOf "need_count" "need_count" (qw zS) (qr zS) (qd zS) .none kV11 dc11 pm11 an11 cd11 ct11), sl11⟩) (c11 : PySem.W.codeIn K cd11 "need_count" = true) (k11 : PySem.W.keepIn K (.ref f11) = true)
    (a12 : PySem.W.nsIn K mainGlobals "is_kind" = some (some (.ref f12))) (l12 : K.lookup f12 = some ⟨oc12, od12, .func (PySem.W.fnOf "is_kind" "is_kind" (qw yN) (qr yN) (qd yN) .none kV12 dc12 pm12 an12 cd12 ct12), sl12⟩) (c12 : PySem.W.codeIn K cd12 "is_kind" = true) (k12 : PySem.W.keepIn K (.ref f12) = true)
    (a13 : PySem.W.nsIn K mainGlobals "is_store" = some (some (.ref f13))) (l13 : K.lookup f13 = some ⟨oc13, od13, .func (PySem.W.fnOf "is_store" "is_store" (qw jA) (qr jA) (qd jA) .none kV13 dc13 pm13 an13 cd13 ct13), sl13⟩) (c13 : PySem.W.codeIn K cd13 "is_store" = true) (k13 : PySem.W.keepIn K (.ref f13) = true)
    (a14 : PySem.W.nsIn K mainGlobals "need_store" = some (some (.ref f14))) (l14 : K.lookup f14 = some ⟨oc14, od14, .func (PySem.W.fnOf "need_store" "need_store" (qw zT) (qr zT) (qd zT) .none kV14 dc14 pm14 an14 cd14 ct14), sl14⟩) (c14 : PySem.W.codeIn K cd14 "need_store" = true) (k14 : PySem.W.keepIn K (.ref f14) = true)
    (a15 : PySem.W.nsIn K mainGlobals "need_asked" = some (some (.ref f15))) (l15 : K.lookup f15 = some ⟨oc15, od15, .func (PySem.W.fnOf "need_asked" "need_asked" (qw zU) (qr zU) (qd zU) .none kV15 dc15 pm15 an15 cd15 ct15), sl15⟩) (c15 : PySem.W.codeIn K cd15 "need_asked" = true) (k15 : PySem.W.keepIn K (.ref f15) = true)
    (a16 : PySem.W.nsIn K mainGlobals "best_load" = some (some (.ref f16))) (l16 : K.lookup f16 = some ⟨oc16, od16, .func (PySem.W.fnOf "best_load" "best_load" (qw jb) (qr jb) (qd jb) .none kV16 dc16 pm16 an16 cd16 ct16), sl16⟩) (c16 : PySem.W.codeIn K cd16 "best_load" = true) (k16 : PySem.W.keepIn K (.ref f16) = true)
    (a17 : PySem.W.nsIn K mainGlobals "best_worths" = some (some (.ref f17))) (l17 : K.lookup f17 = some ⟨oc17, od17, .func (PySem.W.fnOf "best_worths" "best_worths" (qw zv) (qr zv) (qd zv) .none kV17 dc17 pm17 an17 cd17 ct17), sl17⟩) (c17 : PySem.W.codeIn K cd17 "best_worths" = true) (k17 : PySem.W.keepIn K (.ref f17) = true)
    (a18 : PySem.W.nsIn K mainGlobals "best_worth" = some (some (.ref f18))) (l18 : K.lookup f18 = some ⟨oc18, od18, .func (PySem.W.fnOf "best_worth" "best_worth" (qw zV) (qr zV) (qd zV) .none kV18 dc18 pm18 an18 cd18 ct18), sl18⟩) (c18 : PySem.W.codeIn K cd18 "best_worth" = true) (k18 : PySem.W.keepIn K (.ref f18) = true)
    (a19 : PySem.W.nsIn K mainGlobals "_law_said" = some (some (.ref f19))) (l19 : K.lookup f19 = some ⟨oc19, od19, .func (PySem.W.fnOf "_law_said" "_law_said" (qw jB) (qr jB) (qd jB) .none kV19 dc19 pm19 an19 cd19 ct19), sl19⟩) (c19 : PySem.W.codeIn K cd19 "_law_said" = true) (k19 : PySem.W.keepIn K (.ref f19) = true)
    (a20 : PySem.W.nsIn K mainGlobals "_law_sum" = some (some (.ref f20))) (l20 : K.lookup f20 = some ⟨oc20, od20, .func (PySem.W.fnOf "_law_sum" "_law_sum" (qw ya) (qr ya) (qd ya) .none kV20 dc20 pm20 an20 cd20 ct20), sl20⟩) (c20 : PySem.W.codeIn K cd20 "_law_sum" = true) (k20 : PySem.W.keepIn K (.ref f20) = true)
    (a21 : PySem.W.nsIn K mainGlobals "_law_all_loads" = some (some (.ref f21))) (l21 : K.lookup f21 = some ⟨oc21, od21, .func (PySem.W.fnOf "_law_all_loads" "_law_all_loads" (qw qI) (qr qI) (qd qI) .none kV21 dc21 pm21 an21 cd21 ct21), sl21⟩) (c21 : PySem.W.codeIn K cd21 "_law_all_loads" = true) (k21 : PySem.W.keepIn K (.ref f21) = true)
    (a22 : PySem.W.nsIn K mainGlobals "_law_best_of" = some (some (.ref f22))) (l22 : K.lookup f22 = some ⟨oc22, od22, .func (PySem.W.fnOf "_law_best_of" "_law_best_of" (qw qR) (qr qR) (qd qR) .none kV22 dc22 pm22 an22 cd22 ct22), sl22⟩) (c22 : PySem.W.codeIn K cd22 "_law_best_of" = true) (k22 : PySem.W.keepIn K (.ref f22) = true)
    (a23 : PySem.W.nsIn K mainGlobals "_law_kind_of" = some (some (.ref f23))) (l23 : K.lookup f23 = some ⟨oc23, od23, .func (PySem.W.fnOf "_law_kind_of" "_law_kind_of" (qw zB) (qr zB) (qd zB) .none kV23 dc23 pm23 an23 cd23 ct23), sl23⟩) (c23 : PySem.W.codeIn K cd23 "_law_kind_of" = true) (k23 : PySem.W.keepIn K (.ref f23) = true)
    (a24 : PySem.W.nsIn K mainGlobals "_law_stocked" = some (some (.ref f24))) (l24 : K.lookup f24 = some ⟨oc24, od24, .func (PySem.W.fnOf "_law_stocked" "_law_stocked" (qw zC) (qr zC) (qd zC) .none kV24 dc24 pm24 an24 cd24 ct24), sl24⟩) (c24 : PySem.W.codeIn K cd24 "_law_stocked" = true) (k24 : PySem.W.keepIn K (.ref f24) = true)
    (a25 : PySem.W.nsIn K mainGlobals "_law_mix" = some (some (.ref f25))) (l25 : K.lookup f25 = some ⟨oc25, od25, .func (PySem.W.fnOf "_law_mix" "_law_mix" (qw yb) (qr yb) (qd yb) .none kV25 dc25 pm25 an25 cd25 ct25), sl25⟩) (c25 : PySem.W.codeIn K cd25 "_law_mix" = true) (k25 : PySem.W.keepIn K (.ref f25) = true)
    (a26 : PySem.W.nsIn K mainGlobals "_law_cell" = some (some (.ref f26))) (l26 : K.lookup f26 = some ⟨oc26, od26, .func (PySem.W.fnOf "_law_cell" "_law_cell" (qw jC) (qr jC) (qd jC) .none kV26 dc26 pm26 an26 cd26 ct26), sl26⟩) (c26 : PySem.W.codeIn K cd26 "_law_cell" = true) (k26 : PySem.W.keepIn K (.ref f26) = true)
    (a27 : PySem.W.nsIn K mainGlobals "_law_box" = some (some (.ref f27))) (l27 : K.lookup f27 = some ⟨oc27, od27, .func (PySem.W.fnOf "_law_box" "_law_box" (qw yc) (qr yc) (qd yc) .none kV27 dc27 pm27 an27 cd27 ct27), sl27⟩) (c27 : PySem.W.codeIn K cd27 "_law_box" = true) (k27 : PySem.W.keepIn K (.ref f27) = true)
    (a28 : PySem.W.nsIn K mainGlobals "law" = some (some (.ref f28))) (l28 : K.lookup f28 = some ⟨oc28, od28, .func (PySem.W.fnOf "law" "law" (qw vU) (qr vU) (qd vU) .none kV28 dc28 pm28 an28 cd28 ct28), sl28⟩) (c28 : PySem.W.codeIn K cd28 "law" = true) (k28 : PySem.W.keepIn K (.ref f28) = true)
    (zb_ValueError : PySem.W.nsIn K mainGlobals "ValueError" = some none)
    (zb_abs : PySem.W.nsIn K mainGlobals "abs" = some none)
    (zb_all : PySem.W.nsIn K mainGlobals "all" = some none)
    (zb_bool : PySem.W.nsIn K mainGlobals "bool" = some none)
    (zb_divmod : PySem.W.nsIn K mainGlobals "divmod" = some none)
    (zb_enumerate : PySem.W.nsIn K mainGlobals "enumerate" = some none)
    (zb_int : PySem.W.nsIn K mainGlobals "int" = some none)
    (zb_isinstance : PySem.W.nsIn K mainGlobals "isinstance" = some none)
    (zb_len : PySem.W.nsIn K mainGlobals "len" = some none)
    (zb_max : PySem.W.nsIn K mainGlobals "max" = some none)
    (zb_min : PySem.W.nsIn K mainGlobals "min" = some none)
    (zb_range : PySem.W.nsIn K mainGlobals "range" = some none)
    (zb_repr : PySem.W.nsIn K mainGlobals "repr" = some none)
    (zb_reversed : PySem.W.nsIn K mainGlobals "reversed" = some none)
    (zb_tuple : PySem.W.nsIn K mainGlobals "tuple" = some none)
    (xz : qkQ K RN TN = true)
    (zg_ASKED_AT_MOST : PySem.W.nsIn K mainGlobals "ASKED_AT_MOST" = some (some (.int 200 tk_ASKED_AT_MOST)))
    (zg_KINDS_AT_MOST : PySem.W.nsIn K mainGlobals "KINDS_AT_MOST" = some (some (.int 12 tk_KINDS_AT_MOST)))
    (zg_MOST : PySem.W.nsIn K mainGlobals "MOST" = some (some (.int 2 tk_MOST)))
    (zg_WEIGHT : PySem.W.nsIn K mainGlobals "WEIGHT" = some (some (.int 0 tk_WEIGHT)))
    (zg_WORTH : PySem.W.nsIn K mainGlobals "WORTH" = some (some (.int 1 tk_WORTH))) :
    ∃ fd : FuncData, (∀ (s : Shared) (v : Value), BindsTo s fd ⟨[v], []⟩ [("script", v)]) /\ ∀ base : Heap, K.In base -> base.Ns mainGlobals mg -> jR l.prog w K mg base CX0 10 fa fd ["script"] (spD K qcg) := by
  have e := hfa.symm.trans (PySem.W.mg_of X G a28)
  cases e
  have T : Txt K mg := ⟨PySem.W.mg_none_of X G zb_ValueError, PySem.W.mg_none_of X G zb_abs, PySem.W.mg_none_of X G zb_all, PySem.W.mg_none_of X G zb_bool, PySem.W.mg_none_of X G zb_divmod, PySem.W.mg_none_of X G zb_enumerate, PySem.W.mg_none_of X G zb_int, PySem.W.mg_none_of X G zb_isinstance, PySem.W.mg_none_of X G zb_len, PySem.W.mg_none_of X G zb_max, PySem.W.mg_none_of X G zb_min, PySem.W.mg_none_of X G zb_range, PySem.W.mg_none_of X G zb_repr, PySem.W.mg_none_of X G zb_reversed, PySem.W.mg_none_of X G zb_tuple, ⟨_, PySem.W.mg_of X G zg_ASKED_AT_MOST⟩, ⟨_, PySem.W.mg_of X G zg_KINDS_AT_MOST⟩, ⟨_, PySem.W.mg_of X G zg_MOST⟩, ⟨_, PySem.W.mg_of X G zg_WEIGHT⟩, ⟨_, PySem.W.mg_of X G zg_WORTH⟩⟩
  refine ⟨PySem.W.fnOf "law" "law" (qw vU) (qr vU) (qd vU) .none kV28 dc28 pm28 an28 cd28 ct28, fun s v => .of_eq rfl, fun base hB _ => ?_⟩
  have XTt : XT K mg RN TN := ⟨xz, qfS X G⟩
  have C__law_take := q0 (P := l.prog) (w := w) (base := base) (zd (st := jx) l0 c0 k0) (PySem.W.mg_of X G a0) T XTt hB
  have C__law_marks := q1 (P := l.prog) (w := w) (base := base) (zd (st := zR) l1 c1 k1) (PySem.W.mg_of X G a1) T XTt hB
  have C_room_left := q2 (P := l.prog) (w := w) (base := base) (zd (st := jy) l2 c2 k2) (PySem.W.mg_of X G a2) T XTt hB
  have C_worth_with := q3 (P := l.prog) (w := w) (base := base) (zd (st := jd) l3 c3 k3) (PySem.W.mg_of X G a3) T XTt hB C_room_left
  have C_fewest_of_best := q4 (P := l.prog) (w := w) (base := base) (zd (st := zb) l4 c4 k4) (PySem.W.mg_of X G a4) T XTt hB C_worth_with
  have C_most_within := q5 (P := l.prog) (w := w) (base := base) (zd (st := zZ) l5 c5 k5) (PySem.W.mg_of X G a5) T XTt hB
  have C_best_with := q6 (P := l.prog) (w := w) (base := base) (zd (st := z9) l6 c6 k6) (PySem.W.mg_of X G a6) T XTt hB C_most_within C_worth_with
  have C_best_rows := q7 (P := l.prog) (w := w) (base := base) (zd (st := ja) l7 c7 k7) (PySem.W.mg_of X G a7) T XTt hB C_best_with
  have C_need_few := q8 (P := l.prog) (w := w) (base := base) (zd (st := jz) l8 c8 k8) (PySem.W.mg_of X G a8) T XTt hB
  have C_is_whole := q9 (P := l.prog) (w := w) (base := base) (zd (st := j8) l9 c9 k9) (PySem.W.mg_of X G a9) T XTt hB
  have C_is_count := q10 (P := l.prog) (w := w) (base := base) (zd (st := j9) l10 c10 k10) (PySem.W.mg_of X G a10) T XTt hB C_is_whole
  have C_need_count := q11 (P := l.prog) (w := w) (base := base) (zd (st := zS) l11 c11 k11) (PySem.W.mg_of X G a11) T XTt hB C_is_count
  have C_is_kind := q12 (P := l.prog) (w := w) (base := base) (zd (st := yN) l12 c12 k12) (PySem.W.mg_of X G a12) T XTt hB C_is_count
  have C_is_store := q13 (P := l.prog) (w := w) (base := base) (zd (st := jA) l13 c13 k13) (PySem.W.mg_of X G a13) T XTt hB C_is_kind
  have C_need_store := q14 (P := l.prog) (w := w) (base := base) (zd (st := zT) l14 c14 k14) (PySem.W.mg_of X G a14) T XTt hB C_is_store
  have C_need_asked := q15 (P := l.prog) (w := w) (base := base) (zd (st := zU) l15 c15 k15) (PySem.W.mg_of X G a15) T XTt hB C_need_few C_need_count C_need_store
  have C_best_load := q16 (P := l.prog) (w := w) (base := base) (zd (st := jb) l16 c16 k16) (PySem.W.mg_of X G a16) T XTt hB C_room_left C_fewest_of_best C_best_rows C_need_asked
  have C_best_worths := q17 (P := l.prog) (w := w) (base := base) (zd (st := zv) l17 c17 k17) (PySem.W.mg_of X G a17) T XTt hB C_best_rows C_need_asked
  have C_best_worth := q18 (P := l.prog) (w := w) (base := base) (zd (st := zV) l18 c18 k18) (PySem.W.mg_of X G a18) T XTt hB C_best_worths
  have C__law_said := q19 (P := l.prog) (w := w) (base := base) (zd (st := jB) l19 c19 k19) (PySem.W.mg_of X G a19) T XTt hB C__law_marks C_best_load C_best_worth C_best_worths
  have C__law_sum := q20 (P := l.prog) (w := w) (base := base) (zd (st := ya) l20 c20 k20) (PySem.W.mg_of X G a20) T XTt hB
  have C__law_all_loads := q21 (P := l.prog) (w := w) (base := base) (zd (st := qI) l21 c21 k21) (PySem.W.mg_of X G a21) T XTt hB
  have C__law_best_of := q22 (P := l.prog) (w := w) (base := base) (zd (st := qR) l22 c22 k22) (PySem.W.mg_of X G a22) T XTt hB C__law_sum C__law_all_loads
  have C__law_kind_of := q23 (P := l.prog) (w := w) (base := base) (zd (st := zB) l23 c23 k23) (PySem.W.mg_of X G a23) T XTt hB C__law_take
  have C__law_stocked := q24 (P := l.prog) (w := w) (base := base) (zd (st := zC) l24 c24 k24) (PySem.W.mg_of X G a24) T XTt hB C__law_take C__law_kind_of
  have C__law_mix := q25 (P := l.prog) (w := w) (base := base) (zd (st := yb) l25 c25 k25) (PySem.W.mg_of X G a25) T XTt hB
  have C__law_cell := q26 (P := l.prog) (w := w) (base := base) (zd (st := jC) l26 c26 k26) (PySem.W.mg_of X G a26) T XTt hB
  have C__law_box := q27 (P := l.prog) (w := w) (base := base) (zd (st := yc) l27 c27 k27) (PySem.W.mg_of X G a27) T XTt hB C__law_mix C__law_cell
  exact qj7 (P := l.prog) (w := w) (base := base) (zd (st := vU) l28 c28 k28) T XTt hB C__law_take C__law_said C__law_best_of C__law_all_loads C__law_sum C__law_stocked C__law_box
theorem qk3 {K : Fr0} {H : Hp} {a : Addr} {ns : List Int} (hO : qj9 H) (hS : SqL K H a (ns.map V.int)) : qjh K H a (ns.map V.int) := by
  rcases hS with (h | h) | h
  . rcases hO a with z | ⟨o, xs, z⟩
    . rw [h] at z; cases z
    . rw [h] at z; cases z
  . exact .inl h
  . exact .inr h
theorem walk {l : PySem.W.OpenLaw} {q : Program} {loose : List Str} {XP : (Str -> Option Value) -> Heap -> Prop} {YP : World -> Heap -> Prop} {d : DefRec} {K : Params -> PySem.W.Frag} (hn : l.most = some 63) (hdf : d.params.defaults = [])
    (hY : ∀ (w : World) (h : Heap), YP w h -> (K w.params).In h) (hlaw : ∀ ns : List Int, ns.length <= 63 -> qcg [.fz ns] = .ok (.bl true))
    (F : ∀ (w : World) (mg : Str -> Option Value) (fa : Addr) (h : Heap), (K w.params).In h -> h.Ns mainGlobals mg -> mg d.name = some (.ref fa) ->
      ∃ fd : FuncData, (∀ (s : Shared) (u : Value), BindsTo s fd ⟨[u], []⟩ [("script", u)]) /\ ∀ base : Heap, (K w.params).In base -> base.Ns mainGlobals mg -> jR l.prog w (K w.params) mg base CX0 10 fa fd ["script"] (spD (K w.params) qcg)) :
    PySem.W.WalkO q loose XP YP l.row.toRowW d [] (fun f vs => PySem.call f vs) :=
  L2.walk_of (n := 63) (k := 10) (x := "script") (CX := fun _ => CX0) (sp := fun w => spD (K w.params) qcg) hn (by decide) hdf ⟨rfl, by decide, by decide, rfl⟩ hY F (fun w H a ns hl hO hS => by
    refine ⟨[.fz ns], fun _ => False, ⟨.ref a, [], rfl, ⟨a, rfl, qk3 hO hS⟩, rfl⟩, fun _ _ => trivial, ?_⟩
    rw [hlaw ns hl]
    exact fun v H' _ h => h) fun _ _ _ _ _ z => z
end Law
end L2.Sk
open PySem PySem.W PyProof.Rows
set_option maxRecDepth 100000 in
set_option maxHeartbeats 0 in
theorem PySem.Challenge.cw_sackloads_k08_best_worths_holds : PySem.Challenge.rw_sackloads_k08_best_worths.Holds := by
  w_on; o_law; k_head; (case hw => w_witness2)
  k_fill
  refine L2.Sk.Law.walk (l := PySem.Challenge.rw_sackloads_k08_best_worths) rfl rfl (fun w h Y => by first | exact PySem.W.kIn_of Y | exact PySem.W.km_in_of Y) L2.Sk.Law.law_true ?F
  case F =>
    intro w mg fa h KX G hmg
    refine' L2.Sk.Law.all_mk KX G hmg ?a0 ?l0 ?c0 ?k0 ?a1 ?l1 ?c1 ?k1 ?a2 ?l2 ?c2 ?k2 ?a3 ?l3 ?c3 ?k3 ?a4 ?l4 ?c4 ?k4 ?a5 ?l5 ?c5 ?k5 ?a6 ?l6 ?c6 ?k6 ?a7 ?l7 ?c7 ?k7 ?a8 ?l8 ?c8 ?k8 ?a9 ?l9 ?c9 ?k9 ?a10 ?l10 ?c10 ?k10 ?a11 ?l11 ?c11 ?k11 ?a12 ?l12 ?c12 ?k12 ?a13 ?l13 ?c13 ?k13 ?a14 ?l14 ?c14 ?k14 ?a15 ?l15 ?c15 ?k15 ?a16 ?l16 ?c16 ?k16 ?a17 ?l17 ?c17 ?k17 ?a18 ?l18 ?c18 ?k18 ?a19 ?l19 ?c19 ?k19 ?a20 ?l20 ?c20 ?k20 ?a21 ?l21 ?c21 ?k21 ?a22 ?l22 ?c22 ?k22 ?a23 ?l23 ?c23 ?k23 ?a24 ?l24 ?c24 ?k24 ?a25 ?l25 ?c25 ?k25 ?a26 ?l26 ?c26 ?k26 ?a27 ?l27 ?c27 ?k27 ?a28 ?l28 ?c28 ?k28 ?zb_ValueError ?zb_abs ?zb_all ?zb_bool ?zb_divmod ?zb_enumerate ?zb_int ?zb_isinstance ?zb_len ?zb_max ?zb_min ?zb_range ?zb_repr ?zb_reversed ?zb_tuple ?xz ?zg_ASKED_AT_MOST ?zg_KINDS_AT_MOST ?zg_MOST ?zg_WEIGHT ?zg_WORTH
    (case a0 => k_is)
    (case l0 => k_is)
    (case c0 => k_is)
    (case k0 => k_is)
    (case a1 => k_is)
    (case l1 => k_is)
    (case c1 => k_is)
    (case k1 => k_is)
    (case a2 => k_is)
    (case l2 => k_is)
    (case c2 => k_is)
    (case k2 => k_is)
    (case a3 => k_is)
    (case l3 => k_is)
    (case c3 => k_is)
    (case k3 => k_is)
    (case a4 => k_is)
    (case l4 => k_is)
    (case c4 => k_is)
    (case k4 => k_is)
    (case a5 => k_is)
    (case l5 => k_is)
    (case c5 => k_is)
    (case k5 => k_is)
    (case a6 => k_is)
    (case l6 => k_is)
    (case c6 => k_is)
    (case k6 => k_is)
    (case a7 => k_is)
    (case l7 => k_is)
    (case c7 => k_is)
    (case k7 => k_is)
    (case a8 => k_is)
    (case l8 => k_is)
    (case c8 => k_is)
    (case k8 => k_is)
    (case a9 => k_is)
    (case l9 => k_is)
    (case c9 => k_is)
    (case k9 => k_is)
    (case a10 => k_is)
    (case l10 => k_is)
    (case c10 => k_is)
    (case k10 => k_is)
    (case a11 => k_is)
    (case l11 => k_is)
    (case c11 => k_is)
    (case k11 => k_is)
    (case a12 => k_is)
    (case l12 => k_is)
    (case c12 => k_is)
    (case k12 => k_is)
    (case a13 => k_is)
    (case l13 => k_is)
    (case c13 => k_is)
    (case k13 => k_is)
    (case a14 => k_is)
    (case l14 => k_is)
    (case c14 => k_is)
    (case k14 => k_is)
    (case a15 => k_is)
    (case l15 => k_is)
    (case c15 => k_is)
    (case k15 => k_is)
    (case a16 => k_is)
    (case l16 => k_is)
    (case c16 => k_is)
    (case k16 => k_is)
    (case a17 => k_is)
    (case l17 => k_is)
    (case c17 => k_is)
    (case k17 => k_is)
    (case a18 => k_is)
    (case l18 => k_is)
    (case c18 => k_is)
    (case k18 => k_is)
    (case a19 => k_is)
    (case l19 => k_is)
    (case c19 => k_is)
    (case k19 => k_is)
    (case a20 => k_is)
    (case l20 => k_is)
    (case c20 => k_is)
    (case k20 => k_is)
    (case a21 => k_is)
    (case l21 => k_is)
    (case c21 => k_is)
    (case k21 => k_is)
    (case a22 => k_is)
    (case l22 => k_is)
    (case c22 => k_is)
    (case k22 => k_is)
    (case a23 => k_is)
    (case l23 => k_is)
    (case c23 => k_is)
    (case k23 => k_is)
    (case a24 => k_is)
    (case l24 => k_is)
    (case c24 => k_is)
    (case k24 => k_is)
    (case a25 => k_is)
    (case l25 => k_is)
    (case c25 => k_is)
    (case k25 => k_is)
    (case a26 => k_is)
    (case l26 => k_is)
    (case c26 => k_is)
    (case k26 => k_is)
    (case a27 => k_is)
    (case l27 => k_is)
    (case c27 => k_is)
    (case k27 => k_is)
    (case a28 => k_is)
    (case l28 => k_is)
    (case c28 => k_is)
    (case k28 => k_is)
    (case zb_ValueError => k_is)
    (case zb_abs => k_is)
    (case zb_all => k_is)
    (case zb_bool => k_is)
    (case zb_divmod => k_is)
    (case zb_enumerate => k_is)
    (case zb_int => k_is)
    (case zb_isinstance => k_is)
    (case zb_len => k_is)
    (case zb_max => k_is)
    (case zb_min => k_is)
    (case zb_range => k_is)
    (case zb_repr => k_is)
    (case zb_reversed => k_is)
    (case zb_tuple => k_is)
    (case xz => kernel_rfl)
    (case zg_ASKED_AT_MOST => k_is)
    (case zg_KINDS_AT_MOST => k_is)
    (case zg_MOST => k_is)
    (case zg_WEIGHT => k_is)
    (case zg_WORTH => k_is)
