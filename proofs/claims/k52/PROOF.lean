import PyProof.Rows.All
import Wide.All
import OpenK.AllK
import Wide.FinOn
import Lean
import PyProof.EqAt
import PyProof.EqKinds
import PyProof.TupleCall
import PySem.Challenge.RW_sackloads_k52_fills
def PySem.W.Fast.tw6514771276123939806 : Nat := 0
def PySem.W.Fast.tw3177552993002591906 : Nat := 0
def PySem.W.Fast.tw13208209219618281426 : Nat := 0
def PySem.W.Fast.tw1832778718564101498 : Nat := 0
def PySem.W.Fast.tw4354433756495548581 : Nat := 0
def PySem.W.Fast.tw783003313794664921 : Nat := 0
def PySem.W.Fast.tw17566127300069454328 : Nat := 0
set_option linter.all false
set_option Elab.async false
set_option maxRecDepth 100000
namespace L2
open PySem PySem.Spec PyProof.Rows
abbrev Key := Sum Int Str
def qji : Key -> Value -> Bool
  | .inl k, v => Value.isInt k v
  | .inr x, v => Value.isStrOf x v
def qmD (w : World) : Key -> Int
  | .inl k => hashInt k
  | .inr x => hashStr w x
theorem qV : ∀ {k : Key} {v : Value}, qji k v = true -> (∃ i t, k = Sum.inl i /\ v = Value.int i t) \/ (∃ x t, k = Sum.inr x /\ v = Value.str x t)
  | .inl i, v, h => by
    obtain ⟨t, e⟩ := Value.isInt_shape (k := i) (v := v) h
    exact .inl ⟨i, t, rfl, e⟩
  | .inr x, v, h => by
    obtain ⟨t, e⟩ := Value.isStrOf_shape (x := x) (v := v) h
    exact .inr ⟨x, t, rfl, e⟩
theorem qjj (a b : Int) : decide ((Sum.inl a : Key) = Sum.inl b) = (a == b) := by
  by_cases e : a = b
  . subst e; simp
  . have h : ¬ (Sum.inl a : Key) = Sum.inl b := fun q => e (Sum.inl.inj q)
    rw [decide_eq_false h]
    exact (beq_eq_false_iff_ne.mpr e).symm
theorem qjk (a b : Str) : decide ((Sum.inr a : Key) = Sum.inr b) = decide (a = b) := by
  by_cases e : a = b
  . subst e; simp
  . have h : ¬ (Sum.inr a : Key) = Sum.inr b := fun q => e (Sum.inr.inj q)
    rw [decide_eq_false h, decide_eq_false e]
theorem qjl (a : Int) (b : Str) : decide ((Sum.inl a : Key) = Sum.inr b) = false := decide_eq_false (fun q => nomatch q)
theorem qjm (a : Str) (b : Int) : decide ((Sum.inr a : Key) = Sum.inl b) = false := decide_eq_false (fun q => nomatch q)
def qaf (prog : Program) (w : World) : PySem.KeyKind prog w Key where
  is := qji
  hash := qmD w
  inj := fun v a b ha hb => by
    rcases qV ha with ⟨i, t, rfl, rfl⟩ | ⟨x, t, rfl, rfl⟩
    . rcases qV hb with ⟨j, u, rfl, e⟩ | ⟨y, u, rfl, e⟩
      . injection e with e1 _; rw [e1]
      . exact nomatch e
    . rcases qV hb with ⟨j, u, rfl, e⟩ | ⟨y, u, rfl, e⟩
      . exact nomatch e
      . injection e with e1 _; rw [e1]
  byValue := fun k v h => by
    rcases qV h with ⟨i, t, rfl, rfl⟩ | ⟨x, t, rfl, rfl⟩ <;> rfl
  pyHash := fun hv h => by
    rcases qV hv with ⟨i, t, rfl, rfl⟩ | ⟨x, t, rfl, rfl⟩
    . exact wpAny_pyHash_int h
    . exact wpAny_pyHash_str h
  eqBool := fun hu hv h => by
    rcases qV hu with ⟨i, t, rfl, rfl⟩ | ⟨x, t, rfl, rfl⟩
    . rcases qV hv with ⟨j, u, rfl, rfl⟩ | ⟨y, u, rfl, rfl⟩
      . rw [qjj] at h; exact wpAny_eqBool_int h
      . rw [qjl] at h; exact SeqAt.EqAt.int_str i t y u _ _ _ _ h
    . rcases qV hv with ⟨j, u, rfl, rfl⟩ | ⟨y, u, rfl, rfl⟩
      . rw [qjm] at h; exact SeqAt.EqAt.str_int x t j u _ _ _ _ h
      . rw [qjk] at h; exact wpAny_eqBool_str h
  «strs» := fun k x t v h => by
    rcases qV h with ⟨i, u, rfl, e⟩ | ⟨y, u, rfl, e⟩
    . exact nomatch e
    . injection e with e1 _
      subst e1
      cases v <;> rfl
end L2
namespace L2
open PySem PySem.Spec PyProof.Rows
inductive V where
  | non | bl (b : Bool) | int (i : Int) | str (x : Str) | byt (b : Array UInt8) | flt (b : UInt64) | ref (a : Addr) | ty (n : String)
  deriving DecidableEq
def ju : V -> Value -> Prop
  | .non, u => u = Value.none
  | .bl b, u => u = Value.bool b
  | .int i, u => ∃ t, u = Value.int i t
  | .str x, u => ∃ t, u = Value.str x t
  | .byt b, u => ∃ t, u = Value.bytes b t
  | .flt b, u => ∃ t, u = Value.float b t
  | .ref a, u => u = Value.ref a
  | .ty n, u => u = Value.type n
abbrev qQ : List V -> List Value -> Prop := Paired ju
theorem qQ.length {xs : List V} {us : List Value} (r : qQ xs us) : xs.length = us.length := Paired.length r
theorem qQ.get : ∀ {xs : List V} {us : List Value} {i : Nat} {x : V}, qQ xs us -> xs[i]? = some x -> ∃ u, us[i]? = some u /\ ju x u
  | _, _, _, _, .nil, e => by simp at e
  | _, _, 0, _, .cons r _, e => by simp at e; subst e; exact ⟨_, rfl, r⟩
  | _, _, i + 1, x, .cons _ t, e => by
    obtain ⟨u, h1, h2⟩ := qQ.get (i := i) (x := x) t (by simpa using e)
    exact ⟨u, by simpa using h1, h2⟩
theorem qQ.set {x : V} {u : Value} (r : ju x u) : ∀ {xs : List V} {us : List Value} (i : Nat), qQ xs us -> qQ (xs.set i x) (us.set i u)
  | _, _, _, .nil => .nil
  | _, _, 0, .cons _ t => .cons r t
  | _, _, i + 1, .cons q t => .cons q (qQ.set r i t)
theorem qQ.append : ∀ {xs ys : List V} {us ws : List Value}, qQ xs us -> qQ ys ws -> qQ (xs ++ ys) (us ++ ws)
  | _, _, _, _, .nil, s => s
  | _, _, _, _, .cons r t, s => .cons r (qQ.append t s)
theorem qQ.take : ∀ {xs : List V} {us : List Value} (n : Nat), qQ xs us -> qQ (xs.take n) (us.take n)
  | _, _, 0, _ => .nil
  | _, _, _ + 1, .nil => .nil
  | _, _, n + 1, .cons r t => .cons r (qQ.take n t)
theorem qQ.drop : ∀ {xs : List V} {us : List Value} (n : Nat), qQ xs us -> qQ (xs.drop n) (us.drop n)
  | _, _, 0, r => r
  | _, _, _ + 1, .nil => .nil
  | _, _, n + 1, .cons _ t => qQ.drop n t
def qli : Option V -> Option Value -> Prop
  | some v, some u => ju v u
  | none, none => True
  | _, _ => False
def KV {κ : Type} : List (κ × V) -> List (κ × Value) -> Prop := Paired fun (p : κ × V) (q : κ × Value) => p.1 = q.1 /\ ju p.2 q.2
def kV : Key -> V
  | .inl i => .int i
  | .inr x => .str x
inductive HO where
  /-- a list -/
  | lst (xs : List V)
  /-- a tuple (never changes) -/
  | tup (xs : List V)
  /-- a dict whose keys are ints and texts; one whose keys are tuples of ints and texts (the empty one is both) -/
  | dK (kvs : List (Key × V)) | dT (kvs : List (List Key × V))
  /-- a set of ints: its members, its size -/
  | set (S : Int -> Bool) (n : Nat)
  /-- an instance of the class at C, its dict at dx, its attributes -/
  | ins (C dx : Addr) (fs : List (Str × V))
  /-- the dict of the instance at x -/
  | own (x : Addr)
  /-- the dict of an exception -/
  | xd (fs : List (Str × V))
  /-- a bound method, f of x -/
  | met (f x : Addr)
  /-- a range object lo, lo + 1, .. below hi -/
  | rng (lo hi : Int)
  /-- a thing that is known to the object (the script; a dict while a loop walks it): read, never written while it is so -/
  | frz (o : Obj) (u : HO)
  /-- a code object's table -/
  | tbl (ps : Array Value)
  /-- any other thing, by what is true of its one object (a def of one's own: SetO a S n := HO.ext fun h => ..) -/
  | ext (φ : Heap -> Prop)
abbrev Hp := Addr -> Option HO
def upd (H : Hp) (a : Addr) (o : HO) : Hp := fun b => if b = a then some o else H b
theorem qr {H : Hp} {a : Addr} {o : HO} : upd H a o a = some o := by unfold upd; rw [if_pos rfl]
theorem qm {H : Hp} {a b : Addr} {o : HO} (h : b ≠ a) : upd H a o b = H b := by unfold upd; rw [if_neg h]
theorem uh {H : Hp} {a b : Addr} {o u : HO} (h : H a = some o) (h' : H b = some u) (d : o ≠ u) : a ≠ b := by
  intro e; subst e; rw [h] at h'; exact d (Option.some.inj h')
theorem qG {H : Hp} {a b : Addr} {o : HO} (h : H a = some o) (h' : H b = none) : a ≠ b := by
  intro e; subst e; rw [h] at h'; cases h'
section
variable (P : Program) (w : World)
def jM (H : Hp) (h : Heap) (a : Addr) : HO -> Prop
  | .lst xs => xs.length <= sizeLine /\ ∃ (its : List Value) (n : Nat), qQ xs its /\ h.get? a = some { cls := .type "list", data := .seq its.toArray n }
  | .tup xs => xs.length <= sizeLine /\ ∃ its : List Value, qQ xs its /\ IsTup h a its.toArray
  | .dK kvs => kvs.length <= sizeLine /\ (a == sysModules) = false /\ ∃ vs, KV kvs vs /\ h.DictOf (qaf P w) a vs
  | .dT kvs => kvs.length <= sizeLine /\ (a == sysModules) = false /\ ∃ xs : List (List Key × Addr × Value),
      Paired (fun (p : List Key × V) (q : List Key × Addr × Value) => p.1 = q.1 /\ H q.2.1 = some (.tup (p.1.map kV)) /\ ju p.2 q.2.2) kvs xs /\
      ∃ o es ep, h.get? a = some o /\ o.ExactDict /\ o.data = .dict es ep /\ es.toList = xs.map (entryOfKey (tupleKind (qaf P w))) /\ (xs.map (·.1)).Nodup
  | .set S n => h.SetOf (intKind P w) a S n
  | .ins C dx fs => H dx = some (.own a) /\ fs.length <= 1000 /\ dx ≠ a /\ h.get? a = some (PySem.W.instObj C dx) /\
      ∃ mA, h.Ns1 dx mA /\ (∀ f, qli (fs.lookup f) (mA f)) /\ PySem.Within mA (fs.map (·.1))
  | .own _ => ∃ o, h.get? a = some o
  | .xd fs => ∃ mA, h.Ns1 a mA /\ ∀ f, qli (fs.lookup f) (mA f)
  | .rng lo hi => ∃ t u v, h.get? a = some { cls := .type "range", data := .fields #[.int lo t, .int hi u, .int 1 v] }
  | .frz o u => h.get? a = some o /\ jM H h a u
  | .tbl ps => h.get? a = some { cls := .none, data := .fields ps }
  | .met f x => h.get? a = some (PySem.W.methodObj (.ref f) (.ref x))
  | .ext φ => φ h /\ (∃ o, h.get? a = some o) /\ ∀ h1 h2 : Heap, φ h1 -> (∀ o, h1.get? a = some o -> h2.get? a = some o) -> φ h2
def HOk (H : Hp) (h : Heap) : Prop := ∀ a o, H a = some o -> jM P w H h a o
end
section
variable {P : Program} {w : World} {H H' : Hp} {h h' : Heap} {a : Addr} {o : HO}
theorem jM.lt (x : jM P w H h a o) : a < h.objs.size := by
  cases o with
  | lst xs => obtain ⟨_, _, _, _, e⟩ := x; exact Heap.lt_size e
  | tup xs => obtain ⟨_, _, _, p⟩ := x; exact p.lt
  | dK kvs => obtain ⟨_, _, _, _, o, _, _, e, _⟩ := x; exact Heap.lt_size e
  | dT kvs => obtain ⟨_, _, _, _, o, _, _, e, _⟩ := x; exact Heap.lt_size e
  | set S n => obtain ⟨o, _, _, _, e, _⟩ := x; exact Heap.lt_size e
  | ins C dx fs => obtain ⟨_, _, _, e, _⟩ := x; exact Heap.lt_size e
  | own y => obtain ⟨_, e⟩ := x; exact Heap.lt_size e
  | xd fs => obtain ⟨_, ⟨_, _, _, e, _⟩, _⟩ := x; exact Heap.lt_size e
  | rng lo hi => obtain ⟨_, _, _, e⟩ := x; exact Heap.lt_size e
  | frz ob u => obtain ⟨e, _⟩ := x; exact Heap.lt_size e
  | tbl ps => exact Heap.lt_size (show h.get? a = some _ from x)
  | met f y => exact Heap.lt_size (show h.get? a = some _ from x)
  | ext φ => obtain ⟨_, ⟨_, e⟩, _⟩ := x; exact Heap.lt_size e
theorem Paired.mapP {α β : Type} {F G : α -> β -> Prop} : ∀ {l₁ : List α} {l₂ : List β}, Paired F l₁ l₂ -> (∀ a b, F a b -> G a b) -> Paired G l₁ l₂
  | _, _, .nil, _ => .nil
  | _, _, .cons r t, f => .cons (f _ _ r) (Paired.mapP t f)
theorem jM.stay (x : jM P w H h a o) (k : ∀ b u, (b = a \/ H b = some (.own a)) -> h.get? b = some u -> h'.get? b = some u)
    (ho : ∀ b, H b = some (.own a) -> H' b = some (.own a)) (ht : ∀ b xs, H b = some (.tup xs) -> H' b = some (.tup xs)) : jM P w H' h' a o := by
  induction o with
  | lst xs => obtain ⟨z, its, n, r, e⟩ := x; exact ⟨z, its, n, r, k _ _ (.inl rfl) e⟩
  | tup xs => obtain ⟨z, its, r, ob, e, c⟩ := x; exact ⟨z, its, r, ob, k _ _ (.inl rfl) e, c⟩
  | dK kvs => obtain ⟨z, y, vs, r, ob, es, ep, e, c⟩ := x; exact ⟨z, y, vs, r, ob, es, ep, k _ _ (.inl rfl) e, c⟩
  | dT kvs =>
    obtain ⟨z, y, xs, r, ob, es, ep, e, c⟩ := x
    exact ⟨z, y, xs, Paired.mapP r fun p q z => ⟨z.1, ht _ _ z.2.1, z.2.2⟩, ob, es, ep, k _ _ (.inl rfl) e, c⟩
  | set S n => obtain ⟨ob, es, ep, t, e, c⟩ := x; exact ⟨ob, es, ep, t, k _ _ (.inl rfl) e, c⟩
  | ins C dx fs =>
    obtain ⟨d, z, ne, e, mA, ⟨od, es, ep, e2, c⟩, r⟩ := x
    exact ⟨ho _ d, z, ne, k _ _ (.inl rfl) e, mA, ⟨od, es, ep, k _ _ (.inr d) e2, c⟩, r⟩
  | own y => obtain ⟨ob, e⟩ := x; exact ⟨ob, k _ _ (.inl rfl) e⟩
  | xd fs => obtain ⟨mA, ⟨od, es, ep, e, c⟩, r⟩ := x; exact ⟨mA, ⟨od, es, ep, k _ _ (.inl rfl) e, c⟩, r⟩
  | rng lo hi => obtain ⟨t, u, v, e⟩ := x; exact ⟨t, u, v, k _ _ (.inl rfl) e⟩
  | frz ob u ih => obtain ⟨e, q⟩ := x; exact ⟨k _ _ (.inl rfl) e, ih q⟩
  | tbl ps =>
    have e : h.get? a = some { cls := .none, data := .fields ps } := x
    show h'.get? a = some { cls := .none, data := .fields ps }
    exact k a _ (.inl rfl) e
  | met f y =>
    have e : h.get? a = some (PySem.W.methodObj (.ref f) (.ref y)) := x
    show h'.get? a = some (PySem.W.methodObj (.ref f) (.ref y))
    exact k a _ (.inl rfl) e
  | ext φ => obtain ⟨p, ⟨o, e⟩, st⟩ := x; exact ⟨st _ _ p fun o q => k _ _ (.inl rfl) q, ⟨o, k _ _ (.inl rfl) e⟩, st⟩
theorem HOk.lt (x : HOk P w H h) (e : H a = some o) : a < h.objs.size := (x a o e).lt
theorem HOk.fresh (x : HOk P w H h) (e : h.objs.size <= a) : H a = none := by
  cases q : H a with
  | none => rfl
  | some u => exact absurd (Nat.lt_of_lt_of_le (x.lt q) e) (Nat.lt_irrefl _)
theorem HOk.kept (x : HOk P w H h) (k : ∀ b u, h.get? b = some u -> h'.get? b = some u) : HOk P w H h' := fun a o e =>
  (x a o e).stay (fun b u _ q => k b u q) (fun _ q => q) fun _ _ q => q
theorem HOk.laid (x : HOk P w H h) (k : ∀ b u, h.get? b = some u -> h'.get? b = some u) (hp : h.objs.size <= a) (new : jM P w (upd H a o) h' a o) : HOk P w (upd H a o) h' := fun b u e => by
  have hn := x.fresh hp
  by_cases hb : b = a
  . subst hb; rw [qr] at e; cases e; exact new
  . rw [qm hb] at e
    exact (x b u e).stay (fun c v _ q => k c v q) (fun c q => by rw [qm (qG q hn)]; exact q) fun c xs q => by rw [qm (qG q hn)]; exact q
end
def Rd (H : Hp) (a : Addr) (u : HO) : Prop := H a = some u \/ ∃ o, H a = some (.frz o u)
theorem Rd.ok {P : Program} {w : World} {H : Hp} {h : Heap} {a : Addr} {u : HO} (r : Rd H a u) (x : HOk P w H h) : jM P w H h a u := by
  rcases r with r | ⟨o, r⟩
  . exact x a u r
  . obtain ⟨_, q⟩ := x a _ r
    exact q
def Mut : Option HO -> Prop
  | some (.lst _) => True
  | some (.dK _) => True
  | some (.dT _) => True
  | some (.set _ _) => True
  | some (.ins _ _ _) => True
  | some (.ext _) => True
  | _ => False
section
variable {P : Program} {w : World} {H : Hp} {h h' : Heap} {x e : Addr} {o' : HO}
theorem HOk.write (ok : HOk P w H h) (mu : Mut (H x)) (he : e = x \/ H e = some (.own x)) (k : ∀ b u, b ≠ e -> h.get? b = some u -> h'.get? b = some u) (heo : ∃ u, h'.get? e = some u)
    (new : jM P w (upd H x o') h' x o') : HOk P w (upd H x o') h' := fun b u q => by
  have nown : ∀ c y, H c = some (.own y) -> c ≠ x := fun c y r z => by subst z; rw [r] at mu; exact mu
  have ntup : ∀ c xs, H c = some (.tup xs) -> c ≠ x := fun c xs r z => by subst z; rw [r] at mu; exact mu
  by_cases hb : b = x
  . subst hb; rw [qr] at q; cases q; exact new
  . rw [qm hb] at q
    by_cases hbe : b = e
    . have q' : H b = some (.own x) := by
        rcases he with z | z
        . exact absurd (hbe.trans z) hb
        . rw [hbe]; exact z
      rw [q] at q'; cases q'
      obtain ⟨v, hv⟩ := heo
      exact ⟨v, by rw [hbe]; exact hv⟩
    . refine (ok b u q).stay (fun c v hc r => k c v ?_ r) (fun c r => by rw [qm (nown c b r)]; exact r) fun c xs r => by rw [qm (ntup c xs r)]; exact r
      rcases hc with rfl | hc
      . exact hbe
      . rintro rfl
        rcases he with z | z
        . exact nown c b hc z
        . rw [hc] at z; cases z; exact hb rfl
end
structure Un (fs ex : List Addr) (H H' : Hp) (h h' : Heap) : Prop where
  keep : ∀ b o, h.get? b = some o -> H b = none -> b ∉ fs -> b ∉ ex -> h'.get? b = some o
  slot : ∀ b o, h.get? b = some o -> H b = none -> b ∈ fs -> b ∉ ex -> ∃ sl, h'.get? b = some { o with slots := sl }
  free : ∀ b o, h.get? b = some o -> H b = none -> b ∉ ex -> H' b = none
  there : ∀ b o, h.get? b = some o -> b ∉ ex -> ∃ o', h'.get? b = some o'
  tups : ∀ b xs, H b = some (.tup xs) -> H' b = some (.tup xs)
  frzs : ∀ b o u, H b = some (.frz o u) -> H' b = some (.frz o u)
  tbls : ∀ b ps, H b = some (.tbl ps) -> ∃ more, H' b = some (.tbl (ps ++ more))
section
variable {fs fs' ex ex' : List Addr} {H H1 H2 : Hp} {h h1 h2 h' : Heap} {a x e : Addr} {o : HO}
theorem Un.any (u : Un fs ex H H1 h h1) {b : Addr} {ob : Obj} (q : h.get? b = some ob) (n : H b = none) (hx : b ∉ ex) : ∃ sl, h1.get? b = some { ob with slots := sl } := by
  by_cases hb : b ∈ fs
  . exact u.slot b ob q n hb hx
  . exact ⟨ob.slots, u.keep b ob q n hb hx⟩
theorem Un.trans (a : Un fs ex H H1 h h1) (b : Un fs ex H1 H2 h1 h2) : Un fs ex H H2 h h2 where
  keep := fun c ob q n hc hx => b.keep c ob (a.keep c ob q n hc hx) (a.free c ob q n hx) hc hx
  slot := fun c ob q n hc hx => by
    obtain ⟨sl, e1⟩ := a.slot c ob q n hc hx
    obtain ⟨sl', e2⟩ := b.slot c _ e1 (a.free c ob q n hx) hc hx
    exact ⟨sl', e2⟩
  free := fun c ob q n hx => by
    obtain ⟨o', e1⟩ := a.there c ob q hx
    exact b.free c o' e1 (a.free c ob q n hx) hx
  there := fun c ob q hx => by
    obtain ⟨o', e1⟩ := a.there c ob q hx
    exact b.there c o' e1 hx
  tups := fun c xs q => b.tups c xs (a.tups c xs q)
  frzs := fun c ob xs q => b.frzs c ob xs (a.frzs c ob xs q)
  tbls := fun c ps q => by
    obtain ⟨m1, e1⟩ := a.tbls c ps q
    obtain ⟨m2, e2⟩ := b.tbls c _ e1
    exact ⟨m1 ++ m2, by rw [e2, Array.append_assoc]⟩
theorem Un.kept (k : ∀ b u, h.get? b = some u -> h'.get? b = some u) : Un fs ex H H h h' :=
  ⟨fun b ob q _ _ _ => k b ob q, fun b ob q _ _ _ => ⟨ob.slots, k b ob q⟩, fun _ _ _ n _ => n, fun b ob q _ => ⟨ob, k b ob q⟩, fun _ _ q => q, fun _ _ _ q => q, fun _ ps q => ⟨#[], by rw [q]; simp⟩⟩
theorem Un.refl : Un fs ex H H h h := Un.kept fun _ _ q => q
theorem Un.laid (k : ∀ b u, h.get? b = some u -> h'.get? b = some u) (hp : h.objs.size <= a) (hn : H a = none) : Un fs ex H (upd H a o) h h' where
  keep := fun b u q _ _ _ => k b u q
  slot := fun b u q _ _ _ => ⟨u.slots, k b u q⟩
  free := fun b u q n _ => by rw [qm (Nat.ne_of_lt (Nat.lt_of_lt_of_le (Heap.lt_size q) hp))]; exact n
  there := fun b u q _ => ⟨u, k b u q⟩
  tups := fun b xs q => by rw [qm (qG q hn)]; exact q
  frzs := fun b u xs q => by rw [qm (qG q hn)]; exact q
  tbls := fun b ps q => ⟨#[], by rw [qm (qG q hn), q]; simp⟩
theorem Un.write (mu : Mut (H x)) (he : e = x \/ H e = some (.own x)) (k : ∀ b u, b ≠ e -> h.get? b = some u -> h'.get? b = some u) (heo : ∃ u, h'.get? e = some u) : Un fs ex H (upd H x o) h h' := by
  have hx : ∀ b, H b = none -> b ≠ x := fun b n z => by subst z; rw [n] at mu; exact mu
  have hb : ∀ b, H b = none -> b ≠ e := fun b n z => by
    subst z
    rcases he with r | r
    . exact hx b n r
    . rw [n] at r; cases r
  have hm : ∀ b u, H b = some u -> ¬ Mut (some u) -> b ≠ x := fun b u q nm z => by subst z; rw [q] at mu; exact nm mu
  refine ⟨fun b u q n _ _ => k b u (hb b n) q, fun b u q n _ _ => ⟨u.slots, k b u (hb b n) q⟩, fun b u q n _ => by rw [qm (hx b n)]; exact n, fun b u q _ => ?_,
    fun b xs q => by rw [qm (hm b _ q fun z => z)]; exact q, fun b u xs q => by rw [qm (hm b _ q fun z => z)]; exact q, fun b ps q => ⟨#[], by rw [qm (hm b _ q fun z => z), q]; simp⟩⟩
  by_cases hbe : b = e
  . subst hbe; exact heo
  . exact ⟨u, k b u hbe q⟩
end
def trk (h : Heap) (H : Hp) : List Addr := (List.range h.objs.size).filter fun a => (H a).isSome
def qfO (h : Heap) (H : Hp) : Heap := PySem.W.hideAll h (trk h H)
theorem qd5 (h : Heap) (H : Hp) : (qfO h H).objs.size = h.objs.size := PySem.W.hideAll_size _ _
theorem qfP {h : Heap} {H : Hp} {b : Addr} {o : Obj} (e : h.get? b = some o) (n : H b = none) : (qfO h H).get? b = some o :=
  PySem.W.hideAll_get _ e fun hm => by
    have q : (H b).isSome = true := (List.mem_filter.mp hm).2
    rw [n] at q; simp at q
theorem qhL {h : Heap} {H : Hp} {b : Addr} {o : Obj} (e : (qfO h H).get? b = some o) : h.get? b = some o /\ H b = none := by
  have e' : h.get? b = some o := PySem.W.of_hideAll (trk h H) e
  refine ⟨e', ?_⟩
  cases q : H b with
  | none => rfl
  | some x =>
    have hm : b ∈ trk h H := List.mem_filter.mpr ⟨List.mem_range.mpr (Heap.lt_size e'), by simp [q]⟩
    have z : (qfO h H).get? b = none := PySem.W.hideAll_none (trk h H) hm
    rw [z] at e; cases e
def qhM (g h : Heap) (L : Addr) : List (Addr × Obj) := (List.range h.objs.size).filterMap fun a => if a = L \/ (g.get? a).isSome = true then none else (h.get? a).map fun o => (a, o)
def zQ (g h : Heap) (L d : Addr) : List (Addr × Obj) := (qhM g h L).filter fun p => decide (p.1 ≠ d)
end L2
namespace L2
open PySem PySem.Spec PyProof.Rows
structure Mod (K : PySem.W.Frag) (mg : Str -> Option Value) (base : Heap) : Prop where
  kin : K.In base
  glob : base.Ns mainGlobals mg
  blt : ∃ mb, base.Ns builtinsNs mb /\ ∀ x : Str, x ≠ "__name__" -> mb x = bootBuiltins x
  nolimit : base.NoLimit
/-- the context: a def's body (or a comprehension's block) running. base: fixed through the whole law; s₀, H₀: the entry; outer: the frames whose slots others may change (a def's callers); stack: all frames that run;
   ex: iterators that were made ahead of the entry and are walked here (a comprehension's); fn: the names whose cells were made at the entry (a def: all; a comprehension's block: its own); calm: not within an except suite; pn: pins that every state bears; xe: what is wanted of an exception that leaves the code -/
structure Cx where
  prog : Program
  w : World
  K : PySem.W.Frag
  mg : Str -> Option Value
  base : Heap
  A : Around
  N : List Str
  s₀ : Shared
  H₀ : Hp
  env : Env
  outer : List Env
  stack : List Env
  ex : List Addr
  fn : Str -> Bool
  calm : Bool
  pn : List (Addr × Obj)
  xe : Value -> Shared -> Prop
def frs (l : List Env) : List Addr := l.filterMap (·.frame)
abbrev Cx.fs (X : Cx) : List Addr := frs X.outer
def Vis (sc : Scope) (x : Str) : Prop := sc.names.lookup x = some .local \/ sc.names.lookup x = some .cell \/ sc.names.lookup x = some .free
def Loc (sc : Scope) (x : Str) : Prop := sc.names.lookup x = some .local \/ sc.names.lookup x = some .cell
def qmE (env : Env) (h : Heap) (m : Str -> Option Value) (x : Str) (u : Value) : Prop :=
  (env.kindOf x = some .local /\ m x = some u) \/ ((env.kindOf x = some .cell \/ env.kindOf x = some .free) /\ ∃ c, env.cells.lookup x = some c /\ h.IsCell c (some u))
structure Cx.Ok (X : Cx) : Prop where
  mod : Mod X.K X.mg X.base
  kind : X.env.scope.kind = .function
  glob : X.env.globals = mainGlobals
  blt : X.env.builtins = builtinsNs
  above : X.s₀.heap.objs.size <= X.env.locals
  inj : ∀ x y c, X.env.cells.lookup x = some c -> X.env.cells.lookup y = some c -> x = y
  has : ∀ x, (X.env.kindOf x = some .cell \/ X.env.kindOf x = some .free) -> ∃ c, X.env.cells.lookup x = some c
  cab : ∀ x c, X.fn x = true -> X.env.cells.lookup x = some c -> X.s₀.heap.objs.size <= c
  hd : X.calm = true -> X.A.handled = none
  frames : X.A.frames = some X.stack
  stk : X.stack = X.outer \/ (X.stack = X.env :: X.outer /\ X.env.frame = some X.env.locals)
  exf : ∀ b ∈ X.ex, b ≠ X.env.locals /\ ∀ x c, X.env.cells.lookup x = some c -> c ≠ b
  bs : ∀ b o, X.base.get? b = some o -> X.s₀.heap.get? b = some o /\ X.H₀ b = none
  bsz : X.base.objs.size <= X.s₀.heap.objs.size
  noex : ∀ b o, X.base.get? b = some o -> b ∉ X.ex
  exfs : ∀ b ∈ X.ex, b ∉ X.fs
  funs : X.s₀.heap.FunFrames X.base X.outer
  frf : ∀ b ∈ X.fs, X.H₀ b = none
structure Inv (X : Cx) (pins : List (Addr × Obj)) (σ : List (Option V)) (H : Hp) (s : Shared) : Prop where
  ok : X.Ok
  os : s.os = X.s₀.os
  bare : AllBare s.gens
  base : Un X.fs X.ex X.H₀ H X.s₀.heap s.heap
  loc : ∃ m, s.heap.Ns X.env.locals m /\ ∀ (i : Nat) (x : Str) (v : V), X.N[i]? = some x -> σ[i]? = some (some v) -> Vis X.env.scope x -> ∃ u, ju v u /\ qmE X.env s.heap m x u
  cell : ∀ x c, X.env.cells.lookup x = some c -> ∃ v, s.heap.IsCell c v
  free : H X.env.locals = none
  freeC : ∀ x c, X.env.cells.lookup x = some c -> H c = none
  pin : ∀ p ∈ X.pn ++ pins, s.heap.get? p.1 = some p.2 /\ H p.1 = none /\ p.1 ≠ X.env.locals /\ p.1 ∉ X.fs /\ ∀ v, p.2.data ≠ .cell v
  hok : HOk X.prog X.w H s.heap
  len : σ.length = X.N.length
section
variable {X : Cx} {pins : List (Addr × Obj)} {σ : List (Option V)} {H H' : Hp} {s : Shared} {h' : Heap}
theorem Cx.Ok.nofr (ok : X.Ok) {b : Addr} {o : Obj} (e : X.base.get? b = some o) : b ∉ X.fs := fun hb => by
  have := (ok.funs.mem hb).1
  rw [e] at this; cases this
theorem Inv.bs (I : Inv X pins σ H s) : ∀ b o, X.base.get? b = some o -> s.heap.get? b = some o /\ H b = none := fun b o e =>
  ⟨I.base.keep b o (I.ok.bs b o e).1 (I.ok.bs b o e).2 (I.ok.nofr e) (I.ok.noex b o e), I.base.free b o (I.ok.bs b o e).1 (I.ok.bs b o e).2 (I.ok.noex b o e)⟩
theorem Inv.bk (I : Inv X pins σ H s) : ∀ b o, X.base.get? b = some o -> s.heap.get? b = some o := fun b o e => (I.bs b o e).1
theorem Inv.mod (I : Inv X pins σ H s) : Mod X.K X.mg X.base := I.ok.mod
theorem Inv.kIn (I : Inv X pins σ H s) : X.K.In s.heap := I.ok.mod.kin.keeps I.bk
theorem Inv.lt (I : Inv X pins σ H s) : X.env.locals < s.heap.objs.size := let ⟨_, hn, _⟩ := I.loc; hn.lt
theorem Inv.sz (I : Inv X pins σ H s) : X.s₀.heap.objs.size <= s.heap.objs.size := Nat.le_trans I.ok.above (Nat.le_of_lt I.lt)
theorem Inv.nofs (I : Inv X pins σ H s) {a : Addr} (h : s.heap.objs.size <= a) : a ∉ X.fs := fun hb => by
  obtain ⟨_, o, ho, _⟩ := I.ok.funs.mem hb
  exact absurd (Nat.lt_of_lt_of_le (Heap.lt_size ho) (Nat.le_trans I.sz h)) (Nat.lt_irrefl _)
theorem Inv.cne (I : Inv X pins σ H s) : ∀ x c, X.env.cells.lookup x = some c -> c ≠ X.env.locals := fun x c e z => by
  obtain ⟨v, o, ho, hd⟩ := I.cell x c e
  obtain ⟨m, ⟨o', es, ep, ho', hd', _⟩, _⟩ := I.loc
  rw [z, ho'] at ho; cases ho; rw [hd'] at hd; cases hd
theorem Inv.funs (I : Inv X pins σ H s) : s.heap.FunFrames X.base X.outer := by
  have all : ∀ (l : List Env), (∀ b ∈ frs l, b ∈ X.fs) -> X.s₀.heap.FunFrames X.base l -> s.heap.FunFrames X.base l := by
    intro l
    induction l with
    | nil => intro _ _; trivial
    | cons env r ih =>
      intro hs hl
      obtain ⟨hk, ⟨L, o, hf, hn, ho, hd⟩, hr⟩ := hl
      have hL : L ∈ X.fs := hs L (by unfold frs; rw [List.filterMap_cons, hf]; exact List.mem_cons_self)
      obtain ⟨sl, e⟩ := I.base.slot L o ho (I.ok.frf L hL) hL fun z => I.ok.exfs L z hL
      exact ⟨hk, ⟨L, _, hf, hn, e, hd⟩, ih (fun b hb => hs b (by unfold frs; rw [List.filterMap_cons, hf]; exact List.mem_cons_of_mem _ hb)) hr⟩
  exact all X.outer (fun _ hb => hb) I.ok.funs
theorem Inv.stack (I : Inv X pins σ H s) : s.heap.FunFrames X.base X.stack := by
  rcases I.ok.stk with e | ⟨e, hf⟩
  . rw [e]; exact I.funs
  . rw [e]
    obtain ⟨m, hn, _⟩ := I.loc
    refine .cons (by rw [I.ok.kind]; decide) hf hn ?_ I.funs
    exact Heap.get?_none_of_le (Nat.le_trans I.ok.bsz I.ok.above)
theorem Inv.stkSub (I : Inv X pins σ H s) : ∀ b ∈ frs X.stack, b ∈ X.env.locals :: X.fs := fun b hb => by
  rcases I.ok.stk with e | ⟨e, hf⟩
  . rw [e] at hb; exact List.mem_cons_of_mem _ hb
  . rw [e] at hb
    unfold frs at hb
    rw [List.filterMap_cons, hf] at hb
    exact hb
theorem Inv.stkFree (I : Inv X pins σ H s) : ∀ b ∈ frs X.stack, H b = none := fun b hb => by
  rcases List.mem_cons.mp (I.stkSub b hb) with e | hb
  . rw [e]; exact I.free
  . obtain ⟨_, o, ho, _⟩ := I.ok.funs.mem hb
    exact I.base.free b o ho (I.ok.frf b hb) fun z => I.ok.exfs b z hb
theorem Inv.step {g' : Array GenState} {t' : Nat} {d' : Drawn} {ch : List Addr} (I : Inv X pins σ H s)
    (hch : ∀ b ∈ ch, (b ∈ X.ex \/ X.s₀.heap.objs.size <= b) /\ b ≠ X.env.locals /\ (∀ x c, X.env.cells.lookup x = some c -> c ≠ b) /\ ∀ p ∈ X.pn ++ pins, p.1 ≠ b)
    (keep : ∀ b o, b ≠ X.env.locals -> b ∉ X.fs -> b ∉ ch -> s.heap.get? b = some o -> H b = none -> h'.get? b = some o)
    (slot : ∀ b o, b ≠ X.env.locals -> b ∈ X.fs -> b ∉ ch -> s.heap.get? b = some o -> H b = none -> ∃ sl, h'.get? b = some { o with slots := sl }) (free : ∀ b o, b ∉ ch -> s.heap.get? b = some o -> H b = none -> H' b = none)
    (there : ∀ b o, b ∉ ch -> s.heap.get? b = some o -> ∃ o', h'.get? b = some o')
    (tups : ∀ b xs, H b = some (.tup xs) -> H' b = some (.tup xs)) (frzs : ∀ b o u, H b = some (.frz o u) -> H' b = some (.frz o u)) (tbls : ∀ b ps, H b = some (.tbl ps) -> ∃ more, H' b = some (.tbl (ps ++ more)))
    (ns : ∀ m, s.heap.Ns X.env.locals m -> h'.Ns X.env.locals m) (hok : HOk X.prog X.w H' h') (hg : AllBare g') :
    Inv X pins σ H' { s with heap := h', gens := g', drawn := d', toks := t' } := by
  have neL : ∀ b o, X.s₀.heap.get? b = some o -> b ≠ X.env.locals := fun b o e => Nat.ne_of_lt (Nat.lt_of_lt_of_le (Heap.lt_size e) I.ok.above)
  have neC : ∀ b o, X.s₀.heap.get? b = some o -> b ∉ X.ex -> b ∉ ch := fun b o e hx hb => by
    rcases (hch b hb).1 with z | z
    . exact hx z
    . exact absurd (Nat.lt_of_lt_of_le (Heap.lt_size e) z) (Nat.lt_irrefl _)
  have cellK : ∀ x c, X.env.cells.lookup x = some c -> ∀ v, s.heap.IsCell c v -> h'.IsCell c v := fun x c e v ⟨o, ho, hd⟩ => by
    have nch : c ∉ ch := fun z => (hch c z).2.2.1 x c e rfl
    by_cases hc : c ∈ X.fs
    . obtain ⟨sl, q⟩ := slot c o (I.cne x c e) hc nch ho (I.freeC x c e)
      exact ⟨_, q, hd⟩
    . exact ⟨o, keep c o (I.cne x c e) hc nch ho (I.freeC x c e), hd⟩
  refine ⟨I.ok, I.os, hg, ⟨fun b o e n hb hx => ?_, fun b o e n hb hx => ?_, fun b o e n hx => ?_, fun b o e hx => ?_, fun b xs e => tups b xs (I.base.tups b xs e), fun b o xs e => frzs b o xs (I.base.frzs b o xs e), fun b ps e => ?_⟩, ?_, fun x c e => ?_, ?_, fun x c e => ?_, fun p hp => ?_, hok, I.len⟩
  . exact keep b o (neL b o e) hb (neC b o e hx) (I.base.keep b o e n hb hx) (I.base.free b o e n hx)
  . obtain ⟨sl, e1⟩ := I.base.slot b o e n hb hx
    obtain ⟨sl', e2⟩ := slot b _ (neL b o e) hb (neC b o e hx) e1 (I.base.free b o e n hx)
    exact ⟨sl', e2⟩
  . obtain ⟨o', e1⟩ := I.base.there b o e hx
    exact free b o' (neC b o e hx) e1 (I.base.free b o e n hx)
  . obtain ⟨o', e1⟩ := I.base.there b o e hx
    exact there b o' (neC b o e hx) e1
  . obtain ⟨m1, e1⟩ := I.base.tbls b ps e
    obtain ⟨m2, e2⟩ := tbls b _ e1
    exact ⟨m1 ++ m2, by rw [e2, Array.append_assoc]⟩
  . obtain ⟨m, hn, hl⟩ := I.loc
    refine ⟨m, ns m hn, fun i x v e1 e2 e3 => ?_⟩
    obtain ⟨u, r, l⟩ := hl i x v e1 e2 e3
    refine ⟨u, r, ?_⟩
    rcases l with l | ⟨k, c, e, z⟩
    . exact .inl l
    . exact .inr ⟨k, c, e, cellK x c e _ z⟩
  . obtain ⟨v, z⟩ := I.cell x c e
    exact ⟨v, cellK x c e v z⟩
  . obtain ⟨m, ⟨o, _, _, ho, _⟩, _⟩ := I.loc
    exact free _ o (fun z => (hch _ z).2.1 rfl) ho I.free
  . obtain ⟨v, o, ho, hd⟩ := I.cell x c e
    exact free c o (fun z => (hch c z).2.2.1 x c e rfl) ho (I.freeC x c e)
  . obtain ⟨e, n, ne, nf, d⟩ := I.pin p hp
    have nch : p.1 ∉ ch := fun z => (hch p.1 z).2.2.2 p hp rfl
    exact ⟨keep p.1 p.2 ne nf nch e n, free p.1 p.2 nch e n, ne, nf, d⟩
theorem Inv.un {t' : Nat} (I : Inv X pins σ H s) (u : Un X.fs [] H H' s.heap h') (hok : HOk X.prog X.w H' h') : Inv X pins σ H' { s with heap := h', toks := t' } := by
  obtain ⟨m, ⟨o, es, ep, ho, r⟩, _⟩ := id I.loc
  obtain ⟨sl, hL⟩ := u.any ho I.free (by simp)
  exact I.step (g' := s.gens) (d' := s.drawn) (ch := []) (fun _ z => nomatch z) (fun b o _ hb _ e n => u.keep b o e n hb (by simp)) (fun b o _ hb _ e n => u.slot b o e n hb (by simp)) (fun b o _ e n => u.free b o e n (by simp)) (fun b o _ e => u.there b o e (by simp)) u.tups u.frzs u.tbls (fun m' hm => by
    obtain ⟨o', es', ep', ho', r'⟩ := hm
    rw [ho] at ho'; cases ho'
    exact ⟨_, es', ep', hL, r'⟩) hok I.bare
theorem Inv.call {g' : Array GenState} {t' : Nat} {d' : Drawn} {ch : List Addr} (I : Inv X pins σ H s) (u : Un (frs X.stack) ch H H' s.heap h') (hok : HOk X.prog X.w H' h') (hg : AllBare g')
    (hch : ∀ b ∈ ch, (b ∈ X.ex \/ X.s₀.heap.objs.size <= b) /\ b ≠ X.env.locals /\ (∀ x c, X.env.cells.lookup x = some c -> c ≠ b) /\ ∀ p ∈ X.pn ++ pins, p.1 ≠ b) :
    Inv X pins σ H' { s with heap := h', gens := g', drawn := d', toks := t' } := by
  obtain ⟨m, ⟨o, es, ep, ho, r⟩, _⟩ := id I.loc
  obtain ⟨sl, hL⟩ := u.any ho I.free fun z => (hch _ z).2.1 rfl
  exact I.step (ch := ch) hch (fun b o hL hb hc e n => u.keep b o e n (fun z => (List.mem_cons.mp (I.stkSub b z)).elim hL hb) hc) (fun b o _ _ hc e n => u.any e n hc) (fun b o hc e n => u.free b o e n hc) (fun b o hc e => u.there b o e hc) u.tups u.frzs u.tbls (fun m' hm => by
    obtain ⟨o', es', ep', ho', r'⟩ := hm
    rw [ho] at ho'; cases ho'
    exact ⟨_, es', ep', hL, r'⟩) hok hg
theorem Inv.turned {t' : Nat} {it : Addr} (I : Inv X pins σ H s) (k : ∀ b o, b ≠ it -> s.heap.get? b = some o -> h'.get? b = some o) (hn : H it = none) (hL : it ≠ X.env.locals)
    (h1 : it ∈ X.ex \/ X.s₀.heap.objs.size <= it) (h2 : ∀ x c, X.env.cells.lookup x = some c -> c ≠ it) (h3 : ∀ p ∈ X.pn ++ pins, p.1 ≠ it) : Inv X pins σ H { s with heap := h', toks := t' } := by
  have nit : ∀ b u, H b = some u -> b ≠ it := fun b u e z => by rw [z, hn] at e; cases e
  refine I.step (g' := s.gens) (d' := s.drawn) (ch := [it]) (fun b hb => ?_) (fun b o _ _ hc e _ => k b o (fun z => hc (by simp [z])) e) (fun b o _ _ hc e _ => ⟨o.slots, k b o (fun z => hc (by simp [z])) e⟩) (fun _ _ _ _ n => n)
    (fun b o hc e => ⟨o, k b o (fun z => hc (by simp [z])) e⟩) (fun _ _ e => e) (fun _ _ _ e => e) (fun b ps e => ⟨#[], by rw [e]; simp⟩) (fun m hm => ?_) (fun b u e => ?_) I.bare
  . have e : b = it := by simpa using hb
    subst e
    exact ⟨h1, hL, h2, h3⟩
  . obtain ⟨o, es, ep, ho, r⟩ := hm
    exact ⟨o, es, ep, k _ o (Ne.symm hL) ho, r⟩
  . refine (I.hok b u e).stay (fun c v hc q => k c v ?_ q) (fun _ q => q) fun _ _ q => q
    rcases hc with z | z
    . rw [z]; exact nit b u e
    . exact nit c _ z
theorem Inv.tok (I : Inv X pins σ H s) (t : Nat) : Inv X pins σ H { s with toks := t } := I.un (h' := s.heap) (t' := t) Un.refl I.hok
theorem Inv.kept {t' : Nat} (I : Inv X pins σ H s) (k : ∀ b u, s.heap.get? b = some u -> h'.get? b = some u) : Inv X pins σ H { s with heap := h', toks := t' } := I.un (Un.kept k) (I.hok.kept k)
theorem Inv.laid {a : Addr} {o : HO} {t' : Nat} (I : Inv X pins σ H s) (k : ∀ b u, s.heap.get? b = some u -> h'.get? b = some u) (hp : s.heap.objs.size <= a) (new : jM X.prog X.w (upd H a o) h' a o) :
    Inv X pins σ (upd H a o) { s with heap := h', toks := t' } := I.un (Un.laid k hp (I.hok.fresh hp)) (I.hok.laid k hp new)
theorem Inv.write {x e : Addr} {o : HO} {t' : Nat} (I : Inv X pins σ H s) (mu : Mut (H x)) (he : e = x \/ H e = some (.own x)) (k : ∀ b u, b ≠ e -> s.heap.get? b = some u -> h'.get? b = some u) (heo : ∃ u, h'.get? e = some u)
    (new : jM X.prog X.w (upd H x o) h' x o) : Inv X pins σ (upd H x o) { s with heap := h', toks := t' } := I.un (Un.write mu he k heo) (I.hok.write mu he k heo new)
theorem Inv.pins_of {pins' : List (Addr × Obj)} (I : Inv X pins σ H s) (h : ∀ p ∈ pins', s.heap.get? p.1 = some p.2 /\ H p.1 = none /\ p.1 ≠ X.env.locals /\ p.1 ∉ X.fs /\ ∀ v, p.2.data ≠ .cell v) : Inv X pins' σ H s :=
  ⟨I.ok, I.os, I.bare, I.base, I.loc, I.cell, I.free, I.freeC, fun p hp => (List.mem_append.mp hp).elim (fun z => I.pin p (List.mem_append_left _ z)) (h p), I.hok, I.len⟩
theorem qcu {N : List Str} (hN : N.Nodup) {i j : Nat} {x : Str} (a : N[i]? = some x) (b : N[j]? = some x) : i = j := by
  obtain ⟨h1, e1⟩ := List.getElem?_eq_some_iff.mp a
  obtain ⟨h2, e2⟩ := List.getElem?_eq_some_iff.mp b
  exact (List.getElem_inj hN).mp (e1.trans e2.symm)
theorem qa3 {M : Model} {A : Around} {E : Value -> Shared -> Prop} {i : Nat} {x : Str} {v : V} {u : Value} {Q : Unit -> Shared -> Prop} (I : Inv X pins σ H s) (hN : X.N.Nodup) (hi : X.N[i]? = some x) (hx : Loc X.env.scope x) (r : ju v u)
    (h : ∀ s', Inv X pins (σ.set i (some v)) H s' -> (∃ a, Heap.SameBut a s.heap s'.heap /\ (a = X.env.locals \/ X.env.cells.lookup x = some a)) -> Q () s') (hf : X.fn x = true \/ X.env.scope.names.lookup x = some .local := by first | exact .inl rfl | exact .inr rfl | assumption) : wpAny M A (storeName X.env x u) Q E s := by
  obtain ⟨m, hn, hl⟩ := id I.loc
  have hcls : (X.env.scope.kind == .class || (X.env.scope.kind == .module && X.env.locals != X.env.globals)) = false := by rw [I.ok.kind]; rfl
  have hiσ : i < σ.length := by rw [I.len]; exact (List.getElem?_eq_some_iff.mp hi).1
  have cne := I.cne
  have tracked : ∀ {a : Addr} {h' : Heap}, (∃ o, s.heap.get? a = some o /\ H a = none) -> Heap.SameBut a s.heap h' -> HOk X.prog X.w H h' := fun {a h'} ha hs b ob e => by
    obtain ⟨_, _, hfree⟩ := ha
    refine (I.hok b ob e).stay (fun c w' hc q => (hs.2 c ?_).trans q) (fun _ q => q) fun _ _ q => q
    rintro rfl
    rcases hc with rfl | hc
    . rw [hfree] at e; cases e
    . rw [hfree] at hc; cases hc
  rcases hx with hk | hk
  . refine wpAny_storeName_local hk hn (fun h' hn' hs => ?_) hcls
    obtain ⟨oL, _, _, hoL, _⟩ := id hn
    refine h _ ⟨I.ok, I.os, I.bare, ⟨fun b o e n hb hx => ?_, fun b o e n hb hx => ?_, I.base.free, fun b o e hx => ?_, I.base.tups, I.base.frzs, I.base.tbls⟩, ⟨_, hn', fun j y v' e1 e2 e3 => ?_⟩, fun y c e => ?_, I.free, I.freeC, fun p hp => ?_, tracked ⟨oL, hoL, I.free⟩ hs, by simpa using I.len⟩ ⟨_, hs, .inl rfl⟩
    . exact (hs.2 b (Nat.ne_of_lt (Nat.lt_of_lt_of_le (Heap.lt_size e) I.ok.above))).trans (I.base.keep b o e n hb hx)
    . obtain ⟨sl, e1⟩ := I.base.slot b o e n hb hx
      exact ⟨sl, (hs.2 b (Nat.ne_of_lt (Nat.lt_of_lt_of_le (Heap.lt_size e) I.ok.above))).trans e1⟩
    . obtain ⟨o', e1⟩ := I.base.there b o e hx
      exact ⟨o', (hs.2 b (Nat.ne_of_lt (Nat.lt_of_lt_of_le (Heap.lt_size e) I.ok.above))).trans e1⟩
    . by_cases hj : j = i
      . subst hj
        rw [hi] at e1; cases e1
        rw [List.getElem?_set_self hiσ] at e2
        cases e2
        exact ⟨u, r, .inl ⟨hk, by simp⟩⟩
      . rw [List.getElem?_set_ne (Ne.symm hj)] at e2
        obtain ⟨u', r', q⟩ := hl j y v' e1 e2 e3
        refine ⟨u', r', ?_⟩
        rcases q with ⟨k, e⟩ | ⟨k, c, e, z⟩
        . refine .inl ⟨k, ?_⟩
          have : y ≠ x := fun e => hj (qcu hN e1 (e ▸ hi))
          simp [this, e]
        . exact .inr ⟨k, c, e, z.sameBut hs (cne y c e)⟩
    . obtain ⟨w', z⟩ := I.cell y c e
      exact ⟨w', z.sameBut hs (cne y c e)⟩
    . obtain ⟨e, n, ne, nf, d⟩ := I.pin p hp
      exact ⟨(hs.2 p.1 ne).trans e, n, ne, nf, d⟩
  . have hfn : X.fn x = true := by
      rcases hf with z | z
      . exact z
      . rw [z] at hk; cases hk
    obtain ⟨c, hc⟩ := I.ok.has x (.inl hk)
    obtain ⟨w', z⟩ := I.cell x c hc
    refine wpAny_storeName_cell I.ok.kind hk hc z (fun h' hc' hs => ?_)
    obtain ⟨oc, hoc, hocd⟩ := id z
    refine h { s with heap := h' } ⟨I.ok, I.os, I.bare, ⟨fun b o e n hb hx => ?_, fun b o e n hb hx => ?_, I.base.free, fun b o e hx => ?_, I.base.tups, I.base.frzs, I.base.tbls⟩, ⟨m, hn.sameBut hs (Ne.symm (cne x c hc)), fun j y v' e1 e2 e3 => ?_⟩, fun y c' e => ?_, I.free, I.freeC, fun p hp => ?_, tracked ⟨oc, hoc, I.freeC x c hc⟩ hs, by simpa using I.len⟩ ⟨c, hs, .inr hc⟩
    . exact (hs.2 b (Nat.ne_of_lt (Nat.lt_of_lt_of_le (Heap.lt_size e) (I.ok.cab x c hfn hc)))).trans (I.base.keep b o e n hb hx)
    . obtain ⟨sl, e1⟩ := I.base.slot b o e n hb hx
      exact ⟨sl, (hs.2 b (Nat.ne_of_lt (Nat.lt_of_lt_of_le (Heap.lt_size e) (I.ok.cab x c hfn hc)))).trans e1⟩
    . obtain ⟨o', e1⟩ := I.base.there b o e hx
      exact ⟨o', (hs.2 b (Nat.ne_of_lt (Nat.lt_of_lt_of_le (Heap.lt_size e) (I.ok.cab x c hfn hc)))).trans e1⟩
    . by_cases hj : j = i
      . subst hj
        rw [hi] at e1; cases e1
        rw [List.getElem?_set_self hiσ] at e2
        cases e2
        exact ⟨u, r, .inr ⟨.inl hk, c, hc, hc'⟩⟩
      . rw [List.getElem?_set_ne (Ne.symm hj)] at e2
        obtain ⟨u', r', q⟩ := hl j y v' e1 e2 e3
        refine ⟨u', r', ?_⟩
        rcases q with q | ⟨k, c', e, z'⟩
        . exact .inl q
        . refine .inr ⟨k, c', e, z'.sameBut hs ?_⟩
          rintro rfl
          exact hj (qcu hN e1 (I.ok.inj _ _ _ e hc ▸ hi))
    . by_cases hcc : c' = c
      . subst hcc; exact ⟨_, hc'⟩
      . obtain ⟨w2, z2⟩ := I.cell y c' e
        exact ⟨w2, z2.sameBut hs hcc⟩
    . obtain ⟨e, n, ne, nf, d⟩ := I.pin p hp
      refine ⟨(hs.2 p.1 ?_).trans e, n, ne, nf, d⟩
      intro q
      rw [q, hoc] at e
      have q' : oc = p.2 := Option.some.inj e
      exact d w' (by rw [<- q']; exact hocd)
theorem yz {M : Model} {A : Around} {E : Value -> Shared -> Prop} {i : Nat} {x : Str} {v : V} {u : Value} {Q : Unit -> Shared -> Prop} (I : Inv X pins σ H s) (hN : X.N.Nodup) (hi : X.N[i]? = some x) (hx : Loc X.env.scope x) (r : ju v u)
    (h : ∀ s', Inv X pins (σ.set i (some v)) H s' -> Q () s') (hf : X.fn x = true \/ X.env.scope.names.lookup x = some .local := by first | exact .inl rfl | exact .inr rfl | assumption) : wpAny M A (storeName X.env x u) Q E s :=
  qa3 I hN hi hx r (fun s' I' _ => h s' I') hf
theorem Inv.call' {s' : Shared} {ch : List Addr} (I : Inv X pins σ H s) (ho : s'.os = s.os) (u : Un (frs X.stack) ch H H' s.heap s'.heap) (hok : HOk X.prog X.w H' s'.heap) (hg : AllBare s'.gens)
    (hch : ∀ b ∈ ch, (b ∈ X.ex \/ X.s₀.heap.objs.size <= b) /\ b ≠ X.env.locals /\ (∀ x c, X.env.cells.lookup x = some c -> c ≠ b) /\ ∀ p ∈ X.pn ++ pins, p.1 ≠ b) : Inv X pins σ H' s' := by
  obtain ⟨h', g', d', t', o'⟩ := s'
  have e : o' = s.os := ho
  subst e
  exact I.call (g' := g') (t' := t') (d' := d') u hok hg hch
end
abbrev XK := Value -> Option Addr -> Hp -> Prop
abbrev St := List (Option V)
abbrev VK := V -> Hp -> Prop
abbrev TE := St -> Hp -> VK -> Prop
abbrev TT := St -> Hp -> (Bool -> Hp -> Prop) -> Prop
abbrev TA := St -> Hp -> (List V -> Hp -> Prop) -> Prop
structure qdo where
  nx : St -> Hp -> Prop
  rt : VK
  bk : St -> Hp -> Prop := fun _ _ => False
  ct : St -> Hp -> Prop := fun _ _ => False
abbrev TS := qdo -> St -> Hp -> Prop
def EP (X : Cx) (pins : List (Addr × Obj)) (σ : St) (Q : VK) (u : Value) (s' : Shared) : Prop := ∃ v H', Inv X pins σ H' s' /\ ju v u /\ Q v H'
def TP (X : Cx) (pins : List (Addr × Obj)) (σ : St) (Q : Bool -> Hp -> Prop) (b : Bool) (s' : Shared) : Prop := ∃ H', Inv X pins σ H' s' /\ Q b H'
def AP (X : Cx) (pins : List (Addr × Obj)) (σ : St) (Q : List V -> Hp -> Prop) (us : List Value) (s' : Shared) : Prop := ∃ vs H', Inv X pins σ H' s' /\ qQ vs us /\ Q vs H'
def SP (X : Cx) (pins : List (Addr × Obj)) (D : qdo) (f : Flow) (s' : Shared) : Prop :=
  match f with
  | .next => ∃ σ' H', Inv X pins σ' H' s' /\ D.nx σ' H'
  | .brk => ∃ σ' H', Inv X pins σ' H' s' /\ D.bk σ' H'
  | .cont => ∃ σ' H', Inv X pins σ' H' s' /\ D.ct σ' H'
  | .ret u => ∃ v σ' H', Inv X pins σ' H' s' /\ ju v u /\ D.rt v H'
def PE (X : Cx) (e : Expr) (t : TE) : Prop :=
  ∀ (pins : List (Addr × Obj)) (s : Shared) (σ : St) (H : Hp) (Q : VK), Inv X pins σ H s -> t σ H Q -> wpAny (model X.prog X.w) X.A (eval e X.env) (EP X pins σ Q) X.xe s
def PT (X : Cx) (e : Expr) (t : TT) : Prop :=
  ∀ (pins : List (Addr × Obj)) (s : Shared) (σ : St) (H : Hp) (Q : Bool -> Hp -> Prop), Inv X pins σ H s -> t σ H Q -> wpAny (model X.prog X.w) X.A (isTrue e X.env (eval e X.env)) (TP X pins σ Q) X.xe s
def PW (X : Cx) (e : Expr) (t : TT) : Prop :=
  ∀ (whole : Sem Value) (pins : List (Addr × Obj)) (s : Shared) (σ : St) (H : Hp) (Q : Bool -> Hp -> Prop), Inv X pins σ H s -> t σ H Q -> wpAny (model X.prog X.w) X.A (isTrue e X.env whole) (TP X pins σ Q) X.xe s
theorem PW.pt {X : Cx} {e : Expr} {t : TT} (h : PW X e t) : PT X e t := h _
def PA (X : Cx) (es : List Expr) (t : TA) : Prop :=
  ∀ (pos : Pos) (pins : List (Addr × Obj)) (s : Shared) (σ : St) (H : Hp) (Q : List V -> Hp -> Prop), Inv X pins σ H s -> t σ H Q -> wpAny (model X.prog X.w) X.A (spliced (backTo pos (starEach es X.env))) (AP X pins σ Q) X.xe s
def PS (X : Cx) (st : Stmt) (t : TS) : Prop :=
  ∀ (pins : List (Addr × Obj)) (s : Shared) (σ : St) (H : Hp) (D : qdo), Inv X pins σ H s -> t D σ H -> wpAny (model X.prog X.w) X.A (exec st X.env) (SP X pins D) X.xe s
def PSs (X : Cx) (st : List Stmt) (t : TS) : Prop :=
  ∀ (pins : List (Addr × Obj)) (s : Shared) (σ : St) (H : Hp) (D : qdo), Inv X pins σ H s -> t D σ H -> wpAny (model X.prog X.w) X.A (execs st X.env) (SP X pins D) X.xe s
theorem thn {α : Type} {t : Sem α} {Q Q' : α -> Shared -> Prop} {M : Model} {A : Around} {E : Value -> Shared -> Prop} {s : Shared} (h : wpAny M A t Q E s) (hQ : ∀ a s, Q a s -> Q' a s) : wpAny M A t Q' E s := wpAny_mono h hQ fun _ _ x => x
end L2
namespace L2
open PySem PySem.Spec PyProof.Rows
section
variable {X : Cx}
theorem bin {a b : Expr} {ta tb : TE} (ha : PE X a ta) (hb : PE X b tb) {pins : List (Addr × Obj)} {s : Shared} {σ : St} {H : Hp} {R : V -> V -> Hp -> Prop} (I : Inv X pins σ H s) (h : ta σ H fun x H1 => tb σ H1 fun y H2 => R x y H2)
    {α : Type} {Q : α -> Shared -> Prop} {f : Value -> Value -> Sem α}
    (hf : ∀ v u s2 x y H2, Inv X pins σ H2 s2 -> ju x v -> ju y u -> R x y H2 -> wpAny (model X.prog X.w) X.A (f v u) Q X.xe s2) :
    wpAny (model X.prog X.w) X.A (eval a X.env) (fun v s₁ => wpAny (model X.prog X.w) X.A (eval b X.env) (fun u s₂ => wpAny (model X.prog X.w) X.A (f v u) Q X.xe s₂) X.xe s₁) X.xe s := by
  refine thn (ha pins s σ H _ I h) fun v s1 ⟨x, H1, I1, r1, q1⟩ => ?_
  refine thn (hb pins s1 σ H1 _ I1 q1) fun u s2 ⟨y, H2, I2, r2, q2⟩ => ?_
  exact hf v u s2 x y H2 I2 r1 r2 q2
def qmF (i : Nat) : TE := fun σ H Q => ∃ v, σ[i]? = some (some v) /\ Q v H
def tC (v : V) : TE := fun _ H Q => Q v H
theorem uk {i : Nat} {x : Str} {pos : Pos} (hN : X.N[i]? = some x) (hv : Vis X.env.scope x) (hd : (x == ("__debug__" : Str)) = false := by decide) (hcd : (x == ("__classdict__" : Str)) = false := by decide) : PE X (.Name x pos) (qmF i) := by
  intro pins s σ H Q I h
  obtain ⟨v, e, h⟩ := h
  obtain ⟨m, hn, hl⟩ := I.loc
  obtain ⟨u, r, l⟩ := hl i x v hN e hv
  have fin : EP X pins σ Q u s := ⟨v, H, I, r, h⟩
  rcases l with ⟨hk, hm⟩ | ⟨hk, c, hc, hcell⟩
  . exact wpAny_Name (wpAny_loadName_local I.ok.kind hk hn hm fin) hd
  . rcases hk with hk | hk
    . exact wpAny_Name (wpAny_loadName_cell I.ok.kind hk hc hcell fin) hd
    . exact wpAny_Name (wpAny_loadName_free I.ok.kind hk hc hcell fin hcd) hd
theorem qgY {i j pos} : PE X (.Constant (.int i) j pos) (tC (.int i)) := fun _ _ _ H _ I h => wpAny_Constant_int ⟨.int i, H, I.tok _, ⟨_, rfl⟩, h⟩
theorem qlj {b j pos} : PE X (.Constant (.bool b) j pos) (tC (.bl b)) := fun _ _ _ H _ I h => Constant_bool ⟨.bl b, H, I, rfl, h⟩
theorem qjn {j pos} : PE X (.Constant .none j pos) (tC .non) := fun _ _ _ H _ I h => Constant_none ⟨.non, H, I, rfl, h⟩
theorem qjo {x j pos} : PE X (.Constant (.str x) j pos) (tC (.str x)) := fun _ _ _ H _ I h => Calls.Constant_str ⟨.str x, H, I.tok _, ⟨_, rfl⟩, h⟩
def Gl (X : Cx) (x : Str) : Prop := X.env.kindOf x = some .globalImplicit
theorem vJ {E : Value -> Shared -> Prop} {pins : List (Addr × Obj)} {s : Shared} {σ : St} {H : Hp} {x : Str} {u : Value} {pos : Pos} {Q : Value -> Shared -> Prop} (I : Inv X pins σ H s) (hg : Gl X x) (hm : X.mg x = some u) (h : Q u s)
    (hd : (x == ("__debug__" : Str)) = false := by decide) : wpAny (model X.prog X.w) X.A (eval (.Name x pos) X.env) Q E s :=
  Calls.Name_function_global I.ok.kind hg (Calls.loadGlobal_global (by rw [I.ok.glob]; exact I.mod.glob.keeps I.bk) hm h) hd
theorem vk {E : Value -> Shared -> Prop} {pins : List (Addr × Obj)} {s : Shared} {σ : St} {H : Hp} {x : Str} {u : Value} {pos : Pos} {Q : Value -> Shared -> Prop} (I : Inv X pins σ H s) (hg : Gl X x) (hm : X.mg x = none) (hv : bootBuiltins x = some u) (h : Q u s)
    (hn : x ≠ "__name__" := by decide) (hd : (x == ("__debug__" : Str)) = false := by decide) : wpAny (model X.prog X.w) X.A (eval (.Name x pos) X.env) Q E s := by
  obtain ⟨mb, h1, h2⟩ := I.mod.blt
  exact Calls.Name_function_global I.ok.kind hg (Calls.loadGlobal_builtin (by rw [I.ok.glob]; exact I.mod.glob.keeps I.bk) hm (by rw [I.ok.blt]; exact h1.keeps I.bk) ((h2 x hn).trans hv) h) hd
theorem qbW {x : Str} {v : V} {u : Value} {pos : Pos} (hg : Gl X x) (hm : X.mg x = some u) (r : ju v u) (hd : (x == ("__debug__" : Str)) = false := by decide) : PE X (.Name x pos) (tC v) :=
  fun _ _ _ H _ I h => vJ I hg hm ⟨v, H, I, r, h⟩ hd
theorem qd6 {x : Str} {v : V} {u : Value} {pos : Pos} (hg : Gl X x) (hm : X.mg x = none) (hv : bootBuiltins x = some u) (r : ju v u) (hn : x ≠ "__name__" := by decide) (hd : (x == ("__debug__" : Str)) = false := by decide) : PE X (.Name x pos) (tC v) :=
  fun _ _ _ H _ I h => vk I hg hm hv ⟨v, H, I, r, h⟩ hn hd
variable {a b : Expr} {ta tb : TE} {pos : Pos}
def PC (X : Cx) (op : CmpOp) (a b : Expr) (t : TE) : Prop :=
  ∀ (pins : List (Addr × Obj)) (s : Shared) (σ : St) (H : Hp) (Q : VK), Inv X pins σ H s -> t σ H Q ->
    wpAny (model X.prog X.w) X.A (eval a X.env) (fun v s₁ => wpAny (model X.prog X.w) X.A (eval b X.env) (fun u s₂ => wpAny (model X.prog X.w) X.A (compareOp op v u) (EP X pins σ Q) X.xe s₂) X.xe s₁) X.xe s
theorem qfQ (b : Expr) {op : CmpOp} (h : op ≠ .In) (h2 : op ≠ .NotIn) : behindInMarks op b = false := by
  have e1 : (op == CmpOp.In) = false := by cases op <;> first | rfl | exact absurd rfl h
  have e2 : (op == CmpOp.NotIn) = false := by cases op <;> first | rfl | exact absurd rfl h2
  cases b <;> simp [behindInMarks, e1, e2]
def tB (t : TE) : TT := fun σ H Q => t σ H fun x H1 => ∃ c, x = .bl c /\ Q c H1
theorem ql7 {op : CmpOp} {t : TE} (h : PC X op a b t) (h1 : behindInMarks op b = false := by first | exact qfQ _ (by decide) (by decide) | rfl) : PT X (.Compare a [op] [b] pos) (tB t) := by
  intro pins s σ H Q I hw
  refine wpAny_isTrue_Compare1 (thn (h pins s σ H _ I hw) fun v s1 h1 => thn h1 fun u s2 h2 => thn h2 fun c s3 ⟨x, H1, I1, r1, q1⟩ => ?_) h1
  obtain ⟨d, rfl, q⟩ := q1
  cases r1
  exact wpAny_truthy_bool ⟨H1, I1, q⟩
theorem qjp {e : Expr} {t : TE} (h : PE X e t) (he : ∀ whole, isTrue e X.env whole = (do let v <- whole; standAt e.pos; holding [v] (truthy v)) := by intro _; rfl) : PT X e (tB t) := by
  intro pins s σ H Q I hw
  refine isTrue_plain (thn (h pins s σ H _ I hw) fun v s1 ⟨x, H1, I1, r1, q1⟩ => ?_) (he _)
  obtain ⟨d, rfl, q⟩ := q1
  cases r1
  exact wpAny_truthy_bool ⟨H1, I1, q⟩
variable {tA tB' : TT} {zQ : List Expr}
def qmG (t u : TT) : TT := fun σ H Q => t σ H fun c H1 => if c = true then u σ H1 Q else Q false H1
def tOr (t u : TT) : TT := fun σ H Q => t σ H fun c H1 => if c = true then Q true H1 else u σ H1 Q
def qmH (t : TT) : TT := fun σ H Q => t σ H fun c H1 => Q (!c) H1
theorem qhN (ha : PT X a tA) : PW X (.BoolOp .And [a] pos) tA := by
  intro wh pins s σ H Q I h
  refine isTrue_and (thn (ha pins s σ H Q I h) fun c s1 e => ?_)
  cases c with
  | true => exact isTrue_and_nil e
  | false => exact e
theorem qjq (ha : PT X a tA) : PW X (.BoolOp .Or [a] pos) tA := by
  intro wh pins s σ H Q I h
  refine isTrue_or (thn (ha pins s σ H Q I h) fun c s1 e => ?_)
  cases c with
  | false => exact isTrue_or_nil e
  | true => exact e
theorem qjr (ha : PT X a tA) (hb : PW X (.BoolOp .And (b :: zQ) pos) tB') : PW X (.BoolOp .And (a :: b :: zQ) pos) (qmG tA tB') := by
  intro wh pins s σ H Q I h
  refine isTrue_and (thn (ha pins s σ H _ I h) fun c s1 ⟨H1, I1, q1⟩ => ?_)
  cases c with
  | true => exact hb wh pins s1 σ H1 Q I1 q1
  | false => exact ⟨H1, I1, q1⟩
theorem qlk (ha : PT X a tA) (hb : PW X (.BoolOp .Or (b :: zQ) pos) tB') : PW X (.BoolOp .Or (a :: b :: zQ) pos) (tOr tA tB') := by
  intro wh pins s σ H Q I h
  refine isTrue_or (thn (ha pins s σ H _ I h) fun c s1 ⟨H1, I1, q1⟩ => ?_)
  cases c with
  | true => exact ⟨H1, I1, q1⟩
  | false => exact hb wh pins s1 σ H1 Q I1 q1
theorem qjs (ha : PT X a tA) : PT X (.UnaryOp .Not a pos) (qmH tA) := by
  intro pins s σ H Q I h
  exact isTrue_not (ha pins s σ H (fun c H1 => Q (!c) H1) I h)
def qll (ta tb : TE) : TE := fun σ H Q => ta σ H fun x H1 => ∃ c, x = .bl c /\ if c = true then tb σ H1 Q else Q (.bl false) H1
def qmI (ta tb : TE) : TE := fun σ H Q => ta σ H fun x H1 => ∃ c, x = .bl c /\ if c = true then Q (.bl true) H1 else tb σ H1 Q
def qlm (ta : TE) : TE := fun σ H Q => ta σ H fun x H1 => ∃ c, x = .bl c /\ Q (.bl (!c)) H1
theorem qjt {op} {t : TE} (h : PE X a t) : PE X (.BoolOp op [a] pos) t := fun pins s σ H Q I hw => BoolOp_one (h pins s σ H Q I hw)
theorem qju (ha : PE X a ta) (hb : PE X (.BoolOp .And (b :: zQ) pos) tb) : PE X (.BoolOp .And (a :: b :: zQ) pos) (qll ta tb) := by
  intro pins s σ H Q I h
  refine BoolOp_and (thn (ha pins s σ H _ I h) fun v s1 ⟨x, H1, I1, r1, q1⟩ => ?_)
  obtain ⟨c, rfl, q1⟩ := q1
  cases r1
  refine wpAny_truthy_bool ?_
  cases c with
  | true => exact hb pins s1 σ H1 Q I1 q1
  | false => exact ⟨.bl false, H1, I1, rfl, q1⟩
theorem qln (ha : PE X a ta) (hb : PE X (.BoolOp .Or (b :: zQ) pos) tb) : PE X (.BoolOp .Or (a :: b :: zQ) pos) (qmI ta tb) := by
  intro pins s σ H Q I h
  refine BoolOp_or (thn (ha pins s σ H _ I h) fun v s1 ⟨x, H1, I1, r1, q1⟩ => ?_)
  obtain ⟨c, rfl, q1⟩ := q1
  cases r1
  refine wpAny_truthy_bool ?_
  cases c with
  | false => exact hb pins s1 σ H1 Q I1 q1
  | true => exact ⟨.bl true, H1, I1, rfl, q1⟩
theorem qjv (ha : PE X a ta) : PE X (.UnaryOp .Not a pos) (qlm ta) := by
  intro pins s σ H Q I h
  refine UnaryOp_ (thn (ha pins s σ H _ I h) fun v s1 ⟨x, H1, I1, r1, q1⟩ => ?_)
  obtain ⟨c, rfl, q1⟩ := q1
  cases r1
  exact not_of (wpAny_truthy_bool ⟨.bl (!c), H1, I1, rfl, q1⟩)
def tIf (t : TT) (ta tb : TE) : TE := fun σ H Q => t σ H fun c H1 => if c = true then ta σ H1 Q else tb σ H1 Q
theorem qfR {c : Expr} (hc : PT X c tA) (ha : PE X a ta) (hb : PE X b tb) : PE X (.IfExp c a b pos) (tIf tA ta tb) := by
  intro pins s σ H Q I h
  refine wpAny_IfExp (thn (hc pins s σ H _ I h) fun d s1 ⟨H1, I1, q1⟩ => ?_)
  cases d with
  | true => exact ha pins s1 σ H1 Q I1 q1
  | false => exact hb pins s1 σ H1 Q I1 q1
end
end L2
namespace L2
open PySem PySem.Spec PyProof.Rows
def SqL (K : PySem.W.Frag) (H : Hp) (a : Addr) (xs : List V) : Prop :=
  Rd H a (.lst xs) \/
    ∃ (o : Obj) (its : Array Value) (n : Nat), K.lookup a = some o /\ o.cls = .type "list" /\ o.dict = none /\ o.data = .seq its n /\ its.size <= sizeLine /\ qQ xs its.toList
def SqT (K : PySem.W.Frag) (H : Hp) (a : Addr) (xs : List V) : Prop :=
  Rd H a (.tup xs) \/
    ∃ (o : Obj) (its : Array Value) (n : Nat), K.lookup a = some o /\ o.cls = .type "tuple" /\ o.data = .seq its n /\ its.size <= sizeLine /\ qQ xs its.toList
def qmJ : Value -> Option V
  | .none => some .non
  | .bool b => some (.bl b)
  | .int i _ => some (.int i)
  | .str x _ => some (.str x)
  | .bytes b _ => some (.byt b)
  | .float b _ => some (.flt b)
  | .ref a => some (.ref a)
  | .type n => some (.ty n)
  | _ => none
theorem ju.abs {x : V} {u : Value} (r : ju x u) : qmJ u = some x := by
  cases x with
  | non => cases r; rfl
  | bl _ => cases r; rfl
  | int _ => obtain ⟨t, rfl⟩ := r; rfl
  | str _ => obtain ⟨t, rfl⟩ := r; rfl
  | byt _ => obtain ⟨t, rfl⟩ := r; rfl
  | flt _ => obtain ⟨t, rfl⟩ := r; rfl
  | ref _ => cases r; rfl
  | ty _ => cases r; rfl
theorem ju.inj {x y : V} {u : Value} (r : ju x u) (q : ju y u) : x = y := Option.some.inj (r.abs.symm.trans q.abs)
theorem qQ.inj : ∀ {xs ys : List V} {us : List Value}, qQ xs us -> qQ ys us -> xs = ys
  | _, _, _, .nil, .nil => rfl
  | _, _, _, .cons r t, .cons r' t' => by rw [r.inj r', qQ.inj t t']
section
variable {X : Cx} {pins : List (Addr × Obj)} {σ : St} {H : Hp} {s : Shared} {a : Addr} {xs ys : List V}
theorem SqL.of {K : PySem.W.Frag} (h : H a = some (.lst xs)) : SqL K H a xs := .inl (.inl h)
theorem Inv.list (I : Inv X pins σ H s) (h : SqL X.K H a xs) : ∃ its : List Value, qQ xs its /\ PlainL s.heap a its.toArray /\ xs.length <= sizeLine := by
  rcases h with h | ⟨o, its, n, hk, hc, hd, hs, hz, r⟩
  . obtain ⟨z, its, n, r, e⟩ := h.ok I.hok
    exact ⟨its, r, ⟨_, n, e, rfl, rfl, rfl⟩, z⟩
  . refine ⟨its.toList, r, ⟨o, n, I.kIn a o hk, hc, hd, by simpa using hs⟩, ?_⟩
    have e := r.length
    simp only [Array.length_toList] at e
    omega
theorem Inv.tuple (I : Inv X pins σ H s) (h : SqT X.K H a xs) : ∃ its : List Value, qQ xs its /\ IsTup s.heap a its.toArray /\ xs.length <= sizeLine := by
  rcases h with h | ⟨o, its, n, hk, hc, hs, hz, r⟩
  . obtain ⟨z, its, r, p⟩ := h.ok I.hok
    exact ⟨its, r, p, z⟩
  . refine ⟨its.toList, r, ⟨o, I.kIn a o hk, hc, n, by simpa using hs⟩, ?_⟩
    have e := r.length
    simp only [Array.length_toList] at e
    omega
theorem Inv.list_inj (I : Inv X pins σ H s) (h : SqL X.K H a xs) (h' : SqL X.K H a ys) : xs = ys := by
  obtain ⟨its, r, ⟨o, n, e, _, _, d⟩, _⟩ := I.list h
  obtain ⟨its', r', ⟨o', n', e', _, _, d'⟩, _⟩ := I.list h'
  rw [e] at e'; cases e'
  rw [d] at d'
  injection d' with d1 _
  have : its = its' := by simpa using congrArg Array.toList d1
  subst this
  exact r.inj r'
theorem Inv.tuple_inj (I : Inv X pins σ H s) (h : SqT X.K H a xs) (h' : SqT X.K H a ys) : xs = ys := by
  obtain ⟨its, r, ⟨o, e, _, n, d⟩, _⟩ := I.tuple h
  obtain ⟨its', r', ⟨o', e', _, n', d'⟩, _⟩ := I.tuple h'
  rw [e] at e'; cases e'
  rw [d] at d'
  injection d' with d1 _
  have : its = its' := by simpa using congrArg Array.toList d1
  subst this
  exact r.inj r'
end
abbrev Cx.wish (X : Cx) (E : Value -> Shared -> Prop) : Cx := { X with xe := E }
abbrev Cx.nox (X : Cx) : Cx := X.wish fun _ _ => False
theorem Cx.Ok.wish {X : Cx} (ok : X.Ok) (E : Value -> Shared -> Prop) : (X.wish E).Ok :=
  ⟨ok.mod, ok.kind, ok.glob, ok.blt, ok.above, ok.inj, ok.has, ok.cab, ok.hd, ok.frames, ok.stk, ok.exf, ok.bs, ok.bsz, ok.noex, ok.exfs, ok.funs, ok.frf⟩
theorem Cx.Ok.unwish {X : Cx} {E : Value -> Shared -> Prop} (ok : (X.wish E).Ok) : X.Ok :=
  ⟨ok.mod, ok.kind, ok.glob, ok.blt, ok.above, ok.inj, ok.has, ok.cab, ok.hd, ok.frames, ok.stk, ok.exf, ok.bs, ok.bsz, ok.noex, ok.exfs, ok.funs, ok.frf⟩
section
variable {X : Cx} {pins : List (Addr × Obj)} {σ : St} {H : Hp} {s : Shared} {E : Value -> Shared -> Prop}
theorem Inv.wish (I : Inv X pins σ H s) (E : Value -> Shared -> Prop) : Inv (X.wish E) pins σ H s := ⟨I.ok.wish E, I.os, I.bare, I.base, I.loc, I.cell, I.free, I.freeC, I.pin, I.hok, I.len⟩
theorem Inv.unwish (I : Inv (X.wish E) pins σ H s) : Inv X pins σ H s := ⟨I.ok.unwish, I.os, I.bare, I.base, I.loc, I.cell, I.free, I.freeC, I.pin, I.hok, I.len⟩
theorem SP.unwish {D : qdo} {f : Flow} {s' : Shared} (h : SP (X.wish E) pins D f s') : SP X pins D f s' := by
  cases f with
  | next => obtain ⟨σ', H', I, q⟩ := h; exact ⟨σ', H', I.unwish, q⟩
  | brk => obtain ⟨σ', H', I, q⟩ := h; exact ⟨σ', H', I.unwish, q⟩
  | cont => obtain ⟨σ', H', I, q⟩ := h; exact ⟨σ', H', I.unwish, q⟩
  | ret u => obtain ⟨v, σ', H', I, r, q⟩ := h; exact ⟨v, σ', H', I.unwish, r, q⟩
theorem PE.nox {e : Expr} {t : TE} (h : PE X.nox e t) : PE X e t := fun pins s σ H Q I hw =>
  wpAny_mono (h pins s σ H Q (I.wish _) hw) (fun _ _ ⟨v, H', I', r, q⟩ => ⟨v, H', I'.unwish, r, q⟩) fun _ _ z => False.elim z
theorem PT.nox {e : Expr} {t : TT} (h : PT X.nox e t) : PT X e t := fun pins s σ H Q I hw =>
  wpAny_mono (h pins s σ H Q (I.wish _) hw) (fun _ _ ⟨H', I', q⟩ => ⟨H', I'.unwish, q⟩) fun _ _ z => False.elim z
theorem PSs.nox {st : List Stmt} {t : TS} (h : PSs X.nox st t) : PSs X st t := fun pins s σ H D I hw =>
  wpAny_mono (h pins s σ H D (I.wish _) hw) (fun _ _ q => q.unwish) fun _ _ z => False.elim z
end
section
variable {X : Cx} {st : Stmt} {zQ : List Stmt} {t u : TS} {e : Expr} {te : TE} {pos : Pos}
def qlo : TS := fun D σ H => D.nx σ H
def qmK (t u : TS) : TS := fun D σ H => t { D with nx := u D } σ H
theorem qhO : PSs X [] qlo := fun _ _ σ H _ I h => wpAny_execs_nil ⟨σ, H, I, h⟩
theorem qfS (h1 : PS X st t) (h2 : PSs X zQ u) : PSs X (st :: zQ) (qmK t u) := by
  intro pins s σ H D I h
  refine wpAny_execs_cons (thn (h1 pins s σ H { D with nx := u D } I h) fun f s1 q => ?_)
  cases f with
  | next =>
    obtain ⟨σ', H', I', q⟩ := q
    exact h2 pins s1 σ' H' D I' q
  | ret v => exact q
  | brk => exact q
  | cont => exact q
theorem qbX (h1 : PS X st t) : PSs X [st] t := by
  intro pins s σ H D I h
  refine wpAny_execs_cons (thn (h1 pins s σ H D I h) fun f s1 q => ?_)
  cases f with
  | next => exact wpAny_execs_nil q
  | ret v => exact q
  | brk => exact q
  | cont => exact q
theorem Inv.quiet {pins : List (Addr × Obj)} {σ : St} {H : Hp} {s : Shared} (I : Inv X pins σ H s) : interactive X.env = false := by simp [interactive, I.ok.kind]
def qlp (te : TE) : TS := fun D σ H => te σ H fun _ H1 => D.nx σ H1
theorem qhP (he : PE X e te) (hs : swapsWith e none pos.line X.env = pure false := by rfl) : PS X (.Expr e pos) (qlp te) := by
  intro pins s σ H D I h
  exact wpAny_Expr_any (thn (he pins s σ H _ I h) fun v s1 ⟨x, H1, I1, r1, q1⟩ => ⟨σ, H1, I1, q1⟩) I.quiet hs
def qmL (te : TE) : TS := fun D σ H => te σ H D.rt
theorem qcv (he : PE X e te) : PS X (.Return (some e) pos) (qmL te) := by
  intro pins s σ H D I h
  exact wpAny_Return_some (thn (he pins s σ H _ I h) fun v s1 ⟨x, H1, I1, r1, q1⟩ => ⟨x, σ, H1, I1, r1, q1⟩)
def qmM (c : TT) (t u : TS) : TS := fun D σ H => c σ H fun b H1 => if b = true then t D σ H1 else u D σ H1
theorem qlq {c : Expr} {a b : List Stmt} {tc : TT} (hc : PT X c tc) (ha : PSs X a t) (hb : PSs X b u) : PS X (.If c a b pos) (qmM tc t u) := by
  intro pins s σ H D I h
  refine wpAny_If (thn (hc pins s σ H _ I h) fun d s1 ⟨H1, I1, q1⟩ => ?_)
  cases d with
  | true => exact ha pins s1 σ H1 D I1 q1
  | false => exact hb pins s1 σ H1 D I1 q1
end
abbrev TG := V -> St -> Hp -> (St -> Hp -> Prop) -> Prop
abbrev TGs := List V -> St -> Hp -> (St -> Hp -> Prop) -> Prop
def PG (X : Cx) (target : Expr) (t : TG) : Prop :=
  ∀ (pins : List (Addr × Obj)) (s : Shared) (σ : St) (H : Hp) (v : V) (u : Value) (Q : St -> Hp -> Prop), Inv X pins σ H s -> ju v u -> t v σ H Q ->
    wpAny (model X.prog X.w) X.A (assign target X.env u) (fun _ s' => ∃ σ' H', Inv X pins σ' H' s' /\ Q σ' H') X.xe s
def PGs (X : Cx) (ts : List Expr) (t : TGs) : Prop :=
  ∀ (pins : List (Addr × Obj)) (s : Shared) (σ : St) (H : Hp) (vs : List V) (us : List Value) (Q : St -> Hp -> Prop), Inv X pins σ H s -> qQ vs us -> t vs σ H Q ->
    wpAny (model X.prog X.w) X.A (assignInOrder ((assignEach ts X.env).map (·.2)) us) (fun _ s' => ∃ σ' H', Inv X pins σ' H' s' /\ Q σ' H') X.xe s
abbrev qlr := V -> V -> V -> Hp -> (Hp -> Prop) -> Prop
def ql8 (X : Cx) (t : qlr) : Prop :=
  ∀ (pins : List (Addr × Obj)) (s : Shared) (σ : St) (H : Hp) (o i v : V) (ov iv u : Value) (Q : Hp -> Prop), Inv X pins σ H s -> ju o ov -> ju i iv -> ju v u -> t o i v H Q ->
    wpAny (model X.prog X.w) X.A (setItem ov iv u) (fun _ s' => ∃ H', Inv X pins σ H' s' /\ Q H') X.xe s
section
variable {X : Cx} {pos : Pos}
def qjw (i : Nat) : TG := fun v σ H Q => Q (σ.set i (some v)) H
theorem qhQ {i : Nat} {x : Str} (hN : X.N.Nodup) (hi : X.N[i]? = some x) (hx : Loc X.env.scope x) (hf : X.fn x = true \/ X.env.scope.names.lookup x = some .local := by first | exact .inl rfl | exact .inr rfl | assumption) : PG X (.Name x pos) (qjw i) := by
  intro pins s σ H v u Q I r h
  exact wpAny_assign_Name (yz I hN hi hx r (fun s' I' => ⟨_, H, I', h⟩) hf)
def qmN : TGs := fun vs σ H Q => vs = [] /\ Q σ H
def qls (t : TG) (u : TGs) : TGs := fun vs σ H Q => ∃ v r, vs = v :: r /\ t v σ H fun σ' H' => u r σ' H' Q
theorem qhR : PGs X [] qmN := by
  intro pins s σ H vs us Q I r h
  obtain ⟨e, h⟩ := h
  subst e
  cases r
  exact assignInOrder_nil ⟨σ, H, I, h⟩
theorem qfT {e : Expr} {es : List Expr} {t : TG} {u : TGs} (h1 : PG X e t) (h2 : PGs X es u)
    (hs : (assignEach (e :: es) X.env).map (·.2) = assign e X.env :: (assignEach es X.env).map (·.2) := by rfl) : PGs X (e :: es) (qls t u) := by
  intro pins s σ H vs us Q I r h
  obtain ⟨v, vr, e1, h⟩ := h
  subst e1
  cases r with
  | cons r rr =>
    rw [hs]
    refine assignInOrder_cons (thn (h1 pins s σ H _ _ _ I r h) fun _ s1 ⟨σ1, H1, I1, q1⟩ => ?_)
    exact h2 pins s1 σ1 H1 _ _ Q I1 rr q1
def qmO (K : PySem.W.Frag) (n : Nat) (t : TGs) : TG := fun v σ H Q => ∃ a xs, v = .ref a /\ SqT K H a xs /\ xs.length = n /\ t xs σ H Q
theorem qjx {es : List Expr} {k : Nat} {t : TGs} {n : Nat} (hc : X.calm = true) (h : PGs X es t)
    (hn : (assignEach es X.env).length = n := by rfl) (hst : (assignEach es X.env).findIdx? (·.1) = none := by rfl) : PG X (.Tuple es k pos) (qmO X.K n t) := by
  intro pins s σ H v u Q I r hw
  obtain ⟨a, xs, e1, hq, hl, hw⟩ := hw
  subst e1
  cases r
  obtain ⟨its, rv, ht, hz⟩ := I.tuple hq
  refine assign_Tuple_tuple (I.ok.hd hc) ht (by simp [hn, <- hl, rv.length]) hst fun h' hx => ?_
  have I1 : Inv X pins σ H { s with heap := h' } := I.kept (t' := s.toks) fun b o e => hx b o (Nat.ne_of_lt (Heap.lt_size e)) e
  exact h pins _ σ H xs _ Q I1 (by simpa using rv) hw
def qmP (to ti : TE) (t : qlr) : TG := fun v σ H Q => to σ H fun o H1 => ti σ H1 fun i H2 => t o i v H2 fun H3 => Q σ H3
theorem qjy {o i : Expr} {to ti : TE} {t : qlr} (ho : PE X o to) (hi : PE X i ti) (hs : ql8 X t)
    (ha : ∀ v, assign (.Subscript o i pos) X.env v = (do
      let ov <- holding [v] (eval o X.env)
      let iv <- holding [v, ov] (eval i X.env)
      standAt pos
      holding [v, ov, iv] (setItem ov iv v)
      release [v, ov, iv] []) := by intro _; rfl) : PG X (.Subscript o i pos) (qmP to ti t) := by
  intro pins s σ H v u Q I r h
  rw [ha]
  refine wpAny_bind (wpAny_holding (thn (ho pins s σ H _ I h) fun ov s1 ⟨x, H1, I1, r1, q1⟩ => ?_))
  refine wpAny_bind (wpAny_holding (thn (hi pins s1 σ H1 _ I1 q1) fun iv s2 ⟨y, H2, I2, r2, q2⟩ => ?_))
  refine wpAny_bind (wpAny_standAt (wpAny_bind (wpAny_holding (thn (hs pins s2 σ H2 x y v ov iv u _ I2 r1 r2 r q2) fun _ s3 ⟨H3, I3, q3⟩ => ?_))))
  exact wpAny_release ⟨σ, H3, I3, q3⟩
def ql9 (te : TE) (g : TG) : TS := fun D σ H => te σ H fun x H1 => g x σ H1 D.nx
theorem qgZ {tg e : Expr} {te : TE} {g : TG} (he : PE X e te) (hg : PG X tg g) (hs : swapsWithSole [tg] e pos.line X.env = pure false := by rfl) (hw : swappedStores [tg] e X.env = pure none := by rfl)
    (h1 : (assignEach [tg] X.env).map (·.2) = [assign tg X.env] := by rfl) : PS X (.Assign [tg] e pos) (ql9 te g) := by
  intro pins s σ H D I h
  refine wpAny_Assign_stores (thn (he pins s σ H _ I h) fun v s1 ⟨x, H1, I1, r1, q1⟩ => ?_) hs hw
  rw [h1]
  exact thn (hg pins s1 σ H1 x v _ I1 r1 q1) fun _ s2 q => q
theorem qd7 {i : Nat} {x : Str} {e : Expr} {te : TE} {pos' : Pos} (hN : X.N.Nodup) (hi : X.N[i]? = some x) (hx : Loc X.env.scope x) (he : PE X e te) (hs : swapsWith e (some (.Name x pos')) pos.line X.env = pure false := by rfl) (hf : X.fn x = true \/ X.env.scope.names.lookup x = some .local := by first | exact .inl rfl | exact .inr rfl | assumption) :
    PS X (.Assign [.Name x pos'] e pos) (ql9 te (qjw i)) := by
  intro pins s σ H D I h
  refine wpAny_Assign_Name (thn (he pins s σ H _ I h) fun v s1 ⟨y, H1, I1, r1, q1⟩ => ?_) hs
  exact yz I1 hN hi hx r1 (fun s2 I2 => ⟨_, H1, I2, q1⟩) hf
def qmQ (i j : Nat) (ta : TA) : TS := fun D σ H => ta σ H fun vs H1 => ∃ v w, vs = [v, w] /\ D.nx ((σ.set i (some v)).set j (some w)) H1
theorem qjz {i j : Nat} {x y : Str} {a b : Expr} {ta : TA} {px py pt : Pos} {kt k2 pt2} (hc : X.calm = true) (hN : X.N.Nodup) (hi : X.N[i]? = some x) (hj : X.N[j]? = some y) (hij : i ≠ j)
    (hx : X.env.scope.names.lookup x = some .local) (hy : X.env.scope.names.lookup y = some .local) (ha : PA X [a, b] ta)
    (hw : swappedStores [.Tuple [.Name x px, .Name y py] kt pt] (.Tuple [a, b] k2 pt2) X.env = pure (some [x, y]))
    (hs : swapsWithSole [.Tuple [.Name x px, .Name y py] kt pt] (.Tuple [a, b] k2 pt2) pos.line X.env = pure false := by rfl) :
    PS X (.Assign [.Tuple [.Name x px, .Name y py] kt pt] (.Tuple [a, b] k2 pt2) pos) (qmQ i j ta) := by
  intro pins s σ H D I h
  rw [exec_Assign_arm]
  refine wpAny_bind (wpAny_standAt ?_)
  rw [hs]
  refine wpAny_bind (wpAny_pure ?_)
  rw [if_neg (by decide)]
  refine wpAny_bind (Tuple_ (thn (ha _ pins s σ H _ I h) fun us s1 ⟨vs, H1, I1, r1, q1⟩ => ?_))
  obtain ⟨v, w, e1, q1⟩ := q1
  subst e1
  obtain ⟨u1, u2, rfl, rv, rw'⟩ : ∃ u1 u2, us = [u1, u2] /\ ju v u1 /\ ju w u2 := by
    cases r1 with
    | cons p q =>
      cases q with
      | cons p' q' =>
        cases q'
        exact ⟨_, _, rfl, p, p'⟩
  refine wpAny_newObj_type ?_ (by show 2 <= sizeLine; decide)
  have I2 : Inv X pins σ H1 { s1 with heap := s1.heap.push { cls := .type "tuple", data := .seq [u1, u2].toArray } } := I1.kept (t' := s1.toks) fun b o e => Heap.get?_push_of_some _ e
  rw [hw]
  refine wpAny_bind (wpAny_pure ?_)
  show wpAny (model X.prog X.w) X.A (do rule "assign.swapped-stores"; let items <- unpackItems (.ref s1.heap.objs.size) 2 none; assignInOrder [fun v => bindName X.env y v, fun v => bindName X.env x v] items.reverse; pure Flow.next) _ _ _
  refine wpAny_bind (wpAny_rule (wpAny_bind (unpackItems_tuple (items := #[u1, u2]) (I.ok.hd hc) (IsTup.new s1.heap _) fun h' hx' => ?_)))
  have I3 := I2.kept (h' := h') (t' := s1.toks) fun b o e => hx' b o (Nat.ne_of_lt (Heap.lt_size e)) e
  show wpAny _ _ (assignInOrder [fun v => bindName X.env y v, fun v => bindName X.env x v] [u2, u1] >>= fun _ => pure Flow.next) _ _ _
  refine wpAny_bind (assignInOrder_cons (wpAny_bindName (yz I3 hN hj (.inl hy) rw' (fun s2 I4 => ?_) (.inr hy))))
  refine assignInOrder_cons (wpAny_bindName (yz I4 hN hi (.inl hx) rv (fun s3 I5 => assignInOrder_nil (wpAny_pure ?_)) (.inr hx)))
  rw [List.set_comm _ _ (Ne.symm hij)] at I5
  exact ⟨_, H1, I5, q1⟩
end
section
variable {X : Cx} {pos : Pos}
def qjA (c : TT) (tb : TS) : TS := fun D σ H => ∃ W : Nat -> St -> Hp -> Prop, (∃ m, W m σ H) /\ ∀ m σ H, W m σ H ->
  c σ H fun b H1 => if b = true then ∃ N : St -> Hp -> Prop, (∀ σ' H', N σ' H' -> ∃ m', m' < m /\ W m' σ' H') /\ tb { D with nx := N, ct := N, bk := D.nx } σ H1 else D.nx σ H1
theorem qfU {c : Expr} {body : List Stmt} {tc : TT} {tb : TS} (hp : PassesOwn (model X.prog X.w) X.A X.env X.xe) (hc : PT X c tc) (hb : PSs X body tb) : PS X (.While c body [] pos) (qjA tc tb) := by
  intro pins s σ H D I h
  obtain ⟨W, ⟨m0, w0⟩, turn⟩ := h
  refine wpAny_While (codeAny_whileLoop (fun n s' => ∃ σ' H', Inv X pins σ' H' s' /\ W n σ' H') ?_ m0 ⟨σ, H, I, w0⟩)
  rintro n s1 ⟨σ1, H1, I1, w1⟩
  refine wpAny_passesOwn hp (thn (hc pins s1 σ1 H1 _ I1 (turn n σ1 H1 w1)) fun b s2 ⟨H2, I2, q2⟩ => ?_)
  cases b with
  | true =>
    obtain ⟨N, hN, q2⟩ := q2
    rw [if_pos rfl]
    refine wpAny_passesOwn hp (thn (hb pins s2 σ1 H2 _ I2 q2) fun f s3 q3 => ?_)
    cases f with
    | next =>
      obtain ⟨σ3, H3, I3, n3⟩ := q3
      obtain ⟨m', hm, w3⟩ := hN σ3 H3 n3
      exact ⟨m', hm, σ3, H3, I3, w3⟩
    | cont =>
      obtain ⟨σ3, H3, I3, n3⟩ := q3
      obtain ⟨m', hm, w3⟩ := hN σ3 H3 n3
      exact ⟨m', hm, σ3, H3, I3, w3⟩
    | brk => exact q3
    | ret v => exact q3
  | false =>
    rw [if_neg Bool.false_ne_true]
    exact wpAny_execs_nil ⟨σ1, H2, I2, q2⟩
end
structure It where
  go : Nat -> Hp -> Prop
  yld : Nat -> Hp -> V -> Hp -> Prop
  stop : Nat -> Hp -> Prop
def qag (X : Cx) (pins : List (Addr × Obj)) (H : Hp) (b : Addr) : Prop :=
  H b = none /\ b ≠ X.env.locals /\ b ∉ X.fs /\ (b ∈ X.ex \/ X.s₀.heap.objs.size <= b) /\ (∀ x c, X.env.cells.lookup x = some c -> c ≠ b) /\ ∀ p ∈ X.pn ++ pins, p.1 ≠ b
theorem Inv.fpOk {X : Cx} {pins : List (Addr × Obj)} {σ : St} {H H' : Hp} {s : Shared} {b : Addr} (I : Inv X pins σ H s) (hb : s.heap.objs.size <= b) (hn : H' b = none) : qag X pins H' b := by
  refine ⟨hn, Nat.ne_of_gt (Nat.lt_of_lt_of_le I.lt hb), I.nofs hb, .inr (Nat.le_trans I.sz hb), fun x c e z => ?_, fun p hp z => ?_⟩
  . obtain ⟨v, q⟩ := I.cell x c e
    exact absurd (Nat.lt_of_lt_of_le q.lt (by rw [z]; exact hb)) (Nat.lt_irrefl _)
  . exact absurd (Nat.lt_of_lt_of_le (Heap.lt_size (I.pin p hp).1) (by rw [z]; exact hb)) (Nat.lt_irrefl _)
structure qi9 (P : Program) (w : World) (K : PySem.W.Frag) (tg : Expr) (J : It) (fp : List Addr) (it : Addr) (tn : Nat -> Heap -> Prop) : Prop where
  mem : it ∈ fp
  obj : ∀ i h, tn i h -> ∀ b ∈ fp, ∃ o, h.get? b = some o /\ ∀ v, o.data ≠ .cell v
  keep : ∀ i h h', tn i h -> (∀ b ∈ fp, ∀ o, h.get? b = some o -> h'.get? b = some o) -> tn i h'
  item : ∀ (X : Cx), X.prog = P -> X.w = w -> X.K = K -> X.calm = true -> ∀ (i : Nat) (pins : List (Addr × Obj)) (s : Shared) (σ : St) (H : Hp) (E : Value -> Shared -> Prop), Inv X pins σ H s -> (∀ b ∈ fp, qag X pins H b) -> tn i s.heap -> J.go i H ->
    wpAny (model P w) X.A (pyNext (.ref it)) (fun r s1 => ∃ u, r = some u /\
      wpAny (model P w) X.A (letOwnedTupleGo tg (.ref it) u) (fun _ s2 => ∃ x H', Inv X pins σ H' s2 /\ ju x u /\ J.yld i H x H' /\ tn (i + 1) s2.heap /\ ∀ b ∈ fp, H' b = none) E s1) E s
  done : ∀ (X : Cx), X.prog = P -> X.w = w -> X.K = K -> X.calm = true -> ∀ (i : Nat) (pins : List (Addr × Obj)) (s : Shared) (σ : St) (H : Hp) (E : Value -> Shared -> Prop), Inv X pins σ H s -> (∀ b ∈ fp, qag X pins H b) -> tn i s.heap -> J.stop i H ->
    wpAny (model P w) X.A (pyNext (.ref it)) (fun r s1 => r = none /\ Inv X pins σ H s1) E s
  self : ∀ (A : Around) (i : Nat) (s : Shared) (Q : Value -> Shared -> Prop) (E : Value -> Shared -> Prop), tn i s.heap -> Q (.ref it) s -> wpAny (model P w) A (pyIter (.ref it)) Q E s
abbrev TI := St -> Hp -> (It -> Hp -> Prop) -> Prop
def PIE (X : Cx) (pins : List (Addr × Obj)) (σ : St) (tg : Expr) (R : It -> Hp -> Prop) (itv : Value) (s2 : Shared) : Prop :=
  ∃ (it : Addr) (fp : List Addr) (tn : Nat -> Heap -> Prop) (J : It) (H' : Hp), itv = .ref it /\ Inv X pins σ H' s2 /\ qi9 X.prog X.w X.K tg J fp it tn /\ tn 0 s2.heap /\ (∀ b ∈ fp, qag X pins H' b) /\ R J H'
def PI (X : Cx) (tg iter : Expr) (wi : TI) : Prop :=
  ∀ (pins : List (Addr × Obj)) (s : Shared) (σ : St) (H : Hp) (R : It -> Hp -> Prop), Inv X pins σ H s -> wi σ H R ->
    wpAny (model X.prog X.w) X.A (eval iter X.env) (fun v s1 => wpAny (model X.prog X.w) X.A (pyIter v) (PIE X pins σ tg R) X.xe s1) X.xe s
theorem qd8 {M : Model} {A : Around} {E : Value -> Shared -> Prop} {s : Shared} {tg : Expr} {it : Addr} {u : Value} {o : Obj} {n : String} {vs : Array Value} {Q : Unit -> Shared -> Prop} (ho : s.heap.get? it = some o) (hc : o.cls = .type n) (hd : o.data = .fields vs)
    (hn : ["enumerate", "zip", "dict_itemiterator", "dict_reverseitemiterator", "odict_iterator", "itertools.zip_longest", "itertools.pairwise"].contains n = false) (hQ : Q () s) : wpAny M A (letOwnedTupleGo tg (.ref it) u) Q E s := by
  unfold letOwnedTupleGo
  cases tg <;> first
    | exact wpAny_pure hQ
    | (cases u <;> first
        | exact wpAny_pure hQ
        | (refine wpAny_bind (wpAny_load ho ?_)
           rw [hc, hd]
           show wpAny M A (if (["enumerate", "zip", "dict_itemiterator", "dict_reverseitemiterator", "odict_iterator", "itertools.zip_longest", "itertools.pairwise"].contains n && vs[0]? == some (rawInt _)) = true then _ else _) Q E s
           rw [if_neg (by intro h; rw [hn, Bool.false_and] at h; cases h)]
           exact wpAny_pure hQ))
def Itl (K : PySem.W.Frag) (a : Addr) : It :=
  ⟨fun i H => ∃ xs x, SqL K H a xs /\ xs[i]? = some x, fun i H x H' => H' = H /\ ∀ xs, SqL K H a xs -> xs[i]? = some x, fun i H => ∃ xs, SqL K H a xs /\ xs.length <= i⟩
def Itt (K : PySem.W.Frag) (a : Addr) : It :=
  ⟨fun i H => ∃ xs x, SqT K H a xs /\ xs[i]? = some x, fun i H x H' => H' = H /\ ∀ xs, SqT K H a xs -> xs[i]? = some x, fun i H => ∃ xs, SqT K H a xs /\ xs.length <= i⟩
def Itr (lo : Int) (n : Nat) : It := ⟨fun i _ => i < n, fun i H x H' => H' = H /\ x = .int (lo + i), fun i _ => n <= i⟩
theorem qd9 {P : Program} {w : World} {K : PySem.W.Frag} {tg : Expr} (a it : Addr) : qi9 P w K tg (Itl K a) [it] it (fun i h => h.IsListIter it a i) where
  mem := by simp
  obj := fun i h st b hb => by
    have e : b = it := by simpa using hb
    subst e
    obtain ⟨o, e, c, d⟩ := st
    exact ⟨o, e, fun v z => by rw [d] at z; cases z⟩
  keep := fun i h h' st k => st.at fun o e => k it (by simp) o e
  item := by
    intro X hP hw hK hc i pins s σ H E I hf st hg
    subst hP hw hK
    obtain ⟨xs, x, hq, hx⟩ := hg
    obtain ⟨its, rv, p, hz⟩ := I.list hq
    obtain ⟨u, hu, ru⟩ := rv.get hx
    obtain ⟨f0, f1, f2, f3, f4, f5⟩ := hf it (by simp)
    refine wpAny_pyNext_list_item st p.isList (x := u) (by simpa using hu) fun h' st' sb => ?_
    have I1 : Inv X pins σ H { s with heap := h' } := I.turned (t' := s.toks) (fun b o hb e => (sb.2 b hb).trans e) f0 f1 f3 f4 f5
    obtain ⟨o, e, c, d⟩ := id st'
    exact ⟨u, rfl, qd8 (s := { s with heap := h' }) e c d (by decide) ⟨x, H, I1, ru, ⟨rfl, fun ys hy => by rw [I.list_inj hy hq]; exact hx⟩, st', fun b hb => (hf b hb).1⟩⟩
  done := by
    intro X hP hw hK hc i pins s σ H E I hf st hg
    subst hP hw hK
    obtain ⟨xs, hq, hx⟩ := hg
    obtain ⟨its, rv, p, hz⟩ := I.list hq
    obtain ⟨f0, f1, f2, f3, f4, f5⟩ := hf it (by simp)
    have hl := rv.length
    exact wpAny_pyNext_list_end (I.ok.hd hc) st p.isList (by simp; omega) fun h' eb => ⟨rfl, I.turned (t' := s.toks) (fun b o hb e => eb b o hb e) f0 f1 f3 f4 f5⟩
  self := fun _ _ _ _ _ st h => wpAny_pyIter_listiter st h
theorem qdp {P : Program} {w : World} {K : PySem.W.Frag} {tg : Expr} (a it : Addr) : qi9 P w K tg (Itt K a) [it] it (fun i h => h.IsTupleIter it a i) where
  mem := by simp
  obj := fun i h st b hb => by
    have e : b = it := by simpa using hb
    subst e
    obtain ⟨o, e, c, d⟩ := st
    exact ⟨o, e, fun v z => by rw [d] at z; cases z⟩
  keep := fun i h h' st k => st.at fun o e => k it (by simp) o e
  item := by
    intro X hP hw hK hc i pins s σ H E I hf st hg
    subst hP hw hK
    obtain ⟨xs, x, hq, hx⟩ := hg
    obtain ⟨its, rv, p, hz⟩ := I.tuple hq
    obtain ⟨u, hu, ru⟩ := rv.get hx
    obtain ⟨f0, f1, f2, f3, f4, f5⟩ := hf it (by simp)
    refine wpAny_pyNext_tuple_item st (show s.heap.IsTuple a its.toArray from p) (x := u) (by simpa using hu) fun h' st' sb => ?_
    have I1 : Inv X pins σ H { s with heap := h' } := I.turned (t' := s.toks) (fun b o hb e => (sb.2 b hb).trans e) f0 f1 f3 f4 f5
    obtain ⟨o, e, c, d⟩ := id st'
    exact ⟨u, rfl, qd8 (s := { s with heap := h' }) e c d (by decide) ⟨x, H, I1, ru, ⟨rfl, fun ys hy => by rw [I.tuple_inj hy hq]; exact hx⟩, st', fun b hb => (hf b hb).1⟩⟩
  done := by
    intro X hP hw hK hc i pins s σ H E I hf st hg
    subst hP hw hK
    obtain ⟨xs, hq, hx⟩ := hg
    obtain ⟨its, rv, p, hz⟩ := I.tuple hq
    obtain ⟨f0, f1, f2, f3, f4, f5⟩ := hf it (by simp)
    have hl := rv.length
    exact wpAny_pyNext_tuple_end (I.ok.hd hc) st (show s.heap.IsTuple a its.toArray from p) (by simp; omega) fun h' eb => ⟨rfl, I.turned (t' := s.toks) (fun b o hb e => eb b o hb e) f0 f1 f3 f4 f5⟩
  self := fun _ _ _ _ _ st h => wpAny_pyIter_tupleiter st h
theorem qdq {P : Program} {w : World} {K : PySem.W.Frag} {tg : Expr} (it : Addr) (lo : Int) (n : Nat) : qi9 P w K tg (Itr lo n) [it] it (fun i h => IsRangeIter h it (lo + (i : Nat) * 1) ((n : Int) - (i : Nat)) 1) where
  mem := by simp
  obj := fun i h st b hb => by
    have e : b = it := by simpa using hb
    subst e
    exact ⟨_, st, fun v z => by
      have z' : Data.fields _ = Data.cell v := z
      cases z'⟩
  keep := fun i h h' st k => k it (by simp) _ st
  item := by
    intro X hP hw hK hc i pins s σ H E I hf st hg
    subst hP hw hK
    obtain ⟨f0, f1, f2, f3, f4, f5⟩ := hf it (by simp)
    have W := Walks.range (prog := X.prog) (w := X.w) (I.ok.hd hc) it lo 1 n
    refine W.item i s _ _ hg st fun v h' tk hv st' kk => ?_
    obtain ⟨t, rfl⟩ := hv
    have I1 : Inv X pins σ H { s with heap := h', toks := tk } := I.turned (fun b o hb e => kk b o (by simpa using hb) e) f0 f1 f3 f4 f5
    refine ⟨_, rfl, qd8 (s := { s with heap := h', toks := tk }) (n := "range_iterator") st' rfl rfl (by decide) ⟨.int (lo + i), H, I1, ⟨t, ?_⟩, ⟨rfl, rfl⟩, st', fun b hb => (hf b hb).1⟩⟩
    rw [Int.mul_one]
  done := by
    intro X hP hw hK hc i pins s σ H E I hf st hg
    subst hP hw hK
    obtain ⟨f0, f1, f2, f3, f4, f5⟩ := hf it (by simp)
    exact wpAny_pyNext_range_end (I.ok.hd hc) st (by have : n <= i := hg; omega) fun h' eb => ⟨rfl, I.turned (t' := s.toks) (fun b o hb e => eb b o hb e) f0 f1 f3 f4 f5⟩
  self := fun _ _ _ _ _ st h => wpAny_pyIter_rangeiter st h
end L2
namespace L2
open PySem PySem.Spec PyProof.Rows
section
variable {X : Cx} {tg : Expr}
theorem qfV {pins : List (Addr × Obj)} {σ : St} {H : Hp} {s : Shared} {R : It -> Hp -> Prop} {E : Value -> Shared -> Prop} {lo hi : Int} {t u v : Tok} {tk : Nat} (I : Inv X pins σ H s) (h1 : -(2 ^ 62) <= lo) (h2 : lo < 2 ^ 62) (h3 : -(2 ^ 62) <= hi) (h4 : hi < 2 ^ 62)
    (q : R (Itr lo (hi - lo).toNat) H) : wpAny (model X.prog X.w) X.A (pyIter (.ref s.heap.objs.size)) (PIE X pins σ tg R) E { s with heap := s.heap.push { cls := .type "range", data := .fields #[.int lo t, .int hi u, .int 1 v] }, toks := tk } := by
  refine wpAny_pyIter_range (IsRange.new ..) (small_one h1 h2 h3 h4) ?_
  have I1 : Inv X pins σ H { s with heap := s.heap.push { cls := .type "range", data := .fields #[.int lo t, .int hi u, .int 1 v] }, toks := tk } := I.kept fun b o e => Heap.get?_push_of_some _ e
  refine ⟨(s.heap.push { cls := .type "range", data := .fields #[.int lo t, .int hi u, .int 1 v] }).objs.size, [(s.heap.push { cls := .type "range", data := .fields #[.int lo t, .int hi u, .int 1 v] }).objs.size], _, _, H, rfl,
    I1.kept (t' := tk) fun b o e => Heap.get?_push_of_some _ e, qdq _ lo (hi - lo).toNat, ?_, fun b hb => ?_, q⟩
  . have e1 : lo + ((0 : Nat) : Int) * 1 = lo := by simp
    have e2 : (((hi - lo).toNat : Nat) : Int) - ((0 : Nat) : Int) = Builtin.Range.rangeSize lo hi 1 := by rw [rangeSize_one]; split <;> omega
    show IsRangeIter _ _ (lo + ((0 : Nat) : Int) * 1) ((((hi - lo).toNat : Nat) : Int) - ((0 : Nat) : Int)) 1
    rw [e1, e2]
    exact Heap.get?_push_size _ rfl
  . have e : b = (s.heap.push { cls := .type "range", data := .fields #[.int lo t, .int hi u, .int 1 v] }).objs.size := by simpa using hb
    subst e
    exact I1.fpOk (Nat.le_refl _) (I1.hok.fresh (Nat.le_refl _))
def qjB (ta : TA) : TI := fun σ H R => ta σ H fun vs H1 => ∃ j : Int, vs = [.int j] /\ -(2 ^ 62) <= j /\ j < 2 ^ 62 /\ R (Itr 0 j.toNat) H1
theorem qea {a : Expr} {ta : TA} {p pos : Pos} (hg : Gl X "range") (hm : X.mg "range" = none) (ha : PA X [a] ta) (hs : starEach [a] X.env = [(false, eval a X.env)] := by rfl) : PI X tg (.Call (.Name "range" p) [a] [] pos) (qjB ta) := by
  intro pins s σ H R I h
  refine Call_ (vk I hg hm boot_range (PyProof.Rows.callWith_type1 (thn (ha pos pins s σ H _ I h) fun us s1 ⟨vs, H1, I1, r1, q1⟩ => ?_) hs rfl))
  obtain ⟨j, e, q1, q2, q⟩ := q1
  subst e
  cases r1 with
  | cons r rr =>
    cases rr
    obtain ⟨t, rfl⟩ := r
    exact call_range_1 (qfV I1 (by omega) (by omega) q1 q2 (by simpa using q))
def qmR (wi : TI) (g : TG) (tb : TS) : TS := fun D σ H => wi σ H fun J H1 => ∃ W : Nat -> Nat -> St -> Hp -> Prop, (∃ m, W 0 m σ H1) /\ ∀ i m σ H, W i m σ H ->
  (J.stop i H /\ D.nx σ H) \/ (J.go i H /\ ∃ N : St -> Hp -> Prop, (∀ σ' H', N σ' H' -> ∃ m', m' < m /\ W (i + 1) m' σ' H') /\ ∀ x H', J.yld i H x H' -> g x σ H' fun σ2 H2 => tb { D with nx := N, ct := N, bk := D.nx } σ2 H2)
def vK (fp : List Addr) (h : Heap) : List (Addr × Obj) := fp.filterMap fun b => (h.get? b).map fun o => (b, o)
theorem zY {fp : List Addr} {h : Heap} {b : Addr} {o : Obj} (hb : b ∈ fp) (e : h.get? b = some o) : (b, o) ∈ vK fp h := List.mem_filterMap.mpr ⟨b, hb, by rw [e]; rfl⟩
theorem qeb {fp : List Addr} {h : Heap} {p : Addr × Obj} (hp : p ∈ vK fp h) : p.1 ∈ fp /\ h.get? p.1 = some p.2 := by
  obtain ⟨b, hb, e⟩ := List.mem_filterMap.mp hp
  cases q : h.get? b with
  | none => rw [q] at e; cases e
  | some o =>
    rw [q] at e
    have e' : (b, o) = p := Option.some.inj e
    subst e'
    exact ⟨hb, q⟩
theorem Inv.pinned {pins : List (Addr × Obj)} {σ : St} {H : Hp} {s : Shared} {fp : List Addr} (I : Inv X pins σ H s) (hf : ∀ b ∈ fp, qag X pins H b) (ho : ∀ b ∈ fp, ∃ o, s.heap.get? b = some o /\ ∀ v, o.data ≠ .cell v) : Inv X (pins ++ vK fp s.heap) σ H s :=
  I.pins_of fun p hp => (List.mem_append.mp hp).elim (fun z => I.pin p (List.mem_append_right _ z)) fun z => by
    obtain ⟨hb, e⟩ := qeb z
    obtain ⟨f0, f1, f2, _⟩ := hf p.1 hb
    obtain ⟨o, e', d⟩ := ho p.1 hb
    rw [e] at e'; cases e'
    exact ⟨e, f0, f1, f2, d⟩
theorem Inv.unpinned {pins pl : List (Addr × Obj)} {σ : St} {H : Hp} {s : Shared} (I : Inv X (pins ++ pl) σ H s) : Inv X pins σ H s := I.pins_of fun p hp => I.pin p (List.mem_append_right _ (List.mem_append_left _ hp))
theorem qjC {iter : Expr} {body : List Stmt} {wi : TI} {g : TG} {tb : TS} {pos : Pos} (hp : PassesOwn (model X.prog X.w) X.A X.env X.xe) (hc : X.calm = true) (hi : PI X tg iter wi) (hg : PG X tg g) (hb : PSs X body tb)
    (hs : ∀ x, foldedSetIterable iter X.env x = pure x := by intro _; rfl) : PS X (.For tg iter body [] pos) (qmR wi g tb) := by
  intro pins s σ H D I h
  refine wpAny_For (thn (hi pins s σ H _ I h) fun v s1 h1 => thn h1 fun itv s2 h2 => ?_) hs
  obtain ⟨it, fp, tn, J, H2, e, I2, T, st2, f2, W, ⟨m0, w0⟩, turn⟩ := h2
  subst e
  have stat : ∀ {H' : Hp}, (∀ b ∈ fp, H' b = none) -> ∀ b ∈ fp, qag X pins H' b := fun hn b hb => ⟨hn b hb, (f2 b hb).2⟩
  refine codeAny_forLoop_any (fun n s' => ∃ i σ' H', Inv X pins σ' H' s' /\ tn i s'.heap /\ (∀ b ∈ fp, H' b = none) /\ W i n σ' H') ?_ m0 ⟨0, σ, H2, I2, st2, fun b hb => (f2 b hb).1, w0⟩
  rintro n s3 ⟨i, σ3, H3, I3, st3, fr3, w3⟩
  rcases turn i n σ3 H3 w3 with ⟨stop, qn⟩ | ⟨go, N, hN, step⟩
  . refine wpAny_passesOwn hp (thn (T.done X rfl rfl rfl hc i pins s3 σ3 H3 X.xe I3 (stat fr3) st3 stop) fun r s4 ⟨hr, I4⟩ => ?_)
    subst hr
    exact wpAny_execs_nil ⟨σ3, H3, I4, qn⟩
  . refine wpAny_passesOwn hp (thn (T.item X rfl rfl rfl hc i pins s3 σ3 H3 X.xe I3 (stat fr3) st3 go) fun r s4 ⟨u, hr, h4⟩ => ?_)
    subst hr
    refine wpAny_passesOwn hp (thn h4 fun _ s5 ⟨x, H5, I5, r5, y5, st5, fr5⟩ => ?_)
    have I5' := I5.pinned (stat fr5) (T.obj _ _ st5)
    refine wpAny_passesOwn hp (thn (hg _ s5 σ3 H5 x u _ I5' r5 (step x H5 y5)) fun _ s6 ⟨σ6, H6, I6, q6⟩ => ?_)
    refine wpAny_passesOwn hp (thn (hb _ s6 σ6 H6 _ I6 q6) fun f s7 q7 => ?_)
    have again : ∀ {σ7 : St} {H7 : Hp}, Inv X (pins ++ vK fp s5.heap) σ7 H7 s7 -> N σ7 H7 -> ∃ m, m < n /\ ∃ i σ' H', Inv X pins σ' H' s7 /\ tn i s7.heap /\ (∀ b ∈ fp, H' b = none) /\ W i m σ' H' := fun {σ7 H7} I7 n7 => by
      obtain ⟨m', hm, w7⟩ := hN σ7 H7 n7
      refine ⟨m', hm, i + 1, σ7, H7, I7.unpinned, T.keep _ _ _ st5 fun b hb o e => (I7.pin (b, o) (List.mem_append_right _ (List.mem_append_right _ (zY hb e)))).1, fun b hb => ?_, w7⟩
      obtain ⟨o, e, d⟩ := T.obj _ _ st5 b hb
      exact (I7.pin (b, o) (List.mem_append_right _ (List.mem_append_right _ (zY hb e)))).2.1
    cases f with
    | next => obtain ⟨σ7, H7, I7, n7⟩ := q7; exact again I7 n7
    | cont => obtain ⟨σ7, H7, I7, n7⟩ := q7; exact again I7 n7
    | brk => obtain ⟨σ7, H7, I7, q7⟩ := q7; exact ⟨σ7, H7, I7.unpinned, q7⟩
    | ret v => obtain ⟨x7, σ7, H7, I7, r7, q7⟩ := q7; exact ⟨x7, σ7, H7, I7.unpinned, r7, q7⟩
end
end L2
namespace L2
open PySem PySem.Spec PyProof.Rows
abbrev R2 := V -> V -> Hp -> VK -> Prop
def OpR (X : Cx) (f : Value -> Value -> Sem Value) (r : R2) : Prop :=
  ∀ (pins : List (Addr × Obj)) (s : Shared) (σ : St) (H : Hp) (x y : V) (v u : Value) (Q : VK), Inv X pins σ H s -> ju x v -> ju y u -> r x y H Q ->
    wpAny (model X.prog X.w) X.A (f v u) (EP X pins σ Q) X.xe s
def jN (X : Cx) (f : Value) (r : List V -> Hp -> VK -> Prop) : Prop :=
  ∀ (pins : List (Addr × Obj)) (s : Shared) (σ : St) (H : Hp) (xs : List V) (us : List Value) (Q : VK), Inv X pins σ H s -> qQ xs us -> r xs H Q ->
    wpAny (model X.prog X.w) X.A (call f us) (EP X pins σ Q) X.xe s
def tOp (r : R2) (ta tb : TE) : TE := fun σ H Q => ta σ H fun x H1 => tb σ H1 fun y H2 => r x y H2 Q
def rI (C : Int -> Int -> Prop) (g : Int -> Int -> V) : R2 := fun x y H Q => ∃ i j, x = .int i /\ y = .int j /\ C i j /\ Q (g i j) H
def rI0 (g : Int -> Int -> V) : R2 := fun x y H Q => ∃ i j, x = .int i /\ y = .int j /\ Q (g i j) H
section
variable {X : Cx} {a b c : Expr} {ta tb tc : TE} {pos : Pos}
theorem qlt (ha : PE X a ta) (hb : PE X b tb) {pins : List (Addr × Obj)} {s : Shared} {σ : St} {H : Hp} {R : V -> V -> Hp -> Prop} (I : Inv X pins σ H s)
    (h : ta σ H fun x H1 => tb σ H1 fun y H2 => R x y H2) {Q : Value -> Shared -> Prop} {f : Value -> Value -> Sem Value}
    (hf : ∀ v u s2 x y H2, Inv X pins σ H2 s2 -> ju x v -> ju y u -> R x y H2 -> wpAny (model X.prog X.w) X.A (f v u) Q X.xe s2) :
    wpAny (model X.prog X.w) X.A (eval a X.env) (fun v s₁ => wpAny (model X.prog X.w) X.A (eval b X.env) (fun u s₂ => wpAny (model X.prog X.w) X.A (f v u) Q X.xe s₂) X.xe s₁) X.xe s := by
  refine thn (ha pins s σ H _ I h) fun v s1 ⟨x, H1, I1, r1, q1⟩ => ?_
  refine thn (hb pins s1 σ H1 _ I1 q1) fun u s2 ⟨y, H2, I2, r2, q2⟩ => ?_
  exact hf v u s2 x y H2 I2 r1 r2 q2
theorem qlu {op : Operator} {r : R2} (ho : OpR X (binaryOp op) r) (ha : PE X a ta) (hb : PE X b tb) : PE X (.BinOp a op b pos) (tOp r ta tb) := by
  intro pins s σ H Q I h
  exact wpAny_BinOp (qlt ha hb I h fun v u s2 x y H2 I2 rx ry q => ho pins s2 σ H2 x y v u Q I2 rx ry q)
theorem opI {f : Value -> Value -> Sem Value} {C : Int -> Int -> Prop} {g : Int -> Int -> Int}
    (rule : ∀ (i j : Int) (t u : Tok) (s : Shared) (Q : Value -> Shared -> Prop) (E : Value -> Shared -> Prop), C i j -> Q (.int (g i j) s.toks) { s with toks := s.toks + 1 } -> wpAny (model X.prog X.w) X.A (f (.int i t) (.int j u)) Q E s) :
    OpR X f (rI C fun i j => .int (g i j)) := by
  intro pins s σ H x y v u Q I rx ry h
  obtain ⟨i, j, rfl, rfl, hc, q⟩ := h
  obtain ⟨t, rfl⟩ := rx
  obtain ⟨t', rfl⟩ := ry
  exact rule i j t t' s _ _ hc ⟨.int (g i j), H, I.tok _, ⟨_, rfl⟩, q⟩
theorem qma {f : Value -> Value -> Sem Value} {g : Int -> Int -> Int}
    (rule : ∀ (i j : Int) (t u : Tok) (s : Shared) (Q : Value -> Shared -> Prop) (E : Value -> Shared -> Prop), Q (.int (g i j) s.toks) { s with toks := s.toks + 1 } -> wpAny (model X.prog X.w) X.A (f (.int i t) (.int j u)) Q E s) :
    OpR X f (rI0 fun i j => .int (g i j)) := by
  intro pins s σ H x y v u Q I rx ry h
  obtain ⟨i, j, rfl, rfl, q⟩ := h
  obtain ⟨t, rfl⟩ := rx
  obtain ⟨t', rfl⟩ := ry
  exact rule i j t t' s _ _ ⟨.int (g i j), H, I.tok _, ⟨_, rfl⟩, q⟩
theorem qk8 {f : Value -> Value -> Sem Value} {g : Int -> Int -> Bool}
    (rule : ∀ (i j : Int) (t u : Tok) (s : Shared) (Q : Value -> Shared -> Prop) (E : Value -> Shared -> Prop), Q (.bool (g i j)) s -> wpAny (model X.prog X.w) X.A (f (.int i t) (.int j u)) Q E s) :
    OpR X f (rI0 fun i j => .bl (g i j)) := by
  intro pins s σ H x y v u Q I rx ry h
  obtain ⟨i, j, rfl, rfl, q⟩ := h
  obtain ⟨t, rfl⟩ := rx
  obtain ⟨t', rfl⟩ := ry
  exact rule i j t t' s _ _ ⟨.bl (g i j), H, I, rfl, q⟩
def qjD (i j : Int) : Prop := 0 < j /\ j < 1606938044258990275541962092341162602522202993782792835301376
theorem qmb {i j : Int} (h1 : 0 < j) (h2 : j < 1606938044258990275541962092341162602522202993782792835301376) : Builtin.divisionGoesByPylong i j = false := by
  refine PyProof.noPylong_of_log2 ?_
  have h0 : j.natAbs ≠ 0 := by omega
  have h3 : j.natAbs < 2 ^ 200 := by have : (2 : Nat) ^ 200 = 1606938044258990275541962092341162602522202993782792835301376 := by decide +kernel
                                     omega
  have := (Nat.log2_lt h0).mpr h3
  omega
def qjE (i j : Int) : Prop := (-(2 ^ 64) < i /\ i < 2 ^ 64) \/ (-(2 ^ 64) < j /\ j < 2 ^ 64)
theorem qjE.ok {i j : Int} (h : qjE i j) : IntMulOk i j := by
  rcases h with ⟨h1, h2⟩ | ⟨h1, h2⟩
  . exact .of_left (intBits_le_64 h1 h2)
  . exact .of_right (intBits_le_64 h1 h2)
theorem qjF : OpR X (binaryOp .Add) (rI0 fun i j => .int (i + j)) := qma fun _ _ _ _ _ _ _ q => add_int q
theorem qjG : OpR X (binaryOp .Sub) (rI0 fun i j => .int (i - j)) := qma fun _ _ _ _ _ _ _ q => sub_int q
theorem qjH : OpR X (binaryOp .Mult) (rI qjE fun i j => .int (i * j)) := opI fun _ _ _ _ _ _ _ hc q => mul_int q hc.ok
theorem qec : OpR X (binaryOp .FloorDiv) (rI qjD fun i j => .int (i / j)) := opI fun i j _ _ _ _ _ hc q => by
  have h1 : (0 : Int) < j := hc.1
  have h2 : j < 1606938044258990275541962092341162602522202993782792835301376 := hc.2
  exact floordiv_int (by omega) (by rw [Int.fdiv_eq_ediv_of_nonneg i (by omega)]; exact q) (.inl (qmb h1 h2))
theorem qa4 : OpR X (binaryOp .Mod) (rI (fun _ j => 0 < j) fun i j => .int (i % j)) := opI fun i j _ _ _ _ _ hc q => by
  have h1 : (0 : Int) < j := hc
  exact mod_int' (by omega) (by rw [Int.fmod_eq_emod_of_nonneg i (by omega)]; exact q)
end
def qlv : V -> V -> Bool
  | .non, .non => true | .non, .int _ => true | .int _, .non => true | .non, .bl _ => true | .bl _, .non => true | .non, .str _ => true | .str _, .non => true
  | .int _, .int _ => true | .bl _, .bl _ => true | .str _, .str _ => true | .byt _, .byt _ => true
  | .int _, .str _ => true | .str _, .int _ => true | .bl _, .str _ => true | .str _, .bl _ => true
  | _, _ => false
def rEq : R2 := fun x y H Q => qlv x y = true /\ Q (.bl (decide (x = y))) H
def rNe : R2 := fun x y H Q => qlv x y = true /\ Q (.bl (!decide (x = y))) H
theorem qed {i j : Int} : decide (V.int i = V.int j) = (i == j) := by
  rw [Bool.eq_iff_iff]
  simp
theorem qg0 {i j : Bool} : decide (V.bl i = V.bl j) = (i == j) := by
  rw [Bool.eq_iff_iff]
  simp
theorem qee {i j : Str} : decide (V.str i = V.str j) = (i == j) := by
  rw [Bool.eq_iff_iff]
  simp
theorem qef {i j : Array UInt8} : decide (V.byt i = V.byt j) = (i.toList == j.toList) := by
  rw [Bool.eq_iff_iff]
  cases i
  cases j
  simp
section
variable {X : Cx} {a b c : Expr} {ta tb tc : TE} {pos : Pos}
theorem qN {pins : List (Addr × Obj)} {σ : St} {H : Hp} {s : Shared} {Q : VK} {k k' : Bool} (I : Inv X pins σ H s) (q : Q (.bl k) H) (e : k = k') : EP X pins σ Q (.bool k') s := by
  subst e
  exact ⟨.bl k, H, I, rfl, q⟩
theorem qjI : OpR X (compareOp .Eq) rEq := by
  intro pins s σ H x y v u Q I rx ry h
  obtain ⟨hs, q⟩ := h
  cases x with
  | non =>
    cases rx
    cases y with
    | non => cases ry; exact PySem.EqNone.eq_none_none (qN I q (by simp))
    | bl j => cases ry; exact PySem.EqNone.eq_none_bool (qN I q (by simp))
    | int j => obtain ⟨t', rfl⟩ := ry; exact PySem.EqNone.eq_none_int (qN I q (by simp))
    | str j => obtain ⟨t', rfl⟩ := ry; exact PySem.EqNone.eq_none_str (qN I q (by simp))
    | _ => exact absurd (show false = true from hs) Bool.false_ne_true
  | bl i =>
    cases rx
    cases y with
    | non => cases ry; exact PySem.EqNone.eq_bool_none (qN I q (by simp))
    | bl j => cases ry; exact eq_bool (qN I q qg0)
    | str j => obtain ⟨t', rfl⟩ := ry; exact PySem.EqMixed.eq_bool_str (qN I q (by simp))
    | _ => exact absurd (show false = true from hs) Bool.false_ne_true
  | int i =>
    obtain ⟨t, rfl⟩ := rx
    cases y with
    | non => cases ry; exact PySem.EqNone.eq_int_none (qN I q (by simp))
    | int j => obtain ⟨t', rfl⟩ := ry; exact eq_int (qN I q qed)
    | str j => obtain ⟨t', rfl⟩ := ry; exact PySem.EqMixed.eq_int_str (qN I q (by simp))
    | _ => exact absurd (show false = true from hs) Bool.false_ne_true
  | str i =>
    obtain ⟨t, rfl⟩ := rx
    cases y with
    | non => cases ry; exact PySem.EqNone.eq_str_none (qN I q (by simp))
    | bl j => cases ry; exact PySem.EqMixed.eq_str_bool (qN I q (by simp))
    | int j => obtain ⟨t', rfl⟩ := ry; exact PySem.EqMixed.eq_str_int (qN I q (by simp))
    | str j => obtain ⟨t', rfl⟩ := ry; exact eq_str (qN I q qee)
    | _ => exact absurd (show false = true from hs) Bool.false_ne_true
  | byt i =>
    obtain ⟨t, rfl⟩ := rx
    cases y with
    | byt j => obtain ⟨t', rfl⟩ := ry; exact PySem.W.eq_bytes (qN I q qef)
    | _ => exact absurd (show false = true from hs) Bool.false_ne_true
  | _ => cases y <;> exact absurd (show false = true from hs) Bool.false_ne_true
theorem qlw : OpR X (compareOp .NotEq) rNe := by
  intro pins s σ H x y v u Q I rx ry h
  obtain ⟨hs, q⟩ := h
  cases x with
  | non =>
    cases rx
    cases y with
    | non => cases ry; exact PySem.EqNone.ne_none_none (qN I q (by simp))
    | bl j => cases ry; exact PySem.EqNone.ne_none_bool (qN I q (by simp))
    | int j => obtain ⟨t', rfl⟩ := ry; exact PySem.EqNone.ne_none_int (qN I q (by simp))
    | str j => obtain ⟨t', rfl⟩ := ry; exact PySem.EqNone.ne_none_str (qN I q (by simp))
    | _ => exact absurd (show false = true from hs) Bool.false_ne_true
  | bl i =>
    cases rx
    cases y with
    | non => cases ry; exact PySem.EqNone.ne_bool_none (qN I q (by simp))
    | bl j => cases ry; exact ne_bool (qN I q (congrArg not qg0))
    | str j => obtain ⟨t', rfl⟩ := ry; exact PySem.EqMixed.ne_bool_str (qN I q (by simp))
    | _ => exact absurd (show false = true from hs) Bool.false_ne_true
  | int i =>
    obtain ⟨t, rfl⟩ := rx
    cases y with
    | non => cases ry; exact PySem.EqNone.ne_int_none (qN I q (by simp))
    | int j => obtain ⟨t', rfl⟩ := ry; exact ne_int (qN I q (congrArg not qed))
    | str j => obtain ⟨t', rfl⟩ := ry; exact PySem.EqMixed.ne_int_str (qN I q (by simp))
    | _ => exact absurd (show false = true from hs) Bool.false_ne_true
  | str i =>
    obtain ⟨t, rfl⟩ := rx
    cases y with
    | non => cases ry; exact PySem.EqNone.ne_str_none (qN I q (by simp))
    | bl j => cases ry; exact PySem.EqMixed.ne_str_bool (qN I q (by simp))
    | int j => obtain ⟨t', rfl⟩ := ry; exact PySem.EqMixed.ne_str_int (qN I q (by simp))
    | str j => obtain ⟨t', rfl⟩ := ry; exact ne_str (qN I q (congrArg not qee))
    | _ => exact absurd (show false = true from hs) Bool.false_ne_true
  | byt i =>
    obtain ⟨t, rfl⟩ := rx
    cases y with
    | byt j => obtain ⟨t', rfl⟩ := ry; exact PySem.W.ne_bytes (qN I q (congrArg not qef))
    | _ => exact absurd (show false = true from hs) Bool.false_ne_true
  | _ => cases y <;> exact absurd (show false = true from hs) Bool.false_ne_true
theorem qlx : OpR X (compareOp .Lt) (rI0 fun i j => .bl (decide (i < j))) := qk8 fun _ _ _ _ _ _ _ q => lt_int q
theorem qjJ : OpR X (compareOp .LtE) (rI0 fun i j => .bl (decide (i <= j))) := qk8 fun _ _ _ _ _ _ _ q => le_int q
theorem qjK : OpR X (compareOp .Gt) (rI0 fun i j => .bl (decide (j < i))) := qk8 fun _ _ _ _ _ _ _ q => gt_int q
theorem qly : OpR X (compareOp .GtE) (rI0 fun i j => .bl (decide (j <= i))) := qk8 fun _ _ _ _ _ _ _ q => ge_int q
theorem qcw : OpR X (compareOp .Is) (fun x y H Q => y = .non /\ Q (.bl (decide (x = .non))) H) := by
  intro pins s σ H x y v u Q I rx ry h
  obtain ⟨rfl, q⟩ := h
  cases ry
  refine is_none_gen (qN I q ?_)
  cases x <;> first
    | (cases rx; rfl)
    | (obtain ⟨t, rfl⟩ := rx; rfl)
theorem qhS : OpR X (compareOp .IsNot) (fun x y H Q => y = .non /\ Q (.bl (!decide (x = .non))) H) := by
  intro pins s σ H x y v u Q I rx ry h
  obtain ⟨rfl, q⟩ := h
  cases ry
  refine isnot_none_gen (qN I q ?_)
  cases x <;> first
    | (cases rx; rfl)
    | (obtain ⟨t, rfl⟩ := rx; rfl)
theorem OpR.or {f : Value -> Value -> Sem Value} {r r' : R2} (h : OpR X f r) (h' : OpR X f r') : OpR X f (fun x y H Q => r x y H Q \/ r' x y H Q) := by
  intro pins s σ H x y v u Q I rx ry q
  rcases q with q | q
  . exact h pins s σ H x y v u Q I rx ry q
  . exact h' pins s σ H x y v u Q I rx ry q
theorem zp (b : Expr) {op : CmpOp} (h : op ≠ .In := by decide) (h2 : op ≠ .NotIn := by decide) : behindInMarks op b = false := by
  have e1 : (op == CmpOp.In) = false := by cases op <;> first | rfl | exact absurd rfl h
  have e2 : (op == CmpOp.NotIn) = false := by cases op <;> first | rfl | exact absurd rfl h2
  cases b <;> simp [behindInMarks, e1, e2]
theorem qhT {op : CmpOp} {r : R2} (ho : OpR X (compareOp op) r) (ha : PE X a ta) (hb : PE X b tb) (hm : behindInMarks op b = false) : PE X (.Compare a [op] [b] pos) (tOp r ta tb) := by
  intro pins s σ H Q I h
  exact wpAny_Compare1 (qlt ha hb I h fun v u s2 x y H2 I2 rx ry q => ho pins s2 σ H2 x y v u Q I2 rx ry q) hm
def qlz (t : TE) : TT := fun σ H Q => t σ H fun x H' => ∃ k, x = .bl k /\ Q k H'
theorem qhU {op : CmpOp} {r : R2} (ho : OpR X (compareOp op) r) (ha : PE X a ta) (hb : PE X b tb) (hm : behindInMarks op b = false) : PT X (.Compare a [op] [b] pos) (qlz (tOp r ta tb)) := by
  intro pins s σ H Q I h
  refine wpAny_isTrue_Compare1 (thn (ha pins s σ H _ I h) fun v s1 ⟨x, H1, I1, r1, q1⟩ => thn (hb pins s1 σ H1 _ I1 q1) fun u s2 ⟨y, H2, I2, r2, q2⟩ =>
    thn (ho pins s2 σ H2 x y v u _ I2 r1 r2 q2) fun c s3 ⟨z, H3, I3, r3, k, e, q3⟩ => ?_) hm
  subst e
  cases r3
  exact wpAny_truthy_bool ⟨H3, I3, q3⟩
theorem vL : (sizeLine : Nat) < 2 ^ 63 := by rw [sizeLine_eq]; decide
theorem qdr : OpR X (binaryOp .Add) (fun x y H Q => ∃ i j, x = .str i /\ y = .str j /\ i.length + j.length <= sizeLine /\ Q (.str (i ++ j)) H) := by
  intro pins s σ H x y v u Q I rx ry h
  obtain ⟨i, j, rfl, rfl, hz, q⟩ := h
  obtain ⟨t, rfl⟩ := rx
  obtain ⟨t', rfl⟩ := ry
  exact add_str (fun t' tk => ⟨.str (i ++ j), H, I.tok _, ⟨_, rfl⟩, q⟩) hz
theorem qhV {x : V} {us : List Value} (r : qQ [x] us) : ∃ u, us = [u] /\ ju x u := by
  cases r with
  | cons r1 r2 => cases r2; exact ⟨_, rfl, r1⟩
theorem qhW {x y : V} {us : List Value} (r : qQ [x, y] us) : ∃ u w', us = [u, w'] /\ ju x u /\ ju y w' := by
  cases r with
  | cons r1 r2 =>
    cases r2 with
    | cons r3 r4 => cases r4; exact ⟨_, _, rfl, r1, r3⟩
theorem qeg (hc : X.calm = true) : jN X (.builtin "max") (fun xs H Q => ∃ i j, xs = [.int i, .int j] /\ Q (.int (if j > i then j else i)) H) := by
  intro pins s σ H xs us Q I r h
  obtain ⟨i, j, rfl, q⟩ := h
  obtain ⟨u, w', rfl, ⟨t, rfl⟩, ⟨t', rfl⟩⟩ := qhW r
  refine max_two_ints (I.ok.hd hc) fun h' tk k => ⟨_, H, I.kept k, ?_, q⟩
  by_cases hj : j > i
  . rw [if_pos hj, if_pos hj]; exact ⟨_, rfl⟩
  . rw [if_neg hj, if_neg hj]; exact ⟨_, rfl⟩
theorem qa5 (hc : X.calm = true) : jN X (.builtin "min") (fun xs H Q => ∃ i j, xs = [.int i, .int j] /\ Q (.int (if j < i then j else i)) H) := by
  intro pins s σ H xs us Q I r h
  obtain ⟨i, j, rfl, q⟩ := h
  obtain ⟨u, w', rfl, ⟨t, rfl⟩, ⟨t', rfl⟩⟩ := qhW r
  refine min_two_ints (I.ok.hd hc) fun h' tk k => ⟨_, H, I.kept k, ?_, q⟩
  by_cases hj : j < i
  . rw [if_pos hj, if_pos hj]; exact ⟨_, rfl⟩
  . rw [if_neg hj, if_neg hj]; exact ⟨_, rfl⟩
theorem qbY : jN X (.builtin "divmod") (fun xs H Q => ∃ i j, xs = [.int i, .int j] /\ qjD i j /\ ∀ p, H p = none -> Q (.ref p) (upd H p (.tup [.int (i / j), .int (i % j)]))) := by
  intro pins s σ H xs us Q I r h
  obtain ⟨i, j, rfl, ⟨h1, h2⟩, q⟩ := h
  obtain ⟨u, w', rfl, ⟨t, rfl⟩, ⟨t', rfl⟩⟩ := qhW r
  refine divmod_int (by omega) ?_ (.inl (qmb h1 h2))
  rw [Int.fdiv_eq_ediv_of_nonneg i (by omega), Int.fmod_eq_emod_of_nonneg i (by omega)]
  have hn : H s.heap.objs.size = none := I.hok.fresh (Nat.le_refl _)
  refine ⟨.ref s.heap.objs.size, _, ?_, rfl, q _ hn⟩
  refine I.laid (fun b o e => Heap.get?_push_of_some _ e) (Nat.le_refl _) ⟨by simp only [List.length_cons, List.length_nil]; rw [sizeLine_eq]; decide, [.int (i / j) s.toks, .int (i % j) (s.toks + 1)], .cons ⟨_, rfl⟩ (.cons ⟨_, rfl⟩ .nil), ?_⟩
  exact ⟨_, Heap.get?_push_size s.heap rfl, rfl, 0, rfl⟩
end
end L2
namespace L2
open PySem PySem.Spec PyProof.Rows
structure qlA (h : Heap) (x dx C : Addr) (mA : Str -> Option Value) : Prop where
  obj : h.get? x = some (PySem.W.instObj C dx)
  ns : h.Ns1 dx mA
  ne : dx ≠ x
theorem qeh {h : Heap} {dx : Addr} {mA : Str -> Option Value} (n : h.Ns1 dx mA) : ∃ od, h.get? dx = some od /\ ∀ name, PySem.W.lookIn name od = some (mA name) := by
  obtain ⟨o, es, ep, ho, hd, hk, _, hm⟩ := n
  refine ⟨o, ho, fun name => ?_⟩
  have e := hm name
  unfold nsFind findBy at e
  rw [<- Array.find?_toList] at e
  unfold PySem.W.lookIn
  rw [hd]
  dsimp only
  split
  . rename_i y q
    rw [q] at e
    exact congrArg some e
  . rename_i q
    rw [q] at e
    have a : es.toList.any (·.refKey) = false := by
      rw [List.any_eq_false]
      intro y hy
      obtain ⟨z, t, hkey⟩ := hk y (Array.mem_toList_iff.mp hy)
      simp [DictEntry.refKey, hkey]
    have a' : ¬ es.toList.any (·.refKey) = true := by rw [a]; exact Bool.false_ne_true
    rw [if_neg a']
    exact congrArg some e
theorem qlA.look {h : Heap} {x dx C : Addr} {mA : Str -> Option Value} (I : qlA h x dx C mA) : ∃ od, PySem.W.InstAt h x (PySem.W.instObj C dx) C (some od) /\ ∀ name, PySem.W.lookIn name od = some (mA name) :=
  let ⟨od, ho, hl⟩ := qeh I.ns
  ⟨od, ⟨I.obj, rfl, rfl, ho⟩, hl⟩
section
variable {prog : Program} {w : World} {A : Around} {E : Value -> Shared -> Prop} {s : Shared} {K : PySem.W.Frag} {x dx C f : Addr} {mA : Str -> Option Value} {name : Str} {v : Value}
end
def qmS (f : Str) (v : V) : List (Str × V) -> List (Str × V)
  | [] => [(f, v)]
  | (g, x) :: r => if g = f then (g, v) :: r else (g, x) :: qmS f v r
section
variable {P : Program} {w : World} {H H' : Hp} {h h' : Heap} {a C dx : Addr} {fs fs' : List (Str × V)}
theorem qhX (hok : HOk P w H h) (e : H a = some (.ins C dx fs)) : ∃ mA, qlA h a dx C mA /\ (∀ f, qli (fs.lookup f) (mA f)) /\ PySem.Within mA (fs.map (·.1)) /\ fs.length <= 1000 /\ H dx = some (.own a) := by
  obtain ⟨d, z, ne, ob, mA, n, r, q⟩ := (show jM P w H h a (.ins C dx fs) from hok a _ e)
  exact ⟨mA, ⟨ob, n, ne⟩, r, q, z, d⟩
end
structure Cls (K : PySem.W.Frag) (C : Addr) : Prop where
  pg : PySem.W.plainGet K C Str.empty = true
  hd : PySem.W.hasDictIn K C = true
  po : PySem.W.plainOver K C = true
  sa : PySem.W.findIn K (.ref C) "__setattr__" = some (some (.builtin "object.__setattr__"))
theorem Cls.get {K : PySem.W.Frag} {C : Addr} (c : Cls K C) (f : Str) : PySem.W.plainGet K C f = true := c.pg
structure Con (K : PySem.W.Frag) (C : Addr) (f : Str) (v : V) (u : Value) : Prop where
  at_ : PySem.W.findIn K (.ref C) f = some (some u)
  rel : ju v u
  get : PySem.W.specialIn K u "__get__" = some none
  cp : PySem.W.copiedNames.contains f = false
structure qnd (K : PySem.W.Frag) (C : Addr) (m : Str) (f : Addr) : Prop where
  at_ : PySem.W.findIn K (.ref C) m = some (some (.ref f))
  fn : PySem.W.isFn K (.ref f) = true
  kp : PySem.W.keepIn K (.ref f) = true
section
variable {X : Cx} {pins : List (Addr × Obj)} {σ : St} {H : Hp} {s : Shared} {a C dx : Addr} {fs : List (Str × V)} {f : Str} {v : V} {A : Around} {E : Value -> Shared -> Prop}
end
section
variable {X : Cx} {o e value : Expr} {f : Str} {pos pos' tpos : Pos} {ta tv : TE}
end
section
variable {X : Cx} {pins : List (Addr × Obj)} {σ : St} {H : Hp} {s : Shared} {A : Around} {E : Value -> Shared -> Prop} {Q : Value -> Shared -> Prop} {c : Value} {b : Bool}
inductive qd2 (K : PySem.W.Frag) (H : Hp) : V -> Value -> Prop where
  | non : qd2 K H .non (.type "NoneType")
  | bl (x : Bool) : qd2 K H (.bl x) (.type "bool")
  | int (i : Int) : qd2 K H (.int i) (.type "int")
  | str (x : Str) : qd2 K H (.str x) (.type "str")
  | flt (x : UInt64) : qd2 K H (.flt x) (.type "float")
  | lst {a : Addr} {xs : List V} (e : H a = some (.lst xs)) : qd2 K H (.ref a) (.type "list")
  | frz {a : Addr} {o : Obj} {xs : List V} (e : H a = some (.frz o (.lst xs))) : qd2 K H (.ref a) (.type "list")
  | tup {a : Addr} {xs : List V} (e : H a = some (.tup xs)) : qd2 K H (.ref a) (.type "tuple")
  | dK {a : Addr} {kvs : List (Key × V)} (e : H a = some (.dK kvs)) : qd2 K H (.ref a) (.type "dict")
  | dT {a : Addr} {kvs : List (List Key × V)} (e : H a = some (.dT kvs)) : qd2 K H (.ref a) (.type "dict")
  | ins {a C dx : Addr} {fs : List (Str × V)} (e : H a = some (.ins C dx fs)) (cl : Cls K C) (ha : PySem.W.findIn K (.ref C) "__class__" = some (some (.builtin "object.__class__")))
      (hn : PySem.W.specialIn K (.builtin "object.__class__") "__get__" = some (some (.builtin "getset_descriptor.__get__"))) (htk : PySem.W.takesIn K (.builtin "object.__class__") = some true)
      (hm : PySem.W.mroIn K C (.type "object") = some true) : qd2 K H (.ref a) (.ref C)
theorem yq {x : V} {u t : Value} (I : Inv X pins σ H s) (rx : ju x u) (ty : qd2 X.K H x t) (e : PySem.W.kitOne X.K t c = some b) (h : ∀ tk, Q (.bool b) { s with toks := tk }) :
    wpAny (model X.prog X.w) A (call (.builtin "isinstance") [u, c]) Q E s := by
  cases ty with
  | non => cases (show u = Value.none from rx); exact PySem.W.kia_one PySem.W.kitx_none I.kIn True.intro e (fun z => nomatch z) h
  | bl y => cases (show u = Value.bool y from rx); exact PySem.W.kia_one PySem.W.kitx_bool I.kIn True.intro e (fun z => nomatch z) h
  | int i => obtain ⟨t, q⟩ := (show ∃ t, u = Value.int i t from rx); cases q; exact PySem.W.kia_one PySem.W.kitx_int I.kIn True.intro e (fun z => nomatch z) h
  | str y => obtain ⟨t, q⟩ := (show ∃ t, u = Value.str y t from rx); cases q; exact PySem.W.kia_one PySem.W.kitx_str I.kIn True.intro e (fun z => nomatch z) h
  | flt y => obtain ⟨t, q⟩ := (show ∃ t, u = Value.float y t from rx); cases q; exact PySem.W.kia_one PySem.W.kitx_float I.kIn True.intro e (fun z => nomatch z) h
  | @lst a xs ea =>
    cases (show u = Value.ref a from rx)
    obtain ⟨_, _, n, _, h1⟩ := (show jM X.prog X.w H s.heap a (.lst xs) from I.hok a _ ea)
    exact PySem.W.kia_one PySem.W.kitx_list I.kIn ⟨_, h1, rfl⟩ e (fun z => nomatch z) h
  | @frz a ob xs ea =>
    cases (show u = Value.ref a from rx)
    obtain ⟨_, _, _, n, _, h1⟩ := (show jM X.prog X.w H s.heap a (.frz ob (.lst xs)) from I.hok a _ ea)
    exact PySem.W.kia_one PySem.W.kitx_list I.kIn ⟨_, h1, rfl⟩ e (fun z => nomatch z) h
  | @tup a xs ea =>
    cases (show u = Value.ref a from rx)
    obtain ⟨_, _, _, p⟩ := (show jM X.prog X.w H s.heap a (.tup xs) from I.hok a _ ea)
    obtain ⟨o, h1, h2, _⟩ := p
    exact PySem.W.kia_one PySem.W.kitx_tuple I.kIn ⟨o, h1, h2⟩ e (fun z => nomatch z) h
  | @dK a kvs ea =>
    cases (show u = Value.ref a from rx)
    obtain ⟨_, _, vs, _, p⟩ := (show jM X.prog X.w H s.heap a (.dK kvs) from I.hok a _ ea)
    obtain ⟨o, es, ep, h1, h2, _⟩ := p
    exact PySem.W.kia_one PySem.W.kitx_dict I.kIn ⟨o, h1, h2.1⟩ e (fun z => nomatch z) h
  | @dT a kvs ea =>
    cases (show u = Value.ref a from rx)
    obtain ⟨_, _, xs, _, o, es, ep, h1, h2, _⟩ := (show jM X.prog X.w H s.heap a (.dT kvs) from I.hok a _ ea)
    exact PySem.W.kia_one PySem.W.kitx_dict I.kIn ⟨o, h1, h2.1⟩ e (fun z => nomatch z) h
  | @ins a C dx fs ea cl ha hn htk hm =>
    cases (show u = Value.ref a from rx)
    obtain ⟨mA, O, _⟩ := qhX I.hok ea
    obtain ⟨od, J, _⟩ := O.look
    exact PySem.W.kia_one (PySem.W.kitx_own (cl.get _) cl.hd ha hn htk hm) I.kIn J e (fun z => nomatch z) h
end
end L2
namespace L2
open PySem PySem.Spec PyProof.Rows
structure yA (k : Nat) (A : Around) : Prop where
  hd : A.handled = none
  dp : A.depth + 3 * k + 5 < recursionLimit
  un : A.units + 16 * k + 200 < cLine
  gd : A.guards = some []
theorem yA.mono {j k : Nat} {A : Around} (r : yA k A) (h : j <= k) : yA j A := ⟨r.hd, by have := r.dp; omega, by have := r.un; omega, r.gd⟩
theorem yA.deeper {k : Nat} {A : Around} (r : yA (k + 1) A) (env : Env) : yA k (A.deeper env) :=
  ⟨r.hd, by have := r.dp; show A.depth + 1 + 3 * k + 5 < _; omega, by have := r.un; show A.units + 3 + 16 * k + 200 < _; omega, r.gd⟩
theorem yA.depth {k : Nat} {A : Around} (r : yA k A) : A.depth < recursionLimit := by have := r.dp; omega
theorem yA.units {k : Nat} {A : Around} (r : yA k A) : A.units + 64 < cLine := by have := r.un; omega
def qlB : TA := fun _ H Q => Q [] H
def qfW (ta : TE) (tr : TA) : TA := fun σ H Q => ta σ H fun x H1 => tr σ H1 fun xs H2 => Q (x :: xs) H2
section
variable {X : Cx} {e : Expr} {es : List Expr} {te : TE} {t : TA} {pos : Pos}
theorem vm : PA X [] qlB := fun _ _ _ _ H Q I h => Calls.spliced_nil ⟨[], H, I, .nil, h⟩
theorem jj (ha : PE X e te) (hr : PA X es t) (hs : starEach (e :: es) X.env = (false, eval e X.env) :: starEach es X.env := by rfl) : PA X (e :: es) (qfW te t) := by
  intro pos pins s σ H Q I h
  rw [hs]
  show wpAny _ _ (spliced ((false, eval e X.env) :: backTo pos (starEach es X.env))) _ _ s
  refine Calls.spliced_cons (thn (ha pins s σ H _ I h) fun u s1 ⟨x, H1, I1, r1, q1⟩ => ?_)
  exact thn (hr pos pins s1 σ H1 _ I1 q1) fun us s2 ⟨xs, H2, I2, r2, q2⟩ => ⟨x :: xs, H2, I2, .cons r1 r2, q2⟩
def qmT (t : TA) : TE := fun σ H Q => t σ H fun xs H1 => xs.length <= sizeLine /\ ∀ p, H1 p = none -> Q (.ref p) (upd H1 p (.tup xs))
def qmU (t : TA) : TE := fun σ H Q => t σ H fun xs H1 => xs.length <= sizeLine /\ ∀ p, H1 p = none -> Q (.ref p) (upd H1 p (.lst xs))
theorem qjL {x1} (h : PA X es t) : PE X (.Tuple es x1 pos) (qmT t) := by
  intro pins s σ H Q I hq
  refine wpAny_Tuple_spliced (thn (h pos pins s σ H _ I hq) fun us s1 ⟨xs, H1, I1, r, z, q⟩ => ⟨by rw [<- r.length]; exact z, ?_⟩)
  have hf : H1 s1.heap.objs.size = none := I1.hok.fresh (Nat.le_refl _)
  refine ⟨.ref s1.heap.objs.size, upd H1 s1.heap.objs.size (.tup xs), I1.laid (t' := s1.toks) (fun b u e => Heap.get?_push_of_some _ e) (Nat.le_refl _) ?_, rfl, q _ hf⟩
  exact ⟨z, us, r, ⟨_, Heap.get?_push_size _ rfl, rfl, _, rfl⟩⟩
theorem qei (h : PA X es t) : PE X (.List es pos) (qmU t) := by
  intro pins s σ H Q I hq
  refine wpAny_List_spliced (thn (h pos pins s σ H _ I hq) fun us s1 ⟨xs, H1, I1, r, z, q⟩ => ⟨by rw [<- r.length]; exact z, ?_⟩)
  have hf : H1 s1.heap.objs.size = none := I1.hok.fresh (Nat.le_refl _)
  refine ⟨.ref s1.heap.objs.size, upd H1 s1.heap.objs.size (.lst xs), I1.laid (t' := s1.toks) (fun b u e => Heap.get?_push_of_some _ e) (Nat.le_refl _) ?_, rfl, q _ hf⟩
  exact ⟨z, us, 0, r, Heap.get?_push_size _ rfl⟩
end
abbrev Sp := List V -> Hp -> VK -> XK -> Prop
abbrev CXT := List Env -> Hp -> Shared -> XK -> Value -> Shared -> Prop
structure qja (P : Program) (w : World) (K : PySem.W.Frag) (mg : Str -> Option Value) (base : Heap) (A : Around) (outer : List Env) (s : Shared) (H : Hp) : Prop where
  frames : A.frames = some outer
  mod : Mod K mg base
  bs : ∀ b o, base.get? b = some o -> s.heap.get? b = some o /\ H b = none
  bsz : base.objs.size <= s.heap.objs.size
  funs : s.heap.FunFrames base outer
  frf : ∀ b ∈ frs outer, H b = none
  hok : HOk P w H s.heap
  bare : AllBare s.gens
def CE (outer : List Env) (P : Program) (w : World) (H : Hp) (s : Shared) (Q : VK) (u : Value) (s' : Shared) : Prop :=
  ∃ v H', s'.os = s.os /\ AllBare s'.gens /\ Un (frs outer) [] H H' s.heap s'.heap /\ HOk P w H' s'.heap /\ ju v u /\ Q v H'
def CR (CX : CXT) (outer : List Env) (P : Program) (w : World) (H : Hp) (s : Shared) (Q : VK) (E : XK) (r : Result) (s' : Shared) : Prop :=
  match r with
  | .ok (.ret u) => CE outer P w H s Q u s'
  | .ok _ => False
  | .error e => CX outer H s E e s'
structure yg (P : Program) (w : World) (K : PySem.W.Frag) (mg : Str -> Option Value) (base : Heap) (CX : CXT) (k : Nat) (f : Addr) (fd : FuncData) (ps : List Str) (sp : Sp) : Prop where
  len : ∀ vs H Q E, sp vs H Q E -> vs.length = ps.length
  run : ∀ (A : Around) (outer : List Env) (s : Shared) (H : Hp) (args : Args) (us : List Value) (vs : List V) (Q : VK) (E : XK), yA k A -> qja P w K mg base A outer s H -> BindsTo s fd args (ps.zip us) -> qQ vs us -> sp vs H Q E ->
    codeAny (model P w) A (.call (.ref f) args) (CR CX outer P w H s Q E) s
section
variable {X : Cx} {pins : List (Addr × Obj)} {σ : St} {H : Hp} {s s' : Shared}
theorem Inv.env0 (I : Inv X pins σ H s) : qja X.prog X.w X.K X.mg X.base X.A X.stack s H :=
  ⟨I.ok.frames, I.ok.mod, I.bs, Nat.le_trans I.ok.bsz I.sz, I.stack, I.stkFree, I.hok, I.bare⟩
theorem Inv.after {Q : VK} {u : Value} (I : Inv X pins σ H s) (h : CE X.stack X.prog X.w H s Q u s') : EP X pins σ Q u s' := by
  obtain ⟨v, H', os, bare, un, hok, r, q⟩ := h
  obtain ⟨hh, g, d, t, os'⟩ := s'
  obtain rfl : os' = s.os := os
  exact ⟨v, H', I.call (h' := hh) (g' := g) (d' := d) (t' := t) (ch := []) un hok bare (fun b z => absurd z (by simp)), r, q⟩
end
def qlC (sp : Sp) (dvs : List V) (E : XK) (t : TA) : TE := fun σ H Q => t σ H fun vs H1 => sp (vs ++ dvs) H1 Q E
def yP (K : PySem.W.Frag) (fd : FuncData) (ps : List Str) (ds : List Value) : Prop :=
  ∀ (s : Shared) (us : List Value), K.In s.heap -> (us ++ ds).length = ps.length -> BindsTo s fd ⟨us, []⟩ (ps.zip (us ++ ds))
theorem yP.all {K : PySem.W.Frag} {fd : FuncData} {ps : List Str} (h : ∀ us : List Value, us.length = ps.length -> bindArgs fd ⟨us, []⟩ = pure (ps.zip us)) : yP K fd ps [] := fun s us _ hl => by
  rw [List.append_nil] at hl |-
  exact .of_eq (h us hl)
def vM (CX : CXT) (X : Cx) (E : XK) : Prop := ∀ (pins : List (Addr × Obj)) (σ : St) (H : Hp) (s : Shared) (e : Value) (s' : Shared), Inv X pins σ H s -> CX X.stack H s E e s' -> X.xe e s'
section
variable {X : Cx} {CX : CXT} {k : Nat} {f C : Addr} {fd : FuncData} {ps : List Str} {sp : Sp} {dvs : List V} {ds : List Value} {E : XK} {x m : Str} {p pos apos : Pos} {e o : Expr} {es : List Expr} {ta : TE} {t : TA}
theorem qjM {pins : List (Addr × Obj)} {σ : St} {H : Hp} {s : Shared} {Q : VK} {us : List Value} {vs : List V} (F : yg X.prog X.w X.K X.mg X.base CX k f fd ps sp) (hr : yA k X.A) (hb : yP X.K fd ps ds) (hd : qQ dvs ds) (hx : vM CX X E)
    (I : Inv X pins σ H s) (r : qQ vs us) (h : sp (vs ++ dvs) H Q E) : wpAny (model X.prog X.w) X.A (call (.ref f) us) (EP X pins σ Q) X.xe s := by
  have r2 : qQ (vs ++ dvs) (us ++ ds) := r.append hd
  have hl : (us ++ ds).length = ps.length := by rw [<- r2.length]; exact F.len _ _ _ _ h
  refine wpAny_call (codeAny_mono (F.run X.A X.stack s H ⟨us, []⟩ (us ++ ds) (vs ++ dvs) Q E hr I.env0 (hb s us I.kIn hl) r2 h) fun r s' hq => ?_)
  cases r with
  | error e => exact hx pins σ H s e s' I hq
  | ok fl =>
    cases fl with
    | ret u => exact I.after hq
    | next => exact False.elim hq
    | brk => exact False.elim hq
    | cont => exact False.elim hq
theorem vN (F : yg X.prog X.w X.K X.mg X.base CX k f fd ps sp) (hr : yA k X.A) (hg : Gl X x) (hm : X.mg x = some (.ref f)) (hk : PySem.W.keepIn X.K (.ref f) = true) (hb : yP X.K fd ps ds) (hd : qQ dvs ds) (hx : vM CX X E)
    (ha : PA X (e :: es) t) (hdb : (x == ("__debug__" : Str)) = false := by decide) (he : starEach (e :: es) X.env = (false, eval e X.env) :: starEach es X.env := by rfl) (hpl : (backTo pos (starEach es X.env)).any (·.1) = false := by rfl) :
    PE X (.Call (.Name x p) (e :: es) [] pos) (qlC sp dvs E t) := by
  intro pins s σ H Q I h
  refine wpAny_Call_Name_kw (vJ I hg hm ?_ hdb)
  refine PySem.W.callWith_K (h₀ := X.base) I.ok.mod.kin hk (thn (ha pos pins s σ H _ I h) fun us s1 ⟨vs, H1, I1, r, q⟩ => ⟨I1.kIn, ?_⟩) he hpl
  exact qjM F hr hb hd hx I1 r q
structure Mk (K : PySem.W.Frag) (C f : Addr) : Prop where
  makes : PySem.W.makesIn K C = true
  init : PySem.W.findIn K (.ref C) "__init__" = some (some (.ref f))
  fn : PySem.W.isFn K (.ref f) = true
  kp : PySem.W.keepIn K (.ref C) = true
end
def PK (X : Cx) (kws : List Keyword) (t : TA) : Prop :=
  ∀ (pos : Pos) (pins : List (Addr × Obj)) (s : Shared) (σ : St) (H : Hp) (Q : List V -> Hp -> Prop), Inv X pins σ H s -> t σ H Q -> wpAny (model X.prog X.w) X.A (evalAll ((backToKw pos (keywordEach kws X.env)).map (·.2))) (AP X pins σ Q) X.xe s
section
variable {X : Cx} {CX : CXT} {k : Nat} {f C : Addr} {fd : FuncData} {ps ks : List Str} {sp : Sp} {E : XK} {x m : Str} {p pos apos kpos : Pos} {e o : Expr} {es : List Expr} {kws : List Keyword} {te ta : TE} {t tk : TA} {nm : Option Str}
theorem qjN : PK X [] qlB := fun _ _ _ _ H Q I h => wpAny_evalAll_nil ⟨[], H, I, .nil, h⟩
theorem qhY (ha : PE X e te) (hr : PK X kws t) : PK X (⟨nm, e, kpos⟩ :: kws) (qfW te t) := by
  intro pos pins s σ H Q I h
  show wpAny _ _ (evalAll ((do let v <- eval e X.env; standAt pos; pure v) :: (backToKw pos (keywordEach kws X.env)).map (·.2))) _ _ s
  refine wpAny_evalAll_cons (wpAny_bind (thn (ha pins s σ H _ I h) fun u s1 ⟨x, H1, I1, r1, q1⟩ => wpAny_bind (wpAny_standAt (wpAny_pure ?_))))
  exact thn (hr pos pins s1 σ H1 _ I1 q1) fun us s2 ⟨xs, H2, I2, r2, q2⟩ => ⟨x :: xs, H2, I2, .cons r1 r2, q2⟩
variable {g : List Value -> List Value -> List Value} {gV : List V -> List V -> List V}
end
structure qw (N P : List Str) (sc : Scope) : Prop where
  kind : sc.kind = .function
  co : sc.isCoroutine = false
  gen : sc.isGenerator = false
  nd : N.Nodup
  pre : N.take P.length = P
  par : ∀ x ∈ P, sc.names.lookup x = some .local \/ sc.names.lookup x = some .cell
  nofree : ∀ y ∈ sc.names, y.2 ≠ .free
theorem qa6 {kindOf : Str -> Option NameKind} {x : Str} : ∀ {binds : List (Str × Value)} {m : Str -> Option Value}, (∀ v, (x, v) ∉ binds) -> bindL kindOf binds m x = m x
  | [], _, _ => rfl
  | (n, v) :: r, m, h => by
    unfold bindL
    rw [qa6 fun w hw => h w (List.mem_cons_of_mem _ hw)]
    split
    . have : x ≠ n := by rintro rfl; exact h v List.mem_cons_self
      simp [this]
    . rfl
theorem qa7 {kindOf : Str -> Option NameKind} {x : Str} : ∀ {binds : List (Str × Value)} {m : Str -> Option Value}, (∀ v, (x, v) ∉ binds) -> bindC kindOf binds m x = m x
  | [], _, _ => rfl
  | (n, v) :: r, m, h => by
    unfold bindC
    rw [qa7 fun w hw => h w (List.mem_cons_of_mem _ hw)]
    split
    . rfl
    . have : x ≠ n := by rintro rfl; exact h v List.mem_cons_self
      simp [this]
theorem vO {kindOf : Str -> Option NameKind} {x : Str} {v : Value} : ∀ {P : List Str} {vs : List Value} {i : Nat} {m : Str -> Option Value}, P.Nodup -> P[i]? = some x -> vs[i]? = some v -> kindOf x = some .local ->
    bindL kindOf (P.zip vs) m x = some v
  | [], _, _, _, _, h, _, _ => by simp at h
  | _ :: _, [], _, _, _, _, h, _ => by simp at h
  | p :: P, w :: vs, 0, m, nd, h1, h2, hk => by
    simp at h1 h2; subst h1; subst h2
    show bindL kindOf ((p, w) :: P.zip vs) m p = _
    unfold bindL
    rw [qa6 fun v hv => (List.nodup_cons.mp nd).1 (List.of_mem_zip hv).1, if_pos hk]
    simp
  | p :: P, w :: vs, i + 1, m, nd, h1, h2, hk => by
    show bindL kindOf ((p, w) :: P.zip vs) m x = _
    unfold bindL
    exact vO (i := i) (List.nodup_cons.mp nd).2 (by simpa using h1) (by simpa using h2) hk
theorem vP {kindOf : Str -> Option NameKind} {x : Str} {v : Value} : ∀ {P : List Str} {vs : List Value} {i : Nat} {m : Str -> Option Value}, P.Nodup -> P[i]? = some x -> vs[i]? = some v -> kindOf x ≠ some .local ->
    bindC kindOf (P.zip vs) m x = some v
  | [], _, _, _, _, h, _, _ => by simp at h
  | _ :: _, [], _, _, _, _, h, _ => by simp at h
  | p :: P, w :: vs, 0, m, nd, h1, h2, hk => by
    simp at h1 h2; subst h1; subst h2
    show bindC kindOf ((p, w) :: P.zip vs) m p = _
    unfold bindC
    rw [qa7 fun v hv => (List.nodup_cons.mp nd).1 (List.of_mem_zip hv).1, if_neg hk]
    simp
  | p :: P, w :: vs, i + 1, m, nd, h1, h2, hk => by
    show bindC kindOf ((p, w) :: P.zip vs) m x = _
    unfold bindC
    exact vP (i := i) (List.nodup_cons.mp nd).2 (by simpa using h1) (by simpa using h2) hk
def zn (N : List Str) (vs : List V) : St := vs.map some ++ List.replicate (N.length - vs.length) none
def qfJ (CX : CXT) (P : Program) (w : World) (K : PySem.W.Frag) (mg : Str -> Option Value) (base : Heap) (N : List Str) (qual : Str) (scope : Scope) (f : Addr) (cd : Value) (A : Around) (outer : List Env) (s : Shared) (H : Hp) (E : XK) : Cx where
  prog := P
  w := w
  K := K
  mg := mg
  base := base
  A := A.deeper (envOfC qual scope s.heap.objs.size f cd)
  N := N
  s₀ := s
  H₀ := H
  env := envOfC qual scope s.heap.objs.size f cd
  outer := outer
  stack := envOfC qual scope s.heap.objs.size f cd :: outer
  ex := []
  calm := true
  fn := fun _ => true
  pn := []
  xe := fun e s' => wpAny (model P w) (A.deeper (envOfC qual scope s.heap.objs.size f cd)) (leaving (envOfC qual scope s.heap.objs.size f cd) e) (fun _ s'' => CX outer H s E e s'') (fun e' s'' => CX outer H s E e' s'') s'
theorem vB {sc : Scope} {n : Nat} {x : Str} (h : sc.names.lookup x = some .cell) : ∃ c, (cellsFrom n sc.names []).lookup x = some c := by
  have q := PySem.W.cellsFrom_some sc.names n [] (.inl h)
  exact Option.isSome_iff_exists.mp q
theorem qej {CX : CXT} {P : Program} {w : World} {K : PySem.W.Frag} {mg : Str -> Option Value} {base : Heap} {N ps : List Str} {qual : Str} {scope : Scope} {f : Addr} {cd : Value} {A : Around} {outer : List Env} {s s1 : Shared} {H : Hp} {E : XK} {us : List Value} {vs : List V}
    (S : qw N ps scope) (hd : A.handled = none) (e0 : qja P w K mg base A outer s H) (hl : vs.length = ps.length) (r : qQ vs us)
    (x : InCallC s s.heap.objs.size (bindL (envOfC qual scope s.heap.objs.size f cd).kindOf (ps.zip us) fun _ => none) (cellsFrom (s.heap.objs.size + 1) scope.names []) (bindC (envOfC qual scope s.heap.objs.size f cd).kindOf (ps.zip us) fun _ => none) s1) :
    Inv (qfJ CX P w K mg base N qual scope f cd A outer s H E) [] (zn N vs) H s1 := by
  have hpl : ps.length <= N.length := by have := congrArg List.length S.pre; rw [List.length_take] at this; omega
  obtain ⟨h1, tk, rfl, hk⟩ := x.done
  have noA : ∀ b : Addr, b ∉ (qfJ CX P w K mg base N qual scope f cd A outer s H E).ex := fun b z => absurd (show b ∈ ([] : List Addr) from z) (by simp)
  refine ⟨⟨e0.mod, S.kind, rfl, rfl, Nat.le_refl _, fun y z c h1 h2 => ?_, fun y hy => ?_, fun y c _ h => ?_, fun _ => hd, Around.frames_deeper e0.frames, .inr ⟨rfl, rfl⟩, fun b z => absurd z (noA b), e0.bs, e0.bsz, fun b _ _ => noA b, fun b z => absurd z (noA b), e0.funs, e0.frf⟩,
    rfl, e0.bare, Un.kept hk, ⟨_, x.toInCall.ns, fun i y v h1 h2 h3 => ?_⟩, fun y c h => ⟨_, x.cell y c h⟩, e0.hok.fresh (Nat.le_refl _), fun y c h => ?_, fun p hp => absurd (show p ∈ ([] : List (Addr × Obj)) from hp) (by simp), e0.hok.kept hk, ?_⟩
  . exact name_of_addr x.apart (PySem.mem_of_lookup h1) (PySem.mem_of_lookup h2)
  . have hy : scope.names.lookup y = some .cell \/ scope.names.lookup y = some .free := hy
    rcases hy with hy | hy
    . exact vB hy
    . exact absurd rfl (S.nofree _ (PySem.mem_of_lookup hy))
  . exact Nat.le_of_lt (x.above y c (PySem.mem_of_lookup h))
  . have hi : i < vs.length := by
      unfold zn at h2
      by_cases hi : i < vs.length
      . exact hi
      . rw [List.getElem?_append_right (by simpa using hi)] at h2
        rw [List.getElem?_replicate] at h2
        split at h2 <;> cases h2
    have ha : vs[i]? = some v := by
      unfold zn at h2
      rw [List.getElem?_append_left (by simpa using hi), List.getElem?_map] at h2
      cases e : vs[i]? with
      | none => rw [e] at h2; cases h2
      | some a => rw [e] at h2; cases h2; rfl
    obtain ⟨u, hu, rv⟩ := r.get ha
    have hp : ps[i]? = some y := by
      rw [<- S.pre, List.getElem?_take_of_lt (by omega)]; exact h1
    have ndP : ps.Nodup := by rw [<- S.pre]; exact S.nd.sublist (List.take_sublist _ _)
    refine ⟨u, rv, ?_⟩
    rcases S.par y (List.mem_of_getElem? hp) with k | k
    . exact .inl ⟨k, vO ndP hp hu k⟩
    . obtain ⟨c, e⟩ := vB (n := s.heap.objs.size + 1) k
      refine .inr ⟨.inl k, c, e, ?_⟩
      have q := x.cell y c e
      rw [vP ndP hp hu (by show scope.names.lookup y ≠ _; rw [k]; decide)] at q
      exact q
  . exact e0.hok.fresh (Nat.le_of_lt (x.above y c (PySem.mem_of_lookup h)))
  . unfold zn
    show _ = N.length
    rw [List.length_append, List.length_map, List.length_replicate]
    omega
theorem qjO {CX : CXT} {P : Program} {w : World} {K : PySem.W.Frag} {mg : Str -> Option Value} {base : Heap} {k : Nat} {f : Addr} {name qual : Str} {params : Arguments} {body : List Stmt} {scope : Scope} {dV kV doc pm cdv ct oc : Value} {an od : Option Addr}
    {osl : Array (Option Value)} {N ps : List Str} {sp : Sp} (lk : K.lookup f = some ⟨oc, od, .func (PySem.W.fnOf name qual params body scope dV kV doc pm an cdv ct), osl⟩) (hcd : PySem.W.codeIn K cdv qual = true) (S : qw N ps scope)
    (len : ∀ vs H Q E, sp vs H Q E -> vs.length = ps.length)
    (hbody : ∀ (A : Around) (outer : List Env) (s : Shared) (H : Hp) (vs : List V) (Q : VK) (E : XK), yA k (A.deeper (envOfC qual scope s.heap.objs.size f cdv)) -> sp vs H Q E ->
      ∃ t, PSs (qfJ CX P w K mg base N qual scope f cdv A outer s H E) body t /\ t { nx := fun _ H' => Q .non H', rt := Q } (zn N vs) H) :
    yg P w K mg base CX (k + 1) f (PySem.W.fnOf name qual params body scope dV kV doc pm an cdv ct) ps sp := by
  refine ⟨len, fun A outer s H args us vs Q E hr e0 hb r hsp => ?_⟩
  have hl := len _ _ _ _ hsp
  have KX : K.In s.heap := e0.mod.kin.keeps fun b o e => (e0.bs b o e).1
  have lim : s.heap.NoLimit := e0.mod.nolimit.keeps fun b o e => (e0.bs b o e).1
  have hkind : ∀ y ∈ ps.zip us, scope.names.lookup y.1 = some .local \/ (scope.names.lookup y.1 = some .cell /\ ((cellsFrom (s.heap.objs.size + 1) scope.names []).lookup y.1).isSome = true) := fun ⟨n, v⟩ hy => by
    rcases S.par n (List.of_mem_zip hy).1 with q | q
    . exact .inl q
    . exact .inr ⟨q, PySem.W.cellsFrom_some _ _ _ (.inl q)⟩
  refine codeAny_call_function hr.depth (KX _ _ lk) rfl S.co S.gen rfl (PySem.W.codeRec_of KX hcd) (hb _ _ _ _ ?_)
  refine wpAny_newFunctionEnv_cells S.kind hkind fun env he s1 x => ?_
  subst he
  refine ⟨lim.keeps x.toInCall.keep, codeAny_func ?_⟩
  obtain ⟨t, ht, hq⟩ := hbody A outer s H vs Q E (hr.deeper _) hsp
  have I : Inv (qfJ CX P w K mg base N qual scope f cdv A outer s H E) [] (zn N vs) H s1 := qej S hr.hd e0 hl r x
  refine wpAny_mono (ht [] s1 (zn N vs) H _ I hq) (fun fl s' hs => ?_) fun e s' hs => hs
  have fin : ∀ {σ' : St} {H' : Hp} {v : V} {u : Value}, Inv (qfJ CX P w K mg base N qual scope f cdv A outer s H E) [] σ' H' s' -> ju v u -> Q v H' -> CE outer P w H s Q u s' :=
    fun {σ' H' v u} J rv q => ⟨v, H', J.os, J.bare, J.base, J.hok, rv, q⟩
  cases fl with
  | ret u =>
    obtain ⟨v, σ', H', J, rv, q⟩ := hs
    exact fin J rv q
  | next =>
    obtain ⟨σ', H', J, q⟩ := hs
    exact fin (v := V.non) (u := Value.none) J rfl q
  | brk =>
    obtain ⟨_, _, _, q⟩ := hs
    exact False.elim q
  | cont =>
    obtain ⟨_, _, _, q⟩ := hs
    exact False.elim q
end L2
namespace L2
open PySem PySem.Spec PyProof.Rows
section
variable {X : Cx} {x : Str} {p pos : Pos} {e : Expr} {es : List Expr} {t : TA} {id T : String} {r : List V -> Hp -> VK -> Prop}
def tCB (r : List V -> Hp -> VK -> Prop) (t : TA) : TE := fun σ H Q => t σ H fun vs H1 => r vs H1 Q
theorem vC (hc : jN X (.builtin id) r) (hg : Gl X x) (hm : X.mg x = none) (hv : bootBuiltins x = some (.builtin id)) (ha : PA X (e :: es) t) (hn : x ≠ "__name__" := by decide) (hdb : (x == ("__debug__" : Str)) = false := by decide)
    (he : starEach (e :: es) X.env = (false, eval e X.env) :: starEach es X.env := by rfl) (hpl : (backTo pos (starEach es X.env)).any (·.1) = false := by rfl) : PE X (.Call (.Name x p) (e :: es) [] pos) (tCB r t) := by
  intro pins s σ H Q I h
  refine wpAny_Call_Name_kw (vk I hg hm hv ?_ hn hdb)
  exact PyProof.Rows.callWith_builtin1 (thn (ha pos pins s σ H _ I h) fun us s1 ⟨vs, H1, I1, r1, q1⟩ => hc pins s1 σ H1 vs us Q I1 r1 q1) he hpl
theorem qek (hc : jN X (.type T) r) (hg : Gl X x) (hm : X.mg x = none) (hv : bootBuiltins x = some (.type T)) (ha : PA X (e :: es) t) (hn : x ≠ "__name__" := by decide) (hdb : (x == ("__debug__" : Str)) = false := by decide)
    (he : starEach (e :: es) X.env = (false, eval e X.env) :: starEach es X.env := by rfl) (hpl : (backTo pos (starEach es X.env)).any (·.1) = false := by rfl) : PE X (.Call (.Name x p) (e :: es) [] pos) (tCB r t) := by
  intro pins s σ H Q I h
  refine wpAny_Call_Name_kw (vk I hg hm hv ?_ hn hdb)
  exact PyProof.Rows.callWith_type1 (thn (ha pos pins s σ H _ I h) fun us s1 ⟨vs, H1, I1, r1, q1⟩ => hc pins s1 σ H1 vs us Q I1 r1 q1) he hpl
end
end L2
namespace HT
open PySem PyProof.Rows
def lexLt : List Int -> List Int -> Bool
  | [], [] => false
  | [], _ :: _ => true
  | _ :: _, [] => false
  | x :: xs, y :: ys => if x = y then lexLt xs ys else decide (x < y)
theorem qds (x y : Int) (xs ys : List Int) : lexLt (x :: xs) (y :: ys) = if x = y then lexLt xs ys else decide (x < y) := rfl
theorem qah : lexLt [] [] = false := rfl
theorem wH (y : Int) (ys : List Int) : lexLt [] (y :: ys) = true := rfl
theorem wJ (x : Int) (xs : List Int) : lexLt (x :: xs) [] = false := rfl
theorem qfX (A : Around) (s : Shared) (a : Int) (t : Tok) (c : Int) (u : Tok) : ∃ e, SeqAt.EqAt A s (.int a t) (.int c u) e /\ (e = true ↔ a = c) :=
  ⟨(a == c), SeqAt.EqAt.int_int a t c u, by simp⟩
theorem qfY (A : Around) (s : Shared) (a : Int) (t : Tok) (c : Int) (u : Tok) (prog : Program) (w : World) (E : Value -> Shared -> Prop) (Q : Value -> Shared -> Prop) (h : Q (.bool (decide (a < c))) s) :
    wpAny (model prog w) A (richCompare .Lt (.int a t) (.int c u)) Q E s :=
  (PyProof.Rows.lt_int h : wpAny (model prog w) A (compareOp .Lt (.int a t) (.int c u)) Q E s)
section
open PySem.SeqAt
open PySem.AutoSeq1 (wpAny_loadPart')
open PySem.MeetsSeq PySem.MeetsSeq2 PySem.MeetsSeq3
theorem qai (l b : Addr) (items items2 : Array Value) (n n2 : Nat) (dd dd2 : Option Addr) (sl sl2 : Array (Option Value)) (ns ms : List Int) (hi : IntsAre items.toList ns) (hj : IntsAre items2.toList ms) :
    Meets (Builtin.«tuple.__lt__» ⟨[.ref l, .ref b], []⟩)
      (fun _ R s => s.heap.get? l = some { cls := .type "tuple", dict := dd, data := .seq items n, slots := sl } /\ s.heap.get? b = some { cls := .type "tuple", dict := dd2, data := .seq items2 n2, slots := sl2 } /\
        R (.ok (.ret (.bool (lexLt ns ms)))) s) :=
  .of_wp fun prog w A R s h => by
    obtain ⟨hp, g, d, tk, os⟩ := s; obtain ⟨hl, hb, h⟩ := h
    have f2 := AutoSeq1.sub_tuple_tuple
    have z1 : items.size = ns.length := by rw [<- hi.length]; simp
    have z2 : items2.size = ms.length := by rw [<- hj.length]; simp
    wp_walk using wpAny_loadPart' hl, wpAny_loadPart' hb, wpAny_forIn_list _ (fun zQ b s' => b.1 = none /\ s' = ⟨hp, g, d, tk, os⟩ /\ ∃ (vs ws : List Value) (ns' ms' : List Int), zQ = vs.zip ws /\
      IntsAre vs ns' /\ IntsAre ws ms' /\ ns'.length + items2.size = ms'.length + items.size /\ R (.ok (.ret (.bool (lexLt ns' ms')))) ⟨hp, g, d, tk, os⟩) _
    case turn =>
      rintro ⟨y, x⟩ zQ b s' ⟨hb', rfl, vs, ws, ns', ms', hz, hvi, hwi, hlen, hR⟩
      cases hvi with
      | nil => rw [List.zip_nil_left] at hz; cases hz
      | cons a t hvi' =>
        cases hwi with
        | nil => rw [List.zip_nil_right] at hz; cases hz
        | cons c u hwi' =>
          rw [List.zip_cons_cons] at hz
          injection hz with hyx hrest
          injection hyx with hy hx
          subst hy hx
          rw [qds] at hR
          simp only [List.length_cons] at hlen
          obtain ⟨e, he, hiff⟩ := qfX A.in1 ⟨hp, g, d, tk, os⟩ a t c u
          refine wpAny_bind (he prog w _ _ ?_)
          cases e with
          | true =>
            rw [if_pos (hiff.mp rfl)] at hR
            wp_walk
            exact ⟨rfl, rfl, _, _, _, _, hrest, hvi', hwi', by omega, hR⟩
          | false =>
            rw [if_neg (fun q => absurd (hiff.mpr q) Bool.false_ne_true)] at hR
            have hri := qfY A.in1 ⟨hp, g, d, tk, os⟩ a t c u prog w
            wp_walk using hri
            exact ⟨_, rfl, by simpa using hR⟩
    case fin =>
      rintro ⟨b1, b2⟩ s' ⟨hb', rfl, vs, ws, ns', ms', hz, hvi, hwi, hlen, hR⟩
      simp only at hb'
      subst hb'
      have hv : lexLt ns' ms' = decide (items.size < items2.size) := by
        cases hvi with
        | nil =>
          cases hwi with
          | nil =>
            simp only [List.length_nil] at hlen
            rw [qah]
            exact (decide_eq_false (by omega)).symm
          | cons c u hw =>
            simp only [List.length_nil, List.length_cons] at hlen
            rw [wH]
            exact (decide_eq_true (by omega)).symm
        | cons a t hv =>
          cases hwi with
          | nil =>
            simp only [List.length_nil, List.length_cons] at hlen
            rw [wJ]
            exact (decide_eq_false (by omega)).symm
          | cons c u hw =>
            rw [List.zip_cons_cons] at hz
            cases hz
      rw [hv] at hR
      wp_walk
      exact ⟨_, rfl, by simpa [Builtin.Tuple.tupleCompareSizes] using hR⟩
    case h =>
      exact ⟨rfl, rfl, items.toList, items2.toList, ns, ms, rfl, hi, hj, by omega, h⟩
end
section
variable {prog : Program} {w : World} {A : Around} {E : Value -> Shared -> Prop} {s : Shared}
theorem lt_tupInts {l b : Addr} {items items2 : Array Value} {ns ms : List Int} {Q : Value -> Shared -> Prop} (hl : IsTup s.heap l items) (hb : IsTup s.heap b items2) (hi : IntsAre items.toList ns) (hj : IntsAre items2.toList ms)
    (hu : A.units < cLine) (h : Q (.bool (lexLt ns ms)) s) : wpAny (model prog w) A (compareOp .Lt (.ref l) (.ref b)) Q E s := by
  obtain ⟨⟨cls, dd, data, sl⟩, ho, hc, n, hd⟩ := id hl
  obtain ⟨⟨cls2, dd2, data2, sl2⟩, ho2, hc2, n2, hd2⟩ := id hb
  simp only at hc hd hc2 hd2
  subst hc hd hc2 hd2
  exact richCompare_meets_room (op := .Lt) ⟨_, ho, rfl⟩ ⟨_, ho2, rfl⟩ PySem.F.slot_tuple_lt PySem.F.entry_tuple_lt (PySem.F.args_tuple_lt_2 _ _) (qai l b items items2 n n2 dd dd2 sl sl2 ns ms hi hj)
    ⟨ho, ho2, show Value.bool (lexLt ns ms) ≠ Value.notImplemented /\ Q (.bool (lexLt ns ms)) s from ⟨(fun x => nomatch x), h⟩⟩ hu
theorem cat_tup {t b : Addr} {vs ws : List Value} {Q : Value -> Shared -> Prop} (ht : IsTup s.heap t vs.toArray) (hb : IsTup s.heap b ws.toArray) (hv : vs ≠ [])
    (h1 : ws = [] -> Q (.ref t) s) (h2 : ws ≠ [] -> Q (.ref s.heap.objs.size) { s with heap := s.heap.push { cls := .type "tuple", data := .seq (vs ++ ws).toArray } })
    (hsz : vs.length + ws.length <= sizeLine) : wpAny (model prog w) A (binaryOp .Add (.ref t) (.ref b)) Q E s := by
  obtain ⟨⟨cls, dd, data, sl⟩, ho, hc, n, hd⟩ := id ht
  obtain ⟨⟨cls2, dd2, data2, sl2⟩, ho2, hc2, n2, hd2⟩ := id hb
  simp only at hc hd hc2 hd2
  subst hc hd hc2 hd2
  have e : vs.toArray ++ ws.toArray = (vs ++ ws).toArray := by simp
  by_cases hw : ws = []
  . exact concat_meets ⟨_, ho, rfl⟩ ⟨_, ho2, rfl⟩ noFill_tuple_add seq_tuple_add PySem.F.slot_tuple_add PySem.F.entry_tuple_add (PySem.F.args_tuple_add_2 _ _)
      (tuple_addW1 t b vs.toArray ws.toArray n n2 dd dd2 sl sl2 (by simpa using hv) (by simp [hw])) ⟨ho, ho2, h1 hw⟩
  . refine concat_meets ⟨_, ho, rfl⟩ ⟨_, ho2, rfl⟩ noFill_tuple_add seq_tuple_add PySem.F.slot_tuple_add PySem.F.entry_tuple_add (PySem.F.args_tuple_add_2 _ _)
      (tuple_addW2 t b vs.toArray ws.toArray n n2 dd dd2 sl sl2 (by simpa using hv) (by simpa using hw) (by rw [List.size_toArray, List.size_toArray]; exact hsz)) ⟨ho, ho2, ?_⟩
    rw [e]
    exact h2 hw
def sIx (n d : Nat) : Option Int -> Nat
  | none => d
  | some v => if v < 0 then (v + (n : Int)).toNat else min v.toNat n
end
end HT
namespace L2
open PySem PySem.Spec PyProof.Rows
theorem yr {ns : List Int} : ∀ {us : List Value}, qQ (ns.map V.int) us -> IntsAre us ns := by
  induction ns with
  | nil => intro us r; rw [List.map_nil] at r; cases r; exact .nil
  | cons n ns ih =>
    intro us r
    rw [List.map_cons] at r
    cases r with
    | cons r1 r2 =>
      obtain ⟨t, e⟩ := r1
      subst e
      exact .cons n t (ih r2)
section
variable {X : Cx} {e : Expr} {te : TE} {lo hi : Option Expr} {tl th : TO} {pos p2 : Pos}
def SlR (X : Cx) (r : V -> Option Int -> Option Int -> Hp -> VK -> Prop) : Prop :=
  ∀ (pins : List (Addr × Obj)) (s : Shared) (σ : St) (H : Hp) (x : V) (v vl vu : Value) (lo hi : Option Int) (sl : Addr) (Q : VK), Inv X pins σ H s -> ju x v -> s.heap.IsSliceOf sl vl vu .none -> IsPart vl lo -> IsPart vu hi -> r x lo hi H Q ->
    ∃ T id, typeLookup (.type T) "__getitem__" = pure (some (.builtin id)) /\ s.TypeIs v T /\ wpAny (model X.prog X.w) X.A (getItem v (.ref sl)) (EP X pins σ Q) X.xe s
theorem SlR.or {r r' : V -> Option Int -> Option Int -> Hp -> VK -> Prop} (h : SlR X r) (h' : SlR X r') : SlR X (fun x lo hi H Q => r x lo hi H Q \/ r' x lo hi H Q) := by
  intro pins s σ H x v vl vu lo hi sl Q I rx hs pl pu q
  rcases q with q | q
  . exact h pins s σ H x v vl vu lo hi sl Q I rx hs pl pu q
  . exact h' pins s σ H x v vl vu lo hi sl Q I rx hs pl pu q
def qk9 (xs : List V) (lo hi : Option Int) : List V := (xs.drop (HT.sIx xs.length 0 lo)).take (HT.sIx xs.length xs.length hi - HT.sIx xs.length 0 lo)
theorem qbZ (xs : List V) (lo hi : Option Int) : (qk9 xs lo hi).length <= xs.length := by
  unfold qk9
  rw [List.length_take, List.length_drop]
  omega
def qjP (K : PySem.W.Frag) : R2 := fun x y H Q => ∃ a b xs ys, x = .ref a /\ y = .ref b /\ SqT K H a xs /\ SqT K H b ys /\ xs ≠ [] /\ xs.length + ys.length <= sizeLine /\
  (ys = [] -> Q (.ref a) H) /\ (ys ≠ [] -> ∀ p, H p = none -> Q (.ref p) (upd H p (.tup (xs ++ ys))))
theorem qQ.nil_iff {xs : List V} {us : List Value} (r : qQ xs us) : us = [] ↔ xs = [] := by
  cases r with
  | nil => simp
  | cons _ _ => simp
theorem qhZ : OpR X (binaryOp .Add) (qjP X.K) := by
  intro pins s σ H x y v u Q I rx ry h
  obtain ⟨a, b, xs, ys, rfl, rfl, ha, hb, hx, hz, q1, q2⟩ := h
  cases rx
  cases ry
  obtain ⟨its, r1, p1, _⟩ := I.tuple ha
  obtain ⟨its2, r2, p2, _⟩ := I.tuple hb
  refine HT.cat_tup p1 p2 (fun z => hx (r1.nil_iff.mp z)) (fun z => ⟨.ref a, H, I, rfl, q1 (r2.nil_iff.mp z)⟩) (fun z => ?_) (by rw [<- r1.length, <- r2.length]; exact hz)
  refine ⟨.ref s.heap.objs.size, _, I.laid (t' := s.toks) (o := .tup (xs ++ ys)) (fun b ob q => Heap.get?_push_of_some _ q) (Nat.le_refl _) ?_, rfl, q2 (fun w => z (r2.nil_iff.mpr w)) _ (I.hok.fresh (Nat.le_refl _))⟩
  exact ⟨by rw [List.length_append]; exact hz, _, r1.append r2, IsTup.new _ _⟩
end
end L2
namespace L2
open PySem PySem.Spec PyProof.Rows
def ixN (n : Nat) (i : Int) : Option Nat := if 0 <= i then (if i < n then some i.toNat else none) else if -(n : Int) <= i then some (i + n).toNat else none
def atI {α : Type} (xs : List α) (i : Int) : Option α := (ixN xs.length i).bind fun j => xs[j]?
theorem qel {n : Nat} {i : Int} {j : Nat} (h : ixN n i = some j) : seqIndex? i n = some j /\ j < n /\ -(n : Int) <= i /\ i < n := by
  unfold ixN at h
  by_cases h0 : 0 <= i
  . rw [if_pos h0] at h
    by_cases h1 : i < n
    . rw [if_pos h1] at h
      have e : i.toNat = j := Option.some.inj h
      exact ⟨by rw [seqIndex_of h0 h1, e], by omega, by omega, h1⟩
    . rw [if_neg h1] at h; cases h
  . rw [if_neg h0] at h
    by_cases h1 : -(n : Int) <= i
    . rw [if_pos h1] at h
      have e : (i + n).toNat = j := Option.some.inj h
      exact ⟨by rw [seqIndex_neg (by omega) h1, e], by omega, h1, by omega⟩
    . rw [if_neg h1] at h; cases h
theorem qem {α : Type} {xs : List α} {i : Int} {v : α} (h : atI xs i = some v) : ∃ j, seqIndex? i xs.length = some j /\ xs[j]? = some v /\ j < xs.length /\ -(xs.length : Int) <= i /\ i < xs.length := by
  unfold atI at h
  cases e : ixN xs.length i with
  | none => rw [e] at h; cases h
  | some j =>
    rw [e] at h
    obtain ⟨h1, h2, h3, h4⟩ := qel e
    exact ⟨j, h1, h, h2, h3, h4⟩
def qb0 (b : Expr) : Prop := ∀ o i, subscripted b false o i = operate [o, i] (getItem o i)
def IxR (X : Cx) (r : R2) : Prop :=
  ∀ (value slice : Expr) (pins : List (Addr × Obj)) (s : Shared) (σ : St) (H : Hp) (x y : V) (v u : Value) (Q : VK), Inv X pins σ H s -> ju x v -> ju y u -> r x y H Q ->
    subscripted slice false v u = operate [v, u] (getItem v u) -> wpAny (model X.prog X.w) X.A (subscriptTail value slice v u) (EP X pins σ Q) X.xe s
def MtR (X : Cx) (id : String) (r : V -> List V -> Hp -> VK -> Prop) : Prop :=
  ∀ (pins : List (Addr × Obj)) (s : Shared) (σ : St) (H : Hp) (x : V) (xs : List V) (v : Value) (us : List Value) (Q : VK), Inv X pins σ H s -> ju x v -> qQ xs us -> r x xs H Q ->
    wpAny (model X.prog X.w) X.A (call (.builtin id) (v :: us)) (EP X pins σ Q) X.xe s
section
variable {X : Cx} {a b : Expr} {ta tb : TE} {pos : Pos}
theorem IxR.or {r r' : R2} (h : IxR X r) (h' : IxR X r') : IxR X (fun x y H Q => r x y H Q \/ r' x y H Q) := by
  intro value slice pins s σ H x y v u Q I rx ry q hs
  rcases q with q | q
  . exact h value slice pins s σ H x y v u Q I rx ry q hs
  . exact h' value slice pins s σ H x y v u Q I rx ry q hs
theorem MtR.or {id : String} {r r' : V -> List V -> Hp -> VK -> Prop} (h : MtR X id r) (h' : MtR X id r') : MtR X id (fun x xs H Q => r x xs H Q \/ r' x xs H Q) := by
  intro pins s σ H x xs v us Q I rx rs q
  rcases q with q | q
  . exact h pins s σ H x xs v us Q I rx rs q
  . exact h' pins s σ H x xs v us Q I rx rs q
theorem qjQ {r : R2} (hr : IxR X r) (ha : PE X a ta) (hb : PE X b tb) (hs : qb0 b) : PE X (.Subscript a b pos) (tOp r ta tb) := by
  intro pins s σ H Q I h
  exact Subscript_ (qlt ha hb I h fun v u s2 x y H2 I2 rx ry q => hr a b pins s2 σ H2 x y v u Q I2 rx ry q (hs _ _))
def qlD (K : PySem.W.Frag) : R2 := fun x y H Q => ∃ p xs i v, x = .ref p /\ y = .int i /\ SqL K H p xs /\ atI xs i = some v /\ Q v H
def qlE (K : PySem.W.Frag) : R2 := fun x y H Q => ∃ p xs i v, x = .ref p /\ y = .int i /\ SqT K H p xs /\ atI xs i = some v /\ Q v H
theorem qen : IxR X (qlD X.K) := by
  intro value slice pins s σ H x y v u Q I rx ry h hs
  obtain ⟨p, xs, i, z, rfl, rfl, hq, he, q⟩ := h
  cases rx
  obtain ⟨t, rfl⟩ := ry
  obtain ⟨its, r, pl, hz⟩ := I.list hq
  obtain ⟨j, h1, h2, h3, h4, h5⟩ := qem he
  obtain ⟨w, ew, rw'⟩ := r.get h2
  have hl := r.length
  have hn := vL
  have fin : EP X pins σ Q w s := ⟨z, H, I, rw', q⟩
  by_cases h0 : 0 <= i
  . have hj : i.toNat = j := by
      rw [seqIndex_of h0 h5] at h1
      exact Option.some.inj h1
    exact item_listR pl.isList h0 (by omega) (by rw [hj]; simpa using ew) fin hs
  . have hj : (i + (its.toArray.size : Int)).toNat = j := by
      rw [seqIndex_neg (by omega) h4] at h1
      rw [List.size_toArray, <- hl]
      exact Option.some.inj h1
    exact subscriptTail_builtinR (x := w) pl.isList.typeIs slot_list_getitem.lookup
      (wpAny_getItem_list_neg (Q := fun r s' => r = w /\ EP X pins σ Q r s') pl.isList (by omega) (by rw [List.size_toArray] <;> omega) (by omega) (by rw [hj]; simpa using ew) ⟨rfl, fin⟩) hs
theorem qjR : IxR X (qlE X.K) := by
  intro value slice pins s σ H x y v u Q I rx ry h hs
  obtain ⟨p, xs, i, z, rfl, rfl, hq, he, q⟩ := h
  cases rx
  obtain ⟨t, rfl⟩ := ry
  obtain ⟨its, r, pl, hz⟩ := I.tuple hq
  obtain ⟨j, h1, h2, h3, h4, h5⟩ := qem he
  obtain ⟨w, ew, rw'⟩ := r.get h2
  have hl := r.length
  have hn := vL
  have fin : EP X pins σ Q w s := ⟨z, H, I, rw', q⟩
  exact subscriptTail_builtinR (x := w) pl.typeIs slot_tuple_getitem.lookup
    (getItem_tuple (j := j) (Q := fun r s' => r = w /\ EP X pins σ Q r s') pl (by omega) (by omega) (by rw [List.size_toArray, <- hl]; exact h1) (by simpa using ew) ⟨rfl, fin⟩) hs
theorem qdt (its : List Value) (n j : Nat) (u : Value) : Obj.mapSeq (·.setIfInBounds j u) { cls := .type "list", data := .seq its.toArray n } = { cls := .type "list", data := .seq (its.set j u).toArray n } := by
  simp [Obj.mapSeq]
theorem Inv.lst {pins : List (Addr × Obj)} {σ : St} {H : Hp} {s : Shared} {p : Addr} {xs : List V} (I : Inv X pins σ H s) (h : H p = some (.lst xs)) :
    ∃ (its : List Value) (n : Nat), qQ xs its /\ s.heap.get? p = some { cls := .type "list", data := .seq its.toArray n } /\ xs.length <= sizeLine := by
  obtain ⟨z, its, n, r, e⟩ := I.hok p _ h
  exact ⟨its, n, r, e, z⟩
theorem Inv.lstUpd {pins : List (Addr × Obj)} {σ : St} {H : Hp} {s : Shared} {p : Addr} {xs ys : List V} {its its' : List Value} {n n' : Nat} {f : Obj -> Obj} (I : Inv X pins σ H s) (h : H p = some (.lst xs))
    (ho : s.heap.get? p = some { cls := .type "list", data := .seq its.toArray n }) (hf : f { cls := .type "list", data := .seq its.toArray n } = { cls := .type "list", data := .seq its'.toArray n' }) (r : qQ ys its') (hz : ys.length <= sizeLine) (t : Nat) :
    Inv X pins σ (upd H p (.lst ys)) { s with heap := s.heap.update p f, toks := t } := by
  have e : (s.heap.update p f).get? p = some { cls := .type "list", data := .seq its'.toArray n' } := by
    rw [Heap.get?_update_self f ho (by rw [hf] <;> rfl), hf]
  refine I.write (x := p) (e := p) (by rw [h]; trivial) (.inl rfl) (fun b u hb q => (Heap.get?_update_other _ _ (Ne.symm hb)).trans q) ⟨_, e⟩ ?_
  exact ⟨hz, its', n', r, e⟩
def qlF : V -> V -> V -> Hp -> (Hp -> Prop) -> Prop := fun o i v H Q => ∃ p xs k j, o = .ref p /\ i = .int k /\ H p = some (.lst xs) /\ ixN xs.length k = some j /\ Q (upd H p (.lst (xs.set j v)))
theorem qfZ : ql8 X qlF := by
  intro pins s σ H o i v ov iv u Q I ro ri rv h
  obtain ⟨p, xs, k, j, rfl, rfl, hp, hj, q⟩ := h
  cases ro
  obtain ⟨t, rfl⟩ := ri
  obtain ⟨its, n, r, ho, hz⟩ := I.lst hp
  obtain ⟨h1, h2, h3, h4⟩ := qel hj
  have hl := r.length
  have hn := vL
  have I' : Inv X pins σ (upd H p (.lst (xs.set j v))) { s with heap := s.heap.update p (Obj.mapSeq (·.setIfInBounds j u)) } :=
    I.lstUpd hp ho (qdt its n j u) (r.set rv j) (by rw [List.length_set]; exact hz) s.toks
  by_cases h0 : 0 <= k
  . have hk : k.toNat = j := by
      rw [seqIndex_of h0 h4] at h1
      exact Option.some.inj h1
    exact PySem.W.ki_setAt ho h0 (by omega) (by rw [List.size_toArray, <- hl]; exact h4) (by rw [hk]; exact ⟨_, I', q⟩)
  . have hk : (k + (its.toArray.size : Int)).toNat = j := by
      rw [seqIndex_neg (by omega) h3] at h1
      rw [List.size_toArray, <- hl]
      exact Option.some.inj h1
    exact PySem.W.ki_setBack ho (by omega) (by rw [List.size_toArray, <- hl]; exact h3) (by omega) (by rw [hk]; exact ⟨_, I', q⟩)
theorem qa8 (lo hi : Option Int) (n : Nat) : (sliceBounds lo hi none n).1 = ((HT.sIx n 0 lo : Nat) : Int) /\ (sliceBounds lo hi none n).2.1 = ((HT.sIx n n hi : Nat) : Int) /\ (sliceBounds lo hi none n).2.2 = 1 := by
  refine ⟨?_, ?_, rfl⟩
  . cases lo with
    | none => simp [sliceBounds, HT.sIx]
    | some i =>
      simp only [sliceBounds, HT.sIx, Option.getD_none, show (1 : Int) > 0 by decide, if_true]
      by_cases h : i < 0
      . simp only [h, if_true] <;> omega
      . simp only [h, if_false] <;> omega
  . cases hi with
    | none => simp [sliceBounds, HT.sIx]
    | some i =>
      simp only [sliceBounds, HT.sIx, Option.getD_none, show (1 : Int) > 0 by decide, if_true]
      by_cases h : i < 0
      . simp only [h, if_true] <;> omega
      . simp only [h, if_false] <;> omega
theorem qaj (its : List Value) (lo hi : Option Int) : slicePick its.toArray lo hi none = ((its.drop (HT.sIx its.length 0 lo)).take (HT.sIx its.length its.length hi - HT.sIx its.length 0 lo)).toArray := by
  obtain ⟨h1, h2, h3⟩ := qa8 lo hi its.toArray.size
  unfold slicePick
  rw [h1, h2, h3]
  simp only [sliceRange_one, pick_run, List.size_toArray] <;> rfl
def qmV (K : PySem.W.Frag) : V -> Option Int -> Option Int -> Hp -> VK -> Prop := fun x lo hi H Q => ∃ a xs, x = .ref a /\ SqL K H a xs /\ ∀ p, H p = none -> Q (.ref p) (upd H p (.lst (qk9 xs lo hi)))
theorem qlG : SlR X (qmV X.K) := by
  intro pins s σ H x v vl vu lo hi sl Q I rx hs pl pu h
  obtain ⟨a, xs, rfl, hx, q⟩ := h
  cases rx
  obtain ⟨its, r, ht, hz⟩ := I.list hx
  have hlen := r.length
  refine ⟨"list", _, slot_list_getitem.lookup, ht.isList.typeIs, ?_⟩
  refine wpAny_getItem_list_slice ht.isList hs pl pu .none (by simp) ?_ (by rw [List.size_toArray] <;> omega)
  rw [qaj, <- hlen]
  refine ⟨.ref s.heap.objs.size, _, I.laid (t' := s.toks) (o := .lst (qk9 xs lo hi)) (fun b ob q => Heap.get?_push_of_some _ q) (Nat.le_refl _) ?_, rfl, q _ (I.hok.fresh (Nat.le_refl _))⟩
  exact ⟨Nat.le_trans (qbZ xs lo hi) hz, _, 0, (r.drop (HT.sIx xs.length 0 lo)).take (HT.sIx xs.length xs.length hi - HT.sIx xs.length 0 lo), Heap.get?_push_size _ rfl⟩
def qmW : V -> Bool
  | .non => true
  | .bl _ => true
  | .int _ => true
  | .str _ => true
  | _ => false
def eqV : V -> V -> Bool
  | .non, .non => true
  | .bl a, .bl b => a == b
  | .bl a, .int b => (if a then 1 else 0) == b
  | .int a, .bl b => a == (if b then 1 else 0)
  | .int a, .int b => a == b
  | .str a, .str b => a == b
  | _, _ => false
theorem qa9 : jN X (.builtin "len") (fun xs H Q => ∃ p ys, xs = [.ref p] /\ (SqL X.K H p ys \/ SqT X.K H p ys) /\ Q (.int ys.length) H) := by
  intro pins s σ H xs us Q I r h
  obtain ⟨p, ys, rfl, hq, q⟩ := h
  obtain ⟨u, rfl, rx⟩ := qhV r
  cases rx
  have hn := vL
  rcases hq with hq | hq
  . obtain ⟨its, r', pl, hz⟩ := I.list hq
    have hlen := r'.length
    exact Calls.call_len_list pl.isList (by simp only [List.size_toArray] <;> omega) ⟨.int ys.length, H, I.tok _, ⟨s.toks + 1, by rw [List.size_toArray, hlen]⟩, q⟩
  . obtain ⟨its, r', pl, hz⟩ := I.tuple hq
    have hlen := r'.length
    exact len_tuple pl (by simp only [List.size_toArray] <;> omega) ⟨.int ys.length, H, I.tok _, ⟨s.toks + 1, by rw [List.size_toArray, hlen]⟩, q⟩
theorem qba : jN X (.builtin "len") (fun xs H Q => ∃ z, xs = [.str z] /\ z.length <= sizeLine /\ Q (.int z.length) H) := by
  intro pins s σ H xs us Q I r h
  obtain ⟨z, rfl, hz, q⟩ := h
  obtain ⟨u, rfl, t, rfl⟩ := qhV r
  have hn := vL
  exact len_str (by omega) ⟨.int z.length, H, I.tok _, ⟨_, rfl⟩, q⟩
theorem jN.or {f : Value} {r r' : List V -> Hp -> VK -> Prop} (h : jN X f r) (h' : jN X f r') : jN X f (fun xs H Q => r xs H Q \/ r' xs H Q) := by
  intro pins s σ H xs us Q I rs q
  rcases q with q | q
  . exact h pins s σ H xs us Q I rs q
  . exact h' pins s σ H xs us Q I rs q
theorem qak : jN X (.type "tuple") (fun xs H Q => ∃ p ys, xs = [.ref p] /\ ((SqL X.K H p ys /\ ∀ l, H l = none -> Q (.ref l) (upd H l (.tup ys))) \/ (SqT X.K H p ys /\ Q (.ref p) H))) := by
  intro pins s σ H xs us Q I r h
  obtain ⟨p, ys, rfl, h⟩ := h
  obtain ⟨u, rfl, rx⟩ := qhV r
  cases rx
  rcases h with ⟨hq, q⟩ | ⟨hq, q⟩
  . obtain ⟨its, r', pl, hz⟩ := I.list hq
    have hlen := r'.length
    refine call_tuple_list pl.isList (fun h' kp => ?_) (by simp only [List.size_toArray] <;> omega)
    have I1 : Inv X pins σ H { s with heap := h' } := I.kept (t' := s.toks) kp
    have I2 : Inv X pins σ (upd H h'.objs.size (.tup ys)) { s with heap := h'.push { cls := .type "tuple", data := .seq its.toArray } } :=
      I1.laid (t' := s.toks) (fun b o e => Heap.get?_push_of_some _ e) (Nat.le_refl _) (show jM X.prog X.w _ _ _ (.tup ys) from ⟨hz, its, r', IsTup.new _ _⟩)
    exact ⟨.ref h'.objs.size, _, I2, rfl, q _ (I1.hok.fresh (Nat.le_refl _))⟩
  . obtain ⟨its, r', pl, hz⟩ := I.tuple hq
    exact call_tuple_same pl ⟨.ref p, H, I, rfl, q⟩
def tyV (K : PySem.W.Frag) (T : String) (x : V) (H : Hp) : Prop := match x with
  | .str _ => T = "str"
  | .int _ => T = "int"
  | .ref p => (T = "list" /\ ∃ xs, SqL K H p xs) \/ (T = "tuple" /\ ∃ o, K.lookup p = some o /\ o.cls = .type "tuple" /\ o.dict = none) \/
      (T = "dict" /\ ((∃ kvs, H p = some (.dK kvs)) \/ ∃ kvs, H p = some (.dT kvs))) \/ (T = "set" /\ ∃ S n, H p = some (.set S n))
  | _ => False
theorem qjS {pins : List (Addr × Obj)} {σ : St} {H : Hp} {s : Shared} {T : String} {x : V} {v : Value} (I : Inv X pins σ H s) (r : ju x v) (ty : tyV X.K T x H) :
    s.TypeIs v T /\ ∀ a, v = .ref a -> ∃ ob, s.heap.get? a = some ob /\ ob.dict = none := by
  cases x with
  | str z =>
    obtain ⟨t, rfl⟩ := r
    cases (show T = "str" from ty)
    exact ⟨typeIs_str s z t, fun _ e => nomatch e⟩
  | int i =>
    obtain ⟨t, rfl⟩ := r
    cases (show T = "int" from ty)
    exact ⟨typeIs_int s i t, fun _ e => nomatch e⟩
  | ref p =>
    cases r
    rcases ty with ⟨rfl, xs, hq⟩ | ⟨rfl, o, hk, hc, hd⟩ | ⟨rfl, hk⟩ | ⟨rfl, S, n, hk⟩
    . obtain ⟨its, _, pl, _⟩ := I.list hq
      refine ⟨pl.isList.typeIs, fun a e => ?_⟩
      cases e
      obtain ⟨o, n, e, c, hd, _⟩ := pl
      exact ⟨o, e, hd⟩
    . refine ⟨⟨o, I.kIn p o hk, hc⟩, fun a e => ?_⟩
      cases e
      exact ⟨o, I.kIn _ o hk, hd⟩
    . have z : ∃ o, s.heap.get? p = some o /\ o.ExactDict := by
        rcases hk with ⟨kvs, hk⟩ | ⟨kvs, hk⟩
        . obtain ⟨_, _, _, _, o, _, _, e, ex, _⟩ := I.hok p _ hk
          exact ⟨o, e, ex⟩
        . obtain ⟨_, _, _, _, o, _, _, e, ex, _⟩ := I.hok p _ hk
          exact ⟨o, e, ex⟩
      obtain ⟨o, e, ex⟩ := z
      refine ⟨⟨o, e, ex.1⟩, fun a e2 => ?_⟩
      cases e2
      exact ⟨o, e, ex.2.1⟩
    . obtain ⟨o, _, _, _, e, ex, _⟩ := I.hok p _ hk
      refine ⟨⟨o, e, ex.1⟩, fun a e2 => ?_⟩
      cases e2
      exact ⟨o, e, ex.2.1⟩
  | _ => exact False.elim ty
def tBM (K : PySem.W.Frag) (T : String) (r : V -> List V -> Hp -> VK -> Prop) (to : TE) (t : TA) : TE := fun σ H Q => to σ H fun x H1 => tyV K T x H1 /\ t σ H1 fun xs H2 => r x xs H2 Q
variable {o e : Expr} {es : List Expr} {to : TE} {t : TA} {name : Str} {apos cpos : Pos} {T id : String} {r : V -> List V -> Hp -> VK -> Prop}
theorem qjT (pa : PlainAttrs T) (slot : Slot T name id) (hty : typeOf (.builtin id) = pure (.type "method_descriptor")) (hm : MtR X id r) (ho : PE X o to) (ha : PA X (e :: es) t)
    (hbase : attributeBase o name X.env (eval o X.env) = eval o X.env := by rfl)
    (hfew : ((backTo cpos (starEach (e :: es) X.env)).all (fun x => !x.1) && (backToKw cpos (keywordEach [] X.env)).all (fun x => x.1.isSome)
      && decide ((e :: es).length + ([] : List Keyword).length + (if ([] : List Keyword).isEmpty then 0 else 1) < 30)) = true := by rfl)
    (hline : (apos.endLine == cpos.line) = true := by rfl) (hs : starEach (e :: es) X.env = (false, eval e X.env) :: starEach es X.env := by rfl) (hplain : (backTo cpos (starEach es X.env)).any (·.1) = false := by rfl) :
    PE X (.Call (.Attribute o name apos) (e :: es) [] cpos) (tBM X.K T r to t) := by
  intro pins s σ H Q I h
  refine wpAny_Call_method_late hbase hfew hline rfl (thn (ho pins s σ H _ I h) fun v s1 ⟨x, H1, I1, r1, ty, q1⟩ => ?_)
  obtain ⟨h1, h2⟩ := qjS I1 r1 ty
  refine ⟨T, id, pa, slot, hty, h1, h2, ?_⟩
  have hA := ha cpos pins s1 σ H1 _ I1 q1
  rw [hs] at hA |-
  refine Calls.callWith_builtin (by show (false || (backTo cpos (starEach es X.env)).any (·.1)) = false; rw [hplain] <;> rfl) (Calls.evalArgs_plain ?_)
  exact thn hA fun us s2 ⟨vs, H2, I2, r2, q2⟩ => hm pins s2 σ H2 x vs v us Q I2 r1 r2 q2
/- xs.append(e), list.index on a module's tuple .. are MtR facts of 06m -/
end
end L2
namespace L2
open PySem PySem.Spec PyProof.Rows
def MtM (X : Cx) (id : String) (r : V -> List V -> Hp -> VK -> Prop) : Prop :=
  ∀ (pins : List (Addr × Obj)) (s : Shared) (σ : St) (H : Hp) (x : V) (xs : List V) (v : Value) (us : List Value) (Q : VK), Inv X pins σ H s -> ju x v -> qQ xs us -> r x xs H Q ->
    wpAny (model X.prog X.w) X.A (call (.builtin id) (v :: us)) (EP X pins σ Q) X.xe s
theorem qQ.one : ∀ {x : V} {us : List Value}, qQ [x] us -> ∃ u, us = [u] /\ ju x u
  | _, _, .cons r .nil => ⟨_, rfl, r⟩
theorem qQ.two : ∀ {x y : V} {us : List Value}, qQ [x, y] us -> ∃ u v, us = [u, v] /\ ju x u /\ ju y v
  | _, _, _, .cons r (.cons q .nil) => ⟨_, _, rfl, r, q⟩
theorem qQ.reverse {xs : List V} {us : List Value} (h : qQ xs us) : qQ xs.reverse us.reverse := by
  induction h with
  | nil => exact .nil
  | cons r t ih => rw [List.reverse_cons, List.reverse_cons]; exact qQ.append ih (.cons r .nil)
theorem qQ.rep {xs : List V} {us : List Value} (h : qQ xs us) : ∀ k : Nat, qQ (List.replicate k xs).flatten (List.replicate k us).flatten
  | 0 => .nil
  | k + 1 => by
    rw [List.replicate_succ, List.replicate_succ, List.flatten_cons, List.flatten_cons]
    exact qQ.append h (qQ.rep h k)
theorem vQ (its : List Value) : ∀ (k : Nat) (acc : List Value),
    List.foldl (fun x1 x2 => x1 ++ x2) acc.toArray (List.replicate k its.toArray) = (acc ++ (List.replicate k its).flatten).toArray
  | 0, acc => by simp
  | k + 1, acc => by
    have e : acc.toArray ++ its.toArray = (acc ++ its).toArray := by simp
    have e2 : (acc ++ its) ++ (List.replicate k its).flatten = acc ++ (List.replicate (k + 1) its).flatten := by
      rw [List.replicate_succ, List.flatten_cons, List.append_assoc]
    rw [<- e2, <- vQ its k (acc ++ its), <- e, List.replicate_succ, List.foldl_cons]
section
variable {X : Cx} {pins : List (Addr × Obj)} {σ : St} {H : Hp} {s : Shared} {l b : Addr} {xs ys zs : List V}
theorem Inv.lset {its its' : List Value} {n : Nat} {f : Array Value -> Array Value} {t' : Nat} (I : Inv X pins σ H s) (hH : H l = some (.lst xs))
    (e : s.heap.get? l = some { cls := .type "list", data := .seq its.toArray n }) (hf : f its.toArray = its'.toArray) (hv : qQ ys its') (hz : ys.length <= sizeLine) :
    Inv X pins σ (upd H l (.lst ys)) { s with heap := s.heap.update l (Obj.mapSeq f), toks := t' } := by
  have q := PySem.IsL.update e f
  rw [hf] at q
  refine I.write (x := l) (e := l) (by rw [hH]; exact trivial) (.inl rfl) (fun b' u hb hu => (Heap.get?_update_other s.heap (Obj.mapSeq f) (Ne.symm hb)).trans hu) ⟨_, q⟩ ?_
  exact ⟨hz, its', _, hv, q⟩
theorem Inv.lnew {its : List Value} {t' : Nat} (I : Inv X pins σ H s) (hv : qQ ys its) (hz : ys.length <= sizeLine) :
    Inv X pins σ (upd H s.heap.objs.size (.lst ys)) { s with heap := s.heap.push { cls := .type "list", data := .seq its.toArray }, toks := t' } :=
  I.laid (fun _ _ q => Heap.get?_push_of_some _ q) (Nat.le_refl _) ⟨hz, its, 0, hv, Heap.get?_push_size _ rfl⟩
theorem Inv.fresh (I : Inv X pins σ H s) : H s.heap.objs.size = none := I.hok.fresh (Nat.le_refl _)
theorem Inv.lstM (I : Inv X pins σ H s) (hH : H l = some (.lst xs)) : xs.length <= sizeLine /\ ∃ (its : List Value) (n : Nat), qQ xs its /\ xs.length = its.length /\ s.heap.get? l = some { cls := .type "list", data := .seq its.toArray n } := by
  obtain ⟨z, its, n, r, e⟩ := I.hok l _ hH
  exact ⟨z, its, n, r, r.length, e⟩
theorem qcx {n : Nat} (h : n <= sizeLine) : Builtin.List.listTooLong n = false := by
  unfold Builtin.List.listTooLong
  exact decide_eq_false (by omega)
end
section
variable {X : Cx}
def qh0 : V -> List V -> Hp -> VK -> Prop := fun x vs H Q => ∃ l xs y, x = .ref l /\ vs = [y] /\ H l = some (.lst xs) /\ xs.length < sizeLine /\ Q .non (upd H l (.lst (xs ++ [y])))
theorem uJ : MtM X "list.append" qh0 := by
  intro pins s σ H x vs v us Q I rx rv h
  obtain ⟨l, xs, y, rfl, rfl, hH, hz, q⟩ := h
  cases rx
  obtain ⟨u, rfl, ru⟩ := rv.one
  obtain ⟨z, its, n, r, hl, e⟩ := I.lstM hH
  refine call_meets F.slot_list_append ⟨_, e, rfl⟩ F.entry_list_append (F.args_list_append_2 _ _) (PySem.list_append l its.toArray n u (by rw [List.size_toArray]; omega)) ⟨e, ?_⟩
  refine ⟨.non, _, I.lset (its' := its ++ [u]) hH e (by simp) (r.append (.cons ru .nil)) ?_, rfl, q⟩
  rw [List.length_append, List.length_singleton]
  omega
def qh1 : V -> List V -> Hp -> VK -> Prop := fun x vs H Q => ∃ l b xs zs, x = .ref l /\ vs = [.ref b] /\ H l = some (.lst xs) /\ H b = some (.lst zs) /\ xs.length + zs.length <= sizeLine /\ Q .non (upd H l (.lst (xs ++ zs)))
theorem qjU : MtM X "list.extend" qh1 := by
  intro pins s σ H x vs v us Q I rx rv h
  obtain ⟨l, b, xs, zs, rfl, rfl, hH, hB, hz, q⟩ := h
  cases rx
  obtain ⟨u, rfl, ru⟩ := rv.one
  cases ru
  obtain ⟨z, its, n, r, hl, e⟩ := I.lstM hH
  obtain ⟨z2, its2, n2, r2, hl2, e2⟩ := I.lstM hB
  have hsz : its.toArray.size + its2.toArray.size <= sizeLine := by rw [List.size_toArray, List.size_toArray]; omega
  have hlong : ¬ (!its.toArray.isEmpty && Builtin.List.listTooLong (its.toArray.size + its2.toArray.size)) = true := by
    rw [qcx hsz, Bool.and_false]
    exact Bool.false_ne_true
  refine call_meets F.slot_list_extend ⟨_, e, rfl⟩ F.entry_list_extend (F.args_list_extend_2 _ _)
    (AutoSeq1.list_extend_list_list_0 l its.toArray n b its2.toArray n2 hlong (by rw [List.size_toArray]; omega) (by omega)) ⟨e, e2, ?_⟩
  refine ⟨.non, _, I.lset (its' := its ++ its2) hH e (by simp) (r.append r2) ?_, rfl, q⟩
  rw [List.length_append]
  omega
def qmc : R2 := fun x y H Q => ∃ l b xs zs, x = .ref l /\ y = .ref b /\ H l = some (.lst xs) /\ H b = some (.lst zs) /\ xs.length + zs.length <= sizeLine /\ ∀ p, H p = none -> Q (.ref p) (upd H p (.lst (xs ++ zs)))
theorem qjV : OpR X (binaryOp .Add) qmc := by
  intro pins s σ H x y v u Q I rx ry h
  obtain ⟨l, b, xs, zs, rfl, rfl, hH, hB, hz, q⟩ := h
  cases rx
  cases ry
  obtain ⟨z, its, n, r, hl, e⟩ := I.lstM hH
  obtain ⟨z2, its2, n2, r2, hl2, e2⟩ := I.lstM hB
  refine PySem.P.add_list e e2 ?_ (by rw [List.size_toArray, List.size_toArray]; omega)
  have ea : its.toArray ++ its2.toArray = (its ++ its2).toArray := by simp
  rw [ea]
  exact ⟨.ref _, _, I.lnew (t' := s.toks) (r.append r2) (by rw [List.length_append]; omega), rfl, q _ I.fresh⟩
def qmd : R2 := fun x y H Q => ∃ l k xs, x = .ref l /\ y = .int k /\ H l = some (.lst xs) /\ -(2 ^ 63) <= k /\ k < 2 ^ 63 /\ xs.length * k.toNat <= sizeLine /\
  ∀ p, H p = none -> Q (.ref p) (upd H p (.lst (List.replicate k.toNat xs).flatten))
theorem qb1 {α : Type} (xs : List α) (k : Nat) : (List.replicate k xs).flatten.length = k * xs.length := by
  induction k with
  | zero => simp
  | succ k ih => rw [List.replicate_succ, List.flatten_cons, List.length_append, ih, Nat.succ_mul, Nat.add_comm]
theorem qjW : OpR X (binaryOp .Mult) qmd := by
  intro pins s σ H x y v u Q I rx ry h
  obtain ⟨l, k, xs, rfl, rfl, hH, h1, h2, hz, q⟩ := h
  cases rx
  obtain ⟨t, rfl⟩ := ry
  obtain ⟨z, its, n, r, hl, e⟩ := I.lstM hH
  have hlen : its.toArray.size * k.toNat <= sizeLine := by rw [List.size_toArray, <- hl]; exact hz
  have hcap : ¬ its.toArray.size * k.toNat > (2 ^ 63 - 1) / 8 := by
    have : (sizeLine : Nat) <= (2 ^ 63 - 1) / 8 := by decide
    omega
  have hfit : ¬ (!Builtin.List.listFitsIndex k) = true := by
    rw [fitsIndex_both h1 h2]
    exact Bool.false_ne_true
  have hlong : ¬ Builtin.List.listTooLong (its.toArray.size * k.toNat) = true := by
    rw [qcx hlen]
    exact Bool.false_ne_true
  have hnew : List.foldl (fun x1 x2 => x1 ++ x2) #[] (List.replicate (if its.toArray.isEmpty = true then 0 else k.toNat) its.toArray) = (List.replicate k.toNat its).flatten.toArray := by
    have f0 : ∀ m : Nat, List.foldl (fun x1 x2 => x1 ++ x2) #[] (List.replicate m its.toArray) = (List.replicate m its).flatten.toArray := fun m => by
      have := vQ its m []
      rw [List.nil_append] at this
      exact this
    rw [f0]
    cases its with
    | nil => simp
    | cons a r' => rw [if_neg (by simp)]
  refine wpAny_binaryOp_repeat_ref (T := "list") (U := "int") (by decide) ⟨_, e, rfl⟩ (fun s' => typeIs_int s' k t) noFill_list_mul F.fills_int_mul F.slot_int_rmul repeat_list F.slot_int_index.lookup
    (call_meets F.slot_int_rmul (typeIs_int s k t) F.entry_int_rmul (F.args_int_rmul_2 _ _) (int___rmul___int_list k t l its.toArray n)
      ⟨e, rfl, ⟨_, e, rfl⟩, call_meets F.slot_list_mul ⟨_, e, rfl⟩ F.entry_list_mul (F.args_list_mul_2 _ _) (AutoListH.list___mul___list_int_3 l its.toArray n k t hfit hcap hlong) ⟨e, ?_⟩⟩)
  rw [hnew]
  exact ⟨.ref _, _, I.lnew (t' := s.toks) (r.rep k.toNat) (by rw [qb1, Nat.mul_comm]; exact hz), rfl, q _ I.fresh⟩
end
section
variable {prog : Program} {w : World} {A : Around} {E : Value -> Shared -> Prop} {s : Shared}
set_option maxRecDepth 100000 in
end
section
variable {X : Cx}
end
end L2
namespace Att
open PySem PySem.W PySem.Calls PyProof.Rows
theorem vR {P : Params} {h : Heap} : ∀ (ns : List Int) (vs : List Value), WellAll P h vs (ns.map WData.int) -> IntsAre vs ns := by
  intro ns
  induction ns with
  | nil =>
    intro vs w
    rw [List.map_nil] at w
    cases w
    exact .nil
  | cons n ns ih =>
    intro vs w
    rw [List.map_cons] at w
    cases w with
    | cons a b =>
      cases a
      exact .cons _ _ (ih _ b)
theorem qeo {l : OpenLaw} {n : Nat} (hn : l.most = some n) {P : Params} {h : Heap} {args : List WData} {vals : List Value}
    (hpre : l.row.toRowW.claim.pre args = true) (hwl : WellAll P h vals args) :
    ∃ a vs ns, vals = [Value.ref a] /\ args = [WData.list (ns.map WData.int)] /\ h.get? a = some { cls := .type "list", data := .seq vs.toArray } /\ IntsAre vs ns /\ ns.length <= n := by
  have hsh : WShape.hasAll [] args [.list .int] = true := (pre_splitW hpre).1
  have hc : l.pre.holds [] { args := args } = true := (pre_splitW hpre).2
  obtain ⟨d, r, rfl, h1, h2⟩ := hasAllW_cons hsh
  obtain rfl := hasAllW_nil h2
  obtain ⟨xs, rfl, h3⟩ := hasW_list h1
  obtain ⟨ns, rfl⟩ := items_int h3
  have hlen : ns.length <= n := by
    unfold OpenLaw.pre at hc
    have h4 : (WTm.not (.lt (.lit (.int (n : Int))) (.len (.arg 0)))).holds [] { args := [.list (ns.map .int)] } = true := by
      have h4 := (holds_andW hc).1
      rw [hn] at h4
      exact h4
    have h5 := condW_of h4 (w_not (w_lt w_lit (w_len_list (w_arg rfl))))
    rw [List.length_map] at h5
    refine Nat.le_of_not_lt fun q => ?_
    have q' : (n : Int) < ((ns.length : Nat) : Int) := by omega
    first
      | (rw [decide_eq_true q'] at h5; exact absurd h5 (by decide))
      | (simp at h5; omega)
  cases hwl with
  | cons w1 w2 =>
    cases w2
    cases w1 with
    | list ho hall => exact ⟨_, _, ns, rfl, rfl, ho, vR ns _ hall, hlen⟩
theorem qep (l : OpenLaw) (args : List WData) : l.row.toRowW.claim.post args (.bool true) args = true :=
  postW_of (r := l.row.toRowW) (X := (true == true))
    (show WShape.has [] (.bool true) .bool = true by first | rfl | decide | simp [WShape.has, WShape.arms, WShape.armsAll])
    (show (WTm.eq .res (.lit (.bool true))).value [] { args := args, res := some (.bool true), after := args } = some (.bool (true == true)) from w_eq_bool (w_res rfl) w_lit) rfl
theorem attach_call {l : OpenLaw} {n : Nat} {q : Program} {loose : List Str} {XP : (Str -> Option Value) -> Heap -> Prop} {YP : World -> Heap -> Prop} {d : DefRec}
    (hn : l.most = some n) (hdf : d.params.defaults = [])
    (call : ∀ (w : World) (s₀ s₁ : Shared) (mg mb : Str -> Option Value) (fa : Addr) (o : Obj) (pm cd doc : Value) (a : Addr) (vs : List Value) (ns : List Int),
      Ground q loose [] XP w s₀ mg mb s₁.heap -> YP w s₁.heap ->
      s₁.heap.get? fa = some o -> o.data = .func (docDef d.name d.params d.body d.scope pm cd doc) -> s₁.heap.CodeRec cd d.name -> mg d.name = some (.ref fa) ->
      s₁.heap.get? a = some { cls := .type "list", data := .seq vs.toArray } -> IntsAre vs ns -> ns.length <= n -> s₁.gens = #[] ->
      codeAny (model l.prog w) callerA (.call (.ref fa) ⟨[.ref a], []⟩) (fun r s' => r = .ok (.ret (.bool true)) /\ OldK s₁.heap s'.heap /\ s'.os = s₁.os /\ AllBare s'.gens) s₁) :
    WalkO q loose XP YP l.row.toRowW d [] (fun f vs => PySem.call f vs) := by
  intro w s₀ s₁ mg mb G Y fa o pm cd doc dV kV ho hd hcd hD hmg hg args vals as hpre hlay hrd hwl hlo
  obtain rfl : dV = .none := Dflts.none hD hdf
  obtain rfl : kV = .none := Dflts.noKw hD
  obtain ⟨a, vs, ns, rfl, rfl, hobj, hints, hlen⟩ := qeo hn hpre hwl
  refine enter_call (codeAny_mono (call w s₀ s₁ mg mb fa o pm cd doc a vs ns G Y ho (fd_plain hd) hcd hmg hobj hints hlen hg) fun r s' hq => ?_)
  obtain ⟨rfl, h2, h3, h4⟩ := hq
  exact ⟨.inl ⟨.bool true, .bool true, [], rfl, fun _ => rfl, .bool true, qep l _, fun _ => ⟨List.Pairwise.nil, fun _ hm => (nomatch hm)⟩⟩, h2, h3, h4⟩
section
variable {prog : Program} {w : World} {A : Around} {E : Value -> Shared -> Prop} {s : Shared} {K : Frag}
end
end Att
namespace L2
open PySem PySem.Spec PyProof.Rows
theorem qbb : ∀ {vs : List Value} {ns : List Int}, IntsAre vs ns -> qQ (ns.map V.int) vs
  | _, _, .nil => .nil
  | _, _, .cons n t h => .cons ⟨t, rfl⟩ (qbb h)
def qla (H : Hp) : Prop := ∀ b, H b = none \/ ∃ o xs, H b = some (.frz o (.lst xs))
theorem qf0 {P : Program} {w : World} {K : PySem.W.Frag} {mg mb : Str -> Option Value} {CX : CXT} {k : Nat} {fa a : Addr} {fd : FuncData} {x : Str} {sp : Sp} {s₁ : Shared} {vs : List Value} {ns : List Int}
    (KX : K.In s₁.heap) (hns : s₁.heap.Ns mainGlobals mg) (hb : s₁.heap.Ns builtinsNs mb) (hbb : ∀ x : Str, x ≠ "__name__" -> mb x = bootBuiltins x) (hlim : s₁.heap.NoLimit) (hg : s₁.gens = #[])
    (ha : s₁.heap.get? a = some { cls := .type "list", data := .seq vs.toArray }) (hi : IntsAre vs ns) (hl : ns.length <= sizeLine) (hr : yA k callerA)
    (F : ∀ base : Heap, K.In base -> base.Ns mainGlobals mg -> yg P w K mg base CX k fa fd [x] sp) (hbind : ∀ (s : Shared) (u : Value), BindsTo s fd ⟨[u], []⟩ [(x, u)])
    (hsp : ∀ H : Hp, qla H -> SqL K H a (ns.map V.int) -> sp [.ref a] H (fun v _ => v = .bl true) fun _ _ _ => False)
    (hCX : ∀ H e s', CX [] H s₁ (fun _ _ _ => False) e s' -> False) :
    codeAny (model P w) callerA (.call (.ref fa) ⟨[.ref a], []⟩) (fun r s' => r = .ok (.ret (.bool true)) /\ OldK s₁.heap s'.heap /\ s'.os = s₁.os /\ AllBare s'.gens) s₁ := by
  have rv := qbb hi
  have lenV := hi.length
  have core : ∀ H : Hp, qla H -> SqL K H a (ns.map V.int) -> HOk P w H s₁.heap -> (∀ b, H b ≠ none -> b = a) -> (H a ≠ none -> K.lookup a = none) ->
      codeAny (model P w) callerA (.call (.ref fa) ⟨[.ref a], []⟩) (fun r s' => r = .ok (.ret (.bool true)) /\ OldK s₁.heap s'.heap /\ s'.os = s₁.os /\ AllBare s'.gens) s₁ := by
    intro H hO hS hok hA hK
    have base_of : ∀ {b : Addr} {o : Obj}, s₁.heap.get? b = some o -> H b = none -> (qfO s₁.heap H).get? b = some o := fun e n => qfP e n
    have noA : ∀ {b : Addr} {o : Obj} {es : Array DictEntry} {ep : Nat}, s₁.heap.get? b = some o -> o.data = .dict es ep -> H b = none := fun {b o es ep} e d => by
      cases q : H b with
      | none => rfl
      | some u =>
        have e' : b = a := hA b (by rw [q]; simp)
        subst e'
        rw [ha] at e; cases e
        have d' : Data.seq vs.toArray _ = Data.dict es ep := d
        cases d'
    have nsK : ∀ {b : Addr} {m : Str -> Option Value}, s₁.heap.Ns b m -> (qfO s₁.heap H).Ns b m := fun {b m} ⟨o, es, ep, e, d, r⟩ => ⟨o, es, ep, base_of e (noA e d), d, r⟩
    have hKb : K.In (qfO s₁.heap H) := fun b o e => base_of (KX b o e) (by
      cases q : H b with
      | none => rfl
      | some u =>
        have e' : b = a := hA b (by rw [q]; simp)
        subst e'
        rw [hK (by rw [q]; simp)] at e; cases e)
    have hM : Mod K mg (qfO s₁.heap H) := ⟨hKb, nsK hns, ⟨mb, nsK hb, hbb⟩, let ⟨mc, h1, h2⟩ := hlim; ⟨mc, nsK h1, h2⟩⟩
    have e0 : qja P w K mg (qfO s₁.heap H) callerA [] s₁ H := ⟨rfl, hM, fun b o e => qhL e, Nat.le_of_eq (qd5 _ _), trivial, fun b hb => absurd (show b ∈ ([] : List Addr) from hb) (by simp), hok, .of_eq hg⟩
    refine codeAny_mono ((F _ hKb (nsK hns)).run callerA [] s₁ H ⟨[.ref a], []⟩ [.ref a] [.ref a] _ _ hr e0 (hbind s₁ (.ref a)) (.cons rfl .nil) (hsp H hO hS)) fun r s' h => ?_
    cases r with
    | error e => exact (hCX H e s' h).elim
    | ok fl =>
      cases fl with
      | next => exact False.elim h
      | brk => exact False.elim h
      | cont => exact False.elim h
      | ret u =>
        obtain ⟨v, H', os, bare, un, hok', r', q⟩ := h
        have q' : v = .bl true := q
        subst q'
        obtain rfl : u = Value.bool true := r'
        refine ⟨rfl, OldK.of_keep fun b o e => ?_, os, bare⟩
        cases q : H b with
        | none => exact un.keep b o e q (by intro z; exact absurd (show b ∈ ([] : List Addr) from z) (by simp)) (by simp)
        | some u =>
          rcases hO b with z | ⟨ob, xs, z⟩
          . rw [q] at z; cases z
          . have z2 := un.frzs b ob _ z
            obtain ⟨e1, _⟩ := hok b _ z
            obtain ⟨e2, _⟩ := hok' b _ z2
            rw [e] at e1; cases e1
            exact e2
  cases hk : K.lookup a with
  | some o =>
    have e := KX a o hk
    rw [ha] at e
    cases e
    refine core (fun _ => none) (fun _ => .inl rfl) (.inr ⟨_, vs.toArray, _, hk, rfl, rfl, rfl, by rw [List.size_toArray, lenV]; exact hl, by simpa using rv⟩) (fun b u z => by have z' : (none : Option HO) = some u := z; cases z') (fun b z => absurd rfl z) fun z => absurd rfl z
  | none =>
    refine core (fun b => if b = a then some (.frz { cls := .type "list", data := .seq vs.toArray } (.lst (ns.map V.int))) else none) (fun b => ?_) (.inl (.inr ⟨{ cls := .type "list", data := .seq vs.toArray }, if_pos rfl⟩)) (fun b u z => ?_) (fun b z => ?_) fun _ => hk
    . by_cases hb : b = a
      . exact .inr ⟨_, _, if_pos hb⟩
      . exact .inl (if_neg hb)
    . by_cases hb : b = a
      . have z' := (if_pos hb).symm.trans z
        cases z'
        subst hb
        exact ⟨ha, by rw [List.length_map]; exact hl, vs, _, rv, ha⟩
      . have z' := (if_neg hb).symm.trans z
        cases z'
    . by_cases hb : b = a
      . exact hb
      . exact absurd (if_neg hb) z
end L2
namespace L2
open PySem PySem.Spec PyProof.Rows
theorem walk_of {l : PySem.W.OpenLaw} {n k : Nat} {q : Program} {loose : List Str} {XP : (Str -> Option Value) -> Heap -> Prop} {YP : World -> Heap -> Prop} {d : DefRec} {K : Params -> PySem.W.Frag} {CX : World -> CXT} {sp : World -> Sp} {x : Str}
    (hn : l.most = some n) (hn2 : n <= sizeLine) (hdf : d.params.defaults = []) (hr : yA k callerA)
    (hY : ∀ (w : World) (h : Heap), YP w h -> (K w.params).In h)
    (F : ∀ (w : World) (mg : Str -> Option Value) (fa : Addr) (h : Heap), (K w.params).In h -> h.Ns mainGlobals mg -> mg d.name = some (.ref fa) ->
      ∃ fd : FuncData, (∀ (s : Shared) (u : Value), BindsTo s fd ⟨[u], []⟩ [(x, u)]) /\
        ∀ base : Heap, (K w.params).In base -> base.Ns mainGlobals mg -> yg l.prog w (K w.params) mg base (CX w) k fa fd [x] (sp w))
    (hsp : ∀ (w : World) (H : Hp) (a : Addr) (ns : List Int), ns.length <= n -> qla H -> SqL (K w.params) H a (ns.map V.int) -> sp w [.ref a] H (fun v _ => v = .bl true) fun _ _ _ => False)
    (hCX : ∀ (w : World) (H : Hp) (s : Shared) (e : Value) (s' : Shared), CX w [] H s (fun _ _ _ => False) e s' -> False) :
    PySem.W.WalkO q loose XP YP l.row.toRowW d [] (fun f vs => PySem.call f vs) := by
  refine Att.attach_call hn hdf fun w s₀ s₁ mg mb fa o pm cd doc a vs ns G Y ho hd hcd hmg hobj hints hlen hg => ?_
  have KX := hY w _ Y
  obtain ⟨fd, hb, hF⟩ := F w mg fa _ KX G.T.g hmg
  exact qf0 KX G.T.g G.T.b G.T.builtins G.T.nolimit hg hobj hints (Nat.le_trans hlen hn2) hr hF hb (fun H hO hS => hsp w H a ns hlen hO hS) fun H e s' => hCX w H s₁ e s'
end L2
/- THE LAST THEOREM (shape; LID, My.* are yours):
   My.Adr: a structure of the addresses that your layer names (classes, functions); My.Txt K t: a structure (Prop) of the equations over K;
   My.txt_mk : {K} {implicit addresses ..} (e1 : nsIn K mainGlobals "law" = some (some (.ref f))) (e2 : K.lookup f = some ⟨oc, od, .func (fnOf "law" "law" params body scope dV kV doc pm an cdv ct), sl⟩) (e3 : codeIn K cdv "law" = true) .. : ∃ t, My.Txt K t
set_option maxRecDepth 100000 in
set_option maxHeartbeats 0 in
theorem PySem.Challenge.cw_LID_holds : PySem.Challenge.rw_LID.Holds := by
  w_on; o_law; k_head; (case hw => w_witness2)
  k_fill
  refine L2.walk_of (l := PySem.Challenge.rw_LID) (n := 63) (k := 40) (x := "script") (CX := fun w => ..) (sp := fun _ => My.sp_law) rfl (by decide) rfl ⟨rfl, by decide, by decide⟩ (fun w h Y => PySem.W.kIn_of Y) ?F ?S ?C
  case F =>
    intro w mg fa h KX G hmg
    have T : ∃ t, My.Txt (L2.KOf KX) t := by
      dsimp only [L2.KOf]                          -- K must stand as «<heap const> w.params» for k_is
      refine' My.txt_mk ?e1 ?e2 ?e3 ..
      (case e1 => PySem.W.k_is)                    -- in the order: a name -> its address -> its object -> its parts
      (case e2 => PySem.W.k_is)
      ..
    obtain ⟨t, T⟩ := T
    have e0 := hmg.symm.trans (PySem.W.mg_of KX G T.law)
    cases e0                                       -- fa is the law's own address
    exact ⟨_, fun s u => .of_eq rfl, fun base kb nb => My.law_fn T kb nb⟩     -- if «.of_eq rfl» comes too early: refine' ⟨_, ?b, fun base kb nb => My.law_fn T kb nb⟩; exact fun s u => .of_eq rfl
  case S => exact fun w H a ns hl hO hS => ..
  case C => exact ..
(the tactic k_is has no namespace: write k_is) -/
namespace L2
open PySem PySem.Spec PyProof.Rows
def qC (s : Stmt) : Arguments := match s with
  | .FunctionDef _ a _ _ _ _ _ _ _ _ => a
  | _ => { posonlyargs := [], args := [], vararg := none, kwonlyargs := [], kw_defaults := [], kwarg := none, defaults := [] }
def qu (s : Stmt) : List Stmt := match s with
  | .FunctionDef _ _ b _ _ _ _ _ _ _ => b
  | _ => []
def qd (s : Stmt) : Scope := match s with
  | .FunctionDef _ _ _ _ _ _ sc _ _ _ => sc
  | _ => { kind := .function, names := [], isGenerator := false, isCoroutine := false }
abbrev CX0 : CXT := fun _ _ _ _ _ _ => False
abbrev E0 : XK := fun _ _ _ => False
theorem qh2 {X : Cx} : vM CX0 X E0 := fun _ _ _ _ _ _ _ h => h.elim
structure Fun (K : PySem.W.Frag) (x qual : Str) (st : Stmt) (f : Addr) (fd : FuncData) : Prop where
  ex : ∃ (oc : Value) (od : Option Addr) (kV doc pm : Value) (an : Option Addr) (cdv ct : Value) (osl : Array (Option Value)),
    fd = PySem.W.fnOf x qual (qC st) (qu st) (qd st) .none kV doc pm an cdv ct /\ K.lookup f = some ⟨oc, od, .func fd, osl⟩ /\ PySem.W.codeIn K cdv qual = true
  kp : PySem.W.keepIn K (.ref f) = true
section
variable {P : Program} {w : World} {K : PySem.W.Frag} {mg : Str -> Option Value} {base : Heap}
theorem Fun.ok {x qual : Str} {st : Stmt} {f : Addr} {fd : FuncData} {N ps : List Str} {k : Nat} {sp : Sp} (F : Fun K x qual st f fd) (S : qw N ps (qd st)) (len : ∀ vs H Q E, sp vs H Q E -> vs.length = ps.length)
    (hbody : ∀ (cdv : Value) (A : Around) (outer : List Env) (s : Shared) (H : Hp) (vs : List V) (Q : VK) (E : XK), yA k (A.deeper (envOfC qual (qd st) s.heap.objs.size f cdv)) -> sp vs H Q E ->
      ∃ t, PSs (qfJ CX0 P w K mg base N qual (qd st) f cdv A outer s H E).nox (qu st) t /\ t { nx := fun _ H' => Q .non H', rt := Q } (zn N vs) H) : yg P w K mg base CX0 (k + 1) f fd ps sp := by
  obtain ⟨oc, od, kV, doc, pm, an, cdv, ct, osl, rfl, lk, hcd⟩ := F.ex
  refine qjO lk hcd S len fun A outer s H vs Q E hr hsp => ?_
  obtain ⟨t, h, q⟩ := hbody cdv A outer s H vs Q E hr hsp
  exact ⟨t, h.nox, q⟩
theorem Fun.binds {x qual : Str} {st : Stmt} {f : Addr} {fd : FuncData} {ps : List Str} (F : Fun K x qual st f fd)
    (h : ∀ (kV doc pm : Value) (an : Option Addr) (cdv ct : Value) (us : List Value), us.length = ps.length -> bindArgs (PySem.W.fnOf x qual (qC st) (qu st) (qd st) .none kV doc pm an cdv ct) ⟨us, []⟩ = pure (ps.zip us)) : yP K fd ps [] := by
  obtain ⟨oc, od, kV, doc, pm, an, cdv, ct, osl, rfl, lk, hcd⟩ := F.ex
  exact .all (h kV doc pm an cdv ct)
theorem zh {x qual : Str} {st : Stmt} {f : Addr} {oc : Value} {od an : Option Addr} {osl : Array (Option Value)} {kV doc pm cdv ct : Value} (l : K.lookup f = some ⟨oc, od, .func (PySem.W.fnOf x qual (qC st) (qu st) (qd st) .none kV doc pm an cdv ct), osl⟩)
    (c : PySem.W.codeIn K cdv qual = true) (k : PySem.W.keepIn K (.ref f) = true) : Fun K x qual st f (PySem.W.fnOf x qual (qC st) (qu st) (qd st) .none kV doc pm an cdv ct) := ⟨⟨oc, od, kV, doc, pm, an, cdv, ct, osl, rfl, l, c⟩, k⟩
end
section
variable {X : Cx}
end
theorem qjb {A B : Prop} (h : B) : if false = true then A else B := by
  rw [if_neg Bool.false_ne_true]
  exact h
theorem qjc {A B : Prop} (h : A) : if true = true then A else B := by
  rw [if_pos rfl]
  exact h
def z8 (H H' : Hp) : Prop := ∀ b o, H b = some o -> H' b = some o
theorem z8.refl (H : Hp) : z8 H H := fun _ _ h => h
theorem z8.trans {H H1 H2 : Hp} (a : z8 H H1) (b : z8 H1 H2) : z8 H H2 := fun c o h => b c o (a c o h)
theorem z8.free {H H' : Hp} (e : z8 H H') {l : Addr} (h : H' l = Option.none) : H l = Option.none := by
  cases q : H l with
  | none => rfl
  | some o =>
    rw [e l o q] at h
    cases h
end L2
namespace L2.Sk
open PySem PySem.Spec PyProof.Rows
inductive D where
  | non | bl (b : Bool) | int (i : Int) | str (x : Str) | tup (xs : List D) | lst (xs : List D) | dic (kvs : List (Key × Int)) | fz (ns : List Int)
  | exc (n : Str)
abbrev Fr0 := PySem.W.Frag
structure XK6 (K : Fr0) (D : Addr) : Prop where
  ga : PySem.W.findIn K (.ref D) "__getattribute__" = some (some (.builtin "BaseException.__getattribute__"))
  gt : PySem.W.findIn K (.ref D) "__getattr__" = some none
  cl : PySem.W.findIn K (.ref D) "__class__" = some (some (.builtin "object.__class__"))
  ob : PySem.W.mroIn K D (.type "object") = some true
  be : PySem.W.subIn K (.ref D) (.type "BaseException") = some true
  is : (PySem.W.clsIn K D).isSome = true
  no : ∀ T ∈ ["int", "bool", "str", "tuple", "list", "dict"], PySem.W.kitOne K (.ref D) (.type T) = some false
def yQ (K : Fr0) (n : Str) : Option Addr := match PySem.W.nsIn K mainGlobals n with
  | some (some (.ref C)) => some C
  | _ => none
def clR (K : Fr0) (RN : List Str) (n : Str) : Option Addr := if RN.contains n then yQ K n else none
theorem vn {K : Fr0} {RN : List Str} {n : Str} {C : Addr} (h : clR K RN n = some C) : RN.contains n = true /\ yQ K n = some C := by
  unfold clR at h
  split at h
  . rename_i hn; exact ⟨hn, h⟩
  . cases h
def qmX (K : Fr0) (H : Hp) (a : Addr) (n : Str) : Prop := ∃ C, yQ K n = some C /\ XK6 K C /\ ∃ o vs, H a = some (.frz o (.own a)) /\ o.cls = .ref C /\ o.data = .fields vs
def uz (K : Fr0) (H : Hp) (a : Addr) (xs : List V) : Prop :=
  H a = some (.tup xs) \/ ∃ (o : Obj) (its : Array Value) (n : Nat), K.lookup a = some o /\ o.cls = .type "tuple" /\ o.data = .seq its n /\ its.size <= sizeLine /\ qQ xs its.toList
def qjX (K : Fr0) (H : Hp) (a : Addr) (xs : List V) : Prop :=
  (∃ o, H a = some (.frz o (.lst xs))) \/ ∃ (o : Obj) (its : Array Value) (n : Nat), K.lookup a = some o /\ o.cls = .type "list" /\ o.dict = none /\ o.data = .seq its n /\ its.size <= sizeLine /\ qQ xs its.toList
theorem uz.sq {K : Fr0} {H : Hp} {a : Addr} {xs : List V} (h : uz K H a xs) : SqT K H a xs := by
  rcases h with h | h
  . exact .inl (.inl h)
  . exact .inr h
theorem qjX.sq {K : Fr0} {H : Hp} {a : Addr} {xs : List V} (h : qjX K H a xs) : SqL K H a xs := by
  rcases h with h | h
  . exact .inl (.inr h)
  . exact .inr h
mutual
def Is (K : Fr0) (A : Addr -> Prop) (H : Hp) : D -> V -> Prop
  | .non, v => v = .non
  | .bl b, v => v = .bl b
  | .int i, v => v = .int i
  | .str x, v => v = .str x
  | .tup ds, v => ∃ a xs, v = .ref a /\ uz K H a xs /\ IsL K A H ds xs
  | .lst ds, v => ∃ a xs, v = .ref a /\ A a /\ H a = some (.lst xs) /\ IsL K A H ds xs
  | .dic kvs, v => ∃ a, v = .ref a /\ A a /\ H a = some (.dK (kvs.map fun p => (p.1, V.int p.2)))
  | .fz ns, v => ∃ a, v = .ref a /\ qjX K H a (ns.map V.int)
  | .exc n, v => ∃ a, v = .ref a /\ qmX K H a n
def IsL (K : Fr0) (A : Addr -> Prop) (H : Hp) : List D -> List V -> Prop
  | [], xs => xs = []
  | d :: ds, xs => ∃ x ys, xs = x :: ys /\ Is K A H d x /\ IsL K A H ds ys
end
mutual
def imm : D -> Bool
  | .tup ds => immL ds
  | .lst _ => false
  | .dic _ => false
  | .fz _ => false
  | _ => true
def immL : List D -> Bool
  | [] => true
  | d :: ds => imm d && immL ds
end
structure Ext (A : Addr -> Prop) (H H' : Hp) : Prop where
  tup : ∀ b xs, H b = some (.tup xs) -> H' b = some (.tup xs)
  frz : ∀ b o u, H b = some (.frz o u) -> H' b = some (.frz o u)
  at_ : ∀ b o, A b -> H b = some o -> H' b = some o
theorem Ext.refl {A : Addr -> Prop} {H : Hp} : Ext A H H := ⟨fun _ _ h => h, fun _ _ _ h => h, fun _ _ _ h => h⟩
theorem Ext.of_same {A : Addr -> Prop} {H H' : Hp} (s : z8 H H') : Ext A H H' := ⟨fun b xs h => s b _ h, fun b o u h => s b _ h, fun b o _ h => s b o h⟩
mutual
theorem Is.ext {K : Fr0} {A B : Addr -> Prop} {H H' : Hp} (e : Ext A H H') (hAB : ∀ a, A a -> (H a).isSome = true -> B a) : ∀ {d : D} {v : V}, Is K A H d v -> Is K B H' d v
  | .non, _, h => h
  | .bl _, _, h => h
  | .int _, _, h => h
  | .str _, _, h => h
  | .tup ds, _, ⟨a, xs, hv, h, r⟩ => ⟨a, xs, hv, h.elim (fun h => .inl (e.tup _ _ h)) .inr, IsL.ext e hAB r⟩
  | .lst ds, _, ⟨a, xs, hv, hA, h, r⟩ => ⟨a, xs, hv, hAB a hA (by rw [h]; rfl), e.at_ _ _ hA h, IsL.ext e hAB r⟩
  | .dic kvs, _, ⟨a, hv, hA, h⟩ => ⟨a, hv, hAB a hA (by rw [h]; rfl), e.at_ _ _ hA h⟩
  | .fz ns, _, ⟨a, hv, h⟩ => ⟨a, hv, h.elim (fun ⟨o, h⟩ => .inl ⟨o, e.frz _ _ _ h⟩) .inr⟩
  | .exc n, _, ⟨a, hv, C, hc, hk, o, vs, h, r⟩ => ⟨a, hv, C, hc, hk, o, vs, e.frz _ _ _ h, r⟩
theorem IsL.ext {K : Fr0} {A B : Addr -> Prop} {H H' : Hp} (e : Ext A H H') (hAB : ∀ a, A a -> (H a).isSome = true -> B a) : ∀ {ds : List D} {xs : List V}, IsL K A H ds xs -> IsL K B H' ds xs
  | [], _, h => h
  | _ :: _, _, ⟨x, ys, hx, h, r⟩ => ⟨x, ys, hx, Is.ext e hAB h, IsL.ext e hAB r⟩
end
mutual
theorem Is.imm {K : Fr0} {A B : Addr -> Prop} {H : Hp} : ∀ {d : D} {v : V}, imm d = true -> Is K A H d v -> Is K B H d v
  | .non, _, _, h => h
  | .bl _, _, _, h => h
  | .int _, _, _, h => h
  | .str _, _, _, h => h
  | .tup ds, _, i, ⟨a, xs, hv, h, r⟩ => ⟨a, xs, hv, h, IsL.imm (by simpa [Sk.imm] using i) r⟩
  | .lst _, _, i, _ => by simp [Sk.imm] at i
  | .dic _, _, i, _ => by simp [Sk.imm] at i
  | .fz _, _, i, _ => by simp [Sk.imm] at i
  | .exc _, _, _, h => h
theorem IsL.imm {K : Fr0} {A B : Addr -> Prop} {H : Hp} : ∀ {ds : List D} {xs : List V}, immL ds = true -> IsL K A H ds xs -> IsL K B H ds xs
  | [], _, _, h => h
  | d :: ds, _, i, ⟨x, ys, hx, h, r⟩ => by
    have i' : Sk.imm d = true /\ immL ds = true := by simpa [immL] using i
    exact ⟨x, ys, hx, Is.imm i'.1 h, IsL.imm i'.2 r⟩
end
theorem IsL.length {K : Fr0} {A : Addr -> Prop} {H : Hp} : ∀ {ds : List D} {xs : List V}, IsL K A H ds xs -> xs.length = ds.length
  | [], _, h => by rw [h]; rfl
  | _ :: _, _, ⟨x, ys, hx, _, r⟩ => by rw [hx, List.length_cons, List.length_cons, IsL.length r]
theorem IsL.get {K : Fr0} {A : Addr -> Prop} {H : Hp} : ∀ {ds : List D} {xs : List V} {i : Nat} {d : D}, IsL K A H ds xs -> ds[i]? = some d -> ∃ x, xs[i]? = some x /\ Is K A H d x
  | [], _, _, _, _, h => by simp at h
  | e :: _, _, 0, d, ⟨x, ys, hx, h, r⟩, hd => by
    have e1 : e = d := by simpa using hd
    subst e1
    exact ⟨x, by rw [hx]; rfl, h⟩
  | _ :: ds, _, i + 1, d, ⟨x, ys, hx, h, r⟩, hd => by
    obtain ⟨y, h1, h2⟩ := IsL.get (i := i) (d := d) r (by simpa using hd)
    exact ⟨y, by rw [hx]; simpa using h1, h2⟩
theorem IsL.append {K : Fr0} {A : Addr -> Prop} {H : Hp} : ∀ {ds es : List D} {xs ys : List V}, IsL K A H ds xs -> IsL K A H es ys -> IsL K A H (ds ++ es) (xs ++ ys)
  | [], _, _, _, h, g => by rw [h]; exact g
  | _ :: _, _, _, _, ⟨x, zs, hx, h, r⟩, g => ⟨x, zs ++ _, by rw [hx]; rfl, h, IsL.append r g⟩
theorem IsL.take {K : Fr0} {A : Addr -> Prop} {H : Hp} : ∀ {ds : List D} {xs : List V} (n : Nat), IsL K A H ds xs -> IsL K A H (ds.take n) (xs.take n)
  | _, _, 0, _ => by simp [IsL]
  | [], _, _ + 1, h => by rw [h]; simp [IsL]
  | _ :: _, _, n + 1, ⟨x, ys, hx, h, r⟩ => by rw [hx]; exact ⟨x, ys.take n, rfl, h, IsL.take n r⟩
theorem IsL.drop {K : Fr0} {A : Addr -> Prop} {H : Hp} : ∀ {ds : List D} {xs : List V} (n : Nat), IsL K A H ds xs -> IsL K A H (ds.drop n) (xs.drop n)
  | _, _, 0, h => h
  | [], _, _ + 1, h => by rw [h]; simp [IsL]
  | _ :: _, _, n + 1, ⟨x, ys, hx, h, r⟩ => by rw [hx]; exact IsL.drop n r
theorem IsL.one {K : Fr0} {A : Addr -> Prop} {H : Hp} {d : D} {v : V} (h : Is K A H d v) : IsL K A H [d] [v] := ⟨v, [], rfl, h, rfl⟩
theorem IsL.set {K : Fr0} {A : Addr -> Prop} {H : Hp} {d : D} {v : V} (hd : Is K A H d v) : ∀ {ds : List D} {xs : List V} (n : Nat), IsL K A H ds xs -> IsL K A H (ds.set n d) (xs.set n v)
  | [], _, _, h => by rw [h]; simp [IsL]
  | _ :: _, _, 0, ⟨x, ys, hx, h, r⟩ => by rw [hx]; exact ⟨v, ys, rfl, hd, r⟩
  | _ :: _, _, n + 1, ⟨x, ys, hx, h, r⟩ => by rw [hx]; exact ⟨x, ys.set n v, rfl, h, IsL.set hd n r⟩
abbrev Env := List (Option D)
structure Exn where
  cls : Str
  val : D
inductive R (α : Type) where
  | ok (a : α) | exc (x : Exn) (ρ : Env) | bad
structure Fc where
  O : List Nat
  P : List Nat
  B : Addr -> Prop
  H0 : Hp
  Io : Addr -> Prop
  E : Exn -> Hp -> Prop
  S : Nat -> Option (Option V)
def Cl (O : List Nat) (σ : St) (a : Addr) : Prop := ∀ j ∈ O, σ[j]? ≠ some (some (.ref a))
def Cn (c : Fc) (σ : St) (a : Addr) : Prop := c.B a /\ Cl c.O σ a
structure Rep (K : Fr0) (c : Fc) (ρ : Env) (σ : St) (H : Hp) : Prop where
  len : ρ.length = σ.length
  val : ∀ i d, ρ[i]? = some (some d) -> ∃ v, σ[i]? = some (some v) /\
    ((i ∈ c.O /\ ∃ ds a xs, d = .lst ds /\ v = .ref a /\ H a = some (.lst xs) /\ IsL K (Cn c σ) H ds xs) \/ (i ∉ c.O /\ Is K (Cn c σ) H d v))
  own : ∀ j ∈ c.O, ∀ v, σ[j]? = some (some v) -> ∃ a xs, v = .ref a /\ H a = some (.lst xs) /\ (c.H0 a = none \/ (j ∈ c.P /\ c.Io a))
  inj : ∀ i j a, i ∈ c.O -> j ∈ c.O -> σ[i]? = some (some (.ref a)) -> σ[j]? = some (some (.ref a)) -> i = j
  b0 : ∀ a, c.H0 a = none -> c.B a
  kp : ∀ b o, c.H0 b = some o -> ¬ c.Io b -> H b = some o
  dm : ∀ b, H b = none -> c.H0 b = none
  pO : ∀ j ∈ c.P, j ∈ c.O
  ps : ∀ j ∈ c.P, σ[j]? = c.S j
structure Gr (O : List Nat) (σ : St) (H H' : Hp) : Prop where
  ext : Ext (Cl O σ) H H'
  dom : ∀ b, H' b = none -> H b = none
theorem Gr.refl {O : List Nat} {σ : St} {H : Hp} : Gr O σ H H := ⟨Ext.refl, fun _ h => h⟩
theorem Gr.of_same {O : List Nat} {σ : St} {H H' : Hp} (s : z8 H H') : Gr O σ H H' := ⟨Ext.of_same s, fun _ h => s.free h⟩
theorem Gr.trans {O : List Nat} {σ : St} {H H1 H2 : Hp} (a : Gr O σ H H1) (b : Gr O σ H1 H2) : Gr O σ H H2 :=
  ⟨⟨fun c xs h => b.ext.tup c xs (a.ext.tup c xs h), fun c o u h => b.ext.frz c o u (a.ext.frz c o u h), fun c o hc h => b.ext.at_ c o hc (a.ext.at_ c o hc h)⟩, fun c h => a.dom c (b.dom c h)⟩
theorem Gr.cn {c : Fc} {σ : St} {H H' : Hp} (g : Gr c.O σ H H') : Ext (Cn c σ) H H' := ⟨g.ext.tup, g.ext.frz, fun b o hb h => g.ext.at_ b o hb.2 h⟩
theorem Gr.is {K : Fr0} {c : Fc} {σ : St} {H H' : Hp} {d : D} {v : V} (g : Gr c.O σ H H') (h : Is K (Cn c σ) H d v) : Is K (Cn c σ) H' d v := Is.ext g.cn (fun _ h _ => h) h
theorem Gr.isL {K : Fr0} {c : Fc} {σ : St} {H H' : Hp} {d : List D} {v : List V} (g : Gr c.O σ H H') (h : IsL K (Cn c σ) H d v) : IsL K (Cn c σ) H' d v := IsL.ext g.cn (fun _ h _ => h) h
theorem Rep.new {K : Fr0} {c : Fc} {ρ : Env} {σ : St} {H : Hp} (r : Rep K c ρ σ H) {a : Addr} (h : H a = none) : Cn c σ a :=
  ⟨r.b0 a (r.dm a h), fun j hj e => by obtain ⟨b, xs, e1, e2, _⟩ := r.own j hj _ e; cases e1; rw [h] at e2; cases e2⟩
theorem Rep.same {K : Fr0} {c : Fc} {ρ : Env} {σ : St} {H H' : Hp} (r : Rep K c ρ σ H) (s : z8 H H') : Rep K c ρ σ H' where
  len := r.len
  val := fun i d h => by
    obtain ⟨v, h1, h2⟩ := r.val i d h
    refine ⟨v, h1, ?_⟩
    rcases h2 with ⟨hi, ds, a, xs, h3, h5, h6, h7⟩ | ⟨hi, h3⟩
    . exact .inl ⟨hi, ds, a, xs, h3, h5, s _ _ h6, IsL.ext (Ext.of_same s) (fun _ h _ => h) h7⟩
    . exact .inr ⟨hi, Is.ext (Ext.of_same s) (fun _ h _ => h) h3⟩
  own := fun j hj v h => by
    obtain ⟨a, xs, h1, h2, h3⟩ := r.own j hj v h
    exact ⟨a, xs, h1, s _ _ h2, h3⟩
  inj := r.inj
  b0 := r.b0
  kp := fun b o h1 h2 => s _ _ (r.kp b o h1 h2)
  dm := fun b h => r.dm b (s.free h)
  pO := r.pO
  ps := r.ps
theorem Rep.get {K : Fr0} {c : Fc} {ρ : Env} {σ : St} {H : Hp} (r : Rep K c ρ σ H) {i : Nat} {d : D} (hi : i ∉ c.O) (h : ρ[i]? = some (some d)) : ∃ v, σ[i]? = some (some v) /\ Is K (Cn c σ) H d v := by
  obtain ⟨v, h1, h2⟩ := r.val i d h
  rcases h2 with ⟨h3, _⟩ | ⟨_, h3⟩
  . exact absurd h3 hi
  . exact ⟨v, h1, h3⟩
theorem Rep.getO {K : Fr0} {c : Fc} {ρ : Env} {σ : St} {H : Hp} (r : Rep K c ρ σ H) {i : Nat} {d : D} (hi : i ∈ c.O) (h : ρ[i]? = some (some d)) :
    ∃ ds a xs, d = .lst ds /\ σ[i]? = some (some (.ref a)) /\ H a = some (.lst xs) /\ IsL K (Cn c σ) H ds xs := by
  obtain ⟨v, h1, h2⟩ := r.val i d h
  rcases h2 with ⟨_, ds, a, xs, h3, h5, h6, h7⟩ | ⟨h3, _⟩
  . subst h5; exact ⟨ds, a, xs, h3, h1, h6, h7⟩
  . exact absurd hi h3
abbrev M (α : Type) := Env -> R (α × Env)
def Wp (K : Fr0) (c : Fc) (σ : St) (H : Hp) (Q : VK) : R (D × Env) -> Prop
  | .ok (d, ρ) => ∀ v H', Rep K c ρ σ H' -> Is K (Cn c σ) H' d v -> Gr c.O σ H H' -> Q v H'
  | .exc x ρ => ∀ H', Rep K c ρ σ H' -> Gr c.O σ H H' -> c.E x H'
  | .bad => False
def WpB (K : Fr0) (c : Fc) (σ : St) (H : Hp) (Q : Bool -> Hp -> Prop) : R (Bool × Env) -> Prop
  | .ok (b, ρ) => ∀ H', Rep K c ρ σ H' -> Gr c.O σ H H' -> Q b H'
  | .exc x ρ => ∀ H', Rep K c ρ σ H' -> Gr c.O σ H H' -> c.E x H'
  | .bad => False
def WpL (K : Fr0) (c : Fc) (σ : St) (H : Hp) (Q : List V -> Hp -> Prop) : R (List D × Env) -> Prop
  | .ok (ds, ρ) => ∀ vs H', Rep K c ρ σ H' -> IsL K (Cn c σ) H' ds vs -> Gr c.O σ H H' -> Q vs H'
  | .exc x ρ => ∀ H', Rep K c ρ σ H' -> Gr c.O σ H H' -> c.E x H'
  | .bad => False
def DE (X : Cx) (c : Fc) (e : Expr) (f : M D) : Prop := ∃ t, PE X e t /\ ∀ ρ σ H Q, Rep X.K c ρ σ H -> Wp X.K c σ H Q (f ρ) -> t σ H Q
def DT (X : Cx) (c : Fc) (e : Expr) (f : M Bool) : Prop := ∃ t, PT X e t /\ ∀ ρ σ H Q, Rep X.K c ρ σ H -> WpB X.K c σ H Q (f ρ) -> t σ H Q
def DA (X : Cx) (c : Fc) (es : List Expr) (f : M (List D)) : Prop := ∃ t, PA X es t /\ ∀ ρ σ H Q, Rep X.K c ρ σ H -> WpL X.K c σ H Q (f ρ) -> t σ H Q
def ret {α : Type} (a : α) : M α := fun ρ => .ok (a, ρ)
def bnd {α β : Type} (f : M α) (k : α -> M β) : M β := fun ρ => match f ρ with
  | .ok (a, ρ') => k a ρ'
  | .exc x ρ' => .exc x ρ'
  | .bad => .bad
def lift {α : Type} : Option α -> M α
  | some a => ret a
  | none => fun _ => .bad
section
variable {K : Fr0} {c : Fc} {σ : St} {H H1 : Hp} {Q : VK} {QB : Bool -> Hp -> Prop} {QL : List V -> Hp -> Prop} {r : R (D × Env)}
theorem Wp.gr : ∀ {r : R (D × Env)}, Wp K c σ H Q r -> Gr c.O σ H H1 -> Wp K c σ H1 Q r
  | .ok (d, ρ), h, g => fun v H' hr hi hg => h v H' hr hi (g.trans hg)
  | .exc x ρ, h, g => fun H' hr hg => h H' hr (g.trans hg)
  | .bad, h, _ => h
theorem WpB.gr : ∀ {r : R (Bool × Env)}, WpB K c σ H QB r -> Gr c.O σ H H1 -> WpB K c σ H1 QB r
  | .ok (d, ρ), h, g => fun H' hr hg => h H' hr (g.trans hg)
  | .exc x ρ, h, g => fun H' hr hg => h H' hr (g.trans hg)
  | .bad, h, _ => h
theorem WpL.gr : ∀ {r : R (List D × Env)}, WpL K c σ H QL r -> Gr c.O σ H H1 -> WpL K c σ H1 QL r
  | .ok (d, ρ), h, g => fun v H' hr hi hg => h v H' hr hi (g.trans hg)
  | .exc x ρ, h, g => fun H' hr hg => h H' hr (g.trans hg)
  | .bad, h, _ => h
theorem Wp.bnd {f : M D} {k : D -> M D} {ρ : Env} {Q' : VK} (h : Wp K c σ H Q (bnd f k ρ)) (hQ : ∀ d ρ' v H', Rep K c ρ' σ H' -> Is K (Cn c σ) H' d v -> Gr c.O σ H H' -> Wp K c σ H' Q (k d ρ') -> Q' v H') : Wp K c σ H Q' (f ρ) := by
  unfold Sk.bnd at h
  cases e : f ρ with
  | ok p => rw [e] at h; exact fun v H' hr hi hg => hQ p.1 p.2 v H' hr hi hg (h.gr hg)
  | exc x ρ' => rw [e] at h; exact h
  | bad => rw [e] at h; exact h
theorem Wp.bndB {f : M D} {k : D -> M Bool} {ρ : Env} {Q' : VK} (h : WpB K c σ H QB (Sk.bnd f k ρ)) (hQ : ∀ d ρ' v H', Rep K c ρ' σ H' -> Is K (Cn c σ) H' d v -> Gr c.O σ H H' -> WpB K c σ H' QB (k d ρ') -> Q' v H') : Wp K c σ H Q' (f ρ) := by
  unfold Sk.bnd at h
  cases e : f ρ with
  | ok p => rw [e] at h; exact fun v H' hr hi hg => hQ p.1 p.2 v H' hr hi hg (h.gr hg)
  | exc x ρ' => rw [e] at h; exact h
  | bad => rw [e] at h; exact h
theorem Wp.bndL {f : M D} {k : D -> M (List D)} {ρ : Env} {Q' : VK} (h : WpL K c σ H QL (Sk.bnd f k ρ)) (hQ : ∀ d ρ' v H', Rep K c ρ' σ H' -> Is K (Cn c σ) H' d v -> Gr c.O σ H H' -> WpL K c σ H' QL (k d ρ') -> Q' v H') : Wp K c σ H Q' (f ρ) := by
  unfold Sk.bnd at h
  cases e : f ρ with
  | ok p => rw [e] at h; exact fun v H' hr hi hg => hQ p.1 p.2 v H' hr hi hg (h.gr hg)
  | exc x ρ' => rw [e] at h; exact h
  | bad => rw [e] at h; exact h
theorem WpB.bnd {f : M Bool} {k : Bool -> M D} {ρ : Env} {Q' : Bool -> Hp -> Prop} (h : Wp K c σ H Q (Sk.bnd f k ρ)) (hQ : ∀ d ρ' H', Rep K c ρ' σ H' -> Gr c.O σ H H' -> Wp K c σ H' Q (k d ρ') -> Q' d H') : WpB K c σ H Q' (f ρ) := by
  unfold Sk.bnd at h
  cases e : f ρ with
  | ok p => rw [e] at h; exact fun H' hr hg => hQ p.1 p.2 H' hr hg (h.gr hg)
  | exc x ρ' => rw [e] at h; exact h
  | bad => rw [e] at h; exact h
theorem WpB.bndB {f : M Bool} {k : Bool -> M Bool} {ρ : Env} {Q' : Bool -> Hp -> Prop} (h : WpB K c σ H QB (Sk.bnd f k ρ)) (hQ : ∀ d ρ' H', Rep K c ρ' σ H' -> Gr c.O σ H H' -> WpB K c σ H' QB (k d ρ') -> Q' d H') : WpB K c σ H Q' (f ρ) := by
  unfold Sk.bnd at h
  cases e : f ρ with
  | ok p => rw [e] at h; exact fun H' hr hg => hQ p.1 p.2 H' hr hg (h.gr hg)
  | exc x ρ' => rw [e] at h; exact h
  | bad => rw [e] at h; exact h
theorem WpL.bnd {f : M (List D)} {k : List D -> M D} {ρ : Env} {Q' : List V -> Hp -> Prop} (h : Wp K c σ H Q (Sk.bnd f k ρ)) (hQ : ∀ d ρ' v H', Rep K c ρ' σ H' -> IsL K (Cn c σ) H' d v -> Gr c.O σ H H' -> Wp K c σ H' Q (k d ρ') -> Q' v H') : WpL K c σ H Q' (f ρ) := by
  unfold Sk.bnd at h
  cases e : f ρ with
  | ok p => rw [e] at h; exact fun v H' hr hi hg => hQ p.1 p.2 v H' hr hi hg (h.gr hg)
  | exc x ρ' => rw [e] at h; exact h
  | bad => rw [e] at h; exact h
theorem WpL.bndL {f : M (List D)} {k : List D -> M (List D)} {ρ : Env} {Q' : List V -> Hp -> Prop} (h : WpL K c σ H QL (Sk.bnd f k ρ)) (hQ : ∀ d ρ' v H', Rep K c ρ' σ H' -> IsL K (Cn c σ) H' d v -> Gr c.O σ H H' -> WpL K c σ H' QL (k d ρ') -> Q' v H') : WpL K c σ H Q' (f ρ) := by
  unfold Sk.bnd at h
  cases e : f ρ with
  | ok p => rw [e] at h; exact fun v H' hr hi hg => hQ p.1 p.2 v H' hr hi hg (h.gr hg)
  | exc x ρ' => rw [e] at h; exact h
  | bad => rw [e] at h; exact h
theorem Wp.lift {o : Option D} {ρ : Env} (h : Wp K c σ H Q (Sk.lift o ρ)) : ∃ d, o = some d /\ ∀ v H', Rep K c ρ σ H' -> Is K (Cn c σ) H' d v -> Gr c.O σ H H' -> Q v H' := by
  cases o with
  | none => exact h.elim
  | some d => exact ⟨d, rfl, h⟩
end
section
variable {X : Cx} {c : Fc} {a b e : Expr} {pos : Pos}
theorem qk {i j pos} : DE X c (.Constant (.int i) j pos) (ret (.int i)) := ⟨_, qgY, fun _ _ H Q r h => h _ H r rfl .refl⟩
theorem qb2 {i j pos} : DE X c (.Constant (.bool i) j pos) (ret (.bl i)) := ⟨_, qlj, fun _ _ H Q r h => h _ H r rfl .refl⟩
theorem jZ {j pos} : DE X c (.Constant .none j pos) (ret .non) := ⟨_, qjn, fun _ _ H Q r h => h _ H r rfl .refl⟩
theorem qeq {x j pos} : DE X c (.Constant (.str x) j pos) (ret (.str x)) := ⟨_, qjo, fun _ _ H Q r h => h _ H r rfl .refl⟩
def dv (i : Nat) : M D := fun ρ => match ρ[i]? with
  | some (some d) => .ok (d, ρ)
  | _ => .bad
theorem qc (i : Nat) {x : Str} (ho : i ∉ c.O := by exact of_decide_eq_false rfl) (hN : X.N[i]? = some x := by rfl) (hv : Vis X.env.scope x := by first | exact Or.inl rfl | exact Or.inr (Or.inl rfl) | exact Or.inr (Or.inr rfl)) (hd : (x == ("__debug__" : Str)) = false := by decide)
    (hcd : (x == ("__classdict__" : Str)) = false := by decide) : DE X c (.Name x pos) (dv i) := by
  refine ⟨_, uk hN hv hd hcd, fun ρ σ H Q r h => ?_⟩
  unfold dv at h
  split at h
  . rename_i d e
    obtain ⟨v, h1, h2⟩ := r.get ho e
    exact ⟨v, h1, h v H r h2 .refl⟩
  . exact h.elim
theorem qer {x : Str} {v : V} {u : Value} {d : D} (hg : Gl X x) (hm : X.mg x = some u) (rv : ju v u) (hd : ∀ H A, Is X.K A H d v) (hdb : (x == ("__debug__" : Str)) = false := by decide) : DE X c (.Name x pos) (ret d) :=
  ⟨_, qbW hg hm rv hdb, fun _ _ H Q r h => h _ H r (hd _ _) .refl⟩
theorem qe : DA X c [] (ret []) := ⟨_, vm, fun _ _ H Q r h => h _ H r rfl .refl⟩
def qa (f : M D) (g : M (List D)) : M (List D) := bnd f fun d => bnd g fun ds => ret (d :: ds)
theorem qb {es : List Expr} {f : M D} {g : M (List D)} (ha : DE X c e f) (hr : DA X c es g) (hs : starEach (e :: es) X.env = (false, eval e X.env) :: starEach es X.env := by rfl) : DA X c (e :: es) (qa f g) := by
  obtain ⟨ta, pa, wa⟩ := ha
  obtain ⟨tr, pr, wr⟩ := hr
  refine ⟨_, jj pa pr hs, fun ρ σ H Q r h => wa ρ σ H _ r (Wp.bndL h fun d ρ1 v H1 r1 i1 g1 h1 => wr ρ1 σ H1 _ r1 (WpL.bndL h1 fun ds ρ2 vs H2 r2 i2 g2 h2 => ?_))⟩
  exact h2 _ H2 r2 ⟨v, vs, rfl, g2.is i1, i2⟩ .refl
def qD (n : Nat) : Bool := decide (n <= sizeLine)
def yO (f : M (List D)) : M D := bnd f fun ds => lift (if qD ds.length then some (.tup ds) else none)
def jO (f : M (List D)) : M D := bnd f fun ds => lift (if qD ds.length then some (.lst ds) else none)
theorem qy {H : Hp} {p : Addr} (h : H p = none) (o : HO) : z8 H (upd H p o) := fun b u q => by rw [qm (qG q h)]; exact q
theorem Rep.laid {K : Fr0} {ρ : Env} {σ : St} {H : Hp} (r : Rep K c ρ σ H) {p : Addr} (h : H p = none) (o : HO) : Rep K c ρ σ (upd H p o) := r.same (qy h o)
theorem zO {p : Bool} {d e : D} (h : (if p then some d else none) = some e) : p = true /\ d = e := by
  cases p with
  | true => exact ⟨rfl, by simpa using h⟩
  | false => simp at h
theorem uK {es : List Expr} {x1} {f : M (List D)} (h : DA X c es f) : DE X c (.Tuple es x1 pos) (yO f) := by
  obtain ⟨t, p, w⟩ := h
  refine ⟨_, qjL p, fun ρ σ H Q r h => w ρ σ H _ r (WpL.bnd h fun ds ρ1 vs H1 r1 i1 g1 h1 => ?_)⟩
  obtain ⟨d, e, h2⟩ := h1.lift
  obtain ⟨e1, e2⟩ := zO e
  subst e2
  refine ⟨by rw [i1.length]; exact of_decide_eq_true e1, fun p hp => h2 _ _ (r1.laid hp _) ⟨p, vs, rfl, .inl qr, IsL.ext (Ext.of_same (qy hp _)) (fun _ h _ => h) i1⟩ (.of_same (qy hp _))⟩
theorem jz {es : List Expr} {f : M (List D)} (h : DA X c es f) : DE X c (.List es pos) (jO f) := by
  obtain ⟨t, p, w⟩ := h
  refine ⟨_, qei p, fun ρ σ H Q r h => w ρ σ H _ r (WpL.bnd h fun ds ρ1 vs H1 r1 i1 g1 h1 => ?_)⟩
  obtain ⟨d, e, h2⟩ := h1.lift
  obtain ⟨e1, e2⟩ := zO e
  subst e2
  refine ⟨by rw [i1.length]; exact of_decide_eq_true e1, fun p hp => h2 _ _ (r1.laid hp _) ⟨p, vs, rfl, r1.new hp, qr, IsL.ext (Ext.of_same (qy hp _)) (fun _ h _ => h) i1⟩ (.of_same (qy hp _))⟩
def OpS (K : Fr0) (F : D -> D -> Option D) (r : R2) : Prop := ∀ (A : Addr -> Prop) (H : Hp) (x y d : D) (v u : V) (Q : VK), (∀ a, H a = none -> A a) -> Is K A H x v -> Is K A H y u -> F x y = some d ->
  (∀ w H', z8 H H' -> Is K A H' d w -> Q w H') -> r v u H Q
def d2 (F : D -> D -> Option D) (f g : M D) : M D := bnd f fun x => bnd g fun y => lift (F x y)
theorem op2 {r : R2} {F : D -> D -> Option D} {f g : M D} {ta tb : TE} (hF : OpS X.K F r) (wa : ∀ ρ σ H Q, Rep X.K c ρ σ H -> Wp X.K c σ H Q (f ρ) -> ta σ H Q) (wb : ∀ ρ σ H Q, Rep X.K c ρ σ H -> Wp X.K c σ H Q (g ρ) -> tb σ H Q) :
    ∀ ρ σ H Q, Rep X.K c ρ σ H -> Wp X.K c σ H Q (d2 F f g ρ) -> tOp r ta tb σ H Q := fun ρ σ H Q rp h => wa ρ σ H _ rp (Wp.bnd h fun x ρ1 v H1 r1 i1 g1 h1 => wb ρ1 σ H1 _ r1 (Wp.bnd h1 fun y ρ2 u H2 r2 i2 g2 h2 => by
  obtain ⟨d, e, h3⟩ := h2.lift
  exact hF _ H2 x y d v u Q (fun a ha => r2.new ha) (g2.is i1) i2 e fun w H' s i => h3 w H' (r2.same s) i (.of_same s)))
theorem qz {op : Operator} {r : R2} {F : D -> D -> Option D} {f g : M D} (ho : OpR X (binaryOp op) r) (hF : OpS X.K F r) (ha : DE X c a f) (hb : DE X c b g) : DE X c (.BinOp a op b pos) (d2 F f g) := by
  obtain ⟨ta, pa, wa⟩ := ha
  obtain ⟨tb, pb, wb⟩ := hb
  exact ⟨_, qlu ho pa pb, op2 hF wa wb⟩
theorem qcy {op : CmpOp} {r : R2} {F : D -> D -> Option D} {f g : M D} (ho : OpR X (compareOp op) r) (hF : OpS X.K F r) (ha : DE X c a f) (hb : DE X c b g) (hm : behindInMarks op b = false) : DE X c (.Compare a [op] [b] pos) (d2 F f g) := by
  obtain ⟨ta, pa, wa⟩ := ha
  obtain ⟨tb, pb, wb⟩ := hb
  exact ⟨_, qhT ho pa pb hm, op2 hF wa wb⟩
def asB : D -> Option Bool
  | .bl b => some b
  | _ => none
def tst (f : M D) : M Bool := bnd f fun d => lift (asB d)
theorem qcz {K : Fr0} {σ : St} {H : Hp} {QB : Bool -> Hp -> Prop} {o : Option Bool} {ρ : Env} (h : WpB K c σ H QB (lift o ρ)) : ∃ b, o = some b /\ ∀ H', Rep K c ρ σ H' -> Gr c.O σ H H' -> QB b H' := by
  cases o with
  | none => exact h.elim
  | some d => exact ⟨d, rfl, h⟩
theorem qal {d : D} {b : Bool} (h : asB d = some b) : d = .bl b := by
  cases d <;> simp [asB] at h
  subst h; rfl
theorem zZ {op : CmpOp} {r : R2} {F : D -> D -> Option D} {f g : M D} (ho : OpR X (compareOp op) r) (hF : OpS X.K F r) (ha : DE X c a f) (hb : DE X c b g) (hm : behindInMarks op b = false) : DT X c (.Compare a [op] [b] pos) (tst (d2 F f g)) := by
  obtain ⟨ta, pa, wa⟩ := ha
  obtain ⟨tb, pb, wb⟩ := hb
  refine ⟨_, qhU ho pa pb hm, fun ρ σ H Q rp h => op2 hF wa wb ρ σ H _ rp (Wp.bndB h fun d ρ1 v H1 r1 i1 g1 h1 => ?_)⟩
  obtain ⟨b, e, h2⟩ := qcz h1
  have := qal e
  subst this
  exact ⟨b, i1, h2 H1 r1 .refl⟩
theorem vo {f : M D} (h : DE X c e f) (he : ∀ whole, isTrue e X.env whole = (do let v <- whole; standAt e.pos; holding [v] (truthy v)) := by intro _; rfl) : DT X c e (tst f) := by
  obtain ⟨t, p, w⟩ := h
  refine ⟨_, qjp p he, fun ρ σ H Q rp h => w ρ σ H _ rp (Wp.bndB h fun d ρ1 v H1 r1 i1 g1 h1 => ?_)⟩
  obtain ⟨b, e, h2⟩ := qcz h1
  have := qal e
  subst this
  exact ⟨b, i1, h2 H1 r1 .refl⟩
def qfK (f : M Bool) : M Bool := bnd f fun b => ret (!b)
theorem vS {f : M Bool} (h : DT X c a f) : DT X c (.UnaryOp .Not a pos) (qfK f) := by
  obtain ⟨t, p, w⟩ := h
  exact ⟨_, qjs p, fun ρ σ H Q rp h => w ρ σ H _ rp (WpB.bndB h fun d ρ1 H1 r1 g1 h1 => h1 H1 r1 .refl)⟩
def DW (X : Cx) (c : Fc) (e : Expr) (f : M Bool) : Prop := ∃ t, PW X e t /\ ∀ ρ σ H Q, Rep X.K c ρ σ H -> WpB X.K c σ H Q (f ρ) -> t σ H Q
theorem DW.dt {f : M Bool} (h : DW X c e f) : DT X c e f := by
  obtain ⟨t, p, w⟩ := h
  exact ⟨t, p.pt, w⟩
def qes (f g : M Bool) : M Bool := bnd f fun b => if b then g else ret false
def tor (f g : M Bool) : M Bool := bnd f fun b => if b then ret true else g
variable {zQ : List Expr}
theorem qh3 {f : M Bool} (h : DT X c a f) : DW X c (.BoolOp .And [a] pos) f := by
  obtain ⟨t, p, w⟩ := h
  exact ⟨t, qhN p, w⟩
theorem qbc {f : M Bool} (h : DT X c a f) : DW X c (.BoolOp .Or [a] pos) f := by
  obtain ⟨t, p, w⟩ := h
  exact ⟨t, qjq p, w⟩
theorem qjY {f g : M Bool} (ha : DT X c a f) (hb : DW X c (.BoolOp .And (b :: zQ) pos) g) : DW X c (.BoolOp .And (a :: b :: zQ) pos) (qes f g) := by
  obtain ⟨ta, pa, wa⟩ := ha
  obtain ⟨tb, pb, wb⟩ := hb
  refine ⟨_, qjr pa pb, fun ρ σ H Q rp h => wa ρ σ H _ rp (WpB.bndB h fun d ρ1 H1 r1 g1 h1 => ?_)⟩
  cases d with
  | true => exact qjc (wb ρ1 σ H1 Q r1 (by simpa using h1))
  | false => exact qjb ((by simpa using h1 : WpB X.K c σ H1 Q (ret false ρ1)) H1 r1 .refl)
theorem qet {f g : M Bool} (ha : DT X c a f) (hb : DW X c (.BoolOp .Or (b :: zQ) pos) g) : DW X c (.BoolOp .Or (a :: b :: zQ) pos) (tor f g) := by
  obtain ⟨ta, pa, wa⟩ := ha
  obtain ⟨tb, pb, wb⟩ := hb
  refine ⟨_, qlk pa pb, fun ρ σ H Q rp h => wa ρ σ H _ rp (WpB.bndB h fun d ρ1 H1 r1 g1 h1 => ?_)⟩
  cases d with
  | true => exact qjc ((by simpa using h1 : WpB X.K c σ H1 Q (ret true ρ1)) H1 r1 .refl)
  | false => exact qjb (wb ρ1 σ H1 Q r1 (by simpa using h1))
def qlb (f : M D) : M D := bnd f fun d => bnd (lift (asB d)) fun b => ret (.bl (!b))
def qjd (f g : M D) : M D := bnd f fun d => bnd (lift (asB d)) fun b => if b then g else ret (.bl false)
def dor (f g : M D) : M D := bnd f fun d => bnd (lift (asB d)) fun b => if b then ret (.bl true) else g
theorem qeu {K : Fr0} {σ : St} {H : Hp} {Q : VK} {d : D} {k : Bool -> M D} {ρ : Env} (h : Wp K c σ H Q (bnd (lift (asB d)) k ρ)) : ∃ b, d = .bl b /\ Wp K c σ H Q (k b ρ) := by
  unfold bnd at h
  cases e : asB d with
  | none => rw [e] at h; exact h.elim
  | some b => rw [e] at h; exact ⟨b, qal e, h⟩
theorem qcA {op} {f : M D} (h : DE X c a f) : DE X c (.BoolOp op [a] pos) f := by
  obtain ⟨t, p, w⟩ := h
  exact ⟨t, qjt p, w⟩
theorem qjZ {f : M D} (h : DE X c a f) : DE X c (.UnaryOp .Not a pos) (qlb f) := by
  obtain ⟨t, p, w⟩ := h
  refine ⟨_, qjv p, fun ρ σ H Q rp h => w ρ σ H _ rp (Wp.bnd h fun d ρ1 v H1 r1 i1 g1 h1 => ?_)⟩
  obtain ⟨b, e, h2⟩ := qeu h1
  subst e
  exact ⟨b, i1, h2 _ H1 r1 rfl .refl⟩
theorem qev {f g : M D} (ha : DE X c a f) (hb : DE X c (.BoolOp .And (b :: zQ) pos) g) : DE X c (.BoolOp .And (a :: b :: zQ) pos) (qjd f g) := by
  obtain ⟨ta, pa, wa⟩ := ha
  obtain ⟨tb, pb, wb⟩ := hb
  refine ⟨_, qju pa pb, fun ρ σ H Q rp h => wa ρ σ H _ rp (Wp.bnd h fun d ρ1 v H1 r1 i1 g1 h1 => ?_)⟩
  obtain ⟨k, e, h2⟩ := qeu h1
  subst e
  refine ⟨k, i1, ?_⟩
  cases k with
  | true => exact qjc (wb ρ1 σ H1 Q r1 (by simpa using h2))
  | false => exact qjb ((by simpa using h2 : Wp X.K c σ H1 Q (ret (.bl false) ρ1)) _ H1 r1 rfl .refl)
theorem qlH {f g : M D} (ha : DE X c a f) (hb : DE X c (.BoolOp .Or (b :: zQ) pos) g) : DE X c (.BoolOp .Or (a :: b :: zQ) pos) (dor f g) := by
  obtain ⟨ta, pa, wa⟩ := ha
  obtain ⟨tb, pb, wb⟩ := hb
  refine ⟨_, qln pa pb, fun ρ σ H Q rp h => wa ρ σ H _ rp (Wp.bnd h fun d ρ1 v H1 r1 i1 g1 h1 => ?_)⟩
  obtain ⟨k, e, h2⟩ := qeu h1
  subst e
  refine ⟨k, i1, ?_⟩
  cases k with
  | true => exact qjc ((by simpa using h2 : Wp X.K c σ H1 Q (ret (.bl true) ρ1)) _ H1 r1 rfl .refl)
  | false => exact qjb (wb ρ1 σ H1 Q r1 (by simpa using h2))
def dif (f : M Bool) (g k : M D) : M D := bnd f fun b => if b then g else k
theorem qj0 {t : Expr} {f : M Bool} {g k : M D} (ht : DT X c t f) (ha : DE X c a g) (hb : DE X c b k) : DE X c (.IfExp t a b pos) (dif f g k) := by
  obtain ⟨tt, pt, wt⟩ := ht
  obtain ⟨ta, pa, wa⟩ := ha
  obtain ⟨tb, pb, wb⟩ := hb
  refine ⟨_, qfR pt pa pb, fun ρ σ H Q rp h => wt ρ σ H _ rp (WpB.bnd h fun d ρ1 H1 r1 g1 h1 => ?_)⟩
  cases d with
  | true => exact qjc (wa ρ1 σ H1 Q r1 (by simpa using h1))
  | false => exact qjb (wb ρ1 σ H1 Q r1 (by simpa using h1))
def vx (K : Fr0) (F : List D -> Option D) (r : List V -> Hp -> VK -> Prop) : Prop := ∀ (A : Addr -> Prop) (H : Hp) (xs : List D) (d : D) (vs : List V) (Q : VK), (∀ a, H a = none -> A a) -> IsL K A H xs vs -> F xs = some d ->
  (∀ w H', z8 H H' -> Is K A H' d w -> Q w H') -> r vs H Q
def qW (F : List D -> Option D) (f : M (List D)) : M D := bnd f fun ds => lift (F ds)
theorem qlI {r : List V -> Hp -> VK -> Prop} {F : List D -> Option D} {f : M (List D)} {t : TA} (hF : vx X.K F r) (w : ∀ ρ σ H Q, Rep X.K c ρ σ H -> WpL X.K c σ H Q (f ρ) -> t σ H Q) :
    ∀ ρ σ H Q, Rep X.K c ρ σ H -> Wp X.K c σ H Q (qW F f ρ) -> tCB r t σ H Q := fun ρ σ H Q rp h => w ρ σ H _ rp (WpL.bnd h fun ds ρ1 vs H1 r1 i1 g1 h1 => by
  obtain ⟨d, e, h3⟩ := h1.lift
  exact hF _ H1 ds d vs Q (fun a ha => r1.new ha) i1 e fun w H' s i => h3 w H' (r1.same s) i (.of_same s))
theorem zq {id : String} {x : Str} {p : Pos} {es : List Expr} {r : List V -> Hp -> VK -> Prop} {F : List D -> Option D} {f : M (List D)} (hc : jN X (.builtin id) r) (hF : vx X.K F r) (hg : Gl X x) (hm : X.mg x = none) (hv : bootBuiltins x = some (.builtin id)) (ha : DA X c (e :: es) f) (hn : x ≠ "__name__" := by decide) (hdb : (x == ("__debug__" : Str)) = false := by decide)
    (he : starEach (e :: es) X.env = (false, eval e X.env) :: starEach es X.env := by rfl) (hpl : (backTo pos (starEach es X.env)).any (·.1) = false := by rfl) : DE X c (.Call (.Name x p) (e :: es) [] pos) (qW F f) := by
  obtain ⟨t, pa, w⟩ := ha
  exact ⟨_, vC hc hg hm hv pa hn hdb he hpl, qlI hF w⟩
theorem jD {r : R2} {F : D -> D -> Option D} {f g : M D} (hr : IxR X r) (hF : OpS X.K F r) (ha : DE X c a f) (hb : DE X c b g) (hs : qb0 b := by intro _ _; rfl) : DE X c (.Subscript a b pos) (d2 F f g) := by
  obtain ⟨ta, pa, wa⟩ := ha
  obtain ⟨tb, pb, wb⟩ := hb
  exact ⟨_, qjQ hr pa pb hs, op2 hF wa wb⟩
end
end L2.Sk
namespace L2.Sk
open PySem PySem.Spec PyProof.Rows
inductive Fl where
  | nx (ρ : Env) | rt (d : D) (ρ : Env) | bk (ρ : Env) | ct (ρ : Env)
structure GrS (O : List Nat) (σ : St) (H : Hp) (σ' : St) (H' : Hp) : Prop where
  ext : Ext (Cl O σ) H H'
  cl : ∀ b, Cl O σ b -> (H b).isSome = true -> Cl O σ' b
  dom : ∀ b, H' b = none -> H b = none
theorem qdu {H H' : Hp} {b : Addr} (dom : H' b = none -> H b = none) (h : (H b).isSome = true) : (H' b).isSome = true := by
  cases e : H' b with
  | none => rw [dom e] at h; cases h
  | some o => rfl
theorem GrS.refl {O : List Nat} {σ : St} {H : Hp} : GrS O σ H σ H := ⟨Ext.refl, fun _ h _ => h, fun _ h => h⟩
theorem Gr.s {O : List Nat} {σ : St} {H H' : Hp} (g : Gr O σ H H') : GrS O σ H σ H' := ⟨g.ext, fun _ h _ => h, g.dom⟩
theorem GrS.trans {O : List Nat} {σ σ1 σ2 : St} {H H1 H2 : Hp} (a : GrS O σ H σ1 H1) (b : GrS O σ1 H1 σ2 H2) : GrS O σ H σ2 H2 :=
  ⟨⟨fun c xs h => b.ext.tup c xs (a.ext.tup c xs h), fun c o u h => b.ext.frz c o u (a.ext.frz c o u h), fun c o hc h => b.ext.at_ c o (a.cl c hc (by rw [h]; rfl)) (a.ext.at_ c o hc h)⟩,
    fun c hc h => b.cl c (a.cl c hc h) (qdu (a.dom c) h), fun c h => a.dom c (b.dom c h)⟩
theorem GrS.is {K : Fr0} {c : Fc} {σ σ' : St} {H H' : Hp} {d : D} {v : V} (g : GrS c.O σ H σ' H') (h : Is K (Cn c σ) H d v) : Is K (Cn c σ') H' d v :=
  Is.ext ⟨g.ext.tup, g.ext.frz, fun b o hb h => g.ext.at_ b o hb.2 h⟩ (fun a ha hs => ⟨ha.1, g.cl a ha.2 hs⟩) h
theorem GrS.isL {K : Fr0} {c : Fc} {σ σ' : St} {H H' : Hp} {d : List D} {v : List V} (g : GrS c.O σ H σ' H') (h : IsL K (Cn c σ) H d v) : IsL K (Cn c σ') H' d v :=
  IsL.ext ⟨g.ext.tup, g.ext.frz, fun b o hb h => g.ext.at_ b o hb.2 h⟩ (fun a ha hs => ⟨ha.1, g.cl a ha.2 hs⟩) h
def WpS (K : Fr0) (c : Fc) (σ : St) (H : Hp) (D : qdo) : R Fl -> Prop
  | .ok (.nx ρ) => ∀ σ' H', Rep K c ρ σ' H' -> GrS c.O σ H σ' H' -> D.nx σ' H'
  | .ok (.rt d ρ) => ∀ v σ' H', Rep K c ρ σ' H' -> Is K c.B H' d v -> GrS c.O σ H σ' H' -> D.rt v H'
  | .ok (.bk ρ) => ∀ σ' H', Rep K c ρ σ' H' -> GrS c.O σ H σ' H' -> D.bk σ' H'
  | .ok (.ct ρ) => ∀ σ' H', Rep K c ρ σ' H' -> GrS c.O σ H σ' H' -> D.ct σ' H'
  | .exc x ρ => ∀ σ' H', Rep K c ρ σ' H' -> GrS c.O σ H σ' H' -> c.E x H'
  | .bad => False
abbrev MS := Env -> R Fl
def DS (X : Cx) (c : Fc) (st : Stmt) (f : MS) : Prop := ∃ t, PS X st t /\ ∀ ρ σ H D, Rep X.K c ρ σ H -> WpS X.K c σ H D (f ρ) -> t D σ H
def DSs (X : Cx) (c : Fc) (st : List Stmt) (f : MS) : Prop := ∃ t, PSs X st t /\ ∀ ρ σ H D, Rep X.K c ρ σ H -> WpS X.K c σ H D (f ρ) -> t D σ H
theorem WpS.gr {K : Fr0} {c : Fc} {σ σ1 : St} {H H1 : Hp} {D : qdo} : ∀ {r : R Fl}, WpS K c σ H D r -> GrS c.O σ H σ1 H1 -> WpS K c σ1 H1 D r
  | .ok (.nx ρ), h, g => fun σ' H' hr hg => h σ' H' hr (g.trans hg)
  | .ok (.rt d ρ), h, g => fun v σ' H' hr hi hg => h v σ' H' hr hi (g.trans hg)
  | .ok (.bk ρ), h, g => fun σ' H' hr hg => h σ' H' hr (g.trans hg)
  | .ok (.ct ρ), h, g => fun σ' H' hr hg => h σ' H' hr (g.trans hg)
  | .exc x ρ, h, g => fun σ' H' hr hg => h σ' H' hr (g.trans hg)
  | .bad, h, _ => h
def sbnd {α : Type} (f : M α) (k : α -> MS) : MS := fun ρ => match f ρ with
  | .ok (a, ρ') => k a ρ'
  | .exc x ρ' => .exc x ρ'
  | .bad => .bad
section
variable {K : Fr0} {c : Fc} {σ : St} {H : Hp} {D : qdo}
theorem Wp.sbnd {f : M Sk.D} {k : Sk.D -> MS} {ρ : Env} {Q' : VK} (h : WpS K c σ H D (sbnd f k ρ)) (hQ : ∀ d ρ' v H', Rep K c ρ' σ H' -> Is K (Cn c σ) H' d v -> Gr c.O σ H H' -> WpS K c σ H' D (k d ρ') -> Q' v H') : Wp K c σ H Q' (f ρ) := by
  unfold Sk.sbnd at h
  cases e : f ρ with
  | ok p => rw [e] at h; exact fun v H' hr hi hg => hQ p.1 p.2 v H' hr hi hg (h.gr hg.s)
  | exc x ρ' => rw [e] at h; exact fun H' hr hg => h σ H' hr hg.s
  | bad => rw [e] at h; exact h
theorem WpB.sbnd {f : M Bool} {k : Bool -> MS} {ρ : Env} {Q' : Bool -> Hp -> Prop} (h : WpS K c σ H D (sbnd f k ρ)) (hQ : ∀ d ρ' H', Rep K c ρ' σ H' -> Gr c.O σ H H' -> WpS K c σ H' D (k d ρ') -> Q' d H') : WpB K c σ H Q' (f ρ) := by
  unfold Sk.sbnd at h
  cases e : f ρ with
  | ok p => rw [e] at h; exact fun H' hr hg => hQ p.1 p.2 H' hr hg (h.gr hg.s)
  | exc x ρ' => rw [e] at h; exact fun H' hr hg => h σ H' hr hg.s
  | bad => rw [e] at h; exact h
theorem WpL.sbnd {f : M (List Sk.D)} {k : List Sk.D -> MS} {ρ : Env} {Q' : List V -> Hp -> Prop} (h : WpS K c σ H D (sbnd f k ρ)) (hQ : ∀ d ρ' v H', Rep K c ρ' σ H' -> IsL K (Cn c σ) H' d v -> Gr c.O σ H H' -> WpS K c σ H' D (k d ρ') -> Q' v H') : WpL K c σ H Q' (f ρ) := by
  unfold Sk.sbnd at h
  cases e : f ρ with
  | ok p => rw [e] at h; exact fun v H' hr hi hg => hQ p.1 p.2 v H' hr hi hg (h.gr hg.s)
  | exc x ρ' => rw [e] at h; exact fun H' hr hg => h σ H' hr hg.s
  | bad => rw [e] at h; exact h
end
def qM (f g : MS) : MS := fun ρ => match f ρ with
  | .ok (.nx ρ') => g ρ'
  | r => r
theorem WpS.mono_nx {K : Fr0} {c : Fc} {σ : St} {H : Hp} {D : qdo} {f g : MS} {ρ : Env} {N : St -> Hp -> Prop} (h : WpS K c σ H D (qM f g ρ)) (hN : ∀ ρ' σ' H', Rep K c ρ' σ' H' -> GrS c.O σ H σ' H' -> WpS K c σ' H' D (g ρ') -> N σ' H') :
    WpS K c σ H { D with nx := N } (f ρ) := by
  unfold qM at h
  cases e : f ρ with
  | ok fl =>
    rw [e] at h
    cases fl with
    | nx ρ' => exact fun σ' H' hr hg => hN ρ' σ' H' hr hg (h.gr hg)
    | rt d ρ' => exact h
    | bk ρ' => exact h
    | ct ρ' => exact h
  | exc x ρ' => rw [e] at h; exact h
  | bad => rw [e] at h; exact h
section
variable {X : Cx} {c : Fc} {a b e : Expr} {pos : Pos} {st : Stmt} {sts : List Stmt}
theorem qh4 : DSs X c [] (fun ρ => .ok (.nx ρ)) := ⟨_, qhO, fun ρ σ H D r h => h σ H r .refl⟩
theorem qh {f : MS} (h : DS X c st f) : DSs X c [st] f := by
  obtain ⟨t, p, w⟩ := h
  exact ⟨t, qbX p, w⟩
theorem qg {f g : MS} (h : DS X c st f) (hr : DSs X c sts g) : DSs X c (st :: sts) (qM f g) := by
  obtain ⟨t, p, w⟩ := h
  obtain ⟨t2, p2, w2⟩ := hr
  exact ⟨_, qfS p p2, fun ρ σ H D r h => w ρ σ H _ r (h.mono_nx fun ρ' σ' H' r' g' h' => w2 ρ' σ' H' D r' h')⟩
def yN (f : M D) : MS := sbnd f fun d ρ => .ok (.rt d ρ)
theorem Is.cn {K : Fr0} {σ : St} {H : Hp} {d : D} {v : V} (h : Is K (Cn c σ) H d v) : Is K c.B H d v := Is.ext Ext.refl (fun _ h _ => h.1) h
theorem qR {f : M D} (h : DE X c e f) : DS X c (.Return (some e) pos) (yN f) := by
  obtain ⟨t, p, w⟩ := h
  exact ⟨_, qcv p, fun ρ σ H D r h => w ρ σ H _ r (Wp.sbnd h fun d ρ1 v H1 r1 i1 g1 h1 => h1 v σ H1 r1 i1.cn .refl)⟩
def jk (f : M D) : MS := sbnd f fun _ ρ => .ok (.nx ρ)
theorem yh {f : M D} (h : DE X c e f) (hs : swapsWith e none pos.line X.env = pure false := by rfl) : DS X c (.Expr e pos) (jk f) := by
  obtain ⟨t, p, w⟩ := h
  exact ⟨_, qhP p hs, fun ρ σ H D r h => w ρ σ H _ r (Wp.sbnd h fun d ρ1 v H1 r1 i1 g1 h1 => h1 σ H1 r1 .refl)⟩
def sif (f : M Bool) (g k : MS) : MS := sbnd f fun b => if b then g else k
theorem uL {t : Expr} {s1 s2 : List Stmt} {f : M Bool} {g k : MS} (ht : DT X c t f) (ha : DSs X c s1 g) (hb : DSs X c s2 k) : DS X c (.If t s1 s2 pos) (sif f g k) := by
  obtain ⟨tt, pt, wt⟩ := ht
  obtain ⟨ta, pa, wa⟩ := ha
  obtain ⟨tb, pb, wb⟩ := hb
  refine ⟨_, qlq pt pa pb, fun ρ σ H D rp h => wt ρ σ H _ rp (WpB.sbnd h fun d ρ1 H1 r1 g1 h1 => ?_)⟩
  cases d with
  | true => exact qjc (wa ρ1 σ H1 D r1 (by simpa using h1))
  | false => exact qjb (wb ρ1 σ H1 D r1 (by simpa using h1))
theorem zf {α : Type} {l : List α} {i j : Nat} {v : α} (h : j ≠ i) : (l.set i v)[j]? = l[j]? := List.getElem?_set_ne (Ne.symm h)
theorem Cl.set {O : List Nat} {σ : St} {i : Nat} {v : Option V} (hi : i ∉ O) (a : Addr) : Cl O (σ.set i v) a ↔ Cl O σ a := by
  constructor
  . intro h j hj
    have e : j ≠ i := fun e => hi (e ▸ hj)
    have := h j hj
    rw [zf e] at this
    exact this
  . intro h j hj
    have e : j ≠ i := fun e => hi (e ▸ hj)
    rw [zf e]
    exact h j hj
theorem Rep.set {K : Fr0} {ρ : Env} {σ : St} {H : Hp} {i : Nat} {d : D} {v : V} (r : Rep K c ρ σ H) (hi : i ∉ c.O) (h : Is K (Cn c σ) H d v) : Rep K c (ρ.set i (some d)) (σ.set i (some v)) H where
  len := by rw [List.length_set, List.length_set]; exact r.len
  val := fun j e hj => by
    have up : ∀ {d' : D} {v' : V}, Is K (Cn c σ) H d' v' -> Is K (Cn c (σ.set i (some v))) H d' v' := fun h => Is.ext Ext.refl (fun a ha _ => ⟨ha.1, (Cl.set hi a).mpr ha.2⟩) h
    by_cases e1 : j = i
    . subst e1
      have hl : j < ρ.length := by
        have := (List.getElem?_eq_some_iff.mp hj).1
        rwa [List.length_set] at this
      rw [List.getElem?_set_self hl] at hj
      cases hj
      refine ⟨v, List.getElem?_set_self (by rw [<- r.len]; exact hl), .inr ⟨hi, up h⟩⟩
    . rw [zf e1] at hj
      obtain ⟨w, h1, h2⟩ := r.val j e hj
      refine ⟨w, by rw [zf e1]; exact h1, ?_⟩
      rcases h2 with ⟨hj2, ds, a, xs, h3, h5, h6, h7⟩ | ⟨h3, h4⟩
      . exact .inl ⟨hj2, ds, a, xs, h3, h5, h6, IsL.ext Ext.refl (fun a ha _ => ⟨ha.1, (Cl.set hi a).mpr ha.2⟩) h7⟩
      . exact .inr ⟨h3, up h4⟩
  own := fun j hj w h => by
    have e1 : j ≠ i := fun e => hi (e ▸ hj)
    rw [zf e1] at h
    exact r.own j hj w h
  inj := fun j k a hj hk h1 h2 => by
    have e1 : j ≠ i := fun e => hi (e ▸ hj)
    have e2 : k ≠ i := fun e => hi (e ▸ hk)
    rw [zf e1] at h1
    rw [zf e2] at h2
    exact r.inj j k a hj hk h1 h2
  b0 := r.b0
  kp := r.kp
  dm := r.dm
  pO := r.pO
  ps := fun j hj => by
    have e : j ≠ i := fun e => hi (e ▸ r.pO j hj)
    rw [zf e]; exact r.ps j hj
theorem GrS.set {O : List Nat} {σ : St} {H : Hp} {i : Nat} {v : Option V} (hi : i ∉ O) : GrS O σ H (σ.set i v) H := ⟨Ext.refl, fun b h _ => (Cl.set hi b).mpr h, fun _ h => h⟩
def zM (i : Nat) (f : M D) : MS := sbnd f fun d ρ => .ok (.nx (ρ.set i (some d)))
theorem zw {i : Nat} {x : Str} {pos' : Pos} {f : M D} (hN : X.N.Nodup) (he : DE X c e f) (ho : i ∉ c.O := by exact of_decide_eq_false rfl) (hi : X.N[i]? = some x := by rfl) (hx : Loc X.env.scope x := by first | exact Or.inl rfl | exact Or.inr rfl) (hs : swapsWith e (some (.Name x pos')) pos.line X.env = pure false := by rfl) (hf : X.fn x = true \/ X.env.scope.names.lookup x = some .local := by first | exact .inl rfl | exact .inr rfl | assumption) :
    DS X c (.Assign [.Name x pos'] e pos) (zM i f) := by
  obtain ⟨t, p, w⟩ := he
  refine ⟨_, qd7 hN hi hx p hs hf, fun ρ σ H D r h => w ρ σ H _ r (Wp.sbnd h fun d ρ1 v H1 r1 i1 g1 h1 => ?_)⟩
  exact h1 _ H1 (r1.set ho i1) (.set ho)
def DG (X : Cx) (c : Fc) (tg : Expr) (f : D -> Env -> Option Env) : Prop := ∃ g, PG X tg g /\ ∀ ρ σ H d v ρ' (N : St -> Hp -> Prop), Rep X.K c ρ σ H -> Is X.K (Cn c σ) H d v -> f d ρ = some ρ' ->
  (∀ σ', Rep X.K c ρ' σ' H -> GrS c.O σ H σ' H -> (∀ j ∈ c.O, σ'[j]? = σ[j]?) -> N σ' H) -> g v σ H N
def qf (i : Nat) : D -> Env -> Option Env := fun d ρ => some (ρ.set i (some d))
theorem qv {i : Nat} {x : Str} (hN : X.N.Nodup) (ho : i ∉ c.O := by exact of_decide_eq_false rfl) (hi : X.N[i]? = some x := by rfl) (hx : Loc X.env.scope x := by first | exact Or.inl rfl | exact Or.inr rfl) (hf : X.fn x = true \/ X.env.scope.names.lookup x = some .local := by first | exact .inl rfl | exact .inr rfl | assumption) {p : Pos} : DG X c (.Name x p) (qf i) := by
  refine ⟨_, qhQ hN hi hx hf, fun ρ σ H d v ρ' N r h e k => ?_⟩
  cases e
  exact k _ (r.set ho h) (.set ho) fun j hj => zf fun e => ho (e ▸ hj)
def DGs (X : Cx) (c : Fc) (tgs : List Expr) (f : List D -> Env -> Option Env) : Prop := ∃ g, PGs X tgs g /\ ∀ ρ σ H ds vs ρ' (N : St -> Hp -> Prop), Rep X.K c ρ σ H -> IsL X.K (Cn c σ) H ds vs -> f ds ρ = some ρ' ->
  (∀ σ', Rep X.K c ρ' σ' H -> GrS c.O σ H σ' H -> (∀ j ∈ c.O, σ'[j]? = σ[j]?) -> N σ' H) -> g vs σ H N
def yi : List D -> Env -> Option Env
  | [], ρ => some ρ
  | _, _ => none
def qj (f : D -> Env -> Option Env) (g : List D -> Env -> Option Env) : List D -> Env -> Option Env
  | d :: ds, ρ => (f d ρ).bind (g ds)
  | _, _ => none
theorem yB : DGs X c [] yi := by
  refine ⟨_, qhR, fun ρ σ H ds vs ρ' N r h e k => ?_⟩
  cases ds with
  | nil =>
    cases e
    exact ⟨h, k σ r .refl fun _ _ => rfl⟩
  | cons d ds => cases e
theorem qH {tg : Expr} {tgs : List Expr} {f : D -> Env -> Option Env} {g : List D -> Env -> Option Env} (h1 : DG X c tg f) (h2 : DGs X c tgs g)
    (hs : (assignEach (tg :: tgs) X.env).map (·.2) = assign tg X.env :: (assignEach tgs X.env).map (·.2) := by rfl) : DGs X c (tg :: tgs) (qj f g) := by
  obtain ⟨t1, p1, w1⟩ := h1
  obtain ⟨t2, p2, w2⟩ := h2
  refine ⟨_, qfT p1 p2 hs, fun ρ σ H ds vs ρ' N r h e k => ?_⟩
  cases ds with
  | nil => cases e
  | cons d ds =>
    obtain ⟨v, ws, rfl, i1, i2⟩ := h
    have e' : (f d ρ).bind (g ds) = some ρ' := e
    cases e1 : f d ρ with
    | none => rw [e1] at e'; cases e'
    | some ρ1 =>
      rw [e1] at e'
      exact ⟨v, ws, rfl, w1 ρ σ H d v ρ1 _ r i1 e1 fun σ1 r1 g1 o1 => w2 ρ1 σ1 H ds ws ρ' N r1 (g1.isL i2) e' fun σ2 r2 g2 o2 => k σ2 r2 (g1.trans g2) fun j hj => (o2 j hj).trans (o1 j hj)⟩
def yj (n : Nat) (g : List D -> Env -> Option Env) : D -> Env -> Option Env
  | .tup ds, ρ => if ds.length = n then g ds ρ else none
  | _, _ => none
theorem uM {es : List Expr} {k n : Nat} {p : Pos} {g : List D -> Env -> Option Env} (hc : X.calm = true) (h : DGs X c es g) (hn : (assignEach es X.env).length = n := by rfl) (hst : (assignEach es X.env).findIdx? (·.1) = none := by rfl) : DG X c (.Tuple es k p) (yj n g) := by
  obtain ⟨t, p, w⟩ := h
  refine ⟨_, qjx (n := n) hc p hn hst, fun ρ σ H d v ρ' N r h e q => ?_⟩
  cases d with
  | tup ds =>
    obtain ⟨a, xs, rfl, ta, il⟩ := h
    have e' : (if ds.length = n then g ds ρ else none) = some ρ' := e
    by_cases hl : ds.length = n
    . rw [if_pos hl] at e'
      exact ⟨a, xs, rfl, ta.sq, by rw [il.length]; exact hl, w ρ σ H ds xs ρ' N r il e' q⟩
    . rw [if_neg hl] at e'; cases e'
  | _ => cases e
def qg1 (f : M D) (g : D -> Env -> Option Env) : MS := sbnd f fun d ρ => match g d ρ with
  | some ρ' => .ok (.nx ρ')
  | none => .bad
theorem qg2 {tg : Expr} {f : M D} {g : D -> Env -> Option Env} (he : DE X c e f) (hg : DG X c tg g) (hs : swapsWithSole [tg] e pos.line X.env = pure false := by rfl) (hw : swappedStores [tg] e X.env = pure none := by rfl) (h1 : (assignEach [tg] X.env).map (·.2) = [assign tg X.env] := by rfl) : DS X c (.Assign [tg] e pos) (qg1 f g) := by
  obtain ⟨t, p, w⟩ := he
  obtain ⟨t2, p2, w2⟩ := hg
  refine ⟨_, qgZ p p2 hs hw h1, fun ρ σ H D r h => w ρ σ H _ r (Wp.sbnd h fun d ρ1 v H1 r1 i1 g1 h1 => ?_)⟩
  cases e : g d ρ1 with
  | none => rw [e] at h1; exact h1.elim
  | some ρ2 =>
    rw [e] at h1
    exact w2 ρ1 σ H1 d v ρ2 _ r1 i1 e fun σ' r2 g2 _ => h1 σ' H1 r2 g2
end
end L2.Sk
namespace L2.Sk
open PySem PySem.Spec PyProof.Rows
section
variable {K : Fr0}
def iiD (g : Int -> Int -> D) : D -> D -> Option D
  | .int i, .int j => some (g i j)
  | _, _ => none
def qje (C : Int -> Int -> Bool) (g : Int -> Int -> D) : D -> D -> Option D
  | .int i, .int j => if C i j then some (g i j) else none
  | _, _ => none
theorem vT {g : Int -> Int -> V} {gD : Int -> Int -> D} (hg : ∀ A H i j, Is K A H (gD i j) (g i j)) : OpS K (iiD gD) (rI0 g) := by
  intro A H x y d v u Q hn ix iy e k
  cases x <;> cases y <;> simp only [iiD] at e <;> try (cases e; done)
  rename_i i j
  cases (Option.some.inj e)
  cases (show v = .int i from ix)
  cases (show u = .int j from iy)
  exact ⟨i, j, rfl, rfl, k _ H (z8.refl H) (hg _ _ _ _)⟩
theorem qg3 {C : Int -> Int -> Prop} {CB : Int -> Int -> Bool} {g : Int -> Int -> V} {gD : Int -> Int -> D} (hC : ∀ i j, CB i j = true -> C i j) (hg : ∀ A H i j, Is K A H (gD i j) (g i j)) : OpS K (qje CB gD) (rI C g) := by
  intro A H x y d v u Q hn ix iy e k
  cases x <;> cases y <;> simp only [qje] at e <;> try (cases e; done)
  rename_i i j
  obtain ⟨e1, e2⟩ := zO e
  subst e2
  cases (show v = .int i from ix)
  cases (show u = .int j from iy)
  exact ⟨i, j, rfl, rfl, hC i j e1, k _ H (z8.refl H) (hg _ _ _ _)⟩
def qlJ : D -> D -> Option D := iiD fun i j => .int (i - j)
theorem qh5 : OpS K qlJ (rI0 fun i j => .int (i - j)) := vT fun _ _ _ _ => rfl
def jh (i : Int) : Bool := decide (-(2 ^ 64) < i) && decide (i < 2 ^ 64)
theorem qbd {i : Int} (h : jh i = true) : -(2 ^ 64) < i /\ i < 2 ^ 64 := by
  unfold jh at h
  rw [Bool.and_eq_true] at h
  exact ⟨of_decide_eq_true h.1, of_decide_eq_true h.2⟩
def qew (i j : Int) : Bool := jh i || jh j
theorem qf1 {i j : Int} (h : qew i j = true) : qjE i j := by
  unfold qew at h
  rw [Bool.or_eq_true] at h
  rcases h with h | h
  . exact .inl (qbd h)
  . exact .inr (qbd h)
def qdv (i j : Int) : Bool := decide (0 < j) && decide (j < 1606938044258990275541962092341162602522202993782792835301376)
theorem qcB {i j : Int} (h : qdv i j = true) : qjD i j := by
  unfold qdv at h
  rw [Bool.and_eq_true] at h
  exact ⟨of_decide_eq_true h.1, of_decide_eq_true h.2⟩
def qex : D -> D -> Option D := qje qdv fun i j => .int (i / j)
theorem qcC : OpS K qex (rI qjD fun i j => .int (i / j)) := qg3 (fun _ _ => qcB) fun _ _ _ _ => rfl
def qbT : D -> D -> Option D := qje (fun _ j => decide (0 < j)) fun i j => .int (i % j)
theorem vU : OpS K qbT (rI (fun _ j => 0 < j) fun i j => .int (i % j)) := qg3 (fun _ _ h => of_decide_eq_true h) fun _ _ _ _ => rfl
def ltD : D -> D -> Option D := iiD fun i j => .bl (decide (i < j))
def leD : D -> D -> Option D := iiD fun i j => .bl (decide (i <= j))
def gtD : D -> D -> Option D := iiD fun i j => .bl (decide (j < i))
def geD : D -> D -> Option D := iiD fun i j => .bl (decide (j <= i))
theorem qj1 : OpS K ltD (rI0 fun i j => .bl (decide (i < j))) := vT fun _ _ _ _ => rfl
theorem qg4 : OpS K leD (rI0 fun i j => .bl (decide (i <= j))) := vT fun _ _ _ _ => rfl
theorem qg5 : OpS K gtD (rI0 fun i j => .bl (decide (j < i))) := vT fun _ _ _ _ => rfl
theorem qj2 : OpS K geD (rI0 fun i j => .bl (decide (j <= i))) := vT fun _ _ _ _ => rfl
def sc2 : D -> D -> Option Bool
  | .non, .non => some true | .non, .int _ => some false | .int _, .non => some false | .non, .bl _ => some false | .bl _, .non => some false | .non, .str _ => some false | .str _, .non => some false
  | .int i, .int j => some (decide (i = j)) | .bl i, .bl j => some (decide (i = j)) | .str i, .str j => some (decide (i = j))
  | .int _, .str _ => some false | .str _, .int _ => some false | .bl _, .str _ => some false | .str _, .bl _ => some false
  | _, _ => none
def eqS (x y : D) : Option D := (sc2 x y).map D.bl
def neS (x y : D) : Option D := (sc2 x y).map fun b => D.bl (!b)
theorem qg6 {A : Addr -> Prop} {H : Hp} {x y : D} {v u : V} {b : Bool} (ix : Is K A H x v) (iy : Is K A H y u) (e : sc2 x y = some b) : qlv v u = true /\ decide (v = u) = b := by
  cases x <;> cases y <;> simp only [sc2] at e <;> first
    | (cases e; done)
    | (cases ix; cases iy; cases e; exact ⟨rfl, rfl⟩)
    | (cases ix; cases iy; cases e; exact ⟨rfl, by simp⟩)
    | (cases ix; cases iy; cases e; exact ⟨rfl, by rw [Bool.eq_iff_iff]; simp⟩)
theorem qh6 : OpS K eqS rEq := by
  intro A H x y d v u Q hn ix iy e k
  unfold eqS at e
  cases e1 : sc2 x y with
  | none => rw [e1] at e; cases e
  | some b =>
    rw [e1] at e
    cases e
    obtain ⟨h1, h2⟩ := qg6 ix iy e1
    exact ⟨h1, by rw [h2]; exact k _ H (z8.refl H) rfl⟩
theorem qh7 : OpS K neS rNe := by
  intro A H x y d v u Q hn ix iy e k
  unfold neS at e
  cases e1 : sc2 x y with
  | none => rw [e1] at e; cases e
  | some b =>
    rw [e1] at e
    cases e
    obtain ⟨h1, h2⟩ := qg6 ix iy e1
    exact ⟨h1, by rw [h2]; exact k _ H (z8.refl H) rfl⟩
def yt : D -> Bool
  | .non => true
  | _ => false
theorem vE {A : Addr -> Prop} {H : Hp} {x : D} {v : V} (ix : Is K A H x v) : decide (v = V.non) = yt x := by
  cases x with
  | non => cases ix; rfl
  | bl b => cases ix; rfl
  | int i => cases ix; rfl
  | str s => cases ix; rfl
  | tup ds => obtain ⟨a, xs, rfl, _⟩ := ix; rfl
  | lst ds => obtain ⟨a, xs, rfl, _⟩ := ix; rfl
  | dic ds => obtain ⟨a, rfl, _⟩ := ix; rfl
  | fz ds => obtain ⟨a, rfl, _⟩ := ix; rfl
  | exc ds => obtain ⟨a, rfl, _⟩ := ix; rfl
def isN (x y : D) : Option D := if yt y then some (.bl (yt x)) else none
def qlc (x y : D) : Option D := if yt y then some (.bl (!yt x)) else none
theorem qam : OpS K isN (fun x y H Q => y = .non /\ Q (.bl (decide (x = .non))) H) := by
  intro A H x y d v u Q hn ix iy e k
  obtain ⟨e1, e2⟩ := zO e
  subst e2
  have h := vE iy
  rw [e1] at h
  refine ⟨of_decide_eq_true h, ?_⟩
  rw [vE ix]
  exact k _ H (z8.refl H) rfl
theorem qf2 : OpS K qlc (fun x y H Q => y = .non /\ Q (.bl (!decide (x = .non))) H) := by
  intro A H x y d v u Q hn ix iy e k
  obtain ⟨e1, e2⟩ := zO e
  subst e2
  have h := vE iy
  rw [e1] at h
  refine ⟨of_decide_eq_true h, ?_⟩
  rw [vE ix]
  exact k _ H (z8.refl H) rfl
def ixD : D -> D -> Option D
  | .tup ds, .int i => atI ds i
  | .lst ds, .int i => atI ds i
  | .fz ns, .int i => (atI ns i).map D.int
  | _, _ => none
theorem IsL.atI {A : Addr -> Prop} {H : Hp} {ds : List D} {xs : List V} {i : Int} {d : D} (h : IsL K A H ds xs) (e : L2.atI ds i = some d) : ∃ v, L2.atI xs i = some v /\ Is K A H d v := by
  unfold L2.atI at e |-
  rw [h.length]
  cases e1 : ixN ds.length i with
  | none => rw [e1] at e; cases e
  | some j =>
    rw [e1] at e
    exact h.get e
theorem zr : OpS K ixD (fun x y H Q => qlD K x y H Q \/ qlE K x y H Q) := by
  intro A H x y d v u Q hn ix iy e k
  cases x <;> cases y <;> simp only [ixD] at e <;> try (cases e; done)
  . rename_i ds i
    cases iy
    obtain ⟨a, xs, rfl, ta, il⟩ := ix
    obtain ⟨w, h1, h2⟩ := il.atI e
    exact .inr ⟨a, xs, i, w, rfl, rfl, ta.sq, h1, k w H (z8.refl H) h2⟩
  . rename_i ds i
    cases iy
    obtain ⟨a, xs, rfl, _, ta, il⟩ := ix
    obtain ⟨w, h1, h2⟩ := il.atI e
    exact .inl ⟨a, xs, i, w, rfl, rfl, .inl (.inl ta), h1, k w H (z8.refl H) h2⟩
  . rename_i ns i
    cases iy
    obtain ⟨a, rfl, ta⟩ := ix
    cases e1 : L2.atI ns i with
    | none => rw [e1] at e; cases e
    | some m =>
      rw [e1] at e
      cases e
      have h1 : L2.atI (ns.map V.int) i = some (V.int m) := by
        unfold L2.atI at e1 |-
        rw [List.length_map]
        cases e2 : ixN ns.length i with
        | none => rw [e2] at e1; cases e1
        | some j =>
          rw [e2] at e1
          have e3 : ns[j]? = some m := e1
          show (ns.map V.int)[j]? = some (V.int m)
          rw [List.getElem?_map, e3]; rfl
      exact .inl ⟨a, _, i, .int m, rfl, rfl, ta.sq, h1, k _ H (z8.refl H) rfl⟩
theorem IsL.inv1 {A : Addr -> Prop} {H : Hp} {d : D} {vs : List V} (h : IsL K A H [d] vs) : ∃ v, vs = [v] /\ Is K A H d v := by
  obtain ⟨x, ys, e1, e2, e3⟩ := h
  have e3' : ys = [] := e3
  exact ⟨x, by rw [e1, e3'], e2⟩
theorem IsL.inv2 {A : Addr -> Prop} {H : Hp} {d d' : D} {vs : List V} (h : IsL K A H [d, d'] vs) : ∃ v w, vs = [v, w] /\ Is K A H d v /\ Is K A H d' w := by
  obtain ⟨x, ys, e1, e2, e3⟩ := h
  obtain ⟨w, e4, e5⟩ := IsL.inv1 e3
  exact ⟨x, w, by rw [e1, e4], e2, e5⟩
def qne : List D -> Option D
  | [.int i] => some (.int (if i < 0 then -i else i))
  | _ => none
def qh8 : List D -> Option D
  | [.int i, .int j] => some (.int (if j > i then j else i))
  | _ => none
def qbe : List D -> Option D
  | [.int i, .int j] => some (.int (if j < i then j else i))
  | _ => none
theorem qey : vx K qh8 (fun xs H Q => ∃ i j, xs = [.int i, .int j] /\ Q (.int (if j > i then j else i)) H) := by
  intro A H xs d vs Q hn h e k
  unfold qh8 at e
  split at e
  . rename_i i j
    obtain ⟨v, w, rfl, e2, e3⟩ := IsL.inv2 h
    cases e2; cases e3; cases e
    exact ⟨i, j, rfl, k _ H (z8.refl H) rfl⟩
  . cases e
theorem qbf : vx K qbe (fun xs H Q => ∃ i j, xs = [.int i, .int j] /\ Q (.int (if j < i then j else i)) H) := by
  intro A H xs d vs Q hn h e k
  unfold qbe at e
  split at e
  . rename_i i j
    obtain ⟨v, w, rfl, e2, e3⟩ := IsL.inv2 h
    cases e2; cases e3; cases e
    exact ⟨i, j, rfl, k _ H (z8.refl H) rfl⟩
  . cases e
def vV : List D -> Option D
  | [.int i, .int j] => if qdv i j then some (.tup [.int (i / j), .int (i % j)]) else none
  | _ => none
theorem qbg : vx K vV (fun xs H Q => ∃ i j, xs = [.int i, .int j] /\ qjD i j /\ ∀ p, H p = none -> Q (.ref p) (upd H p (.tup [.int (i / j), .int (i % j)]))) := by
  intro A H xs d vs Q hn h e k
  unfold vV at e
  split at e
  . rename_i i j
    obtain ⟨v, w, rfl, e2, e3⟩ := IsL.inv2 h
    cases e2; cases e3
    obtain ⟨e6, e7⟩ := zO e
    subst e7
    exact ⟨i, j, rfl, qcB e6, fun p hp => k _ _ (qy hp _) ⟨p, _, rfl, .inl qr, _, _, rfl, rfl, _, _, rfl, rfl, rfl⟩⟩
  . cases e
def qmY : List D -> Option D
  | [.int i] => some (.int i)
  | [.bl b] => some (.int (if b then 1 else 0))
  | _ => none
def qfL : List D -> Option D
  | [.tup ds] => some (.int ds.length)
  | [.lst ds] => some (.int ds.length)
  | [.fz ns] => some (.int ns.length)
  | [.str x] => if qD x.length then some (.int x.length) else none
  | _ => none
def qme (K : Fr0) : List V -> Hp -> VK -> Prop := fun xs H Q => (∃ p ys, xs = [.ref p] /\ (SqL K H p ys \/ SqT K H p ys) /\ Q (.int ys.length) H) \/ (∃ z, xs = [.str z] /\ z.length <= sizeLine /\ Q (.int z.length) H)
theorem uN {X : Cx} : jN X (.builtin "len") (qme X.K) := jN.or qa9 qba
theorem uO : vx K qfL (qme K) := by
  intro A H xs d vs Q hn h e k
  unfold qfL at e
  split at e
  . obtain ⟨v, rfl, a, zs, rfl, ta, il⟩ := IsL.inv1 h
    cases e
    exact .inl ⟨a, zs, rfl, .inr ta.sq, by rw [il.length]; exact k _ H (z8.refl H) rfl⟩
  . obtain ⟨v, rfl, a, zs, rfl, _, ta, il⟩ := IsL.inv1 h
    cases e
    exact .inl ⟨a, zs, rfl, .inl (.inl (.inl ta)), by rw [il.length]; exact k _ H (z8.refl H) rfl⟩
  . obtain ⟨v, rfl, a, rfl, ta⟩ := IsL.inv1 h
    cases e
    exact .inl ⟨a, _, rfl, .inl ta.sq, by rw [List.length_map]; exact k _ H (z8.refl H) rfl⟩
  . rename_i z
    obtain ⟨v, rfl, e2⟩ := IsL.inv1 h
    cases e2
    obtain ⟨e4, e5⟩ := zO e
    subst e5
    exact .inr ⟨z, rfl, of_decide_eq_true e4, k _ H (z8.refl H) rfl⟩
  . cases e
def qmf : List D -> Option D
  | [.tup ds] => some (.tup ds)
  | [.lst ds] => some (.tup ds)
  | _ => none
end
end L2.Sk
namespace L2.Sk
open PySem PySem.Spec PySem.Calls PyProof.Rows PySem.W
def qg7 (h : Heap) (a D : Addr) : Prop := ∃ o, h.get? a = some o /\ o.cls = .ref D
theorem qg7.looks {M : Model} {h : Heap} {a D : Addr} (I : qg7 h a D) : Looks M h (typeOf (.ref a)) (.ref D) := by
  obtain ⟨o, h1, h2⟩ := I
  rw [<- h2]
  exact (Looks.ld h1).andThen .now
section
variable {prog : Program} {w : World} {A : Around} {E : Value -> Shared -> Prop} {K : Frag} {h : Heap} {g : Array GenState} {d : Drawn} {t : Nat} {os : OsState} {a D : Addr}
theorem qj3 (hm : mroIn K D (.type "object") = some true) {tp : Value} {R : Result -> Shared -> Prop} (X : K.In h) (I : qg7 h a D) (hq : R (.ok (.ret (.ref D))) ⟨h, g, d, t, os⟩) :
    codeAny (model prog w) A (.call (.builtin "getset_descriptor.__get__") ⟨[.builtin "object.__class__", .ref a, tp], []⟩) R ⟨h, g, d, t, os⟩ := by
  have L0 := I.looks (M := model prog w)
  have L1 := looks_mroIn (M := model prog w) X hm
  have hT5 : (⟨h, g, d, t, os⟩ : Shared).TypeIs (.builtin "object.__class__") "getset_descriptor" := F.typeOf_object_class
  refine codeAny_call_builtin F.slot_gs_get.plain F.entry_gs_get (F.slot_gs_get.check _ _ _ _ _ _ _ _ hT5 (F.args_gs_get _ _ _) ?_)
  have eo : ".".intercalate ("object.__class__".cutAt '.').dropLast = "object" := by decide +kernel
  repeat (any_goals (first | assumption | with_reducible refine L0.at ?_ | with_reducible refine L1.at ?_ | wp_step))
  rw [eo]
  refine L1.at ?_
  repeat (any_goals (first | assumption | with_reducible refine L0.at ?_ | wp_step))
  refine ⟨Code.quiet_builtin _ (by decide +kernel), codeAny_builtin F.entry_object_class ?_⟩
  repeat (any_goals (first | assumption | with_reducible refine L0.at ?_ | wp_step))
theorem qf3 (ha : findIn K (.ref D) "__class__" = some (some (.builtin "object.__class__"))) (hm : mroIn K D (.type "object") = some true) {tk : Tok} {Q : Fin -> Shared -> Prop} (X : K.In h) (I : qg7 h a D) (hq : Q (.done (.ret (.ref D))) ⟨h, g, d, t, os⟩) :
    wpAny (model prog w) A (Builtin.«object.__getattribute__» ⟨[.ref a, .str "__class__" tk], []⟩) Q E ⟨h, g, d, t, os⟩ := by
  have L0 := I.looks (M := model prog w)
  have L1 := looks_findIn (M := model prog w) X ha
  have hT5 : (⟨h, g, d, t, os⟩ : Shared).TypeIs (.builtin "object.__class__") "getset_descriptor" := F.typeOf_object_class
  have f5 := F.typeOf_object_class
  have f6 := F.slot_gs_get.lookup
  have f7 := F.slot_gs_set.lookup
  repeat (any_goals (first | assumption | with_reducible refine L0.at ?_ | with_reducible refine L1.at ?_ | wp_step))
  refine qj3 hm X I ?_
  repeat (any_goals (first | assumption | wp_step))
theorem qf4 (hb : Looks (model prog w) h (isSubtype (.ref D) (.type "BaseException")) true) {nameV : Value} {Q : Unit -> Shared -> Prop} (I : qg7 h a D) (hq : Q () ⟨h, g, d, t, os⟩) : wpAny (model prog w) A (checkBuiltinCall "BaseException.__getattribute__" ⟨[.ref a, nameV], []⟩) Q E ⟨h, g, d, t, os⟩ := by
  have hk : builtinKind "BaseException.__getattribute__" = some .slot := by decide +kernel
  have hsplit : splitId "BaseException.__getattribute__" = some ("BaseException", "__getattribute__") := by decide +kernel
  have L0 := I.looks (M := model prog w)
  have ha := F.args_bexc_ga (.ref a) nameV
  simp only [checkBuiltinCall, hk, hsplit]
  refine wpAny_bind ?_
  . unfold isInstance
    repeat (first | with_reducible refine L0.at ?_ | with_reducible refine hb.at ?_ | wp_step)
    exact hq
theorem qlK (FA : ExcAttrFacts "ValueError") (hga : findIn K (.ref D) "__getattribute__" = some (some (.builtin "BaseException.__getattribute__"))) (hgt : findIn K (.ref D) "__getattr__" = some none) (ha : findIn K (.ref D) "__class__" = some (some (.builtin "object.__class__"))) (hm : mroIn K D (.type "object") = some true)
    (hb : Looks (model prog w) h (isSubtype (.ref D) (.type "BaseException")) true) {tk : Tok} {fill expr : Bool} {Q : Value -> Shared -> Prop} (X : K.In h) (I : qg7 h a D) (hq : Q (.ref D) ⟨h, g, d, t, os⟩) :
    wpAny (model prog w) A (getAttrBy (.ref a) (.str "__class__" tk) fill expr) Q E ⟨h, g, d, t, os⟩ := by
  have L0 := I.looks (M := model prog w)
  have L1 := looks_findIn (M := model prog w) X hga
  have L2 := looks_findIn (M := model prog w) X hgt
  have f3 := FA.ga.bind (.ref a)
  have hx0 : (expr && onTheHeap (Value.builtin "BaseException.__getattribute__")) = false := by cases expr <;> rfl
  have hx2 : (Value.builtin "BaseException.__getattribute__" == Value.builtin "object.__getattribute__") = false := by decide +kernel
  have hx1 : (onTheHeap (Value.ref D) && Value.builtin "BaseException.__getattribute__" == Value.builtin "object.__getattribute__") = false := by rw [hx2]; rfl
  repeat (any_goals (first | assumption | with_reducible refine L0.at ?_ | with_reducible refine L1.at ?_ | with_reducible refine L2.at ?_ | wp_step))
  refine codeAny_call_builtin FA.ga.plain F.entry_bexc_ga (qf4 hb I (qf3 ha hm X I ?_))
  repeat (any_goals (first | assumption | wp_step))
theorem qh9 (FA : ExcAttrFacts "ValueError") (hga : findIn K (.ref D) "__getattribute__" = some (some (.builtin "BaseException.__getattribute__"))) (hgt : findIn K (.ref D) "__getattr__" = some none) (ha : findIn K (.ref D) "__class__" = some (some (.builtin "object.__class__"))) (hm : mroIn K D (.type "object") = some true)
    (hb : Looks (model prog w) h (isSubtype (.ref D) (.type "BaseException")) true) {Q : Option Value -> Shared -> Prop} (X : K.In h) (I : qg7 h a D) (hq : Q (some (.ref D)) ⟨h, g, d, t + 1, os⟩) :
    wpAny (model prog w) A (getAttr? (.ref a) "__class__") Q E ⟨h, g, d, t, os⟩ := by
  unfold getAttr? getAttrBy?
  repeat (any_goals (first | assumption | with_reducible apply qlK FA hga hgt ha hm hb X I | wp_step))
end
theorem qf5 {K : Frag} {a D : Addr} (c : XK6 K D) : KitX K (.ref a) (.ref D) (fun h => qg7 h a D) where
  ty := fun _ _ _ I => I.looks
  it := fun _ _ X _ => by
    obtain ⟨cdD, hcD⟩ := Option.isSome_iff_exists.mp c.is
    unfold clsIn at hcD
    split at hcD
    . rename_i c' d' cd' sl' ho
      intro A' Q' E' s' k q
      unfold isType loadHead
      exact wpAny_bind (wpAny_loadPart (k _ _ (X _ _ ho)) (wpAny_pure q))
    . cases hcD
  ne := fun h tp dd its n sl X htp => by
    obtain ⟨cdD, hcD⟩ := Option.isSome_iff_exists.mp c.is
    refine Bool.eq_false_iff.mpr fun q => ?_
    have e : D = tp := Value.ref.inj (beq_iff_eq.mp q)
    subst e
    unfold clsIn at hcD
    split at hcD
    . rename_i c' d' cd' sl' ho
      have z := (X _ _ ho).symm.trans htp
      cases z
    . cases hcD
  ca := fun {prog w A E Q s} X p k => by
    have I := p
    obtain ⟨h, g, d, t, os⟩ := s
    exact qh9 PySem.F.attrBase_ValueError.toExcAttrFacts c.ga c.gt c.cl c.ob (looks_subIn X c.be) X I k
theorem wS {X : Cx} {pins : List (Addr × Obj)} {σ : St} {H : Hp} {s : Shared} {A : Around} {E : Value -> Shared -> Prop} {Q : Value -> Shared -> Prop} {a C : Addr} {c : Value} {b : Bool} (I : Inv X pins σ H s) (xc : XK6 X.K C) (hH : ∃ o vs, H a = some (.frz o (.own a)) /\ o.cls = .ref C /\ o.data = .fields vs)
    (e : kitOne X.K (.ref C) c = some b) (h : ∀ tk, Q (.bool b) { s with toks := tk }) : wpAny (model X.prog X.w) A (call (.builtin "isinstance") [.ref a, c]) Q E s := by
  obtain ⟨o, vs, h1, h2, _⟩ := hH
  obtain ⟨p, _⟩ := (show jM X.prog X.w H s.heap a (.frz o (.own a)) from I.hok a _ h1)
  exact kia_one (qf5 xc) I.kIn ⟨o, p, h2⟩ e (fun z => nomatch z) h
end L2.Sk
namespace L2.Sk
open PySem PySem.Spec PyProof.Rows
def tyD : D -> String
  | .non => "NoneType"
  | .bl _ => "bool"
  | .int _ => "int"
  | .str _ => "str"
  | .tup _ => "tuple"
  | .lst _ => "list"
  | .dic _ => "dict"
  | .fz _ => "list"
  | .exc _ => "exc"
def qb3 (t T : String) : Bool := t == T || (t == "bool" && T == "int")
def qdw : List String := ["NoneType", "bool", "int", "str", "tuple", "list", "dict"]
theorem qia (d : D) (h : ∀ C, d ≠ .exc C) : tyD d ∈ qdw := by
  cases d <;> first | (simp [tyD, qdw]; done) | exact absurd rfl (h _)
structure qjf (K : Fr0) (T : String) : Prop where
  ok : ∀ t ∈ qdw, PySem.W.kitOne K (.type t) (.type T) = some (qb3 t T)
  ex : T ∈ ["int", "bool", "str", "tuple", "list", "dict"]
  nx : qb3 "exc" T = false
theorem qib {K : Fr0} : qjf K "int" := ⟨fun t ht => by
  simp only [qdw, List.mem_cons, List.not_mem_nil, or_false] at ht
  rcases ht with rfl | rfl | rfl | rfl | rfl | rfl | rfl <;> kernel_rfl, by decide, by decide⟩
theorem qf6 {K : Fr0} : qjf K "bool" := ⟨fun t ht => by
  simp only [qdw, List.mem_cons, List.not_mem_nil, or_false] at ht
  rcases ht with rfl | rfl | rfl | rfl | rfl | rfl | rfl <;> kernel_rfl, by decide, by decide⟩
theorem qbh {K : Fr0} : qjf K "tuple" := ⟨fun t ht => by
  simp only [qdw, List.mem_cons, List.not_mem_nil, or_false] at ht
  rcases ht with rfl | rfl | rfl | rfl | rfl | rfl | rfl <;> kernel_rfl, by decide, by decide⟩
section
variable {X : Cx} {pins : List (Addr × Obj)} {σ : St} {H : Hp} {s : Shared} {A : Addr -> Prop} {E : Value -> Shared -> Prop} {Q : Value -> Shared -> Prop}
theorem qj4 {d : D} {v : V} {u : Value} {T : String} (I : Inv X pins σ H s) (h : Is X.K A H d v) (rv : ju v u) (kt : qjf X.K T) (hQ : ∀ tk, Q (.bool (qb3 (tyD d) T)) { s with toks := tk }) :
    wpAny (model X.prog X.w) X.A (call (.builtin "isinstance") [u, .type T]) Q E s := by
  by_cases hx : ∃ C, d = .exc C
  . obtain ⟨C, rfl⟩ := hx
    obtain ⟨a, rfl, xa⟩ := h
    cases (show u = Value.ref a from rv)
    have q : ∀ tk, Q (.bool false) { s with toks := tk } := fun tk => by
      have := hQ tk
      rw [show tyD (.exc C) = "exc" from rfl, kt.nx] at this
      exact this
    obtain ⟨D0, h0, h1, h2⟩ := xa
    exact wS I h1 h2 (h1.no T kt.ex) q
  have e := kt.ok (tyD d) (qia d fun C hC => hx ⟨C, hC⟩)
  cases d with
  | exc C => exact absurd ⟨C, rfl⟩ hx
  | non => cases h; exact yq I rv .non e hQ
  | bl b => cases h; exact yq I rv (.bl b) e hQ
  | int i => cases h; exact yq I rv (.int i) e hQ
  | str x => cases h; exact yq I rv (.str x) e hQ
  | tup ds =>
    obtain ⟨a, xs, rfl, ta, il⟩ := h
    cases (show u = Value.ref a from rv)
    obtain ⟨its, r, p, z⟩ := I.tuple ta.sq
    obtain ⟨o, h1, h2, _⟩ := p
    exact PySem.W.kia_one PySem.W.kitx_tuple I.kIn ⟨o, h1, h2⟩ e (fun z => nomatch z) hQ
  | lst ds =>
    obtain ⟨a, xs, rfl, hA, ta, il⟩ := h
    exact yq I rv (.lst ta) e hQ
  | dic kvs =>
    obtain ⟨a, rfl, hA, ta⟩ := h
    exact yq I rv (.dK ta) e hQ
  | fz ns =>
    obtain ⟨a, rfl, ta⟩ := h
    cases (show u = Value.ref a from rv)
    obtain ⟨its, r, p, z⟩ := I.list ta.sq
    obtain ⟨o, h1, h2, _⟩ := p.isList
    exact PySem.W.kia_one PySem.W.kitx_list I.kIn ⟨o, h1, h2⟩ e (fun z => nomatch z) hQ
end
def qic (T : String) (f : M D) : M D := bnd f fun d => ret (.bl (qb3 (tyD d) T))
section
variable {X : Cx} {c : Fc} {a b e : Expr} {pos : Pos}
def qmZ (K : Fr0) (T : String) : List V -> Hp -> VK -> Prop := fun xs H Q => ∃ v d A, xs = [v, .ty T] /\ Is K A H d v /\ Q (.bl (qb3 (tyD d) T)) H
theorem qf7 {T : String} (kt : qjf X.K T) : jN X (.builtin "isinstance") (qmZ X.K T) := by
  intro pins s σ H xs us Q I r h
  obtain ⟨v, d, A, rfl, hi, q⟩ := h
  obtain ⟨u, w, rfl, r1, r2⟩ := qQ.two r
  cases (show w = Value.type T from r2)
  exact qj4 I hi r1 kt fun tk => ⟨.bl _, H, I.tok tk, rfl, q⟩
theorem qcD {T : String} {x : Str} {p p2 : Pos} {f : M D} (kt : qjf X.K T) (hg : Gl X "isinstance") (hm : X.mg "isinstance" = none) (hg2 : Gl X x) (hm2 : X.mg x = none) (hv2 : bootBuiltins x = some (.type T)) (ha : DE X c a f)
    (hv : bootBuiltins "isinstance" = some (.builtin "isinstance") := by first | rfl | exact PySem.boot_isinstance) (hn2 : x ≠ "__name__" := by decide) (hdb2 : (x == ("__debug__" : Str)) = false := by decide)
    (he : starEach [a, .Name x p2] X.env = (false, eval a X.env) :: starEach [.Name x p2] X.env := by rfl) (hpl : (backTo pos (starEach [.Name x p2] X.env)).any (·.1) = false := by rfl) : DE X c (.Call (.Name "isinstance" p) [a, .Name x p2] [] pos) (qic T f) := by
  obtain ⟨t, pa, w⟩ := ha
  refine ⟨_, vC (qf7 kt) hg hm hv (jj pa (jj (qd6 (v := .ty T) hg2 hm2 hv2 rfl hn2 hdb2) vm (by rfl)) he) (by decide) (by decide) he hpl, fun ρ σ H Q r h => w ρ σ H _ r (Wp.bnd h fun d ρ1 v H1 r1 i1 g1 h1 => ?_)⟩
  exact ⟨v, d, _, rfl, i1, h1 _ H1 r1 rfl .refl⟩
end
def uP : List D -> Option (List Bool)
  | [] => some []
  | .bl b :: r => (uP r).map (b :: ·)
  | _ => none
def uA : List D -> Option (List Int)
  | [] => some []
  | .int i :: r => (uA r).map (i :: ·)
  | _ => none
theorem vW {K : Fr0} {A : Addr -> Prop} {H : Hp} : ∀ {ds : List D} {xs : List V} {bs : List Bool}, IsL K A H ds xs -> uP ds = some bs -> xs = bs.map V.bl
  | [], _, _, h, e => by cases e; exact h
  | .bl b :: r, _, bs, ⟨x, ys, hx, h1, h2⟩, e => by
    cases h1
    cases e1 : uP r with
    | none => simp [uP, e1] at e
    | some l =>
      simp [uP, e1] at e
      subst e
      rw [hx, vW h2 e1]; rfl
  | .non :: _, _, _, _, e => by cases e
  | .int _ :: _, _, _, _, e => by cases e
  | .str _ :: _, _, _, _, e => by cases e
  | .tup _ :: _, _, _, _, e => by cases e
  | .lst _ :: _, _, _, _, e => by cases e
  | .dic _ :: _, _, _, _, e => by cases e
  | .fz _ :: _, _, _, _, e => by cases e
  | .exc _ :: _, _, _, _, e => by cases e
theorem jI {K : Fr0} {A : Addr -> Prop} {H : Hp} : ∀ {ds : List D} {xs : List V} {bs : List Int}, IsL K A H ds xs -> uA ds = some bs -> xs = bs.map V.int
  | [], _, _, h, e => by cases e; exact h
  | .int b :: r, _, bs, ⟨x, ys, hx, h1, h2⟩, e => by
    cases h1
    cases e1 : uA r with
    | none => simp [uA, e1] at e
    | some l =>
      simp [uA, e1] at e
      subst e
      rw [hx, jI h2 e1]; rfl
  | .non :: _, _, _, _, e => by cases e
  | .bl _ :: _, _, _, _, e => by cases e
  | .str _ :: _, _, _, _, e => by cases e
  | .tup _ :: _, _, _, _, e => by cases e
  | .lst _ :: _, _, _, _, e => by cases e
  | .dic _ :: _, _, _, _, e => by cases e
  | .fz _ :: _, _, _, _, e => by cases e
  | .exc _ :: _, _, _, _, e => by cases e
theorem qf8 {bs : List Bool} : ∀ {us : List Value}, qQ (bs.map V.bl) us -> LSm.BoolsAre us bs := by
  induction bs with
  | nil => intro us r; rw [List.map_nil] at r; cases r; exact .nil
  | cons b bs ih =>
    intro us r
    rw [List.map_cons] at r
    cases r with
    | cons r1 r2 =>
      cases (show _ = Value.bool b from r1)
      exact .cons b (ih r2)
section
variable {X : Cx}
theorem qf9 (hc : X.calm = true) : jN X (.builtin "all") (fun xs H Q => ∃ (p : Addr) (bs : List Bool), xs = [.ref p] /\ H p = some (.lst (bs.map V.bl)) /\ Q (.bl (bs.all id)) H) := by
  intro pins s σ H xs us Q I r h
  obtain ⟨p, bs, rfl, hp, q⟩ := h
  obtain ⟨u, rfl, ru⟩ := qQ.one r
  cases ru
  obtain ⟨its, rv, pl, hz⟩ := I.list (SqL.of hp)
  have hl := pl.isList
  have hb := qf8 rv
  have hlt : p < s.heap.objs.size := by obtain ⟨_, e, _⟩ := hl; exact Heap.lt_size e
  refine call_all_walk (wpAny_pyIter_list hl ?_)
  refine ⟨s.heap.objs.size, [s.heap.objs.size, p], [s.heap.objs.size], its.toArray.size, _, _, fun i => (bs[i]?).getD true, rfl, Walks.list (A := X.A.in1) (I.ok.hd hc) _ p (Nat.ne_of_lt hlt) its.toArray,
    ⟨⟨_, Heap.get?_push_size _ rfl, rfl, rfl⟩, hl.push _⟩, fun i v s' Q' E' hP hQ => ?_, fun h' tk hk => ?_⟩
  . obtain ⟨b, e, rfl⟩ := hb.get i v (by simpa using hP)
    simp only [e, Option.getD_some] at hQ
    exact wpAny_truthy_bool hQ
  . have e : ((List.range its.toArray.size).all fun i => (bs[i]?).getD true) = bs.all id := by
      rw [List.size_toArray, hb.length]; exact LSm.range_all bs
    rw [e]
    exact ⟨.bl _, H, I.kept (LSm.kept_iter hk), rfl, q⟩
end
def qjg : List D -> Option D
  | [.lst ds] => (uP ds).map fun bs => .bl (bs.all id)
  | _ => none
section
variable {K : Fr0}
theorem qez : vx K qjg (fun xs H Q => ∃ (p : Addr) (bs : List Bool), xs = [.ref p] /\ H p = some (.lst (bs.map V.bl)) /\ Q (.bl (bs.all id)) H) := by
  intro A H xs d vs Q hn h e k
  unfold qjg at e
  split at e
  . obtain ⟨v, rfl, a, zs, rfl, _, ta, il⟩ := IsL.inv1 h
    obtain ⟨bs, h1, h2⟩ := Option.map_eq_some_iff.mp e
    subst h2
    rw [vW il h1] at ta
    exact ⟨a, bs, rfl, ta, k _ H (z8.refl H) rfl⟩
  . cases e
end
section
variable {X : Cx}
def qg8 (K : Fr0) : R2 := fun x y H Q => ∃ a b ys, x = .ref a /\ y = .ref b /\ SqT K H a [] /\ SqT K H b ys /\ Q (.ref b) H
theorem qga : OpR X (binaryOp .Add) (qg8 X.K) := by
  intro pins s σ H x y v u Q I rx ry h
  obtain ⟨a, b, ys, rfl, rfl, ha, hb, q⟩ := h
  cases rx
  cases ry
  obtain ⟨its, r1, p1, _⟩ := I.tuple ha
  obtain ⟨its2, r2, p2, _⟩ := I.tuple hb
  cases r1
  obtain ⟨⟨cls, dd, data, sl⟩, ho, hc, n, hd⟩ := id p1
  obtain ⟨⟨cls2, dd2, data2, sl2⟩, ho2, hc2, n2, hd2⟩ := id p2
  simp only at hc hd hc2 hd2
  subst hc hd hc2 hd2
  exact concat_meets ⟨_, ho, rfl⟩ ⟨_, ho2, rfl⟩ noFill_tuple_add seq_tuple_add PySem.F.slot_tuple_add PySem.F.entry_tuple_add (PySem.F.args_tuple_add_2 _ _)
      (tuple_addW0 a b [].toArray its2.toArray n n2 dd dd2 sl sl2 (by simp)) ⟨ho, ho2, ⟨.ref b, H, I, rfl, q⟩⟩
def qj5 (K : Fr0) : R2 := fun x y H Q => (∃ i j, x = .int i /\ y = .int j /\ Q (.int (i + j)) H) \/ ((∃ i j, x = .str i /\ y = .str j /\ i.length + j.length <= sizeLine /\ Q (.str (i ++ j)) H) \/ (qg8 K x y H Q \/ (qjP K x y H Q \/ qmc x y H Q)))
theorem qX : OpR X (binaryOp .Add) (qj5 X.K) := OpR.or qjF (OpR.or qdr (OpR.or qga (OpR.or qhZ qjV)))
end
def zm : D -> D -> Option D
  | .int i, .int j => some (.int (i + j))
  | .str x, .str y => if qD (x.length + y.length) then some (.str (x ++ y)) else none
  | .tup xs, .tup ys => if qD (xs.length + ys.length) then some (.tup (xs ++ ys)) else none
  | .lst xs, .lst ys => if qD (xs.length + ys.length) then some (.lst (xs ++ ys)) else none
  | _, _ => none
theorem qY {K : Fr0} : OpS K zm (qj5 K) := by
  intro A H x y d v u Q hn ix iy e k
  cases x <;> cases y <;> simp only [zm] at e <;> try (cases e; done)
  . rename_i i j
    cases ix; cases iy; cases e
    exact .inl ⟨i, j, rfl, rfl, k _ H (z8.refl H) rfl⟩
  . rename_i i j
    cases ix; cases iy
    obtain ⟨e1, e2⟩ := zO e
    subst e2
    exact .inr (.inl ⟨i, j, rfl, rfl, of_decide_eq_true e1, k _ H (z8.refl H) rfl⟩)
  . rename_i ds es
    obtain ⟨a, xs, rfl, ta, il⟩ := ix
    obtain ⟨b, ys, rfl, tb, jl⟩ := iy
    obtain ⟨e1, e2⟩ := zO e
    subst e2
    have hs : xs.length + ys.length <= sizeLine := by rw [il.length, jl.length]; exact of_decide_eq_true e1
    refine .inr (.inr ?_)
    cases ds with
    | nil =>
      have hx : xs = [] := il
      subst hx
      exact .inl ⟨a, b, ys, rfl, rfl, ta.sq, tb.sq, k _ H (z8.refl H) ⟨b, ys, rfl, tb, jl⟩⟩
    | cons d0 ds =>
      refine .inr (.inl ⟨a, b, xs, ys, rfl, rfl, ta.sq, tb.sq, ?_, hs, fun hy => ?_, fun hy p hp => ?_⟩)
      . obtain ⟨x, zs, hx, _⟩ := il
        rw [hx]; simp
      . subst hy
        cases es with
        | nil => rw [List.append_nil] at k; exact k _ H (z8.refl H) ⟨a, xs, rfl, ta, il⟩
        | cons e0 es => obtain ⟨_, _, hx, _⟩ := jl; cases hx
      . exact k _ _ (qy hp _) ⟨p, xs ++ ys, rfl, .inl qr, IsL.ext (Ext.of_same (qy hp _)) (fun _ h _ => h) (IsL.append il jl)⟩
  . rename_i ds es
    obtain ⟨a, xs, rfl, hA, ta, il⟩ := ix
    obtain ⟨b, ys, rfl, hB, tb, jl⟩ := iy
    obtain ⟨e1, e2⟩ := zO e
    subst e2
    have hs : xs.length + ys.length <= sizeLine := by rw [il.length, jl.length]; exact of_decide_eq_true e1
    exact .inr (.inr (.inr (.inr ⟨a, b, xs, ys, rfl, rfl, ta, tb, hs, fun p hp => k _ _ (qy hp _) ⟨p, xs ++ ys, rfl, hn p hp, qr, IsL.ext (Ext.of_same (qy hp _)) (fun _ h _ => h) (IsL.append il jl)⟩⟩)))
section
variable {X : Cx}
end
def qlL (xs : List D) (lo hi : Option Int) : List D := (xs.drop (HT.sIx xs.length 0 lo)).take (HT.sIx xs.length xs.length hi - HT.sIx xs.length 0 lo)
def slD (x : D) (lo hi : Option Int) : Option D := match x with
  | .tup ds => some (.tup (qlL ds lo hi))
  | _ => none
section
variable {X : Cx} {c : Fc} {a b e : Expr} {pos p2 : Pos}
def asI : D -> Option Int
  | .int i => some i
  | _ => none
def qj6 (f : M D) : M (Option Int) := bnd f fun d => match d with
  | .int i => ret (some i)
  | _ => fun _ => .bad
def dsl (f : M D) (g k : M (Option Int)) : M D := bnd f fun d => bnd g fun l => bnd k fun u => lift (slD d l u)
end
end L2.Sk
namespace L2.Sk
open PySem PySem.Spec PyProof.Rows
def qF (X : Cx) (scope : Scope) (N' : List Str) (fp : List Addr) (cl : List (Str × Addr)) (C : Addr) (s₀ : Shared) (H₀ : Hp) (pn : List (Addr × Obj)) : Cx where
  prog := X.prog
  w := X.w
  K := X.K
  mg := X.mg
  base := X.base
  A := X.A
  N := N'
  s₀ := s₀
  H₀ := H₀
  env := compEnvC scope cl C X.env
  outer := X.stack
  stack := X.stack
  ex := fp
  fn := fun _ => false
  calm := X.calm
  pn := pn
  xe := fun _ _ => False
def PF (X : Cx) (ifs : List Expr) (t : TT) : Prop := ∀ (pins : List (Addr × Obj)) (s : Shared) (σ : St) (H : Hp) (Q : Bool -> Hp -> Prop), Inv X pins σ H s -> t σ H Q ->
  wpAny (model X.prog X.w) X.A (forIn ifs true fun c r => if r = true then do let ok <- isTrue c X.env (eval c X.env); pure (ForInStep.yield ok) else pure (ForInStep.yield r)) (TP X pins σ Q) X.xe s
theorem qj7 {X : Cx} : PF X [] (fun _ H Q => Q true H) := fun pins s σ H Q I h => wpAny_tests_nil ⟨H, I, h⟩
theorem qj8 {X : Cx} {e : Expr} {t : TT} (h : PT X e t) : PF X [e] t := fun pins s σ H Q I hw => wpAny_tests_one (h pins s σ H Q I hw)
structure zR (X : Cx) (scope : Scope) (N' : List Str) (nt : Nat) (fr : List Nat) : Prop where
  kind : scope.kind = .function
  nocell : ∀ y ∈ scope.names, y.2 ≠ .cell
  names : ∀ y ∈ scope.names, y.2 = .local -> scope.names.lookup y.1 = some .local
  frees : ∀ y ∈ scope.names, y.2 = .free -> X.env.kindOf y.1 = some .cell
  len : N'.length = nt + fr.length
  slot : ∀ i j, fr[i]? = some j -> ∃ x, N'[nt + i]? = some x /\ X.N[j]? = some x /\ scope.names.lookup x = some .free
theorem u8 {env : PySem.Env} : ∀ (names : List (Str × NameKind)) (cs : List (Str × Addr)), (∀ y ∈ names, y.2 = .free -> ∃ a, env.cells.lookup y.1 = some a) -> (∀ n a, cs.lookup n = some a -> env.cells.lookup n = some a) ->
    ∃ cl, (forIn names cs fun x r => match x with | (name, kind) => if (kind == NameKind.free) = true then do let a <- cellOf env name; pure (ForInStep.yield ((name, a) :: r)) else pure (ForInStep.yield r) : Sem (List (Str × Addr))) = pure cl /\
      (∀ n a, cl.lookup n = some a -> env.cells.lookup n = some a) /\ (∀ n, (∃ a, cs.lookup n = some a) -> ∃ a, cl.lookup n = some a) /\ ∀ y ∈ names, y.2 = .free -> ∃ a, cl.lookup y.1 = some a
  | [], cs, _, h => ⟨cs, rfl, h, fun _ h => h, fun y hy => by cases hy⟩
  | (n, k) :: r, cs, hf, h => by
    have hr : ∀ y ∈ r, y.2 = .free -> ∃ a, env.cells.lookup y.1 = some a := fun y hy => hf y (List.mem_cons_of_mem _ hy)
    rw [List.forIn_cons]
    by_cases hk : k = .free
    . subst hk
      obtain ⟨a, ha⟩ := hf (n, .free) List.mem_cons_self rfl
      have ha' : env.cells.lookup n = some a := ha
      have hcell : cellOf env n = pure a := by unfold cellOf; rw [ha']
      obtain ⟨cl, e1, e2, e3, e4⟩ := u8 r ((n, a) :: cs) hr (fun m b hm => by
        rw [List.lookup_cons] at hm
        cases e : m == n with
        | true => rw [e] at hm; cases hm; rw [eq_of_beq e]; exact ha'
        | false => rw [e] at hm; exact h m b hm)
      refine ⟨cl, ?_, e2, fun m ⟨b, hm⟩ => e3 m ?_, fun y hy hyf => ?_⟩
      . show ((if (NameKind.free == NameKind.free) = true then _ else _) >>= _) = _
        rw [if_pos (by rfl), hcell]
        exact e1
      . rw [List.lookup_cons]
        cases e : m == n with
        | true => exact ⟨a, rfl⟩
        | false => exact ⟨b, hm⟩
      . rcases List.mem_cons.mp hy with rfl | hy
        . exact e3 n ⟨a, by rw [List.lookup_cons]; simp⟩
        . exact e4 y hy hyf
    . have hb : (k == NameKind.free) = false := by simpa using hk
      obtain ⟨cl, e1, e2, e3, e4⟩ := u8 r cs hr h
      refine ⟨cl, ?_, e2, e3, fun y hy hyf => ?_⟩
      . show ((if (k == NameKind.free) = true then _ else _) >>= _) = _
        rw [hb, if_neg Bool.false_ne_true]
        exact e1
      . rcases List.mem_cons.mp hy with rfl | hy
        . exact absurd hyf hk
        . exact e4 y hy hyf
theorem yC {env : PySem.Env} {scope : Scope} (hf : ∀ y ∈ scope.names, y.2 = .free -> ∃ a, env.cells.lookup y.1 = some a) :
    ∃ cl, closureFor scope env = pure cl /\ (∀ n a, cl.lookup n = some a -> env.cells.lookup n = some a) /\ ∀ y ∈ scope.names, y.2 = .free -> ∃ a, cl.lookup y.1 = some a := by
  obtain ⟨cl, e1, e2, _, e4⟩ := u8 scope.names [] hf (fun n a h => by cases h)
  refine ⟨cl, ?_, e2, e4⟩
  unfold closureFor
  show (forIn scope.names [] _ >>= _) = _
  have e5 : (forIn scope.names [] fun x r => match x with | (name, kind) => if (kind == NameKind.free) = true then do let a <- cellOf env name; pure (ForInStep.yield ((name, a) :: r)) else pure (ForInStep.yield r) : Sem (List (Str × Addr))) = pure cl := e1
  first
    | (rw [e5]; rfl)
    | (simp only [bind_pure_comp, e5]; rfl)
theorem jP {env : PySem.Env} : ∀ {names : List (Str × NameKind)} {x : Str}, names.lookup x = some .free -> env.scope.kind = .function -> env.kindOf x = some .cell ->
    (names.map fun (n, k) => if (k == NameKind.free && env.scope.kind == .function && env.kindOf n == some .cell) then (n, NameKind.cell) else (n, k)).lookup x = some .cell
  | [], _, h, _, _ => by simp at h
  | (n, k) :: r, x, h, hk, hx => by
    have ih := @jP env r x
    show List.lookup x ((if (k == NameKind.free && env.scope.kind == .function && env.kindOf n == some .cell) = true then (n, NameKind.cell) else (n, k)) :: _) = _
    cases hxn : x == n with
    | true =>
      have e : x = n := eq_of_beq hxn
      subst e
      simp only [List.lookup_cons, hxn] at h
      cases h
      rw [if_pos (by rw [hk, hx]; rfl)]
      simp only [List.lookup_cons, hxn]
    | false =>
      simp only [List.lookup_cons, hxn] at h
      by_cases hc : (k == NameKind.free && env.scope.kind == .function && env.kindOf n == some .cell) = true
      . rw [if_pos hc]; simp only [List.lookup_cons, hxn]; exact ih h hk hx
      . rw [if_neg hc]; simp only [List.lookup_cons, hxn]; exact ih h hk hx
theorem jm {env : PySem.Env} : ∀ {names : List (Str × NameKind)} {x : Str} {q : NameKind}, (names.map fun (n, k) => if (k == NameKind.free && env.scope.kind == .function && env.kindOf n == some .cell) then (n, NameKind.cell) else (n, k)).lookup x = some q ->
    q = .cell \/ q = .free -> (∀ y ∈ names, y.2 ≠ .cell) -> ∃ k, (x, k) ∈ names /\ k = .free
  | [], _, _, h, _, _ => by simp at h
  | (n, k) :: r, x, q, h, hq, hc => by
    have ih := @jm env r x q
    have h' : List.lookup x ((if (k == NameKind.free && env.scope.kind == .function && env.kindOf n == some .cell) = true then (n, NameKind.cell) else (n, k)) :: (r.map fun (n, k) => if (k == NameKind.free && env.scope.kind == .function && env.kindOf n == some .cell) then (n, NameKind.cell) else (n, k))) = some q := h
    have hr : ∀ y ∈ r, y.2 ≠ .cell := fun y hy => hc y (List.mem_cons_of_mem _ hy)
    by_cases hcd : (k == NameKind.free && env.scope.kind == .function && env.kindOf n == some .cell) = true
    . rw [if_pos hcd] at h'
      cases hxn : x == n with
      | true =>
        have e : x = n := eq_of_beq hxn
        subst e
        refine ⟨k, List.mem_cons_self, ?_⟩
        rw [Bool.and_eq_true, Bool.and_eq_true] at hcd
        exact eq_of_beq hcd.1.1
      | false =>
        simp only [List.lookup_cons, hxn] at h'
        obtain ⟨k', m, e⟩ := ih h' hq hr
        exact ⟨k', List.mem_cons_of_mem _ m, e⟩
    . rw [if_neg hcd] at h'
      cases hxn : x == n with
      | true =>
        have e : x = n := eq_of_beq hxn
        subst e
        simp only [List.lookup_cons, hxn] at h'
        cases h'
        rcases hq with rfl | rfl
        . exact absurd rfl (hc (x, .cell) List.mem_cons_self)
        . exact ⟨.free, List.mem_cons_self, rfl⟩
      | false =>
        simp only [List.lookup_cons, hxn] at h'
        obtain ⟨k', m, e⟩ := ih h' hq hr
        exact ⟨k', List.mem_cons_of_mem _ m, e⟩
def qp (nt : Nat) (fr : List Nat) (σ : St) : St := List.replicate nt none ++ fr.map fun j => (σ[j]?).join
def qid (X : Cx) (tg : Expr) (ifs : List Expr) (elt : Expr) (scope : Scope) (N' : List Str) (wi : TI) (nt : Nat) (fr : List Nat) : TE := fun σ H Q => wi σ H fun J H1 => ∀ acc fp cl C s₀ H₀ pn, H1 acc = none ->
  ∃ (g : TG) (tt : TT) (te : TE), PG (qF X scope N' fp cl C s₀ H₀ pn) tg g /\ PF (qF X scope N' fp cl C s₀ H₀ pn) ifs tt /\ PE (qF X scope N' fp cl C s₀ H₀ pn) elt te /\
  ∃ W : Nat -> Nat -> St -> Hp -> Prop, (∃ m, W 0 m (qp nt fr σ) (upd H1 acc (.lst []))) /\
  ∀ i m σ' H', W i m σ' H' -> (J.stop i H' /\ Q (.ref acc) H') \/ (J.go i H' /\ ∀ x H'', J.yld i H' x H'' -> g x σ' H'' fun σ2 H2 => tt σ2 H2 fun b H3 =>
    if b = true then te σ2 H3 fun y H4 => ∃ ys, H4 acc = some (.lst ys) /\ ys.length < sizeLine /\ ∃ m', m' < m /\ W (i + 1) m' σ2 (upd H4 acc (.lst (ys ++ [y]))) else ∃ m', m' < m /\ W (i + 1) m' σ2 H3)
section
variable {X : Cx} {tg iter elt : Expr} {ifs : List Expr} {scope : Scope} {pos : Pos} {wi : TI} {N' : List Str} {nt : Nat} {fr : List Nat}
theorem uB {prog : Program} {w : World} {A : Around} {R : Result -> Shared -> Prop} {s : Shared} {it acc : Value} {env : PySem.Env} (I : Nat -> Shared -> Prop)
    (turn : ∀ n s, I n s -> wpAny (model prog w) A (pyNext it) (fun r s₁ => match r with
      | none => R (.ok .next) s₁
      | some v => wpAny (model prog w) A (letOwnedTupleGo tg it v) (fun _ s₁' => wpAny (model prog w) A (assign tg env v) (fun _ s₂ =>
          wpAny (model prog w) A (forIn ifs true fun c r => if r = true then do let ok <- isTrue c env (eval c env); pure (ForInStep.yield ok) else pure (ForInStep.yield r)) (fun ok s₃ =>
            if ok = true then wpAny (model prog w) A (eval elt env) (fun x s₄ =>
              wpAny (model prog w) A (call (.builtin "list.append") [acc, x]) (fun _ s₅ => ∃ m, m < n /\ I m s₅) (fun _ _ => False) s₄) (fun _ _ => False) s₃
            else ∃ m, m < n /\ I m s₃) (fun _ _ => False) s₂) (fun _ _ => False) s₁') (fun _ _ => False) s₁) (fun _ _ => False) s)
    (n : Nat) (h : I n s) : codeAny (model prog w) A (.compLoop (.ListComp elt [⟨tg, iter, ifs, 0⟩] scope pos) 0 it acc env) R s := by
  refine codeAny_loop rfl I (fun n s hI => ?_) n h
  show wpAny _ A ((compTurn (.ListComp elt [⟨tg, iter, ifs, 0⟩] scope pos) 0 it acc env).onRaise (fun x => do noteFrame x env; theTreesLotGoes x)) _ _ s
  refine wpAny_noted ?_
  rw [compTurn_list]
  refine wpAny_bind (wpAny_standAt (wpAny_bind (wpAny_mono (turn n s hI) (fun r s₁ h₁ => ?_) fun _ _ h' => h'.elim)))
  cases r with
  | none => exact wpAny_pure h₁
  | some v =>
    refine wpAny_bind (wpAny_mono h₁ (fun _ s₁' h₁' => ?_) fun _ _ h' => h'.elim)
    refine wpAny_bind (wpAny_mono h₁' (fun _ s₂ h₂ => wpAny_bind (wpAny_mono h₂ (fun ok s₃ h₃ => ?_) fun _ _ h' => h'.elim)) fun _ _ h' => h'.elim)
    cases ok with
    | false => exact wpAny_pure ⟨rfl, h₃⟩
    | true =>
      exact wpAny_bind (wpAny_bind (wpAny_mono h₃ (fun x s₄ h₄ => wpAny_bind (wpAny_mono h₄ (fun _ s₅ h₅ => wpAny_pure (wpAny_pure ⟨rfl, h₅⟩)) fun _ _ h' => h'.elim)) fun _ _ h' => h'.elim))
theorem u9 {pins : List (Addr × Obj)} {σ : St} {H : Hp} {s : Shared} {h₁ : Heap} {tk : Nat} {fp : List Addr} {cl : List (Str × Addr)} (S : zR X scope N' nt fr) (I : Inv X pins σ H s) (hfp : ∀ b ∈ fp, qag X pins H b)
    (hex : ∀ b ∈ fp, ∃ o, s.heap.get? b = some o) (cl1 : ∀ n a, cl.lookup n = some a -> X.env.cells.lookup n = some a) (cl2 : ∀ y ∈ scope.names, y.2 = .free -> ∃ a, cl.lookup y.1 = some a)
    (hns : ∃ m, h₁.Ns s.heap.objs.size m) (old : ∀ b o, s.heap.get? b = some o -> h₁.get? b = some o) :
    Inv (qF X scope N' fp cl s.heap.objs.size s H (X.pn ++ pins)) [] (qp nt fr σ) H { s with heap := h₁, toks := tk } := by
  have stkB : ∀ b ∈ frs X.stack, b = X.env.locals \/ b ∈ X.fs := fun b hb => List.mem_cons.mp (I.stkSub b hb)
  have hC : ∀ b o, s.heap.get? b = some o -> b ≠ s.heap.objs.size := fun b o e => Nat.ne_of_lt (Heap.lt_size e)
  obtain ⟨m, hn⟩ := hns
  refine ⟨⟨I.ok.mod, S.kind, I.ok.glob, I.ok.blt, Nat.le_refl _, fun x y c h1 h2 => I.ok.inj x y c (cl1 x c h1) (cl1 y c h2), fun x hx => ?_, fun x c hx => ?_, I.ok.hd, I.ok.frames, .inl rfl, fun b hb => ⟨?_, fun x c hx => (hfp b hb).2.2.2.2.1 x c (cl1 x c hx)⟩, I.bs, Nat.le_trans I.ok.bsz I.sz, fun b o e hb => ?_, fun b hb hb2 => ?_, I.stack, I.stkFree⟩,
    rfl, I.bare, Un.kept old, ⟨m, hn, fun i x v h1 h2 h3 => ?_⟩, fun x c hx => ?_, I.hok.fresh (Nat.le_refl _), fun x c hx => I.freeC x c (cl1 x c hx), fun p hp => ?_, I.hok.kept old, ?_⟩
  . have hx' : ∃ k, (x, k) ∈ scope.names /\ k = .free := by
      rcases hx with hx | hx
      . exact jm (env := X.env) (q := .cell) hx (.inl rfl) S.nocell
      . exact jm (env := X.env) (q := .free) hx (.inr rfl) S.nocell
    obtain ⟨k, m, rfl⟩ := hx'
    exact cl2 (x, .free) m rfl
  . have hx' : false = true := hx
    cases hx'
  . obtain ⟨o, e⟩ := hex b hb
    exact hC b o e
  . obtain ⟨f0, f1, f2, f3, f4, f5⟩ := hfp b hb
    rcases f3 with z | z
    . exact I.ok.noex b o e z
    . exact absurd (Nat.lt_of_lt_of_le (Heap.lt_size e) (Nat.le_trans I.ok.bsz z)) (Nat.lt_irrefl _)
  . obtain ⟨f0, f1, f2, f3, f4, f5⟩ := hfp b hb
    rcases stkB b hb2 with z | z
    . exact f1 z
    . exact f2 z
  . -- names
    have hi : nt <= i := by
      apply Nat.le_of_not_lt
      intro hlt
      unfold qp at h2
      rw [List.getElem?_append_left (by simpa using hlt), List.getElem?_replicate] at h2
      split at h2 <;> cases h2
    have h2' : (fr.map fun j => (σ[j]?).join)[i - nt]? = some (some v) := by
      unfold qp at h2
      rw [List.getElem?_append_right (by simpa using hi), List.length_replicate] at h2
      exact h2
    rw [List.getElem?_map] at h2'
    cases ej : fr[i - nt]? with
    | none => rw [ej] at h2'; cases h2'
    | some j =>
      rw [ej] at h2'
      have hσ : (σ[j]?).join = some v := by simpa using h2'
      have hσ' : σ[j]? = some (some v) := by
        cases e : σ[j]? with
        | none => rw [e] at hσ; cases hσ
        | some o =>
          rw [e] at hσ
          have : o = some v := hσ
          rw [this]
      obtain ⟨y, hy1, hy2, hy3⟩ := S.slot (i - nt) j ej
      have hii : nt + (i - nt) = i := by omega
      rw [hii] at hy1
      have exy : y = x := by
        have h1' : N'[i]? = some x := h1
        rw [h1'] at hy1
        exact (Option.some.inj hy1).symm
      subst exy
      have hmem : (y, NameKind.free) ∈ scope.names := PySem.mem_of_lookup hy3
      have hcellk : X.env.kindOf y = some .cell := S.frees (y, .free) hmem rfl
      obtain ⟨m0, hn0, hl0⟩ := I.loc
      obtain ⟨u, ru, lk⟩ := hl0 j y v hy2 hσ' (.inr (.inl hcellk))
      refine ⟨u, ru, .inr ⟨.inl (jP hy3 I.ok.kind hcellk), ?_⟩⟩
      rcases lk with ⟨k1, _⟩ | ⟨_, c, e, z⟩
      . rw [hcellk] at k1; cases k1
      . obtain ⟨a, ea⟩ := cl2 (y, .free) hmem rfl
        have ea' := cl1 y a ea
        rw [e] at ea'
        cases ea'
        obtain ⟨o, ho, hd⟩ := z
        exact ⟨c, ea, o, old _ _ ho, hd⟩
  . obtain ⟨v, o, ho, hd⟩ := I.cell x c (cl1 x c hx)
    exact ⟨v, o, old _ _ ho, hd⟩
  . have hp' : p ∈ X.pn ++ pins := by
      rcases List.mem_append.mp (show p ∈ (X.pn ++ pins) ++ [] from hp) with z | z
      . exact z
      . cases z
    obtain ⟨e, n, ne, nf, d⟩ := I.pin p hp'
    refine ⟨old _ _ e, n, hC _ _ e, fun z => ?_, d⟩
    rcases stkB p.1 z with z | z
    . exact ne z
    . exact nf z
  . show (qp nt fr σ).length = N'.length
    unfold qp
    rw [List.length_append, List.length_replicate, List.length_map, S.len]
theorem qan {pins : List (Addr × Obj)} {σ σ' : St} {H H' : Hp} {s s' : Shared} {h' : Heap} {fp : List Addr} {cl : List (Str × Addr)} (I : Inv X pins σ H s) (hfp : ∀ b ∈ fp, qag X pins H b)
    (J : Inv (qF X scope N' fp cl s.heap.objs.size s H (X.pn ++ pins)) [] σ' H' s') (sb : Heap.SameBut s.heap.objs.size s'.heap h') : Inv X pins σ H' { s' with heap := h' } := by
  have hC : H' s.heap.objs.size = none := J.free
  have u := J.base
  have big : ∀ b o, s.heap.get? b = some o -> b ≠ s.heap.objs.size := fun b o e => Nat.ne_of_lt (Heap.lt_size e)
  have get' : ∀ b, b ≠ s.heap.objs.size -> h'.get? b = s'.heap.get? b := fun b hb => sb.2 b hb
  have u2 : Un (frs X.stack) fp H H' s.heap h' :=
    ⟨fun b o e n hb hx => (get' b (big b o e)).trans (u.keep b o e n hb hx), fun b o e n hb hx => by
      obtain ⟨sl, q⟩ := u.slot b o e n hb hx
      exact ⟨sl, (get' b (big b o e)).trans q⟩, u.free, fun b o e hx => by
      obtain ⟨o', q⟩ := u.there b o e hx
      exact ⟨o', (get' b (big b o e)).trans q⟩, u.tups, u.frzs, u.tbls⟩
  refine I.call' (s' := { s' with heap := h' }) (ch := fp) J.os u2 (fun b o e => ?_) J.bare (fun b hb => ?_)
  . refine (J.hok b o e).stay (fun c v hc q => ?_) (fun _ q => q) fun _ _ q => q
    refine (get' c ?_).trans q
    rintro rfl
    rcases hc with hc | hc
    . rw [<- hc, hC] at e; cases e
    . rw [hC] at hc; cases hc
  . obtain ⟨f0, f1, f2, f3, f4, f5⟩ := hfp b hb
    exact ⟨f3, f1, f4, f5⟩
theorem qie (hc : X.calm = true) (hi : PI X tg iter wi) (S : zR X scope N' nt fr)
    (hs : ∀ x, foldedSetIterable iter X.env x = pure x := by intro _; rfl) : PE X (.ListComp elt [⟨tg, iter, ifs, 0⟩] scope pos) (qid X tg ifs elt scope N' wi nt fr) := by
  intro pins s σ H Q I hw
  obtain ⟨cl, hcl, cl1, cl2⟩ := yC (env := X.env) (scope := scope) (fun y hy hf => I.ok.has y.1 (.inl (S.frees y hy hf)))
  rw [eval_ListComp]
  refine wpAny_comprehension_free (use := none) rfl hs hcl S.kind S.names (thn (hi pins s σ H _ I hw) fun v s1 h1 => thn h1 fun itv s2 h2 => ?_)
  obtain ⟨it, fp, tn, J, H2, e, I2, T, st2, f2, hR⟩ := h2
  subst e
  have hacc : H2 s2.heap.objs.size = none := I2.hok.fresh (Nat.le_refl _)
  refine wpAny_newObj_type (wpAny_newFunctionEnv S.nocell (by intro y hy; simp at hy) (fun h₁ hns₁ hsb₁ => ?_) S.kind)
  dsimp only at hns₁ hsb₁ |-
  have I3 : Inv X pins σ (upd H2 s2.heap.objs.size (.lst [])) { s2 with heap := s2.heap.push { cls := .type "list", dict := none, data := .seq ([] : List Value).toArray } } :=
    I2.lnew (t' := s2.toks) (its := []) .nil (Nat.zero_le _)
  generalize hs3 : ({ s2 with heap := s2.heap.push { cls := .type "list", dict := none, data := .seq ([] : List Value).toArray } } : Shared) = s3 at I3
  have hh3 : s2.heap.push { cls := .type "list", dict := none, data := .seq ([] : List Value).toArray } = s3.heap := by rw [<- hs3]
  rw [hh3] at hns₁ hsb₁
  have old : ∀ b o, s3.heap.get? b = some o -> h₁.get? b = some o := fun b o q => hsb₁.extBut b o (Nat.ne_of_lt (Heap.lt_size q)) (Heap.get?_push_of_some _ q)
  have objs2 : ∀ b ∈ fp, ∃ o, s2.heap.get? b = some o := fun b hb => by
    obtain ⟨o, q, _⟩ := T.obj 0 _ st2 b hb
    exact ⟨o, q⟩
  have keep23 : ∀ b o, s2.heap.get? b = some o -> s3.heap.get? b = some o := fun b o q => by rw [<- hh3]; exact Heap.get?_push_of_some _ q
  have fpne : ∀ b ∈ fp, b ≠ s2.heap.objs.size := fun b hb => by
    obtain ⟨o, q⟩ := objs2 b hb
    exact Nat.ne_of_lt (Heap.lt_size q)
  have f3 : ∀ b ∈ fp, qag X pins (upd H2 s2.heap.objs.size (.lst [])) b := fun b hb => ⟨by rw [qm (fpne b hb)]; exact (f2 b hb).1, (f2 b hb).2⟩
  have J0 : Inv (qF X scope N' fp cl s3.heap.objs.size s3 (upd H2 s2.heap.objs.size (.lst [])) (X.pn ++ pins)) [] (qp nt fr σ) (upd H2 s2.heap.objs.size (.lst [])) { s3 with heap := h₁, toks := s3.toks } :=
    u9 S I3 f3 (fun b hb => (objs2 b hb).imp fun o q => keep23 b o q) cl1 cl2 ⟨_, hns₁⟩ old
  obtain ⟨g, tt, te, hg, hf, he, W, ⟨m0, w0⟩, turn⟩ := hR s2.heap.objs.size fp cl s3.heap.objs.size s3 (upd H2 s2.heap.objs.size (.lst [])) (X.pn ++ pins) hacc
  have T0 : tn 0 h₁ := T.keep 0 _ _ st2 fun b hb o q => old b o (keep23 b o q)
  have s3e : ∀ tk : Nat, ({ s2 with heap := h₁, toks := tk } : Shared) = { s3 with heap := h₁, toks := tk } := fun tk => by rw [<- hs3]
  have loop : ∀ tk : Nat, codeAny (model X.prog X.w) X.A (.compLoop (.ListComp elt [⟨tg, iter, ifs, 0⟩] scope pos) 0 (.ref it) (.ref s2.heap.objs.size) (compEnvC scope cl s3.heap.objs.size X.env))
      (compPost (model X.prog X.w) X.A X.xe none (EP X pins σ Q) (.ref s2.heap.objs.size) s3.heap.objs.size) { s3 with heap := h₁, toks := tk } := fun tk => by
    have stat : ∀ {H' : Hp}, (∀ b ∈ fp, H' b = none) -> ∀ b ∈ fp, qag (qF X scope N' fp cl s3.heap.objs.size s3 (upd H2 s2.heap.objs.size (.lst [])) (X.pn ++ pins)) [] H' b := fun {H'} hn b hb => by
      obtain ⟨o, q⟩ := objs2 b hb
      have hbC : b ≠ s3.heap.objs.size := Nat.ne_of_lt (Heap.lt_size (keep23 b o q))
      refine ⟨hn b hb, hbC, fun z => ?_, .inl hb, fun x c hx => (f2 b hb).2.2.2.2.1 x c (cl1 x c hx), fun p hp => ?_⟩
      . rcases List.mem_cons.mp (I2.stkSub b z) with z | z
        . exact (f2 b hb).2.1 z
        . exact (f2 b hb).2.2.1 z
      . have hp' : p ∈ X.pn ++ pins := by
          rcases List.mem_append.mp (show p ∈ (X.pn ++ pins) ++ [] from hp) with z | z
          . exact z
          . cases z
        exact (f2 b hb).2.2.2.2.2 p hp'
    have fr0 : ∀ b ∈ fp, upd H2 s2.heap.objs.size (.lst []) b = none := fun b hb => (f3 b hb).1
    refine uB (fun n s' => ∃ i σ' H', Inv (qF X scope N' fp cl s3.heap.objs.size s3 (upd H2 s2.heap.objs.size (.lst [])) (X.pn ++ pins)) [] σ' H' s' /\ tn i s'.heap /\ (∀ b ∈ fp, H' b = none) /\ W i n σ' H') ?_ m0
      ⟨0, qp nt fr σ, _, J0.tok tk, T0, fr0, w0⟩
    rintro n s4 ⟨i, σ4, H4, J4, st4, fr4, w4⟩
    rcases turn i n σ4 H4 w4 with ⟨stop, qn⟩ | ⟨go, step⟩
    . refine thn (T.done (qF X scope N' fp cl s3.heap.objs.size s3 (upd H2 s2.heap.objs.size (.lst [])) (X.pn ++ pins)) rfl rfl rfl hc i [] s4 σ4 H4 _ J4 (stat fr4) st4 stop) fun r s5 ⟨hr, J5⟩ => ?_
      subst hr
      obtain ⟨m5, n5, _⟩ := J5.loc
      refine ⟨m5, n5, fun h' sb => ⟨.ref s2.heap.objs.size, H4, qan I3 f3 J5 sb, rfl, qn⟩⟩
    . refine thn (T.item (qF X scope N' fp cl s3.heap.objs.size s3 (upd H2 s2.heap.objs.size (.lst [])) (X.pn ++ pins)) rfl rfl rfl hc i [] s4 σ4 H4 _ J4 (stat fr4) st4 go) fun r s5 ⟨u, hr, h5⟩ => ?_
      subst hr
      refine thn h5 fun _ s6 ⟨x, H6, J6, r6, y6, st6, fr6⟩ => ?_
      have J6' := J6.pinned (stat fr6) (T.obj _ _ st6)
      have again : ∀ {σ7 : St} {H7 : Hp} {s7 : Shared}, Inv (qF X scope N' fp cl s3.heap.objs.size s3 (upd H2 s2.heap.objs.size (.lst [])) (X.pn ++ pins)) ([] ++ vK fp s6.heap) σ7 H7 s7 -> (∃ m', m' < n /\ W (i + 1) m' σ7 H7) ->
          ∃ m, m < n /\ ∃ i σ' H', Inv (qF X scope N' fp cl s3.heap.objs.size s3 (upd H2 s2.heap.objs.size (.lst [])) (X.pn ++ pins)) [] σ' H' s7 /\ tn i s7.heap /\ (∀ b ∈ fp, H' b = none) /\ W i m σ' H' := fun {σ7 H7 s7} I7 hm => by
        obtain ⟨m', hm, w7⟩ := hm
        refine ⟨m', hm, i + 1, σ7, H7, I7.unpinned, T.keep _ _ _ st6 fun b hb o q => (I7.pin (b, o) (List.mem_append_right _ (List.mem_append_right _ (zY hb q)))).1, fun b hb => ?_, w7⟩
        obtain ⟨o, q, d⟩ := T.obj _ _ st6 b hb
        exact (I7.pin (b, o) (List.mem_append_right _ (List.mem_append_right _ (zY hb q)))).2.1
      refine thn (hg _ s6 σ4 H6 x u _ J6' r6 (step x H6 y6)) fun _ s7 ⟨σ7, H7, J7, q7⟩ => ?_
      refine thn (hf _ s7 σ7 H7 _ J7 q7) fun ok s8 ⟨H8, J8, q8⟩ => ?_
      cases ok with
      | false =>
        rw [if_neg Bool.false_ne_true] at q8 |-
        exact again J8 q8
      | true =>
        rw [if_pos rfl] at q8 |-
        refine thn (he _ s8 σ7 H8 _ J8 q8) fun z s9 ⟨y, H9, J9, r9, ys, hys, hz, hm⟩ => ?_
        refine thn (uJ _ s9 σ7 H9 (.ref s2.heap.objs.size) [y] (.ref s2.heap.objs.size) [z] (fun _ H' => H' = upd H9 s2.heap.objs.size (.lst (ys ++ [y]))) J9 rfl (.cons r9 .nil) ⟨_, ys, y, rfl, rfl, hys, hz, rfl⟩) fun _ s10 ⟨_, H10, J10, _, e10⟩ => ?_
        subst e10
        exact again J10 hm
  have zn : ∀ tk : Nat, codeAny (model X.prog X.w) X.A (.compStart (.ListComp elt [⟨tg, iter, ifs, 0⟩] scope pos) 0 (.ref it) (.ref s2.heap.objs.size) (compEnvC scope cl s3.heap.objs.size X.env))
      (compPost (model X.prog X.w) X.A X.xe none (EP X pins σ Q) (.ref s2.heap.objs.size) s3.heap.objs.size) { s3 with heap := h₁, toks := tk } := fun tk =>
    codeAny_compStart_list (loop tk) (T.self X.A 0 _ _ _ T0 (loop tk))
  have fin := zn (s2.toks + ([] : List (Str × Value)).length)
  rw [<- s3e] at fin
  rw [<- hh3] at fin
  rw [hh3] at fin |-
  exact fin
end
end L2.Sk
namespace L2.Sk
open PySem PySem.Spec PyProof.Rows
structure qgb (K : Fr0) (A : Addr -> Prop) (H : Hp) (ds : List D) (J : It) : Prop where
  go : ∀ H' i d, Ext A H H' -> ds[i]? = some d -> J.go i H'
  yl : ∀ H' i d x H'', Ext A H H' -> ds[i]? = some d -> J.yld i H' x H'' -> z8 H' H'' /\ Is K A H'' d x
  stop : ∀ H', Ext A H H' -> J.stop ds.length H'
def CnT (c : Fc) (σ : St) (H : Hp) (a : Addr) : Prop := Cn c σ a /\ (H a).isSome = true
def WpI (K : Fr0) (c : Fc) (σ : St) (H : Hp) (Q : It -> Hp -> Prop) : R (List D × Env) -> Prop
  | .ok (ds, ρ) => ∀ J H', Rep K c ρ σ H' -> qgb K (CnT c σ H') H' ds J -> Gr c.O σ H H' -> Q J H'
  | .exc x ρ => ∀ H', Rep K c ρ σ H' -> Gr c.O σ H H' -> c.E x H'
  | .bad => False
def DI (X : Cx) (c : Fc) (tg it : Expr) (f : M (List D)) : Prop := ∃ w, PI X tg it w /\ ∀ ρ σ H Q, Rep X.K c ρ σ H -> WpI X.K c σ H Q (f ρ) -> w σ H Q
section
variable {X : Cx} {c : Fc} {tg a b e : Expr} {pos : Pos}
def qm0 (K : Fr0) (tl : TE) : TI := fun σ H R => tl σ H fun x H1 => (∃ a, x = .ref a /\ (∃ xs, SqL K H1 a xs) /\ R (Itl K a) H1) \/ (∃ a, x = .ref a /\ (∃ xs, SqT K H1 a xs) /\ R (Itt K a) H1)
theorem qj9 {tl : TE} (hl : PE X e tl) : PI X tg e (qm0 X.K tl) := by
  intro pins s σ H R I h
  refine thn (hl pins s σ H _ I h) fun v s1 ⟨x, H1, I1, r1, q1⟩ => ?_
  rcases q1 with ⟨a, e, ⟨xs, hq⟩, q⟩ | ⟨a, e, ⟨xs, hq⟩, q⟩
  . subst e
    cases r1
    obtain ⟨its, rv, p, hz⟩ := I1.list hq
    refine wpAny_pyIter_list p.isList ?_
    refine ⟨s1.heap.objs.size, [s1.heap.objs.size], _, _, H1, rfl, I1.kept (t' := s1.toks) fun b o e => Heap.get?_push_of_some _ e, qd9 a _, ⟨_, Heap.get?_push_size _ rfl, rfl, rfl⟩, fun b hb => ?_, q⟩
    have e : b = s1.heap.objs.size := by simpa using hb
    subst e
    exact I1.fpOk (Nat.le_refl _) (I1.hok.fresh (Nat.le_refl _))
  . subst e
    cases r1
    obtain ⟨its, rv, p, hz⟩ := I1.tuple hq
    refine wpAny_pyIter_tuple (show s1.heap.IsTuple a its.toArray from p) ?_
    refine ⟨s1.heap.objs.size, [s1.heap.objs.size], _, _, H1, rfl, I1.kept (t' := s1.toks) fun b o e => Heap.get?_push_of_some _ e, qdp a _, ⟨_, Heap.get?_push_size _ rfl, rfl, rfl⟩, fun b hb => ?_, q⟩
    have e : b = s1.heap.objs.size := by simpa using hb
    subst e
    exact I1.fpOk (Nat.le_refl _) (I1.hok.fresh (Nat.le_refl _))
def qld : D -> Option (List D)
  | .tup ds => some ds
  | .lst ds => some ds
  | .fz ns => some (ns.map .int)
  | _ => none
theorem SqL.inj {K : Fr0} {H : Hp} {a : Addr} {xs ys : List V} (h : H a = some (.lst xs)) (q : SqL K H a ys) (hk : ∀ o, K.lookup a = some o -> False) : ys = xs := by
  rcases q with (q | ⟨o, q⟩) | ⟨o, _, _, q, _⟩
  . rw [h] at q; cases q; rfl
  . rw [h] at q; cases q
  . exact (hk o q).elim
theorem vF {K : Fr0} {A : Addr -> Prop} {H : Hp} : ∀ ns : List Int, IsL K A H (ns.map .int) (ns.map V.int)
  | [] => rfl
  | n :: ns => ⟨.int n, ns.map V.int, rfl, rfl, vF ns⟩
theorem qeA {K : Fr0} {A : Addr -> Prop} {H : Hp} {ds : List D} {xs : List V} {a : Addr} (hs : ∀ H', Ext A H H' -> SqL K H' a xs) (il : IsL K A H ds xs) : qgb K A H ds (Itl K a) where
  go := fun H' i d ex hd => by
    obtain ⟨x, h1, h2⟩ := il.get hd
    exact ⟨xs, x, hs H' ex, h1⟩
  yl := fun H' i d x H'' ex hd y => by
    obtain ⟨e, y⟩ := y
    subst e
    obtain ⟨x', h1, h2⟩ := il.get hd
    have h3 := y xs (hs _ ex)
    rw [h1] at h3
    cases h3
    exact ⟨z8.refl _, Is.ext ex (fun _ h _ => h) h2⟩
  stop := fun H' ex => ⟨xs, hs H' ex, by rw [il.length]; exact Nat.le_refl _⟩
theorem qka {K : Fr0} {A : Addr -> Prop} {H : Hp} {ds : List D} {xs : List V} {a : Addr} (hs : uz K H a xs) (il : IsL K A H ds xs) : qgb K A H ds (Itt K a) where
  go := fun H' i d ex hd => by
    obtain ⟨x, h1, h2⟩ := il.get hd
    exact ⟨xs, x, (hs.elim (fun h => .inl (ex.tup _ _ h)) .inr : uz K H' a xs).sq, h1⟩
  yl := fun H' i d x H'' ex hd y => by
    obtain ⟨e, y⟩ := y
    subst e
    obtain ⟨x', h1, h2⟩ := il.get hd
    have h3 := y xs (hs.elim (fun h => .inl (ex.tup _ _ h)) .inr : uz K _ a xs).sq
    rw [h1] at h3
    cases h3
    exact ⟨z8.refl _, Is.ext ex (fun _ h _ => h) h2⟩
  stop := fun H' ex => ⟨xs, (hs.elim (fun h => .inl (ex.tup _ _ h)) .inr : uz K H' a xs).sq, by rw [il.length]; exact Nat.le_refl _⟩
def yK (f : M D) : M (List D) := bnd f fun d => lift (qld d)
theorem uQ {K : Fr0} {σ : St} {H : Hp} {Q : It -> Hp -> Prop} {o : Option (List D)} {ρ : Env} (h : WpI K c σ H Q (lift o ρ)) : ∃ ds, o = some ds /\ ∀ J H', Rep K c ρ σ H' -> qgb K (CnT c σ H') H' ds J -> Gr c.O σ H H' -> Q J H' := by
  cases o with
  | none => exact h.elim
  | some d => exact ⟨d, rfl, h⟩
theorem WpI.gr {K : Fr0} {σ : St} {H H1 : Hp} {Q : It -> Hp -> Prop} : ∀ {r : R (List D × Env)}, WpI K c σ H Q r -> Gr c.O σ H H1 -> WpI K c σ H1 Q r
  | .ok (d, ρ), h, g => fun v H' hr hi hg => h v H' hr hi (g.trans hg)
  | .exc x ρ, h, g => fun H' hr hg => h H' hr (g.trans hg)
  | .bad, h, _ => h
theorem Wp.bndI {K : Fr0} {σ : St} {H : Hp} {Q : It -> Hp -> Prop} {f : M D} {k : D -> M (List D)} {ρ : Env} {Q' : VK} (h : WpI K c σ H Q (Sk.bnd f k ρ)) (hQ : ∀ d ρ' v H', Rep K c ρ' σ H' -> Is K (Cn c σ) H' d v -> Gr c.O σ H H' -> WpI K c σ H' Q (k d ρ') -> Q' v H') : Wp K c σ H Q' (f ρ) := by
  unfold Sk.bnd at h
  cases e : f ρ with
  | ok p => rw [e] at h; exact fun v H' hr hi hg => hQ p.1 p.2 v H' hr hi hg (h.gr hg)
  | exc x ρ' => rw [e] at h; exact h
  | bad => rw [e] at h; exact h
theorem WpL.bndI {K : Fr0} {σ : St} {H : Hp} {Q : It -> Hp -> Prop} {f : M (List D)} {k : List D -> M (List D)} {ρ : Env} {Q' : List V -> Hp -> Prop} (h : WpI K c σ H Q (Sk.bnd f k ρ)) (hQ : ∀ d ρ' v H', Rep K c ρ' σ H' -> IsL K (Cn c σ) H' d v -> Gr c.O σ H H' -> WpI K c σ H' Q (k d ρ') -> Q' v H') : WpL K c σ H Q' (f ρ) := by
  unfold Sk.bnd at h
  cases e : f ρ with
  | ok p => rw [e] at h; exact fun v H' hr hi hg => hQ p.1 p.2 v H' hr hi hg (h.gr hg)
  | exc x ρ' => rw [e] at h; exact h
  | bad => rw [e] at h; exact h
theorem Is.tr {K : Fr0} {A : Addr -> Prop} {H : Hp} {d : D} {v : V} (h : Is K A H d v) : Is K (fun a => A a /\ (H a).isSome = true) H d v := Is.ext Ext.refl (fun a h1 h2 => ⟨h1, h2⟩) h
theorem ul {f : M D} (h : DE X c e f) : DI X c tg e (yK f) := by
  obtain ⟨t, p, w⟩ := h
  refine ⟨_, qj9 p, fun ρ σ H Q r h => w ρ σ H _ r (Wp.bndI h fun d ρ1 v H1 r1 i1 g1 h1 => ?_)⟩
  obtain ⟨ds, e, h2⟩ := uQ h1
  have i2 : Is X.K (CnT c σ H1) H1 d v := i1.tr
  cases d <;> simp only [qld] at e <;> try (cases e; done)
  . cases e
    obtain ⟨a, xs, rfl, ta, il⟩ := i2
    exact .inr ⟨a, rfl, ⟨xs, ta.sq⟩, h2 _ H1 r1 (qka ta il) .refl⟩
  . cases e
    obtain ⟨a, xs, rfl, hA, ta, il⟩ := i2
    exact .inl ⟨a, rfl, ⟨xs, .inl (.inl ta)⟩, h2 _ H1 r1 (qeA (fun H' ex => .inl (.inl (ex.at_ _ _ hA ta))) il) .refl⟩
  . cases e
    obtain ⟨a, rfl, ta⟩ := i2
    exact .inl ⟨a, rfl, ⟨_, ta.sq⟩, h2 _ H1 r1 (qeA (fun H' ex => (ta.elim (fun ⟨o, h⟩ => .inl ⟨o, ex.frz _ _ _ h⟩) .inr : qjX X.K H' a _).sq) (vF _)) .refl⟩
def wK (lo : Int) (n : Nat) : List D := (List.range n).map fun i => .int (lo + (i : Nat))
theorem qg9 {K : Fr0} {A : Addr -> Prop} {H : Hp} (lo : Int) (n : Nat) : qgb K A H (wK lo n) (Itr lo n) where
  go := fun H' i d ex hd => by
    have : i < (wK lo n).length := (List.getElem?_eq_some_iff.mp hd).1
    show i < n
    simpa [wK] using this
  yl := fun H' i d x H'' ex hd y => by
    obtain ⟨e, y⟩ := y
    subst e
    subst y
    refine ⟨z8.refl _, ?_⟩
    unfold wK at hd
    rw [List.getElem?_map] at hd
    cases e2 : (List.range n)[i]? with
    | none => rw [e2] at hd; cases hd
    | some j =>
      rw [e2] at hd
      have hj : j = i := by
        have := (List.getElem?_eq_some_iff.mp e2).2
        simpa using this.symm
      subst hj
      cases hd
      rfl
  stop := fun H' ex => by show n <= (wK lo n).length; simp [wK]
def qgc : List D -> Option (List D)
  | [.int j] => if decide (-(2 ^ 62) <= j) && decide (j < 2 ^ 62) then some (wK 0 j.toNat) else none
  | _ => none
def z9 (f : M (List D)) : M (List D) := bnd f fun ds => lift (qgc ds)
theorem jA {f : M (List D)} {p : Pos} (hg : Gl X "range") (hm : X.mg "range" = none) (ha : DA X c [a] f) (hs : starEach [a] X.env = [(false, eval a X.env)] := by rfl) : DI X c tg (.Call (.Name "range" p) [a] [] pos) (z9 f) := by
  obtain ⟨t, p, w⟩ := ha
  refine ⟨_, qea hg hm p hs, fun ρ σ H Q r h => w ρ σ H _ r (WpL.bndI h fun ds ρ1 vs H1 r1 i1 g1 h1 => ?_)⟩
  obtain ⟨es, e, h2⟩ := uQ h1
  unfold qgc at e
  split at e
  . rename_i j
    obtain ⟨v, rfl, e2⟩ := IsL.inv1 i1
    cases e2
    by_cases hb : (decide (-(2 ^ 62) <= j) && decide (j < 2 ^ 62)) = true
    . rw [if_pos hb] at e
      cases e
      rw [Bool.and_eq_true] at hb
      exact ⟨j, rfl, of_decide_eq_true hb.1, of_decide_eq_true hb.2, h2 _ H1 r1 (qg9 0 _) .refl⟩
    . rw [if_neg hb] at e
      cases e
  . cases e
def yu (g : D -> Env -> Option Env) (b : MS) : List D -> MS
  | [], ρ => .ok (.nx ρ)
  | d :: ds, ρ => match g d ρ with
    | none => .bad
    | some ρ1 => match b ρ1 with
      | .ok (.nx ρ2) => yu g b ds ρ2
      | .ok (.ct ρ2) => yu g b ds ρ2
      | .ok (.bk ρ2) => .ok (.nx ρ2)
      | .ok (.rt r ρ2) => .ok (.rt r ρ2)
      | .exc x ρ2 => .exc x ρ2
      | .bad => .bad
def qdx (f : M (List D)) (g : D -> Env -> Option Env) (b : MS) : MS := sbnd f fun ds => yu g b ds
theorem WpI.sbnd {K : Fr0} {σ : St} {H : Hp} {D' : qdo} {f : M (List D)} {k : List D -> MS} {ρ : Env} {Q' : It -> Hp -> Prop} (h : WpS K c σ H D' (Sk.sbnd f k ρ))
    (hQ : ∀ ds ρ' J H', Rep K c ρ' σ H' -> qgb K (CnT c σ H') H' ds J -> Gr c.O σ H H' -> WpS K c σ H' D' (k ds ρ') -> Q' J H') : WpI K c σ H Q' (f ρ) := by
  unfold Sk.sbnd at h
  cases e : f ρ with
  | ok p => rw [e] at h; exact fun v H' hr hi hg => hQ p.1 p.2 v H' hr hi hg (h.gr hg.s)
  | exc x ρ' => rw [e] at h; exact fun H' hr hg => h σ H' hr hg.s
  | bad => rw [e] at h; exact h
theorem GrS.extT {σ σ' : St} {H H' : Hp} (g : GrS c.O σ H σ' H') : Ext (CnT c σ H) H H' := ⟨g.ext.tup, g.ext.frz, fun b o hb h => g.ext.at_ b o hb.1.2 h⟩
theorem GrS.cnT {σ σ' : St} {H H' : Hp} (g : GrS c.O σ H σ' H') {a : Addr} (h : CnT c σ H a) : Cn c σ' a := ⟨h.1.1, g.cl a h.1.2 h.2⟩
theorem y7 {α : Type} {l : List α} {i : Nat} (h : i < l.length) : l.drop i = l[i] :: l.drop (i + 1) := List.drop_eq_getElem_cons h
theorem vp {it : Expr} {body : List Stmt} {f : M (List D)} {g : D -> Env -> Option Env} {b : MS} (hp : PassesOwn (model X.prog X.w) X.A X.env X.xe) (hc : X.calm = true) (hi : DI X c tg it f) (hg : DG X c tg g) (hb : DSs X c body b)
    (hs : ∀ x, foldedSetIterable it X.env x = pure x := by intro _; rfl) : DS X c (.For tg it body [] pos) (qdx f g b) := by
  obtain ⟨wi, pi, wI⟩ := hi
  obtain ⟨tg', pg, wg⟩ := hg
  obtain ⟨tb, pb, wb⟩ := hb
  refine ⟨_, qjC hp hc pi pg pb hs, fun ρ σ H D' r h => wI ρ σ H _ r (WpI.sbnd h fun ds ρ1 J H1 r1 iok g1 h1 => ?_)⟩
  refine ⟨fun i m σ' H' => m = ds.length - i /\ i <= ds.length /\ ∃ ρ', Rep X.K c ρ' σ' H' /\ GrS c.O σ H1 σ' H' /\ WpS X.K c σ' H' D' (yu g b (ds.drop i) ρ'), ⟨ds.length, by simp, Nat.zero_le _, ρ1, r1, .refl, by simpa using h1⟩, ?_⟩
  rintro i m σ' H' ⟨rfl, hi, ρ', r', gs, w⟩
  by_cases hlt : i < ds.length
  . refine .inr ⟨iok.go H' i ds[i] gs.extT (by simp [hlt]), fun σ2 H2 => ∃ ρ2, Rep X.K c ρ2 σ2 H2 /\ GrS c.O σ H1 σ2 H2 /\ WpS X.K c σ2 H2 D' (yu g b (ds.drop (i + 1)) ρ2), fun σ2 H2 n => ⟨ds.length - (i + 1), by omega, rfl, hlt, n⟩, fun x H'' y => ?_⟩
    obtain ⟨sm, ix⟩ := iok.yl H' i ds[i] x H'' gs.extT (by simp [hlt]) y
    rw [y7 hlt] at w
    unfold yu at w
    have gs2 : GrS c.O σ H1 σ' H'' := gs.trans (Gr.of_same sm).s
    have ix2 : Is X.K (Cn c σ') H'' ds[i] x := Is.ext Ext.refl (fun a ha _ => gs2.cnT ha) ix
    cases e1 : g ds[i] ρ' with
    | none => simp only [e1] at w; exact w.elim
    | some ρ2 =>
      simp only [e1] at w
      refine wg ρ' σ' H'' ds[i] x ρ2 _ (r'.same sm) ix2 e1 fun σ2 r2 g2 _ => wb ρ2 σ2 H'' _ r2 ?_
      have w2 := w.gr ((Gr.of_same sm).s.trans g2)
      have gs3 : GrS c.O σ H1 σ2 H'' := gs2.trans g2
      cases e2 : b ρ2 with
      | ok fl =>
        cases fl with
        | nx ρ3 => simp only [e2] at w2; exact fun σ3 H3 r3 g3 => ⟨ρ3, r3, gs3.trans g3, w2.gr g3⟩
        | ct ρ3 => simp only [e2] at w2; exact fun σ3 H3 r3 g3 => ⟨ρ3, r3, gs3.trans g3, w2.gr g3⟩
        | bk ρ3 => simp only [e2] at w2; exact w2
        | rt d ρ3 => simp only [e2] at w2; exact w2
      | exc x ρ3 => simp only [e2] at w2; exact w2
      | bad => simp only [e2] at w2; exact w2
  . have hie : i = ds.length := by omega
    subst hie
    rw [List.drop_of_length_le (Nat.le_refl _)] at w
    exact .inl ⟨iok.stop H' gs.extT, w σ' H' r' .refl⟩
end
def cin (B0 : Addr -> Prop) (H1 : Hp) (O' : List Nat) (Io' : Addr -> Prop) (acc : Addr) (S' : Nat -> Option (Option V)) : Fc where
  O := O'
  P := O'
  B := fun a => B0 a /\ a ≠ acc
  H0 := upd H1 acc (.lst [])
  Io := fun a => Io' a \/ a = acc
  E := fun _ _ => False
  S := S'
def qT (g : D -> Env -> Option Env) (t : M Bool) (e : M D) : List D -> List D -> Env -> R (List D × Env)
  | [], acc, ρ => .ok (acc, ρ)
  | d :: ds, acc, ρ => match g d ρ with
    | none => .bad
    | some ρ1 => match t ρ1 with
      | .ok (true, ρ2) => match e ρ2 with
        | .ok (y, ρ3) => if qD (acc.length + 1) then qT g t e ds (acc ++ [y]) ρ3 else .bad
        | _ => .bad
      | .ok (false, ρ2) => qT g t e ds acc ρ2
      | _ => .bad
def zN (nt : Nat) (fr : List Nat) (ρ : Env) : Env := List.replicate nt none ++ fr.map fun j => (ρ[j]?).join
def qif (fo : Option (Nat × Nat)) (ρe ρ : Env) : Env := match fo with
  | none => ρ
  | some (i, j) => ρ.set j (ρe[i]?).join
def qI (nt : Nat) (fr : List Nat) (fo : Option (Nat × Nat)) (f : M (List D)) (g : D -> Env -> Option Env) (t : M Bool) (e : M D) : M D := bnd f fun ds ρ => match qT g t e ds [] (zN nt fr ρ) with
  | .ok (ys, ρe) => .ok (.lst ys, qif fo ρe ρ)
  | _ => .bad
def DF (X : Cx) (c : Fc) (ifs : List Expr) (f : M Bool) : Prop := ∃ t, PF X ifs t /\ ∀ ρ σ H Q, Rep X.K c ρ σ H -> WpB X.K c σ H Q (f ρ) -> t σ H Q
def foO (fo : Option (Nat × Nat)) : List Nat := match fo with
  | none => []
  | some (i, _) => [i]
section
variable {X : Cx} {c : Fc} {tg a b e : Expr} {pos : Pos}
theorem uR : DF X c [] (ret true) := ⟨_, qj7, fun ρ σ H Q r h => h H r .refl⟩
theorem qbi {f : M Bool} (h : DT X c e f) : DF X c [e] f := by
  obtain ⟨t, p, w⟩ := h
  exact ⟨_, qj8 p, w⟩
theorem WpI.bnd {K : Fr0} {σ : St} {H : Hp} {Q : VK} {f : M (List D)} {k : List D -> M D} {ρ : Env} {Q' : It -> Hp -> Prop} (h : Wp K c σ H Q (Sk.bnd f k ρ))
    (hQ : ∀ ds ρ' J H', Rep K c ρ' σ H' -> qgb K (CnT c σ H') H' ds J -> Gr c.O σ H H' -> Wp K c σ H' Q (k ds ρ') -> Q' J H') : WpI K c σ H Q' (f ρ) := by
  unfold Sk.bnd at h
  cases e : f ρ with
  | ok p => rw [e] at h; exact fun v H' hr hi hg => hQ p.1 p.2 v H' hr hi hg (h.gr hg)
  | exc x ρ' => rw [e] at h; exact h
  | bad => rw [e] at h; exact h
theorem Rep.grow {K : Fr0} {B0 : Addr -> Prop} {H1 : Hp} {O' : List Nat} {Io' : Addr -> Prop} {acc : Addr} {S' : Nat -> Option (Option V)} {ρ : Env} {σ : St} {H : Hp} {xs ys : List V} (r : Rep K (cin B0 H1 O' Io' acc S') ρ σ H) (h : H acc = some (.lst xs)) (ho : ∀ j ∈ O', σ[j]? ≠ some (some (.ref acc))) :
    Rep K (cin B0 H1 O' Io' acc S') ρ σ (upd H acc (.lst ys)) := by
  have ext : Ext (fun a => a ≠ acc) H (upd H acc (.lst ys)) := ⟨fun b zs hb => by rw [qm (uh hb h (by intro z; cases z))]; exact hb, fun b o u hb => by rw [qm (uh hb h (by intro z; cases z))]; exact hb, fun b o hb hq => by rw [qm hb]; exact hq⟩
  have cnext : Ext (Cn (cin B0 H1 O' Io' acc S') σ) H (upd H acc (.lst ys)) := ⟨ext.tup, ext.frz, fun b o hb hq => ext.at_ b o hb.1.2 hq⟩
  refine ⟨r.len, fun i d hd => ?_, fun j hj v hv => ?_, r.inj, r.b0, fun b o hb hio => ?_, fun b hb => ?_, r.pO, r.ps⟩
  . obtain ⟨v, h1, h2⟩ := r.val i d hd
    refine ⟨v, h1, ?_⟩
    rcases h2 with ⟨hi, ds, a, zs, h3, h5, h6, h7⟩ | ⟨hi, h3⟩
    . subst h5
      have ne : a ≠ acc := fun e => ho i hi (by rw [h1, e])
      exact .inl ⟨hi, ds, a, zs, h3, rfl, by rw [qm ne]; exact h6, IsL.ext cnext (fun _ h _ => h) h7⟩
    . exact .inr ⟨hi, Is.ext cnext (fun _ h _ => h) h3⟩
  . obtain ⟨a, zs, h1, h2, h3⟩ := r.own j hj v hv
    subst h1
    have ne : a ≠ acc := fun e => ho j hj (by rw [hv, e])
    exact ⟨a, zs, rfl, by rw [qm ne]; exact h2, h3⟩
  . have ne : b ≠ acc := fun e => hio (.inr e)
    rw [qm ne]
    exact r.kp b o hb hio
  . by_cases e : b = acc
    . subst e; rw [qr] at hb; cases hb
    . rw [qm e] at hb; exact r.dm b hb
theorem vX {α : Type} {o : Option (Option α)} {a : α} (h : o.join = some a) : o = some (some a) := by
  cases o with
  | none => cases h
  | some x => have : x = some a := h; rw [this]
def qha (c : Fc) (nt : Nat) (fr : List Nat) (fo : Option (Nat × Nat)) : Prop := match fo with
  | none => ∀ j ∈ fr, j ∉ c.O
  | some (i, j) => j ∈ c.O /\ nt <= i /\ fr[i - nt]? = some j /\ ∀ k j', fr[k]? = some j' -> nt + k ≠ i -> j' ∉ c.O
def vY (σ : St) (fo : Option (Nat × Nat)) (a : Addr) : Prop := match fo with
  | none => False
  | some (_, j) => σ[j]? = some (some (.ref a))
theorem va {nt : Nat} {fr : List Nat} {σ : St} {k j : Nat} (h : fr[k]? = some j) : (qp nt fr σ)[nt + k]? = some (σ[j]?).join := by
  unfold qp
  rw [List.getElem?_append_right (by simp), List.length_replicate, List.getElem?_map, show nt + k - nt = k by omega, h]
  rfl
theorem qdy {nt : Nat} {fr : List Nat} {ρ : Env} {i : Nat} {d : D} (hd : (zN nt fr ρ)[i]? = some (some d)) : ∃ k j, i = nt + k /\ fr[k]? = some j /\ ρ[j]? = some (some d) := by
  have hi : nt <= i := by
    apply Nat.le_of_not_lt
    intro hlt
    unfold zN at hd
    rw [List.getElem?_append_left (by simpa using hlt), List.getElem?_replicate] at hd
    split at hd <;> cases hd
  unfold zN at hd
  rw [List.getElem?_append_right (by simpa using hi), List.length_replicate, List.getElem?_map] at hd
  cases ej : fr[i - nt]? with
  | none => rw [ej] at hd; cases hd
  | some j =>
    rw [ej] at hd
    exact ⟨i - nt, j, by omega, ej, vX (by simpa using hd)⟩
theorem z0 {nt : Nat} {fr : List Nat} {σ : St} {i : Nat} {d : V} (hd : (qp nt fr σ)[i]? = some (some d)) : ∃ k j, i = nt + k /\ fr[k]? = some j /\ σ[j]? = some (some d) := by
  have hi : nt <= i := by
    apply Nat.le_of_not_lt
    intro hlt
    unfold qp at hd
    rw [List.getElem?_append_left (by simpa using hlt), List.getElem?_replicate] at hd
    split at hd <;> cases hd
  unfold qp at hd
  rw [List.getElem?_append_right (by simpa using hi), List.length_replicate, List.getElem?_map] at hd
  cases ej : fr[i - nt]? with
  | none => rw [ej] at hd; cases hd
  | some j =>
    rw [ej] at hd
    exact ⟨i - nt, j, by omega, ej, vX (by simpa using hd)⟩
theorem Rep.entry {K : Fr0} {nt : Nat} {fr : List Nat} {fo : Option (Nat × Nat)} {acc : Addr} {ρ : Env} {σ : St} {H : Hp} (r : Rep K c ρ σ H) (hn : H acc = none) (hfo : qha c nt fr fo) :
    Rep K (cin (Cn c σ) H (foO fo) (vY σ fo) acc fun j => (qp nt fr σ)[j]?) (zN nt fr ρ) (qp nt fr σ) (upd H acc (.lst [])) := by
  have sm : z8 H (upd H acc (.lst [])) := qy hn _
  have ownI : ∀ i ∈ foO fo, ∀ v, (qp nt fr σ)[i]? = some (some v) -> ∃ j, fo = some (i, j) /\ j ∈ c.O /\ σ[j]? = some (some v) := fun i hi v hv => by
    cases fo with
    | none => cases hi
    | some p =>
      obtain ⟨i', j'⟩ := p
      have e : i = i' := by simpa [foO] using hi
      subst e
      obtain ⟨h1, h2, h3, h4⟩ := hfo
      obtain ⟨k, j, e1, e2, e3⟩ := z0 hv
      have hk : k = i - nt := by omega
      subst hk
      rw [h3] at e2
      cases e2
      exact ⟨j', rfl, h1, e3⟩
  have clI : ∀ a, Cl c.O σ a -> Cl (foO fo) (qp nt fr σ) a := fun a ha i hi e => by
    obtain ⟨j, _, hj, e2⟩ := ownI i hi _ e
    exact ha j hj e2
  refine ⟨by simp [zN, qp], fun i d hd => ?_, fun i hi v hv => ?_, fun i j a hi hj h1 h2 => ?_, fun a ha => ?_, fun b o hb hio => ?_, fun b hb => ?_, fun _ h => h, fun _ _ => rfl⟩
  . obtain ⟨k, j, e1, e2, e3⟩ := qdy hd
    subst e1
    by_cases hO : nt + k ∈ foO fo
    . obtain ⟨v, hv⟩ : ∃ v, σ[j]? = some (some v) := by
        obtain ⟨v, h1, _⟩ := r.val j d e3
        exact ⟨v, h1⟩
      have hc : (qp nt fr σ)[nt + k]? = some (some v) := by rw [va e2, hv]; rfl
      obtain ⟨j', f1, f2, f3⟩ := ownI _ hO v hc
      subst f1
      obtain ⟨g1, g2, g3, g4⟩ := hfo
      rw [show nt + k - nt = k by omega, e2] at g3
      cases g3
      obtain ⟨ds, a, xs, h1, h3, h4, h5⟩ := r.getO g1 e3
      rw [hv] at h3
      cases h3
      exact ⟨.ref a, hc, .inl ⟨hO, ds, a, xs, h1, rfl, sm _ _ h4, IsL.ext (Ext.of_same sm) (fun b hb hs => ⟨⟨hb, fun e => by subst e; rw [hn] at hs; cases hs⟩, clI b hb.2⟩) h5⟩⟩
    . have hj : j ∉ c.O := by
        cases fo with
        | none => exact hfo j (List.mem_of_getElem? e2)
        | some p =>
          obtain ⟨i', j'⟩ := p
          exact hfo.2.2.2 k j e2 (fun e => hO (by simp [foO, e]))
      obtain ⟨v, h1, h2⟩ := r.get hj e3
      refine ⟨v, by rw [va e2, h1]; rfl, .inr ⟨hO, ?_⟩⟩
      refine Is.ext (Ext.of_same sm) (fun a ha hs => ⟨⟨ha, fun e => ?_⟩, clI a ha.2⟩) h2
      subst e; rw [hn] at hs; cases hs
  . obtain ⟨j, f1, f2, f3⟩ := ownI i hi v hv
    obtain ⟨a, xs, h1, h2, h3⟩ := r.own j f2 v f3
    subst h1 f1
    exact ⟨a, xs, rfl, sm _ _ h2, .inr ⟨hi, .inl f3⟩⟩
  . cases fo with
    | none => cases hi
    | some p =>
      obtain ⟨i', j'⟩ := p
      have e : i = i' := by simpa [foO, cin] using hi
      have e2 : j = i' := by simpa [foO, cin] using hj
      rw [e, e2]
  . have ha' : upd H acc (.lst []) a = none := ha
    by_cases e : a = acc
    . subst e; rw [qr] at ha'; cases ha'
    . rw [qm e] at ha'; exact ⟨r.new ha', e⟩
  . exact hb
  . exact hb
theorem Rep.leave {K : Fr0} {nt : Nat} {fr : List Nat} {fo : Option (Nat × Nat)} {acc : Addr} {ρ ρe : Env} {σ σe : St} {H H' : Hp} (r : Rep K c ρ σ H) (hn : H acc = none) (hfo : qha c nt fr fo) (hf : ∀ i j, fo = some (i, j) -> σe[i]? = (qp nt fr σ)[i]?)
    (q : Rep K (cin (Cn c σ) H (foO fo) (vY σ fo) acc fun j => (qp nt fr σ)[j]?) ρe σe H') : Rep K c (qif fo ρe ρ) σ H' /\ Gr c.O σ H H' := by
  have kp : ∀ b o, H b = some o -> ¬ vY σ fo b -> H' b = some o := fun b o hb hio => q.kp b o (by show upd H acc (.lst []) b = some o; rw [qm (qG hb hn)]; exact hb) fun z => z.elim hio fun e => absurd e (qG hb hn)
  have clean : ∀ b, Cl c.O σ b -> ¬ vY σ fo b := fun b hb hio => by
    cases fo with
    | none => exact hio
    | some p => exact hb p.2 hfo.1 hio
  have dom : ∀ b, H' b = none -> H b = none := fun b hb => by
    have := q.dm b hb
    by_cases e : b = acc
    . subst e; exact hn
    . have this : upd H acc (.lst []) b = none := this
      rw [qm e] at this; exact this
  have notT : ∀ b xs, H b = some (.tup xs) -> ¬ vY σ fo b := fun b xs hb hio => by
    cases fo with
    | none => exact hio
    | some p =>
      obtain ⟨a, ys, e1, e2, _⟩ := r.own p.2 hfo.1 _ hio
      cases e1; rw [hb] at e2; cases e2
  have notF : ∀ b o u, H b = some (.frz o u) -> ¬ vY σ fo b := fun b o u hb hio => by
    cases fo with
    | none => exact hio
    | some p =>
      obtain ⟨a, ys, e1, e2, _⟩ := r.own p.2 hfo.1 _ hio
      cases e1; rw [hb] at e2; cases e2
  have gr : Gr c.O σ H H' := ⟨⟨fun b xs hb => kp b _ hb (notT b xs hb), fun b o u hb => kp b _ hb (notF b o u hb), fun b o hc hb => kp b o hb (clean b hc)⟩, dom⟩
  refine ⟨⟨?_, fun k d hd => ?_, fun j hj v hv => ?_, r.inj, r.b0, fun b o hb hio => ?_, fun b hb => r.dm b (dom b hb), r.pO, r.ps⟩, gr⟩
  . cases fo with
    | none => exact r.len
    | some p => show (ρ.set _ _).length = _; rw [List.length_set]; exact r.len
  . -- an old slot, or the one that came qif
    have oldSlot : ρ[k]? = some (some d) -> (∀ i, fo ≠ some (i, k)) -> ∃ v, σ[k]? = some (some v) /\ ((k ∈ c.O /\ ∃ ds a xs, d = .lst ds /\ v = .ref a /\ H' a = some (.lst xs) /\ IsL K (Cn c σ) H' ds xs) \/ (k ∉ c.O /\ Is K (Cn c σ) H' d v)) := fun hk hne => by
      obtain ⟨v, h1, h2⟩ := r.val k d hk
      refine ⟨v, h1, ?_⟩
      rcases h2 with ⟨hi, ds, a, xs, h3, h5, h6, h7⟩ | ⟨hi, h3⟩
      . subst h5
        refine .inl ⟨hi, ds, a, xs, h3, rfl, kp a _ h6 (fun hio => ?_), gr.isL h7⟩
        cases fo with
        | none => exact hio
        | some p =>
          obtain ⟨i', j'⟩ := p
          have e := r.inj k j' a hi hfo.1 h1 hio
          exact hne i' (by rw [e])
      . exact .inr ⟨hi, gr.is h3⟩
    cases fo with
    | none => exact oldSlot hd (fun i e => by cases e)
    | some p =>
      obtain ⟨i', j'⟩ := p
      have hd' : (ρ.set j' (ρe[i']?).join)[k]? = some (some d) := hd
      by_cases e : k = j'
      . subst e
        have hl : k < ρ.length := by
          have := (List.getElem?_eq_some_iff.mp hd').1
          rwa [List.length_set] at this
        rw [List.getElem?_set_self hl] at hd'
        have he : ρe[i']? = some (some d) := vX (Option.some.inj hd')
        obtain ⟨ds, a, xs, h1, h3, h4, h5⟩ := q.getO (show i' ∈ foO (some (i', k)) by simp [foO]) he
        have h3' := hf i' k rfl
        rw [h3] at h3'
        obtain ⟨k2, j2, e1, e2, e3⟩ := z0 h3'.symm
        have hk2 : k2 = i' - nt := by omega
        subst hk2
        rw [hfo.2.2.1] at e2
        cases e2
        exact ⟨.ref a, e3, .inl ⟨hfo.1, ds, a, xs, h1, rfl, h4, IsL.ext Ext.refl (fun b hb _ => hb.1.1) h5⟩⟩
      . rw [zf e] at hd'
        exact oldSlot hd' (fun i e2 => e (by cases e2; rfl))
  . obtain ⟨a, xs, h1, h2, h3⟩ := r.own j hj v hv
    subst h1
    by_cases hio : vY σ fo a
    . cases fo with
      | none => exact hio.elim
      | some p =>
        obtain ⟨i', j'⟩ := p
        have hc : (qp nt fr σ)[i']? = some (some (.ref a)) := by
          have := va (σ := σ) (nt := nt) hfo.2.2.1
          rw [show nt + (i' - nt) = i' by have := hfo.2.1; omega] at this
          rw [this]
          have hio' : σ[j']? = some (some (.ref a)) := hio
          rw [hio']; rfl
        have h3' := hf i' j' rfl
        rw [hc] at h3'
        obtain ⟨a', ys, e1, e2, _⟩ := q.own i' (by simp [foO, cin]) _ h3'
        cases e1
        exact ⟨a, ys, rfl, e2, h3⟩
    . exact ⟨a, xs, rfl, kp a _ h2 hio, h3⟩
  . by_cases hio2 : vY σ fo b
    . cases fo with
      | none => exact hio2.elim
      | some p =>
        obtain ⟨a, ys, e1, e2, e3⟩ := r.own p.2 hfo.1 _ hio2
        cases e1
        rcases e3 with e3 | e3
        . rw [hb] at e3; cases e3
        . exact absurd e3.2 hio
    . exact kp b o (r.kp b o hb hio) hio2
theorem jQ {it elt : Expr} {ifs : List Expr} {scope : Scope} {N' : List Str} {nt : Nat} {fr : List Nat} {fo : Option (Nat × Nat)} {f : M (List D)} {g : D -> Env -> Option Env} {t : M Bool} {k : M D} (hc : X.calm = true) (hi : DI X c tg it f) (S : zR X scope N' nt fr)
    (hfo : qha c nt fr fo)
    (hb : ∀ fp cl C s₀ H₀ pn B0 H1 Io' acc S', DG (qF X scope N' fp cl C s₀ H₀ pn) (cin B0 H1 (foO fo) Io' acc S') tg g /\ DF (qF X scope N' fp cl C s₀ H₀ pn) (cin B0 H1 (foO fo) Io' acc S') ifs t /\ DE (qF X scope N' fp cl C s₀ H₀ pn) (cin B0 H1 (foO fo) Io' acc S') elt k)
    (hs : ∀ x, foldedSetIterable it X.env x = pure x := by intro _; rfl) : DE X c (.ListComp elt [⟨tg, it, ifs, 0⟩] scope pos) (qI nt fr fo f g t k) := by
  obtain ⟨wi, pi, wI⟩ := hi
  refine ⟨_, qie hc pi S hs, fun ρ σ H Q r h => wI ρ σ H _ r (WpI.bnd h fun ds ρ1 J H1 r1 iok g1 h1 => ?_)⟩
  intro acc fp cl C s₀ H₀ pn hn
  obtain ⟨⟨tg', pg, wg⟩, ⟨tt, pt, wt⟩, ⟨te, pe, we⟩⟩ := hb fp cl C s₀ H₀ pn (Cn c σ) H1 (vY σ fo) acc fun j => (qp nt fr σ)[j]?
  refine ⟨tg', tt, te, pg, pt, pe, ?_⟩
  cases ew : qT g t k ds [] (zN nt fr ρ1) with
  | exc x ρ' => rw [ew] at h1; exact h1.elim
  | bad => rw [ew] at h1; exact h1.elim
  | ok p =>
    rw [ew] at h1
    obtain ⟨ys, ρe⟩ := p
    have h1 : ∀ v H', Rep X.K c (qif fo ρe ρ1) σ H' -> Is X.K (Cn c σ) H' (.lst ys) v -> Gr c.O σ H1 H' -> Q v H' := h1
    have accO : ∀ j ∈ foO fo, (qp nt fr σ)[j]? ≠ some (some (.ref acc)) := fun j hj e => by
      have r0 := r1.entry (acc := acc) hn hfo
      cases fo with
      | none => cases hj
      | some p =>
        obtain ⟨i', j'⟩ := p
        have e2 : j = i' := by simpa [foO] using hj
        subst e2
        obtain ⟨k2, j2, e1, e2, e3⟩ := z0 e
        have hk2 : k2 = j - nt := by omega
        subst hk2
        rw [hfo.2.2.1] at e2
        cases e2
        obtain ⟨a, us, e4, e5, _⟩ := r1.own j' hfo.1 _ e3
        cases e4; rw [hn] at e5; cases e5
    refine ⟨fun i m σ' H' => m = ds.length - i /\ i <= ds.length /\ ∃ ρ' zs xs, Rep X.K (cin (Cn c σ) H1 (foO fo) (vY σ fo) acc fun j => (qp nt fr σ)[j]?) ρ' σ' H' /\ (∀ j ∈ foO fo, σ'[j]? = (qp nt fr σ)[j]?) /\ H' acc = some (.lst xs) /\ IsL X.K (Cn (cin (Cn c σ) H1 (foO fo) (vY σ fo) acc fun j => (qp nt fr σ)[j]?) σ') H' zs xs /\ qT g t k (ds.drop i) zs ρ' = .ok (ys, ρe),
      ⟨ds.length, by simp, Nat.zero_le _, zN nt fr ρ1, [], [], r1.entry hn hfo, fun _ _ => rfl, qr, rfl, by simpa using ew⟩, ?_⟩
    rintro i m σ' H' ⟨rfl, hi, ρ', zs, xs, r', so, ha, iz, w⟩
    obtain ⟨_, gr⟩ := r1.leave hn hfo (fun i j e => so i (by rw [e]; simp [foO])) r'
    have ex : Ext (CnT c σ H1) H1 H' := ⟨gr.ext.tup, gr.ext.frz, fun b o hb hq => gr.ext.at_ b o hb.1.2 hq⟩
    have accC : ∀ τ : St, (∀ j ∈ foO fo, τ[j]? = (qp nt fr σ)[j]?) -> Cl (foO fo) τ acc := fun τ hτ j hj e => accO j hj (by rw [<- hτ j hj]; exact e)
    by_cases hlt : i < ds.length
    . refine .inr ⟨iok.go H' i ds[i] ex (by simp [hlt]), fun x H'' y => ?_⟩
      obtain ⟨sm, ix⟩ := iok.yl H' i ds[i] x H'' ex (by simp [hlt]) y
      rw [y7 hlt] at w
      unfold qT at w
      have ix2 : Is X.K (Cn (cin (Cn c σ) H1 (foO fo) (vY σ fo) acc fun j => (qp nt fr σ)[j]?) σ') H'' ds[i] x := Is.ext Ext.refl (fun a ha _ => ⟨⟨ha.1, fun e => by
        have := ha.2
        rw [e, hn] at this; cases this⟩, fun j hj e => by
          rw [so j hj] at e
          cases fo with
          | none => cases hj
          | some p =>
            obtain ⟨i', j'⟩ := p
            have e2 : j = i' := by simpa [foO, cin] using hj
            subst e2
            obtain ⟨k2, j2, e1, e2, e3⟩ := z0 e
            have hk2 : k2 = j - nt := by omega
            subst hk2
            rw [hfo.2.2.1] at e2
            cases e2
            exact ha.1.2 j' hfo.1 e3⟩) ix
      cases e1 : g ds[i] ρ' with
      | none => simp only [e1] at w; cases w
      | some ρ2 =>
        simp only [e1] at w
        refine wg ρ' σ' H'' ds[i] x ρ2 _ (r'.same sm) ix2 e1 fun σ2 r2 g2 o2 => ?_
        have so2 : ∀ j ∈ foO fo, σ2[j]? = (qp nt fr σ)[j]? := fun j hj => (o2 j hj).trans (so j hj)
        have ha2 : H'' acc = some (.lst xs) := sm _ _ ha
        have iz2 := g2.isL (IsL.ext (Ext.of_same sm) (fun _ h _ => h) iz)
        cases e2 : t ρ2 with
        | exc x ρ3 => simp only [e2] at w; cases w
        | bad => simp only [e2] at w; cases w
        | ok p2 =>
          obtain ⟨bb, ρ3⟩ := p2
          refine wt ρ2 σ2 H'' _ r2 ?_
          rw [e2]
          intro H3 r3 g3
          have ha3 : H3 acc = some (.lst xs) := g3.ext.at_ _ _ (accC σ2 so2) ha2
          have iz3 := g3.isL iz2
          cases bb with
          | false =>
            rw [if_neg Bool.false_ne_true]
            simp only [e2] at w
            exact ⟨ds.length - (i + 1), by omega, rfl, hlt, ρ3, zs, xs, r3, so2, ha3, iz3, w⟩
          | true =>
            rw [if_pos rfl]
            simp only [e2] at w
            cases e3 : k ρ3 with
            | exc x ρ4 => simp only [e3] at w; cases w
            | bad => simp only [e3] at w; cases w
            | ok p3 =>
              obtain ⟨d4, ρ4⟩ := p3
              simp only [e3] at w
              refine we ρ3 σ2 H3 _ r3 ?_
              rw [e3]
              intro y4 H4 r4 i4 g4
              have ha4 : H4 acc = some (.lst xs) := g4.ext.at_ _ _ (accC σ2 so2) ha3
              have hsz : qD (zs.length + 1) = true := by
                cases e5 : qD (zs.length + 1) with
                | true => rfl
                | false => rw [e5] at w; simp at w
              rw [if_pos hsz] at w
              have hsz' : zs.length + 1 <= sizeLine := of_decide_eq_true hsz
              have r5 := r4.grow (ys := xs ++ [y4]) ha4 (fun j hj e => accC σ2 so2 j hj e)
              have ext5 : Ext (Cn (cin (Cn c σ) H1 (foO fo) (vY σ fo) acc fun j => (qp nt fr σ)[j]?) σ2) H4 (upd H4 acc (.lst (xs ++ [y4]))) := ⟨fun b us hb => by rw [qm (uh hb ha4 (by intro z; cases z))]; exact hb, fun b o u hb => by rw [qm (uh hb ha4 (by intro z; cases z))]; exact hb, fun b o hb hq => by rw [qm hb.1.2]; exact hq⟩
              refine ⟨xs, ha4, by rw [iz3.length]; omega, ds.length - (i + 1), by omega, rfl, hlt, ρ4, zs ++ [d4], xs ++ [y4], r5, so2, qr, ?_, w⟩
              exact IsL.append (IsL.ext ext5 (fun _ h _ => h) (g4.isL iz3)) (IsL.one (Is.ext ext5 (fun _ h _ => h) i4))
    . have hie : i = ds.length := by omega
      subst hie
      rw [List.drop_of_length_le (Nat.le_refl _)] at w
      unfold qT at w
      cases w
      obtain ⟨r6, g6⟩ := r1.leave hn hfo (fun i j e => so i (by rw [e]; simp [foO])) r'
      exact .inl ⟨iok.stop H' ex, h1 _ H' r6 ⟨acc, xs, rfl, r1.new hn, ha, IsL.ext Ext.refl (fun a ha hs => ha.1.1) iz⟩ g6⟩
end
end L2.Sk
namespace L2.Sk
open PySem PySem.Spec PyProof.Rows
theorem Rep.io {K : Fr0} {c : Fc} {ρ : Env} {σ : St} {H H' : Hp} {i : Nat} {a : Addr} {bs : List D} {xs : List V} (r : Rep K c ρ σ H) (hi : i ∈ c.O) (hs : σ[i]? = some (some (.ref a))) (kp : ∀ b o, b ≠ a -> H b = some o -> H' b = some o)
    (ha : H' a = some (.lst xs)) (him : True) (il : IsL K (Cn c σ) H' bs xs) (dm : ∀ b, H' b = none -> H b = none) : Rep K c (ρ.set i (some (.lst bs))) σ H' /\ Gr c.O σ H H' := by
  obtain ⟨a', xs0, e0, h0, hown⟩ := r.own i hi _ hs
  cases e0
  have gr : Gr c.O σ H H' := ⟨⟨fun b us hb => kp b _ (uh hb h0 (by intro z; cases z)) hb, fun b o u hb => kp b _ (uh hb h0 (by intro z; cases z)) hb, fun b o hc hb => kp b o (fun e => hc i hi (by rw [hs, e])) hb⟩, dm⟩
  refine ⟨⟨by rw [List.length_set]; exact r.len, fun k d hk => ?_, fun j hj v hv => ?_, r.inj, r.b0, fun b o hb hio => ?_, fun b hb => r.dm b (dm b hb), r.pO, r.ps⟩, gr⟩
  . by_cases e : k = i
    . subst e
      have hl : k < ρ.length := by
        have := (List.getElem?_eq_some_iff.mp hk).1
        rwa [List.length_set] at this
      rw [List.getElem?_set_self hl] at hk
      cases hk
      exact ⟨.ref a, hs, .inl ⟨hi, bs, a, xs, rfl, rfl, ha, il⟩⟩
    . rw [zf e] at hk
      obtain ⟨v, h1, h2⟩ := r.val k d hk
      refine ⟨v, h1, ?_⟩
      rcases h2 with ⟨hk2, ds, b, ys, h3, h5, h6, h7⟩ | ⟨hk2, h3⟩
      . subst h5
        have ne : b ≠ a := fun e2 => e (r.inj k i a hk2 hi (by rw [h1, e2]) hs)
        exact .inl ⟨hk2, ds, b, ys, h3, rfl, kp b _ ne h6, gr.isL h7⟩
      . exact .inr ⟨hk2, gr.is h3⟩
  . obtain ⟨b, ys, h1, h2, h3⟩ := r.own j hj v hv
    subst h1
    by_cases e : b = a
    . subst e; exact ⟨b, xs, rfl, ha, h3⟩
    . exact ⟨b, ys, rfl, kp b _ e h2, h3⟩
  . have ne : b ≠ a := fun e => by
      subst e
      rcases hown with z | z
      . rw [hb] at z; cases z
      . exact hio z.2
    exact kp b o ne (r.kp b o hb hio)
def zk (i : Nat) (ρ : Env) : Option (List D) := match ρ[i]? with
  | some (some (.lst ds)) => some ds
  | _ => none
theorem qeB {i : Nat} {ρ : Env} {ds : List D} (h : zk i ρ = some ds) : ρ[i]? = some (some (.lst ds)) := by
  unfold zk at h
  split at h
  . rename_i e; cases h; exact e
  . cases h
theorem Rep.getLO {K : Fr0} {c : Fc} {ρ : Env} {σ : St} {H : Hp} (r : Rep K c ρ σ H) {i : Nat} {ds : List D} (hi : i ∈ c.O) (h : zk i ρ = some ds) :
    ∃ a xs, True /\ σ[i]? = some (some (.ref a)) /\ H a = some (.lst xs) /\ IsL K (Cn c σ) H ds xs := by
  obtain ⟨ds', a, xs, h1, h3, h4, h5⟩ := r.getO hi (qeB h)
  cases h1
  exact ⟨a, xs, trivial, h3, h4, h5⟩
theorem zo {H : Hp} {a b : Addr} {o u : HO} (h : b ≠ a) (hb : H b = some o) : upd H a u b = some o := by rw [qm h]; exact hb
theorem qb4 {H : Hp} {a b : Addr} {u : HO} (h : upd H a u b = none) : H b = none := by
  by_cases e : b = a
  . subst e; rw [qr] at h; cases h
  . rw [qm e] at h; exact h
section
variable {X : Cx} {c : Fc} {a b e : Expr} {pos : Pos}
def zx (i : Nat) (f : M D) : M D := fun ρ => match zk i ρ with
  | none => .bad
  | some _ => (bnd f fun d ρ => match zk i ρ with
    | some ds => if imm d && qD (ds.length + 1) then .ok (.non, ρ.set i (some (.lst (ds ++ [d])))) else .bad
    | none => .bad) ρ
theorem vZ {i : Nat} {x : Str} {p1 apos : Pos} {f : M D} (he : DE X c e f) (ho : i ∈ c.O := by exact of_decide_eq_true rfl) (hN : X.N[i]? = some x := by rfl) (hv : Vis X.env.scope x := by first | exact Or.inl rfl | exact Or.inr (Or.inl rfl) | exact Or.inr (Or.inr rfl)) (hd : (x == ("__debug__" : Str)) = false := by decide) (hcd : (x == ("__classdict__" : Str)) = false := by decide)
    (hbase : attributeBase (.Name x p1) "append" X.env (eval (.Name x p1) X.env) = eval (.Name x p1) X.env := by rfl)
    (hfew : ((backTo pos (starEach [e] X.env)).all (fun x => !x.1) && (backToKw pos (keywordEach [] X.env)).all (fun x => x.1.isSome)
      && decide ([e].length + ([] : List Keyword).length + (if ([] : List Keyword).isEmpty then 0 else 1) < 30)) = true := by rfl)
    (hline : (apos.endLine == pos.line) = true := by rfl) (hs : starEach [e] X.env = (false, eval e X.env) :: starEach [] X.env := by rfl) (hplain : (backTo pos (starEach [] X.env)).any (·.1) = false := by rfl) :
    DE X c (.Call (.Attribute (.Name x p1) "append" apos) [e] [] pos) (zx i f) := by
  obtain ⟨t, p, w⟩ := he
  refine ⟨_, qjT PySem.F.plainAttrs_list PySem.F.slot_list_append PySem.F.type_list_append uJ (uk hN hv hd hcd) (jj p vm hs) hbase hfew hline hs hplain, fun ρ σ H Q r h => ?_⟩
  unfold zx at h
  cases e0 : zk i ρ with
  | none => rw [e0] at h; exact h.elim
  | some ds0 =>
    simp only [e0] at h
    obtain ⟨l, xs0, _, hl, hH, _⟩ := r.getLO ho e0
    refine ⟨.ref l, hl, .inl ⟨rfl, xs0, .inl (.inl hH)⟩, w ρ σ H _ r (Wp.bnd h fun d ρ1 v H1 r1 i1 g1 h1 => ?_)⟩
    cases e1 : zk i ρ1 with
    | none => simp only [e1] at h1; exact h1.elim
    | some ds =>
      simp only [e1] at h1
      by_cases hb : (imm d && qD (ds.length + 1)) = true
      . rw [if_pos hb] at h1
        rw [Bool.and_eq_true] at hb
        obtain ⟨l', xs, him, hl', hH', il⟩ := r1.getLO ho e1
        rw [hl] at hl'
        cases hl'
        have hsz : ds.length + 1 <= sizeLine := of_decide_eq_true hb.2
        have ext : Ext (Cn c σ) H1 (upd H1 l (.lst (xs ++ [v]))) := ⟨fun b us hb => zo (uh hb hH' (by intro z; cases z)) hb, fun b o u hb => zo (uh hb hH' (by intro z; cases z)) hb, fun b o hb hq => zo (fun e => hb.2 i ho (by rw [hl, e])) hq⟩
        obtain ⟨r2, g2⟩ := r1.io (H' := upd H1 l (.lst (xs ++ [v]))) (bs := ds ++ [d]) ho hl (fun b o hb ho => zo hb ho) qr trivial
          (IsL.append (IsL.ext ext (fun _ h _ => h) il) (IsL.one (Is.ext ext (fun _ h _ => h) i1))) (fun b hb => qb4 hb)
        exact ⟨l, xs, v, rfl, rfl, hH', by rw [il.length]; omega, h1 _ _ r2 rfl g2⟩
      . rw [if_neg hb] at h1; exact h1.elim
def qgd (i : Nat) (k f : M D) : MS := sbnd f fun d ρ => match zk i ρ with
  | none => .bad
  | some _ => (sbnd k fun j ρ => match j, zk i ρ with
    | .int n, some ds => match ixN ds.length n with
      | some q => if imm d then .ok (.nx (ρ.set i (some (.lst (ds.set q d))))) else .bad
      | none => .bad
    | _, _ => .bad) ρ
theorem qig {i : Nat} {x : Str} {p1 p2 : Pos} {ke : Expr} {f k : M D} (he : DE X c e f) (hk : DE X c ke k) (ho : i ∈ c.O := by exact of_decide_eq_true rfl) (hN : X.N[i]? = some x := by rfl) (hv : Vis X.env.scope x := by first | exact Or.inl rfl | exact Or.inr (Or.inl rfl) | exact Or.inr (Or.inr rfl)) (hd : (x == ("__debug__" : Str)) = false := by decide) (hcd : (x == ("__classdict__" : Str)) = false := by decide)
    (ha : ∀ v, assign (.Subscript (.Name x p1) ke p2) X.env v = (do
      let ov <- holding [v] (eval (.Name x p1) X.env)
      let iv <- holding [v, ov] (eval ke X.env)
      standAt p2
      holding [v, ov, iv] (setItem ov iv v)
      release [v, ov, iv] []) := by intro _; rfl)
    (hs : swapsWithSole [.Subscript (.Name x p1) ke p2] e pos.line X.env = pure false := by rfl) (hw : swappedStores [.Subscript (.Name x p1) ke p2] e X.env = pure none := by rfl) (h1 : (assignEach [.Subscript (.Name x p1) ke p2] X.env).map (·.2) = [assign (.Subscript (.Name x p1) ke p2) X.env] := by rfl) :
    DS X c (.Assign [.Subscript (.Name x p1) ke p2] e pos) (qgd i k f) := by
  obtain ⟨t, p, w⟩ := he
  obtain ⟨tk, pk, wk⟩ := hk
  refine ⟨_, qgZ p (qjy (uk hN hv hd hcd) pk qfZ ha) hs hw h1, fun ρ σ H D r h => w ρ σ H _ r (Wp.sbnd h fun d ρ1 v H1 r1 i1 g1 h1 => ?_)⟩
  cases e0 : zk i ρ1 with
  | none => simp only [e0] at h1; exact h1.elim
  | some ds0 =>
    simp only [e0] at h1
    obtain ⟨l, xs0, _, hl, hH, _⟩ := r1.getLO ho e0
    refine ⟨.ref l, hl, wk ρ1 σ H1 _ r1 (Wp.sbnd h1 fun j ρ2 u H2 r2 i2 g2 h2 => ?_)⟩
    cases j with
    | int n =>
      cases e1 : zk i ρ2 with
      | none => simp only [e1] at h2; exact h2.elim
      | some ds =>
        simp only [e1] at h2
        cases e2 : ixN ds.length n with
        | none => simp only [e2] at h2; exact h2.elim
        | some q =>
          simp only [e2] at h2
          by_cases hb : imm d = true
          . rw [if_pos hb] at h2
            obtain ⟨l', xs, him, hl', hH', il⟩ := r2.getLO ho e1
            rw [hl] at hl'
            cases hl'
            cases i2
            have i3 := g2.is i1
            have ext : Ext (Cn c σ) H2 (upd H2 l (.lst (xs.set q v))) := ⟨fun b us hb => zo (uh hb hH' (by intro z; cases z)) hb, fun b o u hb => zo (uh hb hH' (by intro z; cases z)) hb, fun b o hb hq => zo (fun e => hb.2 i ho (by rw [hl, e])) hq⟩
            obtain ⟨r3, g3⟩ := r2.io (H' := upd H2 l (.lst (xs.set q v))) (bs := ds.set q d) ho hl (fun b o hb ho => zo hb ho) qr trivial
              (IsL.set (Is.ext ext (fun _ h _ => h) i3) q (IsL.ext ext (fun _ h _ => h) il)) (fun b hb => qb4 hb)
            exact ⟨l, xs, n, q, rfl, rfl, hH', by rw [il.length]; exact e2, h2 σ _ r3 g3.s⟩
          . rw [if_neg hb] at h2; exact h2.elim
    | _ => exact h2.elim
structure qge (K : Fr0) (c : Fc) (ρ : Env) (σ : St) (H : Hp) (a : Addr) : Prop where
  val : ∀ i d v, ρ[i]? = some (some d) -> i ∉ c.O -> σ[i]? = some (some v) -> Is K (fun b => Cn c σ b /\ b ≠ a) H d v
  cont : ∀ i ds b xs, ρ[i]? = some (some (.lst ds)) -> i ∈ c.O -> σ[i]? = some (some (.ref b)) -> H b = some (.lst xs) -> IsL K (Cn c σ) H ds xs -> IsL K (fun b => Cn c σ b /\ b ≠ a) H ds xs
  own : ∀ j ∈ c.O, σ[j]? ≠ some (some (.ref a))
  new : c.H0 a = none
theorem Is.fresh {K : Fr0} {A : Addr -> Prop} {H : Hp} {d : D} {v : V} {a : Addr} (h : Is K A H d v) (hn : H a = none) : Is K (fun b => A b /\ b ≠ a) H d v := Is.ext Ext.refl (fun b h1 h2 => ⟨h1, fun e => by rw [e, hn] at h2; cases h2⟩) h
theorem Rep.apart {K : Fr0} {ρ : Env} {σ : St} {H : Hp} {a : Addr} {o : HO} (r : Rep K c ρ σ H) (hn : H a = none) : qge K c ρ σ (upd H a o) a where
  val := fun i d v h1 h2 h3 => by
    obtain ⟨w, h4, h5⟩ := r.get h2 h1
    rw [h3] at h4
    cases h4
    exact Is.ext (Ext.of_same (qy hn _)) (fun _ h _ => h) (h5.fresh hn)
  cont := fun i ds b xs h1 h2 h3 h4 _ => by
    obtain ⟨ds', a', ys, e1, e2, e3, e4⟩ := r.getO h2 h1
    cases e1
    rw [h3] at e2
    cases e2
    have := qy hn o _ _ e3
    rw [h4] at this
    cases this
    exact IsL.ext (Ext.of_same (qy hn _)) (fun b hb hs => ⟨hb, fun e => by rw [e, hn] at hs; cases hs⟩) e4
  own := fun j hj e => (r.new hn).2 j hj e
  new := r.dm a hn
theorem Rep.apart_same {K : Fr0} {ρ : Env} {σ : St} {H H' : Hp} {a : Addr} (r : Rep K c ρ σ H) (hn : H a = none) (sm : z8 H H') : qge K c ρ σ H' a where
  val := fun i d v h1 h2 h3 => by
    obtain ⟨w, h4, h5⟩ := r.get h2 h1
    rw [h3] at h4
    cases h4
    exact Is.ext (Ext.of_same sm) (fun _ h _ => h) (h5.fresh hn)
  cont := fun i ds b xs h1 h2 h3 h4 _ => by
    obtain ⟨ds', a', ys, e1, e2, e3, e4⟩ := r.getO h2 h1
    cases e1
    rw [h3] at e2
    cases e2
    have := sm _ _ e3
    rw [h4] at this
    cases this
    exact IsL.ext (Ext.of_same sm) (fun b hb hs => ⟨hb, fun e => by rw [e, hn] at hs; cases hs⟩) e4
  own := fun j hj e => (r.new hn).2 j hj e
  new := r.dm a hn
def WpN (K : Fr0) (c : Fc) (σ : St) (H : Hp) (Q : VK) : R (List D × Env) -> Prop
  | .ok (ds, ρ) => ∀ a xs H', H a = none -> Rep K c ρ σ H' -> qge K c ρ σ H' a -> H' a = some (.lst xs) -> True -> IsL K (fun b => Cn c σ b /\ b ≠ a) H' ds xs -> Gr c.O σ H H' -> Q (.ref a) H'
  | .exc x ρ => ∀ H', Rep K c ρ σ H' -> Gr c.O σ H H' -> c.E x H'
  | .bad => False
def DN (X : Cx) (c : Fc) (e : Expr) (f : M (List D)) : Prop := ∃ t, PE X e t /\ ∀ ρ σ H Q, Rep X.K c ρ σ H -> WpN X.K c σ H Q (f ρ) -> t σ H Q
theorem WpN.gr {K : Fr0} {σ : St} {H H1 : Hp} {Q : VK} : ∀ {r : R (List D × Env)}, WpN K c σ H Q r -> Gr c.O σ H H1 -> WpN K c σ H1 Q r
  | .ok (d, ρ), h, g => fun a xs H' hn h1 h2 h3 h4 h5 hg => h a xs H' (g.dom a hn) h1 h2 h3 h4 h5 (g.trans hg)
  | .exc x ρ, h, g => fun H' hr hg => h H' hr (g.trans hg)
  | .bad, h, _ => h
theorem WpL.bndN {K : Fr0} {σ : St} {H : Hp} {Q : VK} {f : M (List D)} {k : List D -> M (List D)} {ρ : Env} {Q' : List V -> Hp -> Prop} (h : WpN K c σ H Q (Sk.bnd f k ρ)) (hQ : ∀ d ρ' v H', Rep K c ρ' σ H' -> IsL K (Cn c σ) H' d v -> Gr c.O σ H H' -> WpN K c σ H' Q (k d ρ') -> Q' v H') : WpL K c σ H Q' (f ρ) := by
  unfold Sk.bnd at h
  cases e : f ρ with
  | ok p => rw [e] at h; exact fun v H' hr hi hg => hQ p.1 p.2 v H' hr hi hg (h.gr hg)
  | exc x ρ' => rw [e] at h; exact h
  | bad => rw [e] at h; exact h
def qhb (f : M (List D)) : M (List D) := bnd f fun ds => lift (if immL ds && qD ds.length then some ds else none)
theorem qeC {es : List Expr} {f : M (List D)} (h : DA X c es f) : DN X c (.List es pos) (qhb f) := by
  obtain ⟨t, p, w⟩ := h
  refine ⟨_, qei p, fun ρ σ H Q r h => w ρ σ H _ r (WpL.bndN h fun ds ρ1 vs H1 r1 i1 g1 h1 => ?_)⟩
  by_cases hb : (immL ds && qD ds.length) = true
  . rw [if_pos hb] at h1
    rw [Bool.and_eq_true] at hb
    refine ⟨by rw [i1.length]; exact of_decide_eq_true hb.2, fun p hp => ?_⟩
    exact h1 p vs _ hp (r1.laid hp _) (r1.apart hp) qr trivial (IsL.ext (Ext.of_same (qy hp _)) (fun b h hs => ⟨h, fun e => by rw [e, hp] at hs; cases hs⟩) i1) (.of_same (qy hp _))
  . rw [if_neg hb] at h1; exact h1.elim
theorem Cl.setO {O : List Nat} {σ : St} {i : Nat} {a b : Addr} (h : Cl O σ b) (hb : b ≠ a) : Cl O (σ.set i (some (.ref a))) b := fun j hj e => by
  by_cases hji : j = i
  . subst hji
    have hl : j < σ.length := by
      have := (List.getElem?_eq_some_iff.mp e).1
      rwa [List.length_set] at this
    rw [List.getElem?_set_self hl] at e
    cases e
    exact hb rfl
  . rw [zf hji] at e
    exact h j hj e
theorem Rep.setO {K : Fr0} {ρ : Env} {σ : St} {H : Hp} {i : Nat} {a : Addr} {ds : List D} {xs : List V} (r : Rep K c ρ σ H) (hi : i ∈ c.O) (hP : i ∉ c.P) (ap : qge K c ρ σ H a) (ha : H a = some (.lst xs)) (him : True) (il : IsL K (fun b => Cn c σ b /\ b ≠ a) H ds xs) :
    Rep K c (ρ.set i (some (.lst ds))) (σ.set i (some (.ref a))) H where
  len := by rw [List.length_set, List.length_set]; exact r.len
  val := fun j e hj => by
    by_cases e1 : j = i
    . subst e1
      have hl : j < ρ.length := by
        have := (List.getElem?_eq_some_iff.mp hj).1
        rwa [List.length_set] at this
      rw [List.getElem?_set_self hl] at hj
      cases hj
      exact ⟨.ref a, List.getElem?_set_self (by rw [<- r.len]; exact hl), .inl ⟨hi, ds, a, xs, rfl, rfl, ha, IsL.ext Ext.refl (fun b hb _ => ⟨hb.1.1, hb.1.2.setO hb.2⟩) il⟩⟩
    . rw [zf e1] at hj
      obtain ⟨w, h1, h2⟩ := r.val j e hj
      refine ⟨w, by rw [zf e1]; exact h1, ?_⟩
      rcases h2 with ⟨g1, ds', b', xs', g3, g5, g6, g7⟩ | ⟨h3, h4⟩
      . subst g3 g5
        exact .inl ⟨g1, ds', b', xs', rfl, rfl, g6, IsL.ext Ext.refl (fun b hb _ => ⟨hb.1.1, hb.1.2.setO hb.2⟩) (ap.cont j ds' b' xs' hj g1 h1 g6 g7)⟩
      . exact .inr ⟨h3, Is.ext Ext.refl (fun b hb _ => ⟨hb.1.1, hb.1.2.setO hb.2⟩) (ap.val j e w hj h3 h1)⟩
  own := fun j hj w h => by
    by_cases e1 : j = i
    . subst e1
      have hl : j < σ.length := by
        have := (List.getElem?_eq_some_iff.mp h).1
        rwa [List.length_set] at this
      rw [List.getElem?_set_self hl] at h
      cases h
      exact ⟨a, xs, rfl, ha, .inl ap.new⟩
    . rw [zf e1] at h
      exact r.own j hj w h
  inj := fun j k b hj hk h1 h2 => by
    by_cases e1 : j = i
    . by_cases e2 : k = i
      . rw [e1, e2]
      . subst e1
        have hl : j < σ.length := by
          have := (List.getElem?_eq_some_iff.mp h1).1
          rwa [List.length_set] at this
        rw [List.getElem?_set_self hl] at h1
        cases h1
        rw [zf e2] at h2
        exact absurd h2 (ap.own k hk)
    . by_cases e2 : k = i
      . subst e2
        have hl : k < σ.length := by
          have := (List.getElem?_eq_some_iff.mp h2).1
          rwa [List.length_set] at this
        rw [List.getElem?_set_self hl] at h2
        cases h2
        rw [zf e1] at h1
        exact absurd h1 (ap.own j hj)
      . rw [zf e1] at h1
        rw [zf e2] at h2
        exact r.inj j k b hj hk h1 h2
  b0 := r.b0
  kp := r.kp
  dm := r.dm
  pO := r.pO
  ps := fun j hj => by
    have e : j ≠ i := fun e => hP (e ▸ hj)
    rw [zf e]; exact r.ps j hj
def uC (i : Nat) (f : M (List D)) : MS := sbnd f fun ds ρ => .ok (.nx (ρ.set i (some (.lst ds))))
theorem v4 {i : Nat} {x : Str} {pos' : Pos} {f : M (List D)} (hN : X.N.Nodup) (he : DN X c e f) (ho : i ∈ c.O := by exact of_decide_eq_true rfl) (hP : i ∉ c.P := by exact of_decide_eq_false rfl) (hi : X.N[i]? = some x := by rfl) (hx : Loc X.env.scope x := by first | exact Or.inl rfl | exact Or.inr rfl) (hs : swapsWith e (some (.Name x pos')) pos.line X.env = pure false := by rfl) (hf : X.fn x = true \/ X.env.scope.names.lookup x = some .local := by first | exact .inl rfl | exact .inr rfl | assumption) :
    DS X c (.Assign [.Name x pos'] e pos) (uC i f) := by
  obtain ⟨t, p, w⟩ := he
  refine ⟨_, qd7 hN hi hx p hs hf, fun ρ σ H D r h => w ρ σ H _ r ?_⟩
  unfold uC sbnd at h
  cases ef : f ρ with
  | bad => rw [ef] at h; exact h
  | exc z ρ' => rw [ef] at h; exact fun H' hr hg => h σ H' hr hg.s
  | ok q =>
    rw [ef] at h
    intro a xs H' hn r' ap ha him il g'
    exact h _ H' (r'.setO ho hP ap ha him il) ⟨g'.ext, fun b hb hs => hb.setO (fun e => by rw [e, hn] at hs; exact absurd hs (by simp)), g'.dom⟩
def qkb (i : Nat) : M D := fun ρ => match zk i ρ with
  | some ds => .ok (.int ds.length, ρ)
  | none => .bad
def qdz (i : Nat) : M D := fun ρ => match zk i ρ with
  | some ds => .ok (.tup ds, ρ)
  | none => .bad
theorem qeD {i : Nat} {x : Str} {p p1 : Pos} (hg : Gl X "tuple") (hm : X.mg "tuple" = none) (hb : bootBuiltins "tuple" = some (.type "tuple") := by first | rfl | exact PySem.boot_tuple) (ho : i ∈ c.O := by exact of_decide_eq_true rfl) (hN : X.N[i]? = some x := by rfl) (hv : Vis X.env.scope x := by first | exact Or.inl rfl | exact Or.inr (Or.inl rfl) | exact Or.inr (Or.inr rfl)) (hd : (x == ("__debug__" : Str)) = false := by decide) (hcd : (x == ("__classdict__" : Str)) = false := by decide) :
    DE X c (.Call (.Name "tuple" p) [.Name x p1] [] pos) (qdz i) := by
  refine ⟨_, qek qak hg hm hb (jj (uk hN hv hd hcd) vm), fun ρ σ H Q r h => ?_⟩
  unfold qdz at h
  cases e0 : zk i ρ with
  | none => simp only [e0] at h; exact h.elim
  | some ds =>
    simp only [e0] at h
    obtain ⟨l, xs, him, hl, hH, il⟩ := r.getLO ho e0
    refine ⟨.ref l, hl, l, xs, rfl, .inl ⟨.inl (.inl hH), fun p hp => h _ _ (r.laid hp _) ⟨p, xs, rfl, .inl qr, ?_⟩ (.of_same (qy hp _))⟩⟩
    exact IsL.ext (Ext.of_same (qy hp _)) (fun _ h _ => h) il
def qgf (i : Nat) (g : M D) : M D := fun ρ => match zk i ρ with
  | none => .bad
  | some _ => (bnd g fun k ρ => match k, zk i ρ with
    | .int n, some ds => match atI ds n with
      | some d => .ok (d, ρ)
      | none => .bad
    | _, _ => .bad) ρ
theorem qhc {i : Nat} {x : Str} {p1 : Pos} {g : M D} (hb : DE X c b g) (hs : qb0 b := by intro _ _; rfl) (ho : i ∈ c.O := by exact of_decide_eq_true rfl) (hN : X.N[i]? = some x := by rfl) (hv : Vis X.env.scope x := by first | exact Or.inl rfl | exact Or.inr (Or.inl rfl) | exact Or.inr (Or.inr rfl)) (hd : (x == ("__debug__" : Str)) = false := by decide) (hcd : (x == ("__classdict__" : Str)) = false := by decide) :
    DE X c (.Subscript (.Name x p1) b pos) (qgf i g) := by
  obtain ⟨tb, pb, wb⟩ := hb
  refine ⟨_, qjQ qen (uk hN hv hd hcd) pb hs, fun ρ σ H Q r h => ?_⟩
  unfold qgf at h
  cases e0 : zk i ρ with
  | none => simp only [e0] at h; exact h.elim
  | some ds0 =>
    simp only [e0] at h
    obtain ⟨l, xs0, _, hl, hH, _⟩ := r.getLO ho e0
    refine ⟨.ref l, hl, wb ρ σ H _ r (Wp.bnd h fun k ρ1 v H1 r1 i1 g1 h1 => ?_)⟩
    cases k with
    | int n =>
      cases e1 : zk i ρ1 with
      | none => simp only [e1] at h1; exact h1.elim
      | some ds =>
        simp only [e1] at h1
        cases e2 : atI ds n with
        | none => simp only [e2] at h1; exact h1.elim
        | some d =>
          simp only [e2] at h1
          obtain ⟨l', xs, him, hl', hH', il⟩ := r1.getLO ho e1
          rw [hl] at hl'
          cases hl'
          cases i1
          obtain ⟨w, h3, h4⟩ := il.atI e2
          exact ⟨l, xs, n, w, rfl, rfl, .inl (.inl hH'), h3, h1 w H1 r1 h4 .refl⟩
    | _ => exact h1.elim
def qih (i : Nat) : MS := fun ρ => match zk i ρ with
  | some ds => .ok (.rt (.lst ds) ρ)
  | none => .bad
theorem qii {i : Nat} {x : Str} {p1 : Pos} (ho : i ∈ c.O := by exact of_decide_eq_true rfl) (hP : i ∉ c.P := by exact of_decide_eq_false rfl) (hN : X.N[i]? = some x := by rfl) (hv : Vis X.env.scope x := by first | exact Or.inl rfl | exact Or.inr (Or.inl rfl) | exact Or.inr (Or.inr rfl)) (hd : (x == ("__debug__" : Str)) = false := by decide) (hcd : (x == ("__classdict__" : Str)) = false := by decide) :
    DS X c (.Return (some (.Name x p1)) pos) (qih i) := by
  refine ⟨_, qcv (uk hN hv hd hcd), fun ρ σ H D r h => ?_⟩
  unfold qih at h
  cases e0 : zk i ρ with
  | none => simp only [e0] at h; exact h.elim
  | some ds =>
    simp only [e0] at h
    obtain ⟨l, xs, him, hl, hH, il⟩ := r.getLO ho e0
    obtain ⟨a, ys, e1, e2, e3⟩ := r.own i ho _ hl
    cases e1
    have hB : c.B l := by
      rcases e3 with z | z
      . exact r.b0 l z
      . exact absurd z.1 hP
    exact ⟨.ref l, hl, h (.ref l) σ H r ⟨l, xs, rfl, hB, hH, IsL.ext Ext.refl (fun _ h _ => h.1) il⟩ .refl⟩
end
def cfn (O P : List Nat) (A : Addr -> Prop) (H : Hp) (Io : Addr -> Prop) (E : Exn -> Hp -> Prop) (S : Nat -> Option (Option V)) : Fc where
  O := O
  P := P
  B := fun a => A a \/ H a = none
  H0 := H
  Io := Io
  E := E
  S := S
def jR (n : Nat) (ds : List D) : Env := ds.map some ++ List.replicate (n - ds.length) none
def spD (K : Fr0) (F : List D -> R D) : Sp := fun vs H Q _ => ∃ ds A, IsL K A H ds vs /\ (∀ a, A a -> True) /\ match F ds with
  | .ok d => ∀ v H', z8 H H' -> Is K (fun a => A a \/ H a = none) H' d v -> Q v H'
  | _ => False
def qhd (K : Fr0) (F : List D -> List D -> R (D × List D)) : Sp := fun vs H Q _ => ∃ (bs ds : List D) (A : Addr -> Prop) (a : Addr) (xs vs' : List V), vs = .ref a :: vs' /\ H a = some (.lst xs) /\ True /\ IsL K A H bs xs /\ ¬ A a /\ IsL K A H ds vs' /\ match F bs ds with
  | .ok (d, bs') => ∀ v H' xs', (∀ b o, b ≠ a -> H b = some o -> H' b = some o) -> (∀ b, H' b = none -> H b = none) -> H' a = some (.lst xs') -> True -> IsL K (fun b => A b \/ H b = none) H' bs' xs' -> Is K (fun b => A b \/ H b = none) H' d v -> Q v H'
  | _ => False
def dfn (n p : Nat) (body : MS) (ds : List D) : R D := if ds.length = p then match body (jR n ds) with
  | .ok (.rt d _) => .ok d
  | .ok (.nx _) => .ok .non
  | _ => .bad else .bad
def qao (n p : Nat) (body : MS) (bs ds : List D) : R (D × List D) := if ds.length + 1 = p then match body (jR n (.lst bs :: ds)) with
  | .ok (.rt d ρ) => match zk 0 ρ with
    | some bs' => .ok (d, bs')
    | none => .bad
  | .ok (.nx ρ) => match zk 0 ρ with
    | some bs' => .ok (.non, bs')
    | none => .bad
  | _ => .bad else .bad
theorem uS {N : List Str} {vs : List V} {i : Nat} {v : V} (h : (zn N vs)[i]? = some (some v)) : vs[i]? = some v := by
  unfold zn at h
  by_cases hi : i < vs.length
  . rw [List.getElem?_append_left (by simpa using hi), List.getElem?_map] at h
    cases e : vs[i]? with
    | none => rw [e] at h; cases h
    | some w => rw [e] at h; cases h; rfl
  . rw [List.getElem?_append_right (by simpa using hi), List.getElem?_replicate] at h
    split at h <;> cases h
theorem vG {N : List Str} {vs : List V} {i : Nat} {v : V} (h : vs[i]? = some v) : (zn N vs)[i]? = some (some v) := by
  unfold zn
  have hi : i < vs.length := (List.getElem?_eq_some_iff.mp h).1
  rw [List.getElem?_append_left (by simpa using hi), List.getElem?_map, h]; rfl
theorem qbj {n : Nat} {ds : List D} {i : Nat} {d : D} (h : (jR n ds)[i]? = some (some d)) : ds[i]? = some d := by
  unfold jR at h
  by_cases hi : i < ds.length
  . rw [List.getElem?_append_left (by simpa using hi), List.getElem?_map] at h
    cases e : ds[i]? with
    | none => rw [e] at h; cases h
    | some w => rw [e] at h; cases h; rfl
  . rw [List.getElem?_append_right (by simpa using hi), List.getElem?_replicate] at h
    split at h <;> cases h
theorem v5 {K : Fr0} {N : List Str} {O : List Nat} {A : Addr -> Prop} {H : Hp} {E : Exn -> Hp -> Prop} {ds : List D} {vs : List V} (il : IsL K A H ds vs) (hO : ∀ i ∈ O, ds.length <= i) :
    Rep K (cfn O [] A H (fun _ => False) E fun _ => none) (jR N.length ds) (zn N vs) H where
  len := by unfold jR zn; simp [il.length]
  val := fun i d h => by
    have h1 := qbj h
    obtain ⟨v, h2, h3⟩ := il.get h1
    have hi : i ∉ O := fun z => by
      have := (List.getElem?_eq_some_iff.mp h1).1
      have := hO i z
      omega
    refine ⟨v, vG h2, .inr ⟨hi, Is.ext Ext.refl (fun a ha _ => ⟨.inl ha, fun j hj e => ?_⟩) h3⟩⟩
    have := (List.getElem?_eq_some_iff.mp (uS e)).1
    have := hO j hj
    rw [il.length] at *
    omega
  own := fun j hj v h => by
    have := (List.getElem?_eq_some_iff.mp (uS h)).1
    have := hO j hj
    rw [il.length] at *
    omega
  inj := fun i j a hi hj h1 h2 => by
    have := (List.getElem?_eq_some_iff.mp (uS h1)).1
    have := hO i hi
    rw [il.length] at *
    omega
  b0 := fun a h => .inr h
  kp := fun b o h _ => h
  dm := fun b h => h
  pO := fun j hj => by cases hj
  ps := fun j hj => by cases hj
section
variable {P : Program} {w : World} {K : PySem.W.Frag} {mg : Str -> Option Value} {base : Heap}
theorem zV {x qual : Str} {st : Stmt} {f : Addr} {fd : FuncData} {N ps : List Str} {k : Nat} {O : List Nat} {body : MS} (F : Fun K x qual st f fd) (S : qw N ps (qd st)) (hO : ∀ i ∈ O, ps.length <= i)
    (hb : ∀ (cdv : Value) (A : Around) (outer : List PySem.Env) (s : Shared) (H : Hp) (E : XK) (B : Addr -> Prop), yA k (A.deeper (envOfC qual (qd st) s.heap.objs.size f cdv)) ->
      DSs (qfJ CX0 P w K mg base N qual (qd st) f cdv A outer s H E).nox (cfn O [] B H (fun _ => False) (fun _ _ => False) fun _ => none) (qu st) body) :
    yg P w K mg base CX0 (k + 1) f fd ps (spD K (dfn N.length ps.length body)) := by
  refine F.ok S (fun vs H Q E h => ?_) (fun cdv A outer s H vs Q E hr h => ?_)
  . obtain ⟨ds, B, il, _, h⟩ := h
    unfold dfn at h
    by_cases e : ds.length = ps.length
    . rw [il.length]; exact e
    . rw [if_neg e] at h; exact h.elim
  . obtain ⟨ds, B, il, _, h⟩ := h
    obtain ⟨t, p, wt⟩ := hb cdv A outer s H E B hr
    refine ⟨t, p, ?_⟩
    unfold dfn at h
    by_cases e : ds.length = ps.length
    . rw [if_pos e] at h
      refine wt (jR N.length ds) (zn N vs) H _ (v5 il (fun i hi => by rw [e]; exact hO i hi)) ?_
      have same : ∀ {ρ : Env} {σ : St} {H' : Hp}, Rep K (cfn O [] B H (fun _ => False) (fun _ _ => False) fun _ => none) ρ σ H' -> z8 H H' := fun r b o hb => r.kp b o hb fun z => z
      cases eb : body (jR N.length ds) with
      | bad => rw [eb] at h; exact h.elim
      | exc z ρ => rw [eb] at h; exact h.elim
      | ok fl =>
        rw [eb] at h
        cases fl with
        | nx ρ => exact fun σ' H' r' _ => h .non H' (same r') rfl
        | rt d ρ => exact fun v σ' H' r' i' _ => h v H' (same r') i'
        | bk ρ => exact h.elim
        | ct ρ => exact h.elim
    . rw [if_neg e] at h; exact h.elim
theorem qkc {x qual : Str} {st : Stmt} {f : Addr} {fd : FuncData} {N ps : List Str} {k : Nat} {O : List Nat} {body : MS} (F : Fun K x qual st f fd) (S : qw N ps (qd st)) (hO : ∀ i ∈ O, i = 0 \/ ps.length <= i) (h0 : 0 ∈ O)
    (hb : ∀ (cdv : Value) (A : Around) (outer : List PySem.Env) (s : Shared) (H : Hp) (E : XK) (B Io : Addr -> Prop) (S : Nat -> Option (Option V)), yA k (A.deeper (envOfC qual (qd st) s.heap.objs.size f cdv)) ->
      DSs (qfJ CX0 P w K mg base N qual (qd st) f cdv A outer s H E).nox (cfn O [0] B H Io (fun _ _ => False) S) (qu st) body) :
    yg P w K mg base CX0 (k + 1) f fd ps (qhd K (qao N.length ps.length body)) := by
  refine F.ok S (fun vs H Q E h => ?_) (fun cdv A outer s H vs Q E hr h => ?_)
  . obtain ⟨bs, ds, B, a, xs, vs', rfl, ha, him, ib, nA, il, h⟩ := h
    unfold qao at h
    by_cases e : ds.length + 1 = ps.length
    . rw [List.length_cons, il.length]; exact e
    . rw [if_neg e] at h; exact h.elim
  . obtain ⟨bs, ds, B, a, xs, vs', rfl, ha, him, ib, nA, il, h⟩ := h
    obtain ⟨t, p, wt⟩ := hb cdv A outer s H E B (fun b => b = a) (fun j => (zn N (.ref a :: vs'))[j]?) hr
    refine ⟨t, p, ?_⟩
    unfold qao at h
    by_cases e : ds.length + 1 = ps.length
    . rw [if_pos e] at h
      have only : ∀ j ∈ O, ∀ v, (zn N (.ref a :: vs'))[j]? = some (some v) -> j = 0 /\ v = .ref a := fun j hj v hv => by
        have h1 := uS hv
        rcases hO j hj with z | z
        . subst z; cases h1; exact ⟨rfl, rfl⟩
        . have := (List.getElem?_eq_some_iff.mp h1).1
          rw [List.length_cons, il.length] at this
          omega
      have r0 : Rep K (cfn O [0] B H (fun b => b = a) (fun _ _ => False) fun j => (zn N (.ref a :: vs'))[j]?) (jR N.length (.lst bs :: ds)) (zn N (.ref a :: vs')) H := by
        refine ⟨by unfold jR zn; simp [il.length], fun i d hd => ?_, fun j hj v hv => ?_, fun i j b hi hj h1 h2 => ?_, fun b hb => .inr hb, fun b o hb _ => hb, fun b hb => hb, fun j hj => ?_, fun _ _ => rfl⟩
        . have h1 := qbj hd
          cases i with
          | zero =>
            cases h1
            exact ⟨.ref a, vG rfl, .inl ⟨h0, bs, a, xs, rfl, rfl, ha, IsL.ext Ext.refl (fun b hb _ => ⟨.inl hb, fun j hj e2 => by obtain ⟨_, e3⟩ := only j hj _ e2; cases e3; exact nA hb⟩) ib⟩⟩
          | succ i =>
            have h1' : ds[i]? = some d := by simpa using h1
            obtain ⟨v, h2, h3⟩ := il.get h1'
            have hi : i + 1 ∉ O := fun z => by
              have h4 := (List.getElem?_eq_some_iff.mp h1').1
              rcases hO _ z with q | q
              . cases q
              . omega
            refine ⟨v, vG (by simpa using h2), .inr ⟨hi, Is.ext Ext.refl (fun b hb _ => ⟨.inl hb, fun j hj e2 => ?_⟩) h3⟩⟩
            obtain ⟨_, e3⟩ := only j hj _ e2
            cases e3
            exact nA hb
        . obtain ⟨rfl, rfl⟩ := only j hj v hv
          exact ⟨a, xs, rfl, ha, .inr ⟨by simp [cfn], rfl⟩⟩
        . rw [(only i hi _ h1).1, (only j hj _ h2).1]
        . have : j = 0 := by simpa [cfn] using hj
          rw [this]; exact h0
      refine wt _ _ H _ r0 ?_
      have fin : ∀ {ρ : Env} {σ : St} {H' : Hp} {bs' : List D}, Rep K (cfn O [0] B H (fun b => b = a) (fun _ _ => False) fun j => (zn N (.ref a :: vs'))[j]?) ρ σ H' -> zk 0 ρ = some bs' ->
          ∃ xs', H' a = some (.lst xs') /\ True /\ IsL K (fun b => B b \/ H b = none) H' bs' xs' := fun {ρ σ H' bs'} r e1 => by
        obtain ⟨l, ys, h1, h2, h3, h4⟩ := r.getLO h0 e1
        have h5 := r.ps 0 (by simp [cfn])
        have h6 : (cfn O [0] B H (fun b => b = a) (fun _ _ => False) fun j => (zn N (.ref a :: vs'))[j]?).S 0 = some (some (.ref a)) := vG rfl
        rw [h2, h6] at h5
        cases h5
        exact ⟨ys, h3, h1, IsL.ext Ext.refl (fun b hb _ => hb.1) h4⟩
      have kps : ∀ {ρ : Env} {σ : St} {H' : Hp}, Rep K (cfn O [0] B H (fun b => b = a) (fun _ _ => False) fun j => (zn N (.ref a :: vs'))[j]?) ρ σ H' -> ∀ b o, b ≠ a -> H b = some o -> H' b = some o := fun r b o hb ho => r.kp b o ho hb
      cases eb : body (jR N.length (.lst bs :: ds)) with
      | bad => rw [eb] at h; exact h.elim
      | exc z ρ => rw [eb] at h; exact h.elim
      | ok fl =>
        rw [eb] at h
        cases fl with
        | nx ρ =>
          cases eg : zk 0 ρ with
          | none => simp only [eg] at h
          | some bs' =>
            simp only [eg] at h
            exact fun σ' H' r' _ => by
              obtain ⟨xs', h1, h2, h3⟩ := fin r' eg
              exact h .non H' xs' (kps r') (fun b hb => r'.dm b hb) h1 h2 h3 rfl
        | rt d ρ =>
          cases eg : zk 0 ρ with
          | none => simp only [eg] at h
          | some bs' =>
            simp only [eg] at h
            exact fun v σ' H' r' i' _ => by
              obtain ⟨xs', h1, h2, h3⟩ := fin r' eg
              exact h v H' xs' (kps r') (fun b hb => r'.dm b hb) h1 h2 h3 i'
        | bk ρ => exact h.elim
        | ct ρ => exact h.elim
    . rw [if_neg e] at h; exact h.elim
end
section
variable {X : Cx} {c : Fc} {a b e : Expr} {pos : Pos}
def qo (F : List D -> R D) (g : M (List D)) : M D := bnd g fun ds ρ => match F ds with
  | .ok d => .ok (d, ρ)
  | _ => .bad
theorem qij {k : Nat} {f : Addr} {fd : FuncData} {ps : List Str} {F : List D -> R D} {x : Str} {p : Pos} {es : List Expr} {g : M (List D)} (G : yg X.prog X.w X.K X.mg X.base CX0 k f fd ps (spD X.K F)) (hr : yA k X.A) (hg : Gl X x) (hm : X.mg x = some (.ref f)) (hk : PySem.W.keepIn X.K (.ref f) = true) (hb : yP X.K fd ps [])
    (ha : DA X c (e :: es) g) (hd : (x == ("__debug__" : Str)) = false := by decide) (he : starEach (e :: es) X.env = (false, eval e X.env) :: starEach es X.env := by rfl) (hpl : (backTo pos (starEach es X.env)).any (·.1) = false := by rfl) : DE X c (.Call (.Name x p) (e :: es) [] pos) (qo F g) := by
  obtain ⟨t, pa, w⟩ := ha
  refine ⟨_, vN G hr hg hm hk hb .nil qh2 pa hd he hpl, fun ρ σ H Q r h => w ρ σ H _ r (WpL.bnd h fun ds ρ1 vs H1 r1 i1 g1 h1 => ?_)⟩
  rw [List.append_nil]
  refine ⟨ds, Cn c σ, i1, fun _ _ => trivial, ?_⟩
  cases ef : F ds with
  | bad => simp only [ef] at h1; exact h1.elim
  | exc z ρ' => simp only [ef] at h1; exact h1.elim
  | ok d =>
    simp only [ef] at h1
    exact fun v H' sm i => h1 v H' (r1.same sm) (Is.ext Ext.refl (fun a ha _ => ha.elim id r1.new) i) (.of_same sm)
def qO (F : List D -> List D -> R (D × List D)) (i : Nat) (g : M (List D)) : M D := fun ρ => match zk i ρ with
  | none => .bad
  | some _ => (bnd g fun ds ρ => match zk i ρ with
    | none => .bad
    | some bs => match F bs ds with
      | .ok (d, bs') => .ok (d, ρ.set i (some (.lst bs')))
      | _ => .bad) ρ
theorem qeE {k i : Nat} {f : Addr} {fd : FuncData} {ps : List Str} {F : List D -> List D -> R (D × List D)} {x y : Str} {p p1 : Pos} {es : List Expr} {g : M (List D)} (G : yg X.prog X.w X.K X.mg X.base CX0 k f fd ps (qhd X.K F)) (hr : yA k X.A) (hg : Gl X x) (hm : X.mg x = some (.ref f)) (hk : PySem.W.keepIn X.K (.ref f) = true) (hb : yP X.K fd ps [])
    (ha : DA X c es g) (ho : i ∈ c.O := by exact of_decide_eq_true rfl) (hN : X.N[i]? = some y := by rfl) (hv : Vis X.env.scope y := by first | exact Or.inl rfl | exact Or.inr (Or.inl rfl) | exact Or.inr (Or.inr rfl)) (hdy : (y == ("__debug__" : Str)) = false := by decide) (hcd : (y == ("__classdict__" : Str)) = false := by decide)
    (hd : (x == ("__debug__" : Str)) = false := by decide) (he : starEach (.Name y p1 :: es) X.env = (false, eval (.Name y p1) X.env) :: starEach es X.env := by rfl) (hpl : (backTo pos (starEach es X.env)).any (·.1) = false := by rfl) : DE X c (.Call (.Name x p) (.Name y p1 :: es) [] pos) (qO F i g) := by
  obtain ⟨t, pa, w⟩ := ha
  refine ⟨_, vN G hr hg hm hk hb .nil qh2 (jj (uk hN hv hdy hcd) pa he) hd he hpl, fun ρ σ H Q r h => ?_⟩
  unfold qO at h
  cases e0 : zk i ρ with
  | none => simp only [e0] at h; exact h.elim
  | some ds0 =>
    simp only [e0] at h
    obtain ⟨l, xs0, _, hl, hH, _⟩ := r.getLO ho e0
    refine ⟨.ref l, hl, w ρ σ H _ r (WpL.bnd h fun ds ρ1 vs H1 r1 i1 g1 h1 => ?_)⟩
    show qhd X.K F (.ref l :: vs ++ []) H1 Q E0
    rw [List.append_nil]
    cases e1 : zk i ρ1 with
    | none => simp only [e1] at h1; exact h1.elim
    | some bs =>
      simp only [e1] at h1
      obtain ⟨l', xs, him, hl', hH', il⟩ := r1.getLO ho e1
      rw [hl] at hl'
      cases hl'
      refine ⟨bs, ds, Cn c σ, l, xs, vs, rfl, hH', him, il, fun hc => hc.2 i ho hl, i1, ?_⟩
      cases ef : F bs ds with
      | bad => simp only [ef] at h1; exact h1.elim
      | exc z ρ' => simp only [ef] at h1; exact h1.elim
      | ok q =>
        obtain ⟨d, bs'⟩ := q
        simp only [ef] at h1
        intro v H' xs' kp dm ha2 him2 il2 i2
        obtain ⟨r2, g2⟩ := r1.io (bs := bs') ho hl kp ha2 him2 (IsL.ext Ext.refl (fun a ha _ => ha.elim id r1.new) il2) dm
        exact h1 v H' r2 (Is.ext Ext.refl (fun a ha _ => ha.elim id r1.new) i2) g2
end
end L2.Sk
namespace L2.Sk
open PySem PySem.Spec PyProof.Rows
def qgg : Key -> PyData
  | .inl i => .int i
  | .inr x => .str x
mutual
def zP : D -> PyData
  | .non => .none
  | .bl b => .bool b
  | .int i => .int i
  | .str x => .str x
  | .tup ds => .tuple (toPDs ds)
  | .lst ds => .list (toPDs ds)
  | .dic kvs => .dict (kvs.map fun p => (qgg p.1, .int p.2))
  | .fz ns => .list (ns.map .int)
  | .exc _ => .dict [(.int (2 ^ 2000), .none)]
def toPDs : List D -> List PyData
  | [] => []
  | d :: ds => zP d :: toPDs ds
end
mutual
def noL : D -> Bool
  | .tup ds => noLs ds
  | .lst _ => false
  | .fz _ => false
  | _ => true
def noLs : List D -> Bool
  | [] => true
  | d :: ds => noL d && noLs ds
end
mutual
def noX : D -> Bool
  | .tup ds => noXs ds
  | .lst ds => noXs ds
  | .exc _ => false
  | _ => true
def noXs : List D -> Bool
  | [] => true
  | d :: ds => noX d && noXs ds
end
mutual
theorem qhe : ∀ {d : D}, (zP d).showable = true -> noX d = true
  | .non, _ => rfl
  | .bl _, _ => rfl
  | .int _, _ => rfl
  | .str _, _ => rfl
  | .tup ds, h => by unfold noX; exact noXs_sh (by simpa [zP, PyData.showable] using h)
  | .lst ds, h => by unfold noX; exact noXs_sh (by simpa [zP, PyData.showable] using h)
  | .dic _, _ => rfl
  | .fz _, _ => rfl
  | .exc _, h => by
    have e : (PyData.dict [(.int (2 ^ 2000), .none)]).showable = false := by decide +kernel
    rw [show zP (.exc _) = PyData.dict [(.int (2 ^ 2000), .none)] from rfl, e] at h
    cases h
theorem noXs_sh : ∀ {ds : List D}, PyData.showableAll (toPDs ds) = true -> noXs ds = true
  | [], _ => rfl
  | d :: ds, h => by
    have h' : (zP d).showable = true /\ PyData.showableAll (toPDs ds) = true := by simpa [toPDs, PyData.showableAll] using h
    unfold noXs
    rw [qhe h'.1, noXs_sh h'.2]; rfl
end
mutual
theorem qeF : ∀ {d : D}, (zP d).canLay0 = true -> noX d = true
  | .non, _ => rfl
  | .bl _, _ => rfl
  | .int _, _ => rfl
  | .str _, _ => rfl
  | .tup ds, h => by unfold noX; exact noXs_lay (by simpa [zP, PyData.canLay0] using h)
  | .lst ds, h => by unfold noX; exact noXs_lay (by simpa [zP, PyData.canLay0] using h)
  | .dic _, _ => rfl
  | .fz _, _ => rfl
  | .exc _, h => by simp [zP, PyData.canLay0] at h
theorem noXs_lay : ∀ {ds : List D}, PyData.canLayAll0 (toPDs ds) = true -> noXs ds = true
  | [], _ => rfl
  | d :: ds, h => by
    have h' : (zP d).canLay0 = true /\ PyData.canLayAll0 (toPDs ds) = true := by simpa [toPDs, PyData.canLayAll0] using h
    unfold noXs
    rw [qeF h'.1, noXs_lay h'.2]; rfl
end
theorem uT {h : Heap} : ∀ {ns : List Int} {us : List Value}, qQ (ns.map V.int) us -> ∃ as, ReadsAll h us (ns.map .int) as
  | [], us, r => by
    rw [List.map_nil] at r; cases r; exact ⟨[], .nil⟩
  | n :: ns, us, r => by
    rw [List.map_cons] at r
    cases r with
    | cons r1 r2 =>
      obtain ⟨t, e⟩ := r1
      subst e
      obtain ⟨as, q⟩ := uT (ns := ns) r2
      exact ⟨[] ++ as, .cons (.int n t) q⟩
theorem qb5 {α : Type} {x : α} {l l' : List α} (h1 : x ∉ l) (h2 : x ∉ l') : x ∉ l ++ l' := fun h => (List.mem_append.mp h).elim h1 h2
theorem v6 {P : Program} {w : World} {h : Heap} : ∀ {kvs : List (Key × Int)} {es : List DictEntry} {vs : List (Key × Value)}, KV (kvs.map fun p => (p.1, V.int p.2)) vs -> Pairs (qaf P w) es vs ->
    ReadsAll h (es.map (·.key)) ((kvs.map fun p => (qgg p.1, PyData.int p.2)).map (·.1)) [] /\ ReadsAll h (es.map (·.val)) ((kvs.map fun p => (qgg p.1, PyData.int p.2)).map (·.2)) []
  | [], es, vs, r, p => by
    have r' : KV ([] : List (Key × V)) vs := r
    unfold KV at r'
    cases r'
    cases p
    exact ⟨.nil, .nil⟩
  | (k, i) :: kvs, es, vs, r, p => by
    have r' : KV ((k, V.int i) :: kvs.map fun p => (p.1, V.int p.2)) vs := r
    unfold KV at r'
    cases r' with
    | cons r1 r2 =>
      cases p with
      | cons p1 p2 p3 =>
        obtain ⟨q1, q2⟩ := v6 (h := h) (kvs := kvs) r2 p3
        obtain ⟨e1, t, e2⟩ := r1
        have hk : ∀ {e : DictEntry} {kv : Key × Value}, k = kv.1 -> (qaf P w).is kv.1 e.key = true -> Reads h e.key (qgg k) [] := fun {e kv} hk hi => by
          subst hk
          rcases qV hi with ⟨i, t, e1, e2⟩ | ⟨x, t, e1, e2⟩
          . rw [e1, e2]; exact .int i t
          . rw [e1, e2]; exact .str x t
        refine ⟨.cons (as := []) (bs := []) (hk e1 p1) q1, .cons (as := []) (bs := []) ?_ q2⟩
        show Reads h _ (.int i) []
        dsimp only
        rw [p2, e2]
        exact .int i t
section
variable {X : Cx} {pins : List (Addr × Obj)} {σ : St} {H : Hp} {s : Shared} {A : Addr -> Prop}
mutual
theorem j4 (I : Inv X pins σ H s) : ∀ {d : D} {v : V} {u : Value}, noX d = true -> Is X.K A H d v -> ju v u -> ∃ as, Reads s.heap u (zP d) as /\ (noL d = true -> sysModules ∉ as)
  | .non, _, _, _, h, r => by cases h; cases r; exact ⟨[], .none, by simp⟩
  | .bl b, _, _, _, h, r => by cases h; cases r; exact ⟨[], .bool b, by simp⟩
  | .int i, _, _, _, h, r => by cases h; obtain ⟨t, rfl⟩ := r; exact ⟨[], .int i t, by simp⟩
  | .str x, _, _, _, h, r => by cases h; obtain ⟨t, rfl⟩ := r; exact ⟨[], .str x t, by simp⟩
  | .tup ds, _, _, nx, ⟨a, xs, hv, ta, il⟩, r => by
    subst hv
    cases r
    obtain ⟨its, rv, p, _⟩ := I.tuple ta.sq
    obtain ⟨o, h1, h2, n, h3⟩ := p
    obtain ⟨as, q, nl⟩ := readsL_of I (by simpa [noX] using nx) il rv
    exact ⟨as, .tuple h1 h2 h3 (by simpa using q), fun z => nl (by simpa [noL] using z)⟩
  | .lst ds, _, _, nx, ⟨a, xs, hv, _, ta, il⟩, r => by
    subst hv
    cases r
    obtain ⟨its, rv, p, _⟩ := I.list (SqL.of ta)
    obtain ⟨o, h1, h2, n, h3⟩ := p.isList
    obtain ⟨as, q, nl⟩ := readsL_of I (by simpa [noX] using nx) il rv
    exact ⟨a :: as, .list h1 h2 h3 (by simpa using q), fun z => by simp [noL] at z⟩
  | .dic kvs, _, _, _, ⟨a, hv, _, ta⟩, r => by
    subst hv
    cases r
    obtain ⟨hz, hS, vs, rk, o, es, ep, h1, h2, h3, h4, h5, h6⟩ := (show jM X.prog X.w H s.heap a (.dK _) from I.hok a _ ta)
    obtain ⟨q1, q2⟩ := v6 (h := s.heap) rk h5
    refine ⟨_, Reads.dict (as := []) (bs := []) h1 h2.1 h3 q1 q2, fun _ hm => ?_⟩
    have : sysModules = a := by simpa using hm
    rw [<- this] at hS
    simp at hS
  | .exc _, _, _, nx, _, _ => by simp [noX] at nx
  | .fz ns, _, _, _, ⟨a, hv, ta⟩, r => by
    subst hv
    cases r
    obtain ⟨its, rv, p, _⟩ := I.list ta.sq
    obtain ⟨o, h1, h2, n, h3⟩ := p.isList
    obtain ⟨as, q⟩ := uT rv
    exact ⟨a :: as, .list h1 h2 h3 (by simpa using q), fun z => by simp [noL] at z⟩
theorem readsL_of (I : Inv X pins σ H s) : ∀ {ds : List D} {xs : List V} {us : List Value}, noXs ds = true -> IsL X.K A H ds xs -> qQ xs us -> ∃ as, ReadsAll s.heap us (toPDs ds) as /\ (noLs ds = true -> sysModules ∉ as)
  | [], _, _, _, h, r => by cases h; cases r; exact ⟨[], .nil, by simp⟩
  | d :: ds, _, _, nx, ⟨x, ys, hx, h1, h2⟩, r => by
    subst hx
    cases r with
    | cons r1 r2 =>
      have nx' : noX d = true /\ noXs ds = true := by simpa [noXs] using nx
      obtain ⟨as, q1, n1⟩ := j4 I nx'.1 h1 r1
      obtain ⟨bs, q2, n2⟩ := readsL_of I nx'.2 h2 r2
      exact ⟨as ++ bs, .cons q1 q2, fun z => by
        have z' : noL d = true /\ noLs ds = true := by simpa [noLs] using z
        exact qb5 (n1 z'.1) (n2 z'.2)⟩
end
end
def wT (d : D) : Bool := (zP d).showable && decide ((zP d).shown.length <= sizeLine) && decide ((zP d).depth <= 50) && (!(zP d).hasDict || noL d)
def qkd (K : Fr0) : List V -> Hp -> VK -> Prop := fun xs H Q => ∃ v d A, xs = [v] /\ Is K A H d v /\ wT d = true /\ Q (.str (zP d).shown) H
section
variable {X : Cx}
theorem wU {k : Nat} (hr : yA k X.A) : jN X (.builtin "repr") (qkd X.K) := by
  intro pins s σ H xs us Q I r h
  obtain ⟨v, d, A, rfl, hi, ok, q⟩ := h
  obtain ⟨u, rfl, ru⟩ := qQ.one r
  unfold wT at ok
  simp only [Bool.and_eq_true, decide_eq_true_eq] at ok
  obtain ⟨⟨⟨o1, o2⟩, o3⟩, o4⟩ := ok
  obtain ⟨as, rd, nl⟩ := j4 I (qhe o1) hi ru
  have hun := hr.un
  have big : ∀ a, u = .ref a -> wpAny (model X.prog X.w) X.A (call (.builtin "repr") [u]) (EP X pins σ Q) X.xe s := fun a e => by
    subst e
    refine repr_of_reads' rd o1 (fun hd => nl ?_) hr.gd (by omega) (fun _ _ e => e) (fun h' u tk hk => ⟨.str _, H, I.kept hk, ⟨_, rfl⟩, q⟩) o2
    rw [hd] at o4
    simpa using o4
  cases d with
  | non => cases hi; cases ru; exact PySem.P.repr_of_none ⟨.str _, H, I.tok _, ⟨_, rfl⟩, q⟩
  | bl b => cases hi; cases ru; exact PySem.P.repr_of_bool ⟨.str _, H, I.tok _, ⟨s.toks, by cases b <;> rfl⟩, q⟩
  | int i =>
    cases hi; obtain ⟨t, rfl⟩ := ru
    exact PySem.P.repr_of_int (of_decide_eq_true o1) ⟨.str _, H, I.tok _, ⟨_, rfl⟩, q⟩
  | str x => cases hi; obtain ⟨t, rfl⟩ := ru; exact PySem.P.repr_of_str ⟨.str _, H, I.tok _, ⟨_, rfl⟩, q⟩ o2
  | tup ds => obtain ⟨a, zs, rfl, _⟩ := hi; exact big a ru
  | lst ds => obtain ⟨a, zs, rfl, _⟩ := hi; exact big a ru
  | dic kvs => obtain ⟨a, rfl, _⟩ := hi; exact big a ru
  | fz ns => obtain ⟨a, rfl, _⟩ := hi; exact big a ru
  | exc C => obtain ⟨a, rfl, _⟩ := hi; exact big a ru
end
def vy : List D -> Option D
  | [d] => if wT d then some (.str (zP d).shown) else none
  | _ => none
theorem wV {K : Fr0} : vx K vy (qkd K) := by
  intro A H xs d vs Q hn h e k
  unfold vy at e
  split at e
  . rename_i d0
    obtain ⟨v, rfl, e2⟩ := IsL.inv1 h
    obtain ⟨e6, e7⟩ := zO e
    subst e7
    exact ⟨v, d0, A, rfl, e2, e6, k _ H (z8.refl H) rfl⟩
  . cases e
def qbk (d : D) : Bool := (zP d).canLay0 && decide ((zP d).depth <= 50)
def qfM (K : Fr0) (neg : Bool) : R2 := fun x y H Q => ∃ d e A, Is K A H d x /\ Is K A H e y /\ qbk d = true /\ qbk e = true /\ Q (.bl (if neg then !PyData.eqv (zP d) (zP e) else PyData.eqv (zP d) (zP e))) H
section
variable {X : Cx}
theorem vb {d : D} (h : qbk d = true) : SeqAt.shaped (zP d) = true := by
  unfold qbk at h
  unfold SeqAt.shaped
  simp only [Bool.and_eq_true, decide_eq_true_eq] at h |-
  exact ⟨h.1, by omega⟩
theorem wW {d : D} (h : qbk d = true) : noX d = true := by
  unfold qbk at h
  rw [Bool.and_eq_true] at h
  exact qeF h.1
theorem qke {k : Nat} (hr : yA k X.A) : OpR X (compareOp .Eq) (qfM X.K false) := by
  intro pins s σ H x y v u Q I rx ry h
  obtain ⟨d, e, A, h1, h2, o1, o2, q⟩ := h
  obtain ⟨as, r1, _⟩ := j4 I (wW o1) h1 rx
  obtain ⟨bs, r2, _⟩ := j4 I (wW o2) h2 ry
  exact SeqAt.compareEq_shaped r1 r2 (vb o1) (vb o2) hr.units ⟨.bl _, H, I, rfl, by simpa using q⟩
theorem qkf {k : Nat} (hr : yA k X.A) : OpR X (compareOp .NotEq) (qfM X.K true) := by
  intro pins s σ H x y v u Q I rx ry h
  obtain ⟨d, e, A, h1, h2, o1, o2, q⟩ := h
  obtain ⟨as, r1, _⟩ := j4 I (wW o1) h1 rx
  obtain ⟨bs, r2, _⟩ := j4 I (wW o2) h2 ry
  exact SeqAt.compareNe_shaped r1 r2 (vb o1) (vb o2) hr.units ⟨.bl _, H, I, rfl, by simpa using q⟩
end
def eqA (x y : D) : Option D := if qbk x && qbk y then some (.bl (PyData.eqv (zP x) (zP y))) else none
def neA (x y : D) : Option D := if qbk x && qbk y then some (.bl (!PyData.eqv (zP x) (zP y))) else none
theorem qik {K : Fr0} : OpS K eqA (qfM K false) := by
  intro A H x y d v u Q hn ix iy e k
  obtain ⟨e1, e2⟩ := zO e
  rw [Bool.and_eq_true] at e1
  subst e2
  exact ⟨x, y, A, ix, iy, e1.1, e1.2, k _ H (z8.refl H) rfl⟩
theorem qil {K : Fr0} : OpS K neA (qfM K true) := by
  intro A H x y d v u Q hn ix iy e k
  obtain ⟨e1, e2⟩ := zO e
  rw [Bool.and_eq_true] at e1
  subst e2
  exact ⟨x, y, A, ix, iy, e1.1, e1.2, k _ H (z8.refl H) rfl⟩
section
variable {X : Cx} {c : Fc} {a b e : Expr} {pos : Pos}
def qmg (i : Nat) (g : M D) : M D := fun ρ => match zk i ρ with
  | none => .bad
  | some _ => (bnd g fun y ρ => match zk i ρ with
    | none => .bad
    | some ds => lift (neA (.lst ds) y) ρ) ρ
end
end L2.Sk
namespace L2.Sk
open PySem PySem.Spec PyProof.Rows
section
variable {prog : Program} {w : World} {A : Around} {E : Value -> Shared -> Prop} {s : Shared}
theorem qim {it tu : Addr} {k : Nat} {arr : Array Value} {x : Value} {Q : Value -> Shared -> Prop} (hI : s.heap.IsTupleIter it tu k) (hT : s.heap.IsTuple tu arr) (hx : arr[k]? = some x)
    (q : ∀ h', h'.IsTupleIter it tu (k + 1) -> Heap.SameBut it s.heap h' -> Q x { s with heap := h' }) : wpAny (model prog w) A (Builtin.SmallTypes.nextOf (.ref it)) Q E s := by
  obtain ⟨ob, e1, e2, e3⟩ := id hI
  obtain ⟨ot, f1, _, m, f2⟩ := hT
  unfold Builtin.SmallTypes.nextOf
  refine wpAny_bind (wpAny_callSpecial?_slot (name := Str.ofString "__next__") hI.typeIs F.slot_tuple_iterator_next (wpAny_call_entry F.slot_tuple_iterator_next hI.typeIs F.entry_tuple_iterator_next ?_ (F.args_tuple_iterator_next_1 _)))
  show wpAny (model prog w) _ (field (Value.ref it) 0 >>= _) _ _ s
  refine wpAny_bind (wpAny_field e1 e3 (x := Value.ref tu) rfl ?_)
  show wpAny (model prog w) _ (if (Value.ref tu == Value.none) = true then _ else _) _ _ s
  rw [if_neg (show ¬ ((Value.ref tu == Value.none) = true) from Bool.false_ne_true)]
  show wpAny (model prog w) _ (field (Value.ref it) 1 >>= _) _ _ s
  refine wpAny_bind (wpAny_field e1 e3 (x := Value.int k 0) rfl ?_)
  show wpAny (model prog w) _ (seqItems? (Value.ref tu) >>= _) _ _ s
  refine wpAny_bind (wpAny_seqItems f1 f2 ?_)
  simp only [Int.toNat_natCast, hx]
  refine wpAny_bind (wpAny_setField e1 e3 (by simp) (wpAny_pure ⟨x, rfl, wpAny_pure (q _ ?_ (Heap.SameBut.update ..))⟩))
  exact ⟨_, Heap.get?_update_self _ e1 (Obj.isFreed_of_fields (Obj.data_mapFields e3 _)), (Obj.cls_mapFields ..).trans e2, by rw [Obj.data_mapFields e3]; simp [rawInt]⟩
theorem qin {it tu : Addr} {k : Nat} {arr : Array Value} {Q : Value -> Shared -> Prop} (hh : A.handled = none) (hI : s.heap.IsTupleIter it tu k) (hT : s.heap.IsTuple tu arr) (hx : arr[k]? = none)
    (q : ∀ h' e, Heap.ExtBut it s.heap h' -> (∃ o, h'.get? e = some o /\ o.cls = .type "StopIteration") -> E (.ref e) { s with heap := h' }) : wpAny (model prog w) A (Builtin.SmallTypes.nextOf (.ref it)) Q E s := by
  obtain ⟨ob, e1, e2, e3⟩ := id hI
  obtain ⟨ot, f1, _, m, f2⟩ := hT
  unfold Builtin.SmallTypes.nextOf
  refine wpAny_bind (wpAny_callSpecial?_slot (name := Str.ofString "__next__") hI.typeIs F.slot_tuple_iterator_next (wpAny_call_entry F.slot_tuple_iterator_next hI.typeIs F.entry_tuple_iterator_next ?_ (F.args_tuple_iterator_next_1 _)))
  show wpAny (model prog w) _ (field (Value.ref it) 0 >>= _) _ _ s
  refine wpAny_bind (wpAny_field e1 e3 (x := Value.ref tu) rfl ?_)
  show wpAny (model prog w) _ (if (Value.ref tu == Value.none) = true then _ else _) _ _ s
  rw [if_neg (show ¬ ((Value.ref tu == Value.none) = true) from Bool.false_ne_true)]
  show wpAny (model prog w) _ (field (Value.ref it) 1 >>= _) _ _ s
  refine wpAny_bind (wpAny_field e1 e3 (x := Value.int k 0) rfl ?_)
  show wpAny (model prog w) _ (seqItems? (Value.ref tu) >>= _) _ _ s
  refine wpAny_bind (wpAny_seqItems f1 f2 ?_)
  simp only [Int.toNat_natCast, hx]
  refine wpAny_bind (wpAny_rule (wpAny_bind (wpAny_setField e1 e3 (by simp) ?_)))
  show wpAny (model prog w) _ (newExc (Value.type "StopIteration") [] >>= _) _ _ _
  refine wpAny_bind ?_
  simp only [newExc, newTuple]
  refine wpAny_bind (wpAny_newObj_type ?_ (by size_fits))
  refine wpAny_bind (m := firstArgMember _ _) (wpAny_of_eq (a := Value.none) (by first | rfl | (simp only [firstArgMember]; rfl)) ?_)
  refine wpAny_newObj_type ?_ (by size_fits)
  simp only [raiseNew]
  refine wpAny_bind (wpAny_handled ?_)
  first | rw [show A.in1.handled = none from hh] | rw [hh]
  exact wpAny_bind (wpAny_pure (wpAny_throw (q _ _ (((Heap.SameBut.update ..).extBut.push _).push _) ⟨_, Heap.get?_push_size _ rfl, rfl⟩)))
end
theorem qcE {prog : Program} {w : World} {A : Around} (hh : A.handled = none) (it tu : Addr) (hne : tu ≠ it) (arr : Array Value) :
    Draws prog w A it [it, tu] arr.size (fun i x => arr[i]? = some x) (fun i h => h.IsTupleIter it tu i /\ h.IsTuple tu arr) where
  live := fun i h st => by obtain ⟨⟨o, e, _⟩, _⟩ := st; exact ⟨o, e⟩
  frame := fun i h h' st k => by
    obtain ⟨h1, o, e, r⟩ := st
    exact ⟨h1.at fun o q => k it (by simp) o q, o, k tu (by simp) o e, r⟩
  item := fun i s Q E hi st q => qim st.1 st.2 (Array.getElem?_eq_getElem hi) fun h' h1 sb => q _ h' s.toks (Array.getElem?_eq_getElem hi) ⟨h1, by
    obtain ⟨o, e, r⟩ := st.2
    exact ⟨o, sb.extBut _ _ hne e, r⟩⟩ sb
  done := fun s Q E st q => qin hh st.1 st.2 (Array.getElem?_eq_none (Nat.le_refl _)) q
section
variable {prog : Program} {w : World} {A : Around} {E : Value -> Shared -> Prop} {s : Shared} {z TI TO i1 i2 : Addr} {fp1 fp2 : List Addr} {n1 n2 k : Nat} {P1 P2 : Nat -> Value -> Prop} {S1 S2 : Nat -> Heap -> Prop}
end
section
variable {X : Cx} {pins : List (Addr × Obj)} {σ : St} {H : Hp} {s : Shared} {h' : Heap}
theorem qio {ch : List Addr} {T : Addr} {o : HO} {t' : Nat} (I : Inv X pins σ H s) (k : ∀ b u, b ∉ ch -> s.heap.get? b = some u -> h'.get? b = some u) (hf : ∀ b ∈ ch, qag X pins H b) (hT : s.heap.objs.size <= T) (new : jM X.prog X.w (upd H T o) h' T o) :
    Inv X pins σ (upd H T o) { s with heap := h', toks := t' } := by
  have hn : H T = none := I.hok.fresh hT
  have nch : ∀ b u, H b = some u -> b ∉ ch := fun b u e z => by rw [(hf b z).1] at e; cases e
  refine I.step (g' := s.gens) (d' := s.drawn) (ch := ch) (fun b hb => ⟨(hf b hb).2.2.2.1, (hf b hb).2.1, (hf b hb).2.2.2.2.1, (hf b hb).2.2.2.2.2⟩) (fun b u _ _ hc e _ => k b u hc e) (fun b u _ _ hc e _ => ⟨u.slots, k b u hc e⟩) (fun b u hc e n => ?_)
    (fun b u hc e => ⟨u, k b u hc e⟩) (fun b xs e => by rw [qm (qG e hn)]; exact e) (fun b u xs e => by rw [qm (qG e hn)]; exact e) (fun b ps e => ⟨#[], by rw [qm (qG e hn), e]; simp⟩) (fun m hm => ?_) (fun b u e => ?_) I.bare
  . rw [qm (Nat.ne_of_lt (Nat.lt_of_lt_of_le (Heap.lt_size e) hT))]; exact n
  . obtain ⟨ob, es, ep, ho, r⟩ := hm
    exact ⟨ob, es, ep, k _ ob (fun z => (hf _ z).2.1 rfl) ho, r⟩
  . by_cases hb : b = T
    . subst hb; rw [qr] at e; cases e; exact new
    . rw [qm hb] at e
      refine (I.hok b u e).stay (fun c v hc q => k c v ?_ q) (fun c q => by rw [qm (qG q hn)]; exact q) fun c xs q => by rw [qm (qG q hn)]; exact q
      rcases hc with z | z
      . rw [z]; exact nch b u e
      . exact nch c _ z
theorem qip {ch : List Addr} {t' : Nat} (I : Inv X pins σ H s) (k : ∀ b u, b ∉ ch -> s.heap.get? b = some u -> h'.get? b = some u) (hf : ∀ b ∈ ch, qag X pins H b) : Inv X pins σ H { s with heap := h', toks := t' } := by
  have nch : ∀ b u, H b = some u -> b ∉ ch := fun b u e z => by rw [(hf b z).1] at e; cases e
  refine I.step (g' := s.gens) (d' := s.drawn) (ch := ch) (fun b hb => ⟨(hf b hb).2.2.2.1, (hf b hb).2.1, (hf b hb).2.2.2.2.1, (hf b hb).2.2.2.2.2⟩) (fun b u _ _ hc e _ => k b u hc e) (fun b u _ _ hc e _ => ⟨u.slots, k b u hc e⟩) (fun b u hc e n => n)
    (fun b u hc e => ⟨u, k b u hc e⟩) (fun b xs e => e) (fun b u xs e => e) (fun b ps e => ⟨#[], by rw [e]; simp⟩) (fun m hm => ?_) (fun b u e => ?_) I.bare
  . obtain ⟨ob, es, ep, ho, r⟩ := hm
    exact ⟨ob, es, ep, k _ ob (fun z => (hf _ z).2.1 rfl) ho, r⟩
  . refine (I.hok b u e).stay (fun c v hc q => k c v ?_ q) (fun c q => q) fun c xs q => q
    rcases hc with z | z
    . rw [z]; exact nch b u e
    . exact nch c _ z
end
section
variable {X : Cx} {c : Fc} {a b e : Expr} {pos : Pos} {es : List Expr} {kk : Nat} {tp : Pos}
def qmh : List D -> List D -> List D
  | x :: xs, y :: ys => .tup [x, y] :: qmh xs ys
  | _, _ => []
def qlM : List D -> Option (List D)
  | [.tup xs, .tup ys] => some (qmh xs ys)
  | _ => none
def qmi (f : M (List D)) : M (List D) := bnd f fun ds => lift (qlM ds)
end
end L2.Sk
namespace L2.Sk
open PySem PySem.Spec PyProof.Rows
theorem qap : fillsNumberSlot (.type "tuple") "mul" = pure false := by
  first | kernel_rfl | (unfold fillsNumberSlot; kernel_rfl) | decide +kernel
theorem qdA : seqRepeat? (.type "tuple") = pure (some (.builtin "tuple.__mul__")) := by
  first | kernel_rfl | (unfold seqRepeat?; kernel_rfl) | decide +kernel
theorem qbl (a : Int) (t : Tok) (l : Addr) (dd : Option Addr) (items : Array Value) (n : Nat) (sl : Array (Option Value)) :
    Meets (Builtin.«int.__rmul__» ⟨[.int a t, .ref l], []⟩) (fun _ R s => s.heap.get? l = some { cls := .type "tuple", dict := dd, data := .seq items n, slots := sl } /\ R (.ok (.ret .notImplemented)) s) :=
  .of_wp fun prog w A R s h => by
    obtain ⟨hp, g, d, tk, os⟩ := s
    obtain ⟨hl, h⟩ := h
    wp_walk using wpAny_loadPart' hl
    exact ⟨_, rfl, h⟩
theorem qkg (l : Addr) (dd : Option Addr) (items : Array Value) (n : Nat) (sl : Array (Option Value)) (k : Int) (t : Tok) (h0 : ¬ items.isEmpty = true) (h1 : ¬ (k == 1) = true) (h2 : ¬ k <= 0) (h3 : ¬ (decide (k < -(2 ^ 63)) || decide (k >= 2 ^ 63)) = true)
    (h4 : ¬ (items.size : Int) * k > (2 ^ 63 - 1) / 8) (h5 : ¬ Builtin.Tuple.tupleTooMany ((items.size : Int) * k) = true) (h6 : ((List.replicate k.toNat items).foldl (· ++ ·) #[]).size <= sizeLine) :
    Meets (Builtin.«tuple.__mul__» ⟨[.ref l, .int k t], []⟩) (fun _ R s => s.heap.get? l = some { cls := .type "tuple", dict := dd, data := .seq items n, slots := sl } /\
      R (.ok (.ret (.ref s.heap.objs.size))) { s with heap := s.heap.push { cls := .type "tuple", data := .seq ((List.replicate k.toNat items).foldl (· ++ ·) #[]) } }) :=
  .of_wp fun prog w A R s h => by
    obtain ⟨hp, g, d, tk, os⟩ := s
    obtain ⟨hl, h⟩ := h
    have f1 := AutoSeq1.idx_int
    have f2 := AutoSeq1.sub_tuple_tuple
    have h01 : ¬ (items.isEmpty || k == 1) = true := by simp only [Bool.or_eq_true, not_or]; exact ⟨h0, h1⟩
    have h02 : ¬ (decide (k <= 0) || items.isEmpty) = true := by simp only [Bool.or_eq_true, decide_eq_true_eq, not_or]; exact ⟨h2, h0⟩
    wp_walk using wpAny_loadPart' hl
    rw [if_neg h3]
    wp_walk using wpAny_loadPart' hl
    rw [if_neg h4]
    wp_walk using wpAny_loadPart' hl
    exact ⟨_, rfl, h⟩
section
variable {X : Cx}
def qkh (K : Fr0) : R2 := fun x y H Q => ∃ a xs k, x = .ref a /\ y = .int k /\ SqT K H a xs /\ xs ≠ [] /\ 2 <= k /\ xs.length * k.toNat <= sizeLine /\ ∀ p, H p = none -> Q (.ref p) (upd H p (.tup (List.replicate k.toNat xs).flatten))
theorem qiq : OpR X (binaryOp .Mult) (qkh X.K) := by
  intro pins s σ H x y v u Q I rx ry h
  obtain ⟨a, xs, k, rfl, rfl, hx, hne, hk, hz, q⟩ := h
  cases rx
  obtain ⟨t, rfl⟩ := ry
  obtain ⟨its, r, p1, _⟩ := I.tuple hx
  obtain ⟨⟨cls, dd, data, sl⟩, ho, hc, n, hd⟩ := id p1
  simp only at hc hd
  subst hc hd
  have hl := r.length
  have hnew : List.foldl (fun x1 x2 => x1 ++ x2) #[] (List.replicate k.toNat its.toArray) = (List.replicate k.toNat its).flatten.toArray := by
    have := vQ its k.toNat []
    rw [List.nil_append] at this
    exact this
  have hlen : (List.replicate k.toNat its).flatten.length = k.toNat * its.length := qb1 its k.toNat
  have hsl : (sizeLine : Nat) = 16777216 := sizeLine_eq
  have e0 : ¬ its.toArray.isEmpty = true := by
    intro e
    have : its = [] := by simpa using e
    rw [this] at hl
    exact hne (List.length_eq_zero_iff.mp hl)
  have pos1 : 1 <= its.length := by
    cases its with
    | nil => simp at e0
    | cons z zs => simp
  have kk : ((k.toNat : Nat) : Int) = k := Int.toNat_of_nonneg (by omega)
  have mm : (its.toArray.size : Int) * k = ((its.length * k.toNat : Nat) : Int) := by rw [List.size_toArray, Int.natCast_mul, kk]
  have zz : its.length * k.toNat <= sizeLine := by rw [<- hl]; exact hz
  have kle : k.toNat <= its.length * k.toNat := Nat.le_mul_of_pos_left _ pos1
  have T1 : s.TypeIs (.ref a) "tuple" := ⟨_, ho, rfl⟩
  refine wpAny_binaryOp_repeat_ref (T := "tuple") (U := "int") (by decide) T1 (fun s' => typeIs_int s' k t) qap F.fills_int_mul F.slot_int_rmul qdA F.slot_int_index.lookup
    (call_meets F.slot_int_rmul (typeIs_int s k t) F.entry_int_rmul (F.args_int_rmul_2 _ _) (qbl k t a dd its.toArray n sl)
      ⟨ho, rfl, T1, call_meets F.slot_tuple_mul T1 F.entry_tuple_mul (F.args_tuple_mul_2 _ _) (qkg a dd its.toArray n sl k t e0 (by simp; omega) (by omega) (by simp; omega) (by rw [mm]; omega) ?_ (by rw [hnew, List.size_toArray, hlen, Nat.mul_comm]; exact zz)) ⟨ho, ?_⟩⟩)
  . rw [mm]
    show ¬ decide (((its.length * k.toNat : Nat) : Int) > (sizeLine : Int)) = true
    rw [decide_eq_true_eq]
    omega
  . rw [hnew]
    refine ⟨.ref s.heap.objs.size, _, I.laid (t' := s.toks) (o := .tup (List.replicate k.toNat xs).flatten) (fun b ob q => Heap.get?_push_of_some _ q) (Nat.le_refl _) ?_, rfl, q _ (I.hok.fresh (Nat.le_refl _))⟩
    exact ⟨by rw [qb1, Nat.mul_comm]; exact hz, _, r.rep k.toNat, IsTup.new _ _⟩
def qki (K : Fr0) : R2 := fun x y H Q => (rI qjE (fun i j => .int (i * j))) x y H Q \/ (qkh K x y H Q \/ qmd x y H Q)
theorem ja : OpR X (binaryOp .Mult) (qki X.K) := OpR.or qjH (OpR.or qiq qjW)
end
def jv : D -> D -> Option D
  | .int i, .int j => if qew i j then some (.int (i * j)) else none
  | .tup ds, .int k => if (!ds.isEmpty && decide (2 <= k)) && qD (ds.length * k.toNat) then some (.tup (List.replicate k.toNat ds).flatten) else none
  | .lst ds, .int k => if (decide (-(2 ^ 62) <= k) && decide (k < 2 ^ 62)) && qD (ds.length * k.toNat) then some (.lst (List.replicate k.toNat ds).flatten) else none
  | _, _ => none
theorem IsL.rep {K : Fr0} {A : Addr -> Prop} {H : Hp} {ds : List D} {xs : List V} (h : IsL K A H ds xs) : ∀ k : Nat, IsL K A H (List.replicate k ds).flatten (List.replicate k xs).flatten
  | 0 => by simp [IsL]
  | k + 1 => by
    rw [List.replicate_succ, List.replicate_succ, List.flatten_cons, List.flatten_cons]
    exact IsL.append h (IsL.rep h k)
theorem zt {K : Fr0} : OpS K jv (qki K) := by
  intro A H x y d v u Q hn ix iy e k
  cases x <;> cases y <;> simp only [jv] at e <;> try (cases e; done)
  . rename_i i j
    obtain ⟨e1, e2⟩ := zO e
    subst e2
    cases ix; cases iy
    exact .inl ⟨i, j, rfl, rfl, qf1 e1, k _ H (z8.refl H) rfl⟩
  . rename_i ds j
    obtain ⟨a, xs, rfl, ta, il⟩ := ix
    cases iy
    obtain ⟨e1, e2⟩ := zO e
    subst e2
    rw [Bool.and_eq_true, Bool.and_eq_true] at e1
    obtain ⟨⟨e3, e4⟩, e5⟩ := e1
    refine .inr (.inl ⟨a, xs, j, rfl, rfl, ta.sq, fun z => ?_, of_decide_eq_true e4, by rw [il.length]; exact of_decide_eq_true e5, fun p hp => k _ _ (qy hp _) ⟨p, _, rfl, .inl qr, IsL.ext (Ext.of_same (qy hp _)) (fun _ h _ => h) (IsL.rep il _)⟩⟩)
    have := il.length
    rw [z] at this
    have : ds = [] := List.length_eq_zero_iff.mp this.symm
    rw [this] at e3
    simp at e3
  . rename_i ds j
    obtain ⟨a, xs, rfl, _, ta, il⟩ := ix
    cases iy
    obtain ⟨e1, e2⟩ := zO e
    subst e2
    rw [Bool.and_eq_true, Bool.and_eq_true] at e1
    obtain ⟨⟨e3, e4⟩, e5⟩ := e1
    have e3' := of_decide_eq_true e3
    have e4' := of_decide_eq_true e4
    refine .inr (.inr ⟨a, j, xs, rfl, rfl, ta, by omega, by omega, by rw [il.length]; exact of_decide_eq_true e5, fun p hp => k _ _ (qy hp _) ⟨p, _, rfl, hn p hp, qr, IsL.ext (Ext.of_same (qy hp _)) (fun _ h _ => h) (IsL.rep il _)⟩⟩)
def qnf : D -> Option D
  | .int i => some (.int (-i))
  | _ => none
def d1 (F : D -> Option D) (f : M D) : M D := bnd f fun x => lift (F x)
section
variable {X : Cx} {c : Fc} {a b e : Expr} {pos : Pos}
def qjh (i j : Nat) (f : M (List D)) : MS := sbnd f fun ds ρ => match ds with
  | [d, e] => .ok (.nx ((ρ.set i (some d)).set j (some e)))
  | _ => .bad
theorem qkj {i j : Nat} {x y : Str} {f : M (List D)} {px py pt : Pos} {kt k2 pt2} (hN : X.N.Nodup) (ha : DA X c [a, b] f) (hw : swappedStores [.Tuple [.Name x px, .Name y py] kt pt] (.Tuple [a, b] k2 pt2) X.env = pure (some [x, y])) (hc : X.calm = true := by rfl) (hi : X.N[i]? = some x := by rfl) (hj : X.N[j]? = some y := by rfl) (hij : i ≠ j := by decide)
    (hx : X.env.scope.names.lookup x = some .local := by rfl) (hy : X.env.scope.names.lookup y = some .local := by rfl) (ho : i ∉ c.O := by exact of_decide_eq_false rfl) (hp : j ∉ c.O := by exact of_decide_eq_false rfl)
    (hs : swapsWithSole [.Tuple [.Name x px, .Name y py] kt pt] (.Tuple [a, b] k2 pt2) pos.line X.env = pure false := by rfl) :
    DS X c (.Assign [.Tuple [.Name x px, .Name y py] kt pt] (.Tuple [a, b] k2 pt2) pos) (qjh i j f) := by
  obtain ⟨t, p, w⟩ := ha
  refine ⟨_, qjz hc hN hi hj hij hx hy p hw hs, fun ρ σ H D r h => w ρ σ H _ r (WpL.sbnd h fun ds ρ1 vs H1 r1 i1 g1 h1 => ?_)⟩
  match ds, i1, h1 with
  | [], _, h1 => exact h1.elim
  | [_], _, h1 => exact h1.elim
  | [d, e], i1, h1 =>
    obtain ⟨v, u, rfl, j1, j2⟩ := IsL.inv2 i1
    refine ⟨v, u, rfl, h1 _ H1 ((r1.set ho j1).set hp ?_) ((GrS.set ho).trans (GrS.set hp))⟩
    exact (GrS.set (H := H1) ho).is j2
  | _ :: _ :: _ :: _, _, h1 => exact h1.elim
mutual
def immF : D -> Bool
  | .tup ds => immFs ds
  | .lst _ => false
  | .dic _ => false
  | _ => true
def immFs : List D -> Bool
  | [] => true
  | d :: ds => immF d && immFs ds
end
mutual
theorem Is.immF {K : Fr0} {A B : Addr -> Prop} {H : Hp} : ∀ {d : D} {v : V}, immF d = true -> Is K A H d v -> Is K B H d v
  | .non, _, _, h => h
  | .bl _, _, _, h => h
  | .int _, _, _, h => h
  | .str _, _, _, h => h
  | .tup ds, _, i, ⟨a, xs, hv, h, r⟩ => ⟨a, xs, hv, h, IsL.immF (by simpa [Sk.immF] using i) r⟩
  | .lst _, _, i, _ => by simp [Sk.immF] at i
  | .dic _, _, i, _ => by simp [Sk.immF] at i
  | .fz _, _, _, h => h
  | .exc _, _, _, h => h
theorem IsL.immF {K : Fr0} {A B : Addr -> Prop} {H : Hp} : ∀ {ds : List D} {xs : List V}, immFs ds = true -> IsL K A H ds xs -> IsL K B H ds xs
  | [], _, _, h => h
  | d :: ds, _, i, ⟨x, ys, hx, h, r⟩ => by
    have i' : Sk.immF d = true /\ immFs ds = true := by simpa [immFs] using i
    exact ⟨x, ys, hx, Is.immF i'.1 h, IsL.immF i'.2 r⟩
end
def qbm (F : List D -> R D) (g : M (List D)) : M (List D) := bnd g fun ds ρ => if immFs ds then match F ds with
  | .ok (.lst bs) => if immL bs then .ok (bs, ρ) else .bad
  | _ => .bad else .bad
theorem qir {k : Nat} {f : Addr} {fd : FuncData} {ps : List Str} {F : List D -> R D} {x : Str} {p : Pos} {es : List Expr} {g : M (List D)} (G : yg X.prog X.w X.K X.mg X.base CX0 k f fd ps (spD X.K F)) (hr : yA k X.A) (hg : Gl X x) (hm : X.mg x = some (.ref f)) (hk : PySem.W.keepIn X.K (.ref f) = true) (hb : yP X.K fd ps [])
    (ha : DA X c (e :: es) g) (hd : (x == ("__debug__" : Str)) = false := by decide) (he : starEach (e :: es) X.env = (false, eval e X.env) :: starEach es X.env := by rfl) (hpl : (backTo pos (starEach es X.env)).any (·.1) = false := by rfl) : DN X c (.Call (.Name x p) (e :: es) [] pos) (qbm F g) := by
  obtain ⟨t, pa, w⟩ := ha
  refine ⟨_, vN G hr hg hm hk hb .nil qh2 pa hd he hpl, fun ρ σ H Q r h => w ρ σ H _ r (WpL.bndN h fun ds ρ1 vs H1 r1 i1 g1 h1 => ?_)⟩
  rw [List.append_nil]
  by_cases him : immFs ds = true
  . rw [if_pos him] at h1
    refine ⟨ds, fun _ => False, IsL.immF him i1, fun _ _ => trivial, ?_⟩
    cases ef : F ds with
    | bad => simp only [ef] at h1; exact h1.elim
    | exc z ρ' => simp only [ef] at h1; exact h1.elim
    | ok d =>
      cases d with
      | lst bs =>
        simp only [ef] at h1
        by_cases hb2 : immL bs = true
        . rw [if_pos hb2] at h1
          intro v H' sm i
          obtain ⟨a, xs, rfl, hA, ha2, il⟩ := i
          have hn : H1 a = none := hA.elim False.elim id
          exact h1 a xs H' hn (r1.same sm) (r1.apart_same hn sm) ha2 trivial (IsL.imm hb2 il) (.of_same sm)
        . rw [if_neg hb2] at h1; exact h1.elim
      | _ => simp only [ef] at h1; exact h1.elim
  . rw [if_neg him] at h1; exact h1.elim
end
structure qis (outer : Scope) (N : List Str) (scope : Scope) (N' : List Str) (nt : Nat) (fr : List Nat) : Prop where
  kind : scope.kind = .function
  nocell : ∀ y ∈ scope.names, y.2 ≠ .cell
  names : ∀ y ∈ scope.names, y.2 = .local -> scope.names.lookup y.1 = some .local
  frees : ∀ y ∈ scope.names, y.2 = .free -> outer.names.lookup y.1 = some .cell
  len : N'.length = nt + fr.length
  slots : ∀ p ∈ fr.zipIdx, N'[nt + p.2]? = N[p.1]? /\ ((N[p.1]?).bind fun x => scope.names.lookup x) = some .free
theorem qis.ok {X : Cx} {outer : Scope} {N : List Str} {scope : Scope} {N' : List Str} {nt : Nat} {fr : List Nat} (S : qis outer N scope N' nt fr) (h1 : X.env.scope = outer) (h2 : X.N = N) : zR X scope N' nt fr := by
  subst h1 h2
  refine ⟨S.kind, S.nocell, S.names, S.frees, S.len, fun i j h => ?_⟩
  have hm : (j, i) ∈ fr.zipIdx := by
    rw [List.mem_iff_getElem?]
    refine ⟨i, ?_⟩
    rw [List.getElem?_zipIdx, h]
    simp
  obtain ⟨h3, h4⟩ := S.slots (j, i) hm
  cases e : X.N[j]? with
  | none =>
    have h4' : ((X.N[j]?).bind fun x => scope.names.lookup x) = some .free := h4
    rw [e] at h4'; cases h4'
  | some x =>
    have h4' : ((X.N[j]?).bind fun x => scope.names.lookup x) = some .free := h4
    rw [e] at h4'
    exact ⟨x, by have h3' : N'[nt + i]? = X.N[j]? := h3
                 rw [h3', e], rfl, h4'⟩
structure jb (P : Program) (w : World) (K : PySem.W.Frag) (mg : Str -> Option Value) (base : Heap) (k : Nat) (x : Str) (ps : List Str) (sp : Sp) : Prop where
  ex : ∃ f fd, yg P w K mg base CX0 k f fd ps sp /\ mg x = some (.ref f) /\ PySem.W.keepIn K (.ref f) = true /\ yP K fd ps []
end L2.Sk
namespace L2.Sk
open PySem PySem.Spec PyProof.Rows
theorem qcF : bootBuiltins "len" = some (.builtin "len") := by decide +kernel
theorem qeG : bootBuiltins "max" = some (.builtin "max") := by decide +kernel
theorem qbn : bootBuiltins "min" = some (.builtin "min") := by decide +kernel
theorem qkk : bootBuiltins "all" = some (.builtin "all") := by decide +kernel
theorem qeH : bootBuiltins "divmod" = some (.builtin "divmod") := by decide +kernel
theorem qeI : bootBuiltins "repr" = some (.builtin "repr") := by decide +kernel
theorem qkl : bootBuiltins "int" = some (.type "int") := by decide +kernel
theorem qit : bootBuiltins "bool" = some (.type "bool") := by decide +kernel
theorem vH : bootBuiltins "tuple" = some (.type "tuple") := by decide +kernel
theorem qs : bootBuiltins "isinstance" = some (.builtin "isinstance") := by decide +kernel
def vz : MS := fun ρ => .ok (.nx ρ)
theorem zu {X : Cx} {c : Fc} : DSs X c [] vz := qh4
theorem zv {X : Cx} : IxR X (fun x y H Q => qlD X.K x y H Q \/ qlE X.K x y H Q) := qen.or qjR
theorem qiu {c : Fc} {nt : Nat} {fr : List Nat} {i j : Nat} (h1 : j ∈ c.O) (h2 : nt <= i) (h3 : fr[i - nt]? = some j) (h4 : ∀ p ∈ fr.zipIdx, nt + p.2 ≠ i -> p.1 ∉ c.O) : qha c nt fr (some (i, j)) :=
  ⟨h1, h2, h3, fun k j' h hk => h4 (j', k) (by rw [List.mem_iff_getElem?]; exact ⟨k, by rw [List.getElem?_zipIdx, h]; simp⟩) hk⟩
def eqB (x y : D) : Option D := match sc2 x y with
  | some b => some (.bl b)
  | none => eqA x y
def neB (x y : D) : Option D := match sc2 x y with
  | some b => some (.bl (!b))
  | none => neA x y
theorem v7 {X : Cx} {k : Nat} (hr : yA k X.A) : OpR X (compareOp .Eq) (fun x y H Q => rEq x y H Q \/ qfM X.K false x y H Q) := OpR.or qjI (qke hr)
theorem qcG {X : Cx} {k : Nat} (hr : yA k X.A) : OpR X (compareOp .NotEq) (fun x y H Q => rNe x y H Q \/ qfM X.K true x y H Q) := OpR.or qlw (qkf hr)
theorem yD {K : Fr0} : OpS K eqB (fun x y H Q => rEq x y H Q \/ qfM K false x y H Q) := by
  intro A H x y d v u Q hn ix iy e k
  unfold eqB at e
  cases e1 : sc2 x y with
  | some b => simp only [e1] at e; exact .inl (qh6 A H x y d v u Q hn ix iy (by unfold eqS; rw [e1]; exact e) k)
  | none => simp only [e1] at e; exact .inr (qik A H x y d v u Q hn ix iy e k)
theorem qaq {K : Fr0} : OpS K neB (fun x y H Q => rNe x y H Q \/ qfM K true x y H Q) := by
  intro A H x y d v u Q hn ix iy e k
  unfold neB at e
  cases e1 : sc2 x y with
  | some b => simp only [e1] at e; exact .inl (qh7 A H x y d v u Q hn ix iy (by unfold neS; rw [e1]; exact e) k)
  | none => simp only [e1] at e; exact .inr (qil A H x y d v u Q hn ix iy e k)
end L2.Sk
namespace L2.Sk
section
variable {α β : Type} {ρ : Env} {f g k : M D} {t u : M Bool} {l m : M (List D)} {p q r : MS}
theorem qgh (a : α) : ret a ρ = .ok (a, ρ) := rfl
theorem qeJ (o : Option α) : lift o ρ = match o with | some a => .ok (a, ρ) | none => .bad := by cases o <;> rfl
theorem qlN {f : M α} {k : α -> M β} : bnd f k ρ = match f ρ with | .ok (a, ρ') => k a ρ' | .exc x ρ' => .exc x ρ' | .bad => .bad := rfl
theorem qmj (i : Nat) : dv i ρ = match ρ[i]? with | some (some d) => .ok (d, ρ) | _ => .bad := rfl
theorem jS : qa f l ρ = match f ρ with | .ok (d, ρ1) => (match l ρ1 with | .ok (ds, ρ2) => .ok (d :: ds, ρ2) | .exc x ρ' => .exc x ρ' | .bad => .bad) | .exc x ρ' => .exc x ρ' | .bad => .bad := by
  simp only [qa, bnd, sbnd]
  cases f ρ with
  | ok z =>
    obtain ⟨z1, ρ1⟩ := z
    simp only [ret]
    cases l ρ1 with
    | ok z => obtain ⟨z2, ρ2⟩ := z; rfl
    | exc x ρ' => rfl
    | bad => rfl
  | exc x ρ' => rfl
  | bad => rfl
theorem qbo : yO l ρ = match l ρ with | .ok (ds, ρ1) => (if qD ds.length then .ok (.tup ds, ρ1) else .bad) | .exc x ρ' => .exc x ρ' | .bad => .bad := by
  simp only [yO, bnd, sbnd]
  cases l ρ with
  | ok z =>
    obtain ⟨z1, ρ1⟩ := z
    cases h : qD z1.length <;> simp [h, lift, ret]
  | exc x ρ' => rfl
  | bad => rfl
theorem qcH : jO l ρ = match l ρ with | .ok (ds, ρ1) => (if qD ds.length then .ok (.lst ds, ρ1) else .bad) | .exc x ρ' => .exc x ρ' | .bad => .bad := by
  simp only [jO, bnd, sbnd]
  cases l ρ with
  | ok z =>
    obtain ⟨z1, ρ1⟩ := z
    cases h : qD z1.length <;> simp [h, lift, ret]
  | exc x ρ' => rfl
  | bad => rfl
theorem qhf : qhb l ρ = match l ρ with | .ok (ds, ρ1) => (if immL ds && qD ds.length then .ok (ds, ρ1) else .bad) | .exc x ρ' => .exc x ρ' | .bad => .bad := by
  simp only [qhb, bnd, sbnd]
  cases l ρ with
  | ok z =>
    obtain ⟨z1, ρ1⟩ := z
    cases h : (immL z1 && qD z1.length) <;> simp [h, lift, ret]
  | exc x ρ' => rfl
  | bad => rfl
theorem qlO (F : D -> D -> Option D) : d2 F f g ρ = match f ρ with | .ok (x, ρ1) => (match g ρ1 with | .ok (y, ρ2) => (match F x y with | some d => .ok (d, ρ2) | none => .bad) | .exc x ρ' => .exc x ρ' | .bad => .bad) | .exc x ρ' => .exc x ρ' | .bad => .bad := by
  simp only [d2, bnd, sbnd]
  cases f ρ with
  | ok z =>
    obtain ⟨z1, ρ1⟩ := z
    dsimp only <;>
    cases g ρ1 with
    | ok z => obtain ⟨z2, ρ2⟩ := z; (dsimp only; cases F z1 z2 <;> rfl)
    | exc x ρ' => rfl
    | bad => rfl
  | exc x ρ' => rfl
  | bad => rfl
theorem qmk (F : D -> Option D) : d1 F f ρ = match f ρ with | .ok (x, ρ1) => (match F x with | some d => .ok (d, ρ1) | none => .bad) | .exc x ρ' => .exc x ρ' | .bad => .bad := by
  simp only [d1, bnd, sbnd]
  cases f ρ with
  | ok z =>
    obtain ⟨z1, ρ1⟩ := z
    (dsimp only; cases F z1 <;> rfl)
  | exc x ρ' => rfl
  | bad => rfl
theorem v8 (F : List D -> Option D) : qW F l ρ = match l ρ with | .ok (xs, ρ1) => (match F xs with | some d => .ok (d, ρ1) | none => .bad) | .exc x ρ' => .exc x ρ' | .bad => .bad := by
  simp only [qW, bnd, sbnd]
  cases l ρ with
  | ok z =>
    obtain ⟨z1, ρ1⟩ := z
    (dsimp only; cases F z1 <;> rfl)
  | exc x ρ' => rfl
  | bad => rfl
theorem uU (F : List D -> R D) : qo F l ρ = match l ρ with | .ok (xs, ρ1) => (match F xs with | .ok d => .ok (d, ρ1) | _ => .bad) | .exc x ρ' => .exc x ρ' | .bad => .bad := by
  simp only [qo, bnd, sbnd]
  cases l ρ with
  | ok z =>
    obtain ⟨z1, ρ1⟩ := z
    cases F z1 <;> rfl
  | exc x ρ' => rfl
  | bad => rfl
theorem qhg (T : String) : qic T f ρ = match f ρ with | .ok (d, ρ1) => .ok (.bl (qb3 (tyD d) T), ρ1) | .exc x ρ' => .exc x ρ' | .bad => .bad := by
  simp only [qic, bnd, sbnd]
  cases f ρ with
  | ok z =>
    obtain ⟨z1, ρ1⟩ := z
    rfl
  | exc x ρ' => rfl
  | bad => rfl
theorem qiv : tst f ρ = match f ρ with | .ok (d, ρ1) => (match asB d with | some b => .ok (b, ρ1) | none => .bad) | .exc x ρ' => .exc x ρ' | .bad => .bad := by
  simp only [tst, bnd, sbnd]
  cases f ρ with
  | ok z =>
    obtain ⟨z1, ρ1⟩ := z
    (dsimp only; cases asB z1 <;> rfl)
  | exc x ρ' => rfl
  | bad => rfl
theorem vq (b : Bool) : asB (.bl b) = some b := rfl
theorem qhh : qfK t ρ = match t ρ with | .ok (b, ρ1) => .ok (!b, ρ1) | .exc x ρ' => .exc x ρ' | .bad => .bad := by
  simp only [qfK, bnd, sbnd]
  cases t ρ with
  | ok z =>
    obtain ⟨z1, ρ1⟩ := z
    rfl
  | exc x ρ' => rfl
  | bad => rfl
theorem qcI : qes t u ρ = match t ρ with | .ok (b, ρ1) => (bif b then u ρ1 else .ok (false, ρ1)) | .exc x ρ' => .exc x ρ' | .bad => .bad := by
  simp only [qes, bnd, sbnd]
  cases t ρ with
  | ok z =>
    obtain ⟨z1, ρ1⟩ := z
    cases z1 <;> rfl
  | exc x ρ' => rfl
  | bad => rfl
theorem qgi : tor t u ρ = match t ρ with | .ok (b, ρ1) => (bif b then .ok (true, ρ1) else u ρ1) | .exc x ρ' => .exc x ρ' | .bad => .bad := by
  simp only [tor, bnd, sbnd]
  cases t ρ with
  | ok z =>
    obtain ⟨z1, ρ1⟩ := z
    cases z1 <;> rfl
  | exc x ρ' => rfl
  | bad => rfl
theorem qhi : qjd f g ρ = match f ρ with | .ok (d, ρ1) => (match asB d with | some b => (bif b then g ρ1 else .ok (.bl false, ρ1)) | none => .bad) | .exc x ρ' => .exc x ρ' | .bad => .bad := by
  simp only [qjd, bnd, sbnd]
  cases f ρ with
  | ok z =>
    obtain ⟨z1, ρ1⟩ := z
    simp only [qeJ]
    cases asB z1 with
    | none => rfl
    | some b => cases b <;> rfl
  | exc x ρ' => rfl
  | bad => rfl
theorem qkm : dor f g ρ = match f ρ with | .ok (d, ρ1) => (match asB d with | some b => (bif b then .ok (.bl true, ρ1) else g ρ1) | none => .bad) | .exc x ρ' => .exc x ρ' | .bad => .bad := by
  simp only [dor, bnd, sbnd]
  cases f ρ with
  | ok z =>
    obtain ⟨z1, ρ1⟩ := z
    simp only [qeJ]
    cases asB z1 with
    | none => rfl
    | some b => cases b <;> rfl
  | exc x ρ' => rfl
  | bad => rfl
theorem qhj : qlb f ρ = match f ρ with | .ok (d, ρ1) => (match asB d with | some b => .ok (.bl (!b), ρ1) | none => .bad) | .exc x ρ' => .exc x ρ' | .bad => .bad := by
  simp only [qlb, bnd, sbnd]
  cases f ρ with
  | ok z =>
    obtain ⟨z1, ρ1⟩ := z
    simp only [qeJ]
    cases asB z1 with
    | none => rfl
    | some b => cases b <;> rfl
  | exc x ρ' => rfl
  | bad => rfl
theorem qiw : dif t f g ρ = match t ρ with | .ok (b, ρ1) => (bif b then f ρ1 else g ρ1) | .exc x ρ' => .exc x ρ' | .bad => .bad := by
  simp only [dif, bnd, sbnd]
  cases t ρ with
  | ok z =>
    obtain ⟨z1, ρ1⟩ := z
    cases z1 <;> rfl
  | exc x ρ' => rfl
  | bad => rfl
theorem qgj : sif t p q ρ = match t ρ with | .ok (b, ρ1) => (bif b then p ρ1 else q ρ1) | .exc x ρ' => .exc x ρ' | .bad => .bad := by
  simp only [sif, bnd, sbnd]
  cases t ρ with
  | ok z =>
    obtain ⟨z1, ρ1⟩ := z
    cases z1 <;> rfl
  | exc x ρ' => rfl
  | bad => rfl
theorem qhk : qM p q ρ = match p ρ with | .ok (.nx ρ') => q ρ' | z => z := by
  unfold qM
  cases p ρ with
  | ok z => cases z <;> rfl
  | exc x ρ' => rfl
  | bad => rfl
theorem qbp : yN f ρ = match f ρ with | .ok (d, ρ1) => .ok (.rt d ρ1) | .exc x ρ' => .exc x ρ' | .bad => .bad := by
  simp only [yN, bnd, sbnd]
  cases f ρ with
  | ok z =>
    obtain ⟨z1, ρ1⟩ := z
    rfl
  | exc x ρ' => rfl
  | bad => rfl
theorem qcJ (i : Nat) : zM i f ρ = match f ρ with | .ok (d, ρ1) => .ok (.nx (ρ1.set i (some d))) | .exc x ρ' => .exc x ρ' | .bad => .bad := by
  simp only [zM, bnd, sbnd]
  cases f ρ with
  | ok z =>
    obtain ⟨z1, ρ1⟩ := z
    rfl
  | exc x ρ' => rfl
  | bad => rfl
theorem qb6 (i : Nat) : uC i l ρ = match l ρ with | .ok (ds, ρ1) => .ok (.nx (ρ1.set i (some (.lst ds)))) | .exc x ρ' => .exc x ρ' | .bad => .bad := by
  simp only [uC, bnd, sbnd]
  cases l ρ with
  | ok z =>
    obtain ⟨z1, ρ1⟩ := z
    rfl
  | exc x ρ' => rfl
  | bad => rfl
theorem qar : jk f ρ = match f ρ with | .ok (_, ρ1) => .ok (.nx ρ1) | .exc x ρ' => .exc x ρ' | .bad => .bad := by
  simp only [jk, bnd, sbnd]
  cases f ρ with
  | ok z =>
    obtain ⟨z1, ρ1⟩ := z
    rfl
  | exc x ρ' => rfl
  | bad => rfl
theorem qhl : vz ρ = .ok (.nx ρ) := rfl
theorem qhm (i j : Nat) : qjh i j l ρ = match l ρ with | .ok ([d, e], ρ1) => .ok (.nx ((ρ1.set i (some d)).set j (some e))) | .ok _ => .bad | .exc x ρ' => .exc x ρ' | .bad => .bad := by
  simp only [qjh, bnd, sbnd]
  cases l ρ with
  | ok z =>
    obtain ⟨z1, ρ1⟩ := z
    match z1 with
    | [] => rfl
    | [_] => rfl
    | [_, _] => rfl
    | _ :: _ :: _ :: _ => rfl
  | exc x ρ' => rfl
  | bad => rfl
theorem qhn (G : D -> Env -> Option Env) : qg1 f G ρ = match f ρ with | .ok (d, ρ1) => (match G d ρ1 with | some ρ2 => .ok (.nx ρ2) | none => .bad) | .exc x ρ' => .exc x ρ' | .bad => .bad := by
  simp only [qg1, bnd, sbnd]
  cases f ρ with
  | ok z =>
    obtain ⟨z1, ρ1⟩ := z
    dsimp only <;>
    cases G z1 ρ1 <;> rfl
  | exc x ρ' => rfl
  | bad => rfl
theorem uo (G : D -> Env -> Option Env) (b : MS) : qdx l G b ρ = match l ρ with | .ok (ds, ρ1) => yu G b ds ρ1 | .exc x ρ' => .exc x ρ' | .bad => .bad := by
  simp only [qdx, bnd, sbnd]
  cases l ρ with
  | ok z =>
    obtain ⟨z1, ρ1⟩ := z
    rfl
  | exc x ρ' => rfl
  | bad => rfl
theorem qbq : yK f ρ = match f ρ with | .ok (d, ρ1) => (match qld d with | some ds => .ok (ds, ρ1) | none => .bad) | .exc x ρ' => .exc x ρ' | .bad => .bad := by
  simp only [yK, bnd, sbnd]
  cases f ρ with
  | ok z =>
    obtain ⟨z1, ρ1⟩ := z
    (dsimp only; cases qld z1 <;> rfl)
  | exc x ρ' => rfl
  | bad => rfl
theorem qeK : z9 l ρ = match l ρ with | .ok (d, ρ1) => (match qgc d with | some ds => .ok (ds, ρ1) | none => .bad) | .exc x ρ' => .exc x ρ' | .bad => .bad := by
  simp only [z9, bnd, sbnd]
  cases l ρ with
  | ok z =>
    obtain ⟨z1, ρ1⟩ := z
    (dsimp only; cases qgc z1 <;> rfl)
  | exc x ρ' => rfl
  | bad => rfl
theorem qho : qmi l ρ = match l ρ with | .ok (d, ρ1) => (match qlM d with | some ds => .ok (ds, ρ1) | none => .bad) | .exc x ρ' => .exc x ρ' | .bad => .bad := by
  simp only [qmi, bnd, sbnd]
  cases l ρ with
  | ok z =>
    obtain ⟨z1, ρ1⟩ := z
    (dsimp only; cases qlM z1 <;> rfl)
  | exc x ρ' => rfl
  | bad => rfl
theorem v9 {nt : Nat} {fr : List Nat} {fo : Option (Nat × Nat)} {G : D -> Env -> Option Env} {e : M D} : qI nt fr fo l G t e ρ = match l ρ with
    | .ok (ds, ρ1) => (match qT G t e ds [] (zN nt fr ρ1) with | .ok (ys, ρe) => .ok (.lst ys, qif fo ρe ρ1) | _ => .bad) | .exc x ρ' => .exc x ρ' | .bad => .bad := by
  simp only [qI, bnd, sbnd]
  cases l ρ with
  | ok z =>
    obtain ⟨z1, ρ1⟩ := z
    dsimp only <;>
    cases qT G t e z1 [] (zN nt fr ρ1) with
    | ok z => obtain ⟨z2, ρ2⟩ := z; rfl
    | exc x ρ' => rfl
    | bad => rfl
  | exc x ρ' => rfl
  | bad => rfl
theorem qbr (F : List D -> List D -> R (D × List D)) (i : Nat) : qO F i l ρ = match zk i ρ with
    | none => .bad
    | some _ => (match l ρ with
      | .ok (ds, ρ1) => (match zk i ρ1 with
        | none => .bad
        | some bs => (match F bs ds with | .ok (d, bs') => .ok (d, ρ1.set i (some (.lst bs'))) | _ => .bad))
      | .exc x ρ' => .exc x ρ' | .bad => .bad) := by
  simp only [qO, bnd]
  cases zk i ρ with
  | none => rfl
  | some _ =>
    dsimp only <;>
    cases l ρ with
    | ok z =>
      obtain ⟨z1, ρ1⟩ := z
      dsimp only <;>
      cases zk i ρ1 with
      | none => rfl
      | some bs =>
        dsimp only <;>
        cases F bs z1 with
        | ok z => obtain ⟨z2, z3⟩ := z; rfl
        | exc x ρ' => rfl
        | bad => rfl
    | exc x ρ' => rfl
    | bad => rfl
theorem qeL (F : List D -> R D) : qbm F l ρ = match l ρ with
    | .ok (ds, ρ1) => (if immFs ds then (match F ds with | .ok (.lst bs) => (if immL bs then .ok (bs, ρ1) else .bad) | _ => .bad) else .bad) | .exc x ρ' => .exc x ρ' | .bad => .bad := by
  simp only [qbm, bnd, sbnd]
  cases l ρ with
  | ok z =>
    obtain ⟨z1, ρ1⟩ := z
    dsimp only <;>
    cases immFs z1 with
    | false => rfl
    | true =>
      simp only [if_true]
      cases F z1 with
      | ok z => cases z <;> rfl
      | exc x ρ' => rfl
      | bad => rfl
  | exc x ρ' => rfl
  | bad => rfl
theorem qeM (i : Nat) : qgf i f ρ = match zk i ρ with
    | none => .bad
    | some _ => (match f ρ with
      | .ok (k, ρ1) => (match k, zk i ρ1 with
        | .int n, some ds => (match atI ds n with | some d => .ok (d, ρ1) | none => .bad)
        | _, _ => .bad)
      | .exc x ρ' => .exc x ρ' | .bad => .bad) := by
  simp only [qgf, bnd]
  cases zk i ρ with
  | none => rfl
  | some _ =>
    dsimp only <;>
    cases f ρ with
    | ok z =>
      obtain ⟨z1, ρ1⟩ := z
      dsimp only <;>
      cases z1 <;> cases zk i ρ1 <;> try rfl
    | exc x ρ' => rfl
    | bad => rfl
theorem qeN (i : Nat) : qgd i k f ρ = match f ρ with
    | .ok (d, ρ1) => (match zk i ρ1 with
      | none => .bad
      | some _ => (match k ρ1 with
        | .ok (j, ρ2) => (match j, zk i ρ2 with
          | .int n, some ds => (match ixN ds.length n with
            | some q => if imm d then .ok (.nx (ρ2.set i (some (.lst (ds.set q d))))) else .bad
            | none => .bad)
          | _, _ => .bad)
        | .exc x ρ' => .exc x ρ' | .bad => .bad))
    | .exc x ρ' => .exc x ρ' | .bad => .bad := by
  simp only [qgd, bnd, sbnd]
  cases f ρ with
  | ok z =>
    obtain ⟨z1, ρ1⟩ := z
    dsimp only <;>
    cases zk i ρ1 with
    | none => rfl
    | some _ =>
      dsimp only <;>
      cases k ρ1 with
      | ok z =>
        obtain ⟨z2, ρ2⟩ := z
        dsimp only <;>
        cases z2 <;> cases zk i ρ2 <;> try rfl
      | exc x ρ' => rfl
      | bad => rfl
  | exc x ρ' => rfl
  | bad => rfl
theorem qeO (i : Nat) : qkb i ρ = match zk i ρ with | some ds => .ok (.int ds.length, ρ) | none => .bad := by
  unfold qkb
  cases zk i ρ <;> rfl
theorem qeP (i : Nat) : qdz i ρ = match zk i ρ with | some ds => .ok (.tup ds, ρ) | none => .bad := by
  unfold qdz
  cases zk i ρ <;> rfl
theorem qhp (i : Nat) : qmg i f ρ = match zk i ρ with
    | none => .bad
    | some _ => (match f ρ with
      | .ok (y, ρ1) => (match zk i ρ1 with
        | none => .bad
        | some ds => (match neA (.lst ds) y with | some d => .ok (d, ρ1) | none => .bad))
      | .exc x ρ' => .exc x ρ' | .bad => .bad) := by
  simp only [qmg, bnd]
  cases zk i ρ with
  | none => rfl
  | some _ =>
    dsimp only <;>
    cases f ρ with
    | ok z =>
      obtain ⟨z1, ρ1⟩ := z
      dsimp only <;>
      cases zk i ρ1 with
      | none => rfl
      | some ds => (dsimp only; cases neA (.lst ds) z1 <;> rfl)
    | exc x ρ' => rfl
    | bad => rfl
theorem wd (i : Nat) : zx i f ρ = match zk i ρ with
    | none => .bad
    | some _ => (match f ρ with
      | .ok (d, ρ1) => (match zk i ρ1 with
        | some ds => if imm d && qD (ds.length + 1) then .ok (.non, ρ1.set i (some (.lst (ds ++ [d])))) else .bad
        | none => .bad)
      | .exc x ρ' => .exc x ρ' | .bad => .bad) := by
  simp only [zx, bnd]
  cases zk i ρ with
  | none => rfl
  | some _ =>
    dsimp only <;>
    cases f ρ with
    | ok z =>
      obtain ⟨z1, ρ1⟩ := z
      dsimp only <;>
      cases zk i ρ1 <;> rfl
    | exc x ρ' => rfl
    | bad => rfl
theorem qkn {g k : M (Option Int)} : dsl f g k ρ = match f ρ with
    | .ok (d, ρ1) => (match g ρ1 with
      | .ok (lo, ρ2) => (match k ρ2 with
        | .ok (hi, ρ3) => (match slD d lo hi with | some x => .ok (x, ρ3) | none => .bad)
        | .exc x ρ' => .exc x ρ' | .bad => .bad)
      | .exc x ρ' => .exc x ρ' | .bad => .bad)
    | .exc x ρ' => .exc x ρ' | .bad => .bad := by
  simp only [dsl, bnd, sbnd]
  cases f ρ with
  | ok z =>
    obtain ⟨z1, ρ1⟩ := z
    dsimp only <;>
    cases g ρ1 with
    | ok z =>
      obtain ⟨z2, ρ2⟩ := z
      dsimp only <;>
      cases k ρ2 with
      | ok z => obtain ⟨z3, ρ3⟩ := z; (dsimp only; cases slD z1 z2 z3 <;> rfl)
      | exc x ρ' => rfl
      | bad => rfl
    | exc x ρ' => rfl
    | bad => rfl
  | exc x ρ' => rfl
  | bad => rfl
theorem qeQ : qj6 f ρ = match f ρ with | .ok (.int i, ρ1) => .ok (some i, ρ1) | .ok _ => .bad | .exc x ρ' => .exc x ρ' | .bad => .bad := by
  simp only [qj6, bnd, sbnd]
  cases f ρ with
  | ok z =>
    obtain ⟨z1, ρ1⟩ := z
    cases z1 <;> rfl
  | exc x ρ' => rfl
  | bad => rfl
end
theorem jc {n : Nat} (h : n <= 1000000) : qD n = true := by
  unfold qD
  exact decide_eq_true (Nat.le_trans h (by rw [PySem.sizeLine_eq]; decide))
theorem qix {n p : Nat} {body : MS} {ds : List D} {d : D} {ρ : Env} (h : ds.length = p) (e : body (jR n ds) = .ok (.rt d ρ)) : dfn n p body ds = .ok d := by
  unfold dfn; rw [if_pos h, e]
theorem qhq {n p : Nat} {body : MS} {bs ds bs' : List D} {d : D} {ρ : Env} (h : ds.length + 1 = p) (e : body (jR n (.lst bs :: ds)) = .ok (.rt d ρ)) (g : zk 0 ρ = some bs') : qao n p body bs ds = .ok (d, bs') := by
  unfold qao; rw [if_pos h, e]; simp only [g]
end L2.Sk
namespace L2.Sk
open PySem PySem.Spec PyProof.Rows
section
variable {prog : Program} {w : World} {A : Around} {E : Value -> Shared -> Prop} {s : Shared}
theorem qeR {l : Addr} {xs : Array Value} {Q : Value -> Shared -> Prop} (t1 : s.heap.IsTuple l xs)
    (fin : ∀ h', IsEnum h' (s.heap.objs.size + 1) s.heap.objs.size 0 .none -> h'.IsTupleIter s.heap.objs.size l 0 -> (∀ c o, s.heap.get? c = some o -> h'.get? c = some o) -> Q (.ref (s.heap.objs.size + 1)) { s with heap := h' }) :
    wpAny (model prog w) A (call (.type "enumerate") [.ref l]) Q E s := by
  have meets : Meets (Builtin.«enumerate.__new__» ⟨[.type "enumerate", .ref l], []⟩) (fun _ R s => s.heap.IsTuple l xs /\
      R (.ok (.ret (.ref (s.heap.objs.size + 1)))) { s with heap := (s.heap.push { cls := .type "tuple_iterator", data := .fields #[.ref l, .int 0 0] }).push { cls := .type "enumerate", data := .fields #[.none, .bool false, .ref s.heap.objs.size, rawInt 0, .none, .none] } }) :=
    .of_wp fun prog w A R s h => by
      obtain ⟨hp, g, d, tk, os⟩ := s
      obtain ⟨ha, h⟩ := h
      have hsub := sub_enumerate
      have hA : Heap.IsTuple (Shared.heap ⟨hp, g, d, tk, os⟩) l xs := ha
      obtain ⟨o, ho, _⟩ := id ha
      have ho' : hp.get? l = some o := ho
      wp_walk using AutoSeq1.wpAny_loadPart' ho'
      refine wpAny_stack_any fun st => wpAny_pure ?_
      split
      . rename_i c _ _ _ _ _
        cases (c == Value.type "enumerate")
        . wp_walk using AutoSeq1.wpAny_loadPart' ho', wpAny_pyIter_tuple hA
          simp only [Heap.size_push] at *
          exact ⟨_, rfl, h⟩
        . wp_walk using AutoSeq1.wpAny_loadPart' ho', wpAny_pyIter_tuple hA
          simp only [Heap.size_push] at *
          exact ⟨_, rfl, h⟩
      . wp_walk using AutoSeq1.wpAny_loadPart' ho', wpAny_pyIter_tuple hA
        simp only [Heap.size_push] at *
        exact ⟨_, rfl, h⟩
  refine callType_new F.called_enumerate (by decide) (F.typeCall_enumerate_1 _) (F.newCall_enumerate_1 _) (fun obj => F.args_object_init_2 obj _) F.entry_enumerate_new meets ⟨t1, ?_⟩
  generalize e1 : s.heap.push { cls := .type "tuple_iterator", data := .fields #[.ref l, .int 0 0] } = m1
  have s1 : m1.objs.size = s.heap.objs.size + 1 := by rw [<- e1, Heap.size_push]
  have q1 : m1.get? s.heap.objs.size = some { cls := .type "tuple_iterator", data := .fields #[.ref l, .int 0 0] } := by rw [<- e1]; exact Heap.get?_push_size _ rfl
  have k1 : ∀ c o, s.heap.get? c = some o -> m1.get? c = some o := fun c o x => by rw [<- e1]; exact Heap.get?_push_of_some _ x
  generalize e2 : m1.push { cls := .type "enumerate", data := .fields #[.none, .bool false, .ref s.heap.objs.size, rawInt 0, .none, .none] } = m2
  have q2 : m2.get? (s.heap.objs.size + 1) = some { cls := .type "enumerate", data := .fields #[.none, .bool false, .ref s.heap.objs.size, rawInt 0, .none, .none] } := by rw [<- e2, <- s1]; exact Heap.get?_push_size _ rfl
  have k2 : ∀ c o, m1.get? c = some o -> m2.get? c = some o := fun c o x => by rw [<- e2]; exact Heap.get?_push_of_some _ x
  show _ /\ _
  exact ⟨⟨_, q2, rfl⟩, fin m2 q2 ⟨_, k2 _ _ q1, rfl, rfl⟩ fun c o x => k2 _ _ (k1 _ _ x)⟩
end
def Ite (K : Fr0) (a : Addr) (xs : List V) : It :=
  ⟨fun i H => i < xs.length /\ SqT K H a xs, fun i H x H' => ∃ p u, H p = none /\ xs[i]? = some u /\ x = .ref p /\ H' = upd H p (.tup [.int i, u]), fun i H => i = xs.length /\ SqT K H a xs⟩
def ESt (z i1 a1 : Addr) (i : Nat) (h : Heap) : Prop := (∃ old, IsEnum h z i1 i old) /\ h.IsTupleIter i1 a1 i
theorem qeS {P : Program} {w : World} {K : Fr0} {es : List Expr} {kk : Nat} {pos : Pos} {z i1 a1 : Addr} {xs : List V} (zi : z ≠ i1) (za : z ≠ a1) (n1 : a1 ≠ i1) :
    qi9 P w K (.Tuple es kk pos) (Ite K a1 xs) [z, i1] z (ESt z i1 a1) where
  mem := by simp
  obj := fun i h st b hb => by
    obtain ⟨⟨old, h1⟩, ⟨o4, h4, c4, d4⟩⟩ := st
    simp only [List.mem_cons, List.not_mem_nil, or_false] at hb
    rcases hb with rfl | rfl
    . exact ⟨_, h1, fun v e => by cases (show Data.fields _ = Data.cell v from e)⟩
    . exact ⟨_, h4, fun v e => by rw [d4] at e; cases e⟩
  keep := fun i h h' st k => by
    obtain ⟨⟨old, h1⟩, h4⟩ := st
    exact ⟨⟨old, k z (by simp) _ h1⟩, h4.at fun o e => k i1 (by simp) o e⟩
  item := by
    intro X hP hw hK hc i pins s σ H E I hf st hg
    subst hP hw hK
    obtain ⟨hlt, hx⟩ := hg
    obtain ⟨⟨old, h1⟩, h4⟩ := st
    obtain ⟨it1, r1, p1, z1⟩ := I.tuple hx
    have l1 : i < it1.toArray.size := by rw [List.size_toArray, <- r1.length]; omega
    have hh : X.A.in1.handled = none := I.ok.hd hc
    refine wpAny_pyNext_enum_itemD (qcE hh i1 a1 n1 it1.toArray) h1 ⟨h4, p1⟩ l1 zi (by simp [zi, za]) fun x h' tk px ho u1 new hsz kp => ?_
    refine ⟨.ref s.heap.objs.size, rfl, wpAny_letOwnedTupleGo_enum ho fun h2' zz2 sb => ?_⟩
    obtain ⟨xv, hxv⟩ : ∃ v, xs[i]? = some v := ⟨xs[i]'(by omega), List.getElem?_eq_getElem (by omega)⟩
    obtain ⟨x', ex, rx⟩ := r1.get hxv
    have exx : x' = x := by
      have : it1.toArray[i]? = some x := px
      rw [List.getElem?_toArray, ex] at this
      exact Option.some.inj this
    subst exx
    have lz : z < s.heap.objs.size := Heap.lt_size h1
    have keep : ∀ b u, b ∉ [z, i1] -> s.heap.get? b = some u -> h2'.get? b = some u := fun b u hb e => by
      simp only [List.mem_cons, List.not_mem_nil, or_false, not_or] at hb
      exact (sb.2 b hb.1).trans (kp b u hb.1 hb.2 e)
    have I2 : Inv X pins σ (upd H s.heap.objs.size (.tup [.int i, xv])) { s with heap := h2', toks := tk + 1 } :=
      qio I keep hf (Nat.le_refl _) ⟨by show 2 <= sizeLine; decide, [.int i tk, x'], .cons ⟨tk, rfl⟩ (.cons rx .nil), ⟨_, (sb.2 _ (Nat.ne_of_gt lz)).trans new, rfl, _, rfl⟩⟩
    refine ⟨.ref s.heap.objs.size, upd H s.heap.objs.size (.tup [.int i, xv]), I2, rfl, ⟨s.heap.objs.size, xv, I.hok.fresh (Nat.le_refl _), hxv, rfl, rfl⟩, ?_, fun b hb => ?_⟩
    . exact ⟨⟨_, by simpa using zz2⟩, u1.1.at fun o e => (sb.2 i1 zi.symm).trans e⟩
    . have hb1 : b ≠ s.heap.objs.size := by
        simp only [List.mem_cons, List.not_mem_nil, or_false] at hb
        obtain ⟨o4, g4, _⟩ := h4
        rcases hb with rfl | rfl
        . exact Nat.ne_of_lt (Heap.lt_size h1)
        . exact Nat.ne_of_lt (Heap.lt_size g4)
      rw [qm hb1]
      exact (hf b hb).1
  done := by
    intro X hP hw hK hc i pins s σ H E I hf st hg
    subst hP hw hK
    obtain ⟨hlt, hx⟩ := hg
    obtain ⟨⟨old, h1⟩, h4⟩ := st
    obtain ⟨it1, r1, p1, z1⟩ := I.tuple hx
    have hh : X.A.in1.handled = none := I.ok.hd hc
    have e : i = it1.toArray.size := by rw [List.size_toArray, <- r1.length]; exact hlt
    subst e
    refine wpAny_pyNext_enum_endD (qcE hh i1 a1 n1 it1.toArray) h1 ⟨h4, p1⟩ fun h' kp => ⟨rfl, qip (t' := s.toks) I (fun b u hb e => ?_) hf⟩
    simp only [List.mem_cons, List.not_mem_nil, or_false, not_or] at hb
    exact kp b u hb.2 e
  self := fun A i s Q E st h => by
    obtain ⟨⟨old, h1⟩, _⟩ := st
    exact wpAny_pyIter_enum h1 h
section
variable {X : Cx} {c : Fc} {a b e : Expr} {pos : Pos} {es : List Expr} {kk : Nat} {tp : Pos}
def qlP (K : Fr0) (ta : TA) : TI := fun σ H R => ta σ H fun vs H1 => ∃ a1 xs, vs = [.ref a1] /\ SqT K H1 a1 xs /\ R (Ite K a1 xs) H1
theorem qiy {ta : TA} {p : Pos} (hg : Gl X "enumerate") (hm : X.mg "enumerate" = none) (ha : PA X [a] ta) (hs : starEach [a] X.env = [(false, eval a X.env)] := by rfl) :
    PI X (.Tuple es kk tp) (.Call (.Name "enumerate" p) [a] [] pos) (qlP X.K ta) := by
  intro pins s σ H R I h
  refine Call_ (vk I hg hm PyProof.Rows.boot_enumerate (PyProof.Rows.callWith_type1 (thn (ha pos pins s σ H _ I h) fun us s1 ⟨vs, H1, I1, r1, q1⟩ => ?_) (by rw [hs]; rfl) (by rfl)))
  obtain ⟨a1, xs, e1, hx, q⟩ := q1
  subst e1
  obtain ⟨u1, rfl, ru1⟩ := qQ.one r1
  cases (show u1 = Value.ref a1 from ru1)
  obtain ⟨it1, v1, p1, z1⟩ := I1.tuple hx
  refine qeR (show s1.heap.IsTuple a1 it1.toArray from p1) fun h' zz g1 kp => ?_
  refine wpAny_pyIter_enum zz ?_
  have la1 : a1 < s1.heap.objs.size := by obtain ⟨o, e, _⟩ := p1; exact Heap.lt_size e
  refine ⟨s1.heap.objs.size + 1, [s1.heap.objs.size + 1, s1.heap.objs.size], _, _, H1, rfl, I1.kept (t' := s1.toks) kp, qeS (xs := xs) (Nat.succ_ne_self _) (Nat.ne_of_gt (Nat.lt_succ_of_lt la1)) (Nat.ne_of_lt la1), ⟨⟨_, zz⟩, g1⟩, fun b hb => ?_, q⟩
  simp only [List.mem_cons, List.not_mem_nil, or_false] at hb
  have hb2 : s1.heap.objs.size <= b := by
    rcases hb with e | e <;> rw [e]
    . exact Nat.le_add_right _ _
    . exact Nat.le_refl _
  exact I1.fpOk hb2 (I1.hok.fresh hb2)
def vc (k : Nat) : List D -> List D
  | [] => []
  | x :: xs => .tup [.int (k : Nat), x] :: vc (k + 1) xs
theorem wf : ∀ (k : Nat) (xs : List D), (vc k xs).length = xs.length
  | _, [] => rfl
  | k, x :: xs => by simp [vc, wf (k + 1) xs]
theorem qbs : ∀ {xs : List D} {k i : Nat} {d : D}, (vc k xs)[i]? = some d -> ∃ x, xs[i]? = some x /\ d = .tup [.int ((k + i : Nat) : Int), x]
  | [], _, _, _, h => by simp [vc] at h
  | x :: xs, k, 0, d, h => by
    have : D.tup [.int (k : Nat), x] = d := by simpa [vc] using h
    exact ⟨x, rfl, this.symm⟩
  | x :: xs, k, i + 1, d, h => by
    obtain ⟨y, h1, h2⟩ := qbs (xs := xs) (k := k + 1) (i := i) (d := d) (by simpa [vc] using h)
    exact ⟨y, by simpa using h1, by rw [h2]; congr 4; omega⟩
theorem qiz {K : Fr0} {A : Addr -> Prop} {H : Hp} {ds : List D} {xs : List V} {a1 : Addr} (t1 : uz K H a1 xs) (i1 : IsL K A H ds xs) : qgb K A H (vc 0 ds) (Ite K a1 xs) where
  go := fun H' i d ex hd => by
    have hl : i < (vc 0 ds).length := (List.getElem?_eq_some_iff.mp hd).1
    rw [wf, <- i1.length] at hl
    exact ⟨hl, (t1.elim (fun h => .inl (ex.tup _ _ h)) .inr : uz K H' a1 xs).sq⟩
  yl := fun H' i d x H'' ex hd y => by
    obtain ⟨p, u, hp, hu, rfl, rfl⟩ := y
    obtain ⟨dx, h1, rfl⟩ := qbs hd
    obtain ⟨u', g1, g2⟩ := i1.get h1
    rw [hu] at g1
    cases g1
    have sm := qy hp (.tup [.int i, u])
    exact ⟨sm, p, [.int i, u], rfl, .inl qr, .int i, [u], rfl, by rw [Nat.zero_add]; rfl, u, [], rfl, Is.ext (Ext.of_same sm) (fun _ h _ => h) (Is.ext ex (fun _ h _ => h) g2), rfl⟩
  stop := fun H' ex => ⟨by rw [wf, i1.length], (t1.elim (fun h => .inl (ex.tup _ _ h)) .inr : uz K H' a1 xs).sq⟩
def qgk : List D -> Option (List D)
  | [.tup xs] => some (vc 0 xs)
  | _ => none
def qeT (f : M (List D)) : M (List D) := bnd f fun ds => lift (qgk ds)
theorem qiA {f : M (List D)} {p : Pos} (hg : Gl X "enumerate") (hm : X.mg "enumerate" = none) (ha : DA X c [a] f) (hs : starEach [a] X.env = [(false, eval a X.env)] := by rfl) :
    DI X c (.Tuple es kk tp) (.Call (.Name "enumerate" p) [a] [] pos) (qeT f) := by
  obtain ⟨t, pa, w⟩ := ha
  refine ⟨_, qiy hg hm pa hs, fun ρ σ H Q r h => w ρ σ H _ r (WpL.bndI h fun ds ρ1 vs H1 r1 i1 g1 h1 => ?_)⟩
  obtain ⟨es', e, h2⟩ := uQ h1
  unfold qgk at e
  split at e
  . obtain ⟨v, rfl, j1⟩ := IsL.inv1 i1
    cases e
    obtain ⟨a1, xs, rfl, t1, il1⟩ := Is.tr j1
    exact ⟨a1, xs, rfl, t1.sq, h2 _ H1 r1 (qiz t1 il1) .refl⟩
  . cases e
end
def vD : D -> V
  | .bl b => .bl b
  | .int i => .int i
  | .str x => .str x
  | _ => .non
def flD : D -> Bool
  | .non => true
  | .bl _ => true
  | .int _ => true
  | .str _ => true
  | _ => false
def sqD : D -> Option (List D)
  | .tup ds => some ds
  | .lst ds => some ds
  | _ => none
def inD (x y : D) : Option D := match sqD y with
  | some ds => if flD x && ds.all flD then some (.bl (ds.any fun d => eqV (vD d) (vD x))) else none
  | none => none
theorem qb7 {l : M (List D)} {ρ : Env} : qeT l ρ = match l ρ with | .ok (d, ρ1) => (match qgk d with | some ds => .ok (ds, ρ1) | none => .bad) | .exc x ρ' => .exc x ρ' | .bad => .bad := by
  simp only [qeT, bnd]
  cases l ρ with
  | ok z => obtain ⟨z1, ρ1⟩ := z; (dsimp only; cases qgk z1 <;> rfl)
  | exc x ρ' => rfl
  | bad => rfl
end L2.Sk
namespace L2.Sk
open PySem PySem.Spec PyProof.Rows
section
variable {X : Cx} {tg iter elt : Expr} {ifs : List Expr} {scope : Scope} {pos : Pos} {wi : TI} {N' : List Str} {nt : Nat} {fr : List Nat}
theorem qiB {i : Nat} {x : Str} {pos' spos : Pos} (hN : X.N.Nodup) (hix : X.N[i]? = some x) (hx : Loc X.env.scope x) (hfx : X.fn x = true \/ X.env.scope.names.lookup x = some .local) (hc : X.calm = true) (hi : PI X tg iter wi) (S : zR X scope N' nt fr)
    (hsw : swapsWith (.ListComp elt [⟨tg, iter, ifs, 0⟩] scope pos) (some (.Name x pos')) spos.line X.env = pure true)
    (hs : ∀ x, foldedSetIterable iter X.env x = pure x := by intro _; rfl) : PS X (.Assign [.Name x pos'] (.ListComp elt [⟨tg, iter, ifs, 0⟩] scope pos) spos) (fun D σ H => qid X tg ifs elt scope N' wi nt fr σ H fun v H' => D.nx (σ.set i (some v)) H') := by
  intro pins s σ H D I hw
  obtain ⟨cl, hcl, cl1, cl2⟩ := yC (env := X.env) (scope := scope) (fun y hy hf => I.ok.has y.1 (.inl (S.frees y hy hf)))
  rw [exec_Assign_Name_used _ _ _ _ hsw]
  refine wpAny_bind (wpAny_standAt (wpAny_bind ?_))
  show wpAny (model X.prog X.w) X.A (comprehension (.ListComp elt [⟨tg, iter, ifs, 0⟩] scope pos) scope X.env _ (newList []) false (eval iter X.env) (some (assign (.Name x pos') X.env)) >>= fun _ => pure ()) _ _ s
  refine wpAny_bind (thn (Q := fun _ s' => SP X pins D .next s') ?_ fun _ s' q => wpAny_pure (wpAny_pure q))
  refine wpAny_comprehension_free (use := some (assign (.Name x pos') X.env)) rfl hs hcl S.kind S.names (thn (hi pins s σ H _ I hw) fun v s1 h1 => thn h1 fun itv s2 h2 => ?_)
  obtain ⟨it, fp, tn, J, H2, e, I2, T, st2, f2, hR⟩ := h2
  subst e
  have hacc : H2 s2.heap.objs.size = none := I2.hok.fresh (Nat.le_refl _)
  refine wpAny_newObj_type (wpAny_newFunctionEnv S.nocell (by intro y hy; simp at hy) (fun h₁ hns₁ hsb₁ => ?_) S.kind)
  dsimp only at hns₁ hsb₁ |-
  have I3 : Inv X pins σ (upd H2 s2.heap.objs.size (.lst [])) { s2 with heap := s2.heap.push { cls := .type "list", dict := none, data := .seq ([] : List Value).toArray } } :=
    I2.lnew (t' := s2.toks) (its := []) .nil (Nat.zero_le _)
  generalize hs3 : ({ s2 with heap := s2.heap.push { cls := .type "list", dict := none, data := .seq ([] : List Value).toArray } } : Shared) = s3 at I3
  have hh3 : s2.heap.push { cls := .type "list", dict := none, data := .seq ([] : List Value).toArray } = s3.heap := by rw [<- hs3]
  rw [hh3] at hns₁ hsb₁
  have old : ∀ b o, s3.heap.get? b = some o -> h₁.get? b = some o := fun b o q => hsb₁.extBut b o (Nat.ne_of_lt (Heap.lt_size q)) (Heap.get?_push_of_some _ q)
  have objs2 : ∀ b ∈ fp, ∃ o, s2.heap.get? b = some o := fun b hb => by
    obtain ⟨o, q, _⟩ := T.obj 0 _ st2 b hb
    exact ⟨o, q⟩
  have keep23 : ∀ b o, s2.heap.get? b = some o -> s3.heap.get? b = some o := fun b o q => by rw [<- hh3]; exact Heap.get?_push_of_some _ q
  have fpne : ∀ b ∈ fp, b ≠ s2.heap.objs.size := fun b hb => by
    obtain ⟨o, q⟩ := objs2 b hb
    exact Nat.ne_of_lt (Heap.lt_size q)
  have f3 : ∀ b ∈ fp, qag X pins (upd H2 s2.heap.objs.size (.lst [])) b := fun b hb => ⟨by rw [qm (fpne b hb)]; exact (f2 b hb).1, (f2 b hb).2⟩
  have J0 : Inv (qF X scope N' fp cl s3.heap.objs.size s3 (upd H2 s2.heap.objs.size (.lst [])) (X.pn ++ pins)) [] (qp nt fr σ) (upd H2 s2.heap.objs.size (.lst [])) { s3 with heap := h₁, toks := s3.toks } :=
    u9 S I3 f3 (fun b hb => (objs2 b hb).imp fun o q => keep23 b o q) cl1 cl2 ⟨_, hns₁⟩ old
  obtain ⟨g, tt, te, hg, hf, he, W, ⟨m0, w0⟩, turn⟩ := hR s2.heap.objs.size fp cl s3.heap.objs.size s3 (upd H2 s2.heap.objs.size (.lst [])) (X.pn ++ pins) hacc
  have T0 : tn 0 h₁ := T.keep 0 _ _ st2 fun b hb o q => old b o (keep23 b o q)
  have s3e : ∀ tk : Nat, ({ s2 with heap := h₁, toks := tk } : Shared) = { s3 with heap := h₁, toks := tk } := fun tk => by rw [<- hs3]
  have loop : ∀ tk : Nat, codeAny (model X.prog X.w) X.A (.compLoop (.ListComp elt [⟨tg, iter, ifs, 0⟩] scope pos) 0 (.ref it) (.ref s2.heap.objs.size) (compEnvC scope cl s3.heap.objs.size X.env))
      (compPost (model X.prog X.w) X.A X.xe (some (assign (.Name x pos') X.env)) (fun _ s' => SP X pins D .next s') (.ref s2.heap.objs.size) s3.heap.objs.size) { s3 with heap := h₁, toks := tk } := fun tk => by
    have stat : ∀ {H' : Hp}, (∀ b ∈ fp, H' b = none) -> ∀ b ∈ fp, qag (qF X scope N' fp cl s3.heap.objs.size s3 (upd H2 s2.heap.objs.size (.lst [])) (X.pn ++ pins)) [] H' b := fun {H'} hn b hb => by
      obtain ⟨o, q⟩ := objs2 b hb
      have hbC : b ≠ s3.heap.objs.size := Nat.ne_of_lt (Heap.lt_size (keep23 b o q))
      refine ⟨hn b hb, hbC, fun z => ?_, .inl hb, fun x c hx => (f2 b hb).2.2.2.2.1 x c (cl1 x c hx), fun p hp => ?_⟩
      . rcases List.mem_cons.mp (I2.stkSub b z) with z | z
        . exact (f2 b hb).2.1 z
        . exact (f2 b hb).2.2.1 z
      . have hp' : p ∈ X.pn ++ pins := by
          rcases List.mem_append.mp (show p ∈ (X.pn ++ pins) ++ [] from hp) with z | z
          . exact z
          . cases z
        exact (f2 b hb).2.2.2.2.2 p hp'
    have fr0 : ∀ b ∈ fp, upd H2 s2.heap.objs.size (.lst []) b = none := fun b hb => (f3 b hb).1
    refine uB (fun n s' => ∃ i σ' H', Inv (qF X scope N' fp cl s3.heap.objs.size s3 (upd H2 s2.heap.objs.size (.lst [])) (X.pn ++ pins)) [] σ' H' s' /\ tn i s'.heap /\ (∀ b ∈ fp, H' b = none) /\ W i n σ' H') ?_ m0
      ⟨0, qp nt fr σ, _, J0.tok tk, T0, fr0, w0⟩
    rintro n s4 ⟨i, σ4, H4, J4, st4, fr4, w4⟩
    rcases turn i n σ4 H4 w4 with ⟨stop, qn⟩ | ⟨go, step⟩
    . refine thn (T.done (qF X scope N' fp cl s3.heap.objs.size s3 (upd H2 s2.heap.objs.size (.lst [])) (X.pn ++ pins)) rfl rfl rfl hc i [] s4 σ4 H4 _ J4 (stat fr4) st4 stop) fun r s5 ⟨hr, J5⟩ => ?_
      subst hr
      obtain ⟨m5, n5, _⟩ := J5.loc
      have I5 : Inv X pins σ H4 s5 := qan I3 f3 J5 (Heap.SameBut.refl ..)
      have lC : X.env.locals ≠ s3.heap.objs.size := Nat.ne_of_lt I3.lt
      have cC : ∀ y c, X.env.cells.lookup y = some c -> c ≠ s3.heap.objs.size := fun y c hy => by
        obtain ⟨v, o, ho, _⟩ := I3.cell y c hy
        exact Nat.ne_of_lt (Heap.lt_size ho)
      have pC : ∀ p ∈ X.pn ++ pins, p.1 ≠ s3.heap.objs.size := fun p hp => Nat.ne_of_lt (Heap.lt_size (I3.pin p hp).1)
      refine wpAny_assign_Name (qa3 (v := .ref s2.heap.objs.size) I5 hN hix hx rfl (fun s'' I6 ⟨a, sb, ha⟩ => ?_) hfx)
      have aC : s3.heap.objs.size ≠ a := by
        rcases ha with rfl | ha
        . exact lC.symm
        . exact (cC _ _ ha).symm
      exact ⟨m5, n5.sameBut sb aC, fun h' sb' => ⟨_, H4, I6.turned (t' := s''.toks) (fun b o hb q => (sb'.2 b hb).trans q) J5.free lC.symm (.inr I3.sz) cC pC, qn⟩⟩
    . refine thn (T.item (qF X scope N' fp cl s3.heap.objs.size s3 (upd H2 s2.heap.objs.size (.lst [])) (X.pn ++ pins)) rfl rfl rfl hc i [] s4 σ4 H4 _ J4 (stat fr4) st4 go) fun r s5 ⟨u, hr, h5⟩ => ?_
      subst hr
      refine thn h5 fun _ s6 ⟨x, H6, J6, r6, y6, st6, fr6⟩ => ?_
      have J6' := J6.pinned (stat fr6) (T.obj _ _ st6)
      have again : ∀ {σ7 : St} {H7 : Hp} {s7 : Shared}, Inv (qF X scope N' fp cl s3.heap.objs.size s3 (upd H2 s2.heap.objs.size (.lst [])) (X.pn ++ pins)) ([] ++ vK fp s6.heap) σ7 H7 s7 -> (∃ m', m' < n /\ W (i + 1) m' σ7 H7) ->
          ∃ m, m < n /\ ∃ i σ' H', Inv (qF X scope N' fp cl s3.heap.objs.size s3 (upd H2 s2.heap.objs.size (.lst [])) (X.pn ++ pins)) [] σ' H' s7 /\ tn i s7.heap /\ (∀ b ∈ fp, H' b = none) /\ W i m σ' H' := fun {σ7 H7 s7} I7 hm => by
        obtain ⟨m', hm, w7⟩ := hm
        refine ⟨m', hm, i + 1, σ7, H7, I7.unpinned, T.keep _ _ _ st6 fun b hb o q => (I7.pin (b, o) (List.mem_append_right _ (List.mem_append_right _ (zY hb q)))).1, fun b hb => ?_, w7⟩
        obtain ⟨o, q, d⟩ := T.obj _ _ st6 b hb
        exact (I7.pin (b, o) (List.mem_append_right _ (List.mem_append_right _ (zY hb q)))).2.1
      refine thn (hg _ s6 σ4 H6 x u _ J6' r6 (step x H6 y6)) fun _ s7 ⟨σ7, H7, J7, q7⟩ => ?_
      refine thn (hf _ s7 σ7 H7 _ J7 q7) fun ok s8 ⟨H8, J8, q8⟩ => ?_
      cases ok with
      | false =>
        rw [if_neg Bool.false_ne_true] at q8 |-
        exact again J8 q8
      | true =>
        rw [if_pos rfl] at q8 |-
        refine thn (he _ s8 σ7 H8 _ J8 q8) fun z s9 ⟨y, H9, J9, r9, ys, hys, hz, hm⟩ => ?_
        refine thn (uJ _ s9 σ7 H9 (.ref s2.heap.objs.size) [y] (.ref s2.heap.objs.size) [z] (fun _ H' => H' = upd H9 s2.heap.objs.size (.lst (ys ++ [y]))) J9 rfl (.cons r9 .nil) ⟨_, ys, y, rfl, rfl, hys, hz, rfl⟩) fun _ s10 ⟨_, H10, J10, _, e10⟩ => ?_
        subst e10
        exact again J10 hm
  have zn : ∀ tk : Nat, codeAny (model X.prog X.w) X.A (.compStart (.ListComp elt [⟨tg, iter, ifs, 0⟩] scope pos) 0 (.ref it) (.ref s2.heap.objs.size) (compEnvC scope cl s3.heap.objs.size X.env))
      (compPost (model X.prog X.w) X.A X.xe (some (assign (.Name x pos') X.env)) (fun _ s' => SP X pins D .next s') (.ref s2.heap.objs.size) s3.heap.objs.size) { s3 with heap := h₁, toks := tk } := fun tk =>
    codeAny_compStart_list (loop tk) (T.self X.A 0 _ _ _ T0 (loop tk))
  have fin := zn (s2.toks + ([] : List (Str × Value)).length)
  rw [<- s3e] at fin
  rw [<- hh3] at fin
  rw [hh3] at fin |-
  exact fin
end
section
variable {X : Cx} {c : Fc}
def DC (X : Cx) (c : Fc) (tg it elt : Expr) (ifs : List Expr) (scope : Scope) (N' : List Str) (nt : Nat) (fr : List Nat) (f : M D) : Prop := ∃ wi, PI X tg it wi /\ ∀ ρ σ H Q, Rep X.K c ρ σ H -> Wp X.K c σ H Q (f ρ) -> qid X tg ifs elt scope N' wi nt fr σ H Q
theorem qiC {it elt tg : Expr} {ifs : List Expr} {scope : Scope} {N' : List Str} {nt : Nat} {fr : List Nat} {fo : Option (Nat × Nat)} {f : M (List D)} {g : D -> Env -> Option Env} {t : M Bool} {k : M D} (hc : X.calm = true) (hi : DI X c tg it f) (S : zR X scope N' nt fr)
    (hfo : qha c nt fr fo)
    (hb : ∀ fp cl C s₀ H₀ pn B0 H1 Io' acc S', DG (qF X scope N' fp cl C s₀ H₀ pn) (cin B0 H1 (foO fo) Io' acc S') tg g /\ DF (qF X scope N' fp cl C s₀ H₀ pn) (cin B0 H1 (foO fo) Io' acc S') ifs t /\ DE (qF X scope N' fp cl C s₀ H₀ pn) (cin B0 H1 (foO fo) Io' acc S') elt k)
    : DC X c tg it elt ifs scope N' nt fr (qI nt fr fo f g t k) := by
  obtain ⟨wi, pi, wI⟩ := hi
  refine ⟨wi, pi, fun ρ σ H Q r h => wI ρ σ H _ r (WpI.bnd h fun ds ρ1 J H1 r1 iok g1 h1 => ?_)⟩
  intro acc fp cl C s₀ H₀ pn hn
  obtain ⟨⟨tg', pg, wg⟩, ⟨tt, pt, wt⟩, ⟨te, pe, we⟩⟩ := hb fp cl C s₀ H₀ pn (Cn c σ) H1 (vY σ fo) acc fun j => (qp nt fr σ)[j]?
  refine ⟨tg', tt, te, pg, pt, pe, ?_⟩
  cases ew : qT g t k ds [] (zN nt fr ρ1) with
  | exc x ρ' => rw [ew] at h1; exact h1.elim
  | bad => rw [ew] at h1; exact h1.elim
  | ok p =>
    rw [ew] at h1
    obtain ⟨ys, ρe⟩ := p
    have h1 : ∀ v H', Rep X.K c (qif fo ρe ρ1) σ H' -> Is X.K (Cn c σ) H' (.lst ys) v -> Gr c.O σ H1 H' -> Q v H' := h1
    have accO : ∀ j ∈ foO fo, (qp nt fr σ)[j]? ≠ some (some (.ref acc)) := fun j hj e => by
      have r0 := r1.entry (acc := acc) hn hfo
      cases fo with
      | none => cases hj
      | some p =>
        obtain ⟨i', j'⟩ := p
        have e2 : j = i' := by simpa [foO] using hj
        subst e2
        obtain ⟨k2, j2, e1, e2, e3⟩ := z0 e
        have hk2 : k2 = j - nt := by omega
        subst hk2
        rw [hfo.2.2.1] at e2
        cases e2
        obtain ⟨a, us, e4, e5, _⟩ := r1.own j' hfo.1 _ e3
        cases e4; rw [hn] at e5; cases e5
    refine ⟨fun i m σ' H' => m = ds.length - i /\ i <= ds.length /\ ∃ ρ' zs xs, Rep X.K (cin (Cn c σ) H1 (foO fo) (vY σ fo) acc fun j => (qp nt fr σ)[j]?) ρ' σ' H' /\ (∀ j ∈ foO fo, σ'[j]? = (qp nt fr σ)[j]?) /\ H' acc = some (.lst xs) /\ IsL X.K (Cn (cin (Cn c σ) H1 (foO fo) (vY σ fo) acc fun j => (qp nt fr σ)[j]?) σ') H' zs xs /\ qT g t k (ds.drop i) zs ρ' = .ok (ys, ρe),
      ⟨ds.length, by simp, Nat.zero_le _, zN nt fr ρ1, [], [], r1.entry hn hfo, fun _ _ => rfl, qr, rfl, by simpa using ew⟩, ?_⟩
    rintro i m σ' H' ⟨rfl, hi, ρ', zs, xs, r', so, ha, iz, w⟩
    obtain ⟨_, gr⟩ := r1.leave hn hfo (fun i j e => so i (by rw [e]; simp [foO])) r'
    have ex : Ext (CnT c σ H1) H1 H' := ⟨gr.ext.tup, gr.ext.frz, fun b o hb hq => gr.ext.at_ b o hb.1.2 hq⟩
    have accC : ∀ τ : St, (∀ j ∈ foO fo, τ[j]? = (qp nt fr σ)[j]?) -> Cl (foO fo) τ acc := fun τ hτ j hj e => accO j hj (by rw [<- hτ j hj]; exact e)
    by_cases hlt : i < ds.length
    . refine .inr ⟨iok.go H' i ds[i] ex (by simp [hlt]), fun x H'' y => ?_⟩
      obtain ⟨sm, ix⟩ := iok.yl H' i ds[i] x H'' ex (by simp [hlt]) y
      rw [y7 hlt] at w
      unfold qT at w
      have ix2 : Is X.K (Cn (cin (Cn c σ) H1 (foO fo) (vY σ fo) acc fun j => (qp nt fr σ)[j]?) σ') H'' ds[i] x := Is.ext Ext.refl (fun a ha _ => ⟨⟨ha.1, fun e => by
        have := ha.2
        rw [e, hn] at this; cases this⟩, fun j hj e => by
          rw [so j hj] at e
          cases fo with
          | none => cases hj
          | some p =>
            obtain ⟨i', j'⟩ := p
            have e2 : j = i' := by simpa [foO, cin] using hj
            subst e2
            obtain ⟨k2, j2, e1, e2, e3⟩ := z0 e
            have hk2 : k2 = j - nt := by omega
            subst hk2
            rw [hfo.2.2.1] at e2
            cases e2
            exact ha.1.2 j' hfo.1 e3⟩) ix
      cases e1 : g ds[i] ρ' with
      | none => simp only [e1] at w; cases w
      | some ρ2 =>
        simp only [e1] at w
        refine wg ρ' σ' H'' ds[i] x ρ2 _ (r'.same sm) ix2 e1 fun σ2 r2 g2 o2 => ?_
        have so2 : ∀ j ∈ foO fo, σ2[j]? = (qp nt fr σ)[j]? := fun j hj => (o2 j hj).trans (so j hj)
        have ha2 : H'' acc = some (.lst xs) := sm _ _ ha
        have iz2 := g2.isL (IsL.ext (Ext.of_same sm) (fun _ h _ => h) iz)
        cases e2 : t ρ2 with
        | exc x ρ3 => simp only [e2] at w; cases w
        | bad => simp only [e2] at w; cases w
        | ok p2 =>
          obtain ⟨bb, ρ3⟩ := p2
          refine wt ρ2 σ2 H'' _ r2 ?_
          rw [e2]
          intro H3 r3 g3
          have ha3 : H3 acc = some (.lst xs) := g3.ext.at_ _ _ (accC σ2 so2) ha2
          have iz3 := g3.isL iz2
          cases bb with
          | false =>
            rw [if_neg Bool.false_ne_true]
            simp only [e2] at w
            exact ⟨ds.length - (i + 1), by omega, rfl, hlt, ρ3, zs, xs, r3, so2, ha3, iz3, w⟩
          | true =>
            rw [if_pos rfl]
            simp only [e2] at w
            cases e3 : k ρ3 with
            | exc x ρ4 => simp only [e3] at w; cases w
            | bad => simp only [e3] at w; cases w
            | ok p3 =>
              obtain ⟨d4, ρ4⟩ := p3
              simp only [e3] at w
              refine we ρ3 σ2 H3 _ r3 ?_
              rw [e3]
              intro y4 H4 r4 i4 g4
              have ha4 : H4 acc = some (.lst xs) := g4.ext.at_ _ _ (accC σ2 so2) ha3
              have hsz : qD (zs.length + 1) = true := by
                cases e5 : qD (zs.length + 1) with
                | true => rfl
                | false => rw [e5] at w; simp at w
              rw [if_pos hsz] at w
              have hsz' : zs.length + 1 <= sizeLine := of_decide_eq_true hsz
              have r5 := r4.grow (ys := xs ++ [y4]) ha4 (fun j hj e => accC σ2 so2 j hj e)
              have ext5 : Ext (Cn (cin (Cn c σ) H1 (foO fo) (vY σ fo) acc fun j => (qp nt fr σ)[j]?) σ2) H4 (upd H4 acc (.lst (xs ++ [y4]))) := ⟨fun b us hb => by rw [qm (uh hb ha4 (by intro z; cases z))]; exact hb, fun b o u hb => by rw [qm (uh hb ha4 (by intro z; cases z))]; exact hb, fun b o hb hq => by rw [qm hb.1.2]; exact hq⟩
              refine ⟨xs, ha4, by rw [iz3.length]; omega, ds.length - (i + 1), by omega, rfl, hlt, ρ4, zs ++ [d4], xs ++ [y4], r5, so2, qr, ?_, w⟩
              exact IsL.append (IsL.ext ext5 (fun _ h _ => h) (g4.isL iz3)) (IsL.one (Is.ext ext5 (fun _ h _ => h) i4))
    . have hie : i = ds.length := by omega
      subst hie
      rw [List.drop_of_length_le (Nat.le_refl _)] at w
      unfold qT at w
      cases w
      obtain ⟨r6, g6⟩ := r1.leave hn hfo (fun i j e => so i (by rw [e]; simp [foO])) r'
      exact .inl ⟨iok.stop H' ex, h1 _ H' r6 ⟨acc, xs, rfl, r1.new hn, ha, IsL.ext Ext.refl (fun a ha hs => ha.1.1) iz⟩ g6⟩
theorem qiD {i : Nat} {x : Str} {pos' spos pos : Pos} {tg it elt : Expr} {ifs : List Expr} {scope : Scope} {N' : List Str} {nt : Nat} {fr : List Nat} {f : M D} (hN : X.N.Nodup) (h : DC X c tg it elt ifs scope N' nt fr f) (hc : X.calm = true) (S : zR X scope N' nt fr)
    (ho : i ∉ c.O := by exact of_decide_eq_false rfl) (hix : X.N[i]? = some x := by rfl) (hx : Loc X.env.scope x := by first | exact Or.inl rfl | exact Or.inr rfl) (hfx : X.fn x = true \/ X.env.scope.names.lookup x = some .local := by first | exact .inl rfl | exact .inr rfl | assumption)
    (hsw : swapsWith (.ListComp elt [⟨tg, it, ifs, 0⟩] scope pos) (some (.Name x pos')) spos.line X.env = pure true := by rfl) (hs : ∀ x, foldedSetIterable it X.env x = pure x := by intro _; rfl) :
    DS X c (.Assign [.Name x pos'] (.ListComp elt [⟨tg, it, ifs, 0⟩] scope pos) spos) (zM i f) := by
  obtain ⟨wi, pi, w⟩ := h
  refine ⟨_, qiB hN hix hx hfx hc pi S hsw hs, fun ρ σ H D r h => w ρ σ H _ r (Wp.sbnd h fun d ρ1 v H1 r1 i1 g1 h1 => ?_)⟩
  exact h1 _ H1 (r1.set ho i1) (.set ho)
end
end L2.Sk
namespace L2.Sk
open PySem PySem.Spec PyProof.Rows
def qbU : List Int -> Int
  | [] => 0
  | [n] => n
  | n :: m :: ns => max n (qbU (m :: ns))
def qbt : List Int -> Int
  | [] => 0
  | [n] => n
  | n :: m :: ns => min n (qbt (m :: ns))
theorem qcK : ∀ (n : Int) (ns : List Int), qbU (n :: ns) ∈ n :: ns
  | n, [] => List.mem_cons_self
  | n, m :: ns => by
    have h := qcK m ns
    show max n (qbU (m :: ns)) ∈ _
    rw [Int.max_def]
    split
    . exact List.mem_cons_of_mem _ h
    . exact List.mem_cons_self
theorem qeU : ∀ (n : Int) (ns : List Int), ∀ k ∈ n :: ns, k <= qbU (n :: ns)
  | n, [] => fun k hk => by
    have : k = n := by simpa using hk
    rw [this]; exact Int.le_refl _
  | n, m :: ns => fun k hk => by
    have h := qeU m ns
    show k <= max n (qbU (m :: ns))
    rcases List.mem_cons.mp hk with rfl | hk
    . exact Int.le_max_left ..
    . exact Int.le_trans (h k hk) (Int.le_max_right ..)
theorem qcL : ∀ (n : Int) (ns : List Int), qbt (n :: ns) ∈ n :: ns
  | n, [] => List.mem_cons_self
  | n, m :: ns => by
    have h := qcL m ns
    show min n (qbt (m :: ns)) ∈ _
    rw [Int.min_def]
    split
    . exact List.mem_cons_self
    . exact List.mem_cons_of_mem _ h
theorem qeV : ∀ (n : Int) (ns : List Int), ∀ k ∈ n :: ns, qbt (n :: ns) <= k
  | n, [] => fun k hk => by
    have : k = n := by simpa using hk
    rw [this]; exact Int.le_refl _
  | n, m :: ns => fun k hk => by
    have h := qeV m ns
    show min n (qbt (m :: ns)) <= k
    rcases List.mem_cons.mp hk with rfl | hk
    . exact Int.min_le_left ..
    . exact Int.le_trans (Int.min_le_right ..) (h k hk)
theorem qas {ns : List Int} {z : Int} (h1 : z ∈ ns) (h2 : ∀ n ∈ ns, n <= z) : qbU ns = z := by
  cases ns with
  | nil => cases h1
  | cons n ns => exact Int.le_antisymm (h2 _ (qcK n ns)) (qeU n ns z h1)
theorem qat {ns : List Int} {z : Int} (h1 : z ∈ ns) (h2 : ∀ n ∈ ns, z <= n) : qbt ns = z := by
  cases ns with
  | nil => cases h1
  | cons n ns => exact Int.le_antisymm (qeV n ns z h1) (h2 _ (qcL n ns))
theorem jB {zs : Array (Int × Tok)} {i : Nat} (h : i < zs.size) : (zs.toList.map (·.1))[i]? = some (numAt zs i) := by
  have h' : i < zs.toList.length := by simpa using h
  rw [List.getElem?_map, List.getElem?_eq_getElem h']
  simp [numAt, h]
section
variable {X : Cx}
theorem qeW (hc : X.calm = true) : jN X (.builtin "max") (fun xs H Q => ∃ (p : Addr) (ns : List Int), xs = [.ref p] /\ H p = some (.lst (ns.map V.int)) /\ ns ≠ [] /\ Q (.int (qbU ns)) H) := by
  intro pins s σ H xs us Q I r h
  obtain ⟨p, ns, rfl, hp, hne, q⟩ := h
  obtain ⟨u, rfl, ru⟩ := qQ.one r
  cases ru
  obtain ⟨its, rv, pl, hz⟩ := I.list (SqL.of hp)
  have hl := pl.isList
  have hi : IntsAre its ns := yr rv
  obtain ⟨zs, hx⟩ := hi.allInts.items
  have hl' : s.heap.IsList p (intItems zs) := hx ▸ hl
  have e1 : ns = zs.toList.map (·.1) := by
    rw [<- nums_intItems, <- hx]
    exact (show numsOf its.toArray.toList = ns from hi.numsOf).symm
  have hsz : 0 < zs.size := by
    cases hzz : zs.toList with
    | nil => rw [hzz] at e1; exact absurd e1 hne
    | cons a b =>
      have : zs.size = zs.toList.length := by simp
      rw [this, hzz]; simp
  refine max_intList (I.ok.hd hc) hl' hsz fun v h' tk hv hk => ?_
  obtain ⟨t, rfl⟩ := intItems_at hv
  obtain ⟨b1, b2⟩ := argBest_gt (numAt zs) (zs.size - 1)
  have e2 : qbU ns = numAt zs (argBest (fun i j => decide (numAt zs i > numAt zs j)) (zs.size - 1)) := by
    refine qas ?_ fun n hn => ?_
    . rw [e1]
      exact List.mem_of_getElem? (jB (by omega))
    . rw [e1] at hn
      obtain ⟨j, hj⟩ := List.mem_iff_getElem?.mp hn
      have hj2 : j < zs.size := by
        have := (List.getElem?_eq_some_iff.mp hj).1
        simpa using this
      rw [jB hj2] at hj
      cases hj
      exact b2 j (by omega)
  rw [<- e2]
  exact ⟨.int _, H, I.kept hk, ⟨_, rfl⟩, q⟩
theorem qeX (hc : X.calm = true) : jN X (.builtin "min") (fun xs H Q => ∃ (p : Addr) (ns : List Int), xs = [.ref p] /\ H p = some (.lst (ns.map V.int)) /\ ns ≠ [] /\ Q (.int (qbt ns)) H) := by
  intro pins s σ H xs us Q I r h
  obtain ⟨p, ns, rfl, hp, hne, q⟩ := h
  obtain ⟨u, rfl, ru⟩ := qQ.one r
  cases ru
  obtain ⟨its, rv, pl, hz⟩ := I.list (SqL.of hp)
  have hl := pl.isList
  have hi : IntsAre its ns := yr rv
  obtain ⟨zs, hx⟩ := hi.allInts.items
  have hl' : s.heap.IsList p (intItems zs) := hx ▸ hl
  have e1 : ns = zs.toList.map (·.1) := by
    rw [<- nums_intItems, <- hx]
    exact (show numsOf its.toArray.toList = ns from hi.numsOf).symm
  have hsz : 0 < zs.size := by
    cases hzz : zs.toList with
    | nil => rw [hzz] at e1; exact absurd e1 hne
    | cons a b =>
      have : zs.size = zs.toList.length := by simp
      rw [this, hzz]; simp
  refine min_intList (I.ok.hd hc) hl' hsz fun v h' tk hv hk => ?_
  obtain ⟨t, rfl⟩ := intItems_at hv
  obtain ⟨b1, b2⟩ := argBest_lt (numAt zs) (zs.size - 1)
  have e2 : qbt ns = numAt zs (argBest (fun i j => decide (numAt zs i < numAt zs j)) (zs.size - 1)) := by
    refine qat ?_ fun n hn => ?_
    . rw [e1]
      exact List.mem_of_getElem? (jB (by omega))
    . rw [e1] at hn
      obtain ⟨j, hj⟩ := List.mem_iff_getElem?.mp hn
      have hj2 : j < zs.size := by
        have := (List.getElem?_eq_some_iff.mp hj).1
        simpa using this
      rw [jB hj2] at hj
      cases hj
      exact b2 j (by omega)
  rw [<- e2]
  exact ⟨.int _, H, I.kept hk, ⟨_, rfl⟩, q⟩
end
def wL : List D -> Option D
  | [.lst ds] => match uA ds with
    | some (n :: ns) => some (.int (qbU (n :: ns)))
    | _ => none
  | _ => none
def qbu : List D -> Option D
  | [.lst ds] => match uA ds with
    | some (n :: ns) => some (.int (qbt (n :: ns)))
    | _ => none
  | _ => none
theorem qdB {K : Fr0} : vx K wL (fun xs H Q => ∃ (p : Addr) (ns : List Int), xs = [.ref p] /\ H p = some (.lst (ns.map V.int)) /\ ns ≠ [] /\ Q (.int (qbU ns)) H) := by
  intro A H xs d vs Q hn h e k
  unfold wL at e
  split at e
  . obtain ⟨v, rfl, a, zs, rfl, _, ta, il⟩ := IsL.inv1 h
    split at e
    . rename_i n ns hi
      cases e
      rw [jI il hi] at ta
      exact ⟨a, n :: ns, rfl, ta, by simp, k _ H (z8.refl H) rfl⟩
    . cases e
  . cases e
theorem qdC {K : Fr0} : vx K qbu (fun xs H Q => ∃ (p : Addr) (ns : List Int), xs = [.ref p] /\ H p = some (.lst (ns.map V.int)) /\ ns ≠ [] /\ Q (.int (qbt ns)) H) := by
  intro A H xs d vs Q hn h e k
  unfold qbu at e
  split at e
  . obtain ⟨v, rfl, a, zs, rfl, _, ta, il⟩ := IsL.inv1 h
    split at e
    . rename_i n ns hi
      cases e
      rw [jI il hi] at ta
      exact ⟨a, n :: ns, rfl, ta, by simp, k _ H (z8.refl H) rfl⟩
    . cases e
  . cases e
end L2.Sk
namespace L2.Sk
open PySem PySem.Spec PyProof.Rows
def jY (t : M Bool) (b : MS) : Nat -> MS
  | 0, _ => .bad
  | n + 1, ρ => match t ρ with
    | .ok (true, ρ1) => match b ρ1 with
      | .ok (.nx ρ2) => jY t b n ρ2
      | .ok (.ct ρ2) => jY t b n ρ2
      | .ok (.bk ρ2) => .ok (.nx ρ2)
      | .ok (.rt d ρ2) => .ok (.rt d ρ2)
      | .exc x ρ2 => .exc x ρ2
      | .bad => .bad
    | .ok (false, ρ1) => .ok (.nx ρ1)
    | .exc x ρ1 => .exc x ρ1
    | .bad => .bad
open Classical in
noncomputable def uV (t : M Bool) (b : MS) : MS := fun ρ => if h : ∃ n, jY t b n ρ ≠ .bad then jY t b h.choose ρ else .bad
theorem y8 {t : M Bool} {b : MS} : ∀ {n : Nat} {ρ : Env} (k : Nat), jY t b n ρ ≠ .bad -> jY t b (n + k) ρ = jY t b n ρ
  | 0, ρ, k, h => absurd rfl h
  | n + 1, ρ, k, h => by
    have e : n + 1 + k = (n + k) + 1 := by omega
    rw [e]
    unfold jY at h |-
    cases et : t ρ with
    | ok p =>
      obtain ⟨v, ρ1⟩ := p
      rw [et] at h
      cases v with
      | false => rfl
      | true =>
        dsimp only at h |-
        cases eb : b ρ1 with
        | ok fl =>
          rw [eb] at h
          cases fl with
          | nx ρ2 => exact y8 k h
          | ct ρ2 => exact y8 k h
          | bk ρ2 => rfl
          | rt d ρ2 => rfl
        | exc x ρ2 => rfl
        | bad => rfl
    | exc x ρ1 => rfl
    | bad => rfl
theorem qeY {t : M Bool} {b : MS} {n : Nat} {ρ : Env} {r : R Fl} (h : jY t b n ρ = r) (hb : r ≠ .bad) : uV t b ρ = r := by
  have hx : ∃ n, jY t b n ρ ≠ .bad := ⟨n, by rw [h]; exact hb⟩
  unfold uV
  rw [dif_pos hx]
  have hc := hx.choose_spec
  generalize hx.choose = m at hc
  rcases Nat.le_total m n with hl | hl
  . obtain ⟨k, rfl⟩ := Nat.exists_eq_add_of_le hl
    rw [<- y8 k hc]; exact h
  . obtain ⟨k, rfl⟩ := Nat.exists_eq_add_of_le hl
    rw [y8 k (by rw [h]; exact hb)]; exact h
theorem qdD {t : M Bool} {b : MS} {ρ : Env} : ∃ n, uV t b ρ = jY t b n ρ := by
  unfold uV
  split
  . exact ⟨_, rfl⟩
  . exact ⟨0, rfl⟩
section
variable {X : Cx} {c : Fc} {pos : Pos}
theorem qgl {e : Expr} {body : List Stmt} {t : M Bool} {b : MS} (hp : PassesOwn (model X.prog X.w) X.A X.env X.xe) (ht : DT X c e t) (hb : DSs X c body b) : DS X c (.While e body [] pos) (uV t b) := by
  obtain ⟨tc, pc, wc⟩ := ht
  obtain ⟨tb, pb, wb⟩ := hb
  refine ⟨_, qfU hp pc pb, fun ρ σ H D' r h => ?_⟩
  obtain ⟨n, en⟩ := qdD (t := t) (b := b) (ρ := ρ)
  rw [en] at h
  refine ⟨fun m σ' H' => ∃ ρ', Rep X.K c ρ' σ' H' /\ WpS X.K c σ' H' D' (jY t b m ρ'), ⟨n, ρ, r, h⟩, ?_⟩
  rintro m σ' H' ⟨ρ', r', w⟩
  cases m with
  | zero => exact w.elim
  | succ m =>
    unfold jY at w
    refine wc ρ' σ' H' _ r' ?_
    cases et : t ρ' with
    | bad => rw [et] at w; exact w
    | exc x ρ1 => rw [et] at w; exact fun H1 r1 g1 => w σ' H1 r1 g1.s
    | ok p =>
      obtain ⟨v, ρ1⟩ := p
      rw [et] at w
      intro H1 r1 g1
      cases v with
      | false =>
        rw [if_neg Bool.false_ne_true]
        exact w σ' H1 r1 g1.s
      | true =>
        rw [if_pos rfl]
        dsimp only at w
        refine ⟨fun σ2 H2 => ∃ ρ2, Rep X.K c ρ2 σ2 H2 /\ WpS X.K c σ2 H2 D' (jY t b m ρ2), fun σ2 H2 q => ⟨m, Nat.lt_succ_self m, q⟩, wb ρ1 σ' H1 _ r1 ?_⟩
        have w2 := w.gr g1.s
        cases e2 : b ρ1 with
        | ok fl =>
          cases fl with
          | nx ρ3 => simp only [e2] at w2; exact fun σ3 H3 r3 g3 => ⟨ρ3, r3, w2.gr g3⟩
          | ct ρ3 => simp only [e2] at w2; exact fun σ3 H3 r3 g3 => ⟨ρ3, r3, w2.gr g3⟩
          | bk ρ3 => simp only [e2] at w2; exact w2
          | rt d ρ3 => simp only [e2] at w2; exact w2
        | exc x ρ3 => simp only [e2] at w2; exact w2
        | bad => simp only [e2] at w2; exact w2
end
end L2.Sk
namespace L2.Sk
open PySem PySem.Spec PyProof.Rows
def qle (K : Fr0) (a : Addr) (ns : List Int) : Prop := ∃ (o : Obj) (its : Array Value) (n : Nat), K.lookup a = some o /\ o.cls = .type "tuple" /\ o.data = .seq its n /\ its.size <= sizeLine /\ qQ (ns.map V.int) its.toList
theorem qle.is {K : Fr0} {a : Addr} {ns : List Int} (h : qle K a ns) (H : Hp) (A : Addr -> Prop) : Is K A H (.tup (ns.map .int)) (.ref a) := ⟨a, _, rfl, .inr h, vF ns⟩
theorem qgm {X : Cx} {c : Fc} {x : Str} {a : Addr} {ns : List Int} {pos : Pos} (hg : Gl X x) (hm : X.mg x = some (.ref a)) (ht : qle X.K a ns) (hdb : (x == ("__debug__" : Str)) = false := by decide) : DE X c (.Name x pos) (ret (.tup (ns.map .int))) :=
  qer (v := .ref a) hg hm rfl (fun H A => ht.is H A) hdb
end L2.Sk
namespace L2.Sk
open PySem PySem.Spec PyProof.Rows
def qau (h : Heap) (e T : Addr) (cls : Value) : Prop :=
  ∃ oe vs oT ts a0, h.get? e = some oe /\ (oe.cls = cls /\ vs[2]? = some .none /\ vs[0]? = some a0) /\ oe.data = .fields vs /\ vs[1]? = some (.ref T) /\ T ≠ e /\ h.get? T = some oT /\ oT.data = .fields ts /\ ts[3]? = some .none
def CX1 (P : Program) (w : World) : CXT := fun outer H s E u s' => ∃ e T C H', u = .ref e /\ s'.os = s.os /\ AllBare s'.gens /\ Un (frs outer) [] H H' s.heap s'.heap /\ HOk P w H' s'.heap /\
  s.heap.get? e = none /\ s.heap.get? T = none /\ H' e = none /\ H' T = none /\ qau s'.heap e T (.ref C) /\ E (.ref C) none H'
structure Lft (h h' : Heap) (ch fs : List Addr) : Prop where
  keep : ∀ b o, b ∉ ch -> b ∉ fs -> h.get? b = some o -> h'.get? b = some o
  slot : ∀ b o, b ∈ fs -> h.get? b = some o -> ∃ sl, h'.get? b = some { o with slots := sl }
section
variable {M : Model} {A : Around} {E : Value -> Shared -> Prop} {s : Shared}
abbrev vd : Obj -> Obj := Obj.mapFields (·.setIfInBounds 3 Value.none)
theorem qiE {base : Heap} {l : List PySem.Env} {h : Heap} {b : Addr} {o : Obj} {vs : Array Value} (hl : h.FunFrames base l) (hb : h.get? b = some o) (hd : o.data = .fields vs) : b ∉ frs l := fun z => by
  obtain ⟨_, o', ho', hn⟩ := hl.mem z
  rw [hb] at ho'
  cases ho'
  exact hn vs hd
theorem qcM {e T : Addr} {oe oT : Obj} {vs ts : Array Value} {Q : Unit -> Shared -> Prop} (he : s.heap.get? e = some oe) (hd : oe.data = .fields vs) (h1 : vs[1]? = some (.ref T)) (hT : s.heap.get? T = some oT) (hdT : oT.data = .fields ts) (h3 : 3 < ts.size)
    (k : Q () { s with heap := s.heap.update T vd }) : wpAny M A (setFlight (.ref e) none) Q E s := by
  unfold setFlight
  refine wpAny_bind (wpAny_field he hd h1 ?_)
  have t : (Value.ref T != Value.none) = true := by simp
  rw [if_pos t]
  exact wpAny_setField hT hdT h3 k
theorem ve {h : Heap} {T : Addr} {oT : Obj} {ts : Array Value} (hT : h.get? T = some oT) (hdT : oT.data = .fields ts) (h3 : 3 < ts.size) : ∃ o2 t2, (h.update T vd).get? T = some o2 /\ o2.data = .fields t2 /\ t2[3]? = some .none :=
  ⟨_, _, Heap.get?_update_self _ hT (Obj.isFreed_of_fields (Obj.data_mapFields hdT _)), Obj.data_mapFields hdT _, by simp [h3]⟩
theorem zg {h : Heap} {T b : Addr} (n : b ≠ T) : (h.update T vd).get? b = h.get? b := Heap.get?_update_other _ _ (Ne.symm n)
theorem qgn {base : Heap} {env : PySem.Env} {outer : List PySem.Env} {L e : Addr} {oe : Obj} {vs : Array Value} {head : Value} {had : Bool} {Q : Unit -> Shared -> Prop} (hfr : A.frames = some (env :: outer)) (hl : s.heap.FunFrames base (env :: outer)) (hf : env.frame = some L)
    (he : s.heap.get? e = some oe) (hd : oe.data = .fields vs) (h1 : 1 < vs.size)
    (k : ∀ h' T, s.heap.get? T = none -> T ≠ e -> (∀ b o, b ≠ e -> b ∉ frs (env :: outer) -> s.heap.get? b = some o -> h'.get? b = some o) -> (∀ b o, b ∈ frs (env :: outer) -> s.heap.get? b = some o -> ∃ sl, h'.get? b = some { o with slots := sl }) ->
      h'.get? e = some (Obj.mapFields (·.setIfInBounds 1 (Value.ref T)) oe) -> (∃ oT ts, h'.get? T = some oT /\ oT.data = .fields ts /\ 3 < ts.size) -> h'.FunFrames base (env :: outer) -> Q () { s with heap := h' }) :
    wpAny M A (do let a <- frameOf env; let pl <- entryPlaceOf L had; let b <- EntryCells.newEntry head a .none (rawInt L) .none pl; setField (.ref e) 1 b) Q E s := by
  have hene := qiE hl he hd
  refine wpAny_bind (wpAny_frameOf_fun hfr hl hf fun h₁ hs₁ => wpAny_bind (wpAny_entryPlaceOf fun pl hpl => ?_))
  unfold EntryCells.newEntry newFields
  have he₁ : h₁.get? e = some oe := (hs₁.2.1 e hene).trans he
  refine wpAny_bind (wpAny_newObj_type ?_ (hpl.sizeOk5 _ _ _ _ _))
  generalize hob : ({ cls := Value.type "traceback", dict := none, data := Data.fields ([head, Value.ref L, Value.none, rawInt L, Value.none] ++ (if pl.isEmpty then List.replicate 6 Value.none else pl)).toArray } : Obj) = ob
  have nT : h₁.objs.size ≠ e := Nat.ne_of_gt (Heap.lt_size he₁)
  have hnT : s.heap.get? h₁.objs.size = none := by
    cases q : s.heap.get? h₁.objs.size with
    | none => rfl
    | some o =>
      obtain ⟨sl, q'⟩ := hs₁.2.2 _ o q
      exact absurd (Heap.lt_size q') (Nat.lt_irrefl _)
  refine wpAny_setField (Heap.get?_push_of_some _ he₁) hd h1 ?_
  have keep : ∀ b o, b ≠ e -> h₁.get? b = some o -> ((h₁.push ob).update e (Obj.mapFields (·.setIfInBounds 1 (Value.ref h₁.objs.size)))).get? b = some o := fun b o hb q => (Heap.get?_update_other _ _ (Ne.symm hb)).trans (Heap.get?_push_of_some _ q)
  refine k _ h₁.objs.size hnT nT (fun b o hb hf q => keep b o hb ((hs₁.2.1 b hf).trans q)) (fun b o hb q => ?_) (Heap.get?_update_self _ (Heap.get?_push_of_some _ he₁) (Obj.isFreed_of_fields (Obj.data_mapFields hd _))) ⟨ob, ([head, Value.ref L, Value.none, rawInt L, Value.none] ++ (if pl.isEmpty then List.replicate 6 Value.none else pl)).toArray, ?_, by rw [<- hob], by simp⟩ (hl.of_keeps fun b o q hn => ?_)
  . obtain ⟨sl, q'⟩ := hs₁.2.2 b o q
    exact ⟨sl, keep b _ (fun z => hene (z ▸ hb)) q'⟩
  . exact (Heap.get?_update_other _ _ (Ne.symm nT)).trans (Heap.get?_push_size _ (by rw [<- hob]; rfl))
  . obtain ⟨sl, q'⟩ := hs₁.2.2 b o q
    exact ⟨_, keep b _ (fun z => by subst z; rw [he] at q; cases q; exact hn vs hd) q', rfl⟩
theorem qcN {base : Heap} {env : PySem.Env} {outer : List PySem.Env} {L e : Addr} {oe : Obj} {vs : Array Value} {a0 head : Value} {had : Bool} {Q : Unit -> Shared -> Prop} (hfr : A.frames = some (env :: outer)) (hl : s.heap.FunFrames base (env :: outer)) (hf : env.frame = some L)
    (he : s.heap.get? e = some oe) (hd : oe.data = .fields vs) (h1 : 1 < vs.size) (h2 : vs[2]? = some .none) (h0 : vs[0]? = some a0)
    (k : ∀ h' T', Lft s.heap h' [e] (frs (env :: outer)) -> qau h' e T' oe.cls -> s.heap.get? T' = none -> Q () { s with heap := h' }) :
    wpAny M A (do let a <- frameOf env; let pl <- entryPlaceOf L had; let b <- EntryCells.newEntry head a .none (rawInt L) .none pl; setField (.ref e) 1 b) (fun _ s' => wpAny M A (setFlight (.ref e) none) Q E s') E s := by
  refine qgn hfr hl hf he hd h1 fun h' T nT ne kp sl ee eT _ => ?_
  obtain ⟨oT, ts, gT, dT, sT⟩ := eT
  have dd := Obj.data_mapFields hd (·.setIfInBounds 1 (Value.ref T))
  refine qcM (s := { s with heap := h' }) ee dd (by simp [h1]) gT dT sT ?_
  obtain ⟨o2, t2, q1, q2, q3⟩ := ve gT dT sT
  have nf : ∀ b o, s.heap.get? b = some o -> b ≠ T := fun b o q z => by rw [z, nT] at q; cases q
  refine k _ T ⟨fun b o hb hf q => (zg (nf b o q)).trans (kp b o (by simpa using hb) hf q), fun b o hb q => ?_⟩ ⟨_, _, o2, t2, a0, (zg (Ne.symm ne)).trans ee, ⟨Obj.cls_mapFields _ _, ?_, ?_⟩, dd, by simp [h1], ne, q1, q2, q3⟩ nT
  . obtain ⟨sl, q'⟩ := sl b o hb q
    exact ⟨sl, (zg (nf b o q)).trans q'⟩
  . rw [Array.getElem?_setIfInBounds_ne (by decide)]; exact h2
  . rw [Array.getElem?_setIfInBounds_ne (by decide)]; exact h0
theorem wj {base : Heap} {env : PySem.Env} {outer : List PySem.Env} {L e T : Addr} {cls : Value} {Q : Unit -> Shared -> Prop} (hfr : A.frames = some (env :: outer)) (hl : s.heap.FunFrames base (env :: outer)) (hf : env.frame = some L) (F : qau s.heap e T cls)
    (k : ∀ h' T', Lft s.heap h' [e, T] (frs (env :: outer)) -> qau h' e T' cls -> (T' = T \/ s.heap.get? T' = none) -> Q () { s with heap := h' }) :
    wpAny M A (noteFrame (.ref e) env) (fun _ s₂ => wpAny M A (setFlight (.ref e) none) Q E s₂) E s := by
  obtain ⟨oe, vs, oT, ts, a0, he, ⟨hc, h2, h0⟩, hd, h1, hne, hT, hdT, h3⟩ := F
  subst hc
  have z3 : 3 < ts.size := (Array.getElem?_eq_some_iff.mp h3).1
  have z1 : 1 < vs.size := (Array.getElem?_eq_some_iff.mp h1).1
  have tT : (Value.ref T != Value.none) = true := by simp
  have tL : ¬ ((Value.none == rawInt L) = true) := by simp [rawInt]
  have nf := qiE hl hT hdT
  unfold noteFrame
  simp only [hf]
  refine wpAny_bind (wpAny_field he hd h1 ?_)
  rw [if_pos tT]
  refine wpAny_bind (wpAny_field hT hdT h3 ?_)
  rw [if_neg tL]
  refine wpAny_bind (wpAny_setField hT hdT z3 ?_)
  have hl1 : (s.heap.update T vd).FunFrames base (env :: outer) := hl.of_keeps fun b o q hn => ⟨o, (zg fun z => by subst z; rw [hT] at q; cases q; exact hn ts hdT).trans q, rfl⟩
  refine qcN (s := { s with heap := s.heap.update T vd }) hfr hl1 hf ((zg (Ne.symm hne)).trans he) hd z1 h2 h0 fun h' T' x y z => ?_
  refine k h' T' ⟨fun b o hb hf q => ?_, fun b o hb q => ?_⟩ y (.inr ?_)
  . simp only [List.mem_cons, List.not_mem_nil, or_false, not_or] at hb
    exact x.keep b o (by simpa using hb.1) hf ((zg hb.2).trans q)
  . exact x.slot b o hb ((zg fun (z : b = T) => nf (z ▸ hb)).trans q)
  . by_cases e2 : T' = T
    . subst e2
      obtain ⟨_, _, q, _⟩ := ve hT hdT z3
      have z' : (s.heap.update T' vd).get? T' = none := z
      rw [q] at z'; cases z'
    . exact (zg e2).symm.trans z
theorem qdE {base : Heap} {env : PySem.Env} {outer : List PySem.Env} {L e T : Addr} {cls : Value} {Q : Unit -> Shared -> Prop} (hfr : A.frames = some (env :: outer)) (hl : s.heap.FunFrames base (env :: outer)) (hf : env.frame = some L) (F : qau s.heap e T cls)
    (k : ∀ h' T', Lft s.heap h' [e, T] (frs (env :: outer)) -> qau h' e T' cls -> (T' = T \/ s.heap.get? T' = none) -> Q () { s with heap := h' }) : wpAny M A (leaving env (.ref e)) Q E s := by
  unfold leaving
  exact wpAny_bind (wj hfr hl hf F k)
theorem qdF {base h : Heap} {env : PySem.Env} {outer : List PySem.Env} {L e : Addr} {cls : Value} {args : List Value} {Q : Unit -> Shared -> Prop} (hfr : A.frames = some (env :: outer)) (hl : h.FunFrames base (env :: outer)) (hf : env.frame = some L) (hx : Heap.MadeExcOf h s.heap e cls args)
    (k : ∀ h' T', Lft s.heap h' [e] (frs (env :: outer)) -> qau h' e T' cls -> s.heap.get? T' = none -> Q () { s with heap := h' }) : wpAny M A (leaving env (.ref e)) Q E s := by
  obtain ⟨t, he, htn, ht⟩ := hx.there
  have hl1 : s.heap.FunFrames base (env :: outer) := hl.of_keeps fun b o q _ => ⟨o, hx.keeps b o q, rfl⟩
  unfold leaving noteFrame
  simp only [hf]
  refine wpAny_bind (wpAny_bind (wpAny_field he rfl (x := .none) rfl ?_))
  rw [if_neg (by decide)]
  exact qcN hfr hl1 hf he rfl (of_decide_eq_true rfl) rfl rfl k
theorem wX {base : Heap} {l : List PySem.Env} {e T : Addr} {cls : Value} {Q : Unit -> Shared -> Prop} (hl : s.heap.FunFrames base l) (F : qau s.heap e T cls)
    (k : ∀ h' T', Lft s.heap h' [e, T] (frs l) -> qau h' e T' cls -> (T' = T \/ s.heap.get? T' = none) -> Q () { s with heap := h' }) :
    wpAny M A (setFlight (.ref e) none) Q E s := by
  obtain ⟨oe, vs, oT, ts, a0, he, hc, hd, h1, hne, hT, hdT, h3⟩ := F
  have z3 : 3 < ts.size := (Array.getElem?_eq_some_iff.mp h3).1
  have nf := qiE hl hT hdT
  refine qcM he hd h1 hT hdT z3 ?_
  obtain ⟨o2, t2, q1, q2, q3⟩ := ve hT hdT z3
  refine k _ T ⟨fun b o hb _ q => ?_, fun b o hb q => ⟨o.slots, (zg fun (z : b = T) => nf (z ▸ hb)).trans q⟩⟩ ⟨oe, vs, o2, t2, a0, (zg (Ne.symm hne)).trans he, hc, hd, h1, hne, q1, q2, q3⟩ (.inl rfl)
  simp only [List.mem_cons, List.not_mem_nil, or_false, not_or] at hb
  exact (zg hb.2).trans q
end
theorem qhr {P : Program} {w : World} {H : Hp} {h h' : Heap} (x : HOk P w H h) (k : ∀ b o, (H b).isSome = true -> h.get? b = some o -> h'.get? b = some o) : HOk P w H h' := fun a o e =>
  (x a o e).stay (fun b u hb q => k b u (by rcases hb with rfl | hb; · rw [e]; rfl
                                            . rw [hb]; rfl) q) (fun _ z => z) fun _ _ z => z
theorem jT {P : Program} {w : World} {H : Hp} {h : Heap} {a : Addr} {o : HO} (x : jM P w H h a o) : ∃ u, h.get? a = some u := by
  cases o with
  | lst xs => obtain ⟨_, _, _, _, e⟩ := x; exact ⟨_, e⟩
  | tup xs => obtain ⟨_, _, _, ob, e, _⟩ := x; exact ⟨_, e⟩
  | dK kvs => obtain ⟨_, _, _, _, o, _, _, e, _⟩ := x; exact ⟨_, e⟩
  | dT kvs => obtain ⟨_, _, _, _, o, _, _, e, _⟩ := x; exact ⟨_, e⟩
  | set S n => obtain ⟨o, _, _, _, e, _⟩ := x; exact ⟨_, e⟩
  | ins C dx fs => obtain ⟨_, _, _, e, _⟩ := x; exact ⟨_, e⟩
  | own y => obtain ⟨_, e⟩ := x; exact ⟨_, e⟩
  | xd fs => obtain ⟨_, ⟨_, _, _, e, _⟩, _⟩ := x; exact ⟨_, e⟩
  | rng lo hi => obtain ⟨_, _, _, e⟩ := x; exact ⟨_, e⟩
  | frz ob u => obtain ⟨e, _⟩ := x; exact ⟨_, e⟩
  | tbl ps => exact ⟨_, (show h.get? a = some _ from x)⟩
  | met f y => exact ⟨_, (show h.get? a = some _ from x)⟩
  | ext φ => obtain ⟨_, e, _⟩ := x; exact e
section
variable {X : Cx} {pins : List (Addr × Obj)} {σ : St} {H : Hp} {s : Shared}
theorem qcO {H' : Hp} {s' : Shared} {h' : Heap} {ch : List Addr} (I : Inv X pins σ H s) (hs : X.stack = X.env :: X.outer) (hf : X.env.frame = some X.env.locals) (hex : X.ex = [])
    (u : Un (frs X.stack) [] H H' s.heap s'.heap) (hok : HOk X.prog X.w H' s'.heap) (hch : ∀ b ∈ ch, H' b = none) (hchn : ∀ b ∈ ch, s.heap.get? b = none) (x : Lft s'.heap h' ch (frs X.stack)) :
    Un (frs X.outer) [] X.H₀ H' X.s₀.heap h' /\ HOk X.prog X.w H' h' := by
  have hfs : frs X.stack = X.env.locals :: frs X.outer := by rw [hs]; unfold frs; rw [List.filterMap_cons, hf]
  have hb := I.base
  rw [hex] at hb
  have nL : ∀ b o, X.s₀.heap.get? b = some o -> b ≠ X.env.locals := fun b o q z => absurd (Nat.lt_of_lt_of_le (Heap.lt_size q) (z ▸ I.ok.above)) (Nat.lt_irrefl _)
  have nch : ∀ b o, X.s₀.heap.get? b = some o -> b ∉ ch := fun b o q z => by
    obtain ⟨o', q'⟩ := hb.there b o q (by simp)
    rw [hchn b z] at q'; cases q'
  have nfs : ∀ b o, X.s₀.heap.get? b = some o -> b ∉ frs X.outer -> b ∉ frs X.stack := fun b o q z y => by
    rw [hfs] at y
    exact (List.mem_cons.mp y).elim (nL b o q) z
  have yfs : ∀ b, b ∈ frs X.outer -> b ∈ frs X.stack := fun b z => by rw [hfs]; exact List.mem_cons_of_mem _ z
  refine ⟨⟨fun b o q n hb1 _ => ?_, fun b o q n hb1 _ => ?_, fun b o q n _ => ?_, fun b o q _ => ?_, fun b xs q => u.tups b xs (hb.tups b xs q), fun b o v q => u.frzs b o v (hb.frzs b o v q), fun b ps q => ?_⟩, ?_⟩
  . exact x.keep b o (nch b o q) (nfs b o q hb1) (u.keep b o (hb.keep b o q n hb1 (by simp)) (hb.free b o q n (by simp)) (nfs b o q hb1) (by simp))
  . obtain ⟨sl, q1⟩ := hb.slot b o q n hb1 (by simp)
    obtain ⟨sl2, q2⟩ := u.slot b _ q1 (hb.free b o q n (by simp)) (yfs b hb1) (by simp)
    obtain ⟨sl3, q3⟩ := x.slot b _ (yfs b hb1) q2
    exact ⟨sl3, q3⟩
  . obtain ⟨o', q'⟩ := hb.there b o q (by simp)
    exact u.free b o' q' (hb.free b o q n (by simp)) (by simp)
  . obtain ⟨o1, q1⟩ := hb.there b o q (by simp)
    obtain ⟨o2, q2⟩ := u.there b o1 q1 (by simp)
    by_cases hb1 : b ∈ frs X.stack
    . obtain ⟨sl, q3⟩ := x.slot b o2 hb1 q2
      exact ⟨_, q3⟩
    . exact ⟨o2, x.keep b o2 (nch b o q) hb1 q2⟩
  . obtain ⟨m1, q1⟩ := hb.tbls b ps q
    obtain ⟨m2, q2⟩ := u.tbls b _ q1
    exact ⟨m1 ++ m2, by rw [q2, Array.append_assoc]⟩
  . refine qhr hok fun b o hb1 q => x.keep b o (fun z => ?_) (fun z => ?_) q
    . rw [hch b z] at hb1; cases hb1
    . obtain ⟨_, o1, ho1, _⟩ := I.stack.mem z
      rw [u.free b o1 ho1 (I.stkFree b z) (by simp)] at hb1
      cases hb1
theorem qiF {s' : Shared} {E : XK} {u : Value} {A : Around} (I : Inv X pins σ H s) (hs : X.stack = X.env :: X.outer) (hf : X.env.frame = some X.env.locals) (hex : X.ex = []) (hA : A.frames = some X.stack) (x : CX1 X.prog X.w X.stack H s E u s') {E' : Value -> Shared -> Prop} :
    wpAny (model X.prog X.w) A (leaving X.env u) (fun _ s'' => CX1 X.prog X.w X.outer X.H₀ X.s₀ E u s'') E' s' := by
  obtain ⟨e, T, C, H', rfl, os, bare, un, hok, he, hT, hHe, hHT, F, q⟩ := x
  have hl : s'.heap.FunFrames X.base X.stack := by
    have h0 := I.stack
    have all : ∀ (l : List PySem.Env), (∀ b ∈ frs l, b ∈ frs X.stack) -> s.heap.FunFrames X.base l -> s'.heap.FunFrames X.base l := by
      intro l
      induction l with
      | nil => intro _ _; trivial
      | cons env r ih =>
        intro hss hl
        obtain ⟨hk, ⟨L, o, hf', hn, ho, hd⟩, hr⟩ := hl
        have hfr : frs (env :: r) = L :: frs r := by unfold frs; rw [List.filterMap_cons, hf']
        rw [hfr] at hss
        have hL := hss L List.mem_cons_self
        obtain ⟨sl, e⟩ := un.slot L o ho (I.stkFree L hL) hL (by simp)
        exact ⟨hk, ⟨L, _, hf', hn, e, hd⟩, ih (fun b hb => hss b (List.mem_cons_of_mem _ hb)) hr⟩
    exact all X.stack (fun _ z => z) h0
  rw [hs] at hl hA
  refine qdE hA hl hf F fun h' T' y1 y2 y3 => ?_
  rw [<- hs] at y1
  have hz : ∀ b ∈ [e, T], H' b = none := fun b hb => by
    simp only [List.mem_cons, List.not_mem_nil, or_false] at hb
    rcases hb with rfl | rfl
    . exact hHe
    . exact hHT
  have hzn : ∀ b ∈ [e, T], s.heap.get? b = none := fun b hb => by
    simp only [List.mem_cons, List.not_mem_nil, or_false] at hb
    rcases hb with rfl | rfl
    . exact he
    . exact hT
  obtain ⟨z1, z2⟩ := qcO I hs hf hex un hok hz hzn y1
  have up : ∀ b, s.heap.get? b = none -> X.s₀.heap.get? b = none := fun b hb => by
    cases q : X.s₀.heap.get? b with
    | none => rfl
    | some o =>
      obtain ⟨o', q'⟩ := I.base.there b o q (by rw [hex]; simp)
      rw [hb] at q'; cases q'
  have up' : ∀ b, s'.heap.get? b = none -> s.heap.get? b = none := fun b hb => by
    cases q : s.heap.get? b with
    | none => rfl
    | some o =>
      obtain ⟨o', q'⟩ := un.there b o q (by simp)
      rw [hb] at q'; cases q'
  have hT2 : s.heap.get? T' = none := y3.elim (fun z => z ▸ hT) (up' T')
  have hHT2 : H' T' = none := y3.elim (fun z => z ▸ hHT) fun z => by
    cases q : H' T' with
    | none => rfl
    | some o =>
      obtain ⟨o', q'⟩ := jT (hok _ _ q)
      rw [z] at q'; cases q'
  exact ⟨e, T', C, H', rfl, os.trans I.os, bare, z1, z2, up e he, up T' hT2, hHe, hHT2, y2, q⟩
end
end L2.Sk
namespace L2.Sk
open PySem PySem.Spec PyProof.Rows
structure XC (base : Heap) (C : Addr) (bm : List Value) : Prop where
  hasBase : bm.contains (.type "BaseException") = true
  ex : ∃ nm q N bs hdct sn sub ab col dd k0 k1 k2 k3 k5 newId initId B bmB mN, base.get? C = some (excClassObj nm q C N bs bm hdct sn sub ab col dd k0 k1 k2 k3 k5 newId) /\ base.Ns N mN /\ mN "__init__" = none /\ OwnTail base bmB bm /\ ExcBaseFacts B newId initId bmB
def wM (n p : Nat) (body : MS) (ds : List D) : R D := if ds.length = p then match body (jR n ds) with
  | .ok (.rt d _) => .ok d
  | .ok (.nx _) => .ok .non
  | .exc x ρ => .exc x ρ
  | _ => .bad else .bad
section
variable {X : Cx} {c : Fc} {e : Expr} {es : List Expr} {pos cpos np : Pos}
theorem qgo {x : Str} {C : Addr} {bm : List Value} {t : TA} {E : XK} (hc : X.calm = true) (hg : Gl X x) (hm : X.mg x = some (.ref C)) (xc : XC X.base C bm) (ha : PA X (e :: es) t)
    (made : ∀ pins σ H s h' a us, Inv X pins σ H s -> Heap.MadeExcOf s.heap h' a (.ref C) us -> E (.ref C) none H -> X.xe (.ref a) { s with heap := h' })
    (hd : (x == ("__debug__" : Str)) = false := by decide) (he : starEach (e :: es) X.env = (false, eval e X.env) :: starEach es X.env := by rfl) (hpl : (backTo cpos (starEach es X.env)).any (·.1) = false := by rfl) :
    PS X (.Raise (some (.Call (.Name x np) (e :: es) [] cpos)) none pos) (fun _ σ H => t σ H fun vs H1 => vs.length <= sizeLine /\ E (.ref C) none H1) := by
  intro pins s σ H D I h
  obtain ⟨nm, q, N, bs, hdct, sn, sub, ab, col, dd, k0, k1, k2, k3, k5, newId, initId, B, bmB, mN, hC, hN, hni, T, FB⟩ := xc.ex
  refine wpAny_Raise_call_subT (C := C) (nm := nm) (q := q) (N := N) (bs := bs) (bm := bm) (hdct := hdct) (sn := sn) (sub := sub) (ab := ab) (col := col) (dd := dd) (k0 := k0) (k1 := k1) (k2 := k2) (k3 := k3) (k5 := k5)
    FB (mN := mN) xc.hasBase (I.ok.hd hc) (by rw [he]; show (false || (backTo cpos (starEach es X.env)).any (·.1)) = false; rw [hpl]; rfl) hni ?_
  have hn : PE X (.Name x np) (fun _ H Q => Q (.ref C) H) := qbW hg hm rfl hd
  refine thn (hn pins s σ H (fun v H1 => v = .ref C /\ H1 = H) I ⟨rfl, rfl⟩) fun f s1 h1 => ?_
  obtain ⟨v, H1, I1, rv, rfl, rfl⟩ := h1
  refine ⟨rv, ?_⟩
  have h2 := ha cpos pins s1 σ _ _ I1 h
  rw [he] at h2 |-
  refine Calls.evalArgs_plain (thn h2 fun vs s2 h3 => ?_)
  obtain ⟨ws, H2, I2, r2, hl, hE⟩ := h3
  refine ⟨rfl, by rw [<- r2.length]; exact hl, I2.bk _ _ hC, hN.keeps I2.bk, T.keeps I2.bk, fun h' a hx => made pins σ H2 s2 h' a vs I2 hx hE⟩
structure XL (X : Cx) (c : Fc) (cl : Str -> Option Addr) (E : XK) : Prop where
  made : ∀ C pins σ H s h' a us, Inv X pins σ H s -> Heap.MadeExcOf s.heap h' a (.ref C) us -> E (.ref C) none H -> X.xe (.ref a) { s with heap := h' }
  pass : vM (CX1 X.prog X.w) X E
  wish : ∀ x C H', cl x.cls = some C -> c.E x H' -> E (.ref C) none H'
structure XL2 (X : Cx) (c : Fc) (cl : Str -> Option Addr) (E : XK) : Prop where
  pass : vM (CX1 X.prog X.w) X E
  wish : ∀ x C H', cl x.cls = some C -> c.E x H' -> E (.ref C) none H'
theorem XL.two {X : Cx} {c : Fc} {cl : Str -> Option Addr} {E : XK} (L : XL X c cl E) : XL2 X c cl E := ⟨L.pass, L.wish⟩
def wY (x : Str) (f : M (List D)) : MS := fun ρ => match f ρ with
  | .ok (ds, ρ') => if qD ds.length then .exc ⟨x, .non⟩ ρ' else .bad
  | .exc z ρ' => .exc z ρ'
  | .bad => .bad
theorem qav {x : Str} {C : Addr} {bm : List Value} {f : M (List D)} {E : XK} {cl : Str -> Option Addr} (hc : X.calm = true) (L : XL X c cl E) (hcl : cl x = some C) (hg : Gl X x) (hm : X.mg x = some (.ref C)) (xc : XC X.base C bm) (ha : DA X c (e :: es) f)
    (hd : (x == ("__debug__" : Str)) = false := by decide) (he : starEach (e :: es) X.env = (false, eval e X.env) :: starEach es X.env := by rfl) (hpl : (backTo cpos (starEach es X.env)).any (·.1) = false := by rfl) :
    DS X c (.Raise (some (.Call (.Name x np) (e :: es) [] cpos)) none pos) (wY x f) := by
  obtain ⟨t, pa, w⟩ := ha
  refine ⟨_, qgo (E := E) hc hg hm xc pa (L.made C) hd he hpl, fun ρ σ H D r h => w ρ σ H _ r ?_⟩
  unfold wY at h
  cases ef : f ρ with
  | bad => rw [ef] at h; exact h
  | exc z ρ' => rw [ef] at h; exact fun H' r' g' => h σ H' r' g'.s
  | ok p =>
    obtain ⟨ds, ρ'⟩ := p
    rw [ef] at h
    intro vs H' r' i' g'
    by_cases hs : qD ds.length = true
    . simp only [hs, if_true] at h
      exact ⟨by rw [i'.length]; exact of_decide_eq_true hs, L.wish ⟨x, .non⟩ C H' hcl (h σ H' r' g'.s)⟩
    . simp only [hs] at h
      exact h.elim
def spX (K : Fr0) (cl : Str -> Option Addr) (F : List D -> R D) : Sp := fun vs H Q E => ∃ ds A, IsL K A H ds vs /\ (∀ a, A a -> True) /\ match F ds with
  | .ok d => ∀ v H', z8 H H' -> Is K (fun a => A a \/ H a = none) H' d v -> Q v H'
  | .exc x _ => ∃ C, cl x.cls = some C /\ ∀ H', z8 H H' -> E (.ref C) none H'
  | .bad => False
def j6 (RN : List Str) (F : List D -> R D) (g : M (List D)) : M D := bnd g fun ds ρ => match F ds with
  | .ok d => .ok (d, ρ)
  | .exc x _ => if RN.contains x.cls then .exc x ρ else .bad
  | .bad => .bad
theorem qgp {k : Nat} {f : Addr} {fd : FuncData} {ps : List Str} {F : List D -> R D} {x : Str} {p : Pos} {g : M (List D)} {E : XK} {cl : Str -> Option Addr} (L : XL2 X c cl E) {RN : List Str} (hcl : ∀ n, RN.contains n = true -> (cl n).isSome = true)
    (G : yg X.prog X.w X.K X.mg X.base (CX1 X.prog X.w) k f fd ps (spX X.K cl F)) (hr : yA k X.A) (hg : Gl X x) (hm : X.mg x = some (.ref f)) (hk : PySem.W.keepIn X.K (.ref f) = true) (hb : yP X.K fd ps [])
    (ha : DA X c (e :: es) g) (hd : (x == ("__debug__" : Str)) = false := by decide) (he : starEach (e :: es) X.env = (false, eval e X.env) :: starEach es X.env := by rfl) (hpl : (backTo pos (starEach es X.env)).any (·.1) = false := by rfl) : DE X c (.Call (.Name x p) (e :: es) [] pos) (j6 RN F g) := by
  obtain ⟨t, pa, w⟩ := ha
  refine ⟨_, vN G hr hg hm hk hb .nil L.pass pa hd he hpl, fun ρ σ H Q r h => w ρ σ H _ r (WpL.bnd h fun ds ρ1 vs H1 r1 i1 g1 h1 => ?_)⟩
  rw [List.append_nil]
  refine ⟨ds, Cn c σ, i1, fun _ _ => trivial, ?_⟩
  cases ef : F ds with
  | bad => simp only [ef] at h1; exact h1.elim
  | exc z ρ' =>
    simp only [ef] at h1
    by_cases hz : RN.contains z.cls = true
    case neg => rw [if_neg hz] at h1; exact h1.elim
    rw [if_pos hz] at h1
    obtain ⟨C, hC⟩ := Option.isSome_iff_exists.mp (hcl z.cls hz)
    exact ⟨C, hC, fun H' sm => L.wish z C H' hC (h1 H' (r1.same sm) (.of_same sm))⟩
  | ok d =>
    simp only [ef] at h1
    exact fun v H' sm i => h1 v H' (r1.same sm) (Is.ext Ext.refl (fun a ha _ => ha.elim id r1.new) i) (.of_same sm)
def qcP (F : List D -> R D) (g : M (List D)) : M D := bnd g fun ds ρ => match F ds with
  | .ok d => .ok (d, ρ)
  | _ => .bad
theorem qgq {k : Nat} {f : Addr} {fd : FuncData} {ps : List Str} {F : List D -> R D} {x : Str} {p : Pos} {g : M (List D)} {cl : Str -> Option Addr}
    (G : yg X.prog X.w X.K X.mg X.base (CX1 X.prog X.w) k f fd ps (spX X.K cl F)) (hr : yA k X.A) (hg : Gl X x) (hm : X.mg x = some (.ref f)) (hk : PySem.W.keepIn X.K (.ref f) = true) (hb : yP X.K fd ps [])
    (ha : DA X c (e :: es) g) (hd : (x == ("__debug__" : Str)) = false := by decide) (he : starEach (e :: es) X.env = (false, eval e X.env) :: starEach es X.env := by rfl) (hpl : (backTo pos (starEach es X.env)).any (·.1) = false := by rfl) : DE X c (.Call (.Name x p) (e :: es) [] pos) (qcP F g) := by
  obtain ⟨t, pa, w⟩ := ha
  refine ⟨_, vN (E := fun _ _ _ => False) G hr hg hm hk hb .nil (fun _ _ _ _ _ _ _ ⟨_, _, _, _, _, _, _, _, _, _, _, _, _, _, z⟩ => z.elim) pa hd he hpl, fun ρ σ H Q r h => w ρ σ H _ r (WpL.bnd h fun ds ρ1 vs H1 r1 i1 g1 h1 => ?_)⟩
  rw [List.append_nil]
  refine ⟨ds, Cn c σ, i1, fun _ _ => trivial, ?_⟩
  cases ef : F ds with
  | bad => simp only [ef] at h1; exact h1.elim
  | exc z ρ' => simp only [ef] at h1; exact h1.elim
  | ok d =>
    simp only [ef] at h1
    exact fun v H' sm i => h1 v H' (r1.same sm) (Is.ext Ext.refl (fun a ha _ => ha.elim id r1.new) i) (.of_same sm)
end
section
variable {P : Program} {w : World} {K : PySem.W.Frag} {mg : Str -> Option Value} {base : Heap}
theorem wl {N : List Str} {qual : Str} {scope : Scope} {f : Addr} {cdv : Value} {A : Around} {outer : List PySem.Env} {s : Shared} {H : Hp} {E : XK} {c : Fc} {cl : Str -> Option Addr} (hf : (envOfC qual scope s.heap.objs.size f cdv).frame = some s.heap.objs.size)
    (hw : ∀ x C H', cl x.cls = some C -> c.E x H' -> E (.ref C) none H') : XL (qfJ (CX1 P w) P w K mg base N qual scope f cdv A outer s H E) c cl E where
  made := fun C pins σ H1 s1 h' a us I hx hE => by
    show wpAny (model P w) _ (leaving _ (.ref a)) _ _ _
    refine qdF (s := { s1 with heap := h' }) (h := s1.heap) (base := base) I.ok.frames I.stack hf hx fun h2 T' y1 y2 y3 => ?_
    have hn : H1 a = none := by
      cases q : H1 a with
      | none => rfl
      | some o =>
        obtain ⟨o', q'⟩ := jT (I.hok _ _ q)
        rw [hx.new] at q'; cases q'
    have hT : s1.heap.get? T' = none := by
      cases q : s1.heap.get? T' with
      | none => rfl
      | some o => rw [show ({ s1 with heap := h' } : Shared).heap.get? T' = some o from hx.keeps _ _ q] at y3; cases y3
    have hHT : H1 T' = none := by
      cases q : H1 T' with
      | none => rfl
      | some o =>
        obtain ⟨o', q'⟩ := jT (I.hok _ _ q)
        rw [hT] at q'; cases q'
    have up : ∀ b, s1.heap.get? b = none -> s.heap.get? b = none := fun b hb => by
      cases q : s.heap.get? b with
      | none => rfl
      | some o =>
        obtain ⟨o', q'⟩ := I.base.there b o q (by show b ∉ ([] : List Addr); simp)
        rw [hb] at q'; cases q'
    obtain ⟨z1, z2⟩ := qcO (s' := { s1 with heap := h' }) I rfl hf rfl (Un.kept hx.keeps) (I.hok.kept hx.keeps) (fun b hb => by rw [List.mem_singleton] at hb; subst hb; exact hn) (fun b hb => by rw [List.mem_singleton] at hb; subst hb; exact hx.new) y1
    exact ⟨a, T', C, H1, rfl, I.os, I.bare, z1, z2, up a hx.new, up T' hT, hn, hHT, y2, hE⟩
  pass := fun pins σ H1 s1 u s' I x => qiF I rfl hf rfl I.ok.frames x
  wish := hw
theorem wm {x qual : Str} {st : Stmt} {f : Addr} {fd : FuncData} {N ps : List Str} {k : Nat} {O : List Nat} {body : MS} {cl : Str -> Option Addr} (F : Fun K x qual st f fd) (S : qw N ps (qd st)) (hO : ∀ i ∈ O, ps.length <= i)
    (hb : ∀ (cdv : Value) (A : Around) (outer : List PySem.Env) (s : Shared) (H : Hp) (E : XK) (B : Addr -> Prop), yA k (A.deeper (envOfC qual (qd st) s.heap.objs.size f cdv)) ->
      DSs (qfJ (CX1 P w) P w K mg base N qual (qd st) f cdv A outer s H E) (cfn O [] B H (fun _ => False) (fun x H' => ∀ C, cl x.cls = some C -> E (.ref C) none H') fun _ => none) (qu st) body) :
    yg P w K mg base (CX1 P w) (k + 1) f fd ps (spX K cl (wM N.length ps.length body)) := by
  obtain ⟨oc, od, kV, doc, pm, an, cdv, ct, osl, rfl, lk, hcd⟩ := F.ex
  refine qjO lk hcd S (fun vs H Q E h => ?_) fun A outer s H vs Q E hr h => ?_
  . obtain ⟨ds, B, il, _, h⟩ := h
    unfold wM at h
    by_cases e : ds.length = ps.length
    . rw [il.length]; exact e
    . rw [if_neg e] at h; exact h.elim
  . obtain ⟨ds, B, il, _, h⟩ := h
    obtain ⟨t, p, wt⟩ := hb cdv A outer s H E B hr
    refine ⟨t, p, ?_⟩
    unfold wM at h
    by_cases e : ds.length = ps.length
    . rw [if_pos e] at h
      refine wt (jR N.length ds) (zn N vs) H _ (v5 il (fun i hi => by rw [e]; exact hO i hi)) ?_
      have same : ∀ {ρ : Env} {σ : St} {H' : Hp}, Rep K (cfn O [] B H (fun _ => False) (fun x H' => ∀ C, cl x.cls = some C -> E (.ref C) none H') fun _ => none) ρ σ H' -> z8 H H' := fun r b o hb => r.kp b o hb fun z => z
      cases eb : body (jR N.length ds) with
      | bad => rw [eb] at h; exact h.elim
      | exc z ρ =>
        rw [eb] at h
        obtain ⟨C, hC, h⟩ := h
        exact fun σ' H' r' _ C' hC' => by
          rw [hC] at hC'; cases hC'
          exact h H' (same r')
      | ok fl =>
        rw [eb] at h
        cases fl with
        | nx ρ => exact fun σ' H' r' _ => h .non H' (same r') rfl
        | rt d ρ => exact fun v σ' H' r' i' _ => h v H' (same r') i'
        | bk ρ => exact h.elim
        | ct ρ => exact h.elim
    . rw [if_neg e] at h; exact h.elim
structure yE (P : Program) (w : World) (K : PySem.W.Frag) (mg : Str -> Option Value) (base : Heap) (k : Nat) (x : Str) (ps : List Str) (sp : Sp) : Prop where
  ex : ∃ f fd, yg P w K mg base (CX1 P w) k f fd ps sp /\ mg x = some (.ref f) /\ PySem.W.keepIn K (.ref f) = true /\ yP K fd ps []
end
theorem qhs {X : Cx} {c : Fc} {st : Stmt} {f : MS} (h : DS X.nox c st f) : DS X c st f := by
  obtain ⟨t, p, w⟩ := h
  exact ⟨t, fun pins s σ H D I hw => wpAny_mono (p pins s σ H D (I.wish _) hw) (fun _ _ q => q.unwish) fun _ _ z => False.elim z, w⟩
end L2.Sk
namespace L2.Sk
open PySem PySem.Spec PyProof.Rows
section
variable {M : Model} {A : Around} {E : Value -> Shared -> Prop}
variable {nm q nm' q' : Str} {C S N N' : Addr} {bs bm bs' bm' : List Value} {hdct hdct' : Bool} {sn sn' : List Str} {sub sub' : List Value} {ab ab' : Bool} {col col' : Option Bool} {dd dd' : Option Addr} {k0 k1 k2 k3 k5 j0 j1 j2 j3 j5 : Option Value} {newId newId' : String}
theorem uq {h : Heap} {g : Array GenState} {d : Drawn} {t : Nat} {os : OsState} {e : Addr} {oe : Obj} {Q : Bool -> Shared -> Prop}
    (hC : h.get? C = some (excClassObj nm q C N bs bm hdct sn sub ab col dd k0 k1 k2 k3 k5 newId)) (hS : h.get? S = some (excClassObj nm' q' S N' bs' bm' hdct' sn' sub' ab' col' dd' j0 j1 j2 j3 j5 newId'))
    (he : h.get? e = some oe) (hcls : oe.cls = .ref C) (hbase : bm'.contains (.type "BaseException") = true)
    (hq : Q ((Value.ref C :: bm).contains (.ref S)) ⟨h, g, d, t, os⟩) : wpAny M A (excMatches (.ref e) (.ref S)) Q E ⟨h, g, d, t, os⟩ := by
  have hcB : (Value.ref S :: bm').contains (.type "BaseException") = true := by rw [List.contains_cons, hbase, Bool.or_true]
  have f := tc_notTuple
  unfold excMatches
  repeat (first | (with_reducible refine wpAny_loadPart_at he ?_; rw [hcls]) | with_reducible refine wpAny_loadPart_at hS ?_ | (with_reducible refine wpAny_isSubtype_exc hS ?_; rw [hcB]) | with_reducible refine wpAny_isSubtype_exc hC ?_ | wp_step)
  all_goals (first | exact hq | (cases hb : (Value.ref C :: bm).contains (.ref S) <;> (rw [hb] at hq; wp_walk; exact hq)))
end
end L2.Sk
namespace L2
open PySem PySem.Spec PyProof.Rows
def AloneA (A : Around) (H : Hp) : Prop := ∃ e oe u vs, A.handled = some (.ref e) /\ H e = some (.frz oe u) /\ oe.data = .fields vs /\ vs[2]? = some .none
def qko (A : Around) (sp : Sp) (dvs : List V) (E : XK) (t : TA) : TE := fun σ H Q => t σ H fun vs H1 => AloneA A H1 /\ sp (vs ++ dvs) H1 Q E
structure yk (k : Nat) (A : Around) : Prop where
  dp : A.depth + 3 * k + 5 < recursionLimit
  un : A.units + 16 * k + 200 < cLine
  gd : A.guards = some []
theorem yk.mono {j k : Nat} {A : Around} (r : yk k A) (h : j <= k) : yk j A := ⟨by have := r.dp; omega, by have := r.un; omega, r.gd⟩
theorem yk.deeper {k : Nat} {A : Around} (r : yk (k + 1) A) (env : Env) : yk k (A.deeper env) :=
  ⟨by have := r.dp; show A.depth + 1 + 3 * k + 5 < _; omega, by have := r.un; show A.units + 3 + 16 * k + 200 < _; omega, r.gd⟩
theorem yk.depth {k : Nat} {A : Around} (r : yk k A) : A.depth < recursionLimit := by have := r.dp; omega
structure qaw (P : Program) (w : World) (K : PySem.W.Frag) (mg : Str -> Option Value) (base : Heap) (CX : CXT) (k : Nat) (f : Addr) (fd : FuncData) (ps : List Str) (sp : Sp) : Prop where
  len : ∀ vs H Q E, sp vs H Q E -> vs.length = ps.length
  run : ∀ (A : Around) (outer : List Env) (s : Shared) (H : Hp) (args : Args) (us : List Value) (vs : List V) (Q : VK) (E : XK), yk k A -> AloneA A H -> qja P w K mg base A outer s H -> BindsTo s fd args (ps.zip us) -> qQ vs us -> sp vs H Q E ->
    codeAny (model P w) A (.call (.ref f) args) (CR CX outer P w H s Q E) s
def qdG (CX : CXT) (P : Program) (w : World) (K : PySem.W.Frag) (mg : Str -> Option Value) (base : Heap) (N : List Str) (qual : Str) (scope : Scope) (f : Addr) (cd : Value) (A : Around) (outer : List Env) (s : Shared) (H : Hp) (E : XK) : Cx where
  prog := P
  w := w
  K := K
  mg := mg
  base := base
  A := A.deeper (envOfC qual scope s.heap.objs.size f cd)
  N := N
  s₀ := s
  H₀ := H
  env := envOfC qual scope s.heap.objs.size f cd
  outer := outer
  stack := envOfC qual scope s.heap.objs.size f cd :: outer
  ex := []
  calm := false
  fn := fun _ => true
  pn := []
  xe := fun e s' => wpAny (model P w) (A.deeper (envOfC qual scope s.heap.objs.size f cd)) (leaving (envOfC qual scope s.heap.objs.size f cd) e) (fun _ s'' => CX outer H s E e s'') (fun e' s'' => CX outer H s E e' s'') s'
theorem qdH {CX : CXT} {P : Program} {w : World} {K : PySem.W.Frag} {mg : Str -> Option Value} {base : Heap} {N ps : List Str} {qual : Str} {scope : Scope} {f : Addr} {cd : Value} {A : Around} {outer : List Env} {s s1 : Shared} {H : Hp} {E : XK} {us : List Value} {vs : List V}
    (S : qw N ps scope) (e0 : qja P w K mg base A outer s H) (hl : vs.length = ps.length) (r : qQ vs us)
    (x : InCallC s s.heap.objs.size (bindL (envOfC qual scope s.heap.objs.size f cd).kindOf (ps.zip us) fun _ => none) (cellsFrom (s.heap.objs.size + 1) scope.names []) (bindC (envOfC qual scope s.heap.objs.size f cd).kindOf (ps.zip us) fun _ => none) s1) :
    Inv (qdG CX P w K mg base N qual scope f cd A outer s H E) [] (zn N vs) H s1 := by
  have hpl : ps.length <= N.length := by have := congrArg List.length S.pre; rw [List.length_take] at this; omega
  obtain ⟨h1, tk, rfl, hk⟩ := x.done
  have noA : ∀ b : Addr, b ∉ (qdG CX P w K mg base N qual scope f cd A outer s H E).ex := fun b z => absurd (show b ∈ ([] : List Addr) from z) (by simp)
  refine ⟨⟨e0.mod, S.kind, rfl, rfl, Nat.le_refl _, fun y z c h1 h2 => ?_, fun y hy => ?_, fun y c _ h => ?_, (fun z => Bool.noConfusion z), Around.frames_deeper e0.frames, .inr ⟨rfl, rfl⟩, fun b z => absurd z (noA b), e0.bs, e0.bsz, fun b _ _ => noA b, fun b z => absurd z (noA b), e0.funs, e0.frf⟩,
    rfl, e0.bare, Un.kept hk, ⟨_, x.toInCall.ns, fun i y v h1 h2 h3 => ?_⟩, fun y c h => ⟨_, x.cell y c h⟩, e0.hok.fresh (Nat.le_refl _), fun y c h => ?_, fun p hp => absurd (show p ∈ ([] : List (Addr × Obj)) from hp) (by simp), e0.hok.kept hk, ?_⟩
  . exact name_of_addr x.apart (PySem.mem_of_lookup h1) (PySem.mem_of_lookup h2)
  . have hy : scope.names.lookup y = some .cell \/ scope.names.lookup y = some .free := hy
    rcases hy with hy | hy
    . exact vB hy
    . exact absurd rfl (S.nofree _ (PySem.mem_of_lookup hy))
  . exact Nat.le_of_lt (x.above y c (PySem.mem_of_lookup h))
  . have hi : i < vs.length := by
      unfold zn at h2
      by_cases hi : i < vs.length
      . exact hi
      . rw [List.getElem?_append_right (by simpa using hi)] at h2
        rw [List.getElem?_replicate] at h2
        split at h2 <;> cases h2
    have ha : vs[i]? = some v := by
      unfold zn at h2
      rw [List.getElem?_append_left (by simpa using hi), List.getElem?_map] at h2
      cases e : vs[i]? with
      | none => rw [e] at h2; cases h2
      | some a => rw [e] at h2; cases h2; rfl
    obtain ⟨u, hu, rv⟩ := r.get ha
    have hp : ps[i]? = some y := by
      rw [<- S.pre, List.getElem?_take_of_lt (by omega)]; exact h1
    have ndP : ps.Nodup := by rw [<- S.pre]; exact S.nd.sublist (List.take_sublist _ _)
    refine ⟨u, rv, ?_⟩
    rcases S.par y (List.mem_of_getElem? hp) with k | k
    . exact .inl ⟨k, vO ndP hp hu k⟩
    . obtain ⟨c, e⟩ := vB (n := s.heap.objs.size + 1) k
      refine .inr ⟨.inl k, c, e, ?_⟩
      have q := x.cell y c e
      rw [vP ndP hp hu (by show scope.names.lookup y ≠ _; rw [k]; decide)] at q
      exact q
  . exact e0.hok.fresh (Nat.le_of_lt (x.above y c (PySem.mem_of_lookup h)))
  . unfold zn
    show _ = N.length
    rw [List.length_append, List.length_map, List.length_replicate]
    omega
theorem qkp {CX : CXT} {P : Program} {w : World} {K : PySem.W.Frag} {mg : Str -> Option Value} {base : Heap} {k : Nat} {f : Addr} {name qual : Str} {params : Arguments} {body : List Stmt} {scope : Scope} {dV kV doc pm cdv ct oc : Value} {an od : Option Addr}
    {osl : Array (Option Value)} {N ps : List Str} {sp : Sp} (lk : K.lookup f = some ⟨oc, od, .func (PySem.W.fnOf name qual params body scope dV kV doc pm an cdv ct), osl⟩) (hcd : PySem.W.codeIn K cdv qual = true) (S : qw N ps scope)
    (len : ∀ vs H Q E, sp vs H Q E -> vs.length = ps.length)
    (hbody : ∀ (A : Around) (outer : List Env) (s : Shared) (H : Hp) (vs : List V) (Q : VK) (E : XK), yk k (A.deeper (envOfC qual scope s.heap.objs.size f cdv)) -> AloneA (A.deeper (envOfC qual scope s.heap.objs.size f cdv)) H -> sp vs H Q E ->
      ∃ t, PSs (qdG CX P w K mg base N qual scope f cdv A outer s H E) body t /\ t { nx := fun _ H' => Q .non H', rt := Q } (zn N vs) H) :
    qaw P w K mg base CX (k + 1) f (PySem.W.fnOf name qual params body scope dV kV doc pm an cdv ct) ps sp := by
  refine ⟨len, fun A outer s H args us vs Q E hr al e0 hb r hsp => ?_⟩
  have hl := len _ _ _ _ hsp
  have KX : K.In s.heap := e0.mod.kin.keeps fun b o e => (e0.bs b o e).1
  have lim : s.heap.NoLimit := e0.mod.nolimit.keeps fun b o e => (e0.bs b o e).1
  have hkind : ∀ y ∈ ps.zip us, scope.names.lookup y.1 = some .local \/ (scope.names.lookup y.1 = some .cell /\ ((cellsFrom (s.heap.objs.size + 1) scope.names []).lookup y.1).isSome = true) := fun ⟨n, v⟩ hy => by
    rcases S.par n (List.of_mem_zip hy).1 with q | q
    . exact .inl q
    . exact .inr ⟨q, PySem.W.cellsFrom_some _ _ _ (.inl q)⟩
  refine codeAny_call_function hr.depth (KX _ _ lk) rfl S.co S.gen rfl (PySem.W.codeRec_of KX hcd) (hb _ _ _ _ ?_)
  refine wpAny_newFunctionEnv_cells S.kind hkind fun env he s1 x => ?_
  subst he
  refine ⟨lim.keeps x.toInCall.keep, codeAny_func ?_⟩
  obtain ⟨t, ht, hq⟩ := hbody A outer s H vs Q E (hr.deeper _) al hsp
  have I : Inv (qdG CX P w K mg base N qual scope f cdv A outer s H E) [] (zn N vs) H s1 := qdH S e0 hl r x
  refine wpAny_mono (ht [] s1 (zn N vs) H _ I hq) (fun fl s' hs => ?_) fun e s' hs => hs
  have fin : ∀ {σ' : St} {H' : Hp} {v : V} {u : Value}, Inv (qdG CX P w K mg base N qual scope f cdv A outer s H E) [] σ' H' s' -> ju v u -> Q v H' -> CE outer P w H s Q u s' :=
    fun {σ' H' v u} J rv q => ⟨v, H', J.os, J.bare, J.base, J.hok, rv, q⟩
  cases fl with
  | ret u =>
    obtain ⟨v, σ', H', J, rv, q⟩ := hs
    exact fin J rv q
  | next =>
    obtain ⟨σ', H', J, q⟩ := hs
    exact fin (v := V.non) (u := Value.none) J rfl q
  | brk =>
    obtain ⟨_, _, _, q⟩ := hs
    exact False.elim q
  | cont =>
    obtain ⟨_, _, _, q⟩ := hs
    exact False.elim q
section
variable {X : Cx} {CX : CXT} {k : Nat} {f C : Addr} {fd : FuncData} {ps : List Str} {sp : Sp} {dvs : List V} {ds : List Value} {E : XK} {x m : Str} {p pos apos : Pos} {e o : Expr} {es : List Expr} {ta : TE} {t : TA}
theorem qiG {pins : List (Addr × Obj)} {σ : St} {H : Hp} {s : Shared} {Q : VK} {us : List Value} {vs : List V} (F : qaw X.prog X.w X.K X.mg X.base CX k f fd ps sp) (hr : yk k X.A) (hb : yP X.K fd ps ds) (hd : qQ dvs ds) (hx : vM CX X E)
    (I : Inv X pins σ H s) (r : qQ vs us) (al : AloneA X.A H) (h : sp (vs ++ dvs) H Q E) : wpAny (model X.prog X.w) X.A (call (.ref f) us) (EP X pins σ Q) X.xe s := by
  have r2 : qQ (vs ++ dvs) (us ++ ds) := r.append hd
  have hl : (us ++ ds).length = ps.length := by rw [<- r2.length]; exact F.len _ _ _ _ h
  refine wpAny_call (codeAny_mono (F.run X.A X.stack s H ⟨us, []⟩ (us ++ ds) (vs ++ dvs) Q E hr al I.env0 (hb s us I.kIn hl) r2 h) fun r s' hq => ?_)
  cases r with
  | error e => exact hx pins σ H s e s' I hq
  | ok fl =>
    cases fl with
    | ret u => exact I.after hq
    | next => exact False.elim hq
    | brk => exact False.elim hq
    | cont => exact False.elim hq
theorem qcQ (F : qaw X.prog X.w X.K X.mg X.base CX k f fd ps sp) (hr : yk k X.A) (hg : Gl X x) (hm : X.mg x = some (.ref f)) (hk : PySem.W.keepIn X.K (.ref f) = true) (hb : yP X.K fd ps ds) (hd : qQ dvs ds) (hx : vM CX X E)
    (ha : PA X (e :: es) t) (hdb : (x == ("__debug__" : Str)) = false := by decide) (he : starEach (e :: es) X.env = (false, eval e X.env) :: starEach es X.env := by rfl) (hpl : (backTo pos (starEach es X.env)).any (·.1) = false := by rfl) :
    PE X (.Call (.Name x p) (e :: es) [] pos) (qko X.A sp dvs E t) := by
  intro pins s σ H Q I h
  refine wpAny_Call_Name_kw (vJ I hg hm ?_ hdb)
  refine PySem.W.callWith_K (h₀ := X.base) I.ok.mod.kin hk (thn (ha pos pins s σ H _ I h) fun us s1 ⟨vs, H1, I1, r, q⟩ => ⟨I1.kIn, ?_⟩) he hpl
  exact qiG F hr hb hd hx I1 r q.1 q.2
end
end L2
namespace L2.Sk
open PySem PySem.Spec PyProof.Rows
def isT (b : Bool) : Value -> Bool
  | .bool a => a == b
  | _ => false
section
variable {X : Cx}
end
def qml (x : D) (ys : List D) : Option D := match x, ys with
  | .lst ds, [.bl b] => (uP ds).map fun bs => .int (bs.countP (· == b))
  | _, _ => none
def qkq (F : D -> List D -> Option D) (f : M D) (g : M (List D)) : M D := bnd f fun x => match x with
  | .lst ds => bnd g fun ys => lift (F (.lst ds) ys)
  | _ => fun _ => .bad
section
variable {X : Cx} {c : Fc} {o e : Expr} {es : List Expr} {apos cpos : Pos}
end
end L2.Sk
namespace L2.Sk
open PySem PySem.Spec PyProof.Rows
def isI (b : Int) : Value -> Bool
  | .int a _ => a == b
  | _ => false
section
variable {X : Cx}
end
def qmm (x : D) (ys : List D) : Option D := match x, ys with
  | .lst ds, [.int b] => (uA ds).map fun ns => .int (ns.countP (· == b))
  | _, _ => none
end L2.Sk
namespace L2.Sk
open PySem PySem.Spec PyProof.Rows
@[reducible] def toX (X : Cx) (xe : Value -> Shared -> Prop) (pn : List (Addr × Obj)) : Cx := { X with xe := xe, pn := pn }
@[reducible] def hdX (X : Cx) (e : Addr) : Cx := { X with A := X.A.mark (some (.ref e)), calm := false, xe := fun _ _ => False }
section
variable {X : Cx} {pins : List (Addr × Obj)} {σ : St} {H : Hp} {s : Shared} {xe : Value -> Shared -> Prop}
theorem qht (I : Inv X pins σ H s) : Inv (toX X xe (X.pn ++ pins)) [] σ H s :=
  let k := I.ok
  ⟨⟨k.mod, k.kind, k.glob, k.blt, k.above, k.inj, k.has, k.cab, k.hd, k.frames, k.stk, k.exf, k.bs, k.bsz, k.noex, k.exfs, k.funs, k.frf⟩, I.os, I.bare, I.base, I.loc, I.cell, I.free, I.freeC,
    fun p hp => I.pin p (by rw [List.append_nil] at hp; exact hp), I.hok, I.len⟩
theorem jw {pins2 : List (Addr × Obj)} (I : Inv (toX X xe (X.pn ++ pins)) pins2 σ H s) : Inv X pins σ H s :=
  let k := I.ok
  ⟨⟨k.mod, k.kind, k.glob, k.blt, k.above, k.inj, k.has, k.cab, k.hd, k.frames, k.stk, k.exf, k.bs, k.bsz, k.noex, k.exfs, k.funs, k.frf⟩, I.os, I.bare, I.base, I.loc, I.cell, I.free, I.freeC,
    fun p hp => I.pin p (List.mem_append_left _ hp), I.hok, I.len⟩
theorem qcR (e : Addr) (I : Inv X pins σ H s) : Inv (hdX X e) pins σ H s :=
  let k := I.ok
  ⟨⟨k.mod, k.kind, k.glob, k.blt, k.above, k.inj, k.has, k.cab, fun z => (nomatch z), k.frames, k.stk, k.exf, k.bs, k.bsz, k.noex, k.exfs, k.funs, k.frf⟩, I.os, I.bare, I.base, I.loc, I.cell, I.free, I.freeC, I.pin, I.hok, I.len⟩
theorem qcS {e : Addr} {σ' : St} {H' : Hp} {s' : Shared} (k : X.Ok) (I : Inv (hdX X e) pins σ' H' s') : Inv X pins σ' H' s' :=
  ⟨k, I.os, I.bare, I.base, I.loc, I.cell, I.free, I.freeC, I.pin, I.hok, I.len⟩
theorem qdI {h' : Heap} {m' : Str -> Option Value} {tk : Nat} (I : Inv X pins σ H s) (hn : h'.Ns X.env.locals m') (hs : Heap.SameBut X.env.locals s.heap h') :
    Inv X pins (List.replicate X.N.length none) H { s with heap := h', toks := tk } := by
  obtain ⟨m, hn0, _⟩ := id I.loc
  obtain ⟨oL, _, _, hoL, _⟩ := id hn0
  have ne : ∀ b o, X.s₀.heap.get? b = some o -> b ≠ X.env.locals := fun b o q => Nat.ne_of_lt (Nat.lt_of_lt_of_le (Heap.lt_size q) I.ok.above)
  refine ⟨I.ok, I.os, I.bare, ⟨fun b o e n hb hx => (hs.2 b (ne b o e)).trans (I.base.keep b o e n hb hx), fun b o e n hb hx => ?_, I.base.free, fun b o e hx => ?_, I.base.tups, I.base.frzs, I.base.tbls⟩, ⟨m', hn, fun j y v e1 e2 e3 => ?_⟩, fun y c e => ?_, I.free, I.freeC, fun p hp => ?_, fun b ob e => ?_, by simp⟩
  . obtain ⟨sl, q⟩ := I.base.slot b o e n hb hx
    exact ⟨sl, (hs.2 b (ne b o e)).trans q⟩
  . obtain ⟨o', q⟩ := I.base.there b o e hx
    exact ⟨o', (hs.2 b (ne b o e)).trans q⟩
  . rw [List.getElem?_replicate] at e2
    split at e2 <;> cases e2
  . obtain ⟨w', z⟩ := I.cell y c e
    exact ⟨w', z.sameBut hs (I.cne y c e)⟩
  . obtain ⟨e, n, nl, nf, d⟩ := I.pin p hp
    exact ⟨(hs.2 p.1 nl).trans e, n, nl, nf, d⟩
  . refine (I.hok b ob e).stay (fun c w' hc q => (hs.2 c ?_).trans q) (fun _ q => q) fun _ _ q => q
    rintro rfl
    rcases hc with rfl | hc
    . rw [I.free] at e; cases e
    . rw [I.free] at hc; cases hc
theorem qax {H' : Hp} {h' : Heap} (I : Inv X pins σ H s) (u : Un (frs X.stack) [] H H' s.heap h') : h'.FunFrames X.base X.stack := by
  have all : ∀ (l : List PySem.Env), (∀ b ∈ frs l, b ∈ frs X.stack) -> s.heap.FunFrames X.base l -> h'.FunFrames X.base l := by
    intro l
    induction l with
    | nil => intro _ _; trivial
    | cons env r ih =>
      intro hss hl
      obtain ⟨hk, ⟨L, o, hf', hn, ho, hd⟩, hr⟩ := hl
      have hfr : frs (env :: r) = L :: frs r := by unfold frs; rw [List.filterMap_cons, hf']
      rw [hfr] at hss
      have hL := hss L List.mem_cons_self
      obtain ⟨sl, e⟩ := u.slot L o ho (I.stkFree L hL) hL (by simp)
      exact ⟨hk, ⟨L, _, hf', hn, e, hd⟩, ih (fun b hb => hss b (List.mem_cons_of_mem _ hb)) hr⟩
  exact all X.stack (fun _ z => z) I.stack
theorem qcT {H' : Hp} {h1 h' : Heap} {ch : List Addr} (u : Un (frs X.stack) [] H H' s.heap h1) (hchn : ∀ b ∈ ch, s.heap.get? b = none) (x : Lft h1 h' ch (frs X.stack)) : Un (frs X.stack) [] H H' s.heap h' := by
  have nch : ∀ b o, s.heap.get? b = some o -> b ∉ ch := fun b o q z => by rw [hchn b z] at q; cases q
  refine ⟨fun b o q n hb hx => x.keep b o (nch b o q) hb (u.keep b o q n hb hx), fun b o q n hb hx => ?_, u.free, fun b o q hx => ?_, u.tups, u.frzs, u.tbls⟩
  . obtain ⟨sl, q1⟩ := u.slot b o q n hb hx
    obtain ⟨sl2, q2⟩ := x.slot b _ hb q1
    exact ⟨sl2, q2⟩
  . obtain ⟨o2, q2⟩ := u.there b o q hx
    by_cases hb : b ∈ frs X.stack
    . obtain ⟨sl, q3⟩ := x.slot b o2 hb q2
      exact ⟨_, q3⟩
    . exact ⟨o2, x.keep b o2 (nch b o q) hb q2⟩
theorem qay {H' : Hp} {h1 h' : Heap} {ch : List Addr} (I : Inv X pins σ H s) (u : Un (frs X.stack) [] H H' s.heap h1) (hok : HOk X.prog X.w H' h1) (hch : ∀ b ∈ ch, H' b = none) (x : Lft h1 h' ch (frs X.stack)) : HOk X.prog X.w H' h' :=
  qhr hok fun b o hb1 q => x.keep b o (fun z => by rw [hch b z] at hb1; cases hb1) (fun z => by
    obtain ⟨_, o1, ho1, _⟩ := I.stack.mem z
    rw [u.free b o1 ho1 (I.stkFree b z) (by simp)] at hb1
    cases hb1) q
theorem qeZ {H' : Hp} {h' : Heap} {e : Addr} {o : HO} (u : Un (frs X.stack) [] H H' s.heap h') (he : s.heap.get? e = none) (hHe : H' e = none) : Un (frs X.stack) [] H (upd H' e o) s.heap h' := by
  have ne : ∀ b ob, s.heap.get? b = some ob -> b ≠ e := fun b ob q z => by rw [z, he] at q; cases q
  have ne' : ∀ b u, H' b = some u -> b ≠ e := fun b u q z => by rw [z, hHe] at q; cases q
  refine ⟨u.keep, u.slot, fun b ob q n hx => by rw [qm (ne b ob q)]; exact u.free b ob q n hx, u.there, fun b xs q => ?_, fun b ob w q => ?_, fun b ps q => ?_⟩
  . have := u.tups b xs q
    rw [qm (ne' b _ this)]; exact this
  . have := u.frzs b ob w q
    rw [qm (ne' b _ this)]; exact this
  . obtain ⟨m, this⟩ := u.tbls b ps q
    exact ⟨m, by rw [qm (ne' b _ this)]; exact this⟩
theorem qcU {P : Program} {w : World} {H' : Hp} {h' : Heap} {e : Addr} {oe : Obj} (hok : HOk P w H' h') (hHe : H' e = none) (he : h'.get? e = some oe) : HOk P w (upd H' e (.frz oe (.own e))) h' := fun b ob q => by
  by_cases hb : b = e
  . subst hb
    rw [qr] at q
    cases q
    exact ⟨he, oe, he⟩
  . rw [qm hb] at q
    have ne' : ∀ c u, H' c = some u -> c ≠ e := fun c u q z => by rw [z, hHe] at q; cases q
    exact (hok b ob q).stay (fun _ _ _ q => q) (fun c q => by rw [qm (ne' c _ q)]; exact q) fun c xs q => by rw [qm (ne' c _ q)]; exact q
end
def qhu (RN : List Str) (f : MS) (F : List D -> R D) : MS := fun ρ => match f ρ with
  | .exc x ρ' => if RN.contains x.cls then match F [.exc x.cls] with
      | .ok d => .ok (.rt d ρ')
      | _ => .bad
    else .bad
  | r => r
def reE (c : Fc) (E : Exn -> Hp -> Prop) : Fc := { c with E := E }
theorem Rep.reE {K : Fr0} {c : Fc} {E : Exn -> Hp -> Prop} {ρ : Env} {σ : St} {H : Hp} (r : Rep K c ρ σ H) : Rep K (Sk.reE c E) ρ σ H := ⟨r.len, r.val, r.own, r.inj, r.b0, r.kp, r.dm, r.pO, r.ps⟩
theorem Rep.unE {K : Fr0} {c : Fc} {E : Exn -> Hp -> Prop} {ρ : Env} {σ : St} {H : Hp} (r : Rep K (Sk.reE c E) ρ σ H) : Rep K c ρ σ H := ⟨r.len, r.val, r.own, r.inj, r.b0, r.kp, r.dm, r.pO, r.ps⟩
structure qlQ (K : Fr0) (base : Heap) (RN : List Str) (S : Addr) : Prop where
  sup : ∃ bm, XC base S bm
  own : ∀ n C, clR K RN n = some C -> ∃ bm, XC base C bm /\ (Value.ref C :: bm).contains (.ref S) = true
  ki : ∀ n C, clR K RN n = some C -> XK6 K C
def ch (H6 : Hp) : Fc := ⟨[], [], fun a => H6 a = none, H6, fun _ => False, fun _ _ => False, fun _ => none⟩
theorem qkr {K : Fr0} {n i : Nat} {H6 : Hp} {σ : St} {d : D} {v : V} (hl : σ.length = n) (hi : ∀ {A : Addr -> Prop}, Is K A H6 d v) : Rep K (ch H6) ((List.replicate n none).set i (some d)) (σ.set i (some v)) H6 := by
  refine ⟨by simp [hl], fun j d' h => ?_, fun j hj => (nomatch hj), fun j _ _ hj => (nomatch hj), fun _ h => h, fun _ _ h _ => h, fun _ h => h, fun _ h => h, fun j hj => (nomatch hj)⟩
  rw [List.getElem?_set] at h
  split at h
  . rename_i e
    subst e
    rw [List.length_replicate] at h
    split at h
    . rename_i hlt
      cases h
      exact ⟨v, List.getElem?_set_self (by rw [hl]; exact hlt), .inr ⟨by simp [ch], hi⟩⟩
    . cases h
  . rw [List.getElem?_replicate] at h
    split at h <;> cases h
def wN (RN : List Str) (n i : Nat) (f : MS) (g : M D) : MS := fun ρ => match f ρ with
  | .exc x ρ' => if RN.contains x.cls then match g ((List.replicate n none).set i (some (.exc x.cls))) with
      | .ok (d, _) => .ok (.rt d ρ')
      | _ => .bad
    else .bad
  | r => r
theorem qb8 {X : Cx} {pins : List (Addr × Obj)} {σ : St} {H : Hp} {s : Shared} {n : Str} {c : Addr} {h' : Heap} {tk : Nat} (I : Inv X pins σ H s) (hc : X.env.cells.lookup n = some c) (hfn : X.fn n = true) (hs : Heap.SameBut c s.heap h') (hv : h'.IsCell c none) :
    Inv X pins (List.replicate X.N.length none) H { s with heap := h', toks := tk } := by
  obtain ⟨m, hn0, _⟩ := id I.loc
  obtain ⟨v0, oc, hoc, hocd⟩ := I.cell n c hc
  have big := I.ok.cab n c hfn hc
  have ne : ∀ b o, X.s₀.heap.get? b = some o -> b ≠ c := fun b o q => Nat.ne_of_lt (Nat.lt_of_lt_of_le (Heap.lt_size q) big)
  refine ⟨I.ok, I.os, I.bare, ⟨fun b o e q hb hx => (hs.2 b (ne b o e)).trans (I.base.keep b o e q hb hx), fun b o e q hb hx => ?_, I.base.free, fun b o e hx => ?_, I.base.tups, I.base.frzs, I.base.tbls⟩, ⟨m, hn0.sameBut hs (Ne.symm (I.cne n c hc)), fun j y v e1 e2 e3 => ?_⟩, fun y c' e => ?_, I.free, I.freeC, fun p hp => ?_, fun b ob e => ?_, by simp⟩
  . obtain ⟨sl, z⟩ := I.base.slot b o e q hb hx
    exact ⟨sl, (hs.2 b (ne b o e)).trans z⟩
  . obtain ⟨o', z⟩ := I.base.there b o e hx
    exact ⟨o', (hs.2 b (ne b o e)).trans z⟩
  . rw [List.getElem?_replicate] at e2
    split at e2 <;> cases e2
  . by_cases q : c' = c
    . subst q; exact ⟨_, hv⟩
    . obtain ⟨w', z⟩ := I.cell y c' e
      exact ⟨w', z.sameBut hs q⟩
  . obtain ⟨e, q, nl, nf, d⟩ := I.pin p hp
    refine ⟨(hs.2 p.1 fun z => ?_).trans e, q, nl, nf, d⟩
    rw [z, hoc] at e
    exact d v0 (by rw [<- Option.some.inj e]; exact hocd)
  . refine (I.hok b ob e).stay (fun b2 w' hb2 q => (hs.2 b2 ?_).trans q) (fun _ q => q) fun _ _ q => q
    rintro rfl
    have z := I.freeC n b2 hc
    rcases hb2 with rfl | hb2
    . rw [z] at e; cases e
    . rw [z] at hb2; cases hb2
theorem qe0 {X : Cx} {pins : List (Addr × Obj)} {σ : St} {H : Hp} {s : Shared} {n : Str} {i : Nat} {pos : Pos} {M : Model} {A : Around} {E : Value -> Shared -> Prop} {Q : Unit -> Shared -> Prop} (I : Inv X pins σ H s) (hN : X.N.Nodup) (hi : X.N[i]? = some n) (hx : X.env.scope.names.lookup n = some .cell) (hkn : X.env.kindOf n = some .cell) (hfn : X.fn n = true)
    (k : ∀ s', Inv X pins (List.replicate X.N.length none) H s' -> Q () s') : wpAny M A (do bindName X.env n .none; unbindBehindTheSuite X.env n pos) Q E s := by
  refine wpAny_bind (wpAny_bindName (yz (v := .non) (u := .none) I hN hi (.inr hx) rfl (fun s5 I5 => ?_) (.inl hfn)))
  obtain ⟨c, hc⟩ := I5.ok.has n (.inl hkn)
  obtain ⟨m, hn, hl⟩ := id I5.loc
  have hil : i < σ.length := by rw [I.len]; exact (List.getElem?_eq_some_iff.mp hi).1
  obtain ⟨u, ru, lk⟩ := hl i n .non hi (List.getElem?_set_self hil) (.inr (.inl hx))
  have hcv : s5.heap.IsCell c (some u) := by
    rcases lk with ⟨z, _⟩ | ⟨_, c', e, z⟩
    . rw [hkn] at z; cases z
    . rw [hc] at e; cases e; exact z
  unfold unbindBehindTheSuite
  refine wpAny_onRaise ?_
  unfold unbindName
  refine wpAny_bind (wpAny_point (wpAny_bind ?_))
  unfold deleteName
  simp only [hkn]
  refine wpAny_bind (wpAny_cellOf hc (wpAny_bind (wpAny_cellGet hcv ?_)))
  simp only [Option.isSome_some, if_true]
  exact wpAny_cellSet hcv fun h' hv hs => wpAny_point (k _ (qb8 (tk := s5.toks) I5 hc hfn hs hv))
section
variable {X : Cx} {c : Fc} {pos np hpos p1 p2 p3 p4 : Pos} {body : List Stmt}
theorem qmn {x n m : Str} {i : Nat} {S fm : Addr} {fd : FuncData} {ps : List Str} {k : Nat} {F : List D -> R D} {f : MS} {RN : List Str} (hN : X.N.Nodup) (hcx : X.stack = X.env :: X.outer) (hf : X.env.frame = some X.env.locals)
    (hcl : qlQ X.K X.base RN S) (hgS : Gl X x) (hmS : X.mg x = some (.ref S))
    (G : qaw X.prog X.w X.K X.mg X.base CX0 k fm fd ps (spD X.K F)) (hr : yA k X.A) (hgm : Gl X m) (hmm : X.mg m = some (.ref fm)) (hkm : PySem.W.keepIn X.K (.ref fm) = true) (hbm : yP X.K fd ps [])
    (hb : ∀ (xe : Value -> Shared -> Prop) (pn : List (Addr × Obj)) (E : XK) (cE : Exn -> Hp -> Prop), XL2 (toX X xe pn) (reE c cE) (clR X.K RN) E -> DSs (toX X xe pn) (reE c cE) body f)
    (hi : X.N[i]? = some n := by rfl) (hx : X.env.scope.names.lookup n = some .local := by rfl) (hkn : X.env.kindOf n = some .local := by rfl)
    (hdx : (x == ("__debug__" : Str)) = false := by decide) (hdm : (m == ("__debug__" : Str)) = false := by decide) (hdn : (n == ("__debug__" : Str)) = false := by decide) (hcn : (n == ("__classdict__" : Str)) = false := by decide)
    (hst : starEach [.Name n p2] X.env = (false, eval (.Name n p2) X.env) :: starEach [] X.env := by rfl) (hpl : (backTo p3 (starEach [] X.env)).any (·.1) = false := by rfl) :
    DS X c (.Try body [.ExceptHandler (some (.Name x np)) (some n) [.Return (some (.Call (.Name m p1) [.Name n p2] [] p3)) p4] hpos] [] [] pos) (qhu RN f F) := by
  refine ⟨fun D σ H => ∃ ρ, Rep X.K c ρ σ H /\ WpS X.K c σ H D (qhu RN f F ρ), ?_, fun ρ σ H D r h => ⟨ρ, r, h⟩⟩
  rintro pins s σ H D I ⟨ρ, r, w⟩
  refine wpAny_Try_except ?_
  have hk := I.ok
  let xe : Value -> Shared -> Prop := fun e s₁ => wpAny (model X.prog X.w) X.A (noteFrame e X.env) (fun _ s₂ => wpAny (model X.prog X.w) X.A (setFlight e none) (fun _ s₃ => wpAny (model X.prog X.w) X.A (handleBy e X.env [.ExceptHandler (some (.Name x np)) (some n) [.Return (some (.Call (.Name m p1) [.Name n p2] [] p3)) p4] hpos]) (SP X pins D) X.xe s₃) X.xe s₂) X.xe s₁
  let cE : Exn -> Hp -> Prop := fun z H' => ∃ ρ' σ', f ρ = .exc z ρ' /\ Rep X.K c ρ' σ' H' /\ GrS c.O σ H σ' H'
  let E : XK := fun cv _ H' => ∃ C z, cv = .ref C /\ clR X.K RN z.cls = some C /\ cE z H'
  have L : XL2 (toX X xe (X.pn ++ pins)) (reE c cE) (clR X.K RN) E := by
    refine ⟨?_, fun z C H' h1 h2 => ⟨C, z, rfl, h1, h2⟩⟩
    intro pins2 σ2 H2 s2 u s' I2 hx2
    obtain ⟨e, T, C, H', rfl, os, bare, un, hok, he, hT, hHe, hHT, Fl, C', z, hC', hz, ρ', σ', ef, r', g'⟩ := hx2
    have eC : C = C' := Value.ref.inj hC'
    subst eC
    have I3 : Inv X pins σ2 H2 s2 := jw I2
    have hz2 : ∀ b ∈ [e, T], H' b = none := fun b hb => by
      simp only [List.mem_cons, List.not_mem_nil, or_false] at hb
      rcases hb with rfl | rfl
      . exact hHe
      . exact hHT
    have hz3 : ∀ b ∈ [e, T], s2.heap.get? b = none := fun b hb => by
      simp only [List.mem_cons, List.not_mem_nil, or_false] at hb
      rcases hb with rfl | rfl
      . exact he
      . exact hT
    have hl : s'.heap.FunFrames X.base X.stack := qax I3 un
    have hA : X.A.frames = some (X.env :: X.outer) := by rw [<- hcx]; exact hk.frames
    show wpAny _ _ _ _ _ _
    rw [hcx] at hl
    refine wj hA hl hf Fl fun h3 T3 y1 y2 y3 => ?_
    rw [<- hcx] at y1
    have un3 : Un (frs X.stack) [] H2 H' s2.heap h3 := qcT un hz3 y1
    have hok3 : HOk X.prog X.w H' h3 := qay I3 un hok hz2 y1
    have I4 : Inv X pins σ2 H' { s' with heap := h3 } := I3.call' (s' := { s' with heap := h3 }) (ch := []) os un3 hok3 bare (fun b hb => nomatch hb)
    have up : ∀ b, s'.heap.get? b = none -> s2.heap.get? b = none := fun b hb => by
      cases q : s2.heap.get? b with
      | none => rfl
      | some o =>
        obtain ⟨o', q'⟩ := un.there b o q (by simp)
        rw [hb] at q'; cases q'
    have hT3 : s2.heap.get? T3 = none := y3.elim (fun z => z ▸ hT) (up T3)
    have hHT3 : H' T3 = none := y3.elim (fun z => z ▸ hHT) fun z => by
      cases q : H' T3 with
      | none => rfl
      | some o =>
        obtain ⟨o', q'⟩ := jT (hok _ _ q)
        rw [z] at q'; cases q'
    refine wpAny_handleBy_cons (codeAny_handlers_test ?_) (by intro q; cases q)
    refine vJ (X := hdX X e) (qcR e I4) hgS hmS ?_ hdx
    obtain ⟨bmS, xS⟩ := hcl.sup
    obtain ⟨bm, xC, hin⟩ := hcl.own _ _ hz
    obtain ⟨nmS, qS, NS, bsS, hdctS, snS, subS, abS, colS, ddS, j0, j1, j2, j3, j5, newIdS, _, _, _, _, hS, _⟩ := xS.ex
    obtain ⟨nm, q, N, bs, hdct, sn, sub, ab, col, dd, k0, k1, k2, k3, k5, newId, _, _, _, _, hC, _⟩ := xC.ex
    obtain ⟨oe, vs, oT, ts, a0, hoe, hoc, hod, _⟩ := id y2
    refine uq (M := model X.prog X.w) (A := X.A.mark (some (.ref e))) (h := h3) (g := s'.gens) (d := s'.drawn) (t := s'.toks) (os := s'.os) (I4.bk _ _ hC) (I4.bk _ _ hS) hoe hoc.1 xS.hasBase ?_
    rw [hin]
    show codeAny _ _ _ _ _
    refine codeAny_handlers_suite_as ?_
    have hl3 : h3.FunFrames X.base X.stack := qax I3 un3
    refine wX (s := { s' with heap := h3 }) hl3 y2 fun h4 T4 z1 z2 z3 => ?_
    have hz4 : ∀ b ∈ [e, T3], H' b = none := fun b hb => by
      simp only [List.mem_cons, List.not_mem_nil, or_false] at hb
      rcases hb with rfl | rfl
      . exact hHe
      . exact hHT3
    have hz5 : ∀ b ∈ [e, T3], s2.heap.get? b = none := fun b hb => by
      simp only [List.mem_cons, List.not_mem_nil, or_false] at hb
      rcases hb with rfl | rfl
      . exact he
      . exact hT3
    have un4 : Un (frs X.stack) [] H2 H' s2.heap h4 := qcT un3 hz5 z1
    have hok4 : HOk X.prog X.w H' h4 := qay I3 un3 hok3 hz4 z1
    obtain ⟨oe4, vs4, oT4, ts4, a04, hoe4, hoc4, hod4, _⟩ := id z2
    have I5 : Inv X pins σ2 (upd H' e (.frz oe4 (.own e))) { s' with heap := h4 } := I3.call' (s' := { s' with heap := h4 }) (ch := []) os (qeZ un4 he hHe) (qcU hok4 hHe hoe4) bare (fun b hb => nomatch hb)
    refine yz (v := .ref e) I5 hN hi (.inl hx) rfl (fun s5 I6 => ?_) (.inr hx)
    have sm : z8 H' (upd H' e (.frz oe4 (.own e))) := qy hHe _
    have hil : IsL X.K (fun _ => False) (upd H' e (.frz oe4 (.own e))) [.exc z.cls] [.ref e] := ⟨.ref e, [], rfl, ⟨e, rfl, C, (vn hz).2, hcl.ki _ _ hz, oe4, vs4, qr, hoc4.1, hod4⟩, rfl⟩
    cases em : F [.exc z.cls] with
    | bad => simp only [qhu, ef, (vn hz).1, em, if_true] at w; exact w.elim
    | exc z' ρ'' => simp only [qhu, ef, (vn hz).1, em, if_true] at w; exact w.elim
    | ok d =>
      simp only [qhu, ef, (vn hz).1, em, if_true] at w
      have hσl : i < σ2.length := by rw [I5.len]; exact (List.getElem?_eq_some_iff.mp hi).1
      have call := qbX (qcv (pos := p4) (qcQ (X := hdX X e) (E := fun _ _ _ => False) (pos := p3) (p := p1) G ⟨hr.dp, hr.un, hr.gd⟩ hgm hmm hkm hbm .nil (fun _ _ _ _ _ _ _ z => z.elim) (jj (uk (X := hdX X e) (pos := p2) hi (.inl hx) hdn hcn) vm hst) hdm hst hpl))
      have run := call pins s5 _ _ ({ nx := fun _ _ => False, rt := D.rt } : qdo) (qcR e I6) ⟨.ref e, List.getElem?_set_self hσl, ⟨e, oe4, .own e, vs4, rfl, qr, hod4, hoc4.2.1⟩, [.exc z.cls], fun _ => False, hil, fun _ _ => trivial, by
        rw [em]
        exact fun v H6 sm6 i6 => w v σ' H6 (r'.same (fun b o q => sm6 b o (sm b o q))) (Is.ext Ext.refl (fun a ha _ => ha.elim (fun z => z.elim) fun hn => r'.b0 a (r'.dm a (sm.free hn))) i6) (g'.trans (Gr.of_same (fun b o q => sm6 b o (sm b o q))).s)⟩
      refine wpAny_mono run (fun fl s6 h6 => ?_) (fun _ _ z => z.elim)
      cases fl with
      | next => obtain ⟨_, _, _, z⟩ := h6; exact z.elim
      | brk => obtain ⟨_, _, _, z⟩ := h6; exact z.elim
      | cont => obtain ⟨_, _, _, z⟩ := h6; exact z.elim
      | ret u =>
        obtain ⟨v, σ7, H7, I7, rv, q7⟩ := h6
        have I8 := qcS hk I7
        obtain ⟨m8, hn8, _⟩ := id I8.loc
        exact wpAny_nameGoes hkn hn8 (by rw [hk.kind]; rfl) fun h9 m9 hn9 hs9 => ⟨v, _, H7, qdI I8 hn9 hs9, rv, q7⟩
  obtain ⟨t, p, wt⟩ := hb xe (X.pn ++ pins) E cE L
  have w' : WpS X.K (reE c cE) σ H D (f ρ) := by
    cases ef : f ρ with
    | bad => simp only [qhu, ef] at w; exact w
    | exc z ρ' => exact fun σ' H' r' g' => ⟨ρ', σ', ef, r'.unE, g'⟩
    | ok fl =>
      simp only [qhu, ef] at w
      cases fl with
      | nx ρ' => exact fun σ' H' r' g' => w σ' H' r'.unE g'
      | rt d ρ' => exact fun v σ' H' r' i' g' => w v σ' H' r'.unE i' g'
      | bk ρ' => exact fun σ' H' r' g' => w σ' H' r'.unE g'
      | ct ρ' => exact fun σ' H' r' g' => w σ' H' r'.unE g'
  have run := p [] s σ H D (qht I) (wt ρ σ H D r.reE w')
  refine wpAny_mono run (fun fl s1 h1 => ?_) (fun _ _ z => z)
  cases fl with
  | next =>
    obtain ⟨σ1, H1, I1, q1⟩ := h1
    exact wpAny_execs_nil ⟨σ1, H1, jw I1, q1⟩
  | brk => obtain ⟨σ1, H1, I1, q1⟩ := h1; exact ⟨σ1, H1, jw I1, q1⟩
  | cont => obtain ⟨σ1, H1, I1, q1⟩ := h1; exact ⟨σ1, H1, jw I1, q1⟩
  | ret u => obtain ⟨v, σ1, H1, I1, rv, q1⟩ := h1; exact ⟨v, σ1, H1, jw I1, rv, q1⟩
theorem qiH {x n : Str} {i : Nat} {S : Addr} {he : Expr} {f : MS} {g : M D} {RN : List Str} (hN : X.N.Nodup) (hcx : X.stack = X.env :: X.outer) (hf : X.env.frame = some X.env.locals)
    (hcl : qlQ X.K X.base RN S) (hgS : Gl X x) (hmS : X.mg x = some (.ref S))
    (hh : ∀ (e : Addr) (H6 : Hp), AloneA (X.A.mark (some (.ref e))) H6 -> DE (hdX X e) (ch H6) he g)
    (hb : ∀ (xe : Value -> Shared -> Prop) (pn : List (Addr × Obj)) (E : XK) (cE : Exn -> Hp -> Prop), XL2 (toX X xe pn) (reE c cE) (clR X.K RN) E -> DSs (toX X xe pn) (reE c cE) body f)
    (hi : X.N[i]? = some n := by rfl) (hx : X.env.scope.names.lookup n = some .cell := by rfl) (hkn : X.env.kindOf n = some .cell := by rfl) (hfn : X.fn n = true := by rfl)
    (hdx : (x == ("__debug__" : Str)) = false := by decide)  :
    DS X c (.Try body [.ExceptHandler (some (.Name x np)) (some n) [.Return (some he) p4] hpos] [] [] pos) (wN RN X.N.length i f g) := by
  refine ⟨fun D σ H => ∃ ρ, Rep X.K c ρ σ H /\ WpS X.K c σ H D (wN RN X.N.length i f g ρ), ?_, fun ρ σ H D r h => ⟨ρ, r, h⟩⟩
  rintro pins s σ H D I ⟨ρ, r, w⟩
  refine wpAny_Try_except ?_
  have hk := I.ok
  let xe : Value -> Shared -> Prop := fun e s₁ => wpAny (model X.prog X.w) X.A (noteFrame e X.env) (fun _ s₂ => wpAny (model X.prog X.w) X.A (setFlight e none) (fun _ s₃ => wpAny (model X.prog X.w) X.A (handleBy e X.env [.ExceptHandler (some (.Name x np)) (some n) [.Return (some he) p4] hpos]) (SP X pins D) X.xe s₃) X.xe s₂) X.xe s₁
  let cE : Exn -> Hp -> Prop := fun z H' => ∃ ρ' σ', f ρ = .exc z ρ' /\ Rep X.K c ρ' σ' H' /\ GrS c.O σ H σ' H'
  let E : XK := fun cv _ H' => ∃ C z, cv = .ref C /\ clR X.K RN z.cls = some C /\ cE z H'
  have L : XL2 (toX X xe (X.pn ++ pins)) (reE c cE) (clR X.K RN) E := by
    refine ⟨?_, fun z C H' h1 h2 => ⟨C, z, rfl, h1, h2⟩⟩
    intro pins2 σ2 H2 s2 u s' I2 hx2
    obtain ⟨e, T, C, H', rfl, os, bare, un, hok, he, hT, hHe, hHT, Fl, C', z, hC', hz, ρ', σ', ef, r', g'⟩ := hx2
    have eC : C = C' := Value.ref.inj hC'
    subst eC
    have I3 : Inv X pins σ2 H2 s2 := jw I2
    have hz2 : ∀ b ∈ [e, T], H' b = none := fun b hb => by
      simp only [List.mem_cons, List.not_mem_nil, or_false] at hb
      rcases hb with rfl | rfl
      . exact hHe
      . exact hHT
    have hz3 : ∀ b ∈ [e, T], s2.heap.get? b = none := fun b hb => by
      simp only [List.mem_cons, List.not_mem_nil, or_false] at hb
      rcases hb with rfl | rfl
      . exact he
      . exact hT
    have hl : s'.heap.FunFrames X.base X.stack := qax I3 un
    have hA : X.A.frames = some (X.env :: X.outer) := by rw [<- hcx]; exact hk.frames
    show wpAny _ _ _ _ _ _
    rw [hcx] at hl
    refine wj hA hl hf Fl fun h3 T3 y1 y2 y3 => ?_
    rw [<- hcx] at y1
    have un3 : Un (frs X.stack) [] H2 H' s2.heap h3 := qcT un hz3 y1
    have hok3 : HOk X.prog X.w H' h3 := qay I3 un hok hz2 y1
    have I4 : Inv X pins σ2 H' { s' with heap := h3 } := I3.call' (s' := { s' with heap := h3 }) (ch := []) os un3 hok3 bare (fun b hb => nomatch hb)
    have up : ∀ b, s'.heap.get? b = none -> s2.heap.get? b = none := fun b hb => by
      cases q : s2.heap.get? b with
      | none => rfl
      | some o =>
        obtain ⟨o', q'⟩ := un.there b o q (by simp)
        rw [hb] at q'; cases q'
    have hT3 : s2.heap.get? T3 = none := y3.elim (fun z => z ▸ hT) (up T3)
    have hHT3 : H' T3 = none := y3.elim (fun z => z ▸ hHT) fun z => by
      cases q : H' T3 with
      | none => rfl
      | some o =>
        obtain ⟨o', q'⟩ := jT (hok _ _ q)
        rw [z] at q'; cases q'
    refine wpAny_handleBy_cons (codeAny_handlers_test ?_) (by intro q; cases q)
    refine vJ (X := hdX X e) (qcR e I4) hgS hmS ?_ hdx
    obtain ⟨bmS, xS⟩ := hcl.sup
    obtain ⟨bm, xC, hin⟩ := hcl.own _ _ hz
    obtain ⟨nmS, qS, NS, bsS, hdctS, snS, subS, abS, colS, ddS, j0, j1, j2, j3, j5, newIdS, _, _, _, _, hS, _⟩ := xS.ex
    obtain ⟨nm, q, N, bs, hdct, sn, sub, ab, col, dd, k0, k1, k2, k3, k5, newId, _, _, _, _, hC, _⟩ := xC.ex
    obtain ⟨oe, vs, oT, ts, a0, hoe, hoc, hod, _⟩ := id y2
    refine uq (M := model X.prog X.w) (A := X.A.mark (some (.ref e))) (h := h3) (g := s'.gens) (d := s'.drawn) (t := s'.toks) (os := s'.os) (I4.bk _ _ hC) (I4.bk _ _ hS) hoe hoc.1 xS.hasBase ?_
    rw [hin]
    show codeAny _ _ _ _ _
    refine codeAny_handlers_suite_as ?_
    have hl3 : h3.FunFrames X.base X.stack := qax I3 un3
    refine wX (s := { s' with heap := h3 }) hl3 y2 fun h4 T4 z1 z2 z3 => ?_
    have hz4 : ∀ b ∈ [e, T3], H' b = none := fun b hb => by
      simp only [List.mem_cons, List.not_mem_nil, or_false] at hb
      rcases hb with rfl | rfl
      . exact hHe
      . exact hHT3
    have hz5 : ∀ b ∈ [e, T3], s2.heap.get? b = none := fun b hb => by
      simp only [List.mem_cons, List.not_mem_nil, or_false] at hb
      rcases hb with rfl | rfl
      . exact he
      . exact hT3
    have un4 : Un (frs X.stack) [] H2 H' s2.heap h4 := qcT un3 hz5 z1
    have hok4 : HOk X.prog X.w H' h4 := qay I3 un3 hok3 hz4 z1
    obtain ⟨oe4, vs4, oT4, ts4, a04, hoe4, hoc4, hod4, _⟩ := id z2
    have I5 : Inv X pins σ2 (upd H' e (.frz oe4 (.own e))) { s' with heap := h4 } := I3.call' (s' := { s' with heap := h4 }) (ch := []) os (qeZ un4 he hHe) (qcU hok4 hHe hoe4) bare (fun b hb => nomatch hb)
    refine yz (v := .ref e) I5 hN hi (.inr hx) rfl (fun s5 I6 => ?_) (.inl hfn)
    have sm : z8 H' (upd H' e (.frz oe4 (.own e))) := qy hHe _
    have al : AloneA (X.A.mark (some (.ref e))) (upd H' e (.frz oe4 (.own e))) := ⟨e, oe4, .own e, vs4, rfl, qr, hod4, hoc4.2.1⟩
    have hσl : i < σ2.length := by rw [I5.len]; exact (List.getElem?_eq_some_iff.mp hi).1
    have rh := qkr (K := X.K) (n := X.N.length) (i := i) (H6 := upd H' e (.frz oe4 (.own e))) (σ := σ2) (d := .exc z.cls) (v := .ref e) I5.len ⟨e, rfl, C, (vn hz).2, hcl.ki _ _ hz, oe4, vs4, qr, hoc4.1, hod4⟩
    cases em : g ((List.replicate X.N.length none).set i (some (.exc z.cls))) with
    | bad => simp only [wN, ef, (vn hz).1, em, if_true] at w; exact w.elim
    | exc z' ρ'' => simp only [wN, ef, (vn hz).1, em, if_true] at w; exact w.elim
    | ok dp =>
      obtain ⟨d, ρd⟩ := dp
      simp only [wN, ef, (vn hz).1, em, if_true] at w
      obtain ⟨te, pe, we⟩ := hh e _ al
      have call := qbX (qcv (pos := p4) pe)
      have run := call pins s5 _ _ ({ nx := fun _ _ => False, rt := D.rt } : qdo) (qcR e I6) (we _ _ _ _ rh (by
        rw [em]
        exact fun v H6 r6 i6 _ => by
          have sm6 : z8 (upd H' e (.frz oe4 (.own e))) H6 := fun b o q => r6.kp b o q fun z => z
          exact w v σ' H6 (r'.same (fun b o q => sm6 b o (sm b o q))) (Is.ext Ext.refl (fun a ha _ => r'.b0 a (r'.dm a (sm.free ha.1))) i6) (g'.trans (Gr.of_same (fun b o q => sm6 b o (sm b o q))).s)))
      refine wpAny_mono run (fun fl s6 h6 => ?_) (fun _ _ z => z.elim)
      cases fl with
      | next => obtain ⟨_, _, _, z⟩ := h6; exact z.elim
      | brk => obtain ⟨_, _, _, z⟩ := h6; exact z.elim
      | cont => obtain ⟨_, _, _, z⟩ := h6; exact z.elim
      | ret u =>
        obtain ⟨v, σ7, H7, I7, rv, q7⟩ := h6
        have I8 := qcS hk I7
        exact qe0 I8 hN hi hx hkn hfn fun s9 I9 => ⟨v, _, H7, I9, rv, q7⟩
  obtain ⟨t, p, wt⟩ := hb xe (X.pn ++ pins) E cE L
  have w' : WpS X.K (reE c cE) σ H D (f ρ) := by
    cases ef : f ρ with
    | bad => simp only [wN, ef] at w; exact w
    | exc z ρ' => exact fun σ' H' r' g' => ⟨ρ', σ', ef, r'.unE, g'⟩
    | ok fl =>
      simp only [wN, ef] at w
      cases fl with
      | nx ρ' => exact fun σ' H' r' g' => w σ' H' r'.unE g'
      | rt d ρ' => exact fun v σ' H' r' i' g' => w v σ' H' r'.unE i' g'
      | bk ρ' => exact fun σ' H' r' g' => w σ' H' r'.unE g'
      | ct ρ' => exact fun σ' H' r' g' => w σ' H' r'.unE g'
  have run := p [] s σ H D (qht I) (wt ρ σ H D r.reE w')
  refine wpAny_mono run (fun fl s1 h1 => ?_) (fun _ _ z => z)
  cases fl with
  | next =>
    obtain ⟨σ1, H1, I1, q1⟩ := h1
    exact wpAny_execs_nil ⟨σ1, H1, jw I1, q1⟩
  | brk => obtain ⟨σ1, H1, I1, q1⟩ := h1; exact ⟨σ1, H1, jw I1, q1⟩
  | cont => obtain ⟨σ1, H1, I1, q1⟩ := h1; exact ⟨σ1, H1, jw I1, q1⟩
  | ret u => obtain ⟨v, σ1, H1, I1, rv, q1⟩ := h1; exact ⟨v, σ1, H1, jw I1, rv, q1⟩
end
end L2.Sk
namespace L2.Sk
open PySem PySem.Spec PyProof.Rows PySem.W
def bmV : List Value := [.type "ValueError", .type "Exception", .type "BaseException", .type "object"]
def qdJ (K : Fr0) (C S : Addr) : Bool := match K.lookup C with
  | some ⟨_, _, .cls cd, _⟩ => cd.mro.contains (.ref S)
  | _ => false
theorem qcV {K : Fr0} {h : Heap} {C S : Addr} (X : K.In h) (q : excIn K C bmV "ValueError.__new__" = true) (hs : qdJ K C S = true) : ∃ bm, XC h C bm /\ (Value.ref C :: bm).contains (.ref S) = true := by
  unfold excIn at q
  split at q
  . rename_i dd cd sl ho
    split at q
    . rename_i C' bm k0 k1 k2 k3 n k5 hm hl
      simp only [Bool.and_eq_true, beq_iff_eq, Bool.not_eq_true'] at q
      obtain ⟨⟨⟨⟨⟨e1, e2⟩, hdel⟩, ht⟩, hok⟩, hni⟩ := q
      subst e1 e2
      unfold qdJ at hs
      rw [ho] at hs
      dsimp only at hs
      rw [hm] at hs
      obtain ⟨nm, bs, mro, ns, qn, hd, sn, sub, ab, col, del⟩ := cd
      dsimp only at hm hdel hok hni
      subst hm hdel
      have hz : sl = #[k0, k1, k2, k3, some (.builtin _), k5] := Array.toList_inj.mp hl
      subst hz
      have hT := tail_of_in X ht
      refine ⟨bm, ⟨hT.hasType (by decide +kernel), nm, qn, ns, bs, hd, sn, sub, ab, col, dd, k0, k1, k2, k3, k5, _, "ValueError.__init__", "ValueError", bmV, _, X _ _ ho, .of_isNs (isNs_of_in X hok), nsMap_none_of_in X hok hni, hT, PySem.F.excBase_ValueError⟩, hs⟩
    . cases q
  . cases q
def qiI (K : Fr0) (D : Addr) : Bool :=
  findIn K (.ref D) "__getattribute__" == some (some (.builtin "BaseException.__getattribute__")) && findIn K (.ref D) "__getattr__" == some none &&
  findIn K (.ref D) "__class__" == some (some (.builtin "object.__class__")) && mroIn K D (.type "object") == some true && subIn K (.ref D) (.type "BaseException") == some true && (clsIn K D).isSome &&
  (["int", "bool", "str", "tuple", "list", "dict"].all fun T => kitOne K (.ref D) (.type T) == some false)
theorem qks {K : Fr0} {D : Addr} (h : qiI K D = true) : XK6 K D := by
  unfold qiI at h
  simp only [Bool.and_eq_true, beq_iff_eq] at h
  obtain ⟨⟨⟨⟨⟨⟨h1, h2⟩, h3⟩, h4⟩, h5⟩, h6⟩, h7⟩ := h
  exact ⟨h1, h2, h3, h4, h5, h6, fun T hT => by simpa using List.all_eq_true.mp h7 T hT⟩
def qdK (n m : Str) : Bool := n == m || m == "SackError"
def qkt (K : Fr0) (S : Addr) (TN : List Str) (n : Str) : Bool := match yQ K n with
  | some C => excIn K C bmV "ValueError.__new__" && qdJ K C S && qiI K C && kitOne K (.ref C) (.type "ValueError") == some true &&
    TN.all fun m => match yQ K m with
      | some Cm => kitOne K (.ref C) (.ref Cm) == some (qdK n m)
      | none => false
  | none => false
def qlR (K : Fr0) (RN TN : List Str) : Bool := match yQ K "SackError" with
  | some S => excIn K S bmV "ValueError.__new__" && qdJ K S S && RN.all (qkt K S TN)
  | none => false
structure XT (K : Fr0) (mg : Str -> Option Value) (RN TN : List Str) : Prop where
  all : qlR K RN TN = true
  mgc : ∀ n C, yQ K n = some C -> mg n = some (.ref C)
theorem qgr {K : Fr0} {h : Heap} {mg : Str -> Option Value} (X : K.In h) (G : h.Ns mainGlobals mg) (n : Str) (C : Addr) (e : yQ K n = some C) : mg n = some (.ref C) := by
  unfold yQ at e
  split at e
  . rename_i C' q
    cases e
    exact mg_of X G q
  . cases e
section
variable {K : Fr0} {mg : Str -> Option Value} {RN TN : List Str}
theorem XT.sup (t : XT K mg RN TN) : ∃ S, yQ K "SackError" = some S /\ excIn K S bmV "ValueError.__new__" = true /\ qdJ K S S = true /\ RN.all (qkt K S TN) = true := by
  have h := t.all
  unfold qlR at h
  split at h
  . rename_i S e
    simp only [Bool.and_eq_true] at h
    exact ⟨S, e, h.1.1, h.1.2, h.2⟩
  . cases h
theorem XT.row (t : XT K mg RN TN) {S : Addr} (hS : yQ K "SackError" = some S) {n : Str} (hn : RN.contains n = true) : qkt K S TN n = true := by
  obtain ⟨S', e, _, _, h⟩ := t.sup
  rw [hS] at e
  cases e
  exact List.all_eq_true.mp h n (by simpa using hn)
theorem XT.cls (t : XT K mg RN TN) {n : Str} {C : Addr} (h : clR K RN n = some C) : yQ K n = some C /\ ∃ S, yQ K "SackError" = some S /\ excIn K C bmV "ValueError.__new__" = true /\ qdJ K C S = true /\ XK6 K C /\ kitOne K (.ref C) (.type "ValueError") = some true /\
    ∀ m ∈ TN, ∃ Cm, yQ K m = some Cm /\ kitOne K (.ref C) (.ref Cm) = some (qdK n m) := by
  unfold clR at h
  split at h
  . rename_i hn
    obtain ⟨S, hS, _⟩ := t.sup
    have r := t.row hS hn
    unfold qkt at r
    rw [h] at r
    simp only [Bool.and_eq_true, beq_iff_eq] at r
    obtain ⟨⟨⟨⟨r1, r2⟩, r3⟩, r4⟩, r5⟩ := r
    refine ⟨h, S, hS, r1, r2, qks r3, r4, fun m hm => ?_⟩
    have := List.all_eq_true.mp r5 m hm
    split at this
    . rename_i Cm e
      exact ⟨Cm, e, by simpa using this⟩
    . cases this
  . cases h
theorem XT.has (t : XT K mg RN TN) {n : Str} (hn : RN.contains n = true) : ∃ C, clR K RN n = some C := by
  obtain ⟨S, hS, _⟩ := t.sup
  have r := t.row hS hn
  unfold qkt at r
  split at r
  . rename_i C e
    exact ⟨C, by unfold clR; rw [if_pos hn]; exact e⟩
  . cases r
theorem XT.ask (t : XT K mg RN TN) {n m : Str} (hn : RN.contains n = true) (hm : m ∈ TN) : ∃ Cm, yQ K m = some Cm := by
  obtain ⟨C, hC⟩ := t.has hn
  obtain ⟨_, _, _, _, _, _, _, h⟩ := t.cls hC
  obtain ⟨Cm, e, _⟩ := h m hm
  exact ⟨Cm, e⟩
theorem XT.xcls (t : XT K mg RN TN) {base : Heap} (X : K.In base) : ∃ S, mg "SackError" = some (.ref S) /\ qlQ K base RN S := by
  obtain ⟨S, hS, h1, h2, _⟩ := t.sup
  refine ⟨S, t.mgc _ _ hS, ⟨(qcV X h1 h2).imp fun bm h => h.1, fun n C h => ?_, fun n C h => ?_⟩⟩
  . obtain ⟨_, S', hS', r1, r2, _⟩ := t.cls h
    rw [hS] at hS'
    cases hS'
    exact qcV X r1 r2
  . obtain ⟨_, _, _, _, _, r, _⟩ := t.cls h
    exact r
end
def qbV (RN : List Str) (m : Str) (f : M D) : M D := bnd f fun d => match d with
  | .exc n => if RN.contains n then ret (.bl (m == "ValueError" || qdK n m)) else fun _ => .bad
  | _ => fun _ => .bad
section
variable {X : Cx} {c : Fc} {a b e : Expr} {pos : Pos} {RN TN : List Str}
def qmo (K : Fr0) (RN : List Str) (m : Str) (Cm : V) : List V -> Hp -> VK -> Prop := fun xs H Q => ∃ v n A, xs = [v, Cm] /\ RN.contains n = true /\ Is K A H (.exc n) v /\ Q (.bl (m == "ValueError" || qdK n m)) H
theorem qcW {m : Str} {Cm : V} {um : Value} (hr : ju Cm um) (hu : ∀ u, ju Cm u -> u = um) (hk : ∀ n C, yQ X.K n = some C -> RN.contains n = true -> kitOne X.K (.ref C) um = some (m == "ValueError" || qdK n m)) : jN X (.builtin "isinstance") (qmo X.K RN m Cm) := by
  intro pins s σ H xs us Q I r h
  obtain ⟨v, n, A, rfl, hn, hi, q⟩ := h
  obtain ⟨u, w, rfl, r1, r2⟩ := qQ.two r
  rw [hu w r2]
  obtain ⟨z, rfl, C, hC, h1, h2⟩ := hi
  cases (show u = Value.ref z from r1)
  exact wS I h1 h2 (hk n C hC hn) fun tk => ⟨.bl _, H, I.tok tk, rfl, q⟩
theorem qe1 {m : Str} {f : M D} {t : TE} {Cm : V} (w : ∀ ρ σ H Q, Rep X.K c ρ σ H -> Wp X.K c σ H Q (f ρ) -> t σ H Q) : ∀ ρ σ H Q, Rep X.K c ρ σ H -> Wp X.K c σ H Q (qbV RN m f ρ) -> tCB (qmo X.K RN m Cm) (qfW t (qfW (tC Cm) qlB)) σ H Q := fun ρ σ H Q r h => w ρ σ H _ r (Wp.bnd h fun d ρ1 v H1 r1 i1 g1 h1 => by
  cases d with
  | exc n =>
    dsimp only at h1
    by_cases hn : RN.contains n = true
    . rw [if_pos hn] at h1
      exact ⟨v, n, _, rfl, hn, i1, h1 _ H1 r1 rfl .refl⟩
    . rw [if_neg hn] at h1
      exact h1.elim
  | _ => exact h1.elim)
theorem ur {m : Str} {mgl : Str -> Option Value} {p p2 : Pos} {f : M D} (t : XT X.K X.mg RN TN) (hm : m ∈ TN) (hne : (m == "ValueError") = false) (hg : Gl X "isinstance") (hmi : X.mg "isinstance" = none) (hg2 : Gl X m) (ha : DE X c a f)
    (hs : ∃ Cm, yQ X.K m = some Cm)
    (hv : bootBuiltins "isinstance" = some (.builtin "isinstance") := by first | rfl | exact PySem.boot_isinstance) (hdb2 : (m == ("__debug__" : Str)) = false := by decide)
    (he : starEach [a, .Name m p2] X.env = (false, eval a X.env) :: starEach [.Name m p2] X.env := by rfl) (hpl : (backTo pos (starEach [.Name m p2] X.env)).any (·.1) = false := by rfl) : DE X c (.Call (.Name "isinstance" p) [a, .Name m p2] [] pos) (qbV RN m f) := by
  obtain ⟨ta, pa, w⟩ := ha
  obtain ⟨Cm, hCm⟩ := hs
  refine ⟨_, vC (qcW (RN := RN) (m := m) (Cm := .ref Cm) (um := .ref Cm) rfl (fun u h => h) fun n C hC hn => ?_) hg hmi hv (jj pa (jj (qbW (v := .ref Cm) hg2 (t.mgc m Cm hCm) rfl hdb2) vm (by rfl)) he) (by decide) (by decide) he hpl, qe1 w⟩
  have hcl : clR X.K RN n = some C := by unfold clR; rw [if_pos hn]; exact hC
  obtain ⟨_, _, _, _, _, _, _, h⟩ := t.cls hcl
  obtain ⟨Cm', e1, e2⟩ := h m hm
  rw [hCm] at e1
  cases e1
  rw [e2, hne]; rfl
theorem qiJ {p p2 : Pos} {f : M D} (t : XT X.K X.mg RN TN) (hg : Gl X "isinstance") (hmi : X.mg "isinstance" = none) (hg2 : Gl X "ValueError") (hm2 : X.mg "ValueError" = none) (ha : DE X c a f)
    (hv : bootBuiltins "isinstance" = some (.builtin "isinstance") := by first | rfl | exact PySem.boot_isinstance) (hv2 : bootBuiltins "ValueError" = some (.type "ValueError") := by rfl)
    (he : starEach [a, .Name "ValueError" p2] X.env = (false, eval a X.env) :: starEach [.Name "ValueError" p2] X.env := by rfl) (hpl : (backTo pos (starEach [.Name "ValueError" p2] X.env)).any (·.1) = false := by rfl) : DE X c (.Call (.Name "isinstance" p) [a, .Name "ValueError" p2] [] pos) (qbV RN "ValueError" f) := by
  obtain ⟨ta, pa, w⟩ := ha
  refine ⟨_, vC (qcW (RN := RN) (m := "ValueError") (Cm := .ty "ValueError") (um := .type "ValueError") rfl (fun u h => h) fun n C hC hn => ?_) hg hmi hv (jj pa (jj (qd6 (v := .ty "ValueError") hg2 hm2 hv2 rfl (by decide) (by decide)) vm (by rfl)) he) (by decide) (by decide) he hpl, qe1 w⟩
  have hcl : clR X.K RN n = some C := by unfold clR; rw [if_pos hn]; exact hC
  obtain ⟨_, _, _, _, _, _, h, _⟩ := t.cls hcl
  rw [h]; rfl
end
section
variable {P : Program} {w : World} {K : PySem.W.Frag} {mg : Str -> Option Value} {base : Heap}
theorem qcX {x qual : Str} {st : Stmt} {f : Addr} {fd : FuncData} {N ps : List Str} {k : Nat} {O : List Nat} {body : MS} (F : Fun K x qual st f fd) (S : qw N ps (qd st)) (hO : ∀ i ∈ O, ps.length <= i)
    (hb : ∀ (cdv : Value) (A : Around) (outer : List PySem.Env) (s : Shared) (H : Hp) (E : XK) (B : Addr -> Prop), yk k (A.deeper (envOfC qual (qd st) s.heap.objs.size f cdv)) -> AloneA (A.deeper (envOfC qual (qd st) s.heap.objs.size f cdv)) H ->
      DSs (qdG CX0 P w K mg base N qual (qd st) f cdv A outer s H E).nox (cfn O [] B H (fun _ => False) (fun _ _ => False) fun _ => none) (qu st) body) :
    qaw P w K mg base CX0 (k + 1) f fd ps (spD K (dfn N.length ps.length body)) := by
  obtain ⟨oc, od, kV, doc, pm, an, cdv, ct, osl, rfl, lk, hcd⟩ := F.ex
  refine qkp lk hcd S (fun vs H Q E h => ?_) (fun A outer s H vs Q E hr al h => ?_)
  . obtain ⟨ds, B, il, _, h⟩ := h
    unfold dfn at h
    by_cases e : ds.length = ps.length
    . rw [il.length]; exact e
    . rw [if_neg e] at h; exact h.elim
  . obtain ⟨ds, B, il, _, h⟩ := h
    obtain ⟨t, p, wt⟩ := hb cdv A outer s H E B hr al
    refine ⟨t, p.nox, ?_⟩
    unfold dfn at h
    by_cases e : ds.length = ps.length
    . rw [if_pos e] at h
      refine wt (jR N.length ds) (zn N vs) H _ (v5 il (fun i hi => by rw [e]; exact hO i hi)) ?_
      have same : ∀ {ρ : Env} {σ : St} {H' : Hp}, Rep K (cfn O [] B H (fun _ => False) (fun _ _ => False) fun _ => none) ρ σ H' -> z8 H H' := fun r b o hb => r.kp b o hb fun z => z
      cases eb : body (jR N.length ds) with
      | bad => rw [eb] at h; exact h.elim
      | exc z ρ => rw [eb] at h; exact h.elim
      | ok fl =>
        rw [eb] at h
        cases fl with
        | nx ρ => exact fun σ' H' r' _ => h .non H' (same r') rfl
        | rt d ρ => exact fun v σ' H' r' i' _ => h v H' (same r') i'
        | bk ρ => exact h.elim
        | ct ρ => exact h.elim
    . rw [if_neg e] at h; exact h.elim
structure qb9 (P : Program) (w : World) (K : PySem.W.Frag) (mg : Str -> Option Value) (base : Heap) (k : Nat) (x : Str) (ps : List Str) (sp : Sp) : Prop where
  ex : ∃ f fd, qaw P w K mg base CX0 k f fd ps sp /\ mg x = some (.ref f) /\ PySem.W.keepIn K (.ref f) = true /\ yP K fd ps []
end
end L2.Sk
namespace L2.Sk
open PySem PySem.Spec PyProof.Rows
section
variable {ρ : Env} {f g : M D} {l : M (List D)} {p q : MS} {RN : List Str}
theorem qcY (F : List D -> R D) : j6 RN F l ρ = match l ρ with | .ok (xs, ρ1) => (match F xs with | .ok d => .ok (d, ρ1) | .exc x _ => (if RN.contains x.cls then .exc x ρ1 else .bad) | .bad => .bad) | .exc x ρ' => .exc x ρ' | .bad => .bad := by
  simp only [j6, bnd]
  cases l ρ with
  | ok z => obtain ⟨z1, ρ1⟩ := z; cases F z1 <;> rfl
  | exc x ρ' => rfl
  | bad => rfl
theorem qcZ (F : List D -> R D) : qcP F l ρ = match l ρ with | .ok (xs, ρ1) => (match F xs with | .ok d => .ok (d, ρ1) | _ => .bad) | .exc x ρ' => .exc x ρ' | .bad => .bad := by
  simp only [qcP, bnd]
  cases l ρ with
  | ok z => obtain ⟨z1, ρ1⟩ := z; cases F z1 <;> rfl
  | exc x ρ' => rfl
  | bad => rfl
theorem qc0 (x : Str) : wY x l ρ = match l ρ with | .ok (ds, ρ') => (if qD ds.length then .exc ⟨x, .non⟩ ρ' else .bad) | .exc z ρ' => .exc z ρ' | .bad => .bad := rfl
theorem qmp (F : List D -> R D) : qhu RN p F ρ = match p ρ with | .exc x ρ' => (if RN.contains x.cls then (match F [.exc x.cls] with | .ok d => .ok (.rt d ρ') | _ => .bad) else .bad) | r => r := rfl
theorem qiK (n i : Nat) (g : M D) : wN RN n i p g ρ = match p ρ with | .exc x ρ' => (if RN.contains x.cls then (match g ((List.replicate n none).set i (some (.exc x.cls))) with | .ok (d, _) => .ok (.rt d ρ') | _ => .bad) else .bad) | r => r := rfl
theorem qhv (m : Str) : qbV RN m f ρ = match f ρ with | .ok (.exc n, ρ1) => (if RN.contains n then .ok (.bl (m == "ValueError" || qdK n m), ρ1) else .bad) | .ok _ => .bad | .exc x ρ' => .exc x ρ' | .bad => .bad := by
  simp only [qbV, bnd]
  cases f ρ with
  | ok z =>
    obtain ⟨z1, ρ1⟩ := z
    cases z1 <;> first | rfl | (dsimp only; split <;> rfl)
  | exc x ρ' => rfl
  | bad => rfl
theorem qe2 (F : D -> List D -> Option D) : qkq F f l ρ = match f ρ with
    | .ok (.lst ds, ρ1) => (match l ρ1 with | .ok (ys, ρ2) => (match F (.lst ds) ys with | some d => .ok (d, ρ2) | none => .bad) | .exc x ρ' => .exc x ρ' | .bad => .bad)
    | .ok _ => .bad | .exc x ρ' => .exc x ρ' | .bad => .bad := by
  simp only [qkq, bnd]
  cases f ρ with
  | ok z =>
    obtain ⟨z1, ρ1⟩ := z
    cases z1 with
    | lst ds =>
      show bnd l (fun ys => lift (F (D.lst ds) ys)) ρ1 = (match l ρ1 with | .ok (ys, ρ2) => (match F (.lst ds) ys with | some d => .ok (d, ρ2) | none => .bad) | .exc x ρ' => .exc x ρ' | .bad => .bad)
      unfold bnd
      cases l ρ1 with
      | ok z => obtain ⟨z2, ρ2⟩ := z; (dsimp only; cases F (.lst ds) z2 <;> rfl)
      | exc x ρ' => rfl
      | bad => rfl
    | _ => rfl
  | exc x ρ' => rfl
  | bad => rfl
end
theorem qgs {n p : Nat} {body : MS} {ds : List D} {d : D} (h : ds.length = p) (e : ∃ ρ, body (jR n ds) = .ok (.rt d ρ)) : wM n p body ds = .ok d := by
  obtain ⟨ρ, e⟩ := e
  unfold wM; rw [if_pos h, e]
theorem qc1 {n p : Nat} {body : MS} {ds : List D} (h : ds.length = p) (e : ∃ ρ, body (jR n ds) = .ok (.nx ρ)) : wM n p body ds = .ok .non := by
  obtain ⟨ρ, e⟩ := e
  unfold wM; rw [if_pos h, e]
end L2.Sk
namespace L2.Sk
open PySem PySem.Spec PyProof.Rows
def unO (_ : Nat) (c : Fc) : Fc := { c with O := [], P := [], B := fun _ => True }
theorem Gr.unSame {c : Fc} {σ : St} {H H' : Hp} {i : Nat} (g : Gr (unO i c).O σ H H') : z8 H H' := fun b o h => g.ext.at_ b o (fun j hj => by cases hj) h
theorem Rep.un {K : Fr0} {c : Fc} {ρ : Env} {σ : St} {H : Hp} {i : Nat} (r : Rep K c ρ σ H) (_ : i ∈ c.O) : Rep K (unO i c) ρ σ H := by
  have all : ∀ b : Addr, Cn (unO i c) σ b := fun b => ⟨trivial, fun j hj => by cases hj⟩
  refine ⟨r.len, fun k d hk => ?_, fun j hj => (by cases hj), fun k j a hk => (by cases hk), fun _ _ => trivial, r.kp, r.dm, fun j hj => (by cases hj), fun j hj => (by cases hj)⟩
  obtain ⟨v, h1, h2⟩ := r.val k d hk
  refine ⟨v, h1, .inr ⟨fun z => (by cases z), ?_⟩⟩
  rcases h2 with ⟨hk2, ds, a, xs, h3, h5, h6, h7⟩ | ⟨hk2, h3⟩
  . subst h3 h5
    exact ⟨a, xs, rfl, all a, h6, IsL.ext Ext.refl (fun b _ _ => all b) h7⟩
  . exact Is.ext Ext.refl (fun b _ _ => all b) h3
theorem Gr.un {c : Fc} {σ : St} {H H' : Hp} {i : Nat} (g : Gr (unO i c).O σ H H') : Gr c.O σ H H' := .of_same g.unSame
open Classical in
open Classical in
open Classical in
section
variable {X : Cx} {c : Fc} {e : Expr} {pos : Pos}
def qng : List D -> Option (List D)
  | [.int i, .int j] => if decide (-(2 ^ 62) <= i) && decide (i < 2 ^ 62) && decide (-(2 ^ 62) <= j) && decide (j < 2 ^ 62) then some (wK i (j - i).toNat) else none
  | _ => none
theorem XL2.un {i : Nat} {cl : Str -> Option Addr} {E : XK} (L : XL2 X c cl E) : XL2 X (unO i c) cl E := ⟨L.pass, L.wish⟩
def qhw (i n : Nat) (g : D -> Env -> Option Env) (b : MS) : Nat -> MS
  | 0, ρ => match zk i ρ with
    | some ds => if ds.length <= n then .ok (.nx ρ) else .bad
    | none => .bad
  | m + 1, ρ => match zk i ρ with
    | some ds => match ds[n - (m + 1)]? with
      | none => .bad
      | some d => match g d ρ with
        | none => .bad
        | some ρ1 => match b ρ1 with
          | .ok (.nx ρ2) => qhw i n g b m ρ2
          | .ok (.ct ρ2) => qhw i n g b m ρ2
          | .ok (.bk ρ2) => .ok (.nx ρ2)
          | .ok (.rt r ρ2) => .ok (.rt r ρ2)
          | .exc x ρ2 => .exc x ρ2
          | .bad => .bad
    | none => .bad
end
section
variable {ρ : Env} {f : M D} {t : M Bool} {n : M (List D)}
open Classical in
open Classical in
open Classical in
end
end L2.Sk
namespace L2.Sk
open PySem PySem.Spec PyProof.Rows
def inA (x y : D) : Option D := match sqD y with
  | some ds => if qbk x && qbk y then some (.bl ((toPDs ds).any fun y => PyData.eqv y (zP x))) else none
  | none => none
section
variable {X : Cx}
end
end L2.Sk
namespace L2.Sk
open PySem PySem.Spec PyProof.Rows
section
variable {prog : Program} {w : World} {A : Around} {R : Result -> Shared -> Prop} {I : Addr} {fp wr : List Addr} {n : Nat} {P : Nat -> Value -> Prop} {St : Nat -> Heap -> Prop}
structure qku (prog : Program) (w : World) (A : Around) (P : Nat -> Value -> Prop) (bt : Nat -> Nat -> Bool) (Ok : Heap -> Prop) (wr : List Addr) (Z : Addr) : Prop where
  cmp : ∀ (i j : Nat) (x y : Value) (s : Shared) (Q E : Value -> Shared -> Prop), P i x -> P j y -> Ok s.heap -> Q (.bool (bt i j)) s -> wpAny (model prog w) A (richCompare .Lt x y) Q E s
  old : ∀ h h' : Heap, Ok h -> (∀ b o, b ∉ wr -> b ≠ Z -> h.get? b = some o -> h'.get? b = some o) -> Ok h'
theorem qdL (W : Walks prog w A.in1 I fp wr n P St) {bt : Nat -> Nat -> Bool} {Ok : Heap -> Prop} {Z : Addr} (gZ : Z ∉ fp) (C : qku prog w A.in1 P bt Ok wr Z) :
    ∀ (m q : Nat) (s : Shared) (best : Value) (z : Nat), n = q + 1 + m -> St (q + 1) s.heap -> P (argBest bt q) best -> Ok s.heap ->
    s.heap.get? Z = some { cls := .type "list", dict := none, data := .seq #[best, best] z, slots := #[] } ->
    (∀ y h2 t2, P (argBest bt (n - 1)) y -> (∀ b o, b ∉ wr -> b ≠ Z -> s.heap.get? b = some o -> h2.get? b = some o) -> R (.ok (.ret y)) { s with heap := h2, toks := t2 }) ->
    codeAny (model prog w) A (.builtin "min.loop" ⟨[.ref I, .none, .ref Z], []⟩) R s := by
  have gw : Z ∉ wr := fun e => gZ (W.sub _ e)
  have nm : (toString "min" ++ toString ".loop" : String) = "min.loop" := by decide
  intro m
  induction m with
  | zero =>
    intro q s best z en est eP eO eZ fin
    have eq1 : q + 1 = n := by omega
    have st' : St n s.heap := eq1 ▸ est
    refine codeAny_builtin PySem.F.entry_min_loop (by
      rw [Around.under_plainId PySem.F.plain_min_loop _]
      refine wpAny_bind (wpAny_seqItems eZ rfl ?_)
      refine wpAny_bind (wpAny_tryCatch (W.done s _ _ st' fun h1 t1 k1 => ?_))
      have eZ1 := k1 Z _ gw eZ
      refine wpAny_bind (wpAny_updateSeq eZ1 rfl (wpAny_bind (wpAny_letGo (wpAny_pure ?_))))
      exact fin best _ t1 (by rw [<- eq1]; exact eP) fun b o nb nz g => (Heap.get?_update_other _ _ (Ne.symm nz)).trans (k1 b o nb g))
  | succ m ih =>
    intro q s best z en est eP eO eZ fin
    have lt1 : q + 1 < n := by omega
    refine codeAny_builtin PySem.F.entry_min_loop (by
      rw [Around.under_plainId PySem.F.plain_min_loop _]
      refine wpAny_bind (wpAny_seqItems eZ rfl ?_)
      refine wpAny_bind (wpAny_tryCatch (W.item (q + 1) s _ _ lt1 est fun x h1 t1 eP1 est1 k1 => ?_))
      have eZ1 := k1 Z _ gw eZ
      have eO1 : Ok h1 := C.old _ _ eO fun b o nb _ g => k1 b o nb g
      refine wpAny_bind (wpAny_pure (wpAny_bind (wpAny_tryCatch (wpAny_holding (wpAny_bind (C.cmp (q + 1) (argBest bt q) x best _ _ _ eP1 eP eO1 ?_))))))
      refine wpAny_bind (wpAny_holding (wpAny_truthy_bool (wpAny_bind (wpAny_letGo (wpAny_pure ?_)))))
      cases less : bt (q + 1) (argBest bt q) with
      | true =>
        refine wpAny_bind (wpAny_updateSeq eZ1 rfl (wpAny_bind (wpAny_letGo ?_)))
        rw [nm]
        refine wpAny_pure ⟨plainId_quiet PySem.F.plain_min_loop _, ?_⟩
        refine ih (q + 1) _ x _ (by omega) (W.frame _ _ _ est1 fun b nb o g => ?_) (by simp only [argBest, less, if_true]; exact eP1) (C.old _ _ eO1 fun b o _ nz g => ?_) (Heap.get?_update_self _ eZ1 rfl) fun y h2 t2 eP2 k2 => ?_
        . exact (Heap.get?_update_other _ _ (fun e : Z = b => gZ (by rw [e]; exact nb))).trans g
        . exact (Heap.get?_update_other _ _ (Ne.symm nz)).trans g
        . exact fin y h2 t2 eP2 fun b o nb nz g => k2 b o nb nz ((Heap.get?_update_other _ _ (Ne.symm nz)).trans (k1 b o nb g))
      | false =>
        refine wpAny_bind (wpAny_letGo ?_)
        rw [nm]
        refine wpAny_pure ⟨plainId_quiet PySem.F.plain_min_loop _, ?_⟩
        refine ih (q + 1) _ best z (by omega) est1 (by simp only [argBest, less, Bool.false_eq_true, if_false]; exact eP) eO1 eZ1 fun y h2 t2 eP2 k2 => ?_
        exact fin y h2 t2 eP2 fun b o nb nz g => k2 b o nb nz (k1 b o nb g))
theorem least_first (W : Walks prog w A.in1 I fp wr n P St) {bt : Nat -> Nat -> Bool} {Ok : Heap -> Prop} {Z : Addr} (gZ : Z ∉ fp) (C : qku prog w A.in1 P bt Ok wr Z) {s : Shared} {z : Nat} (hn : 0 < n) (est : St 0 s.heap) (eO : Ok s.heap)
    (eZ : s.heap.get? Z = some { cls := .type "list", dict := none, data := .seq #[] z, slots := #[] })
    (fin : ∀ y h2 t2, P (argBest bt (n - 1)) y -> (∀ b o, b ∉ wr -> b ≠ Z -> s.heap.get? b = some o -> h2.get? b = some o) -> R (.ok (.ret y)) { s with heap := h2, toks := t2 }) :
    codeAny (model prog w) A (.builtin "min.loop" ⟨[.ref I, .none, .ref Z], []⟩) R s := by
  have gw : Z ∉ wr := fun e => gZ (W.sub _ e)
  have nm : (toString "min" ++ toString ".loop" : String) = "min.loop" := by decide
  refine codeAny_builtin PySem.F.entry_min_loop (by
    rw [Around.under_plainId PySem.F.plain_min_loop _]
    refine wpAny_bind (wpAny_seqItems eZ rfl ?_)
    refine wpAny_bind (wpAny_tryCatch (W.item 0 s _ _ hn est fun x h1 t1 eP1 est1 k1 => ?_))
    have eZ1 := k1 Z _ gw eZ
    have eO1 : Ok h1 := C.old _ _ eO fun b o nb _ g => k1 b o nb g
    refine wpAny_bind (wpAny_pure (wpAny_bind (wpAny_updateSeq eZ1 rfl ?_)))
    rw [nm]
    refine wpAny_pure ⟨plainId_quiet PySem.F.plain_min_loop _, ?_⟩
    refine qdL W gZ C (n - 1) 0 _ x _ (by omega) (W.frame _ _ _ est1 fun b nb o g => ?_) eP1 (C.old _ _ eO1 fun b o _ nz g => ?_) (Heap.get?_update_self _ eZ1 rfl) fun y h2 t2 eP2 k2 => ?_
    . exact (Heap.get?_update_other _ _ (fun e : Z = b => gZ (by rw [e]; exact nb))).trans g
    . exact (Heap.get?_update_other _ _ (Ne.symm nz)).trans g
    . exact fin y h2 t2 eP2 fun b o nb nz g => k2 b o nb nz ((Heap.get?_update_other _ _ (Ne.symm nz)).trans (k1 b o nb g)))
end
section
variable {prog : Program} {w : World} {A : Around} {E : Value -> Shared -> Prop} {s : Shared}
theorem qdM {l : Addr} {its : Array Value} {bt : Nat -> Nat -> Bool} {Q : Value -> Shared -> Prop} (hh : A.handled = none) (hl : s.heap.IsList l its) (hne : 0 < its.size)
    (hc : ∀ (i j : Nat) (x y : Value) (s1 : Shared) (Q E : Value -> Shared -> Prop), its[i]? = some x -> its[j]? = some y -> (∀ b o, s.heap.get? b = some o -> s1.heap.get? b = some o) -> Q (.bool (bt i j)) s1 -> wpAny (model prog w) A.in1 (richCompare .Lt x y) Q E s1)
    (fin : ∀ y h' tk, its[argBest bt (its.size - 1)]? = some y -> (∀ b o, s.heap.get? b = some o -> h'.get? b = some o) -> Q y { s with heap := h', toks := tk }) :
    wpAny (model prog w) A (call (.builtin "min") [.ref l]) Q E s := by
  have nm : (toString "min" ++ toString ".loop" : String) = "min.loop" := by decide
  refine call_function_tree PySem.F.kind_min PySem.F.plain_min PySem.F.entry_min (PySem.F.args_min1 _) ?_
  refine wpAny_bind (wpAny_of_eq (show Builtin.Builtins.bindParams "min" ["key", "default"] 0 ⟨[], []⟩ = pure [none, none] from rfl) (wpAny_bind (wpAny_pure ?_)))
  refine wpAny_bind (wpAny_pyIter_list hl ?_)
  have la : l < s.heap.objs.size := by obtain ⟨o, e, _⟩ := hl; exact Heap.lt_size e
  have W := Walks.list (prog := prog) (w := w) (A := A.in1) hh s.heap.objs.size l (Nat.ne_of_lt la) its
  refine wpAny_bind (wpAny_newObj_type ?_)
  rw [nm]
  refine wpAny_pure ⟨plainId_quiet PySem.F.plain_min_loop _, ?_⟩
  have up : ∀ b o, s.heap.get? b = some o -> ((s.heap.push { cls := .type "list_iterator", data := .fields #[.ref l, .int 0 0] }).push { cls := .type "list", data := .seq #[] }).get? b = some o := fun b o g => Heap.get?_push_of_some _ (Heap.get?_push_of_some _ g)
  have sz : (s.heap.push { cls := .type "list_iterator", data := .fields #[.ref l, .int 0 0] }).objs.size = s.heap.objs.size + 1 := by simp [Heap.push]
  refine least_first (Ok := fun h => ∀ b o, s.heap.get? b = some o -> h.get? b = some o) (bt := bt) W (fun z => ?_) ⟨fun i j x y s1 Q E p1 p2 ok q => hc i j x y s1 Q E p1 p2 ok q, fun h h' ok k b o g => k b o (fun z => ?_) (fun z => ?_) (ok b o g)⟩ hne ⟨?_, ?_⟩ up (Heap.get?_push_size _ rfl) fun y h2 t2 p k => ?_
  . have z' : (s.heap.push { cls := .type "list_iterator", data := .fields #[.ref l, .int 0 0] }).objs.size = s.heap.objs.size \/ (s.heap.push { cls := .type "list_iterator", data := .fields #[.ref l, .int 0 0] }).objs.size = l := by simpa using z
    rw [sz] at z'
    rcases z' with e | e
    . exact absurd e (Nat.succ_ne_self _)
    . exact absurd (e ▸ la) (Nat.not_lt.mpr (Nat.le_succ _))
  . have z' : b = s.heap.objs.size := by simpa using z
    exact Nat.ne_of_lt (Heap.lt_size g) z'
  . have g' := Heap.lt_size g
    have z' : b = (s.heap.push { cls := .type "list_iterator", data := .fields #[.ref l, .int 0 0] }).objs.size := z
    rw [sz] at z'
    exact absurd (z' ▸ g') (Nat.not_lt.mpr (Nat.le_succ _))
  . exact ⟨_, Heap.get?_push_of_some _ (Heap.get?_push_size _ rfl), rfl, rfl⟩
  . exact hl.at fun o e => up l o e
  . refine fin y h2 t2 p fun b o g => k b o (fun z => ?_) (fun z => ?_) (up b o g)
    . have z' : b = s.heap.objs.size := by simpa using z
      exact Nat.ne_of_lt (Heap.lt_size g) z'
    . have g' := Heap.lt_size g
      have z' : b = (s.heap.push { cls := .type "list_iterator", data := .fields #[.ref l, .int 0 0] }).objs.size := z
      rw [sz] at z'
      exact absurd (z' ▸ g') (Nat.not_lt.mpr (Nat.le_succ _))
end
def qca : List D -> Option (List (List Int))
  | [] => some []
  | .tup ts :: r => match uA ts, qca r with
    | some n, some ns => some (n :: ns)
    | _, _ => none
  | _ => none
def qd3 (ns : List (List Int)) (i : Nat) : List Int := (ns[i]?).getD []
def qaz (ns : List (List Int)) : Nat := argBest (fun i j => HT.lexLt (qd3 ns i) (qd3 ns j)) (ns.length - 1)
def qe3 : List D -> Option D
  | [.lst ds] => match qca ds with
    | some (n :: ns) => some (.tup ((qd3 (n :: ns) (qaz (n :: ns))).map .int))
    | _ => none
  | _ => none
theorem wZ (bt : Nat -> Nat -> Bool) : ∀ n, argBest bt n <= n
  | 0 => Nat.le_refl _
  | n + 1 => by
    have := wZ bt n
    show (if bt (n + 1) (argBest bt n) then n + 1 else argBest bt n) <= n + 1
    split <;> omega
theorem qgt {n : List Int} {ns : List (List Int)} : qaz (n :: ns) < (n :: ns).length := by
  have := wZ (fun i j => HT.lexLt (qd3 (n :: ns) i) (qd3 (n :: ns) j)) ((n :: ns).length - 1)
  show argBest _ ((n :: ns).length - 1) < (n :: ns).length
  simp only [List.length_cons] at this |-
  omega
theorem qiL {K : Fr0} {A : Addr -> Prop} {H : Hp} (ds : List D) : ∀ {xs : List V} {ns : List (List Int)}, IsL K A H ds xs -> qca ds = some ns -> xs.length = ns.length /\ ∀ i, i < ns.length -> ∃ a, xs[i]? = some (.ref a) /\ uz K H a ((qd3 ns i).map V.int) := by
  induction ds with
  | nil =>
    intro xs ns h e
    have e1 : xs = [] := h
    have e2 : ns = [] := by unfold qca at e; exact (Option.some.inj e).symm
    subst e1 e2
    exact ⟨rfl, fun i hi => absurd hi (Nat.not_lt_zero _)⟩
  | cons d r ih =>
    intro xs ns h e
    obtain ⟨x, ys, hx, h1, h2⟩ := h
    subst hx
    unfold qca at e
    split at e
    . rename_i heq
      cases heq
    . rename_i ts r' heq
      cases heq
      obtain ⟨a, zs, hv, ta, il⟩ := h1
      subst hv
      split at e
      . rename_i n ms e1 e2
        have e3 : n :: ms = ns := Option.some.inj e
        subst e3
        obtain ⟨l1, l2⟩ := ih h2 e2
        rw [jI il e1] at ta
        refine ⟨by rw [List.length_cons, List.length_cons, l1], fun i hi => ?_⟩
        cases i with
        | zero => exact ⟨a, rfl, ta⟩
        | succ i =>
          obtain ⟨b, g1, g2⟩ := l2 i (by simpa using hi)
          exact ⟨b, by simpa using g1, g2⟩
      . cases e
    . cases e
section
variable {X : Cx}
def qgu (K : Fr0) : List V -> Hp -> VK -> Prop := fun xs H Q => ∃ (p : Addr) (vs : List V) (ns : List (List Int)), xs = [.ref p] /\ H p = some (.lst vs) /\ vs.length = ns.length /\ ns ≠ [] /\ (∀ i, i < ns.length -> ∃ a, vs[i]? = some (.ref a) /\ uz K H a ((qd3 ns i).map V.int)) /\ ∀ v, vs[qaz ns]? = some v -> Q v H
theorem qe4 {k : Nat} (hr : yA k X.A) : jN X (.builtin "min") (qgu X.K) := by
  intro pins s σ H xs us Q I r h
  obtain ⟨p, vs, ns, rfl, hp, hlen, hne, hat, q⟩ := h
  obtain ⟨u, rfl, ru⟩ := qQ.one r
  cases ru
  obtain ⟨its, rv, pl, hz⟩ := I.list (SqL.of hp)
  have hl := pl.isList
  have l2 : its.length = ns.length := by rw [<- rv.length]; exact hlen
  have hsz : 0 < its.toArray.size := by
    rw [List.size_toArray, l2]
    exact List.length_pos_iff.mpr hne
  have at_ : ∀ (i : Nat) (x : Value), its.toArray[i]? = some x -> ∃ a items, x = .ref a /\ IsTup s.heap a items /\ IntsAre items.toList (qd3 ns i) := fun i x hx => by
    have hx' : its[i]? = some x := by simpa using hx
    have hi : i < ns.length := by rw [<- l2]; exact (List.getElem?_eq_some_iff.mp hx').1
    obtain ⟨a, h1, h2⟩ := hat i hi
    obtain ⟨u2, h3, h4⟩ := rv.get h1
    rw [hx'] at h3
    cases h3
    cases h4
    obtain ⟨its2, r2, p2, _⟩ := I.tuple h2.sq
    exact ⟨a, its2.toArray, rfl, p2, yr r2⟩
  refine qdM (bt := fun i j => HT.lexLt (qd3 ns i) (qd3 ns j)) hr.hd hl hsz (fun i j x y s1 Q E hx hy kp q => ?_) fun y h' tk hy kp => ?_
  . obtain ⟨a, i1, rfl, t1, n1⟩ := at_ i x hx
    obtain ⟨b, i2, rfl, t2, n2⟩ := at_ j y hy
    have t1' : IsTup s1.heap a i1 := by obtain ⟨o, g, r⟩ := t1; exact ⟨o, kp a o g, r⟩
    have t2' : IsTup s1.heap b i2 := by obtain ⟨o, g, r⟩ := t2; exact ⟨o, kp b o g, r⟩
    have hu : X.A.in1.units < cLine := by have := hr.units; show X.A.units + 1 < cLine; omega
    exact HT.lt_tupInts t1' t2' n1 n2 hu q
  . have hy' : its[qaz ns]? = some y := by
      have e : its.toArray.size - 1 = ns.length - 1 := by rw [List.size_toArray, l2]
      rw [e] at hy
      simpa [qaz] using hy
    have hb : qaz ns < vs.length := by
      have := (List.getElem?_eq_some_iff.mp hy').1
      rw [rv.length]; exact this
    obtain ⟨u2, h3, h4⟩ := rv.get (List.getElem?_eq_getElem hb)
    rw [hy'] at h3
    cases h3
    exact ⟨vs[qaz ns], H, I.kept kp, h4, q _ (List.getElem?_eq_getElem hb)⟩
end
theorem qdN {K : Fr0} : vx K qe3 (qgu K) := by
  intro A H xs d vs Q hn h e k
  unfold qe3 at e
  split at e
  . rename_i ds
    obtain ⟨v, rfl, a, zs, rfl, _, ta, il⟩ := IsL.inv1 h
    split at e
    . rename_i n ns hi
      cases e
      obtain ⟨l1, l2⟩ := qiL _ il hi
      refine ⟨a, zs, n :: ns, rfl, ta, l1, by simp, l2, fun v hv => ?_⟩
      obtain ⟨b, h1, h2⟩ := l2 (qaz (n :: ns)) qgt
      rw [hv] at h1
      cases h1
      exact k _ H (z8.refl H) ⟨b, _, rfl, h2, vF _⟩
    . cases e
  . cases e
def qa0 (xs : List D) : Option D := (qbu xs).or (qe3 xs)
def qkv : List V -> Hp -> VK -> Prop := fun xs H Q => ∃ (p : Addr) (ns : List Int), xs = [.ref p] /\ H p = some (.lst (ns.map V.int)) /\ ns ≠ [] /\ Q (.int (qbt ns)) H
theorem qbv {X : Cx} {k : Nat} (hr : yA k X.A) (hc : X.calm = true) : jN X (.builtin "min") (fun xs H Q => qkv xs H Q \/ qgu X.K xs H Q) := by
  intro pins s σ H xs us Q I r h
  rcases h with h | h
  . exact qeX hc pins s σ H xs us Q I r h
  . exact qe4 hr pins s σ H xs us Q I r h
theorem w5 {K : Fr0} : vx K qa0 (fun xs H Q => qkv xs H Q \/ qgu K xs H Q) := by
  intro A H xs d vs Q hn h e k
  unfold qa0 at e
  cases e1 : qbu xs with
  | some b => rw [e1] at e; exact .inl (qdC A H xs d vs Q hn h (by rw [e1]; exact e) k)
  | none => rw [e1] at e; exact .inr (qdN A H xs d vs Q hn h e k)
def qmq (x : D) (ys : List D) : Option D := match x, ys with
  | .lst ds, [d] => if ds.all qbk && qbk d then (ds.findIdx? fun e => PyData.eqv (zP e) (zP d)).map fun j => .int j else none
  | _, _ => none
end L2.Sk
namespace L2.Sk
open PySem PySem.Spec PyProof.Rows
section
variable {prog : Program} {w : World} {A : Around} {E : Value -> Shared -> Prop} {s : Shared}
end
section
variable {X : Cx} {c : Fc} {a b e : Expr} {pos : Pos} {es : List Expr} {kk : Nat} {tp : Pos}
end
section
variable {X : Cx} {c : Fc} {a b e : Expr} {pos : Pos} {es : List Expr} {kk : Nat} {tp : Pos}
def qkw : List D -> Option (List D)
  | [.lst xs] => some (vc 0 xs)
  | _ => none
def qkx (f : M (List D)) : M (List D) := bnd f fun ds => lift (qkw ds)
end
end L2.Sk
namespace L2.Sk
open PySem PySem.Spec PyProof.Rows
section
variable {X : Cx} {c : Fc} {pos : Pos}
end
end L2.Sk
namespace L2.Sk
open PySem PySem.Spec PyProof.Rows
theorem qaA : entryFor table "proto.unchain" = some Builtin.«proto.unchain» := entryFor_of_fast (by kernel_rfl)
theorem qaB : plainId "proto.unchain" = true := by kernel_rfl
section
variable {prog : Program} {w : World} {A : Around} {E : Value -> Shared -> Prop} {s : Shared}
theorem qaC {x h : Value} {e : Addr} {o : Obj} {vs : Array Value} {Q : Value -> Shared -> Prop} (he : s.heap.get? e = some o) (hd : o.data = .fields vs) (h2 : vs[2]? = some .none) (q : Q .none s) :
    wpAny (model prog w) A (runValue (.builtin "proto.unchain" ⟨[x, .ref e, h, .bool false], []⟩)) Q E s := by
  refine wpAny_runValue (codeAny_builtin qaA ?_)
  rw [Around.under_plainId qaB _]
  show wpAny _ A.in1 (field (.ref e) 2 >>= _) _ _ s
  refine wpAny_bind (wpAny_field he hd h2 ?_)
  rw [if_pos (show (Value.none == Value.none) = true by decide)]
  exact wpAny_pure q
theorem qcb {it e : Addr} {o : Obj} {vs : Array Value} {x left step : Int} {Q : Option Value -> Shared -> Prop} (hh : A.handled = some (.ref e)) (he : s.heap.get? e = some o) (hd : o.data = .fields vs) (h2 : vs[2]? = some .none)
    (hit : IsRangeIter s.heap it x left step) (hleft : left <= 0) (q : ∀ h', Heap.ExtBut it s.heap h' -> Q none { s with heap := h' }) : wpAny (model prog w) A (pyNext (.ref it)) Q E s := by
  have ty : s.TypeIs (.ref it) "range_iterator" := ⟨_, hit, rfl⟩
  unfold pyNext
  refine wpAny_bind (wpAny_attempt (wpAny_callSpecial?_slot (name := Str.ofString "__next__") ty PySem.F.slot_range_iterator_next (wpAny_call_entry PySem.F.slot_range_iterator_next ty PySem.F.entry_range_iterator_next ?_ (PySem.F.args_range_iterator_next_1 _))))
  show wpAny (model prog w) _ (field (Value.ref it) 0 >>= _) _ _ s
  refine wpAny_bind (wpAny_field hit rfl (x := rawInt x) rfl (wpAny_bind (wpAny_field hit rfl (x := rawInt left) rfl (wpAny_bind (wpAny_field hit rfl (x := rawInt step) rfl ?_)))))
  show wpAny (model prog w) _ (if left <= 0 then _ else _) _ _ s
  rw [if_pos hleft]
  refine wpAny_bind (wpAny_rule (wpAny_bind ?_))
  show wpAny (model prog w) _ (newExc (.type "StopIteration") [] >>= _) _ _ _
  simp only [newExc, newTuple]
  refine wpAny_bind (wpAny_bind (wpAny_newObj_type ?_ (by size_fits)))
  refine wpAny_bind (m := firstArgMember _ _) (wpAny_of_eq (a := Value.none) (by first | rfl | (simp only [firstArgMember]; rfl)) (wpAny_newObj_type ?_ (by size_fits)))
  simp only [raiseNew]
  refine wpAny_bind (wpAny_handled ?_)
  rw [show A.in1.handled = some (.ref e) from hh]
  have le : e < s.heap.objs.size := Heap.lt_size he
  have sz : (s.heap.push { cls := Value.type "tuple", data := Data.seq #[] }).objs.size = s.heap.objs.size + 1 := by simp [Heap.push]
  have ne : (Value.ref e != Value.ref (s.heap.push { cls := Value.type "tuple", data := Data.seq #[] }).objs.size) = true := by
    rw [bne_iff_ne]
    intro z
    have z' := Value.ref.inj z
    rw [sz] at z'
    exact absurd (z' ▸ le) (Nat.not_lt.mpr (Nat.le_succ _))
  show wpAny _ _ (if (Value.ref e != Value.ref (s.heap.push { cls := Value.type "tuple", data := Data.seq #[] }).objs.size) = true then _ else _) _ _ _
  rw [if_pos ne]
  refine wpAny_bind (wpAny_holding (qaC (Heap.get?_push_of_some _ (Heap.get?_push_of_some _ he)) hd h2 ?_))
  show wpAny _ _ (setField (.ref (s.heap.push { cls := Value.type "tuple", data := Data.seq #[] }).objs.size) 2 (.ref e) >>= _) _ _ _
  refine wpAny_bind (wpAny_setField (Heap.get?_push_size _ rfl) rfl (by show 2 < _; simp; omega) (wpAny_throw ?_))
  have hn : ((s.heap.push { cls := Value.type "tuple", data := Data.seq #[] }).push { cls := Value.type "StopIteration", data := Data.fields (#[Value.ref s.heap.objs.size, Value.none, Value.none, Value.none, Value.bool false, Value.none] ++ ownMembersOf (Value.type "StopIteration") []) }).get? (s.heap.push { cls := Value.type "tuple", data := Data.seq #[] }).objs.size = some { cls := Value.type "StopIteration", data := Data.fields (#[Value.ref s.heap.objs.size, Value.none, Value.none, Value.none, Value.bool false, Value.none] ++ ownMembersOf (Value.type "StopIteration") []) } := Heap.get?_push_size _ rfl
  refine wpAny_bind (wpAny_isInstance (T := "StopIteration") (b := true) ⟨_, Heap.get?_update_self _ hn rfl, rfl⟩ isSubtype_stop ?_)
  refine wpAny_pure (q _ fun b ob hb g => ?_)
  have lb : b < s.heap.objs.size := Heap.lt_size g
  refine (Heap.get?_update_other _ _ (fun z => ?_)).trans (Heap.get?_push_of_some _ (Heap.get?_push_of_some _ g))
  rw [sz] at z
  exact absurd (z ▸ lb) (Nat.not_lt.mpr (Nat.le_succ _))
end
theorem AloneA.laid {A : Around} {H : Hp} {p : Addr} {o : HO} (x : AloneA A H) (h : H p = none) : AloneA A (upd H p o) := by
  obtain ⟨e, oe, u, vs, h1, h2, h3⟩ := x
  exact ⟨e, oe, u, vs, h1, by rw [qm (qG h2 h)]; exact h2, h3⟩
theorem AloneA.rep {K : Fr0} {c : Fc} {A : Around} (x : AloneA A c.H0) (hio : ∀ a, ¬ c.Io a) (ρ : Env) (σ : St) (H : Hp) (r : Rep K c ρ σ H) : AloneA A H := by
  obtain ⟨e, oe, u, vs, h1, h2, h3⟩ := x
  exact ⟨e, oe, u, vs, h1, r.kp _ _ h2 (hio e), h3⟩
theorem AloneA.cin {K : Fr0} {A : Around} {B0 : Addr -> Prop} {H1 H : Hp} {acc : Addr} {S' : Nat -> Option (Option V)} {O' : List Nat} {Io' : Addr -> Prop} {ρ : Env} {σ : St} (x : AloneA A H1) (hn : H1 acc = none) (hio : ∀ a, ¬ Io' a) (r : Rep K (Sk.cin B0 H1 O' Io' acc S') ρ σ H) : AloneA A H := by
  obtain ⟨e, oe, u, vs, h1, h2, h3⟩ := x
  have ne : e ≠ acc := qG h2 hn
  exact ⟨e, oe, u, vs, h1, r.kp e _ (show upd H1 acc (.lst []) e = _ by rw [qm ne]; exact h2) (fun z => z.elim (hio e) ne), h3⟩
end L2.Sk
namespace L2
open PySem PySem.Spec PyProof.Rows L2.Sk
structure qky (P : Program) (w : World) (K : PySem.W.Frag) (tg : Expr) (J : It) (fp : List Addr) (it : Addr) (tn : Nat -> Heap -> Prop) : Prop where
  mem : it ∈ fp
  obj : ∀ i h, tn i h -> ∀ b ∈ fp, ∃ o, h.get? b = some o /\ ∀ v, o.data ≠ .cell v
  keep : ∀ i h h', tn i h -> (∀ b ∈ fp, ∀ o, h.get? b = some o -> h'.get? b = some o) -> tn i h'
  item : ∀ (X : Cx), X.prog = P -> X.w = w -> X.K = K -> AloneA X.A X.H₀ -> ∀ (i : Nat) (pins : List (Addr × Obj)) (s : Shared) (σ : St) (H : Hp) (E : Value -> Shared -> Prop), Inv X pins σ H s -> (∀ b ∈ fp, qag X pins H b) -> tn i s.heap -> J.go i H ->
    wpAny (model P w) X.A (pyNext (.ref it)) (fun r s1 => ∃ u, r = some u /\
      wpAny (model P w) X.A (letOwnedTupleGo tg (.ref it) u) (fun _ s2 => ∃ x H', Inv X pins σ H' s2 /\ ju x u /\ J.yld i H x H' /\ tn (i + 1) s2.heap /\ ∀ b ∈ fp, H' b = none) E s1) E s
  done : ∀ (X : Cx), X.prog = P -> X.w = w -> X.K = K -> AloneA X.A X.H₀ -> ∀ (i : Nat) (pins : List (Addr × Obj)) (s : Shared) (σ : St) (H : Hp) (E : Value -> Shared -> Prop), Inv X pins σ H s -> (∀ b ∈ fp, qag X pins H b) -> tn i s.heap -> J.stop i H ->
    wpAny (model P w) X.A (pyNext (.ref it)) (fun r s1 => r = none /\ Inv X pins σ H s1) E s
  self : ∀ (A : Around) (i : Nat) (s : Shared) (Q : Value -> Shared -> Prop) (E : Value -> Shared -> Prop), tn i s.heap -> Q (.ref it) s -> wpAny (model P w) A (pyIter (.ref it)) Q E s
def qmr (X : Cx) (pins : List (Addr × Obj)) (σ : St) (tg : Expr) (R : It -> Hp -> Prop) (itv : Value) (s2 : Shared) : Prop :=
  ∃ (it : Addr) (fp : List Addr) (tn : Nat -> Heap -> Prop) (J : It) (H' : Hp), itv = .ref it /\ Inv X pins σ H' s2 /\ qky X.prog X.w X.K tg J fp it tn /\ tn 0 s2.heap /\ (∀ b ∈ fp, qag X pins H' b) /\ R J H'
def PIH (X : Cx) (tg iter : Expr) (wi : TI) : Prop :=
  ∀ (pins : List (Addr × Obj)) (s : Shared) (σ : St) (H : Hp) (R : It -> Hp -> Prop), Inv X pins σ H s -> wi σ H R ->
    wpAny (model X.prog X.w) X.A (eval iter X.env) (fun v s1 => wpAny (model X.prog X.w) X.A (pyIter v) (qmr X pins σ tg R) X.xe s1) X.xe s
theorem qcc {P : Program} {w : World} {K : PySem.W.Frag} {tg : Expr} (it : Addr) (lo : Int) (n : Nat) : qky P w K tg (Itr lo n) [it] it (fun i h => IsRangeIter h it (lo + (i : Nat) * 1) ((n : Int) - (i : Nat)) 1) where
  mem := by simp
  obj := fun i h st b hb => by
    have e : b = it := by simpa using hb
    subst e
    exact ⟨_, st, fun v z => by
      have z' : Data.fields _ = Data.cell v := z
      cases z'⟩
  keep := fun i h h' st k => k it (by simp) _ st
  item := by
    intro X hP hw hK hc i pins s σ H E I hf st hg
    subst hP hw hK
    obtain ⟨f0, f1, f2, f3, f4, f5⟩ := hf it (by simp)
    refine wpAny_pyNext_range_item st (by have : i < n := hg; omega) fun h' st1 sb => ?_
    have st' : IsRangeIter h' it (lo + ((i + 1 : Nat) : Int) * 1) ((n : Int) - ((i + 1 : Nat) : Int)) 1 := by
      have e1 : lo + ((i + 1 : Nat) : Int) * 1 = lo + (i : Nat) * 1 + 1 := by omega
      have e2 : (n : Int) - ((i + 1 : Nat) : Int) = (n : Int) - (i : Nat) - 1 := by omega
      rw [e1, e2]; exact st1
    have I1 : Inv X pins σ H { s with heap := h', toks := s.toks + 1 } := I.turned (fun b o hb e => (sb.2 b hb).trans e) f0 f1 f3 f4 f5
    refine ⟨_, rfl, qd8 (s := { s with heap := h', toks := s.toks + 1 }) (n := "range_iterator") st' rfl rfl (by decide) ⟨.int (lo + i), H, I1, ⟨s.toks, ?_⟩, ⟨rfl, rfl⟩, st', fun b hb => (hf b hb).1⟩⟩
    rw [Int.mul_one]
  done := by
    intro X hP hw hK hc i pins s σ H E I hf st hg
    subst hP hw hK
    obtain ⟨f0, f1, f2, f3, f4, f5⟩ := hf it (by simp)
    obtain ⟨e, oe, u, vs, hh, hHe, hde, h2⟩ := hc
    have hoe : s.heap.get? e = some oe := (I.hok e _ (I.base.frzs e oe u hHe)).1
    exact qcb hh hoe hde h2 st (by have : n <= i := hg; omega) fun h' eb => ⟨rfl, I.turned (t' := s.toks) (fun b o hb e => eb b o hb e) f0 f1 f3 f4 f5⟩
  self := fun _ _ _ _ _ st h => wpAny_pyIter_rangeiter st h
section
variable {X : Cx} {tg : Expr}
theorem qe5 {pins : List (Addr × Obj)} {σ : St} {H : Hp} {s : Shared} {R : It -> Hp -> Prop} {E : Value -> Shared -> Prop} {lo hi : Int} {t u v : Tok} {tk : Nat} (I : Inv X pins σ H s) (h1 : -(2 ^ 62) <= lo) (h2 : lo < 2 ^ 62) (h3 : -(2 ^ 62) <= hi) (h4 : hi < 2 ^ 62)
    (q : R (Itr lo (hi - lo).toNat) H) : wpAny (model X.prog X.w) X.A (pyIter (.ref s.heap.objs.size)) (qmr X pins σ tg R) E { s with heap := s.heap.push { cls := .type "range", data := .fields #[.int lo t, .int hi u, .int 1 v] }, toks := tk } := by
  refine wpAny_pyIter_range (IsRange.new ..) (small_one h1 h2 h3 h4) ?_
  have I1 : Inv X pins σ H { s with heap := s.heap.push { cls := .type "range", data := .fields #[.int lo t, .int hi u, .int 1 v] }, toks := tk } := I.kept fun b o e => Heap.get?_push_of_some _ e
  refine ⟨(s.heap.push { cls := .type "range", data := .fields #[.int lo t, .int hi u, .int 1 v] }).objs.size, [(s.heap.push { cls := .type "range", data := .fields #[.int lo t, .int hi u, .int 1 v] }).objs.size], _, _, H, rfl,
    I1.kept (t' := tk) fun b o e => Heap.get?_push_of_some _ e, qcc _ lo (hi - lo).toNat, ?_, fun b hb => ?_, q⟩
  . have e1 : lo + ((0 : Nat) : Int) * 1 = lo := by simp
    have e2 : (((hi - lo).toNat : Nat) : Int) - ((0 : Nat) : Int) = Builtin.Range.rangeSize lo hi 1 := by rw [rangeSize_one]; split <;> omega
    show IsRangeIter _ _ (lo + ((0 : Nat) : Int) * 1) ((((hi - lo).toNat : Nat) : Int) - ((0 : Nat) : Int)) 1
    rw [e1, e2]
    exact Heap.get?_push_size _ rfl
  . have e : b = (s.heap.push { cls := .type "range", data := .fields #[.int lo t, .int hi u, .int 1 v] }).objs.size := by simpa using hb
    subst e
    exact I1.fpOk (Nat.le_refl _) (I1.hok.fresh (Nat.le_refl _))
theorem qdO {a : Expr} {ta : TA} {p pos : Pos} (hg : Gl X "range") (hm : X.mg "range" = none) (ha : PA X [a] ta) (hs : starEach [a] X.env = [(false, eval a X.env)] := by rfl) : PIH X tg (.Call (.Name "range" p) [a] [] pos) (qjB ta) := by
  intro pins s σ H R I h
  refine Call_ (vk I hg hm boot_range (PyProof.Rows.callWith_type1 (thn (ha pos pins s σ H _ I h) fun us s1 ⟨vs, H1, I1, r1, q1⟩ => ?_) hs rfl))
  obtain ⟨j, e, q1, q2, q⟩ := q1
  subst e
  cases r1 with
  | cons r rr =>
    cases rr
    obtain ⟨t, rfl⟩ := r
    exact call_range_1 (qe5 I1 (by omega) (by omega) q1 q2 (by simpa using q))
end
end L2
namespace L2.Sk
open PySem PySem.Spec PyProof.Rows
def qkz (X : Cx) (tg : Expr) (ifs : List Expr) (elt : Expr) (scope : Scope) (N' : List Str) (wi : TI) (nt : Nat) (fr : List Nat) : TE := fun σ H Q => wi σ H fun J H1 => AloneA X.A H1 /\ ∀ acc fp cl C s₀ H₀ pn, H1 acc = none ->
  ∃ (g : TG) (tt : TT) (te : TE), PG (qF X scope N' fp cl C s₀ H₀ pn) tg g /\ PF (qF X scope N' fp cl C s₀ H₀ pn) ifs tt /\ PE (qF X scope N' fp cl C s₀ H₀ pn) elt te /\
  ∃ W : Nat -> Nat -> St -> Hp -> Prop, (∃ m, W 0 m (qp nt fr σ) (upd H1 acc (.lst []))) /\
  ∀ i m σ' H', W i m σ' H' -> (J.stop i H' /\ Q (.ref acc) H') \/ (J.go i H' /\ ∀ x H'', J.yld i H' x H'' -> g x σ' H'' fun σ2 H2 => tt σ2 H2 fun b H3 =>
    if b = true then te σ2 H3 fun y H4 => ∃ ys, H4 acc = some (.lst ys) /\ ys.length < sizeLine /\ ∃ m', m' < m /\ W (i + 1) m' σ2 (upd H4 acc (.lst (ys ++ [y]))) else ∃ m', m' < m /\ W (i + 1) m' σ2 H3)
section
variable {X : Cx} {tg iter elt : Expr} {ifs : List Expr} {scope : Scope} {pos : Pos} {wi : TI} {N' : List Str} {nt : Nat} {fr : List Nat}
theorem qgv (hi : PIH X tg iter wi) (S : zR X scope N' nt fr)
    (hs : ∀ x, foldedSetIterable iter X.env x = pure x := by intro _; rfl) : PE X (.ListComp elt [⟨tg, iter, ifs, 0⟩] scope pos) (qkz X tg ifs elt scope N' wi nt fr) := by
  intro pins s σ H Q I hw
  obtain ⟨cl, hcl, cl1, cl2⟩ := yC (env := X.env) (scope := scope) (fun y hy hf => I.ok.has y.1 (.inl (S.frees y hy hf)))
  rw [eval_ListComp]
  refine wpAny_comprehension_free (use := none) rfl hs hcl S.kind S.names (thn (hi pins s σ H _ I hw) fun v s1 h1 => thn h1 fun itv s2 h2 => ?_)
  obtain ⟨it, fp, tn, J, H2, e, I2, T, st2, f2, hal, hR⟩ := h2
  subst e
  have hacc : H2 s2.heap.objs.size = none := I2.hok.fresh (Nat.le_refl _)
  have hc : AloneA X.A (upd H2 s2.heap.objs.size (.lst [])) := Sk.AloneA.laid hal hacc
  refine wpAny_newObj_type (wpAny_newFunctionEnv S.nocell (by intro y hy; simp at hy) (fun h₁ hns₁ hsb₁ => ?_) S.kind)
  dsimp only at hns₁ hsb₁ |-
  have I3 : Inv X pins σ (upd H2 s2.heap.objs.size (.lst [])) { s2 with heap := s2.heap.push { cls := .type "list", dict := none, data := .seq ([] : List Value).toArray } } :=
    I2.lnew (t' := s2.toks) (its := []) .nil (Nat.zero_le _)
  generalize hs3 : ({ s2 with heap := s2.heap.push { cls := .type "list", dict := none, data := .seq ([] : List Value).toArray } } : Shared) = s3 at I3
  have hh3 : s2.heap.push { cls := .type "list", dict := none, data := .seq ([] : List Value).toArray } = s3.heap := by rw [<- hs3]
  rw [hh3] at hns₁ hsb₁
  have old : ∀ b o, s3.heap.get? b = some o -> h₁.get? b = some o := fun b o q => hsb₁.extBut b o (Nat.ne_of_lt (Heap.lt_size q)) (Heap.get?_push_of_some _ q)
  have objs2 : ∀ b ∈ fp, ∃ o, s2.heap.get? b = some o := fun b hb => by
    obtain ⟨o, q, _⟩ := T.obj 0 _ st2 b hb
    exact ⟨o, q⟩
  have keep23 : ∀ b o, s2.heap.get? b = some o -> s3.heap.get? b = some o := fun b o q => by rw [<- hh3]; exact Heap.get?_push_of_some _ q
  have fpne : ∀ b ∈ fp, b ≠ s2.heap.objs.size := fun b hb => by
    obtain ⟨o, q⟩ := objs2 b hb
    exact Nat.ne_of_lt (Heap.lt_size q)
  have f3 : ∀ b ∈ fp, qag X pins (upd H2 s2.heap.objs.size (.lst [])) b := fun b hb => ⟨by rw [qm (fpne b hb)]; exact (f2 b hb).1, (f2 b hb).2⟩
  have J0 : Inv (qF X scope N' fp cl s3.heap.objs.size s3 (upd H2 s2.heap.objs.size (.lst [])) (X.pn ++ pins)) [] (qp nt fr σ) (upd H2 s2.heap.objs.size (.lst [])) { s3 with heap := h₁, toks := s3.toks } :=
    u9 S I3 f3 (fun b hb => (objs2 b hb).imp fun o q => keep23 b o q) cl1 cl2 ⟨_, hns₁⟩ old
  obtain ⟨g, tt, te, hg, hf, he, W, ⟨m0, w0⟩, turn⟩ := hR s2.heap.objs.size fp cl s3.heap.objs.size s3 (upd H2 s2.heap.objs.size (.lst [])) (X.pn ++ pins) hacc
  have T0 : tn 0 h₁ := T.keep 0 _ _ st2 fun b hb o q => old b o (keep23 b o q)
  have s3e : ∀ tk : Nat, ({ s2 with heap := h₁, toks := tk } : Shared) = { s3 with heap := h₁, toks := tk } := fun tk => by rw [<- hs3]
  have loop : ∀ tk : Nat, codeAny (model X.prog X.w) X.A (.compLoop (.ListComp elt [⟨tg, iter, ifs, 0⟩] scope pos) 0 (.ref it) (.ref s2.heap.objs.size) (compEnvC scope cl s3.heap.objs.size X.env))
      (compPost (model X.prog X.w) X.A X.xe none (EP X pins σ Q) (.ref s2.heap.objs.size) s3.heap.objs.size) { s3 with heap := h₁, toks := tk } := fun tk => by
    have stat : ∀ {H' : Hp}, (∀ b ∈ fp, H' b = none) -> ∀ b ∈ fp, qag (qF X scope N' fp cl s3.heap.objs.size s3 (upd H2 s2.heap.objs.size (.lst [])) (X.pn ++ pins)) [] H' b := fun {H'} hn b hb => by
      obtain ⟨o, q⟩ := objs2 b hb
      have hbC : b ≠ s3.heap.objs.size := Nat.ne_of_lt (Heap.lt_size (keep23 b o q))
      refine ⟨hn b hb, hbC, fun z => ?_, .inl hb, fun x c hx => (f2 b hb).2.2.2.2.1 x c (cl1 x c hx), fun p hp => ?_⟩
      . rcases List.mem_cons.mp (I2.stkSub b z) with z | z
        . exact (f2 b hb).2.1 z
        . exact (f2 b hb).2.2.1 z
      . have hp' : p ∈ X.pn ++ pins := by
          rcases List.mem_append.mp (show p ∈ (X.pn ++ pins) ++ [] from hp) with z | z
          . exact z
          . cases z
        exact (f2 b hb).2.2.2.2.2 p hp'
    have fr0 : ∀ b ∈ fp, upd H2 s2.heap.objs.size (.lst []) b = none := fun b hb => (f3 b hb).1
    refine uB (fun n s' => ∃ i σ' H', Inv (qF X scope N' fp cl s3.heap.objs.size s3 (upd H2 s2.heap.objs.size (.lst [])) (X.pn ++ pins)) [] σ' H' s' /\ tn i s'.heap /\ (∀ b ∈ fp, H' b = none) /\ W i n σ' H') ?_ m0
      ⟨0, qp nt fr σ, _, J0.tok tk, T0, fr0, w0⟩
    rintro n s4 ⟨i, σ4, H4, J4, st4, fr4, w4⟩
    rcases turn i n σ4 H4 w4 with ⟨stop, qn⟩ | ⟨go, step⟩
    . refine thn (T.done (qF X scope N' fp cl s3.heap.objs.size s3 (upd H2 s2.heap.objs.size (.lst [])) (X.pn ++ pins)) rfl rfl rfl hc i [] s4 σ4 H4 _ J4 (stat fr4) st4 stop) fun r s5 ⟨hr, J5⟩ => ?_
      subst hr
      obtain ⟨m5, n5, _⟩ := J5.loc
      refine ⟨m5, n5, fun h' sb => ⟨.ref s2.heap.objs.size, H4, qan I3 f3 J5 sb, rfl, qn⟩⟩
    . refine thn (T.item (qF X scope N' fp cl s3.heap.objs.size s3 (upd H2 s2.heap.objs.size (.lst [])) (X.pn ++ pins)) rfl rfl rfl hc i [] s4 σ4 H4 _ J4 (stat fr4) st4 go) fun r s5 ⟨u, hr, h5⟩ => ?_
      subst hr
      refine thn h5 fun _ s6 ⟨x, H6, J6, r6, y6, st6, fr6⟩ => ?_
      have J6' := J6.pinned (stat fr6) (T.obj _ _ st6)
      have again : ∀ {σ7 : St} {H7 : Hp} {s7 : Shared}, Inv (qF X scope N' fp cl s3.heap.objs.size s3 (upd H2 s2.heap.objs.size (.lst [])) (X.pn ++ pins)) ([] ++ vK fp s6.heap) σ7 H7 s7 -> (∃ m', m' < n /\ W (i + 1) m' σ7 H7) ->
          ∃ m, m < n /\ ∃ i σ' H', Inv (qF X scope N' fp cl s3.heap.objs.size s3 (upd H2 s2.heap.objs.size (.lst [])) (X.pn ++ pins)) [] σ' H' s7 /\ tn i s7.heap /\ (∀ b ∈ fp, H' b = none) /\ W i m σ' H' := fun {σ7 H7 s7} I7 hm => by
        obtain ⟨m', hm, w7⟩ := hm
        refine ⟨m', hm, i + 1, σ7, H7, I7.unpinned, T.keep _ _ _ st6 fun b hb o q => (I7.pin (b, o) (List.mem_append_right _ (List.mem_append_right _ (zY hb q)))).1, fun b hb => ?_, w7⟩
        obtain ⟨o, q, d⟩ := T.obj _ _ st6 b hb
        exact (I7.pin (b, o) (List.mem_append_right _ (List.mem_append_right _ (zY hb q)))).2.1
      refine thn (hg _ s6 σ4 H6 x u _ J6' r6 (step x H6 y6)) fun _ s7 ⟨σ7, H7, J7, q7⟩ => ?_
      refine thn (hf _ s7 σ7 H7 _ J7 q7) fun ok s8 ⟨H8, J8, q8⟩ => ?_
      cases ok with
      | false =>
        rw [if_neg Bool.false_ne_true] at q8 |-
        exact again J8 q8
      | true =>
        rw [if_pos rfl] at q8 |-
        refine thn (he _ s8 σ7 H8 _ J8 q8) fun z s9 ⟨y, H9, J9, r9, ys, hys, hz, hm⟩ => ?_
        refine thn (uJ _ s9 σ7 H9 (.ref s2.heap.objs.size) [y] (.ref s2.heap.objs.size) [z] (fun _ H' => H' = upd H9 s2.heap.objs.size (.lst (ys ++ [y]))) J9 rfl (.cons r9 .nil) ⟨_, ys, y, rfl, rfl, hys, hz, rfl⟩) fun _ s10 ⟨_, H10, J10, _, e10⟩ => ?_
        subst e10
        exact again J10 hm
  have zn : ∀ tk : Nat, codeAny (model X.prog X.w) X.A (.compStart (.ListComp elt [⟨tg, iter, ifs, 0⟩] scope pos) 0 (.ref it) (.ref s2.heap.objs.size) (compEnvC scope cl s3.heap.objs.size X.env))
      (compPost (model X.prog X.w) X.A X.xe none (EP X pins σ Q) (.ref s2.heap.objs.size) s3.heap.objs.size) { s3 with heap := h₁, toks := tk } := fun tk =>
    codeAny_compStart_list (loop tk) (T.self X.A 0 _ _ _ T0 (loop tk))
  have fin := zn (s2.toks + ([] : List (Str × Value)).length)
  rw [<- s3e] at fin
  rw [<- hh3] at fin
  rw [hh3] at fin |-
  exact fin
end
def DIH (X : Cx) (c : Fc) (tg it : Expr) (f : M (List D)) : Prop := ∃ w, PIH X tg it w /\ ∀ ρ σ H Q, Rep X.K c ρ σ H -> WpI X.K c σ H Q (f ρ) -> w σ H Q
section
variable {X : Cx} {c : Fc} {tg a b e : Expr} {pos : Pos}
theorem w6 {f : M (List D)} {p : Pos} (hg : Gl X "range") (hm : X.mg "range" = none) (ha : DA X c [a] f) (hs : starEach [a] X.env = [(false, eval a X.env)] := by rfl) : DIH X c tg (.Call (.Name "range" p) [a] [] pos) (z9 f) := by
  obtain ⟨t, p, w⟩ := ha
  refine ⟨_, qdO hg hm p hs, fun ρ σ H Q r h => w ρ σ H _ r (WpL.bndI h fun ds ρ1 vs H1 r1 i1 g1 h1 => ?_)⟩
  obtain ⟨es, e, h2⟩ := uQ h1
  unfold qgc at e
  split at e
  . rename_i j
    obtain ⟨v, rfl, e2⟩ := IsL.inv1 i1
    cases e2
    by_cases hb : (decide (-(2 ^ 62) <= j) && decide (j < 2 ^ 62)) = true
    . rw [if_pos hb] at e
      cases e
      rw [Bool.and_eq_true] at hb
      exact ⟨j, rfl, of_decide_eq_true hb.1, of_decide_eq_true hb.2, h2 _ H1 r1 (qg9 0 _) .refl⟩
    . rw [if_neg hb] at e
      cases e
  . cases e
theorem qc2 {it elt : Expr} {ifs : List Expr} {scope : Scope} {N' : List Str} {nt : Nat} {fr : List Nat} {fo : Option (Nat × Nat)} {f : M (List D)} {g : D -> Env -> Option Env} {t : M Bool} {k : M D} (hal : ∀ ρ σ H, Rep X.K c ρ σ H -> AloneA X.A H) (hi : DIH X c tg it f) (S : zR X scope N' nt fr)
    (hfo : qha c nt fr fo) (hz : fo = none)
    (hb : ∀ fp cl C s₀ H₀ pn B0 H1 Io' acc S', (∀ ρ σ H, Rep X.K (cin B0 H1 (foO fo) Io' acc S') ρ σ H -> AloneA X.A H) -> DG (qF X scope N' fp cl C s₀ H₀ pn) (cin B0 H1 (foO fo) Io' acc S') tg g /\ DF (qF X scope N' fp cl C s₀ H₀ pn) (cin B0 H1 (foO fo) Io' acc S') ifs t /\ DE (qF X scope N' fp cl C s₀ H₀ pn) (cin B0 H1 (foO fo) Io' acc S') elt k)
    (hs : ∀ x, foldedSetIterable it X.env x = pure x := by intro _; rfl) : DE X c (.ListComp elt [⟨tg, it, ifs, 0⟩] scope pos) (qI nt fr fo f g t k) := by
  obtain ⟨wi, pi, wI⟩ := hi
  refine ⟨_, qgv pi S hs, fun ρ σ H Q r h => wI ρ σ H _ r (WpI.bnd h fun ds ρ1 J H1 r1 iok g1 h1 => ?_)⟩
  refine ⟨hal _ _ _ r1, ?_⟩
  intro acc fp cl C s₀ H₀ pn hn
  obtain ⟨⟨tg', pg, wg⟩, ⟨tt, pt, wt⟩, ⟨te, pe, we⟩⟩ := hb fp cl C s₀ H₀ pn (Cn c σ) H1 (vY σ fo) acc (fun j => (qp nt fr σ)[j]?) (fun ρ2 σ2 H2 q => Sk.AloneA.cin (hal _ _ _ r1) hn (fun a => by rw [hz]; exact id) q)
  refine ⟨tg', tt, te, pg, pt, pe, ?_⟩
  cases ew : qT g t k ds [] (zN nt fr ρ1) with
  | exc x ρ' => rw [ew] at h1; exact h1.elim
  | bad => rw [ew] at h1; exact h1.elim
  | ok p =>
    rw [ew] at h1
    obtain ⟨ys, ρe⟩ := p
    have h1 : ∀ v H', Rep X.K c (qif fo ρe ρ1) σ H' -> Is X.K (Cn c σ) H' (.lst ys) v -> Gr c.O σ H1 H' -> Q v H' := h1
    have accO : ∀ j ∈ foO fo, (qp nt fr σ)[j]? ≠ some (some (.ref acc)) := fun j hj e => by
      have r0 := r1.entry (acc := acc) hn hfo
      cases fo with
      | none => cases hj
      | some p =>
        obtain ⟨i', j'⟩ := p
        have e2 : j = i' := by simpa [foO] using hj
        subst e2
        obtain ⟨k2, j2, e1, e2, e3⟩ := z0 e
        have hk2 : k2 = j - nt := by omega
        subst hk2
        rw [hfo.2.2.1] at e2
        cases e2
        obtain ⟨a, us, e4, e5, _⟩ := r1.own j' hfo.1 _ e3
        cases e4; rw [hn] at e5; cases e5
    refine ⟨fun i m σ' H' => m = ds.length - i /\ i <= ds.length /\ ∃ ρ' zs xs, Rep X.K (cin (Cn c σ) H1 (foO fo) (vY σ fo) acc fun j => (qp nt fr σ)[j]?) ρ' σ' H' /\ (∀ j ∈ foO fo, σ'[j]? = (qp nt fr σ)[j]?) /\ H' acc = some (.lst xs) /\ IsL X.K (Cn (cin (Cn c σ) H1 (foO fo) (vY σ fo) acc fun j => (qp nt fr σ)[j]?) σ') H' zs xs /\ qT g t k (ds.drop i) zs ρ' = .ok (ys, ρe),
      ⟨ds.length, by simp, Nat.zero_le _, zN nt fr ρ1, [], [], r1.entry hn hfo, fun _ _ => rfl, qr, rfl, by simpa using ew⟩, ?_⟩
    rintro i m σ' H' ⟨rfl, hi, ρ', zs, xs, r', so, ha, iz, w⟩
    obtain ⟨_, gr⟩ := r1.leave hn hfo (fun i j e => so i (by rw [e]; simp [foO])) r'
    have ex : Ext (CnT c σ H1) H1 H' := ⟨gr.ext.tup, gr.ext.frz, fun b o hb hq => gr.ext.at_ b o hb.1.2 hq⟩
    have accC : ∀ τ : St, (∀ j ∈ foO fo, τ[j]? = (qp nt fr σ)[j]?) -> Cl (foO fo) τ acc := fun τ hτ j hj e => accO j hj (by rw [<- hτ j hj]; exact e)
    by_cases hlt : i < ds.length
    . refine .inr ⟨iok.go H' i ds[i] ex (by simp [hlt]), fun x H'' y => ?_⟩
      obtain ⟨sm, ix⟩ := iok.yl H' i ds[i] x H'' ex (by simp [hlt]) y
      rw [y7 hlt] at w
      unfold qT at w
      have ix2 : Is X.K (Cn (cin (Cn c σ) H1 (foO fo) (vY σ fo) acc fun j => (qp nt fr σ)[j]?) σ') H'' ds[i] x := Is.ext Ext.refl (fun a ha _ => ⟨⟨ha.1, fun e => by
        have := ha.2
        rw [e, hn] at this; cases this⟩, fun j hj e => by
          rw [so j hj] at e
          cases fo with
          | none => cases hj
          | some p =>
            obtain ⟨i', j'⟩ := p
            have e2 : j = i' := by simpa [foO, cin] using hj
            subst e2
            obtain ⟨k2, j2, e1, e2, e3⟩ := z0 e
            have hk2 : k2 = j - nt := by omega
            subst hk2
            rw [hfo.2.2.1] at e2
            cases e2
            exact ha.1.2 j' hfo.1 e3⟩) ix
      cases e1 : g ds[i] ρ' with
      | none => simp only [e1] at w; cases w
      | some ρ2 =>
        simp only [e1] at w
        refine wg ρ' σ' H'' ds[i] x ρ2 _ (r'.same sm) ix2 e1 fun σ2 r2 g2 o2 => ?_
        have so2 : ∀ j ∈ foO fo, σ2[j]? = (qp nt fr σ)[j]? := fun j hj => (o2 j hj).trans (so j hj)
        have ha2 : H'' acc = some (.lst xs) := sm _ _ ha
        have iz2 := g2.isL (IsL.ext (Ext.of_same sm) (fun _ h _ => h) iz)
        cases e2 : t ρ2 with
        | exc x ρ3 => simp only [e2] at w; cases w
        | bad => simp only [e2] at w; cases w
        | ok p2 =>
          obtain ⟨bb, ρ3⟩ := p2
          refine wt ρ2 σ2 H'' _ r2 ?_
          rw [e2]
          intro H3 r3 g3
          have ha3 : H3 acc = some (.lst xs) := g3.ext.at_ _ _ (accC σ2 so2) ha2
          have iz3 := g3.isL iz2
          cases bb with
          | false =>
            rw [if_neg Bool.false_ne_true]
            simp only [e2] at w
            exact ⟨ds.length - (i + 1), by omega, rfl, hlt, ρ3, zs, xs, r3, so2, ha3, iz3, w⟩
          | true =>
            rw [if_pos rfl]
            simp only [e2] at w
            cases e3 : k ρ3 with
            | exc x ρ4 => simp only [e3] at w; cases w
            | bad => simp only [e3] at w; cases w
            | ok p3 =>
              obtain ⟨d4, ρ4⟩ := p3
              simp only [e3] at w
              refine we ρ3 σ2 H3 _ r3 ?_
              rw [e3]
              intro y4 H4 r4 i4 g4
              have ha4 : H4 acc = some (.lst xs) := g4.ext.at_ _ _ (accC σ2 so2) ha3
              have hsz : qD (zs.length + 1) = true := by
                cases e5 : qD (zs.length + 1) with
                | true => rfl
                | false => rw [e5] at w; simp at w
              rw [if_pos hsz] at w
              have hsz' : zs.length + 1 <= sizeLine := of_decide_eq_true hsz
              have r5 := r4.grow (ys := xs ++ [y4]) ha4 (fun j hj e => accC σ2 so2 j hj e)
              have ext5 : Ext (Cn (cin (Cn c σ) H1 (foO fo) (vY σ fo) acc fun j => (qp nt fr σ)[j]?) σ2) H4 (upd H4 acc (.lst (xs ++ [y4]))) := ⟨fun b us hb => by rw [qm (uh hb ha4 (by intro z; cases z))]; exact hb, fun b o u hb => by rw [qm (uh hb ha4 (by intro z; cases z))]; exact hb, fun b o hb hq => by rw [qm hb.1.2]; exact hq⟩
              refine ⟨xs, ha4, by rw [iz3.length]; omega, ds.length - (i + 1), by omega, rfl, hlt, ρ4, zs ++ [d4], xs ++ [y4], r5, so2, qr, ?_, w⟩
              exact IsL.append (IsL.ext ext5 (fun _ h _ => h) (g4.isL iz3)) (IsL.one (Is.ext ext5 (fun _ h _ => h) i4))
    . have hie : i = ds.length := by omega
      subst hie
      rw [List.drop_of_length_le (Nat.le_refl _)] at w
      unfold qT at w
      cases w
      obtain ⟨r6, g6⟩ := r1.leave hn hfo (fun i j e => so i (by rw [e]; simp [foO])) r'
      exact .inl ⟨iok.stop H' ex, h1 _ H' r6 ⟨acc, xs, rfl, r1.new hn, ha, IsL.ext Ext.refl (fun a ha hs => ha.1.1) iz⟩ g6⟩
end
theorem yk.units {k : Nat} {A : Around} (r : yk k A) : A.units + 64 < cLine := by have := r.un; omega
section
variable {X : Cx} {c : Fc} {e : Expr} {es : List Expr} {pos : Pos}
theorem qiM {k : Nat} (hr : yk k X.A) : OpR X (compareOp .Eq) (qfM X.K false) := by
  intro pins s σ H x y v u Q I rx ry h
  obtain ⟨d, e, A, h1, h2, o1, o2, q⟩ := h
  obtain ⟨as, r1, _⟩ := j4 I (wW o1) h1 rx
  obtain ⟨bs, r2, _⟩ := j4 I (wW o2) h2 ry
  exact SeqAt.compareEq_shaped r1 r2 (vb o1) (vb o2) (yk.units hr) ⟨.bl _, H, I, rfl, by simpa using q⟩
theorem qlS {K : Fr0} {A : Around} {e : Addr} {H6 : Hp} (al : AloneA (A.mark (some (.ref e))) H6) : ∀ ρ σ H, Rep K (ch H6) ρ σ H -> AloneA (A.mark (some (.ref e))) H := Sk.AloneA.rep (c := ch H6) al (fun _ z => z)
theorem qiN {k : Nat} {A : Around} {e : Addr} (hr : yA k A) : yk k (A.mark (some (.ref e))) := ⟨hr.dp, hr.un, hr.gd⟩
theorem qe6 {k : Nat} (hr : yk k X.A) : OpR X (compareOp .Eq) (fun x y H Q => rEq x y H Q \/ qfM X.K false x y H Q) := OpR.or qjI (qiM hr)
theorem qgw {k : Nat} {f : Addr} {fd : FuncData} {ps : List Str} {F : List D -> R D} {x : Str} {p : Pos} {g : M (List D)} (hal : ∀ ρ σ H, Rep X.K c ρ σ H -> AloneA X.A H)
    (G : qaw X.prog X.w X.K X.mg X.base CX0 k f fd ps (spD X.K F)) (hr : yk k X.A) (hg : Gl X x) (hm : X.mg x = some (.ref f)) (hk : PySem.W.keepIn X.K (.ref f) = true) (hb : yP X.K fd ps [])
    (ha : DA X c (e :: es) g) (hd : (x == ("__debug__" : Str)) = false := by decide) (he : starEach (e :: es) X.env = (false, eval e X.env) :: starEach es X.env := by rfl) (hpl : (backTo pos (starEach es X.env)).any (·.1) = false := by rfl) : DE X c (.Call (.Name x p) (e :: es) [] pos) (qo F g) := by
  obtain ⟨t, pa, w⟩ := ha
  refine ⟨_, qcQ (E := fun _ _ _ => False) G hr hg hm hk hb .nil (fun _ _ _ _ _ _ _ z => z.elim) pa hd he hpl, fun ρ σ H Q r h => w ρ σ H _ r (WpL.bnd h fun ds ρ1 vs H1 r1 i1 g1 h1 => ⟨hal _ _ _ r1, ?_⟩)⟩
  rw [List.append_nil]
  refine ⟨ds, Cn c σ, i1, fun _ _ => trivial, ?_⟩
  cases ef : F ds with
  | bad => simp only [ef] at h1; exact h1.elim
  | exc z ρ' => simp only [ef] at h1; exact h1.elim
  | ok d =>
    simp only [ef] at h1
    exact fun v H' sm i => h1 v H' (r1.same sm) (Is.ext Ext.refl (fun a ha _ => ha.elim id r1.new) i) (.of_same sm)
end
end L2.Sk
namespace L2.Sk
open PySem PySem.Spec PyProof.Rows
theorem qbw (a d : Value) : argsOk "min" ⟨[a], [(("default" : Str), d)]⟩ := by unfold argsOk; kernel_rfl
theorem qbx (a d : Value) : argsOk "max" ⟨[a], [(("default" : Str), d)]⟩ := by unfold argsOk; kernel_rfl
theorem zl {prog : Program} {w : World} {A : Around} {E : Value -> Shared -> Prop} {s : Shared} {id : String} {b : Builtin} {args : List Value} {kw : List (Str × Value)} {Q : Value -> Shared -> Prop} (hk : builtinKind id = none) (hp : plainId id = true) (hb : entryFor table id = some b) (ha : argsOk id ⟨args, kw⟩)
    (hc : wpAny (model prog w) A.in1 (b ⟨args, kw⟩) (fun fin s2 => match fin with
      | .done f => (match (Except.ok f : Result) with | .ok (.ret v) => Q v s2 | .ok _ => False | .error e => E e s2)
      | .again c2 => c2.quiet = true /\ codeAny (model prog w) A c2 (fun r s3 => match r with | .ok (.ret v) => Q v s3 | .ok _ => False | .error e => E e s3) s2) E s) :
    wpAny (model prog w) A (call (.builtin id) args kw) Q E s := by
  refine wpAny_call (codeAny_call_builtin hp hb ?_)
  simp only [checkBuiltinCall, hk]
  cases es : Manifest.signature? id with
  | none => exact wpAny_pure hc
  | some sg =>
    simp only [argsOk, es] at ha
    have h2 : Bind.checkArgs id sg ⟨args, kw⟩ = pure () := ha
    show wpAny _ A.in1 (Bind.checkArgs id sg ⟨args, kw⟩) _ _ s
    rw [h2]
    exact wpAny_pure hc
def qc3 (X : Cx) (f : Value) (ks : List Str) (r : List V -> List V -> Hp -> VK -> Prop) : Prop := ∀ (pins : List (Addr × Obj)) (s : Shared) (σ : St) (H : Hp) (xs : List V) (us : List Value) (zs : List V) (ws : List Value) (Q : VK), Inv X pins σ H s -> qQ xs us -> qQ zs ws -> r xs zs H Q ->
  wpAny (model X.prog X.w) X.A (call f us (ks.zip ws)) (EP X pins σ Q) X.xe s
theorem qe7 {X : Cx} {x : Str} {p pos : Pos} {e : Expr} {es : List Expr} {kws : List Keyword} {t tk : TA} {id : String} {ks : List Str} {r : List V -> List V -> Hp -> VK -> Prop} (hc : qc3 X (.builtin id) ks r) (hg : Gl X x) (hm : X.mg x = none) (hv : bootBuiltins x = some (.builtin id)) (ha : PA X (e :: es) t) (hkw : PK X kws tk)
    (hall : (backToKw pos (keywordEach kws X.env)).all (·.1.isSome) = true := by rfl) (hks : (backToKw pos (keywordEach kws X.env)).filterMap (·.1) = ks := by rfl) (hn : x ≠ "__name__" := by decide) (hdb : (x == ("__debug__" : Str)) = false := by decide)
    (he : starEach (e :: es) X.env = (false, eval e X.env) :: starEach es X.env := by rfl) (hpl : ((backTo pos (starEach (e :: es) X.env)).any (·.1) || (backToKw pos (keywordEach kws X.env)).any (·.1.isNone)) = false := by rfl) :
    PE X (.Call (.Name x p) (e :: es) kws pos) (fun σ H Q => t σ H fun vs H1 => tk σ H1 fun zs H2 => r vs zs H2 Q) := by
  intro pins s σ H Q I h
  refine wpAny_Call_Name_kw (vk I hg hm hv ?_ hn hdb)
  refine PySem.W.callWith_of (P := fun _ => True) hpl (fun _ _ => ⟨.machine, .inr (.inl rfl), .now⟩) (evalArgs_kw2 hall (thn (ha pos pins s σ H _ I h) fun us s1 ⟨vs, H1, I1, r1, q1⟩ => ?_) he)
  refine thn (hkw pos pins s1 σ H1 _ I1 q1) fun ws s2 ⟨zs, H2, I2, rz, q2⟩ => ⟨trivial, ?_⟩
  rw [hks, List.nil_append]
  exact hc pins s2 σ H2 vs us zs ws Q I2 r1 rz q2
section
variable {prog : Program} {w : World} {A : Around} {R : Result -> Shared -> Prop} {I : Addr} {fp wr : List Addr} {n : Nat} {P : Nat -> Value -> Prop} {St : Nat -> Heap -> Prop} {dv : Value}
structure qby (prog : Program) (w : World) (A : Around) (P : Nat -> Value -> Prop) (bt : Nat -> Nat -> Bool) (Ok : Heap -> Prop) (wr : List Addr) (Z : Addr) : Prop where
  cmp : ∀ (i j : Nat) (x y : Value) (s : Shared) (Q E : Value -> Shared -> Prop), P i x -> P j y -> Ok s.heap -> Q (.bool (bt i j)) s -> wpAny (model prog w) A (richCompare .Lt x y) Q E s
  old : ∀ h h' : Heap, Ok h -> (∀ b o, b ∉ wr -> b ≠ Z -> h.get? b = some o -> h'.get? b = some o) -> Ok h'
theorem qe8 (W : Walks prog w A.in1 I fp wr n P St) {bt : Nat -> Nat -> Bool} {Ok : Heap -> Prop} {Z : Addr} (gZ : Z ∉ fp) (C : qby prog w A.in1 P bt Ok wr Z) :
    ∀ (m q : Nat) (s : Shared) (best : Value) (z : Nat), n = q + 1 + m -> St (q + 1) s.heap -> P (argBest bt q) best -> Ok s.heap ->
    s.heap.get? Z = some { cls := .type "list", dict := none, data := .seq #[best, best] z, slots := #[] } ->
    (∀ y h2 t2, P (argBest bt (n - 1)) y -> (∀ b o, b ∉ wr -> b ≠ Z -> s.heap.get? b = some o -> h2.get? b = some o) -> R (.ok (.ret y)) { s with heap := h2, toks := t2 }) ->
    codeAny (model prog w) A (.builtin "min.loop" ⟨[.ref I, .none, .ref Z], [(("default" : Str), dv)]⟩) R s := by
  have gw : Z ∉ wr := fun e => gZ (W.sub _ e)
  have nm : (toString "min" ++ toString ".loop" : String) = "min.loop" := by decide
  intro m
  induction m with
  | zero =>
    intro q s best z en est eP eO eZ fin
    have eq1 : q + 1 = n := by omega
    have st' : St n s.heap := eq1 ▸ est
    refine codeAny_builtin PySem.F.entry_min_loop (by
      rw [Around.under_plainId PySem.F.plain_min_loop _]
      refine wpAny_bind (wpAny_seqItems eZ rfl ?_)
      refine wpAny_bind (wpAny_tryCatch (W.done s _ _ st' fun h1 t1 k1 => ?_))
      have eZ1 := k1 Z _ gw eZ
      refine wpAny_bind (wpAny_updateSeq eZ1 rfl (wpAny_bind (wpAny_letGo (wpAny_pure ?_))))
      exact fin best _ t1 (by rw [<- eq1]; exact eP) fun b o nb nz g => (Heap.get?_update_other _ _ (Ne.symm nz)).trans (k1 b o nb g))
  | succ m ih =>
    intro q s best z en est eP eO eZ fin
    have lt1 : q + 1 < n := by omega
    refine codeAny_builtin PySem.F.entry_min_loop (by
      rw [Around.under_plainId PySem.F.plain_min_loop _]
      refine wpAny_bind (wpAny_seqItems eZ rfl ?_)
      refine wpAny_bind (wpAny_tryCatch (W.item (q + 1) s _ _ lt1 est fun x h1 t1 eP1 est1 k1 => ?_))
      have eZ1 := k1 Z _ gw eZ
      have eO1 : Ok h1 := C.old _ _ eO fun b o nb _ g => k1 b o nb g
      refine wpAny_bind (wpAny_pure (wpAny_bind (wpAny_tryCatch (wpAny_holding (wpAny_bind (C.cmp (q + 1) (argBest bt q) x best _ _ _ eP1 eP eO1 ?_))))))
      refine wpAny_bind (wpAny_holding (wpAny_truthy_bool (wpAny_bind (wpAny_letGo (wpAny_pure ?_)))))
      cases less : bt (q + 1) (argBest bt q) with
      | true =>
        refine wpAny_bind (wpAny_updateSeq eZ1 rfl (wpAny_bind (wpAny_letGo ?_)))
        rw [nm]
        refine wpAny_pure ⟨plainId_quiet PySem.F.plain_min_loop _, ?_⟩
        refine ih (q + 1) _ x _ (by omega) (W.frame _ _ _ est1 fun b nb o g => ?_) (by simp only [argBest, less, if_true]; exact eP1) (C.old _ _ eO1 fun b o _ nz g => ?_) (Heap.get?_update_self _ eZ1 rfl) fun y h2 t2 eP2 k2 => ?_
        . exact (Heap.get?_update_other _ _ (fun e : Z = b => gZ (by rw [e]; exact nb))).trans g
        . exact (Heap.get?_update_other _ _ (Ne.symm nz)).trans g
        . exact fin y h2 t2 eP2 fun b o nb nz g => k2 b o nb nz ((Heap.get?_update_other _ _ (Ne.symm nz)).trans (k1 b o nb g))
      | false =>
        refine wpAny_bind (wpAny_letGo ?_)
        rw [nm]
        refine wpAny_pure ⟨plainId_quiet PySem.F.plain_min_loop _, ?_⟩
        refine ih (q + 1) _ best z (by omega) est1 (by simp only [argBest, less, Bool.false_eq_true, if_false]; exact eP) eO1 eZ1 fun y h2 t2 eP2 k2 => ?_
        exact fin y h2 t2 eP2 fun b o nb nz g => k2 b o nb nz (k1 b o nb g))
theorem qdP (W : Walks prog w A.in1 I fp wr n P St) {bt : Nat -> Nat -> Bool} {Ok : Heap -> Prop} {Z : Addr} (gZ : Z ∉ fp) (C : qby prog w A.in1 P bt Ok wr Z) {s : Shared} {z : Nat} (hn : 0 < n) (est : St 0 s.heap) (eO : Ok s.heap)
    (eZ : s.heap.get? Z = some { cls := .type "list", dict := none, data := .seq #[] z, slots := #[] })
    (fin : ∀ y h2 t2, P (argBest bt (n - 1)) y -> (∀ b o, b ∉ wr -> b ≠ Z -> s.heap.get? b = some o -> h2.get? b = some o) -> R (.ok (.ret y)) { s with heap := h2, toks := t2 }) :
    codeAny (model prog w) A (.builtin "min.loop" ⟨[.ref I, .none, .ref Z], [(("default" : Str), dv)]⟩) R s := by
  have gw : Z ∉ wr := fun e => gZ (W.sub _ e)
  have nm : (toString "min" ++ toString ".loop" : String) = "min.loop" := by decide
  refine codeAny_builtin PySem.F.entry_min_loop (by
    rw [Around.under_plainId PySem.F.plain_min_loop _]
    refine wpAny_bind (wpAny_seqItems eZ rfl ?_)
    refine wpAny_bind (wpAny_tryCatch (W.item 0 s _ _ hn est fun x h1 t1 eP1 est1 k1 => ?_))
    have eZ1 := k1 Z _ gw eZ
    have eO1 : Ok h1 := C.old _ _ eO fun b o nb _ g => k1 b o nb g
    refine wpAny_bind (wpAny_pure (wpAny_bind (wpAny_updateSeq eZ1 rfl ?_)))
    rw [nm]
    refine wpAny_pure ⟨plainId_quiet PySem.F.plain_min_loop _, ?_⟩
    refine qe8 W gZ C (n - 1) 0 _ x _ (by omega) (W.frame _ _ _ est1 fun b nb o g => ?_) eP1 (C.old _ _ eO1 fun b o _ nz g => ?_) (Heap.get?_update_self _ eZ1 rfl) fun y h2 t2 eP2 k2 => ?_
    . exact (Heap.get?_update_other _ _ (fun e : Z = b => gZ (by rw [e]; exact nb))).trans g
    . exact (Heap.get?_update_other _ _ (Ne.symm nz)).trans g
    . exact fin y h2 t2 eP2 fun b o nb nz g => k2 b o nb nz ((Heap.get?_update_other _ _ (Ne.symm nz)).trans (k1 b o nb g)))
end
section
variable {prog : Program} {w : World} {A : Around} {E : Value -> Shared -> Prop} {s : Shared}
theorem qe9 {l : Addr} {dv : Value} {its : Array Value} {bt : Nat -> Nat -> Bool} {Q : Value -> Shared -> Prop} (hh : A.handled = none) (hl : s.heap.IsList l its) (hne : 0 < its.size)
    (hc : ∀ (i j : Nat) (x y : Value) (s1 : Shared) (Q E : Value -> Shared -> Prop), its[i]? = some x -> its[j]? = some y -> (∀ b o, s.heap.get? b = some o -> s1.heap.get? b = some o) -> Q (.bool (bt i j)) s1 -> wpAny (model prog w) A.in1 (richCompare .Lt x y) Q E s1)
    (fin : ∀ y h' tk, its[argBest bt (its.size - 1)]? = some y -> (∀ b o, s.heap.get? b = some o -> h'.get? b = some o) -> Q y { s with heap := h', toks := tk }) :
    wpAny (model prog w) A (call (.builtin "min") [.ref l] [(("default" : Str), dv)]) Q E s := by
  have nm : (toString "min" ++ toString ".loop" : String) = "min.loop" := by decide
  refine zl PySem.F.kind_min PySem.F.plain_min PySem.F.entry_min (qbw _ _) ?_
  refine wpAny_bind (wpAny_of_eq (show Builtin.Builtins.bindParams "min" ["key", "default"] 0 ⟨[], [(("default" : Str), dv)]⟩ = pure [none, some dv] from rfl) (wpAny_bind (wpAny_pure ?_)))
  refine wpAny_bind (wpAny_pyIter_list hl ?_)
  have la : l < s.heap.objs.size := by obtain ⟨o, e, _⟩ := hl; exact Heap.lt_size e
  have W := Walks.list (prog := prog) (w := w) (A := A.in1) hh s.heap.objs.size l (Nat.ne_of_lt la) its
  refine wpAny_bind (wpAny_newObj_type ?_)
  rw [nm]
  refine wpAny_pure ⟨plainId_quiet PySem.F.plain_min_loop _, ?_⟩
  have up : ∀ b o, s.heap.get? b = some o -> ((s.heap.push { cls := .type "list_iterator", data := .fields #[.ref l, .int 0 0] }).push { cls := .type "list", data := .seq #[] }).get? b = some o := fun b o g => Heap.get?_push_of_some _ (Heap.get?_push_of_some _ g)
  have sz : (s.heap.push { cls := .type "list_iterator", data := .fields #[.ref l, .int 0 0] }).objs.size = s.heap.objs.size + 1 := by simp [Heap.push]
  refine qdP (Ok := fun h => ∀ b o, s.heap.get? b = some o -> h.get? b = some o) (bt := bt) W (fun z => ?_) ⟨fun i j x y s1 Q E p1 p2 ok q => hc i j x y s1 Q E p1 p2 ok q, fun h h' ok k b o g => k b o (fun z => ?_) (fun z => ?_) (ok b o g)⟩ hne ⟨?_, ?_⟩ up (Heap.get?_push_size _ rfl) fun y h2 t2 p k => ?_
  . have z' : (s.heap.push { cls := .type "list_iterator", data := .fields #[.ref l, .int 0 0] }).objs.size = s.heap.objs.size \/ (s.heap.push { cls := .type "list_iterator", data := .fields #[.ref l, .int 0 0] }).objs.size = l := by simpa using z
    rw [sz] at z'
    rcases z' with e | e
    . exact absurd e (Nat.succ_ne_self _)
    . exact absurd (e ▸ la) (Nat.not_lt.mpr (Nat.le_succ _))
  . have z' : b = s.heap.objs.size := by simpa using z
    exact Nat.ne_of_lt (Heap.lt_size g) z'
  . have g' := Heap.lt_size g
    have z' : b = (s.heap.push { cls := .type "list_iterator", data := .fields #[.ref l, .int 0 0] }).objs.size := z
    rw [sz] at z'
    exact absurd (z' ▸ g') (Nat.not_lt.mpr (Nat.le_succ _))
  . exact ⟨_, Heap.get?_push_of_some _ (Heap.get?_push_size _ rfl), rfl, rfl⟩
  . exact hl.at fun o e => up l o e
  . refine fin y h2 t2 p fun b o g => k b o (fun z => ?_) (fun z => ?_) (up b o g)
    . have z' : b = s.heap.objs.size := by simpa using z
      exact Nat.ne_of_lt (Heap.lt_size g) z'
    . have g' := Heap.lt_size g
      have z' : b = (s.heap.push { cls := .type "list_iterator", data := .fields #[.ref l, .int 0 0] }).objs.size := z
      rw [sz] at z'
      exact absurd (z' ▸ g') (Nat.not_lt.mpr (Nat.le_succ _))
end
section
variable {prog : Program} {w : World} {A : Around} {R : Result -> Shared -> Prop} {I : Addr} {fp wr : List Addr} {n : Nat} {P : Nat -> Value -> Prop} {St : Nat -> Heap -> Prop} {dv : Value}
structure qbz (prog : Program) (w : World) (A : Around) (P : Nat -> Value -> Prop) (bt : Nat -> Nat -> Bool) (Ok : Heap -> Prop) (wr : List Addr) (Z : Addr) : Prop where
  cmp : ∀ (i j : Nat) (x y : Value) (s : Shared) (Q E : Value -> Shared -> Prop), P i x -> P j y -> Ok s.heap -> Q (.bool (bt i j)) s -> wpAny (model prog w) A (richCompare .Gt x y) Q E s
  old : ∀ h h' : Heap, Ok h -> (∀ b o, b ∉ wr -> b ≠ Z -> h.get? b = some o -> h'.get? b = some o) -> Ok h'
theorem qfa (W : Walks prog w A.in1 I fp wr n P St) {bt : Nat -> Nat -> Bool} {Ok : Heap -> Prop} {Z : Addr} (gZ : Z ∉ fp) (C : qbz prog w A.in1 P bt Ok wr Z) :
    ∀ (m q : Nat) (s : Shared) (best : Value) (z : Nat), n = q + 1 + m -> St (q + 1) s.heap -> P (argBest bt q) best -> Ok s.heap ->
    s.heap.get? Z = some { cls := .type "list", dict := none, data := .seq #[best, best] z, slots := #[] } ->
    (∀ y h2 t2, P (argBest bt (n - 1)) y -> (∀ b o, b ∉ wr -> b ≠ Z -> s.heap.get? b = some o -> h2.get? b = some o) -> R (.ok (.ret y)) { s with heap := h2, toks := t2 }) ->
    codeAny (model prog w) A (.builtin "max.loop" ⟨[.ref I, .none, .ref Z], [(("default" : Str), dv)]⟩) R s := by
  have gw : Z ∉ wr := fun e => gZ (W.sub _ e)
  have nm : (toString "max" ++ toString ".loop" : String) = "max.loop" := by decide
  intro m
  induction m with
  | zero =>
    intro q s best z en est eP eO eZ fin
    have eq1 : q + 1 = n := by omega
    have st' : St n s.heap := eq1 ▸ est
    refine codeAny_builtin PySem.F.entry_max_loop (by
      rw [Around.under_plainId PySem.F.plain_max_loop _]
      refine wpAny_bind (wpAny_seqItems eZ rfl ?_)
      refine wpAny_bind (wpAny_tryCatch (W.done s _ _ st' fun h1 t1 k1 => ?_))
      have eZ1 := k1 Z _ gw eZ
      refine wpAny_bind (wpAny_updateSeq eZ1 rfl (wpAny_bind (wpAny_letGo (wpAny_pure ?_))))
      exact fin best _ t1 (by rw [<- eq1]; exact eP) fun b o nb nz g => (Heap.get?_update_other _ _ (Ne.symm nz)).trans (k1 b o nb g))
  | succ m ih =>
    intro q s best z en est eP eO eZ fin
    have lt1 : q + 1 < n := by omega
    refine codeAny_builtin PySem.F.entry_max_loop (by
      rw [Around.under_plainId PySem.F.plain_max_loop _]
      refine wpAny_bind (wpAny_seqItems eZ rfl ?_)
      refine wpAny_bind (wpAny_tryCatch (W.item (q + 1) s _ _ lt1 est fun x h1 t1 eP1 est1 k1 => ?_))
      have eZ1 := k1 Z _ gw eZ
      have eO1 : Ok h1 := C.old _ _ eO fun b o nb _ g => k1 b o nb g
      refine wpAny_bind (wpAny_pure (wpAny_bind (wpAny_tryCatch (wpAny_holding (wpAny_bind (C.cmp (q + 1) (argBest bt q) x best _ _ _ eP1 eP eO1 ?_))))))
      refine wpAny_bind (wpAny_holding (wpAny_truthy_bool (wpAny_bind (wpAny_letGo (wpAny_pure ?_)))))
      cases less : bt (q + 1) (argBest bt q) with
      | true =>
        refine wpAny_bind (wpAny_updateSeq eZ1 rfl (wpAny_bind (wpAny_letGo ?_)))
        rw [nm]
        refine wpAny_pure ⟨plainId_quiet PySem.F.plain_max_loop _, ?_⟩
        refine ih (q + 1) _ x _ (by omega) (W.frame _ _ _ est1 fun b nb o g => ?_) (by simp only [argBest, less, if_true]; exact eP1) (C.old _ _ eO1 fun b o _ nz g => ?_) (Heap.get?_update_self _ eZ1 rfl) fun y h2 t2 eP2 k2 => ?_
        . exact (Heap.get?_update_other _ _ (fun e : Z = b => gZ (by rw [e]; exact nb))).trans g
        . exact (Heap.get?_update_other _ _ (Ne.symm nz)).trans g
        . exact fin y h2 t2 eP2 fun b o nb nz g => k2 b o nb nz ((Heap.get?_update_other _ _ (Ne.symm nz)).trans (k1 b o nb g))
      | false =>
        refine wpAny_bind (wpAny_letGo ?_)
        rw [nm]
        refine wpAny_pure ⟨plainId_quiet PySem.F.plain_max_loop _, ?_⟩
        refine ih (q + 1) _ best z (by omega) est1 (by simp only [argBest, less, Bool.false_eq_true, if_false]; exact eP) eO1 eZ1 fun y h2 t2 eP2 k2 => ?_
        exact fin y h2 t2 eP2 fun b o nb nz g => k2 b o nb nz (k1 b o nb g))
theorem qdQ (W : Walks prog w A.in1 I fp wr n P St) {bt : Nat -> Nat -> Bool} {Ok : Heap -> Prop} {Z : Addr} (gZ : Z ∉ fp) (C : qbz prog w A.in1 P bt Ok wr Z) {s : Shared} {z : Nat} (hn : 0 < n) (est : St 0 s.heap) (eO : Ok s.heap)
    (eZ : s.heap.get? Z = some { cls := .type "list", dict := none, data := .seq #[] z, slots := #[] })
    (fin : ∀ y h2 t2, P (argBest bt (n - 1)) y -> (∀ b o, b ∉ wr -> b ≠ Z -> s.heap.get? b = some o -> h2.get? b = some o) -> R (.ok (.ret y)) { s with heap := h2, toks := t2 }) :
    codeAny (model prog w) A (.builtin "max.loop" ⟨[.ref I, .none, .ref Z], [(("default" : Str), dv)]⟩) R s := by
  have gw : Z ∉ wr := fun e => gZ (W.sub _ e)
  have nm : (toString "max" ++ toString ".loop" : String) = "max.loop" := by decide
  refine codeAny_builtin PySem.F.entry_max_loop (by
    rw [Around.under_plainId PySem.F.plain_max_loop _]
    refine wpAny_bind (wpAny_seqItems eZ rfl ?_)
    refine wpAny_bind (wpAny_tryCatch (W.item 0 s _ _ hn est fun x h1 t1 eP1 est1 k1 => ?_))
    have eZ1 := k1 Z _ gw eZ
    have eO1 : Ok h1 := C.old _ _ eO fun b o nb _ g => k1 b o nb g
    refine wpAny_bind (wpAny_pure (wpAny_bind (wpAny_updateSeq eZ1 rfl ?_)))
    rw [nm]
    refine wpAny_pure ⟨plainId_quiet PySem.F.plain_max_loop _, ?_⟩
    refine qfa W gZ C (n - 1) 0 _ x _ (by omega) (W.frame _ _ _ est1 fun b nb o g => ?_) eP1 (C.old _ _ eO1 fun b o _ nz g => ?_) (Heap.get?_update_self _ eZ1 rfl) fun y h2 t2 eP2 k2 => ?_
    . exact (Heap.get?_update_other _ _ (fun e : Z = b => gZ (by rw [e]; exact nb))).trans g
    . exact (Heap.get?_update_other _ _ (Ne.symm nz)).trans g
    . exact fin y h2 t2 eP2 fun b o nb nz g => k2 b o nb nz ((Heap.get?_update_other _ _ (Ne.symm nz)).trans (k1 b o nb g)))
end
section
variable {prog : Program} {w : World} {A : Around} {E : Value -> Shared -> Prop} {s : Shared}
theorem qfb {l : Addr} {dv : Value} {its : Array Value} {bt : Nat -> Nat -> Bool} {Q : Value -> Shared -> Prop} (hh : A.handled = none) (hl : s.heap.IsList l its) (hne : 0 < its.size)
    (hc : ∀ (i j : Nat) (x y : Value) (s1 : Shared) (Q E : Value -> Shared -> Prop), its[i]? = some x -> its[j]? = some y -> (∀ b o, s.heap.get? b = some o -> s1.heap.get? b = some o) -> Q (.bool (bt i j)) s1 -> wpAny (model prog w) A.in1 (richCompare .Gt x y) Q E s1)
    (fin : ∀ y h' tk, its[argBest bt (its.size - 1)]? = some y -> (∀ b o, s.heap.get? b = some o -> h'.get? b = some o) -> Q y { s with heap := h', toks := tk }) :
    wpAny (model prog w) A (call (.builtin "max") [.ref l] [(("default" : Str), dv)]) Q E s := by
  have nm : (toString "max" ++ toString ".loop" : String) = "max.loop" := by decide
  refine zl PySem.F.kind_max PySem.F.plain_max PySem.F.entry_max (qbx _ _) ?_
  refine wpAny_bind (wpAny_of_eq (show Builtin.Builtins.bindParams "max" ["key", "default"] 0 ⟨[], [(("default" : Str), dv)]⟩ = pure [none, some dv] from rfl) (wpAny_bind (wpAny_pure ?_)))
  refine wpAny_bind (wpAny_pyIter_list hl ?_)
  have la : l < s.heap.objs.size := by obtain ⟨o, e, _⟩ := hl; exact Heap.lt_size e
  have W := Walks.list (prog := prog) (w := w) (A := A.in1) hh s.heap.objs.size l (Nat.ne_of_lt la) its
  refine wpAny_bind (wpAny_newObj_type ?_)
  rw [nm]
  refine wpAny_pure ⟨plainId_quiet PySem.F.plain_max_loop _, ?_⟩
  have up : ∀ b o, s.heap.get? b = some o -> ((s.heap.push { cls := .type "list_iterator", data := .fields #[.ref l, .int 0 0] }).push { cls := .type "list", data := .seq #[] }).get? b = some o := fun b o g => Heap.get?_push_of_some _ (Heap.get?_push_of_some _ g)
  have sz : (s.heap.push { cls := .type "list_iterator", data := .fields #[.ref l, .int 0 0] }).objs.size = s.heap.objs.size + 1 := by simp [Heap.push]
  refine qdQ (Ok := fun h => ∀ b o, s.heap.get? b = some o -> h.get? b = some o) (bt := bt) W (fun z => ?_) ⟨fun i j x y s1 Q E p1 p2 ok q => hc i j x y s1 Q E p1 p2 ok q, fun h h' ok k b o g => k b o (fun z => ?_) (fun z => ?_) (ok b o g)⟩ hne ⟨?_, ?_⟩ up (Heap.get?_push_size _ rfl) fun y h2 t2 p k => ?_
  . have z' : (s.heap.push { cls := .type "list_iterator", data := .fields #[.ref l, .int 0 0] }).objs.size = s.heap.objs.size \/ (s.heap.push { cls := .type "list_iterator", data := .fields #[.ref l, .int 0 0] }).objs.size = l := by simpa using z
    rw [sz] at z'
    rcases z' with e | e
    . exact absurd e (Nat.succ_ne_self _)
    . exact absurd (e ▸ la) (Nat.not_lt.mpr (Nat.le_succ _))
  . have z' : b = s.heap.objs.size := by simpa using z
    exact Nat.ne_of_lt (Heap.lt_size g) z'
  . have g' := Heap.lt_size g
    have z' : b = (s.heap.push { cls := .type "list_iterator", data := .fields #[.ref l, .int 0 0] }).objs.size := z
    rw [sz] at z'
    exact absurd (z' ▸ g') (Nat.not_lt.mpr (Nat.le_succ _))
  . exact ⟨_, Heap.get?_push_of_some _ (Heap.get?_push_size _ rfl), rfl, rfl⟩
  . exact hl.at fun o e => up l o e
  . refine fin y h2 t2 p fun b o g => k b o (fun z => ?_) (fun z => ?_) (up b o g)
    . have z' : b = s.heap.objs.size := by simpa using z
      exact Nat.ne_of_lt (Heap.lt_size g) z'
    . have g' := Heap.lt_size g
      have z' : b = (s.heap.push { cls := .type "list_iterator", data := .fields #[.ref l, .int 0 0] }).objs.size := z
      rw [sz] at z'
      exact absurd (z' ▸ g') (Nat.not_lt.mpr (Nat.le_succ _))
end
section
variable {prog : Program} {w : World} {A : Around} {E : Value -> Shared -> Prop} {s : Shared}
theorem qbA {nm : String} {b : Builtin} {l : Addr} {its : Array Value} {dv : Value} {Q : Value -> Shared -> Prop} (hh : A.handled = none) (hl : s.heap.IsList l its) (he : its.size = 0)
    (hk : nm = "min" \/ nm = "max") (fin : ∀ h' tk, (∀ b o, s.heap.get? b = some o -> h'.get? b = some o) -> Q dv { s with heap := h', toks := tk }) :
    wpAny (model prog w) A (call (.builtin nm) [.ref l] [(("default" : Str), dv)]) Q E s := by
  have la : l < s.heap.objs.size := by obtain ⟨o, e, _⟩ := hl; exact Heap.lt_size e
  have W := Walks.list (prog := prog) (w := w) (A := A.in1) hh s.heap.objs.size l (Nat.ne_of_lt la) its
  have up : ∀ b o, s.heap.get? b = some o -> ((s.heap.push { cls := .type "list_iterator", data := .fields #[.ref l, .int 0 0] }).push { cls := .type "list", data := .seq #[] }).get? b = some o := fun b o g => Heap.get?_push_of_some _ (Heap.get?_push_of_some _ g)
  have st : Heap.IsListIter ((s.heap.push { cls := .type "list_iterator", data := .fields #[.ref l, .int 0 0] }).push { cls := .type "list", data := .seq #[] }) s.heap.objs.size l 0 := ⟨_, Heap.get?_push_of_some _ (Heap.get?_push_size _ rfl), rfl, rfl⟩
  have hl2 := hl.at fun o e => up l o e
  rcases hk with rfl | rfl
  . have nm : (toString "min" ++ toString ".loop" : String) = "min.loop" := by decide
    refine zl PySem.F.kind_min PySem.F.plain_min PySem.F.entry_min (qbw _ _) ?_
    refine wpAny_bind (wpAny_of_eq (show Builtin.Builtins.bindParams "min" ["key", "default"] 0 ⟨[], [(("default" : Str), dv)]⟩ = pure [none, some dv] from rfl) (wpAny_bind (wpAny_pure ?_)))
    refine wpAny_bind (wpAny_pyIter_list hl (wpAny_bind (wpAny_newObj_type ?_)))
    rw [nm]
    refine wpAny_pure ⟨plainId_quiet PySem.F.plain_min_loop _, codeAny_builtin PySem.F.entry_min_loop ?_⟩
    rw [Around.under_plainId PySem.F.plain_min_loop _]
    refine wpAny_bind (wpAny_seqItems (Heap.get?_push_size _ rfl) rfl ?_)
    refine wpAny_bind (wpAny_tryCatch (W.done _ _ _ ⟨by rw [he]; exact st, hl2⟩ fun h1 t1 k1 => ?_))
    exact wpAny_bind (wpAny_rule (wpAny_pure (fin h1 t1 fun b o g => k1 b o (fun z => by
      have z' : b = s.heap.objs.size := by simpa using z
      exact Nat.ne_of_lt (Heap.lt_size g) z') (up b o g))))
  . have nm : (toString "max" ++ toString ".loop" : String) = "max.loop" := by decide
    refine zl PySem.F.kind_max PySem.F.plain_max PySem.F.entry_max (qbx _ _) ?_
    refine wpAny_bind (wpAny_of_eq (show Builtin.Builtins.bindParams "max" ["key", "default"] 0 ⟨[], [(("default" : Str), dv)]⟩ = pure [none, some dv] from rfl) (wpAny_bind (wpAny_pure ?_)))
    refine wpAny_bind (wpAny_pyIter_list hl (wpAny_bind (wpAny_newObj_type ?_)))
    rw [nm]
    refine wpAny_pure ⟨plainId_quiet PySem.F.plain_max_loop _, codeAny_builtin PySem.F.entry_max_loop ?_⟩
    rw [Around.under_plainId PySem.F.plain_max_loop _]
    refine wpAny_bind (wpAny_seqItems (Heap.get?_push_size _ rfl) rfl ?_)
    refine wpAny_bind (wpAny_tryCatch (W.done _ _ _ ⟨by rw [he]; exact st, hl2⟩ fun h1 t1 k1 => ?_))
    exact wpAny_bind (wpAny_rule (wpAny_pure (fin h1 t1 fun b o g => k1 b o (fun z => by
      have z' : b = s.heap.objs.size := by simpa using z
      exact Nat.ne_of_lt (Heap.lt_size g) z') (up b o g))))
end
end L2.Sk
namespace L2.Sk
open PySem PySem.Spec PyProof.Rows
section
variable {X : Cx}
def qkA : List V -> List V -> Hp -> VK -> Prop := fun xs zs H Q => ∃ (p : Addr) (ns : List Int) (z : V), xs = [.ref p] /\ zs = [z] /\ H p = some (.lst (ns.map V.int)) /\ Q (if ns = [] then z else .int (qbU ns)) H
def qkB : List V -> List V -> Hp -> VK -> Prop := fun xs zs H Q => ∃ (p : Addr) (ns : List Int) (z : V), xs = [.ref p] /\ zs = [z] /\ H p = some (.lst (ns.map V.int)) /\ Q (if ns = [] then z else .int (qbt ns)) H
theorem qfc (hc : X.calm = true) : qc3 X (.builtin "max") ["default"] qkA := by
  intro pins s σ H xs us zs0 ws Q I r rz h
  obtain ⟨p, ns, z, rfl, rfl, hp, q⟩ := h
  obtain ⟨u, rfl, ru⟩ := qQ.one r
  obtain ⟨w, rfl, rw0⟩ := qQ.one rz
  cases ru
  obtain ⟨its, rv, pl, hz⟩ := I.list (SqL.of hp)
  have hl := pl.isList
  have hi : IntsAre its ns := yr rv
  obtain ⟨zs, hx⟩ := hi.allInts.items
  have hl' : s.heap.IsList p (intItems zs) := hx ▸ hl
  have e1 : ns = zs.toList.map (·.1) := by
    rw [<- nums_intItems, <- hx]
    exact (show numsOf its.toArray.toList = ns from hi.numsOf).symm
  by_cases hne : ns = []
  . rw [if_pos hne] at q
    have hsz : (intItems zs).size = 0 := by
      have : zs.size = zs.toList.length := by simp
      rw [hne] at e1
      have e2 : zs.toList = [] := List.map_eq_nil_iff.mp e1.symm
      simp [intItems, this, e2]
    exact qbA (b := fun _ => pure default) (I.ok.hd hc) hl' hsz (.inr rfl) fun h' tk kp => ⟨z, H, I.kept kp, rw0, q⟩
  . rw [if_neg hne] at q
    have hsz : 0 < zs.size := by
      cases hzz : zs.toList with
      | nil => rw [hzz] at e1; exact absurd e1 hne
      | cons a b =>
        have : zs.size = zs.toList.length := by simp
        rw [this, hzz]; simp
    refine qfb (bt := fun i j => decide (numAt zs i > numAt zs j)) (I.ok.hd hc) hl' (by simpa [intItems] using hsz) (fun i j x y s1 Q E h1 h2 _ q => CmpOf.ints_gt (numAt zs) (fun _ _ => intItems_at) i j x y s1 Q E h1 h2 q) fun v h' tk hv hk => ?_
    have hv' : (intItems zs)[argBest (fun i j => decide (numAt zs i > numAt zs j)) (zs.size - 1)]? = some v := by simpa [intItems] using hv
    obtain ⟨t, rfl⟩ := intItems_at hv'
    obtain ⟨b1, b2⟩ := argBest_gt (numAt zs) (zs.size - 1)
    have e2 : qbU ns = numAt zs (argBest (fun i j => decide (numAt zs i > numAt zs j)) (zs.size - 1)) := by
      refine qas ?_ fun n hn => ?_
      . rw [e1]
        exact List.mem_of_getElem? (jB (by omega))
      . rw [e1] at hn
        obtain ⟨j, hj⟩ := List.mem_iff_getElem?.mp hn
        have hj2 : j < zs.size := by
          have := (List.getElem?_eq_some_iff.mp hj).1
          simpa using this
        rw [jB hj2] at hj
        cases hj
        exact b2 j (by omega)
    rw [<- e2]
    exact ⟨.int _, H, I.kept hk, ⟨_, rfl⟩, q⟩
theorem qfd (hc : X.calm = true) : qc3 X (.builtin "min") ["default"] qkB := by
  intro pins s σ H xs us zs0 ws Q I r rz h
  obtain ⟨p, ns, z, rfl, rfl, hp, q⟩ := h
  obtain ⟨u, rfl, ru⟩ := qQ.one r
  obtain ⟨w, rfl, rw0⟩ := qQ.one rz
  cases ru
  obtain ⟨its, rv, pl, hz⟩ := I.list (SqL.of hp)
  have hl := pl.isList
  have hi : IntsAre its ns := yr rv
  obtain ⟨zs, hx⟩ := hi.allInts.items
  have hl' : s.heap.IsList p (intItems zs) := hx ▸ hl
  have e1 : ns = zs.toList.map (·.1) := by
    rw [<- nums_intItems, <- hx]
    exact (show numsOf its.toArray.toList = ns from hi.numsOf).symm
  by_cases hne : ns = []
  . rw [if_pos hne] at q
    have hsz : (intItems zs).size = 0 := by
      have : zs.size = zs.toList.length := by simp
      rw [hne] at e1
      have e2 : zs.toList = [] := List.map_eq_nil_iff.mp e1.symm
      simp [intItems, this, e2]
    exact qbA (b := fun _ => pure default) (I.ok.hd hc) hl' hsz (.inl rfl) fun h' tk kp => ⟨z, H, I.kept kp, rw0, q⟩
  . rw [if_neg hne] at q
    have hsz : 0 < zs.size := by
      cases hzz : zs.toList with
      | nil => rw [hzz] at e1; exact absurd e1 hne
      | cons a b =>
        have : zs.size = zs.toList.length := by simp
        rw [this, hzz]; simp
    refine qe9 (bt := fun i j => decide (numAt zs i < numAt zs j)) (I.ok.hd hc) hl' (by simpa [intItems] using hsz) (fun i j x y s1 Q E h1 h2 _ q => CmpOf.ints_lt (numAt zs) (fun _ _ => intItems_at) i j x y s1 Q E h1 h2 q) fun v h' tk hv hk => ?_
    have hv' : (intItems zs)[argBest (fun i j => decide (numAt zs i < numAt zs j)) (zs.size - 1)]? = some v := by simpa [intItems] using hv
    obtain ⟨t, rfl⟩ := intItems_at hv'
    obtain ⟨b1, b2⟩ := argBest_lt (numAt zs) (zs.size - 1)
    have e2 : qbt ns = numAt zs (argBest (fun i j => decide (numAt zs i < numAt zs j)) (zs.size - 1)) := by
      refine qat ?_ fun n hn => ?_
      . rw [e1]
        exact List.mem_of_getElem? (jB (by omega))
      . rw [e1] at hn
        obtain ⟨j, hj⟩ := List.mem_iff_getElem?.mp hn
        have hj2 : j < zs.size := by
          have := (List.getElem?_eq_some_iff.mp hj).1
          simpa using this
        rw [jB hj2] at hj
        cases hj
        exact b2 j (by omega)
    rw [<- e2]
    exact ⟨.int _, H, I.kept hk, ⟨_, rfl⟩, q⟩
end
def DK (X : Cx) (c : Fc) (kws : List Keyword) (f : M (List D)) : Prop := ∃ t, PK X kws t /\ ∀ ρ σ H Q, Rep X.K c ρ σ H -> WpL X.K c σ H Q (f ρ) -> t σ H Q
section
variable {X : Cx} {c : Fc} {a b e : Expr} {pos : Pos}
theorem qhx : DK X c [] (ret []) := ⟨_, qjN, fun _ _ H Q r h => h _ H r rfl .refl⟩
theorem qfe {kws : List Keyword} {nm : Option Str} {kpos : Pos} {f : M D} {g : M (List D)} (ha : DE X c e f) (hr : DK X c kws g) : DK X c (⟨nm, e, kpos⟩ :: kws) (qa f g) := by
  obtain ⟨ta, pa, wa⟩ := ha
  obtain ⟨tr, pr, wr⟩ := hr
  refine ⟨_, qhY pa pr, fun ρ σ H Q r h => wa ρ σ H _ r (Wp.bndL h fun d ρ1 v H1 r1 i1 g1 h1 => wr ρ1 σ H1 _ r1 (WpL.bndL h1 fun ds ρ2 vs H2 r2 i2 g2 h2 => ?_))⟩
  exact h2 _ H2 r2 ⟨v, vs, rfl, g2.is i1, i2⟩ .refl
def yR (F : List D -> List D -> Option D) (f g : M (List D)) : M D := bnd f fun xs => bnd g fun zs => lift (F xs zs)
def qff (K : Fr0) (F : List D -> List D -> Option D) (r : List V -> List V -> Hp -> VK -> Prop) : Prop := ∀ A H xs zs d vs ws (Q : VK), (∀ a, H a = none -> A a) -> IsL K A H xs vs -> IsL K A H zs ws -> F xs zs = some d -> (∀ u H', z8 H H' -> Is K A H' d u -> Q u H') -> r vs ws H Q
theorem qbB {x : Str} {p : Pos} {es : List Expr} {kws : List Keyword} {id : String} {ks : List Str} {r : List V -> List V -> Hp -> VK -> Prop} {F : List D -> List D -> Option D} {f g : M (List D)} (hc : qc3 X (.builtin id) ks r) (hF : qff X.K F r) (hg : Gl X x) (hm : X.mg x = none) (hv : bootBuiltins x = some (.builtin id)) (ha : DA X c (e :: es) f) (hkw : DK X c kws g)
    (hall : (backToKw pos (keywordEach kws X.env)).all (·.1.isSome) = true := by rfl) (hks : (backToKw pos (keywordEach kws X.env)).filterMap (·.1) = ks := by rfl) (hn : x ≠ "__name__" := by decide) (hdb : (x == ("__debug__" : Str)) = false := by decide)
    (he : starEach (e :: es) X.env = (false, eval e X.env) :: starEach es X.env := by rfl) (hpl : ((backTo pos (starEach (e :: es) X.env)).any (·.1) || (backToKw pos (keywordEach kws X.env)).any (·.1.isNone)) = false := by rfl) :
    DE X c (.Call (.Name x p) (e :: es) kws pos) (yR F f g) := by
  obtain ⟨t, pa, wa⟩ := ha
  obtain ⟨tk, pk, wk⟩ := hkw
  refine ⟨_, qe7 hc hg hm hv pa pk hall hks hn hdb he hpl, fun ρ σ H Q r0 h => wa ρ σ H _ r0 (WpL.bnd h fun xs ρ1 vs H1 r1 i1 g1 h1 => wk ρ1 σ H1 _ r1 (WpL.bnd h1 fun zs ρ2 ws H2 r2 i2 g2 h2 => ?_))⟩
  obtain ⟨d, ed, h3⟩ := h2.lift
  exact hF (Cn c σ) H2 xs zs d vs ws Q (fun a ha => r2.new ha) (g2.isL i1) i2 ed fun u H' sm i => h3 u H' (r2.same sm) i (.of_same sm)
end
def qcd (xs zs : List D) : Option D := match xs, zs with
  | [.lst ds], [z] => (uA ds).map fun ns => if ns = [] then z else .int (qbU ns)
  | _, _ => none
def qce (xs zs : List D) : Option D := match xs, zs with
  | [.lst ds], [z] => (uA ds).map fun ns => if ns = [] then z else .int (qbt ns)
  | _, _ => none
theorem qdR {K : Fr0} : qff K qcd qkA := by
  intro A H xs zs d vs ws Q hn ix iz e k
  unfold qcd at e
  split at e
  . rename_i ds z
    obtain ⟨v, rfl, a, ys, rfl, _, ta, il⟩ := IsL.inv1 ix
    obtain ⟨w, rfl, iw⟩ := IsL.inv1 iz
    cases eb : uA ds with
    | none => rw [eb] at e; cases e
    | some ns =>
      rw [eb] at e
      have e' : (if ns = [] then z else D.int (qbU ns)) = d := Option.some.inj e
      rw [jI il eb] at ta
      refine ⟨a, ns, w, rfl, rfl, ta, k _ H (z8.refl H) ?_⟩
      rw [<- e']
      by_cases hne : ns = []
      . rw [if_pos hne, if_pos hne]; exact iw
      . rw [if_neg hne, if_neg hne]; rfl
  . cases e
theorem qdS {K : Fr0} : qff K qce qkB := by
  intro A H xs zs d vs ws Q hn ix iz e k
  unfold qce at e
  split at e
  . rename_i ds z
    obtain ⟨v, rfl, a, ys, rfl, _, ta, il⟩ := IsL.inv1 ix
    obtain ⟨w, rfl, iw⟩ := IsL.inv1 iz
    cases eb : uA ds with
    | none => rw [eb] at e; cases e
    | some ns =>
      rw [eb] at e
      have e' : (if ns = [] then z else D.int (qbt ns)) = d := Option.some.inj e
      rw [jI il eb] at ta
      refine ⟨a, ns, w, rfl, rfl, ta, k _ H (z8.refl H) ?_⟩
      rw [<- e']
      by_cases hne : ns = []
      . rw [if_pos hne, if_pos hne]; exact iw
      . rw [if_neg hne, if_neg hne]; rfl
  . cases e
def slB (x : D) (lo hi : Option Int) : Option D := match x with
  | .tup ds => some (.tup (qlL ds lo hi))
  | .lst ds => some (.lst (qlL ds lo hi))
  | _ => none
def qms (f : M D) (g k : M (Option Int)) : M D := bnd f fun d => bnd g fun l => bnd k fun u => lift (slB d l u)
section
variable {X : Cx} {c : Fc} {a b e : Expr} {pos p2 : Pos}
def qlT (x y : D) : Option (List D) := match x, y with
  | .lst ds, .int k => if (decide (-(2 ^ 62) <= k) && decide (k < 2 ^ 62)) && (qD (ds.length * k.toNat) && immL ds) then some (List.replicate k.toNat ds).flatten else none
  | _, _ => none
def qmt (f g : M D) : M (List D) := bnd f fun x => bnd g fun y => lift (qlT x y)
def qm1 (f : M D) : M (List D) := bnd f fun x => lift (match x with
  | .lst ds => if immL ds then some ds else none
  | .tup ds => if immL ds then some ds else none
  | _ => none)
def qfg (i : Nat) (f : M D) : M D := fun ρ => match zk i ρ with
  | none => .bad
  | some _ => (bnd f fun d ρ => match d, zk i ρ with
    | .lst es, some ds => if immL es && qD (ds.length + es.length) then .ok (.non, ρ.set i (some (.lst (ds ++ es)))) else .bad
    | _, _ => .bad) ρ
theorem qgx {pins : List (Addr × Obj)} {σ : St} {H : Hp} {s : Shared} (I : Inv X pins σ H s) (j : Nat) : Inv X pins (σ.set j none) H s := by
  refine ⟨I.ok, I.os, I.bare, I.base, ?_, I.cell, I.free, I.freeC, I.pin, I.hok, by rw [List.length_set]; exact I.len⟩
  obtain ⟨m, hn, hl⟩ := I.loc
  refine ⟨m, hn, fun i x v e1 e2 e3 => ?_⟩
  by_cases hij : j = i
  . subst hij
    rw [List.getElem?_set] at e2
    simp only [if_true] at e2
    split at e2 <;> cases e2
  . rw [List.getElem?_set_ne hij] at e2
    exact hl i x v e1 e2 e3
def qfh (i j : Nat) : MS := fun ρ => match zk j ρ with
  | some ds => .ok (.nx ((ρ.set i (some (.lst ds))).set j none))
  | none => .bad
theorem Rep.moved {K : Fr0} {ρ : Env} {σ : St} {H : Hp} {i j : Nat} {ds : List D} (r : Rep K c ρ σ H) (hj : j ∈ c.O) (hP : j ∉ c.P) (hi : i ∉ c.O) (hd : ρ[j]? = some (some (.lst ds))) (hil : i < σ.length) : ∃ a, σ[j]? = some (some (.ref a)) /\
    Rep K c ((ρ.set i (some (.lst ds))).set j none) ((σ.set i (some (.ref a))).set j none) H /\ GrS c.O σ H ((σ.set i (some (.ref a))).set j none) H := by
  obtain ⟨ds', a, xs, e1, hσ, hH, il⟩ := r.getO hj hd
  cases e1
  have hij : i ≠ j := fun e => hi (e ▸ hj)
  have hB : c.B a := by
    obtain ⟨a', _, e2, _, e3⟩ := r.own j hj _ hσ
    cases e2
    exact r.b0 a (e3.resolve_right fun z => hP z.1)
  have get : ∀ k, k ≠ i -> k ≠ j -> ((σ.set i (some (.ref a))).set j none)[k]? = σ[k]? := fun k h1 h2 => by
    rw [List.getElem?_set_ne (Ne.symm h2), List.getElem?_set_ne (Ne.symm h1)]
  have getj : ∀ {v : V}, ((σ.set i (some (.ref a))).set j none)[j]? ≠ some (some v) := fun {v} e => by
    rw [List.getElem?_set] at e
    simp only [if_true] at e
    split at e <;> cases e
  have cl : ∀ b, Cl c.O σ b -> Cl c.O ((σ.set i (some (.ref a))).set j none) b := fun b hb k hk e => by
    by_cases h2 : k = j
    . subst h2; exact getj e
    . exact hb k hk (by rw [<- get k (fun e => hi (e ▸ hk)) h2]; exact e)
  have cla : Cl c.O ((σ.set i (some (.ref a))).set j none) a := fun k hk e => by
    by_cases h2 : k = j
    . subst h2; exact getj e
    . rw [get k (fun e => hi (e ▸ hk)) h2] at e
      exact h2 (r.inj k j a hk hj e hσ)
  refine ⟨a, hσ, ⟨?_, fun k d hk => ?_, fun k hk v hv => ?_, fun k l b hk hl h1 h2 => ?_, r.b0, r.kp, r.dm, r.pO, fun k hk => ?_⟩, ⟨Ext.refl, fun b hb _ => cl b hb, fun _ h => h⟩⟩
  . simp only [List.length_set]; exact r.len
  . have kj : k ≠ j := fun e => by
      subst e
      rw [List.getElem?_set] at hk
      simp only [if_true] at hk
      split at hk <;> cases hk
    rw [List.getElem?_set_ne (Ne.symm kj)] at hk
    by_cases ki : k = i
    . subst ki
      rw [List.getElem?_set_self (by rw [r.len]; exact hil)] at hk
      cases hk
      refine ⟨.ref a, by rw [List.getElem?_set_ne (Ne.symm kj), List.getElem?_set_self hil], .inr ⟨hi, a, xs, rfl, ⟨hB, cla⟩, hH, IsL.ext Ext.refl (fun b hb _ => ⟨hb.1, cl b hb.2⟩) il⟩⟩
    . rw [List.getElem?_set_ne (Ne.symm ki)] at hk
      obtain ⟨v, h1, h2⟩ := r.val k d hk
      refine ⟨v, by rw [get k ki kj]; exact h1, ?_⟩
      rcases h2 with ⟨g1, ds2, b2, xs2, g3, g5, g6, g7⟩ | ⟨h3, h4⟩
      . exact .inl ⟨g1, ds2, b2, xs2, g3, g5, g6, IsL.ext Ext.refl (fun b hb _ => ⟨hb.1, cl b hb.2⟩) g7⟩
      . exact .inr ⟨h3, Is.ext Ext.refl (fun b hb _ => ⟨hb.1, cl b hb.2⟩) h4⟩
  . have kj : k ≠ j := fun e => by subst e; exact getj hv
    rw [get k (fun e => hi (e ▸ hk)) kj] at hv
    exact r.own k hk v hv
  . have kj : k ≠ j := fun e => by subst e; exact getj h1
    have lj : l ≠ j := fun e => by subst e; exact getj h2
    rw [get k (fun e => hi (e ▸ hk)) kj] at h1
    rw [get l (fun e => hi (e ▸ hl)) lj] at h2
    exact r.inj k l b hk hl h1 h2
  . have kO := r.pO k hk
    rw [get k (fun e => hi (e ▸ kO)) (fun e => hP (e ▸ hk))]
    exact r.ps k hk
theorem qiO {i j : Nat} {x y : Str} {pos' p1 : Pos} (hN : X.N.Nodup) (hj : j ∈ c.O := by exact of_decide_eq_true rfl) (hP : j ∉ c.P := by exact of_decide_eq_false rfl) (ho : i ∉ c.O := by exact of_decide_eq_false rfl) (hi : X.N[i]? = some x := by rfl) (hjN : X.N[j]? = some y := by rfl) (hx : Loc X.env.scope x := by first | exact Or.inl rfl | exact Or.inr rfl)
    (hv : Vis X.env.scope y := by first | exact Or.inl rfl | exact Or.inr (Or.inl rfl) | exact Or.inr (Or.inr rfl)) (hd : (y == ("__debug__" : Str)) = false := by decide) (hcd : (y == ("__classdict__" : Str)) = false := by decide)
    (hs : swapsWith (.Name y p1) (some (.Name x pos')) pos.line X.env = pure false := by rfl) (hf : X.fn x = true \/ X.env.scope.names.lookup x = some .local := by first | exact .inl rfl | exact .inr rfl | assumption) :
    DS X c (.Assign [.Name x pos'] (.Name y p1) pos) (qfh i j) := by
  refine ⟨fun D σ H => σ.length = X.N.length -> ∃ v, σ[j]? = some (some v) /\ D.nx ((σ.set i (some v)).set j none) H, ?_, fun ρ σ H D r h hl => ?_⟩
  . intro pins s σ H D I hq
    obtain ⟨v, hσ, q⟩ := hq I.len
    have p := qd7 (pos := pos) (pos' := pos') hN hi hx (uk (pos := p1) hjN hv hd hcd) hs hf pins s σ H ({ D with nx := fun σ' H' => σ' = σ.set i (some v) /\ H' = H } : qdo) I ⟨v, hσ, rfl, rfl⟩
    refine wpAny_mono p (fun fl s1 h1 => ?_) (fun _ _ z => z)
    cases fl with
    | next =>
      obtain ⟨σ1, H1, I1, rfl, rfl⟩ := h1
      exact ⟨_, _, qgx I1 j, q⟩
    | brk => exact h1
    | cont => exact h1
    | ret u => exact h1
  . unfold qfh at h
    cases e0 : zk j ρ with
    | none => rw [e0] at h; exact h.elim
    | some ds =>
      rw [e0] at h
      have hd : ρ[j]? = some (some (.lst ds)) := by
        unfold zk at e0
        split at e0
        . rename_i z e; cases e0; exact e
        . cases e0
      have hil : i < σ.length := by rw [hl]; exact (List.getElem?_eq_some_iff.mp hi).1
      obtain ⟨a, hσ, r2, g2⟩ := r.moved hj hP ho hd hil
      exact ⟨.ref a, hσ, h _ H r2 g2⟩
def qmu (f : M (List D)) : M (List D) := fun ρ => match f ρ with
  | .ok ([.tup _], _) => qeT f ρ
  | _ => qkx f ρ
end
end L2.Sk
namespace L2.Sk
open PySem PySem.Spec PyProof.Rows
section
variable {ρ : Env} {f g : M D} {l k : M (List D)}
theorem qlf (F : List D -> List D -> Option D) : yR F l k ρ = match l ρ with | .ok (xs, ρ1) => (match k ρ1 with | .ok (zs, ρ2) => (match F xs zs with | some d => .ok (d, ρ2) | none => .bad) | .exc x ρ' => .exc x ρ' | .bad => .bad) | .exc x ρ' => .exc x ρ' | .bad => .bad := by
  simp only [yR, bnd]
  cases l ρ with
  | ok z =>
    obtain ⟨z1, ρ1⟩ := z
    dsimp only
    cases k ρ1 with
    | ok z => obtain ⟨z2, ρ2⟩ := z; (dsimp only; cases F z1 z2 <;> rfl)
    | exc x ρ' => rfl
    | bad => rfl
  | exc x ρ' => rfl
  | bad => rfl
theorem qmv : qmt f g ρ = match f ρ with | .ok (x, ρ1) => (match g ρ1 with | .ok (y, ρ2) => (match qlT x y with | some ds => .ok (ds, ρ2) | none => .bad) | .exc x ρ' => .exc x ρ' | .bad => .bad) | .exc x ρ' => .exc x ρ' | .bad => .bad := by
  simp only [qmt, bnd]
  cases f ρ with
  | ok z =>
    obtain ⟨z1, ρ1⟩ := z
    dsimp only
    cases g ρ1 with
    | ok z => obtain ⟨z2, ρ2⟩ := z; (dsimp only; cases qlT z1 z2 <;> rfl)
    | exc x ρ' => rfl
    | bad => rfl
  | exc x ρ' => rfl
  | bad => rfl
theorem qkC (i : Nat) : qfg i f ρ = match zk i ρ with
    | none => .bad
    | some _ => (match f ρ with | .ok (d, ρ1) => (match d, zk i ρ1 with | .lst es, some ds => (if immL es && qD (ds.length + es.length) then .ok (.non, ρ1.set i (some (.lst (ds ++ es)))) else .bad) | _, _ => .bad) | .exc x ρ' => .exc x ρ' | .bad => .bad) := by
  unfold qfg
  cases zk i ρ with
  | none => rfl
  | some z =>
    simp only [bnd]
    cases f ρ with
    | ok z => obtain ⟨z1, ρ1⟩ := z; rfl
    | exc x ρ' => rfl
    | bad => rfl
theorem qmw (p q : M (Option Int)) : qms f p q ρ = match f ρ with | .ok (d, ρ1) => (match p ρ1 with | .ok (l, ρ2) => (match q ρ2 with | .ok (u, ρ3) => (match slB d l u with | some r => .ok (r, ρ3) | none => .bad) | .exc x ρ' => .exc x ρ' | .bad => .bad) | .exc x ρ' => .exc x ρ' | .bad => .bad) | .exc x ρ' => .exc x ρ' | .bad => .bad := by
  simp only [qms, bnd]
  cases f ρ with
  | ok z =>
    obtain ⟨z1, ρ1⟩ := z
    dsimp only
    cases p ρ1 with
    | ok z =>
      obtain ⟨z2, ρ2⟩ := z
      dsimp only
      cases q ρ2 with
      | ok z => obtain ⟨z3, ρ3⟩ := z; (dsimp only; cases slB z1 z2 z3 <;> rfl)
      | exc x ρ' => rfl
      | bad => rfl
    | exc x ρ' => rfl
    | bad => rfl
  | exc x ρ' => rfl
  | bad => rfl
end
end L2.Sk
namespace L2.Sk
open PySem PySem.Spec PyProof.Rows
section
variable {X : Cx} {c : Fc} {e : Expr} {es : List Expr} {pos : Pos}
theorem dC {k j : Nat} {ps : List Str} {F : List D -> R D} {x : Str} {p : Pos} {g : M (List D)} (C : jb X.prog X.w X.K X.mg X.base k x ps (spD X.K F)) (hr : yA j X.A) (ha : DA X c (e :: es) g)
    (hk : k <= j := by decide) (hg : Gl X x := by rfl) (hd : (x == ("__debug__" : Str)) = false := by decide) (he : starEach (e :: es) X.env = (false, eval e X.env) :: starEach es X.env := by rfl) (hpl : (backTo pos (starEach es X.env)).any (·.1) = false := by rfl) : DE X c (.Call (.Name x p) (e :: es) [] pos) (qo F g) := by
  obtain ⟨f, fd, G, m, kk, b⟩ := C.ex
  exact qij G (hr.mono hk) hg m kk b ha hd he hpl
theorem nC {k j : Nat} {ps : List Str} {F : List D -> R D} {x : Str} {p : Pos} {g : M (List D)} (C : jb X.prog X.w X.K X.mg X.base k x ps (spD X.K F)) (hr : yA j X.A) (ha : DA X c (e :: es) g)
    (hk : k <= j := by decide) (hg : Gl X x := by rfl) (hd : (x == ("__debug__" : Str)) = false := by decide) (he : starEach (e :: es) X.env = (false, eval e X.env) :: starEach es X.env := by rfl) (hpl : (backTo pos (starEach es X.env)).any (·.1) = false := by rfl) : DN X c (.Call (.Name x p) (e :: es) [] pos) (qbm F g) := by
  obtain ⟨f, fd, G, m, kk, b⟩ := C.ex
  exact qir G (hr.mono hk) hg m kk b ha hd he hpl
theorem iC {k j i : Nat} {ps : List Str} {F : List D -> List D -> R (D × List D)} {x y : Str} {p p1 : Pos} {g : M (List D)} (C : jb X.prog X.w X.K X.mg X.base k x ps (qhd X.K F)) (hr : yA j X.A) (ha : DA X c es g)
    (hk : k <= j := by decide) (hg : Gl X x := by rfl) (ho : i ∈ c.O := by exact of_decide_eq_true rfl) (hN : X.N[i]? = some y := by rfl) (hv : Vis X.env.scope y := by first | exact Or.inl rfl | exact Or.inr (Or.inl rfl) | exact Or.inr (Or.inr rfl)) (hdy : (y == ("__debug__" : Str)) = false := by decide) (hcd : (y == ("__classdict__" : Str)) = false := by decide)
    (hd : (x == ("__debug__" : Str)) = false := by decide) (he : starEach (.Name y p1 :: es) X.env = (false, eval (.Name y p1) X.env) :: starEach es X.env := by rfl) (hpl : (backTo pos (starEach es X.env)).any (·.1) = false := by rfl) : DE X c (.Call (.Name x p) (.Name y p1 :: es) [] pos) (qO F i g) := by
  obtain ⟨f, fd, G, m, kk, b⟩ := C.ex
  exact qeE G (hr.mono hk) hg m kk b ha ho hN hv hdy hcd hd he hpl
theorem xC {k j : Nat} {ps : List Str} {F : List D -> R D} {x : Str} {p : Pos} {g : M (List D)} {E : XK} {cl : Str -> Option Addr} {RN : List Str} (L : XL2 X c cl E) (hcl : ∀ n, RN.contains n = true -> (cl n).isSome = true) (C : yE X.prog X.w X.K X.mg X.base k x ps (spX X.K cl F)) (hr : yA j X.A) (ha : DA X c (e :: es) g)
    (hk : k <= j := by decide) (hg : Gl X x := by rfl) (hd : (x == ("__debug__" : Str)) = false := by decide) (he : starEach (e :: es) X.env = (false, eval e X.env) :: starEach es X.env := by rfl) (hpl : (backTo pos (starEach es X.env)).any (·.1) = false := by rfl) : DE X c (.Call (.Name x p) (e :: es) [] pos) (j6 RN F g) := by
  obtain ⟨f, fd, G, m, kk, b⟩ := C.ex
  exact qgp L hcl G (hr.mono hk) hg m kk b ha hd he hpl
theorem pC {k j : Nat} {ps : List Str} {F : List D -> R D} {x : Str} {p : Pos} {g : M (List D)} {cl : Str -> Option Addr} (C : yE X.prog X.w X.K X.mg X.base k x ps (spX X.K cl F)) (hr : yA j X.A) (ha : DA X c (e :: es) g)
    (hk : k <= j := by decide) (hg : Gl X x := by rfl) (hd : (x == ("__debug__" : Str)) = false := by decide) (he : starEach (e :: es) X.env = (false, eval e X.env) :: starEach es X.env := by rfl) (hpl : (backTo pos (starEach es X.env)).any (·.1) = false := by rfl) : DE X c (.Call (.Name x p) (e :: es) [] pos) (qcP F g) := by
  obtain ⟨f, fd, G, m, kk, b⟩ := C.ex
  exact qgq G (hr.mono hk) hg m kk b ha hd he hpl
theorem lC {k j : Nat} {ps : List Str} {F : List D -> R D} {x : Str} {p : Pos} {g : M (List D)} (hal : ∀ ρ σ H, Rep X.K c ρ σ H -> AloneA X.A H) (C : qb9 X.prog X.w X.K X.mg X.base k x ps (spD X.K F)) (hr : yk j X.A) (ha : DA X c (e :: es) g)
    (hk : k <= j := by decide) (hg : Gl X x := by rfl) (hd : (x == ("__debug__" : Str)) = false := by decide) (he : starEach (e :: es) X.env = (false, eval e X.env) :: starEach es X.env := by rfl) (hpl : (backTo pos (starEach es X.env)).any (·.1) = false := by rfl) : DE X c (.Call (.Name x p) (e :: es) [] pos) (qo F g) := by
  obtain ⟨f, fd, G, m, kk, b⟩ := C.ex
  exact qgw hal G (hr.mono hk) hg m kk b ha hd he hpl
theorem gI {x : Str} {i : Int} (h : ∃ t, X.mg x = some (.int i t)) (hg : Gl X x := by rfl) (hd : (x == ("__debug__" : Str)) = false := by decide) : DE X c (.Name x pos) (ret (.int i)) := by
  obtain ⟨t, h⟩ := h
  exact qer (v := .int i) (d := .int i) hg h ⟨_, rfl⟩ (fun _ _ => rfl) hd
theorem gT {x : Str} {ns : List Int} (h : ∃ a, X.mg x = some (.ref a) /\ qle X.K a ns) (hg : Gl X x := by rfl) (hd : (x == ("__debug__" : Str)) = false := by decide) : DE X c (.Name x pos) (ret (.tup (ns.map .int))) := by
  obtain ⟨a, h1, h2⟩ := h
  exact qgm hg h1 h2 hd
end
theorem nd (N : List Str) (h : N.Nodup := by decide +kernel) : N.Nodup := h
theorem cs {X : Cx} (N N' : List Str) (nt : Nat) (fr : List Nat) (outer : Scope) {scope : Scope} (h0 : scope.kind = .function := by rfl) (h1 : ∀ y ∈ scope.names, y.2 ≠ .cell := by decide +kernel) (h2 : ∀ y ∈ scope.names, y.2 = .local -> scope.names.lookup y.1 = some .local := by decide +kernel)
    (h3 : ∀ y ∈ scope.names, y.2 = .free -> outer.names.lookup y.1 = some .cell := by decide +kernel) (h4 : N'.length = nt + fr.length := by rfl) (h5 : ∀ p ∈ fr.zipIdx, N'[nt + p.2]? = N[p.1]? /\ ((N[p.1]?).bind fun x => scope.names.lookup x) = some .free := by decide +kernel)
    (h6 : X.env.scope = outer := by rfl) (h7 : X.N = N := by rfl) : zR X scope N' nt fr := qis.ok (outer := outer) (N := N) ⟨h0, h1, h2, h3, h4, h5⟩ h6 h7
theorem f0 {c : Fc} {nt : Nat} (fr O : List Nat) (e : c.O = O := by rfl) (h : ∀ j ∈ fr, j ∉ O := by decide) : qha c nt fr none := fun j hj => by rw [e]; exact h j hj
theorem f1 {c : Fc} (nt : Nat) (fr O : List Nat) (i j : Nat) (e : c.O = O := by rfl) (h1 : j ∈ O := by decide) (h2 : nt <= i := by decide) (h3 : fr[i - nt]? = some j := by rfl) (h4 : ∀ p ∈ fr.zipIdx, nt + p.2 ≠ i -> p.1 ∉ O := by decide) : qha c nt fr (some (i, j)) :=
  qiu (by rw [e]; exact h1) h2 h3 (by rw [e]; exact h4)
end L2.Sk
namespace L2.Sk
open PySem PySem.Spec PyProof.Rows
section
variable {X : Cx} {c : Fc}
end
end L2.Sk
namespace L2.Sk
open PySem PySem.Spec PyProof.Rows
end L2.Sk
namespace L2.Sk
open PySem PySem.Spec PyProof.Rows
def qgy : V -> List V -> Hp -> VK -> Prop := fun x vs H Q => ∃ l xs y, x = .ref l /\ vs = [.int 0, y] /\ H l = some (.lst xs) /\ xs.length < sizeLine /\ Q .non (upd H l (.lst (y :: xs)))
theorem qdT {X : Cx} : MtM X "list.insert" qgy := by
  intro pins s σ H x vs v us Q I rx rv h
  obtain ⟨l, xs, y, rfl, rfl, hH, hz, q⟩ := h
  cases rx
  obtain ⟨u0, u, rfl, r0, ru⟩ := rv.two
  obtain ⟨tk, rfl⟩ := r0
  obtain ⟨z, its, n, r, hl, e⟩ := I.lstM hH
  refine call_meets PySem.F.slot_list_insert ⟨_, e, rfl⟩ PySem.F.entry_list_insert (PySem.F.args_list_insert_3 _ _ _) (PySem.AutoSeq1.list_insert_list_int_val_1 l its.toArray n 0 _ u (by decide) (by rw [List.size_toArray]; omega)) ⟨e, ?_⟩
  refine ⟨.non, _, I.lset (its' := u :: its) (ys := y :: xs) hH e ?_ (.cons ru r) ?_, rfl, q⟩
  . simp
  . rw [List.length_cons]
    omega
section
variable {X : Cx} {c : Fc} {a b e : Expr} {pos : Pos}
def yS (i : Nat) (f : M D) : M D := fun ρ => match zk i ρ with
  | none => .bad
  | some _ => (bnd f fun d ρ => match zk i ρ with
    | some ds => if qD (ds.length + 1) then .ok (.non, ρ.set i (some (.lst (d :: ds)))) else .bad
    | none => .bad) ρ
theorem qfi {i : Nat} {x : Str} {p1 apos cp : Pos} {cj : Nat} {f : M D} (he : DE X c e f) (ho : i ∈ c.O := by exact of_decide_eq_true rfl) (hN : X.N[i]? = some x := by rfl) (hv : Vis X.env.scope x := by first | exact Or.inl rfl | exact Or.inr (Or.inl rfl) | exact Or.inr (Or.inr rfl)) (hd : (x == ("__debug__" : Str)) = false := by decide) (hcd : (x == ("__classdict__" : Str)) = false := by decide)
    (hbase : attributeBase (.Name x p1) "insert" X.env (eval (.Name x p1) X.env) = eval (.Name x p1) X.env := by rfl)
    (hfew : ((backTo pos (starEach [.Constant (.int 0) cj cp, e] X.env)).all (fun x => !x.1) && (backToKw pos (keywordEach [] X.env)).all (fun x => x.1.isSome)
      && decide ([Expr.Constant (.int 0) cj cp, e].length + ([] : List Keyword).length + (if ([] : List Keyword).isEmpty then 0 else 1) < 30)) = true := by rfl)
    (hline : (apos.endLine == pos.line) = true := by rfl) (hs : starEach [.Constant (.int 0) cj cp, e] X.env = (false, eval (.Constant (.int 0) cj cp) X.env) :: starEach [e] X.env := by rfl) (hs2 : starEach [e] X.env = (false, eval e X.env) :: starEach [] X.env := by rfl) (hplain : (backTo pos (starEach [e] X.env)).any (·.1) = false := by rfl) :
    DE X c (.Call (.Attribute (.Name x p1) "insert" apos) [.Constant (.int 0) cj cp, e] [] pos) (yS i f) := by
  obtain ⟨t, p, w⟩ := he
  refine ⟨_, qjT PySem.F.plainAttrs_list PySem.F.slot_list_insert PySem.F.type_list_insert qdT (uk hN hv hd hcd) (jj qgY (jj p vm hs2) hs) hbase hfew hline hs hplain, fun ρ σ H Q r h => ?_⟩
  unfold yS at h
  cases e0 : zk i ρ with
  | none => rw [e0] at h; exact h.elim
  | some ds0 =>
    simp only [e0] at h
    obtain ⟨l, xs0, _, hl, hH, _⟩ := r.getLO ho e0
    refine ⟨.ref l, hl, .inl ⟨rfl, xs0, .inl (.inl hH)⟩, w ρ σ H _ r (Wp.bnd h fun d ρ1 v H1 r1 i1 g1 h1 => ?_)⟩
    cases e1 : zk i ρ1 with
    | none => simp only [e1] at h1; exact h1.elim
    | some ds =>
      simp only [e1] at h1
      by_cases hb : qD (ds.length + 1) = true
      . rw [if_pos hb] at h1
        obtain ⟨l', xs, him, hl', hH', il⟩ := r1.getLO ho e1
        rw [hl] at hl'
        cases hl'
        have hsz : ds.length + 1 <= sizeLine := of_decide_eq_true hb
        have ext : Ext (Cn c σ) H1 (upd H1 l (.lst (v :: xs))) := ⟨fun b us hb => zo (uh hb hH' (by intro z; cases z)) hb, fun b o u hb => zo (uh hb hH' (by intro z; cases z)) hb, fun b o hb hq => zo (fun e => hb.2 i ho (by rw [hl, e])) hq⟩
        obtain ⟨r2, g2⟩ := r1.io (H' := upd H1 l (.lst (v :: xs))) (bs := d :: ds) ho hl (fun b o hb ho => zo hb ho) qr trivial
          ⟨v, xs, rfl, Is.ext ext (fun _ h _ => h) i1, IsL.ext ext (fun _ h _ => h) il⟩ (fun b hb => qb4 hb)
        exact ⟨l, xs, v, rfl, rfl, hH', by rw [il.length]; omega, h1 _ _ r2 rfl g2⟩
      . rw [if_neg hb] at h1; exact h1.elim
def qgz (f : M (List D)) : M (List D) := bnd f fun ds => lift (if qD ds.length then some ds else none)
theorem qiP {es : List Expr} {f : M (List D)} (h : DA X c es f) : DN X c (.List es pos) (qgz f) := by
  obtain ⟨t, p, w⟩ := h
  refine ⟨_, qei p, fun ρ σ H Q r h => w ρ σ H _ r (WpL.bndN h fun ds ρ1 vs H1 r1 i1 g1 h1 => ?_)⟩
  by_cases hb : qD ds.length = true
  . rw [if_pos hb] at h1
    refine ⟨by rw [i1.length]; exact of_decide_eq_true hb, fun p hp => ?_⟩
    exact h1 p vs _ hp (r1.laid hp _) (r1.apart hp) qr trivial (IsL.ext (Ext.of_same (qy hp _)) (fun b h hs => ⟨h, fun e => by rw [e, hp] at hs; cases hs⟩) i1) (.of_same (qy hp _))
  . rw [if_neg hb] at h1; exact h1.elim
end
end L2.Sk
namespace L2.Sk
open PySem PySem.Spec PyProof.Rows
theorem qaD : Slot "reversed" "__init__" "object.__init__" :=
  .of (owner := "object") (n := "__init__") (by rw [typeLookup_type, builtinLookup_eq_fast]; kernel_rfl) (by decide +kernel) (by decide +kernel) (by decide +kernel) (by first | exact Or.inl (by kernel_rfl) | exact Or.inr (by kernel_rfl)) (by rw [isSubtype_type]; kernel_rfl)
theorem qdU : TypeCalled "reversed" "reversed.__new__" "object.__init__" := ⟨by decide +kernel, F.create_reversed, ⟨_, _, F.mro_reversed⟩, F.made_reversed, F.plain_reversed_new, F.sub_reversed_self, qaD⟩
theorem jd : Slot "reversed" "__next__" "reversed.__next__" :=
  .of (owner := "reversed") (n := "__next__") (by rw [typeLookup_type, builtinLookup_eq_fast]; kernel_rfl) (by decide +kernel) (by decide +kernel) (by decide +kernel) (by first | exact Or.inl (by kernel_rfl) | exact Or.inr (by kernel_rfl)) (by rw [isSubtype_type]; kernel_rfl)
theorem ut : entryFor table "reversed.__next__" = some Builtin.«reversed.__next__» := entryFor_of_tree (by kernel_rfl)
theorem qhy : typeLookup (.type "tuple") (Str.ofString "__reversed__") = pure none := by rw [typeLookup_type, builtinLookup_eq_fast]; kernel_rfl
theorem qaE : typeLookup (.type "tuple") (Str.ofString "__getitem__") = pure (some (.builtin "tuple.__getitem__")) := by rw [typeLookup_type, builtinLookup_eq_fast]; kernel_rfl
theorem qc4 : isSubtype (.type "tuple") (.type "dict") = pure false := by rw [isSubtype_type]; kernel_rfl
theorem qfj {l : Addr} {xs : Array Value} (hz : xs.size <= sizeLine) : Meets (Builtin.«reversed.__new__» ⟨[.type "reversed", .ref l], []⟩) (fun _ R s => s.heap.IsTuple l xs /\
      R (.ok (.ret (.ref s.heap.objs.size))) { s with heap := s.heap.push { cls := .type "reversed", data := .fields #[.ref l, rawInt ((xs.size : Int) - 1)] }, toks := s.toks + 1 + 1 }) :=
  .of_wp fun prog w A R s h => by
    obtain ⟨hp, g, d, tk, os⟩ := s
    obtain ⟨ha, h⟩ := h
    have hsub := F.sub_reversed_self
    have f1 := qhy
    have f2 := qaE
    have f3 := qc4
    have hA : Heap.IsTuple (Shared.heap ⟨hp, g, d, tk, os⟩) l xs := ha
    obtain ⟨o, e1, hc, m, hd⟩ := ha
    unfold Builtin.«reversed.__new__»
    refine wpAny_bind ?_
    wp_walk
    rw [hc]
    refine wpAny_of_eq (a := none) qhy ?_
    dsimp only
    refine wpAny_bind ?_
    show wpAny (model prog w) A.in1 (isInstance (Value.ref l) (Value.type "dict") >>= _) _ _ _
    refine wpAny_bind (wpAny_isInstance (T := "tuple") (b := false) ⟨o, e1, hc⟩ qc4 ?_)
    show wpAny (model prog w) A.in1 (specialOf (Value.ref l) (Str.ofString "__getitem__") >>= _) _ _ _
    refine wpAny_bind ?_
    wp_walk
    rw [hc]
    refine wpAny_of_eq (a := some (.builtin "tuple.__getitem__")) qaE ?_
    dsimp only
    rw [if_pos (by decide +kernel)]
    refine wpAny_pure ?_
    rw [if_neg (by decide)]
    have hfit : (xs.size : Int) < 2 ^ 63 := by have := vL; omega
    refine wpAny_bind (len_tuple hA hfit ?_)
    wp_walk
    exact ⟨_, rfl, h⟩
def qm2 (l : Addr) (i : Int) : Obj := { cls := .type "reversed", data := .fields #[.ref l, rawInt i] }
def wP (h : Heap) (z l : Addr) (i : Int) : Prop := h.get? z = some (qm2 l i)
section
variable {prog : Program} {w : World} {A : Around} {E : Value -> Shared -> Prop} {s : Shared}
theorem qgA {l : Addr} {xs : Array Value} {Q : Value -> Shared -> Prop} (t1 : s.heap.IsTuple l xs) (hz : xs.size <= sizeLine)
    (fin : ∀ h', wP h' s.heap.objs.size l ((xs.size : Int) - 1) -> (∀ c o, s.heap.get? c = some o -> h'.get? c = some o) -> Q (.ref s.heap.objs.size) { s with heap := h', toks := s.toks + 1 + 1 }) :
    wpAny (model prog w) A (call (.type "reversed") [.ref l]) Q E s := by
  refine callType_new qdU (by decide) (F.typeCall_reversed_1 _) (F.newCall_reversed_1 _) (fun obj => F.args_object_init_2 obj _) F.entry_reversed_new (qfj hz) ⟨t1, ?_⟩
  exact ⟨⟨_, Heap.get?_push_size _ rfl, rfl⟩, fin _ (Heap.get?_push_size _ rfl) fun c o x => Heap.get?_push_of_some _ x⟩
theorem uW (a : Value) : argsOk "reversed.__next__" ⟨[a], []⟩ := by
  unfold argsOk; kernel_rfl
theorem qkD {z l : Addr} {xs : Array Value} {i : Nat} {x : Value} {Q : Value -> Shared -> Prop} (zz : wP s.heap z l (i : Int)) (t1 : s.heap.IsTuple l xs) (hx : xs[i]? = some x) (hz : xs.size <= sizeLine)
    (fin : ∀ h' tk, wP h' z l ((i : Int) - 1) -> Heap.SameBut z s.heap h' -> Q x { s with heap := h', toks := tk }) :
    wpAny (model prog w) A (Builtin.«reversed.__next__» ⟨[.ref z], []⟩) (fun r s' => ∃ v, r = .done (.ret v) /\ Q v s') E s := by
  have hT : s.TypeIs (.ref l) "tuple" := by obtain ⟨o, e, hc, _⟩ := t1; exact ⟨o, e, hc⟩
  unfold Builtin.«reversed.__next__»
  refine wpAny_bind (wpAny_of_eq (a := (Value.ref z, [])) rfl ?_)
  dsimp only
  refine wpAny_bind (wpAny_field zz rfl (x := Value.ref l) rfl ?_)
  refine wpAny_bind (wpAny_field zz rfl (x := rawInt (i : Int)) rfl ?_)
  show wpAny (model prog w) A (if ((i : Nat) : Int) < 0 then _ else _) _ _ s
  rw [if_neg (by omega)]
  refine wpAny_bind (wpAny_specialOf hT qaE ?_)
  show wpAny (model prog w) A (if (false : Bool) = true then _ else _) _ _ s
  rw [if_neg (by decide)]
  refine wpAny_bind (wpAny_mkInt ?_)
  have hi : i < xs.size := (Array.getElem?_eq_some_iff.mp hx).1
  have hl63 := vL
  have hsq : seqIndex? (i : Int) xs.size = some i := by
    unfold seqIndex?
    simp only []
    first
      | (rw [if_neg (by omega)]; simp; omega)
      | (simp; omega)
      | (split <;> simp_all <;> omega)
  refine wpAny_bind (wpAny_attempt (PyProof.Rows.getItem_tuple (j := i) t1 (by omega) (by omega) hsq hx ?_))
  dsimp only
  refine wpAny_bind (wpAny_field zz rfl (x := rawInt (i : Int)) rfl ?_)
  refine wpAny_bind (wpAny_setField_rec zz (by simp) fun h' zz' b' => ?_)
  exact wpAny_pure ⟨x, rfl, fin h' _ zz' b'⟩
theorem qgB (hh : A.handled = none) {z l : Addr} {Q : Fin -> Shared -> Prop} (zz : wP s.heap z l (-1))
    (fin : ∀ h' e, Heap.ExtBut z s.heap h' -> (∃ o, h'.get? e = some o /\ o.cls = .type "StopIteration") -> E (.ref e) { s with heap := h' }) :
    wpAny (model prog w) A (Builtin.«reversed.__next__» ⟨[.ref z], []⟩) Q E s := by
  unfold Builtin.«reversed.__next__»
  refine wpAny_bind (wpAny_of_eq (a := (Value.ref z, [])) rfl ?_)
  dsimp only
  refine wpAny_bind (wpAny_field zz rfl (x := Value.ref l) rfl ?_)
  refine wpAny_bind (wpAny_field zz rfl (x := rawInt (-1)) rfl ?_)
  show wpAny (model prog w) A (if (-1 : Int) < 0 then _ else _) _ _ s
  rw [if_pos (by decide)]
  refine wpAny_bind (wpAny_rule (wpAny_bind ?_))
  show wpAny (model prog w) A (setField (Value.ref z) 1 (rawInt (-1)) >>= fun _ => setField (Value.ref z) 0 Value.none) _ _ _
  refine wpAny_bind (wpAny_setField_rec zz (by simp) fun h1 zz1 b1 => wpAny_setField_rec zz1 (by simp) fun h2 zz2 b2 => ?_)
  refine wpAny_bind ?_
  show wpAny (model prog w) _ (newExc (Value.type "StopIteration") [] >>= _) _ _ _
  refine wpAny_bind ?_
  simp only [newExc, newTuple]
  refine wpAny_bind (wpAny_newObj_type ?_ (by size_fits))
  refine wpAny_bind (m := firstArgMember _ _) (wpAny_of_eq (a := Value.none) (by first | rfl | (simp only [firstArgMember]; rfl)) ?_)
  refine wpAny_newObj_type ?_ (by size_fits)
  simp only [raiseNew]
  refine wpAny_bind (wpAny_handled ?_)
  rw [hh]
  exact wpAny_bind (wpAny_pure (wpAny_throw (fin _ _ (fun b o hb e => Heap.get?_push_of_some _ (Heap.get?_push_of_some _ (b2.extBut b o hb (b1.extBut b o hb e)))) ⟨_, Heap.get?_push_size _ rfl, rfl⟩)))
end
theorem uX : Slot "reversed" "__iter__" "reversed.__iter__" :=
  .of (owner := "reversed") (n := "__iter__") (by rw [typeLookup_type, builtinLookup_eq_fast]; kernel_rfl) (by decide +kernel) (by decide +kernel) (by decide +kernel) (by first | exact Or.inl (by kernel_rfl) | exact Or.inr (by kernel_rfl)) (by rw [isSubtype_type]; kernel_rfl)
theorem qaF (a : Value) : argsOk "reversed.__iter__" ⟨[a], []⟩ := by
  unfold argsOk; kernel_rfl
theorem wQ : entryFor table "reversed.__iter__" = some Builtin.«dict_keyiterator.__iter__» := by
  refine entryFor_alias (id' := "dict_keyiterator.__iter__") ?_ ?_ ?_ ?_
  . kernel_rfl
  . first | rfl | decide +kernel
  . decide +kernel
  . kernel_rfl
theorem qc5 {prog : Program} {w : World} {A : Around} {E : Value -> Shared -> Prop} {s : Shared} {z l : Addr} {i : Int} {Q : Value -> Shared -> Prop} (zz : wP s.heap z l i) (h : Q (.ref z) s) : wpAny (model prog w) A (pyIter (.ref z)) Q E s := by
  have hT : s.TypeIs (.ref z) "reversed" := ⟨_, zz, rfl⟩
  refine wpAny_pyIter_slot hT uX (wpAny_call_entry uX hT wQ ?_ (qaF _))
  show wpAny _ _ (PySem.ret (Value.ref z)) _ _ s
  exact wpAny_pure ⟨_, rfl, "reversed", _, hT, jd.lookup, h⟩
def Itv (K : Fr0) (a : Addr) (xs : List V) : It :=
  ⟨fun i H => i < xs.length /\ SqT K H a xs, fun i H x H' => H' = H /\ xs.reverse[i]? = some x, fun i H => i = xs.length /\ SqT K H a xs⟩
theorem qgC {P : Program} {w : World} {K : Fr0} {tg : Expr} {z a : Addr} {xs : List V} (hne : a ≠ z) : qi9 P w K tg (Itv K a xs) [z] z (fun i h => wP h z a ((xs.length : Int) - 1 - (i : Nat))) where
  mem := by simp
  obj := fun i h st b hb => by
    have e : b = z := by simpa using hb
    subst e
    exact ⟨_, st, fun v e => by cases (show Data.fields _ = Data.cell v from e)⟩
  keep := fun i h h' st k => k z (by simp) _ st
  item := by
    intro X hP hw hK hc i pins s σ H E I hf st hg
    subst hP hw hK
    obtain ⟨hlt, hx⟩ := hg
    obtain ⟨f0, f1, f2, f3, f4, f5⟩ := hf z (by simp)
    obtain ⟨its, r1, p1, z1⟩ := I.tuple hx
    have hlen := r1.length
    have ei : ((xs.length : Int) - 1 - (i : Nat)) = ((xs.length - 1 - i : Nat) : Int) := by omega
    have st' : wP s.heap z a ((xs.length - 1 - i : Nat) : Int) := by rw [<- ei]; exact st
    obtain ⟨xv, hxv⟩ : ∃ v, xs[xs.length - 1 - i]? = some v := ⟨xs[xs.length - 1 - i]'(by omega), List.getElem?_eq_getElem (by omega)⟩
    obtain ⟨x', ex, rx⟩ := r1.get hxv
    have hT : s.TypeIs (.ref z) "reversed" := ⟨_, st, rfl⟩
    unfold pyNext
    refine wpAny_bind (wpAny_attempt (wpAny_callSpecial?_slot (name := Str.ofString "__next__") hT jd (wpAny_call_entry jd hT ut
      (qkD st' p1 (x := x') (by rw [List.getElem?_toArray]; exact ex) (by rw [List.size_toArray, <- hlen]; exact z1) fun h' tk zz' sb => wpAny_pure ?_) (uW _))))
    have I1 : Inv X pins σ H { s with heap := h', toks := tk } := I.turned (fun b o hb e => sb.extBut b o hb e) f0 f1 f3 f4 f5
    have st2 : wP h' z a ((xs.length : Int) - 1 - ((i + 1 : Nat) : Int)) := by
      have e2 : ((xs.length - 1 - i : Nat) : Int) - 1 = (xs.length : Int) - 1 - ((i + 1 : Nat) : Int) := by omega
      rw [<- e2]; exact zz'
    refine ⟨x', rfl, qd8 (s := { s with heap := h', toks := tk }) (n := "reversed") st2 rfl rfl (by decide) ⟨xv, H, I1, rx, ⟨rfl, ?_⟩, st2, fun b hb => (hf b hb).1⟩⟩
    rw [List.getElem?_reverse hlt]
    exact hxv
  done := by
    intro X hP hw hK hc i pins s σ H E I hf st hg
    subst hP hw hK
    obtain ⟨hlt, hx⟩ := hg
    obtain ⟨f0, f1, f2, f3, f4, f5⟩ := hf z (by simp)
    have ei : ((xs.length : Int) - 1 - (i : Nat)) = -1 := by omega
    have st' : wP s.heap z a (-1) := by rw [<- ei]; exact st
    have hT : s.TypeIs (.ref z) "reversed" := ⟨_, st, rfl⟩
    have hh : X.A.in1.handled = none := I.ok.hd hc
    unfold pyNext
    refine wpAny_bind (wpAny_attempt (wpAny_callSpecial?_slot (name := Str.ofString "__next__") hT jd (wpAny_call_entry jd hT ut
      (qgB hh st' fun h' e kp he => ?_) (uW _))))
    obtain ⟨o, ho, hcl⟩ := he
    exact wpAny_bind (wpAny_isInstance (T := "StopIteration") (b := true) ⟨o, ho, hcl⟩ isSubtype_stop (wpAny_pure ⟨rfl, I.turned (t' := s.toks) (fun b o hb e => kp b o hb e) f0 f1 f3 f4 f5⟩))
  self := fun A i s Q E st h => qc5 st h
section
variable {X : Cx} {c : Fc} {a e : Expr} {pos : Pos} {tg : Expr}
def qm3 (K : Fr0) (ta : TA) : TI := fun σ H R => ta σ H fun vs H1 => ∃ b xs, vs = [.ref b] /\ SqT K H1 b xs /\ R (Itv K b xs) H1
theorem qkE {ta : TA} {p : Pos} (hg : Gl X "reversed") (hm : X.mg "reversed" = none) (ha : PA X [a] ta) (hs : starEach [a] X.env = [(false, eval a X.env)] := by rfl) :
    PI X tg (.Call (.Name "reversed" p) [a] [] pos) (qm3 X.K ta) := by
  intro pins s σ H R I h
  refine Call_ (vk I hg hm PyProof.Rows.boot_reversed (PyProof.Rows.callWith_type1 (thn (ha pos pins s σ H _ I h) fun us s1 ⟨vs, H1, I1, r1, q1⟩ => ?_) hs rfl))
  obtain ⟨b, xs, e1, hx, q⟩ := q1
  subst e1
  obtain ⟨u1, rfl, ru1⟩ := qQ.one r1
  cases (show u1 = Value.ref b from ru1)
  obtain ⟨its, v1, p1, z1⟩ := I1.tuple hx
  have hlen := v1.length
  refine qgA (show s1.heap.IsTuple b its.toArray from p1) (by rw [List.size_toArray, <- hlen]; exact z1) fun h' zz kp => ?_
  refine qc5 zz ?_
  have lb : b < s1.heap.objs.size := by obtain ⟨o, e, _⟩ := p1; exact Heap.lt_size e
  have zz' : wP h' s1.heap.objs.size b ((xs.length : Int) - 1 - ((0 : Nat) : Int)) := by
    have e : ((its.toArray.size : Nat) : Int) - 1 = (xs.length : Int) - 1 - ((0 : Nat) : Int) := by rw [List.size_toArray, hlen]; omega
    rw [<- e]; exact zz
  refine ⟨s1.heap.objs.size, [s1.heap.objs.size], _, _, H1, rfl, I1.kept (t' := s1.toks + 1 + 1) kp, qgC (xs := xs) (Nat.ne_of_lt lb), zz', fun d hd => ?_, q⟩
  have e : d = s1.heap.objs.size := by simpa using hd
  subst e
  exact I1.fpOk (Nat.le_refl _) (I1.hok.fresh (Nat.le_refl _))
theorem qkF {K : Fr0} {A : Addr -> Prop} {H : Hp} {ds : List D} {xs : List V} {b : Addr} (t1 : uz K H b xs) (i1 : IsL K A H ds xs) : qgb K A H ds.reverse (Itv K b xs) where
  go := fun H' i d ex hd => by
    have hl : i < ds.reverse.length := (List.getElem?_eq_some_iff.mp hd).1
    rw [List.length_reverse, <- i1.length] at hl
    exact ⟨hl, (t1.elim (fun h => .inl (ex.tup _ _ h)) .inr : uz K H' b xs).sq⟩
  yl := fun H' i d x H'' ex hd y => by
    obtain ⟨rfl, hy⟩ := y
    have hl : i < ds.length := by
      have := (List.getElem?_eq_some_iff.mp hd).1
      rwa [List.length_reverse] at this
    rw [List.getElem?_reverse hl] at hd
    rw [List.getElem?_reverse (by rw [i1.length]; exact hl), i1.length] at hy
    obtain ⟨x', g1, g2⟩ := i1.get hd
    rw [hy] at g1
    cases g1
    exact ⟨fun _ _ h => h, Is.ext ex (fun _ h _ => h) g2⟩
  stop := fun H' ex => ⟨by rw [List.length_reverse, i1.length], (t1.elim (fun h => .inl (ex.tup _ _ h)) .inr : uz K H' b xs).sq⟩
def qlg : List D -> Option (List D)
  | [.tup xs] => some xs.reverse
  | _ => none
def qkG (f : M (List D)) : M (List D) := bnd f fun ds => lift (qlg ds)
theorem qkH {f : M (List D)} {p : Pos} (hg : Gl X "reversed") (hm : X.mg "reversed" = none) (ha : DA X c [a] f) (hs : starEach [a] X.env = [(false, eval a X.env)] := by rfl) :
    DI X c tg (.Call (.Name "reversed" p) [a] [] pos) (qkG f) := by
  obtain ⟨t, pa, w⟩ := ha
  refine ⟨_, qkE hg hm pa hs, fun ρ σ H Q r h => w ρ σ H _ r (WpL.bndI h fun ds ρ1 vs H1 r1 i1 g1 h1 => ?_)⟩
  obtain ⟨es', e, h2⟩ := uQ h1
  unfold qlg at e
  split at e
  . obtain ⟨v, rfl, j1⟩ := IsL.inv1 i1
    cases e
    obtain ⟨a1, xs, rfl, t1, il1⟩ := Is.tr j1
    exact ⟨a1, xs, rfl, t1.sq, h2 _ H1 r1 (qkF t1 il1) .refl⟩
  . cases e
theorem qkI {l : M (List D)} {ρ : Env} : qkG l ρ = match l ρ with | .ok (d, ρ1) => (match qlg d with | some ds => .ok (ds, ρ1) | none => .bad) | .exc x ρ' => .exc x ρ' | .bad => .bad := by
  simp only [qkG, bnd]
  cases l ρ with
  | ok z => obtain ⟨z1, ρ1⟩ := z; (dsimp only; cases qlg z1 <;> rfl)
  | exc x ρ' => rfl
  | bad => rfl
theorem qfk {f : M D} {ρ : Env} (i : Nat) : yS i f ρ = match zk i ρ with
    | none => .bad
    | some _ => (match f ρ with
      | .ok (d, ρ1) => (match zk i ρ1 with | some ds => (if qD (ds.length + 1) then .ok (.non, ρ1.set i (some (.lst (d :: ds)))) else .bad) | none => .bad)
      | .exc x ρ' => .exc x ρ' | .bad => .bad) := by
  unfold yS
  cases zk i ρ with
  | none => rfl
  | some z =>
    simp only [bnd]
    cases f ρ with
    | ok z => obtain ⟨z1, ρ1⟩ := z; rfl
    | exc x ρ' => rfl
    | bad => rfl
end
end L2.Sk
namespace L2.Sk
namespace Law
open PySem PySem.Spec PyProof.Rows
set_option maxHeartbeats 4000000
theorem qhz (ds : List D) (r : Env) : zk 0 (some (.lst ds) :: r) = some ds := rfl
theorem qhA (i : Nat) (o : Option D) (r : Env) : zk (i + 1) (o :: r) = zk i r := rfl
theorem ix0 (a b c : D) : ixD (.tup [a, b, c]) (.int 0) = some a := rfl
theorem ix1 (a b c : D) : ixD (.tup [a, b, c]) (.int 1) = some b := rfl
theorem ix2 (a b c : D) : ixD (.tup [a, b, c]) (.int 2) = some c := rfl
theorem qcf (i j : Int) : neB (.int i) (.int j) = some (.bl (!decide (i = j))) := rfl
theorem uD (i j : Int) : eqB (.int i) (.int j) = some (.bl (decide (i = j))) := rfl
theorem wo (ds : List D) : qb3 (tyD (.tup ds)) "tuple" = true := rfl
theorem uY (ds : List D) : qfL [.tup ds] = some (.int ds.length) := rfl
theorem w8 (d : D) : isN d .non = some (.bl (yt d)) := rfl
theorem qcg (d : D) : qlc d .non = some (.bl (!yt d)) := rfl
theorem qaG (i j : Int) : gtD (.int i) (.int j) = some (.bl (decide (j < i))) := rfl
theorem qfl (i j : Int) : ltD (.int i) (.int j) = some (.bl (decide (i < j))) := rfl
theorem qaH (i j : Int) : leD (.int i) (.int j) = some (.bl (decide (i <= j))) := rfl
local macro_rules | `(tactic| push_cast [$xs,*]) => `(tactic| simp only [jR, qgh, qmj, jS, qbo, qcH, qhf, qlO, qmk, v8, uU, qhg, qiv, vq, qhh, qcI, qgi, qhi, qkm, qhj, qiw, qgj, qbp, qcJ, qb6, qar, qhl, qhm, qhn, uo, qbq, qeK, qho, qbr, qeL, qeM, qeN, qeO, qeP, qhp, wd, qkn, qeQ, List.length_cons, List.length_nil, List.map_cons, List.map_nil, List.replicate, List.nil_append, List.cons_append, List.append_nil, List.getElem?_cons_zero, List.getElem?_cons_succ, List.set_cons_zero, List.set_cons_succ, Nat.reduceAdd, Nat.reduceSub, Nat.sub_self, Nat.zero_add, reduceIte, Bool.not_true, Bool.not_false, Bool.false_eq_true, if_true, if_false, ite_true, ite_false, cond_true, cond_false, decide_true, decide_false, ix0, ix1, ix2, wo, uY, qcf, uD, w8, qcg, qaG, qfl, qaH, qhz, qhA, qcY, qcZ, qc0, qhv, qe2, qb7, $xs,*])
theorem qa1 {n p : Nat} {body : MS} {ds : List D} {d : D} (h : ds.length = p) (e : ∃ ρ, body (jR n ds) = .ok (.rt d ρ)) : dfn n p body ds = .ok d := by
  obtain ⟨ρ, e⟩ := e
  exact qix h e
def qiQ : D -> Bool
  | .int _ => true
  | _ => false
def jU : D -> Bool
  | .int i => decide (0 <= i)
  | _ => false
def qfm : D -> Bool
  | .int i => decide (0 < i)
  | _ => false
def uu : D -> Bool
  | .tup [a, b, c] => qfm a && jU b && (yt c || jU c)
  | _ => false
theorem qm4 {ds : List D} (h : ds.length = 3) : ∃ a b c, ds = [a, b, c] := by
  match ds, h with
  | [a, b, c], _ => exact ⟨a, b, c, rfl⟩
theorem qdV {ds : List D} (h : ds.length ≠ 3) : uu (.tup ds) = false := by
  match ds, h with
  | [], _ => rfl
  | [_], _ => rfl
  | [_, _], _ => rfl
  | [a, b, c], h => exact absurd rfl h
  | _ :: _ :: _ :: _ :: _, _ => rfl
theorem qq {p q : MS} {ρ ρ' : Env} (h : p ρ = .ok (.nx ρ')) : qM p q ρ = q ρ' := by rw [qhk, h]
theorem w9 {p q : MS} {ρ ρ' : Env} {d : D} (h : p ρ = .ok (.rt d ρ')) : qM p q ρ = .ok (.rt d ρ') := by rw [qhk, h]
theorem qkJ {e : M D} {f : D -> D} : ∀ (ds acc : List D) (o : Option D), (∀ d ∈ ds, e [some d] = .ok (f d, [some d])) -> acc.length + ds.length <= 1000 -> ∃ ρ', qT (qf 0) (ret true) e ds acc [o] = .ok (acc ++ ds.map f, ρ')
  | [], acc, o, _, _ => ⟨[o], by simp [qT]⟩
  | d :: ds, acc, o, h, hl => by
    have hl' : acc.length + (ds.length + 1) <= 1000 := hl
    obtain ⟨ρ', q⟩ := qkJ ds (acc ++ [f d]) (some d) (fun x hx => h x (List.mem_cons_of_mem _ hx)) (by rw [List.length_append, List.length_singleton]; omega)
    refine ⟨ρ', ?_⟩
    unfold qT
    simp only [qf, List.set_cons_zero, ret, h d List.mem_cons_self, jc (show acc.length + 1 <= 1000000 by omega), if_true, q]
    simp
theorem qbC (f : D -> Bool) : ∀ ds : List D, uP (ds.map fun d => D.bl (f d)) = some (ds.map f)
  | [] => rfl
  | d :: ds => by simp [uP, qbC f ds]
theorem all_map {ds : List D} {f : D -> Bool} : qjg [.lst (ds.map fun d => D.bl (f d))] = some (.bl (ds.all f)) := by
  simp only [qjg, qbC, Option.map_some]
  congr 2
  rw [List.all_map]
  rfl
theorem qiR {F : List D -> R D} {f : D -> Bool} {xs : M (List D)} {ds : List D} {ρ : Env} (hx : xs ρ = .ok (ds, ρ)) (hF : ∀ d ∈ ds, F [d] = .ok (.bl (f d))) (hl : ds.length <= 1000) :
    qW qjg (qa (qI 1 [] none xs (qf 0) (ret true) (qo F (qa (dv 0) (ret [])))) (ret [])) ρ = .ok (.bl (ds.all f), ρ) := by
  obtain ⟨ρ', q⟩ := qkJ (e := qo F (qa (dv 0) (ret []))) (f := fun d => D.bl (f d)) ds [] none (fun x hm => by push_cast []; rw [hF x hm]) (by simpa using hl)
  have q' : qT (qf 0) (ret true) (qo F (qa (dv 0) (ret []))) ds [] (zN 1 [] ρ) = .ok ([] ++ ds.map fun d => D.bl (f d), ρ') := q
  simp only [v8, jS, v9, hx, q', qgh, List.nil_append, all_map]
  rfl
def uE : D -> Bool
  | .tup ds => decide (ds.length <= 12) && ds.all uu
  | _ => false
def leI : D -> D -> Bool
  | .int i, .int j => decide (i <= j)
  | _, _ => false
def qlU (k x : D) : Bool := match k with
  | .tup [_, _, m] => jU x && (yt m || leI x m)
  | _ => false
def qc6 : List D -> List D -> Bool
  | k :: ks, x :: xs => qlU k x && qc6 ks xs
  | _, _ => true
def qmx : D -> D -> Bool
  | .tup xs, .tup ks => decide (xs.length = ks.length) && qc6 ks xs
  | _, _ => false
theorem yF {l : M (List D)} {ρ ρ1 : Env} {j : Int} (e : l ρ = .ok ([.int j], ρ1)) (h0 : 0 <= j) (h : j <= 1000000) : z9 l ρ = .ok (wK 0 j.toNat, ρ1) := by
  have h1 : (-(2 ^ 62) <= j) := by omega
  have h2 : (j < 2 ^ 62) := by omega
  have e2 : qgc [.int j] = some (wK 0 j.toNat) := by
    simp only [qgc, h1, h2, decide_true, Bool.and_self, if_true]
  have e3 : z9 l ρ = lift (qgc [.int j]) ρ1 := by
    show bnd l (fun ds => lift (qgc ds)) ρ = _
    rw [qlN, e]
  rw [e3, e2]
  rfl
theorem qfn {n m : Int} (h0 : 0 < m) (h1 : m < 1606938044258990275541962092341162602522202993782792835301376) : vV [.int n, .int m] = some (.tup [.int (n / m), .int (n % m)]) := by
  simp only [vV, qdv, h0, h1, decide_true, Bool.and_self, if_true]
theorem at0 (d : D) (r : List D) : atI (d :: r) 0 = some d := by
  unfold atI ixN
  rw [if_pos (by omega), if_pos (by simp)]
  rfl
theorem qm5 : ixN 1 0 = some 0 := by decide
theorem zK (i j : Int) : zm (.int i) (.int j) = some (.int (i + j)) := rfl
theorem qgD (i j : Int) : qlJ (.int i) (.int j) = some (.int (i - j)) := rfl
theorem qkK {ds : List D} {k : Int} (h0 : 0 <= k) (h1 : k < ds.length) : ∃ d ∈ ds, ixD (.lst ds) (.int k) = some d := by
  obtain ⟨i, rfl⟩ := Int.eq_ofNat_of_zero_le h0
  have hi : i < ds.length := by omega
  refine ⟨ds[i], List.getElem_mem hi, ?_⟩
  show atI ds (i : Int) = _
  unfold atI ixN
  rw [if_pos (by omega), if_pos (by omega)]
  show ds[(i : Int).toNat]? = _
  rw [Int.toNat_natCast, List.getElem?_eq_getElem hi]
theorem qgE (j : Nat) : (wK 0 j).length = j := by simp [wK]
theorem uZ {i j : Int} (h : 0 < j) : qbT (.int i) (.int j) = some (.int (i % j)) := by
  simp only [qbT, qje, h, decide_true, if_true]
theorem qbD {i j : Int} (h : 0 < j) (h1 : j < 1606938044258990275541962092341162602522202993782792835301376) : qex (.int i) (.int j) = some (.int (i / j)) := by
  simp only [qex, qje, qdv, h, h1, decide_true, Bool.and_self, if_true]
theorem qgF {i j : Int} (h : jh i = true) : jv (.int i) (.int j) = some (.int (i * j)) := by
  simp only [jv, qew, h, Bool.true_or, if_true]
theorem qch {i j : Int} (h : jh j = true) : jv (.int i) (.int j) = some (.int (i * j)) := by
  simp only [jv, qew, h, Bool.or_true, if_true]
theorem qfo {i : Int} (h0 : 0 <= i) (h1 : i < 2000000000) : jh i = true := by
  unfold jh
  rw [Bool.and_eq_true, decide_eq_true_eq, decide_eq_true_eq]
  constructor <;> omega
def facts : List Int := [48271, 69621, 16807, 39373, 30269, 40014, 40692, 50021, 61687, 71993, 83869, 95561, 30307]
structure qa2 (w e : Nat) (d : D) : Prop where
  lv : (zP d).leavesShort 40 = true
  sh : (zP d).showable = true
  wt : (zP d).weight <= w
  dp : (zP d).depth <= e
theorem qa2.mono {w e w' e' : Nat} {d : D} (h : qa2 w e d) (h1 : w <= w') (h2 : e <= e') : qa2 w' e' d := ⟨h.lv, h.sh, Nat.le_trans h.wt h1, Nat.le_trans h.dp h2⟩
theorem qaI {w e : Nat} : ∀ ds : List D, (∀ d ∈ ds, qa2 w e d) -> PyData.leavesShortAll 40 (toPDs ds) = true /\ PyData.showableAll (toPDs ds) = true /\ PyData.weightAll (toPDs ds) <= ds.length * (w + 1) /\ PyData.depthAll (toPDs ds) <= e
  | [], _ => ⟨rfl, rfl, Nat.zero_le _, Nat.zero_le _⟩
  | d :: ds, h => by
    obtain ⟨h1, h2, h3, h4⟩ := qaI ds fun x hx => h x (List.mem_cons_of_mem _ hx)
    have g := h d List.mem_cons_self
    have g3 := g.wt
    have g4 := g.dp
    simp only [toPDs, PyData.leavesShortAll, PyData.showableAll, PyData.weightAll, PyData.depthAll, h1, h2, g.lv, g.sh, Bool.and_self, true_and, List.length_cons, Nat.succ_mul]
    omega
theorem qgG {w e n : Nat} {ds : List D} (h : ∀ d ∈ ds, qa2 w e d) (hl : ds.length <= n) : qa2 (n * (w + 1)) (e + 1) (.tup ds) := by
  obtain ⟨h1, h2, h3, h4⟩ := qaI ds h
  refine ⟨?_, ?_, ?_, ?_⟩
  . simp only [zP, PyData.leavesShort, h1]
  . simp only [zP, PyData.showable, h2]
  . simp only [zP, PyData.weight]
    exact Nat.le_trans h3 (Nat.mul_le_mul_right _ hl)
  . simp only [zP, PyData.depth]
    omega
theorem qgH {w e n : Nat} {ds : List D} (h : ∀ d ∈ ds, qa2 w e d) (hl : ds.length <= n) : qa2 (n * (w + 1)) (e + 1) (.lst ds) := by
  obtain ⟨h1, h2, h3, h4⟩ := qaI ds h
  refine ⟨?_, ?_, ?_, ?_⟩
  . simp only [zP, PyData.leavesShort, h1]
  . simp only [zP, PyData.showable, h2]
  . simp only [zP, PyData.weight]
    exact Nat.le_trans h3 (Nat.mul_le_mul_right _ hl)
  . simp only [zP, PyData.depth]
    omega
def qkL (d : D) : Bool := (zP d).leavesShort 40 && (zP d).showable && decide ((zP d).weight <= 130) && decide ((zP d).depth <= 5)
theorem qiS {d : D} (h : qkL d = true) : qa2 130 5 d := by
  simp only [qkL, Bool.and_eq_true, decide_eq_true_eq] at h
  exact ⟨h.1.1.1, h.1.1.2, h.1.2, h.2⟩
def dl (d : D) : Bool := !(zP d).hasDict || noL d
def plain (d : D) : Bool := !(zP d).hasDict && noL d
theorem qiT {w e : Nat} {d : D} (h : qa2 w e d) (hw : w <= 100000) (he : e <= 50) (hd : dl d = true) : wT d = true := by
  have h1 := PyData.shown_le 40 (by omega) _ h.lv
  have h2 : (40 + 2) * (zP d).weight <= 42 * 100000 := Nat.mul_le_mul_left _ (Nat.le_trans h.wt hw)
  have h3 := h.dp
  have e1 : (zP d).shown.length <= sizeLine := by rw [PySem.sizeLine_eq]; omega
  have e2 : (zP d).depth <= 50 := by omega
  unfold dl at hd
  simp only [wT, h.sh, e1, e2, decide_true, Bool.true_and, hd]
theorem wu : ∀ xs : List D, (∀ d ∈ xs, plain d = true) -> PyData.hasDictAll (toPDs xs) = false /\ noLs xs = true
  | [], _ => ⟨rfl, rfl⟩
  | x :: xs, h => by
    obtain ⟨h1, h2⟩ := wu xs fun y hy => h y (List.mem_cons_of_mem _ hy)
    have g := h x List.mem_cons_self
    unfold plain at g
    rw [Bool.and_eq_true, Bool.not_eq_true'] at g
    simp [toPDs, PyData.hasDictAll, noLs, h1, h2, g.1, g.2]
theorem qgI {xs ys : List D} (h : xs.length + ys.length <= 1000000) : zm (.lst xs) (.lst ys) = some (.lst (xs ++ ys)) := by
  simp only [zm, jc h, if_true]
theorem qgJ {xs ys : List D} (h : xs.length + ys.length <= 1000000) : zm (.tup xs) (.tup ys) = some (.tup (xs ++ ys)) := by
  simp only [zm, jc h, if_true]
def pt (p : Int) : D -> Int
  | .tup [.int a, .int b, _] => if p = 0 then a else b
  | _ => 0
def num : D -> Int
  | .int x => x
  | _ => 0
def qlV (p : Int) : List D -> List D -> List Int
  | k :: ks, x :: xs => (pt p k * num x) :: qlV p ks xs
  | _, _ => []
theorem y9 : ∀ ns : List Int, uA (ns.map D.int) = some ns
  | [] => rfl
  | n :: ns => by simp [uA, y9 ns]
theorem qgK {i : Int} (h : i.natAbs < 10 ^ 39) : qa2 130 0 (.int i) := by
  have hl : i.natAbs.log2 < 130 := by
    by_cases h0 : i.natAbs = 0
    . rw [h0]; decide
    . refine (Nat.log2_lt h0).mpr (Nat.lt_of_lt_of_le h (by decide +kernel))
  refine ⟨?_, ?_, ?_, Nat.le_refl _⟩
  . show decide ((PyData.shown (.int i)).length <= 40) = true
    refine decide_eq_true ?_
    have e := int_text_length_le10 (k := 39) (by decide) h
    show (Str.ofString (toString i)).length <= 40
    rw [PySem.ofString_length]
    exact e
  . show decide (i.natAbs.log2 < 1920) = true
    exact decide_eq_true (by omega)
  . show (if (i == 0) = true then 0 else i.natAbs.log2 + 1) <= 130
    split <;> omega
theorem qiU (x : Str) : neB (.str x) (.str x) = some (.bl false) := by
  show some (D.bl (!decide (x = x))) = _
  rw [decide_eq_true rfl]; rfl
theorem qlW {F : List D -> R D} {f g h : M D} {ρ : Env} {a b c d : D} (hf : f ρ = .ok (a, ρ)) (hg : g ρ = .ok (b, ρ)) (hh : h ρ = .ok (c, ρ)) (e : F [a, b, c] = .ok d) : qo F (qa f (qa g (qa h (ret [])))) ρ = .ok (d, ρ) := by
  have e1 : qa h (ret []) ρ = .ok ([c], ρ) := by rw [jS, hh]; rfl
  have e2 : qa g (qa h (ret [])) ρ = .ok ([b, c], ρ) := by rw [jS, hg]; dsimp only; rw [e1]
  have e3 : qa f (qa g (qa h (ret []))) ρ = .ok ([a, b, c], ρ) := by rw [jS, hf]; dsimp only; rw [e2]
  rw [uU, e3]
  dsimp only
  rw [e]
theorem qbE {F : List D -> Option D} {f : M D} {ρ : Env} {a d : D} (hf : f ρ = .ok (a, ρ)) (e : F [a] = some d) : qW F (qa f (ret [])) ρ = .ok (d, ρ) := by
  have e0 : qa f (ret []) ρ = .ok ([a], ρ) := by rw [jS, hf]; rfl
  rw [v8, e0]
  dsimp only
  rw [e]
theorem qgL (i j : Int) : qbe [.int i, .int j] = some (.int (if j < i then j else i)) := rfl
theorem qgM {α : Type} {e : M D} {t : M Bool} {k f : α -> D} {p : α -> Bool} {r : Env} : ∀ (as : List α) (acc : List D) (o : Option D), (∀ a ∈ as, t (some (k a) :: r) = .ok (p a, some (k a) :: r)) -> (∀ a ∈ as, p a = true -> e (some (k a) :: r) = .ok (f a, some (k a) :: r)) -> acc.length + as.length <= 1000000 ->
    ∃ o', qT (qf 0) t e (as.map k) acc (o :: r) = .ok (acc ++ (as.filter p).map f, o' :: r)
  | [], acc, o, _, _, _ => ⟨o, by simp [qT]⟩
  | a :: as, acc, o, ht, he, hl => by
    have hl' : acc.length + (as.length + 1) <= 1000000 := hl
    have h1 := ht a List.mem_cons_self
    rw [List.map_cons]
    unfold qT
    simp only [qf, List.set_cons_zero, h1]
    cases hp : p a with
    | false =>
      obtain ⟨o', q⟩ := qgM as acc (some (k a)) (fun x hx => ht x (List.mem_cons_of_mem _ hx)) (fun x hx => he x (List.mem_cons_of_mem _ hx)) (by omega)
      refine ⟨o', ?_⟩
      simp only [q, List.filter_cons, hp, Bool.false_eq_true, if_false]
    | true =>
      obtain ⟨o', q⟩ := qgM as (acc ++ [f a]) (some (k a)) (fun x hx => ht x (List.mem_cons_of_mem _ hx)) (fun x hx => he x (List.mem_cons_of_mem _ hx)) (by rw [List.length_append, List.length_singleton]; omega)
      refine ⟨o', ?_⟩
      simp only [he a List.mem_cons_self hp, jc (show acc.length + 1 <= 1000000 by omega), if_true, q, List.filter_cons, hp, List.map_cons, List.append_assoc, List.singleton_append]
theorem qfp {α : Type} {e : M D} {t : M Bool} {k : α -> D} {xs : M (List D)} {ρ r : Env} {fr : List Nat} (as : List α) (p : α -> Bool) (f : α -> D) (hx : xs ρ = .ok (as.map k, ρ)) (hr : zN 1 fr ρ = none :: r) (hl : as.length <= 1000000)
    (ht : ∀ a ∈ as, t (some (k a) :: r) = .ok (p a, some (k a) :: r)) (he : ∀ a ∈ as, p a = true -> e (some (k a) :: r) = .ok (f a, some (k a) :: r)) : qI 1 fr none xs (qf 0) t e ρ = .ok (.lst ((as.filter p).map f), ρ) := by
  obtain ⟨o', q⟩ := qgM as [] none ht he (by simpa using hl)
  rw [v9, hx]
  simp only [hr, q, List.nil_append]
  rfl
theorem uF {α : Type} (as : List α) : as.filter (fun _ => true) = as := by simp
theorem qc7 {α : Type} {e : M D} {k : α -> D} {xs : M (List D)} {ρ r : Env} {fr : List Nat} (as : List α) (f : α -> D) (hx : xs ρ = .ok (as.map k, ρ)) (hr : zN 1 fr ρ = none :: r) (hl : as.length <= 1000000)
    (he : ∀ a ∈ as, e (some (k a) :: r) = .ok (f a, some (k a) :: r)) : qI 1 fr none xs (qf 0) (ret true) e ρ = .ok (.lst (as.map f), ρ) := by
  rw [qfp as (fun _ => true) f hx hr hl (fun _ _ => rfl) fun a ha _ => he a ha, uF]
theorem qbF {α β : Type} {G : D -> Env -> Option Env} {b : MS} {k : α -> D} {step : β -> α -> β} {Inv : Nat -> β -> Env -> Prop} : ∀ (as : List α) (n : Nat) (s : β) (ρ : Env), Inv n s ρ ->
    (∀ a ∈ as, ∀ m s ρ, n <= m -> m < n + as.length -> Inv m s ρ -> ∃ ρ1 ρ2, G (k a) ρ = some ρ1 /\ b ρ1 = .ok (.nx ρ2) /\ Inv (m + 1) (step s a) ρ2) ->
    ∃ ρ', yu G b (as.map k) ρ = .ok (.nx ρ') /\ Inv (n + as.length) (as.foldl step s) ρ'
  | [], n, s, ρ, h, _ => ⟨ρ, rfl, h⟩
  | a :: as, n, s, ρ, h, H => by
    obtain ⟨ρ1, ρ2, h1, h2, h3⟩ := H a List.mem_cons_self n s ρ (Nat.le_refl _) (by rw [List.length_cons]; omega) h
    obtain ⟨ρ', q, w⟩ := qbF as (n + 1) (step s a) ρ2 h3 fun x hx m s ρ m1 m2 => H x (List.mem_cons_of_mem _ hx) m s ρ (by omega) (by rw [List.length_cons]; omega)
    refine ⟨ρ', ?_, ?_⟩
    . rw [List.map_cons]
      unfold yu
      simp only [h1, h2]
      exact q
    . rw [List.length_cons, show n + (as.length + 1) = n + 1 + as.length by omega]
      exact w
theorem qaJ {f : M D} {ρ : Env} {a : D} (hf : f ρ = .ok (a, ρ)) : qa f (ret []) ρ = .ok ([a], ρ) := by rw [jS, hf]; rfl
theorem qgN {f g : M D} {ρ : Env} {a b : D} (hf : f ρ = .ok (a, ρ)) (hg : g ρ = .ok (b, ρ)) : qa f (qa g (ret [])) ρ = .ok ([a, b], ρ) := by rw [jS, hf]; simp only [qaJ hg]
theorem qiV {f g h : M D} {ρ : Env} {a b c : D} (hf : f ρ = .ok (a, ρ)) (hg : g ρ = .ok (b, ρ)) (hh : h ρ = .ok (c, ρ)) : qa f (qa g (qa h (ret []))) ρ = .ok ([a, b, c], ρ) := by rw [jS, hf]; simp only [qgN hg hh]
theorem qm6 {f g : M D} {ρ : Env} {a b : D} (hf : f ρ = .ok (a, ρ)) (hg : g ρ = .ok (b, ρ)) : yO (qa f (qa g (ret []))) ρ = .ok (.tup [a, b], ρ) := by rw [qbo, qgN hf hg]; simp only [List.length_cons, List.length_nil, jc (show 0 + 1 + 1 <= 1000000 by omega), if_true]
theorem qm7 {f g h : M D} {ρ : Env} {a b c : D} (hf : f ρ = .ok (a, ρ)) (hg : g ρ = .ok (b, ρ)) (hh : h ρ = .ok (c, ρ)) : yO (qa f (qa g (qa h (ret [])))) ρ = .ok (.tup [a, b, c], ρ) := by rw [qbo, qiV hf hg hh]; simp only [List.length_cons, List.length_nil, jc (show 0 + 1 + 1 + 1 <= 1000000 by omega), if_true]
theorem qc8 {F : List D -> R D} {f g : M D} {ρ : Env} {a b d : D} (hf : f ρ = .ok (a, ρ)) (hg : g ρ = .ok (b, ρ)) (e : F [a, b] = .ok d) : qo F (qa f (qa g (ret []))) ρ = .ok (d, ρ) := by rw [uU, qgN hf hg]; simp only [e]
theorem qx {F : D -> D -> Option D} {f g : M D} {ρ : Env} {a b d : D} (hf : f ρ = .ok (a, ρ)) (hg : g ρ = .ok (b, ρ)) (e : F a b = some d) : d2 F f g ρ = .ok (d, ρ) := by rw [qlO, hf]; simp only [hg, e]
theorem yv {f : M D} {ρ : Env} {b : Bool} (hf : f ρ = .ok (.bl b, ρ)) : tst f ρ = .ok (b, ρ) := by rw [qiv, hf]; rfl
theorem qmy {t : M Bool} {p q : MS} {ρ : Env} (h : t ρ = .ok (true, ρ)) : sif t p q ρ = p ρ := by rw [qgj, h]; rfl
theorem qlh {t : M Bool} {p q : MS} {ρ : Env} (h : t ρ = .ok (false, ρ)) : sif t p q ρ = q ρ := by rw [qgj, h]; rfl
theorem qbG {i : Nat} {f : M D} {ρ : Env} {ds : List D} {d : D} (h : zk i ρ = some ds) (hf : f ρ = .ok (d, ρ)) (hi : imm d = true) (hl : ds.length < 1000000) : jk (zx i f) ρ = .ok (.nx (ρ.set i (some (.lst (ds ++ [d]))))) := by
  simp only [qar, wd, h, hf, hi, jc (show ds.length + 1 <= 1000000 by omega), Bool.and_self, if_true]
theorem yT {G : D -> Env -> Option Env} {b : MS} {d : D} {ds : List D} {ρ ρ1 ρ2 : Env} (h1 : G d ρ = some ρ1) (h2 : b ρ1 = .ok (.nx ρ2)) : yu G b (d :: ds) ρ = yu G b ds ρ2 := by
  show (match G d ρ with | none => R.bad | some ρ1 => _) = _
  rw [h1]
  simp only [h2]
def mD : Option Int -> D
  | none => .non
  | some j => .int j
abbrev Kd := Int × Int × Option Int
def kD (x : Kd) : D := .tup [.int x.1, .int x.2.1, mD x.2.2]
theorem qkM (m : Option Int) : imm (mD m) = true := by cases m <;> rfl
theorem qkN (x : Kd) : imm (kD x) = true := by
  simp only [kD, imm, immL, qkM, Bool.and_self]
theorem qc9 {α : Type} {f : α -> D} : ∀ {as : List α}, (∀ a ∈ as, imm (f a) = true) -> immL (as.map f) = true
  | [], _ => rfl
  | a :: as, h => by simp only [List.map_cons, immL, h a List.mem_cons_self, qc9 fun x hx => h x (List.mem_cons_of_mem _ hx), Bool.and_self]
def okK (x : Kd) : Prop := 0 < x.1 /\ 0 <= x.2.1 /\ (∀ j, x.2.2 = some j -> 0 <= j)
theorem qfq {x : Kd} (h : okK x) : uu (kD x) = true := by
  obtain ⟨a, b, m⟩ := x
  obtain ⟨h1, h2, h3⟩ := h
  have e1 : qfm (.int a) = true := decide_eq_true h1
  have e2 : jU (.int b) = true := decide_eq_true h2
  cases m with
  | none => simp only [kD, mD, uu, e1, e2, yt, Bool.true_and, Bool.true_or]
  | some j =>
    have e3 : jU (.int j) = true := decide_eq_true (h3 j rfl)
    simp only [kD, mD, uu, e1, e2, e3, Bool.true_and, Bool.or_true]
theorem vI (m : Option Int) : yt (mD m) = m.isNone := by cases m <;> rfl
theorem qfr {α : Type} {ds : List α} {n : Nat} {d : α} (h : ds[n]? = some d) : atI ds (n : Int) = some d := by
  unfold atI ixN
  have hl := (List.getElem?_eq_some_iff.mp h).1
  rw [if_pos (by omega), if_pos (by omega)]
  show ds[(n : Int).toNat]? = _
  rw [Int.toNat_natCast]; exact h
theorem qgO (lo : Int) (n : Nat) : wK lo n = (List.range n).map fun i => D.int (lo + (i : Nat)) := rfl
theorem qfs {α : Type} {e : M D} {t : M Bool} {u v f : α -> D} {p : α -> Bool} {r : Env} : ∀ (as : List α) (acc : List D) (o o' : Option D), (∀ a ∈ as, t (some (u a) :: some (v a) :: r) = .ok (p a, some (u a) :: some (v a) :: r)) -> (∀ a ∈ as, p a = true -> e (some (u a) :: some (v a) :: r) = .ok (f a, some (u a) :: some (v a) :: r)) -> acc.length + as.length <= 1000000 ->
    ∃ o1 o2, qT (yj 2 (qj (qf 0) (qj (qf 1) yi))) t e (as.map fun a => .tup [u a, v a]) acc (o :: o' :: r) = .ok (acc ++ (as.filter p).map f, o1 :: o2 :: r)
  | [], acc, o, o', _, _, _ => ⟨o, o', by simp [qT]⟩
  | a :: as, acc, o, o', ht, he, hl => by
    have hl' : acc.length + (as.length + 1) <= 1000000 := hl
    have h1 := ht a List.mem_cons_self
    rw [List.map_cons]
    unfold qT
    have hg : yj 2 (qj (qf 0) (qj (qf 1) yi)) (.tup [u a, v a]) (o :: o' :: r) = some (some (u a) :: some (v a) :: r) := rfl
    simp only [hg, h1]
    cases hp : p a with
    | false =>
      obtain ⟨o1, o2, q⟩ := qfs as acc (some (u a)) (some (v a)) (fun x hx => ht x (List.mem_cons_of_mem _ hx)) (fun x hx => he x (List.mem_cons_of_mem _ hx)) (by omega)
      refine ⟨o1, o2, ?_⟩
      simp only [q, List.filter_cons, hp, Bool.false_eq_true, if_false]
    | true =>
      obtain ⟨o1, o2, q⟩ := qfs as (acc ++ [f a]) (some (u a)) (some (v a)) (fun x hx => ht x (List.mem_cons_of_mem _ hx)) (fun x hx => he x (List.mem_cons_of_mem _ hx)) (by rw [List.length_append, List.length_singleton]; omega)
      refine ⟨o1, o2, ?_⟩
      simp only [he a List.mem_cons_self hp, jc (show acc.length + 1 <= 1000000 by omega), if_true, q, List.filter_cons, hp, List.map_cons, List.append_assoc, List.singleton_append]
theorem qft {α : Type} {e : M D} {t : M Bool} {u v : α -> D} {xs : M (List D)} {ρ r : Env} {fr : List Nat} (as : List α) (p : α -> Bool) (f : α -> D) (hx : xs ρ = .ok (as.map fun a => .tup [u a, v a], ρ)) (hr : zN 2 fr ρ = none :: none :: r) (hl : as.length <= 1000000)
    (ht : ∀ a ∈ as, t (some (u a) :: some (v a) :: r) = .ok (p a, some (u a) :: some (v a) :: r)) (he : ∀ a ∈ as, p a = true -> e (some (u a) :: some (v a) :: r) = .ok (f a, some (u a) :: some (v a) :: r)) : qI 2 fr none xs (yj 2 (qj (qf 0) (qj (qf 1) yi))) t e ρ = .ok (.lst ((as.filter p).map f), ρ) := by
  obtain ⟨o1, o2, q⟩ := qfs as [] none none ht he (by simpa using hl)
  rw [v9, hx]
  simp only [hr, q, List.nil_append]
  rfl
theorem qmz (n : Nat) : wK 0 n = (List.range n).map fun i => D.int (i : Nat) := by
  unfold wK
  refine List.map_congr_left fun i _ => ?_
  rw [Int.zero_add]
theorem qbH {i : Int} (h : i.natAbs < 10 ^ 39) : qa2 130 0 (.int i) := qgK h
end Law
end L2.Sk
namespace L2.Sk.Law
def qmA : Nat -> (Nat -> Nat) -> Nat
  | 0, _ => 0
  | n + 1, f => qmA n f + f n
structure Kw where
  w : Int
  v : Int
  m : Option Int
def okT (k : Kw) (t : Nat) (r : Int) : Bool := decide ((t : Int) * k.w <= r) && (match k.m with | none => true | some j => decide ((t : Int) <= j))
def qmB (N : Nat) (φ : Int -> Nat) : List Kw -> Int -> Int -> Nat
  | [], _, y => φ y
  | k :: ks, r, y => qmA (N + 1) fun t => if okT k t r then qmB N φ ks (r - t * k.w) (y + t * k.v) else 0
def ofn (k : Kw) (r : Int) : Nat := (match k.m with | none => r / k.w | some j => if j < r / k.w then j else r / k.w).toNat
theorem qaK {k : Kw} (hw : 1 <= k.w) (hm : ∀ j, k.m = some j -> 0 <= j) {r : Int} (hr : 0 <= r) (t : Nat) : okT k t r = decide (t <= ofn k r) := by
  have hd : 0 <= r / k.w := Int.ediv_nonneg hr (by omega)
  have he : ((t : Int) * k.w <= r) ↔ ((t : Int) <= r / k.w) := (Int.le_ediv_iff_mul_le (by omega)).symm
  unfold okT ofn
  cases hk : k.m with
  | none =>
    dsimp only
    rw [Bool.and_true, Bool.eq_iff_iff, decide_eq_true_eq, decide_eq_true_eq, he]
    omega
  | some j =>
    have hj := hm j hk
    dsimp only
    rw [Bool.eq_iff_iff, Bool.and_eq_true, decide_eq_true_eq, decide_eq_true_eq, decide_eq_true_eq, he]
    split <;> omega
theorem qda {k : Kw} (hw : 1 <= k.w) (hm : ∀ j, k.m = some j -> 0 <= j) {r : Int} (hr : 0 <= r) {t : Nat} (h : t <= ofn k r) : (t : Int) * k.w <= r /\ (t : Int) <= r := by
  have h1 : okT k t r = true := by rw [qaK hw hm hr]; exact decide_eq_true h
  unfold okT at h1
  rw [Bool.and_eq_true, decide_eq_true_eq] at h1
  refine ⟨h1.1, Int.le_trans ?_ h1.1⟩
  have := Int.mul_le_mul_of_nonneg_left hw (show (0 : Int) <= t by omega)
  omega
def ql : List Kw -> List Int -> Int
  | k :: ks, t :: ts => t * k.v + ql ks ts
  | _, _ => 0
theorem wv (k : Kw) (t : Int) : ∀ (pre : List Kw) (ld : List Int), pre.length = ld.length -> ql (pre ++ [k]) (ld ++ [t]) = ql pre ld + t * k.v
  | [], [], _ => by simp [ql]
  | a :: pre, s :: ld, h => by
    have := wv k t pre ld (by simpa using h)
    simp only [List.cons_append, ql, this]
    omega
def ww (k : Kw) : Prop := 1 <= k.w /\ ∀ j, k.m = some j -> 0 <= j
end L2.Sk.Law
namespace L2.Sk
namespace Law
open PySem PySem.Spec PyProof.Rows
set_option maxHeartbeats 4000000
def Zn (ks : List Kw) (s z : Int) : Nat := qmB 20 (fun y => if y = z then 1 else 0) ks s 0
structure qmC (ks : List Kw) (s : Int) (p : Int × Nat) : Prop where
  at_ : Zn ks s p.1 = p.2
  pos : 0 < p.2
  no : ∀ z, p.1 < z -> Zn ks s z = 0
end Law
end L2.Sk
namespace L2.Sk.Law
end L2.Sk.Law
namespace L2.Sk
namespace Law
open PySem PySem.Spec PyProof.Rows
set_option maxHeartbeats 4000000
open Classical in
open Classical in
theorem qkO {α : Type} {e : M D} {t : M Bool} {k : α -> D} {xs : M (List D)} {ρ r : Env} {fr : List Nat} {i j : Nat} (as : List α) (p : α -> Bool) (f : α -> D) (hx : xs ρ = .ok (as.map k, ρ)) (hr : zN 1 fr ρ = none :: r) (hl : as.length <= 1000000)
    (ht : ∀ a ∈ as, t (some (k a) :: r) = .ok (p a, some (k a) :: r)) (he : ∀ a ∈ as, p a = true -> e (some (k a) :: r) = .ok (f a, some (k a) :: r)) (hb : ∀ o : Option D, ρ.set j ((o :: r)[i]?).join = ρ) :
    qI 1 fr (some (i, j)) xs (qf 0) t e ρ = .ok (.lst ((as.filter p).map f), ρ) := by
  obtain ⟨o', q⟩ := qgM as [] none ht he (by simpa using hl)
  rw [v9, hx]
  simp only [hr, q, List.nil_append]
  show R.ok (D.lst ((as.filter p).map f), ρ.set j ((o' :: r)[i]?).join) = _
  rw [hb o']
theorem qm8 {t u : M Bool} {ρ : Env} (h1 : t ρ = .ok (true, ρ)) : tor t u ρ = .ok (true, ρ) := by rw [qgi, h1]; rfl
theorem qlX {t u : M Bool} {ρ : Env} (h1 : t ρ = .ok (false, ρ)) : qes t u ρ = .ok (false, ρ) := by rw [qcI, h1]; rfl
theorem qlY {t u : M Bool} {ρ : Env} {b : Bool} (h1 : t ρ = .ok (true, ρ)) (h2 : u ρ = .ok (b, ρ)) : qes t u ρ = .ok (b, ρ) := by rw [qcI, h1]; exact h2
theorem yU {F : List D -> R D} {f g h : M D} {ρ : Env} {a b c d : D} (hf : f ρ = .ok (a, ρ)) (hg : g ρ = .ok (b, ρ)) (hh : h ρ = .ok (c, ρ)) (e : F [a, b, c] = .ok d) : qo F (qa f (qa g (qa h (ret [])))) ρ = .ok (d, ρ) := qlW hf hg hh e
theorem yV {i : Nat} {f : M D} {ρ ρ1 : Env} {d : D} (h : f ρ = .ok (d, ρ1)) : zM i f ρ = .ok (.nx (ρ1.set i (some d))) := by rw [qcJ, h]
theorem wx {f : M D} {ρ ρ1 : Env} {d : D} (h : f ρ = .ok (d, ρ1)) : yN f ρ = .ok (.rt d ρ1) := by rw [qbp, h]
theorem qgP {fr : List Nat} {e : M D} {ρ r : Env} (n : Nat) (d : D) (hn : n <= 1000) (hr : zN 1 fr ρ = none :: r) (h : ∀ i : Nat, i < n -> e (some (.int i) :: r) = .ok (d, some (.int i) :: r)) :
    qI 1 fr none (z9 (qa (ret (.int (n : Int))) (ret []))) (qf 0) (ret true) e ρ = .ok (.lst (List.replicate n d), ρ) := by
  have e1 : z9 (qa (ret (.int (n : Int))) (ret [])) ρ = .ok (wK 0 n, ρ) := by
    have := yF (l := qa (ret (.int (n : Int))) (ret [])) (ρ := ρ) (ρ1 := ρ) (j := (n : Int)) rfl (by omega) (by omega)
    rw [this, Int.toNat_natCast]
  rw [qc7 (r := r) (k := fun i : Nat => D.int (0 + (i : Nat))) (List.range n) (fun _ => d) (by rw [e1, qgO]) hr (by rw [List.length_range]; omega) fun i hi => ?_]
  . rw [List.map_const', List.length_range]
  . have := h i (List.mem_range.mp hi)
    rw [show ((0 : Int) + (i : Nat)) = (i : Int) by omega]
    exact this
theorem qkP {fr : List Nat} {e f : M D} {ρ r : Env} {p : MS} (n : Nat) (d x : D) (hn : n <= 1000) (hr : zN 1 fr ρ = none :: r) (h : ∀ i : Nat, i < n -> e (some (.int i) :: r) = .ok (d, some (.int i) :: r)) (hf : f ρ = .ok (x, ρ)) (hx : neB (.lst (List.replicate n d)) x = some (.bl false)) :
    sif (tst (d2 neB (qI 1 fr none (z9 (qa (ret (.int (n : Int))) (ret []))) (qf 0) (ret true) e) f)) p vz ρ = .ok (.nx ρ) :=
  qlh (yv (qx (qgP n d hn hr h) hf hx))
theorem qm9 {P : Nat -> Prop} (h0 : P 0) (h1 : P 1) (h2 : P 2) : ∀ i, i < 3 -> P i
  | 0, _ => h0
  | 1, _ => h1
  | 2, _ => h2
end Law
end L2.Sk
namespace L2.Sk.Law
def zy : List Kw -> Int -> List (List Int)
  | [], _ => [[]]
  | k :: ks, r => (List.range (ofn k r + 1)).flatMap fun t : Nat => (zy ks (r - (t : Int) * k.w)).map fun l => (t : Int) :: l
def mxZ : List Int -> Int
  | [] => 0
  | a :: l => l.foldl max a
theorem wy : ∀ (l : List Int) (a : Int), a <= l.foldl max a /\ (∀ x ∈ l, x <= l.foldl max a) /\ (l.foldl max a = a \/ l.foldl max a ∈ l)
  | [], a => ⟨Int.le_refl _, (fun _ h => by cases h), .inl rfl⟩
  | b :: l, a => by
    obtain ⟨h1, h2, h3⟩ := wy l (max a b)
    rw [List.foldl_cons]
    refine ⟨by omega, fun x hx => ?_, ?_⟩
    . rcases List.mem_cons.mp hx with rfl | hx
      . omega
      . exact h2 x hx
    . rcases h3 with h3 | h3
      . rw [h3]
        rcases Int.le_total a b with h | h
        . right; rw [Int.max_eq_right h]; exact List.mem_cons_self
        . left; exact Int.max_eq_left h
      . exact .inr (List.mem_cons_of_mem _ h3)
theorem qkQ {l : List Int} {x : Int} (h : x ∈ l) : x <= mxZ l := by
  cases l with
  | nil => cases h
  | cons a l =>
    obtain ⟨h1, h2, _⟩ := wy l a
    rcases List.mem_cons.mp h with rfl | h
    . exact h1
    . exact h2 x h
theorem qiW {l : List Int} (h : l ≠ []) : mxZ l ∈ l := by
  cases l with
  | nil => exact absurd rfl h
  | cons a l =>
    rcases (wy l a).2.2 with e | e
    . show l.foldl max a ∈ _
      rw [e]; exact List.mem_cons_self
    . exact List.mem_cons_of_mem _ e
end L2.Sk.Law
namespace L2.Sk.Law
def qi : List Kw -> List Int -> Int
  | k :: ks, t :: l => t * k.w + qi ks l
  | _, _ => 0
theorem vt (k : Kw) (t : Int) : ∀ (pre : List Kw) (ld : List Int), pre.length = ld.length -> qi (pre ++ [k]) (ld ++ [t]) = qi pre ld + t * k.w
  | [], [], _ => by simp [qi]
  | a :: pre, [], h => by simp at h
  | [], b :: ld, h => by simp at h
  | a :: pre, b :: ld, h => by
    have := vt k t pre ld (by simpa using h)
    simp only [List.cons_append, qi, this]
    omega
def qaa (k : Kw) : Prop := 1 <= k.w /\ 0 <= k.v /\ ∀ j, k.m = some j -> 0 <= j
def cei (k : Kw) (g : Int) : Int := (g + k.v - 1) / k.v
def enT (k : Kw) (g : Int) : Nat := if k.v = 0 then 0 else (match k.m with | none => cei k g | some j => if j < cei k g then j else cei k g).toNat
def glf (k : Kw) (t : Nat) (g : Int) : Int := max 0 (g - (t : Int) * k.v)
theorem qkR {k : Kw} (hv : 0 < k.v) (g : Int) : g <= cei k g * k.v := by
  unfold cei
  have h1 := Int.emod_add_mul_ediv (g + k.v - 1) k.v
  have h2 := Int.emod_lt_of_pos (g + k.v - 1) hv
  rw [Int.mul_comm] at h1
  omega
theorem qiX {k : Kw} (hv : 0 < k.v) {g : Int} (h0 : 0 <= g) : 0 <= cei k g := Int.ediv_nonneg (by omega) (by omega)
theorem qgQ {k : Kw} (hv : 0 < k.v) {g G : Int} (h : g <= G) : cei k g <= cei k G := Int.ediv_le_ediv hv (by omega)
theorem qiY {k : Kw} (hk : qaa k) {g G : Int} (h : g <= G) : enT k g <= enT k G := by
  unfold enT
  by_cases hv : k.v = 0
  . rw [if_pos hv, if_pos hv]
    exact Nat.le_refl _
  . rw [if_neg hv, if_neg hv]
    have := qgQ (k := k) (by have := hk.2.1; omega) h
    cases k.m with
    | none => show (cei k g).toNat <= (cei k G).toNat; omega
    | some j =>
      show (if j < cei k g then j else cei k g).toNat <= (if j < cei k G then j else cei k G).toNat
      split <;> split <;> omega
theorem qiZ {k : Kw} (hk : qaa k) {g G : Int} (h0 : 0 <= g) {t : Nat} (h1 : enT k g < t) (h2 : t <= enT k G) : glf k (enT k g) g = 0 := by
  by_cases hv : k.v = 0
  . unfold enT at h2
    rw [if_pos hv] at h2
    omega
  . have hv' : 0 < k.v := by have := hk.2.1; omega
    have hc := qiX hv' h0
    have e : ((enT k g : Nat) : Int) = cei k g := by
      unfold enT at h1 h2 |-
      rw [if_neg hv] at h1 h2 |-
      cases hm : k.m with
      | none => show ((cei k g).toNat : Int) = _; omega
      | some j =>
        rw [hm] at h1 h2
        have h1 : (if j < cei k g then j else cei k g).toNat < t := h1
        have h2 : t <= (if j < cei k G then j else cei k G).toNat := h2
        show ((if j < cei k g then j else cei k g).toNat : Int) = _
        split at h1 <;> split at h2 <;> omega
    have := qkR hv' g
    unfold glf
    rw [e]
    omega
theorem qfu {k : Kw} (hk : qaa k) {g G : Int} (h0 : 0 <= g) (h : g <= G) (t : Nat) : 0 <= glf k t g /\ glf k t g <= g := by
  unfold glf
  have : 0 <= (t : Int) * k.v := Int.mul_nonneg (by omega) hk.2.1
  omega
def mnO : List Int -> Option Int
  | [] => none
  | a :: l => some (l.foldl min a)
theorem wz : ∀ (l : List Int) (a : Int), l.foldl min a <= a /\ (∀ x ∈ l, l.foldl min a <= x) /\ (l.foldl min a = a \/ l.foldl min a ∈ l)
  | [], a => ⟨Int.le_refl _, (fun _ h => by cases h), .inl rfl⟩
  | b :: l, a => by
    obtain ⟨h1, h2, h3⟩ := wz l (min a b)
    rw [List.foldl_cons]
    refine ⟨by omega, fun x hx => ?_, ?_⟩
    . rcases List.mem_cons.mp hx with rfl | hx
      . omega
      . exact h2 x hx
    . rcases h3 with h3 | h3
      . rw [h3]
        rcases Int.le_total a b with h | h
        . left; exact Int.min_eq_left h
        . right; rw [Int.min_eq_right h]; exact List.mem_cons_self
      . exact .inr (List.mem_cons_of_mem _ h3)
theorem qhB {l : List Int} {x : Int} (h : x ∈ l) : ∃ m, mnO l = some m /\ m <= x := by
  cases l with
  | nil => cases h
  | cons a l =>
    obtain ⟨h1, h2, _⟩ := wz l a
    rcases List.mem_cons.mp h with rfl | h
    . exact ⟨_, rfl, h1⟩
    . exact ⟨_, rfl, h2 x h⟩
theorem qfv {l : List Int} {m : Int} (h : mnO l = some m) : m ∈ l := by
  cases l with
  | nil => cases h
  | cons a l =>
    have h : l.foldl min a = m := Option.some.inj h
    rcases (wz l a).2.2 with e | e
    . rw [h] at e
      rw [e]; exact List.mem_cons_self
    . rw [h] at e
      exact List.mem_cons_of_mem _ e
def ji : List Kw -> Int -> Option Int
  | [], g => if g = 0 then some 0 else none
  | k :: ks, g => mnO ((List.range (enT k g + 1)).filterMap fun t : Nat => (ji ks (glf k t g)).map fun h => (t : Int) * k.w + h)
def wwO (k : Kw) (ks : List Kw) (g : Int) (t : Nat) : Option Int := (ji ks (glf k t g)).map fun h => (t : Int) * k.w + h
theorem qab (k : Kw) (ks : List Kw) (g : Int) : ji (k :: ks) g = mnO ((List.range (enT k g + 1)).filterMap (wwO k ks g)) := by rw [ji]; rfl
theorem vf {k : Kw} {ks : List Kw} {g : Int} {t : Nat} (ht : t <= enT k g) {h' : Int} (e : ji ks (glf k t g) = some h') : ∃ h, ji (k :: ks) g = some h /\ h <= (t : Int) * k.w + h' := by
  rw [qab]
  refine qhB (List.mem_filterMap.mpr ⟨t, List.mem_range.mpr (by omega), ?_⟩)
  unfold wwO
  rw [e]
  rfl
theorem qgR {k : Kw} {ks : List Kw} {g h : Int} (e : ji (k :: ks) g = some h) : ∃ t, t <= enT k g /\ wwO k ks g t = some h := by
  rw [qab] at e
  obtain ⟨t, ht, et⟩ := List.mem_filterMap.mp (qfv e)
  exact ⟨t, by have := List.mem_range.mp ht; omega, et⟩
def leT (k : Kw) (ks : List Kw) (g : Int) : Nat := (List.range (enT k g + 1)).findIdx fun t : Nat => decide (wwO k ks g t = ji (k :: ks) g)
def qkS : List Kw -> Int -> List Int
  | [], _ => []
  | k :: ks, g => (leT k ks g : Int) :: qkS ks (glf k (leT k ks g) g)
theorem qgS {k : Kw} {ks : List Kw} {g h : Int} (e : ji (k :: ks) g = some h) : leT k ks g <= enT k g /\ wwO k ks g (leT k ks g) = some h /\ ∀ t, t < leT k ks g -> wwO k ks g t ≠ some h := by
  obtain ⟨t0, h0, e0⟩ := qgR e
  have hlt : leT k ks g < (List.range (enT k g + 1)).length := by
    unfold leT
    rw [List.findIdx_lt_length]
    exact ⟨t0, List.mem_range.mpr (by omega), decide_eq_true (by rw [e0, e])⟩
  rw [List.length_range] at hlt
  refine ⟨by omega, ?_, fun t ht => ?_⟩
  . have := List.findIdx_getElem (xs := List.range (enT k g + 1)) (p := fun t : Nat => decide (wwO k ks g t = ji (k :: ks) g)) (w := by rw [List.length_range]; exact hlt)
    have := of_decide_eq_true this
    rw [List.getElem_range] at this
    exact this.trans e
  . have hn := List.not_of_lt_findIdx (xs := List.range (enT k g + 1)) (p := fun t : Nat => decide (wwO k ks g t = ji (k :: ks) g)) (i := t) ht
    rw [List.getElem_range, e] at hn
    simpa using hn
def qfN : List Kw -> Int -> List (List Int)
  | [], _ => [[]]
  | k :: ks, G => (List.range (enT k G + 1)).flatMap fun t : Nat => (qfN ks G).map fun l => (t : Int) :: l
theorem qdb {k : Kw} {ks : List Kw} {G : Int} {l : List Int} (h : l ∈ qfN (k :: ks) G) : ∃ (t : Nat) (l' : List Int), t <= enT k G /\ l' ∈ qfN ks G /\ l = (t : Int) :: l' := by
  obtain ⟨t, ht, h2⟩ := List.mem_flatMap.mp h
  obtain ⟨l', hl', rfl⟩ := List.mem_map.mp h2
  exact ⟨t, l', by have := List.mem_range.mp ht; omega, hl', rfl⟩
theorem u3 : ∀ (ks : List Kw) (G : Int), (∀ k ∈ ks, qaa k) -> ∀ l ∈ qfN ks G, 0 <= ql ks l
  | [], G, _, l, h => by
    have : l = [] := List.mem_singleton.mp h
    subst this
    exact Int.le_refl _
  | k :: ks, G, hk, l, h => by
    obtain ⟨t, l', ht, hl', rfl⟩ := qdb h
    have := u3 ks G (fun x hx => hk x (List.mem_cons_of_mem _ hx)) l' hl'
    have h2 : 0 <= (t : Int) * k.v := Int.mul_nonneg (by omega) (hk k List.mem_cons_self).2.1
    show 0 <= (t : Int) * k.v + ql ks l'
    omega
theorem qaL : ∀ (ks : List Kw) (G g : Int), (∀ k ∈ ks, qaa k) -> 0 <= g -> g <= G -> ∀ l ∈ qfN ks G, g <= ql ks l -> ∃ h, ji ks g = some h /\ h <= qi ks l
  | [], G, g, _, h0, _, l, hl, hw => by
    have : l = [] := List.mem_singleton.mp hl
    subst this
    have hw : g <= 0 := hw
    have : g = 0 := by omega
    subst this
    exact ⟨0, by simp [ji], Int.le_refl _⟩
  | k :: ks, G, g, hk, h0, hG, l, hl, hw => by
    obtain ⟨t, l', ht, hl', rfl⟩ := qdb hl
    have gk := hk k List.mem_cons_self
    have hks := fun x hx => hk x (List.mem_cons_of_mem k hx)
    have wp := u3 ks G hks l' hl'
    have hw : g <= (t : Int) * k.v + ql ks l' := hw
    show ∃ h, ji (k :: ks) g = some h /\ h <= (t : Int) * k.w + qi ks l'
    by_cases hte : t <= enT k g
    . obtain ⟨a, b⟩ := qfu gk h0 hG t
      obtain ⟨h', e', le'⟩ := qaL ks G (glf k t g) hks a (by omega) l' hl' (by unfold glf; omega)
      obtain ⟨h, e, le⟩ := vf hte e'
      exact ⟨h, e, by omega⟩
    . have z := qiZ gk h0 (by omega) ht
      obtain ⟨h', e', le'⟩ := qaL ks G 0 hks (Int.le_refl _) (by omega) l' hl' wp
      rw [<- z] at e'
      obtain ⟨h, e, le⟩ := vf (Nat.le_refl _) e'
      have m : ((enT k g : Nat) : Int) * k.w <= (t : Int) * k.w := Int.mul_le_mul_of_nonneg_right (by omega) (by have := gk.1; omega)
      exact ⟨h, e, by omega⟩
theorem least_first : ∀ (ks : List Kw) (G g h : Int), (∀ k ∈ ks, qaa k) -> 0 <= g -> g <= G -> ji ks g = some h -> ∃ zQ, (qfN ks G).filter (fun l => decide (g <= ql ks l) && decide (qi ks l = h)) = qkS ks g :: zQ
  | [], G, g, h, _, h0, _, e => by
    have : g = 0 /\ h = 0 := by
      unfold ji at e
      split at e
      . exact ⟨by assumption, (Option.some.inj e).symm⟩
      . cases e
    obtain ⟨rfl, rfl⟩ := this
    exact ⟨[], rfl⟩
  | k :: ks, G, g, h, hk, h0, hG, e => by
    have gk := hk k List.mem_cons_self
    have hks := fun x hx => hk x (List.mem_cons_of_mem k hx)
    obtain ⟨h1, h2, h3⟩ := qgS e
    have hmono := qiY gk hG
    obtain ⟨h', e', eh⟩ : ∃ h', ji ks (glf k (leT k ks g) g) = some h' /\ (leT k ks g : Int) * k.w + h' = h := by
      unfold wwO at h2
      cases ec : ji ks (glf k (leT k ks g) g) with
      | none => rw [ec] at h2; cases h2
      | some h' => rw [ec] at h2; exact ⟨h', rfl, Option.some.inj h2⟩
    obtain ⟨a, b⟩ := qfu gk h0 hG (leT k ks g)
    obtain ⟨zQ, ih⟩ := least_first ks G _ h' hks a (by omega) e'
    have split : List.range (enT k G + 1) = List.range (leT k ks g) ++ (leT k ks g :: (List.range' (leT k ks g + 1) (enT k G - leT k ks g))) := by
      rw [List.range_eq_range', List.range_eq_range', <- List.range'_succ]
      have := List.range'_append_1 (s := 0) (m := leT k ks g) (n := enT k G - leT k ks g + 1)
      rw [Nat.zero_add] at this
      rw [this]
      congr 1
      omega
    simp only [qfN]
    rw [split, List.flatMap_append, List.flatMap_cons, List.filter_append, List.filter_append]
    have z : ((List.range (leT k ks g)).flatMap fun t : Nat => (qfN ks G).map fun l => (t : Int) :: l).filter (fun l => decide (g <= ql (k :: ks) l) && decide (qi (k :: ks) l = h)) = [] := by
      rw [List.filter_eq_nil_iff]
      intro l hl
      obtain ⟨t, ht, h4⟩ := List.mem_flatMap.mp hl
      obtain ⟨l', hl', rfl⟩ := List.mem_map.mp h4
      have ht := List.mem_range.mp ht
      have h5 := h3 t ht
      have wp := u3 ks G hks l' hl'
      intro hc
      rw [Bool.and_eq_true, decide_eq_true_eq, decide_eq_true_eq] at hc
      have hc1 : g <= (t : Int) * k.v + ql ks l' := hc.1
      have hc2 : (t : Int) * k.w + qi ks l' = h := hc.2
      obtain ⟨a2, b2⟩ := qfu gk h0 hG t
      obtain ⟨q, eq, leq⟩ := qaL ks G (glf k t g) hks a2 (by omega) l' hl' (by unfold glf; omega)
      obtain ⟨z, ez, lez⟩ := vf (k := k) (t := t) (by omega) eq
      rw [e] at ez
      cases ez
      refine h5 ?_
      unfold wwO
      rw [eq]
      show some ((t : Int) * k.w + q) = some h
      congr 1
      omega
    rw [z, List.nil_append, List.filter_map]
    have ee : (qfN ks G).filter ((fun l => decide (g <= ql (k :: ks) l) && decide (qi (k :: ks) l = h)) ∘ (fun l => (leT k ks g : Int) :: l)) = (qfN ks G).filter (fun l => decide (glf k (leT k ks g) g <= ql ks l) && decide (qi ks l = h')) := by
      refine List.filter_congr fun l hl => ?_
      have wp := u3 ks G hks l hl
      have e1 : ql (k :: ks) ((leT k ks g : Int) :: l) = (leT k ks g : Int) * k.v + ql ks l := rfl
      have e2 : qi (k :: ks) ((leT k ks g : Int) :: l) = (leT k ks g : Int) * k.w + qi ks l := rfl
      simp only [Function.comp_def, e1, e2, <- eh]
      congr 1
      . rw [decide_eq_decide]
        unfold glf
        omega
      . rw [decide_eq_decide]
        omega
    rw [ee, ih]
    exact ⟨_, rfl⟩
end L2.Sk.Law
namespace L2.Sk.Law
structure Sel (f : List Int -> Option Int) (le : Int -> Int -> Prop) : Prop where
  no : f [] = none
  is : ∀ l, l ≠ [] -> ∃ m, f l = some m /\ m ∈ l /\ ∀ x ∈ l, le m x
  add : ∀ {a b : Int} (c : Int), le a b -> le (c + a) (c + b)
  anti : ∀ {a b : Int}, le a b -> le b a -> a = b
  tr : ∀ {a b c : Int}, le a b -> le b c -> le a c
  rf : ∀ a : Int, le a a
def mxO : List Int -> Option Int
  | [] => none
  | a :: l => some (l.foldl max a)
theorem uG : Sel mnO (fun a b => a <= b) := by
  refine ⟨rfl, fun l hl => ?_, fun c h => by omega, fun h1 h2 => by omega, fun h1 h2 => by omega, fun a => Int.le_refl _⟩
  cases l with
  | nil => exact absurd rfl hl
  | cons a l =>
    refine ⟨_, rfl, qfv rfl, fun x hx => ?_⟩
    obtain ⟨m, e, h⟩ := qhB hx
    have e : l.foldl min a = m := Option.some.inj e
    rw [e]
    exact h
theorem ym : Sel mxO (fun a b => b <= a) := by
  refine ⟨rfl, fun l hl => ?_, fun c h => by omega, fun h1 h2 => by omega, fun h1 h2 => by omega, fun a => Int.le_refl _⟩
  cases l with
  | nil => exact absurd rfl hl
  | cons a l => exact ⟨_, rfl, qiW (l := a :: l) (by simp), fun x hx => qkQ (l := a :: l) hx⟩
section
variable {f : List Int -> Option Int} {le : Int -> Int -> Prop} (S : Sel f le)
theorem Sel.some_of (S : Sel f le) {l : List Int} {m : Int} (h : f l = some m) : m ∈ l /\ ∀ x ∈ l, le m x := by
  by_cases hl : l = []
  . subst hl
    rw [S.no] at h
    cases h
  . obtain ⟨m', e, h1, h2⟩ := S.is l hl
    rw [h] at e
    cases e
    exact ⟨h1, h2⟩
theorem Sel.mem_of (S : Sel f le) {l : List Int} {x : Int} (h : x ∈ l) : ∃ m, f l = some m /\ le m x := by
  obtain ⟨m, e, _, h2⟩ := S.is l (fun e => by rw [e] at h; cases h)
  exact ⟨m, e, h2 x h⟩
end
def fR (f : List Int -> Option Int) : List Kw -> Int -> Option Int
  | [], r => if r = 0 then some 0 else none
  | k :: ks, r => f ((List.range (ofn k r + 1)).filterMap fun t : Nat => (fR f ks (r - (t : Int) * k.w)).map fun h => (t : Int) * k.v + h)
def wF (f : List Int -> Option Int) (k : Kw) (ks : List Kw) (r : Int) (t : Nat) : Option Int := (fR f ks (r - (t : Int) * k.w)).map fun h => (t : Int) * k.v + h
theorem qaM (f : List Int -> Option Int) (k : Kw) (ks : List Kw) (r : Int) : fR f (k :: ks) r = f ((List.range (ofn k r + 1)).filterMap (wF f k ks r)) := by rw [fR]; rfl
theorem qfw {f : List Int -> Option Int} {le : Int -> Int -> Prop} (S : Sel f le) {k : Kw} {ks : List Kw} {r : Int} {t : Nat} (ht : t <= ofn k r) {h' : Int} (e : fR f ks (r - (t : Int) * k.w) = some h') : ∃ h, fR f (k :: ks) r = some h /\ le h ((t : Int) * k.v + h') := by
  rw [qaM]
  refine S.mem_of (List.mem_filterMap.mpr ⟨t, List.mem_range.mpr (by omega), ?_⟩)
  unfold wF
  rw [e]
  rfl
theorem qlZ {f : List Int -> Option Int} {le : Int -> Int -> Prop} (S : Sel f le) {k : Kw} {ks : List Kw} {r h : Int} (e : fR f (k :: ks) r = some h) : ∃ t, t <= ofn k r /\ wF f k ks r t = some h := by
  rw [qaM] at e
  obtain ⟨t, ht, et⟩ := List.mem_filterMap.mp (S.some_of e).1
  exact ⟨t, by have := List.mem_range.mp ht; omega, et⟩
def fT (f : List Int -> Option Int) (k : Kw) (ks : List Kw) (r : Int) : Nat := (List.range (ofn k r + 1)).findIdx fun t : Nat => decide (wF f k ks r t = fR f (k :: ks) r)
def yn (f : List Int -> Option Int) : List Kw -> Int -> List Int
  | [], _ => []
  | k :: ks, r => (fT f k ks r : Int) :: yn f ks (r - (fT f k ks r : Int) * k.w)
theorem qci {f : List Int -> Option Int} {le : Int -> Int -> Prop} (S : Sel f le) {k : Kw} {ks : List Kw} {r h : Int} (e : fR f (k :: ks) r = some h) : fT f k ks r <= ofn k r /\ wF f k ks r (fT f k ks r) = some h /\ ∀ t, t < fT f k ks r -> wF f k ks r t ≠ some h := by
  obtain ⟨t0, h0, e0⟩ := qlZ S e
  have hlt : fT f k ks r < (List.range (ofn k r + 1)).length := by
    unfold fT
    rw [List.findIdx_lt_length]
    exact ⟨t0, List.mem_range.mpr (by omega), decide_eq_true (by rw [e0, e])⟩
  rw [List.length_range] at hlt
  refine ⟨by omega, ?_, fun t ht => ?_⟩
  . have := List.findIdx_getElem (xs := List.range (ofn k r + 1)) (p := fun t : Nat => decide (wF f k ks r t = fR f (k :: ks) r)) (w := by rw [List.length_range]; exact hlt)
    have := of_decide_eq_true this
    rw [List.getElem_range] at this
    exact this.trans e
  . have hn := List.not_of_lt_findIdx (xs := List.range (ofn k r + 1)) (p := fun t : Nat => decide (wF f k ks r t = fR f (k :: ks) r)) (i := t) ht
    rw [List.getElem_range, e] at hn
    simpa using hn
theorem u4 {k : Kw} {ks : List Kw} {r : Int} {l : List Int} : l ∈ zy (k :: ks) r ↔ ∃ (t : Nat) (l' : List Int), t <= ofn k r /\ l' ∈ zy ks (r - (t : Int) * k.w) /\ l = (t : Int) :: l' := by
  constructor
  . intro h
    obtain ⟨t, ht, h2⟩ := List.mem_flatMap.mp h
    obtain ⟨l', hl', rfl⟩ := List.mem_map.mp h2
    exact ⟨t, l', by have := List.mem_range.mp ht; omega, hl', rfl⟩
  . rintro ⟨t, l', ht, hl', rfl⟩
    exact List.mem_flatMap.mpr ⟨t, List.mem_range.mpr (by omega), List.mem_map.mpr ⟨l', hl', rfl⟩⟩
theorem qcj {f : List Int -> Option Int} {le : Int -> Int -> Prop} (S : Sel f le) : ∀ (ks : List Kw) (r : Int), ∀ l ∈ zy ks r, qi ks l = r -> ∃ h, fR f ks r = some h /\ le h (ql ks l)
  | [], r, l, hl, hw => by
    have : l = [] := List.mem_singleton.mp hl
    subst this
    have hw : (0 : Int) = r := hw
    subst hw
    exact ⟨0, by simp [fR], S.rf _⟩
  | k :: ks, r, l, hl, hw => by
    obtain ⟨t, l', ht, hl', rfl⟩ := u4.mp hl
    have hw : (t : Int) * k.w + qi ks l' = r := hw
    obtain ⟨h', e', le'⟩ := qcj S ks _ l' hl' (by omega)
    obtain ⟨h, e, q⟩ := qfw S ht e'
    exact ⟨h, e, S.tr q (S.add _ le')⟩
theorem qaN {f : List Int -> Option Int} {le : Int -> Int -> Prop} (S : Sel f le) : ∀ (ks : List Kw) (r h : Int), fR f ks r = some h -> ∃ zQ, (zy ks r).filter (fun l => decide (qi ks l = r) && decide (ql ks l = h)) = yn f ks r :: zQ
  | [], r, h, e => by
    have : r = 0 /\ h = 0 := by
      unfold fR at e
      split at e
      . exact ⟨by assumption, (Option.some.inj e).symm⟩
      . cases e
    obtain ⟨rfl, rfl⟩ := this
    exact ⟨[], rfl⟩
  | k :: ks, r, h, e => by
    obtain ⟨h1, h2, h3⟩ := qci S e
    obtain ⟨h', e', eh⟩ : ∃ h', fR f ks (r - (fT f k ks r : Int) * k.w) = some h' /\ (fT f k ks r : Int) * k.v + h' = h := by
      unfold wF at h2
      cases ec : fR f ks (r - (fT f k ks r : Int) * k.w) with
      | none => rw [ec] at h2; cases h2
      | some h' => rw [ec] at h2; exact ⟨h', rfl, Option.some.inj h2⟩
    obtain ⟨zQ, ih⟩ := qaN S ks _ h' e'
    have split : List.range (ofn k r + 1) = List.range (fT f k ks r) ++ (fT f k ks r :: (List.range' (fT f k ks r + 1) (ofn k r - fT f k ks r))) := by
      rw [List.range_eq_range', List.range_eq_range', <- List.range'_succ]
      have := List.range'_append_1 (s := 0) (m := fT f k ks r) (n := ofn k r - fT f k ks r + 1)
      rw [Nat.zero_add] at this
      rw [this]
      congr 1
      omega
    simp only [zy]
    rw [split, List.flatMap_append, List.flatMap_cons, List.filter_append, List.filter_append]
    have z : ((List.range (fT f k ks r)).flatMap fun t : Nat => (zy ks (r - (t : Int) * k.w)).map fun l => (t : Int) :: l).filter (fun l => decide (qi (k :: ks) l = r) && decide (ql (k :: ks) l = h)) = [] := by
      rw [List.filter_eq_nil_iff]
      intro l hl
      obtain ⟨t, ht, h4⟩ := List.mem_flatMap.mp hl
      obtain ⟨l', hl', rfl⟩ := List.mem_map.mp h4
      have ht := List.mem_range.mp ht
      have h5 := h3 t ht
      intro hc
      rw [Bool.and_eq_true, decide_eq_true_eq, decide_eq_true_eq] at hc
      have hc1 : (t : Int) * k.w + qi ks l' = r := hc.1
      have hc2 : (t : Int) * k.v + ql ks l' = h := hc.2
      obtain ⟨q, eq, leq⟩ := qcj S ks _ l' hl' (show qi ks l' = r - (t : Int) * k.w by omega)
      obtain ⟨z, ez, lez⟩ := qfw S (k := k) (t := t) (show t <= ofn k r by omega) eq
      rw [e] at ez
      cases ez
      refine h5 ?_
      unfold wF
      rw [eq]
      show some ((t : Int) * k.v + q) = some h
      congr 1
      have : le ((t : Int) * k.v + q) ((t : Int) * k.v + ql ks l') := S.add _ leq
      rw [hc2] at this
      exact S.anti this lez
    rw [z, List.nil_append, List.filter_map]
    have ee : (fun l => decide (qi (k :: ks) l = r) && decide (ql (k :: ks) l = h)) ∘ (fun l => (fT f k ks r : Int) :: l) = (fun l => decide (qi ks l = r - (fT f k ks r : Int) * k.w) && decide (ql ks l = h')) := by
      funext l
      have e1 : ql (k :: ks) ((fT f k ks r : Int) :: l) = (fT f k ks r : Int) * k.v + ql ks l := rfl
      have e2 : qi (k :: ks) ((fT f k ks r : Int) :: l) = (fT f k ks r : Int) * k.w + qi ks l := rfl
      simp only [Function.comp_def, e1, e2, <- eh]
      congr 1
      . rw [decide_eq_decide]
        omega
      . rw [decide_eq_decide]
        omega
    rw [ee, ih]
    exact ⟨_, rfl⟩
def qgT : List Kw -> List Int -> Prop
  | [], [] => True
  | k :: ks, t :: l => 0 <= t /\ (∀ j, k.m = some j -> t <= j) /\ qgT ks l
  | _, _ => False
theorem qck : ∀ (ks : List Kw) (l : List Int), qgT ks l -> ks.length = l.length
  | [], [], _ => rfl
  | k :: ks, t :: l, h => by rw [List.length_cons, List.length_cons, qck ks l h.2.2]
  | [], t :: l, h => h.elim
  | k :: ks, [], h => h.elim
theorem vg : ∀ (ks : List Kw) (l : List Int), (∀ k ∈ ks, ww k) -> qgT ks l -> 0 <= qi ks l
  | [], [], _, _ => Int.le_refl _
  | k :: ks, t :: l, hk, h => by
    have := vg ks l (fun x hx => hk x (List.mem_cons_of_mem _ hx)) h.2.2
    have h2 : 0 <= t * k.w := Int.mul_nonneg h.1 (by have := (hk k List.mem_cons_self).1; omega)
    show 0 <= t * k.w + qi ks l
    omega
  | [], t :: l, _, h => h.elim
  | k :: ks, [], _, h => h.elim
theorem yW : ∀ (ks : List Kw) (r : Int) (l : List Int), (∀ k ∈ ks, ww k) -> 0 <= r -> qi ks l = r -> (l ∈ zy ks r ↔ qgT ks l)
  | [], r, l, _, _, _ => by
    cases l with
    | nil => exact ⟨fun _ => trivial, fun _ => List.mem_singleton.mpr rfl⟩
    | cons a l => exact ⟨(fun h => by have := List.mem_singleton.mp h; cases this), fun h => h.elim⟩
  | k :: ks, r, [], _, _, _ => ⟨(fun h => by obtain ⟨t, l', _, _, e⟩ := u4.mp h; cases e), fun h => h.elim⟩
  | k :: ks, r, t :: l, hk, h0, hw => by
    have gk := hk k List.mem_cons_self
    have hks := fun x hx => hk x (List.mem_cons_of_mem k hx)
    have hw : t * k.w + qi ks l = r := hw
    constructor
    . intro h
      obtain ⟨n, l', hn, hl', e⟩ := u4.mp h
      obtain ⟨rfl, rfl⟩ := List.cons.inj e
      have ok := qaK gk.1 gk.2 h0 n
      rw [decide_eq_true hn] at ok
      unfold okT at ok
      rw [Bool.and_eq_true, decide_eq_true_eq] at ok
      refine ⟨by omega, fun j ej => ?_, (yW ks _ l hks (by have := ok.1; omega) (by omega)).mp hl'⟩
      have := ok.2
      rw [ej] at this
      exact of_decide_eq_true this
    . intro h
      have wn := vg ks l hks h.2.2
      have ht : ((t.toNat : Nat) : Int) = t := by have := h.1; omega
      refine u4.mpr ⟨t.toNat, l, ?_, ?_, by rw [ht]⟩
      . have ok : okT k t.toNat r = true := by
          unfold okT
          rw [Bool.and_eq_true, decide_eq_true_eq, ht]
          refine ⟨by omega, ?_⟩
          cases em : k.m with
          | none => rfl
          | some j => exact decide_eq_true (h.2.1 j em)
        rw [qaK gk.1 gk.2 h0] at ok
        exact of_decide_eq_true ok
      . rw [ht]
        exact (yW ks _ l hks (by omega) (by omega)).mpr h.2.2
theorem qdc (k : Kw) (t : Int) : ∀ (ks : List Kw) (l : List Int), qgT ks l -> 0 <= t -> (∀ j, k.m = some j -> t <= j) -> qgT (ks ++ [k]) (l ++ [t])
  | [], [], _, h1, h2 => ⟨h1, h2, trivial⟩
  | a :: ks, b :: l, h, h1, h2 => ⟨h.1, h.2.1, qdc k t ks l h.2.2 h1 h2⟩
  | [], b :: l, h, _, _ => h.elim
  | a :: ks, [], h, _, _ => h.elim
theorem qfx : ∀ (ks : List Kw) (l : List Int), qgT ks l -> qgT ks.reverse l.reverse /\ qi ks.reverse l.reverse = qi ks l /\ ql ks.reverse l.reverse = ql ks l
  | [], [], _ => ⟨trivial, rfl, rfl⟩
  | k :: ks, t :: l, h => by
    obtain ⟨a, b, c⟩ := qfx ks l h.2.2
    have ln := qck _ _ a
    rw [List.reverse_cons, List.reverse_cons]
    refine ⟨qdc k t _ _ a h.1 h.2.1, ?_, ?_⟩
    . rw [vt k t _ _ ln, b]
      show qi ks l + t * k.w = t * k.w + qi ks l
      omega
    . rw [wv k t _ _ ln, c]
      show ql ks l + t * k.v = t * k.v + ql ks l
      omega
  | [], t :: l, h => h.elim
  | k :: ks, [], h => h.elim
theorem vh {f : List Int -> Option Int} {le : Int -> Int -> Prop} (S : Sel f le) {ks : List Kw} {r h : Int} (e : fR f ks r = some h) : yn f ks r ∈ zy ks r /\ qi ks (yn f ks r) = r /\ ql ks (yn f ks r) = h := by
  obtain ⟨zQ, q⟩ := qaN S ks r h e
  have : yn f ks r ∈ (zy ks r).filter (fun l => decide (qi ks l = r) && decide (ql ks l = h)) := by rw [q]; exact List.mem_cons_self
  obtain ⟨a, b⟩ := List.mem_filter.mp this
  rw [Bool.and_eq_true, decide_eq_true_eq, decide_eq_true_eq] at b
  exact ⟨a, b.1, b.2⟩
theorem qcl {f : List Int -> Option Int} {le : Int -> Int -> Prop} (S : Sel f le) {ks : List Kw} (hk : ∀ k ∈ ks, ww k) {r : Int} (h0 : 0 <= r) {h : Int} (e : fR f ks r = some h) : ∃ h', fR f ks.reverse r = some h' /\ le h' h := by
  obtain ⟨a, b, c⟩ := vh S e
  have v := (yW ks r _ hk h0 b).mp a
  obtain ⟨v1, v2, v3⟩ := qfx ks _ v
  have hkr : ∀ k ∈ ks.reverse, ww k := fun k hx => hk k (List.mem_reverse.mp hx)
  obtain ⟨h', e', q⟩ := qcj S ks.reverse r _ ((yW ks.reverse r _ hkr h0 (v2.trans b)).mpr v1) (v2.trans b)
  rw [v3, c] at q
  exact ⟨h', e', q⟩
theorem qkT {f : List Int -> Option Int} {le : Int -> Int -> Prop} (S : Sel f le) {ks : List Kw} (hk : ∀ k ∈ ks, ww k) {r : Int} (h0 : 0 <= r) : fR f ks.reverse r = fR f ks r := by
  have hkr : ∀ k ∈ ks.reverse, ww k := fun k hx => hk k (List.mem_reverse.mp hx)
  cases e : fR f ks r with
  | some h =>
    obtain ⟨h', e', q⟩ := qcl S hk h0 e
    obtain ⟨h2, e2, q2⟩ := qcl S hkr h0 e'
    rw [List.reverse_reverse, e] at e2
    cases e2
    rw [e', S.anti q q2]
  | none =>
    cases e' : fR f ks.reverse r with
    | none => rfl
    | some h' =>
      obtain ⟨h2, e2, q2⟩ := qcl S hkr h0 e'
      rw [List.reverse_reverse, e] at e2
      cases e2
end L2.Sk.Law
namespace L2.Sk
namespace Law
open PySem PySem.Spec PyProof.Rows
def top (i : Nat) : Stmt := PySem.Challenge.pw_sackloads_k52_fills.main.body.getD i (.Pass ⟨0, 0, 0, 0⟩)
abbrev jn : Stmt := top 27
abbrev zL : Stmt := top 22
abbrev qP : Stmt := top 30
abbrev z4 : Stmt := top 28
abbrev qK : Stmt := top 31
abbrev jo : Stmt := top 25
abbrev jJ : Stmt := top 16
abbrev jK : Stmt := top 17
abbrev zA : Stmt := top 21
abbrev yw : Stmt := top 18
abbrev jp : Stmt := top 19
abbrev zB : Stmt := top 20
abbrev zC : Stmt := top 26
abbrev qJ : Stmt := top 34
abbrev qL : Stmt := top 35
abbrev zW : Stmt := top 32
abbrev wA : Stmt := top 36
abbrev qZ : Stmt := top 33
abbrev zd : Stmt := top 42
abbrev zD : Stmt := top 43
abbrev zX : Stmt := top 44
abbrev z5 : Stmt := top 41
abbrev jq : Stmt := top 39
abbrev z6 : Stmt := top 40
abbrev jL : Stmt := top 38
abbrev ui : Stmt := top 45
structure Txt (K : PySem.W.Frag) (mg : Str -> Option Value) : Prop where
  b_ValueError : mg "ValueError" = none
  b_all : mg "all" = none
  b_bool : mg "bool" = none
  b_divmod : mg "divmod" = none
  b_enumerate : mg "enumerate" = none
  b_int : mg "int" = none
  b_isinstance : mg "isinstance" = none
  b_len : mg "len" = none
  b_max : mg "max" = none
  b_min : mg "min" = none
  b_range : mg "range" = none
  b_repr : mg "repr" = none
  b_reversed : mg "reversed" = none
  b_tuple : mg "tuple" = none
  c_ASKED_AT_MOST : ∃ t, mg "ASKED_AT_MOST" = some (.int 200 t)
  c_KINDS_AT_MOST : ∃ t, mg "KINDS_AT_MOST" = some (.int 12 t)
  c_MOST : ∃ t, mg "MOST" = some (.int 2 t)
  c_WEIGHT : ∃ t, mg "WEIGHT" = some (.int 0 t)
  c_WORTH : ∃ t, mg "WORTH" = some (.int 1 t)
def RN : List Str := ["TooMany", "NoNumber", "NoStore"]
def TN : List Str := ["SackError", "NoText", "NoLine", "NoKind", "NotEndless", "NotSingle", "TooMany", "NoLoad", "NoNumber", "NoStore"]
noncomputable def yG : MS :=
    (yN (d2 qlJ (dv 2) (d2 jv (dv 1) (d2 ixD (dv 0) (ret (.int 0))))))
noncomputable def zE : List D -> R D := dfn 3 3 yG
noncomputable def jE : MS :=
    (qM (zM 2 (d2 qex (dv 1) (d2 ixD (dv 0) (ret (.int 0)))))
    (yN (dif (tst (d2 isN (d2 ixD (dv 0) (ret (.int 2))) (ret .non))) (dv 2) (qW qbe (qa (dv 2) (qa (d2 ixD (dv 0) (ret (.int 2))) (ret [])))))))
noncomputable def jF : List D -> R D := dfn 3 2 jE
noncomputable def je : MS :=
    (qM (zM 3 (qo jF (qa (dv 0) (qa (dv 2) (ret [])))))
    (yN (qI 1 [1, 0, 2] none (z9 (qa (d2 zm (dv 3) (ret (.int 1))) (ret []))) (qf 0) (tst (d2 qlc (d2 ixD (dv 1) (qo zE (qa (dv 2) (qa (dv 0) (qa (dv 3) (ret [])))))) (ret .non))) (dv 0))))
noncomputable def zF : List D -> R D := dfn 4 3 je
noncomputable def j7 : MS :=
    (yN (d2 zm (d2 jv (dv 1) (d2 ixD (dv 0) (ret (.int 1)))) (d2 ixD (dv 2) (qo zE (qa (dv 0) (qa (dv 1) (qa (dv 3) (ret []))))))))
noncomputable def zG : List D -> R D := dfn 4 4 j7
noncomputable def zS : MS :=
    (yN (qI 1 [0, 1, 2] none (yK (qo zF (qa (dv 0) (qa (dv 1) (qa (dv 2) (ret [])))))) (qf 0) (ret true) (qo zG (qa (dv 1) (qa (dv 0) (qa (dv 2) (qa (dv 3) (ret []))))))))
noncomputable def qA : List D -> R D := dfn 3 3 zS
noncomputable def ua : MS :=
    (sif (tst (d2 gtD (dv 0) (ret (.int 200)))) (wY "TooMany" (qa (ret (.str "a room or a worth greater than 200 is asked for")) (ret []))) vz)
noncomputable def ub : List D -> R D := wM 1 1 ua
noncomputable def uc : MS :=
    (yN (qjd (qic "int" (dv 0)) (qlb (qic "bool" (dv 0)))))
noncomputable def ud : List D -> R D := dfn 1 1 uc
noncomputable def ue : MS :=
    (yN (qjd (qo ud (qa (dv 0) (ret []))) (d2 geD (dv 0) (ret (.int 0)))))
noncomputable def jr : List D -> R D := dfn 1 1 ue
noncomputable def j8 : MS :=
    (sif (qfK (tst (qo jr (qa (dv 0) (ret []))))) (wY "NoNumber" (qa (ret (.str "this is no whole number from 0 on")) (ret []))) vz)
noncomputable def j9 : List D -> R D := wM 1 1 j8
noncomputable def u5 : MS :=
    (qM (sif (tor (qfK (tst (qic "tuple" (dv 0)))) (tst (d2 neB (qW qfL (qa (dv 0) (ret []))) (ret (.int 3))))) (yN (ret (.bl false))) vz)
    (qM (sif (tor (qfK (tst (qo jr (qa (d2 ixD (dv 0) (ret (.int 0))) (ret []))))) (tst (d2 eqB (d2 ixD (dv 0) (ret (.int 0))) (ret (.int 0))))) (yN (ret (.bl false))) vz)
    (yN (qjd (qo jr (qa (d2 ixD (dv 0) (ret (.int 1))) (ret []))) (dor (d2 isN (d2 ixD (dv 0) (ret (.int 2))) (ret .non)) (qo jr (qa (d2 ixD (dv 0) (ret (.int 2))) (ret []))))))))
noncomputable def yX : List D -> R D := dfn 1 1 u5
noncomputable def uf : MS :=
    (qM (sif (tor (qfK (tst (qic "tuple" (dv 0)))) (tst (d2 gtD (qW qfL (qa (dv 0) (ret []))) (ret (.int 12))))) (yN (ret (.bl false))) vz)
    (yN (qW qjg (qa (qI 1 [] none (yK (dv 0)) (qf 0) (ret true) (qo yX (qa (dv 0) (ret [])))) (ret [])))))
noncomputable def ug : List D -> R D := dfn 1 1 uf
noncomputable def ya : MS :=
    (sif (qfK (tst (qo ug (qa (dv 0) (ret []))))) (wY "NoStore" (qa (ret (.str "this is no store")) (ret []))) vz)
noncomputable def yb : List D -> R D := wM 1 1 ya
noncomputable def yc : MS :=
    (qM (jk (j6 RN yb (qa (dv 0) (ret []))))
    (qM (jk (j6 RN j9 (qa (dv 1) (ret []))))
    (jk (j6 RN ub (qa (dv 1) (ret []))))))
noncomputable def zH : List D -> R D := wM 2 2 yc
noncomputable def jf : MS :=
    (qM (jk (j6 RN zH (qa (dv 0) (qa (dv 1) (ret [])))))
    (qM (zM 2 (d2 zm (jO (qa (ret (.int 0)) (ret []))) (d2 jv (jO (qa (ret .non) (ret []))) (dv 1))))
    (qM (qdx (yK (dv 0)) (qf 3) (zM 2 (qI 1 [3, 2] none (z9 (qa (d2 zm (dv 1) (ret (.int 1))) (ret []))) (qf 0) (ret true) (yR qce (qa (qo qA (qa (dv 1) (qa (dv 2) (qa (dv 0) (ret []))))) (ret [])) (qa (ret .non) (ret []))))))
    (yN (d2 ixD (dv 2) (dv 1))))))
noncomputable def jg : List D -> R D := wM 4 2 jf
noncomputable def zT : MS :=
    (qM (zM 4 (qo zF (qa (dv 0) (qa (dv 2) (qa (dv 3) (ret []))))))
    (yN (d2 ixD (qI 1 [1, 0, 2, 3] none (yK (dv 4)) (qf 0) (tst (d2 eqB (qo zG (qa (dv 2) (qa (dv 0) (qa (dv 3) (qa (dv 4) (ret [])))))) (dv 1))) (dv 0)) (ret (.int 0)))))
noncomputable def qU : List D -> R D := dfn 5 4 zT
noncomputable def yH : MS :=
    (qM (uC 2 (qgz (qa (d2 zm (jO (qa (ret (.int 0)) (ret []))) (d2 jv (jO (qa (ret .non) (ret []))) (dv 1))) (ret []))))
    (qM (qdx (qkG (qa (dv 0) (ret []))) (qf 3) (jk (yS 2 (qI 1 [3, 2] (some (2, 2)) (z9 (qa (d2 zm (dv 1) (ret (.int 1))) (ret []))) (qf 0) (ret true) (yR qcd (qa (qo qA (qa (dv 1) (qa (qgf 2 (ret (.int 0))) (qa (dv 0) (ret []))))) (ret [])) (qa (ret .non) (ret [])))))))
    (qih 2)))
noncomputable def js : List D -> R D := dfn 4 2 yH
noncomputable def qbI : MS :=
    (qM (jk (j6 RN zH (qa (dv 0) (qa (dv 1) (ret [])))))
    (qM (zM 2 (qo js (qa (dv 0) (qa (dv 1) (ret [])))))
    (qM (sif (tst (d2 isN (d2 ixD (d2 ixD (dv 2) (ret (.int 0))) (dv 1)) (ret .non))) (yN (ret .non)) vz)
    (qM (uC 3 (qhb (ret [])))
    (qM (zM 4 (dv 1))
    (qM (qdx (qeT (qa (dv 0) (ret []))) (yj 2 (qj (qf 5) (qj (qf 6) yi))) (qM (zM 7 (qo qU (qa (dv 6) (qa (d2 ixD (d2 ixD (dv 2) (dv 5)) (dv 4)) (qa (d2 ixD (dv 2) (d2 zm (dv 5) (ret (.int 1)))) (qa (dv 4) (ret [])))))))
    (qM (jk (zx 3 (dv 7)))
    (zM 4 (qo zE (qa (dv 6) (qa (dv 7) (qa (dv 4) (ret [])))))))))
    (yN (qdz 3))))))))
noncomputable def qdd : List D -> R D := wM 8 2 qbI
noncomputable def jx : MS :=
    (qM (jk (j6 RN zH (qa (dv 0) (qa (dv 1) (ret [])))))
    (yN (d2 ixD (d2 ixD (qo js (qa (dv 0) (qa (dv 1) (ret [])))) (ret (.int 0))) (dv 1))))
noncomputable def jy : List D -> R D := wM 2 2 jx
noncomputable def yo : MS :=
    (qM (zM 1 (jO (qa (qbV RN "NoStore" (dv 0)) (qa (qbV RN "NoNumber" (dv 0)) (qa (qbV RN "NoLoad" (dv 0)) (qa (qbV RN "TooMany" (dv 0)) (ret [])))))))
    (qM (zM 1 (d2 zm (dv 1) (jO (qa (qbV RN "NotSingle" (dv 0)) (qa (qbV RN "NotEndless" (dv 0)) (qa (qbV RN "NoKind" (dv 0)) (ret [])))))))
    (yN (d2 zm (dv 1) (jO (qa (qbV RN "NoLine" (dv 0)) (qa (qbV RN "NoText" (dv 0)) (ret []))))))))
noncomputable def uv : List D -> R D := dfn 2 1 yo
noncomputable def uH : MS :=
    (qM (sif (tor (qfK (tst (qbV RN "SackError" (dv 0)))) (qfK (tst (qbV RN "ValueError" (dv 0))))) (yN (ret (.bl false))) vz)
    (yN (d2 eqB (qo uv (qa (dv 0) (ret []))) (qI 1 [1] none (z9 (qa (ret (.int 9)) (ret []))) (qf 0) (ret true) (d2 eqB (dv 0) (dv 1))))))
noncomputable def wB : List D -> R D := dfn 2 2 uH
noncomputable def jt : MS :=
    (wN RN 4 3 (qM (sif (tst (d2 eqB (dv 0) (ret (.int 0)))) (yN (j6 RN jy (qa (dv 1) (qa (dv 2) (ret []))))) vz)
    (yN (dif (tst (d2 eqB (dv 0) (ret (.int 1)))) (j6 RN jg (qa (dv 1) (qa (dv 2) (ret [])))) (j6 RN qdd (qa (dv 1) (qa (dv 2) (ret []))))))) (qI 1 [3] none (z9 (qa (ret (.int 9)) (ret []))) (qf 0) (tst (qo wB (qa (dv 1) (qa (dv 0) (ret []))))) (dv 0)))
noncomputable def qE : List D -> R D := dfn 4 3 jt
noncomputable def yd : MS :=
    (qM (zM 2 (jO (qa (yO (qa (yO (ret [])) (qa (ret (.int 0)) (qa (ret (.int 0)) (ret []))))) (ret []))))
    (qM (qdx (yK (dv 0)) (yj 3 (qj (qf 3) (qj (qf 4) (qj (qf 5) yi)))) (qM (uC 6 (qhb (ret [])))
    (qM (qdx (yK (dv 2)) (yj 3 (qj (qf 7) (qj (qf 8) (qj (qf 9) yi)))) (qM (zM 10 (ret (.int 0)))
    (uV (qes (tst (d2 leD (d2 zm (dv 8) (d2 jv (dv 10) (dv 3))) (dv 1))) (tor (tst (d2 isN (dv 5) (ret .non))) (tst (d2 leD (dv 10) (dv 5))))) (qM (jk (zx 6 (yO (qa (d2 zm (dv 7) (yO (qa (dv 10) (ret [])))) (qa (d2 zm (dv 8) (d2 jv (dv 10) (dv 3))) (qa (d2 zm (dv 9) (d2 jv (dv 10) (dv 4))) (ret [])))))))
    (zM 10 (d2 zm (dv 10) (ret (.int 1))))))))
    (qfh 2 6))))
    (yN (dv 2))))
noncomputable def zj : List D -> R D := dfn 11 2 yd
noncomputable def yI : MS :=
    (qM (qg1 (qW vV (qa (qgf 0 (ret (.int 0))) (qa (dv 1) (ret [])))) (yj 2 (qj (qf 2) (qj (qf 3) yi))))
    (qM (qgd 0 (ret (.int 0)) (dv 2))
    (yN (dv 3))))
noncomputable def qt : List D -> List D -> R (D × List D) := qao 4 2 yI
noncomputable def ye : MS :=
    (qM (uC 2 (qhb (ret [])))
    (qM (qdx (z9 (qa (qO qt 0 (qa (d2 zm (dv 1) (ret (.int 1))) (ret []))) (ret []))) (qf 3) (qM (qjh 4 5 (qa (d2 zm (ret (.int 1)) (qO qt 0 (qa (ret (.int 9)) (ret [])))) (qa (qO qt 0 (qa (ret (.int 10)) (ret []))) (ret []))))
    (jk (zx 2 (yO (qa (dv 4) (qa (dv 5) (qa (d2 ixD (jO (qa (ret .non) (qa (ret (.int 0)) (qa (ret (.int 1)) (qa (ret (.int 1)) (qa (ret (.int 2)) (qa (ret (.int 3)) (qa (ret (.int 5)) (ret []))))))))) (qO qt 0 (qa (ret (.int 7)) (ret [])))) (ret [])))))))))
    (yN (qdz 2))))
noncomputable def zI : List D -> List D -> R (D × List D) := qao 6 2 ye
noncomputable def yx : MS :=
    (qM (zM 2 (d2 zm (d2 jv (ret (.int 7919)) (dv 1)) (ret (.int 13))))
    (qM (sif (tst (d2 ltD (dv 1) (qW qfL (qa (dv 0) (ret []))))) (zM 2 (d2 ixD (dv 0) (dv 1))) vz)
    (qM (sif (tst (d2 eqB (d2 qbT (dv 2) (ret (.int 2))) (ret (.int 0)))) (yN (jO (qa (d2 qex (dv 2) (ret (.int 2))) (ret [])))) vz)
    (qM (zM 3 (ret (.int 0)))
    (qM (qdx (z9 (qa (ret (.int 16)) (ret []))) (qf 4) (qM (zM 5 (d2 qbT (d2 zm (d2 zm (d2 jv (d2 qbT (dv 2) (ret (.int 2147483647))) (ret (.int 48271))) (d2 jv (ret (.int 7919)) (dv 4))) (ret (.int 1))) (ret (.int 2147483647))))
    (qM (zM 5 (d2 qbT (d2 jv (dv 5) (dv 5)) (ret (.int 2147483629))))
    (zM 3 (d2 zm (d2 jv (dv 3) (ret (.int 2147483647))) (d2 qbT (d2 jv (dv 5) (d2 zm (dv 5) (ret (.int 13)))) (ret (.int 2147483647))))))))
    (yN (jO (qa (dv 3) (ret [])))))))))
noncomputable def z7 : List D -> R D := dfn 6 2 yx
noncomputable def qgU : MS :=
    (qM (sif (tst (d2 neB (qI 1 [] none (z9 (qa (ret (.int 3)) (ret []))) (qf 0) (ret true) (qo qE (qa (dv 0) (qa (yO (qa (yO (qa (ret (.int 1)) (qa (ret (.int 1)) (qa (ret (.int 1)) (ret []))))) (ret []))) (qa (ret (.int 201)) (ret [])))))) (d2 jv (jO (qa (jO (qa (ret (.int 3)) (ret []))) (ret []))) (ret (.int 3))))) (yN (ret (.bl false))) vz)
    (qM (qdx (z9 (qa (qW qh8 (qa (ret (.int 1)) (qa (qW qbe (qa (qW qfL (qa (dv 0) (ret []))) (qa (ret (.int 3)) (ret [])))) (ret [])))) (ret []))) (qf 1) (qM (uC 2 (qbm z7 (qa (dv 0) (qa (dv 1) (ret [])))))
    (qM (qg1 (yO (qa (qO zI 2 (qa (ret (.int 4)) (ret []))) (qa (qO qt 2 (qa (d2 ixD (jO (qa (ret (.int 21)) (qa (ret (.int 13)) (qa (ret (.int 13)) (ret []))))) (dv 1)) (ret []))) (ret [])))) (yj 2 (qj (qf 3) (qj (qf 4) yi))))
    (qM (zM 5 (qI 3 [4] none (yK (qo zj (qa (dv 3) (qa (dv 4) (ret []))))) (yj 3 (qj (qf 0) (qj (qf 1) (qj (qf 2) yi)))) (tst (d2 eqB (dv 1) (dv 3))) (yO (qa (dv 2) (qa (dv 0) (ret []))))))
    (qM (zM 6 (jO (qa (ret .non) (qa (ret .non) (qa (ret .non) (ret []))))))
    (qM (sif (tst (d2 neB (dv 5) (jO (ret [])))) (qM (zM 7 (qW wL (qa (qI 2 [] none (yK (dv 5)) (yj 2 (qj (qf 0) (qj (qf 1) yi))) (ret true) (dv 0)) (ret []))))
    (zM 6 (jO (qa (dv 7) (qa (qW qa0 (qa (qI 2 [] none (yK (dv 5)) (yj 2 (qj (qf 0) (qj (qf 1) yi))) (ret true) (dv 0)) (ret []))) (qa (qW qa0 (qa (qI 2 [7] none (yK (dv 5)) (yj 2 (qj (qf 0) (qj (qf 1) yi))) (tst (d2 eqB (dv 0) (dv 2))) (dv 1)) (ret []))) (ret []))))))) vz)
    (sif (tst (d2 neB (qW vy (qa (qI 1 [3, 4] none (z9 (qa (ret (.int 3)) (ret []))) (qf 0) (ret true) (qo qE (qa (dv 0) (qa (dv 1) (qa (dv 2) (ret [])))))) (ret []))) (qW vy (qa (dv 6) (ret []))))) (yN (ret (.bl false))) vz)))))))
    (yN (ret (.bl true)))))
noncomputable def qcm : List D -> R D := dfn 8 1 qgU
local macro_rules | `(tactic| push_cast [$xs,*]) => `(tactic| simp only [jR, qgh, qmj, jS, qbo, qcH, qhf, qlO, qmk, v8, uU, qhg, qiv, vq, qhh, qcI, qgi, qhi, qkm, qhj, qiw, qgj, qbp, qcJ, qb6, qar, qhl, qhm, qhn, uo, qbq, qeK, qho, qbr, qeL, qeM, qeN, qeO, qeP, qhp, wd, qkn, qeQ, List.length_cons, List.length_nil, List.map_cons, List.map_nil, List.replicate, List.nil_append, List.cons_append, List.append_nil, List.getElem?_cons_zero, List.getElem?_cons_succ, List.set_cons_zero, List.set_cons_succ, Nat.reduceAdd, Nat.reduceSub, Nat.sub_self, Nat.zero_add, reduceIte, Bool.not_true, Bool.not_false, Bool.false_eq_true, if_true, if_false, ite_true, ite_false, cond_true, cond_false, decide_true, decide_false, ix0, ix1, ix2, wo, uY, qcf, uD, w8, qcg, qaG, qfl, qaH, qhz, qhA, qcY, qcZ, qc0, qhv, qe2, qb7, $xs,*])
theorem qaO (d : D) : ud [d] = .ok (.bl (qiQ d)) := by
  unfold ud uc
  refine qa1 rfl ⟨[some d], ?_⟩
  push_cast []
  cases d <;> rfl
theorem jG (d : D) : jr [d] = .ok (.bl (jU d)) := by
  unfold jr ue
  refine qa1 rfl ⟨[some d], ?_⟩
  push_cast []
  rw [qaO]
  cases d <;> rfl
theorem qbJ (d : D) : yX [d] = .ok (.bl (uu d)) := by
  unfold yX u5
  refine qa1 rfl ⟨[some d], ?_⟩
  cases d with
  | tup ds =>
    by_cases h : ds.length = 3
    . obtain ⟨a, b, c, rfl⟩ := qm4 h
      refine (qq (ρ' := [some (.tup [a, b, c])]) rfl).trans ?_
      by_cases hp : qfm a = true
      . refine (qq (ρ' := [some (.tup [a, b, c])]) ?_).trans ?_
        . cases a with
          | int i =>
            have h2 : 0 < i := of_decide_eq_true hp
            have h0 : 0 <= i := by omega
            have h1 : ¬ i = 0 := by omega
            push_cast [ix0, jG, jU, uD, vq, h0, h1, decide_true, decide_false]
          | _ => exact absurd hp (by simp [qfm])
        . push_cast [ix1, ix2, jG, w8, uu, hp, vq, Bool.true_and]
          cases hb : jU b <;> cases hc : yt c <;> rfl
      . refine (w9 (d := .bl false) (ρ' := [some (.tup [a, b, c])]) ?_).trans ?_
        . cases a with
          | int i =>
            have h2 : ¬ 0 < i := fun z => hp (decide_eq_true z)
            push_cast [ix0, jG, jU, uD, vq]
            by_cases h0 : 0 <= i
            . have h1 : i = 0 := by omega
              subst h1; rfl
            . simp only [h0, decide_false]
              rfl
          | _ => rfl
        . have hp' : qfm a = false := by simpa using hp
          simp only [uu, hp', Bool.false_and]
    . refine (w9 (d := .bl false) (ρ' := [some (.tup ds)]) ?_).trans ?_
      . push_cast []
        have h3 : ¬ ((ds.length : Int) = 3) := by omega
        simp only [wo, uY, qcf, h3, decide_false, vq]
        rfl
      . rw [qdV h]
  | _ => rfl
theorem qaP (d : D) : ug [d] = .ok (.bl (uE d)) := by
  unfold ug uf
  refine qa1 rfl ⟨[some d], ?_⟩
  cases d with
  | tup ds =>
    by_cases h : ds.length <= 12
    . have h2 : ¬ ((12 : Int) < (ds.length : Int)) := by omega
      refine (qq (ρ' := [some (.tup ds)]) ?_).trans ?_
      . push_cast [wo, uY, qaG, h2, decide_false, vq]
      . rw [qbp, qiR (F := yX) (f := uu) (xs := yK (dv 0)) (ds := ds) (ρ := [some (.tup ds)]) rfl (fun d _ => qbJ d) (by omega)]
        simp only [uE, h, decide_true, Bool.true_and]
    . have h2 : ((12 : Int) < (ds.length : Int)) := by omega
      refine (w9 (d := .bl false) (ρ' := [some (.tup ds)]) ?_).trans ?_
      . push_cast [wo, uY, qaG, h2, decide_true, vq]
      . simp only [uE, h, decide_false, Bool.false_and]
  | _ => rfl
theorem sm1 : qD 1 = true := jc (by omega)
theorem qaQ (d : D) (h : uE d = true) : yb [d] = .ok .non := by
  unfold yb
  refine qc1 rfl ⟨[some d], ?_⟩
  unfold ya
  push_cast [qaP, h]
theorem qaR (d : D) (h : jU d = true) : j9 [d] = .ok .non := by
  unfold j9
  refine qc1 rfl ⟨[some d], ?_⟩
  unfold j8
  push_cast [jG, h]
theorem wC {n m : Int} (h0 : 0 < m) (h1 : m < 1606938044258990275541962092341162602522202993782792835301376) : qt [.int n] [.int m] = .ok (.int (n % m), [.int (n / m)]) := by
  unfold qt
  refine qhq (ρ := [some (.lst [.int (n / m)]), some (.int m), some (.int (n / m)), some (.int (n % m))]) rfl ?_ rfl
  unfold yI
  refine (qq (ρ' := [some (.lst [.int n]), some (.int m), some (.int (n / m)), some (.int (n % m))]) ?_).trans ?_
  . push_cast [at0, qfn h0 h1, yj, qj, qf, yi, Option.bind_some]
  . refine (qq (ρ' := [some (.lst [.int (n / m)]), some (.int m), some (.int (n / m)), some (.int (n % m))]) ?_).trans rfl
    push_cast [qm5, imm]
theorem qde {i : Int} (h0 : 0 <= i) (h1 : i < 3000000000) : jh i = true := by
  unfold jh
  rw [Bool.and_eq_true, decide_eq_true_eq, decide_eq_true_eq]
  constructor <;> omega
theorem qdf (A B : Option D) (x : Int) : ∀ (ds : List D) (s : Int) (o o' : Option D), (∀ d ∈ ds, ∃ j : Int, d = .int j) -> ∃ s' o1 o2, yu (qf 4) (qM (zM 5 (d2 qbT (d2 zm (d2 zm (d2 jv (d2 qbT (dv 2) (ret (.int 2147483647))) (ret (.int 48271))) (d2 jv (ret (.int 7919)) (dv 4))) (ret (.int 1))) (ret (.int 2147483647)))) (qM (zM 5 (d2 qbT (d2 jv (dv 5) (dv 5)) (ret (.int 2147483629)))) (zM 3 (d2 zm (d2 jv (dv 3) (ret (.int 2147483647))) (d2 qbT (d2 jv (dv 5) (d2 zm (dv 5) (ret (.int 13)))) (ret (.int 2147483647))))))) ds [A, B, some (.int x), some (.int s), o, o'] = .ok (.nx [A, B, some (.int x), some (.int s'), o1, o2])
  | [], s, o, o', _ => ⟨s, o, o', rfl⟩
  | d :: ds, s, o, o', h => by
    obtain ⟨j, rfl⟩ := h d List.mem_cons_self
    let p : Int := (x % 2147483647 * 48271 + 7919 * j + 1) % 2147483647
    let q : Int := p * p % 2147483629
    have f48 : jh 48271 = true := by decide
    have f79 : jh 7919 = true := by decide
    have f21 : jh 2147483647 = true := by decide
    have fp : jh p = true := qde (Int.emod_nonneg _ (by omega)) (by have := Int.emod_lt_of_pos (x % 2147483647 * 48271 + 7919 * j + 1) (show (0 : Int) < 2147483647 by omega); simp only [p]; omega)
    have fq : jh q = true := qde (Int.emod_nonneg _ (by omega)) (by have := Int.emod_lt_of_pos (p * p) (show (0 : Int) < 2147483629 by omega); simp only [q]; omega)
    obtain ⟨s', o1, o2, e⟩ := qdf A B x ds (s * 2147483647 + q * (q + 13) % 2147483647) (some (.int j)) (some (.int q)) fun y hy => h y (List.mem_cons_of_mem _ hy)
    refine ⟨s', o1, o2, ?_⟩
    have st : (qM (zM 5 (d2 qbT (d2 zm (d2 zm (d2 jv (d2 qbT (dv 2) (ret (.int 2147483647))) (ret (.int 48271))) (d2 jv (ret (.int 7919)) (dv 4))) (ret (.int 1))) (ret (.int 2147483647)))) (qM (zM 5 (d2 qbT (d2 jv (dv 5) (dv 5)) (ret (.int 2147483629)))) (zM 3 (d2 zm (d2 jv (dv 3) (ret (.int 2147483647))) (d2 qbT (d2 jv (dv 5) (d2 zm (dv 5) (ret (.int 13)))) (ret (.int 2147483647))))))) [A, B, some (.int x), some (.int s), some (.int j), o'] = .ok (.nx [A, B, some (.int x), some (.int (s * 2147483647 + q * (q + 13) % 2147483647)), some (.int j), some (.int q)]) := by
      refine (qq (ρ' := [A, B, some (.int x), some (.int s), some (.int j), some (.int p)]) ?_).trans ?_
      . push_cast [uZ (j := 2147483647) (by decide), qch f48, qgF f79, zK, p]
      refine (qq (ρ' := [A, B, some (.int x), some (.int s), some (.int j), some (.int q)]) ?_).trans ?_
      . push_cast [qgF fp, uZ (j := 2147483629) (by decide), q]
      . push_cast [qch f21, zK, qgF fq, uZ (j := 2147483647) (by decide)]
    unfold yu
    simp only [qf, List.set_cons_zero, List.set_cons_succ, st]
    exact e
theorem qkU (ns : List Int) (i : Int) (h0 : 0 <= i) : ∃ n, z7 [.fz ns, .int i] = .ok (.lst [.int n]) := by
  have f79 : jh 7919 = true := by decide
  have s1 : ∃ x, (sif (tst (d2 ltD (dv 1) (qW qfL (qa (dv 0) (ret []))))) (zM 2 (d2 ixD (dv 0) (dv 1))) vz) [some (.fz ns), some (.int i), some (.int (7919 * i + 13)), none, none, none] = .ok (.nx [some (.fz ns), some (.int i), some (.int x), none, none, none]) := by
    by_cases h : i < ns.length
    . obtain ⟨j, rfl⟩ := Int.eq_ofNat_of_zero_le h0
      have hj : j < ns.length := by omega
      have e : ixD (.fz ns) (.int (j : Int)) = some (.int ns[j]) := by
        show (atI ns (j : Int)).map D.int = _
        rw [qfr (List.getElem?_eq_getElem hj)]; rfl
      refine ⟨ns[j], ?_⟩
      push_cast [e, qfL, h]
    . refine ⟨7919 * i + 13, ?_⟩
      push_cast [qfL, h]
  obtain ⟨x, e1⟩ := s1
  have s0 : (zM 2 (d2 zm (d2 jv (ret (.int 7919)) (dv 1)) (ret (.int 13)))) [some (.fz ns), some (.int i), none, none, none, none] = .ok (.nx [some (.fz ns), some (.int i), some (.int (7919 * i + 13)), none, none, none]) := by
    push_cast [qgF f79, zK]
  by_cases hx : x % 2 = 0
  . refine ⟨x / 2, ?_⟩
    unfold z7 yx
    refine qa1 rfl ⟨[some (.fz ns), some (.int i), some (.int x), none, none, none], ?_⟩
    refine (qq s0).trans ((qq e1).trans (w9 ?_))
    push_cast [uZ (j := 2) (by decide), hx, qbD (j := 2) (by decide) (by decide), jc (show 1 <= 1000000 by omega)]
  . obtain ⟨s', o1, o2, q⟩ := qdf (some (.fz ns)) (some (.int i)) x (wK 0 16) 0 none none fun d hd => by
      unfold wK at hd
      obtain ⟨k, hk, rfl⟩ := List.mem_map.mp hd
      exact ⟨_, rfl⟩
    refine ⟨s', ?_⟩
    unfold z7 yx
    refine qa1 rfl ⟨[some (.fz ns), some (.int i), some (.int x), some (.int s'), o1, o2], ?_⟩
    refine (qq s0).trans ((qq e1).trans ?_)
    refine (qq (ρ' := [some (.fz ns), some (.int i), some (.int x), none, none, none]) ?_).trans ?_
    . push_cast [uZ (j := 2) (by decide), hx]
    refine (qq (ρ' := [some (.fz ns), some (.int i), some (.int x), some (.int 0), none, none]) ?_).trans ?_
    . push_cast []
    refine (qq (ρ' := [some (.fz ns), some (.int i), some (.int x), some (.int s'), o1, o2]) ?_).trans ?_
    . rw [uo, yF (j := 16) (ρ1 := [some (.fz ns), some (.int i), some (.int x), some (.int 0), none, none]) rfl (by omega) (by omega)]
      exact q
    . push_cast [jc (show 1 <= 1000000 by omega)]
theorem qcn {p : MS} {g : M D} {n i : Nat} {ρ ρ' : Env} {d : D} (h : p ρ = .ok (.rt d ρ')) : wN RN n i p g ρ = .ok (.rt d ρ') := by rw [qiK, h]
def kw (k : Kw) : D := .tup [.int k.w, .int k.v, mD k.m]
def ze (k : Kw) : Prop := (1 <= k.w /\ k.w <= 25) /\ (0 <= k.v /\ k.v <= 39) /\ ∀ j, k.m = some j -> 0 <= j /\ j <= 5
theorem ze.kd {k : Kw} (h : ze k) : ww k := ⟨h.1.1, fun j e => (h.2.2 j e).1⟩
theorem qkV (k : Kw) : ixD (kw k) (.int 0) = some (.int k.w) := rfl
theorem ql0 (k : Kw) : ixD (kw k) (.int 1) = some (.int k.v) := rfl
theorem qkW (k : Kw) : ixD (kw k) (.int 2) = some (mD k.m) := rfl
theorem jV {ds : List D} {i : Nat} {d : D} (h : ds[i]? = some d) : ixD (.lst ds) (.int (i : Nat)) = some d := qfr h
theorem qhC {k : Kw} (hk : ze k) : jh k.v = true := qfo hk.2.1.1 (by have := hk.2.1.2; omega)
theorem qfy {k : Kw} (hk : ze k) : jh k.w = true := qfo (by have := hk.1.1; omega) (by have := hk.1.2; omega)
theorem vA {k : Kw} (hk : ze k) {s : Int} (h0 : 0 <= s) : jF [kw k, .int s] = .ok (.int (ofn k s : Nat)) := by
  unfold jF jE
  have hd : 0 <= s / k.w := Int.ediv_nonneg h0 (by have := hk.1.1; omega)
  let ρ : Env := [some (kw k), some (.int s), some (.int (s / k.w))]
  refine qa1 rfl ⟨ρ, ?_⟩
  refine (qq (ρ' := ρ) ?_).trans ?_
  . show zM 2 _ [some (kw k), some (.int s), none] = _
    rw [qcJ, qx rfl (qx rfl rfl (qkV k)) (qbD (by have := hk.1.1; omega) (by have := hk.1.2; omega))]
    rfl
  . have c1 : d2 isN (d2 ixD (dv 0) (ret (.int 2))) (ret .non) ρ = .ok (.bl k.m.isNone, ρ) := qx (qx rfl rfl (qkW k)) rfl (by rw [w8, vI])
    rw [qbp, qiw, yv c1]
    cases em : k.m with
    | none =>
      have e : ((ofn k s : Nat) : Int) = s / k.w := by unfold ofn; rw [em]; show ((s / k.w).toNat : Int) = _; omega
      rw [e]
      rfl
    | some j =>
      have hj := (hk.2.2 j em).1
      have e : ((ofn k s : Nat) : Int) = if j < s / k.w then j else s / k.w := by
        unfold ofn
        rw [em]
        show ((if j < s / k.w then j else s / k.w).toNat : Int) = _
        split <;> omega
      have c2 : qW qbe (qa (dv 2) (qa (d2 ixD (dv 0) (ret (.int 2))) (ret []))) ρ = .ok (.int (ofn k s : Nat), ρ) := by
        rw [v8, qgN rfl (qx rfl rfl (by rw [qkW, em]))]
        show (match qbe [.int (s / k.w), .int j] with | some d => R.ok (d, ρ) | none => .bad) = _
        rw [qgL, e]
      show (match qW qbe (qa (dv 2) (qa (d2 ixD (dv 0) (ret (.int 2))) (ret []))) ρ with | .ok (d, ρ1) => R.ok (Fl.rt d ρ1) | .exc x ρ' => .exc x ρ' | .bad => .bad) = _
      rw [c2]
theorem yp {k : Kw} (hk : ze k) (t s : Int) : zE [kw k, .int t, .int s] = .ok (.int (s - t * k.w)) := by
  unfold zE yG
  refine qa1 rfl ⟨[some (kw k), some (.int t), some (.int s)], wx ?_⟩
  exact qx rfl (qx rfl (qx rfl rfl (qkV k)) (qch (qfy hk))) (qgD _ _)
theorem qkX {k : Kw} (hk : ze k) {s : Nat} : ofn k (s : Nat) <= s := by
  have := (qda hk.kd.1 hk.kd.2 (show (0 : Int) <= (s : Nat) by omega) (Nat.le_refl (ofn k (s : Nat)))).2
  omega
theorem qfz {l : M (List D)} {ρ : Env} {k : Kw} {s : Int} (hn : ofn k s <= 200) (h : l ρ = .ok ([.int ((ofn k s : Nat) + 1)], ρ)) : z9 l ρ = .ok ((List.range (ofn k s + 1)).map fun t => D.int (t : Nat), ρ) := by
  rw [yF h (by omega) (by omega)]
  have e : ((ofn k s : Nat) + 1 : Int).toNat = ofn k s + 1 := by omega
  rw [e, qmz]
theorem qco {k : Kw} (hk : ze k) {s r : Nat} (hs : s <= r) {t : Nat} (ht : t <= ofn k (s : Nat)) : ∃ i : Nat, i <= r /\ ((i : Nat) : Int) = (s : Int) - t * k.w := by
  have := (qda hk.kd.1 hk.kd.2 (show (0 : Int) <= (s : Int) by omega) ht).1
  have h2 : 0 <= (t : Int) * k.w := Int.mul_nonneg (by omega) (by have := hk.1.1; omega)
  exact ⟨((s : Int) - t * k.w).toNat, by omega, by omega⟩
def uw (f : Nat -> D) (r : Nat) : List D := (List.range (r + 1)).map f
theorem qac {f : Nat -> D} {r i : Nat} (h : i <= r) : (uw f r)[i]? = some (f i) := by
  unfold uw
  rw [List.getElem?_map, List.getElem?_range (by omega)]
  rfl
theorem qhD (d : D) (r : Nat) (hr : r <= 200) : jv (.lst [d]) (.int (r : Int)) = some (.lst ((List.range r).map fun _ => d)) := by
  have h1 : decide (-(2 ^ 62 : Int) <= (r : Int)) = true := decide_eq_true (by omega)
  have h2 : decide ((r : Int) < 2 ^ 62) = true := decide_eq_true (by omega)
  have e : ((r : Int)).toNat = r := by omega
  have h3 : qD (([d] : List D).length * ((r : Int)).toNat) = true := jc (by rw [e]; simp; omega)
  have hm : jv (.lst [d]) (.int (r : Int)) = some (.lst (List.replicate ((r : Int)).toNat [d]).flatten) := by
    simp only [jv, h1, h2, h3, Bool.and_self, if_true]
  have fl : ∀ n : Nat, (List.replicate n [d]).flatten = (List.range n).map fun _ => d := fun n => by
    induction n with
    | zero => rfl
    | succ n ih =>
      rw [List.replicate_succ, List.flatten_cons, ih, List.range_succ_eq_map, List.map_cons, List.map_map]
      rfl
  rw [hm, e, fl]
theorem qfA (a b : D) {f : Nat -> D} (h0 : f 0 = a) (h1 : ∀ i, f (i + 1) = b) (r : Nat) : a :: ((List.range r).map fun _ => b) = uw f r := by
  unfold uw
  rw [List.range_succ_eq_map, List.map_cons, List.map_map, h0]
  congr 1
  refine List.map_congr_left fun i _ => ?_
  exact (h1 i).symm
theorem qcp {n : Int} (h : n <= 200) : ub [.int n] = .ok .non := by
  unfold ub
  refine qc1 rfl ⟨[some (.int n)], ?_⟩
  unfold ua
  have h' : ¬ 200 < n := by omega
  push_cast [h']
theorem yJ {d : D} (hs : uE d = true) {n : Int} (h0 : 0 <= n) (h : n <= 200) : zH [d, .int n] = .ok .non := by
  have hc : jU (.int n) = true := decide_eq_true h0
  unfold zH
  refine qc1 rfl ⟨[some d, some (.int n)], ?_⟩
  unfold yc
  refine (qq (ρ' := [some d, some (.int n)]) ?_).trans ((qq (ρ' := [some d, some (.int n)]) ?_).trans ?_)
  . push_cast [qaQ _ hs]
  . push_cast [qaR _ hc]
  . push_cast [qcp h]
theorem qaS {ks : List Kw} (h : ∀ k ∈ ks, ze k) (hl : ks.length <= 12) : uE (.tup (ks.map kw)) = true := by
  have : (ks.map kw).all uu = true := by
    rw [List.all_map]
    refine List.all_eq_true.mpr fun k hk => ?_
    have g := h k hk
    exact qfq (x := (k.w, k.v, k.m)) ⟨by have := g.1.1; show 0 < k.w; omega, g.2.1.1, fun j e => (g.2.2 j e).1⟩
  simp only [uE, List.length_map, hl, decide_true, this, Bool.true_and]
theorem qi0 (m : Option Int) : qlc (mD m) .non = some (.bl (!m.isNone)) := by rw [qcg, vI]
theorem qfB {F : List D -> R D} {f g h k : M D} {ρ : Env} {a b c z d : D} (hf : f ρ = .ok (a, ρ)) (hg : g ρ = .ok (b, ρ)) (hh : h ρ = .ok (c, ρ)) (hk : k ρ = .ok (z, ρ)) (e : F [a, b, c, z] = .ok d) : qo F (qa f (qa g (qa h (qa k (ret []))))) ρ = .ok (d, ρ) := by
  rw [uU, jS, hf]
  simp only [qiV hg hh hk, e]
def fD (f : List Int -> Option Int) (ks : List Kw) (i : Nat) : D := mD (fR f ks (i : Nat))
def ftL (f : List Int -> Option Int) (k : Kw) (ks : List Kw) (s : Nat) : List Nat := (List.range (ofn k (s : Nat) + 1)).filter fun t => (fR f ks ((s : Int) - t * k.w)).isSome
theorem qhE {f : List Int -> Option Int} {k : Kw} {ks : List Kw} {s : Nat} (hk : ze k) (hs : s <= 200) : (ftL f k ks s).length <= 201 := by
  have := qkX hk (s := s)
  refine Nat.le_trans (List.length_filter_le _ _) ?_
  rw [List.length_range]
  omega
theorem yf {f : List Int -> Option Int} {k : Kw} {ks : List Kw} (hk : ze k) {s r : Nat} (hs : s <= r) (hr : r <= 200) : zF [kw k, .lst (uw (fD f ks) r), .int (s : Nat)] = .ok (.lst ((ftL f k ks s).map fun t => D.int (t : Nat))) := by
  have hn := qkX hk (s := s)
  let K : Option D := some (kw k)
  let Rw : Option D := some (.lst (uw (fD f ks) r))
  let Sz : Option D := some (.int (s : Nat))
  let ρ : Env := [K, Rw, Sz, some (.int (ofn k (s : Nat) : Nat))]
  unfold zF je
  refine qa1 rfl ⟨ρ, (qq (ρ' := ρ) ?_).trans (wx ?_)⟩
  . show zM 3 _ [K, Rw, Sz, none] = _
    rw [yV (qc8 rfl rfl (vA hk (by omega)))]
    rfl
  . refine qfp (r := [Rw, K, Sz]) (k := fun t : Nat => D.int (t : Nat)) (List.range (ofn k (s : Nat) + 1)) (fun t => (fR f ks ((s : Int) - t * k.w)).isSome) (fun t => D.int (t : Nat)) (qfz (by omega) (qaJ (qx rfl rfl (zK _ _)))) rfl (by rw [List.length_range]; omega) (fun t ht => ?_) (fun t ht _ => rfl)
    obtain ⟨i, hi, ei⟩ := qco hk hs (show t <= ofn k (s : Nat) by have := List.mem_range.mp ht; omega)
    refine yv (qx (qx rfl (yU rfl rfl rfl (yp hk (t : Nat) (s : Nat))) (d := fD f ks i) ?_) rfl ?_)
    . rw [<- ei]
      exact jV (qac hi)
    . unfold fD
      rw [qi0, ei]
      cases fR f ks ((s : Int) - t * k.w) <;> rfl
theorem wD {f : List Int -> Option Int} {k : Kw} {ks : List Kw} (hk : ze k) {s r : Nat} (hs : s <= r) {t : Nat} (ht : t <= ofn k (s : Nat)) {h : Int} (e : fR f ks ((s : Int) - t * k.w) = some h) : zG [kw k, .int (t : Nat), .lst (uw (fD f ks) r), .int (s : Nat)] = .ok (.int ((t : Int) * k.v + h)) := by
  obtain ⟨i, hi, ei⟩ := qco hk hs ht
  unfold zG j7
  refine qa1 rfl ⟨[some (kw k), some (.int (t : Nat)), some (.lst (uw (fD f ks) r)), some (.int (s : Nat))], wx ?_⟩
  refine qx (qx rfl (qx rfl rfl (ql0 k)) (qch (qhC hk))) (qx rfl (yU rfl rfl rfl (yp hk (t : Nat) (s : Nat))) (d := .int h) ?_) (zK _ _)
  rw [<- ei, jV (qac hi)]
  unfold fD
  rw [ei, e]
  rfl
theorem qkY {f : List Int -> Option Int} {k : Kw} {ks : List Kw} {s t : Nat} (h : t ∈ ftL f k ks s) : t <= ofn k (s : Nat) /\ ∃ h, fR f ks ((s : Int) - t * k.w) = some h := by
  obtain ⟨a, b⟩ := List.mem_filter.mp h
  refine ⟨by have := List.mem_range.mp a; omega, ?_⟩
  cases e : fR f ks ((s : Int) - t * k.w) with
  | none => rw [e] at b; cases b
  | some h => exact ⟨h, rfl⟩
def wO (f : List Int -> Option Int) (k : Kw) (ks : List Kw) (s : Nat) (t : Nat) : Int := (wF f k ks (s : Nat) t).getD 0
theorem yL {f : List Int -> Option Int} {k : Kw} {ks : List Kw} (hk : ze k) {s r : Nat} (hs : s <= r) {t : Nat} (ht : t ∈ ftL f k ks s) : zG [kw k, .int (t : Nat), .lst (uw (fD f ks) r), .int (s : Nat)] = .ok (.int (wO f k ks s t)) := by
  obtain ⟨a, h, e⟩ := qkY ht
  rw [wD hk hs a e]
  unfold wO wF
  rw [e]
  rfl
theorem qhF {g : Nat -> Option Int} : ∀ l : List Nat, (l.filter fun t => (g t).isSome).map (fun t => D.int ((g t).getD 0)) = (l.filterMap g).map D.int
  | [] => rfl
  | t :: l => by
    have := qhF (g := g) l
    rw [List.filter_cons, List.filterMap_cons]
    cases e : g t with
    | none => exact this
    | some h => simp only [Option.isSome_some, if_true, List.map_cons, e, this, Option.getD_some]
theorem qi1 (f : List Int -> Option Int) (k : Kw) (ks : List Kw) (s t : Nat) : (wF f k ks (s : Nat) t).isSome = (fR f ks ((s : Int) - t * k.w)).isSome := by
  unfold wF
  cases fR f ks ((s : Int) - t * k.w) <;> rfl
theorem qhG (f : List Int -> Option Int) (k : Kw) (ks : List Kw) (s : Nat) : ftL f k ks s = (List.range (ofn k (s : Nat) + 1)).filter fun t => (wF f k ks (s : Nat) t).isSome := by
  unfold ftL
  refine List.filter_congr fun t _ => ?_
  rw [qi1]
theorem jW {f : List Int -> Option Int} {k : Kw} {ks : List Kw} (hk : ze k) {s r : Nat} (hs : s <= r) (hr : r <= 200) : qA [kw k, .lst (uw (fD f ks) r), .int (s : Nat)] = .ok (.lst (((List.range (ofn k (s : Nat) + 1)).filterMap (wF f k ks (s : Nat))).map D.int)) := by
  let K : Option D := some (kw k)
  let Rw : Option D := some (.lst (uw (fD f ks) r))
  let Sz : Option D := some (.int (s : Nat))
  unfold qA zS
  refine qa1 rfl ⟨[K, Rw, Sz], wx ?_⟩
  rw [<- qhF, <- qhG]
  refine qc7 (r := [K, Rw, Sz]) (k := fun t : Nat => D.int (t : Nat)) (ftL f k ks s) _ ?_ rfl (by have := qhE (f := f) (ks := ks) hk (show s <= 200 by omega); omega) fun t ht => ?_
  . rw [qbq, yU rfl rfl rfl (yf hk hs hr)]
    rfl
  . exact qfB rfl rfl rfl rfl (yL hk hs ht)
theorem qkZ (ns : List Int) : qce [.lst (ns.map D.int)] [.non] = some (mD (mnO ns)) := by
  unfold qce
  simp only [y9, Option.map_some]
  cases ns with
  | nil => rfl
  | cons a l =>
    rw [if_neg (by simp)]
    obtain ⟨m, e, h1, h2⟩ := uG.is (a :: l) (by simp)
    rw [qat h1 h2, e]
    rfl
theorem qk0 (ns : List Int) : qcd [.lst (ns.map D.int)] [.non] = some (mD (mxO ns)) := by
  unfold qcd
  simp only [y9, Option.map_some]
  cases ns with
  | nil => rfl
  | cons a l =>
    rw [if_neg (by simp)]
    obtain ⟨m, e, h1, h2⟩ := ym.is (a :: l) (by simp)
    rw [qas h1 h2, e]
    rfl
theorem qhH {F : List D -> List D -> Option D} {g : M D} {ρ : Env} {a z d : D} (hg : g ρ = .ok (a, ρ)) (e : F [a] [z] = some d) : yR F (qa g (ret [])) (qa (ret z) (ret [])) ρ = .ok (d, ρ) := by
  unfold yR bnd
  rw [qaJ hg]
  show lift (F [a] [z]) ρ = _
  rw [e]
  rfl
theorem qna {t : M Bool} {b : MS} {n : Nat} {ρ ρ1 ρ2 : Env} (h : t ρ = .ok (true, ρ1)) (hb : b ρ1 = .ok (.nx ρ2)) : jY t b (n + 1) ρ = jY t b n ρ2 := by
  show (match t ρ with | .ok (true, ρ1) => (match b ρ1 with | .ok (.nx ρ2) => jY t b n ρ2 | .ok (.ct ρ2) => jY t b n ρ2 | .ok (.bk ρ2) => .ok (.nx ρ2) | .ok (.rt d ρ2) => .ok (.rt d ρ2) | .exc x ρ2 => .exc x ρ2 | .bad => .bad) | .ok (false, ρ1) => .ok (.nx ρ1) | .exc x ρ1 => .exc x ρ1 | .bad => .bad) = _
  simp only [h, hb]
theorem qnb {t : M Bool} {b : MS} {n : Nat} {ρ ρ1 : Env} (h : t ρ = .ok (false, ρ1)) : jY t b (n + 1) ρ = .ok (.nx ρ1) := by
  show (match t ρ with | .ok (true, ρ1) => (match b ρ1 with | .ok (.nx ρ2) => jY t b n ρ2 | .ok (.ct ρ2) => jY t b n ρ2 | .ok (.bk ρ2) => .ok (.nx ρ2) | .ok (.rt d ρ2) => .ok (.rt d ρ2) | .exc x ρ2 => .exc x ρ2 | .bad => .bad) | .ok (false, ρ1) => .ok (.nx ρ1) | .exc x ρ1 => .exc x ρ1 | .bad => .bad) = _
  simp only [h]
theorem qnc (t : Nat) : zm (.int (t : Nat)) (.int 1) = some (.int ((t + 1 : Nat) : Int)) := by rw [zK]; rfl
theorem qfC {i : Nat} {f : M D} {ρ : Env} {ds : List D} {d : D} (h : zk i ρ = some ds) (hf : f ρ = .ok (d, ρ)) (hl : ds.length < 1000000) : jk (yS i f) ρ = .ok (.nx (ρ.set i (some (.lst (d :: ds))))) := by
  rw [qar, qfk]
  simp only [h, hf, jc (show ds.length + 1 <= 1000000 by omega), if_true]
theorem qi2 {f : M (List D)} {ρ : Env} {ds : List D} (h : f ρ = .ok (ds, ρ)) (hl : ds.length <= 1000000) : qgz f ρ = .ok (ds, ρ) := by
  unfold qgz bnd
  rw [h]
  simp only [jc hl, if_true]
  rfl
theorem qgV {i : Nat} {ρ : Env} {d : D} {ds : List D} (h : zk i ρ = some (d :: ds)) : qgf i (ret (.int 0)) ρ = .ok (d, ρ) := by
  have e : atI (d :: ds) 0 = some d := qfr (n := 0) rfl
  rw [qeM]
  simp only [h, qgh, e]
def jC (f : List Kw -> Nat -> D) (r : Nat) : List Kw -> List D
  | [] => [.lst (uw (f []) r)]
  | k :: ks => .lst (uw (f (k :: ks)) r) :: jC f r ks
theorem qdg (f : List Kw -> Nat -> D) (r : Nat) : ∀ ks : List Kw, (jC f r ks).length = ks.length + 1
  | [] => rfl
  | k :: ks => by rw [jC, List.length_cons, qdg f r ks, List.length_cons]
theorem qbK (f : List Kw -> Nat -> D) (r : Nat) : ∀ ks : List Kw, ∃ zQ, jC f r ks = .lst (uw (f ks) r) :: zQ
  | [] => ⟨[], rfl⟩
  | k :: ks => ⟨jC f r ks, rfl⟩
theorem qaT (f : List Kw -> Nat -> D) (r : Nat) : ∀ (ks : List Kw) (i : Nat), i <= ks.length -> (jC f r ks)[i]? = some (.lst (uw (f (ks.drop i)) r))
  | ks, 0, _ => by
    obtain ⟨zQ, e⟩ := qbK f r ks
    rw [e]
    rfl
  | [], i + 1, h => by
    have : i + 1 <= 0 := h
    omega
  | k :: ks, i + 1, h => by
    rw [jC, List.getElem?_cons_succ, qaT f r ks i (by have : i + 1 <= ks.length + 1 := h; omega)]
    rfl
theorem qdh {ρ : Env} {r : Nat} (hr : r <= 200) (h1 : dv 1 ρ = .ok (.int (r : Nat), ρ)) : z9 (qa (d2 zm (dv 1) (ret (.int 1))) (ret [])) ρ = .ok ((List.range (r + 1)).map fun s : Nat => D.int (s : Nat), ρ) := by
  have e : ((r : Int) + 1).toNat = r + 1 := by omega
  rw [yF (j := (r : Int) + 1) (ρ1 := ρ) (qaJ (qx h1 rfl (zK _ _))) (by omega) (by omega), e, qmz]
theorem qi3 {e : M D} {K X : D} {Y : Nat -> D} {r : Nat} (hr : r <= 200) (T : Option D) (zQ : List D) (hl : zQ.length <= 100) (hF : ∀ s : Nat, s <= r -> e [some (.int (s : Nat)), some K, some (.lst (X :: zQ))] = .ok (Y s, [some (.int (s : Nat)), some K, some (.lst (X :: zQ))])) :
    jk (yS 2 (qI 1 [3, 2] (some (2, 2)) (z9 (qa (d2 zm (dv 1) (ret (.int 1))) (ret []))) (qf 0) (ret true) e)) [T, some (.int (r : Nat)), some (.lst (X :: zQ)), some K] = .ok (.nx [T, some (.int (r : Nat)), some (.lst (.lst (uw Y r) :: X :: zQ)), some K]) := by
  let ρ : Env := [T, some (.int (r : Nat)), some (.lst (X :: zQ)), some K]
  have c := qkO (e := e) (t := ret true) (k := fun s : Nat => D.int (s : Nat)) (r := [some K, some (.lst (X :: zQ))]) (fr := [3, 2]) (i := 2) (j := 2) (List.range (r + 1)) (fun _ => true) Y (qdh (ρ := ρ) hr rfl) rfl (by rw [List.length_range]; omega) (fun _ _ => rfl) (fun s hs _ => hF s (by have := List.mem_range.mp hs; omega)) (fun o => rfl)
  rw [uF] at c
  exact qfC (ρ := ρ) rfl c (by rw [List.length_cons]; omega)
theorem qad {r : Nat} (hr : r <= 200) (T : Option D) : ∀ (b ks : List Kw) (o3 : Option D), (∀ k ∈ b, ze k) -> b.length + ks.length <= 90 -> ∃ o3', yu (qf 3) (jk (yS 2 (qI 1 [3, 2] (some (2, 2)) (z9 (qa (d2 zm (dv 1) (ret (.int 1))) (ret []))) (qf 0) (ret true) (yR qcd (qa (qo qA (qa (dv 1) (qa (qgf 2 (ret (.int 0))) (qa (dv 0) (ret []))))) (ret [])) (qa (ret .non) (ret [])))))) (b.map kw) [T, some (.int (r : Nat)), some (.lst (jC (fD mxO) r ks)), o3] = .ok (.nx [T, some (.int (r : Nat)), some (.lst (jC (fD mxO) r (b.reverse ++ ks))), o3'])
  | [], ks, o3, _, _ => ⟨o3, rfl⟩
  | k :: b, ks, o3, h, hl => by
    obtain ⟨o3', q⟩ := qad hr T b (k :: ks) (some (kw k)) (fun x hx => h x (List.mem_cons_of_mem _ hx)) (by rw [List.length_cons] at hl |-; omega)
    obtain ⟨zQ, e⟩ := qbK (fD mxO) r ks
    have hlen : zQ.length = ks.length := by
      have := qdg (fD mxO) r ks
      rw [e, List.length_cons] at this
      omega
    have s := qi3 (e := yR qcd (qa (qo qA (qa (dv 1) (qa (qgf 2 (ret (.int 0))) (qa (dv 0) (ret []))))) (ret [])) (qa (ret .non) (ret []))) (K := kw k) (X := .lst (uw (fD mxO ks) r)) (Y := fD mxO (k :: ks)) (r := r) (by omega) T zQ (by rw [List.length_cons] at hl; omega) fun s hs => qhH (yU rfl (qgV rfl) rfl (jW (h k List.mem_cons_self) hs hr)) (by
      unfold fD
      rw [qaM]
      exact qk0 _)
    rw [<- e] at s
    refine ⟨o3', ?_⟩
    rw [List.map_cons, yT rfl s, List.reverse_cons, List.append_assoc]
    exact q
theorem qk1 (f : List Int -> Option Int) (r : Nat) : D.int 0 :: ((List.range r).map fun _ => D.non) = uw (fD f []) r := qfA (f := fD f []) (.int 0) .non rfl (fun i => by
  have : fR f [] ((i + 1 : Nat) : Int) = none := by
    unfold fR
    rw [if_neg (by omega)]
  show mD (fR f [] ((i + 1 : Nat) : Int)) = _
  rw [this]
  rfl) r
theorem qdi (f : List Int -> Option Int) {ρ : Env} {r : Nat} (hr : r <= 200) (h1 : dv 1 ρ = .ok (.int (r : Nat), ρ)) : d2 zm (jO (qa (ret (.int 0)) (ret []))) (d2 jv (jO (qa (ret .non) (ret []))) (dv 1)) ρ = .ok (.lst (uw (fD f []) r), ρ) := by
  have a1 : jO (qa (ret (.int 0)) (ret [])) ρ = .ok (.lst [.int 0], ρ) := by push_cast [sm1]
  have a0 : jO (qa (ret .non) (ret [])) ρ = .ok (.lst [.non], ρ) := by push_cast [sm1]
  refine qx a1 (qx a0 h1 (qhD .non r hr)) ?_
  rw [qgI (by rw [List.length_map, List.length_range, List.length_cons, List.length_nil]; omega), <- qk1]
  rfl
theorem ux {ks : List Kw} (h : ∀ k ∈ ks, ze k) (hl : ks.length <= 4) {r : Nat} (hr : r <= 200) : js [.tup (ks.map kw), .int (r : Nat)] = .ok (.lst (jC (fD mxO) r ks)) := by
  let T : Option D := some (.tup (ks.map kw))
  let Rm : Option D := some (.int (r : Nat))
  obtain ⟨o3', q⟩ := qad hr T ks.reverse [] none (fun k hk => h k (List.mem_reverse.mp hk)) (by rw [List.length_reverse, List.length_nil]; omega)
  rw [List.reverse_reverse, List.append_nil] at q
  unfold js yH
  refine qa1 rfl ⟨[T, Rm, some (.lst (jC (fD mxO) r ks)), o3'], ?_⟩
  refine (qq (ρ' := [T, Rm, some (.lst (jC (fD mxO) r [])), none]) ?_).trans ?_
  . have a3 := qi2 (qaJ (qdi mxO (ρ := [T, Rm, none, none]) hr rfl)) (by rw [List.length_cons, List.length_nil]; omega)
    show uC 2 _ [T, Rm, none, none] = _
    rw [qb6, a3]
    rfl
  refine (qq (ρ' := [T, Rm, some (.lst (jC (fD mxO) r ks)), o3']) ?_).trans rfl
  have a4 : qkG (qa (dv 0) (ret [])) [T, Rm, some (.lst (jC (fD mxO) r [])), none] = .ok (ks.reverse.map kw, [T, Rm, some (.lst (jC (fD mxO) r [])), none]) := by
    rw [qkI, qaJ (a := .tup (ks.map kw)) rfl, List.map_reverse]
    rfl
  rw [uo, a4]
  exact q
theorem vi {ks : List Kw} (h : ∀ k ∈ ks, ze k) (hl : ks.length <= 4) {r : Nat} (hr : r <= 200) : jy [.tup (ks.map kw), .int (r : Nat)] = .ok (fD mxO ks r) := by
  let ρ : Env := [some (.tup (ks.map kw)), some (.int (r : Nat))]
  unfold jy
  refine qgs rfl ⟨ρ, ?_⟩
  unfold jx
  refine (qq (ρ' := ρ) ?_).trans (wx ?_)
  . push_cast [yJ (qaS h (by omega)) (show (0 : Int) <= (r : Nat) by omega) (by omega), ρ]
  . exact qx (qx (qc8 rfl rfl (ux h hl hr)) rfl (jV (i := 0) (qaT (fD mxO) r ks 0 (by omega)))) rfl (jV (qac (Nat.le_refl r)))
theorem qbL {r : Nat} (hr : r <= 200) (T : Option D) : ∀ (b ks : List Kw) (o3 : Option D), (∀ k ∈ b, ze k) -> ∃ o3', yu (qf 3) (zM 2 (qI 1 [3, 2] none (z9 (qa (d2 zm (dv 1) (ret (.int 1))) (ret []))) (qf 0) (ret true) (yR qce (qa (qo qA (qa (dv 1) (qa (dv 2) (qa (dv 0) (ret []))))) (ret [])) (qa (ret .non) (ret []))))) (b.map kw) [T, some (.int (r : Nat)), some (.lst (uw (fD mnO ks) r)), o3] = .ok (.nx [T, some (.int (r : Nat)), some (.lst (uw (fD mnO (b.reverse ++ ks)) r)), o3'])
  | [], ks, o3, _ => ⟨o3, rfl⟩
  | k :: b, ks, o3, h => by
    obtain ⟨o3', q⟩ := qbL hr T b (k :: ks) (some (kw k)) (fun x hx => h x (List.mem_cons_of_mem _ hx))
    have hk := h k List.mem_cons_self
    let ρ : Env := [T, some (.int (r : Nat)), some (.lst (uw (fD mnO ks) r)), some (kw k)]
    have c : (qI 1 [3, 2] none (z9 (qa (d2 zm (dv 1) (ret (.int 1))) (ret []))) (qf 0) (ret true) (yR qce (qa (qo qA (qa (dv 1) (qa (dv 2) (qa (dv 0) (ret []))))) (ret [])) (qa (ret .non) (ret [])))) ρ = .ok (.lst (uw (fD mnO (k :: ks)) r), ρ) := by
      refine qc7 (r := [some (kw k), some (.lst (uw (fD mnO ks) r))]) (k := fun s : Nat => D.int (s : Nat)) (List.range (r + 1)) (fD mnO (k :: ks)) (qdh hr rfl) rfl (by rw [List.length_range]; omega) fun s hs => ?_
      refine qhH (yU rfl rfl rfl (jW hk (show s <= r by have := List.mem_range.mp hs; omega) hr)) ?_
      unfold fD
      rw [qaM]
      exact qkZ _
    refine ⟨o3', ?_⟩
    rw [List.map_cons, yT rfl (yV c), List.reverse_cons, List.append_assoc]
    exact q
theorem u6 {ks : List Kw} (h : ∀ k ∈ ks, ze k) (hl : ks.length <= 4) {r : Nat} (hr : r <= 200) : jg [.tup (ks.map kw), .int (r : Nat)] = .ok (fD mnO ks r) := by
  let T : Option D := some (.tup (ks.map kw))
  let Rm : Option D := some (.int (r : Nat))
  obtain ⟨o3', q⟩ := qbL hr T ks [] none h
  rw [List.append_nil] at q
  have e : fD mnO ks r = fD mnO ks.reverse r := by
    unfold fD
    rw [qkT uG (fun k hk => (h k hk).kd) (by omega)]
  rw [e]
  unfold jg
  refine qgs rfl ⟨[T, Rm, some (.lst (uw (fD mnO ks.reverse) r)), o3'], ?_⟩
  unfold jf
  refine (qq (ρ' := [T, Rm, none, none]) ?_).trans ?_
  . push_cast [yJ (qaS h (by omega)) (show (0 : Int) <= (r : Nat) by omega) (by omega), T, Rm]
  refine (qq (ρ' := [T, Rm, some (.lst (uw (fD mnO []) r)), none]) (yV (qdi mnO (ρ := [T, Rm, none, none]) hr rfl))).trans ?_
  refine (qq (ρ' := [T, Rm, some (.lst (uw (fD mnO ks.reverse) r)), o3']) ?_).trans (wx (qx rfl rfl (jV (qac (Nat.le_refl r)))))
  rw [uo]
  exact q
theorem qbM {p : Nat -> Bool} {n x : Nat} (hx : x < n) (hp : p x = true) (hn : ∀ t, t < x -> p t = false) : ∃ zQ, (List.range n).filter p = x :: zQ := by
  have split : List.range n = List.range x ++ (x :: (List.range' (x + 1) (n - 1 - x))) := by
    rw [List.range_eq_range', List.range_eq_range', <- List.range'_succ]
    have := List.range'_append_1 (s := 0) (m := x) (n := n - 1 - x + 1)
    rw [Nat.zero_add] at this
    rw [this]
    congr 1
    omega
  rw [split, List.filter_append, List.filter_eq_nil_iff.mpr (fun t ht => by rw [hn t (List.mem_range.mp ht)]; simp), List.nil_append, List.filter_cons, if_pos hp]
  exact ⟨_, rfl⟩
theorem uI {k : Kw} {ks : List Kw} (hk : ze k) {s r : Nat} (hs : s <= r) (hr : r <= 200) {h : Int} (eh : fR mxO (k :: ks) (s : Nat) = some h) : qU [kw k, fD mxO (k :: ks) s, .lst (uw (fD mxO ks) r), .int (s : Nat)] = .ok (.int (fT mxO k ks (s : Nat) : Nat)) := by
  obtain ⟨l1, l2, l3⟩ := qci ym eh
  have e : fD mxO (k :: ks) s = .int h := by
    unfold fD
    rw [eh]
    rfl
  rw [e]
  let K : Option D := some (kw k)
  let M : Option D := some (.int h)
  let Rw : Option D := some (.lst (uw (fD mxO ks) r))
  let Sz : Option D := some (.int (s : Nat))
  let L := ftL mxO k ks s
  let ρ : Env := [K, M, Rw, Sz, some (.lst (L.map fun t => D.int (t : Nat)))]
  unfold qU zT
  refine qa1 rfl ⟨ρ, (qq (ρ' := ρ) ?_).trans (wx ?_)⟩
  . show zM 4 _ [K, M, Rw, Sz, none] = _
    rw [yV (yU rfl rfl rfl (yf hk hs hr))]
    rfl
  . have c := qfp (e := dv 0) (t := tst (d2 eqB (qo zG (qa (dv 2) (qa (dv 0) (qa (dv 3) (qa (dv 4) (ret [])))))) (dv 1))) (xs := yK (dv 4)) (fr := [1, 0, 2, 3]) (ρ := ρ) (r := [M, K, Rw, Sz]) (k := fun t : Nat => D.int (t : Nat)) L (fun t => decide (wO mxO k ks s t = h)) (fun t => D.int (t : Nat)) rfl rfl (by have := qhE (f := mxO) (ks := ks) hk (show s <= 200 by omega); show (ftL mxO k ks s).length <= _; omega) (fun t ht => yv (qx (qfB rfl rfl rfl rfl (yL hk hs ht)) rfl (uD _ _))) (fun t ht _ => rfl)
    have fl : L.filter (fun t => decide (wO mxO k ks s t = h)) = (List.range (ofn k (s : Nat) + 1)).filter fun t => decide (wF mxO k ks (s : Nat) t = some h) := by
      show (ftL mxO k ks s).filter _ = _
      rw [qhG, List.filter_filter]
      refine List.filter_congr fun t _ => ?_
      unfold wO
      cases wF mxO k ks (s : Nat) t with
      | none => simp
      | some z => simp
    obtain ⟨zQ, er⟩ := qbM (p := fun t => decide (wF mxO k ks (s : Nat) t = some h)) (n := ofn k (s : Nat) + 1) (x := fT mxO k ks (s : Nat)) (by omega) (decide_eq_true l2) fun t ht => decide_eq_false (l3 t ht)
    rw [fl, er] at c
    exact qx c rfl (jV (i := 0) rfl)
theorem qbN (T Rm : Option D) {r : Nat} (hr : r <= 200) (RW : List D) : ∀ (b : List Kw) (p : Nat) (L : List D) (s : Nat) (h : Int) (o5 o6 o7 : Option D), (∀ k ∈ b, ze k) -> (∀ i, i <= b.length -> RW[p + i]? = some (.lst (uw (fD mxO (b.drop i)) r))) -> s <= r -> fR mxO b (s : Nat) = some h -> L.length + b.length <= 100 ->
    ∃ o4' o5' o6' o7', yu (yj 2 (qj (qf 5) (qj (qf 6) yi))) (qM (zM 7 (qo qU (qa (dv 6) (qa (d2 ixD (d2 ixD (dv 2) (dv 5)) (dv 4)) (qa (d2 ixD (dv 2) (d2 zm (dv 5) (ret (.int 1)))) (qa (dv 4) (ret []))))))) (qM (jk (zx 3 (dv 7))) (zM 4 (qo zE (qa (dv 6) (qa (dv 7) (qa (dv 4) (ret [])))))))) (vc p (b.map kw)) [T, Rm, some (.lst RW), some (.lst L), some (.int (s : Nat)), o5, o6, o7] = .ok (.nx [T, Rm, some (.lst RW), some (.lst (L ++ (yn mxO b (s : Nat)).map D.int)), o4', o5', o6', o7'])
  | [], p, L, s, h, o5, o6, o7, _, _, _, _, _ => ⟨some (.int (s : Nat)), o5, o6, o7, by rw [show L ++ (yn mxO [] ((s : Nat) : Int)).map D.int = L from List.append_nil L]; rfl⟩
  | k :: b, p, L, s, h, o5, o6, o7, hb, hR, hs, eh, hL => by
    have hk := hb k List.mem_cons_self
    obtain ⟨l1, l2, l3⟩ := qci ym eh
    let t := fT mxO k b (s : Nat)
    obtain ⟨i, hi, ei⟩ := qco hk hs l1
    obtain ⟨h', eh'⟩ : ∃ h', fR mxO b (i : Nat) = some h' := by
      unfold wF at l2
      cases ec : fR mxO b ((s : Int) - (fT mxO k b (s : Nat) : Int) * k.w) with
      | none => rw [ec] at l2; cases l2
      | some h' => exact ⟨h', by rw [ei]; exact ec⟩
    obtain ⟨q4, q5, q6, q7, q⟩ := qbN T Rm hr RW b (p + 1) (L ++ [.int (t : Nat)]) i h' (some (.int (p : Nat))) (some (kw k)) (some (.int (t : Nat))) (fun x hx => hb x (List.mem_cons_of_mem _ hx)) (fun j hj => by
      have := hR (j + 1) (by rw [List.length_cons]; omega)
      rw [show p + 1 + j = p + (j + 1) by omega, this]
      rfl) hi eh' (by rw [List.length_append, List.length_cons, List.length_nil]; rw [List.length_cons] at hL; omega)
    refine ⟨q4, q5, q6, q7, ?_⟩
    have e0 : RW[p]? = some (.lst (uw (fD mxO (k :: b)) r)) := hR 0 (by omega)
    have e1 : RW[p + 1]? = some (.lst (uw (fD mxO b) r)) := hR 1 (by rw [List.length_cons]; omega)
    have step : (qM (zM 7 (qo qU (qa (dv 6) (qa (d2 ixD (d2 ixD (dv 2) (dv 5)) (dv 4)) (qa (d2 ixD (dv 2) (d2 zm (dv 5) (ret (.int 1)))) (qa (dv 4) (ret []))))))) (qM (jk (zx 3 (dv 7))) (zM 4 (qo zE (qa (dv 6) (qa (dv 7) (qa (dv 4) (ret [])))))))) [T, Rm, some (.lst RW), some (.lst L), some (.int (s : Nat)), some (.int (p : Nat)), some (kw k), o7] = .ok (.nx [T, Rm, some (.lst RW), some (.lst (L ++ [.int (t : Nat)])), some (.int (i : Nat)), some (.int (p : Nat)), some (kw k), some (.int (t : Nat))]) := by
      refine (qq (ρ' := [T, Rm, some (.lst RW), some (.lst L), some (.int (s : Nat)), some (.int (p : Nat)), some (kw k), some (.int (t : Nat))]) ?_).trans ((qq (ρ' := [T, Rm, some (.lst RW), some (.lst (L ++ [.int (t : Nat)])), some (.int (s : Nat)), some (.int (p : Nat)), some (kw k), some (.int (t : Nat))]) ?_).trans ?_)
      . rw [yV (qfB rfl (qx (qx rfl rfl (jV e0)) rfl (jV (qac hs))) (qx rfl (qx rfl rfl (zK _ _)) (show ixD (.lst RW) (.int ((p : Int) + 1)) = _ from jV (i := p + 1) e1)) rfl (uI (ks := b) hk hs hr eh))]
        rfl
      . rw [qbG (ds := L) (d := .int (t : Nat)) rfl rfl rfl (by omega)]
        rfl
      . rw [yV (yU rfl rfl rfl (yp hk (t : Nat) (s : Nat))), <- ei]
        rfl
    have pe : (L ++ (yn mxO (k :: b) ((s : Nat) : Int)).map D.int) = L ++ [.int (t : Nat)] ++ (yn mxO b ((i : Nat) : Int)).map D.int := by
      rw [yn, ei, List.map_cons, List.append_assoc]
      rfl
    rw [List.map_cons, vc, yT rfl step, q, pe]
def ldD (l : List Int) : D := .tup (l.map D.int)
def qd4 (ks : List Kw) (r : Int) : D := match fR mxO ks r with
  | none => .non
  | some _ => ldD (yn mxO ks r)
theorem qfD {ks : List Kw} (h : ∀ k ∈ ks, ze k) (hl : ks.length <= 4) {r : Nat} (hr : r <= 200) : qdd [.tup (ks.map kw), .int (r : Nat)] = .ok (qd4 ks (r : Nat)) := by
  let T : Option D := some (.tup (ks.map kw))
  let Rm : Option D := some (.int (r : Nat))
  let RW : Option D := some (.lst (jC (fD mxO) r ks))
  have c0 : d2 isN (d2 ixD (d2 ixD (dv 2) (ret (.int 0))) (dv 1)) (ret .non) [T, Rm, RW, none, none, none, none, none] = .ok (.bl (fR mxO ks (r : Nat)).isNone, [T, Rm, RW, none, none, none, none, none]) := qx (qx (qx rfl rfl (jV (i := 0) (qaT (fD mxO) r ks 0 (by omega)))) rfl (jV (qac (Nat.le_refl r)))) rfl (by
    rw [w8]
    show some (D.bl (yt (fD mxO ks r))) = _
    unfold fD
    rw [vI])
  have s1 : (jk (j6 RN zH (qa (dv 0) (qa (dv 1) (ret []))))) [T, Rm, none, none, none, none, none, none] = .ok (.nx [T, Rm, none, none, none, none, none, none]) := by
    push_cast [yJ (qaS h (by omega)) (show (0 : Int) <= (r : Nat) by omega) (by omega), T, Rm]
  have s2 : (zM 2 (qo js (qa (dv 0) (qa (dv 1) (ret []))))) [T, Rm, none, none, none, none, none, none] = .ok (.nx [T, Rm, RW, none, none, none, none, none]) := by
    rw [yV (qc8 rfl rfl (ux h hl hr))]
    rfl
  unfold qdd
  cases e : fR mxO ks (r : Nat) with
  | none =>
    refine qgs rfl ⟨[T, Rm, RW, none, none, none, none, none], ?_⟩
    unfold qbI qd4
    rw [e] at c0 |-
    refine (qq s1).trans ((qq s2).trans (w9 ?_))
    rw [qmy (yv c0)]
    rfl
  | some z =>
    obtain ⟨o4, o5, o6, o7, q⟩ := qbN T Rm hr (jC (fD mxO) r ks) ks 0 [] r z none none none h (fun i hi => by rw [Nat.zero_add]; exact qaT (fD mxO) r ks i hi) (Nat.le_refl r) e (by rw [List.length_nil]; omega)
    rw [List.nil_append] at q
    refine qgs rfl ⟨[T, Rm, RW, some (.lst ((yn mxO ks (r : Nat)).map D.int)), o4, o5, o6, o7], ?_⟩
    unfold qbI qd4
    rw [e] at c0 |-
    refine (qq s1).trans ((qq s2).trans ((qq (ρ' := [T, Rm, RW, none, none, none, none, none]) ?_).trans ?_))
    . rw [qlh (yv c0)]
      rfl
    refine (qq (ρ' := [T, Rm, RW, some (.lst []), none, none, none, none]) ?_).trans ?_
    . push_cast [jc (show 0 <= 1000000 by omega), immL, Bool.and_self, RW]
    refine (qq (ρ' := [T, Rm, RW, some (.lst []), some (.int (r : Nat)), none, none, none]) rfl).trans ?_
    refine (qq (ρ' := [T, Rm, RW, some (.lst ((yn mxO ks (r : Nat)).map D.int)), o4, o5, o6, o7]) ?_).trans rfl
    rw [uo, qb7, qaJ (a := .tup (ks.map kw)) rfl]
    exact q
theorem qfE {α : Type} {e : M D} {t : M Bool} {u v w f : α -> D} {p : α -> Bool} {r : Env} : ∀ (as : List α) (acc : List D) (o o' o'' : Option D), (∀ a ∈ as, t (some (u a) :: some (v a) :: some (w a) :: r) = .ok (p a, some (u a) :: some (v a) :: some (w a) :: r)) -> (∀ a ∈ as, p a = true -> e (some (u a) :: some (v a) :: some (w a) :: r) = .ok (f a, some (u a) :: some (v a) :: some (w a) :: r)) -> acc.length + as.length <= 1000000 ->
    ∃ o1 o2 o3, qT (yj 3 (qj (qf 0) (qj (qf 1) (qj (qf 2) yi)))) t e (as.map fun a => .tup [u a, v a, w a]) acc (o :: o' :: o'' :: r) = .ok (acc ++ (as.filter p).map f, o1 :: o2 :: o3 :: r)
  | [], acc, o, o', o'', _, _, _ => ⟨o, o', o'', by simp [qT]⟩
  | a :: as, acc, o, o', o'', ht, he, hl => by
    have hl' : acc.length + (as.length + 1) <= 1000000 := hl
    have h1 := ht a List.mem_cons_self
    rw [List.map_cons]
    unfold qT
    have hg : yj 3 (qj (qf 0) (qj (qf 1) (qj (qf 2) yi))) (.tup [u a, v a, w a]) (o :: o' :: o'' :: r) = some (some (u a) :: some (v a) :: some (w a) :: r) := rfl
    simp only [hg, h1]
    cases hp : p a with
    | false =>
      obtain ⟨o1, o2, o3, q⟩ := qfE as acc (some (u a)) (some (v a)) (some (w a)) (fun x hx => ht x (List.mem_cons_of_mem _ hx)) (fun x hx => he x (List.mem_cons_of_mem _ hx)) (by omega)
      refine ⟨o1, o2, o3, ?_⟩
      simp only [q, List.filter_cons, hp, Bool.false_eq_true, if_false]
    | true =>
      obtain ⟨o1, o2, o3, q⟩ := qfE as (acc ++ [f a]) (some (u a)) (some (v a)) (some (w a)) (fun x hx => ht x (List.mem_cons_of_mem _ hx)) (fun x hx => he x (List.mem_cons_of_mem _ hx)) (by rw [List.length_append, List.length_singleton]; omega)
      refine ⟨o1, o2, o3, ?_⟩
      simp only [he a List.mem_cons_self hp, jc (show acc.length + 1 <= 1000000 by omega), if_true, q, List.filter_cons, hp, List.map_cons, List.append_assoc, List.singleton_append]
theorem qi4 {α : Type} {e : M D} {t : M Bool} {u v w : α -> D} {xs : M (List D)} {ρ r : Env} {fr : List Nat} (as : List α) (p : α -> Bool) (f : α -> D) (hx : xs ρ = .ok (as.map fun a => .tup [u a, v a, w a], ρ)) (hr : zN 3 fr ρ = none :: none :: none :: r) (hl : as.length <= 1000000)
    (ht : ∀ a ∈ as, t (some (u a) :: some (v a) :: some (w a) :: r) = .ok (p a, some (u a) :: some (v a) :: some (w a) :: r)) (he : ∀ a ∈ as, p a = true -> e (some (u a) :: some (v a) :: some (w a) :: r) = .ok (f a, some (u a) :: some (v a) :: some (w a) :: r)) : qI 3 fr none xs (yj 3 (qj (qf 0) (qj (qf 1) (qj (qf 2) yi)))) t e ρ = .ok (.lst ((as.filter p).map f), ρ) := by
  obtain ⟨o1, o2, o3, q⟩ := qfE as [] none none none ht he (by simpa using hl)
  rw [v9, hx]
  simp only [hr, q, List.nil_append]
  rfl
abbrev Tr := List Int × Int × Int
def trD (p : Tr) : D := .tup [ldD p.1, .int p.2.1, .int p.2.2]
def wR (k : Kw) (p : Tr) (t : Nat) : Tr := (p.1 ++ [(t : Int)], p.2.1 + (t : Int) * k.w, p.2.2 + (t : Int) * k.v)
def uj (k : Kw) (r : Int) (p : Tr) : List Tr := (List.range (ofn k (r - p.2.1) + 1)).map (wR k p)
theorem qhI (r : Int) : ∀ (ks : List Kw) (found : List Tr), ks.foldl (fun f k => f.flatMap (uj k r)) found = found.flatMap fun p => (zy ks (r - p.2.1)).map fun l => (p.1 ++ l, p.2.1 + qi ks l, p.2.2 + ql ks l)
  | [], found => by
    simp only [List.foldl_nil, zy, List.map_cons, List.map_nil, List.append_nil, qi, ql, Int.add_zero]
    induction found with
    | nil => rfl
    | cons p found ih => rw [List.flatMap_cons, <- ih]; rfl
  | k :: ks, found => by
    rw [List.foldl_cons, qhI r ks _, List.flatMap_assoc]
    congr 1
    funext p
    simp only [zy, uj]
    rw [List.flatMap_map, List.map_flatMap]
    congr 1
    funext t
    rw [List.map_map]
    have e : r - (wR k p t).2.1 = r - p.2.1 - (t : Int) * k.w := by
      show r - (p.2.1 + (t : Int) * k.w) = _
      omega
    rw [e]
    refine List.map_congr_left fun l _ => ?_
    show ((p.1 ++ [(t : Int)]) ++ l, p.2.1 + (t : Int) * k.w + qi ks l, p.2.2 + (t : Int) * k.v + ql ks l) = (p.1 ++ ((t : Int) :: l), p.2.1 + ((t : Int) * k.w + qi ks l), p.2.2 + ((t : Int) * k.v + ql ks l))
    rw [List.append_assoc, Int.add_assoc, Int.add_assoc]
    rfl
structure okF (r : Int) (n : Nat) (F : List Tr) : Prop where
  bd : ∀ p ∈ F, 0 <= r - p.2.1 /\ 0 <= p.2.1 /\ p.1.length = n
  len : F.length <= 21 ^ n
theorem qhJ {k : Kw} (hk : ze k) {s : Int} (h0 : 0 <= s) (h1 : s <= 20) : ofn k s <= 20 := by
  have := (qda hk.kd.1 hk.kd.2 h0 (Nat.le_refl (ofn k s))).2
  omega
theorem qaU {k : Kw} (hk : ze k) {r : Int} (hr : r <= 20) {n : Nat} {p : Tr} (h : 0 <= r - p.2.1 /\ 0 <= p.2.1 /\ p.1.length = n) : (uj k r p).length <= 21 /\ ∀ q ∈ uj k r p, 0 <= r - q.2.1 /\ 0 <= q.2.1 /\ q.1.length = n + 1 := by
  have hn := qhJ hk h.1 (by omega)
  refine ⟨by unfold uj; rw [List.length_map, List.length_range]; omega, fun q hq => ?_⟩
  obtain ⟨t, ht, rfl⟩ := List.mem_map.mp hq
  have ht' : t <= ofn k (r - p.2.1) := by have := List.mem_range.mp ht; omega
  obtain ⟨g1, _⟩ := qda hk.kd.1 hk.kd.2 h.1 ht'
  have g2 : 0 <= (t : Int) * k.w := Int.mul_nonneg (by omega) (by have := hk.1.1; omega)
  refine ⟨?_, ?_, ?_⟩
  . show 0 <= r - (p.2.1 + t * k.w); omega
  . show 0 <= p.2.1 + t * k.w; omega
  . show (p.1 ++ [(t : Int)]).length = n + 1
    rw [List.length_append, h.2.2]
    rfl
theorem qdj {α β : Type} {g : α -> List β} {n : Nat} : ∀ l : List α, (∀ a ∈ l, (g a).length <= n) -> (l.flatMap g).length <= l.length * n
  | [], _ => by simp
  | a :: l, h => by
    have h1 := h a List.mem_cons_self
    have h2 := qdj l fun x hx => h x (List.mem_cons_of_mem _ hx)
    rw [List.flatMap_cons, List.length_append, List.length_cons, Nat.succ_mul]
    omega
theorem okF.step {k : Kw} (hk : ze k) {r : Int} (hr : r <= 20) {n : Nat} {F : List Tr} (h : okF r n F) : okF r (n + 1) (F.flatMap (uj k r)) := by
  refine ⟨fun q hq => ?_, ?_⟩
  . obtain ⟨p, hp, hq⟩ := List.mem_flatMap.mp hq
    exact (qaU hk hr (h.bd p hp)).2 q hq
  . rw [Nat.pow_succ]
    exact Nat.le_trans (qdj F fun p hp => (qaU hk hr (h.bd p hp)).1) (Nat.mul_le_mul_right _ h.len)
theorem qdk {α β : Type} (g : α -> List β) : ∀ (l : List α) (acc : List β), l.foldl (fun acc a => acc ++ g a) acc = acc ++ l.flatMap g
  | [], acc => by simp
  | a :: l, acc => by rw [List.foldl_cons, qdk g l, List.flatMap_cons, List.append_assoc]
theorem qk2 (l : List Int) : imm (ldD l) = true := qc9 fun _ _ => rfl
section
variable {k : Kw} (hk : ze k) (T Fd : Option D) {r : Int} {p : Tr} (h0 : 0 <= r - p.2.1)
def qbO (T Fd : Option D) (k : Kw) (r : Int) (p : Tr) (acc : List Tr) (t : Option D) : Env := [T, some (.int r), Fd, some (.int k.w), some (.int k.v), some (mD k.m), some (.lst (acc.map trD)), some (ldD p.1), some (.int p.2.1), some (.int p.2.2), t]
include hk h0 in
theorem qfF (acc : List Tr) (t : Nat) : (qes (tst (d2 leD (d2 zm (dv 8) (d2 jv (dv 10) (dv 3))) (dv 1))) (tor (tst (d2 isN (dv 5) (ret .non))) (tst (d2 leD (dv 10) (dv 5))))) (qbO T Fd k r p acc (some (.int (t : Nat)))) = .ok (decide (t <= ofn k (r - p.2.1)), qbO T Fd k r p acc (some (.int (t : Nat)))) := by
  let ρ := qbO T Fd k r p acc (some (.int (t : Nat)))
  rw [<- qaK hk.kd.1 hk.kd.2 h0 t]
  have c1 : tst (d2 leD (d2 zm (dv 8) (d2 jv (dv 10) (dv 3))) (dv 1)) ρ = .ok (decide (p.2.1 + (t : Int) * k.w <= r), ρ) := yv (qx (qx rfl (qx rfl rfl (qch (qfy hk))) (zK _ _)) rfl (qaH _ _))
  unfold okT
  by_cases hc : p.2.1 + (t : Int) * k.w <= r
  . rw [decide_eq_true hc] at c1
    rw [decide_eq_true (show (t : Int) * k.w <= r - p.2.1 by omega), Bool.true_and]
    refine qlY c1 ?_
    have c2 : tst (d2 isN (dv 5) (ret .non)) ρ = .ok (k.m.isNone, ρ) := yv (qx rfl rfl (by rw [w8, vI]))
    cases em : k.m with
    | none =>
      rw [em] at c2
      exact qm8 c2
    | some j =>
      rw [em] at c2
      have hv5 : dv 5 ρ = .ok (.int j, ρ) := by
        show R.ok (mD k.m, ρ) = _
        rw [em]
        rfl
      have c3 : tst (d2 leD (dv 10) (dv 5)) ρ = .ok (decide (((t : Nat) : Int) <= j), ρ) := yv (qx rfl hv5 (qaH _ _))
      rw [qgi, c2]
      exact c3
  . rw [decide_eq_false hc] at c1
    rw [decide_eq_false (show ¬ (t : Int) * k.w <= r - p.2.1 by omega), Bool.false_and]
    exact qlX c1
include hk h0 in
theorem qi5 (hlp : p.1.length <= 100) : ∀ (n t : Nat) (acc : List Tr), t + n = ofn k (r - p.2.1) + 1 -> acc.length + n <= 900000 -> jY (qes (tst (d2 leD (d2 zm (dv 8) (d2 jv (dv 10) (dv 3))) (dv 1))) (tor (tst (d2 isN (dv 5) (ret .non))) (tst (d2 leD (dv 10) (dv 5))))) (qM (jk (zx 6 (yO (qa (d2 zm (dv 7) (yO (qa (dv 10) (ret [])))) (qa (d2 zm (dv 8) (d2 jv (dv 10) (dv 3))) (qa (d2 zm (dv 9) (d2 jv (dv 10) (dv 4))) (ret []))))))) (zM 10 (d2 zm (dv 10) (ret (.int 1))))) (n + 1) (qbO T Fd k r p acc (some (.int (t : Nat)))) = .ok (.nx (qbO T Fd k r p (acc ++ (List.range' t n).map (wR k p)) (some (.int ((ofn k (r - p.2.1) + 1 : Nat) : Int))))) := fun n => by
  induction n with
  | zero =>
    intro t acc e _
    have e : t = ofn k (r - p.2.1) + 1 := e
    have c := qfF hk T Fd h0 acc t
    rw [decide_eq_false (by omega)] at c
    rw [qnb c, e]
    simp
  | succ n ih =>
    intro t acc e hl
    have c := qfF hk T Fd h0 acc t
    rw [decide_eq_true (by omega)] at c
    have s1 : (qM (jk (zx 6 (yO (qa (d2 zm (dv 7) (yO (qa (dv 10) (ret [])))) (qa (d2 zm (dv 8) (d2 jv (dv 10) (dv 3))) (qa (d2 zm (dv 9) (d2 jv (dv 10) (dv 4))) (ret []))))))) (zM 10 (d2 zm (dv 10) (ret (.int 1))))) (qbO T Fd k r p acc (some (.int (t : Nat)))) = .ok (.nx (qbO T Fd k r p (acc ++ [wR k p t]) (some (.int ((t + 1 : Nat) : Int))))) := by
      refine (qq (ρ' := qbO T Fd k r p (acc ++ [wR k p t]) (some (.int (t : Nat)))) ?_).trans ?_
      . have a1 : yO (qa (dv 10) (ret [])) (qbO T Fd k r p acc (some (.int (t : Nat)))) = .ok (.tup [.int (t : Nat)], qbO T Fd k r p acc (some (.int (t : Nat)))) := by
          rw [qbo, qaJ (a := .int (t : Nat)) rfl]
          simp only [List.length_cons, List.length_nil, Nat.zero_add, sm1, if_true]
        have a2 : zm (ldD p.1) (.tup [.int (t : Nat)]) = some (ldD (p.1 ++ [(t : Int)])) := by
          unfold ldD
          rw [qgJ (by rw [List.length_map, List.length_cons, List.length_nil]; omega), List.map_append]
          rfl
        have a3 : yO (qa (d2 zm (dv 7) (yO (qa (dv 10) (ret [])))) (qa (d2 zm (dv 8) (d2 jv (dv 10) (dv 3))) (qa (d2 zm (dv 9) (d2 jv (dv 10) (dv 4))) (ret [])))) (qbO T Fd k r p acc (some (.int (t : Nat)))) = .ok (trD (wR k p t), qbO T Fd k r p acc (some (.int (t : Nat)))) := qm7 (qx rfl a1 a2) (qx rfl (qx rfl rfl (qch (qfy hk))) (zK _ _)) (qx rfl (qx rfl rfl (qch (qhC hk))) (zK _ _))
        rw [qbG (ds := acc.map trD) (d := trD (wR k p t)) rfl a3 (by
          show immL [ldD (p.1 ++ [(t : Int)]), .int _, .int _] = true
          simp only [immL, qk2, imm, Bool.and_self]) (by rw [List.length_map]; omega)]
        show R.ok (Fl.nx _) = R.ok (Fl.nx (qbO T Fd k r p (acc ++ [wR k p t]) _))
        unfold qbO
        rw [List.map_append]
        rfl
      . rw [yV (qx rfl rfl (qnc t))]
        rfl
    rw [qna c s1, ih (t + 1) (acc ++ [wR k p t]) (by omega) (by rw [List.length_append, List.length_singleton]; omega), List.range'_succ, List.map_cons, List.append_assoc]
    rfl
end
theorem qdW (T : Option D) {k : Kw} (hk : ze k) {r : Int} (hr : r <= 20) {n : Nat} (hn : n <= 3) {F : List Tr} (h : okF r n F) (o6 o7 o8 o9 o10 : Option D) :
    ∃ q7 q8 q9 q10, (qM (uC 6 (qhb (ret []))) (qM (qdx (yK (dv 2)) (yj 3 (qj (qf 7) (qj (qf 8) (qj (qf 9) yi)))) (qM (zM 10 (ret (.int 0))) (uV (qes (tst (d2 leD (d2 zm (dv 8) (d2 jv (dv 10) (dv 3))) (dv 1))) (tor (tst (d2 isN (dv 5) (ret .non))) (tst (d2 leD (dv 10) (dv 5))))) (qM (jk (zx 6 (yO (qa (d2 zm (dv 7) (yO (qa (dv 10) (ret [])))) (qa (d2 zm (dv 8) (d2 jv (dv 10) (dv 3))) (qa (d2 zm (dv 9) (d2 jv (dv 10) (dv 4))) (ret []))))))) (zM 10 (d2 zm (dv 10) (ret (.int 1)))))))) (qfh 2 6))) [T, some (.int r), some (.lst (F.map trD)), some (.int k.w), some (.int k.v), some (mD k.m), o6, o7, o8, o9, o10] = .ok (.nx [T, some (.int r), some (.lst ((F.flatMap (uj k r)).map trD)), some (.int k.w), some (.int k.v), some (mD k.m), none, q7, q8, q9, q10]) := by
  have hF : F.length <= 9261 := Nat.le_trans h.len (Nat.le_trans (Nat.pow_le_pow_right (by omega) hn) (by decide))
  let Fd : Option D := some (.lst (F.map trD))
  obtain ⟨ρ', q, o7', o8', o9', o10', hlen, rfl⟩ := qbF (G := yj 3 (qj (qf 7) (qj (qf 8) (qj (qf 9) yi)))) (b := (qM (zM 10 (ret (.int 0))) (uV (qes (tst (d2 leD (d2 zm (dv 8) (d2 jv (dv 10) (dv 3))) (dv 1))) (tor (tst (d2 isN (dv 5) (ret .non))) (tst (d2 leD (dv 10) (dv 5))))) (qM (jk (zx 6 (yO (qa (d2 zm (dv 7) (yO (qa (dv 10) (ret [])))) (qa (d2 zm (dv 8) (d2 jv (dv 10) (dv 3))) (qa (d2 zm (dv 9) (d2 jv (dv 10) (dv 4))) (ret []))))))) (zM 10 (d2 zm (dv 10) (ret (.int 1)))))))) (k := trD) (step := fun acc p => acc ++ uj k r p) (Inv := fun m acc ρ => ∃ o7 o8 o9 o10, acc.length <= m * 21 /\ ρ = [T, some (.int r), Fd, some (.int k.w), some (.int k.v), some (mD k.m), some (.lst (acc.map trD)), o7, o8, o9, o10]) F 0 [] [T, some (.int r), Fd, some (.int k.w), some (.int k.v), some (mD k.m), some (.lst []), o7, o8, o9, o10] ⟨o7, o8, o9, o10, Nat.le_refl _, rfl⟩ (fun p hp m acc ρ _ hm => by
    rintro ⟨o7, o8, o9, o10, hacc, rfl⟩
    have b := h.bd p hp
    have so := qaU hk hr b
    have hof := qhJ hk b.1 (by omega)
    have w := qi5 hk T Fd b.1 (by omega) (ofn k (r - p.2.1) + 1) 0 acc (by omega) (by omega)
    have e : acc ++ (List.range' 0 (ofn k (r - p.2.1) + 1)).map (wR k p) = acc ++ uj k r p := by
      unfold uj
      rw [List.range_eq_range']
    rw [e] at w
    refine ⟨qbO T Fd k r p acc o10, qbO T Fd k r p (acc ++ uj k r p) (some (.int ((ofn k (r - p.2.1) + 1 : Nat) : Int))), rfl, ?_, _, _, _, _, ?_, rfl⟩
    . refine (qq (ρ' := qbO T Fd k r p acc (some (.int ((0 : Nat) : Int)))) rfl).trans ?_
      exact qeY w (by intro z; cases z)
    . rw [List.length_append]
      have := so.1
      omega)
  rw [qdk, List.nil_append] at q
  refine ⟨o7', o8', o9', o10', ?_⟩
  refine (qq (ρ' := [T, some (.int r), Fd, some (.int k.w), some (.int k.v), some (mD k.m), some (.lst []), o7, o8, o9, o10]) ?_).trans ?_
  . push_cast [jc (show 0 <= 1000000 by omega), immL, Bool.and_self, Fd]
  refine (qq (ρ' := [T, some (.int r), Fd, some (.int k.w), some (.int k.v), some (mD k.m), some (.lst ((F.flatMap (uj k r)).map trD)), o7', o8', o9', o10']) ?_).trans rfl
  rw [uo]
  exact q
def trL (ks : List Kw) (l : List Int) : Tr := (l, qi ks l, ql ks l)
theorem wE {ks : List Kw} (h : ∀ k ∈ ks, ze k) (hl : ks.length <= 4) {r : Nat} (hr : r <= 20) : zj [.tup (ks.map kw), .int (r : Nat)] = .ok (.lst ((zy ks (r : Nat)).map fun l => trD (trL ks l))) /\ (zy ks (r : Nat)).length <= 194481 := by
  let T : Option D := some (.tup (ks.map kw))
  let Rm : Option D := some (.int (r : Nat))
  have loop : ∀ (b : List Kw) (n : Nat) (F : List Tr) (o3 o4 o5 o6 o7 o8 o9 o10 : Option D), (∀ k ∈ b, ze k) -> okF (r : Nat) n F -> n + b.length <= 4 -> ∃ o3' o4' o5' o6' o7' o8' o9' o10', yu (yj 3 (qj (qf 3) (qj (qf 4) (qj (qf 5) yi)))) (qM (uC 6 (qhb (ret []))) (qM (qdx (yK (dv 2)) (yj 3 (qj (qf 7) (qj (qf 8) (qj (qf 9) yi)))) (qM (zM 10 (ret (.int 0))) (uV (qes (tst (d2 leD (d2 zm (dv 8) (d2 jv (dv 10) (dv 3))) (dv 1))) (tor (tst (d2 isN (dv 5) (ret .non))) (tst (d2 leD (dv 10) (dv 5))))) (qM (jk (zx 6 (yO (qa (d2 zm (dv 7) (yO (qa (dv 10) (ret [])))) (qa (d2 zm (dv 8) (d2 jv (dv 10) (dv 3))) (qa (d2 zm (dv 9) (d2 jv (dv 10) (dv 4))) (ret []))))))) (zM 10 (d2 zm (dv 10) (ret (.int 1)))))))) (qfh 2 6))) (b.map kw) [T, Rm, some (.lst (F.map trD)), o3, o4, o5, o6, o7, o8, o9, o10] = .ok (.nx [T, Rm, some (.lst ((b.foldl (fun f k => f.flatMap (uj k (r : Nat))) F).map trD)), o3', o4', o5', o6', o7', o8', o9', o10']) /\ okF (r : Nat) (n + b.length) (b.foldl (fun f k => f.flatMap (uj k (r : Nat))) F) := fun b => by
    induction b with
    | nil => intro n F o3 o4 o5 o6 o7 o8 o9 o10 _ hF _; exact ⟨o3, o4, o5, o6, o7, o8, o9, o10, rfl, hF⟩
    | cons k b ih =>
      intro n F o3 o4 o5 o6 o7 o8 o9 o10 hb hF hn
      have hn' : n + (b.length + 1) <= 4 := hn
      have hk := hb k List.mem_cons_self
      obtain ⟨q7, q8, q9, q10, e⟩ := qdW T hk (show ((r : Nat) : Int) <= 20 by omega) (by omega) hF o6 o7 o8 o9 o10
      obtain ⟨p3, p4, p5, p6, p7, p8, p9, p10, q, g⟩ := ih (n + 1) (F.flatMap (uj k (r : Nat))) (some (.int k.w)) (some (.int k.v)) (some (mD k.m)) none q7 q8 q9 q10 (fun x hx => hb x (List.mem_cons_of_mem _ hx)) (hF.step hk (by omega)) (by omega)
      refine ⟨p3, p4, p5, p6, p7, p8, p9, p10, ?_, ?_⟩
      . rw [List.map_cons, yT rfl e, q]
        rfl
      . rw [List.foldl_cons, List.length_cons, show n + (b.length + 1) = n + 1 + b.length by omega]
        exact g
  have h0 : okF (r : Nat) 0 [([], 0, 0)] := ⟨fun p hp => by
    rw [List.mem_singleton] at hp
    subst hp
    exact ⟨by show (0 : Int) <= (r : Nat) - 0; omega, Int.le_refl _, rfl⟩, Nat.le_refl _⟩
  obtain ⟨p3, p4, p5, p6, p7, p8, p9, p10, q, g⟩ := loop ks 0 [([], 0, 0)] none none none none none none none none h h0 (by omega)
  have fe : ks.foldl (fun f k => f.flatMap (uj k (r : Nat))) [([], 0, 0)] = (zy ks (r : Nat)).map (trL ks) := by
    rw [qhI, List.flatMap_cons, List.flatMap_nil, List.append_nil]
    show (zy ks ((r : Nat) - 0)).map _ = _
    rw [Int.sub_zero]
    refine List.map_congr_left fun l _ => ?_
    show ([] ++ l, 0 + qi ks l, 0 + ql ks l) = _
    rw [Int.zero_add, Int.zero_add]
    rfl
  rw [fe, List.map_map] at q
  rw [fe, Nat.zero_add] at g
  refine ⟨?_, ?_⟩
  . unfold zj yd
    let ρ' : Env := [T, Rm, some (.lst ((zy ks (r : Nat)).map (trD ∘ trL ks))), p3, p4, p5, p6, p7, p8, p9, p10]
    refine qa1 rfl ⟨ρ', ?_⟩
    refine (qq (ρ' := [T, Rm, some (.lst (([([], 0, 0)] : List Tr).map trD)), none, none, none, none, none, none, none, none]) ?_).trans ?_
    . push_cast [jc (show 0 <= 1000000 by omega), sm1, jc (show 3 <= 1000000 by omega), T, Rm]
      rfl
    refine (qq (ρ' := ρ') ?_).trans rfl
    rw [uo]
    exact q
  . have := g.len
    rw [List.length_map] at this
    exact Nat.le_trans this (Nat.le_trans (Nat.pow_le_pow_right (by omega) hl) (by decide))
theorem qdl : ∀ l : List Int, HT.lexLt l l = false
  | [] => rfl
  | a :: l => by
    show (if a = a then HT.lexLt l l else decide (a < a)) = false
    rw [if_pos rfl, qdl l]
theorem qbP : ∀ (ks : List Kw) (r : Int), List.Pairwise (fun a b => HT.lexLt b a = false) (zy ks r)
  | [], r => List.pairwise_singleton _ _
  | k :: ks, r => by
    simp only [zy]
    rw [List.pairwise_flatMap]
    refine ⟨fun t _ => ?_, ?_⟩
    . rw [List.pairwise_map]
      refine (qbP ks _).imp fun {a b} h => ?_
      show (if (t : Int) = (t : Int) then HT.lexLt b a else decide ((t : Int) < (t : Int))) = false
      rw [if_pos rfl, h]
    . refine List.pairwise_lt_range.imp fun {s t} hst => ?_
      intro x hx y hy
      obtain ⟨x', _, rfl⟩ := List.mem_map.mp hx
      obtain ⟨y', _, rfl⟩ := List.mem_map.mp hy
      show (if (t : Int) = (s : Int) then HT.lexLt y' x' else decide ((t : Int) < (s : Int))) = false
      rw [if_neg (by omega), decide_eq_false (by omega)]
theorem vv {bt : Nat -> Nat -> Bool} : ∀ n, (∀ i, i <= n -> bt i 0 = false) -> argBest bt n = 0
  | 0, _ => rfl
  | n + 1, h => by
    have e := vv n fun i hi => h i (by omega)
    show (if bt (n + 1) (argBest bt n) then n + 1 else argBest bt n) = 0
    rw [e, h (n + 1) (Nat.le_refl _)]
    rfl
theorem qdm : ∀ F : List (List Int), qca (F.map ldD) = some F
  | [] => rfl
  | l :: F => by
    rw [List.map_cons]
    unfold ldD qca
    rw [y9]
    have := qdm F
    unfold ldD at this
    rw [this]
theorem qfG {x : List Int} {zQ : List (List Int)} (h : ∀ y ∈ zQ, HT.lexLt y x = false) : qa0 [.lst ((x :: zQ).map ldD)] = some (ldD x) := by
  have e1 : qbu [.lst ((x :: zQ).map ldD)] = none := rfl
  have e2 : qe3 [.lst ((x :: zQ).map ldD)] = some (ldD x) := by
    unfold qe3
    simp only [qdm]
    have b : qaz (x :: zQ) = 0 := vv _ fun i hi => by
      show HT.lexLt (qd3 (x :: zQ) i) (qd3 (x :: zQ) 0) = false
      cases i with
      | zero => exact qdl x
      | succ i =>
        have hi' : i < zQ.length := by
          rw [List.length_cons] at hi
          omega
        refine h _ ?_
        show ((x :: zQ)[i + 1]?).getD [] ∈ zQ
        rw [List.getElem?_cons_succ, List.getElem?_eq_getElem hi']
        exact List.getElem_mem hi'
    rw [b]
    rfl
  unfold qa0
  rw [e1, e2]
  rfl
theorem qdX {l : List Int} (h : l ≠ []) : qbu [.lst (l.map D.int)] = some (.int (qbt l)) := by
  cases l with
  | nil => exact absurd rfl h
  | cons a l => simp only [qbu, y9]
theorem qdY {l : List Int} (h : l ≠ []) : wL [.lst (l.map D.int)] = some (.int (qbU l)) := by
  cases l with
  | nil => exact absurd rfl h
  | cons a l => simp only [wL, y9]
def soL (ks : List Kw) (r : Nat) : List (List Int) := (zy ks (r : Nat)).filter fun l => decide (qi ks l = (r : Nat))
theorem qk3 (ks : List Kw) (r : Nat) : (soL ks r = [] /\ fR mxO ks (r : Nat) = none /\ fR mnO ks (r : Nat) = none) \/ ∃ h z, fR mxO ks (r : Nat) = some h /\ fR mnO ks (r : Nat) = some z /\ soL ks r ≠ [] /\ qbU ((soL ks r).map (ql ks)) = h /\ qbt ((soL ks r).map (ql ks)) = z /\ ∃ zQ, (soL ks r).filter (fun l => decide (ql ks l = h)) = yn mxO ks (r : Nat) :: zQ /\ ∀ y ∈ zQ, HT.lexLt y (yn mxO ks (r : Nat)) = false := by
  have mem : ∀ l ∈ soL ks r, l ∈ zy ks (r : Nat) /\ qi ks l = (r : Nat) := fun l hl => by
    obtain ⟨a, b⟩ := List.mem_filter.mp hl
    exact ⟨a, of_decide_eq_true b⟩
  cases e : soL ks r with
  | nil =>
    refine .inl ⟨rfl, ?_, ?_⟩
    . cases e1 : fR mxO ks (r : Nat) with
      | none => rfl
      | some h =>
        obtain ⟨a, b, _⟩ := vh ym e1
        have : yn mxO ks (r : Nat) ∈ soL ks r := List.mem_filter.mpr ⟨a, decide_eq_true b⟩
        rw [e] at this
        cases this
    . cases e1 : fR mnO ks (r : Nat) with
      | none => rfl
      | some h =>
        obtain ⟨a, b, _⟩ := vh uG e1
        have : yn mnO ks (r : Nat) ∈ soL ks r := List.mem_filter.mpr ⟨a, decide_eq_true b⟩
        rw [e] at this
        cases this
  | cons l0 so =>
    rw [<- e]
    have h0 : l0 ∈ soL ks r := by rw [e]; exact List.mem_cons_self
    obtain ⟨a0, b0⟩ := mem l0 h0
    obtain ⟨h, eh, _⟩ := qcj ym ks _ l0 a0 b0
    obtain ⟨z, ez, _⟩ := qcj uG ks _ l0 a0 b0
    obtain ⟨ha, hb, hc⟩ := vh ym eh
    obtain ⟨za, zb, zc⟩ := vh uG ez
    refine .inr ⟨h, z, eh, ez, by rw [e]; simp, ?_, ?_, ?_⟩
    . refine qas (List.mem_map.mpr ⟨_, List.mem_filter.mpr ⟨ha, decide_eq_true hb⟩, hc⟩) fun n hn => ?_
      obtain ⟨l, hl, rfl⟩ := List.mem_map.mp hn
      obtain ⟨a, b⟩ := mem l hl
      obtain ⟨h', e', q⟩ := qcj ym ks _ l a b
      rw [eh] at e'
      cases e'
      exact q
    . refine qat (List.mem_map.mpr ⟨_, List.mem_filter.mpr ⟨za, decide_eq_true zb⟩, zc⟩) fun n hn => ?_
      obtain ⟨l, hl, rfl⟩ := List.mem_map.mp hn
      obtain ⟨a, b⟩ := mem l hl
      obtain ⟨h', e', q⟩ := qcj uG ks _ l a b
      rw [ez] at e'
      cases e'
      exact q
    . obtain ⟨zQ, q⟩ := qaN ym ks _ h eh
      have q' : (soL ks r).filter (fun l => decide (ql ks l = h)) = yn mxO ks (r : Nat) :: zQ := by
        unfold soL
        rw [List.filter_filter, <- q]
        refine List.filter_congr fun l _ => ?_
        rw [Bool.and_comm]
      refine ⟨zQ, q', ?_⟩
      have pw := (qbP ks (r : Nat)).filter (fun l => decide (qi ks l = (r : Nat)) && decide (ql ks l = h))
      rw [q, List.pairwise_cons] at pw
      exact pw.1
theorem ql1 {ks : List Kw} (h : ∀ k ∈ ks, ze k) (hl : ks.length <= 4) {r : Nat} (hr : r <= 200) : qE [.int 0, .tup (ks.map kw), .int (r : Nat)] = .ok (fD mxO ks r) := by
  unfold qE
  let ρ : Env := [some (.int 0), some (.tup (ks.map kw)), some (.int (r : Nat)), none]
  refine qa1 rfl ⟨ρ, ?_⟩
  unfold jt
  refine qcn (w9 (ρ' := ρ) ?_)
  push_cast [ρ, vi h hl hr]
theorem ql2 {ks : List Kw} (h : ∀ k ∈ ks, ze k) (hl : ks.length <= 4) {r : Nat} (hr : r <= 200) : qE [.int 1, .tup (ks.map kw), .int (r : Nat)] = .ok (fD mnO ks r) := by
  unfold qE
  let ρ : Env := [some (.int 1), some (.tup (ks.map kw)), some (.int (r : Nat)), none]
  have h1 : ¬ ((1 : Int) = 0) := by omega
  refine qa1 rfl ⟨ρ, ?_⟩
  unfold jt
  refine qcn ((qq (ρ' := ρ) ?_).trans ?_)
  . push_cast [ρ, h1]
  . push_cast [ρ, u6 h hl hr]
theorem ql3 {ks : List Kw} (h : ∀ k ∈ ks, ze k) (hl : ks.length <= 4) {r : Nat} (hr : r <= 200) : qE [.int 2, .tup (ks.map kw), .int (r : Nat)] = .ok (qd4 ks (r : Nat)) := by
  unfold qE
  let ρ : Env := [some (.int 2), some (.tup (ks.map kw)), some (.int (r : Nat)), none]
  have h1 : ¬ ((2 : Int) = 0) := by omega
  have h2 : ¬ ((2 : Int) = 1) := by omega
  refine qa1 rfl ⟨ρ, ?_⟩
  unfold jt
  refine qcn ((qq (ρ' := ρ) ?_).trans ?_)
  . push_cast [ρ, h1]
  . push_cast [ρ, h2, qfD h hl hr]
theorem qi6 : ∀ j : Nat, j < 3 -> qE [.int (j : Nat), (.tup [.tup [.int 1, .int 1, .int 1]]), .int 201] = .ok (.lst [.int 3]) := qm9 (by kernel_rfl) (by kernel_rfl) (by kernel_rfl)
theorem qhK : ∀ (ks : List Kw) (l : List Int), (∀ k ∈ ks, ze k) -> qgT ks l -> (0 <= ql ks l /\ ql ks l <= 39 * qi ks l) /\ ∀ x ∈ l, 0 <= x /\ x <= qi ks l
  | [], [], _, _ => ⟨⟨Int.le_refl _, Int.le_refl _⟩, fun x hx => by cases hx⟩
  | k :: ks, t :: l, hk, h => by
    have gk := hk k List.mem_cons_self
    have hks := fun x hx => hk x (List.mem_cons_of_mem k hx)
    obtain ⟨⟨a, b⟩, c⟩ := qhK ks l hks h.2.2
    have wn := vg ks l (fun x hx => (hks x hx).kd) h.2.2
    have t0 := h.1
    have m1 : 0 <= t * k.v := Int.mul_nonneg t0 gk.2.1.1
    have m2 : t * k.v <= t * 39 := Int.mul_le_mul_of_nonneg_left gk.2.1.2 t0
    have m3 : t * 1 <= t * k.w := Int.mul_le_mul_of_nonneg_left gk.1.1 t0
    refine ⟨⟨?_, ?_⟩, fun x hx => ?_⟩
    . show 0 <= t * k.v + ql ks l; omega
    . show t * k.v + ql ks l <= 39 * (t * k.w + qi ks l); omega
    . show 0 <= x /\ x <= t * k.w + qi ks l
      rcases List.mem_cons.mp hx with rfl | hx
      . omega
      . have := c x hx; omega
  | [], t :: l, _, h => h.elim
  | k :: ks, [], _, h => h.elim
theorem qk4 {f : List Int -> Option Int} {le : Int -> Int -> Prop} (S : Sel f le) {ks : List Kw} (hk : ∀ k ∈ ks, ze k) {r : Nat} (hr : r <= 20) {h : Int} (e : fR f ks (r : Nat) = some h) : (0 <= h /\ h <= 780) /\ (yn f ks (r : Nat)).length = ks.length /\ ∀ x ∈ yn f ks (r : Nat), 0 <= x /\ x <= 20 := by
  obtain ⟨a, b, c⟩ := vh S e
  have v := (yW ks _ _ (fun k h => (hk k h).kd) (by omega) b).mp a
  obtain ⟨⟨i1, i2⟩, i3⟩ := qhK ks _ hk v
  rw [b] at i2 i3
  rw [c] at i1 i2
  exact ⟨⟨i1, by omega⟩, (qck _ _ v).symm, fun x hx => by have := i3 x hx; omega⟩
theorem qfH {xs : List D} (h : ∀ d ∈ xs, plain d = true) : plain (.tup xs) = true := by
  have hp := wu xs h
  unfold plain
  simp only [zP, PyData.hasDict, hp.1, noL, hp.2, Bool.not_false, Bool.and_self]
theorem nn : qa2 1703 1 .non /\ plain .non = true := by
  have q : qa2 130 5 .non := qiS rfl
  exact ⟨⟨q.lv, q.sh, Nat.le_trans q.wt (by omega), Nat.zero_le _⟩, rfl⟩
theorem qfI {f : List Int -> Option Int} {le : Int -> Int -> Prop} (S : Sel f le) {ks : List Kw} (hk : ∀ k ∈ ks, ze k) {r : Nat} (hr : r <= 20) : qa2 1703 1 (fD f ks r) /\ plain (fD f ks r) = true := by
  unfold fD
  cases e : fR f ks (r : Nat) with
  | none => exact nn
  | some h =>
    obtain ⟨⟨a, b⟩, _⟩ := qk4 S hk hr e
    exact ⟨(qbH (i := h) (by omega)).mono (by omega) (by omega), rfl⟩
theorem qi7 {ks : List Kw} (hk : ∀ k ∈ ks, ze k) (hl : ks.length <= 4) {r : Nat} (hr : r <= 20) : qa2 1703 1 (qd4 ks (r : Nat)) /\ plain (qd4 ks (r : Nat)) = true := by
  unfold qd4
  cases e : fR mxO ks (r : Nat) with
  | none => exact nn
  | some h =>
    obtain ⟨_, i3, i4⟩ := qk4 ym hk hr e
    refine ⟨?_, ?_⟩
    . exact (qgG (w := 130) (e := 0) (n := 13) (fun d hd => by
        obtain ⟨v, hv, rfl⟩ := List.mem_map.mp hd
        have := i4 v hv
        exact qbH (by omega)) (by rw [List.length_map, i3]; omega)).mono (by omega) (by omega)
    . exact (qfH fun d hd => by
        obtain ⟨v, hv, rfl⟩ := List.mem_map.mp hd
        rfl)
def qdZ (ks : List Kw) (r : Nat) : D := .lst [fD mxO ks r, fD mnO ks r, qd4 ks (r : Nat)]
theorem qgW {ks : List Kw} (h : ∀ k ∈ ks, ze k) (hl : ks.length <= 4) {r : Nat} (hr : r <= 20) : ∃ x, vy [qdZ ks r] = some (.str x) := by
  have n1 := qfI ym h hr
  have n2 := qfI uG h hr
  have n3 := qi7 h hl hr
  have all : ∀ d ∈ [fD mxO ks r, fD mnO ks r, qd4 ks (r : Nat)], qa2 1703 1 d /\ plain d = true := fun d hd => by
    simp only [List.mem_cons, List.not_mem_nil, or_false] at hd
    rcases hd with rfl | rfl | rfl
    . exact n1
    . exact n2
    . exact n3
  have hn : qa2 (3 * 1704) 2 (qdZ ks r) := qgH (w := 1703) (e := 1) (n := 3) (fun d hd => (all d hd).1) (by simp)
  have hp := wu _ fun d hd => (all d hd).2
  have : wT (qdZ ks r) = true := qiT hn (by omega) (by omega) (by
    show (!(zP (qdZ ks r)).hasDict || noL (qdZ ks r)) = true
    unfold qdZ
    simp only [zP, PyData.hasDict, hp.1, Bool.not_false, Bool.true_or])
  exact ⟨_, by simp only [vy, this, if_true]; rfl⟩
theorem qk5 (k : Kw) : imm (kw k) = true := qkN (k.w, k.v, k.m)
theorem qd0 (n : Int) (ds : List D) (hl : ds.length <= 100) (o3 o4 o5 : Option D) : ∃ k o4' o5', ze k /\ (qM (qjh 4 5 (qa (d2 zm (ret (.int 1)) (qO qt 0 (qa (ret (.int 9)) (ret [])))) (qa (qO qt 0 (qa (ret (.int 10)) (ret []))) (ret [])))) (jk (zx 2 (yO (qa (dv 4) (qa (dv 5) (qa (d2 ixD (jO (qa (ret .non) (qa (ret (.int 0)) (qa (ret (.int 1)) (qa (ret (.int 1)) (qa (ret (.int 2)) (qa (ret (.int 3)) (qa (ret (.int 5)) (ret []))))))))) (qO qt 0 (qa (ret (.int 7)) (ret [])))) (ret [])))))))) [some (.lst [.int n]), some (.int 4), some (.lst ds), o3, o4, o5] = .ok (.nx [some (.lst [.int (n / 9 / 10 / 7)]), some (.int 4), some (.lst (ds ++ [kw k])), o3, o4', o5']) := by
  obtain ⟨d, hd, e⟩ := qkK (ds := [.non, .int 0, .int 1, .int 1, .int 2, .int 3, .int 5]) (k := n / 9 / 10 % 7) (by omega) (by show n / 9 / 10 % 7 < 7; omega)
  obtain ⟨o, rfl, ho⟩ : ∃ o : Option Int, d = mD o /\ ∀ j, o = some j -> 0 <= j /\ j <= 5 := by
    simp only [List.mem_cons, List.not_mem_nil, or_false] at hd
    rcases hd with rfl | rfl | rfl | rfl | rfl | rfl | rfl
    . exact ⟨none, rfl, fun j e => by cases e⟩
    . exact ⟨some 0, rfl, fun j e => by cases e; omega⟩
    . exact ⟨some 1, rfl, fun j e => by cases e; omega⟩
    . exact ⟨some 1, rfl, fun j e => by cases e; omega⟩
    . exact ⟨some 2, rfl, fun j e => by cases e; omega⟩
    . exact ⟨some 3, rfl, fun j e => by cases e; omega⟩
    . exact ⟨some 5, rfl, fun j e => by cases e; omega⟩
  let k : Kw := ⟨1 + n % 9, n / 9 % 10, o⟩
  refine ⟨k, some (.int (1 + n % 9)), some (.int (n / 9 % 10)), ⟨⟨by show 1 <= 1 + n % 9; omega, by show 1 + n % 9 <= 25; omega⟩, ⟨by show 0 <= n / 9 % 10; omega, by show n / 9 % 10 <= 39; omega⟩, ho⟩, ?_⟩
  refine (qq (ρ' := [some (.lst [.int (n / 9 / 10)]), some (.int 4), some (.lst ds), o3, some (.int (1 + n % 9)), some (.int (n / 9 % 10))]) ?_).trans ?_
  . push_cast [wC (m := 9) (by decide) (by decide), wC (m := 10) (by decide) (by decide), zK]
  . have im : imm (.tup [.int (1 + n % 9), .int (n / 9 % 10), mD o]) = true := qk5 k
    push_cast [wC (m := 7) (by decide) (by decide), e, im, jc (show 3 <= 1000000 by omega), jc (show 7 <= 1000000 by omega), jc (show ds.length + 1 <= 1000000 by omega), Bool.and_self]
    rfl
theorem qae : ∀ (cs : List D) (n : Int) (ks : List Kw) (o3 o4 o5 : Option D), (∀ k ∈ ks, ze k) -> ks.length + cs.length <= 4 ->
    ∃ (n' : Int) (ks' : List Kw) (o3' o4' o5' : Option D), yu (qf 3) (qM (qjh 4 5 (qa (d2 zm (ret (.int 1)) (qO qt 0 (qa (ret (.int 9)) (ret [])))) (qa (qO qt 0 (qa (ret (.int 10)) (ret []))) (ret [])))) (jk (zx 2 (yO (qa (dv 4) (qa (dv 5) (qa (d2 ixD (jO (qa (ret .non) (qa (ret (.int 0)) (qa (ret (.int 1)) (qa (ret (.int 1)) (qa (ret (.int 2)) (qa (ret (.int 3)) (qa (ret (.int 5)) (ret []))))))))) (qO qt 0 (qa (ret (.int 7)) (ret [])))) (ret [])))))))) cs [some (.lst [.int n]), some (.int 4), some (.lst (ks.map kw)), o3, o4, o5] = .ok (.nx [some (.lst [.int n']), some (.int 4), some (.lst (ks'.map kw)), o3', o4', o5']) /\ (∀ k ∈ ks', ze k) /\ ks'.length <= 4
  | [], n, ks, o3, o4, o5, h, hl => ⟨n, ks, o3, o4, o5, rfl, h, by simpa using hl⟩
  | d :: cs, n, ks, o3, o4, o5, h, hl => by
    have hl' : ks.length + (cs.length + 1) <= 4 := hl
    obtain ⟨k, o4', o5', gk, e⟩ := qd0 n (ks.map kw) (by rw [List.length_map]; omega) (some d) o4 o5
    obtain ⟨n', ks', p3, p4, p5, q, g, l⟩ := qae cs (n / 9 / 10 / 7) (ks ++ [k]) (some d) o4' o5' (fun x hx => (List.mem_append.mp hx).elim (h x) fun hx => by
      rw [List.mem_singleton] at hx; subst hx; exact gk) (by rw [List.length_append, List.length_singleton]; omega)
    refine ⟨n', ks', p3, p4, p5, ?_, g, l⟩
    rw [List.map_append] at q
    rw [yT rfl e]
    exact q
theorem qbQ (n : Int) : ∃ (ks : List Kw) (n' : Int), zI [.int n] [.int 4] = .ok (.tup (ks.map kw), [.int n']) /\ (∀ k ∈ ks, ze k) /\ ks.length <= 4 := by
  obtain ⟨n', ks', o3', o4', o5', q, g, l⟩ := qae (wK 0 (n % 5).toNat) (n / 5) [] none none none (fun _ h => by cases h) (by rw [qgE]; simp; omega)
  refine ⟨ks', n', ?_, g, l⟩
  unfold zI
  refine qhq (ρ := [some (.lst [.int n']), some (.int 4), some (.lst (ks'.map kw)), o3', o4', o5']) rfl ?_ rfl
  unfold ye
  refine (qq (ρ' := [some (.lst [.int n]), some (.int 4), some (.lst []), none, none, none]) ?_).trans ?_
  . push_cast [immL, jc (show 0 <= 1000000 by omega), Bool.and_self]
  refine (qq (ρ' := [some (.lst [.int n']), some (.int 4), some (.lst (ks'.map kw)), o3', o4', o5']) ?_).trans rfl
  rw [uo, yF (j := n % 5) (ρ1 := [some (.lst [.int (n / 5)]), some (.int 4), some (.lst []), none, none, none]) ?_ (by omega) (by omega)]
  . exact q
  . push_cast [zK, wC (m := 5) (by decide) (by decide), Int.reduceAdd]
theorem qaV {n : Nat} : ∀ ds : List D, (∀ d ∈ ds, PyData.canLay0 (zP d) = true /\ (zP d).depth <= n) -> PyData.canLayAll0 (toPDs ds) = true /\ PyData.depthAll (toPDs ds) <= n
  | [], _ => ⟨rfl, Nat.zero_le _⟩
  | d :: ds, h => by
    obtain ⟨a, b⟩ := qaV ds fun x hx => h x (List.mem_cons_of_mem _ hx)
    obtain ⟨c, e⟩ := h d List.mem_cons_self
    refine ⟨?_, ?_⟩
    . simp only [toPDs, PyData.canLayAll0, c, a, Bool.and_self]
    . simp only [toPDs, PyData.depthAll]
      omega
theorem qk6 (l : List Int) : PyData.canLay0 (zP (ldD l)) = true /\ (zP (ldD l)).depth <= 1 := by
  obtain ⟨a, b⟩ := qaV (n := 0) (l.map D.int) fun d hd => by
    obtain ⟨v, _, rfl⟩ := List.mem_map.mp hd
    exact ⟨rfl, Nat.le_refl _⟩
  unfold ldD
  refine ⟨?_, ?_⟩
  . simp only [zP, PyData.canLay0, a]
  . simp only [zP, PyData.depth]
    omega
def soD (ks : List Kw) (l : List Int) : D := .tup [.int (ql ks l), ldD l]
theorem ql4 (ks : List Kw) (F : List (List Int)) : neB (.lst (F.map (soD ks))) (.lst []) = some (.bl (!F.isEmpty)) := by
  have hx : ∀ l : List Int, PyData.canLay0 (zP (soD ks l)) = true /\ (zP (soD ks l)).depth <= 2 := fun l => by
    obtain ⟨a, b⟩ := qaV (n := 1) [.int (ql ks l), ldD l] fun d hd => by
      simp only [List.mem_cons, List.not_mem_nil, or_false] at hd
      rcases hd with rfl | rfl
      . exact ⟨rfl, Nat.zero_le _⟩
      . exact qk6 l
    unfold soD
    refine ⟨?_, ?_⟩
    . rw [zP, PyData.canLay0, a]
    . rw [zP, PyData.depth]
      omega
  obtain ⟨h1, h2⟩ := qaV (n := 2) (F.map (soD ks)) fun d hd => by
    obtain ⟨l, _, rfl⟩ := List.mem_map.mp hd
    exact hx l
  have o1 : qbk (.lst (F.map (soD ks))) = true := by
    have e : qbk (.lst (F.map (soD ks))) = (PyData.canLayAll0 (toPDs (F.map (soD ks))) && decide (PyData.depthAll (toPDs (F.map (soD ks))) + 1 <= 50)) := by
      simp only [qbk, zP, PyData.canLay0, PyData.depth]
    rw [e, h1, decide_eq_true (by omega)]
    rfl
  have e : neB (.lst (F.map (soD ks))) (.lst []) = neA (.lst (F.map (soD ks))) (.lst []) := rfl
  rw [e]
  unfold neA
  rw [o1]
  cases F with
  | nil => rfl
  | cons n l => rfl
theorem qi8 {ks : List Kw} (h : ∀ k ∈ ks, ze k) (hl : ks.length <= 4) {r : Nat} (hr : r <= 20) (S I B K Rm o7 : Option D) (hln : (soL ks r).length <= 194481) : ∃ q7, (sif (tst (d2 neB (dv 5) (jO (ret [])))) (qM (zM 7 (qW wL (qa (qI 2 [] none (yK (dv 5)) (yj 2 (qj (qf 0) (qj (qf 1) yi))) (ret true) (dv 0)) (ret [])))) (zM 6 (jO (qa (dv 7) (qa (qW qa0 (qa (qI 2 [] none (yK (dv 5)) (yj 2 (qj (qf 0) (qj (qf 1) yi))) (ret true) (dv 0)) (ret []))) (qa (qW qa0 (qa (qI 2 [7] none (yK (dv 5)) (yj 2 (qj (qf 0) (qj (qf 1) yi))) (tst (d2 eqB (dv 0) (dv 2))) (dv 1)) (ret []))) (ret []))))))) vz) [S, I, B, K, Rm, some (.lst ((soL ks r).map (soD ks))), some (.lst [.non, .non, .non]), o7] = .ok (.nx [S, I, B, K, Rm, some (.lst ((soL ks r).map (soD ks))), some (qdZ ks r), q7]) := by
  let So : Option D := some (.lst ((soL ks r).map (soD ks)))
  let ρ : Env := [S, I, B, K, Rm, So, some (.lst [.non, .non, .non]), o7]
  have c : tst (d2 neB (dv 5) (jO (ret []))) ρ = .ok (!(soL ks r).isEmpty, ρ) := yv (qx (b := .lst []) rfl (by push_cast [jc (show 0 <= 1000000 by omega)]) (ql4 ks _))
  rcases qk3 ks r with ⟨e1, e2, e3⟩ | ⟨hh, z, e1, e2, e3, e4, e5, zQ, e6, e7⟩
  . refine ⟨o7, ?_⟩
    rw [show (soL ks r).isEmpty = true by rw [e1]; rfl] at c
    rw [qlh c]
    unfold qdZ fD qd4
    rw [e2, e3]
    rfl
  . rw [show (soL ks r).isEmpty = false by cases e : soL ks r with | nil => exact absurd e e3 | cons a l => rfl] at c
    let ρ7 : Env := [S, I, B, K, Rm, So, some (.lst [.non, .non, .non]), some (.int hh)]
    refine ⟨some (.int hh), ?_⟩
    rw [qmy c]
    have dears (ρ : Env) (h5 : dv 5 ρ = .ok (.lst ((soL ks r).map (soD ks)), ρ)) : qI 2 [] none (yK (dv 5)) (yj 2 (qj (qf 0) (qj (qf 1) yi))) (ret true) (dv 0) ρ = .ok (.lst (((soL ks r).map (ql ks)).map D.int), ρ) := by
      have := qft (e := dv 0) (t := ret true) (xs := yK (dv 5)) (fr := []) (ρ := ρ) (r := []) (u := fun l => D.int (ql ks l)) (v := ldD) (soL ks r) (fun _ => true) (fun l => D.int (ql ks l)) (by rw [qbq, h5]; rfl) rfl (by omega) (fun _ _ => rfl) (fun _ _ _ => rfl)
      rw [uF] at this
      rw [List.map_map]
      exact this
    have wne : (soL ks r).map (ql ks) ≠ [] := fun e => e3 (List.map_eq_nil_iff.mp e)
    refine (qq (ρ' := ρ7) ?_).trans ?_
    . have mx : wL [.lst (((soL ks r).map (ql ks)).map D.int)] = some (.int hh) := by
        rw [qdY wne, e4]
      rw [yV (qbE (dears ρ rfl) mx)]
      rfl
    . have mn : qa0 [.lst (((soL ks r).map (ql ks)).map D.int)] = some (.int z) := by
        have : qbu [.lst (((soL ks r).map (ql ks)).map D.int)] = some (.int z) := by
          rw [qdX wne, e5]
        unfold qa0
        rw [this]
        rfl
      have lo := qft (e := dv 1) (t := tst (d2 eqB (dv 0) (dv 2))) (xs := yK (dv 5)) (fr := [7]) (ρ := ρ7) (r := [some (.int hh)]) (u := fun l => D.int (ql ks l)) (v := ldD) (soL ks r) (fun l => decide (ql ks l = hh)) ldD rfl rfl (by omega) (fun l _ => yv (qx rfl rfl (uD _ _))) (fun _ _ _ => rfl)
      rw [e6] at lo
      have a3 : jO (qa (dv 7) (qa (qW qa0 (qa (qI 2 [] none (yK (dv 5)) (yj 2 (qj (qf 0) (qj (qf 1) yi))) (ret true) (dv 0)) (ret []))) (qa (qW qa0 (qa (qI 2 [7] none (yK (dv 5)) (yj 2 (qj (qf 0) (qj (qf 1) yi))) (tst (d2 eqB (dv 0) (dv 2))) (dv 1)) (ret []))) (ret [])))) ρ7 = .ok (qdZ ks r, ρ7) := by
        rw [qcH, qiV (a := .int hh) rfl (qbE (dears ρ7 rfl) mn) (qbE lo (qfG e7))]
        simp only [List.length_cons, List.length_nil, Nat.zero_add, jc (show 0 + 1 + 1 + 1 <= 1000000 by omega), if_true]
        unfold qdZ fD qd4
        rw [e1, e2]
        rfl
      rw [yV a3]
      rfl
theorem qgX (ns : List Int) (i : Int) (h0 : 0 <= i) (h1 : i < 3) (r : Env) (hr : r.length = 6) : ∃ r', r'.length = 6 /\ (qM (uC 2 (qbm z7 (qa (dv 0) (qa (dv 1) (ret []))))) (qM (qg1 (yO (qa (qO zI 2 (qa (ret (.int 4)) (ret []))) (qa (qO qt 2 (qa (d2 ixD (jO (qa (ret (.int 21)) (qa (ret (.int 13)) (qa (ret (.int 13)) (ret []))))) (dv 1)) (ret []))) (ret [])))) (yj 2 (qj (qf 3) (qj (qf 4) yi)))) (qM (zM 5 (qI 3 [4] none (yK (qo zj (qa (dv 3) (qa (dv 4) (ret []))))) (yj 3 (qj (qf 0) (qj (qf 1) (qj (qf 2) yi)))) (tst (d2 eqB (dv 1) (dv 3))) (yO (qa (dv 2) (qa (dv 0) (ret [])))))) (qM (zM 6 (jO (qa (ret .non) (qa (ret .non) (qa (ret .non) (ret [])))))) (qM (sif (tst (d2 neB (dv 5) (jO (ret [])))) (qM (zM 7 (qW wL (qa (qI 2 [] none (yK (dv 5)) (yj 2 (qj (qf 0) (qj (qf 1) yi))) (ret true) (dv 0)) (ret [])))) (zM 6 (jO (qa (dv 7) (qa (qW qa0 (qa (qI 2 [] none (yK (dv 5)) (yj 2 (qj (qf 0) (qj (qf 1) yi))) (ret true) (dv 0)) (ret []))) (qa (qW qa0 (qa (qI 2 [7] none (yK (dv 5)) (yj 2 (qj (qf 0) (qj (qf 1) yi))) (tst (d2 eqB (dv 0) (dv 2))) (dv 1)) (ret []))) (ret []))))))) vz) (sif (tst (d2 neB (qW vy (qa (qI 1 [3, 4] none (z9 (qa (ret (.int 3)) (ret []))) (qf 0) (ret true) (qo qE (qa (dv 0) (qa (dv 1) (qa (dv 2) (ret [])))))) (ret []))) (qW vy (qa (dv 6) (ret []))))) (yN (ret (.bl false))) vz)))))) ([some (.fz ns), some (.int i)] ++ r) = .ok (.nx ([some (.fz ns), some (.int i)] ++ r')) := by
  match r, hr with
  | [o2, o3, o4, o5, o6, o7], _ =>
    obtain ⟨n, eb⟩ := qkU ns i h0
    obtain ⟨ks, n1, es, hk, hl⟩ := qbQ n
    let m : Int := if i = 0 then 21 else 13
    have em : ixD (.lst [.int 21, .int 13, .int 13]) (.int i) = some (.int m) := by
      have : i = 0 \/ i = 1 \/ i = 2 := by omega
      rcases this with rfl | rfl | rfl <;> rfl
    have hm : 0 < m /\ m <= 21 := by
      show 0 < (if i = 0 then (21 : Int) else 13) /\ (if i = 0 then (21 : Int) else 13) <= 21
      split <;> omega
    let rm : Nat := (n1 % m).toNat
    have b1 := Int.emod_nonneg n1 (show m ≠ 0 by omega)
    have b2 := Int.emod_lt_of_pos n1 hm.1
    have hrm : rm <= 20 := by show (n1 % m).toNat <= 20; omega
    have erm : (.int (n1 % m) : D) = .int (rm : Nat) := by congr 1; show _ = (((n1 % m).toNat : Nat) : Int); omega
    let S : Option D := some (.fz ns)
    let I : Option D := some (.int i)
    let B : Option D := some (.lst [.int (n1 / m)])
    let K : Option D := some (.tup (ks.map kw))
    let Rm : Option D := some (.int (rm : Nat))
    let So : Option D := some (.lst ((soL ks rm).map (soD ks)))
    obtain ⟨el, hln⟩ := wE hk hl hrm
    have hls : (soL ks rm).length <= 194481 := Nat.le_trans (List.length_filter_le _ _) hln
    obtain ⟨q7, ed⟩ := qi8 hk hl hrm S I B K Rm o7 hls
    refine ⟨[B, K, Rm, So, some (qdZ ks rm), q7], rfl, ?_⟩
    show (qM (uC 2 (qbm z7 (qa (dv 0) (qa (dv 1) (ret []))))) (qM (qg1 (yO (qa (qO zI 2 (qa (ret (.int 4)) (ret []))) (qa (qO qt 2 (qa (d2 ixD (jO (qa (ret (.int 21)) (qa (ret (.int 13)) (qa (ret (.int 13)) (ret []))))) (dv 1)) (ret []))) (ret [])))) (yj 2 (qj (qf 3) (qj (qf 4) yi)))) (qM (zM 5 (qI 3 [4] none (yK (qo zj (qa (dv 3) (qa (dv 4) (ret []))))) (yj 3 (qj (qf 0) (qj (qf 1) (qj (qf 2) yi)))) (tst (d2 eqB (dv 1) (dv 3))) (yO (qa (dv 2) (qa (dv 0) (ret [])))))) (qM (zM 6 (jO (qa (ret .non) (qa (ret .non) (qa (ret .non) (ret [])))))) (qM (sif (tst (d2 neB (dv 5) (jO (ret [])))) (qM (zM 7 (qW wL (qa (qI 2 [] none (yK (dv 5)) (yj 2 (qj (qf 0) (qj (qf 1) yi))) (ret true) (dv 0)) (ret [])))) (zM 6 (jO (qa (dv 7) (qa (qW qa0 (qa (qI 2 [] none (yK (dv 5)) (yj 2 (qj (qf 0) (qj (qf 1) yi))) (ret true) (dv 0)) (ret []))) (qa (qW qa0 (qa (qI 2 [7] none (yK (dv 5)) (yj 2 (qj (qf 0) (qj (qf 1) yi))) (tst (d2 eqB (dv 0) (dv 2))) (dv 1)) (ret []))) (ret []))))))) vz) (sif (tst (d2 neB (qW vy (qa (qI 1 [3, 4] none (z9 (qa (ret (.int 3)) (ret []))) (qf 0) (ret true) (qo qE (qa (dv 0) (qa (dv 1) (qa (dv 2) (ret [])))))) (ret []))) (qW vy (qa (dv 6) (ret []))))) (yN (ret (.bl false))) vz)))))) [S, I, o2, o3, o4, o5, o6, o7] = _
    refine (qq (ρ' := [S, I, some (.lst [.int n]), o3, o4, o5, o6, o7]) ?_).trans ?_
    . push_cast [S, I, eb, immFs, immF, immL, imm, Bool.and_self]
    refine (qq (ρ' := [S, I, B, K, Rm, o5, o6, o7]) ?_).trans ?_
    . have tk : qt [.int n1] [.int m] = .ok (.int (n1 % m), [.int (n1 / m)]) := wC hm.1 (by omega)
      push_cast [es, em, tk, jc (show 3 <= 1000000 by omega), jc (show 2 <= 1000000 by omega), I]
      rw [erm]
      rfl
    refine (qq (ρ' := [S, I, B, K, Rm, So, o6, o7]) ?_).trans ?_
    . have c := qi4 (e := yO (qa (dv 2) (qa (dv 0) (ret [])))) (t := tst (d2 eqB (dv 1) (dv 3))) (xs := yK (qo zj (qa (dv 3) (qa (dv 4) (ret []))))) (fr := [4]) (ρ := [S, I, B, K, Rm, o5, o6, o7]) (r := [Rm]) (u := ldD) (v := fun l => D.int (qi ks l)) (w := fun l => D.int (ql ks l)) (zy ks (rm : Nat)) (fun l => decide (qi ks l = (rm : Nat))) (soD ks) (by
        rw [qbq, qc8 rfl rfl el]
        rfl) rfl (by omega) (fun l _ => yv (qx rfl rfl (uD _ _))) (fun l _ _ => qm6 rfl rfl)
      exact yV c
    refine (qq (ρ' := [S, I, B, K, Rm, So, some (.lst [.non, .non, .non]), o7]) ?_).trans ?_
    . push_cast [jc (show 3 <= 1000000 by omega), B, K, Rm, So]
    refine (qq ed).trans ?_
    obtain ⟨x, rx⟩ := qgW hk hl hrm
    let ρ : Env := [S, I, B, K, Rm, So, some (qdZ ks rm), q7]
    have c : qI 1 [3, 4] none (z9 (qa (ret (.int 3)) (ret []))) (qf 0) (ret true) (qo qE (qa (dv 0) (qa (dv 1) (qa (dv 2) (ret []))))) ρ = .ok (qdZ ks rm, ρ) := by
      refine qc7 (r := [K, Rm]) (k := fun j : Nat => D.int (j : Nat)) [0, 1, 2] (fun j => if j = 0 then fD mxO ks rm else if j = 1 then fD mnO ks rm else qd4 ks (rm : Nat)) ?_ rfl (by simp) fun j hj => ?_
      . rw [yF (j := 3) (ρ1 := ρ) rfl (by omega) (by omega)]
        rfl
      . simp only [List.mem_cons, List.not_mem_nil, or_false] at hj
        rcases hj with rfl | rfl | rfl
        . exact yU rfl rfl rfl (ql1 hk hl (show rm <= 200 by omega))
        . exact yU rfl rfl rfl (ql2 hk hl (show rm <= 200 by omega))
        . exact yU rfl rfl rfl (ql3 hk hl (show rm <= 200 by omega))
    exact qlh (yv (qx (qbE c rx) (qbE rfl rx) (qiU _)))
theorem qdn (ns : List Int) : ∀ (ds : List D) (o1 : Option D) (r : Env), r.length = 6 -> (∀ d ∈ ds, ∃ i : Int, d = .int i /\ 0 <= i /\ i < 3) -> ∃ ρ, yu (qf 1) (qM (uC 2 (qbm z7 (qa (dv 0) (qa (dv 1) (ret []))))) (qM (qg1 (yO (qa (qO zI 2 (qa (ret (.int 4)) (ret []))) (qa (qO qt 2 (qa (d2 ixD (jO (qa (ret (.int 21)) (qa (ret (.int 13)) (qa (ret (.int 13)) (ret []))))) (dv 1)) (ret []))) (ret [])))) (yj 2 (qj (qf 3) (qj (qf 4) yi)))) (qM (zM 5 (qI 3 [4] none (yK (qo zj (qa (dv 3) (qa (dv 4) (ret []))))) (yj 3 (qj (qf 0) (qj (qf 1) (qj (qf 2) yi)))) (tst (d2 eqB (dv 1) (dv 3))) (yO (qa (dv 2) (qa (dv 0) (ret [])))))) (qM (zM 6 (jO (qa (ret .non) (qa (ret .non) (qa (ret .non) (ret [])))))) (qM (sif (tst (d2 neB (dv 5) (jO (ret [])))) (qM (zM 7 (qW wL (qa (qI 2 [] none (yK (dv 5)) (yj 2 (qj (qf 0) (qj (qf 1) yi))) (ret true) (dv 0)) (ret [])))) (zM 6 (jO (qa (dv 7) (qa (qW qa0 (qa (qI 2 [] none (yK (dv 5)) (yj 2 (qj (qf 0) (qj (qf 1) yi))) (ret true) (dv 0)) (ret []))) (qa (qW qa0 (qa (qI 2 [7] none (yK (dv 5)) (yj 2 (qj (qf 0) (qj (qf 1) yi))) (tst (d2 eqB (dv 0) (dv 2))) (dv 1)) (ret []))) (ret []))))))) vz) (sif (tst (d2 neB (qW vy (qa (qI 1 [3, 4] none (z9 (qa (ret (.int 3)) (ret []))) (qf 0) (ret true) (qo qE (qa (dv 0) (qa (dv 1) (qa (dv 2) (ret [])))))) (ret []))) (qW vy (qa (dv 6) (ret []))))) (yN (ret (.bl false))) vz)))))) ds ([some (.fz ns), o1] ++ r) = .ok (.nx ρ)
  | [], o1, r, _, _ => ⟨_, rfl⟩
  | d :: ds, o1, r, hr, h => by
    obtain ⟨i, rfl, h0, h1⟩ := h d List.mem_cons_self
    obtain ⟨r', hr', e⟩ := qgX ns i h0 h1 r hr
    obtain ⟨ρ, q⟩ := qdn ns ds (some (.int i)) r' hr' fun y hy => h y (List.mem_cons_of_mem _ hy)
    refine ⟨ρ, ?_⟩
    unfold yu
    simp only [qf, List.cons_append, List.nil_append, List.set_cons_zero, List.set_cons_succ] at e |-
    simp only [e]
    exact q
theorem ql5 (ρ : Env) : d2 jv (jO (qa (jO (qa (ret (.int 3)) (ret []))) (ret []))) (ret (.int 3)) ρ = .ok (.lst [.lst [.int 3], .lst [.int 3], .lst [.int 3]], ρ) := by
  have a1 : jO (qa (ret (.int 3)) (ret [])) ρ = .ok (.lst [.int 3], ρ) := by push_cast [sm1]
  have a2 : jO (qa (jO (qa (ret (.int 3)) (ret []))) (ret [])) ρ = .ok (.lst [.lst [.int 3]], ρ) := by
    rw [qcH, qaJ a1]
    simp only [List.length_cons, List.length_nil, Nat.zero_add, sm1, if_true]
  exact qx a2 rfl (qhD (.lst [.int 3]) 3 (by omega))
theorem law_true (ns : List Int) (hn : ns.length <= 63) : qcm [.fz ns] = .ok (.bl true) := by
  let j : Int := if (if (3 : Int) < (ns.length : Int) then (3 : Int) else (ns.length : Int)) > 1 then (if (3 : Int) < (ns.length : Int) then (3 : Int) else (ns.length : Int)) else 1
  have hj0 : 0 <= j := by simp only [j]; split <;> split <;> omega
  have hj1 : j <= 3 := by simp only [j]; split <;> split <;> omega
  obtain ⟨ρ, q⟩ := qdn ns (wK 0 j.toNat) none [none, none, none, none, none, none] rfl fun d hd => by
    unfold wK at hd
    obtain ⟨k, hk, rfl⟩ := List.mem_map.mp hd
    have hk2 := List.mem_range.mp hk
    exact ⟨_, rfl, by omega, by omega⟩
  unfold qcm
  refine qa1 rfl ⟨ρ, ?_⟩
  unfold qgU
  refine (qq (ρ' := [some (.fz ns), none, none, none, none, none, none, none]) ?_).trans ?_
  . exact qkP (r := []) 3 (.lst [.int 3]) _ (by omega) rfl (fun j hj => yU rfl (by push_cast [sm1, jc (show 3 <= 1000000 by omega)]) rfl (qi6 j hj)) (ql5 _) (by kernel_rfl)
  refine (qq (ρ' := ρ) ?_).trans rfl
  rw [uo, yF (j := j) (ρ1 := [some (.fz ns), none, none, none, none, none, none, none]) ?_ hj0 (by omega)]
  . exact q
  . rfl
section
variable {P : Program} {w : World} {K : PySem.W.Frag} {mg : Str -> Option Value} {base : Heap}
set_option maxHeartbeats 4000000
theorem qbR : qw ["kind", "times", "room"] ["kind", "times", "room"] (qd jn) := ⟨rfl, rfl, rfl, by decide +kernel, rfl, by decide +kernel, by decide +kernel⟩
abbrev Q0 (P : Program) (w : World) (K : Fr0) (mg : Str -> Option Value) (base : Heap) : Prop := jb P w K mg base 1 "room_left" ["kind", "times", "room"] (spD K zE)
theorem q0 {f : Addr} {fd : FuncData} (F : Fun K "room_left" "room_left" jn f fd) (m : mg "room_left" = some (.ref f)) (T : Txt K mg) (XTt : XT K mg RN TN) (hB : K.In base) : Q0 P w K mg base := by
  refine ⟨f, fd, ?_, m, F.kp, F.binds fun _ _ _ _ _ _ us hl => match us, hl with | [_, _, _], _ => rfl⟩
  show yg P w K mg base CX0 1 f fd ["kind", "times", "room"] (spD K (dfn (["kind", "times", "room"] : List Str).length (["kind", "times", "room"] : List Str).length yG))
  refine zV (N := ["kind", "times", "room"]) (ps := ["kind", "times", "room"]) (k := 0) (O := []) (body := yG) F qbR ?a ?b
  case a => decide
  intro cdv A outer s H E B hr
  exact (qh (qR (qz qjG qh5 (qc 2) (qz ja zt (qc 1) (jD zv zr (qc 0) (gI T.c_WEIGHT))))))
theorem uy : qw ["kind", "room", "alone"] ["kind", "room"] (qd zL) := ⟨rfl, rfl, rfl, by decide +kernel, rfl, by decide +kernel, by decide +kernel⟩
abbrev Q1 (P : Program) (w : World) (K : Fr0) (mg : Str -> Option Value) (base : Heap) : Prop := jb P w K mg base 1 "most_within" ["kind", "room"] (spD K jF)
theorem q1 {f : Addr} {fd : FuncData} (F : Fun K "most_within" "most_within" zL f fd) (m : mg "most_within" = some (.ref f)) (T : Txt K mg) (XTt : XT K mg RN TN) (hB : K.In base) : Q1 P w K mg base := by
  refine ⟨f, fd, ?_, m, F.kp, F.binds fun _ _ _ _ _ _ us hl => match us, hl with | [_, _], _ => rfl⟩
  show yg P w K mg base CX0 1 f fd ["kind", "room"] (spD K (dfn (["kind", "room", "alone"] : List Str).length (["kind", "room"] : List Str).length jE))
  refine zV (N := ["kind", "room", "alone"]) (ps := ["kind", "room"]) (k := 0) (O := []) (body := jE) F uy ?a ?b
  case a => decide
  intro cdv A outer s H E B hr
  exact (qg (zw (i := 2) uy.nd (qz qec qcC (qc 1) (jD zv zr (qc 0) (gI T.c_WEIGHT))))
      (qh (qR (qj0 (zZ qcw qam (jD zv zr (qc 0) (gI T.c_MOST)) jZ (zp _)) (qc 2) (zq (qa5 rfl) qbf rfl T.b_min qbn (qb (qc 2) (qb (jD zv zr (qc 0) (gI T.c_MOST)) qe)))))))
theorem yM : qw ["kind", "row", "room", "last"] ["kind", "row", "room"] (qd qP) := ⟨rfl, rfl, rfl, by decide +kernel, rfl, by decide +kernel, by decide +kernel⟩
abbrev Q2 (P : Program) (w : World) (K : Fr0) (mg : Str -> Option Value) (base : Heap) : Prop := jb P w K mg base 2 "filling_times" ["kind", "row", "room"] (spD K zF)
theorem q2 {f : Addr} {fd : FuncData} (F : Fun K "filling_times" "filling_times" qP f fd) (m : mg "filling_times" = some (.ref f)) (T : Txt K mg) (XTt : XT K mg RN TN) (hB : K.In base) (C_room_left : Q0 P w K mg base) (C_most_within : Q1 P w K mg base) : Q2 P w K mg base := by
  refine ⟨f, fd, ?_, m, F.kp, F.binds fun _ _ _ _ _ _ us hl => match us, hl with | [_, _, _], _ => rfl⟩
  show yg P w K mg base CX0 2 f fd ["kind", "row", "room"] (spD K (dfn (["kind", "row", "room", "last"] : List Str).length (["kind", "row", "room"] : List Str).length je))
  refine zV (N := ["kind", "row", "room", "last"]) (ps := ["kind", "row", "room"]) (k := 1) (O := []) (body := je) F yM ?a ?b
  case a => decide
  intro cdv A outer s H E B hr
  exact (qg (zw (i := 3) yM.nd (dC C_most_within hr (qb (qc 0) (qb (qc 2) qe))))
      (qh (qR (jQ (fo := none) rfl (jA rfl T.b_range (qb (qz qX qY (qc 3) qk) qe)) (cs ["kind", "row", "room", "last"] ["times", "row", "kind", "room"] 1 [1, 0, 2] (qd qP)) (f0 [1, 0, 2] []) (fun _ _ _ _ _ _ _ _ _ _ _ => ⟨(qv (i := 0) (nd ["times", "row", "kind", "room"])), (qbi (zZ qhS qf2 (jD zv zr (qc 1) (dC C_room_left hr (qb (qc 2) (qb (qc 0) (qb (qc 3) qe))))) jZ (zp _))), (qc 0)⟩)))))
theorem qaW : qw ["kind", "times", "row", "room"] ["kind", "times", "row", "room"] (qd z4) := ⟨rfl, rfl, rfl, by decide +kernel, rfl, by decide +kernel, by decide +kernel⟩
abbrev Q3 (P : Program) (w : World) (K : Fr0) (mg : Str -> Option Value) (base : Heap) : Prop := jb P w K mg base 2 "worth_with" ["kind", "times", "row", "room"] (spD K zG)
theorem q3 {f : Addr} {fd : FuncData} (F : Fun K "worth_with" "worth_with" z4 f fd) (m : mg "worth_with" = some (.ref f)) (T : Txt K mg) (XTt : XT K mg RN TN) (hB : K.In base) (C_room_left : Q0 P w K mg base) : Q3 P w K mg base := by
  refine ⟨f, fd, ?_, m, F.kp, F.binds fun _ _ _ _ _ _ us hl => match us, hl with | [_, _, _, _], _ => rfl⟩
  show yg P w K mg base CX0 2 f fd ["kind", "times", "row", "room"] (spD K (dfn (["kind", "times", "row", "room"] : List Str).length (["kind", "times", "row", "room"] : List Str).length j7))
  refine zV (N := ["kind", "times", "row", "room"]) (ps := ["kind", "times", "row", "room"]) (k := 1) (O := []) (body := j7) F qaW ?a ?b
  case a => decide
  intro cdv A outer s H E B hr
  exact (qh (qR (qz qX qY (qz ja zt (qc 1) (jD zv zr (qc 0) (gI T.c_WORTH))) (jD zv zr (qc 2) (dC C_room_left hr (qb (qc 0) (qb (qc 1) (qb (qc 3) qe))))))))
theorem vj : qw ["kind", "row", "room"] ["kind", "row", "room"] (qd qK) := ⟨rfl, rfl, rfl, by decide +kernel, rfl, by decide +kernel, by decide +kernel⟩
abbrev Q4 (P : Program) (w : World) (K : Fr0) (mg : Str -> Option Value) (base : Heap) : Prop := jb P w K mg base 3 "filling_worths" ["kind", "row", "room"] (spD K qA)
theorem q4 {f : Addr} {fd : FuncData} (F : Fun K "filling_worths" "filling_worths" qK f fd) (m : mg "filling_worths" = some (.ref f)) (T : Txt K mg) (XTt : XT K mg RN TN) (hB : K.In base) (C_filling_times : Q2 P w K mg base) (C_worth_with : Q3 P w K mg base) : Q4 P w K mg base := by
  refine ⟨f, fd, ?_, m, F.kp, F.binds fun _ _ _ _ _ _ us hl => match us, hl with | [_, _, _], _ => rfl⟩
  show yg P w K mg base CX0 3 f fd ["kind", "row", "room"] (spD K (dfn (["kind", "row", "room"] : List Str).length (["kind", "row", "room"] : List Str).length zS))
  refine zV (N := ["kind", "row", "room"]) (ps := ["kind", "row", "room"]) (k := 2) (O := []) (body := zS) F vj ?a ?b
  case a => decide
  intro cdv A outer s H E B hr
  exact (qh (qR (jQ (fo := none) rfl (ul (dC C_filling_times hr (qb (qc 0) (qb (qc 1) (qb (qc 2) qe))))) (cs ["kind", "row", "room"] ["times", "kind", "row", "room"] 1 [0, 1, 2] (qd qK)) (f0 [0, 1, 2] []) (fun _ _ _ _ _ _ _ _ _ _ _ => ⟨(qv (i := 0) (nd ["times", "kind", "row", "room"])), uR, (dC C_worth_with hr (qb (qc 1) (qb (qc 0) (qb (qc 2) (qb (qc 3) qe)))))⟩))))
theorem qcq : qw ["number"] ["number"] (qd jo) := ⟨rfl, rfl, rfl, by decide +kernel, rfl, by decide +kernel, by decide +kernel⟩
abbrev Q5 (P : Program) (w : World) (K : Fr0) (mg : Str -> Option Value) (base : Heap) : Prop := yE P w K mg base 1 "need_few" ["number"] (spX K (clR K RN) ub)
theorem q5 {f : Addr} {fd : FuncData} (F : Fun K "need_few" "need_few" jo f fd) (m : mg "need_few" = some (.ref f)) (T : Txt K mg) (XTt : XT K mg RN TN) (hB : K.In base) : Q5 P w K mg base := by
  have hcl : ∀ n, RN.contains n = true -> (clR K RN n).isSome = true := fun n hn => Option.isSome_iff_exists.mpr (XTt.has hn)
  have rn0 : RN.contains "TooMany" = true := by decide
  obtain ⟨S, mS, xS⟩ := XTt.xcls hB
  obtain ⟨C_TooMany, hc_TooMany⟩ := XTt.has (n := "TooMany") (by decide)
  have mc_TooMany := XTt.mgc _ _ (XTt.cls hc_TooMany).1
  obtain ⟨bm_TooMany, xc_TooMany, _⟩ := xS.own _ _ hc_TooMany
  refine ⟨f, fd, ?_, m, F.kp, F.binds fun _ _ _ _ _ _ us hl => match us, hl with | [_], _ => rfl⟩
  show yg P w K mg base (CX1 P w) 1 f fd ["number"] (spX K (clR K RN) (wM (["number"] : List Str).length (["number"] : List Str).length ua))
  refine wm (N := ["number"]) (ps := ["number"]) (k := 0) (O := []) (body := ua) (cl := clR K RN) F qcq ?a ?b
  case a => decide
  intro cdv A outer s H E B hr
  have L := wl (P := P) (w := w) (K := K) (mg := mg) (base := base) (N := ["number"]) (qual := "need_few") (scope := qd jo) (f := f) (cdv := cdv) (A := A) (outer := outer) (s := s) (H := H) (E := E) (c := cfn [] [] B H (fun _ => False) (fun x H' => ∀ C, clR K RN x.cls = some C -> E (.ref C) none H') fun _ => none) (cl := clR K RN) rfl (fun x C H' h1 h2 => h2 C h1)
  exact (qh (uL (zZ qjK qg5 (qc 0) (gI T.c_ASKED_AT_MOST) (zp _)) (qh (qav rfl L hc_TooMany rfl mc_TooMany xc_TooMany (qb qeq qe))) zu))
theorem qcr : qw ["thing"] ["thing"] (qd jJ) := ⟨rfl, rfl, rfl, by decide +kernel, rfl, by decide +kernel, by decide +kernel⟩
abbrev Q6 (P : Program) (w : World) (K : Fr0) (mg : Str -> Option Value) (base : Heap) : Prop := jb P w K mg base 1 "is_whole" ["thing"] (spD K ud)
theorem q6 {f : Addr} {fd : FuncData} (F : Fun K "is_whole" "is_whole" jJ f fd) (m : mg "is_whole" = some (.ref f)) (T : Txt K mg) (XTt : XT K mg RN TN) (hB : K.In base) : Q6 P w K mg base := by
  refine ⟨f, fd, ?_, m, F.kp, F.binds fun _ _ _ _ _ _ us hl => match us, hl with | [_], _ => rfl⟩
  show yg P w K mg base CX0 1 f fd ["thing"] (spD K (dfn (["thing"] : List Str).length (["thing"] : List Str).length uc))
  refine zV (N := ["thing"]) (ps := ["thing"]) (k := 0) (O := []) (body := uc) F qcr ?a ?b
  case a => decide
  intro cdv A outer s H E B hr
  exact (qh (qR (qev (qcD qib rfl T.b_isinstance rfl T.b_int qkl (qc 0) qs) (qcA (qjZ (qcD qf6 rfl T.b_isinstance rfl T.b_bool qit (qc 0) qs))))))
theorem qcs : qw ["thing"] ["thing"] (qd jK) := ⟨rfl, rfl, rfl, by decide +kernel, rfl, by decide +kernel, by decide +kernel⟩
abbrev Q7 (P : Program) (w : World) (K : Fr0) (mg : Str -> Option Value) (base : Heap) : Prop := jb P w K mg base 2 "is_count" ["thing"] (spD K jr)
theorem q7 {f : Addr} {fd : FuncData} (F : Fun K "is_count" "is_count" jK f fd) (m : mg "is_count" = some (.ref f)) (T : Txt K mg) (XTt : XT K mg RN TN) (hB : K.In base) (C_is_whole : Q6 P w K mg base) : Q7 P w K mg base := by
  refine ⟨f, fd, ?_, m, F.kp, F.binds fun _ _ _ _ _ _ us hl => match us, hl with | [_], _ => rfl⟩
  show yg P w K mg base CX0 2 f fd ["thing"] (spD K (dfn (["thing"] : List Str).length (["thing"] : List Str).length ue))
  refine zV (N := ["thing"]) (ps := ["thing"]) (k := 1) (O := []) (body := ue) F qcs ?a ?b
  case a => decide
  intro cdv A outer s H E B hr
  exact (qh (qR (qev (dC C_is_whole hr (qb (qc 0) qe)) (qcA (qcy qly qj2 (qc 0) qk (zp _))))))
theorem qaX : qw ["thing"] ["thing"] (qd zA) := ⟨rfl, rfl, rfl, by decide +kernel, rfl, by decide +kernel, by decide +kernel⟩
abbrev Q8 (P : Program) (w : World) (K : Fr0) (mg : Str -> Option Value) (base : Heap) : Prop := yE P w K mg base 3 "need_count" ["thing"] (spX K (clR K RN) j9)
theorem q8 {f : Addr} {fd : FuncData} (F : Fun K "need_count" "need_count" zA f fd) (m : mg "need_count" = some (.ref f)) (T : Txt K mg) (XTt : XT K mg RN TN) (hB : K.In base) (C_is_count : Q7 P w K mg base) : Q8 P w K mg base := by
  have hcl : ∀ n, RN.contains n = true -> (clR K RN n).isSome = true := fun n hn => Option.isSome_iff_exists.mpr (XTt.has hn)
  have rn0 : RN.contains "TooMany" = true := by decide
  obtain ⟨S, mS, xS⟩ := XTt.xcls hB
  obtain ⟨C_NoNumber, hc_NoNumber⟩ := XTt.has (n := "NoNumber") (by decide)
  have mc_NoNumber := XTt.mgc _ _ (XTt.cls hc_NoNumber).1
  obtain ⟨bm_NoNumber, xc_NoNumber, _⟩ := xS.own _ _ hc_NoNumber
  refine ⟨f, fd, ?_, m, F.kp, F.binds fun _ _ _ _ _ _ us hl => match us, hl with | [_], _ => rfl⟩
  show yg P w K mg base (CX1 P w) 3 f fd ["thing"] (spX K (clR K RN) (wM (["thing"] : List Str).length (["thing"] : List Str).length j8))
  refine wm (N := ["thing"]) (ps := ["thing"]) (k := 2) (O := []) (body := j8) (cl := clR K RN) F qaX ?a ?b
  case a => decide
  intro cdv A outer s H E B hr
  have L := wl (P := P) (w := w) (K := K) (mg := mg) (base := base) (N := ["thing"]) (qual := "need_count") (scope := qd zA) (f := f) (cdv := cdv) (A := A) (outer := outer) (s := s) (H := H) (E := E) (c := cfn [] [] B H (fun _ => False) (fun x H' => ∀ C, clR K RN x.cls = some C -> E (.ref C) none H') fun _ => none) (cl := clR K RN) rfl (fun x C H' h1 h2 => h2 C h1)
  exact (qh (uL (vS (vo (dC C_is_count hr (qb (qc 0) qe)))) (qh (qav rfl L hc_NoNumber rfl mc_NoNumber xc_NoNumber (qb qeq qe))) zu))
theorem qd1 : qw ["thing"] ["thing"] (qd yw) := ⟨rfl, rfl, rfl, by decide +kernel, rfl, by decide +kernel, by decide +kernel⟩
abbrev Q9 (P : Program) (w : World) (K : Fr0) (mg : Str -> Option Value) (base : Heap) : Prop := jb P w K mg base 3 "is_kind" ["thing"] (spD K yX)
theorem q9 {f : Addr} {fd : FuncData} (F : Fun K "is_kind" "is_kind" yw f fd) (m : mg "is_kind" = some (.ref f)) (T : Txt K mg) (XTt : XT K mg RN TN) (hB : K.In base) (C_is_count : Q7 P w K mg base) : Q9 P w K mg base := by
  refine ⟨f, fd, ?_, m, F.kp, F.binds fun _ _ _ _ _ _ us hl => match us, hl with | [_], _ => rfl⟩
  show yg P w K mg base CX0 3 f fd ["thing"] (spD K (dfn (["thing"] : List Str).length (["thing"] : List Str).length u5))
  refine zV (N := ["thing"]) (ps := ["thing"]) (k := 2) (O := []) (body := u5) F qd1 ?a ?b
  case a => decide
  intro cdv A outer s H E B hr
  exact (qg (uL (DW.dt (qet (vS (vo (qcD qbh rfl T.b_isinstance rfl T.b_tuple vH (qc 0) qs))) (qbc (zZ (qcG hr) qaq (zq uN uO rfl T.b_len qcF (qb (qc 0) qe)) qk (zp _))))) (qh (qR qb2)) zu)
      (qg (uL (DW.dt (qet (vS (vo (dC C_is_count hr (qb (jD zv zr (qc 0) (gI T.c_WEIGHT)) qe)))) (qbc (zZ (v7 hr) yD (jD zv zr (qc 0) (gI T.c_WEIGHT)) qk (zp _))))) (qh (qR qb2)) zu)
      (qh (qR (qev (dC C_is_count hr (qb (jD zv zr (qc 0) (gI T.c_WORTH)) qe)) (qcA (qlH (qcy qcw qam (jD zv zr (qc 0) (gI T.c_MOST)) jZ (zp _)) (qcA (dC C_is_count hr (qb (jD zv zr (qc 0) (gI T.c_MOST)) qe))))))))))
theorem qct : qw ["thing"] ["thing"] (qd jp) := ⟨rfl, rfl, rfl, by decide +kernel, rfl, by decide +kernel, by decide +kernel⟩
abbrev Q10 (P : Program) (w : World) (K : Fr0) (mg : Str -> Option Value) (base : Heap) : Prop := jb P w K mg base 4 "is_store" ["thing"] (spD K ug)
theorem q10 {f : Addr} {fd : FuncData} (F : Fun K "is_store" "is_store" jp f fd) (m : mg "is_store" = some (.ref f)) (T : Txt K mg) (XTt : XT K mg RN TN) (hB : K.In base) (C_is_kind : Q9 P w K mg base) : Q10 P w K mg base := by
  refine ⟨f, fd, ?_, m, F.kp, F.binds fun _ _ _ _ _ _ us hl => match us, hl with | [_], _ => rfl⟩
  show yg P w K mg base CX0 4 f fd ["thing"] (spD K (dfn (["thing"] : List Str).length (["thing"] : List Str).length uf))
  refine zV (N := ["thing"]) (ps := ["thing"]) (k := 3) (O := []) (body := uf) F qct ?a ?b
  case a => decide
  intro cdv A outer s H E B hr
  exact (qg (uL (DW.dt (qet (vS (vo (qcD qbh rfl T.b_isinstance rfl T.b_tuple vH (qc 0) qs))) (qbc (zZ qjK qg5 (zq uN uO rfl T.b_len qcF (qb (qc 0) qe)) (gI T.c_KINDS_AT_MOST) (zp _))))) (qh (qR qb2)) zu)
      (qh (qR (zq (qf9 rfl) qez rfl T.b_all qkk (qb (jQ (fo := none) rfl (ul (qc 0)) (cs ["thing"] ["part"] 1 [] (qd jp)) (f0 [] []) (fun _ _ _ _ _ _ _ _ _ _ _ => ⟨(qv (i := 0) (nd ["part"])), uR, (dC C_is_kind hr (qb (qc 0) qe))⟩)) qe)))))
theorem qaY : qw ["thing"] ["thing"] (qd zB) := ⟨rfl, rfl, rfl, by decide +kernel, rfl, by decide +kernel, by decide +kernel⟩
abbrev Q11 (P : Program) (w : World) (K : Fr0) (mg : Str -> Option Value) (base : Heap) : Prop := yE P w K mg base 5 "need_store" ["thing"] (spX K (clR K RN) yb)
theorem q11 {f : Addr} {fd : FuncData} (F : Fun K "need_store" "need_store" zB f fd) (m : mg "need_store" = some (.ref f)) (T : Txt K mg) (XTt : XT K mg RN TN) (hB : K.In base) (C_is_store : Q10 P w K mg base) : Q11 P w K mg base := by
  have hcl : ∀ n, RN.contains n = true -> (clR K RN n).isSome = true := fun n hn => Option.isSome_iff_exists.mpr (XTt.has hn)
  have rn0 : RN.contains "TooMany" = true := by decide
  obtain ⟨S, mS, xS⟩ := XTt.xcls hB
  obtain ⟨C_NoStore, hc_NoStore⟩ := XTt.has (n := "NoStore") (by decide)
  have mc_NoStore := XTt.mgc _ _ (XTt.cls hc_NoStore).1
  obtain ⟨bm_NoStore, xc_NoStore, _⟩ := xS.own _ _ hc_NoStore
  refine ⟨f, fd, ?_, m, F.kp, F.binds fun _ _ _ _ _ _ us hl => match us, hl with | [_], _ => rfl⟩
  show yg P w K mg base (CX1 P w) 5 f fd ["thing"] (spX K (clR K RN) (wM (["thing"] : List Str).length (["thing"] : List Str).length ya))
  refine wm (N := ["thing"]) (ps := ["thing"]) (k := 4) (O := []) (body := ya) (cl := clR K RN) F qaY ?a ?b
  case a => decide
  intro cdv A outer s H E B hr
  have L := wl (P := P) (w := w) (K := K) (mg := mg) (base := base) (N := ["thing"]) (qual := "need_store") (scope := qd zB) (f := f) (cdv := cdv) (A := A) (outer := outer) (s := s) (H := H) (E := E) (c := cfn [] [] B H (fun _ => False) (fun x H' => ∀ C, clR K RN x.cls = some C -> E (.ref C) none H') fun _ => none) (cl := clR K RN) rfl (fun x C H' h1 h2 => h2 C h1)
  exact (qh (uL (vS (vo (dC C_is_store hr (qb (qc 0) qe)))) (qh (qav rfl L hc_NoStore rfl mc_NoStore xc_NoStore (qb qeq qe))) zu))
theorem qaZ : qw ["store", "number"] ["store", "number"] (qd zC) := ⟨rfl, rfl, rfl, by decide +kernel, rfl, by decide +kernel, by decide +kernel⟩
abbrev Q12 (P : Program) (w : World) (K : Fr0) (mg : Str -> Option Value) (base : Heap) : Prop := yE P w K mg base 6 "need_asked" ["store", "number"] (spX K (clR K RN) zH)
theorem q12 {f : Addr} {fd : FuncData} (F : Fun K "need_asked" "need_asked" zC f fd) (m : mg "need_asked" = some (.ref f)) (T : Txt K mg) (XTt : XT K mg RN TN) (hB : K.In base) (C_need_few : Q5 P w K mg base) (C_need_count : Q8 P w K mg base) (C_need_store : Q11 P w K mg base) : Q12 P w K mg base := by
  have hcl : ∀ n, RN.contains n = true -> (clR K RN n).isSome = true := fun n hn => Option.isSome_iff_exists.mpr (XTt.has hn)
  have rn0 : RN.contains "TooMany" = true := by decide
  obtain ⟨S, mS, xS⟩ := XTt.xcls hB
  refine ⟨f, fd, ?_, m, F.kp, F.binds fun _ _ _ _ _ _ us hl => match us, hl with | [_, _], _ => rfl⟩
  show yg P w K mg base (CX1 P w) 6 f fd ["store", "number"] (spX K (clR K RN) (wM (["store", "number"] : List Str).length (["store", "number"] : List Str).length yc))
  refine wm (N := ["store", "number"]) (ps := ["store", "number"]) (k := 5) (O := []) (body := yc) (cl := clR K RN) F qaZ ?a ?b
  case a => decide
  intro cdv A outer s H E B hr
  have L := wl (P := P) (w := w) (K := K) (mg := mg) (base := base) (N := ["store", "number"]) (qual := "need_asked") (scope := qd zC) (f := f) (cdv := cdv) (A := A) (outer := outer) (s := s) (H := H) (E := E) (c := cfn [] [] B H (fun _ => False) (fun x H' => ∀ C, clR K RN x.cls = some C -> E (.ref C) none H') fun _ => none) (cl := clR K RN) rfl (fun x C H' h1 h2 => h2 C h1)
  exact (qg (yh (xC L.two hcl C_need_store hr (qb (qc 0) qe)))
      (qg (yh (xC L.two hcl C_need_count hr (qb (qc 1) qe)))
      (qh (yh (xC L.two hcl C_need_few hr (qb (qc 1) qe))))))
theorem zU : qw ["store", "room", "row", "kind"] ["store", "room"] (qd qJ) := ⟨rfl, rfl, rfl, by decide +kernel, rfl, by decide +kernel, by decide +kernel⟩
abbrev Q13 (P : Program) (w : World) (K : Fr0) (mg : Str -> Option Value) (base : Heap) : Prop := yE P w K mg base 7 "least_filling" ["store", "room"] (spX K (clR K RN) jg)
theorem q13 {f : Addr} {fd : FuncData} (F : Fun K "least_filling" "least_filling" qJ f fd) (m : mg "least_filling" = some (.ref f)) (T : Txt K mg) (XTt : XT K mg RN TN) (hB : K.In base) (C_filling_worths : Q4 P w K mg base) (C_need_asked : Q12 P w K mg base) : Q13 P w K mg base := by
  have hcl : ∀ n, RN.contains n = true -> (clR K RN n).isSome = true := fun n hn => Option.isSome_iff_exists.mpr (XTt.has hn)
  have rn0 : RN.contains "TooMany" = true := by decide
  obtain ⟨S, mS, xS⟩ := XTt.xcls hB
  refine ⟨f, fd, ?_, m, F.kp, F.binds fun _ _ _ _ _ _ us hl => match us, hl with | [_, _], _ => rfl⟩
  show yg P w K mg base (CX1 P w) 7 f fd ["store", "room"] (spX K (clR K RN) (wM (["store", "room", "row", "kind"] : List Str).length (["store", "room"] : List Str).length jf))
  refine wm (N := ["store", "room", "row", "kind"]) (ps := ["store", "room"]) (k := 6) (O := []) (body := jf) (cl := clR K RN) F zU ?a ?b
  case a => decide
  intro cdv A outer s H E B hr
  have L := wl (P := P) (w := w) (K := K) (mg := mg) (base := base) (N := ["store", "room", "row", "kind"]) (qual := "least_filling") (scope := qd qJ) (f := f) (cdv := cdv) (A := A) (outer := outer) (s := s) (H := H) (E := E) (c := cfn [] [] B H (fun _ => False) (fun x H' => ∀ C, clR K RN x.cls = some C -> E (.ref C) none H') fun _ => none) (cl := clR K RN) rfl (fun x C H' h1 h2 => h2 C h1)
  exact (qg (yh (xC L.two hcl C_need_asked hr (qb (qc 0) (qb (qc 1) qe))))
      (qg (zw (i := 2) zU.nd (qz qX qY (jz (qb qk qe)) (qz ja zt (jz (qb jZ qe)) (qc 1))))
      (qg (qhs (vp PassesOwn.never rfl (ul (qc 0)) (qv (i := 3) zU.nd) (qh (zw (i := 2) zU.nd (jQ (fo := none) rfl (jA rfl T.b_range (qb (qz qX qY (qc 1) qk) qe)) (cs ["store", "room", "row", "kind"] ["size", "kind", "row"] 1 [3, 2] (qd qJ)) (f0 [3, 2] []) (fun _ _ _ _ _ _ _ _ _ _ _ => ⟨(qv (i := 0) (nd ["size", "kind", "row"])), uR, (qbB (qfd rfl) qdS rfl T.b_min qbn (qb (dC C_filling_worths hr (qb (qc 1) (qb (qc 2) (qb (qc 0) qe)))) qe) (qfe jZ qhx))⟩))))))
      (qh (qR (jD zv zr (qc 2) (qc 1)))))))
theorem yy : qw ["kind", "most", "row", "room", "fitting"] ["kind", "most", "row", "room"] (qd qL) := ⟨rfl, rfl, rfl, by decide +kernel, rfl, by decide +kernel, by decide +kernel⟩
abbrev Q14 (P : Program) (w : World) (K : Fr0) (mg : Str -> Option Value) (base : Heap) : Prop := jb P w K mg base 3 "fewest_of_most" ["kind", "most", "row", "room"] (spD K qU)
theorem q14 {f : Addr} {fd : FuncData} (F : Fun K "fewest_of_most" "fewest_of_most" qL f fd) (m : mg "fewest_of_most" = some (.ref f)) (T : Txt K mg) (XTt : XT K mg RN TN) (hB : K.In base) (C_worth_with : Q3 P w K mg base) (C_filling_times : Q2 P w K mg base) : Q14 P w K mg base := by
  refine ⟨f, fd, ?_, m, F.kp, F.binds fun _ _ _ _ _ _ us hl => match us, hl with | [_, _, _, _], _ => rfl⟩
  show yg P w K mg base CX0 3 f fd ["kind", "most", "row", "room"] (spD K (dfn (["kind", "most", "row", "room", "fitting"] : List Str).length (["kind", "most", "row", "room"] : List Str).length zT))
  refine zV (N := ["kind", "most", "row", "room", "fitting"]) (ps := ["kind", "most", "row", "room"]) (k := 2) (O := []) (body := zT) F yy ?a ?b
  case a => decide
  intro cdv A outer s H E B hr
  exact (qg (zw (i := 4) yy.nd (dC C_filling_times hr (qb (qc 0) (qb (qc 2) (qb (qc 3) qe)))))
      (qh (qR (jD zv zr (jQ (fo := none) rfl (ul (qc 4)) (cs ["kind", "most", "row", "room", "fitting"] ["times", "most", "kind", "row", "room"] 1 [1, 0, 2, 3] (qd qL)) (f0 [1, 0, 2, 3] []) (fun _ _ _ _ _ _ _ _ _ _ _ => ⟨(qv (i := 0) (nd ["times", "most", "kind", "row", "room"])), (qbi (zZ (v7 hr) yD (dC C_worth_with hr (qb (qc 2) (qb (qc 0) (qb (qc 3) (qb (qc 4) qe))))) (qc 1) (zp _))), (qc 0)⟩)) qk))))
theorem yY : qw ["store", "room", "rows", "kind"] ["store", "room"] (qd zW) := ⟨rfl, rfl, rfl, by decide +kernel, rfl, by decide +kernel, by decide +kernel⟩
abbrev Q15 (P : Program) (w : World) (K : Fr0) (mg : Str -> Option Value) (base : Heap) : Prop := jb P w K mg base 4 "most_rows" ["store", "room"] (spD K js)
theorem q15 {f : Addr} {fd : FuncData} (F : Fun K "most_rows" "most_rows" zW f fd) (m : mg "most_rows" = some (.ref f)) (T : Txt K mg) (XTt : XT K mg RN TN) (hB : K.In base) (C_filling_worths : Q4 P w K mg base) : Q15 P w K mg base := by
  refine ⟨f, fd, ?_, m, F.kp, F.binds fun _ _ _ _ _ _ us hl => match us, hl with | [_, _], _ => rfl⟩
  show yg P w K mg base CX0 4 f fd ["store", "room"] (spD K (dfn (["store", "room", "rows", "kind"] : List Str).length (["store", "room"] : List Str).length yH))
  refine zV (N := ["store", "room", "rows", "kind"]) (ps := ["store", "room"]) (k := 3) (O := [2]) (body := yH) F yY ?a ?b
  case a => decide
  intro cdv A outer s H E B hr
  exact (qg (v4 (i := 2) yY.nd (qiP (qb (qz qX qY (jz (qb qk qe)) (qz ja zt (jz (qb jZ qe)) (qc 1))) qe)))
      (qg (vp PassesOwn.never rfl (qkH rfl T.b_reversed (qb (qc 0) qe)) (qv (i := 3) yY.nd) (qh (yh (qfi (i := 2) (jQ (fo := (some (2, 2))) rfl (jA rfl T.b_range (qb (qz qX qY (qc 1) qk) qe)) (cs ["store", "room", "rows", "kind"] ["size", "kind", "rows"] 1 [3, 2] (qd zW)) (f1 1 [3, 2] [2] 2 2) (fun _ _ _ _ _ _ _ _ _ _ _ => ⟨(qv (i := 0) (nd ["size", "kind", "rows"])), uR, (qbB (qfc rfl) qdR rfl T.b_max qeG (qb (dC C_filling_worths hr (qb (qc 1) (qb (qhc (i := 2) qk) (qb (qc 0) qe)))) qe) (qfe jZ qhx))⟩))))))
      (qh (qii (i := 2)))))
theorem yZ : qw ["store", "room", "rows", "load", "left", "place", "kind", "times"] ["store", "room"] (qd wA) := ⟨rfl, rfl, rfl, by decide +kernel, rfl, by decide +kernel, by decide +kernel⟩
abbrev Q16 (P : Program) (w : World) (K : Fr0) (mg : Str -> Option Value) (base : Heap) : Prop := yE P w K mg base 7 "fill" ["store", "room"] (spX K (clR K RN) qdd)
theorem q16 {f : Addr} {fd : FuncData} (F : Fun K "fill" "fill" wA f fd) (m : mg "fill" = some (.ref f)) (T : Txt K mg) (XTt : XT K mg RN TN) (hB : K.In base) (C_room_left : Q0 P w K mg base) (C_fewest_of_most : Q14 P w K mg base) (C_most_rows : Q15 P w K mg base) (C_need_asked : Q12 P w K mg base) : Q16 P w K mg base := by
  have hcl : ∀ n, RN.contains n = true -> (clR K RN n).isSome = true := fun n hn => Option.isSome_iff_exists.mpr (XTt.has hn)
  have rn0 : RN.contains "TooMany" = true := by decide
  obtain ⟨S, mS, xS⟩ := XTt.xcls hB
  refine ⟨f, fd, ?_, m, F.kp, F.binds fun _ _ _ _ _ _ us hl => match us, hl with | [_, _], _ => rfl⟩
  show yg P w K mg base (CX1 P w) 7 f fd ["store", "room"] (spX K (clR K RN) (wM (["store", "room", "rows", "load", "left", "place", "kind", "times"] : List Str).length (["store", "room"] : List Str).length qbI))
  refine wm (N := ["store", "room", "rows", "load", "left", "place", "kind", "times"]) (ps := ["store", "room"]) (k := 6) (O := [3]) (body := qbI) (cl := clR K RN) F yZ ?a ?b
  case a => decide
  intro cdv A outer s H E B hr
  have L := wl (P := P) (w := w) (K := K) (mg := mg) (base := base) (N := ["store", "room", "rows", "load", "left", "place", "kind", "times"]) (qual := "fill") (scope := qd wA) (f := f) (cdv := cdv) (A := A) (outer := outer) (s := s) (H := H) (E := E) (c := cfn [3] [] B H (fun _ => False) (fun x H' => ∀ C, clR K RN x.cls = some C -> E (.ref C) none H') fun _ => none) (cl := clR K RN) rfl (fun x C H' h1 h2 => h2 C h1)
  exact (qg (yh (xC L.two hcl C_need_asked hr (qb (qc 0) (qb (qc 1) qe))))
      (qg (zw (i := 2) yZ.nd (dC C_most_rows hr (qb (qc 0) (qb (qc 1) qe))))
      (qg (uL (zZ qcw qam (jD zv zr (jD zv zr (qc 2) qk) (qc 1)) jZ (zp _)) (qh (qR jZ)) zu)
      (qg (v4 (i := 3) yZ.nd (qeC qe))
      (qg (zw (i := 4) yZ.nd (qc 1))
      (qg (qhs (vp PassesOwn.never rfl (qiA rfl T.b_enumerate (qb (qc 0) qe)) (uM (n := 2) rfl (qH (qv (i := 5) yZ.nd) (qH (qv (i := 6) yZ.nd) yB))) (qg (zw (i := 7) yZ.nd (dC C_fewest_of_most hr (qb (qc 6) (qb (jD zv zr (jD zv zr (qc 2) (qc 5)) (qc 4)) (qb (jD zv zr (qc 2) (qz qX qY (qc 5) qk)) (qb (qc 4) qe))))))
      (qg (yh (vZ (i := 3) (qc 7)))
      (qh (zw (i := 4) yZ.nd (dC C_room_left hr (qb (qc 6) (qb (qc 7) (qb (qc 4) qe))))))))))
      (qh (qR (qeD (i := 3) rfl T.b_tuple vH)))))))))
theorem wG : qw ["store", "room"] ["store", "room"] (qd qZ) := ⟨rfl, rfl, rfl, by decide +kernel, rfl, by decide +kernel, by decide +kernel⟩
abbrev Q17 (P : Program) (w : World) (K : Fr0) (mg : Str -> Option Value) (base : Heap) : Prop := yE P w K mg base 7 "most_filling" ["store", "room"] (spX K (clR K RN) jy)
theorem q17 {f : Addr} {fd : FuncData} (F : Fun K "most_filling" "most_filling" qZ f fd) (m : mg "most_filling" = some (.ref f)) (T : Txt K mg) (XTt : XT K mg RN TN) (hB : K.In base) (C_most_rows : Q15 P w K mg base) (C_need_asked : Q12 P w K mg base) : Q17 P w K mg base := by
  have hcl : ∀ n, RN.contains n = true -> (clR K RN n).isSome = true := fun n hn => Option.isSome_iff_exists.mpr (XTt.has hn)
  have rn0 : RN.contains "TooMany" = true := by decide
  obtain ⟨S, mS, xS⟩ := XTt.xcls hB
  refine ⟨f, fd, ?_, m, F.kp, F.binds fun _ _ _ _ _ _ us hl => match us, hl with | [_, _], _ => rfl⟩
  show yg P w K mg base (CX1 P w) 7 f fd ["store", "room"] (spX K (clR K RN) (wM (["store", "room"] : List Str).length (["store", "room"] : List Str).length jx))
  refine wm (N := ["store", "room"]) (ps := ["store", "room"]) (k := 6) (O := []) (body := jx) (cl := clR K RN) F wG ?a ?b
  case a => decide
  intro cdv A outer s H E B hr
  have L := wl (P := P) (w := w) (K := K) (mg := mg) (base := base) (N := ["store", "room"]) (qual := "most_filling") (scope := qd qZ) (f := f) (cdv := cdv) (A := A) (outer := outer) (s := s) (H := H) (E := E) (c := cfn [] [] B H (fun _ => False) (fun x H' => ∀ C, clR K RN x.cls = some C -> E (.ref C) none H') fun _ => none) (cl := clR K RN) rfl (fun x C H' h1 h2 => h2 C h1)
  exact (qg (yh (xC L.two hcl C_need_asked hr (qb (qc 0) (qb (qc 1) qe))))
      (qh (qR (jD zv zr (jD zv zr (dC C_most_rows hr (qb (qc 0) (qb (qc 1) qe))) qk) (qc 1)))))
theorem jX : qw ["e", "found"] ["e"] (qd zd) := ⟨rfl, rfl, rfl, by decide +kernel, rfl, by decide +kernel, by decide +kernel⟩
abbrev Q18 (P : Program) (w : World) (K : Fr0) (mg : Str -> Option Value) (base : Heap) : Prop := qb9 P w K mg base 1 "_law_classes" ["e"] (spD K uv)
theorem q18 {f : Addr} {fd : FuncData} (F : Fun K "_law_classes" "_law_classes" zd f fd) (m : mg "_law_classes" = some (.ref f)) (T : Txt K mg) (XTt : XT K mg RN TN) (hB : K.In base) : Q18 P w K mg base := by
  have hcl : ∀ n, RN.contains n = true -> (clR K RN n).isSome = true := fun n hn => Option.isSome_iff_exists.mpr (XTt.has hn)
  have rn0 : RN.contains "TooMany" = true := by decide
  obtain ⟨S, mS, xS⟩ := XTt.xcls hB
  refine ⟨f, fd, ?_, m, F.kp, F.binds fun _ _ _ _ _ _ us hl => match us, hl with | [_], _ => rfl⟩
  show qaw P w K mg base CX0 1 f fd ["e"] (spD K (dfn (["e", "found"] : List Str).length (["e"] : List Str).length yo))
  refine qcX (N := ["e", "found"]) (ps := ["e"]) (k := 0) (O := []) (body := yo) F jX ?a ?b
  case a => decide
  intro cdv A outer s H E B hr al
  have hal : ∀ ρ σ H', Rep K (cfn [] [] B H (fun _ => False) (fun _ _ => False) fun _ => none) ρ σ H' -> AloneA (A.deeper (envOfC "_law_classes" (qd zd) s.heap.objs.size f cdv)) H' := Sk.AloneA.rep al (fun _ z => z)
  exact (qg (zw (i := 1) jX.nd (jz (qb (ur (RN := RN) (m := "NoStore") (mgl := mg) XTt (by decide) (by decide) rfl T.b_isinstance rfl (qc 0) (XTt.ask rn0 (by decide)) qs) (qb (ur (RN := RN) (m := "NoNumber") (mgl := mg) XTt (by decide) (by decide) rfl T.b_isinstance rfl (qc 0) (XTt.ask rn0 (by decide)) qs) (qb (ur (RN := RN) (m := "NoLoad") (mgl := mg) XTt (by decide) (by decide) rfl T.b_isinstance rfl (qc 0) (XTt.ask rn0 (by decide)) qs) (qb (ur (RN := RN) (m := "TooMany") (mgl := mg) XTt (by decide) (by decide) rfl T.b_isinstance rfl (qc 0) (XTt.ask rn0 (by decide)) qs) qe))))))
      (qg (zw (i := 1) jX.nd (qz qX qY (qc 1) (jz (qb (ur (RN := RN) (m := "NotSingle") (mgl := mg) XTt (by decide) (by decide) rfl T.b_isinstance rfl (qc 0) (XTt.ask rn0 (by decide)) qs) (qb (ur (RN := RN) (m := "NotEndless") (mgl := mg) XTt (by decide) (by decide) rfl T.b_isinstance rfl (qc 0) (XTt.ask rn0 (by decide)) qs) (qb (ur (RN := RN) (m := "NoKind") (mgl := mg) XTt (by decide) (by decide) rfl T.b_isinstance rfl (qc 0) (XTt.ask rn0 (by decide)) qs) qe))))))
      (qh (qR (qz qX qY (qc 1) (jz (qb (ur (RN := RN) (m := "NoLine") (mgl := mg) XTt (by decide) (by decide) rfl T.b_isinstance rfl (qc 0) (XTt.ask rn0 (by decide)) qs) (qb (ur (RN := RN) (m := "NoText") (mgl := mg) XTt (by decide) (by decide) rfl T.b_isinstance rfl (qc 0) (XTt.ask rn0 (by decide)) qs) qe))))))))
theorem qbS : qw ["e", "place"] ["e", "place"] (qd zD) := ⟨rfl, rfl, rfl, by decide +kernel, rfl, by decide +kernel, by decide +kernel⟩
abbrev Q19 (P : Program) (w : World) (K : Fr0) (mg : Str -> Option Value) (base : Heap) : Prop := qb9 P w K mg base 2 "_law_only" ["e", "place"] (spD K wB)
theorem q19 {f : Addr} {fd : FuncData} (F : Fun K "_law_only" "_law_only" zD f fd) (m : mg "_law_only" = some (.ref f)) (T : Txt K mg) (XTt : XT K mg RN TN) (hB : K.In base) (C__law_classes : Q18 P w K mg base) : Q19 P w K mg base := by
  have hcl : ∀ n, RN.contains n = true -> (clR K RN n).isSome = true := fun n hn => Option.isSome_iff_exists.mpr (XTt.has hn)
  have rn0 : RN.contains "TooMany" = true := by decide
  obtain ⟨S, mS, xS⟩ := XTt.xcls hB
  refine ⟨f, fd, ?_, m, F.kp, F.binds fun _ _ _ _ _ _ us hl => match us, hl with | [_, _], _ => rfl⟩
  show qaw P w K mg base CX0 2 f fd ["e", "place"] (spD K (dfn (["e", "place"] : List Str).length (["e", "place"] : List Str).length uH))
  refine qcX (N := ["e", "place"]) (ps := ["e", "place"]) (k := 1) (O := []) (body := uH) F qbS ?a ?b
  case a => decide
  intro cdv A outer s H E B hr al
  have hal : ∀ ρ σ H', Rep K (cfn [] [] B H (fun _ => False) (fun _ _ => False) fun _ => none) ρ σ H' -> AloneA (A.deeper (envOfC "_law_only" (qd zD) s.heap.objs.size f cdv)) H' := Sk.AloneA.rep al (fun _ z => z)
  exact (qg (uL (DW.dt (qet (vS (vo (ur (RN := RN) (m := "SackError") (mgl := mg) XTt (by decide) (by decide) rfl T.b_isinstance rfl (qc 0) (XTt.ask rn0 (by decide)) qs))) (qbc (vS (vo (qiJ XTt rfl T.b_isinstance rfl T.b_ValueError (qc 0) qs)))))) (qh (qR qb2)) zu)
      (qh (qR (qcy (qe6 hr) yD (lC hal C__law_classes hr (qb (qc 0) qe)) (qc2 (fo := none) hal (w6 rfl T.b_range (qb qk qe)) (cs ["e", "place"] ["k", "place"] 1 [1] (qd zD)) (f0 [1] []) rfl (fun _ _ _ _ _ _ _ _ _ _ _ hal => ⟨(qv (i := 0) (nd ["k", "place"])), uR, (qcy (qe6 hr) yD (qc 0) (qc 1) (zp _))⟩)) (zp _)))))
theorem vw : qw ["kind", "store", "room", "e"] ["kind", "store", "room"] (qd zX) := ⟨rfl, rfl, rfl, by decide +kernel, rfl, by decide +kernel, by decide +kernel⟩
abbrev Q20 (P : Program) (w : World) (K : Fr0) (mg : Str -> Option Value) (base : Heap) : Prop := jb P w K mg base 8 "_law_told" ["kind", "store", "room"] (spD K qE)
theorem q20 {f : Addr} {fd : FuncData} (F : Fun K "_law_told" "_law_told" zX f fd) (m : mg "_law_told" = some (.ref f)) (T : Txt K mg) (XTt : XT K mg RN TN) (hB : K.In base) (C_least_filling : Q13 P w K mg base) (C_fill : Q16 P w K mg base) (C_most_filling : Q17 P w K mg base) (C__law_only : Q19 P w K mg base) : Q20 P w K mg base := by
  have hcl : ∀ n, RN.contains n = true -> (clR K RN n).isSome = true := fun n hn => Option.isSome_iff_exists.mpr (XTt.has hn)
  have rn0 : RN.contains "TooMany" = true := by decide
  obtain ⟨S, mS, xS⟩ := XTt.xcls hB
  refine ⟨f, fd, ?_, m, F.kp, F.binds fun _ _ _ _ _ _ us hl => match us, hl with | [_, _, _], _ => rfl⟩
  show yg P w K mg base CX0 8 f fd ["kind", "store", "room"] (spD K (dfn (["kind", "store", "room", "e"] : List Str).length (["kind", "store", "room"] : List Str).length jt))
  refine zV (N := ["kind", "store", "room", "e"]) (ps := ["kind", "store", "room"]) (k := 7) (O := []) (body := jt) F vw ?a ?b
  case a => decide
  intro cdv A outer s H E B hr
  exact (qh (qiH (i := 3) vw.nd rfl rfl xS rfl mS (fun ee H6 al => have hal := qlS (K := K) al; have hr := qiN (e := ee) hr; (qc2 (fo := none) hal (w6 rfl T.b_range (qb qk qe)) (cs ["kind", "store", "room", "e"] ["place", "e"] 1 [3] (qd zX)) (f0 [3] []) rfl (fun _ _ _ _ _ _ _ _ _ _ _ hal => ⟨(qv (i := 0) (nd ["place", "e"])), (qbi (vo (lC hal C__law_only hr (qb (qc 1) (qb (qc 0) qe))))), (qc 0)⟩))) (fun xe pn E2 cE L => (qg (uL (zZ (v7 hr) yD (qc 0) qk (zp _)) (qh (qR (xC L hcl C_most_filling hr (qb (qc 1) (qb (qc 2) qe))))) zu)
      (qh (qR (qj0 (zZ (v7 hr) yD (qc 0) qk (zp _)) (xC L hcl C_least_filling hr (qb (qc 1) (qb (qc 2) qe))) (xC L hcl C_fill hr (qb (qc 1) (qb (qc 2) qe))))))))))
theorem qB : qw ["store", "room", "found", "heft", "gain", "most", "longer", "load", "heavy", "dear", "often"] ["store", "room"] (qd z5) := ⟨rfl, rfl, rfl, by decide +kernel, rfl, by decide +kernel, by decide +kernel⟩
abbrev Q21 (P : Program) (w : World) (K : Fr0) (mg : Str -> Option Value) (base : Heap) : Prop := jb P w K mg base 1 "_law_loads" ["store", "room"] (spD K zj)
theorem q21 {f : Addr} {fd : FuncData} (F : Fun K "_law_loads" "_law_loads" z5 f fd) (m : mg "_law_loads" = some (.ref f)) (T : Txt K mg) (XTt : XT K mg RN TN) (hB : K.In base) : Q21 P w K mg base := by
  refine ⟨f, fd, ?_, m, F.kp, F.binds fun _ _ _ _ _ _ us hl => match us, hl with | [_, _], _ => rfl⟩
  show yg P w K mg base CX0 1 f fd ["store", "room"] (spD K (dfn (["store", "room", "found", "heft", "gain", "most", "longer", "load", "heavy", "dear", "often"] : List Str).length (["store", "room"] : List Str).length yd))
  refine zV (N := ["store", "room", "found", "heft", "gain", "most", "longer", "load", "heavy", "dear", "often"]) (ps := ["store", "room"]) (k := 0) (O := [6]) (body := yd) F qB ?a ?b
  case a => decide
  intro cdv A outer s H E B hr
  exact (qg (zw (i := 2) qB.nd (jz (qb (uK (qb (uK qe) (qb qk (qb qk qe)))) qe)))
      (qg (vp PassesOwn.never rfl (ul (qc 0)) (uM (n := 3) rfl (qH (qv (i := 3) qB.nd) (qH (qv (i := 4) qB.nd) (qH (qv (i := 5) qB.nd) yB)))) (qg (v4 (i := 6) qB.nd (qeC qe))
      (qg (vp PassesOwn.never rfl (ul (qc 2)) (uM (n := 3) rfl (qH (qv (i := 7) qB.nd) (qH (qv (i := 8) qB.nd) (qH (qv (i := 9) qB.nd) yB)))) (qg (zw (i := 10) qB.nd qk)
      (qh (qgl PassesOwn.never (DW.dt (qjY (zZ qjJ qg4 (qz qX qY (qc 8) (qz ja zt (qc 10) (qc 3))) (qc 1) (zp _)) (qh3 (DW.dt (qet (zZ qcw qam (qc 5) jZ (zp _)) (qbc (zZ qjJ qg4 (qc 10) (qc 5) (zp _)))))))) (qg (yh (vZ (i := 6) (uK (qb (qz qX qY (qc 7) (uK (qb (qc 10) qe))) (qb (qz qX qY (qc 8) (qz ja zt (qc 10) (qc 3))) (qb (qz qX qY (qc 9) (qz ja zt (qc 10) (qc 4))) qe))))))
      (qh (zw (i := 10) qB.nd (qz qX qY (qc 10) qk))))))))
      (qh (qiO (i := 2) (j := 6) qB.nd)))))
      (qh (qR (qc 2)))))
theorem y0 : qw ["box", "many", "left", "digit"] ["box", "many"] (qd jq) := ⟨rfl, rfl, rfl, by decide +kernel, rfl, by decide +kernel, by decide +kernel⟩
abbrev Q22 (P : Program) (w : World) (K : Fr0) (mg : Str -> Option Value) (base : Heap) : Prop := jb P w K mg base 1 "_law_take" ["box", "many"] (qhd K qt)
theorem q22 {f : Addr} {fd : FuncData} (F : Fun K "_law_take" "_law_take" jq f fd) (m : mg "_law_take" = some (.ref f)) (T : Txt K mg) (XTt : XT K mg RN TN) (hB : K.In base) : Q22 P w K mg base := by
  refine ⟨f, fd, ?_, m, F.kp, F.binds fun _ _ _ _ _ _ us hl => match us, hl with | [_, _], _ => rfl⟩
  show yg P w K mg base CX0 1 f fd ["box", "many"] (qhd K (qao (["box", "many", "left", "digit"] : List Str).length (["box", "many"] : List Str).length yI))
  refine qkc (N := ["box", "many", "left", "digit"]) (ps := ["box", "many"]) (k := 0) (O := [0]) (body := yI) F y0 ?a ?a0 ?b
  case a => decide
  case a0 => decide
  intro cdv A outer s H E B Io S hr
  exact (qg (qg2 (zq qbY qbg rfl T.b_divmod qeH (qb (qhc (i := 0) qk) (qb (qc 1) qe))) (uM (n := 2) rfl (qH (qv (i := 2) y0.nd) (qH (qv (i := 3) y0.nd) yB))))
      (qg (qig (i := 0) (qc 2) qk)
      (qh (qR (qc 3)))))
theorem jH : qw ["box", "most", "found", "k", "heft", "gain"] ["box", "most"] (qd z6) := ⟨rfl, rfl, rfl, by decide +kernel, rfl, by decide +kernel, by decide +kernel⟩
abbrev Q23 (P : Program) (w : World) (K : Fr0) (mg : Str -> Option Value) (base : Heap) : Prop := jb P w K mg base 2 "_law_store" ["box", "most"] (qhd K zI)
theorem q23 {f : Addr} {fd : FuncData} (F : Fun K "_law_store" "_law_store" z6 f fd) (m : mg "_law_store" = some (.ref f)) (T : Txt K mg) (XTt : XT K mg RN TN) (hB : K.In base) (C__law_take : Q22 P w K mg base) : Q23 P w K mg base := by
  refine ⟨f, fd, ?_, m, F.kp, F.binds fun _ _ _ _ _ _ us hl => match us, hl with | [_, _], _ => rfl⟩
  show yg P w K mg base CX0 2 f fd ["box", "most"] (qhd K (qao (["box", "most", "found", "k", "heft", "gain"] : List Str).length (["box", "most"] : List Str).length ye))
  refine qkc (N := ["box", "most", "found", "k", "heft", "gain"]) (ps := ["box", "most"]) (k := 1) (O := [0, 2]) (body := ye) F jH ?a ?a0 ?b
  case a => decide
  case a0 => decide
  intro cdv A outer s H E B Io S hr
  exact (qg (v4 (i := 2) jH.nd (qeC qe))
      (qg (vp PassesOwn.never rfl (jA rfl T.b_range (qb (iC (i := 0) C__law_take hr (qb (qz qX qY (qc 1) qk) qe)) qe)) (qv (i := 3) jH.nd) (qg (qkj (i := 4) (j := 5) jH.nd (qb (qz qX qY qk (iC (i := 0) C__law_take hr (qb qk qe))) (qb (iC (i := 0) C__law_take hr (qb qk qe)) qe)) rfl)
      (qh (yh (vZ (i := 2) (uK (qb (qc 4) (qb (qc 5) (qb (jD zv zr (jz (qb jZ (qb qk (qb qk (qb qk (qb qk (qb qk (qb qk qe)))))))) (iC (i := 0) C__law_take hr (qb qk qe))) qe)))))))))
      (qh (qR (qeD (i := 2) rfl T.b_tuple vH)))))
theorem zJ : qw ["script", "k", "here", "number", "j", "part"] ["script", "k"] (qd jL) := ⟨rfl, rfl, rfl, by decide +kernel, rfl, by decide +kernel, by decide +kernel⟩
abbrev Q24 (P : Program) (w : World) (K : Fr0) (mg : Str -> Option Value) (base : Heap) : Prop := jb P w K mg base 1 "_law_box" ["script", "k"] (spD K z7)
theorem q24 {f : Addr} {fd : FuncData} (F : Fun K "_law_box" "_law_box" jL f fd) (m : mg "_law_box" = some (.ref f)) (T : Txt K mg) (XTt : XT K mg RN TN) (hB : K.In base) : Q24 P w K mg base := by
  refine ⟨f, fd, ?_, m, F.kp, F.binds fun _ _ _ _ _ _ us hl => match us, hl with | [_, _], _ => rfl⟩
  show yg P w K mg base CX0 1 f fd ["script", "k"] (spD K (dfn (["script", "k", "here", "number", "j", "part"] : List Str).length (["script", "k"] : List Str).length yx))
  refine zV (N := ["script", "k", "here", "number", "j", "part"]) (ps := ["script", "k"]) (k := 0) (O := []) (body := yx) F zJ ?a ?b
  case a => decide
  intro cdv A outer s H E B hr
  exact (qg (zw (i := 2) zJ.nd (qz qX qY (qz ja zt qk (qc 1)) qk))
      (qg (uL (zZ qlx qj1 (qc 1) (zq uN uO rfl T.b_len qcF (qb (qc 0) qe)) (zp _)) (qh (zw (i := 2) zJ.nd (jD zv zr (qc 0) (qc 1)))) zu)
      (qg (uL (zZ (v7 hr) yD (qz qa4 vU (qc 2) qk) qk (zp _)) (qh (qR (jz (qb (qz qec qcC (qc 2) qk) qe)))) zu)
      (qg (zw (i := 3) zJ.nd qk)
      (qg (vp PassesOwn.never rfl (jA rfl T.b_range (qb qk qe)) (qv (i := 4) zJ.nd) (qg (zw (i := 5) zJ.nd (qz qa4 vU (qz qX qY (qz qX qY (qz ja zt (qz qa4 vU (qc 2) qk) qk) (qz ja zt qk (qc 4))) qk) qk))
      (qg (zw (i := 5) zJ.nd (qz qa4 vU (qz ja zt (qc 5) (qc 5)) qk))
      (qh (zw (i := 3) zJ.nd (qz qX qY (qz ja zt (qc 3) qk) (qz qa4 vU (qz ja zt (qc 5) (qz qX qY (qc 5) qk)) qk)))))))
      (qh (qR (jz (qb (qc 3) qe)))))))))
theorem u7 : qw ["script", "k", "box", "store", "room", "some", "dues", "best"] ["script"] (qd ui) := ⟨rfl, rfl, rfl, by decide +kernel, rfl, by decide +kernel, by decide +kernel⟩
theorem qk7 {f : Addr} {fd : FuncData} (F : Fun K "law" "law" ui f fd) (T : Txt K mg) (XTt : XT K mg RN TN) (hB : K.In base) (C__law_told : Q20 P w K mg base) (C__law_loads : Q21 P w K mg base) (C__law_take : Q22 P w K mg base) (C__law_store : Q23 P w K mg base) (C__law_box : Q24 P w K mg base) : yg P w K mg base CX0 9 f fd ["script"] (spD K qcm) := by
  show yg P w K mg base CX0 9 f fd ["script"] (spD K (dfn (["script", "k", "box", "store", "room", "some", "dues", "best"] : List Str).length (["script"] : List Str).length qgU))
  refine zV (N := ["script", "k", "box", "store", "room", "some", "dues", "best"]) (ps := ["script"]) (k := 8) (O := [2]) (body := qgU) F u7 ?a ?b
  case a => decide
  intro cdv A outer s H E B hr
  exact (qg (uL (zZ (qcG hr) qaq (jQ (fo := none) rfl (jA rfl T.b_range (qb qk qe)) (cs ["script", "k", "box", "store", "room", "some", "dues", "best"] ["kind"] 1 [] (qd ui)) (f0 [] [2]) (fun _ _ _ _ _ _ _ _ _ _ _ => ⟨(qv (i := 0) (nd ["kind"])), uR, (dC C__law_told hr (qb (qc 0) (qb (uK (qb (uK (qb qk (qb qk (qb qk qe)))) qe)) (qb qk qe))))⟩)) (qz ja zt (jz (qb (jz (qb qk qe)) qe)) qk) (zp _)) (qh (qR qb2)) zu)
      (qg (vp PassesOwn.never rfl (jA rfl T.b_range (qb (zq (qeg rfl) qey rfl T.b_max qeG (qb qk (qb (zq (qa5 rfl) qbf rfl T.b_min qbn (qb (zq uN uO rfl T.b_len qcF (qb (qc 0) qe)) (qb qk qe))) qe))) qe)) (qv (i := 1) u7.nd) (qg (v4 (i := 2) u7.nd (nC C__law_box hr (qb (qc 0) (qb (qc 1) qe))))
      (qg (qg2 (uK (qb (iC (i := 2) C__law_store hr (qb qk qe)) (qb (iC (i := 2) C__law_take hr (qb (jD zv zr (jz (qb qk (qb qk (qb qk qe)))) (qc 1)) qe)) qe))) (uM (n := 2) rfl (qH (qv (i := 3) u7.nd) (qH (qv (i := 4) u7.nd) yB))))
      (qg (qiD (i := 5) u7.nd (qiC (fo := none) rfl (ul (dC C__law_loads hr (qb (qc 3) (qb (qc 4) qe)))) (cs ["script", "k", "box", "store", "room", "some", "dues", "best"] ["load", "heavy", "dear", "room"] 3 [4] (qd ui)) (f0 [4] [2]) (fun _ _ _ _ _ _ _ _ _ _ _ => ⟨(uM (n := 3) rfl (qH (qv (i := 0) (nd ["load", "heavy", "dear", "room"])) (qH (qv (i := 1) (nd ["load", "heavy", "dear", "room"])) (qH (qv (i := 2) (nd ["load", "heavy", "dear", "room"])) yB)))), (qbi (zZ (v7 hr) yD (qc 1) (qc 3) (zp _))), (uK (qb (qc 2) (qb (qc 0) qe)))⟩)) rfl (cs ["script", "k", "box", "store", "room", "some", "dues", "best"] ["load", "heavy", "dear", "room"] 3 [4] (qd ui)))
      (qg (zw (i := 6) u7.nd (jz (qb jZ (qb jZ (qb jZ qe)))))
      (qg (uL (zZ (qcG hr) qaq (qc 5) (jz qe) (zp _)) (qg (zw (i := 7) u7.nd (zq (qeW rfl) qdB rfl T.b_max qeG (qb (jQ (fo := none) rfl (ul (qc 5)) (cs ["script", "k", "box", "store", "room", "some", "dues", "best"] ["dear", "load"] 2 [] (qd ui)) (f0 [] [2]) (fun _ _ _ _ _ _ _ _ _ _ _ => ⟨(uM (n := 2) rfl (qH (qv (i := 0) (nd ["dear", "load"])) (qH (qv (i := 1) (nd ["dear", "load"])) yB))), uR, (qc 0)⟩)) qe)))
      (qh (zw (i := 6) u7.nd (jz (qb (qc 7) (qb (zq (qbv hr rfl) w5 rfl T.b_min qbn (qb (jQ (fo := none) rfl (ul (qc 5)) (cs ["script", "k", "box", "store", "room", "some", "dues", "best"] ["dear", "load"] 2 [] (qd ui)) (f0 [] [2]) (fun _ _ _ _ _ _ _ _ _ _ _ => ⟨(uM (n := 2) rfl (qH (qv (i := 0) (nd ["dear", "load"])) (qH (qv (i := 1) (nd ["dear", "load"])) yB))), uR, (qc 0)⟩)) qe)) (qb (zq (qbv hr rfl) w5 rfl T.b_min qbn (qb (jQ (fo := none) rfl (ul (qc 5)) (cs ["script", "k", "box", "store", "room", "some", "dues", "best"] ["dear", "load", "best"] 2 [7] (qd ui)) (f0 [7] [2]) (fun _ _ _ _ _ _ _ _ _ _ _ => ⟨(uM (n := 2) rfl (qH (qv (i := 0) (nd ["dear", "load", "best"])) (qH (qv (i := 1) (nd ["dear", "load", "best"])) yB))), (qbi (zZ (v7 hr) yD (qc 0) (qc 2) (zp _))), (qc 1)⟩)) qe)) qe))))))) zu)
      (qh (uL (zZ (qcG hr) qaq (zq (wU hr) wV rfl T.b_repr qeI (qb (jQ (fo := none) rfl (jA rfl T.b_range (qb qk qe)) (cs ["script", "k", "box", "store", "room", "some", "dues", "best"] ["kind", "store", "room"] 1 [3, 4] (qd ui)) (f0 [3, 4] [2]) (fun _ _ _ _ _ _ _ _ _ _ _ => ⟨(qv (i := 0) (nd ["kind", "store", "room"])), uR, (dC C__law_told hr (qb (qc 0) (qb (qc 1) (qb (qc 2) qe))))⟩)) qe)) (zq (wU hr) wV rfl T.b_repr qeI (qb (qc 6) qe)) (zp _)) (qh (qR qb2)) zu))))))))
      (qh (qR qb2))))
end
theorem all_mk {l : PySem.W.OpenLaw} {w : World} {K : PySem.W.Frag} {h : Heap} {mg : Str -> Option Value} {fa f0 f1 f2 f3 f4 f5 f6 f7 f8 f9 f10 f11 f12 f13 f14 f15 f16 f17 f18 f19 f20 f21 f22 f23 f24 f25 : Addr} (X : K.In h) (G : h.Ns mainGlobals mg) (hfa : mg "law" = some (.ref fa))
    {od0 an0 od1 an1 od2 an2 od3 an3 od4 an4 od5 an5 od6 an6 od7 an7 od8 an8 od9 an9 od10 an10 od11 an11 od12 an12 od13 an13 od14 an14 od15 an15 od16 an16 od17 an17 od18 an18 od19 an19 od20 an20 od21 an21 od22 an22 od23 an23 od24 an24 od25 an25 : Option Addr} {sl0 sl1 sl2 sl3 sl4 sl5 sl6 sl7 sl8 sl9 sl10 sl11 sl12 sl13 sl14 sl15 sl16 sl17 sl18 sl19 sl20 sl21 sl22 sl23 sl24 sl25 : Array (Option Value)} {oc0 kV0 dc0 pm0 cd0 ct0 oc1 kV1 dc1 pm1 cd1 ct1 oc2 kV2 dc2 pm2 cd2 ct2 oc3 kV3 dc3 pm3 cd3 ct3 oc4 kV4 dc4 pm4 cd4 ct4 oc5 kV5 dc5 pm5 cd5 ct5 oc6 kV6 dc6 pm6 cd6 ct6 oc7 kV7 dc7 pm7 cd7 ct7 oc8 kV8 dc8 pm8 cd8 ct8 oc9 kV9 dc9 pm9 cd9 ct9 oc10 kV10 dc10 pm10 cd10 ct10 oc11 kV11 dc11 pm11 cd11 ct11 oc12 kV12 dc12 pm12 cd12 ct12 oc13 kV13 dc13 pm13 cd13 ct13 oc14 kV14 dc14 pm14 cd14 ct14 oc15 kV15 dc15 pm15 cd15 ct15 oc16 kV16 dc16 pm16 cd16 ct16 oc17 kV17 dc17 pm17 cd17 ct17 oc18 kV18 dc18 pm18 cd18 ct18 oc19 kV19 dc19 pm19 cd19 ct19 oc20 kV20 dc20 pm20 cd20 ct20 oc21 kV21 dc21 pm21 cd21 ct21 oc22 kV22 dc22 pm22 cd22 ct22 oc23 kV23 dc23 pm23 cd23 ct23 oc24 kV24 dc24 pm24 cd24 ct24 oc25 kV25 dc25 pm25 cd25 ct25 : Value} {tk_ASKED_AT_MOST : Tok} {tk_KINDS_AT_MOST : Tok} {tk_MOST : Tok} {tk_WEIGHT : Tok} {tk_WORTH : Tok}
    (a0 : PySem.W.nsIn K mainGlobals "room_left" = some (some (.ref f0))) (l0 : K.lookup f0 = some ⟨oc0, od0, .func (PySem.W.fnOf "room_left" "room_left" (qC jn) (qu jn) (qd jn) .none kV0 dc0 pm0 an0 cd0 ct0), sl0⟩) (c0 : PySem.W.codeIn K cd0 "room_left" = true) (k0 : PySem.W.keepIn K (.ref f0) = true)
    (a1 : PySem.W.nsIn K mainGlobals "most_within" = some (some (.ref f1))) (l1 : K.lookup f1 = some ⟨oc1, od1, .func (PySem.W.fnOf "most_within" "most_within" (qC zL) (qu zL) (qd zL) .none kV1 dc1 pm1 an1 cd1 ct1), sl1⟩) (c1 : PySem.W.codeIn K cd1 "most_within" = true) (k1 : PySem.W.keepIn K (.ref f1) = true)
    (a2 : PySem.W.nsIn K mainGlobals "filling_times" = some (some (.ref f2))) (l2 : K.lookup f2 = some ⟨oc2, od2, .func (PySem.W.fnOf "filling_times" "filling_times" (qC qP) (qu qP) (qd qP) .none kV2 dc2 pm2 an2 cd2 ct2), sl2⟩) (c2 : PySem.W.codeIn K cd2 "filling_times" = true) (k2 : PySem.W.keepIn K (.ref f2) = true)
    (a3 : PySem.W.nsIn K mainGlobals "worth_with" = some (some (.ref f3))) (l3 : K.lookup f3 = some ⟨oc3, od3, .func (PySem.W.fnOf "worth_with" "worth_with" (qC z4) (qu z4) (qd z4) .none kV3 dc3 pm3 an3 cd3 ct3), sl3⟩) (c3 : PySem.W.codeIn K cd3 "worth_with" = true) (k3 : PySem.W.keepIn K (.ref f3) = true)
    (a4 : PySem.W.nsIn K mainGlobals "filling_worths" = some (some (.ref f4))) (l4 : K.lookup f4 = some ⟨oc4, od4, .func (PySem.W.fnOf "filling_worths" "filling_worths" (qC qK) (qu qK) (qd qK) .none kV4 dc4 pm4 an4 cd4 ct4), sl4⟩) (c4 : PySem.W.codeIn K cd4 "filling_worths" = true) (k4 : PySem.W.keepIn K (.ref f4) = true)
    (a5 : PySem.W.nsIn K mainGlobals "need_few" = some (some (.ref f5))) (l5 : K.lookup f5 = some ⟨oc5, od5, .func (PySem.W.fnOf "need_few" "need_few" (qC jo) (qu jo) (qd jo) .none kV5 dc5 pm5 an5 cd5 ct5), sl5⟩) (c5 : PySem.W.codeIn K cd5 "need_few" = true) (k5 : PySem.W.keepIn K (.ref f5) = true)
    (a6 : PySem.W.nsIn K mainGlobals "is_whole" = some (some (.ref f6))) (l6 : K.lookup f6 = some ⟨oc6, od6, .func (PySem.W.fnOf "is_whole" "is_whole" (qC jJ) (qu jJ) (qd jJ) .none kV6 dc6 pm6 an6 cd6 ct6), sl6⟩) (c6 : PySem.W.codeIn K cd6 "is_whole" = true) (k6 : PySem.W.keepIn K (.ref f6) = true)
    (a7 : PySem.W.nsIn K mainGlobals "is_count" = some (some (.ref f7))) (l7 : K.lookup f7 = some ⟨oc7, od7, .func (PySem.W.fnOf "is_count" "is_count" (qC jK) (qu jK) (qd jK) .none kV7 dc7 pm7 an7 cd7 ct7), sl7⟩) (c7 : PySem.W.codeIn K cd7 "is_count" = true) (k7 : PySem.W.keepIn K (.ref f7) = true)
    (a8 : PySem.W.nsIn K mainGlobals "need_count" = some (some (.ref f8))) (l8 : K.lookup f8 = some ⟨oc8, od8, .func (PySem.W.fnOf "need_count" "need_count" (qC zA) (qu zA) (qd zA) .none kV8 dc8 pm8 an8 cd8 ct8), sl8⟩) (c8 : PySem.W.codeIn K cd8 "need_count" = true) (k8 : PySem.W.keepIn K (.ref f8) = true)
    (a9 : PySem.W.nsIn K mainGlobals "is_kind" = some (some (.ref f9))) (l9 : K.lookup f9 = some ⟨oc9, od9, .func (PySem.W.fnOf "is_kind" "is_kind" (qC yw) (qu yw) (qd yw) .none kV9 dc9 pm9 an9 cd9 ct9), sl9⟩) (c9 : PySem.W.codeIn K cd9 "is_kind" = true) (k9 : PySem.W.keepIn K (.ref f9) = true)
    (a10 : PySem.W.nsIn K mainGlobals "is_store" = some (some (.ref f10))) (l10 : K.lookup f10 = some ⟨oc10, od10, .func (PySem.W.fnOf "is_store" "is_store" (qC jp) (qu jp) (qd jp) .none kV10 dc10 pm10 an10 cd10 ct10), sl10⟩) (c10 : PySem.W.codeIn K cd10 "is_store" = true) (k10 : PySem.W.keepIn K (.ref f10) = true)
    (a11 : PySem.W.nsIn K mainGlobals "need_store" = some (some (.ref f11))) (l11 : K.lookup f11 = some ⟨oc11, od11, .func (PySem.W.fnOf "need_store" "need_store" (qC zB) (qu zB) (qd zB) .none kV11 dc11 pm11 an11 cd11 ct11), sl11⟩) (c11 : PySem.W.codeIn K cd11 "need_store" = true) (k11 : PySem.W.keepIn K (.ref f11) = true)
    (a12 : PySem.W.nsIn K mainGlobals "need_asked" = some (some (.ref f12))) (l12 : K.lookup f12 = some ⟨oc12, od12, .func (PySem.W.fnOf "need_asked" "need_asked" (qC zC) (qu zC) (qd zC) .none kV12 dc12 pm12 an12 cd12 ct12), sl12⟩) (c12 : PySem.W.codeIn K cd12 "need_asked" = true) (k12 : PySem.W.keepIn K (.ref f12) = true)
    (a13 : PySem.W.nsIn K mainGlobals "least_filling" = some (some (.ref f13))) (l13 : K.lookup f13 = some ⟨oc13, od13, .func (PySem.W.fnOf "least_filling" "least_filling" (qC qJ) (qu qJ) (qd qJ) .none kV13 dc13 pm13 an13 cd13 ct13), sl13⟩) (c13 : PySem.W.codeIn K cd13 "least_filling" = true) (k13 : PySem.W.keepIn K (.ref f13) = true)
    (a14 : PySem.W.nsIn K mainGlobals "fewest_of_most" = some (some (.ref f14))) (l14 : K.lookup f14 = some ⟨oc14, od14, .func (PySem.W.fnOf "fewest_of_most" "fewest_of_most" (qC qL) (qu qL) (qd qL) .none kV14 dc14 pm14 an14 cd14 ct14), sl14⟩) (c14 : PySem.W.codeIn K cd14 "fewest_of_most" = true) (k14 : PySem.W.keepIn K (.ref f14) = true)
    (a15 : PySem.W.nsIn K mainGlobals "most_rows" = some (some (.ref f15))) (l15 : K.lookup f15 = some ⟨oc15, od15, .func (PySem.W.fnOf "most_rows" "most_rows" (qC zW) (qu zW) (qd zW) .none kV15 dc15 pm15 an15 cd15 ct15), sl15⟩) (c15 : PySem.W.codeIn K cd15 "most_rows" = true) (k15 : PySem.W.keepIn K (.ref f15) = true)
    (a16 : PySem.W.nsIn K mainGlobals "fill" = some (some (.ref f16))) (l16 : K.lookup f16 = some ⟨oc16, od16, .func (PySem.W.fnOf "fill" "fill" (qC wA) (qu wA) (qd wA) .none kV16 dc16 pm16 an16 cd16 ct16), sl16⟩) (c16 : PySem.W.codeIn K cd16 "fill" = true) (k16 : PySem.W.keepIn K (.ref f16) = true)
    (a17 : PySem.W.nsIn K mainGlobals "most_filling" = some (some (.ref f17))) (l17 : K.lookup f17 = some ⟨oc17, od17, .func (PySem.W.fnOf "most_filling" "most_filling" (qC qZ) (qu qZ) (qd qZ) .none kV17 dc17 pm17 an17 cd17 ct17), sl17⟩) (c17 : PySem.W.codeIn K cd17 "most_filling" = true) (k17 : PySem.W.keepIn K (.ref f17) = true)
    (a18 : PySem.W.nsIn K mainGlobals "_law_classes" = some (some (.ref f18))) (l18 : K.lookup f18 = some ⟨oc18, od18, .func (PySem.W.fnOf "_law_classes" "_law_classes" (qC zd) (qu zd) (qd zd) .none kV18 dc18 pm18 an18 cd18 ct18), sl18⟩) (c18 : PySem.W.codeIn K cd18 "_law_classes" = true) (k18 : PySem.W.keepIn K (.ref f18) = true)
    (a19 : PySem.W.nsIn K mainGlobals "_law_only" = some (some (.ref f19))) (l19 : K.lookup f19 = some ⟨oc19, od19, .func (PySem.W.fnOf "_law_only" "_law_only" (qC zD) (qu zD) (qd zD) .none kV19 dc19 pm19 an19 cd19 ct19), sl19⟩) (c19 : PySem.W.codeIn K cd19 "_law_only" = true) (k19 : PySem.W.keepIn K (.ref f19) = true)
    (a20 : PySem.W.nsIn K mainGlobals "_law_told" = some (some (.ref f20))) (l20 : K.lookup f20 = some ⟨oc20, od20, .func (PySem.W.fnOf "_law_told" "_law_told" (qC zX) (qu zX) (qd zX) .none kV20 dc20 pm20 an20 cd20 ct20), sl20⟩) (c20 : PySem.W.codeIn K cd20 "_law_told" = true) (k20 : PySem.W.keepIn K (.ref f20) = true)
    (a21 : PySem.W.nsIn K mainGlobals "_law_loads" = some (some (.ref f21))) (l21 : K.lookup f21 = some ⟨oc21, od21, .func (PySem.W.fnOf "_law_loads" "_law_loads" (qC z5) (qu z5) (qd z5) .none kV21 dc21 pm21 an21 cd21 ct21), sl21⟩) (c21 : PySem.W.codeIn K cd21 "_law_loads" = true) (k21 : PySem.W.keepIn K (.ref f21) = true)
    (a22 : PySem.W.nsIn K mainGlobals "_law_take" = some (some (.ref f22))) (l22 : K.lookup f22 = some ⟨oc22, od22, .func (PySem.W.fnOf "_law_take" "_law_take" (qC jq) (qu jq) (qd jq) .none kV22 dc22 pm22 an22 cd22 ct22), sl22⟩) (c22 : PySem.W.codeIn K cd22 "_law_take" = true) (k22 : PySem.W.keepIn K (.ref f22) = true)
    (a23 : PySem.W.nsIn K mainGlobals "_law_store" = some (some (.ref f23))) (l23 : K.lookup f23 = some ⟨oc23, od23, .func (PySem.W.fnOf "_law_store" "_law_store" (qC z6) (qu z6) (qd z6) .none kV23 dc23 pm23 an23 cd23 ct23), sl23⟩) (c23 : PySem.W.codeIn K cd23 "_law_store" = true) (k23 : PySem.W.keepIn K (.ref f23) = true)
    (a24 : PySem.W.nsIn K mainGlobals "_law_box" = some (some (.ref f24))) (l24 : K.lookup f24 = some ⟨oc24, od24, .func (PySem.W.fnOf "_law_box" "_law_box" (qC jL) (qu jL) (qd jL) .none kV24 dc24 pm24 an24 cd24 ct24), sl24⟩) (c24 : PySem.W.codeIn K cd24 "_law_box" = true) (k24 : PySem.W.keepIn K (.ref f24) = true)
    (a25 : PySem.W.nsIn K mainGlobals "law" = some (some (.ref f25))) (l25 : K.lookup f25 = some ⟨oc25, od25, .func (PySem.W.fnOf "law" "law" (qC ui) (qu ui) (qd ui) .none kV25 dc25 pm25 an25 cd25 ct25), sl25⟩) (c25 : PySem.W.codeIn K cd25 "law" = true) (k25 : PySem.W.keepIn K (.ref f25) = true)
    (zb_ValueError : PySem.W.nsIn K mainGlobals "ValueError" = some none)
    (zb_all : PySem.W.nsIn K mainGlobals "all" = some none)
    (zb_bool : PySem.W.nsIn K mainGlobals "bool" = some none)
    (zb_divmod : PySem.W.nsIn K mainGlobals "divmod" = some none)
    (zb_enumerate : PySem.W.nsIn K mainGlobals "enumerate" = some none)
    (zb_int : PySem.W.nsIn K mainGlobals "int" = some none)
    (zb_isinstance : PySem.W.nsIn K mainGlobals "isinstance" = some none)
    (zb_len : PySem.W.nsIn K mainGlobals "len" = some none)
    (zb_max : PySem.W.nsIn K mainGlobals "max" = some none)
    (zb_min : PySem.W.nsIn K mainGlobals "min" = some none)
    (zb_range : PySem.W.nsIn K mainGlobals "range" = some none)
    (zb_repr : PySem.W.nsIn K mainGlobals "repr" = some none)
    (zb_reversed : PySem.W.nsIn K mainGlobals "reversed" = some none)
    (zb_tuple : PySem.W.nsIn K mainGlobals "tuple" = some none)
    (xz : qlR K RN TN = true)
    (zg_ASKED_AT_MOST : PySem.W.nsIn K mainGlobals "ASKED_AT_MOST" = some (some (.int 200 tk_ASKED_AT_MOST)))
    (zg_KINDS_AT_MOST : PySem.W.nsIn K mainGlobals "KINDS_AT_MOST" = some (some (.int 12 tk_KINDS_AT_MOST)))
    (zg_MOST : PySem.W.nsIn K mainGlobals "MOST" = some (some (.int 2 tk_MOST)))
    (zg_WEIGHT : PySem.W.nsIn K mainGlobals "WEIGHT" = some (some (.int 0 tk_WEIGHT)))
    (zg_WORTH : PySem.W.nsIn K mainGlobals "WORTH" = some (some (.int 1 tk_WORTH))) :
    ∃ fd : FuncData, (∀ (s : Shared) (v : Value), BindsTo s fd ⟨[v], []⟩ [("script", v)]) /\ ∀ base : Heap, K.In base -> base.Ns mainGlobals mg -> yg l.prog w K mg base CX0 9 fa fd ["script"] (spD K qcm) := by
  have e := hfa.symm.trans (PySem.W.mg_of X G a25)
  cases e
  have T : Txt K mg := ⟨PySem.W.mg_none_of X G zb_ValueError, PySem.W.mg_none_of X G zb_all, PySem.W.mg_none_of X G zb_bool, PySem.W.mg_none_of X G zb_divmod, PySem.W.mg_none_of X G zb_enumerate, PySem.W.mg_none_of X G zb_int, PySem.W.mg_none_of X G zb_isinstance, PySem.W.mg_none_of X G zb_len, PySem.W.mg_none_of X G zb_max, PySem.W.mg_none_of X G zb_min, PySem.W.mg_none_of X G zb_range, PySem.W.mg_none_of X G zb_repr, PySem.W.mg_none_of X G zb_reversed, PySem.W.mg_none_of X G zb_tuple, ⟨_, PySem.W.mg_of X G zg_ASKED_AT_MOST⟩, ⟨_, PySem.W.mg_of X G zg_KINDS_AT_MOST⟩, ⟨_, PySem.W.mg_of X G zg_MOST⟩, ⟨_, PySem.W.mg_of X G zg_WEIGHT⟩, ⟨_, PySem.W.mg_of X G zg_WORTH⟩⟩
  refine ⟨PySem.W.fnOf "law" "law" (qC ui) (qu ui) (qd ui) .none kV25 dc25 pm25 an25 cd25 ct25, fun s v => .of_eq rfl, fun base hB _ => ?_⟩
  have XTt : XT K mg RN TN := ⟨xz, qgr X G⟩
  have C_room_left := q0 (P := l.prog) (w := w) (base := base) (zh (st := jn) l0 c0 k0) (PySem.W.mg_of X G a0) T XTt hB
  have C_most_within := q1 (P := l.prog) (w := w) (base := base) (zh (st := zL) l1 c1 k1) (PySem.W.mg_of X G a1) T XTt hB
  have C_filling_times := q2 (P := l.prog) (w := w) (base := base) (zh (st := qP) l2 c2 k2) (PySem.W.mg_of X G a2) T XTt hB C_room_left C_most_within
  have C_worth_with := q3 (P := l.prog) (w := w) (base := base) (zh (st := z4) l3 c3 k3) (PySem.W.mg_of X G a3) T XTt hB C_room_left
  have C_filling_worths := q4 (P := l.prog) (w := w) (base := base) (zh (st := qK) l4 c4 k4) (PySem.W.mg_of X G a4) T XTt hB C_filling_times C_worth_with
  have C_need_few := q5 (P := l.prog) (w := w) (base := base) (zh (st := jo) l5 c5 k5) (PySem.W.mg_of X G a5) T XTt hB
  have C_is_whole := q6 (P := l.prog) (w := w) (base := base) (zh (st := jJ) l6 c6 k6) (PySem.W.mg_of X G a6) T XTt hB
  have C_is_count := q7 (P := l.prog) (w := w) (base := base) (zh (st := jK) l7 c7 k7) (PySem.W.mg_of X G a7) T XTt hB C_is_whole
  have C_need_count := q8 (P := l.prog) (w := w) (base := base) (zh (st := zA) l8 c8 k8) (PySem.W.mg_of X G a8) T XTt hB C_is_count
  have C_is_kind := q9 (P := l.prog) (w := w) (base := base) (zh (st := yw) l9 c9 k9) (PySem.W.mg_of X G a9) T XTt hB C_is_count
  have C_is_store := q10 (P := l.prog) (w := w) (base := base) (zh (st := jp) l10 c10 k10) (PySem.W.mg_of X G a10) T XTt hB C_is_kind
  have C_need_store := q11 (P := l.prog) (w := w) (base := base) (zh (st := zB) l11 c11 k11) (PySem.W.mg_of X G a11) T XTt hB C_is_store
  have C_need_asked := q12 (P := l.prog) (w := w) (base := base) (zh (st := zC) l12 c12 k12) (PySem.W.mg_of X G a12) T XTt hB C_need_few C_need_count C_need_store
  have C_least_filling := q13 (P := l.prog) (w := w) (base := base) (zh (st := qJ) l13 c13 k13) (PySem.W.mg_of X G a13) T XTt hB C_filling_worths C_need_asked
  have C_fewest_of_most := q14 (P := l.prog) (w := w) (base := base) (zh (st := qL) l14 c14 k14) (PySem.W.mg_of X G a14) T XTt hB C_worth_with C_filling_times
  have C_most_rows := q15 (P := l.prog) (w := w) (base := base) (zh (st := zW) l15 c15 k15) (PySem.W.mg_of X G a15) T XTt hB C_filling_worths
  have C_fill := q16 (P := l.prog) (w := w) (base := base) (zh (st := wA) l16 c16 k16) (PySem.W.mg_of X G a16) T XTt hB C_room_left C_fewest_of_most C_most_rows C_need_asked
  have C_most_filling := q17 (P := l.prog) (w := w) (base := base) (zh (st := qZ) l17 c17 k17) (PySem.W.mg_of X G a17) T XTt hB C_most_rows C_need_asked
  have C__law_classes := q18 (P := l.prog) (w := w) (base := base) (zh (st := zd) l18 c18 k18) (PySem.W.mg_of X G a18) T XTt hB
  have C__law_only := q19 (P := l.prog) (w := w) (base := base) (zh (st := zD) l19 c19 k19) (PySem.W.mg_of X G a19) T XTt hB C__law_classes
  have C__law_told := q20 (P := l.prog) (w := w) (base := base) (zh (st := zX) l20 c20 k20) (PySem.W.mg_of X G a20) T XTt hB C_least_filling C_fill C_most_filling C__law_only
  have C__law_loads := q21 (P := l.prog) (w := w) (base := base) (zh (st := z5) l21 c21 k21) (PySem.W.mg_of X G a21) T XTt hB
  have C__law_take := q22 (P := l.prog) (w := w) (base := base) (zh (st := jq) l22 c22 k22) (PySem.W.mg_of X G a22) T XTt hB
  have C__law_store := q23 (P := l.prog) (w := w) (base := base) (zh (st := z6) l23 c23 k23) (PySem.W.mg_of X G a23) T XTt hB C__law_take
  have C__law_box := q24 (P := l.prog) (w := w) (base := base) (zh (st := jL) l24 c24 k24) (PySem.W.mg_of X G a24) T XTt hB
  exact qk7 (P := l.prog) (w := w) (base := base) (zh (st := ui) l25 c25 k25) T XTt hB C__law_told C__law_loads C__law_take C__law_store C__law_box
theorem ql6 {K : Fr0} {H : Hp} {a : Addr} {ns : List Int} (hO : qla H) (hS : SqL K H a (ns.map V.int)) : qjX K H a (ns.map V.int) := by
  rcases hS with (h | h) | h
  . rcases hO a with z | ⟨o, xs, z⟩
    . rw [h] at z; cases z
    . rw [h] at z; cases z
  . exact .inl h
  . exact .inr h
theorem walk {l : PySem.W.OpenLaw} {q : Program} {loose : List Str} {XP : (Str -> Option Value) -> Heap -> Prop} {YP : World -> Heap -> Prop} {d : DefRec} {K : Params -> PySem.W.Frag} (hn : l.most = some 63) (hdf : d.params.defaults = [])
    (hY : ∀ (w : World) (h : Heap), YP w h -> (K w.params).In h) (hlaw : ∀ ns : List Int, ns.length <= 63 -> qcm [.fz ns] = .ok (.bl true))
    (F : ∀ (w : World) (mg : Str -> Option Value) (fa : Addr) (h : Heap), (K w.params).In h -> h.Ns mainGlobals mg -> mg d.name = some (.ref fa) ->
      ∃ fd : FuncData, (∀ (s : Shared) (u : Value), BindsTo s fd ⟨[u], []⟩ [("script", u)]) /\ ∀ base : Heap, (K w.params).In base -> base.Ns mainGlobals mg -> yg l.prog w (K w.params) mg base CX0 9 fa fd ["script"] (spD (K w.params) qcm)) :
    PySem.W.WalkO q loose XP YP l.row.toRowW d [] (fun f vs => PySem.call f vs) :=
  L2.walk_of (n := 63) (k := 9) (x := "script") (CX := fun _ => CX0) (sp := fun w => spD (K w.params) qcm) hn (by decide) hdf ⟨rfl, by decide, by decide, rfl⟩ hY F (fun w H a ns hl hO hS => by
    refine ⟨[.fz ns], fun _ => False, ⟨.ref a, [], rfl, ⟨a, rfl, ql6 hO hS⟩, rfl⟩, fun _ _ => trivial, ?_⟩
    rw [hlaw ns hl]
    exact fun v H' _ h => h) fun _ _ _ _ _ z => z
end Law
end L2.Sk
open PySem PySem.W PyProof.Rows
set_option maxRecDepth 100000 in
set_option maxHeartbeats 0 in
theorem PySem.Challenge.cw_sackloads_k52_fills_holds : PySem.Challenge.rw_sackloads_k52_fills.Holds := by
  w_on; o_law; k_head; (case hw => w_witness2)
  k_fill
  refine L2.Sk.Law.walk (l := PySem.Challenge.rw_sackloads_k52_fills) rfl rfl (fun w h Y => by first | exact PySem.W.kIn_of Y | exact PySem.W.km_in_of Y) L2.Sk.Law.law_true ?F
  case F =>
    intro w mg fa h KX G hmg
    refine' L2.Sk.Law.all_mk KX G hmg ?a0 ?l0 ?c0 ?k0 ?a1 ?l1 ?c1 ?k1 ?a2 ?l2 ?c2 ?k2 ?a3 ?l3 ?c3 ?k3 ?a4 ?l4 ?c4 ?k4 ?a5 ?l5 ?c5 ?k5 ?a6 ?l6 ?c6 ?k6 ?a7 ?l7 ?c7 ?k7 ?a8 ?l8 ?c8 ?k8 ?a9 ?l9 ?c9 ?k9 ?a10 ?l10 ?c10 ?k10 ?a11 ?l11 ?c11 ?k11 ?a12 ?l12 ?c12 ?k12 ?a13 ?l13 ?c13 ?k13 ?a14 ?l14 ?c14 ?k14 ?a15 ?l15 ?c15 ?k15 ?a16 ?l16 ?c16 ?k16 ?a17 ?l17 ?c17 ?k17 ?a18 ?l18 ?c18 ?k18 ?a19 ?l19 ?c19 ?k19 ?a20 ?l20 ?c20 ?k20 ?a21 ?l21 ?c21 ?k21 ?a22 ?l22 ?c22 ?k22 ?a23 ?l23 ?c23 ?k23 ?a24 ?l24 ?c24 ?k24 ?a25 ?l25 ?c25 ?k25 ?zb_ValueError ?zb_all ?zb_bool ?zb_divmod ?zb_enumerate ?zb_int ?zb_isinstance ?zb_len ?zb_max ?zb_min ?zb_range ?zb_repr ?zb_reversed ?zb_tuple ?xz ?zg_ASKED_AT_MOST ?zg_KINDS_AT_MOST ?zg_MOST ?zg_WEIGHT ?zg_WORTH
    (case a0 => k_is)
    (case l0 => k_is)
    (case c0 => k_is)
    (case k0 => k_is)
    (case a1 => k_is)
    (case l1 => k_is)
    (case c1 => k_is)
    (case k1 => k_is)
    (case a2 => k_is)
    (case l2 => k_is)
    (case c2 => k_is)
    (case k2 => k_is)
    (case a3 => k_is)
    (case l3 => k_is)
    (case c3 => k_is)
    (case k3 => k_is)
    (case a4 => k_is)
    (case l4 => k_is)
    (case c4 => k_is)
    (case k4 => k_is)
    (case a5 => k_is)
    (case l5 => k_is)
    (case c5 => k_is)
    (case k5 => k_is)
    (case a6 => k_is)
    (case l6 => k_is)
    (case c6 => k_is)
    (case k6 => k_is)
    (case a7 => k_is)
    (case l7 => k_is)
    (case c7 => k_is)
    (case k7 => k_is)
    (case a8 => k_is)
    (case l8 => k_is)
    (case c8 => k_is)
    (case k8 => k_is)
    (case a9 => k_is)
    (case l9 => k_is)
    (case c9 => k_is)
    (case k9 => k_is)
    (case a10 => k_is)
    (case l10 => k_is)
    (case c10 => k_is)
    (case k10 => k_is)
    (case a11 => k_is)
    (case l11 => k_is)
    (case c11 => k_is)
    (case k11 => k_is)
    (case a12 => k_is)
    (case l12 => k_is)
    (case c12 => k_is)
    (case k12 => k_is)
    (case a13 => k_is)
    (case l13 => k_is)
    (case c13 => k_is)
    (case k13 => k_is)
    (case a14 => k_is)
    (case l14 => k_is)
    (case c14 => k_is)
    (case k14 => k_is)
    (case a15 => k_is)
    (case l15 => k_is)
    (case c15 => k_is)
    (case k15 => k_is)
    (case a16 => k_is)
    (case l16 => k_is)
    (case c16 => k_is)
    (case k16 => k_is)
    (case a17 => k_is)
    (case l17 => k_is)
    (case c17 => k_is)
    (case k17 => k_is)
    (case a18 => k_is)
    (case l18 => k_is)
    (case c18 => k_is)
    (case k18 => k_is)
    (case a19 => k_is)
    (case l19 => k_is)
    (case c19 => k_is)
    (case k19 => k_is)
    (case a20 => k_is)
    (case l20 => k_is)
    (case c20 => k_is)
    (case k20 => k_is)
    (case a21 => k_is)
    (case l21 => k_is)
    (case c21 => k_is)
    (case k21 => k_is)
    (case a22 => k_is)
    (case l22 => k_is)
    (case c22 => k_is)
    (case k22 => k_is)
    (case a23 => k_is)
    (case l23 => k_is)
    (case c23 => k_is)
    (case k23 => k_is)
    (case a24 => k_is)
    (case l24 => k_is)
    (case c24 => k_is)
    (case k24 => k_is)
    (case a25 => k_is)
    (case l25 => k_is)
    (case c25 => k_is)
    (case k25 => k_is)
    (case zb_ValueError => k_is)
    (case zb_all => k_is)
    (case zb_bool => k_is)
    (case zb_divmod => k_is)
    (case zb_enumerate => k_is)
    (case zb_int => k_is)
    (case zb_isinstance => k_is)
    (case zb_len => k_is)
    (case zb_max => k_is)
    (case zb_min => k_is)
    (case zb_range => k_is)
    (case zb_repr => k_is)
    (case zb_reversed => k_is)
    (case zb_tuple => k_is)
    (case xz => kernel_rfl)
    (case zg_ASKED_AT_MOST => k_is)
    (case zg_KINDS_AT_MOST => k_is)
    (case zg_MOST => k_is)
    (case zg_WEIGHT => k_is)
    (case zg_WORTH => k_is)
