import PyProof.Rows.All
import Wide.All
import OpenK.AllK
import Wide.FinOn
import Lean
import PyProof.EqAt
import PyProof.EqKinds
import PyProof.TupleCall
import PySem.Challenge.RW_sackloads_k05_what_is_no_store
set_option Elab.async false
set_option linter.all false
set_option maxRecDepth 100000
namespace L2
open PySem PySem.Spec PyProof.Rows
abbrev Key := Sum Int Str
def keyIs : Key → Value → Bool
  | .inl k, v => Value.isInt k v
  | .inr x, v => Value.isStrOf x v
def keyH (w : World) : Key → Int
  | .inl k => hashInt k
  | .inr x => hashStr w x
theorem keyIs_shape : ∀ {k : Key} {v : Value}, keyIs k v = true → (∃ i t, k = Sum.inl i ∧ v = Value.int i t) ∨ (∃ x t, k = Sum.inr x ∧ v = Value.str x t)
  | .inl i, v, h => by
    obtain ⟨t, e⟩ := Value.isInt_shape (k := i) (v := v) h
    exact .inl ⟨i, t, rfl, e⟩
  | .inr x, v, h => by
    obtain ⟨t, e⟩ := Value.isStrOf_shape (x := x) (v := v) h
    exact .inr ⟨x, t, rfl, e⟩
theorem key_ll (a b : Int) : decide ((Sum.inl a : Key) = Sum.inl b) = (a == b) := by
  by_cases e : a = b
  · subst e; simp
  · have h : ¬ (Sum.inl a : Key) = Sum.inl b := fun q => e (Sum.inl.inj q)
    rw [decide_eq_false h]
    exact (beq_eq_false_iff_ne.mpr e).symm
theorem key_rr (a b : Str) : decide ((Sum.inr a : Key) = Sum.inr b) = decide (a = b) := by
  by_cases e : a = b
  · subst e; simp
  · have h : ¬ (Sum.inr a : Key) = Sum.inr b := fun q => e (Sum.inr.inj q)
    rw [decide_eq_false h, decide_eq_false e]
theorem key_lr (a : Int) (b : Str) : decide ((Sum.inl a : Key) = Sum.inr b) = false := decide_eq_false (fun q => nomatch q)
theorem key_rl (a : Str) (b : Int) : decide ((Sum.inr a : Key) = Sum.inl b) = false := decide_eq_false (fun q => nomatch q)
def mixKind (prog : Program) (w : World) : PySem.KeyKind prog w Key where
  is := keyIs
  hash := keyH w
  inj := fun v a b ha hb => by
    rcases keyIs_shape ha with ⟨i, t, rfl, rfl⟩ | ⟨x, t, rfl, rfl⟩
    · rcases keyIs_shape hb with ⟨j, u, rfl, e⟩ | ⟨y, u, rfl, e⟩
      · injection e with e1 _; rw [e1]
      · exact nomatch e
    · rcases keyIs_shape hb with ⟨j, u, rfl, e⟩ | ⟨y, u, rfl, e⟩
      · exact nomatch e
      · injection e with e1 _; rw [e1]
  byValue := fun k v h => by
    rcases keyIs_shape h with ⟨i, t, rfl, rfl⟩ | ⟨x, t, rfl, rfl⟩ <;> rfl
  pyHash := fun hv h => by
    rcases keyIs_shape hv with ⟨i, t, rfl, rfl⟩ | ⟨x, t, rfl, rfl⟩
    · exact wpAny_pyHash_int h
    · exact wpAny_pyHash_str h
  eqBool := fun hu hv h => by
    rcases keyIs_shape hu with ⟨i, t, rfl, rfl⟩ | ⟨x, t, rfl, rfl⟩
    · rcases keyIs_shape hv with ⟨j, u, rfl, rfl⟩ | ⟨y, u, rfl, rfl⟩
      · rw [key_ll] at h; exact wpAny_eqBool_int h
      · rw [key_lr] at h; exact SeqAt.EqAt.int_str i t y u _ _ _ _ h
    · rcases keyIs_shape hv with ⟨j, u, rfl, rfl⟩ | ⟨y, u, rfl, rfl⟩
      · rw [key_rl] at h; exact SeqAt.EqAt.str_int x t j u _ _ _ _ h
      · rw [key_rr] at h; exact wpAny_eqBool_str h
  «strs» := fun k x t v h => by
    rcases keyIs_shape h with ⟨i, u, rfl, e⟩ | ⟨y, u, rfl, e⟩
    · exact nomatch e
    · injection e with e1 _
      subst e1
      cases v <;> rfl
end L2
namespace L2
open PySem PySem.Spec PyProof.Rows
inductive V where
  | non | bl (b : Bool) | int (i : Int) | str (x : Str) | byt (b : Array UInt8) | flt (b : UInt64) | ref (a : Addr) | ty (n : String)
  deriving DecidableEq
def RelV : V → Value → Prop
  | .non, u => u = Value.none
  | .bl b, u => u = Value.bool b
  | .int i, u => ∃ t, u = Value.int i t
  | .str x, u => ∃ t, u = Value.str x t
  | .byt b, u => ∃ t, u = Value.bytes b t
  | .flt b, u => ∃ t, u = Value.float b t
  | .ref a, u => u = Value.ref a
  | .ty n, u => u = Value.type n
abbrev Vals : List V → List Value → Prop := Paired RelV
theorem Vals.length {xs : List V} {us : List Value} (r : Vals xs us) : xs.length = us.length := Paired.length r
theorem Vals.get : ∀ {xs : List V} {us : List Value} {i : Nat} {x : V}, Vals xs us → xs[i]? = some x → ∃ u, us[i]? = some u ∧ RelV x u
  | _, _, _, _, .nil, e => by simp at e
  | _, _, 0, _, .cons r _, e => by simp at e; subst e; exact ⟨_, rfl, r⟩
  | _, _, i + 1, x, .cons _ t, e => by
    obtain ⟨u, h1, h2⟩ := Vals.get (i := i) (x := x) t (by simpa using e)
    exact ⟨u, by simpa using h1, h2⟩
theorem Vals.set {x : V} {u : Value} (r : RelV x u) : ∀ {xs : List V} {us : List Value} (i : Nat), Vals xs us → Vals (xs.set i x) (us.set i u)
  | _, _, _, .nil => .nil
  | _, _, 0, .cons _ t => .cons r t
  | _, _, i + 1, .cons q t => .cons q (Vals.set r i t)
theorem Vals.append : ∀ {xs ys : List V} {us ws : List Value}, Vals xs us → Vals ys ws → Vals (xs ++ ys) (us ++ ws)
  | _, _, _, _, .nil, s => s
  | _, _, _, _, .cons r t, s => .cons r (Vals.append t s)
theorem Vals.take : ∀ {xs : List V} {us : List Value} (n : Nat), Vals xs us → Vals (xs.take n) (us.take n)
  | _, _, 0, _ => .nil
  | _, _, _ + 1, .nil => .nil
  | _, _, n + 1, .cons r t => .cons r (Vals.take n t)
theorem Vals.drop : ∀ {xs : List V} {us : List Value} (n : Nat), Vals xs us → Vals (xs.drop n) (us.drop n)
  | _, _, 0, r => r
  | _, _, _ + 1, .nil => .nil
  | _, _, n + 1, .cons _ t => Vals.drop n t
def RelO : Option V → Option Value → Prop
  | some v, some u => RelV v u
  | none, none => True
  | _, _ => False
def KV {κ : Type} : List (κ × V) → List (κ × Value) → Prop := Paired fun (p : κ × V) (q : κ × Value) => p.1 = q.1 ∧ RelV p.2 q.2
def kV : Key → V
  | .inl i => .int i
  | .inr x => .str x
inductive HO where
  /-- a list -/
  | lst (xs : List V)
  /-- a tuple (never changes) -/
  | tup (xs : List V)
  /-- a dict whose keys are ints and texts; one whose keys are tuples of ints and texts (the empty one is both) -/
  | dK (kvs : List (Key × V)) | dT (kvs : List (List Key × V))
  /-- a set of ints: its members, its size -/
  | set (S : Int → Bool) (n : Nat)
  /-- an instance of the class at C, its dict at dx, its attributes -/
  | ins (C dx : Addr) (fs : List (Str × V))
  /-- the dict of the instance at x -/
  | own (x : Addr)
  /-- the dict of an exception -/
  | xd (fs : List (Str × V))
  /-- a bound method, f of x -/
  | met (f x : Addr)
  /-- a range object lo, lo + 1, .. below hi -/
  | rng (lo hi : Int)
  /-- a thing that is known to the object (the script; a dict while a loop walks it): read, never written while it is so -/
  | frz (o : Obj) (u : HO)
  /-- a code object's table -/
  | tbl (ps : Array Value)
  /-- any other thing, by what is true of its one object (a def of one's own: SetO a S n := HO.ext fun h => ..) -/
  | ext (φ : Heap → Prop)
abbrev Hp := Addr → Option HO
def upd (H : Hp) (a : Addr) (o : HO) : Hp := fun b => if b = a then some o else H b
theorem upd_same {H : Hp} {a : Addr} {o : HO} : upd H a o a = some o := by unfold upd; rw [if_pos rfl]
theorem upd_ne {H : Hp} {a b : Addr} {o : HO} (h : b ≠ a) : upd H a o b = H b := by unfold upd; rw [if_neg h]
theorem ne_of {H : Hp} {a b : Addr} {o u : HO} (h : H a = some o) (h' : H b = some u) (d : o ≠ u) : a ≠ b := by
  intro e; subst e; rw [h] at h'; exact d (Option.some.inj h')
theorem ne_of_none {H : Hp} {a b : Addr} {o : HO} (h : H a = some o) (h' : H b = none) : a ≠ b := by
  intro e; subst e; rw [h] at h'; cases h'
section
variable (P : Program) (w : World)
def ObjOk (H : Hp) (h : Heap) (a : Addr) : HO → Prop
  | .lst xs => xs.length ≤ sizeLine ∧ ∃ (its : List Value) (n : Nat), Vals xs its ∧ h.get? a = some { cls := .type "list", data := .seq its.toArray n }
  | .tup xs => xs.length ≤ sizeLine ∧ ∃ its : List Value, Vals xs its ∧ IsTup h a its.toArray
  | .dK kvs => kvs.length ≤ sizeLine ∧ (a == sysModules) = false ∧ ∃ vs, KV kvs vs ∧ h.DictOf (mixKind P w) a vs
  | .dT kvs => kvs.length ≤ sizeLine ∧ (a == sysModules) = false ∧ ∃ xs : List (List Key × Addr × Value),
      Paired (fun (p : List Key × V) (q : List Key × Addr × Value) => p.1 = q.1 ∧ H q.2.1 = some (.tup (p.1.map kV)) ∧ RelV p.2 q.2.2) kvs xs ∧
      ∃ o es ep, h.get? a = some o ∧ o.ExactDict ∧ o.data = .dict es ep ∧ es.toList = xs.map (entryOfKey (tupleKind (mixKind P w))) ∧ (xs.map (·.1)).Nodup
  | .set S n => h.SetOf (intKind P w) a S n
  | .ins C dx fs => H dx = some (.own a) ∧ fs.length ≤ 1000 ∧ dx ≠ a ∧ h.get? a = some (PySem.W.instObj C dx) ∧
      ∃ mA, h.Ns1 dx mA ∧ (∀ f, RelO (fs.lookup f) (mA f)) ∧ PySem.Within mA (fs.map (·.1))
  | .own _ => ∃ o, h.get? a = some o
  | .xd fs => ∃ mA, h.Ns1 a mA ∧ ∀ f, RelO (fs.lookup f) (mA f)
  | .rng lo hi => ∃ t u v, h.get? a = some { cls := .type "range", data := .fields #[.int lo t, .int hi u, .int 1 v] }
  | .frz o u => h.get? a = some o ∧ ObjOk H h a u
  | .tbl ps => h.get? a = some { cls := .none, data := .fields ps }
  | .met f x => h.get? a = some (PySem.W.methodObj (.ref f) (.ref x))
  | .ext φ => φ h ∧ (∃ o, h.get? a = some o) ∧ ∀ h1 h2 : Heap, φ h1 → (∀ o, h1.get? a = some o → h2.get? a = some o) → φ h2
def HOk (H : Hp) (h : Heap) : Prop := ∀ a o, H a = some o → ObjOk P w H h a o
end
section
variable {P : Program} {w : World} {H H' : Hp} {h h' : Heap} {a : Addr} {o : HO}
theorem ObjOk.lt (x : ObjOk P w H h a o) : a < h.objs.size := by
  cases o with
  | lst xs => obtain ⟨_, _, _, _, e⟩ := x; exact Heap.lt_size e
  | tup xs => obtain ⟨_, _, _, p⟩ := x; exact p.lt
  | dK kvs => obtain ⟨_, _, _, _, o, _, _, e, _⟩ := x; exact Heap.lt_size e
  | dT kvs => obtain ⟨_, _, _, _, o, _, _, e, _⟩ := x; exact Heap.lt_size e
  | set S n => obtain ⟨o, _, _, _, e, _⟩ := x; exact Heap.lt_size e
  | ins C dx fs => obtain ⟨_, _, _, e, _⟩ := x; exact Heap.lt_size e
  | own y => obtain ⟨_, e⟩ := x; exact Heap.lt_size e
  | xd fs => obtain ⟨_, ⟨_, _, _, e, _⟩, _⟩ := x; exact Heap.lt_size e
  | rng lo hi => obtain ⟨_, _, _, e⟩ := x; exact Heap.lt_size e
  | frz ob u => obtain ⟨e, _⟩ := x; exact Heap.lt_size e
  | tbl ps => exact Heap.lt_size (show h.get? a = some _ from x)
  | met f y => exact Heap.lt_size (show h.get? a = some _ from x)
  | ext φ => obtain ⟨_, ⟨_, e⟩, _⟩ := x; exact Heap.lt_size e
theorem Paired.mapP {α β : Type} {F G : α → β → Prop} : ∀ {l₁ : List α} {l₂ : List β}, Paired F l₁ l₂ → (∀ a b, F a b → G a b) → Paired G l₁ l₂
  | _, _, .nil, _ => .nil
  | _, _, .cons r t, f => .cons (f _ _ r) (Paired.mapP t f)
theorem ObjOk.stay (x : ObjOk P w H h a o) (k : ∀ b u, (b = a ∨ H b = some (.own a)) → h.get? b = some u → h'.get? b = some u)
    (ho : ∀ b, H b = some (.own a) → H' b = some (.own a)) (ht : ∀ b xs, H b = some (.tup xs) → H' b = some (.tup xs)) : ObjOk P w H' h' a o := by
  induction o with
  | lst xs => obtain ⟨z, its, n, r, e⟩ := x; exact ⟨z, its, n, r, k _ _ (.inl rfl) e⟩
  | tup xs => obtain ⟨z, its, r, ob, e, c⟩ := x; exact ⟨z, its, r, ob, k _ _ (.inl rfl) e, c⟩
  | dK kvs => obtain ⟨z, y, vs, r, ob, es, ep, e, c⟩ := x; exact ⟨z, y, vs, r, ob, es, ep, k _ _ (.inl rfl) e, c⟩
  | dT kvs =>
    obtain ⟨z, y, xs, r, ob, es, ep, e, c⟩ := x
    exact ⟨z, y, xs, Paired.mapP r fun p q z => ⟨z.1, ht _ _ z.2.1, z.2.2⟩, ob, es, ep, k _ _ (.inl rfl) e, c⟩
  | set S n => obtain ⟨ob, es, ep, t, e, c⟩ := x; exact ⟨ob, es, ep, t, k _ _ (.inl rfl) e, c⟩
  | ins C dx fs =>
    obtain ⟨d, z, ne, e, mA, ⟨od, es, ep, e2, c⟩, r⟩ := x
    exact ⟨ho _ d, z, ne, k _ _ (.inl rfl) e, mA, ⟨od, es, ep, k _ _ (.inr d) e2, c⟩, r⟩
  | own y => obtain ⟨ob, e⟩ := x; exact ⟨ob, k _ _ (.inl rfl) e⟩
  | xd fs => obtain ⟨mA, ⟨od, es, ep, e, c⟩, r⟩ := x; exact ⟨mA, ⟨od, es, ep, k _ _ (.inl rfl) e, c⟩, r⟩
  | rng lo hi => obtain ⟨t, u, v, e⟩ := x; exact ⟨t, u, v, k _ _ (.inl rfl) e⟩
  | frz ob u ih => obtain ⟨e, q⟩ := x; exact ⟨k _ _ (.inl rfl) e, ih q⟩
  | tbl ps =>
    have e : h.get? a = some { cls := .none, data := .fields ps } := x
    show h'.get? a = some { cls := .none, data := .fields ps }
    exact k a _ (.inl rfl) e
  | met f y =>
    have e : h.get? a = some (PySem.W.methodObj (.ref f) (.ref y)) := x
    show h'.get? a = some (PySem.W.methodObj (.ref f) (.ref y))
    exact k a _ (.inl rfl) e
  | ext φ => obtain ⟨p, ⟨o, e⟩, st⟩ := x; exact ⟨st _ _ p fun o q => k _ _ (.inl rfl) q, ⟨o, k _ _ (.inl rfl) e⟩, st⟩
theorem HOk.lt (x : HOk P w H h) (e : H a = some o) : a < h.objs.size := (x a o e).lt
theorem HOk.fresh (x : HOk P w H h) (e : h.objs.size ≤ a) : H a = none := by
  cases q : H a with
  | none => rfl
  | some u => exact absurd (Nat.lt_of_lt_of_le (x.lt q) e) (Nat.lt_irrefl _)
theorem HOk.kept (x : HOk P w H h) (k : ∀ b u, h.get? b = some u → h'.get? b = some u) : HOk P w H h' := fun a o e =>
  (x a o e).stay (fun b u _ q => k b u q) (fun _ q => q) fun _ _ q => q
theorem HOk.laid (x : HOk P w H h) (k : ∀ b u, h.get? b = some u → h'.get? b = some u) (hp : h.objs.size ≤ a) (new : ObjOk P w (upd H a o) h' a o) : HOk P w (upd H a o) h' := fun b u e => by
  have hn := x.fresh hp
  by_cases hb : b = a
  · subst hb; rw [upd_same] at e; cases e; exact new
  · rw [upd_ne hb] at e
    exact (x b u e).stay (fun c v _ q => k c v q) (fun c q => by rw [upd_ne (ne_of_none q hn)]; exact q) fun c xs q => by rw [upd_ne (ne_of_none q hn)]; exact q
end
def Rd (H : Hp) (a : Addr) (u : HO) : Prop := H a = some u ∨ ∃ o, H a = some (.frz o u)
theorem Rd.ok {P : Program} {w : World} {H : Hp} {h : Heap} {a : Addr} {u : HO} (r : Rd H a u) (x : HOk P w H h) : ObjOk P w H h a u := by
  rcases r with r | ⟨o, r⟩
  · exact x a u r
  · obtain ⟨_, q⟩ := x a _ r
    exact q
def Mut : Option HO → Prop
  | some (.lst _) => True
  | some (.dK _) => True
  | some (.dT _) => True
  | some (.set _ _) => True
  | some (.ins _ _ _) => True
  | some (.ext _) => True
  | _ => False
section
variable {P : Program} {w : World} {H : Hp} {h h' : Heap} {x e : Addr} {o' : HO}
theorem HOk.write (ok : HOk P w H h) (mu : Mut (H x)) (he : e = x ∨ H e = some (.own x)) (k : ∀ b u, b ≠ e → h.get? b = some u → h'.get? b = some u) (heo : ∃ u, h'.get? e = some u)
    (new : ObjOk P w (upd H x o') h' x o') : HOk P w (upd H x o') h' := fun b u q => by
  have nown : ∀ c y, H c = some (.own y) → c ≠ x := fun c y r z => by subst z; rw [r] at mu; exact mu
  have ntup : ∀ c xs, H c = some (.tup xs) → c ≠ x := fun c xs r z => by subst z; rw [r] at mu; exact mu
  by_cases hb : b = x
  · subst hb; rw [upd_same] at q; cases q; exact new
  · rw [upd_ne hb] at q
    by_cases hbe : b = e
    · have q' : H b = some (.own x) := by
        rcases he with z | z
        · exact absurd (hbe.trans z) hb
        · rw [hbe]; exact z
      rw [q] at q'; cases q'
      obtain ⟨v, hv⟩ := heo
      exact ⟨v, by rw [hbe]; exact hv⟩
    · refine (ok b u q).stay (fun c v hc r => k c v ?_ r) (fun c r => by rw [upd_ne (nown c b r)]; exact r) fun c xs r => by rw [upd_ne (ntup c xs r)]; exact r
      rcases hc with rfl | hc
      · exact hbe
      · rintro rfl
        rcases he with z | z
        · exact nown c b hc z
        · rw [hc] at z; cases z; exact hb rfl
end
structure Un (fs ex : List Addr) (H H' : Hp) (h h' : Heap) : Prop where
  keep : ∀ b o, h.get? b = some o → H b = none → b ∉ fs → b ∉ ex → h'.get? b = some o
  slot : ∀ b o, h.get? b = some o → H b = none → b ∈ fs → b ∉ ex → ∃ sl, h'.get? b = some { o with slots := sl }
  free : ∀ b o, h.get? b = some o → H b = none → b ∉ ex → H' b = none
  there : ∀ b o, h.get? b = some o → b ∉ ex → ∃ o', h'.get? b = some o'
  tups : ∀ b xs, H b = some (.tup xs) → H' b = some (.tup xs)
  frzs : ∀ b o u, H b = some (.frz o u) → H' b = some (.frz o u)
  tbls : ∀ b ps, H b = some (.tbl ps) → ∃ more, H' b = some (.tbl (ps ++ more))
section
variable {fs fs' ex ex' : List Addr} {H H1 H2 : Hp} {h h1 h2 h' : Heap} {a x e : Addr} {o : HO}
theorem Un.any (u : Un fs ex H H1 h h1) {b : Addr} {ob : Obj} (q : h.get? b = some ob) (n : H b = none) (hx : b ∉ ex) : ∃ sl, h1.get? b = some { ob with slots := sl } := by
  by_cases hb : b ∈ fs
  · exact u.slot b ob q n hb hx
  · exact ⟨ob.slots, u.keep b ob q n hb hx⟩
theorem Un.trans (a : Un fs ex H H1 h h1) (b : Un fs ex H1 H2 h1 h2) : Un fs ex H H2 h h2 where
  keep := fun c ob q n hc hx => b.keep c ob (a.keep c ob q n hc hx) (a.free c ob q n hx) hc hx
  slot := fun c ob q n hc hx => by
    obtain ⟨sl, e1⟩ := a.slot c ob q n hc hx
    obtain ⟨sl', e2⟩ := b.slot c _ e1 (a.free c ob q n hx) hc hx
    exact ⟨sl', e2⟩
  free := fun c ob q n hx => by
    obtain ⟨o', e1⟩ := a.there c ob q hx
    exact b.free c o' e1 (a.free c ob q n hx) hx
  there := fun c ob q hx => by
    obtain ⟨o', e1⟩ := a.there c ob q hx
    exact b.there c o' e1 hx
  tups := fun c xs q => b.tups c xs (a.tups c xs q)
  frzs := fun c ob xs q => b.frzs c ob xs (a.frzs c ob xs q)
  tbls := fun c ps q => by
    obtain ⟨m1, e1⟩ := a.tbls c ps q
    obtain ⟨m2, e2⟩ := b.tbls c _ e1
    exact ⟨m1 ++ m2, by rw [e2, Array.append_assoc]⟩
theorem Un.kept (k : ∀ b u, h.get? b = some u → h'.get? b = some u) : Un fs ex H H h h' :=
  ⟨fun b ob q _ _ _ => k b ob q, fun b ob q _ _ _ => ⟨ob.slots, k b ob q⟩, fun _ _ _ n _ => n, fun b ob q _ => ⟨ob, k b ob q⟩, fun _ _ q => q, fun _ _ _ q => q, fun _ ps q => ⟨#[], by rw [q]; simp⟩⟩
theorem Un.refl : Un fs ex H H h h := Un.kept fun _ _ q => q
theorem Un.laid (k : ∀ b u, h.get? b = some u → h'.get? b = some u) (hp : h.objs.size ≤ a) (hn : H a = none) : Un fs ex H (upd H a o) h h' where
  keep := fun b u q _ _ _ => k b u q
  slot := fun b u q _ _ _ => ⟨u.slots, k b u q⟩
  free := fun b u q n _ => by rw [upd_ne (Nat.ne_of_lt (Nat.lt_of_lt_of_le (Heap.lt_size q) hp))]; exact n
  there := fun b u q _ => ⟨u, k b u q⟩
  tups := fun b xs q => by rw [upd_ne (ne_of_none q hn)]; exact q
  frzs := fun b u xs q => by rw [upd_ne (ne_of_none q hn)]; exact q
  tbls := fun b ps q => ⟨#[], by rw [upd_ne (ne_of_none q hn), q]; simp⟩
theorem Un.write (mu : Mut (H x)) (he : e = x ∨ H e = some (.own x)) (k : ∀ b u, b ≠ e → h.get? b = some u → h'.get? b = some u) (heo : ∃ u, h'.get? e = some u) : Un fs ex H (upd H x o) h h' := by
  have hx : ∀ b, H b = none → b ≠ x := fun b n z => by subst z; rw [n] at mu; exact mu
  have hb : ∀ b, H b = none → b ≠ e := fun b n z => by
    subst z
    rcases he with r | r
    · exact hx b n r
    · rw [n] at r; cases r
  have hm : ∀ b u, H b = some u → ¬ Mut (some u) → b ≠ x := fun b u q nm z => by subst z; rw [q] at mu; exact nm mu
  refine ⟨fun b u q n _ _ => k b u (hb b n) q, fun b u q n _ _ => ⟨u.slots, k b u (hb b n) q⟩, fun b u q n _ => by rw [upd_ne (hx b n)]; exact n, fun b u q _ => ?_,
    fun b xs q => by rw [upd_ne (hm b _ q fun z => z)]; exact q, fun b u xs q => by rw [upd_ne (hm b _ q fun z => z)]; exact q, fun b ps q => ⟨#[], by rw [upd_ne (hm b _ q fun z => z), q]; simp⟩⟩
  by_cases hbe : b = e
  · subst hbe; exact heo
  · exact ⟨u, k b u hbe q⟩
end
def trk (h : Heap) (H : Hp) : List Addr := (List.range h.objs.size).filter fun a => (H a).isSome
def hidT (h : Heap) (H : Hp) : Heap := PySem.W.hideAll h (trk h H)
theorem hidT_size (h : Heap) (H : Hp) : (hidT h H).objs.size = h.objs.size := PySem.W.hideAll_size _ _
theorem hidT_get {h : Heap} {H : Hp} {b : Addr} {o : Obj} (e : h.get? b = some o) (n : H b = none) : (hidT h H).get? b = some o :=
  PySem.W.hideAll_get _ e fun hm => by
    have q : (H b).isSome = true := (List.mem_filter.mp hm).2
    rw [n] at q; simp at q
theorem of_hidT {h : Heap} {H : Hp} {b : Addr} {o : Obj} (e : (hidT h H).get? b = some o) : h.get? b = some o ∧ H b = none := by
  have e' : h.get? b = some o := PySem.W.of_hideAll (trk h H) e
  refine ⟨e', ?_⟩
  cases q : H b with
  | none => rfl
  | some x =>
    have hm : b ∈ trk h H := List.mem_filter.mpr ⟨List.mem_range.mpr (Heap.lt_size e'), by simp [q]⟩
    have z : (hidT h H).get? b = none := PySem.W.hideAll_none (trk h H) hm
    rw [z] at e; cases e
def allNews (g h : Heap) (L : Addr) : List (Addr × Obj) := (List.range h.objs.size).filterMap fun a => if a = L ∨ (g.get? a).isSome = true then none else (h.get? a).map fun o => (a, o)
def rest (g h : Heap) (L d : Addr) : List (Addr × Obj) := (allNews g h L).filter fun p => decide (p.1 ≠ d)
end L2
namespace L2
open PySem PySem.Spec PyProof.Rows
structure Mod (K : PySem.W.Frag) (mg : Str → Option Value) (base : Heap) : Prop where
  kin : K.In base
  glob : base.Ns mainGlobals mg
  blt : ∃ mb, base.Ns builtinsNs mb ∧ ∀ x : Str, x ≠ "__name__" → mb x = bootBuiltins x
  nolimit : base.NoLimit
/-- the context: a def's body (or a comprehension's block) running. base: fixed through the whole law; s₀, H₀: the entry; outer: the frames whose slots others may change (a def's callers); stack: all frames that run;
   ex: iterators that were made ahead of the entry and are walked here (a comprehension's); fn: the names whose cells were made at the entry (a def: all; a comprehension's block: its own); calm: not within an except suite; pn: pins that every state bears; xe: what is wanted of an exception that leaves the code -/
structure Cx where
  prog : Program
  w : World
  K : PySem.W.Frag
  mg : Str → Option Value
  base : Heap
  A : Around
  N : List Str
  s₀ : Shared
  H₀ : Hp
  env : Env
  outer : List Env
  stack : List Env
  ex : List Addr
  fn : Str → Bool
  calm : Bool
  pn : List (Addr × Obj)
  xe : Value → Shared → Prop
def frs (l : List Env) : List Addr := l.filterMap (·.frame)
abbrev Cx.fs (X : Cx) : List Addr := frs X.outer
def Vis (sc : Scope) (x : Str) : Prop := sc.names.lookup x = some .local ∨ sc.names.lookup x = some .cell ∨ sc.names.lookup x = some .free
def Loc (sc : Scope) (x : Str) : Prop := sc.names.lookup x = some .local ∨ sc.names.lookup x = some .cell
def Look (env : Env) (h : Heap) (m : Str → Option Value) (x : Str) (u : Value) : Prop :=
  (env.kindOf x = some .local ∧ m x = some u) ∨ ((env.kindOf x = some .cell ∨ env.kindOf x = some .free) ∧ ∃ c, env.cells.lookup x = some c ∧ h.IsCell c (some u))
structure Cx.Ok (X : Cx) : Prop where
  mod : Mod X.K X.mg X.base
  kind : X.env.scope.kind = .function
  glob : X.env.globals = mainGlobals
  blt : X.env.builtins = builtinsNs
  above : X.s₀.heap.objs.size ≤ X.env.locals
  inj : ∀ x y c, X.env.cells.lookup x = some c → X.env.cells.lookup y = some c → x = y
  has : ∀ x, (X.env.kindOf x = some .cell ∨ X.env.kindOf x = some .free) → ∃ c, X.env.cells.lookup x = some c
  cab : ∀ x c, X.fn x = true → X.env.cells.lookup x = some c → X.s₀.heap.objs.size ≤ c
  hd : X.calm = true → X.A.handled = none
  frames : X.A.frames = some X.stack
  stk : X.stack = X.outer ∨ (X.stack = X.env :: X.outer ∧ X.env.frame = some X.env.locals)
  exf : ∀ b ∈ X.ex, b ≠ X.env.locals ∧ ∀ x c, X.env.cells.lookup x = some c → c ≠ b
  bs : ∀ b o, X.base.get? b = some o → X.s₀.heap.get? b = some o ∧ X.H₀ b = none
  bsz : X.base.objs.size ≤ X.s₀.heap.objs.size
  noex : ∀ b o, X.base.get? b = some o → b ∉ X.ex
  exfs : ∀ b ∈ X.ex, b ∉ X.fs
  funs : X.s₀.heap.FunFrames X.base X.outer
  frf : ∀ b ∈ X.fs, X.H₀ b = none
structure Inv (X : Cx) (pins : List (Addr × Obj)) (σ : List (Option V)) (H : Hp) (s : Shared) : Prop where
  ok : X.Ok
  os : s.os = X.s₀.os
  bare : AllBare s.gens
  base : Un X.fs X.ex X.H₀ H X.s₀.heap s.heap
  loc : ∃ m, s.heap.Ns X.env.locals m ∧ ∀ (i : Nat) (x : Str) (v : V), X.N[i]? = some x → σ[i]? = some (some v) → Vis X.env.scope x → ∃ u, RelV v u ∧ Look X.env s.heap m x u
  cell : ∀ x c, X.env.cells.lookup x = some c → ∃ v, s.heap.IsCell c v
  free : H X.env.locals = none
  freeC : ∀ x c, X.env.cells.lookup x = some c → H c = none
  pin : ∀ p ∈ X.pn ++ pins, s.heap.get? p.1 = some p.2 ∧ H p.1 = none ∧ p.1 ≠ X.env.locals ∧ p.1 ∉ X.fs ∧ ∀ v, p.2.data ≠ .cell v
  hok : HOk X.prog X.w H s.heap
  len : σ.length = X.N.length
section
variable {X : Cx} {pins : List (Addr × Obj)} {σ : List (Option V)} {H H' : Hp} {s : Shared} {h' : Heap}
theorem Cx.Ok.nofr (ok : X.Ok) {b : Addr} {o : Obj} (e : X.base.get? b = some o) : b ∉ X.fs := fun hb => by
  have := (ok.funs.mem hb).1
  rw [e] at this; cases this
theorem Inv.bs (I : Inv X pins σ H s) : ∀ b o, X.base.get? b = some o → s.heap.get? b = some o ∧ H b = none := fun b o e =>
  ⟨I.base.keep b o (I.ok.bs b o e).1 (I.ok.bs b o e).2 (I.ok.nofr e) (I.ok.noex b o e), I.base.free b o (I.ok.bs b o e).1 (I.ok.bs b o e).2 (I.ok.noex b o e)⟩
theorem Inv.bk (I : Inv X pins σ H s) : ∀ b o, X.base.get? b = some o → s.heap.get? b = some o := fun b o e => (I.bs b o e).1
theorem Inv.mod (I : Inv X pins σ H s) : Mod X.K X.mg X.base := I.ok.mod
theorem Inv.kIn (I : Inv X pins σ H s) : X.K.In s.heap := I.ok.mod.kin.keeps I.bk
theorem Inv.lt (I : Inv X pins σ H s) : X.env.locals < s.heap.objs.size := let ⟨_, hn, _⟩ := I.loc; hn.lt
theorem Inv.sz (I : Inv X pins σ H s) : X.s₀.heap.objs.size ≤ s.heap.objs.size := Nat.le_trans I.ok.above (Nat.le_of_lt I.lt)
theorem Inv.nofs (I : Inv X pins σ H s) {a : Addr} (h : s.heap.objs.size ≤ a) : a ∉ X.fs := fun hb => by
  obtain ⟨_, o, ho, _⟩ := I.ok.funs.mem hb
  exact absurd (Nat.lt_of_lt_of_le (Heap.lt_size ho) (Nat.le_trans I.sz h)) (Nat.lt_irrefl _)
theorem Inv.cne (I : Inv X pins σ H s) : ∀ x c, X.env.cells.lookup x = some c → c ≠ X.env.locals := fun x c e z => by
  obtain ⟨v, o, ho, hd⟩ := I.cell x c e
  obtain ⟨m, ⟨o', es, ep, ho', hd', _⟩, _⟩ := I.loc
  rw [z, ho'] at ho; cases ho; rw [hd'] at hd; cases hd
theorem Inv.funs (I : Inv X pins σ H s) : s.heap.FunFrames X.base X.outer := by
  have all : ∀ (l : List Env), (∀ b ∈ frs l, b ∈ X.fs) → X.s₀.heap.FunFrames X.base l → s.heap.FunFrames X.base l := by
    intro l
    induction l with
    | nil => intro _ _; trivial
    | cons env r ih =>
      intro hs hl
      obtain ⟨hk, ⟨L, o, hf, hn, ho, hd⟩, hr⟩ := hl
      have hL : L ∈ X.fs := hs L (by unfold frs; rw [List.filterMap_cons, hf]; exact List.mem_cons_self)
      obtain ⟨sl, e⟩ := I.base.slot L o ho (I.ok.frf L hL) hL fun z => I.ok.exfs L z hL
      exact ⟨hk, ⟨L, _, hf, hn, e, hd⟩, ih (fun b hb => hs b (by unfold frs; rw [List.filterMap_cons, hf]; exact List.mem_cons_of_mem _ hb)) hr⟩
  exact all X.outer (fun _ hb => hb) I.ok.funs
theorem Inv.stack (I : Inv X pins σ H s) : s.heap.FunFrames X.base X.stack := by
  rcases I.ok.stk with e | ⟨e, hf⟩
  · rw [e]; exact I.funs
  · rw [e]
    obtain ⟨m, hn, _⟩ := I.loc
    refine .cons (by rw [I.ok.kind]; decide) hf hn ?_ I.funs
    exact Heap.get?_none_of_le (Nat.le_trans I.ok.bsz I.ok.above)
theorem Inv.stkSub (I : Inv X pins σ H s) : ∀ b ∈ frs X.stack, b ∈ X.env.locals :: X.fs := fun b hb => by
  rcases I.ok.stk with e | ⟨e, hf⟩
  · rw [e] at hb; exact List.mem_cons_of_mem _ hb
  · rw [e] at hb
    unfold frs at hb
    rw [List.filterMap_cons, hf] at hb
    exact hb
theorem Inv.stkFree (I : Inv X pins σ H s) : ∀ b ∈ frs X.stack, H b = none := fun b hb => by
  rcases List.mem_cons.mp (I.stkSub b hb) with e | hb
  · rw [e]; exact I.free
  · obtain ⟨_, o, ho, _⟩ := I.ok.funs.mem hb
    exact I.base.free b o ho (I.ok.frf b hb) fun z => I.ok.exfs b z hb
theorem Inv.step {g' : Array GenState} {t' : Nat} {d' : Drawn} {ch : List Addr} (I : Inv X pins σ H s)
    (hch : ∀ b ∈ ch, (b ∈ X.ex ∨ X.s₀.heap.objs.size ≤ b) ∧ b ≠ X.env.locals ∧ (∀ x c, X.env.cells.lookup x = some c → c ≠ b) ∧ ∀ p ∈ X.pn ++ pins, p.1 ≠ b)
    (keep : ∀ b o, b ≠ X.env.locals → b ∉ X.fs → b ∉ ch → s.heap.get? b = some o → H b = none → h'.get? b = some o)
    (slot : ∀ b o, b ≠ X.env.locals → b ∈ X.fs → b ∉ ch → s.heap.get? b = some o → H b = none → ∃ sl, h'.get? b = some { o with slots := sl }) (free : ∀ b o, b ∉ ch → s.heap.get? b = some o → H b = none → H' b = none)
    (there : ∀ b o, b ∉ ch → s.heap.get? b = some o → ∃ o', h'.get? b = some o')
    (tups : ∀ b xs, H b = some (.tup xs) → H' b = some (.tup xs)) (frzs : ∀ b o u, H b = some (.frz o u) → H' b = some (.frz o u)) (tbls : ∀ b ps, H b = some (.tbl ps) → ∃ more, H' b = some (.tbl (ps ++ more)))
    (ns : ∀ m, s.heap.Ns X.env.locals m → h'.Ns X.env.locals m) (hok : HOk X.prog X.w H' h') (hg : AllBare g') :
    Inv X pins σ H' { s with heap := h', gens := g', drawn := d', toks := t' } := by
  have neL : ∀ b o, X.s₀.heap.get? b = some o → b ≠ X.env.locals := fun b o e => Nat.ne_of_lt (Nat.lt_of_lt_of_le (Heap.lt_size e) I.ok.above)
  have neC : ∀ b o, X.s₀.heap.get? b = some o → b ∉ X.ex → b ∉ ch := fun b o e hx hb => by
    rcases (hch b hb).1 with z | z
    · exact hx z
    · exact absurd (Nat.lt_of_lt_of_le (Heap.lt_size e) z) (Nat.lt_irrefl _)
  have cellK : ∀ x c, X.env.cells.lookup x = some c → ∀ v, s.heap.IsCell c v → h'.IsCell c v := fun x c e v ⟨o, ho, hd⟩ => by
    have nch : c ∉ ch := fun z => (hch c z).2.2.1 x c e rfl
    by_cases hc : c ∈ X.fs
    · obtain ⟨sl, q⟩ := slot c o (I.cne x c e) hc nch ho (I.freeC x c e)
      exact ⟨_, q, hd⟩
    · exact ⟨o, keep c o (I.cne x c e) hc nch ho (I.freeC x c e), hd⟩
  refine ⟨I.ok, I.os, hg, ⟨fun b o e n hb hx => ?_, fun b o e n hb hx => ?_, fun b o e n hx => ?_, fun b o e hx => ?_, fun b xs e => tups b xs (I.base.tups b xs e), fun b o xs e => frzs b o xs (I.base.frzs b o xs e), fun b ps e => ?_⟩, ?_, fun x c e => ?_, ?_, fun x c e => ?_, fun p hp => ?_, hok, I.len⟩
  · exact keep b o (neL b o e) hb (neC b o e hx) (I.base.keep b o e n hb hx) (I.base.free b o e n hx)
  · obtain ⟨sl, e1⟩ := I.base.slot b o e n hb hx
    obtain ⟨sl', e2⟩ := slot b _ (neL b o e) hb (neC b o e hx) e1 (I.base.free b o e n hx)
    exact ⟨sl', e2⟩
  · obtain ⟨o', e1⟩ := I.base.there b o e hx
    exact free b o' (neC b o e hx) e1 (I.base.free b o e n hx)
  · obtain ⟨o', e1⟩ := I.base.there b o e hx
    exact there b o' (neC b o e hx) e1
  · obtain ⟨m1, e1⟩ := I.base.tbls b ps e
    obtain ⟨m2, e2⟩ := tbls b _ e1
    exact ⟨m1 ++ m2, by rw [e2, Array.append_assoc]⟩
  · obtain ⟨m, hn, hl⟩ := I.loc
    refine ⟨m, ns m hn, fun i x v e1 e2 e3 => ?_⟩
    obtain ⟨u, r, l⟩ := hl i x v e1 e2 e3
    refine ⟨u, r, ?_⟩
    rcases l with l | ⟨k, c, e, z⟩
    · exact .inl l
    · exact .inr ⟨k, c, e, cellK x c e _ z⟩
  · obtain ⟨v, z⟩ := I.cell x c e
    exact ⟨v, cellK x c e v z⟩
  · obtain ⟨m, ⟨o, _, _, ho, _⟩, _⟩ := I.loc
    exact free _ o (fun z => (hch _ z).2.1 rfl) ho I.free
  · obtain ⟨v, o, ho, hd⟩ := I.cell x c e
    exact free c o (fun z => (hch c z).2.2.1 x c e rfl) ho (I.freeC x c e)
  · obtain ⟨e, n, ne, nf, d⟩ := I.pin p hp
    have nch : p.1 ∉ ch := fun z => (hch p.1 z).2.2.2 p hp rfl
    exact ⟨keep p.1 p.2 ne nf nch e n, free p.1 p.2 nch e n, ne, nf, d⟩
theorem Inv.un {t' : Nat} (I : Inv X pins σ H s) (u : Un X.fs [] H H' s.heap h') (hok : HOk X.prog X.w H' h') : Inv X pins σ H' { s with heap := h', toks := t' } := by
  obtain ⟨m, ⟨o, es, ep, ho, r⟩, _⟩ := id I.loc
  obtain ⟨sl, hL⟩ := u.any ho I.free (by simp)
  exact I.step (g' := s.gens) (d' := s.drawn) (ch := []) (fun _ z => nomatch z) (fun b o _ hb _ e n => u.keep b o e n hb (by simp)) (fun b o _ hb _ e n => u.slot b o e n hb (by simp)) (fun b o _ e n => u.free b o e n (by simp)) (fun b o _ e => u.there b o e (by simp)) u.tups u.frzs u.tbls (fun m' hm => by
    obtain ⟨o', es', ep', ho', r'⟩ := hm
    rw [ho] at ho'; cases ho'
    exact ⟨_, es', ep', hL, r'⟩) hok I.bare
theorem Inv.call {g' : Array GenState} {t' : Nat} {d' : Drawn} {ch : List Addr} (I : Inv X pins σ H s) (u : Un (frs X.stack) ch H H' s.heap h') (hok : HOk X.prog X.w H' h') (hg : AllBare g')
    (hch : ∀ b ∈ ch, (b ∈ X.ex ∨ X.s₀.heap.objs.size ≤ b) ∧ b ≠ X.env.locals ∧ (∀ x c, X.env.cells.lookup x = some c → c ≠ b) ∧ ∀ p ∈ X.pn ++ pins, p.1 ≠ b) :
    Inv X pins σ H' { s with heap := h', gens := g', drawn := d', toks := t' } := by
  obtain ⟨m, ⟨o, es, ep, ho, r⟩, _⟩ := id I.loc
  obtain ⟨sl, hL⟩ := u.any ho I.free fun z => (hch _ z).2.1 rfl
  exact I.step (ch := ch) hch (fun b o hL hb hc e n => u.keep b o e n (fun z => (List.mem_cons.mp (I.stkSub b z)).elim hL hb) hc) (fun b o _ _ hc e n => u.any e n hc) (fun b o hc e n => u.free b o e n hc) (fun b o hc e => u.there b o e hc) u.tups u.frzs u.tbls (fun m' hm => by
    obtain ⟨o', es', ep', ho', r'⟩ := hm
    rw [ho] at ho'; cases ho'
    exact ⟨_, es', ep', hL, r'⟩) hok hg
theorem Inv.turned {t' : Nat} {it : Addr} (I : Inv X pins σ H s) (k : ∀ b o, b ≠ it → s.heap.get? b = some o → h'.get? b = some o) (hn : H it = none) (hL : it ≠ X.env.locals)
    (h1 : it ∈ X.ex ∨ X.s₀.heap.objs.size ≤ it) (h2 : ∀ x c, X.env.cells.lookup x = some c → c ≠ it) (h3 : ∀ p ∈ X.pn ++ pins, p.1 ≠ it) : Inv X pins σ H { s with heap := h', toks := t' } := by
  have nit : ∀ b u, H b = some u → b ≠ it := fun b u e z => by rw [z, hn] at e; cases e
  refine I.step (g' := s.gens) (d' := s.drawn) (ch := [it]) (fun b hb => ?_) (fun b o _ _ hc e _ => k b o (fun z => hc (by simp [z])) e) (fun b o _ _ hc e _ => ⟨o.slots, k b o (fun z => hc (by simp [z])) e⟩) (fun _ _ _ _ n => n)
    (fun b o hc e => ⟨o, k b o (fun z => hc (by simp [z])) e⟩) (fun _ _ e => e) (fun _ _ _ e => e) (fun b ps e => ⟨#[], by rw [e]; simp⟩) (fun m hm => ?_) (fun b u e => ?_) I.bare
  · have e : b = it := by simpa using hb
    subst e
    exact ⟨h1, hL, h2, h3⟩
  · obtain ⟨o, es, ep, ho, r⟩ := hm
    exact ⟨o, es, ep, k _ o (Ne.symm hL) ho, r⟩
  · refine (I.hok b u e).stay (fun c v hc q => k c v ?_ q) (fun _ q => q) fun _ _ q => q
    rcases hc with z | z
    · rw [z]; exact nit b u e
    · exact nit c _ z
theorem Inv.tok (I : Inv X pins σ H s) (t : Nat) : Inv X pins σ H { s with toks := t } := I.un (h' := s.heap) (t' := t) Un.refl I.hok
theorem Inv.kept {t' : Nat} (I : Inv X pins σ H s) (k : ∀ b u, s.heap.get? b = some u → h'.get? b = some u) : Inv X pins σ H { s with heap := h', toks := t' } := I.un (Un.kept k) (I.hok.kept k)
theorem Inv.laid {a : Addr} {o : HO} {t' : Nat} (I : Inv X pins σ H s) (k : ∀ b u, s.heap.get? b = some u → h'.get? b = some u) (hp : s.heap.objs.size ≤ a) (new : ObjOk X.prog X.w (upd H a o) h' a o) :
    Inv X pins σ (upd H a o) { s with heap := h', toks := t' } := I.un (Un.laid k hp (I.hok.fresh hp)) (I.hok.laid k hp new)
theorem Inv.write {x e : Addr} {o : HO} {t' : Nat} (I : Inv X pins σ H s) (mu : Mut (H x)) (he : e = x ∨ H e = some (.own x)) (k : ∀ b u, b ≠ e → s.heap.get? b = some u → h'.get? b = some u) (heo : ∃ u, h'.get? e = some u)
    (new : ObjOk X.prog X.w (upd H x o) h' x o) : Inv X pins σ (upd H x o) { s with heap := h', toks := t' } := I.un (Un.write mu he k heo) (I.hok.write mu he k heo new)
theorem Inv.pins_of {pins' : List (Addr × Obj)} (I : Inv X pins σ H s) (h : ∀ p ∈ pins', s.heap.get? p.1 = some p.2 ∧ H p.1 = none ∧ p.1 ≠ X.env.locals ∧ p.1 ∉ X.fs ∧ ∀ v, p.2.data ≠ .cell v) : Inv X pins' σ H s :=
  ⟨I.ok, I.os, I.bare, I.base, I.loc, I.cell, I.free, I.freeC, fun p hp => (List.mem_append.mp hp).elim (fun z => I.pin p (List.mem_append_left _ z)) (h p), I.hok, I.len⟩
theorem nodup_ix {N : List Str} (hN : N.Nodup) {i j : Nat} {x : Str} (a : N[i]? = some x) (b : N[j]? = some x) : i = j := by
  obtain ⟨h1, e1⟩ := List.getElem?_eq_some_iff.mp a
  obtain ⟨h2, e2⟩ := List.getElem?_eq_some_iff.mp b
  exact (List.getElem_inj hN).mp (e1.trans e2.symm)
theorem store_ok2 {M : Model} {A : Around} {E : Value → Shared → Prop} {i : Nat} {x : Str} {v : V} {u : Value} {Q : Unit → Shared → Prop} (I : Inv X pins σ H s) (hN : X.N.Nodup) (hi : X.N[i]? = some x) (hx : Loc X.env.scope x) (r : RelV v u)
    (h : ∀ s', Inv X pins (σ.set i (some v)) H s' → (∃ a, Heap.SameBut a s.heap s'.heap ∧ (a = X.env.locals ∨ X.env.cells.lookup x = some a)) → Q () s') (hf : X.fn x = true ∨ X.env.scope.names.lookup x = some .local := by first | exact .inl rfl | exact .inr rfl | assumption) : wpAny M A (storeName X.env x u) Q E s := by
  obtain ⟨m, hn, hl⟩ := id I.loc
  have hcls : (X.env.scope.kind == .class || (X.env.scope.kind == .module && X.env.locals != X.env.globals)) = false := by rw [I.ok.kind]; rfl
  have hiσ : i < σ.length := by rw [I.len]; exact (List.getElem?_eq_some_iff.mp hi).1
  have cne := I.cne
  have tracked : ∀ {a : Addr} {h' : Heap}, (∃ o, s.heap.get? a = some o ∧ H a = none) → Heap.SameBut a s.heap h' → HOk X.prog X.w H h' := fun {a h'} ha hs b ob e => by
    obtain ⟨_, _, hfree⟩ := ha
    refine (I.hok b ob e).stay (fun c w' hc q => (hs.2 c ?_).trans q) (fun _ q => q) fun _ _ q => q
    rintro rfl
    rcases hc with rfl | hc
    · rw [hfree] at e; cases e
    · rw [hfree] at hc; cases hc
  rcases hx with hk | hk
  · refine wpAny_storeName_local hk hn (fun h' hn' hs => ?_) hcls
    obtain ⟨oL, _, _, hoL, _⟩ := id hn
    refine h _ ⟨I.ok, I.os, I.bare, ⟨fun b o e n hb hx => ?_, fun b o e n hb hx => ?_, I.base.free, fun b o e hx => ?_, I.base.tups, I.base.frzs, I.base.tbls⟩, ⟨_, hn', fun j y v' e1 e2 e3 => ?_⟩, fun y c e => ?_, I.free, I.freeC, fun p hp => ?_, tracked ⟨oL, hoL, I.free⟩ hs, by simpa using I.len⟩ ⟨_, hs, .inl rfl⟩
    · exact (hs.2 b (Nat.ne_of_lt (Nat.lt_of_lt_of_le (Heap.lt_size e) I.ok.above))).trans (I.base.keep b o e n hb hx)
    · obtain ⟨sl, e1⟩ := I.base.slot b o e n hb hx
      exact ⟨sl, (hs.2 b (Nat.ne_of_lt (Nat.lt_of_lt_of_le (Heap.lt_size e) I.ok.above))).trans e1⟩
    · obtain ⟨o', e1⟩ := I.base.there b o e hx
      exact ⟨o', (hs.2 b (Nat.ne_of_lt (Nat.lt_of_lt_of_le (Heap.lt_size e) I.ok.above))).trans e1⟩
    · by_cases hj : j = i
      · subst hj
        rw [hi] at e1; cases e1
        rw [List.getElem?_set_self hiσ] at e2
        cases e2
        exact ⟨u, r, .inl ⟨hk, by simp⟩⟩
      · rw [List.getElem?_set_ne (Ne.symm hj)] at e2
        obtain ⟨u', r', q⟩ := hl j y v' e1 e2 e3
        refine ⟨u', r', ?_⟩
        rcases q with ⟨k, e⟩ | ⟨k, c, e, z⟩
        · refine .inl ⟨k, ?_⟩
          have : y ≠ x := fun e => hj (nodup_ix hN e1 (e ▸ hi))
          simp [this, e]
        · exact .inr ⟨k, c, e, z.sameBut hs (cne y c e)⟩
    · obtain ⟨w', z⟩ := I.cell y c e
      exact ⟨w', z.sameBut hs (cne y c e)⟩
    · obtain ⟨e, n, ne, nf, d⟩ := I.pin p hp
      exact ⟨(hs.2 p.1 ne).trans e, n, ne, nf, d⟩
  · have hfn : X.fn x = true := by
      rcases hf with z | z
      · exact z
      · rw [z] at hk; cases hk
    obtain ⟨c, hc⟩ := I.ok.has x (.inl hk)
    obtain ⟨w', z⟩ := I.cell x c hc
    refine wpAny_storeName_cell I.ok.kind hk hc z (fun h' hc' hs => ?_)
    obtain ⟨oc, hoc, hocd⟩ := id z
    refine h { s with heap := h' } ⟨I.ok, I.os, I.bare, ⟨fun b o e n hb hx => ?_, fun b o e n hb hx => ?_, I.base.free, fun b o e hx => ?_, I.base.tups, I.base.frzs, I.base.tbls⟩, ⟨m, hn.sameBut hs (Ne.symm (cne x c hc)), fun j y v' e1 e2 e3 => ?_⟩, fun y c' e => ?_, I.free, I.freeC, fun p hp => ?_, tracked ⟨oc, hoc, I.freeC x c hc⟩ hs, by simpa using I.len⟩ ⟨c, hs, .inr hc⟩
    · exact (hs.2 b (Nat.ne_of_lt (Nat.lt_of_lt_of_le (Heap.lt_size e) (I.ok.cab x c hfn hc)))).trans (I.base.keep b o e n hb hx)
    · obtain ⟨sl, e1⟩ := I.base.slot b o e n hb hx
      exact ⟨sl, (hs.2 b (Nat.ne_of_lt (Nat.lt_of_lt_of_le (Heap.lt_size e) (I.ok.cab x c hfn hc)))).trans e1⟩
    · obtain ⟨o', e1⟩ := I.base.there b o e hx
      exact ⟨o', (hs.2 b (Nat.ne_of_lt (Nat.lt_of_lt_of_le (Heap.lt_size e) (I.ok.cab x c hfn hc)))).trans e1⟩
    · by_cases hj : j = i
      · subst hj
        rw [hi] at e1; cases e1
        rw [List.getElem?_set_self hiσ] at e2
        cases e2
        exact ⟨u, r, .inr ⟨.inl hk, c, hc, hc'⟩⟩
      · rw [List.getElem?_set_ne (Ne.symm hj)] at e2
        obtain ⟨u', r', q⟩ := hl j y v' e1 e2 e3
        refine ⟨u', r', ?_⟩
        rcases q with q | ⟨k, c', e, z'⟩
        · exact .inl q
        · refine .inr ⟨k, c', e, z'.sameBut hs ?_⟩
          rintro rfl
          exact hj (nodup_ix hN e1 (I.ok.inj _ _ _ e hc ▸ hi))
    · by_cases hcc : c' = c
      · subst hcc; exact ⟨_, hc'⟩
      · obtain ⟨w2, z2⟩ := I.cell y c' e
        exact ⟨w2, z2.sameBut hs hcc⟩
    · obtain ⟨e, n, ne, nf, d⟩ := I.pin p hp
      refine ⟨(hs.2 p.1 ?_).trans e, n, ne, nf, d⟩
      intro q
      rw [q, hoc] at e
      have q' : oc = p.2 := Option.some.inj e
      exact d w' (by rw [← q']; exact hocd)
theorem store_ok {M : Model} {A : Around} {E : Value → Shared → Prop} {i : Nat} {x : Str} {v : V} {u : Value} {Q : Unit → Shared → Prop} (I : Inv X pins σ H s) (hN : X.N.Nodup) (hi : X.N[i]? = some x) (hx : Loc X.env.scope x) (r : RelV v u)
    (h : ∀ s', Inv X pins (σ.set i (some v)) H s' → Q () s') (hf : X.fn x = true ∨ X.env.scope.names.lookup x = some .local := by first | exact .inl rfl | exact .inr rfl | assumption) : wpAny M A (storeName X.env x u) Q E s :=
  store_ok2 I hN hi hx r (fun s' I' _ => h s' I') hf
theorem Inv.call' {s' : Shared} {ch : List Addr} (I : Inv X pins σ H s) (ho : s'.os = s.os) (u : Un (frs X.stack) ch H H' s.heap s'.heap) (hok : HOk X.prog X.w H' s'.heap) (hg : AllBare s'.gens)
    (hch : ∀ b ∈ ch, (b ∈ X.ex ∨ X.s₀.heap.objs.size ≤ b) ∧ b ≠ X.env.locals ∧ (∀ x c, X.env.cells.lookup x = some c → c ≠ b) ∧ ∀ p ∈ X.pn ++ pins, p.1 ≠ b) : Inv X pins σ H' s' := by
  obtain ⟨h', g', d', t', o'⟩ := s'
  have e : o' = s.os := ho
  subst e
  exact I.call (g' := g') (t' := t') (d' := d') u hok hg hch
end
abbrev XK := Value → Option Addr → Hp → Prop
abbrev St := List (Option V)
abbrev VK := V → Hp → Prop
abbrev TE := St → Hp → VK → Prop
abbrev TT := St → Hp → (Bool → Hp → Prop) → Prop
abbrev TA := St → Hp → (List V → Hp → Prop) → Prop
structure Ends where
  nx : St → Hp → Prop
  rt : VK
  bk : St → Hp → Prop := fun _ _ => False
  ct : St → Hp → Prop := fun _ _ => False
abbrev TS := Ends → St → Hp → Prop
def EP (X : Cx) (pins : List (Addr × Obj)) (σ : St) (Q : VK) (u : Value) (s' : Shared) : Prop := ∃ v H', Inv X pins σ H' s' ∧ RelV v u ∧ Q v H'
def TP (X : Cx) (pins : List (Addr × Obj)) (σ : St) (Q : Bool → Hp → Prop) (b : Bool) (s' : Shared) : Prop := ∃ H', Inv X pins σ H' s' ∧ Q b H'
def AP (X : Cx) (pins : List (Addr × Obj)) (σ : St) (Q : List V → Hp → Prop) (us : List Value) (s' : Shared) : Prop := ∃ vs H', Inv X pins σ H' s' ∧ Vals vs us ∧ Q vs H'
def SP (X : Cx) (pins : List (Addr × Obj)) (D : Ends) (f : Flow) (s' : Shared) : Prop :=
  match f with
  | .next => ∃ σ' H', Inv X pins σ' H' s' ∧ D.nx σ' H'
  | .brk => ∃ σ' H', Inv X pins σ' H' s' ∧ D.bk σ' H'
  | .cont => ∃ σ' H', Inv X pins σ' H' s' ∧ D.ct σ' H'
  | .ret u => ∃ v σ' H', Inv X pins σ' H' s' ∧ RelV v u ∧ D.rt v H'
def PE (X : Cx) (e : Expr) (t : TE) : Prop :=
  ∀ (pins : List (Addr × Obj)) (s : Shared) (σ : St) (H : Hp) (Q : VK), Inv X pins σ H s → t σ H Q → wpAny (model X.prog X.w) X.A (eval e X.env) (EP X pins σ Q) X.xe s
def PT (X : Cx) (e : Expr) (t : TT) : Prop :=
  ∀ (pins : List (Addr × Obj)) (s : Shared) (σ : St) (H : Hp) (Q : Bool → Hp → Prop), Inv X pins σ H s → t σ H Q → wpAny (model X.prog X.w) X.A (isTrue e X.env (eval e X.env)) (TP X pins σ Q) X.xe s
def PW (X : Cx) (e : Expr) (t : TT) : Prop :=
  ∀ (whole : Sem Value) (pins : List (Addr × Obj)) (s : Shared) (σ : St) (H : Hp) (Q : Bool → Hp → Prop), Inv X pins σ H s → t σ H Q → wpAny (model X.prog X.w) X.A (isTrue e X.env whole) (TP X pins σ Q) X.xe s
theorem PW.pt {X : Cx} {e : Expr} {t : TT} (h : PW X e t) : PT X e t := h _
def PA (X : Cx) (es : List Expr) (t : TA) : Prop :=
  ∀ (pos : Pos) (pins : List (Addr × Obj)) (s : Shared) (σ : St) (H : Hp) (Q : List V → Hp → Prop), Inv X pins σ H s → t σ H Q → wpAny (model X.prog X.w) X.A (spliced (backTo pos (starEach es X.env))) (AP X pins σ Q) X.xe s
def PS (X : Cx) (st : Stmt) (t : TS) : Prop :=
  ∀ (pins : List (Addr × Obj)) (s : Shared) (σ : St) (H : Hp) (D : Ends), Inv X pins σ H s → t D σ H → wpAny (model X.prog X.w) X.A (exec st X.env) (SP X pins D) X.xe s
def PSs (X : Cx) (st : List Stmt) (t : TS) : Prop :=
  ∀ (pins : List (Addr × Obj)) (s : Shared) (σ : St) (H : Hp) (D : Ends), Inv X pins σ H s → t D σ H → wpAny (model X.prog X.w) X.A (execs st X.env) (SP X pins D) X.xe s
theorem thn {α : Type} {t : Sem α} {Q Q' : α → Shared → Prop} {M : Model} {A : Around} {E : Value → Shared → Prop} {s : Shared} (h : wpAny M A t Q E s) (hQ : ∀ a s, Q a s → Q' a s) : wpAny M A t Q' E s := wpAny_mono h hQ fun _ _ x => x
end L2
namespace L2
open PySem PySem.Spec PyProof.Rows
section
variable {X : Cx}
theorem bin {a b : Expr} {ta tb : TE} (ha : PE X a ta) (hb : PE X b tb) {pins : List (Addr × Obj)} {s : Shared} {σ : St} {H : Hp} {R : V → V → Hp → Prop} (I : Inv X pins σ H s) (h : ta σ H fun x H1 => tb σ H1 fun y H2 => R x y H2)
    {α : Type} {Q : α → Shared → Prop} {f : Value → Value → Sem α}
    (hf : ∀ v u s2 x y H2, Inv X pins σ H2 s2 → RelV x v → RelV y u → R x y H2 → wpAny (model X.prog X.w) X.A (f v u) Q X.xe s2) :
    wpAny (model X.prog X.w) X.A (eval a X.env) (fun v s₁ => wpAny (model X.prog X.w) X.A (eval b X.env) (fun u s₂ => wpAny (model X.prog X.w) X.A (f v u) Q X.xe s₂) X.xe s₁) X.xe s := by
  refine thn (ha pins s σ H _ I h) fun v s1 ⟨x, H1, I1, r1, q1⟩ => ?_
  refine thn (hb pins s1 σ H1 _ I1 q1) fun u s2 ⟨y, H2, I2, r2, q2⟩ => ?_
  exact hf v u s2 x y H2 I2 r1 r2 q2
def tVar (i : Nat) : TE := fun σ H Q => ∃ v, σ[i]? = some (some v) ∧ Q v H
def tC (v : V) : TE := fun _ H Q => Q v H
theorem pe_var {i : Nat} {x : Str} {pos : Pos} (hN : X.N[i]? = some x) (hv : Vis X.env.scope x) (hd : (x == ("__debug__" : Str)) = false := by decide) (hcd : (x == ("__classdict__" : Str)) = false := by decide) : PE X (.Name x pos) (tVar i) := by
  intro pins s σ H Q I h
  obtain ⟨v, e, h⟩ := h
  obtain ⟨m, hn, hl⟩ := I.loc
  obtain ⟨u, r, l⟩ := hl i x v hN e hv
  have fin : EP X pins σ Q u s := ⟨v, H, I, r, h⟩
  rcases l with ⟨hk, hm⟩ | ⟨hk, c, hc, hcell⟩
  · exact wpAny_Name (wpAny_loadName_local I.ok.kind hk hn hm fin) hd
  · rcases hk with hk | hk
    · exact wpAny_Name (wpAny_loadName_cell I.ok.kind hk hc hcell fin) hd
    · exact wpAny_Name (wpAny_loadName_free I.ok.kind hk hc hcell fin hcd) hd
theorem pe_int {i j pos} : PE X (.Constant (.int i) j pos) (tC (.int i)) := fun _ _ _ H _ I h => wpAny_Constant_int ⟨.int i, H, I.tok _, ⟨_, rfl⟩, h⟩
theorem pe_bl {b j pos} : PE X (.Constant (.bool b) j pos) (tC (.bl b)) := fun _ _ _ H _ I h => Constant_bool ⟨.bl b, H, I, rfl, h⟩
theorem pe_non {j pos} : PE X (.Constant .none j pos) (tC .non) := fun _ _ _ H _ I h => Constant_none ⟨.non, H, I, rfl, h⟩
theorem pe_str {x j pos} : PE X (.Constant (.str x) j pos) (tC (.str x)) := fun _ _ _ H _ I h => Calls.Constant_str ⟨.str x, H, I.tok _, ⟨_, rfl⟩, h⟩
def Gl (X : Cx) (x : Str) : Prop := X.env.kindOf x = some .globalImplicit
theorem ld_glob {E : Value → Shared → Prop} {pins : List (Addr × Obj)} {s : Shared} {σ : St} {H : Hp} {x : Str} {u : Value} {pos : Pos} {Q : Value → Shared → Prop} (I : Inv X pins σ H s) (hg : Gl X x) (hm : X.mg x = some u) (h : Q u s)
    (hd : (x == ("__debug__" : Str)) = false := by decide) : wpAny (model X.prog X.w) X.A (eval (.Name x pos) X.env) Q E s :=
  Calls.Name_function_global I.ok.kind hg (Calls.loadGlobal_global (by rw [I.ok.glob]; exact I.mod.glob.keeps I.bk) hm h) hd
theorem ld_blt {E : Value → Shared → Prop} {pins : List (Addr × Obj)} {s : Shared} {σ : St} {H : Hp} {x : Str} {u : Value} {pos : Pos} {Q : Value → Shared → Prop} (I : Inv X pins σ H s) (hg : Gl X x) (hm : X.mg x = none) (hv : bootBuiltins x = some u) (h : Q u s)
    (hn : x ≠ "__name__" := by decide) (hd : (x == ("__debug__" : Str)) = false := by decide) : wpAny (model X.prog X.w) X.A (eval (.Name x pos) X.env) Q E s := by
  obtain ⟨mb, h1, h2⟩ := I.mod.blt
  exact Calls.Name_function_global I.ok.kind hg (Calls.loadGlobal_builtin (by rw [I.ok.glob]; exact I.mod.glob.keeps I.bk) hm (by rw [I.ok.blt]; exact h1.keeps I.bk) ((h2 x hn).trans hv) h) hd
theorem pe_glob {x : Str} {v : V} {u : Value} {pos : Pos} (hg : Gl X x) (hm : X.mg x = some u) (r : RelV v u) (hd : (x == ("__debug__" : Str)) = false := by decide) : PE X (.Name x pos) (tC v) :=
  fun _ _ _ H _ I h => ld_glob I hg hm ⟨v, H, I, r, h⟩ hd
theorem pe_bltn {x : Str} {v : V} {u : Value} {pos : Pos} (hg : Gl X x) (hm : X.mg x = none) (hv : bootBuiltins x = some u) (r : RelV v u) (hn : x ≠ "__name__" := by decide) (hd : (x == ("__debug__" : Str)) = false := by decide) : PE X (.Name x pos) (tC v) :=
  fun _ _ _ H _ I h => ld_blt I hg hm hv ⟨v, H, I, r, h⟩ hn hd
variable {a b : Expr} {ta tb : TE} {pos : Pos}
def PC (X : Cx) (op : CmpOp) (a b : Expr) (t : TE) : Prop :=
  ∀ (pins : List (Addr × Obj)) (s : Shared) (σ : St) (H : Hp) (Q : VK), Inv X pins σ H s → t σ H Q →
    wpAny (model X.prog X.w) X.A (eval a X.env) (fun v s₁ => wpAny (model X.prog X.w) X.A (eval b X.env) (fun u s₂ => wpAny (model X.prog X.w) X.A (compareOp op v u) (EP X pins σ Q) X.xe s₂) X.xe s₁) X.xe s
theorem nobehind (b : Expr) {op : CmpOp} (h : op ≠ .In) (h2 : op ≠ .NotIn) : behindInMarks op b = false := by
  have e1 : (op == CmpOp.In) = false := by cases op <;> first | rfl | exact absurd rfl h
  have e2 : (op == CmpOp.NotIn) = false := by cases op <;> first | rfl | exact absurd rfl h2
  cases b <;> simp [behindInMarks, e1, e2]
def tB (t : TE) : TT := fun σ H Q => t σ H fun x H1 => ∃ c, x = .bl c ∧ Q c H1
theorem pt_cmp {op : CmpOp} {t : TE} (h : PC X op a b t) (h1 : behindInMarks op b = false := by first | exact nobehind _ (by decide) (by decide) | rfl) : PT X (.Compare a [op] [b] pos) (tB t) := by
  intro pins s σ H Q I hw
  refine wpAny_isTrue_Compare1 (thn (h pins s σ H _ I hw) fun v s1 h1 => thn h1 fun u s2 h2 => thn h2 fun c s3 ⟨x, H1, I1, r1, q1⟩ => ?_) h1
  obtain ⟨d, rfl, q⟩ := q1
  cases r1
  exact wpAny_truthy_bool ⟨H1, I1, q⟩
theorem pt_val {e : Expr} {t : TE} (h : PE X e t) (he : ∀ whole, isTrue e X.env whole = (do let v ← whole; standAt e.pos; holding [v] (truthy v)) := by intro _; rfl) : PT X e (tB t) := by
  intro pins s σ H Q I hw
  refine isTrue_plain (thn (h pins s σ H _ I hw) fun v s1 ⟨x, H1, I1, r1, q1⟩ => ?_) (he _)
  obtain ⟨d, rfl, q⟩ := q1
  cases r1
  exact wpAny_truthy_bool ⟨H1, I1, q⟩
variable {tA tB' : TT} {rest : List Expr}
def tAnd (t u : TT) : TT := fun σ H Q => t σ H fun c H1 => if c = true then u σ H1 Q else Q false H1
def tOr (t u : TT) : TT := fun σ H Q => t σ H fun c H1 => if c = true then Q true H1 else u σ H1 Q
def tNot (t : TT) : TT := fun σ H Q => t σ H fun c H1 => Q (!c) H1
theorem pw_and1 (ha : PT X a tA) : PW X (.BoolOp .And [a] pos) tA := by
  intro wh pins s σ H Q I h
  refine isTrue_and (thn (ha pins s σ H Q I h) fun c s1 e => ?_)
  cases c with
  | true => exact isTrue_and_nil e
  | false => exact e
theorem pw_or1 (ha : PT X a tA) : PW X (.BoolOp .Or [a] pos) tA := by
  intro wh pins s σ H Q I h
  refine isTrue_or (thn (ha pins s σ H Q I h) fun c s1 e => ?_)
  cases c with
  | false => exact isTrue_or_nil e
  | true => exact e
theorem pw_and (ha : PT X a tA) (hb : PW X (.BoolOp .And (b :: rest) pos) tB') : PW X (.BoolOp .And (a :: b :: rest) pos) (tAnd tA tB') := by
  intro wh pins s σ H Q I h
  refine isTrue_and (thn (ha pins s σ H _ I h) fun c s1 ⟨H1, I1, q1⟩ => ?_)
  cases c with
  | true => exact hb wh pins s1 σ H1 Q I1 q1
  | false => exact ⟨H1, I1, q1⟩
theorem pw_or (ha : PT X a tA) (hb : PW X (.BoolOp .Or (b :: rest) pos) tB') : PW X (.BoolOp .Or (a :: b :: rest) pos) (tOr tA tB') := by
  intro wh pins s σ H Q I h
  refine isTrue_or (thn (ha pins s σ H _ I h) fun c s1 ⟨H1, I1, q1⟩ => ?_)
  cases c with
  | true => exact ⟨H1, I1, q1⟩
  | false => exact hb wh pins s1 σ H1 Q I1 q1
theorem pt_not (ha : PT X a tA) : PT X (.UnaryOp .Not a pos) (tNot tA) := by
  intro pins s σ H Q I h
  exact isTrue_not (ha pins s σ H (fun c H1 => Q (!c) H1) I h)
def tAndV (ta tb : TE) : TE := fun σ H Q => ta σ H fun x H1 => ∃ c, x = .bl c ∧ if c = true then tb σ H1 Q else Q (.bl false) H1
def tOrV (ta tb : TE) : TE := fun σ H Q => ta σ H fun x H1 => ∃ c, x = .bl c ∧ if c = true then Q (.bl true) H1 else tb σ H1 Q
def tNotV (ta : TE) : TE := fun σ H Q => ta σ H fun x H1 => ∃ c, x = .bl c ∧ Q (.bl (!c)) H1
theorem pe_one {op} {t : TE} (h : PE X a t) : PE X (.BoolOp op [a] pos) t := fun pins s σ H Q I hw => BoolOp_one (h pins s σ H Q I hw)
theorem pe_and (ha : PE X a ta) (hb : PE X (.BoolOp .And (b :: rest) pos) tb) : PE X (.BoolOp .And (a :: b :: rest) pos) (tAndV ta tb) := by
  intro pins s σ H Q I h
  refine BoolOp_and (thn (ha pins s σ H _ I h) fun v s1 ⟨x, H1, I1, r1, q1⟩ => ?_)
  obtain ⟨c, rfl, q1⟩ := q1
  cases r1
  refine wpAny_truthy_bool ?_
  cases c with
  | true => exact hb pins s1 σ H1 Q I1 q1
  | false => exact ⟨.bl false, H1, I1, rfl, q1⟩
theorem pe_or (ha : PE X a ta) (hb : PE X (.BoolOp .Or (b :: rest) pos) tb) : PE X (.BoolOp .Or (a :: b :: rest) pos) (tOrV ta tb) := by
  intro pins s σ H Q I h
  refine BoolOp_or (thn (ha pins s σ H _ I h) fun v s1 ⟨x, H1, I1, r1, q1⟩ => ?_)
  obtain ⟨c, rfl, q1⟩ := q1
  cases r1
  refine wpAny_truthy_bool ?_
  cases c with
  | false => exact hb pins s1 σ H1 Q I1 q1
  | true => exact ⟨.bl true, H1, I1, rfl, q1⟩
theorem pe_not (ha : PE X a ta) : PE X (.UnaryOp .Not a pos) (tNotV ta) := by
  intro pins s σ H Q I h
  refine UnaryOp_ (thn (ha pins s σ H _ I h) fun v s1 ⟨x, H1, I1, r1, q1⟩ => ?_)
  obtain ⟨c, rfl, q1⟩ := q1
  cases r1
  exact not_of (wpAny_truthy_bool ⟨.bl (!c), H1, I1, rfl, q1⟩)
end
end L2
namespace L2
open PySem PySem.Spec PyProof.Rows
def SqL (K : PySem.W.Frag) (H : Hp) (a : Addr) (xs : List V) : Prop :=
  Rd H a (.lst xs) ∨
    ∃ (o : Obj) (its : Array Value) (n : Nat), K.lookup a = some o ∧ o.cls = .type "list" ∧ o.dict = none ∧ o.data = .seq its n ∧ its.size ≤ sizeLine ∧ Vals xs its.toList
def SqT (K : PySem.W.Frag) (H : Hp) (a : Addr) (xs : List V) : Prop :=
  Rd H a (.tup xs) ∨
    ∃ (o : Obj) (its : Array Value) (n : Nat), K.lookup a = some o ∧ o.cls = .type "tuple" ∧ o.data = .seq its n ∧ its.size ≤ sizeLine ∧ Vals xs its.toList
def absV : Value → Option V
  | .none => some .non
  | .bool b => some (.bl b)
  | .int i _ => some (.int i)
  | .str x _ => some (.str x)
  | .bytes b _ => some (.byt b)
  | .float b _ => some (.flt b)
  | .ref a => some (.ref a)
  | .type n => some (.ty n)
  | _ => none
theorem RelV.abs {x : V} {u : Value} (r : RelV x u) : absV u = some x := by
  cases x with
  | non => cases r; rfl
  | bl _ => cases r; rfl
  | int _ => obtain ⟨t, rfl⟩ := r; rfl
  | str _ => obtain ⟨t, rfl⟩ := r; rfl
  | byt _ => obtain ⟨t, rfl⟩ := r; rfl
  | flt _ => obtain ⟨t, rfl⟩ := r; rfl
  | ref _ => cases r; rfl
  | ty _ => cases r; rfl
theorem RelV.inj {x y : V} {u : Value} (r : RelV x u) (q : RelV y u) : x = y := Option.some.inj (r.abs.symm.trans q.abs)
theorem Vals.inj : ∀ {xs ys : List V} {us : List Value}, Vals xs us → Vals ys us → xs = ys
  | _, _, _, .nil, .nil => rfl
  | _, _, _, .cons r t, .cons r' t' => by rw [r.inj r', Vals.inj t t']
section
variable {X : Cx} {pins : List (Addr × Obj)} {σ : St} {H : Hp} {s : Shared} {a : Addr} {xs ys : List V}
theorem SqL.of {K : PySem.W.Frag} (h : H a = some (.lst xs)) : SqL K H a xs := .inl (.inl h)
theorem Inv.list (I : Inv X pins σ H s) (h : SqL X.K H a xs) : ∃ its : List Value, Vals xs its ∧ PlainL s.heap a its.toArray ∧ xs.length ≤ sizeLine := by
  rcases h with h | ⟨o, its, n, hk, hc, hd, hs, hz, r⟩
  · obtain ⟨z, its, n, r, e⟩ := h.ok I.hok
    exact ⟨its, r, ⟨_, n, e, rfl, rfl, rfl⟩, z⟩
  · refine ⟨its.toList, r, ⟨o, n, I.kIn a o hk, hc, hd, by simpa using hs⟩, ?_⟩
    have e := r.length
    simp only [Array.length_toList] at e
    omega
theorem Inv.tuple (I : Inv X pins σ H s) (h : SqT X.K H a xs) : ∃ its : List Value, Vals xs its ∧ IsTup s.heap a its.toArray ∧ xs.length ≤ sizeLine := by
  rcases h with h | ⟨o, its, n, hk, hc, hs, hz, r⟩
  · obtain ⟨z, its, r, p⟩ := h.ok I.hok
    exact ⟨its, r, p, z⟩
  · refine ⟨its.toList, r, ⟨o, I.kIn a o hk, hc, n, by simpa using hs⟩, ?_⟩
    have e := r.length
    simp only [Array.length_toList] at e
    omega
theorem Inv.list_inj (I : Inv X pins σ H s) (h : SqL X.K H a xs) (h' : SqL X.K H a ys) : xs = ys := by
  obtain ⟨its, r, ⟨o, n, e, _, _, d⟩, _⟩ := I.list h
  obtain ⟨its', r', ⟨o', n', e', _, _, d'⟩, _⟩ := I.list h'
  rw [e] at e'; cases e'
  rw [d] at d'
  injection d' with d1 _
  have : its = its' := by simpa using congrArg Array.toList d1
  subst this
  exact r.inj r'
theorem Inv.tuple_inj (I : Inv X pins σ H s) (h : SqT X.K H a xs) (h' : SqT X.K H a ys) : xs = ys := by
  obtain ⟨its, r, ⟨o, e, _, n, d⟩, _⟩ := I.tuple h
  obtain ⟨its', r', ⟨o', e', _, n', d'⟩, _⟩ := I.tuple h'
  rw [e] at e'; cases e'
  rw [d] at d'
  injection d' with d1 _
  have : its = its' := by simpa using congrArg Array.toList d1
  subst this
  exact r.inj r'
end
abbrev Cx.wish (X : Cx) (E : Value → Shared → Prop) : Cx := { X with xe := E }
abbrev Cx.nox (X : Cx) : Cx := X.wish fun _ _ => False
theorem Cx.Ok.wish {X : Cx} (ok : X.Ok) (E : Value → Shared → Prop) : (X.wish E).Ok :=
  ⟨ok.mod, ok.kind, ok.glob, ok.blt, ok.above, ok.inj, ok.has, ok.cab, ok.hd, ok.frames, ok.stk, ok.exf, ok.bs, ok.bsz, ok.noex, ok.exfs, ok.funs, ok.frf⟩
theorem Cx.Ok.unwish {X : Cx} {E : Value → Shared → Prop} (ok : (X.wish E).Ok) : X.Ok :=
  ⟨ok.mod, ok.kind, ok.glob, ok.blt, ok.above, ok.inj, ok.has, ok.cab, ok.hd, ok.frames, ok.stk, ok.exf, ok.bs, ok.bsz, ok.noex, ok.exfs, ok.funs, ok.frf⟩
section
variable {X : Cx} {pins : List (Addr × Obj)} {σ : St} {H : Hp} {s : Shared} {E : Value → Shared → Prop}
theorem Inv.wish (I : Inv X pins σ H s) (E : Value → Shared → Prop) : Inv (X.wish E) pins σ H s := ⟨I.ok.wish E, I.os, I.bare, I.base, I.loc, I.cell, I.free, I.freeC, I.pin, I.hok, I.len⟩
theorem Inv.unwish (I : Inv (X.wish E) pins σ H s) : Inv X pins σ H s := ⟨I.ok.unwish, I.os, I.bare, I.base, I.loc, I.cell, I.free, I.freeC, I.pin, I.hok, I.len⟩
theorem SP.unwish {D : Ends} {f : Flow} {s' : Shared} (h : SP (X.wish E) pins D f s') : SP X pins D f s' := by
  cases f with
  | next => obtain ⟨σ', H', I, q⟩ := h; exact ⟨σ', H', I.unwish, q⟩
  | brk => obtain ⟨σ', H', I, q⟩ := h; exact ⟨σ', H', I.unwish, q⟩
  | cont => obtain ⟨σ', H', I, q⟩ := h; exact ⟨σ', H', I.unwish, q⟩
  | ret u => obtain ⟨v, σ', H', I, r, q⟩ := h; exact ⟨v, σ', H', I.unwish, r, q⟩
theorem PE.nox {e : Expr} {t : TE} (h : PE X.nox e t) : PE X e t := fun pins s σ H Q I hw =>
  wpAny_mono (h pins s σ H Q (I.wish _) hw) (fun _ _ ⟨v, H', I', r, q⟩ => ⟨v, H', I'.unwish, r, q⟩) fun _ _ z => False.elim z
theorem PT.nox {e : Expr} {t : TT} (h : PT X.nox e t) : PT X e t := fun pins s σ H Q I hw =>
  wpAny_mono (h pins s σ H Q (I.wish _) hw) (fun _ _ ⟨H', I', q⟩ => ⟨H', I'.unwish, q⟩) fun _ _ z => False.elim z
theorem PSs.nox {st : List Stmt} {t : TS} (h : PSs X.nox st t) : PSs X st t := fun pins s σ H D I hw =>
  wpAny_mono (h pins s σ H D (I.wish _) hw) (fun _ _ q => q.unwish) fun _ _ z => False.elim z
end
section
variable {X : Cx} {st : Stmt} {rest : List Stmt} {t u : TS} {e : Expr} {te : TE} {pos : Pos}
def tNext : TS := fun D σ H => D.nx σ H
def tSeq (t u : TS) : TS := fun D σ H => t { D with nx := u D } σ H
theorem pss_nil : PSs X [] tNext := fun _ _ σ H _ I h => wpAny_execs_nil ⟨σ, H, I, h⟩
theorem pss_cons (h1 : PS X st t) (h2 : PSs X rest u) : PSs X (st :: rest) (tSeq t u) := by
  intro pins s σ H D I h
  refine wpAny_execs_cons (thn (h1 pins s σ H { D with nx := u D } I h) fun f s1 q => ?_)
  cases f with
  | next =>
    obtain ⟨σ', H', I', q⟩ := q
    exact h2 pins s1 σ' H' D I' q
  | ret v => exact q
  | brk => exact q
  | cont => exact q
theorem pss_one (h1 : PS X st t) : PSs X [st] t := by
  intro pins s σ H D I h
  refine wpAny_execs_cons (thn (h1 pins s σ H D I h) fun f s1 q => ?_)
  cases f with
  | next => exact wpAny_execs_nil q
  | ret v => exact q
  | brk => exact q
  | cont => exact q
theorem Inv.quiet {pins : List (Addr × Obj)} {σ : St} {H : Hp} {s : Shared} (I : Inv X pins σ H s) : interactive X.env = false := by simp [interactive, I.ok.kind]
def tDrop (te : TE) : TS := fun D σ H => te σ H fun _ H1 => D.nx σ H1
theorem ps_expr (he : PE X e te) (hs : swapsWith e none pos.line X.env = pure false := by rfl) : PS X (.Expr e pos) (tDrop te) := by
  intro pins s σ H D I h
  exact wpAny_Expr_any (thn (he pins s σ H _ I h) fun v s1 ⟨x, H1, I1, r1, q1⟩ => ⟨σ, H1, I1, q1⟩) I.quiet hs
def tRet (te : TE) : TS := fun D σ H => te σ H D.rt
theorem ps_ret (he : PE X e te) : PS X (.Return (some e) pos) (tRet te) := by
  intro pins s σ H D I h
  exact wpAny_Return_some (thn (he pins s σ H _ I h) fun v s1 ⟨x, H1, I1, r1, q1⟩ => ⟨x, σ, H1, I1, r1, q1⟩)
def tIfS (c : TT) (t u : TS) : TS := fun D σ H => c σ H fun b H1 => if b = true then t D σ H1 else u D σ H1
theorem ps_if {c : Expr} {a b : List Stmt} {tc : TT} (hc : PT X c tc) (ha : PSs X a t) (hb : PSs X b u) : PS X (.If c a b pos) (tIfS tc t u) := by
  intro pins s σ H D I h
  refine wpAny_If (thn (hc pins s σ H _ I h) fun d s1 ⟨H1, I1, q1⟩ => ?_)
  cases d with
  | true => exact ha pins s1 σ H1 D I1 q1
  | false => exact hb pins s1 σ H1 D I1 q1
def tNever : TS := fun _ _ _ => False
theorem ps_never : PS X st tNever := fun _ _ _ _ _ _ h => h.elim
end
abbrev TG := V → St → Hp → (St → Hp → Prop) → Prop
abbrev TGs := List V → St → Hp → (St → Hp → Prop) → Prop
def PG (X : Cx) (target : Expr) (t : TG) : Prop :=
  ∀ (pins : List (Addr × Obj)) (s : Shared) (σ : St) (H : Hp) (v : V) (u : Value) (Q : St → Hp → Prop), Inv X pins σ H s → RelV v u → t v σ H Q →
    wpAny (model X.prog X.w) X.A (assign target X.env u) (fun _ s' => ∃ σ' H', Inv X pins σ' H' s' ∧ Q σ' H') X.xe s
def PGs (X : Cx) (ts : List Expr) (t : TGs) : Prop :=
  ∀ (pins : List (Addr × Obj)) (s : Shared) (σ : St) (H : Hp) (vs : List V) (us : List Value) (Q : St → Hp → Prop), Inv X pins σ H s → Vals vs us → t vs σ H Q →
    wpAny (model X.prog X.w) X.A (assignInOrder ((assignEach ts X.env).map (·.2)) us) (fun _ s' => ∃ σ' H', Inv X pins σ' H' s' ∧ Q σ' H') X.xe s
abbrev TSet := V → V → V → Hp → (Hp → Prop) → Prop
def PSet (X : Cx) (t : TSet) : Prop :=
  ∀ (pins : List (Addr × Obj)) (s : Shared) (σ : St) (H : Hp) (o i v : V) (ov iv u : Value) (Q : Hp → Prop), Inv X pins σ H s → RelV o ov → RelV i iv → RelV v u → t o i v H Q →
    wpAny (model X.prog X.w) X.A (setItem ov iv u) (fun _ s' => ∃ H', Inv X pins σ H' s' ∧ Q H') X.xe s
section
variable {X : Cx} {pos : Pos}
def gName (i : Nat) : TG := fun v σ H Q => Q (σ.set i (some v)) H
theorem pg_name {i : Nat} {x : Str} (hN : X.N.Nodup) (hi : X.N[i]? = some x) (hx : Loc X.env.scope x) (hf : X.fn x = true ∨ X.env.scope.names.lookup x = some .local := by first | exact .inl rfl | exact .inr rfl | assumption) : PG X (.Name x pos) (gName i) := by
  intro pins s σ H v u Q I r h
  exact wpAny_assign_Name (store_ok I hN hi hx r (fun s' I' => ⟨_, H, I', h⟩) hf)
def gNil : TGs := fun vs σ H Q => vs = [] ∧ Q σ H
def gCons (t : TG) (u : TGs) : TGs := fun vs σ H Q => ∃ v r, vs = v :: r ∧ t v σ H fun σ' H' => u r σ' H' Q
theorem pgs_nil : PGs X [] gNil := by
  intro pins s σ H vs us Q I r h
  obtain ⟨e, h⟩ := h
  subst e
  cases r
  exact assignInOrder_nil ⟨σ, H, I, h⟩
theorem pgs_cons {e : Expr} {es : List Expr} {t : TG} {u : TGs} (h1 : PG X e t) (h2 : PGs X es u)
    (hs : (assignEach (e :: es) X.env).map (·.2) = assign e X.env :: (assignEach es X.env).map (·.2) := by rfl) : PGs X (e :: es) (gCons t u) := by
  intro pins s σ H vs us Q I r h
  obtain ⟨v, vr, e1, h⟩ := h
  subst e1
  cases r with
  | cons r rr =>
    rw [hs]
    refine assignInOrder_cons (thn (h1 pins s σ H _ _ _ I r h) fun _ s1 ⟨σ1, H1, I1, q1⟩ => ?_)
    exact h2 pins s1 σ1 H1 _ _ Q I1 rr q1
def gTup (K : PySem.W.Frag) (n : Nat) (t : TGs) : TG := fun v σ H Q => ∃ a xs, v = .ref a ∧ SqT K H a xs ∧ xs.length = n ∧ t xs σ H Q
theorem pg_tup {es : List Expr} {k : Nat} {t : TGs} {n : Nat} (hc : X.calm = true) (h : PGs X es t)
    (hn : (assignEach es X.env).length = n := by rfl) (hst : (assignEach es X.env).findIdx? (·.1) = none := by rfl) : PG X (.Tuple es k pos) (gTup X.K n t) := by
  intro pins s σ H v u Q I r hw
  obtain ⟨a, xs, e1, hq, hl, hw⟩ := hw
  subst e1
  cases r
  obtain ⟨its, rv, ht, hz⟩ := I.tuple hq
  refine assign_Tuple_tuple (I.ok.hd hc) ht (by simp [hn, ← hl, rv.length]) hst fun h' hx => ?_
  have I1 : Inv X pins σ H { s with heap := h' } := I.kept (t' := s.toks) fun b o e => hx b o (Nat.ne_of_lt (Heap.lt_size e)) e
  exact h pins _ σ H xs _ Q I1 (by simpa using rv) hw
def gSub (to ti : TE) (t : TSet) : TG := fun v σ H Q => to σ H fun o H1 => ti σ H1 fun i H2 => t o i v H2 fun H3 => Q σ H3
theorem pg_sub {o i : Expr} {to ti : TE} {t : TSet} (ho : PE X o to) (hi : PE X i ti) (hs : PSet X t)
    (ha : ∀ v, assign (.Subscript o i pos) X.env v = (do
      let ov ← holding [v] (eval o X.env)
      let iv ← holding [v, ov] (eval i X.env)
      standAt pos
      holding [v, ov, iv] (setItem ov iv v)
      release [v, ov, iv] []) := by intro _; rfl) : PG X (.Subscript o i pos) (gSub to ti t) := by
  intro pins s σ H v u Q I r h
  rw [ha]
  refine wpAny_bind (wpAny_holding (thn (ho pins s σ H _ I h) fun ov s1 ⟨x, H1, I1, r1, q1⟩ => ?_))
  refine wpAny_bind (wpAny_holding (thn (hi pins s1 σ H1 _ I1 q1) fun iv s2 ⟨y, H2, I2, r2, q2⟩ => ?_))
  refine wpAny_bind (wpAny_standAt (wpAny_bind (wpAny_holding (thn (hs pins s2 σ H2 x y v ov iv u _ I2 r1 r2 r q2) fun _ s3 ⟨H3, I3, q3⟩ => ?_))))
  exact wpAny_release ⟨σ, H3, I3, q3⟩
def tAsg (te : TE) (g : TG) : TS := fun D σ H => te σ H fun x H1 => g x σ H1 D.nx
theorem ps_asg {tg e : Expr} {te : TE} {g : TG} (he : PE X e te) (hg : PG X tg g) (hs : swapsWithSole [tg] e pos.line X.env = pure false := by rfl) (hw : swappedStores [tg] e X.env = pure none := by rfl)
    (h1 : (assignEach [tg] X.env).map (·.2) = [assign tg X.env] := by rfl) : PS X (.Assign [tg] e pos) (tAsg te g) := by
  intro pins s σ H D I h
  refine wpAny_Assign_stores (thn (he pins s σ H _ I h) fun v s1 ⟨x, H1, I1, r1, q1⟩ => ?_) hs hw
  rw [h1]
  exact thn (hg pins s1 σ H1 x v _ I1 r1 q1) fun _ s2 q => q
theorem ps_set {i : Nat} {x : Str} {e : Expr} {te : TE} {pos' : Pos} (hN : X.N.Nodup) (hi : X.N[i]? = some x) (hx : Loc X.env.scope x) (he : PE X e te) (hs : swapsWith e (some (.Name x pos')) pos.line X.env = pure false := by rfl) (hf : X.fn x = true ∨ X.env.scope.names.lookup x = some .local := by first | exact .inl rfl | exact .inr rfl | assumption) :
    PS X (.Assign [.Name x pos'] e pos) (tAsg te (gName i)) := by
  intro pins s σ H D I h
  refine wpAny_Assign_Name (thn (he pins s σ H _ I h) fun v s1 ⟨y, H1, I1, r1, q1⟩ => ?_) hs
  exact store_ok I1 hN hi hx r1 (fun s2 I2 => ⟨_, H1, I2, q1⟩) hf
def tPar (i j : Nat) (ta : TA) : TS := fun D σ H => ta σ H fun vs H1 => ∃ v w, vs = [v, w] ∧ D.nx ((σ.set i (some v)).set j (some w)) H1
theorem ps_par {i j : Nat} {x y : Str} {a b : Expr} {ta : TA} {px py pt : Pos} {kt k2 pt2} (hc : X.calm = true) (hN : X.N.Nodup) (hi : X.N[i]? = some x) (hj : X.N[j]? = some y) (hij : i ≠ j)
    (hx : X.env.scope.names.lookup x = some .local) (hy : X.env.scope.names.lookup y = some .local) (ha : PA X [a, b] ta)
    (hw : swappedStores [.Tuple [.Name x px, .Name y py] kt pt] (.Tuple [a, b] k2 pt2) X.env = pure (some [x, y]))
    (hs : swapsWithSole [.Tuple [.Name x px, .Name y py] kt pt] (.Tuple [a, b] k2 pt2) pos.line X.env = pure false := by rfl) :
    PS X (.Assign [.Tuple [.Name x px, .Name y py] kt pt] (.Tuple [a, b] k2 pt2) pos) (tPar i j ta) := by
  intro pins s σ H D I h
  rw [exec_Assign_arm]
  refine wpAny_bind (wpAny_standAt ?_)
  rw [hs]
  refine wpAny_bind (wpAny_pure ?_)
  rw [if_neg (by decide)]
  refine wpAny_bind (Tuple_ (thn (ha _ pins s σ H _ I h) fun us s1 ⟨vs, H1, I1, r1, q1⟩ => ?_))
  obtain ⟨v, w, e1, q1⟩ := q1
  subst e1
  obtain ⟨u1, u2, rfl, rv, rw'⟩ : ∃ u1 u2, us = [u1, u2] ∧ RelV v u1 ∧ RelV w u2 := by
    cases r1 with
    | cons p q =>
      cases q with
      | cons p' q' =>
        cases q'
        exact ⟨_, _, rfl, p, p'⟩
  refine wpAny_newObj_type ?_ (by show 2 ≤ sizeLine; decide)
  have I2 : Inv X pins σ H1 { s1 with heap := s1.heap.push { cls := .type "tuple", data := .seq [u1, u2].toArray } } := I1.kept (t' := s1.toks) fun b o e => Heap.get?_push_of_some _ e
  rw [hw]
  refine wpAny_bind (wpAny_pure ?_)
  show wpAny (model X.prog X.w) X.A (do rule "assign.swapped-stores"; let items ← unpackItems (.ref s1.heap.objs.size) 2 none; assignInOrder [fun v => bindName X.env y v, fun v => bindName X.env x v] items.reverse; pure Flow.next) _ _ _
  refine wpAny_bind (wpAny_rule (wpAny_bind (unpackItems_tuple (items := #[u1, u2]) (I.ok.hd hc) (IsTup.new s1.heap _) fun h' hx' => ?_)))
  have I3 := I2.kept (h' := h') (t' := s1.toks) fun b o e => hx' b o (Nat.ne_of_lt (Heap.lt_size e)) e
  show wpAny _ _ (assignInOrder [fun v => bindName X.env y v, fun v => bindName X.env x v] [u2, u1] >>= fun _ => pure Flow.next) _ _ _
  refine wpAny_bind (assignInOrder_cons (wpAny_bindName (store_ok I3 hN hj (.inl hy) rw' (fun s2 I4 => ?_) (.inr hy))))
  refine assignInOrder_cons (wpAny_bindName (store_ok I4 hN hi (.inl hx) rv (fun s3 I5 => assignInOrder_nil (wpAny_pure ?_)) (.inr hx)))
  rw [List.set_comm _ _ (Ne.symm hij)] at I5
  exact ⟨_, H1, I5, q1⟩
end
section
variable {X : Cx} {pos : Pos}
end
structure It where
  go : Nat → Hp → Prop
  yld : Nat → Hp → V → Hp → Prop
  stop : Nat → Hp → Prop
def FpOk (X : Cx) (pins : List (Addr × Obj)) (H : Hp) (b : Addr) : Prop :=
  H b = none ∧ b ≠ X.env.locals ∧ b ∉ X.fs ∧ (b ∈ X.ex ∨ X.s₀.heap.objs.size ≤ b) ∧ (∀ x c, X.env.cells.lookup x = some c → c ≠ b) ∧ ∀ p ∈ X.pn ++ pins, p.1 ≠ b
theorem Inv.fpOk {X : Cx} {pins : List (Addr × Obj)} {σ : St} {H H' : Hp} {s : Shared} {b : Addr} (I : Inv X pins σ H s) (hb : s.heap.objs.size ≤ b) (hn : H' b = none) : FpOk X pins H' b := by
  refine ⟨hn, Nat.ne_of_gt (Nat.lt_of_lt_of_le I.lt hb), I.nofs hb, .inr (Nat.le_trans I.sz hb), fun x c e z => ?_, fun p hp z => ?_⟩
  · obtain ⟨v, q⟩ := I.cell x c e
    exact absurd (Nat.lt_of_lt_of_le q.lt (by rw [z]; exact hb)) (Nat.lt_irrefl _)
  · exact absurd (Nat.lt_of_lt_of_le (Heap.lt_size (I.pin p hp).1) (by rw [z]; exact hb)) (Nat.lt_irrefl _)
structure Turn (P : Program) (w : World) (K : PySem.W.Frag) (tg : Expr) (J : It) (fp : List Addr) (it : Addr) (tn : Nat → Heap → Prop) : Prop where
  mem : it ∈ fp
  obj : ∀ i h, tn i h → ∀ b ∈ fp, ∃ o, h.get? b = some o ∧ ∀ v, o.data ≠ .cell v
  keep : ∀ i h h', tn i h → (∀ b ∈ fp, ∀ o, h.get? b = some o → h'.get? b = some o) → tn i h'
  item : ∀ (X : Cx), X.prog = P → X.w = w → X.K = K → X.calm = true → ∀ (i : Nat) (pins : List (Addr × Obj)) (s : Shared) (σ : St) (H : Hp) (E : Value → Shared → Prop), Inv X pins σ H s → (∀ b ∈ fp, FpOk X pins H b) → tn i s.heap → J.go i H →
    wpAny (model P w) X.A (pyNext (.ref it)) (fun r s1 => ∃ u, r = some u ∧
      wpAny (model P w) X.A (letOwnedTupleGo tg (.ref it) u) (fun _ s2 => ∃ x H', Inv X pins σ H' s2 ∧ RelV x u ∧ J.yld i H x H' ∧ tn (i + 1) s2.heap ∧ ∀ b ∈ fp, H' b = none) E s1) E s
  done : ∀ (X : Cx), X.prog = P → X.w = w → X.K = K → X.calm = true → ∀ (i : Nat) (pins : List (Addr × Obj)) (s : Shared) (σ : St) (H : Hp) (E : Value → Shared → Prop), Inv X pins σ H s → (∀ b ∈ fp, FpOk X pins H b) → tn i s.heap → J.stop i H →
    wpAny (model P w) X.A (pyNext (.ref it)) (fun r s1 => r = none ∧ Inv X pins σ H s1) E s
  self : ∀ (A : Around) (i : Nat) (s : Shared) (Q : Value → Shared → Prop) (E : Value → Shared → Prop), tn i s.heap → Q (.ref it) s → wpAny (model P w) A (pyIter (.ref it)) Q E s
abbrev TI := St → Hp → (It → Hp → Prop) → Prop
def PIE (X : Cx) (pins : List (Addr × Obj)) (σ : St) (tg : Expr) (R : It → Hp → Prop) (itv : Value) (s2 : Shared) : Prop :=
  ∃ (it : Addr) (fp : List Addr) (tn : Nat → Heap → Prop) (J : It) (H' : Hp), itv = .ref it ∧ Inv X pins σ H' s2 ∧ Turn X.prog X.w X.K tg J fp it tn ∧ tn 0 s2.heap ∧ (∀ b ∈ fp, FpOk X pins H' b) ∧ R J H'
def PI (X : Cx) (tg iter : Expr) (wi : TI) : Prop :=
  ∀ (pins : List (Addr × Obj)) (s : Shared) (σ : St) (H : Hp) (R : It → Hp → Prop), Inv X pins σ H s → wi σ H R →
    wpAny (model X.prog X.w) X.A (eval iter X.env) (fun v s1 => wpAny (model X.prog X.w) X.A (pyIter v) (PIE X pins σ tg R) X.xe s1) X.xe s
theorem go_of {M : Model} {A : Around} {E : Value → Shared → Prop} {s : Shared} {tg : Expr} {it : Addr} {u : Value} {o : Obj} {n : String} {vs : Array Value} {Q : Unit → Shared → Prop} (ho : s.heap.get? it = some o) (hc : o.cls = .type n) (hd : o.data = .fields vs)
    (hn : ["enumerate", "zip", "dict_itemiterator", "dict_reverseitemiterator", "odict_iterator", "itertools.zip_longest", "itertools.pairwise"].contains n = false) (hQ : Q () s) : wpAny M A (letOwnedTupleGo tg (.ref it) u) Q E s := by
  unfold letOwnedTupleGo
  cases tg <;> first
    | exact wpAny_pure hQ
    | (cases u <;> first
        | exact wpAny_pure hQ
        | (refine wpAny_bind (wpAny_load ho ?_)
           rw [hc, hd]
           show wpAny M A (if (["enumerate", "zip", "dict_itemiterator", "dict_reverseitemiterator", "odict_iterator", "itertools.zip_longest", "itertools.pairwise"].contains n && vs[0]? == some (rawInt _)) = true then _ else _) Q E s
           rw [if_neg (by intro h; rw [hn, Bool.false_and] at h; cases h)]
           exact wpAny_pure hQ))
def Itl (K : PySem.W.Frag) (a : Addr) : It :=
  ⟨fun i H => ∃ xs x, SqL K H a xs ∧ xs[i]? = some x, fun i H x H' => H' = H ∧ ∀ xs, SqL K H a xs → xs[i]? = some x, fun i H => ∃ xs, SqL K H a xs ∧ xs.length ≤ i⟩
def Itt (K : PySem.W.Frag) (a : Addr) : It :=
  ⟨fun i H => ∃ xs x, SqT K H a xs ∧ xs[i]? = some x, fun i H x H' => H' = H ∧ ∀ xs, SqT K H a xs → xs[i]? = some x, fun i H => ∃ xs, SqT K H a xs ∧ xs.length ≤ i⟩
def Itr (lo : Int) (n : Nat) : It := ⟨fun i _ => i < n, fun i H x H' => H' = H ∧ x = .int (lo + i), fun i _ => n ≤ i⟩
theorem turn_list {P : Program} {w : World} {K : PySem.W.Frag} {tg : Expr} (a it : Addr) : Turn P w K tg (Itl K a) [it] it (fun i h => h.IsListIter it a i) where
  mem := by simp
  obj := fun i h st b hb => by
    have e : b = it := by simpa using hb
    subst e
    obtain ⟨o, e, c, d⟩ := st
    exact ⟨o, e, fun v z => by rw [d] at z; cases z⟩
  keep := fun i h h' st k => st.at fun o e => k it (by simp) o e
  item := by
    intro X hP hw hK hc i pins s σ H E I hf st hg
    subst hP hw hK
    obtain ⟨xs, x, hq, hx⟩ := hg
    obtain ⟨its, rv, p, hz⟩ := I.list hq
    obtain ⟨u, hu, ru⟩ := rv.get hx
    obtain ⟨f0, f1, f2, f3, f4, f5⟩ := hf it (by simp)
    refine wpAny_pyNext_list_item st p.isList (x := u) (by simpa using hu) fun h' st' sb => ?_
    have I1 : Inv X pins σ H { s with heap := h' } := I.turned (t' := s.toks) (fun b o hb e => (sb.2 b hb).trans e) f0 f1 f3 f4 f5
    obtain ⟨o, e, c, d⟩ := id st'
    exact ⟨u, rfl, go_of (s := { s with heap := h' }) e c d (by decide) ⟨x, H, I1, ru, ⟨rfl, fun ys hy => by rw [I.list_inj hy hq]; exact hx⟩, st', fun b hb => (hf b hb).1⟩⟩
  done := by
    intro X hP hw hK hc i pins s σ H E I hf st hg
    subst hP hw hK
    obtain ⟨xs, hq, hx⟩ := hg
    obtain ⟨its, rv, p, hz⟩ := I.list hq
    obtain ⟨f0, f1, f2, f3, f4, f5⟩ := hf it (by simp)
    have hl := rv.length
    exact wpAny_pyNext_list_end (I.ok.hd hc) st p.isList (by simp; omega) fun h' eb => ⟨rfl, I.turned (t' := s.toks) (fun b o hb e => eb b o hb e) f0 f1 f3 f4 f5⟩
  self := fun _ _ _ _ _ st h => wpAny_pyIter_listiter st h
theorem turn_tuple {P : Program} {w : World} {K : PySem.W.Frag} {tg : Expr} (a it : Addr) : Turn P w K tg (Itt K a) [it] it (fun i h => h.IsTupleIter it a i) where
  mem := by simp
  obj := fun i h st b hb => by
    have e : b = it := by simpa using hb
    subst e
    obtain ⟨o, e, c, d⟩ := st
    exact ⟨o, e, fun v z => by rw [d] at z; cases z⟩
  keep := fun i h h' st k => st.at fun o e => k it (by simp) o e
  item := by
    intro X hP hw hK hc i pins s σ H E I hf st hg
    subst hP hw hK
    obtain ⟨xs, x, hq, hx⟩ := hg
    obtain ⟨its, rv, p, hz⟩ := I.tuple hq
    obtain ⟨u, hu, ru⟩ := rv.get hx
    obtain ⟨f0, f1, f2, f3, f4, f5⟩ := hf it (by simp)
    refine wpAny_pyNext_tuple_item st (show s.heap.IsTuple a its.toArray from p) (x := u) (by simpa using hu) fun h' st' sb => ?_
    have I1 : Inv X pins σ H { s with heap := h' } := I.turned (t' := s.toks) (fun b o hb e => (sb.2 b hb).trans e) f0 f1 f3 f4 f5
    obtain ⟨o, e, c, d⟩ := id st'
    exact ⟨u, rfl, go_of (s := { s with heap := h' }) e c d (by decide) ⟨x, H, I1, ru, ⟨rfl, fun ys hy => by rw [I.tuple_inj hy hq]; exact hx⟩, st', fun b hb => (hf b hb).1⟩⟩
  done := by
    intro X hP hw hK hc i pins s σ H E I hf st hg
    subst hP hw hK
    obtain ⟨xs, hq, hx⟩ := hg
    obtain ⟨its, rv, p, hz⟩ := I.tuple hq
    obtain ⟨f0, f1, f2, f3, f4, f5⟩ := hf it (by simp)
    have hl := rv.length
    exact wpAny_pyNext_tuple_end (I.ok.hd hc) st (show s.heap.IsTuple a its.toArray from p) (by simp; omega) fun h' eb => ⟨rfl, I.turned (t' := s.toks) (fun b o hb e => eb b o hb e) f0 f1 f3 f4 f5⟩
  self := fun _ _ _ _ _ st h => wpAny_pyIter_tupleiter st h
theorem turn_range {P : Program} {w : World} {K : PySem.W.Frag} {tg : Expr} (it : Addr) (lo : Int) (n : Nat) : Turn P w K tg (Itr lo n) [it] it (fun i h => IsRangeIter h it (lo + (i : Nat) * 1) ((n : Int) - (i : Nat)) 1) where
  mem := by simp
  obj := fun i h st b hb => by
    have e : b = it := by simpa using hb
    subst e
    exact ⟨_, st, fun v z => by
      have z' : Data.fields _ = Data.cell v := z
      cases z'⟩
  keep := fun i h h' st k => k it (by simp) _ st
  item := by
    intro X hP hw hK hc i pins s σ H E I hf st hg
    subst hP hw hK
    obtain ⟨f0, f1, f2, f3, f4, f5⟩ := hf it (by simp)
    have W := Walks.range (prog := X.prog) (w := X.w) (I.ok.hd hc) it lo 1 n
    refine W.item i s _ _ hg st fun v h' tk hv st' kk => ?_
    obtain ⟨t, rfl⟩ := hv
    have I1 : Inv X pins σ H { s with heap := h', toks := tk } := I.turned (fun b o hb e => kk b o (by simpa using hb) e) f0 f1 f3 f4 f5
    refine ⟨_, rfl, go_of (s := { s with heap := h', toks := tk }) (n := "range_iterator") st' rfl rfl (by decide) ⟨.int (lo + i), H, I1, ⟨t, ?_⟩, ⟨rfl, rfl⟩, st', fun b hb => (hf b hb).1⟩⟩
    rw [Int.mul_one]
  done := by
    intro X hP hw hK hc i pins s σ H E I hf st hg
    subst hP hw hK
    obtain ⟨f0, f1, f2, f3, f4, f5⟩ := hf it (by simp)
    exact wpAny_pyNext_range_end (I.ok.hd hc) st (by have : n ≤ i := hg; omega) fun h' eb => ⟨rfl, I.turned (t' := s.toks) (fun b o hb e => eb b o hb e) f0 f1 f3 f4 f5⟩
  self := fun _ _ _ _ _ st h => wpAny_pyIter_rangeiter st h
end L2
namespace L2
open PySem PySem.Spec PyProof.Rows
section
variable {X : Cx} {tg : Expr}
theorem range_it {pins : List (Addr × Obj)} {σ : St} {H : Hp} {s : Shared} {R : It → Hp → Prop} {E : Value → Shared → Prop} {lo hi : Int} {t u v : Tok} {tk : Nat} (I : Inv X pins σ H s) (h1 : -(2 ^ 62) ≤ lo) (h2 : lo < 2 ^ 62) (h3 : -(2 ^ 62) ≤ hi) (h4 : hi < 2 ^ 62)
    (q : R (Itr lo (hi - lo).toNat) H) : wpAny (model X.prog X.w) X.A (pyIter (.ref s.heap.objs.size)) (PIE X pins σ tg R) E { s with heap := s.heap.push { cls := .type "range", data := .fields #[.int lo t, .int hi u, .int 1 v] }, toks := tk } := by
  refine wpAny_pyIter_range (IsRange.new ..) (small_one h1 h2 h3 h4) ?_
  have I1 : Inv X pins σ H { s with heap := s.heap.push { cls := .type "range", data := .fields #[.int lo t, .int hi u, .int 1 v] }, toks := tk } := I.kept fun b o e => Heap.get?_push_of_some _ e
  refine ⟨(s.heap.push { cls := .type "range", data := .fields #[.int lo t, .int hi u, .int 1 v] }).objs.size, [(s.heap.push { cls := .type "range", data := .fields #[.int lo t, .int hi u, .int 1 v] }).objs.size], _, _, H, rfl,
    I1.kept (t' := tk) fun b o e => Heap.get?_push_of_some _ e, turn_range _ lo (hi - lo).toNat, ?_, fun b hb => ?_, q⟩
  · have e1 : lo + ((0 : Nat) : Int) * 1 = lo := by simp
    have e2 : (((hi - lo).toNat : Nat) : Int) - ((0 : Nat) : Int) = Builtin.Range.rangeSize lo hi 1 := by rw [rangeSize_one]; split <;> omega
    show IsRangeIter _ _ (lo + ((0 : Nat) : Int) * 1) ((((hi - lo).toNat : Nat) : Int) - ((0 : Nat) : Int)) 1
    rw [e1, e2]
    exact Heap.get?_push_size _ rfl
  · have e : b = (s.heap.push { cls := .type "range", data := .fields #[.int lo t, .int hi u, .int 1 v] }).objs.size := by simpa using hb
    subst e
    exact I1.fpOk (Nat.le_refl _) (I1.hok.fresh (Nat.le_refl _))
def iRng1 (ta : TA) : TI := fun σ H R => ta σ H fun vs H1 => ∃ j : Int, vs = [.int j] ∧ -(2 ^ 62) ≤ j ∧ j < 2 ^ 62 ∧ R (Itr 0 j.toNat) H1
theorem pi_range1 {a : Expr} {ta : TA} {p pos : Pos} (hg : Gl X "range") (hm : X.mg "range" = none) (ha : PA X [a] ta) (hs : starEach [a] X.env = [(false, eval a X.env)] := by rfl) : PI X tg (.Call (.Name "range" p) [a] [] pos) (iRng1 ta) := by
  intro pins s σ H R I h
  refine Call_ (ld_blt I hg hm boot_range (PyProof.Rows.callWith_type1 (thn (ha pos pins s σ H _ I h) fun us s1 ⟨vs, H1, I1, r1, q1⟩ => ?_) hs rfl))
  obtain ⟨j, e, q1, q2, q⟩ := q1
  subst e
  cases r1 with
  | cons r rr =>
    cases rr
    obtain ⟨t, rfl⟩ := r
    exact call_range_1 (range_it I1 (by omega) (by omega) q1 q2 (by simpa using q))
def tFor (wi : TI) (g : TG) (tb : TS) : TS := fun D σ H => wi σ H fun J H1 => ∃ W : Nat → Nat → St → Hp → Prop, (∃ m, W 0 m σ H1) ∧ ∀ i m σ H, W i m σ H →
  (J.stop i H ∧ D.nx σ H) ∨ (J.go i H ∧ ∃ N : St → Hp → Prop, (∀ σ' H', N σ' H' → ∃ m', m' < m ∧ W (i + 1) m' σ' H') ∧ ∀ x H', J.yld i H x H' → g x σ H' fun σ2 H2 => tb { D with nx := N, ct := N, bk := D.nx } σ2 H2)
def pinsAt (fp : List Addr) (h : Heap) : List (Addr × Obj) := fp.filterMap fun b => (h.get? b).map fun o => (b, o)
theorem mem_pinsAt {fp : List Addr} {h : Heap} {b : Addr} {o : Obj} (hb : b ∈ fp) (e : h.get? b = some o) : (b, o) ∈ pinsAt fp h := List.mem_filterMap.mpr ⟨b, hb, by rw [e]; rfl⟩
theorem of_pinsAt {fp : List Addr} {h : Heap} {p : Addr × Obj} (hp : p ∈ pinsAt fp h) : p.1 ∈ fp ∧ h.get? p.1 = some p.2 := by
  obtain ⟨b, hb, e⟩ := List.mem_filterMap.mp hp
  cases q : h.get? b with
  | none => rw [q] at e; cases e
  | some o =>
    rw [q] at e
    have e' : (b, o) = p := Option.some.inj e
    subst e'
    exact ⟨hb, q⟩
theorem Inv.pinned {pins : List (Addr × Obj)} {σ : St} {H : Hp} {s : Shared} {fp : List Addr} (I : Inv X pins σ H s) (hf : ∀ b ∈ fp, FpOk X pins H b) (ho : ∀ b ∈ fp, ∃ o, s.heap.get? b = some o ∧ ∀ v, o.data ≠ .cell v) : Inv X (pins ++ pinsAt fp s.heap) σ H s :=
  I.pins_of fun p hp => (List.mem_append.mp hp).elim (fun z => I.pin p (List.mem_append_right _ z)) fun z => by
    obtain ⟨hb, e⟩ := of_pinsAt z
    obtain ⟨f0, f1, f2, _⟩ := hf p.1 hb
    obtain ⟨o, e', d⟩ := ho p.1 hb
    rw [e] at e'; cases e'
    exact ⟨e, f0, f1, f2, d⟩
theorem Inv.unpinned {pins pl : List (Addr × Obj)} {σ : St} {H : Hp} {s : Shared} (I : Inv X (pins ++ pl) σ H s) : Inv X pins σ H s := I.pins_of fun p hp => I.pin p (List.mem_append_right _ (List.mem_append_left _ hp))
theorem ps_for {iter : Expr} {body : List Stmt} {wi : TI} {g : TG} {tb : TS} {pos : Pos} (hp : PassesOwn (model X.prog X.w) X.A X.env X.xe) (hc : X.calm = true) (hi : PI X tg iter wi) (hg : PG X tg g) (hb : PSs X body tb)
    (hs : ∀ x, foldedSetIterable iter X.env x = pure x := by intro _; rfl) : PS X (.For tg iter body [] pos) (tFor wi g tb) := by
  intro pins s σ H D I h
  refine wpAny_For (thn (hi pins s σ H _ I h) fun v s1 h1 => thn h1 fun itv s2 h2 => ?_) hs
  obtain ⟨it, fp, tn, J, H2, e, I2, T, st2, f2, W, ⟨m0, w0⟩, turn⟩ := h2
  subst e
  have stat : ∀ {H' : Hp}, (∀ b ∈ fp, H' b = none) → ∀ b ∈ fp, FpOk X pins H' b := fun hn b hb => ⟨hn b hb, (f2 b hb).2⟩
  refine codeAny_forLoop_any (fun n s' => ∃ i σ' H', Inv X pins σ' H' s' ∧ tn i s'.heap ∧ (∀ b ∈ fp, H' b = none) ∧ W i n σ' H') ?_ m0 ⟨0, σ, H2, I2, st2, fun b hb => (f2 b hb).1, w0⟩
  rintro n s3 ⟨i, σ3, H3, I3, st3, fr3, w3⟩
  rcases turn i n σ3 H3 w3 with ⟨stop, qn⟩ | ⟨go, N, hN, step⟩
  · refine wpAny_passesOwn hp (thn (T.done X rfl rfl rfl hc i pins s3 σ3 H3 X.xe I3 (stat fr3) st3 stop) fun r s4 ⟨hr, I4⟩ => ?_)
    subst hr
    exact wpAny_execs_nil ⟨σ3, H3, I4, qn⟩
  · refine wpAny_passesOwn hp (thn (T.item X rfl rfl rfl hc i pins s3 σ3 H3 X.xe I3 (stat fr3) st3 go) fun r s4 ⟨u, hr, h4⟩ => ?_)
    subst hr
    refine wpAny_passesOwn hp (thn h4 fun _ s5 ⟨x, H5, I5, r5, y5, st5, fr5⟩ => ?_)
    have I5' := I5.pinned (stat fr5) (T.obj _ _ st5)
    refine wpAny_passesOwn hp (thn (hg _ s5 σ3 H5 x u _ I5' r5 (step x H5 y5)) fun _ s6 ⟨σ6, H6, I6, q6⟩ => ?_)
    refine wpAny_passesOwn hp (thn (hb _ s6 σ6 H6 _ I6 q6) fun f s7 q7 => ?_)
    have again : ∀ {σ7 : St} {H7 : Hp}, Inv X (pins ++ pinsAt fp s5.heap) σ7 H7 s7 → N σ7 H7 → ∃ m, m < n ∧ ∃ i σ' H', Inv X pins σ' H' s7 ∧ tn i s7.heap ∧ (∀ b ∈ fp, H' b = none) ∧ W i m σ' H' := fun {σ7 H7} I7 n7 => by
      obtain ⟨m', hm, w7⟩ := hN σ7 H7 n7
      refine ⟨m', hm, i + 1, σ7, H7, I7.unpinned, T.keep _ _ _ st5 fun b hb o e => (I7.pin (b, o) (List.mem_append_right _ (List.mem_append_right _ (mem_pinsAt hb e)))).1, fun b hb => ?_, w7⟩
      obtain ⟨o, e, d⟩ := T.obj _ _ st5 b hb
      exact (I7.pin (b, o) (List.mem_append_right _ (List.mem_append_right _ (mem_pinsAt hb e)))).2.1
    cases f with
    | next => obtain ⟨σ7, H7, I7, n7⟩ := q7; exact again I7 n7
    | cont => obtain ⟨σ7, H7, I7, n7⟩ := q7; exact again I7 n7
    | brk => obtain ⟨σ7, H7, I7, q7⟩ := q7; exact ⟨σ7, H7, I7.unpinned, q7⟩
    | ret v => obtain ⟨x7, σ7, H7, I7, r7, q7⟩ := q7; exact ⟨x7, σ7, H7, I7.unpinned, r7, q7⟩
end
end L2
namespace L2
open PySem PySem.Spec PyProof.Rows
abbrev R2 := V → V → Hp → VK → Prop
def OpR (X : Cx) (f : Value → Value → Sem Value) (r : R2) : Prop :=
  ∀ (pins : List (Addr × Obj)) (s : Shared) (σ : St) (H : Hp) (x y : V) (v u : Value) (Q : VK), Inv X pins σ H s → RelV x v → RelV y u → r x y H Q →
    wpAny (model X.prog X.w) X.A (f v u) (EP X pins σ Q) X.xe s
def UnR (X : Cx) (f : Value → Sem Value) (r : V → Hp → VK → Prop) : Prop :=
  ∀ (pins : List (Addr × Obj)) (s : Shared) (σ : St) (H : Hp) (x : V) (v : Value) (Q : VK), Inv X pins σ H s → RelV x v → r x H Q →
    wpAny (model X.prog X.w) X.A (f v) (EP X pins σ Q) X.xe s
def CallR (X : Cx) (f : Value) (r : List V → Hp → VK → Prop) : Prop :=
  ∀ (pins : List (Addr × Obj)) (s : Shared) (σ : St) (H : Hp) (xs : List V) (us : List Value) (Q : VK), Inv X pins σ H s → Vals xs us → r xs H Q →
    wpAny (model X.prog X.w) X.A (call f us) (EP X pins σ Q) X.xe s
def tOp (r : R2) (ta tb : TE) : TE := fun σ H Q => ta σ H fun x H1 => tb σ H1 fun y H2 => r x y H2 Q
def tUn (r : V → Hp → VK → Prop) (ta : TE) : TE := fun σ H Q => ta σ H fun x H1 => r x H1 Q
def rI (C : Int → Int → Prop) (g : Int → Int → V) : R2 := fun x y H Q => ∃ i j, x = .int i ∧ y = .int j ∧ C i j ∧ Q (g i j) H
def rI0 (g : Int → Int → V) : R2 := fun x y H Q => ∃ i j, x = .int i ∧ y = .int j ∧ Q (g i j) H
def rU (g : Int → V) : V → Hp → VK → Prop := fun x H Q => ∃ i, x = .int i ∧ Q (g i) H
section
variable {X : Cx} {a b c : Expr} {ta tb tc : TE} {pos : Pos}
theorem binT (ha : PE X a ta) (hb : PE X b tb) {pins : List (Addr × Obj)} {s : Shared} {σ : St} {H : Hp} {R : V → V → Hp → Prop} (I : Inv X pins σ H s)
    (h : ta σ H fun x H1 => tb σ H1 fun y H2 => R x y H2) {Q : Value → Shared → Prop} {f : Value → Value → Sem Value}
    (hf : ∀ v u s2 x y H2, Inv X pins σ H2 s2 → RelV x v → RelV y u → R x y H2 → wpAny (model X.prog X.w) X.A (f v u) Q X.xe s2) :
    wpAny (model X.prog X.w) X.A (eval a X.env) (fun v s₁ => wpAny (model X.prog X.w) X.A (eval b X.env) (fun u s₂ => wpAny (model X.prog X.w) X.A (f v u) Q X.xe s₂) X.xe s₁) X.xe s := by
  refine thn (ha pins s σ H _ I h) fun v s1 ⟨x, H1, I1, r1, q1⟩ => ?_
  refine thn (hb pins s1 σ H1 _ I1 q1) fun u s2 ⟨y, H2, I2, r2, q2⟩ => ?_
  exact hf v u s2 x y H2 I2 r1 r2 q2
theorem pe_op {op : Operator} {r : R2} (ho : OpR X (binaryOp op) r) (ha : PE X a ta) (hb : PE X b tb) : PE X (.BinOp a op b pos) (tOp r ta tb) := by
  intro pins s σ H Q I h
  exact wpAny_BinOp (binT ha hb I h fun v u s2 x y H2 I2 rx ry q => ho pins s2 σ H2 x y v u Q I2 rx ry q)
theorem pe_un {op : UnaryOp} {r : V → Hp → VK → Prop} (ho : UnR X (unaryOp op) r) (ha : PE X a ta) : PE X (.UnaryOp op a pos) (tUn r ta) := by
  intro pins s σ H Q I h
  exact UnaryOp_ (thn (ha pins s σ H _ I h) fun v s1 ⟨x, H1, I1, r1, q1⟩ => ho pins s1 σ H1 x v Q I1 r1 q1)
theorem opI {f : Value → Value → Sem Value} {C : Int → Int → Prop} {g : Int → Int → Int}
    (rule : ∀ (i j : Int) (t u : Tok) (s : Shared) (Q : Value → Shared → Prop) (E : Value → Shared → Prop), C i j → Q (.int (g i j) s.toks) { s with toks := s.toks + 1 } → wpAny (model X.prog X.w) X.A (f (.int i t) (.int j u)) Q E s) :
    OpR X f (rI C fun i j => .int (g i j)) := by
  intro pins s σ H x y v u Q I rx ry h
  obtain ⟨i, j, rfl, rfl, hc, q⟩ := h
  obtain ⟨t, rfl⟩ := rx
  obtain ⟨t', rfl⟩ := ry
  exact rule i j t t' s _ _ hc ⟨.int (g i j), H, I.tok _, ⟨_, rfl⟩, q⟩
theorem opI0 {f : Value → Value → Sem Value} {g : Int → Int → Int}
    (rule : ∀ (i j : Int) (t u : Tok) (s : Shared) (Q : Value → Shared → Prop) (E : Value → Shared → Prop), Q (.int (g i j) s.toks) { s with toks := s.toks + 1 } → wpAny (model X.prog X.w) X.A (f (.int i t) (.int j u)) Q E s) :
    OpR X f (rI0 fun i j => .int (g i j)) := by
  intro pins s σ H x y v u Q I rx ry h
  obtain ⟨i, j, rfl, rfl, q⟩ := h
  obtain ⟨t, rfl⟩ := rx
  obtain ⟨t', rfl⟩ := ry
  exact rule i j t t' s _ _ ⟨.int (g i j), H, I.tok _, ⟨_, rfl⟩, q⟩
theorem opB0 {f : Value → Value → Sem Value} {g : Int → Int → Bool}
    (rule : ∀ (i j : Int) (t u : Tok) (s : Shared) (Q : Value → Shared → Prop) (E : Value → Shared → Prop), Q (.bool (g i j)) s → wpAny (model X.prog X.w) X.A (f (.int i t) (.int j u)) Q E s) :
    OpR X f (rI0 fun i j => .bl (g i j)) := by
  intro pins s σ H x y v u Q I rx ry h
  obtain ⟨i, j, rfl, rfl, q⟩ := h
  obtain ⟨t, rfl⟩ := rx
  obtain ⟨t', rfl⟩ := ry
  exact rule i j t t' s _ _ ⟨.bl (g i j), H, I, rfl, q⟩
def CDiv (i j : Int) : Prop := 0 < j ∧ j < 1606938044258990275541962092341162602522202993782792835301376
theorem noPy {i j : Int} (h1 : 0 < j) (h2 : j < 1606938044258990275541962092341162602522202993782792835301376) : Builtin.divisionGoesByPylong i j = false := by
  refine PyProof.noPylong_of_log2 ?_
  have h0 : j.natAbs ≠ 0 := by omega
  have h3 : j.natAbs < 2 ^ 200 := by have : (2 : Nat) ^ 200 = 1606938044258990275541962092341162602522202993782792835301376 := by decide +kernel
                                     omega
  have := (Nat.log2_lt h0).mpr h3
  omega
def CMul (i j : Int) : Prop := (-(2 ^ 64) < i ∧ i < 2 ^ 64) ∨ (-(2 ^ 64) < j ∧ j < 2 ^ 64)
theorem CMul.ok {i j : Int} (h : CMul i j) : IntMulOk i j := by
  rcases h with ⟨h1, h2⟩ | ⟨h1, h2⟩
  · exact .of_left (intBits_le_64 h1 h2)
  · exact .of_right (intBits_le_64 h1 h2)
theorem op_add : OpR X (binaryOp .Add) (rI0 fun i j => .int (i + j)) := opI0 fun _ _ _ _ _ _ _ q => add_int q
theorem op_mul : OpR X (binaryOp .Mult) (rI CMul fun i j => .int (i * j)) := opI fun _ _ _ _ _ _ _ hc q => mul_int q hc.ok
theorem op_fdiv : OpR X (binaryOp .FloorDiv) (rI CDiv fun i j => .int (i / j)) := opI fun i j _ _ _ _ _ hc q => by
  have h1 : (0 : Int) < j := hc.1
  have h2 : j < 1606938044258990275541962092341162602522202993782792835301376 := hc.2
  exact floordiv_int (by omega) (by rw [Int.fdiv_eq_ediv_of_nonneg i (by omega)]; exact q) (.inl (noPy h1 h2))
theorem op_mod : OpR X (binaryOp .Mod) (rI (fun _ j => 0 < j) fun i j => .int (i % j)) := opI fun i j _ _ _ _ _ hc q => by
  have h1 : (0 : Int) < j := hc
  exact mod_int' (by omega) (by rw [Int.fmod_eq_emod_of_nonneg i (by omega)]; exact q)
theorem unI {f : Value → Sem Value} {g : Int → Int}
    (rule : ∀ (i : Int) (t : Tok) (s : Shared) (Q : Value → Shared → Prop) (E : Value → Shared → Prop), Q (.int (g i) s.toks) { s with toks := s.toks + 1 } → wpAny (model X.prog X.w) X.A (f (.int i t)) Q E s) :
    UnR X f (rU fun i => .int (g i)) := by
  intro pins s σ H x v Q I rx h
  obtain ⟨i, rfl, q⟩ := h
  obtain ⟨t, rfl⟩ := rx
  exact rule i t s _ _ ⟨.int (g i), H, I.tok _, ⟨_, rfl⟩, q⟩
theorem un_neg : UnR X (unaryOp .USub) (rU fun i => .int (-i)) := unI fun _ _ _ _ _ q => neg_int q
end
def scal : V → V → Bool
  | .non, .non => true | .non, .int _ => true | .int _, .non => true | .non, .bl _ => true | .bl _, .non => true | .non, .str _ => true | .str _, .non => true
  | .int _, .int _ => true | .bl _, .bl _ => true | .str _, .str _ => true | .byt _, .byt _ => true
  | .int _, .str _ => true | .str _, .int _ => true | .bl _, .str _ => true | .str _, .bl _ => true
  | _, _ => false
def rEq : R2 := fun x y H Q => scal x y = true ∧ Q (.bl (decide (x = y))) H
def rNe : R2 := fun x y H Q => scal x y = true ∧ Q (.bl (!decide (x = y))) H
theorem dec_int {i j : Int} : decide (V.int i = V.int j) = (i == j) := by
  rw [Bool.eq_iff_iff]
  simp
theorem dec_bl {i j : Bool} : decide (V.bl i = V.bl j) = (i == j) := by
  rw [Bool.eq_iff_iff]
  simp
theorem dec_str {i j : Str} : decide (V.str i = V.str j) = (i == j) := by
  rw [Bool.eq_iff_iff]
  simp
theorem dec_byt {i j : Array UInt8} : decide (V.byt i = V.byt j) = (i.toList == j.toList) := by
  rw [Bool.eq_iff_iff]
  cases i
  cases j
  simp
section
variable {X : Cx} {a b c : Expr} {ta tb tc : TE} {pos : Pos}
theorem fin_bl {pins : List (Addr × Obj)} {σ : St} {H : Hp} {s : Shared} {Q : VK} {k k' : Bool} (I : Inv X pins σ H s) (q : Q (.bl k) H) (e : k = k') : EP X pins σ Q (.bool k') s := by
  subst e
  exact ⟨.bl k, H, I, rfl, q⟩
theorem op_eq : OpR X (compareOp .Eq) rEq := by
  intro pins s σ H x y v u Q I rx ry h
  obtain ⟨hs, q⟩ := h
  cases x with
  | non =>
    cases rx
    cases y with
    | non => cases ry; exact PySem.EqNone.eq_none_none (fin_bl I q (by simp))
    | bl j => cases ry; exact PySem.EqNone.eq_none_bool (fin_bl I q (by simp))
    | int j => obtain ⟨t', rfl⟩ := ry; exact PySem.EqNone.eq_none_int (fin_bl I q (by simp))
    | str j => obtain ⟨t', rfl⟩ := ry; exact PySem.EqNone.eq_none_str (fin_bl I q (by simp))
    | _ => exact absurd (show false = true from hs) Bool.false_ne_true
  | bl i =>
    cases rx
    cases y with
    | non => cases ry; exact PySem.EqNone.eq_bool_none (fin_bl I q (by simp))
    | bl j => cases ry; exact eq_bool (fin_bl I q dec_bl)
    | str j => obtain ⟨t', rfl⟩ := ry; exact PySem.EqMixed.eq_bool_str (fin_bl I q (by simp))
    | _ => exact absurd (show false = true from hs) Bool.false_ne_true
  | int i =>
    obtain ⟨t, rfl⟩ := rx
    cases y with
    | non => cases ry; exact PySem.EqNone.eq_int_none (fin_bl I q (by simp))
    | int j => obtain ⟨t', rfl⟩ := ry; exact eq_int (fin_bl I q dec_int)
    | str j => obtain ⟨t', rfl⟩ := ry; exact PySem.EqMixed.eq_int_str (fin_bl I q (by simp))
    | _ => exact absurd (show false = true from hs) Bool.false_ne_true
  | str i =>
    obtain ⟨t, rfl⟩ := rx
    cases y with
    | non => cases ry; exact PySem.EqNone.eq_str_none (fin_bl I q (by simp))
    | bl j => cases ry; exact PySem.EqMixed.eq_str_bool (fin_bl I q (by simp))
    | int j => obtain ⟨t', rfl⟩ := ry; exact PySem.EqMixed.eq_str_int (fin_bl I q (by simp))
    | str j => obtain ⟨t', rfl⟩ := ry; exact eq_str (fin_bl I q dec_str)
    | _ => exact absurd (show false = true from hs) Bool.false_ne_true
  | byt i =>
    obtain ⟨t, rfl⟩ := rx
    cases y with
    | byt j => obtain ⟨t', rfl⟩ := ry; exact PySem.W.eq_bytes (fin_bl I q dec_byt)
    | _ => exact absurd (show false = true from hs) Bool.false_ne_true
  | _ => cases y <;> exact absurd (show false = true from hs) Bool.false_ne_true
theorem op_ne : OpR X (compareOp .NotEq) rNe := by
  intro pins s σ H x y v u Q I rx ry h
  obtain ⟨hs, q⟩ := h
  cases x with
  | non =>
    cases rx
    cases y with
    | non => cases ry; exact PySem.EqNone.ne_none_none (fin_bl I q (by simp))
    | bl j => cases ry; exact PySem.EqNone.ne_none_bool (fin_bl I q (by simp))
    | int j => obtain ⟨t', rfl⟩ := ry; exact PySem.EqNone.ne_none_int (fin_bl I q (by simp))
    | str j => obtain ⟨t', rfl⟩ := ry; exact PySem.EqNone.ne_none_str (fin_bl I q (by simp))
    | _ => exact absurd (show false = true from hs) Bool.false_ne_true
  | bl i =>
    cases rx
    cases y with
    | non => cases ry; exact PySem.EqNone.ne_bool_none (fin_bl I q (by simp))
    | bl j => cases ry; exact ne_bool (fin_bl I q (congrArg not dec_bl))
    | str j => obtain ⟨t', rfl⟩ := ry; exact PySem.EqMixed.ne_bool_str (fin_bl I q (by simp))
    | _ => exact absurd (show false = true from hs) Bool.false_ne_true
  | int i =>
    obtain ⟨t, rfl⟩ := rx
    cases y with
    | non => cases ry; exact PySem.EqNone.ne_int_none (fin_bl I q (by simp))
    | int j => obtain ⟨t', rfl⟩ := ry; exact ne_int (fin_bl I q (congrArg not dec_int))
    | str j => obtain ⟨t', rfl⟩ := ry; exact PySem.EqMixed.ne_int_str (fin_bl I q (by simp))
    | _ => exact absurd (show false = true from hs) Bool.false_ne_true
  | str i =>
    obtain ⟨t, rfl⟩ := rx
    cases y with
    | non => cases ry; exact PySem.EqNone.ne_str_none (fin_bl I q (by simp))
    | bl j => cases ry; exact PySem.EqMixed.ne_str_bool (fin_bl I q (by simp))
    | int j => obtain ⟨t', rfl⟩ := ry; exact PySem.EqMixed.ne_str_int (fin_bl I q (by simp))
    | str j => obtain ⟨t', rfl⟩ := ry; exact ne_str (fin_bl I q (congrArg not dec_str))
    | _ => exact absurd (show false = true from hs) Bool.false_ne_true
  | byt i =>
    obtain ⟨t, rfl⟩ := rx
    cases y with
    | byt j => obtain ⟨t', rfl⟩ := ry; exact PySem.W.ne_bytes (fin_bl I q (congrArg not dec_byt))
    | _ => exact absurd (show false = true from hs) Bool.false_ne_true
  | _ => cases y <;> exact absurd (show false = true from hs) Bool.false_ne_true
theorem op_lt : OpR X (compareOp .Lt) (rI0 fun i j => .bl (decide (i < j))) := opB0 fun _ _ _ _ _ _ _ q => lt_int q
theorem op_gt : OpR X (compareOp .Gt) (rI0 fun i j => .bl (decide (j < i))) := opB0 fun _ _ _ _ _ _ _ q => gt_int q
theorem op_ge : OpR X (compareOp .GtE) (rI0 fun i j => .bl (decide (j ≤ i))) := opB0 fun _ _ _ _ _ _ _ q => ge_int q
theorem op_isN : OpR X (compareOp .Is) (fun x y H Q => y = .non ∧ Q (.bl (decide (x = .non))) H) := by
  intro pins s σ H x y v u Q I rx ry h
  obtain ⟨rfl, q⟩ := h
  cases ry
  refine is_none_gen (fin_bl I q ?_)
  cases x <;> first
    | (cases rx; rfl)
    | (obtain ⟨t, rfl⟩ := rx; rfl)
theorem OpR.or {f : Value → Value → Sem Value} {r r' : R2} (h : OpR X f r) (h' : OpR X f r') : OpR X f (fun x y H Q => r x y H Q ∨ r' x y H Q) := by
  intro pins s σ H x y v u Q I rx ry q
  rcases q with q | q
  · exact h pins s σ H x y v u Q I rx ry q
  · exact h' pins s σ H x y v u Q I rx ry q
theorem nomark (b : Expr) {op : CmpOp} (h : op ≠ .In := by decide) (h2 : op ≠ .NotIn := by decide) : behindInMarks op b = false := by
  have e1 : (op == CmpOp.In) = false := by cases op <;> first | rfl | exact absurd rfl h
  have e2 : (op == CmpOp.NotIn) = false := by cases op <;> first | rfl | exact absurd rfl h2
  cases b <;> simp [behindInMarks, e1, e2]
theorem pe_cmpR {op : CmpOp} {r : R2} (ho : OpR X (compareOp op) r) (ha : PE X a ta) (hb : PE X b tb) (hm : behindInMarks op b = false) : PE X (.Compare a [op] [b] pos) (tOp r ta tb) := by
  intro pins s σ H Q I h
  exact wpAny_Compare1 (binT ha hb I h fun v u s2 x y H2 I2 rx ry q => ho pins s2 σ H2 x y v u Q I2 rx ry q) hm
def tTest (t : TE) : TT := fun σ H Q => t σ H fun x H' => ∃ k, x = .bl k ∧ Q k H'
theorem pt_cmpR {op : CmpOp} {r : R2} (ho : OpR X (compareOp op) r) (ha : PE X a ta) (hb : PE X b tb) (hm : behindInMarks op b = false) : PT X (.Compare a [op] [b] pos) (tTest (tOp r ta tb)) := by
  intro pins s σ H Q I h
  refine wpAny_isTrue_Compare1 (thn (ha pins s σ H _ I h) fun v s1 ⟨x, H1, I1, r1, q1⟩ => thn (hb pins s1 σ H1 _ I1 q1) fun u s2 ⟨y, H2, I2, r2, q2⟩ =>
    thn (ho pins s2 σ H2 x y v u _ I2 r1 r2 q2) fun c s3 ⟨z, H3, I3, r3, k, e, q3⟩ => ?_) hm
  subst e
  cases r3
  exact wpAny_truthy_bool ⟨H3, I3, q3⟩
theorem line63 : (sizeLine : Nat) < 2 ^ 63 := by rw [sizeLine_eq]; decide
theorem op_add_str : OpR X (binaryOp .Add) (fun x y H Q => ∃ i j, x = .str i ∧ y = .str j ∧ i.length + j.length ≤ sizeLine ∧ Q (.str (i ++ j)) H) := by
  intro pins s σ H x y v u Q I rx ry h
  obtain ⟨i, j, rfl, rfl, hz, q⟩ := h
  obtain ⟨t, rfl⟩ := rx
  obtain ⟨t', rfl⟩ := ry
  exact add_str (fun t' tk => ⟨.str (i ++ j), H, I.tok _, ⟨_, rfl⟩, q⟩) hz
theorem vals1 {x : V} {us : List Value} (r : Vals [x] us) : ∃ u, us = [u] ∧ RelV x u := by
  cases r with
  | cons r1 r2 => cases r2; exact ⟨_, rfl, r1⟩
theorem vals2 {x y : V} {us : List Value} (r : Vals [x, y] us) : ∃ u w', us = [u, w'] ∧ RelV x u ∧ RelV y w' := by
  cases r with
  | cons r1 r2 =>
    cases r2 with
    | cons r3 r4 => cases r4; exact ⟨_, _, rfl, r1, r3⟩
theorem call_abs : CallR X (.builtin "abs") (fun xs H Q => ∃ i, xs = [.int i] ∧ Q (.int (if i < 0 then -i else i)) H) := by
  intro pins s σ H xs us Q I r h
  obtain ⟨i, rfl, q⟩ := h
  obtain ⟨u, rfl, t, rfl⟩ := vals1 r
  exact call_abs_int fun u tk => ⟨.int (if i < 0 then -i else i), H, I.tok _, ⟨_, rfl⟩, q⟩
theorem call_max2 (hc : X.calm = true) : CallR X (.builtin "max") (fun xs H Q => ∃ i j, xs = [.int i, .int j] ∧ Q (.int (if j > i then j else i)) H) := by
  intro pins s σ H xs us Q I r h
  obtain ⟨i, j, rfl, q⟩ := h
  obtain ⟨u, w', rfl, ⟨t, rfl⟩, ⟨t', rfl⟩⟩ := vals2 r
  refine max_two_ints (I.ok.hd hc) fun h' tk k => ⟨_, H, I.kept k, ?_, q⟩
  by_cases hj : j > i
  · rw [if_pos hj, if_pos hj]; exact ⟨_, rfl⟩
  · rw [if_neg hj, if_neg hj]; exact ⟨_, rfl⟩
theorem call_min2 (hc : X.calm = true) : CallR X (.builtin "min") (fun xs H Q => ∃ i j, xs = [.int i, .int j] ∧ Q (.int (if j < i then j else i)) H) := by
  intro pins s σ H xs us Q I r h
  obtain ⟨i, j, rfl, q⟩ := h
  obtain ⟨u, w', rfl, ⟨t, rfl⟩, ⟨t', rfl⟩⟩ := vals2 r
  refine min_two_ints (I.ok.hd hc) fun h' tk k => ⟨_, H, I.kept k, ?_, q⟩
  by_cases hj : j < i
  · rw [if_pos hj, if_pos hj]; exact ⟨_, rfl⟩
  · rw [if_neg hj, if_neg hj]; exact ⟨_, rfl⟩
theorem call_divmod : CallR X (.builtin "divmod") (fun xs H Q => ∃ i j, xs = [.int i, .int j] ∧ CDiv i j ∧ ∀ p, H p = none → Q (.ref p) (upd H p (.tup [.int (i / j), .int (i % j)]))) := by
  intro pins s σ H xs us Q I r h
  obtain ⟨i, j, rfl, ⟨h1, h2⟩, q⟩ := h
  obtain ⟨u, w', rfl, ⟨t, rfl⟩, ⟨t', rfl⟩⟩ := vals2 r
  refine divmod_int (by omega) ?_ (.inl (noPy h1 h2))
  rw [Int.fdiv_eq_ediv_of_nonneg i (by omega), Int.fmod_eq_emod_of_nonneg i (by omega)]
  have hn : H s.heap.objs.size = none := I.hok.fresh (Nat.le_refl _)
  refine ⟨.ref s.heap.objs.size, _, ?_, rfl, q _ hn⟩
  refine I.laid (fun b o e => Heap.get?_push_of_some _ e) (Nat.le_refl _) ⟨by simp only [List.length_cons, List.length_nil]; rw [sizeLine_eq]; decide, [.int (i / j) s.toks, .int (i % j) (s.toks + 1)], .cons ⟨_, rfl⟩ (.cons ⟨_, rfl⟩ .nil), ?_⟩
  exact ⟨_, Heap.get?_push_size s.heap rfl, rfl, 0, rfl⟩
end
end L2
namespace L2
open PySem PySem.Spec PyProof.Rows
structure ObjM (h : Heap) (x dx C : Addr) (mA : Str → Option Value) : Prop where
  obj : h.get? x = some (PySem.W.instObj C dx)
  ns : h.Ns1 dx mA
  ne : dx ≠ x
theorem lookIn_ns {h : Heap} {dx : Addr} {mA : Str → Option Value} (n : h.Ns1 dx mA) : ∃ od, h.get? dx = some od ∧ ∀ name, PySem.W.lookIn name od = some (mA name) := by
  obtain ⟨o, es, ep, ho, hd, hk, _, hm⟩ := n
  refine ⟨o, ho, fun name => ?_⟩
  have e := hm name
  unfold nsFind findBy at e
  rw [← Array.find?_toList] at e
  unfold PySem.W.lookIn
  rw [hd]
  dsimp only
  split
  · rename_i y q
    rw [q] at e
    exact congrArg some e
  · rename_i q
    rw [q] at e
    have a : es.toList.any (·.refKey) = false := by
      rw [List.any_eq_false]
      intro y hy
      obtain ⟨z, t, hkey⟩ := hk y (Array.mem_toList_iff.mp hy)
      simp [DictEntry.refKey, hkey]
    have a' : ¬ es.toList.any (·.refKey) = true := by rw [a]; exact Bool.false_ne_true
    rw [if_neg a']
    exact congrArg some e
theorem ObjM.look {h : Heap} {x dx C : Addr} {mA : Str → Option Value} (I : ObjM h x dx C mA) : ∃ od, PySem.W.InstAt h x (PySem.W.instObj C dx) C (some od) ∧ ∀ name, PySem.W.lookIn name od = some (mA name) :=
  let ⟨od, ho, hl⟩ := lookIn_ns I.ns
  ⟨od, ⟨I.obj, rfl, rfl, ho⟩, hl⟩
section
variable {prog : Program} {w : World} {A : Around} {E : Value → Shared → Prop} {s : Shared} {K : PySem.W.Frag} {x dx C f : Addr} {mA : Str → Option Value} {name : Str} {v : Value}
end
def putF (f : Str) (v : V) : List (Str × V) → List (Str × V)
  | [] => [(f, v)]
  | (g, x) :: r => if g = f then (g, v) :: r else (g, x) :: putF f v r
section
variable {P : Program} {w : World} {H H' : Hp} {h h' : Heap} {a C dx : Addr} {fs fs' : List (Str × V)}
theorem ins_get (hok : HOk P w H h) (e : H a = some (.ins C dx fs)) : ∃ mA, ObjM h a dx C mA ∧ (∀ f, RelO (fs.lookup f) (mA f)) ∧ PySem.Within mA (fs.map (·.1)) ∧ fs.length ≤ 1000 ∧ H dx = some (.own a) := by
  obtain ⟨d, z, ne, ob, mA, n, r, q⟩ := (show ObjOk P w H h a (.ins C dx fs) from hok a _ e)
  exact ⟨mA, ⟨ob, n, ne⟩, r, q, z, d⟩
end
structure Cls (K : PySem.W.Frag) (C : Addr) : Prop where
  pg : PySem.W.plainGet K C Str.empty = true
  hd : PySem.W.hasDictIn K C = true
  po : PySem.W.plainOver K C = true
  sa : PySem.W.findIn K (.ref C) "__setattr__" = some (some (.builtin "object.__setattr__"))
theorem Cls.get {K : PySem.W.Frag} {C : Addr} (c : Cls K C) (f : Str) : PySem.W.plainGet K C f = true := c.pg
structure Con (K : PySem.W.Frag) (C : Addr) (f : Str) (v : V) (u : Value) : Prop where
  at_ : PySem.W.findIn K (.ref C) f = some (some u)
  rel : RelV v u
  get : PySem.W.specialIn K u "__get__" = some none
  cp : PySem.W.copiedNames.contains f = false
structure Meth (K : PySem.W.Frag) (C : Addr) (m : Str) (f : Addr) : Prop where
  at_ : PySem.W.findIn K (.ref C) m = some (some (.ref f))
  fn : PySem.W.isFn K (.ref f) = true
  kp : PySem.W.keepIn K (.ref f) = true
section
variable {X : Cx} {pins : List (Addr × Obj)} {σ : St} {H : Hp} {s : Shared} {a C dx : Addr} {fs : List (Str × V)} {f : Str} {v : V} {A : Around} {E : Value → Shared → Prop}
end
section
variable {X : Cx} {o e value : Expr} {f : Str} {pos pos' tpos : Pos} {ta tv : TE}
end
section
variable {X : Cx} {pins : List (Addr × Obj)} {σ : St} {H : Hp} {s : Shared} {A : Around} {E : Value → Shared → Prop} {Q : Value → Shared → Prop} {c : Value} {b : Bool}
inductive TyOf (K : PySem.W.Frag) (H : Hp) : V → Value → Prop where
  | non : TyOf K H .non (.type "NoneType")
  | bl (x : Bool) : TyOf K H (.bl x) (.type "bool")
  | int (i : Int) : TyOf K H (.int i) (.type "int")
  | str (x : Str) : TyOf K H (.str x) (.type "str")
  | flt (x : UInt64) : TyOf K H (.flt x) (.type "float")
  | lst {a : Addr} {xs : List V} (e : H a = some (.lst xs)) : TyOf K H (.ref a) (.type "list")
  | frz {a : Addr} {o : Obj} {xs : List V} (e : H a = some (.frz o (.lst xs))) : TyOf K H (.ref a) (.type "list")
  | tup {a : Addr} {xs : List V} (e : H a = some (.tup xs)) : TyOf K H (.ref a) (.type "tuple")
  | dK {a : Addr} {kvs : List (Key × V)} (e : H a = some (.dK kvs)) : TyOf K H (.ref a) (.type "dict")
  | dT {a : Addr} {kvs : List (List Key × V)} (e : H a = some (.dT kvs)) : TyOf K H (.ref a) (.type "dict")
  | ins {a C dx : Addr} {fs : List (Str × V)} (e : H a = some (.ins C dx fs)) (cl : Cls K C) (ha : PySem.W.findIn K (.ref C) "__class__" = some (some (.builtin "object.__class__")))
      (hn : PySem.W.specialIn K (.builtin "object.__class__") "__get__" = some (some (.builtin "getset_descriptor.__get__"))) (htk : PySem.W.takesIn K (.builtin "object.__class__") = some true)
      (hm : PySem.W.mroIn K C (.type "object") = some true) : TyOf K H (.ref a) (.ref C)
theorem isinst_ok {x : V} {u t : Value} (I : Inv X pins σ H s) (rx : RelV x u) (ty : TyOf X.K H x t) (e : PySem.W.kitOne X.K t c = some b) (h : ∀ tk, Q (.bool b) { s with toks := tk }) :
    wpAny (model X.prog X.w) A (call (.builtin "isinstance") [u, c]) Q E s := by
  cases ty with
  | non => cases (show u = Value.none from rx); exact PySem.W.kia_one PySem.W.kitx_none I.kIn True.intro e (fun z => nomatch z) h
  | bl y => cases (show u = Value.bool y from rx); exact PySem.W.kia_one PySem.W.kitx_bool I.kIn True.intro e (fun z => nomatch z) h
  | int i => obtain ⟨t, q⟩ := (show ∃ t, u = Value.int i t from rx); cases q; exact PySem.W.kia_one PySem.W.kitx_int I.kIn True.intro e (fun z => nomatch z) h
  | str y => obtain ⟨t, q⟩ := (show ∃ t, u = Value.str y t from rx); cases q; exact PySem.W.kia_one PySem.W.kitx_str I.kIn True.intro e (fun z => nomatch z) h
  | flt y => obtain ⟨t, q⟩ := (show ∃ t, u = Value.float y t from rx); cases q; exact PySem.W.kia_one PySem.W.kitx_float I.kIn True.intro e (fun z => nomatch z) h
  | @lst a xs ea =>
    cases (show u = Value.ref a from rx)
    obtain ⟨_, _, n, _, h1⟩ := (show ObjOk X.prog X.w H s.heap a (.lst xs) from I.hok a _ ea)
    exact PySem.W.kia_one PySem.W.kitx_list I.kIn ⟨_, h1, rfl⟩ e (fun z => nomatch z) h
  | @frz a ob xs ea =>
    cases (show u = Value.ref a from rx)
    obtain ⟨_, _, _, n, _, h1⟩ := (show ObjOk X.prog X.w H s.heap a (.frz ob (.lst xs)) from I.hok a _ ea)
    exact PySem.W.kia_one PySem.W.kitx_list I.kIn ⟨_, h1, rfl⟩ e (fun z => nomatch z) h
  | @tup a xs ea =>
    cases (show u = Value.ref a from rx)
    obtain ⟨_, _, _, p⟩ := (show ObjOk X.prog X.w H s.heap a (.tup xs) from I.hok a _ ea)
    obtain ⟨o, h1, h2, _⟩ := p
    exact PySem.W.kia_one PySem.W.kitx_tuple I.kIn ⟨o, h1, h2⟩ e (fun z => nomatch z) h
  | @dK a kvs ea =>
    cases (show u = Value.ref a from rx)
    obtain ⟨_, _, vs, _, p⟩ := (show ObjOk X.prog X.w H s.heap a (.dK kvs) from I.hok a _ ea)
    obtain ⟨o, es, ep, h1, h2, _⟩ := p
    exact PySem.W.kia_one PySem.W.kitx_dict I.kIn ⟨o, h1, h2.1⟩ e (fun z => nomatch z) h
  | @dT a kvs ea =>
    cases (show u = Value.ref a from rx)
    obtain ⟨_, _, xs, _, o, es, ep, h1, h2, _⟩ := (show ObjOk X.prog X.w H s.heap a (.dT kvs) from I.hok a _ ea)
    exact PySem.W.kia_one PySem.W.kitx_dict I.kIn ⟨o, h1, h2.1⟩ e (fun z => nomatch z) h
  | @ins a C dx fs ea cl ha hn htk hm =>
    cases (show u = Value.ref a from rx)
    obtain ⟨mA, O, _⟩ := ins_get I.hok ea
    obtain ⟨od, J, _⟩ := O.look
    exact PySem.W.kia_one (PySem.W.kitx_own (cl.get _) cl.hd ha hn htk hm) I.kIn J e (fun z => nomatch z) h
end
end L2
namespace L2
open PySem PySem.Spec PyProof.Rows
structure Room (k : Nat) (A : Around) : Prop where
  hd : A.handled = none
  dp : A.depth + 3 * k + 5 < recursionLimit
  un : A.units + 16 * k + 200 < cLine
  gd : A.guards = some []
theorem Room.mono {j k : Nat} {A : Around} (r : Room k A) (h : j ≤ k) : Room j A := ⟨r.hd, by have := r.dp; omega, by have := r.un; omega, r.gd⟩
theorem Room.deeper {k : Nat} {A : Around} (r : Room (k + 1) A) (env : Env) : Room k (A.deeper env) :=
  ⟨r.hd, by have := r.dp; show A.depth + 1 + 3 * k + 5 < _; omega, by have := r.un; show A.units + 3 + 16 * k + 200 < _; omega, r.gd⟩
theorem Room.depth {k : Nat} {A : Around} (r : Room k A) : A.depth < recursionLimit := by have := r.dp; omega
theorem Room.units {k : Nat} {A : Around} (r : Room k A) : A.units + 64 < cLine := by have := r.un; omega
def tNil : TA := fun _ H Q => Q [] H
def tCons (ta : TE) (tr : TA) : TA := fun σ H Q => ta σ H fun x H1 => tr σ H1 fun xs H2 => Q (x :: xs) H2
section
variable {X : Cx} {e : Expr} {es : List Expr} {te : TE} {t : TA} {pos : Pos}
theorem pa_nil : PA X [] tNil := fun _ _ _ _ H Q I h => Calls.spliced_nil ⟨[], H, I, .nil, h⟩
theorem pa_cons (ha : PE X e te) (hr : PA X es t) (hs : starEach (e :: es) X.env = (false, eval e X.env) :: starEach es X.env := by rfl) : PA X (e :: es) (tCons te t) := by
  intro pos pins s σ H Q I h
  rw [hs]
  show wpAny _ _ (spliced ((false, eval e X.env) :: backTo pos (starEach es X.env))) _ _ s
  refine Calls.spliced_cons (thn (ha pins s σ H _ I h) fun u s1 ⟨x, H1, I1, r1, q1⟩ => ?_)
  exact thn (hr pos pins s1 σ H1 _ I1 q1) fun us s2 ⟨xs, H2, I2, r2, q2⟩ => ⟨x :: xs, H2, I2, .cons r1 r2, q2⟩
def tTup (t : TA) : TE := fun σ H Q => t σ H fun xs H1 => xs.length ≤ sizeLine ∧ ∀ p, H1 p = none → Q (.ref p) (upd H1 p (.tup xs))
def tLst (t : TA) : TE := fun σ H Q => t σ H fun xs H1 => xs.length ≤ sizeLine ∧ ∀ p, H1 p = none → Q (.ref p) (upd H1 p (.lst xs))
theorem pe_tup {x1} (h : PA X es t) : PE X (.Tuple es x1 pos) (tTup t) := by
  intro pins s σ H Q I hq
  refine wpAny_Tuple_spliced (thn (h pos pins s σ H _ I hq) fun us s1 ⟨xs, H1, I1, r, z, q⟩ => ⟨by rw [← r.length]; exact z, ?_⟩)
  have hf : H1 s1.heap.objs.size = none := I1.hok.fresh (Nat.le_refl _)
  refine ⟨.ref s1.heap.objs.size, upd H1 s1.heap.objs.size (.tup xs), I1.laid (t' := s1.toks) (fun b u e => Heap.get?_push_of_some _ e) (Nat.le_refl _) ?_, rfl, q _ hf⟩
  exact ⟨z, us, r, ⟨_, Heap.get?_push_size _ rfl, rfl, _, rfl⟩⟩
theorem pe_lst (h : PA X es t) : PE X (.List es pos) (tLst t) := by
  intro pins s σ H Q I hq
  refine wpAny_List_spliced (thn (h pos pins s σ H _ I hq) fun us s1 ⟨xs, H1, I1, r, z, q⟩ => ⟨by rw [← r.length]; exact z, ?_⟩)
  have hf : H1 s1.heap.objs.size = none := I1.hok.fresh (Nat.le_refl _)
  refine ⟨.ref s1.heap.objs.size, upd H1 s1.heap.objs.size (.lst xs), I1.laid (t' := s1.toks) (fun b u e => Heap.get?_push_of_some _ e) (Nat.le_refl _) ?_, rfl, q _ hf⟩
  exact ⟨z, us, 0, r, Heap.get?_push_size _ rfl⟩
end
abbrev Sp := List V → Hp → VK → XK → Prop
abbrev CXT := List Env → Hp → Shared → XK → Value → Shared → Prop
structure Env0 (P : Program) (w : World) (K : PySem.W.Frag) (mg : Str → Option Value) (base : Heap) (A : Around) (outer : List Env) (s : Shared) (H : Hp) : Prop where
  frames : A.frames = some outer
  mod : Mod K mg base
  bs : ∀ b o, base.get? b = some o → s.heap.get? b = some o ∧ H b = none
  bsz : base.objs.size ≤ s.heap.objs.size
  funs : s.heap.FunFrames base outer
  frf : ∀ b ∈ frs outer, H b = none
  hok : HOk P w H s.heap
  bare : AllBare s.gens
def CE (outer : List Env) (P : Program) (w : World) (H : Hp) (s : Shared) (Q : VK) (u : Value) (s' : Shared) : Prop :=
  ∃ v H', s'.os = s.os ∧ AllBare s'.gens ∧ Un (frs outer) [] H H' s.heap s'.heap ∧ HOk P w H' s'.heap ∧ RelV v u ∧ Q v H'
def CR (CX : CXT) (outer : List Env) (P : Program) (w : World) (H : Hp) (s : Shared) (Q : VK) (E : XK) (r : Result) (s' : Shared) : Prop :=
  match r with
  | .ok (.ret u) => CE outer P w H s Q u s'
  | .ok _ => False
  | .error e => CX outer H s E e s'
structure FnOk (P : Program) (w : World) (K : PySem.W.Frag) (mg : Str → Option Value) (base : Heap) (CX : CXT) (k : Nat) (f : Addr) (fd : FuncData) (ps : List Str) (sp : Sp) : Prop where
  len : ∀ vs H Q E, sp vs H Q E → vs.length = ps.length
  run : ∀ (A : Around) (outer : List Env) (s : Shared) (H : Hp) (args : Args) (us : List Value) (vs : List V) (Q : VK) (E : XK), Room k A → Env0 P w K mg base A outer s H → BindsTo s fd args (ps.zip us) → Vals vs us → sp vs H Q E →
    codeAny (model P w) A (.call (.ref f) args) (CR CX outer P w H s Q E) s
theorem FnOk.mono {P : Program} {w : World} {K : PySem.W.Frag} {mg : Str → Option Value} {base : Heap} {CX : CXT} {j k : Nat} {f : Addr} {fd : FuncData} {ps : List Str} {sp : Sp} (F : FnOk P w K mg base CX j f fd ps sp) (h : j ≤ k) :
    FnOk P w K mg base CX k f fd ps sp := ⟨F.len, fun A outer s H args us vs Q E hr => F.run A outer s H args us vs Q E (hr.mono h)⟩
section
variable {X : Cx} {pins : List (Addr × Obj)} {σ : St} {H : Hp} {s s' : Shared}
theorem Inv.env0 (I : Inv X pins σ H s) : Env0 X.prog X.w X.K X.mg X.base X.A X.stack s H :=
  ⟨I.ok.frames, I.ok.mod, I.bs, Nat.le_trans I.ok.bsz I.sz, I.stack, I.stkFree, I.hok, I.bare⟩
theorem Inv.after {Q : VK} {u : Value} (I : Inv X pins σ H s) (h : CE X.stack X.prog X.w H s Q u s') : EP X pins σ Q u s' := by
  obtain ⟨v, H', os, bare, un, hok, r, q⟩ := h
  obtain ⟨hh, g, d, t, os'⟩ := s'
  obtain rfl : os' = s.os := os
  exact ⟨v, H', I.call (h' := hh) (g' := g) (d' := d) (t' := t) (ch := []) un hok bare (fun b z => absurd z (by simp)), r, q⟩
end
def tCall (sp : Sp) (dvs : List V) (E : XK) (t : TA) : TE := fun σ H Q => t σ H fun vs H1 => sp (vs ++ dvs) H1 Q E
def Binds (K : PySem.W.Frag) (fd : FuncData) (ps : List Str) (ds : List Value) : Prop :=
  ∀ (s : Shared) (us : List Value), K.In s.heap → (us ++ ds).length = ps.length → BindsTo s fd ⟨us, []⟩ (ps.zip (us ++ ds))
theorem Binds.all {K : PySem.W.Frag} {fd : FuncData} {ps : List Str} (h : ∀ us : List Value, us.length = ps.length → bindArgs fd ⟨us, []⟩ = pure (ps.zip us)) : Binds K fd ps [] := fun s us _ hl => by
  rw [List.append_nil] at hl ⊢
  exact .of_eq (h us hl)
def Passes (CX : CXT) (X : Cx) (E : XK) : Prop := ∀ (pins : List (Addr × Obj)) (σ : St) (H : Hp) (s : Shared) (e : Value) (s' : Shared), Inv X pins σ H s → CX X.stack H s E e s' → X.xe e s'
section
variable {X : Cx} {CX : CXT} {k : Nat} {f C : Addr} {fd : FuncData} {ps : List Str} {sp : Sp} {dvs : List V} {ds : List Value} {E : XK} {x m : Str} {p pos apos : Pos} {e o : Expr} {es : List Expr} {ta : TE} {t : TA}
theorem run_fn {pins : List (Addr × Obj)} {σ : St} {H : Hp} {s : Shared} {Q : VK} {us : List Value} {vs : List V} (F : FnOk X.prog X.w X.K X.mg X.base CX k f fd ps sp) (hr : Room k X.A) (hb : Binds X.K fd ps ds) (hd : Vals dvs ds) (hx : Passes CX X E)
    (I : Inv X pins σ H s) (r : Vals vs us) (h : sp (vs ++ dvs) H Q E) : wpAny (model X.prog X.w) X.A (call (.ref f) us) (EP X pins σ Q) X.xe s := by
  have r2 : Vals (vs ++ dvs) (us ++ ds) := r.append hd
  have hl : (us ++ ds).length = ps.length := by rw [← r2.length]; exact F.len _ _ _ _ h
  refine wpAny_call (codeAny_mono (F.run X.A X.stack s H ⟨us, []⟩ (us ++ ds) (vs ++ dvs) Q E hr I.env0 (hb s us I.kIn hl) r2 h) fun r s' hq => ?_)
  cases r with
  | error e => exact hx pins σ H s e s' I hq
  | ok fl =>
    cases fl with
    | ret u => exact I.after hq
    | next => exact False.elim hq
    | brk => exact False.elim hq
    | cont => exact False.elim hq
theorem pe_call (F : FnOk X.prog X.w X.K X.mg X.base CX k f fd ps sp) (hr : Room k X.A) (hg : Gl X x) (hm : X.mg x = some (.ref f)) (hk : PySem.W.keepIn X.K (.ref f) = true) (hb : Binds X.K fd ps ds) (hd : Vals dvs ds) (hx : Passes CX X E)
    (ha : PA X (e :: es) t) (hdb : (x == ("__debug__" : Str)) = false := by decide) (he : starEach (e :: es) X.env = (false, eval e X.env) :: starEach es X.env := by rfl) (hpl : (backTo pos (starEach es X.env)).any (·.1) = false := by rfl) :
    PE X (.Call (.Name x p) (e :: es) [] pos) (tCall sp dvs E t) := by
  intro pins s σ H Q I h
  refine wpAny_Call_Name_kw (ld_glob I hg hm ?_ hdb)
  refine PySem.W.callWith_K (h₀ := X.base) I.ok.mod.kin hk (thn (ha pos pins s σ H _ I h) fun us s1 ⟨vs, H1, I1, r, q⟩ => ⟨I1.kIn, ?_⟩) he hpl
  exact run_fn F hr hb hd hx I1 r q
structure Mk (K : PySem.W.Frag) (C f : Addr) : Prop where
  makes : PySem.W.makesIn K C = true
  init : PySem.W.findIn K (.ref C) "__init__" = some (some (.ref f))
  fn : PySem.W.isFn K (.ref f) = true
  kp : PySem.W.keepIn K (.ref C) = true
end
section
variable {X : Cx} {CX : CXT} {k : Nat} {f C : Addr} {fd : FuncData} {ps ks : List Str} {sp : Sp} {E : XK} {x m : Str} {p pos apos kpos : Pos} {e o : Expr} {es : List Expr} {kws : List Keyword} {te ta : TE} {t tk : TA} {nm : Option Str}
variable {g : List Value → List Value → List Value} {gV : List V → List V → List V}
end
structure FnScope (N P : List Str) (sc : Scope) : Prop where
  kind : sc.kind = .function
  co : sc.isCoroutine = false
  gen : sc.isGenerator = false
  nd : N.Nodup
  pre : N.take P.length = P
  par : ∀ x ∈ P, sc.names.lookup x = some .local ∨ sc.names.lookup x = some .cell
  nofree : ∀ y ∈ sc.names, y.2 ≠ .free
theorem bindL_out {kindOf : Str → Option NameKind} {x : Str} : ∀ {binds : List (Str × Value)} {m : Str → Option Value}, (∀ v, (x, v) ∉ binds) → bindL kindOf binds m x = m x
  | [], _, _ => rfl
  | (n, v) :: r, m, h => by
    unfold bindL
    rw [bindL_out fun w hw => h w (List.mem_cons_of_mem _ hw)]
    split
    · have : x ≠ n := by rintro rfl; exact h v List.mem_cons_self
      simp [this]
    · rfl
theorem bindC_out {kindOf : Str → Option NameKind} {x : Str} : ∀ {binds : List (Str × Value)} {m : Str → Option Value}, (∀ v, (x, v) ∉ binds) → bindC kindOf binds m x = m x
  | [], _, _ => rfl
  | (n, v) :: r, m, h => by
    unfold bindC
    rw [bindC_out fun w hw => h w (List.mem_cons_of_mem _ hw)]
    split
    · rfl
    · have : x ≠ n := by rintro rfl; exact h v List.mem_cons_self
      simp [this]
theorem bindL_get {kindOf : Str → Option NameKind} {x : Str} {v : Value} : ∀ {P : List Str} {vs : List Value} {i : Nat} {m : Str → Option Value}, P.Nodup → P[i]? = some x → vs[i]? = some v → kindOf x = some .local →
    bindL kindOf (P.zip vs) m x = some v
  | [], _, _, _, _, h, _, _ => by simp at h
  | _ :: _, [], _, _, _, _, h, _ => by simp at h
  | p :: P, w :: vs, 0, m, nd, h1, h2, hk => by
    simp at h1 h2; subst h1; subst h2
    show bindL kindOf ((p, w) :: P.zip vs) m p = _
    unfold bindL
    rw [bindL_out fun v hv => (List.nodup_cons.mp nd).1 (List.of_mem_zip hv).1, if_pos hk]
    simp
  | p :: P, w :: vs, i + 1, m, nd, h1, h2, hk => by
    show bindL kindOf ((p, w) :: P.zip vs) m x = _
    unfold bindL
    exact bindL_get (i := i) (List.nodup_cons.mp nd).2 (by simpa using h1) (by simpa using h2) hk
theorem bindC_get {kindOf : Str → Option NameKind} {x : Str} {v : Value} : ∀ {P : List Str} {vs : List Value} {i : Nat} {m : Str → Option Value}, P.Nodup → P[i]? = some x → vs[i]? = some v → kindOf x ≠ some .local →
    bindC kindOf (P.zip vs) m x = some v
  | [], _, _, _, _, h, _, _ => by simp at h
  | _ :: _, [], _, _, _, _, h, _ => by simp at h
  | p :: P, w :: vs, 0, m, nd, h1, h2, hk => by
    simp at h1 h2; subst h1; subst h2
    show bindC kindOf ((p, w) :: P.zip vs) m p = _
    unfold bindC
    rw [bindC_out fun v hv => (List.nodup_cons.mp nd).1 (List.of_mem_zip hv).1, if_neg hk]
    simp
  | p :: P, w :: vs, i + 1, m, nd, h1, h2, hk => by
    show bindC kindOf ((p, w) :: P.zip vs) m x = _
    unfold bindC
    exact bindC_get (i := i) (List.nodup_cons.mp nd).2 (by simpa using h1) (by simpa using h2) hk
def start (N : List Str) (vs : List V) : St := vs.map some ++ List.replicate (N.length - vs.length) none
def cxOf (CX : CXT) (P : Program) (w : World) (K : PySem.W.Frag) (mg : Str → Option Value) (base : Heap) (N : List Str) (qual : Str) (scope : Scope) (f : Addr) (cd : Value) (A : Around) (outer : List Env) (s : Shared) (H : Hp) (E : XK) : Cx where
  prog := P
  w := w
  K := K
  mg := mg
  base := base
  A := A.deeper (envOfC qual scope s.heap.objs.size f cd)
  N := N
  s₀ := s
  H₀ := H
  env := envOfC qual scope s.heap.objs.size f cd
  outer := outer
  stack := envOfC qual scope s.heap.objs.size f cd :: outer
  ex := []
  calm := true
  fn := fun _ => true
  pn := []
  xe := fun e s' => wpAny (model P w) (A.deeper (envOfC qual scope s.heap.objs.size f cd)) (leaving (envOfC qual scope s.heap.objs.size f cd) e) (fun _ s'' => CX outer H s E e s'') (fun e' s'' => CX outer H s E e' s'') s'
theorem cell_has {sc : Scope} {n : Nat} {x : Str} (h : sc.names.lookup x = some .cell) : ∃ c, (cellsFrom n sc.names []).lookup x = some c := by
  have q := PySem.W.cellsFrom_some sc.names n [] (.inl h)
  exact Option.isSome_iff_exists.mp q
theorem inv_start {CX : CXT} {P : Program} {w : World} {K : PySem.W.Frag} {mg : Str → Option Value} {base : Heap} {N ps : List Str} {qual : Str} {scope : Scope} {f : Addr} {cd : Value} {A : Around} {outer : List Env} {s s1 : Shared} {H : Hp} {E : XK} {us : List Value} {vs : List V}
    (S : FnScope N ps scope) (hd : A.handled = none) (e0 : Env0 P w K mg base A outer s H) (hl : vs.length = ps.length) (r : Vals vs us)
    (x : InCallC s s.heap.objs.size (bindL (envOfC qual scope s.heap.objs.size f cd).kindOf (ps.zip us) fun _ => none) (cellsFrom (s.heap.objs.size + 1) scope.names []) (bindC (envOfC qual scope s.heap.objs.size f cd).kindOf (ps.zip us) fun _ => none) s1) :
    Inv (cxOf CX P w K mg base N qual scope f cd A outer s H E) [] (start N vs) H s1 := by
  have hpl : ps.length ≤ N.length := by have := congrArg List.length S.pre; rw [List.length_take] at this; omega
  obtain ⟨h1, tk, rfl, hk⟩ := x.done
  have noA : ∀ b : Addr, b ∉ (cxOf CX P w K mg base N qual scope f cd A outer s H E).ex := fun b z => absurd (show b ∈ ([] : List Addr) from z) (by simp)
  refine ⟨⟨e0.mod, S.kind, rfl, rfl, Nat.le_refl _, fun y z c h1 h2 => ?_, fun y hy => ?_, fun y c _ h => ?_, fun _ => hd, Around.frames_deeper e0.frames, .inr ⟨rfl, rfl⟩, fun b z => absurd z (noA b), e0.bs, e0.bsz, fun b _ _ => noA b, fun b z => absurd z (noA b), e0.funs, e0.frf⟩,
    rfl, e0.bare, Un.kept hk, ⟨_, x.toInCall.ns, fun i y v h1 h2 h3 => ?_⟩, fun y c h => ⟨_, x.cell y c h⟩, e0.hok.fresh (Nat.le_refl _), fun y c h => ?_, fun p hp => absurd (show p ∈ ([] : List (Addr × Obj)) from hp) (by simp), e0.hok.kept hk, ?_⟩
  · exact name_of_addr x.apart (PySem.mem_of_lookup h1) (PySem.mem_of_lookup h2)
  · have hy : scope.names.lookup y = some .cell ∨ scope.names.lookup y = some .free := hy
    rcases hy with hy | hy
    · exact cell_has hy
    · exact absurd rfl (S.nofree _ (PySem.mem_of_lookup hy))
  · exact Nat.le_of_lt (x.above y c (PySem.mem_of_lookup h))
  · have hi : i < vs.length := by
      unfold start at h2
      by_cases hi : i < vs.length
      · exact hi
      · rw [List.getElem?_append_right (by simpa using hi)] at h2
        rw [List.getElem?_replicate] at h2
        split at h2 <;> cases h2
    have ha : vs[i]? = some v := by
      unfold start at h2
      rw [List.getElem?_append_left (by simpa using hi), List.getElem?_map] at h2
      cases e : vs[i]? with
      | none => rw [e] at h2; cases h2
      | some a => rw [e] at h2; cases h2; rfl
    obtain ⟨u, hu, rv⟩ := r.get ha
    have hp : ps[i]? = some y := by
      rw [← S.pre, List.getElem?_take_of_lt (by omega)]; exact h1
    have ndP : ps.Nodup := by rw [← S.pre]; exact S.nd.sublist (List.take_sublist _ _)
    refine ⟨u, rv, ?_⟩
    rcases S.par y (List.mem_of_getElem? hp) with k | k
    · exact .inl ⟨k, bindL_get ndP hp hu k⟩
    · obtain ⟨c, e⟩ := cell_has (n := s.heap.objs.size + 1) k
      refine .inr ⟨.inl k, c, e, ?_⟩
      have q := x.cell y c e
      rw [bindC_get ndP hp hu (by show scope.names.lookup y ≠ _; rw [k]; decide)] at q
      exact q
  · exact e0.hok.fresh (Nat.le_of_lt (x.above y c (PySem.mem_of_lookup h)))
  · unfold start
    show _ = N.length
    rw [List.length_append, List.length_map, List.length_replicate]
    omega
theorem fn_of {CX : CXT} {P : Program} {w : World} {K : PySem.W.Frag} {mg : Str → Option Value} {base : Heap} {k : Nat} {f : Addr} {name qual : Str} {params : Arguments} {body : List Stmt} {scope : Scope} {dV kV doc pm cdv ct oc : Value} {an od : Option Addr}
    {osl : Array (Option Value)} {N ps : List Str} {sp : Sp} (lk : K.lookup f = some ⟨oc, od, .func (PySem.W.fnOf name qual params body scope dV kV doc pm an cdv ct), osl⟩) (hcd : PySem.W.codeIn K cdv qual = true) (S : FnScope N ps scope)
    (len : ∀ vs H Q E, sp vs H Q E → vs.length = ps.length)
    (hbody : ∀ (A : Around) (outer : List Env) (s : Shared) (H : Hp) (vs : List V) (Q : VK) (E : XK), Room k (A.deeper (envOfC qual scope s.heap.objs.size f cdv)) → sp vs H Q E →
      ∃ t, PSs (cxOf CX P w K mg base N qual scope f cdv A outer s H E) body t ∧ t { nx := fun _ H' => Q .non H', rt := Q } (start N vs) H) :
    FnOk P w K mg base CX (k + 1) f (PySem.W.fnOf name qual params body scope dV kV doc pm an cdv ct) ps sp := by
  refine ⟨len, fun A outer s H args us vs Q E hr e0 hb r hsp => ?_⟩
  have hl := len _ _ _ _ hsp
  have KX : K.In s.heap := e0.mod.kin.keeps fun b o e => (e0.bs b o e).1
  have lim : s.heap.NoLimit := e0.mod.nolimit.keeps fun b o e => (e0.bs b o e).1
  have hkind : ∀ y ∈ ps.zip us, scope.names.lookup y.1 = some .local ∨ (scope.names.lookup y.1 = some .cell ∧ ((cellsFrom (s.heap.objs.size + 1) scope.names []).lookup y.1).isSome = true) := fun ⟨n, v⟩ hy => by
    rcases S.par n (List.of_mem_zip hy).1 with q | q
    · exact .inl q
    · exact .inr ⟨q, PySem.W.cellsFrom_some _ _ _ (.inl q)⟩
  refine codeAny_call_function hr.depth (KX _ _ lk) rfl S.co S.gen rfl (PySem.W.codeRec_of KX hcd) (hb _ _ _ _ ?_)
  refine wpAny_newFunctionEnv_cells S.kind hkind fun env he s1 x => ?_
  subst he
  refine ⟨lim.keeps x.toInCall.keep, codeAny_func ?_⟩
  obtain ⟨t, ht, hq⟩ := hbody A outer s H vs Q E (hr.deeper _) hsp
  have I : Inv (cxOf CX P w K mg base N qual scope f cdv A outer s H E) [] (start N vs) H s1 := inv_start S hr.hd e0 hl r x
  refine wpAny_mono (ht [] s1 (start N vs) H _ I hq) (fun fl s' hs => ?_) fun e s' hs => hs
  have fin : ∀ {σ' : St} {H' : Hp} {v : V} {u : Value}, Inv (cxOf CX P w K mg base N qual scope f cdv A outer s H E) [] σ' H' s' → RelV v u → Q v H' → CE outer P w H s Q u s' :=
    fun {σ' H' v u} J rv q => ⟨v, H', J.os, J.bare, J.base, J.hok, rv, q⟩
  cases fl with
  | ret u =>
    obtain ⟨v, σ', H', J, rv, q⟩ := hs
    exact fin J rv q
  | next =>
    obtain ⟨σ', H', J, q⟩ := hs
    exact fin (v := V.non) (u := Value.none) J rfl q
  | brk =>
    obtain ⟨_, _, _, q⟩ := hs
    exact False.elim q
  | cont =>
    obtain ⟨_, _, _, q⟩ := hs
    exact False.elim q
end L2
namespace L2
open PySem PySem.Spec PyProof.Rows
section
variable {X : Cx} {x : Str} {p pos : Pos} {e : Expr} {es : List Expr} {t : TA} {id T : String} {r : List V → Hp → VK → Prop}
def tCB (r : List V → Hp → VK → Prop) (t : TA) : TE := fun σ H Q => t σ H fun vs H1 => r vs H1 Q
theorem pe_callB (hc : CallR X (.builtin id) r) (hg : Gl X x) (hm : X.mg x = none) (hv : bootBuiltins x = some (.builtin id)) (ha : PA X (e :: es) t) (hn : x ≠ "__name__" := by decide) (hdb : (x == ("__debug__" : Str)) = false := by decide)
    (he : starEach (e :: es) X.env = (false, eval e X.env) :: starEach es X.env := by rfl) (hpl : (backTo pos (starEach es X.env)).any (·.1) = false := by rfl) : PE X (.Call (.Name x p) (e :: es) [] pos) (tCB r t) := by
  intro pins s σ H Q I h
  refine wpAny_Call_Name_kw (ld_blt I hg hm hv ?_ hn hdb)
  exact PyProof.Rows.callWith_builtin1 (thn (ha pos pins s σ H _ I h) fun us s1 ⟨vs, H1, I1, r1, q1⟩ => hc pins s1 σ H1 vs us Q I1 r1 q1) he hpl
theorem pe_callTy (hc : CallR X (.type T) r) (hg : Gl X x) (hm : X.mg x = none) (hv : bootBuiltins x = some (.type T)) (ha : PA X (e :: es) t) (hn : x ≠ "__name__" := by decide) (hdb : (x == ("__debug__" : Str)) = false := by decide)
    (he : starEach (e :: es) X.env = (false, eval e X.env) :: starEach es X.env := by rfl) (hpl : (backTo pos (starEach es X.env)).any (·.1) = false := by rfl) : PE X (.Call (.Name x p) (e :: es) [] pos) (tCB r t) := by
  intro pins s σ H Q I h
  refine wpAny_Call_Name_kw (ld_blt I hg hm hv ?_ hn hdb)
  exact PyProof.Rows.callWith_type1 (thn (ha pos pins s σ H _ I h) fun us s1 ⟨vs, H1, I1, r1, q1⟩ => hc pins s1 σ H1 vs us Q I1 r1 q1) he hpl
end
end L2
namespace HT
open PySem PyProof.Rows
def lexLt : List Int → List Int → Bool
  | [], [] => false
  | [], _ :: _ => true
  | _ :: _, [] => false
  | x :: xs, y :: ys => if x = y then lexLt xs ys else decide (x < y)
section
open PySem.SeqAt
open PySem.AutoSeq1 (wpAny_loadPart')
open PySem.MeetsSeq PySem.MeetsSeq2 PySem.MeetsSeq3
end
section
variable {prog : Program} {w : World} {A : Around} {E : Value → Shared → Prop} {s : Shared}
theorem cat_tup {t b : Addr} {vs ws : List Value} {Q : Value → Shared → Prop} (ht : IsTup s.heap t vs.toArray) (hb : IsTup s.heap b ws.toArray) (hv : vs ≠ [])
    (h1 : ws = [] → Q (.ref t) s) (h2 : ws ≠ [] → Q (.ref s.heap.objs.size) { s with heap := s.heap.push { cls := .type "tuple", data := .seq (vs ++ ws).toArray } })
    (hsz : vs.length + ws.length ≤ sizeLine) : wpAny (model prog w) A (binaryOp .Add (.ref t) (.ref b)) Q E s := by
  obtain ⟨⟨cls, dd, data, sl⟩, ho, hc, n, hd⟩ := id ht
  obtain ⟨⟨cls2, dd2, data2, sl2⟩, ho2, hc2, n2, hd2⟩ := id hb
  simp only at hc hd hc2 hd2
  subst hc hd hc2 hd2
  have e : vs.toArray ++ ws.toArray = (vs ++ ws).toArray := by simp
  by_cases hw : ws = []
  · exact concat_meets ⟨_, ho, rfl⟩ ⟨_, ho2, rfl⟩ noFill_tuple_add seq_tuple_add PySem.F.slot_tuple_add PySem.F.entry_tuple_add (PySem.F.args_tuple_add_2 _ _)
      (tuple_addW1 t b vs.toArray ws.toArray n n2 dd dd2 sl sl2 (by simpa using hv) (by simp [hw])) ⟨ho, ho2, h1 hw⟩
  · refine concat_meets ⟨_, ho, rfl⟩ ⟨_, ho2, rfl⟩ noFill_tuple_add seq_tuple_add PySem.F.slot_tuple_add PySem.F.entry_tuple_add (PySem.F.args_tuple_add_2 _ _)
      (tuple_addW2 t b vs.toArray ws.toArray n n2 dd dd2 sl sl2 (by simpa using hv) (by simpa using hw) (by rw [List.size_toArray, List.size_toArray]; exact hsz)) ⟨ho, ho2, ?_⟩
    rw [e]
    exact h2 hw
def sIx (n d : Nat) : Option Int → Nat
  | none => d
  | some v => if v < 0 then (v + (n : Int)).toNat else min v.toNat n
end
end HT
namespace L2
open PySem PySem.Spec PyProof.Rows
abbrev TO := St → Hp → (Option Int → Hp → Prop) → Prop
section
variable {X : Cx} {e : Expr} {te : TE} {lo hi : Option Expr} {tl th : TO} {pos p2 : Pos}
def SlR (X : Cx) (r : V → Option Int → Option Int → Hp → VK → Prop) : Prop :=
  ∀ (pins : List (Addr × Obj)) (s : Shared) (σ : St) (H : Hp) (x : V) (v vl vu : Value) (lo hi : Option Int) (sl : Addr) (Q : VK), Inv X pins σ H s → RelV x v → s.heap.IsSliceOf sl vl vu .none → IsPart vl lo → IsPart vu hi → r x lo hi H Q →
    ∃ T id, typeLookup (.type T) "__getitem__" = pure (some (.builtin id)) ∧ s.TypeIs v T ∧ wpAny (model X.prog X.w) X.A (getItem v (.ref sl)) (EP X pins σ Q) X.xe s
theorem SlR.or {r r' : V → Option Int → Option Int → Hp → VK → Prop} (h : SlR X r) (h' : SlR X r') : SlR X (fun x lo hi H Q => r x lo hi H Q ∨ r' x lo hi H Q) := by
  intro pins s σ H x v vl vu lo hi sl Q I rx hs pl pu q
  rcases q with q | q
  · exact h pins s σ H x v vl vu lo hi sl Q I rx hs pl pu q
  · exact h' pins s σ H x v vl vu lo hi sl Q I rx hs pl pu q
def cutV (xs : List V) (lo hi : Option Int) : List V := (xs.drop (HT.sIx xs.length 0 lo)).take (HT.sIx xs.length xs.length hi - HT.sIx xs.length 0 lo)
theorem cutV_length (xs : List V) (lo hi : Option Int) : (cutV xs lo hi).length ≤ xs.length := by
  unfold cutV
  rw [List.length_take, List.length_drop]
  omega
def rCatT (K : PySem.W.Frag) : R2 := fun x y H Q => ∃ a b xs ys, x = .ref a ∧ y = .ref b ∧ SqT K H a xs ∧ SqT K H b ys ∧ xs ≠ [] ∧ xs.length + ys.length ≤ sizeLine ∧
  (ys = [] → Q (.ref a) H) ∧ (ys ≠ [] → ∀ p, H p = none → Q (.ref p) (upd H p (.tup (xs ++ ys))))
theorem Vals.nil_iff {xs : List V} {us : List Value} (r : Vals xs us) : us = [] ↔ xs = [] := by
  cases r with
  | nil => simp
  | cons _ _ => simp
theorem op_catT : OpR X (binaryOp .Add) (rCatT X.K) := by
  intro pins s σ H x y v u Q I rx ry h
  obtain ⟨a, b, xs, ys, rfl, rfl, ha, hb, hx, hz, q1, q2⟩ := h
  cases rx
  cases ry
  obtain ⟨its, r1, p1, _⟩ := I.tuple ha
  obtain ⟨its2, r2, p2, _⟩ := I.tuple hb
  refine HT.cat_tup p1 p2 (fun z => hx (r1.nil_iff.mp z)) (fun z => ⟨.ref a, H, I, rfl, q1 (r2.nil_iff.mp z)⟩) (fun z => ?_) (by rw [← r1.length, ← r2.length]; exact hz)
  refine ⟨.ref s.heap.objs.size, _, I.laid (t' := s.toks) (o := .tup (xs ++ ys)) (fun b ob q => Heap.get?_push_of_some _ q) (Nat.le_refl _) ?_, rfl, q2 (fun w => z (r2.nil_iff.mpr w)) _ (I.hok.fresh (Nat.le_refl _))⟩
  exact ⟨by rw [List.length_append]; exact hz, _, r1.append r2, IsTup.new _ _⟩
end
end L2
namespace L2
open PySem PySem.Spec PyProof.Rows
def ixN (n : Nat) (i : Int) : Option Nat := if 0 ≤ i then (if i < n then some i.toNat else none) else if -(n : Int) ≤ i then some (i + n).toNat else none
def atI {α : Type} (xs : List α) (i : Int) : Option α := (ixN xs.length i).bind fun j => xs[j]?
theorem ixN_seq {n : Nat} {i : Int} {j : Nat} (h : ixN n i = some j) : seqIndex? i n = some j ∧ j < n ∧ -(n : Int) ≤ i ∧ i < n := by
  unfold ixN at h
  by_cases h0 : 0 ≤ i
  · rw [if_pos h0] at h
    by_cases h1 : i < n
    · rw [if_pos h1] at h
      have e : i.toNat = j := Option.some.inj h
      exact ⟨by rw [seqIndex_of h0 h1, e], by omega, by omega, h1⟩
    · rw [if_neg h1] at h; cases h
  · rw [if_neg h0] at h
    by_cases h1 : -(n : Int) ≤ i
    · rw [if_pos h1] at h
      have e : (i + n).toNat = j := Option.some.inj h
      exact ⟨by rw [seqIndex_neg (by omega) h1, e], by omega, h1, by omega⟩
    · rw [if_neg h1] at h; cases h
theorem atI_get {α : Type} {xs : List α} {i : Int} {v : α} (h : atI xs i = some v) : ∃ j, seqIndex? i xs.length = some j ∧ xs[j]? = some v ∧ j < xs.length ∧ -(xs.length : Int) ≤ i ∧ i < xs.length := by
  unfold atI at h
  cases e : ixN xs.length i with
  | none => rw [e] at h; cases h
  | some j =>
    rw [e] at h
    obtain ⟨h1, h2, h3, h4⟩ := ixN_seq e
    exact ⟨j, h1, h, h2, h3, h4⟩
def PlainIx (b : Expr) : Prop := ∀ o i, subscripted b false o i = operate [o, i] (getItem o i)
def IxR (X : Cx) (r : R2) : Prop :=
  ∀ (value slice : Expr) (pins : List (Addr × Obj)) (s : Shared) (σ : St) (H : Hp) (x y : V) (v u : Value) (Q : VK), Inv X pins σ H s → RelV x v → RelV y u → r x y H Q →
    subscripted slice false v u = operate [v, u] (getItem v u) → wpAny (model X.prog X.w) X.A (subscriptTail value slice v u) (EP X pins σ Q) X.xe s
def MtR (X : Cx) (id : String) (r : V → List V → Hp → VK → Prop) : Prop :=
  ∀ (pins : List (Addr × Obj)) (s : Shared) (σ : St) (H : Hp) (x : V) (xs : List V) (v : Value) (us : List Value) (Q : VK), Inv X pins σ H s → RelV x v → Vals xs us → r x xs H Q →
    wpAny (model X.prog X.w) X.A (call (.builtin id) (v :: us)) (EP X pins σ Q) X.xe s
section
variable {X : Cx} {a b : Expr} {ta tb : TE} {pos : Pos}
theorem IxR.or {r r' : R2} (h : IxR X r) (h' : IxR X r') : IxR X (fun x y H Q => r x y H Q ∨ r' x y H Q) := by
  intro value slice pins s σ H x y v u Q I rx ry q hs
  rcases q with q | q
  · exact h value slice pins s σ H x y v u Q I rx ry q hs
  · exact h' value slice pins s σ H x y v u Q I rx ry q hs
theorem MtR.or {id : String} {r r' : V → List V → Hp → VK → Prop} (h : MtR X id r) (h' : MtR X id r') : MtR X id (fun x xs H Q => r x xs H Q ∨ r' x xs H Q) := by
  intro pins s σ H x xs v us Q I rx rs q
  rcases q with q | q
  · exact h pins s σ H x xs v us Q I rx rs q
  · exact h' pins s σ H x xs v us Q I rx rs q
theorem pe_ix {r : R2} (hr : IxR X r) (ha : PE X a ta) (hb : PE X b tb) (hs : PlainIx b) : PE X (.Subscript a b pos) (tOp r ta tb) := by
  intro pins s σ H Q I h
  exact Subscript_ (binT ha hb I h fun v u s2 x y H2 I2 rx ry q => hr a b pins s2 σ H2 x y v u Q I2 rx ry q (hs _ _))
def rIxL (K : PySem.W.Frag) : R2 := fun x y H Q => ∃ p xs i v, x = .ref p ∧ y = .int i ∧ SqL K H p xs ∧ atI xs i = some v ∧ Q v H
def rIxT (K : PySem.W.Frag) : R2 := fun x y H Q => ∃ p xs i v, x = .ref p ∧ y = .int i ∧ SqT K H p xs ∧ atI xs i = some v ∧ Q v H
theorem ix_list : IxR X (rIxL X.K) := by
  intro value slice pins s σ H x y v u Q I rx ry h hs
  obtain ⟨p, xs, i, z, rfl, rfl, hq, he, q⟩ := h
  cases rx
  obtain ⟨t, rfl⟩ := ry
  obtain ⟨its, r, pl, hz⟩ := I.list hq
  obtain ⟨j, h1, h2, h3, h4, h5⟩ := atI_get he
  obtain ⟨w, ew, rw'⟩ := r.get h2
  have hl := r.length
  have hn := line63
  have fin : EP X pins σ Q w s := ⟨z, H, I, rw', q⟩
  by_cases h0 : 0 ≤ i
  · have hj : i.toNat = j := by
      rw [seqIndex_of h0 h5] at h1
      exact Option.some.inj h1
    exact item_listR pl.isList h0 (by omega) (by rw [hj]; simpa using ew) fin hs
  · have hj : (i + (its.toArray.size : Int)).toNat = j := by
      rw [seqIndex_neg (by omega) h4] at h1
      rw [List.size_toArray, ← hl]
      exact Option.some.inj h1
    exact subscriptTail_builtinR (x := w) pl.isList.typeIs slot_list_getitem.lookup
      (wpAny_getItem_list_neg (Q := fun r s' => r = w ∧ EP X pins σ Q r s') pl.isList (by omega) (by rw [List.size_toArray] <;> omega) (by omega) (by rw [hj]; simpa using ew) ⟨rfl, fin⟩) hs
theorem ix_tup : IxR X (rIxT X.K) := by
  intro value slice pins s σ H x y v u Q I rx ry h hs
  obtain ⟨p, xs, i, z, rfl, rfl, hq, he, q⟩ := h
  cases rx
  obtain ⟨t, rfl⟩ := ry
  obtain ⟨its, r, pl, hz⟩ := I.tuple hq
  obtain ⟨j, h1, h2, h3, h4, h5⟩ := atI_get he
  obtain ⟨w, ew, rw'⟩ := r.get h2
  have hl := r.length
  have hn := line63
  have fin : EP X pins σ Q w s := ⟨z, H, I, rw', q⟩
  exact subscriptTail_builtinR (x := w) pl.typeIs slot_tuple_getitem.lookup
    (getItem_tuple (j := j) (Q := fun r s' => r = w ∧ EP X pins σ Q r s') pl (by omega) (by omega) (by rw [List.size_toArray, ← hl]; exact h1) (by simpa using ew) ⟨rfl, fin⟩) hs
theorem mapSeq_set (its : List Value) (n j : Nat) (u : Value) : Obj.mapSeq (·.setIfInBounds j u) { cls := .type "list", data := .seq its.toArray n } = { cls := .type "list", data := .seq (its.set j u).toArray n } := by
  simp [Obj.mapSeq]
theorem Inv.lst {pins : List (Addr × Obj)} {σ : St} {H : Hp} {s : Shared} {p : Addr} {xs : List V} (I : Inv X pins σ H s) (h : H p = some (.lst xs)) :
    ∃ (its : List Value) (n : Nat), Vals xs its ∧ s.heap.get? p = some { cls := .type "list", data := .seq its.toArray n } ∧ xs.length ≤ sizeLine := by
  obtain ⟨z, its, n, r, e⟩ := I.hok p _ h
  exact ⟨its, n, r, e, z⟩
theorem Inv.lstUpd {pins : List (Addr × Obj)} {σ : St} {H : Hp} {s : Shared} {p : Addr} {xs ys : List V} {its its' : List Value} {n n' : Nat} {f : Obj → Obj} (I : Inv X pins σ H s) (h : H p = some (.lst xs))
    (ho : s.heap.get? p = some { cls := .type "list", data := .seq its.toArray n }) (hf : f { cls := .type "list", data := .seq its.toArray n } = { cls := .type "list", data := .seq its'.toArray n' }) (r : Vals ys its') (hz : ys.length ≤ sizeLine) (t : Nat) :
    Inv X pins σ (upd H p (.lst ys)) { s with heap := s.heap.update p f, toks := t } := by
  have e : (s.heap.update p f).get? p = some { cls := .type "list", data := .seq its'.toArray n' } := by
    rw [Heap.get?_update_self f ho (by rw [hf] <;> rfl), hf]
  refine I.write (x := p) (e := p) (by rw [h]; trivial) (.inl rfl) (fun b u hb q => (Heap.get?_update_other _ _ (Ne.symm hb)).trans q) ⟨_, e⟩ ?_
  exact ⟨hz, its', n', r, e⟩
def rSetL : V → V → V → Hp → (Hp → Prop) → Prop := fun o i v H Q => ∃ p xs k j, o = .ref p ∧ i = .int k ∧ H p = some (.lst xs) ∧ ixN xs.length k = some j ∧ Q (upd H p (.lst (xs.set j v)))
theorem set_list : PSet X rSetL := by
  intro pins s σ H o i v ov iv u Q I ro ri rv h
  obtain ⟨p, xs, k, j, rfl, rfl, hp, hj, q⟩ := h
  cases ro
  obtain ⟨t, rfl⟩ := ri
  obtain ⟨its, n, r, ho, hz⟩ := I.lst hp
  obtain ⟨h1, h2, h3, h4⟩ := ixN_seq hj
  have hl := r.length
  have hn := line63
  have I' : Inv X pins σ (upd H p (.lst (xs.set j v))) { s with heap := s.heap.update p (Obj.mapSeq (·.setIfInBounds j u)) } :=
    I.lstUpd hp ho (mapSeq_set its n j u) (r.set rv j) (by rw [List.length_set]; exact hz) s.toks
  by_cases h0 : 0 ≤ k
  · have hk : k.toNat = j := by
      rw [seqIndex_of h0 h4] at h1
      exact Option.some.inj h1
    exact PySem.W.ki_setAt ho h0 (by omega) (by rw [List.size_toArray, ← hl]; exact h4) (by rw [hk]; exact ⟨_, I', q⟩)
  · have hk : (k + (its.toArray.size : Int)).toNat = j := by
      rw [seqIndex_neg (by omega) h3] at h1
      rw [List.size_toArray, ← hl]
      exact Option.some.inj h1
    exact PySem.W.ki_setBack ho (by omega) (by rw [List.size_toArray, ← hl]; exact h3) (by omega) (by rw [hk]; exact ⟨_, I', q⟩)
theorem slice_bounds (lo hi : Option Int) (n : Nat) : (sliceBounds lo hi none n).1 = ((HT.sIx n 0 lo : Nat) : Int) ∧ (sliceBounds lo hi none n).2.1 = ((HT.sIx n n hi : Nat) : Int) ∧ (sliceBounds lo hi none n).2.2 = 1 := by
  refine ⟨?_, ?_, rfl⟩
  · cases lo with
    | none => simp [sliceBounds, HT.sIx]
    | some i =>
      simp only [sliceBounds, HT.sIx, Option.getD_none, show (1 : Int) > 0 by decide, if_true]
      by_cases h : i < 0
      · simp only [h, if_true] <;> omega
      · simp only [h, if_false] <;> omega
  · cases hi with
    | none => simp [sliceBounds, HT.sIx]
    | some i =>
      simp only [sliceBounds, HT.sIx, Option.getD_none, show (1 : Int) > 0 by decide, if_true]
      by_cases h : i < 0
      · simp only [h, if_true] <;> omega
      · simp only [h, if_false] <;> omega
theorem slicePick_cut (its : List Value) (lo hi : Option Int) : slicePick its.toArray lo hi none = ((its.drop (HT.sIx its.length 0 lo)).take (HT.sIx its.length its.length hi - HT.sIx its.length 0 lo)).toArray := by
  obtain ⟨h1, h2, h3⟩ := slice_bounds lo hi its.toArray.size
  unfold slicePick
  rw [h1, h2, h3]
  simp only [sliceRange_one, pick_run, List.size_toArray] <;> rfl
def rSlL (K : PySem.W.Frag) : V → Option Int → Option Int → Hp → VK → Prop := fun x lo hi H Q => ∃ a xs, x = .ref a ∧ SqL K H a xs ∧ ∀ p, H p = none → Q (.ref p) (upd H p (.lst (cutV xs lo hi)))
theorem sl_list : SlR X (rSlL X.K) := by
  intro pins s σ H x v vl vu lo hi sl Q I rx hs pl pu h
  obtain ⟨a, xs, rfl, hx, q⟩ := h
  cases rx
  obtain ⟨its, r, ht, hz⟩ := I.list hx
  have hlen := r.length
  refine ⟨"list", _, slot_list_getitem.lookup, ht.isList.typeIs, ?_⟩
  refine wpAny_getItem_list_slice ht.isList hs pl pu .none (by simp) ?_ (by rw [List.size_toArray] <;> omega)
  rw [slicePick_cut, ← hlen]
  refine ⟨.ref s.heap.objs.size, _, I.laid (t' := s.toks) (o := .lst (cutV xs lo hi)) (fun b ob q => Heap.get?_push_of_some _ q) (Nat.le_refl _) ?_, rfl, q _ (I.hok.fresh (Nat.le_refl _))⟩
  exact ⟨Nat.le_trans (cutV_length xs lo hi) hz, _, 0, (r.drop (HT.sIx xs.length 0 lo)).take (HT.sIx xs.length xs.length hi - HT.sIx xs.length 0 lo), Heap.get?_push_size _ rfl⟩
def flatV : V → Bool
  | .non => true
  | .bl _ => true
  | .int _ => true
  | .str _ => true
  | _ => false
def eqV : V → V → Bool
  | .non, .non => true
  | .bl a, .bl b => a == b
  | .bl a, .int b => (if a then 1 else 0) == b
  | .int a, .bl b => a == (if b then 1 else 0)
  | .int a, .int b => a == b
  | .str a, .str b => a == b
  | _, _ => false
theorem call_len_seq : CallR X (.builtin "len") (fun xs H Q => ∃ p ys, xs = [.ref p] ∧ (SqL X.K H p ys ∨ SqT X.K H p ys) ∧ Q (.int ys.length) H) := by
  intro pins s σ H xs us Q I r h
  obtain ⟨p, ys, rfl, hq, q⟩ := h
  obtain ⟨u, rfl, rx⟩ := vals1 r
  cases rx
  have hn := line63
  rcases hq with hq | hq
  · obtain ⟨its, r', pl, hz⟩ := I.list hq
    have hlen := r'.length
    exact Calls.call_len_list pl.isList (by simp only [List.size_toArray] <;> omega) ⟨.int ys.length, H, I.tok _, ⟨s.toks + 1, by rw [List.size_toArray, hlen]⟩, q⟩
  · obtain ⟨its, r', pl, hz⟩ := I.tuple hq
    have hlen := r'.length
    exact len_tuple pl (by simp only [List.size_toArray] <;> omega) ⟨.int ys.length, H, I.tok _, ⟨s.toks + 1, by rw [List.size_toArray, hlen]⟩, q⟩
theorem call_len_str : CallR X (.builtin "len") (fun xs H Q => ∃ z, xs = [.str z] ∧ z.length ≤ sizeLine ∧ Q (.int z.length) H) := by
  intro pins s σ H xs us Q I r h
  obtain ⟨z, rfl, hz, q⟩ := h
  obtain ⟨u, rfl, t, rfl⟩ := vals1 r
  have hn := line63
  exact len_str (by omega) ⟨.int z.length, H, I.tok _, ⟨_, rfl⟩, q⟩
theorem CallR.or {f : Value} {r r' : List V → Hp → VK → Prop} (h : CallR X f r) (h' : CallR X f r') : CallR X f (fun xs H Q => r xs H Q ∨ r' xs H Q) := by
  intro pins s σ H xs us Q I rs q
  rcases q with q | q
  · exact h pins s σ H xs us Q I rs q
  · exact h' pins s σ H xs us Q I rs q
theorem call_list_of : CallR X (.type "list") (fun xs H Q => ∃ p ys, xs = [.ref p] ∧ (SqL X.K H p ys ∨ SqT X.K H p ys) ∧ ∀ l, H l = none → Q (.ref l) (upd H l (.lst ys))) := by
  intro pins s σ H xs us Q I r h
  obtain ⟨p, ys, rfl, hq, q⟩ := h
  obtain ⟨u, rfl, rx⟩ := vals1 r
  cases rx
  have fin : ∀ (its : List Value), Vals ys its → ys.length ≤ sizeLine → ∀ (h' : Heap) (c' : Nat), (∀ b o', s.heap.get? b = some o' → h'.get? b = some o') →
      h'.get? s.heap.objs.size = some { cls := .type "list", dict := none, data := .seq its.toArray c', slots := #[] } → EP X pins σ Q (.ref s.heap.objs.size) { s with heap := h' } := fun its r' hz h' c' kp e =>
    ⟨.ref s.heap.objs.size, _, I.laid (t' := s.toks) kp (Nat.le_refl _) (show ObjOk X.prog X.w _ h' _ (.lst ys) from ⟨hz, its, c', r', e⟩), rfl, q _ (I.hok.fresh (Nat.le_refl _))⟩
  rcases hq with hq | hq
  · obtain ⟨its, r', pl, hz⟩ := I.list hq
    have hlen := r'.length
    obtain ⟨o, ho, hc, n, hd⟩ := pl.isList
    exact call_list_seq p (.inl rfl) ho hc hd (fun h' c' kp e => fin its r' hz h' c' kp e) (by simp only [List.size_toArray] <;> omega)
  · obtain ⟨its, r', pl, hz⟩ := I.tuple hq
    have hlen := r'.length
    obtain ⟨o, ho, hc, n, hd⟩ := pl
    exact call_list_seq p (.inr rfl) ho hc hd (fun h' c' kp e => fin its r' hz h' c' kp e) (by simp only [List.size_toArray] <;> omega)
theorem call_tuple_of : CallR X (.type "tuple") (fun xs H Q => ∃ p ys, xs = [.ref p] ∧ ((SqL X.K H p ys ∧ ∀ l, H l = none → Q (.ref l) (upd H l (.tup ys))) ∨ (SqT X.K H p ys ∧ Q (.ref p) H))) := by
  intro pins s σ H xs us Q I r h
  obtain ⟨p, ys, rfl, h⟩ := h
  obtain ⟨u, rfl, rx⟩ := vals1 r
  cases rx
  rcases h with ⟨hq, q⟩ | ⟨hq, q⟩
  · obtain ⟨its, r', pl, hz⟩ := I.list hq
    have hlen := r'.length
    refine call_tuple_list pl.isList (fun h' kp => ?_) (by simp only [List.size_toArray] <;> omega)
    have I1 : Inv X pins σ H { s with heap := h' } := I.kept (t' := s.toks) kp
    have I2 : Inv X pins σ (upd H h'.objs.size (.tup ys)) { s with heap := h'.push { cls := .type "tuple", data := .seq its.toArray } } :=
      I1.laid (t' := s.toks) (fun b o e => Heap.get?_push_of_some _ e) (Nat.le_refl _) (show ObjOk X.prog X.w _ _ _ (.tup ys) from ⟨hz, its, r', IsTup.new _ _⟩)
    exact ⟨.ref h'.objs.size, _, I2, rfl, q _ (I1.hok.fresh (Nat.le_refl _))⟩
  · obtain ⟨its, r', pl, hz⟩ := I.tuple hq
    exact call_tuple_same pl ⟨.ref p, H, I, rfl, q⟩
def tyV (K : PySem.W.Frag) (T : String) (x : V) (H : Hp) : Prop := match x with
  | .str _ => T = "str"
  | .int _ => T = "int"
  | .ref p => (T = "list" ∧ ∃ xs, SqL K H p xs) ∨ (T = "tuple" ∧ ∃ o, K.lookup p = some o ∧ o.cls = .type "tuple" ∧ o.dict = none) ∨
      (T = "dict" ∧ ((∃ kvs, H p = some (.dK kvs)) ∨ ∃ kvs, H p = some (.dT kvs))) ∨ (T = "set" ∧ ∃ S n, H p = some (.set S n))
  | _ => False
theorem tyV_is {pins : List (Addr × Obj)} {σ : St} {H : Hp} {s : Shared} {T : String} {x : V} {v : Value} (I : Inv X pins σ H s) (r : RelV x v) (ty : tyV X.K T x H) :
    s.TypeIs v T ∧ ∀ a, v = .ref a → ∃ ob, s.heap.get? a = some ob ∧ ob.dict = none := by
  cases x with
  | str z =>
    obtain ⟨t, rfl⟩ := r
    cases (show T = "str" from ty)
    exact ⟨typeIs_str s z t, fun _ e => nomatch e⟩
  | int i =>
    obtain ⟨t, rfl⟩ := r
    cases (show T = "int" from ty)
    exact ⟨typeIs_int s i t, fun _ e => nomatch e⟩
  | ref p =>
    cases r
    rcases ty with ⟨rfl, xs, hq⟩ | ⟨rfl, o, hk, hc, hd⟩ | ⟨rfl, hk⟩ | ⟨rfl, S, n, hk⟩
    · obtain ⟨its, _, pl, _⟩ := I.list hq
      refine ⟨pl.isList.typeIs, fun a e => ?_⟩
      cases e
      obtain ⟨o, n, e, c, hd, _⟩ := pl
      exact ⟨o, e, hd⟩
    · refine ⟨⟨o, I.kIn p o hk, hc⟩, fun a e => ?_⟩
      cases e
      exact ⟨o, I.kIn _ o hk, hd⟩
    · have z : ∃ o, s.heap.get? p = some o ∧ o.ExactDict := by
        rcases hk with ⟨kvs, hk⟩ | ⟨kvs, hk⟩
        · obtain ⟨_, _, _, _, o, _, _, e, ex, _⟩ := I.hok p _ hk
          exact ⟨o, e, ex⟩
        · obtain ⟨_, _, _, _, o, _, _, e, ex, _⟩ := I.hok p _ hk
          exact ⟨o, e, ex⟩
      obtain ⟨o, e, ex⟩ := z
      refine ⟨⟨o, e, ex.1⟩, fun a e2 => ?_⟩
      cases e2
      exact ⟨o, e, ex.2.1⟩
    · obtain ⟨o, _, _, _, e, ex, _⟩ := I.hok p _ hk
      refine ⟨⟨o, e, ex.1⟩, fun a e2 => ?_⟩
      cases e2
      exact ⟨o, e, ex.2.1⟩
  | _ => exact False.elim ty
def tBM (K : PySem.W.Frag) (T : String) (r : V → List V → Hp → VK → Prop) (to : TE) (t : TA) : TE := fun σ H Q => to σ H fun x H1 => tyV K T x H1 ∧ t σ H1 fun xs H2 => r x xs H2 Q
variable {o e : Expr} {es : List Expr} {to : TE} {t : TA} {name : Str} {apos cpos : Pos} {T id : String} {r : V → List V → Hp → VK → Prop}
theorem pe_bm (pa : PlainAttrs T) (slot : Slot T name id) (hty : typeOf (.builtin id) = pure (.type "method_descriptor")) (hm : MtR X id r) (ho : PE X o to) (ha : PA X (e :: es) t)
    (hbase : attributeBase o name X.env (eval o X.env) = eval o X.env := by rfl)
    (hfew : ((backTo cpos (starEach (e :: es) X.env)).all (fun x => !x.1) && (backToKw cpos (keywordEach [] X.env)).all (fun x => x.1.isSome)
      && decide ((e :: es).length + ([] : List Keyword).length + (if ([] : List Keyword).isEmpty then 0 else 1) < 30)) = true := by rfl)
    (hline : (apos.endLine == cpos.line) = true := by rfl) (hs : starEach (e :: es) X.env = (false, eval e X.env) :: starEach es X.env := by rfl) (hplain : (backTo cpos (starEach es X.env)).any (·.1) = false := by rfl) :
    PE X (.Call (.Attribute o name apos) (e :: es) [] cpos) (tBM X.K T r to t) := by
  intro pins s σ H Q I h
  refine wpAny_Call_method_late hbase hfew hline rfl (thn (ho pins s σ H _ I h) fun v s1 ⟨x, H1, I1, r1, ty, q1⟩ => ?_)
  obtain ⟨h1, h2⟩ := tyV_is I1 r1 ty
  refine ⟨T, id, pa, slot, hty, h1, h2, ?_⟩
  have hA := ha cpos pins s1 σ H1 _ I1 q1
  rw [hs] at hA ⊢
  refine Calls.callWith_builtin (by show (false || (backTo cpos (starEach es X.env)).any (·.1)) = false; rw [hplain] <;> rfl) (Calls.evalArgs_plain ?_)
  exact thn hA fun us s2 ⟨vs, H2, I2, r2, q2⟩ => hm pins s2 σ H2 x vs v us Q I2 r1 r2 q2
/- xs.append(e), list.index on a module's tuple .. are MtR facts of 06m -/
end
end L2
namespace L2
open PySem PySem.Spec PyProof.Rows
def MtM (X : Cx) (id : String) (r : V → List V → Hp → VK → Prop) : Prop :=
  ∀ (pins : List (Addr × Obj)) (s : Shared) (σ : St) (H : Hp) (x : V) (xs : List V) (v : Value) (us : List Value) (Q : VK), Inv X pins σ H s → RelV x v → Vals xs us → r x xs H Q →
    wpAny (model X.prog X.w) X.A (call (.builtin id) (v :: us)) (EP X pins σ Q) X.xe s
theorem Vals.one : ∀ {x : V} {us : List Value}, Vals [x] us → ∃ u, us = [u] ∧ RelV x u
  | _, _, .cons r .nil => ⟨_, rfl, r⟩
theorem Vals.two : ∀ {x y : V} {us : List Value}, Vals [x, y] us → ∃ u v, us = [u, v] ∧ RelV x u ∧ RelV y v
  | _, _, _, .cons r (.cons q .nil) => ⟨_, _, rfl, r, q⟩
theorem Vals.reverse {xs : List V} {us : List Value} (h : Vals xs us) : Vals xs.reverse us.reverse := by
  induction h with
  | nil => exact .nil
  | cons r t ih => rw [List.reverse_cons, List.reverse_cons]; exact Vals.append ih (.cons r .nil)
theorem Vals.rep {xs : List V} {us : List Value} (h : Vals xs us) : ∀ k : Nat, Vals (List.replicate k xs).flatten (List.replicate k us).flatten
  | 0 => .nil
  | k + 1 => by
    rw [List.replicate_succ, List.replicate_succ, List.flatten_cons, List.flatten_cons]
    exact Vals.append h (Vals.rep h k)
theorem foldl_rep (its : List Value) : ∀ (k : Nat) (acc : List Value),
    List.foldl (fun x1 x2 => x1 ++ x2) acc.toArray (List.replicate k its.toArray) = (acc ++ (List.replicate k its).flatten).toArray
  | 0, acc => by simp
  | k + 1, acc => by
    have e : acc.toArray ++ its.toArray = (acc ++ its).toArray := by simp
    have e2 : (acc ++ its) ++ (List.replicate k its).flatten = acc ++ (List.replicate (k + 1) its).flatten := by
      rw [List.replicate_succ, List.flatten_cons, List.append_assoc]
    rw [← e2, ← foldl_rep its k (acc ++ its), ← e, List.replicate_succ, List.foldl_cons]
section
variable {X : Cx} {pins : List (Addr × Obj)} {σ : St} {H : Hp} {s : Shared} {l b : Addr} {xs ys zs : List V}
theorem Inv.lset {its its' : List Value} {n : Nat} {f : Array Value → Array Value} {t' : Nat} (I : Inv X pins σ H s) (hH : H l = some (.lst xs))
    (e : s.heap.get? l = some { cls := .type "list", data := .seq its.toArray n }) (hf : f its.toArray = its'.toArray) (hv : Vals ys its') (hz : ys.length ≤ sizeLine) :
    Inv X pins σ (upd H l (.lst ys)) { s with heap := s.heap.update l (Obj.mapSeq f), toks := t' } := by
  have q := PySem.IsL.update e f
  rw [hf] at q
  refine I.write (x := l) (e := l) (by rw [hH]; exact trivial) (.inl rfl) (fun b' u hb hu => (Heap.get?_update_other s.heap (Obj.mapSeq f) (Ne.symm hb)).trans hu) ⟨_, q⟩ ?_
  exact ⟨hz, its', _, hv, q⟩
theorem Inv.lnew {its : List Value} {t' : Nat} (I : Inv X pins σ H s) (hv : Vals ys its) (hz : ys.length ≤ sizeLine) :
    Inv X pins σ (upd H s.heap.objs.size (.lst ys)) { s with heap := s.heap.push { cls := .type "list", data := .seq its.toArray }, toks := t' } :=
  I.laid (fun _ _ q => Heap.get?_push_of_some _ q) (Nat.le_refl _) ⟨hz, its, 0, hv, Heap.get?_push_size _ rfl⟩
theorem Inv.fresh (I : Inv X pins σ H s) : H s.heap.objs.size = none := I.hok.fresh (Nat.le_refl _)
theorem Inv.lstM (I : Inv X pins σ H s) (hH : H l = some (.lst xs)) : xs.length ≤ sizeLine ∧ ∃ (its : List Value) (n : Nat), Vals xs its ∧ xs.length = its.length ∧ s.heap.get? l = some { cls := .type "list", data := .seq its.toArray n } := by
  obtain ⟨z, its, n, r, e⟩ := I.hok l _ hH
  exact ⟨z, its, n, r, r.length, e⟩
theorem notLongL {n : Nat} (h : n ≤ sizeLine) : Builtin.List.listTooLong n = false := by
  unfold Builtin.List.listTooLong
  exact decide_eq_false (by omega)
end
section
variable {X : Cx}
def rAppend : V → List V → Hp → VK → Prop := fun x vs H Q => ∃ l xs y, x = .ref l ∧ vs = [y] ∧ H l = some (.lst xs) ∧ xs.length < sizeLine ∧ Q .non (upd H l (.lst (xs ++ [y])))
theorem mt_append : MtM X "list.append" rAppend := by
  intro pins s σ H x vs v us Q I rx rv h
  obtain ⟨l, xs, y, rfl, rfl, hH, hz, q⟩ := h
  cases rx
  obtain ⟨u, rfl, ru⟩ := rv.one
  obtain ⟨z, its, n, r, hl, e⟩ := I.lstM hH
  refine call_meets F.slot_list_append ⟨_, e, rfl⟩ F.entry_list_append (F.args_list_append_2 _ _) (PySem.list_append l its.toArray n u (by rw [List.size_toArray]; omega)) ⟨e, ?_⟩
  refine ⟨.non, _, I.lset (its' := its ++ [u]) hH e (by simp) (r.append (.cons ru .nil)) ?_, rfl, q⟩
  rw [List.length_append, List.length_singleton]
  omega
def rExtend : V → List V → Hp → VK → Prop := fun x vs H Q => ∃ l b xs zs, x = .ref l ∧ vs = [.ref b] ∧ H l = some (.lst xs) ∧ H b = some (.lst zs) ∧ xs.length + zs.length ≤ sizeLine ∧ Q .non (upd H l (.lst (xs ++ zs)))
theorem mt_extend : MtM X "list.extend" rExtend := by
  intro pins s σ H x vs v us Q I rx rv h
  obtain ⟨l, b, xs, zs, rfl, rfl, hH, hB, hz, q⟩ := h
  cases rx
  obtain ⟨u, rfl, ru⟩ := rv.one
  cases ru
  obtain ⟨z, its, n, r, hl, e⟩ := I.lstM hH
  obtain ⟨z2, its2, n2, r2, hl2, e2⟩ := I.lstM hB
  have hsz : its.toArray.size + its2.toArray.size ≤ sizeLine := by rw [List.size_toArray, List.size_toArray]; omega
  have hlong : ¬ (!its.toArray.isEmpty && Builtin.List.listTooLong (its.toArray.size + its2.toArray.size)) = true := by
    rw [notLongL hsz, Bool.and_false]
    exact Bool.false_ne_true
  refine call_meets F.slot_list_extend ⟨_, e, rfl⟩ F.entry_list_extend (F.args_list_extend_2 _ _)
    (AutoSeq1.list_extend_list_list_0 l its.toArray n b its2.toArray n2 hlong (by rw [List.size_toArray]; omega) (by omega)) ⟨e, e2, ?_⟩
  refine ⟨.non, _, I.lset (its' := its ++ its2) hH e (by simp) (r.append r2) ?_, rfl, q⟩
  rw [List.length_append]
  omega
def rCat : R2 := fun x y H Q => ∃ l b xs zs, x = .ref l ∧ y = .ref b ∧ H l = some (.lst xs) ∧ H b = some (.lst zs) ∧ xs.length + zs.length ≤ sizeLine ∧ ∀ p, H p = none → Q (.ref p) (upd H p (.lst (xs ++ zs)))
theorem op_cat : OpR X (binaryOp .Add) rCat := by
  intro pins s σ H x y v u Q I rx ry h
  obtain ⟨l, b, xs, zs, rfl, rfl, hH, hB, hz, q⟩ := h
  cases rx
  cases ry
  obtain ⟨z, its, n, r, hl, e⟩ := I.lstM hH
  obtain ⟨z2, its2, n2, r2, hl2, e2⟩ := I.lstM hB
  refine PySem.P.add_list e e2 ?_ (by rw [List.size_toArray, List.size_toArray]; omega)
  have ea : its.toArray ++ its2.toArray = (its ++ its2).toArray := by simp
  rw [ea]
  exact ⟨.ref _, _, I.lnew (t' := s.toks) (r.append r2) (by rw [List.length_append]; omega), rfl, q _ I.fresh⟩
def rRep : R2 := fun x y H Q => ∃ l k xs, x = .ref l ∧ y = .int k ∧ H l = some (.lst xs) ∧ -(2 ^ 63) ≤ k ∧ k < 2 ^ 63 ∧ xs.length * k.toNat ≤ sizeLine ∧
  ∀ p, H p = none → Q (.ref p) (upd H p (.lst (List.replicate k.toNat xs).flatten))
theorem len_rep {α : Type} (xs : List α) (k : Nat) : (List.replicate k xs).flatten.length = k * xs.length := by
  induction k with
  | zero => simp
  | succ k ih => rw [List.replicate_succ, List.flatten_cons, List.length_append, ih, Nat.succ_mul, Nat.add_comm]
theorem op_rep : OpR X (binaryOp .Mult) rRep := by
  intro pins s σ H x y v u Q I rx ry h
  obtain ⟨l, k, xs, rfl, rfl, hH, h1, h2, hz, q⟩ := h
  cases rx
  obtain ⟨t, rfl⟩ := ry
  obtain ⟨z, its, n, r, hl, e⟩ := I.lstM hH
  have hlen : its.toArray.size * k.toNat ≤ sizeLine := by rw [List.size_toArray, ← hl]; exact hz
  have hcap : ¬ its.toArray.size * k.toNat > (2 ^ 63 - 1) / 8 := by
    have : (sizeLine : Nat) ≤ (2 ^ 63 - 1) / 8 := by decide
    omega
  have hfit : ¬ (!Builtin.List.listFitsIndex k) = true := by
    rw [fitsIndex_both h1 h2]
    exact Bool.false_ne_true
  have hlong : ¬ Builtin.List.listTooLong (its.toArray.size * k.toNat) = true := by
    rw [notLongL hlen]
    exact Bool.false_ne_true
  have hnew : List.foldl (fun x1 x2 => x1 ++ x2) #[] (List.replicate (if its.toArray.isEmpty = true then 0 else k.toNat) its.toArray) = (List.replicate k.toNat its).flatten.toArray := by
    have f0 : ∀ m : Nat, List.foldl (fun x1 x2 => x1 ++ x2) #[] (List.replicate m its.toArray) = (List.replicate m its).flatten.toArray := fun m => by
      have := foldl_rep its m []
      rw [List.nil_append] at this
      exact this
    rw [f0]
    cases its with
    | nil => simp
    | cons a r' => rw [if_neg (by simp)]
  refine wpAny_binaryOp_repeat_ref (T := "list") (U := "int") (by decide) ⟨_, e, rfl⟩ (fun s' => typeIs_int s' k t) noFill_list_mul F.fills_int_mul F.slot_int_rmul repeat_list F.slot_int_index.lookup
    (call_meets F.slot_int_rmul (typeIs_int s k t) F.entry_int_rmul (F.args_int_rmul_2 _ _) (int___rmul___int_list k t l its.toArray n)
      ⟨e, rfl, ⟨_, e, rfl⟩, call_meets F.slot_list_mul ⟨_, e, rfl⟩ F.entry_list_mul (F.args_list_mul_2 _ _) (AutoListH.list___mul___list_int_3 l its.toArray n k t hfit hcap hlong) ⟨e, ?_⟩⟩)
  rw [hnew]
  exact ⟨.ref _, _, I.lnew (t' := s.toks) (r.rep k.toNat) (by rw [len_rep, Nat.mul_comm]; exact hz), rfl, q _ I.fresh⟩
end
section
variable {prog : Program} {w : World} {A : Around} {E : Value → Shared → Prop} {s : Shared}
set_option maxRecDepth 100000 in
end
section
variable {X : Cx}
end
end L2
namespace Att
open PySem PySem.W PySem.Calls PyProof.Rows
theorem ints_of_wellAll {P : Params} {h : Heap} : ∀ (ns : List Int) (vs : List Value), WellAll P h vs (ns.map WData.int) → IntsAre vs ns := by
  intro ns
  induction ns with
  | nil =>
    intro vs w
    rw [List.map_nil] at w
    cases w
    exact .nil
  | cons n ns ih =>
    intro vs w
    rw [List.map_cons] at w
    cases w with
    | cons a b =>
      cases a
      exact .cons _ _ (ih _ b)
theorem script_of {l : OpenLaw} {n : Nat} (hn : l.most = some n) {P : Params} {h : Heap} {args : List WData} {vals : List Value}
    (hpre : l.row.toRowW.claim.pre args = true) (hwl : WellAll P h vals args) :
    ∃ a vs ns, vals = [Value.ref a] ∧ args = [WData.list (ns.map WData.int)] ∧ h.get? a = some { cls := .type "list", data := .seq vs.toArray } ∧ IntsAre vs ns ∧ ns.length ≤ n := by
  have hsh : WShape.hasAll [] args [.list .int] = true := (pre_splitW hpre).1
  have hc : l.pre.holds [] { args := args } = true := (pre_splitW hpre).2
  obtain ⟨d, r, rfl, h1, h2⟩ := hasAllW_cons hsh
  obtain rfl := hasAllW_nil h2
  obtain ⟨xs, rfl, h3⟩ := hasW_list h1
  obtain ⟨ns, rfl⟩ := items_int h3
  have hlen : ns.length ≤ n := by
    unfold OpenLaw.pre at hc
    have h4 : (WTm.not (.lt (.lit (.int (n : Int))) (.len (.arg 0)))).holds [] { args := [.list (ns.map .int)] } = true := by
      have h4 := (holds_andW hc).1
      rw [hn] at h4
      exact h4
    have h5 := condW_of h4 (w_not (w_lt w_lit (w_len_list (w_arg rfl))))
    rw [List.length_map] at h5
    refine Nat.le_of_not_lt fun q => ?_
    have q' : (n : Int) < ((ns.length : Nat) : Int) := by omega
    first
      | (rw [decide_eq_true q'] at h5; exact absurd h5 (by decide))
      | (simp at h5; omega)
  cases hwl with
  | cons w1 w2 =>
    cases w2
    cases w1 with
    | list ho hall => exact ⟨_, _, ns, rfl, rfl, ho, ints_of_wellAll ns _ hall, hlen⟩
theorem post_true (l : OpenLaw) (args : List WData) : l.row.toRowW.claim.post args (.bool true) args = true :=
  postW_of (r := l.row.toRowW) (X := (true == true))
    (show WShape.has [] (.bool true) .bool = true by first | rfl | decide | simp [WShape.has, WShape.arms, WShape.armsAll])
    (show (WTm.eq .res (.lit (.bool true))).value [] { args := args, res := some (.bool true), after := args } = some (.bool (true == true)) from w_eq_bool (w_res rfl) w_lit) rfl
theorem attach_call {l : OpenLaw} {n : Nat} {q : Program} {loose : List Str} {XP : (Str → Option Value) → Heap → Prop} {YP : World → Heap → Prop} {d : DefRec}
    (hn : l.most = some n) (hdf : d.params.defaults = [])
    (call : ∀ (w : World) (s₀ s₁ : Shared) (mg mb : Str → Option Value) (fa : Addr) (o : Obj) (pm cd doc : Value) (a : Addr) (vs : List Value) (ns : List Int),
      Ground q loose [] XP w s₀ mg mb s₁.heap → YP w s₁.heap →
      s₁.heap.get? fa = some o → o.data = .func (docDef d.name d.params d.body d.scope pm cd doc) → s₁.heap.CodeRec cd d.name → mg d.name = some (.ref fa) →
      s₁.heap.get? a = some { cls := .type "list", data := .seq vs.toArray } → IntsAre vs ns → ns.length ≤ n → s₁.gens = #[] →
      codeAny (model l.prog w) callerA (.call (.ref fa) ⟨[.ref a], []⟩) (fun r s' => r = .ok (.ret (.bool true)) ∧ OldK s₁.heap s'.heap ∧ s'.os = s₁.os ∧ AllBare s'.gens) s₁) :
    WalkO q loose XP YP l.row.toRowW d [] (fun f vs => PySem.call f vs) := by
  intro w s₀ s₁ mg mb G Y fa o pm cd doc dV kV ho hd hcd hD hmg hg args vals as hpre hlay hrd hwl hlo
  obtain rfl : dV = .none := Dflts.none hD hdf
  obtain rfl : kV = .none := Dflts.noKw hD
  obtain ⟨a, vs, ns, rfl, rfl, hobj, hints, hlen⟩ := script_of hn hpre hwl
  refine enter_call (codeAny_mono (call w s₀ s₁ mg mb fa o pm cd doc a vs ns G Y ho (fd_plain hd) hcd hmg hobj hints hlen hg) fun r s' hq => ?_)
  obtain ⟨rfl, h2, h3, h4⟩ := hq
  exact ⟨.inl ⟨.bool true, .bool true, [], rfl, fun _ => rfl, .bool true, post_true l _, fun _ => ⟨List.Pairwise.nil, fun _ hm => (nomatch hm)⟩⟩, h2, h3, h4⟩
section
variable {prog : Program} {w : World} {A : Around} {E : Value → Shared → Prop} {s : Shared} {K : Frag}
end
end Att
namespace L2
open PySem PySem.Spec PyProof.Rows
theorem vals_ints : ∀ {vs : List Value} {ns : List Int}, IntsAre vs ns → Vals (ns.map V.int) vs
  | _, _, .nil => .nil
  | _, _, .cons n t h => .cons ⟨t, rfl⟩ (vals_ints h)
def Only (H : Hp) : Prop := ∀ b, H b = none ∨ ∃ o xs, H b = some (.frz o (.lst xs))
theorem law_call {P : Program} {w : World} {K : PySem.W.Frag} {mg mb : Str → Option Value} {CX : CXT} {k : Nat} {fa a : Addr} {fd : FuncData} {x : Str} {sp : Sp} {s₁ : Shared} {vs : List Value} {ns : List Int}
    (KX : K.In s₁.heap) (hns : s₁.heap.Ns mainGlobals mg) (hb : s₁.heap.Ns builtinsNs mb) (hbb : ∀ x : Str, x ≠ "__name__" → mb x = bootBuiltins x) (hlim : s₁.heap.NoLimit) (hg : s₁.gens = #[])
    (ha : s₁.heap.get? a = some { cls := .type "list", data := .seq vs.toArray }) (hi : IntsAre vs ns) (hl : ns.length ≤ sizeLine) (hr : Room k callerA)
    (F : ∀ base : Heap, K.In base → base.Ns mainGlobals mg → FnOk P w K mg base CX k fa fd [x] sp) (hbind : ∀ (s : Shared) (u : Value), BindsTo s fd ⟨[u], []⟩ [(x, u)])
    (hsp : ∀ H : Hp, Only H → SqL K H a (ns.map V.int) → sp [.ref a] H (fun v _ => v = .bl true) fun _ _ _ => False)
    (hCX : ∀ H e s', CX [] H s₁ (fun _ _ _ => False) e s' → False) :
    codeAny (model P w) callerA (.call (.ref fa) ⟨[.ref a], []⟩) (fun r s' => r = .ok (.ret (.bool true)) ∧ OldK s₁.heap s'.heap ∧ s'.os = s₁.os ∧ AllBare s'.gens) s₁ := by
  have rv := vals_ints hi
  have lenV := hi.length
  have core : ∀ H : Hp, Only H → SqL K H a (ns.map V.int) → HOk P w H s₁.heap → (∀ b, H b ≠ none → b = a) → (H a ≠ none → K.lookup a = none) →
      codeAny (model P w) callerA (.call (.ref fa) ⟨[.ref a], []⟩) (fun r s' => r = .ok (.ret (.bool true)) ∧ OldK s₁.heap s'.heap ∧ s'.os = s₁.os ∧ AllBare s'.gens) s₁ := by
    intro H hO hS hok hA hK
    have base_of : ∀ {b : Addr} {o : Obj}, s₁.heap.get? b = some o → H b = none → (hidT s₁.heap H).get? b = some o := fun e n => hidT_get e n
    have noA : ∀ {b : Addr} {o : Obj} {es : Array DictEntry} {ep : Nat}, s₁.heap.get? b = some o → o.data = .dict es ep → H b = none := fun {b o es ep} e d => by
      cases q : H b with
      | none => rfl
      | some u =>
        have e' : b = a := hA b (by rw [q]; simp)
        subst e'
        rw [ha] at e; cases e
        have d' : Data.seq vs.toArray _ = Data.dict es ep := d
        cases d'
    have nsK : ∀ {b : Addr} {m : Str → Option Value}, s₁.heap.Ns b m → (hidT s₁.heap H).Ns b m := fun {b m} ⟨o, es, ep, e, d, r⟩ => ⟨o, es, ep, base_of e (noA e d), d, r⟩
    have hKb : K.In (hidT s₁.heap H) := fun b o e => base_of (KX b o e) (by
      cases q : H b with
      | none => rfl
      | some u =>
        have e' : b = a := hA b (by rw [q]; simp)
        subst e'
        rw [hK (by rw [q]; simp)] at e; cases e)
    have hM : Mod K mg (hidT s₁.heap H) := ⟨hKb, nsK hns, ⟨mb, nsK hb, hbb⟩, let ⟨mc, h1, h2⟩ := hlim; ⟨mc, nsK h1, h2⟩⟩
    have e0 : Env0 P w K mg (hidT s₁.heap H) callerA [] s₁ H := ⟨rfl, hM, fun b o e => of_hidT e, Nat.le_of_eq (hidT_size _ _), trivial, fun b hb => absurd (show b ∈ ([] : List Addr) from hb) (by simp), hok, .of_eq hg⟩
    refine codeAny_mono ((F _ hKb (nsK hns)).run callerA [] s₁ H ⟨[.ref a], []⟩ [.ref a] [.ref a] _ _ hr e0 (hbind s₁ (.ref a)) (.cons rfl .nil) (hsp H hO hS)) fun r s' h => ?_
    cases r with
    | error e => exact (hCX H e s' h).elim
    | ok fl =>
      cases fl with
      | next => exact False.elim h
      | brk => exact False.elim h
      | cont => exact False.elim h
      | ret u =>
        obtain ⟨v, H', os, bare, un, hok', r', q⟩ := h
        have q' : v = .bl true := q
        subst q'
        obtain rfl : u = Value.bool true := r'
        refine ⟨rfl, OldK.of_keep fun b o e => ?_, os, bare⟩
        cases q : H b with
        | none => exact un.keep b o e q (by intro z; exact absurd (show b ∈ ([] : List Addr) from z) (by simp)) (by simp)
        | some u =>
          rcases hO b with z | ⟨ob, xs, z⟩
          · rw [q] at z; cases z
          · have z2 := un.frzs b ob _ z
            obtain ⟨e1, _⟩ := hok b _ z
            obtain ⟨e2, _⟩ := hok' b _ z2
            rw [e] at e1; cases e1
            exact e2
  cases hk : K.lookup a with
  | some o =>
    have e := KX a o hk
    rw [ha] at e
    cases e
    refine core (fun _ => none) (fun _ => .inl rfl) (.inr ⟨_, vs.toArray, _, hk, rfl, rfl, rfl, by rw [List.size_toArray, lenV]; exact hl, by simpa using rv⟩) (fun b u z => by have z' : (none : Option HO) = some u := z; cases z') (fun b z => absurd rfl z) fun z => absurd rfl z
  | none =>
    refine core (fun b => if b = a then some (.frz { cls := .type "list", data := .seq vs.toArray } (.lst (ns.map V.int))) else none) (fun b => ?_) (.inl (.inr ⟨{ cls := .type "list", data := .seq vs.toArray }, if_pos rfl⟩)) (fun b u z => ?_) (fun b z => ?_) fun _ => hk
    · by_cases hb : b = a
      · exact .inr ⟨_, _, if_pos hb⟩
      · exact .inl (if_neg hb)
    · by_cases hb : b = a
      · have z' := (if_pos hb).symm.trans z
        cases z'
        subst hb
        exact ⟨ha, by rw [List.length_map]; exact hl, vs, _, rv, ha⟩
      · have z' := (if_neg hb).symm.trans z
        cases z'
    · by_cases hb : b = a
      · exact hb
      · exact absurd (if_neg hb) z
end L2
namespace L2
open PySem PySem.Spec PyProof.Rows
theorem walk_of {l : PySem.W.OpenLaw} {n k : Nat} {q : Program} {loose : List Str} {XP : (Str → Option Value) → Heap → Prop} {YP : World → Heap → Prop} {d : DefRec} {K : Params → PySem.W.Frag} {CX : World → CXT} {sp : World → Sp} {x : Str}
    (hn : l.most = some n) (hn2 : n ≤ sizeLine) (hdf : d.params.defaults = []) (hr : Room k callerA)
    (hY : ∀ (w : World) (h : Heap), YP w h → (K w.params).In h)
    (F : ∀ (w : World) (mg : Str → Option Value) (fa : Addr) (h : Heap), (K w.params).In h → h.Ns mainGlobals mg → mg d.name = some (.ref fa) →
      ∃ fd : FuncData, (∀ (s : Shared) (u : Value), BindsTo s fd ⟨[u], []⟩ [(x, u)]) ∧
        ∀ base : Heap, (K w.params).In base → base.Ns mainGlobals mg → FnOk l.prog w (K w.params) mg base (CX w) k fa fd [x] (sp w))
    (hsp : ∀ (w : World) (H : Hp) (a : Addr) (ns : List Int), ns.length ≤ n → Only H → SqL (K w.params) H a (ns.map V.int) → sp w [.ref a] H (fun v _ => v = .bl true) fun _ _ _ => False)
    (hCX : ∀ (w : World) (H : Hp) (s : Shared) (e : Value) (s' : Shared), CX w [] H s (fun _ _ _ => False) e s' → False) :
    PySem.W.WalkO q loose XP YP l.row.toRowW d [] (fun f vs => PySem.call f vs) := by
  refine Att.attach_call hn hdf fun w s₀ s₁ mg mb fa o pm cd doc a vs ns G Y ho hd hcd hmg hobj hints hlen hg => ?_
  have KX := hY w _ Y
  obtain ⟨fd, hb, hF⟩ := F w mg fa _ KX G.T.g hmg
  exact law_call KX G.T.g G.T.b G.T.builtins G.T.nolimit hg hobj hints (Nat.le_trans hlen hn2) hr hF hb (fun H hO hS => hsp w H a ns hlen hO hS) fun H e s' => hCX w H s₁ e s'
end L2
/- THE LAST THEOREM (shape; LID, My.* are yours):
   My.Adr: a structure of the addresses that your layer names (classes, functions); My.Txt K t: a structure (Prop) of the equations over K;
   My.txt_mk : {K} {implicit addresses ..} (e1 : nsIn K mainGlobals "law" = some (some (.ref f))) (e2 : K.lookup f = some ⟨oc, od, .func (fnOf "law" "law" params body scope dV kV doc pm an cdv ct), sl⟩) (e3 : codeIn K cdv "law" = true) .. : ∃ t, My.Txt K t
set_option maxRecDepth 100000 in
set_option maxHeartbeats 0 in
theorem PySem.Challenge.cw_LID_holds : PySem.Challenge.rw_LID.Holds := by
  w_on; o_law; k_head; (case hw => w_witness2)
  k_fill
  refine L2.walk_of (l := PySem.Challenge.rw_LID) (n := 63) (k := 40) (x := "script") (CX := fun w => ..) (sp := fun _ => My.sp_law) rfl (by decide) rfl ⟨rfl, by decide, by decide⟩ (fun w h Y => PySem.W.kIn_of Y) ?F ?S ?C
  case F =>
    intro w mg fa h KX G hmg
    have T : ∃ t, My.Txt (L2.KOf KX) t := by
      dsimp only [L2.KOf]                          -- K must stand as «<heap const> w.params» for k_is
      refine' My.txt_mk ?e1 ?e2 ?e3 ..
      (case e1 => PySem.W.k_is)                    -- in the order: a name -> its address -> its object -> its parts
      (case e2 => PySem.W.k_is)
      ..
    obtain ⟨t, T⟩ := T
    have e0 := hmg.symm.trans (PySem.W.mg_of KX G T.law)
    cases e0                                       -- fa is the law's own address
    exact ⟨_, fun s u => .of_eq rfl, fun base kb nb => My.law_fn T kb nb⟩     -- if «.of_eq rfl» comes too early: refine' ⟨_, ?b, fun base kb nb => My.law_fn T kb nb⟩; exact fun s u => .of_eq rfl
  case S => exact fun w H a ns hl hO hS => ..
  case C => exact ..
(the tactic k_is has no namespace: write k_is) -/
namespace L2
open PySem PySem.Spec PyProof.Rows
def defArgs (s : Stmt) : Arguments := match s with
  | .FunctionDef _ a _ _ _ _ _ _ _ _ => a
  | _ => { posonlyargs := [], args := [], vararg := none, kwonlyargs := [], kw_defaults := [], kwarg := none, defaults := [] }
def defBody (s : Stmt) : List Stmt := match s with
  | .FunctionDef _ _ b _ _ _ _ _ _ _ => b
  | _ => []
def defScope (s : Stmt) : Scope := match s with
  | .FunctionDef _ _ _ _ _ _ sc _ _ _ => sc
  | _ => { kind := .function, names := [], isGenerator := false, isCoroutine := false }
abbrev CX0 : CXT := fun _ _ _ _ _ _ => False
abbrev E0 : XK := fun _ _ _ => False
theorem pass0 {X : Cx} : Passes CX0 X E0 := fun _ _ _ _ _ _ _ h => h.elim
structure Fun (K : PySem.W.Frag) (x qual : Str) (st : Stmt) (f : Addr) (fd : FuncData) : Prop where
  ex : ∃ (oc : Value) (od : Option Addr) (kV doc pm : Value) (an : Option Addr) (cdv ct : Value) (osl : Array (Option Value)),
    fd = PySem.W.fnOf x qual (defArgs st) (defBody st) (defScope st) .none kV doc pm an cdv ct ∧ K.lookup f = some ⟨oc, od, .func fd, osl⟩ ∧ PySem.W.codeIn K cdv qual = true
  kp : PySem.W.keepIn K (.ref f) = true
section
variable {P : Program} {w : World} {K : PySem.W.Frag} {mg : Str → Option Value} {base : Heap}
theorem Fun.ok {x qual : Str} {st : Stmt} {f : Addr} {fd : FuncData} {N ps : List Str} {k : Nat} {sp : Sp} (F : Fun K x qual st f fd) (S : FnScope N ps (defScope st)) (len : ∀ vs H Q E, sp vs H Q E → vs.length = ps.length)
    (hbody : ∀ (cdv : Value) (A : Around) (outer : List Env) (s : Shared) (H : Hp) (vs : List V) (Q : VK) (E : XK), Room k (A.deeper (envOfC qual (defScope st) s.heap.objs.size f cdv)) → sp vs H Q E →
      ∃ t, PSs (cxOf CX0 P w K mg base N qual (defScope st) f cdv A outer s H E).nox (defBody st) t ∧ t { nx := fun _ H' => Q .non H', rt := Q } (start N vs) H) : FnOk P w K mg base CX0 (k + 1) f fd ps sp := by
  obtain ⟨oc, od, kV, doc, pm, an, cdv, ct, osl, rfl, lk, hcd⟩ := F.ex
  refine fn_of lk hcd S len fun A outer s H vs Q E hr hsp => ?_
  obtain ⟨t, h, q⟩ := hbody cdv A outer s H vs Q E hr hsp
  exact ⟨t, h.nox, q⟩
theorem Fun.binds {x qual : Str} {st : Stmt} {f : Addr} {fd : FuncData} {ps : List Str} (F : Fun K x qual st f fd)
    (h : ∀ (kV doc pm : Value) (an : Option Addr) (cdv ct : Value) (us : List Value), us.length = ps.length → bindArgs (PySem.W.fnOf x qual (defArgs st) (defBody st) (defScope st) .none kV doc pm an cdv ct) ⟨us, []⟩ = pure (ps.zip us)) : Binds K fd ps [] := by
  obtain ⟨oc, od, kV, doc, pm, an, cdv, ct, osl, rfl, lk, hcd⟩ := F.ex
  exact .all (h kV doc pm an cdv ct)
theorem fun_mk {x qual : Str} {st : Stmt} {f : Addr} {oc : Value} {od an : Option Addr} {osl : Array (Option Value)} {kV doc pm cdv ct : Value} (l : K.lookup f = some ⟨oc, od, .func (PySem.W.fnOf x qual (defArgs st) (defBody st) (defScope st) .none kV doc pm an cdv ct), osl⟩)
    (c : PySem.W.codeIn K cdv qual = true) (k : PySem.W.keepIn K (.ref f) = true) : Fun K x qual st f (PySem.W.fnOf x qual (defArgs st) (defBody st) (defScope st) .none kV doc pm an cdv ct) := ⟨⟨oc, od, kV, doc, pm, an, cdv, ct, osl, rfl, l, c⟩, k⟩
end
section
variable {X : Cx}
end
theorem iteF {A B : Prop} (h : B) : if false = true then A else B := by
  rw [if_neg Bool.false_ne_true]
  exact h
theorem iteT {A B : Prop} (h : A) : if true = true then A else B := by
  rw [if_pos rfl]
  exact h
def Same (H H' : Hp) : Prop := ∀ b o, H b = some o → H' b = some o
theorem Same.refl (H : Hp) : Same H H := fun _ _ h => h
theorem Same.trans {H H1 H2 : Hp} (a : Same H H1) (b : Same H1 H2) : Same H H2 := fun c o h => b c o (a c o h)
theorem Same.free {H H' : Hp} (e : Same H H') {l : Addr} (h : H' l = Option.none) : H l = Option.none := by
  cases q : H l with
  | none => rfl
  | some o =>
    rw [e l o q] at h
    cases h
end L2
set_option Elab.async false
set_option linter.all false
set_option maxRecDepth 100000
namespace L2.Sk
open PySem PySem.Spec PyProof.Rows
inductive D where
  | non | bl (b : Bool) | int (i : Int) | str (x : Str) | tup (xs : List D) | lst (xs : List D) | dic (kvs : List (Key × Int)) | fz (ns : List Int)
  | exc (n : Str)
abbrev Fr0 := PySem.W.Frag
structure XK6 (K : Fr0) (D : Addr) : Prop where
  ga : PySem.W.findIn K (.ref D) "__getattribute__" = some (some (.builtin "BaseException.__getattribute__"))
  gt : PySem.W.findIn K (.ref D) "__getattr__" = some none
  cl : PySem.W.findIn K (.ref D) "__class__" = some (some (.builtin "object.__class__"))
  ob : PySem.W.mroIn K D (.type "object") = some true
  be : PySem.W.subIn K (.ref D) (.type "BaseException") = some true
  is : (PySem.W.clsIn K D).isSome = true
  no : ∀ T ∈ ["int", "bool", "str", "tuple", "list", "dict"], PySem.W.kitOne K (.ref D) (.type T) = some false
def clsOf (K : Fr0) (n : Str) : Option Addr := match PySem.W.nsIn K mainGlobals n with
  | some (some (.ref C)) => some C
  | _ => none
def clR (K : Fr0) (RN : List Str) (n : Str) : Option Addr := if RN.contains n then clsOf K n else none
theorem clR_in {K : Fr0} {RN : List Str} {n : Str} {C : Addr} (h : clR K RN n = some C) : RN.contains n = true ∧ clsOf K n = some C := by
  unfold clR at h
  split at h
  · rename_i hn; exact ⟨hn, h⟩
  · cases h
def XcAt (K : Fr0) (H : Hp) (a : Addr) (n : Str) : Prop := ∃ C, clsOf K n = some C ∧ XK6 K C ∧ ∃ o vs, H a = some (.frz o (.own a)) ∧ o.cls = .ref C ∧ o.data = .fields vs
def TupAt (K : Fr0) (H : Hp) (a : Addr) (xs : List V) : Prop :=
  H a = some (.tup xs) ∨ ∃ (o : Obj) (its : Array Value) (n : Nat), K.lookup a = some o ∧ o.cls = .type "tuple" ∧ o.data = .seq its n ∧ its.size ≤ sizeLine ∧ Vals xs its.toList
def FzAt (K : Fr0) (H : Hp) (a : Addr) (xs : List V) : Prop :=
  (∃ o, H a = some (.frz o (.lst xs))) ∨ ∃ (o : Obj) (its : Array Value) (n : Nat), K.lookup a = some o ∧ o.cls = .type "list" ∧ o.dict = none ∧ o.data = .seq its n ∧ its.size ≤ sizeLine ∧ Vals xs its.toList
theorem TupAt.sq {K : Fr0} {H : Hp} {a : Addr} {xs : List V} (h : TupAt K H a xs) : SqT K H a xs := by
  rcases h with h | h
  · exact .inl (.inl h)
  · exact .inr h
theorem FzAt.sq {K : Fr0} {H : Hp} {a : Addr} {xs : List V} (h : FzAt K H a xs) : SqL K H a xs := by
  rcases h with h | h
  · exact .inl (.inr h)
  · exact .inr h
mutual
def Is (K : Fr0) (A : Addr → Prop) (H : Hp) : D → V → Prop
  | .non, v => v = .non
  | .bl b, v => v = .bl b
  | .int i, v => v = .int i
  | .str x, v => v = .str x
  | .tup ds, v => ∃ a xs, v = .ref a ∧ TupAt K H a xs ∧ IsL K A H ds xs
  | .lst ds, v => ∃ a xs, v = .ref a ∧ A a ∧ H a = some (.lst xs) ∧ IsL K A H ds xs
  | .dic kvs, v => ∃ a, v = .ref a ∧ A a ∧ H a = some (.dK (kvs.map fun p => (p.1, V.int p.2)))
  | .fz ns, v => ∃ a, v = .ref a ∧ FzAt K H a (ns.map V.int)
  | .exc n, v => ∃ a, v = .ref a ∧ XcAt K H a n
def IsL (K : Fr0) (A : Addr → Prop) (H : Hp) : List D → List V → Prop
  | [], xs => xs = []
  | d :: ds, xs => ∃ x ys, xs = x :: ys ∧ Is K A H d x ∧ IsL K A H ds ys
end
mutual
def imm : D → Bool
  | .tup ds => immL ds
  | .lst _ => false
  | .dic _ => false
  | .fz _ => false
  | _ => true
def immL : List D → Bool
  | [] => true
  | d :: ds => imm d && immL ds
end
structure Ext (A : Addr → Prop) (H H' : Hp) : Prop where
  tup : ∀ b xs, H b = some (.tup xs) → H' b = some (.tup xs)
  frz : ∀ b o u, H b = some (.frz o u) → H' b = some (.frz o u)
  at_ : ∀ b o, A b → H b = some o → H' b = some o
theorem Ext.refl {A : Addr → Prop} {H : Hp} : Ext A H H := ⟨fun _ _ h => h, fun _ _ _ h => h, fun _ _ _ h => h⟩
theorem Ext.of_same {A : Addr → Prop} {H H' : Hp} (s : Same H H') : Ext A H H' := ⟨fun b xs h => s b _ h, fun b o u h => s b _ h, fun b o _ h => s b o h⟩
mutual
theorem Is.ext {K : Fr0} {A B : Addr → Prop} {H H' : Hp} (e : Ext A H H') (hAB : ∀ a, A a → (H a).isSome = true → B a) : ∀ {d : D} {v : V}, Is K A H d v → Is K B H' d v
  | .non, _, h => h
  | .bl _, _, h => h
  | .int _, _, h => h
  | .str _, _, h => h
  | .tup ds, _, ⟨a, xs, hv, h, r⟩ => ⟨a, xs, hv, h.elim (fun h => .inl (e.tup _ _ h)) .inr, IsL.ext e hAB r⟩
  | .lst ds, _, ⟨a, xs, hv, hA, h, r⟩ => ⟨a, xs, hv, hAB a hA (by rw [h]; rfl), e.at_ _ _ hA h, IsL.ext e hAB r⟩
  | .dic kvs, _, ⟨a, hv, hA, h⟩ => ⟨a, hv, hAB a hA (by rw [h]; rfl), e.at_ _ _ hA h⟩
  | .fz ns, _, ⟨a, hv, h⟩ => ⟨a, hv, h.elim (fun ⟨o, h⟩ => .inl ⟨o, e.frz _ _ _ h⟩) .inr⟩
  | .exc n, _, ⟨a, hv, C, hc, hk, o, vs, h, r⟩ => ⟨a, hv, C, hc, hk, o, vs, e.frz _ _ _ h, r⟩
theorem IsL.ext {K : Fr0} {A B : Addr → Prop} {H H' : Hp} (e : Ext A H H') (hAB : ∀ a, A a → (H a).isSome = true → B a) : ∀ {ds : List D} {xs : List V}, IsL K A H ds xs → IsL K B H' ds xs
  | [], _, h => h
  | _ :: _, _, ⟨x, ys, hx, h, r⟩ => ⟨x, ys, hx, Is.ext e hAB h, IsL.ext e hAB r⟩
end
mutual
theorem Is.imm {K : Fr0} {A B : Addr → Prop} {H : Hp} : ∀ {d : D} {v : V}, imm d = true → Is K A H d v → Is K B H d v
  | .non, _, _, h => h
  | .bl _, _, _, h => h
  | .int _, _, _, h => h
  | .str _, _, _, h => h
  | .tup ds, _, i, ⟨a, xs, hv, h, r⟩ => ⟨a, xs, hv, h, IsL.imm (by simpa [Sk.imm] using i) r⟩
  | .lst _, _, i, _ => by simp [Sk.imm] at i
  | .dic _, _, i, _ => by simp [Sk.imm] at i
  | .fz _, _, i, _ => by simp [Sk.imm] at i
  | .exc _, _, _, h => h
theorem IsL.imm {K : Fr0} {A B : Addr → Prop} {H : Hp} : ∀ {ds : List D} {xs : List V}, immL ds = true → IsL K A H ds xs → IsL K B H ds xs
  | [], _, _, h => h
  | d :: ds, _, i, ⟨x, ys, hx, h, r⟩ => by
    have i' : Sk.imm d = true ∧ immL ds = true := by simpa [immL] using i
    exact ⟨x, ys, hx, Is.imm i'.1 h, IsL.imm i'.2 r⟩
end
theorem IsL.length {K : Fr0} {A : Addr → Prop} {H : Hp} : ∀ {ds : List D} {xs : List V}, IsL K A H ds xs → xs.length = ds.length
  | [], _, h => by rw [h]; rfl
  | _ :: _, _, ⟨x, ys, hx, _, r⟩ => by rw [hx, List.length_cons, List.length_cons, IsL.length r]
theorem IsL.get {K : Fr0} {A : Addr → Prop} {H : Hp} : ∀ {ds : List D} {xs : List V} {i : Nat} {d : D}, IsL K A H ds xs → ds[i]? = some d → ∃ x, xs[i]? = some x ∧ Is K A H d x
  | [], _, _, _, _, h => by simp at h
  | e :: _, _, 0, d, ⟨x, ys, hx, h, r⟩, hd => by
    have e1 : e = d := by simpa using hd
    subst e1
    exact ⟨x, by rw [hx]; rfl, h⟩
  | _ :: ds, _, i + 1, d, ⟨x, ys, hx, h, r⟩, hd => by
    obtain ⟨y, h1, h2⟩ := IsL.get (i := i) (d := d) r (by simpa using hd)
    exact ⟨y, by rw [hx]; simpa using h1, h2⟩
theorem IsL.append {K : Fr0} {A : Addr → Prop} {H : Hp} : ∀ {ds es : List D} {xs ys : List V}, IsL K A H ds xs → IsL K A H es ys → IsL K A H (ds ++ es) (xs ++ ys)
  | [], _, _, _, h, g => by rw [h]; exact g
  | _ :: _, _, _, _, ⟨x, zs, hx, h, r⟩, g => ⟨x, zs ++ _, by rw [hx]; rfl, h, IsL.append r g⟩
theorem IsL.take {K : Fr0} {A : Addr → Prop} {H : Hp} : ∀ {ds : List D} {xs : List V} (n : Nat), IsL K A H ds xs → IsL K A H (ds.take n) (xs.take n)
  | _, _, 0, _ => by simp [IsL]
  | [], _, _ + 1, h => by rw [h]; simp [IsL]
  | _ :: _, _, n + 1, ⟨x, ys, hx, h, r⟩ => by rw [hx]; exact ⟨x, ys.take n, rfl, h, IsL.take n r⟩
theorem IsL.drop {K : Fr0} {A : Addr → Prop} {H : Hp} : ∀ {ds : List D} {xs : List V} (n : Nat), IsL K A H ds xs → IsL K A H (ds.drop n) (xs.drop n)
  | _, _, 0, h => h
  | [], _, _ + 1, h => by rw [h]; simp [IsL]
  | _ :: _, _, n + 1, ⟨x, ys, hx, h, r⟩ => by rw [hx]; exact IsL.drop n r
theorem IsL.one {K : Fr0} {A : Addr → Prop} {H : Hp} {d : D} {v : V} (h : Is K A H d v) : IsL K A H [d] [v] := ⟨v, [], rfl, h, rfl⟩
theorem IsL.set {K : Fr0} {A : Addr → Prop} {H : Hp} {d : D} {v : V} (hd : Is K A H d v) : ∀ {ds : List D} {xs : List V} (n : Nat), IsL K A H ds xs → IsL K A H (ds.set n d) (xs.set n v)
  | [], _, _, h => by rw [h]; simp [IsL]
  | _ :: _, _, 0, ⟨x, ys, hx, h, r⟩ => by rw [hx]; exact ⟨v, ys, rfl, hd, r⟩
  | _ :: _, _, n + 1, ⟨x, ys, hx, h, r⟩ => by rw [hx]; exact ⟨x, ys.set n v, rfl, h, IsL.set hd n r⟩
abbrev Env := List (Option D)
structure Exn where
  cls : Str
  val : D
inductive R (α : Type) where
  | ok (a : α) | exc (x : Exn) (ρ : Env) | bad
structure Fc where
  O : List Nat
  P : List Nat
  B : Addr → Prop
  H0 : Hp
  Io : Addr → Prop
  E : Exn → Hp → Prop
  S : Nat → Option (Option V)
def Cl (O : List Nat) (σ : St) (a : Addr) : Prop := ∀ j ∈ O, σ[j]? ≠ some (some (.ref a))
def Cn (c : Fc) (σ : St) (a : Addr) : Prop := c.B a ∧ Cl c.O σ a
structure Rep (K : Fr0) (c : Fc) (ρ : Env) (σ : St) (H : Hp) : Prop where
  len : ρ.length = σ.length
  val : ∀ i d, ρ[i]? = some (some d) → ∃ v, σ[i]? = some (some v) ∧
    ((i ∈ c.O ∧ ∃ ds a xs, d = .lst ds ∧ v = .ref a ∧ H a = some (.lst xs) ∧ IsL K (Cn c σ) H ds xs) ∨ (i ∉ c.O ∧ Is K (Cn c σ) H d v))
  own : ∀ j ∈ c.O, ∀ v, σ[j]? = some (some v) → ∃ a xs, v = .ref a ∧ H a = some (.lst xs) ∧ (c.H0 a = none ∨ (j ∈ c.P ∧ c.Io a))
  inj : ∀ i j a, i ∈ c.O → j ∈ c.O → σ[i]? = some (some (.ref a)) → σ[j]? = some (some (.ref a)) → i = j
  b0 : ∀ a, c.H0 a = none → c.B a
  kp : ∀ b o, c.H0 b = some o → ¬ c.Io b → H b = some o
  dm : ∀ b, H b = none → c.H0 b = none
  pO : ∀ j ∈ c.P, j ∈ c.O
  ps : ∀ j ∈ c.P, σ[j]? = c.S j
structure Gr (O : List Nat) (σ : St) (H H' : Hp) : Prop where
  ext : Ext (Cl O σ) H H'
  dom : ∀ b, H' b = none → H b = none
theorem Gr.refl {O : List Nat} {σ : St} {H : Hp} : Gr O σ H H := ⟨Ext.refl, fun _ h => h⟩
theorem Gr.of_same {O : List Nat} {σ : St} {H H' : Hp} (s : Same H H') : Gr O σ H H' := ⟨Ext.of_same s, fun _ h => s.free h⟩
theorem Gr.trans {O : List Nat} {σ : St} {H H1 H2 : Hp} (a : Gr O σ H H1) (b : Gr O σ H1 H2) : Gr O σ H H2 :=
  ⟨⟨fun c xs h => b.ext.tup c xs (a.ext.tup c xs h), fun c o u h => b.ext.frz c o u (a.ext.frz c o u h), fun c o hc h => b.ext.at_ c o hc (a.ext.at_ c o hc h)⟩, fun c h => a.dom c (b.dom c h)⟩
theorem Gr.cn {c : Fc} {σ : St} {H H' : Hp} (g : Gr c.O σ H H') : Ext (Cn c σ) H H' := ⟨g.ext.tup, g.ext.frz, fun b o hb h => g.ext.at_ b o hb.2 h⟩
theorem Gr.is {K : Fr0} {c : Fc} {σ : St} {H H' : Hp} {d : D} {v : V} (g : Gr c.O σ H H') (h : Is K (Cn c σ) H d v) : Is K (Cn c σ) H' d v := Is.ext g.cn (fun _ h _ => h) h
theorem Gr.isL {K : Fr0} {c : Fc} {σ : St} {H H' : Hp} {d : List D} {v : List V} (g : Gr c.O σ H H') (h : IsL K (Cn c σ) H d v) : IsL K (Cn c σ) H' d v := IsL.ext g.cn (fun _ h _ => h) h
theorem Rep.new {K : Fr0} {c : Fc} {ρ : Env} {σ : St} {H : Hp} (r : Rep K c ρ σ H) {a : Addr} (h : H a = none) : Cn c σ a :=
  ⟨r.b0 a (r.dm a h), fun j hj e => by obtain ⟨b, xs, e1, e2, _⟩ := r.own j hj _ e; cases e1; rw [h] at e2; cases e2⟩
theorem Rep.same {K : Fr0} {c : Fc} {ρ : Env} {σ : St} {H H' : Hp} (r : Rep K c ρ σ H) (s : Same H H') : Rep K c ρ σ H' where
  len := r.len
  val := fun i d h => by
    obtain ⟨v, h1, h2⟩ := r.val i d h
    refine ⟨v, h1, ?_⟩
    rcases h2 with ⟨hi, ds, a, xs, h3, h5, h6, h7⟩ | ⟨hi, h3⟩
    · exact .inl ⟨hi, ds, a, xs, h3, h5, s _ _ h6, IsL.ext (Ext.of_same s) (fun _ h _ => h) h7⟩
    · exact .inr ⟨hi, Is.ext (Ext.of_same s) (fun _ h _ => h) h3⟩
  own := fun j hj v h => by
    obtain ⟨a, xs, h1, h2, h3⟩ := r.own j hj v h
    exact ⟨a, xs, h1, s _ _ h2, h3⟩
  inj := r.inj
  b0 := r.b0
  kp := fun b o h1 h2 => s _ _ (r.kp b o h1 h2)
  dm := fun b h => r.dm b (s.free h)
  pO := r.pO
  ps := r.ps
theorem Rep.get {K : Fr0} {c : Fc} {ρ : Env} {σ : St} {H : Hp} (r : Rep K c ρ σ H) {i : Nat} {d : D} (hi : i ∉ c.O) (h : ρ[i]? = some (some d)) : ∃ v, σ[i]? = some (some v) ∧ Is K (Cn c σ) H d v := by
  obtain ⟨v, h1, h2⟩ := r.val i d h
  rcases h2 with ⟨h3, _⟩ | ⟨_, h3⟩
  · exact absurd h3 hi
  · exact ⟨v, h1, h3⟩
theorem Rep.getO {K : Fr0} {c : Fc} {ρ : Env} {σ : St} {H : Hp} (r : Rep K c ρ σ H) {i : Nat} {d : D} (hi : i ∈ c.O) (h : ρ[i]? = some (some d)) :
    ∃ ds a xs, d = .lst ds ∧ σ[i]? = some (some (.ref a)) ∧ H a = some (.lst xs) ∧ IsL K (Cn c σ) H ds xs := by
  obtain ⟨v, h1, h2⟩ := r.val i d h
  rcases h2 with ⟨_, ds, a, xs, h3, h5, h6, h7⟩ | ⟨h3, _⟩
  · subst h5; exact ⟨ds, a, xs, h3, h1, h6, h7⟩
  · exact absurd hi h3
abbrev M (α : Type) := Env → R (α × Env)
def Wp (K : Fr0) (c : Fc) (σ : St) (H : Hp) (Q : VK) : R (D × Env) → Prop
  | .ok (d, ρ) => ∀ v H', Rep K c ρ σ H' → Is K (Cn c σ) H' d v → Gr c.O σ H H' → Q v H'
  | .exc x ρ => ∀ H', Rep K c ρ σ H' → Gr c.O σ H H' → c.E x H'
  | .bad => False
def WpB (K : Fr0) (c : Fc) (σ : St) (H : Hp) (Q : Bool → Hp → Prop) : R (Bool × Env) → Prop
  | .ok (b, ρ) => ∀ H', Rep K c ρ σ H' → Gr c.O σ H H' → Q b H'
  | .exc x ρ => ∀ H', Rep K c ρ σ H' → Gr c.O σ H H' → c.E x H'
  | .bad => False
def WpL (K : Fr0) (c : Fc) (σ : St) (H : Hp) (Q : List V → Hp → Prop) : R (List D × Env) → Prop
  | .ok (ds, ρ) => ∀ vs H', Rep K c ρ σ H' → IsL K (Cn c σ) H' ds vs → Gr c.O σ H H' → Q vs H'
  | .exc x ρ => ∀ H', Rep K c ρ σ H' → Gr c.O σ H H' → c.E x H'
  | .bad => False
def DE (X : Cx) (c : Fc) (e : Expr) (f : M D) : Prop := ∃ t, PE X e t ∧ ∀ ρ σ H Q, Rep X.K c ρ σ H → Wp X.K c σ H Q (f ρ) → t σ H Q
def DT (X : Cx) (c : Fc) (e : Expr) (f : M Bool) : Prop := ∃ t, PT X e t ∧ ∀ ρ σ H Q, Rep X.K c ρ σ H → WpB X.K c σ H Q (f ρ) → t σ H Q
def DA (X : Cx) (c : Fc) (es : List Expr) (f : M (List D)) : Prop := ∃ t, PA X es t ∧ ∀ ρ σ H Q, Rep X.K c ρ σ H → WpL X.K c σ H Q (f ρ) → t σ H Q
def ret {α : Type} (a : α) : M α := fun ρ => .ok (a, ρ)
def bnd {α β : Type} (f : M α) (k : α → M β) : M β := fun ρ => match f ρ with
  | .ok (a, ρ') => k a ρ'
  | .exc x ρ' => .exc x ρ'
  | .bad => .bad
def lift {α : Type} : Option α → M α
  | some a => ret a
  | none => fun _ => .bad
section
variable {K : Fr0} {c : Fc} {σ : St} {H H1 : Hp} {Q : VK} {QB : Bool → Hp → Prop} {QL : List V → Hp → Prop} {r : R (D × Env)}
theorem Wp.gr : ∀ {r : R (D × Env)}, Wp K c σ H Q r → Gr c.O σ H H1 → Wp K c σ H1 Q r
  | .ok (d, ρ), h, g => fun v H' hr hi hg => h v H' hr hi (g.trans hg)
  | .exc x ρ, h, g => fun H' hr hg => h H' hr (g.trans hg)
  | .bad, h, _ => h
theorem WpB.gr : ∀ {r : R (Bool × Env)}, WpB K c σ H QB r → Gr c.O σ H H1 → WpB K c σ H1 QB r
  | .ok (d, ρ), h, g => fun H' hr hg => h H' hr (g.trans hg)
  | .exc x ρ, h, g => fun H' hr hg => h H' hr (g.trans hg)
  | .bad, h, _ => h
theorem WpL.gr : ∀ {r : R (List D × Env)}, WpL K c σ H QL r → Gr c.O σ H H1 → WpL K c σ H1 QL r
  | .ok (d, ρ), h, g => fun v H' hr hi hg => h v H' hr hi (g.trans hg)
  | .exc x ρ, h, g => fun H' hr hg => h H' hr (g.trans hg)
  | .bad, h, _ => h
theorem Wp.bnd {f : M D} {k : D → M D} {ρ : Env} {Q' : VK} (h : Wp K c σ H Q (bnd f k ρ)) (hQ : ∀ d ρ' v H', Rep K c ρ' σ H' → Is K (Cn c σ) H' d v → Gr c.O σ H H' → Wp K c σ H' Q (k d ρ') → Q' v H') : Wp K c σ H Q' (f ρ) := by
  unfold Sk.bnd at h
  cases e : f ρ with
  | ok p => rw [e] at h; exact fun v H' hr hi hg => hQ p.1 p.2 v H' hr hi hg (h.gr hg)
  | exc x ρ' => rw [e] at h; exact h
  | bad => rw [e] at h; exact h
theorem Wp.bndB {f : M D} {k : D → M Bool} {ρ : Env} {Q' : VK} (h : WpB K c σ H QB (Sk.bnd f k ρ)) (hQ : ∀ d ρ' v H', Rep K c ρ' σ H' → Is K (Cn c σ) H' d v → Gr c.O σ H H' → WpB K c σ H' QB (k d ρ') → Q' v H') : Wp K c σ H Q' (f ρ) := by
  unfold Sk.bnd at h
  cases e : f ρ with
  | ok p => rw [e] at h; exact fun v H' hr hi hg => hQ p.1 p.2 v H' hr hi hg (h.gr hg)
  | exc x ρ' => rw [e] at h; exact h
  | bad => rw [e] at h; exact h
theorem Wp.bndL {f : M D} {k : D → M (List D)} {ρ : Env} {Q' : VK} (h : WpL K c σ H QL (Sk.bnd f k ρ)) (hQ : ∀ d ρ' v H', Rep K c ρ' σ H' → Is K (Cn c σ) H' d v → Gr c.O σ H H' → WpL K c σ H' QL (k d ρ') → Q' v H') : Wp K c σ H Q' (f ρ) := by
  unfold Sk.bnd at h
  cases e : f ρ with
  | ok p => rw [e] at h; exact fun v H' hr hi hg => hQ p.1 p.2 v H' hr hi hg (h.gr hg)
  | exc x ρ' => rw [e] at h; exact h
  | bad => rw [e] at h; exact h
theorem WpB.bndB {f : M Bool} {k : Bool → M Bool} {ρ : Env} {Q' : Bool → Hp → Prop} (h : WpB K c σ H QB (Sk.bnd f k ρ)) (hQ : ∀ d ρ' H', Rep K c ρ' σ H' → Gr c.O σ H H' → WpB K c σ H' QB (k d ρ') → Q' d H') : WpB K c σ H Q' (f ρ) := by
  unfold Sk.bnd at h
  cases e : f ρ with
  | ok p => rw [e] at h; exact fun H' hr hg => hQ p.1 p.2 H' hr hg (h.gr hg)
  | exc x ρ' => rw [e] at h; exact h
  | bad => rw [e] at h; exact h
theorem WpL.bnd {f : M (List D)} {k : List D → M D} {ρ : Env} {Q' : List V → Hp → Prop} (h : Wp K c σ H Q (Sk.bnd f k ρ)) (hQ : ∀ d ρ' v H', Rep K c ρ' σ H' → IsL K (Cn c σ) H' d v → Gr c.O σ H H' → Wp K c σ H' Q (k d ρ') → Q' v H') : WpL K c σ H Q' (f ρ) := by
  unfold Sk.bnd at h
  cases e : f ρ with
  | ok p => rw [e] at h; exact fun v H' hr hi hg => hQ p.1 p.2 v H' hr hi hg (h.gr hg)
  | exc x ρ' => rw [e] at h; exact h
  | bad => rw [e] at h; exact h
theorem WpL.bndL {f : M (List D)} {k : List D → M (List D)} {ρ : Env} {Q' : List V → Hp → Prop} (h : WpL K c σ H QL (Sk.bnd f k ρ)) (hQ : ∀ d ρ' v H', Rep K c ρ' σ H' → IsL K (Cn c σ) H' d v → Gr c.O σ H H' → WpL K c σ H' QL (k d ρ') → Q' v H') : WpL K c σ H Q' (f ρ) := by
  unfold Sk.bnd at h
  cases e : f ρ with
  | ok p => rw [e] at h; exact fun v H' hr hi hg => hQ p.1 p.2 v H' hr hi hg (h.gr hg)
  | exc x ρ' => rw [e] at h; exact h
  | bad => rw [e] at h; exact h
theorem Wp.lift {o : Option D} {ρ : Env} (h : Wp K c σ H Q (Sk.lift o ρ)) : ∃ d, o = some d ∧ ∀ v H', Rep K c ρ σ H' → Is K (Cn c σ) H' d v → Gr c.O σ H H' → Q v H' := by
  cases o with
  | none => exact h.elim
  | some d => exact ⟨d, rfl, h⟩
end
section
variable {X : Cx} {c : Fc} {a b e : Expr} {pos : Pos}
theorem de_int {i j pos} : DE X c (.Constant (.int i) j pos) (ret (.int i)) := ⟨_, pe_int, fun _ _ H Q r h => h _ H r rfl .refl⟩
theorem de_bl {i j pos} : DE X c (.Constant (.bool i) j pos) (ret (.bl i)) := ⟨_, pe_bl, fun _ _ H Q r h => h _ H r rfl .refl⟩
theorem de_non {j pos} : DE X c (.Constant .none j pos) (ret .non) := ⟨_, pe_non, fun _ _ H Q r h => h _ H r rfl .refl⟩
theorem de_str {x j pos} : DE X c (.Constant (.str x) j pos) (ret (.str x)) := ⟨_, pe_str, fun _ _ H Q r h => h _ H r rfl .refl⟩
def dv (i : Nat) : M D := fun ρ => match ρ[i]? with
  | some (some d) => .ok (d, ρ)
  | _ => .bad
theorem de_var (i : Nat) {x : Str} (ho : i ∉ c.O := by exact of_decide_eq_false rfl) (hN : X.N[i]? = some x := by rfl) (hv : Vis X.env.scope x := by first | exact Or.inl rfl | exact Or.inr (Or.inl rfl) | exact Or.inr (Or.inr rfl)) (hd : (x == ("__debug__" : Str)) = false := by decide)
    (hcd : (x == ("__classdict__" : Str)) = false := by decide) : DE X c (.Name x pos) (dv i) := by
  refine ⟨_, pe_var hN hv hd hcd, fun ρ σ H Q r h => ?_⟩
  unfold dv at h
  split at h
  · rename_i d e
    obtain ⟨v, h1, h2⟩ := r.get ho e
    exact ⟨v, h1, h v H r h2 .refl⟩
  · exact h.elim
theorem de_glob {x : Str} {v : V} {u : Value} {d : D} (hg : Gl X x) (hm : X.mg x = some u) (rv : RelV v u) (hd : ∀ H A, Is X.K A H d v) (hdb : (x == ("__debug__" : Str)) = false := by decide) : DE X c (.Name x pos) (ret d) :=
  ⟨_, pe_glob hg hm rv hdb, fun _ _ H Q r h => h _ H r (hd _ _) .refl⟩
theorem da_nil : DA X c [] (ret []) := ⟨_, pa_nil, fun _ _ H Q r h => h _ H r rfl .refl⟩
def dcons (f : M D) (g : M (List D)) : M (List D) := bnd f fun d => bnd g fun ds => ret (d :: ds)
theorem da_cons {es : List Expr} {f : M D} {g : M (List D)} (ha : DE X c e f) (hr : DA X c es g) (hs : starEach (e :: es) X.env = (false, eval e X.env) :: starEach es X.env := by rfl) : DA X c (e :: es) (dcons f g) := by
  obtain ⟨ta, pa, wa⟩ := ha
  obtain ⟨tr, pr, wr⟩ := hr
  refine ⟨_, pa_cons pa pr hs, fun ρ σ H Q r h => wa ρ σ H _ r (Wp.bndL h fun d ρ1 v H1 r1 i1 g1 h1 => wr ρ1 σ H1 _ r1 (WpL.bndL h1 fun ds ρ2 vs H2 r2 i2 g2 h2 => ?_))⟩
  exact h2 _ H2 r2 ⟨v, vs, rfl, g2.is i1, i2⟩ .refl
def smallL (n : Nat) : Bool := decide (n ≤ sizeLine)
def dtup (f : M (List D)) : M D := bnd f fun ds => lift (if smallL ds.length then some (.tup ds) else none)
def dlst (f : M (List D)) : M D := bnd f fun ds => lift (if smallL ds.length then some (.lst ds) else none)
theorem same_new {H : Hp} {p : Addr} (h : H p = none) (o : HO) : Same H (upd H p o) := fun b u q => by rw [upd_ne (ne_of_none q h)]; exact q
theorem Rep.laid {K : Fr0} {ρ : Env} {σ : St} {H : Hp} (r : Rep K c ρ σ H) {p : Addr} (h : H p = none) (o : HO) : Rep K c ρ σ (upd H p o) := r.same (same_new h o)
theorem if_some {p : Bool} {d e : D} (h : (if p then some d else none) = some e) : p = true ∧ d = e := by
  cases p with
  | true => exact ⟨rfl, by simpa using h⟩
  | false => simp at h
theorem de_tup {es : List Expr} {x1} {f : M (List D)} (h : DA X c es f) : DE X c (.Tuple es x1 pos) (dtup f) := by
  obtain ⟨t, p, w⟩ := h
  refine ⟨_, pe_tup p, fun ρ σ H Q r h => w ρ σ H _ r (WpL.bnd h fun ds ρ1 vs H1 r1 i1 g1 h1 => ?_)⟩
  obtain ⟨d, e, h2⟩ := h1.lift
  obtain ⟨e1, e2⟩ := if_some e
  subst e2
  refine ⟨by rw [i1.length]; exact of_decide_eq_true e1, fun p hp => h2 _ _ (r1.laid hp _) ⟨p, vs, rfl, .inl upd_same, IsL.ext (Ext.of_same (same_new hp _)) (fun _ h _ => h) i1⟩ (.of_same (same_new hp _))⟩
theorem de_lst {es : List Expr} {f : M (List D)} (h : DA X c es f) : DE X c (.List es pos) (dlst f) := by
  obtain ⟨t, p, w⟩ := h
  refine ⟨_, pe_lst p, fun ρ σ H Q r h => w ρ σ H _ r (WpL.bnd h fun ds ρ1 vs H1 r1 i1 g1 h1 => ?_)⟩
  obtain ⟨d, e, h2⟩ := h1.lift
  obtain ⟨e1, e2⟩ := if_some e
  subst e2
  refine ⟨by rw [i1.length]; exact of_decide_eq_true e1, fun p hp => h2 _ _ (r1.laid hp _) ⟨p, vs, rfl, r1.new hp, upd_same, IsL.ext (Ext.of_same (same_new hp _)) (fun _ h _ => h) i1⟩ (.of_same (same_new hp _))⟩
def OpS (K : Fr0) (F : D → D → Option D) (r : R2) : Prop := ∀ (A : Addr → Prop) (H : Hp) (x y d : D) (v u : V) (Q : VK), (∀ a, H a = none → A a) → Is K A H x v → Is K A H y u → F x y = some d →
  (∀ w H', Same H H' → Is K A H' d w → Q w H') → r v u H Q
def d2 (F : D → D → Option D) (f g : M D) : M D := bnd f fun x => bnd g fun y => lift (F x y)
theorem op2 {r : R2} {F : D → D → Option D} {f g : M D} {ta tb : TE} (hF : OpS X.K F r) (wa : ∀ ρ σ H Q, Rep X.K c ρ σ H → Wp X.K c σ H Q (f ρ) → ta σ H Q) (wb : ∀ ρ σ H Q, Rep X.K c ρ σ H → Wp X.K c σ H Q (g ρ) → tb σ H Q) :
    ∀ ρ σ H Q, Rep X.K c ρ σ H → Wp X.K c σ H Q (d2 F f g ρ) → tOp r ta tb σ H Q := fun ρ σ H Q rp h => wa ρ σ H _ rp (Wp.bnd h fun x ρ1 v H1 r1 i1 g1 h1 => wb ρ1 σ H1 _ r1 (Wp.bnd h1 fun y ρ2 u H2 r2 i2 g2 h2 => by
  obtain ⟨d, e, h3⟩ := h2.lift
  exact hF _ H2 x y d v u Q (fun a ha => r2.new ha) (g2.is i1) i2 e fun w H' s i => h3 w H' (r2.same s) i (.of_same s)))
theorem de_bin {op : Operator} {r : R2} {F : D → D → Option D} {f g : M D} (ho : OpR X (binaryOp op) r) (hF : OpS X.K F r) (ha : DE X c a f) (hb : DE X c b g) : DE X c (.BinOp a op b pos) (d2 F f g) := by
  obtain ⟨ta, pa, wa⟩ := ha
  obtain ⟨tb, pb, wb⟩ := hb
  exact ⟨_, pe_op ho pa pb, op2 hF wa wb⟩
theorem de_cmp {op : CmpOp} {r : R2} {F : D → D → Option D} {f g : M D} (ho : OpR X (compareOp op) r) (hF : OpS X.K F r) (ha : DE X c a f) (hb : DE X c b g) (hm : behindInMarks op b = false) : DE X c (.Compare a [op] [b] pos) (d2 F f g) := by
  obtain ⟨ta, pa, wa⟩ := ha
  obtain ⟨tb, pb, wb⟩ := hb
  exact ⟨_, pe_cmpR ho pa pb hm, op2 hF wa wb⟩
def asB : D → Option Bool
  | .bl b => some b
  | _ => none
def tst (f : M D) : M Bool := bnd f fun d => lift (asB d)
theorem wpB_lift {K : Fr0} {σ : St} {H : Hp} {QB : Bool → Hp → Prop} {o : Option Bool} {ρ : Env} (h : WpB K c σ H QB (lift o ρ)) : ∃ b, o = some b ∧ ∀ H', Rep K c ρ σ H' → Gr c.O σ H H' → QB b H' := by
  cases o with
  | none => exact h.elim
  | some d => exact ⟨d, rfl, h⟩
theorem asB_some {d : D} {b : Bool} (h : asB d = some b) : d = .bl b := by
  cases d <;> simp [asB] at h
  subst h; rfl
theorem dt_cmp {op : CmpOp} {r : R2} {F : D → D → Option D} {f g : M D} (ho : OpR X (compareOp op) r) (hF : OpS X.K F r) (ha : DE X c a f) (hb : DE X c b g) (hm : behindInMarks op b = false) : DT X c (.Compare a [op] [b] pos) (tst (d2 F f g)) := by
  obtain ⟨ta, pa, wa⟩ := ha
  obtain ⟨tb, pb, wb⟩ := hb
  refine ⟨_, pt_cmpR ho pa pb hm, fun ρ σ H Q rp h => op2 hF wa wb ρ σ H _ rp (Wp.bndB h fun d ρ1 v H1 r1 i1 g1 h1 => ?_)⟩
  obtain ⟨b, e, h2⟩ := wpB_lift h1
  have := asB_some e
  subst this
  exact ⟨b, i1, h2 H1 r1 .refl⟩
theorem dt_val {f : M D} (h : DE X c e f) (he : ∀ whole, isTrue e X.env whole = (do let v ← whole; standAt e.pos; holding [v] (truthy v)) := by intro _; rfl) : DT X c e (tst f) := by
  obtain ⟨t, p, w⟩ := h
  refine ⟨_, pt_val p he, fun ρ σ H Q rp h => w ρ σ H _ rp (Wp.bndB h fun d ρ1 v H1 r1 i1 g1 h1 => ?_)⟩
  obtain ⟨b, e, h2⟩ := wpB_lift h1
  have := asB_some e
  subst this
  exact ⟨b, i1, h2 H1 r1 .refl⟩
def tnot (f : M Bool) : M Bool := bnd f fun b => ret (!b)
theorem dt_not {f : M Bool} (h : DT X c a f) : DT X c (.UnaryOp .Not a pos) (tnot f) := by
  obtain ⟨t, p, w⟩ := h
  exact ⟨_, pt_not p, fun ρ σ H Q rp h => w ρ σ H _ rp (WpB.bndB h fun d ρ1 H1 r1 g1 h1 => h1 H1 r1 .refl)⟩
def DW (X : Cx) (c : Fc) (e : Expr) (f : M Bool) : Prop := ∃ t, PW X e t ∧ ∀ ρ σ H Q, Rep X.K c ρ σ H → WpB X.K c σ H Q (f ρ) → t σ H Q
theorem DW.dt {f : M Bool} (h : DW X c e f) : DT X c e f := by
  obtain ⟨t, p, w⟩ := h
  exact ⟨t, p.pt, w⟩
def tand (f g : M Bool) : M Bool := bnd f fun b => if b then g else ret false
def tor (f g : M Bool) : M Bool := bnd f fun b => if b then ret true else g
variable {rest : List Expr}
theorem dw_and1 {f : M Bool} (h : DT X c a f) : DW X c (.BoolOp .And [a] pos) f := by
  obtain ⟨t, p, w⟩ := h
  exact ⟨t, pw_and1 p, w⟩
theorem dw_or1 {f : M Bool} (h : DT X c a f) : DW X c (.BoolOp .Or [a] pos) f := by
  obtain ⟨t, p, w⟩ := h
  exact ⟨t, pw_or1 p, w⟩
theorem dw_and {f g : M Bool} (ha : DT X c a f) (hb : DW X c (.BoolOp .And (b :: rest) pos) g) : DW X c (.BoolOp .And (a :: b :: rest) pos) (tand f g) := by
  obtain ⟨ta, pa, wa⟩ := ha
  obtain ⟨tb, pb, wb⟩ := hb
  refine ⟨_, pw_and pa pb, fun ρ σ H Q rp h => wa ρ σ H _ rp (WpB.bndB h fun d ρ1 H1 r1 g1 h1 => ?_)⟩
  cases d with
  | true => exact iteT (wb ρ1 σ H1 Q r1 (by simpa using h1))
  | false => exact iteF ((by simpa using h1 : WpB X.K c σ H1 Q (ret false ρ1)) H1 r1 .refl)
theorem dw_or {f g : M Bool} (ha : DT X c a f) (hb : DW X c (.BoolOp .Or (b :: rest) pos) g) : DW X c (.BoolOp .Or (a :: b :: rest) pos) (tor f g) := by
  obtain ⟨ta, pa, wa⟩ := ha
  obtain ⟨tb, pb, wb⟩ := hb
  refine ⟨_, pw_or pa pb, fun ρ σ H Q rp h => wa ρ σ H _ rp (WpB.bndB h fun d ρ1 H1 r1 g1 h1 => ?_)⟩
  cases d with
  | true => exact iteT ((by simpa using h1 : WpB X.K c σ H1 Q (ret true ρ1)) H1 r1 .refl)
  | false => exact iteF (wb ρ1 σ H1 Q r1 (by simpa using h1))
def dnot (f : M D) : M D := bnd f fun d => bnd (lift (asB d)) fun b => ret (.bl (!b))
def dand (f g : M D) : M D := bnd f fun d => bnd (lift (asB d)) fun b => if b then g else ret (.bl false)
def dor (f g : M D) : M D := bnd f fun d => bnd (lift (asB d)) fun b => if b then ret (.bl true) else g
theorem wp_asB {K : Fr0} {σ : St} {H : Hp} {Q : VK} {d : D} {k : Bool → M D} {ρ : Env} (h : Wp K c σ H Q (bnd (lift (asB d)) k ρ)) : ∃ b, d = .bl b ∧ Wp K c σ H Q (k b ρ) := by
  unfold bnd at h
  cases e : asB d with
  | none => rw [e] at h; exact h.elim
  | some b => rw [e] at h; exact ⟨b, asB_some e, h⟩
theorem de_one {op} {f : M D} (h : DE X c a f) : DE X c (.BoolOp op [a] pos) f := by
  obtain ⟨t, p, w⟩ := h
  exact ⟨t, pe_one p, w⟩
theorem de_not {f : M D} (h : DE X c a f) : DE X c (.UnaryOp .Not a pos) (dnot f) := by
  obtain ⟨t, p, w⟩ := h
  refine ⟨_, pe_not p, fun ρ σ H Q rp h => w ρ σ H _ rp (Wp.bnd h fun d ρ1 v H1 r1 i1 g1 h1 => ?_)⟩
  obtain ⟨b, e, h2⟩ := wp_asB h1
  subst e
  exact ⟨b, i1, h2 _ H1 r1 rfl .refl⟩
theorem de_and {f g : M D} (ha : DE X c a f) (hb : DE X c (.BoolOp .And (b :: rest) pos) g) : DE X c (.BoolOp .And (a :: b :: rest) pos) (dand f g) := by
  obtain ⟨ta, pa, wa⟩ := ha
  obtain ⟨tb, pb, wb⟩ := hb
  refine ⟨_, pe_and pa pb, fun ρ σ H Q rp h => wa ρ σ H _ rp (Wp.bnd h fun d ρ1 v H1 r1 i1 g1 h1 => ?_)⟩
  obtain ⟨k, e, h2⟩ := wp_asB h1
  subst e
  refine ⟨k, i1, ?_⟩
  cases k with
  | true => exact iteT (wb ρ1 σ H1 Q r1 (by simpa using h2))
  | false => exact iteF ((by simpa using h2 : Wp X.K c σ H1 Q (ret (.bl false) ρ1)) _ H1 r1 rfl .refl)
theorem de_or {f g : M D} (ha : DE X c a f) (hb : DE X c (.BoolOp .Or (b :: rest) pos) g) : DE X c (.BoolOp .Or (a :: b :: rest) pos) (dor f g) := by
  obtain ⟨ta, pa, wa⟩ := ha
  obtain ⟨tb, pb, wb⟩ := hb
  refine ⟨_, pe_or pa pb, fun ρ σ H Q rp h => wa ρ σ H _ rp (Wp.bnd h fun d ρ1 v H1 r1 i1 g1 h1 => ?_)⟩
  obtain ⟨k, e, h2⟩ := wp_asB h1
  subst e
  refine ⟨k, i1, ?_⟩
  cases k with
  | true => exact iteT ((by simpa using h2 : Wp X.K c σ H1 Q (ret (.bl true) ρ1)) _ H1 r1 rfl .refl)
  | false => exact iteF (wb ρ1 σ H1 Q r1 (by simpa using h2))
def dif (f : M Bool) (g k : M D) : M D := bnd f fun b => if b then g else k
def CallS (K : Fr0) (F : List D → Option D) (r : List V → Hp → VK → Prop) : Prop := ∀ (A : Addr → Prop) (H : Hp) (xs : List D) (d : D) (vs : List V) (Q : VK), (∀ a, H a = none → A a) → IsL K A H xs vs → F xs = some d →
  (∀ w H', Same H H' → Is K A H' d w → Q w H') → r vs H Q
def dcall (F : List D → Option D) (f : M (List D)) : M D := bnd f fun ds => lift (F ds)
theorem callW {r : List V → Hp → VK → Prop} {F : List D → Option D} {f : M (List D)} {t : TA} (hF : CallS X.K F r) (w : ∀ ρ σ H Q, Rep X.K c ρ σ H → WpL X.K c σ H Q (f ρ) → t σ H Q) :
    ∀ ρ σ H Q, Rep X.K c ρ σ H → Wp X.K c σ H Q (dcall F f ρ) → tCB r t σ H Q := fun ρ σ H Q rp h => w ρ σ H _ rp (WpL.bnd h fun ds ρ1 vs H1 r1 i1 g1 h1 => by
  obtain ⟨d, e, h3⟩ := h1.lift
  exact hF _ H1 ds d vs Q (fun a ha => r1.new ha) i1 e fun w H' s i => h3 w H' (r1.same s) i (.of_same s))
theorem de_callB {id : String} {x : Str} {p : Pos} {es : List Expr} {r : List V → Hp → VK → Prop} {F : List D → Option D} {f : M (List D)} (hc : CallR X (.builtin id) r) (hF : CallS X.K F r) (hg : Gl X x) (hm : X.mg x = none) (hv : bootBuiltins x = some (.builtin id)) (ha : DA X c (e :: es) f) (hn : x ≠ "__name__" := by decide) (hdb : (x == ("__debug__" : Str)) = false := by decide)
    (he : starEach (e :: es) X.env = (false, eval e X.env) :: starEach es X.env := by rfl) (hpl : (backTo pos (starEach es X.env)).any (·.1) = false := by rfl) : DE X c (.Call (.Name x p) (e :: es) [] pos) (dcall F f) := by
  obtain ⟨t, pa, w⟩ := ha
  exact ⟨_, pe_callB hc hg hm hv pa hn hdb he hpl, callW hF w⟩
theorem de_callTy {T : String} {x : Str} {p : Pos} {es : List Expr} {r : List V → Hp → VK → Prop} {F : List D → Option D} {f : M (List D)} (hc : CallR X (.type T) r) (hF : CallS X.K F r) (hg : Gl X x) (hm : X.mg x = none) (hv : bootBuiltins x = some (.type T)) (ha : DA X c (e :: es) f) (hn : x ≠ "__name__" := by decide) (hdb : (x == ("__debug__" : Str)) = false := by decide)
    (he : starEach (e :: es) X.env = (false, eval e X.env) :: starEach es X.env := by rfl) (hpl : (backTo pos (starEach es X.env)).any (·.1) = false := by rfl) : DE X c (.Call (.Name x p) (e :: es) [] pos) (dcall F f) := by
  obtain ⟨t, pa, w⟩ := ha
  exact ⟨_, pe_callTy hc hg hm hv pa hn hdb he hpl, callW hF w⟩
theorem de_ix {r : R2} {F : D → D → Option D} {f g : M D} (hr : IxR X r) (hF : OpS X.K F r) (ha : DE X c a f) (hb : DE X c b g) (hs : PlainIx b := by intro _ _; rfl) : DE X c (.Subscript a b pos) (d2 F f g) := by
  obtain ⟨ta, pa, wa⟩ := ha
  obtain ⟨tb, pb, wb⟩ := hb
  exact ⟨_, pe_ix hr pa pb hs, op2 hF wa wb⟩
end
end L2.Sk
set_option Elab.async false
set_option linter.all false
set_option maxRecDepth 100000
namespace L2.Sk
open PySem PySem.Spec PyProof.Rows
inductive Fl where
  | nx (ρ : Env) | rt (d : D) (ρ : Env) | bk (ρ : Env) | ct (ρ : Env)
structure GrS (O : List Nat) (σ : St) (H : Hp) (σ' : St) (H' : Hp) : Prop where
  ext : Ext (Cl O σ) H H'
  cl : ∀ b, Cl O σ b → (H b).isSome = true → Cl O σ' b
  dom : ∀ b, H' b = none → H b = none
theorem some_of_ne {H H' : Hp} {b : Addr} (dom : H' b = none → H b = none) (h : (H b).isSome = true) : (H' b).isSome = true := by
  cases e : H' b with
  | none => rw [dom e] at h; cases h
  | some o => rfl
theorem GrS.refl {O : List Nat} {σ : St} {H : Hp} : GrS O σ H σ H := ⟨Ext.refl, fun _ h _ => h, fun _ h => h⟩
theorem Gr.s {O : List Nat} {σ : St} {H H' : Hp} (g : Gr O σ H H') : GrS O σ H σ H' := ⟨g.ext, fun _ h _ => h, g.dom⟩
theorem GrS.trans {O : List Nat} {σ σ1 σ2 : St} {H H1 H2 : Hp} (a : GrS O σ H σ1 H1) (b : GrS O σ1 H1 σ2 H2) : GrS O σ H σ2 H2 :=
  ⟨⟨fun c xs h => b.ext.tup c xs (a.ext.tup c xs h), fun c o u h => b.ext.frz c o u (a.ext.frz c o u h), fun c o hc h => b.ext.at_ c o (a.cl c hc (by rw [h]; rfl)) (a.ext.at_ c o hc h)⟩,
    fun c hc h => b.cl c (a.cl c hc h) (some_of_ne (a.dom c) h), fun c h => a.dom c (b.dom c h)⟩
theorem GrS.is {K : Fr0} {c : Fc} {σ σ' : St} {H H' : Hp} {d : D} {v : V} (g : GrS c.O σ H σ' H') (h : Is K (Cn c σ) H d v) : Is K (Cn c σ') H' d v :=
  Is.ext ⟨g.ext.tup, g.ext.frz, fun b o hb h => g.ext.at_ b o hb.2 h⟩ (fun a ha hs => ⟨ha.1, g.cl a ha.2 hs⟩) h
theorem GrS.isL {K : Fr0} {c : Fc} {σ σ' : St} {H H' : Hp} {d : List D} {v : List V} (g : GrS c.O σ H σ' H') (h : IsL K (Cn c σ) H d v) : IsL K (Cn c σ') H' d v :=
  IsL.ext ⟨g.ext.tup, g.ext.frz, fun b o hb h => g.ext.at_ b o hb.2 h⟩ (fun a ha hs => ⟨ha.1, g.cl a ha.2 hs⟩) h
def WpS (K : Fr0) (c : Fc) (σ : St) (H : Hp) (D : Ends) : R Fl → Prop
  | .ok (.nx ρ) => ∀ σ' H', Rep K c ρ σ' H' → GrS c.O σ H σ' H' → D.nx σ' H'
  | .ok (.rt d ρ) => ∀ v σ' H', Rep K c ρ σ' H' → Is K c.B H' d v → GrS c.O σ H σ' H' → D.rt v H'
  | .ok (.bk ρ) => ∀ σ' H', Rep K c ρ σ' H' → GrS c.O σ H σ' H' → D.bk σ' H'
  | .ok (.ct ρ) => ∀ σ' H', Rep K c ρ σ' H' → GrS c.O σ H σ' H' → D.ct σ' H'
  | .exc x ρ => ∀ σ' H', Rep K c ρ σ' H' → GrS c.O σ H σ' H' → c.E x H'
  | .bad => False
abbrev MS := Env → R Fl
def DS (X : Cx) (c : Fc) (st : Stmt) (f : MS) : Prop := ∃ t, PS X st t ∧ ∀ ρ σ H D, Rep X.K c ρ σ H → WpS X.K c σ H D (f ρ) → t D σ H
def DSs (X : Cx) (c : Fc) (st : List Stmt) (f : MS) : Prop := ∃ t, PSs X st t ∧ ∀ ρ σ H D, Rep X.K c ρ σ H → WpS X.K c σ H D (f ρ) → t D σ H
theorem WpS.gr {K : Fr0} {c : Fc} {σ σ1 : St} {H H1 : Hp} {D : Ends} : ∀ {r : R Fl}, WpS K c σ H D r → GrS c.O σ H σ1 H1 → WpS K c σ1 H1 D r
  | .ok (.nx ρ), h, g => fun σ' H' hr hg => h σ' H' hr (g.trans hg)
  | .ok (.rt d ρ), h, g => fun v σ' H' hr hi hg => h v σ' H' hr hi (g.trans hg)
  | .ok (.bk ρ), h, g => fun σ' H' hr hg => h σ' H' hr (g.trans hg)
  | .ok (.ct ρ), h, g => fun σ' H' hr hg => h σ' H' hr (g.trans hg)
  | .exc x ρ, h, g => fun σ' H' hr hg => h σ' H' hr (g.trans hg)
  | .bad, h, _ => h
def sbnd {α : Type} (f : M α) (k : α → MS) : MS := fun ρ => match f ρ with
  | .ok (a, ρ') => k a ρ'
  | .exc x ρ' => .exc x ρ'
  | .bad => .bad
section
variable {K : Fr0} {c : Fc} {σ : St} {H : Hp} {D : Ends}
theorem Wp.sbnd {f : M Sk.D} {k : Sk.D → MS} {ρ : Env} {Q' : VK} (h : WpS K c σ H D (sbnd f k ρ)) (hQ : ∀ d ρ' v H', Rep K c ρ' σ H' → Is K (Cn c σ) H' d v → Gr c.O σ H H' → WpS K c σ H' D (k d ρ') → Q' v H') : Wp K c σ H Q' (f ρ) := by
  unfold Sk.sbnd at h
  cases e : f ρ with
  | ok p => rw [e] at h; exact fun v H' hr hi hg => hQ p.1 p.2 v H' hr hi hg (h.gr hg.s)
  | exc x ρ' => rw [e] at h; exact fun H' hr hg => h σ H' hr hg.s
  | bad => rw [e] at h; exact h
theorem WpB.sbnd {f : M Bool} {k : Bool → MS} {ρ : Env} {Q' : Bool → Hp → Prop} (h : WpS K c σ H D (sbnd f k ρ)) (hQ : ∀ d ρ' H', Rep K c ρ' σ H' → Gr c.O σ H H' → WpS K c σ H' D (k d ρ') → Q' d H') : WpB K c σ H Q' (f ρ) := by
  unfold Sk.sbnd at h
  cases e : f ρ with
  | ok p => rw [e] at h; exact fun H' hr hg => hQ p.1 p.2 H' hr hg (h.gr hg.s)
  | exc x ρ' => rw [e] at h; exact fun H' hr hg => h σ H' hr hg.s
  | bad => rw [e] at h; exact h
theorem WpL.sbnd {f : M (List Sk.D)} {k : List Sk.D → MS} {ρ : Env} {Q' : List V → Hp → Prop} (h : WpS K c σ H D (sbnd f k ρ)) (hQ : ∀ d ρ' v H', Rep K c ρ' σ H' → IsL K (Cn c σ) H' d v → Gr c.O σ H H' → WpS K c σ H' D (k d ρ') → Q' v H') : WpL K c σ H Q' (f ρ) := by
  unfold Sk.sbnd at h
  cases e : f ρ with
  | ok p => rw [e] at h; exact fun v H' hr hi hg => hQ p.1 p.2 v H' hr hi hg (h.gr hg.s)
  | exc x ρ' => rw [e] at h; exact fun H' hr hg => h σ H' hr hg.s
  | bad => rw [e] at h; exact h
end
def sseq (f g : MS) : MS := fun ρ => match f ρ with
  | .ok (.nx ρ') => g ρ'
  | r => r
theorem WpS.mono_nx {K : Fr0} {c : Fc} {σ : St} {H : Hp} {D : Ends} {f g : MS} {ρ : Env} {N : St → Hp → Prop} (h : WpS K c σ H D (sseq f g ρ)) (hN : ∀ ρ' σ' H', Rep K c ρ' σ' H' → GrS c.O σ H σ' H' → WpS K c σ' H' D (g ρ') → N σ' H') :
    WpS K c σ H { D with nx := N } (f ρ) := by
  unfold sseq at h
  cases e : f ρ with
  | ok fl =>
    rw [e] at h
    cases fl with
    | nx ρ' => exact fun σ' H' hr hg => hN ρ' σ' H' hr hg (h.gr hg)
    | rt d ρ' => exact h
    | bk ρ' => exact h
    | ct ρ' => exact h
  | exc x ρ' => rw [e] at h; exact h
  | bad => rw [e] at h; exact h
section
variable {X : Cx} {c : Fc} {a b e : Expr} {pos : Pos} {st : Stmt} {sts : List Stmt}
theorem dss_nil : DSs X c [] (fun ρ => .ok (.nx ρ)) := ⟨_, pss_nil, fun ρ σ H D r h => h σ H r .refl⟩
theorem dss_one {f : MS} (h : DS X c st f) : DSs X c [st] f := by
  obtain ⟨t, p, w⟩ := h
  exact ⟨t, pss_one p, w⟩
theorem dss_cons {f g : MS} (h : DS X c st f) (hr : DSs X c sts g) : DSs X c (st :: sts) (sseq f g) := by
  obtain ⟨t, p, w⟩ := h
  obtain ⟨t2, p2, w2⟩ := hr
  exact ⟨_, pss_cons p p2, fun ρ σ H D r h => w ρ σ H _ r (h.mono_nx fun ρ' σ' H' r' g' h' => w2 ρ' σ' H' D r' h')⟩
def sret (f : M D) : MS := sbnd f fun d ρ => .ok (.rt d ρ)
theorem Is.cn {K : Fr0} {σ : St} {H : Hp} {d : D} {v : V} (h : Is K (Cn c σ) H d v) : Is K c.B H d v := Is.ext Ext.refl (fun _ h _ => h.1) h
theorem ds_ret {f : M D} (h : DE X c e f) : DS X c (.Return (some e) pos) (sret f) := by
  obtain ⟨t, p, w⟩ := h
  exact ⟨_, ps_ret p, fun ρ σ H D r h => w ρ σ H _ r (Wp.sbnd h fun d ρ1 v H1 r1 i1 g1 h1 => h1 v σ H1 r1 i1.cn .refl)⟩
def sexpr (f : M D) : MS := sbnd f fun _ ρ => .ok (.nx ρ)
theorem ds_expr {f : M D} (h : DE X c e f) (hs : swapsWith e none pos.line X.env = pure false := by rfl) : DS X c (.Expr e pos) (sexpr f) := by
  obtain ⟨t, p, w⟩ := h
  exact ⟨_, ps_expr p hs, fun ρ σ H D r h => w ρ σ H _ r (Wp.sbnd h fun d ρ1 v H1 r1 i1 g1 h1 => h1 σ H1 r1 .refl)⟩
def sif (f : M Bool) (g k : MS) : MS := sbnd f fun b => if b then g else k
theorem ds_if {t : Expr} {s1 s2 : List Stmt} {f : M Bool} {g k : MS} (ht : DT X c t f) (ha : DSs X c s1 g) (hb : DSs X c s2 k) : DS X c (.If t s1 s2 pos) (sif f g k) := by
  obtain ⟨tt, pt, wt⟩ := ht
  obtain ⟨ta, pa, wa⟩ := ha
  obtain ⟨tb, pb, wb⟩ := hb
  refine ⟨_, ps_if pt pa pb, fun ρ σ H D rp h => wt ρ σ H _ rp (WpB.sbnd h fun d ρ1 H1 r1 g1 h1 => ?_)⟩
  cases d with
  | true => exact iteT (wa ρ1 σ H1 D r1 (by simpa using h1))
  | false => exact iteF (wb ρ1 σ H1 D r1 (by simpa using h1))
theorem ds_never : DS X c st (fun _ => .bad) := ⟨_, ps_never, fun ρ σ H D rp h => h.elim⟩
theorem set_get {α : Type} {l : List α} {i j : Nat} {v : α} (h : j ≠ i) : (l.set i v)[j]? = l[j]? := List.getElem?_set_ne (Ne.symm h)
theorem Cl.set {O : List Nat} {σ : St} {i : Nat} {v : Option V} (hi : i ∉ O) (a : Addr) : Cl O (σ.set i v) a ↔ Cl O σ a := by
  constructor
  · intro h j hj
    have e : j ≠ i := fun e => hi (e ▸ hj)
    have := h j hj
    rw [set_get e] at this
    exact this
  · intro h j hj
    have e : j ≠ i := fun e => hi (e ▸ hj)
    rw [set_get e]
    exact h j hj
theorem Rep.set {K : Fr0} {ρ : Env} {σ : St} {H : Hp} {i : Nat} {d : D} {v : V} (r : Rep K c ρ σ H) (hi : i ∉ c.O) (h : Is K (Cn c σ) H d v) : Rep K c (ρ.set i (some d)) (σ.set i (some v)) H where
  len := by rw [List.length_set, List.length_set]; exact r.len
  val := fun j e hj => by
    have up : ∀ {d' : D} {v' : V}, Is K (Cn c σ) H d' v' → Is K (Cn c (σ.set i (some v))) H d' v' := fun h => Is.ext Ext.refl (fun a ha _ => ⟨ha.1, (Cl.set hi a).mpr ha.2⟩) h
    by_cases e1 : j = i
    · subst e1
      have hl : j < ρ.length := by
        have := (List.getElem?_eq_some_iff.mp hj).1
        rwa [List.length_set] at this
      rw [List.getElem?_set_self hl] at hj
      cases hj
      refine ⟨v, List.getElem?_set_self (by rw [← r.len]; exact hl), .inr ⟨hi, up h⟩⟩
    · rw [set_get e1] at hj
      obtain ⟨w, h1, h2⟩ := r.val j e hj
      refine ⟨w, by rw [set_get e1]; exact h1, ?_⟩
      rcases h2 with ⟨hj2, ds, a, xs, h3, h5, h6, h7⟩ | ⟨h3, h4⟩
      · exact .inl ⟨hj2, ds, a, xs, h3, h5, h6, IsL.ext Ext.refl (fun a ha _ => ⟨ha.1, (Cl.set hi a).mpr ha.2⟩) h7⟩
      · exact .inr ⟨h3, up h4⟩
  own := fun j hj w h => by
    have e1 : j ≠ i := fun e => hi (e ▸ hj)
    rw [set_get e1] at h
    exact r.own j hj w h
  inj := fun j k a hj hk h1 h2 => by
    have e1 : j ≠ i := fun e => hi (e ▸ hj)
    have e2 : k ≠ i := fun e => hi (e ▸ hk)
    rw [set_get e1] at h1
    rw [set_get e2] at h2
    exact r.inj j k a hj hk h1 h2
  b0 := r.b0
  kp := r.kp
  dm := r.dm
  pO := r.pO
  ps := fun j hj => by
    have e : j ≠ i := fun e => hi (e ▸ r.pO j hj)
    rw [set_get e]; exact r.ps j hj
theorem GrS.set {O : List Nat} {σ : St} {H : Hp} {i : Nat} {v : Option V} (hi : i ∉ O) : GrS O σ H (σ.set i v) H := ⟨Ext.refl, fun b h _ => (Cl.set hi b).mpr h, fun _ h => h⟩
def sset (i : Nat) (f : M D) : MS := sbnd f fun d ρ => .ok (.nx (ρ.set i (some d)))
theorem ds_set {i : Nat} {x : Str} {pos' : Pos} {f : M D} (hN : X.N.Nodup) (he : DE X c e f) (ho : i ∉ c.O := by exact of_decide_eq_false rfl) (hi : X.N[i]? = some x := by rfl) (hx : Loc X.env.scope x := by first | exact Or.inl rfl | exact Or.inr rfl) (hs : swapsWith e (some (.Name x pos')) pos.line X.env = pure false := by rfl) (hf : X.fn x = true ∨ X.env.scope.names.lookup x = some .local := by first | exact .inl rfl | exact .inr rfl | assumption) :
    DS X c (.Assign [.Name x pos'] e pos) (sset i f) := by
  obtain ⟨t, p, w⟩ := he
  refine ⟨_, ps_set hN hi hx p hs hf, fun ρ σ H D r h => w ρ σ H _ r (Wp.sbnd h fun d ρ1 v H1 r1 i1 g1 h1 => ?_)⟩
  exact h1 _ H1 (r1.set ho i1) (.set ho)
def DG (X : Cx) (c : Fc) (tg : Expr) (f : D → Env → Option Env) : Prop := ∃ g, PG X tg g ∧ ∀ ρ σ H d v ρ' (N : St → Hp → Prop), Rep X.K c ρ σ H → Is X.K (Cn c σ) H d v → f d ρ = some ρ' →
  (∀ σ', Rep X.K c ρ' σ' H → GrS c.O σ H σ' H → (∀ j ∈ c.O, σ'[j]? = σ[j]?) → N σ' H) → g v σ H N
def gname (i : Nat) : D → Env → Option Env := fun d ρ => some (ρ.set i (some d))
theorem dg_name {i : Nat} {x : Str} (hN : X.N.Nodup) (ho : i ∉ c.O := by exact of_decide_eq_false rfl) (hi : X.N[i]? = some x := by rfl) (hx : Loc X.env.scope x := by first | exact Or.inl rfl | exact Or.inr rfl) (hf : X.fn x = true ∨ X.env.scope.names.lookup x = some .local := by first | exact .inl rfl | exact .inr rfl | assumption) {p : Pos} : DG X c (.Name x p) (gname i) := by
  refine ⟨_, pg_name hN hi hx hf, fun ρ σ H d v ρ' N r h e k => ?_⟩
  cases e
  exact k _ (r.set ho h) (.set ho) fun j hj => set_get fun e => ho (e ▸ hj)
def DGs (X : Cx) (c : Fc) (tgs : List Expr) (f : List D → Env → Option Env) : Prop := ∃ g, PGs X tgs g ∧ ∀ ρ σ H ds vs ρ' (N : St → Hp → Prop), Rep X.K c ρ σ H → IsL X.K (Cn c σ) H ds vs → f ds ρ = some ρ' →
  (∀ σ', Rep X.K c ρ' σ' H → GrS c.O σ H σ' H → (∀ j ∈ c.O, σ'[j]? = σ[j]?) → N σ' H) → g vs σ H N
def gnil : List D → Env → Option Env
  | [], ρ => some ρ
  | _, _ => none
def gcons (f : D → Env → Option Env) (g : List D → Env → Option Env) : List D → Env → Option Env
  | d :: ds, ρ => (f d ρ).bind (g ds)
  | _, _ => none
theorem dgs_nil : DGs X c [] gnil := by
  refine ⟨_, pgs_nil, fun ρ σ H ds vs ρ' N r h e k => ?_⟩
  cases ds with
  | nil =>
    cases e
    exact ⟨h, k σ r .refl fun _ _ => rfl⟩
  | cons d ds => cases e
theorem dgs_cons {tg : Expr} {tgs : List Expr} {f : D → Env → Option Env} {g : List D → Env → Option Env} (h1 : DG X c tg f) (h2 : DGs X c tgs g)
    (hs : (assignEach (tg :: tgs) X.env).map (·.2) = assign tg X.env :: (assignEach tgs X.env).map (·.2) := by rfl) : DGs X c (tg :: tgs) (gcons f g) := by
  obtain ⟨t1, p1, w1⟩ := h1
  obtain ⟨t2, p2, w2⟩ := h2
  refine ⟨_, pgs_cons p1 p2 hs, fun ρ σ H ds vs ρ' N r h e k => ?_⟩
  cases ds with
  | nil => cases e
  | cons d ds =>
    obtain ⟨v, ws, rfl, i1, i2⟩ := h
    have e' : (f d ρ).bind (g ds) = some ρ' := e
    cases e1 : f d ρ with
    | none => rw [e1] at e'; cases e'
    | some ρ1 =>
      rw [e1] at e'
      exact ⟨v, ws, rfl, w1 ρ σ H d v ρ1 _ r i1 e1 fun σ1 r1 g1 o1 => w2 ρ1 σ1 H ds ws ρ' N r1 (g1.isL i2) e' fun σ2 r2 g2 o2 => k σ2 r2 (g1.trans g2) fun j hj => (o2 j hj).trans (o1 j hj)⟩
def gtup (n : Nat) (g : List D → Env → Option Env) : D → Env → Option Env
  | .tup ds, ρ => if ds.length = n then g ds ρ else none
  | _, _ => none
theorem dg_tup {es : List Expr} {k n : Nat} {p : Pos} {g : List D → Env → Option Env} (hc : X.calm = true) (h : DGs X c es g) (hn : (assignEach es X.env).length = n := by rfl) (hst : (assignEach es X.env).findIdx? (·.1) = none := by rfl) : DG X c (.Tuple es k p) (gtup n g) := by
  obtain ⟨t, p, w⟩ := h
  refine ⟨_, pg_tup (n := n) hc p hn hst, fun ρ σ H d v ρ' N r h e q => ?_⟩
  cases d with
  | tup ds =>
    obtain ⟨a, xs, rfl, ta, il⟩ := h
    have e' : (if ds.length = n then g ds ρ else none) = some ρ' := e
    by_cases hl : ds.length = n
    · rw [if_pos hl] at e'
      exact ⟨a, xs, rfl, ta.sq, by rw [il.length]; exact hl, w ρ σ H ds xs ρ' N r il e' q⟩
    · rw [if_neg hl] at e'; cases e'
  | _ => cases e
def sasg (f : M D) (g : D → Env → Option Env) : MS := sbnd f fun d ρ => match g d ρ with
  | some ρ' => .ok (.nx ρ')
  | none => .bad
theorem ds_asg {tg : Expr} {f : M D} {g : D → Env → Option Env} (he : DE X c e f) (hg : DG X c tg g) (hs : swapsWithSole [tg] e pos.line X.env = pure false := by rfl) (hw : swappedStores [tg] e X.env = pure none := by rfl) (h1 : (assignEach [tg] X.env).map (·.2) = [assign tg X.env] := by rfl) : DS X c (.Assign [tg] e pos) (sasg f g) := by
  obtain ⟨t, p, w⟩ := he
  obtain ⟨t2, p2, w2⟩ := hg
  refine ⟨_, ps_asg p p2 hs hw h1, fun ρ σ H D r h => w ρ σ H _ r (Wp.sbnd h fun d ρ1 v H1 r1 i1 g1 h1 => ?_)⟩
  cases e : g d ρ1 with
  | none => rw [e] at h1; exact h1.elim
  | some ρ2 =>
    rw [e] at h1
    exact w2 ρ1 σ H1 d v ρ2 _ r1 i1 e fun σ' r2 g2 _ => h1 σ' H1 r2 g2
end
end L2.Sk
set_option Elab.async false
set_option linter.all false
set_option maxRecDepth 100000
namespace L2.Sk
open PySem PySem.Spec PyProof.Rows
section
variable {K : Fr0}
def iiD (g : Int → Int → D) : D → D → Option D
  | .int i, .int j => some (g i j)
  | _, _ => none
def iicD (C : Int → Int → Bool) (g : Int → Int → D) : D → D → Option D
  | .int i, .int j => if C i j then some (g i j) else none
  | _, _ => none
theorem ops_rI0 {g : Int → Int → V} {gD : Int → Int → D} (hg : ∀ A H i j, Is K A H (gD i j) (g i j)) : OpS K (iiD gD) (rI0 g) := by
  intro A H x y d v u Q hn ix iy e k
  cases x <;> cases y <;> simp only [iiD] at e <;> try (cases e; done)
  rename_i i j
  cases (Option.some.inj e)
  cases (show v = .int i from ix)
  cases (show u = .int j from iy)
  exact ⟨i, j, rfl, rfl, k _ H (Same.refl H) (hg _ _ _ _)⟩
theorem ops_rI {C : Int → Int → Prop} {CB : Int → Int → Bool} {g : Int → Int → V} {gD : Int → Int → D} (hC : ∀ i j, CB i j = true → C i j) (hg : ∀ A H i j, Is K A H (gD i j) (g i j)) : OpS K (iicD CB gD) (rI C g) := by
  intro A H x y d v u Q hn ix iy e k
  cases x <;> cases y <;> simp only [iicD] at e <;> try (cases e; done)
  rename_i i j
  obtain ⟨e1, e2⟩ := if_some e
  subst e2
  cases (show v = .int i from ix)
  cases (show u = .int j from iy)
  exact ⟨i, j, rfl, rfl, hC i j e1, k _ H (Same.refl H) (hg _ _ _ _)⟩
def fits64 (i : Int) : Bool := decide (-(2 ^ 64) < i) && decide (i < 2 ^ 64)
theorem fits64_of {i : Int} (h : fits64 i = true) : -(2 ^ 64) < i ∧ i < 2 ^ 64 := by
  unfold fits64 at h
  rw [Bool.and_eq_true] at h
  exact ⟨of_decide_eq_true h.1, of_decide_eq_true h.2⟩
def cmulB (i j : Int) : Bool := fits64 i || fits64 j
theorem cmulB_of {i j : Int} (h : cmulB i j = true) : CMul i j := by
  unfold cmulB at h
  rw [Bool.or_eq_true] at h
  rcases h with h | h
  · exact .inl (fits64_of h)
  · exact .inr (fits64_of h)
def cdivB (i j : Int) : Bool := decide (0 < j) && decide (j < 1606938044258990275541962092341162602522202993782792835301376)
theorem cdivB_of {i j : Int} (h : cdivB i j = true) : CDiv i j := by
  unfold cdivB at h
  rw [Bool.and_eq_true] at h
  exact ⟨of_decide_eq_true h.1, of_decide_eq_true h.2⟩
def fdivD : D → D → Option D := iicD cdivB fun i j => .int (i / j)
theorem ops_fdiv : OpS K fdivD (rI CDiv fun i j => .int (i / j)) := ops_rI (fun _ _ => cdivB_of) fun _ _ _ _ => rfl
def modD : D → D → Option D := iicD (fun _ j => decide (0 < j)) fun i j => .int (i % j)
theorem ops_mod : OpS K modD (rI (fun _ j => 0 < j) fun i j => .int (i % j)) := ops_rI (fun _ _ h => of_decide_eq_true h) fun _ _ _ _ => rfl
def ltD : D → D → Option D := iiD fun i j => .bl (decide (i < j))
def leD : D → D → Option D := iiD fun i j => .bl (decide (i ≤ j))
def gtD : D → D → Option D := iiD fun i j => .bl (decide (j < i))
def geD : D → D → Option D := iiD fun i j => .bl (decide (j ≤ i))
theorem ops_lt : OpS K ltD (rI0 fun i j => .bl (decide (i < j))) := ops_rI0 fun _ _ _ _ => rfl
theorem ops_gt : OpS K gtD (rI0 fun i j => .bl (decide (j < i))) := ops_rI0 fun _ _ _ _ => rfl
theorem ops_ge : OpS K geD (rI0 fun i j => .bl (decide (j ≤ i))) := ops_rI0 fun _ _ _ _ => rfl
def sc2 : D → D → Option Bool
  | .non, .non => some true | .non, .int _ => some false | .int _, .non => some false | .non, .bl _ => some false | .bl _, .non => some false | .non, .str _ => some false | .str _, .non => some false
  | .int i, .int j => some (decide (i = j)) | .bl i, .bl j => some (decide (i = j)) | .str i, .str j => some (decide (i = j))
  | .int _, .str _ => some false | .str _, .int _ => some false | .bl _, .str _ => some false | .str _, .bl _ => some false
  | _, _ => none
def eqS (x y : D) : Option D := (sc2 x y).map D.bl
def neS (x y : D) : Option D := (sc2 x y).map fun b => D.bl (!b)
theorem sc2_ok {A : Addr → Prop} {H : Hp} {x y : D} {v u : V} {b : Bool} (ix : Is K A H x v) (iy : Is K A H y u) (e : sc2 x y = some b) : scal v u = true ∧ decide (v = u) = b := by
  cases x <;> cases y <;> simp only [sc2] at e <;> first
    | (cases e; done)
    | (cases ix; cases iy; cases e; exact ⟨rfl, rfl⟩)
    | (cases ix; cases iy; cases e; exact ⟨rfl, by simp⟩)
    | (cases ix; cases iy; cases e; exact ⟨rfl, by rw [Bool.eq_iff_iff]; simp⟩)
theorem ops_eqS : OpS K eqS rEq := by
  intro A H x y d v u Q hn ix iy e k
  unfold eqS at e
  cases e1 : sc2 x y with
  | none => rw [e1] at e; cases e
  | some b =>
    rw [e1] at e
    cases e
    obtain ⟨h1, h2⟩ := sc2_ok ix iy e1
    exact ⟨h1, by rw [h2]; exact k _ H (Same.refl H) rfl⟩
theorem ops_neS : OpS K neS rNe := by
  intro A H x y d v u Q hn ix iy e k
  unfold neS at e
  cases e1 : sc2 x y with
  | none => rw [e1] at e; cases e
  | some b =>
    rw [e1] at e
    cases e
    obtain ⟨h1, h2⟩ := sc2_ok ix iy e1
    exact ⟨h1, by rw [h2]; exact k _ H (Same.refl H) rfl⟩
def isNonD : D → Bool
  | .non => true
  | _ => false
theorem isNon_ok {A : Addr → Prop} {H : Hp} {x : D} {v : V} (ix : Is K A H x v) : decide (v = V.non) = isNonD x := by
  cases x with
  | non => cases ix; rfl
  | bl b => cases ix; rfl
  | int i => cases ix; rfl
  | str s => cases ix; rfl
  | tup ds => obtain ⟨a, xs, rfl, _⟩ := ix; rfl
  | lst ds => obtain ⟨a, xs, rfl, _⟩ := ix; rfl
  | dic ds => obtain ⟨a, rfl, _⟩ := ix; rfl
  | fz ds => obtain ⟨a, rfl, _⟩ := ix; rfl
  | exc ds => obtain ⟨a, rfl, _⟩ := ix; rfl
def isN (x y : D) : Option D := if isNonD y then some (.bl (isNonD x)) else none
def notN (x y : D) : Option D := if isNonD y then some (.bl (!isNonD x)) else none
theorem ops_isN : OpS K isN (fun x y H Q => y = .non ∧ Q (.bl (decide (x = .non))) H) := by
  intro A H x y d v u Q hn ix iy e k
  obtain ⟨e1, e2⟩ := if_some e
  subst e2
  have h := isNon_ok iy
  rw [e1] at h
  refine ⟨of_decide_eq_true h, ?_⟩
  rw [isNon_ok ix]
  exact k _ H (Same.refl H) rfl
def ixD : D → D → Option D
  | .tup ds, .int i => atI ds i
  | .lst ds, .int i => atI ds i
  | .fz ns, .int i => (atI ns i).map D.int
  | _, _ => none
theorem IsL.atI {A : Addr → Prop} {H : Hp} {ds : List D} {xs : List V} {i : Int} {d : D} (h : IsL K A H ds xs) (e : L2.atI ds i = some d) : ∃ v, L2.atI xs i = some v ∧ Is K A H d v := by
  unfold L2.atI at e ⊢
  rw [h.length]
  cases e1 : ixN ds.length i with
  | none => rw [e1] at e; cases e
  | some j =>
    rw [e1] at e
    exact h.get e
theorem ops_ix : OpS K ixD (fun x y H Q => rIxL K x y H Q ∨ rIxT K x y H Q) := by
  intro A H x y d v u Q hn ix iy e k
  cases x <;> cases y <;> simp only [ixD] at e <;> try (cases e; done)
  · rename_i ds i
    cases iy
    obtain ⟨a, xs, rfl, ta, il⟩ := ix
    obtain ⟨w, h1, h2⟩ := il.atI e
    exact .inr ⟨a, xs, i, w, rfl, rfl, ta.sq, h1, k w H (Same.refl H) h2⟩
  · rename_i ds i
    cases iy
    obtain ⟨a, xs, rfl, _, ta, il⟩ := ix
    obtain ⟨w, h1, h2⟩ := il.atI e
    exact .inl ⟨a, xs, i, w, rfl, rfl, .inl (.inl ta), h1, k w H (Same.refl H) h2⟩
  · rename_i ns i
    cases iy
    obtain ⟨a, rfl, ta⟩ := ix
    cases e1 : L2.atI ns i with
    | none => rw [e1] at e; cases e
    | some m =>
      rw [e1] at e
      cases e
      have h1 : L2.atI (ns.map V.int) i = some (V.int m) := by
        unfold L2.atI at e1 ⊢
        rw [List.length_map]
        cases e2 : ixN ns.length i with
        | none => rw [e2] at e1; cases e1
        | some j =>
          rw [e2] at e1
          have e3 : ns[j]? = some m := e1
          show (ns.map V.int)[j]? = some (V.int m)
          rw [List.getElem?_map, e3]; rfl
      exact .inl ⟨a, _, i, .int m, rfl, rfl, ta.sq, h1, k _ H (Same.refl H) rfl⟩
theorem IsL.inv1 {A : Addr → Prop} {H : Hp} {d : D} {vs : List V} (h : IsL K A H [d] vs) : ∃ v, vs = [v] ∧ Is K A H d v := by
  obtain ⟨x, ys, e1, e2, e3⟩ := h
  have e3' : ys = [] := e3
  exact ⟨x, by rw [e1, e3'], e2⟩
theorem IsL.inv2 {A : Addr → Prop} {H : Hp} {d d' : D} {vs : List V} (h : IsL K A H [d, d'] vs) : ∃ v w, vs = [v, w] ∧ Is K A H d v ∧ Is K A H d' w := by
  obtain ⟨x, ys, e1, e2, e3⟩ := h
  obtain ⟨w, e4, e5⟩ := IsL.inv1 e3
  exact ⟨x, w, by rw [e1, e4], e2, e5⟩
def absD : List D → Option D
  | [.int i] => some (.int (if i < 0 then -i else i))
  | _ => none
theorem calls_abs : CallS K absD (fun xs H Q => ∃ i, xs = [.int i] ∧ Q (.int (if i < 0 then -i else i)) H) := by
  intro A H xs d vs Q hn h e k
  unfold absD at e
  split at e
  · rename_i i
    obtain ⟨v, rfl, e2⟩ := IsL.inv1 h
    cases e2; cases e
    exact ⟨i, rfl, k _ H (Same.refl H) rfl⟩
  · cases e
def max2D : List D → Option D
  | [.int i, .int j] => some (.int (if j > i then j else i))
  | _ => none
def min2D : List D → Option D
  | [.int i, .int j] => some (.int (if j < i then j else i))
  | _ => none
theorem calls_max : CallS K max2D (fun xs H Q => ∃ i j, xs = [.int i, .int j] ∧ Q (.int (if j > i then j else i)) H) := by
  intro A H xs d vs Q hn h e k
  unfold max2D at e
  split at e
  · rename_i i j
    obtain ⟨v, w, rfl, e2, e3⟩ := IsL.inv2 h
    cases e2; cases e3; cases e
    exact ⟨i, j, rfl, k _ H (Same.refl H) rfl⟩
  · cases e
theorem calls_min : CallS K min2D (fun xs H Q => ∃ i j, xs = [.int i, .int j] ∧ Q (.int (if j < i then j else i)) H) := by
  intro A H xs d vs Q hn h e k
  unfold min2D at e
  split at e
  · rename_i i j
    obtain ⟨v, w, rfl, e2, e3⟩ := IsL.inv2 h
    cases e2; cases e3; cases e
    exact ⟨i, j, rfl, k _ H (Same.refl H) rfl⟩
  · cases e
def divmodD : List D → Option D
  | [.int i, .int j] => if cdivB i j then some (.tup [.int (i / j), .int (i % j)]) else none
  | _ => none
theorem calls_divmod : CallS K divmodD (fun xs H Q => ∃ i j, xs = [.int i, .int j] ∧ CDiv i j ∧ ∀ p, H p = none → Q (.ref p) (upd H p (.tup [.int (i / j), .int (i % j)]))) := by
  intro A H xs d vs Q hn h e k
  unfold divmodD at e
  split at e
  · rename_i i j
    obtain ⟨v, w, rfl, e2, e3⟩ := IsL.inv2 h
    cases e2; cases e3
    obtain ⟨e6, e7⟩ := if_some e
    subst e7
    exact ⟨i, j, rfl, cdivB_of e6, fun p hp => k _ _ (same_new hp _) ⟨p, _, rfl, .inl upd_same, _, _, rfl, rfl, _, _, rfl, rfl, rfl⟩⟩
  · cases e
def int1D : List D → Option D
  | [.int i] => some (.int i)
  | [.bl b] => some (.int (if b then 1 else 0))
  | _ => none
def lenD : List D → Option D
  | [.tup ds] => some (.int ds.length)
  | [.lst ds] => some (.int ds.length)
  | [.fz ns] => some (.int ns.length)
  | [.str x] => if smallL x.length then some (.int x.length) else none
  | _ => none
def rLen (K : Fr0) : List V → Hp → VK → Prop := fun xs H Q => (∃ p ys, xs = [.ref p] ∧ (SqL K H p ys ∨ SqT K H p ys) ∧ Q (.int ys.length) H) ∨ (∃ z, xs = [.str z] ∧ z.length ≤ sizeLine ∧ Q (.int z.length) H)
theorem call_lenA {X : Cx} : CallR X (.builtin "len") (rLen X.K) := CallR.or call_len_seq call_len_str
theorem calls_len : CallS K lenD (rLen K) := by
  intro A H xs d vs Q hn h e k
  unfold lenD at e
  split at e
  · obtain ⟨v, rfl, a, zs, rfl, ta, il⟩ := IsL.inv1 h
    cases e
    exact .inl ⟨a, zs, rfl, .inr ta.sq, by rw [il.length]; exact k _ H (Same.refl H) rfl⟩
  · obtain ⟨v, rfl, a, zs, rfl, _, ta, il⟩ := IsL.inv1 h
    cases e
    exact .inl ⟨a, zs, rfl, .inl (.inl (.inl ta)), by rw [il.length]; exact k _ H (Same.refl H) rfl⟩
  · obtain ⟨v, rfl, a, rfl, ta⟩ := IsL.inv1 h
    cases e
    exact .inl ⟨a, _, rfl, .inl ta.sq, by rw [List.length_map]; exact k _ H (Same.refl H) rfl⟩
  · rename_i z
    obtain ⟨v, rfl, e2⟩ := IsL.inv1 h
    cases e2
    obtain ⟨e4, e5⟩ := if_some e
    subst e5
    exact .inr ⟨z, rfl, of_decide_eq_true e4, k _ H (Same.refl H) rfl⟩
  · cases e
def tupleD : List D → Option D
  | [.tup ds] => some (.tup ds)
  | [.lst ds] => some (.tup ds)
  | _ => none
theorem calls_tuple : CallS K tupleD (fun xs H Q => ∃ p ys, xs = [.ref p] ∧ ((SqL K H p ys ∧ ∀ l, H l = none → Q (.ref l) (upd H l (.tup ys))) ∨ (SqT K H p ys ∧ Q (.ref p) H))) := by
  intro A H xs d vs Q hn h e k
  unfold tupleD at e
  split at e
  · obtain ⟨v, rfl, a, zs, rfl, ta, il⟩ := IsL.inv1 h
    cases e
    exact ⟨a, zs, rfl, .inr ⟨ta.sq, k _ H (Same.refl H) ⟨a, zs, rfl, ta, il⟩⟩⟩
  · obtain ⟨v, rfl, a, zs, rfl, _, ta, il⟩ := IsL.inv1 h
    cases e
    exact ⟨a, zs, rfl, .inl ⟨.inl (.inl ta), fun l hl => k _ _ (same_new hl _) ⟨l, zs, rfl, .inl upd_same, IsL.ext (Ext.of_same (same_new hl _)) (fun _ h _ => h) il⟩⟩⟩
  · cases e
def listD : List D → Option D
  | [.tup ds] => some (.lst ds)
  | [.lst ds] => some (.lst ds)
  | _ => none
theorem calls_list : CallS K listD (fun xs H Q => ∃ p ys, xs = [.ref p] ∧ (SqL K H p ys ∨ SqT K H p ys) ∧ ∀ l, H l = none → Q (.ref l) (upd H l (.lst ys))) := by
  intro A H xs d vs Q hn h e k
  unfold listD at e
  split at e
  · obtain ⟨v, rfl, a, zs, rfl, ta, il⟩ := IsL.inv1 h
    cases e
    exact ⟨a, zs, rfl, .inr ta.sq, fun l hl => k _ _ (same_new hl _) ⟨l, zs, rfl, hn l hl, upd_same, IsL.ext (Ext.of_same (same_new hl _)) (fun _ h _ => h) il⟩⟩
  · obtain ⟨v, rfl, a, zs, rfl, _, ta, il⟩ := IsL.inv1 h
    cases e
    exact ⟨a, zs, rfl, .inl (.inl (.inl ta)), fun l hl => k _ _ (same_new hl _) ⟨l, zs, rfl, hn l hl, upd_same, IsL.ext (Ext.of_same (same_new hl _)) (fun _ h _ => h) il⟩⟩
  · cases e
end
end L2.Sk
set_option Elab.async false
set_option linter.all false
set_option maxRecDepth 100000
namespace L2.Sk
open PySem PySem.Spec PySem.Calls PyProof.Rows PySem.W
def TyAt (h : Heap) (a D : Addr) : Prop := ∃ o, h.get? a = some o ∧ o.cls = .ref D
theorem TyAt.looks {M : Model} {h : Heap} {a D : Addr} (I : TyAt h a D) : Looks M h (typeOf (.ref a)) (.ref D) := by
  obtain ⟨o, h1, h2⟩ := I
  rw [← h2]
  exact (Looks.ld h1).andThen .now
section
variable {prog : Program} {w : World} {A : Around} {E : Value → Shared → Prop} {K : Frag} {h : Heap} {g : Array GenState} {d : Drawn} {t : Nat} {os : OsState} {a D : Addr}
theorem xc_get (hm : mroIn K D (.type "object") = some true) {tp : Value} {R : Result → Shared → Prop} (X : K.In h) (I : TyAt h a D) (hq : R (.ok (.ret (.ref D))) ⟨h, g, d, t, os⟩) :
    codeAny (model prog w) A (.call (.builtin "getset_descriptor.__get__") ⟨[.builtin "object.__class__", .ref a, tp], []⟩) R ⟨h, g, d, t, os⟩ := by
  have L0 := I.looks (M := model prog w)
  have L1 := looks_mroIn (M := model prog w) X hm
  have hT5 : (⟨h, g, d, t, os⟩ : Shared).TypeIs (.builtin "object.__class__") "getset_descriptor" := F.typeOf_object_class
  refine codeAny_call_builtin F.slot_gs_get.plain F.entry_gs_get (F.slot_gs_get.check _ _ _ _ _ _ _ _ hT5 (F.args_gs_get _ _ _) ?_)
  have eo : ".".intercalate ("object.__class__".cutAt '.').dropLast = "object" := by decide +kernel
  repeat (any_goals (first | assumption | with_reducible refine L0.at ?_ | with_reducible refine L1.at ?_ | wp_step))
  rw [eo]
  refine L1.at ?_
  repeat (any_goals (first | assumption | with_reducible refine L0.at ?_ | wp_step))
  refine ⟨Code.quiet_builtin _ (by decide +kernel), codeAny_builtin F.entry_object_class ?_⟩
  repeat (any_goals (first | assumption | with_reducible refine L0.at ?_ | wp_step))
theorem xc_entry (ha : findIn K (.ref D) "__class__" = some (some (.builtin "object.__class__"))) (hm : mroIn K D (.type "object") = some true) {tk : Tok} {Q : Fin → Shared → Prop} (X : K.In h) (I : TyAt h a D) (hq : Q (.done (.ret (.ref D))) ⟨h, g, d, t, os⟩) :
    wpAny (model prog w) A (Builtin.«object.__getattribute__» ⟨[.ref a, .str "__class__" tk], []⟩) Q E ⟨h, g, d, t, os⟩ := by
  have L0 := I.looks (M := model prog w)
  have L1 := looks_findIn (M := model prog w) X ha
  have hT5 : (⟨h, g, d, t, os⟩ : Shared).TypeIs (.builtin "object.__class__") "getset_descriptor" := F.typeOf_object_class
  have f5 := F.typeOf_object_class
  have f6 := F.slot_gs_get.lookup
  have f7 := F.slot_gs_set.lookup
  repeat (any_goals (first | assumption | with_reducible refine L0.at ?_ | with_reducible refine L1.at ?_ | wp_step))
  refine xc_get hm X I ?_
  repeat (any_goals (first | assumption | wp_step))
theorem xc_check (hb : Looks (model prog w) h (isSubtype (.ref D) (.type "BaseException")) true) {nameV : Value} {Q : Unit → Shared → Prop} (I : TyAt h a D) (hq : Q () ⟨h, g, d, t, os⟩) : wpAny (model prog w) A (checkBuiltinCall "BaseException.__getattribute__" ⟨[.ref a, nameV], []⟩) Q E ⟨h, g, d, t, os⟩ := by
  have hk : builtinKind "BaseException.__getattribute__" = some .slot := by decide +kernel
  have hsplit : splitId "BaseException.__getattribute__" = some ("BaseException", "__getattribute__") := by decide +kernel
  have L0 := I.looks (M := model prog w)
  have ha := F.args_bexc_ga (.ref a) nameV
  simp only [checkBuiltinCall, hk, hsplit]
  refine wpAny_bind ?_
  · unfold isInstance
    repeat (first | with_reducible refine L0.at ?_ | with_reducible refine hb.at ?_ | wp_step)
    exact hq
theorem xc_by (FA : ExcAttrFacts "ValueError") (hga : findIn K (.ref D) "__getattribute__" = some (some (.builtin "BaseException.__getattribute__"))) (hgt : findIn K (.ref D) "__getattr__" = some none) (ha : findIn K (.ref D) "__class__" = some (some (.builtin "object.__class__"))) (hm : mroIn K D (.type "object") = some true)
    (hb : Looks (model prog w) h (isSubtype (.ref D) (.type "BaseException")) true) {tk : Tok} {fill expr : Bool} {Q : Value → Shared → Prop} (X : K.In h) (I : TyAt h a D) (hq : Q (.ref D) ⟨h, g, d, t, os⟩) :
    wpAny (model prog w) A (getAttrBy (.ref a) (.str "__class__" tk) fill expr) Q E ⟨h, g, d, t, os⟩ := by
  have L0 := I.looks (M := model prog w)
  have L1 := looks_findIn (M := model prog w) X hga
  have L2 := looks_findIn (M := model prog w) X hgt
  have f3 := FA.ga.bind (.ref a)
  have hx0 : (expr && onTheHeap (Value.builtin "BaseException.__getattribute__")) = false := by cases expr <;> rfl
  have hx2 : (Value.builtin "BaseException.__getattribute__" == Value.builtin "object.__getattribute__") = false := by decide +kernel
  have hx1 : (onTheHeap (Value.ref D) && Value.builtin "BaseException.__getattribute__" == Value.builtin "object.__getattribute__") = false := by rw [hx2]; rfl
  repeat (any_goals (first | assumption | with_reducible refine L0.at ?_ | with_reducible refine L1.at ?_ | with_reducible refine L2.at ?_ | wp_step))
  refine codeAny_call_builtin FA.ga.plain F.entry_bexc_ga (xc_check hb I (xc_entry ha hm X I ?_))
  repeat (any_goals (first | assumption | wp_step))
theorem xc_attr (FA : ExcAttrFacts "ValueError") (hga : findIn K (.ref D) "__getattribute__" = some (some (.builtin "BaseException.__getattribute__"))) (hgt : findIn K (.ref D) "__getattr__" = some none) (ha : findIn K (.ref D) "__class__" = some (some (.builtin "object.__class__"))) (hm : mroIn K D (.type "object") = some true)
    (hb : Looks (model prog w) h (isSubtype (.ref D) (.type "BaseException")) true) {Q : Option Value → Shared → Prop} (X : K.In h) (I : TyAt h a D) (hq : Q (some (.ref D)) ⟨h, g, d, t + 1, os⟩) :
    wpAny (model prog w) A (getAttr? (.ref a) "__class__") Q E ⟨h, g, d, t, os⟩ := by
  unfold getAttr? getAttrBy?
  repeat (any_goals (first | assumption | with_reducible apply xc_by FA hga hgt ha hm hb X I | wp_step))
end
theorem kitx_exc {K : Frag} {a D : Addr} (c : XK6 K D) : KitX K (.ref a) (.ref D) (fun h => TyAt h a D) where
  ty := fun _ _ _ I => I.looks
  it := fun _ _ X _ => by
    obtain ⟨cdD, hcD⟩ := Option.isSome_iff_exists.mp c.is
    unfold clsIn at hcD
    split at hcD
    · rename_i c' d' cd' sl' ho
      intro A' Q' E' s' k q
      unfold isType loadHead
      exact wpAny_bind (wpAny_loadPart (k _ _ (X _ _ ho)) (wpAny_pure q))
    · cases hcD
  ne := fun h tp dd its n sl X htp => by
    obtain ⟨cdD, hcD⟩ := Option.isSome_iff_exists.mp c.is
    refine Bool.eq_false_iff.mpr fun q => ?_
    have e : D = tp := Value.ref.inj (beq_iff_eq.mp q)
    subst e
    unfold clsIn at hcD
    split at hcD
    · rename_i c' d' cd' sl' ho
      have z := (X _ _ ho).symm.trans htp
      cases z
    · cases hcD
  ca := fun {prog w A E Q s} X p k => by
    have I := p
    obtain ⟨h, g, d, t, os⟩ := s
    exact xc_attr PySem.F.attrBase_ValueError.toExcAttrFacts c.ga c.gt c.cl c.ob (looks_subIn X c.be) X I k
theorem isinst_exc {X : Cx} {pins : List (Addr × Obj)} {σ : St} {H : Hp} {s : Shared} {A : Around} {E : Value → Shared → Prop} {Q : Value → Shared → Prop} {a C : Addr} {c : Value} {b : Bool} (I : Inv X pins σ H s) (xc : XK6 X.K C) (hH : ∃ o vs, H a = some (.frz o (.own a)) ∧ o.cls = .ref C ∧ o.data = .fields vs)
    (e : kitOne X.K (.ref C) c = some b) (h : ∀ tk, Q (.bool b) { s with toks := tk }) : wpAny (model X.prog X.w) A (call (.builtin "isinstance") [.ref a, c]) Q E s := by
  obtain ⟨o, vs, h1, h2, _⟩ := hH
  obtain ⟨p, _⟩ := (show ObjOk X.prog X.w H s.heap a (.frz o (.own a)) from I.hok a _ h1)
  exact kia_one (kitx_exc xc) I.kIn ⟨o, p, h2⟩ e (fun z => nomatch z) h
end L2.Sk
set_option Elab.async false
set_option linter.all false
set_option maxRecDepth 100000
namespace L2.Sk
open PySem PySem.Spec PyProof.Rows
def tyD : D → String
  | .non => "NoneType"
  | .bl _ => "bool"
  | .int _ => "int"
  | .str _ => "str"
  | .tup _ => "tuple"
  | .lst _ => "list"
  | .dic _ => "dict"
  | .fz _ => "list"
  | .exc _ => "exc"
def instB (t T : String) : Bool := t == T || (t == "bool" && T == "int")
def kinds : List String := ["NoneType", "bool", "int", "str", "tuple", "list", "dict"]
theorem tyD_mem (d : D) (h : ∀ C, d ≠ .exc C) : tyD d ∈ kinds := by
  cases d <;> first | (simp [tyD, kinds]; done) | exact absurd rfl (h _)
structure KitT (K : Fr0) (T : String) : Prop where
  ok : ∀ t ∈ kinds, PySem.W.kitOne K (.type t) (.type T) = some (instB t T)
  ex : T ∈ ["int", "bool", "str", "tuple", "list", "dict"]
  nx : instB "exc" T = false
theorem kit_int {K : Fr0} : KitT K "int" := ⟨fun t ht => by
  simp only [kinds, List.mem_cons, List.not_mem_nil, or_false] at ht
  rcases ht with rfl | rfl | rfl | rfl | rfl | rfl | rfl <;> kernel_rfl, by decide, by decide⟩
theorem kit_bool {K : Fr0} : KitT K "bool" := ⟨fun t ht => by
  simp only [kinds, List.mem_cons, List.not_mem_nil, or_false] at ht
  rcases ht with rfl | rfl | rfl | rfl | rfl | rfl | rfl <;> kernel_rfl, by decide, by decide⟩
theorem kit_tuple {K : Fr0} : KitT K "tuple" := ⟨fun t ht => by
  simp only [kinds, List.mem_cons, List.not_mem_nil, or_false] at ht
  rcases ht with rfl | rfl | rfl | rfl | rfl | rfl | rfl <;> kernel_rfl, by decide, by decide⟩
section
variable {X : Cx} {pins : List (Addr × Obj)} {σ : St} {H : Hp} {s : Shared} {A : Addr → Prop} {E : Value → Shared → Prop} {Q : Value → Shared → Prop}
theorem isi_ok {d : D} {v : V} {u : Value} {T : String} (I : Inv X pins σ H s) (h : Is X.K A H d v) (rv : RelV v u) (kt : KitT X.K T) (hQ : ∀ tk, Q (.bool (instB (tyD d) T)) { s with toks := tk }) :
    wpAny (model X.prog X.w) X.A (call (.builtin "isinstance") [u, .type T]) Q E s := by
  by_cases hx : ∃ C, d = .exc C
  · obtain ⟨C, rfl⟩ := hx
    obtain ⟨a, rfl, xa⟩ := h
    cases (show u = Value.ref a from rv)
    have q : ∀ tk, Q (.bool false) { s with toks := tk } := fun tk => by
      have := hQ tk
      rw [show tyD (.exc C) = "exc" from rfl, kt.nx] at this
      exact this
    obtain ⟨D0, h0, h1, h2⟩ := xa
    exact isinst_exc I h1 h2 (h1.no T kt.ex) q
  have e := kt.ok (tyD d) (tyD_mem d fun C hC => hx ⟨C, hC⟩)
  cases d with
  | exc C => exact absurd ⟨C, rfl⟩ hx
  | non => cases h; exact isinst_ok I rv .non e hQ
  | bl b => cases h; exact isinst_ok I rv (.bl b) e hQ
  | int i => cases h; exact isinst_ok I rv (.int i) e hQ
  | str x => cases h; exact isinst_ok I rv (.str x) e hQ
  | tup ds =>
    obtain ⟨a, xs, rfl, ta, il⟩ := h
    cases (show u = Value.ref a from rv)
    obtain ⟨its, r, p, z⟩ := I.tuple ta.sq
    obtain ⟨o, h1, h2, _⟩ := p
    exact PySem.W.kia_one PySem.W.kitx_tuple I.kIn ⟨o, h1, h2⟩ e (fun z => nomatch z) hQ
  | lst ds =>
    obtain ⟨a, xs, rfl, hA, ta, il⟩ := h
    exact isinst_ok I rv (.lst ta) e hQ
  | dic kvs =>
    obtain ⟨a, rfl, hA, ta⟩ := h
    exact isinst_ok I rv (.dK ta) e hQ
  | fz ns =>
    obtain ⟨a, rfl, ta⟩ := h
    cases (show u = Value.ref a from rv)
    obtain ⟨its, r, p, z⟩ := I.list ta.sq
    obtain ⟨o, h1, h2, _⟩ := p.isList
    exact PySem.W.kia_one PySem.W.kitx_list I.kIn ⟨o, h1, h2⟩ e (fun z => nomatch z) hQ
end
def disi (T : String) (f : M D) : M D := bnd f fun d => ret (.bl (instB (tyD d) T))
section
variable {X : Cx} {c : Fc} {a b e : Expr} {pos : Pos}
def rIsi (K : Fr0) (T : String) : List V → Hp → VK → Prop := fun xs H Q => ∃ v d A, xs = [v, .ty T] ∧ Is K A H d v ∧ Q (.bl (instB (tyD d) T)) H
theorem call_isi {T : String} (kt : KitT X.K T) : CallR X (.builtin "isinstance") (rIsi X.K T) := by
  intro pins s σ H xs us Q I r h
  obtain ⟨v, d, A, rfl, hi, q⟩ := h
  obtain ⟨u, w, rfl, r1, r2⟩ := Vals.two r
  cases (show w = Value.type T from r2)
  exact isi_ok I hi r1 kt fun tk => ⟨.bl _, H, I.tok tk, rfl, q⟩
theorem de_isi {T : String} {x : Str} {p p2 : Pos} {f : M D} (kt : KitT X.K T) (hg : Gl X "isinstance") (hm : X.mg "isinstance" = none) (hg2 : Gl X x) (hm2 : X.mg x = none) (hv2 : bootBuiltins x = some (.type T)) (ha : DE X c a f)
    (hv : bootBuiltins "isinstance" = some (.builtin "isinstance") := by first | rfl | exact PySem.boot_isinstance) (hn2 : x ≠ "__name__" := by decide) (hdb2 : (x == ("__debug__" : Str)) = false := by decide)
    (he : starEach [a, .Name x p2] X.env = (false, eval a X.env) :: starEach [.Name x p2] X.env := by rfl) (hpl : (backTo pos (starEach [.Name x p2] X.env)).any (·.1) = false := by rfl) : DE X c (.Call (.Name "isinstance" p) [a, .Name x p2] [] pos) (disi T f) := by
  obtain ⟨t, pa, w⟩ := ha
  refine ⟨_, pe_callB (call_isi kt) hg hm hv (pa_cons pa (pa_cons (pe_bltn (v := .ty T) hg2 hm2 hv2 rfl hn2 hdb2) pa_nil (by rfl)) he) (by decide) (by decide) he hpl, fun ρ σ H Q r h => w ρ σ H _ r (Wp.bnd h fun d ρ1 v H1 r1 i1 g1 h1 => ?_)⟩
  exact ⟨v, d, _, rfl, i1, h1 _ H1 r1 rfl .refl⟩
end
def boolsD : List D → Option (List Bool)
  | [] => some []
  | .bl b :: r => (boolsD r).map (b :: ·)
  | _ => none
def intsD : List D → Option (List Int)
  | [] => some []
  | .int i :: r => (intsD r).map (i :: ·)
  | _ => none
theorem boolsD_vals {K : Fr0} {A : Addr → Prop} {H : Hp} : ∀ {ds : List D} {xs : List V} {bs : List Bool}, IsL K A H ds xs → boolsD ds = some bs → xs = bs.map V.bl
  | [], _, _, h, e => by cases e; exact h
  | .bl b :: r, _, bs, ⟨x, ys, hx, h1, h2⟩, e => by
    cases h1
    cases e1 : boolsD r with
    | none => simp [boolsD, e1] at e
    | some l =>
      simp [boolsD, e1] at e
      subst e
      rw [hx, boolsD_vals h2 e1]; rfl
  | .non :: _, _, _, _, e => by cases e
  | .int _ :: _, _, _, _, e => by cases e
  | .str _ :: _, _, _, _, e => by cases e
  | .tup _ :: _, _, _, _, e => by cases e
  | .lst _ :: _, _, _, _, e => by cases e
  | .dic _ :: _, _, _, _, e => by cases e
  | .fz _ :: _, _, _, _, e => by cases e
  | .exc _ :: _, _, _, _, e => by cases e
theorem boolsAre {bs : List Bool} : ∀ {us : List Value}, Vals (bs.map V.bl) us → LSm.BoolsAre us bs := by
  induction bs with
  | nil => intro us r; rw [List.map_nil] at r; cases r; exact .nil
  | cons b bs ih =>
    intro us r
    rw [List.map_cons] at r
    cases r with
    | cons r1 r2 =>
      cases (show _ = Value.bool b from r1)
      exact .cons b (ih r2)
section
variable {X : Cx}
theorem call_all (hc : X.calm = true) : CallR X (.builtin "all") (fun xs H Q => ∃ (p : Addr) (bs : List Bool), xs = [.ref p] ∧ H p = some (.lst (bs.map V.bl)) ∧ Q (.bl (bs.all id)) H) := by
  intro pins s σ H xs us Q I r h
  obtain ⟨p, bs, rfl, hp, q⟩ := h
  obtain ⟨u, rfl, ru⟩ := Vals.one r
  cases ru
  obtain ⟨its, rv, pl, hz⟩ := I.list (SqL.of hp)
  have hl := pl.isList
  have hb := boolsAre rv
  have hlt : p < s.heap.objs.size := by obtain ⟨_, e, _⟩ := hl; exact Heap.lt_size e
  refine call_all_walk (wpAny_pyIter_list hl ?_)
  refine ⟨s.heap.objs.size, [s.heap.objs.size, p], [s.heap.objs.size], its.toArray.size, _, _, fun i => (bs[i]?).getD true, rfl, Walks.list (A := X.A.in1) (I.ok.hd hc) _ p (Nat.ne_of_lt hlt) its.toArray,
    ⟨⟨_, Heap.get?_push_size _ rfl, rfl, rfl⟩, hl.push _⟩, fun i v s' Q' E' hP hQ => ?_, fun h' tk hk => ?_⟩
  · obtain ⟨b, e, rfl⟩ := hb.get i v (by simpa using hP)
    simp only [e, Option.getD_some] at hQ
    exact wpAny_truthy_bool hQ
  · have e : ((List.range its.toArray.size).all fun i => (bs[i]?).getD true) = bs.all id := by
      rw [List.size_toArray, hb.length]; exact LSm.range_all bs
    rw [e]
    exact ⟨.bl _, H, I.kept (LSm.kept_iter hk), rfl, q⟩
end
def allD : List D → Option D
  | [.lst ds] => (boolsD ds).map fun bs => .bl (bs.all id)
  | _ => none
section
variable {K : Fr0}
theorem calls_all : CallS K allD (fun xs H Q => ∃ (p : Addr) (bs : List Bool), xs = [.ref p] ∧ H p = some (.lst (bs.map V.bl)) ∧ Q (.bl (bs.all id)) H) := by
  intro A H xs d vs Q hn h e k
  unfold allD at e
  split at e
  · obtain ⟨v, rfl, a, zs, rfl, _, ta, il⟩ := IsL.inv1 h
    obtain ⟨bs, h1, h2⟩ := Option.map_eq_some_iff.mp e
    subst h2
    rw [boolsD_vals il h1] at ta
    exact ⟨a, bs, rfl, ta, k _ H (Same.refl H) rfl⟩
  · cases e
end
section
variable {X : Cx}
def rCatT0 (K : Fr0) : R2 := fun x y H Q => ∃ a b ys, x = .ref a ∧ y = .ref b ∧ SqT K H a [] ∧ SqT K H b ys ∧ Q (.ref b) H
theorem op_catT0 : OpR X (binaryOp .Add) (rCatT0 X.K) := by
  intro pins s σ H x y v u Q I rx ry h
  obtain ⟨a, b, ys, rfl, rfl, ha, hb, q⟩ := h
  cases rx
  cases ry
  obtain ⟨its, r1, p1, _⟩ := I.tuple ha
  obtain ⟨its2, r2, p2, _⟩ := I.tuple hb
  cases r1
  obtain ⟨⟨cls, dd, data, sl⟩, ho, hc, n, hd⟩ := id p1
  obtain ⟨⟨cls2, dd2, data2, sl2⟩, ho2, hc2, n2, hd2⟩ := id p2
  simp only at hc hd hc2 hd2
  subst hc hd hc2 hd2
  exact concat_meets ⟨_, ho, rfl⟩ ⟨_, ho2, rfl⟩ noFill_tuple_add seq_tuple_add PySem.F.slot_tuple_add PySem.F.entry_tuple_add (PySem.F.args_tuple_add_2 _ _)
      (tuple_addW0 a b [].toArray its2.toArray n n2 dd dd2 sl sl2 (by simp)) ⟨ho, ho2, ⟨.ref b, H, I, rfl, q⟩⟩
def rAddA (K : Fr0) : R2 := fun x y H Q => (∃ i j, x = .int i ∧ y = .int j ∧ Q (.int (i + j)) H) ∨ ((∃ i j, x = .str i ∧ y = .str j ∧ i.length + j.length ≤ sizeLine ∧ Q (.str (i ++ j)) H) ∨ (rCatT0 K x y H Q ∨ (rCatT K x y H Q ∨ rCat x y H Q)))
theorem op_addA : OpR X (binaryOp .Add) (rAddA X.K) := OpR.or op_add (OpR.or op_add_str (OpR.or op_catT0 (OpR.or op_catT op_cat)))
end
def addD : D → D → Option D
  | .int i, .int j => some (.int (i + j))
  | .str x, .str y => if smallL (x.length + y.length) then some (.str (x ++ y)) else none
  | .tup xs, .tup ys => if smallL (xs.length + ys.length) then some (.tup (xs ++ ys)) else none
  | .lst xs, .lst ys => if smallL (xs.length + ys.length) then some (.lst (xs ++ ys)) else none
  | _, _ => none
theorem ops_add {K : Fr0} : OpS K addD (rAddA K) := by
  intro A H x y d v u Q hn ix iy e k
  cases x <;> cases y <;> simp only [addD] at e <;> try (cases e; done)
  · rename_i i j
    cases ix; cases iy; cases e
    exact .inl ⟨i, j, rfl, rfl, k _ H (Same.refl H) rfl⟩
  · rename_i i j
    cases ix; cases iy
    obtain ⟨e1, e2⟩ := if_some e
    subst e2
    exact .inr (.inl ⟨i, j, rfl, rfl, of_decide_eq_true e1, k _ H (Same.refl H) rfl⟩)
  · rename_i ds es
    obtain ⟨a, xs, rfl, ta, il⟩ := ix
    obtain ⟨b, ys, rfl, tb, jl⟩ := iy
    obtain ⟨e1, e2⟩ := if_some e
    subst e2
    have hs : xs.length + ys.length ≤ sizeLine := by rw [il.length, jl.length]; exact of_decide_eq_true e1
    refine .inr (.inr ?_)
    cases ds with
    | nil =>
      have hx : xs = [] := il
      subst hx
      exact .inl ⟨a, b, ys, rfl, rfl, ta.sq, tb.sq, k _ H (Same.refl H) ⟨b, ys, rfl, tb, jl⟩⟩
    | cons d0 ds =>
      refine .inr (.inl ⟨a, b, xs, ys, rfl, rfl, ta.sq, tb.sq, ?_, hs, fun hy => ?_, fun hy p hp => ?_⟩)
      · obtain ⟨x, zs, hx, _⟩ := il
        rw [hx]; simp
      · subst hy
        cases es with
        | nil => rw [List.append_nil] at k; exact k _ H (Same.refl H) ⟨a, xs, rfl, ta, il⟩
        | cons e0 es => obtain ⟨_, _, hx, _⟩ := jl; cases hx
      · exact k _ _ (same_new hp _) ⟨p, xs ++ ys, rfl, .inl upd_same, IsL.ext (Ext.of_same (same_new hp _)) (fun _ h _ => h) (IsL.append il jl)⟩
  · rename_i ds es
    obtain ⟨a, xs, rfl, hA, ta, il⟩ := ix
    obtain ⟨b, ys, rfl, hB, tb, jl⟩ := iy
    obtain ⟨e1, e2⟩ := if_some e
    subst e2
    have hs : xs.length + ys.length ≤ sizeLine := by rw [il.length, jl.length]; exact of_decide_eq_true e1
    exact .inr (.inr (.inr (.inr ⟨a, b, xs, ys, rfl, rfl, ta, tb, hs, fun p hp => k _ _ (same_new hp _) ⟨p, xs ++ ys, rfl, hn p hp, upd_same, IsL.ext (Ext.of_same (same_new hp _)) (fun _ h _ => h) (IsL.append il jl)⟩⟩)))
section
variable {X : Cx}
end
def cutD (xs : List D) (lo hi : Option Int) : List D := (xs.drop (HT.sIx xs.length 0 lo)).take (HT.sIx xs.length xs.length hi - HT.sIx xs.length 0 lo)
def slD (x : D) (lo hi : Option Int) : Option D := match x with
  | .tup ds => some (.tup (cutD ds lo hi))
  | _ => none
section
variable {X : Cx} {c : Fc} {a b e : Expr} {pos p2 : Pos}
def asI : D → Option Int
  | .int i => some i
  | _ => none
def dpart (f : M D) : M (Option Int) := bnd f fun d => match d with
  | .int i => ret (some i)
  | _ => fun _ => .bad
def dsl (f : M D) (g k : M (Option Int)) : M D := bnd f fun d => bnd g fun l => bnd k fun u => lift (slD d l u)
end
end L2.Sk
set_option Elab.async false
set_option linter.all false
set_option maxRecDepth 100000
namespace L2.Sk
open PySem PySem.Spec PyProof.Rows
def compCx (X : Cx) (scope : Scope) (N' : List Str) (fp : List Addr) (cl : List (Str × Addr)) (C : Addr) (s₀ : Shared) (H₀ : Hp) (pn : List (Addr × Obj)) : Cx where
  prog := X.prog
  w := X.w
  K := X.K
  mg := X.mg
  base := X.base
  A := X.A
  N := N'
  s₀ := s₀
  H₀ := H₀
  env := compEnvC scope cl C X.env
  outer := X.stack
  stack := X.stack
  ex := fp
  fn := fun _ => false
  calm := X.calm
  pn := pn
  xe := fun _ _ => False
def PF (X : Cx) (ifs : List Expr) (t : TT) : Prop := ∀ (pins : List (Addr × Obj)) (s : Shared) (σ : St) (H : Hp) (Q : Bool → Hp → Prop), Inv X pins σ H s → t σ H Q →
  wpAny (model X.prog X.w) X.A (forIn ifs true fun c r => if r = true then do let ok ← isTrue c X.env (eval c X.env); pure (ForInStep.yield ok) else pure (ForInStep.yield r)) (TP X pins σ Q) X.xe s
theorem pf_nil {X : Cx} : PF X [] (fun _ H Q => Q true H) := fun pins s σ H Q I h => wpAny_tests_nil ⟨H, I, h⟩
structure CompScope (X : Cx) (scope : Scope) (N' : List Str) (nt : Nat) (fr : List Nat) : Prop where
  kind : scope.kind = .function
  nocell : ∀ y ∈ scope.names, y.2 ≠ .cell
  names : ∀ y ∈ scope.names, y.2 = .local → scope.names.lookup y.1 = some .local
  frees : ∀ y ∈ scope.names, y.2 = .free → X.env.kindOf y.1 = some .cell
  len : N'.length = nt + fr.length
  slot : ∀ i j, fr[i]? = some j → ∃ x, N'[nt + i]? = some x ∧ X.N[j]? = some x ∧ scope.names.lookup x = some .free
theorem closure_ok {env : PySem.Env} : ∀ (names : List (Str × NameKind)) (cs : List (Str × Addr)), (∀ y ∈ names, y.2 = .free → ∃ a, env.cells.lookup y.1 = some a) → (∀ n a, cs.lookup n = some a → env.cells.lookup n = some a) →
    ∃ cl, (forIn names cs fun x r => match x with | (name, kind) => if (kind == NameKind.free) = true then do let a ← cellOf env name; pure (ForInStep.yield ((name, a) :: r)) else pure (ForInStep.yield r) : Sem (List (Str × Addr))) = pure cl ∧
      (∀ n a, cl.lookup n = some a → env.cells.lookup n = some a) ∧ (∀ n, (∃ a, cs.lookup n = some a) → ∃ a, cl.lookup n = some a) ∧ ∀ y ∈ names, y.2 = .free → ∃ a, cl.lookup y.1 = some a
  | [], cs, _, h => ⟨cs, rfl, h, fun _ h => h, fun y hy => by cases hy⟩
  | (n, k) :: r, cs, hf, h => by
    have hr : ∀ y ∈ r, y.2 = .free → ∃ a, env.cells.lookup y.1 = some a := fun y hy => hf y (List.mem_cons_of_mem _ hy)
    rw [List.forIn_cons]
    by_cases hk : k = .free
    · subst hk
      obtain ⟨a, ha⟩ := hf (n, .free) List.mem_cons_self rfl
      have ha' : env.cells.lookup n = some a := ha
      have hcell : cellOf env n = pure a := by unfold cellOf; rw [ha']
      obtain ⟨cl, e1, e2, e3, e4⟩ := closure_ok r ((n, a) :: cs) hr (fun m b hm => by
        rw [List.lookup_cons] at hm
        cases e : m == n with
        | true => rw [e] at hm; cases hm; rw [eq_of_beq e]; exact ha'
        | false => rw [e] at hm; exact h m b hm)
      refine ⟨cl, ?_, e2, fun m ⟨b, hm⟩ => e3 m ?_, fun y hy hyf => ?_⟩
      · show ((if (NameKind.free == NameKind.free) = true then _ else _) >>= _) = _
        rw [if_pos (by rfl), hcell]
        exact e1
      · rw [List.lookup_cons]
        cases e : m == n with
        | true => exact ⟨a, rfl⟩
        | false => exact ⟨b, hm⟩
      · rcases List.mem_cons.mp hy with rfl | hy
        · exact e3 n ⟨a, by rw [List.lookup_cons]; simp⟩
        · exact e4 y hy hyf
    · have hb : (k == NameKind.free) = false := by simpa using hk
      obtain ⟨cl, e1, e2, e3, e4⟩ := closure_ok r cs hr h
      refine ⟨cl, ?_, e2, e3, fun y hy hyf => ?_⟩
      · show ((if (k == NameKind.free) = true then _ else _) >>= _) = _
        rw [hb, if_neg Bool.false_ne_true]
        exact e1
      · rcases List.mem_cons.mp hy with rfl | hy
        · exact absurd hyf hk
        · exact e4 y hy hyf
theorem closureFor_ok {env : PySem.Env} {scope : Scope} (hf : ∀ y ∈ scope.names, y.2 = .free → ∃ a, env.cells.lookup y.1 = some a) :
    ∃ cl, closureFor scope env = pure cl ∧ (∀ n a, cl.lookup n = some a → env.cells.lookup n = some a) ∧ ∀ y ∈ scope.names, y.2 = .free → ∃ a, cl.lookup y.1 = some a := by
  obtain ⟨cl, e1, e2, _, e4⟩ := closure_ok scope.names [] hf (fun n a h => by cases h)
  refine ⟨cl, ?_, e2, e4⟩
  unfold closureFor
  show (forIn scope.names [] _ >>= _) = _
  have e5 : (forIn scope.names [] fun x r => match x with | (name, kind) => if (kind == NameKind.free) = true then do let a ← cellOf env name; pure (ForInStep.yield ((name, a) :: r)) else pure (ForInStep.yield r) : Sem (List (Str × Addr))) = pure cl := e1
  first
    | (rw [e5]; rfl)
    | (simp only [bind_pure_comp, e5]; rfl)
theorem lookup_relabel_free {env : PySem.Env} : ∀ {names : List (Str × NameKind)} {x : Str}, names.lookup x = some .free → env.scope.kind = .function → env.kindOf x = some .cell →
    (names.map fun (n, k) => if (k == NameKind.free && env.scope.kind == .function && env.kindOf n == some .cell) then (n, NameKind.cell) else (n, k)).lookup x = some .cell
  | [], _, h, _, _ => by simp at h
  | (n, k) :: r, x, h, hk, hx => by
    have ih := @lookup_relabel_free env r x
    show List.lookup x ((if (k == NameKind.free && env.scope.kind == .function && env.kindOf n == some .cell) = true then (n, NameKind.cell) else (n, k)) :: _) = _
    cases hxn : x == n with
    | true =>
      have e : x = n := eq_of_beq hxn
      subst e
      simp only [List.lookup_cons, hxn] at h
      cases h
      rw [if_pos (by rw [hk, hx]; rfl)]
      simp only [List.lookup_cons, hxn]
    | false =>
      simp only [List.lookup_cons, hxn] at h
      by_cases hc : (k == NameKind.free && env.scope.kind == .function && env.kindOf n == some .cell) = true
      · rw [if_pos hc]; simp only [List.lookup_cons, hxn]; exact ih h hk hx
      · rw [if_neg hc]; simp only [List.lookup_cons, hxn]; exact ih h hk hx
theorem of_lookup_relabel {env : PySem.Env} : ∀ {names : List (Str × NameKind)} {x : Str} {q : NameKind}, (names.map fun (n, k) => if (k == NameKind.free && env.scope.kind == .function && env.kindOf n == some .cell) then (n, NameKind.cell) else (n, k)).lookup x = some q →
    q = .cell ∨ q = .free → (∀ y ∈ names, y.2 ≠ .cell) → ∃ k, (x, k) ∈ names ∧ k = .free
  | [], _, _, h, _, _ => by simp at h
  | (n, k) :: r, x, q, h, hq, hc => by
    have ih := @of_lookup_relabel env r x q
    have h' : List.lookup x ((if (k == NameKind.free && env.scope.kind == .function && env.kindOf n == some .cell) = true then (n, NameKind.cell) else (n, k)) :: (r.map fun (n, k) => if (k == NameKind.free && env.scope.kind == .function && env.kindOf n == some .cell) then (n, NameKind.cell) else (n, k))) = some q := h
    have hr : ∀ y ∈ r, y.2 ≠ .cell := fun y hy => hc y (List.mem_cons_of_mem _ hy)
    by_cases hcd : (k == NameKind.free && env.scope.kind == .function && env.kindOf n == some .cell) = true
    · rw [if_pos hcd] at h'
      cases hxn : x == n with
      | true =>
        have e : x = n := eq_of_beq hxn
        subst e
        refine ⟨k, List.mem_cons_self, ?_⟩
        rw [Bool.and_eq_true, Bool.and_eq_true] at hcd
        exact eq_of_beq hcd.1.1
      | false =>
        simp only [List.lookup_cons, hxn] at h'
        obtain ⟨k', m, e⟩ := ih h' hq hr
        exact ⟨k', List.mem_cons_of_mem _ m, e⟩
    · rw [if_neg hcd] at h'
      cases hxn : x == n with
      | true =>
        have e : x = n := eq_of_beq hxn
        subst e
        simp only [List.lookup_cons, hxn] at h'
        cases h'
        rcases hq with rfl | rfl
        · exact absurd rfl (hc (x, .cell) List.mem_cons_self)
        · exact ⟨.free, List.mem_cons_self, rfl⟩
      | false =>
        simp only [List.lookup_cons, hxn] at h'
        obtain ⟨k', m, e⟩ := ih h' hq hr
        exact ⟨k', List.mem_cons_of_mem _ m, e⟩
def cstart (nt : Nat) (fr : List Nat) (σ : St) : St := List.replicate nt none ++ fr.map fun j => (σ[j]?).join
def tComp (X : Cx) (tg : Expr) (ifs : List Expr) (elt : Expr) (scope : Scope) (N' : List Str) (wi : TI) (nt : Nat) (fr : List Nat) : TE := fun σ H Q => wi σ H fun J H1 => ∀ acc fp cl C s₀ H₀ pn, H1 acc = none →
  ∃ (g : TG) (tt : TT) (te : TE), PG (compCx X scope N' fp cl C s₀ H₀ pn) tg g ∧ PF (compCx X scope N' fp cl C s₀ H₀ pn) ifs tt ∧ PE (compCx X scope N' fp cl C s₀ H₀ pn) elt te ∧
  ∃ W : Nat → Nat → St → Hp → Prop, (∃ m, W 0 m (cstart nt fr σ) (upd H1 acc (.lst []))) ∧
  ∀ i m σ' H', W i m σ' H' → (J.stop i H' ∧ Q (.ref acc) H') ∨ (J.go i H' ∧ ∀ x H'', J.yld i H' x H'' → g x σ' H'' fun σ2 H2 => tt σ2 H2 fun b H3 =>
    if b = true then te σ2 H3 fun y H4 => ∃ ys, H4 acc = some (.lst ys) ∧ ys.length < sizeLine ∧ ∃ m', m' < m ∧ W (i + 1) m' σ2 (upd H4 acc (.lst (ys ++ [y]))) else ∃ m', m' < m ∧ W (i + 1) m' σ2 H3)
section
variable {X : Cx} {tg iter elt : Expr} {ifs : List Expr} {scope : Scope} {pos : Pos} {wi : TI} {N' : List Str} {nt : Nat} {fr : List Nat}
theorem compTurn_go {prog : Program} {w : World} {A : Around} {R : Result → Shared → Prop} {s : Shared} {it acc : Value} {env : PySem.Env} (I : Nat → Shared → Prop)
    (turn : ∀ n s, I n s → wpAny (model prog w) A (pyNext it) (fun r s₁ => match r with
      | none => R (.ok .next) s₁
      | some v => wpAny (model prog w) A (letOwnedTupleGo tg it v) (fun _ s₁' => wpAny (model prog w) A (assign tg env v) (fun _ s₂ =>
          wpAny (model prog w) A (forIn ifs true fun c r => if r = true then do let ok ← isTrue c env (eval c env); pure (ForInStep.yield ok) else pure (ForInStep.yield r)) (fun ok s₃ =>
            if ok = true then wpAny (model prog w) A (eval elt env) (fun x s₄ =>
              wpAny (model prog w) A (call (.builtin "list.append") [acc, x]) (fun _ s₅ => ∃ m, m < n ∧ I m s₅) (fun _ _ => False) s₄) (fun _ _ => False) s₃
            else ∃ m, m < n ∧ I m s₃) (fun _ _ => False) s₂) (fun _ _ => False) s₁') (fun _ _ => False) s₁) (fun _ _ => False) s)
    (n : Nat) (h : I n s) : codeAny (model prog w) A (.compLoop (.ListComp elt [⟨tg, iter, ifs, 0⟩] scope pos) 0 it acc env) R s := by
  refine codeAny_loop rfl I (fun n s hI => ?_) n h
  show wpAny _ A ((compTurn (.ListComp elt [⟨tg, iter, ifs, 0⟩] scope pos) 0 it acc env).onRaise (fun x => do noteFrame x env; theTreesLotGoes x)) _ _ s
  refine wpAny_noted ?_
  rw [compTurn_list]
  refine wpAny_bind (wpAny_standAt (wpAny_bind (wpAny_mono (turn n s hI) (fun r s₁ h₁ => ?_) fun _ _ h' => h'.elim)))
  cases r with
  | none => exact wpAny_pure h₁
  | some v =>
    refine wpAny_bind (wpAny_mono h₁ (fun _ s₁' h₁' => ?_) fun _ _ h' => h'.elim)
    refine wpAny_bind (wpAny_mono h₁' (fun _ s₂ h₂ => wpAny_bind (wpAny_mono h₂ (fun ok s₃ h₃ => ?_) fun _ _ h' => h'.elim)) fun _ _ h' => h'.elim)
    cases ok with
    | false => exact wpAny_pure ⟨rfl, h₃⟩
    | true =>
      exact wpAny_bind (wpAny_bind (wpAny_mono h₃ (fun x s₄ h₄ => wpAny_bind (wpAny_mono h₄ (fun _ s₅ h₅ => wpAny_pure (wpAny_pure ⟨rfl, h₅⟩)) fun _ _ h' => h'.elim)) fun _ _ h' => h'.elim))
theorem comp_start {pins : List (Addr × Obj)} {σ : St} {H : Hp} {s : Shared} {h₁ : Heap} {tk : Nat} {fp : List Addr} {cl : List (Str × Addr)} (S : CompScope X scope N' nt fr) (I : Inv X pins σ H s) (hfp : ∀ b ∈ fp, FpOk X pins H b)
    (hex : ∀ b ∈ fp, ∃ o, s.heap.get? b = some o) (cl1 : ∀ n a, cl.lookup n = some a → X.env.cells.lookup n = some a) (cl2 : ∀ y ∈ scope.names, y.2 = .free → ∃ a, cl.lookup y.1 = some a)
    (hns : ∃ m, h₁.Ns s.heap.objs.size m) (old : ∀ b o, s.heap.get? b = some o → h₁.get? b = some o) :
    Inv (compCx X scope N' fp cl s.heap.objs.size s H (X.pn ++ pins)) [] (cstart nt fr σ) H { s with heap := h₁, toks := tk } := by
  have stkB : ∀ b ∈ frs X.stack, b = X.env.locals ∨ b ∈ X.fs := fun b hb => List.mem_cons.mp (I.stkSub b hb)
  have hC : ∀ b o, s.heap.get? b = some o → b ≠ s.heap.objs.size := fun b o e => Nat.ne_of_lt (Heap.lt_size e)
  obtain ⟨m, hn⟩ := hns
  refine ⟨⟨I.ok.mod, S.kind, I.ok.glob, I.ok.blt, Nat.le_refl _, fun x y c h1 h2 => I.ok.inj x y c (cl1 x c h1) (cl1 y c h2), fun x hx => ?_, fun x c hx => ?_, I.ok.hd, I.ok.frames, .inl rfl, fun b hb => ⟨?_, fun x c hx => (hfp b hb).2.2.2.2.1 x c (cl1 x c hx)⟩, I.bs, Nat.le_trans I.ok.bsz I.sz, fun b o e hb => ?_, fun b hb hb2 => ?_, I.stack, I.stkFree⟩,
    rfl, I.bare, Un.kept old, ⟨m, hn, fun i x v h1 h2 h3 => ?_⟩, fun x c hx => ?_, I.hok.fresh (Nat.le_refl _), fun x c hx => I.freeC x c (cl1 x c hx), fun p hp => ?_, I.hok.kept old, ?_⟩
  · have hx' : ∃ k, (x, k) ∈ scope.names ∧ k = .free := by
      rcases hx with hx | hx
      · exact of_lookup_relabel (env := X.env) (q := .cell) hx (.inl rfl) S.nocell
      · exact of_lookup_relabel (env := X.env) (q := .free) hx (.inr rfl) S.nocell
    obtain ⟨k, m, rfl⟩ := hx'
    exact cl2 (x, .free) m rfl
  · have hx' : false = true := hx
    cases hx'
  · obtain ⟨o, e⟩ := hex b hb
    exact hC b o e
  · obtain ⟨f0, f1, f2, f3, f4, f5⟩ := hfp b hb
    rcases f3 with z | z
    · exact I.ok.noex b o e z
    · exact absurd (Nat.lt_of_lt_of_le (Heap.lt_size e) (Nat.le_trans I.ok.bsz z)) (Nat.lt_irrefl _)
  · obtain ⟨f0, f1, f2, f3, f4, f5⟩ := hfp b hb
    rcases stkB b hb2 with z | z
    · exact f1 z
    · exact f2 z
  · -- names
    have hi : nt ≤ i := by
      apply Nat.le_of_not_lt
      intro hlt
      unfold cstart at h2
      rw [List.getElem?_append_left (by simpa using hlt), List.getElem?_replicate] at h2
      split at h2 <;> cases h2
    have h2' : (fr.map fun j => (σ[j]?).join)[i - nt]? = some (some v) := by
      unfold cstart at h2
      rw [List.getElem?_append_right (by simpa using hi), List.length_replicate] at h2
      exact h2
    rw [List.getElem?_map] at h2'
    cases ej : fr[i - nt]? with
    | none => rw [ej] at h2'; cases h2'
    | some j =>
      rw [ej] at h2'
      have hσ : (σ[j]?).join = some v := by simpa using h2'
      have hσ' : σ[j]? = some (some v) := by
        cases e : σ[j]? with
        | none => rw [e] at hσ; cases hσ
        | some o =>
          rw [e] at hσ
          have : o = some v := hσ
          rw [this]
      obtain ⟨y, hy1, hy2, hy3⟩ := S.slot (i - nt) j ej
      have hii : nt + (i - nt) = i := by omega
      rw [hii] at hy1
      have exy : y = x := by
        have h1' : N'[i]? = some x := h1
        rw [h1'] at hy1
        exact (Option.some.inj hy1).symm
      subst exy
      have hmem : (y, NameKind.free) ∈ scope.names := PySem.mem_of_lookup hy3
      have hcellk : X.env.kindOf y = some .cell := S.frees (y, .free) hmem rfl
      obtain ⟨m0, hn0, hl0⟩ := I.loc
      obtain ⟨u, ru, lk⟩ := hl0 j y v hy2 hσ' (.inr (.inl hcellk))
      refine ⟨u, ru, .inr ⟨.inl (lookup_relabel_free hy3 I.ok.kind hcellk), ?_⟩⟩
      rcases lk with ⟨k1, _⟩ | ⟨_, c, e, z⟩
      · rw [hcellk] at k1; cases k1
      · obtain ⟨a, ea⟩ := cl2 (y, .free) hmem rfl
        have ea' := cl1 y a ea
        rw [e] at ea'
        cases ea'
        obtain ⟨o, ho, hd⟩ := z
        exact ⟨c, ea, o, old _ _ ho, hd⟩
  · obtain ⟨v, o, ho, hd⟩ := I.cell x c (cl1 x c hx)
    exact ⟨v, o, old _ _ ho, hd⟩
  · have hp' : p ∈ X.pn ++ pins := by
      rcases List.mem_append.mp (show p ∈ (X.pn ++ pins) ++ [] from hp) with z | z
      · exact z
      · cases z
    obtain ⟨e, n, ne, nf, d⟩ := I.pin p hp'
    refine ⟨old _ _ e, n, hC _ _ e, fun z => ?_, d⟩
    rcases stkB p.1 z with z | z
    · exact ne z
    · exact nf z
  · show (cstart nt fr σ).length = N'.length
    unfold cstart
    rw [List.length_append, List.length_replicate, List.length_map, S.len]
theorem comp_end {pins : List (Addr × Obj)} {σ σ' : St} {H H' : Hp} {s s' : Shared} {h' : Heap} {fp : List Addr} {cl : List (Str × Addr)} (I : Inv X pins σ H s) (hfp : ∀ b ∈ fp, FpOk X pins H b)
    (J : Inv (compCx X scope N' fp cl s.heap.objs.size s H (X.pn ++ pins)) [] σ' H' s') (sb : Heap.SameBut s.heap.objs.size s'.heap h') : Inv X pins σ H' { s' with heap := h' } := by
  have hC : H' s.heap.objs.size = none := J.free
  have u := J.base
  have big : ∀ b o, s.heap.get? b = some o → b ≠ s.heap.objs.size := fun b o e => Nat.ne_of_lt (Heap.lt_size e)
  have get' : ∀ b, b ≠ s.heap.objs.size → h'.get? b = s'.heap.get? b := fun b hb => sb.2 b hb
  have u2 : Un (frs X.stack) fp H H' s.heap h' :=
    ⟨fun b o e n hb hx => (get' b (big b o e)).trans (u.keep b o e n hb hx), fun b o e n hb hx => by
      obtain ⟨sl, q⟩ := u.slot b o e n hb hx
      exact ⟨sl, (get' b (big b o e)).trans q⟩, u.free, fun b o e hx => by
      obtain ⟨o', q⟩ := u.there b o e hx
      exact ⟨o', (get' b (big b o e)).trans q⟩, u.tups, u.frzs, u.tbls⟩
  refine I.call' (s' := { s' with heap := h' }) (ch := fp) J.os u2 (fun b o e => ?_) J.bare (fun b hb => ?_)
  · refine (J.hok b o e).stay (fun c v hc q => ?_) (fun _ q => q) fun _ _ q => q
    refine (get' c ?_).trans q
    rintro rfl
    rcases hc with hc | hc
    · rw [← hc, hC] at e; cases e
    · rw [hC] at hc; cases hc
  · obtain ⟨f0, f1, f2, f3, f4, f5⟩ := hfp b hb
    exact ⟨f3, f1, f4, f5⟩
theorem pe_comp (hc : X.calm = true) (hi : PI X tg iter wi) (S : CompScope X scope N' nt fr)
    (hs : ∀ x, foldedSetIterable iter X.env x = pure x := by intro _; rfl) : PE X (.ListComp elt [⟨tg, iter, ifs, 0⟩] scope pos) (tComp X tg ifs elt scope N' wi nt fr) := by
  intro pins s σ H Q I hw
  obtain ⟨cl, hcl, cl1, cl2⟩ := closureFor_ok (env := X.env) (scope := scope) (fun y hy hf => I.ok.has y.1 (.inl (S.frees y hy hf)))
  rw [eval_ListComp]
  refine wpAny_comprehension_free (use := none) rfl hs hcl S.kind S.names (thn (hi pins s σ H _ I hw) fun v s1 h1 => thn h1 fun itv s2 h2 => ?_)
  obtain ⟨it, fp, tn, J, H2, e, I2, T, st2, f2, hR⟩ := h2
  subst e
  have hacc : H2 s2.heap.objs.size = none := I2.hok.fresh (Nat.le_refl _)
  refine wpAny_newObj_type (wpAny_newFunctionEnv S.nocell (by intro y hy; simp at hy) (fun h₁ hns₁ hsb₁ => ?_) S.kind)
  dsimp only at hns₁ hsb₁ ⊢
  have I3 : Inv X pins σ (upd H2 s2.heap.objs.size (.lst [])) { s2 with heap := s2.heap.push { cls := .type "list", dict := none, data := .seq ([] : List Value).toArray } } :=
    I2.lnew (t' := s2.toks) (its := []) .nil (Nat.zero_le _)
  generalize hs3 : ({ s2 with heap := s2.heap.push { cls := .type "list", dict := none, data := .seq ([] : List Value).toArray } } : Shared) = s3 at I3
  have hh3 : s2.heap.push { cls := .type "list", dict := none, data := .seq ([] : List Value).toArray } = s3.heap := by rw [← hs3]
  rw [hh3] at hns₁ hsb₁
  have old : ∀ b o, s3.heap.get? b = some o → h₁.get? b = some o := fun b o q => hsb₁.extBut b o (Nat.ne_of_lt (Heap.lt_size q)) (Heap.get?_push_of_some _ q)
  have objs2 : ∀ b ∈ fp, ∃ o, s2.heap.get? b = some o := fun b hb => by
    obtain ⟨o, q, _⟩ := T.obj 0 _ st2 b hb
    exact ⟨o, q⟩
  have keep23 : ∀ b o, s2.heap.get? b = some o → s3.heap.get? b = some o := fun b o q => by rw [← hh3]; exact Heap.get?_push_of_some _ q
  have fpne : ∀ b ∈ fp, b ≠ s2.heap.objs.size := fun b hb => by
    obtain ⟨o, q⟩ := objs2 b hb
    exact Nat.ne_of_lt (Heap.lt_size q)
  have f3 : ∀ b ∈ fp, FpOk X pins (upd H2 s2.heap.objs.size (.lst [])) b := fun b hb => ⟨by rw [upd_ne (fpne b hb)]; exact (f2 b hb).1, (f2 b hb).2⟩
  have J0 : Inv (compCx X scope N' fp cl s3.heap.objs.size s3 (upd H2 s2.heap.objs.size (.lst [])) (X.pn ++ pins)) [] (cstart nt fr σ) (upd H2 s2.heap.objs.size (.lst [])) { s3 with heap := h₁, toks := s3.toks } :=
    comp_start S I3 f3 (fun b hb => (objs2 b hb).imp fun o q => keep23 b o q) cl1 cl2 ⟨_, hns₁⟩ old
  obtain ⟨g, tt, te, hg, hf, he, W, ⟨m0, w0⟩, turn⟩ := hR s2.heap.objs.size fp cl s3.heap.objs.size s3 (upd H2 s2.heap.objs.size (.lst [])) (X.pn ++ pins) hacc
  have T0 : tn 0 h₁ := T.keep 0 _ _ st2 fun b hb o q => old b o (keep23 b o q)
  have s3e : ∀ tk : Nat, ({ s2 with heap := h₁, toks := tk } : Shared) = { s3 with heap := h₁, toks := tk } := fun tk => by rw [← hs3]
  have loop : ∀ tk : Nat, codeAny (model X.prog X.w) X.A (.compLoop (.ListComp elt [⟨tg, iter, ifs, 0⟩] scope pos) 0 (.ref it) (.ref s2.heap.objs.size) (compEnvC scope cl s3.heap.objs.size X.env))
      (compPost (model X.prog X.w) X.A X.xe none (EP X pins σ Q) (.ref s2.heap.objs.size) s3.heap.objs.size) { s3 with heap := h₁, toks := tk } := fun tk => by
    have stat : ∀ {H' : Hp}, (∀ b ∈ fp, H' b = none) → ∀ b ∈ fp, FpOk (compCx X scope N' fp cl s3.heap.objs.size s3 (upd H2 s2.heap.objs.size (.lst [])) (X.pn ++ pins)) [] H' b := fun {H'} hn b hb => by
      obtain ⟨o, q⟩ := objs2 b hb
      have hbC : b ≠ s3.heap.objs.size := Nat.ne_of_lt (Heap.lt_size (keep23 b o q))
      refine ⟨hn b hb, hbC, fun z => ?_, .inl hb, fun x c hx => (f2 b hb).2.2.2.2.1 x c (cl1 x c hx), fun p hp => ?_⟩
      · rcases List.mem_cons.mp (I2.stkSub b z) with z | z
        · exact (f2 b hb).2.1 z
        · exact (f2 b hb).2.2.1 z
      · have hp' : p ∈ X.pn ++ pins := by
          rcases List.mem_append.mp (show p ∈ (X.pn ++ pins) ++ [] from hp) with z | z
          · exact z
          · cases z
        exact (f2 b hb).2.2.2.2.2 p hp'
    have fr0 : ∀ b ∈ fp, upd H2 s2.heap.objs.size (.lst []) b = none := fun b hb => (f3 b hb).1
    refine compTurn_go (fun n s' => ∃ i σ' H', Inv (compCx X scope N' fp cl s3.heap.objs.size s3 (upd H2 s2.heap.objs.size (.lst [])) (X.pn ++ pins)) [] σ' H' s' ∧ tn i s'.heap ∧ (∀ b ∈ fp, H' b = none) ∧ W i n σ' H') ?_ m0
      ⟨0, cstart nt fr σ, _, J0.tok tk, T0, fr0, w0⟩
    rintro n s4 ⟨i, σ4, H4, J4, st4, fr4, w4⟩
    rcases turn i n σ4 H4 w4 with ⟨stop, qn⟩ | ⟨go, step⟩
    · refine thn (T.done (compCx X scope N' fp cl s3.heap.objs.size s3 (upd H2 s2.heap.objs.size (.lst [])) (X.pn ++ pins)) rfl rfl rfl hc i [] s4 σ4 H4 _ J4 (stat fr4) st4 stop) fun r s5 ⟨hr, J5⟩ => ?_
      subst hr
      obtain ⟨m5, n5, _⟩ := J5.loc
      refine ⟨m5, n5, fun h' sb => ⟨.ref s2.heap.objs.size, H4, comp_end I3 f3 J5 sb, rfl, qn⟩⟩
    · refine thn (T.item (compCx X scope N' fp cl s3.heap.objs.size s3 (upd H2 s2.heap.objs.size (.lst [])) (X.pn ++ pins)) rfl rfl rfl hc i [] s4 σ4 H4 _ J4 (stat fr4) st4 go) fun r s5 ⟨u, hr, h5⟩ => ?_
      subst hr
      refine thn h5 fun _ s6 ⟨x, H6, J6, r6, y6, st6, fr6⟩ => ?_
      have J6' := J6.pinned (stat fr6) (T.obj _ _ st6)
      have again : ∀ {σ7 : St} {H7 : Hp} {s7 : Shared}, Inv (compCx X scope N' fp cl s3.heap.objs.size s3 (upd H2 s2.heap.objs.size (.lst [])) (X.pn ++ pins)) ([] ++ pinsAt fp s6.heap) σ7 H7 s7 → (∃ m', m' < n ∧ W (i + 1) m' σ7 H7) →
          ∃ m, m < n ∧ ∃ i σ' H', Inv (compCx X scope N' fp cl s3.heap.objs.size s3 (upd H2 s2.heap.objs.size (.lst [])) (X.pn ++ pins)) [] σ' H' s7 ∧ tn i s7.heap ∧ (∀ b ∈ fp, H' b = none) ∧ W i m σ' H' := fun {σ7 H7 s7} I7 hm => by
        obtain ⟨m', hm, w7⟩ := hm
        refine ⟨m', hm, i + 1, σ7, H7, I7.unpinned, T.keep _ _ _ st6 fun b hb o q => (I7.pin (b, o) (List.mem_append_right _ (List.mem_append_right _ (mem_pinsAt hb q)))).1, fun b hb => ?_, w7⟩
        obtain ⟨o, q, d⟩ := T.obj _ _ st6 b hb
        exact (I7.pin (b, o) (List.mem_append_right _ (List.mem_append_right _ (mem_pinsAt hb q)))).2.1
      refine thn (hg _ s6 σ4 H6 x u _ J6' r6 (step x H6 y6)) fun _ s7 ⟨σ7, H7, J7, q7⟩ => ?_
      refine thn (hf _ s7 σ7 H7 _ J7 q7) fun ok s8 ⟨H8, J8, q8⟩ => ?_
      cases ok with
      | false =>
        rw [if_neg Bool.false_ne_true] at q8 ⊢
        exact again J8 q8
      | true =>
        rw [if_pos rfl] at q8 ⊢
        refine thn (he _ s8 σ7 H8 _ J8 q8) fun z s9 ⟨y, H9, J9, r9, ys, hys, hz, hm⟩ => ?_
        refine thn (mt_append _ s9 σ7 H9 (.ref s2.heap.objs.size) [y] (.ref s2.heap.objs.size) [z] (fun _ H' => H' = upd H9 s2.heap.objs.size (.lst (ys ++ [y]))) J9 rfl (.cons r9 .nil) ⟨_, ys, y, rfl, rfl, hys, hz, rfl⟩) fun _ s10 ⟨_, H10, J10, _, e10⟩ => ?_
        subst e10
        exact again J10 hm
  have start : ∀ tk : Nat, codeAny (model X.prog X.w) X.A (.compStart (.ListComp elt [⟨tg, iter, ifs, 0⟩] scope pos) 0 (.ref it) (.ref s2.heap.objs.size) (compEnvC scope cl s3.heap.objs.size X.env))
      (compPost (model X.prog X.w) X.A X.xe none (EP X pins σ Q) (.ref s2.heap.objs.size) s3.heap.objs.size) { s3 with heap := h₁, toks := tk } := fun tk =>
    codeAny_compStart_list (loop tk) (T.self X.A 0 _ _ _ T0 (loop tk))
  have fin := start (s2.toks + ([] : List (Str × Value)).length)
  rw [← s3e] at fin
  rw [← hh3] at fin
  rw [hh3] at fin ⊢
  exact fin
end
end L2.Sk
set_option Elab.async false
set_option linter.all false
set_option maxRecDepth 100000
namespace L2.Sk
open PySem PySem.Spec PyProof.Rows
structure ItOk (K : Fr0) (A : Addr → Prop) (H : Hp) (ds : List D) (J : It) : Prop where
  go : ∀ H' i d, Ext A H H' → ds[i]? = some d → J.go i H'
  yl : ∀ H' i d x H'', Ext A H H' → ds[i]? = some d → J.yld i H' x H'' → Same H' H'' ∧ Is K A H'' d x
  stop : ∀ H', Ext A H H' → J.stop ds.length H'
def CnT (c : Fc) (σ : St) (H : Hp) (a : Addr) : Prop := Cn c σ a ∧ (H a).isSome = true
def WpI (K : Fr0) (c : Fc) (σ : St) (H : Hp) (Q : It → Hp → Prop) : R (List D × Env) → Prop
  | .ok (ds, ρ) => ∀ J H', Rep K c ρ σ H' → ItOk K (CnT c σ H') H' ds J → Gr c.O σ H H' → Q J H'
  | .exc x ρ => ∀ H', Rep K c ρ σ H' → Gr c.O σ H H' → c.E x H'
  | .bad => False
def DI (X : Cx) (c : Fc) (tg it : Expr) (f : M (List D)) : Prop := ∃ w, PI X tg it w ∧ ∀ ρ σ H Q, Rep X.K c ρ σ H → WpI X.K c σ H Q (f ρ) → w σ H Q
section
variable {X : Cx} {c : Fc} {tg a b e : Expr} {pos : Pos}
def iSeq (K : Fr0) (tl : TE) : TI := fun σ H R => tl σ H fun x H1 => (∃ a, x = .ref a ∧ (∃ xs, SqL K H1 a xs) ∧ R (Itl K a) H1) ∨ (∃ a, x = .ref a ∧ (∃ xs, SqT K H1 a xs) ∧ R (Itt K a) H1)
theorem pi_seq {tl : TE} (hl : PE X e tl) : PI X tg e (iSeq X.K tl) := by
  intro pins s σ H R I h
  refine thn (hl pins s σ H _ I h) fun v s1 ⟨x, H1, I1, r1, q1⟩ => ?_
  rcases q1 with ⟨a, e, ⟨xs, hq⟩, q⟩ | ⟨a, e, ⟨xs, hq⟩, q⟩
  · subst e
    cases r1
    obtain ⟨its, rv, p, hz⟩ := I1.list hq
    refine wpAny_pyIter_list p.isList ?_
    refine ⟨s1.heap.objs.size, [s1.heap.objs.size], _, _, H1, rfl, I1.kept (t' := s1.toks) fun b o e => Heap.get?_push_of_some _ e, turn_list a _, ⟨_, Heap.get?_push_size _ rfl, rfl, rfl⟩, fun b hb => ?_, q⟩
    have e : b = s1.heap.objs.size := by simpa using hb
    subst e
    exact I1.fpOk (Nat.le_refl _) (I1.hok.fresh (Nat.le_refl _))
  · subst e
    cases r1
    obtain ⟨its, rv, p, hz⟩ := I1.tuple hq
    refine wpAny_pyIter_tuple (show s1.heap.IsTuple a its.toArray from p) ?_
    refine ⟨s1.heap.objs.size, [s1.heap.objs.size], _, _, H1, rfl, I1.kept (t' := s1.toks) fun b o e => Heap.get?_push_of_some _ e, turn_tuple a _, ⟨_, Heap.get?_push_size _ rfl, rfl, rfl⟩, fun b hb => ?_, q⟩
    have e : b = s1.heap.objs.size := by simpa using hb
    subst e
    exact I1.fpOk (Nat.le_refl _) (I1.hok.fresh (Nat.le_refl _))
def seqD : D → Option (List D)
  | .tup ds => some ds
  | .lst ds => some ds
  | .fz ns => some (ns.map .int)
  | _ => none
theorem SqL.inj {K : Fr0} {H : Hp} {a : Addr} {xs ys : List V} (h : H a = some (.lst xs)) (q : SqL K H a ys) (hk : ∀ o, K.lookup a = some o → False) : ys = xs := by
  rcases q with (q | ⟨o, q⟩) | ⟨o, _, _, q, _⟩
  · rw [h] at q; cases q; rfl
  · rw [h] at q; cases q
  · exact (hk o q).elim
theorem isL_ints {K : Fr0} {A : Addr → Prop} {H : Hp} : ∀ ns : List Int, IsL K A H (ns.map .int) (ns.map V.int)
  | [] => rfl
  | n :: ns => ⟨.int n, ns.map V.int, rfl, rfl, isL_ints ns⟩
theorem it_list {K : Fr0} {A : Addr → Prop} {H : Hp} {ds : List D} {xs : List V} {a : Addr} (hs : ∀ H', Ext A H H' → SqL K H' a xs) (il : IsL K A H ds xs) : ItOk K A H ds (Itl K a) where
  go := fun H' i d ex hd => by
    obtain ⟨x, h1, h2⟩ := il.get hd
    exact ⟨xs, x, hs H' ex, h1⟩
  yl := fun H' i d x H'' ex hd y => by
    obtain ⟨e, y⟩ := y
    subst e
    obtain ⟨x', h1, h2⟩ := il.get hd
    have h3 := y xs (hs _ ex)
    rw [h1] at h3
    cases h3
    exact ⟨Same.refl _, Is.ext ex (fun _ h _ => h) h2⟩
  stop := fun H' ex => ⟨xs, hs H' ex, by rw [il.length]; exact Nat.le_refl _⟩
theorem it_tup {K : Fr0} {A : Addr → Prop} {H : Hp} {ds : List D} {xs : List V} {a : Addr} (hs : TupAt K H a xs) (il : IsL K A H ds xs) : ItOk K A H ds (Itt K a) where
  go := fun H' i d ex hd => by
    obtain ⟨x, h1, h2⟩ := il.get hd
    exact ⟨xs, x, (hs.elim (fun h => .inl (ex.tup _ _ h)) .inr : TupAt K H' a xs).sq, h1⟩
  yl := fun H' i d x H'' ex hd y => by
    obtain ⟨e, y⟩ := y
    subst e
    obtain ⟨x', h1, h2⟩ := il.get hd
    have h3 := y xs (hs.elim (fun h => .inl (ex.tup _ _ h)) .inr : TupAt K _ a xs).sq
    rw [h1] at h3
    cases h3
    exact ⟨Same.refl _, Is.ext ex (fun _ h _ => h) h2⟩
  stop := fun H' ex => ⟨xs, (hs.elim (fun h => .inl (ex.tup _ _ h)) .inr : TupAt K H' a xs).sq, by rw [il.length]; exact Nat.le_refl _⟩
def dseq (f : M D) : M (List D) := bnd f fun d => lift (seqD d)
theorem wpI_lift {K : Fr0} {σ : St} {H : Hp} {Q : It → Hp → Prop} {o : Option (List D)} {ρ : Env} (h : WpI K c σ H Q (lift o ρ)) : ∃ ds, o = some ds ∧ ∀ J H', Rep K c ρ σ H' → ItOk K (CnT c σ H') H' ds J → Gr c.O σ H H' → Q J H' := by
  cases o with
  | none => exact h.elim
  | some d => exact ⟨d, rfl, h⟩
theorem WpI.gr {K : Fr0} {σ : St} {H H1 : Hp} {Q : It → Hp → Prop} : ∀ {r : R (List D × Env)}, WpI K c σ H Q r → Gr c.O σ H H1 → WpI K c σ H1 Q r
  | .ok (d, ρ), h, g => fun v H' hr hi hg => h v H' hr hi (g.trans hg)
  | .exc x ρ, h, g => fun H' hr hg => h H' hr (g.trans hg)
  | .bad, h, _ => h
theorem Wp.bndI {K : Fr0} {σ : St} {H : Hp} {Q : It → Hp → Prop} {f : M D} {k : D → M (List D)} {ρ : Env} {Q' : VK} (h : WpI K c σ H Q (Sk.bnd f k ρ)) (hQ : ∀ d ρ' v H', Rep K c ρ' σ H' → Is K (Cn c σ) H' d v → Gr c.O σ H H' → WpI K c σ H' Q (k d ρ') → Q' v H') : Wp K c σ H Q' (f ρ) := by
  unfold Sk.bnd at h
  cases e : f ρ with
  | ok p => rw [e] at h; exact fun v H' hr hi hg => hQ p.1 p.2 v H' hr hi hg (h.gr hg)
  | exc x ρ' => rw [e] at h; exact h
  | bad => rw [e] at h; exact h
theorem WpL.bndI {K : Fr0} {σ : St} {H : Hp} {Q : It → Hp → Prop} {f : M (List D)} {k : List D → M (List D)} {ρ : Env} {Q' : List V → Hp → Prop} (h : WpI K c σ H Q (Sk.bnd f k ρ)) (hQ : ∀ d ρ' v H', Rep K c ρ' σ H' → IsL K (Cn c σ) H' d v → Gr c.O σ H H' → WpI K c σ H' Q (k d ρ') → Q' v H') : WpL K c σ H Q' (f ρ) := by
  unfold Sk.bnd at h
  cases e : f ρ with
  | ok p => rw [e] at h; exact fun v H' hr hi hg => hQ p.1 p.2 v H' hr hi hg (h.gr hg)
  | exc x ρ' => rw [e] at h; exact h
  | bad => rw [e] at h; exact h
theorem Is.tr {K : Fr0} {A : Addr → Prop} {H : Hp} {d : D} {v : V} (h : Is K A H d v) : Is K (fun a => A a ∧ (H a).isSome = true) H d v := Is.ext Ext.refl (fun a h1 h2 => ⟨h1, h2⟩) h
theorem di_seq {f : M D} (h : DE X c e f) : DI X c tg e (dseq f) := by
  obtain ⟨t, p, w⟩ := h
  refine ⟨_, pi_seq p, fun ρ σ H Q r h => w ρ σ H _ r (Wp.bndI h fun d ρ1 v H1 r1 i1 g1 h1 => ?_)⟩
  obtain ⟨ds, e, h2⟩ := wpI_lift h1
  have i2 : Is X.K (CnT c σ H1) H1 d v := i1.tr
  cases d <;> simp only [seqD] at e <;> try (cases e; done)
  · cases e
    obtain ⟨a, xs, rfl, ta, il⟩ := i2
    exact .inr ⟨a, rfl, ⟨xs, ta.sq⟩, h2 _ H1 r1 (it_tup ta il) .refl⟩
  · cases e
    obtain ⟨a, xs, rfl, hA, ta, il⟩ := i2
    exact .inl ⟨a, rfl, ⟨xs, .inl (.inl ta)⟩, h2 _ H1 r1 (it_list (fun H' ex => .inl (.inl (ex.at_ _ _ hA ta))) il) .refl⟩
  · cases e
    obtain ⟨a, rfl, ta⟩ := i2
    exact .inl ⟨a, rfl, ⟨_, ta.sq⟩, h2 _ H1 r1 (it_list (fun H' ex => (ta.elim (fun ⟨o, h⟩ => .inl ⟨o, ex.frz _ _ _ h⟩) .inr : FzAt X.K H' a _).sq) (isL_ints _)) .refl⟩
def rngD (lo : Int) (n : Nat) : List D := (List.range n).map fun i => .int (lo + (i : Nat))
theorem it_rng {K : Fr0} {A : Addr → Prop} {H : Hp} (lo : Int) (n : Nat) : ItOk K A H (rngD lo n) (Itr lo n) where
  go := fun H' i d ex hd => by
    have : i < (rngD lo n).length := (List.getElem?_eq_some_iff.mp hd).1
    show i < n
    simpa [rngD] using this
  yl := fun H' i d x H'' ex hd y => by
    obtain ⟨e, y⟩ := y
    subst e
    subst y
    refine ⟨Same.refl _, ?_⟩
    unfold rngD at hd
    rw [List.getElem?_map] at hd
    cases e2 : (List.range n)[i]? with
    | none => rw [e2] at hd; cases hd
    | some j =>
      rw [e2] at hd
      have hj : j = i := by
        have := (List.getElem?_eq_some_iff.mp e2).2
        simpa using this.symm
      subst hj
      cases hd
      rfl
  stop := fun H' ex => by show n ≤ (rngD lo n).length; simp [rngD]
def rng1 : List D → Option (List D)
  | [.int j] => if decide (-(2 ^ 62) ≤ j) && decide (j < 2 ^ 62) then some (rngD 0 j.toNat) else none
  | _ => none
def drng1 (f : M (List D)) : M (List D) := bnd f fun ds => lift (rng1 ds)
theorem di_range1 {f : M (List D)} {p : Pos} (hg : Gl X "range") (hm : X.mg "range" = none) (ha : DA X c [a] f) (hs : starEach [a] X.env = [(false, eval a X.env)] := by rfl) : DI X c tg (.Call (.Name "range" p) [a] [] pos) (drng1 f) := by
  obtain ⟨t, p, w⟩ := ha
  refine ⟨_, pi_range1 hg hm p hs, fun ρ σ H Q r h => w ρ σ H _ r (WpL.bndI h fun ds ρ1 vs H1 r1 i1 g1 h1 => ?_)⟩
  obtain ⟨es, e, h2⟩ := wpI_lift h1
  unfold rng1 at e
  split at e
  · rename_i j
    obtain ⟨v, rfl, e2⟩ := IsL.inv1 i1
    cases e2
    by_cases hb : (decide (-(2 ^ 62) ≤ j) && decide (j < 2 ^ 62)) = true
    · rw [if_pos hb] at e
      cases e
      rw [Bool.and_eq_true] at hb
      exact ⟨j, rfl, of_decide_eq_true hb.1, of_decide_eq_true hb.2, h2 _ H1 r1 (it_rng 0 _) .refl⟩
    · rw [if_neg hb] at e
      cases e
  · cases e
def dloop (g : D → Env → Option Env) (b : MS) : List D → MS
  | [], ρ => .ok (.nx ρ)
  | d :: ds, ρ => match g d ρ with
    | none => .bad
    | some ρ1 => match b ρ1 with
      | .ok (.nx ρ2) => dloop g b ds ρ2
      | .ok (.ct ρ2) => dloop g b ds ρ2
      | .ok (.bk ρ2) => .ok (.nx ρ2)
      | .ok (.rt r ρ2) => .ok (.rt r ρ2)
      | .exc x ρ2 => .exc x ρ2
      | .bad => .bad
def sfor (f : M (List D)) (g : D → Env → Option Env) (b : MS) : MS := sbnd f fun ds => dloop g b ds
theorem WpI.sbnd {K : Fr0} {σ : St} {H : Hp} {D' : Ends} {f : M (List D)} {k : List D → MS} {ρ : Env} {Q' : It → Hp → Prop} (h : WpS K c σ H D' (Sk.sbnd f k ρ))
    (hQ : ∀ ds ρ' J H', Rep K c ρ' σ H' → ItOk K (CnT c σ H') H' ds J → Gr c.O σ H H' → WpS K c σ H' D' (k ds ρ') → Q' J H') : WpI K c σ H Q' (f ρ) := by
  unfold Sk.sbnd at h
  cases e : f ρ with
  | ok p => rw [e] at h; exact fun v H' hr hi hg => hQ p.1 p.2 v H' hr hi hg (h.gr hg.s)
  | exc x ρ' => rw [e] at h; exact fun H' hr hg => h σ H' hr hg.s
  | bad => rw [e] at h; exact h
theorem GrS.extT {σ σ' : St} {H H' : Hp} (g : GrS c.O σ H σ' H') : Ext (CnT c σ H) H H' := ⟨g.ext.tup, g.ext.frz, fun b o hb h => g.ext.at_ b o hb.1.2 h⟩
theorem GrS.cnT {σ σ' : St} {H H' : Hp} (g : GrS c.O σ H σ' H') {a : Addr} (h : CnT c σ H a) : Cn c σ' a := ⟨h.1.1, g.cl a h.1.2 h.2⟩
theorem drop_cons' {α : Type} {l : List α} {i : Nat} (h : i < l.length) : l.drop i = l[i] :: l.drop (i + 1) := List.drop_eq_getElem_cons h
theorem ds_for {it : Expr} {body : List Stmt} {f : M (List D)} {g : D → Env → Option Env} {b : MS} (hp : PassesOwn (model X.prog X.w) X.A X.env X.xe) (hc : X.calm = true) (hi : DI X c tg it f) (hg : DG X c tg g) (hb : DSs X c body b)
    (hs : ∀ x, foldedSetIterable it X.env x = pure x := by intro _; rfl) : DS X c (.For tg it body [] pos) (sfor f g b) := by
  obtain ⟨wi, pi, wI⟩ := hi
  obtain ⟨tg', pg, wg⟩ := hg
  obtain ⟨tb, pb, wb⟩ := hb
  refine ⟨_, ps_for hp hc pi pg pb hs, fun ρ σ H D' r h => wI ρ σ H _ r (WpI.sbnd h fun ds ρ1 J H1 r1 iok g1 h1 => ?_)⟩
  refine ⟨fun i m σ' H' => m = ds.length - i ∧ i ≤ ds.length ∧ ∃ ρ', Rep X.K c ρ' σ' H' ∧ GrS c.O σ H1 σ' H' ∧ WpS X.K c σ' H' D' (dloop g b (ds.drop i) ρ'), ⟨ds.length, by simp, Nat.zero_le _, ρ1, r1, .refl, by simpa using h1⟩, ?_⟩
  rintro i m σ' H' ⟨rfl, hi, ρ', r', gs, w⟩
  by_cases hlt : i < ds.length
  · refine .inr ⟨iok.go H' i ds[i] gs.extT (by simp [hlt]), fun σ2 H2 => ∃ ρ2, Rep X.K c ρ2 σ2 H2 ∧ GrS c.O σ H1 σ2 H2 ∧ WpS X.K c σ2 H2 D' (dloop g b (ds.drop (i + 1)) ρ2), fun σ2 H2 n => ⟨ds.length - (i + 1), by omega, rfl, hlt, n⟩, fun x H'' y => ?_⟩
    obtain ⟨sm, ix⟩ := iok.yl H' i ds[i] x H'' gs.extT (by simp [hlt]) y
    rw [drop_cons' hlt] at w
    unfold dloop at w
    have gs2 : GrS c.O σ H1 σ' H'' := gs.trans (Gr.of_same sm).s
    have ix2 : Is X.K (Cn c σ') H'' ds[i] x := Is.ext Ext.refl (fun a ha _ => gs2.cnT ha) ix
    cases e1 : g ds[i] ρ' with
    | none => simp only [e1] at w; exact w.elim
    | some ρ2 =>
      simp only [e1] at w
      refine wg ρ' σ' H'' ds[i] x ρ2 _ (r'.same sm) ix2 e1 fun σ2 r2 g2 _ => wb ρ2 σ2 H'' _ r2 ?_
      have w2 := w.gr ((Gr.of_same sm).s.trans g2)
      have gs3 : GrS c.O σ H1 σ2 H'' := gs2.trans g2
      cases e2 : b ρ2 with
      | ok fl =>
        cases fl with
        | nx ρ3 => simp only [e2] at w2; exact fun σ3 H3 r3 g3 => ⟨ρ3, r3, gs3.trans g3, w2.gr g3⟩
        | ct ρ3 => simp only [e2] at w2; exact fun σ3 H3 r3 g3 => ⟨ρ3, r3, gs3.trans g3, w2.gr g3⟩
        | bk ρ3 => simp only [e2] at w2; exact w2
        | rt d ρ3 => simp only [e2] at w2; exact w2
      | exc x ρ3 => simp only [e2] at w2; exact w2
      | bad => simp only [e2] at w2; exact w2
  · have hie : i = ds.length := by omega
    subst hie
    rw [List.drop_of_length_le (Nat.le_refl _)] at w
    exact .inl ⟨iok.stop H' gs.extT, w σ' H' r' .refl⟩
end
def cin (B0 : Addr → Prop) (H1 : Hp) (O' : List Nat) (Io' : Addr → Prop) (acc : Addr) (S' : Nat → Option (Option V)) : Fc where
  O := O'
  P := O'
  B := fun a => B0 a ∧ a ≠ acc
  H0 := upd H1 acc (.lst [])
  Io := fun a => Io' a ∨ a = acc
  E := fun _ _ => False
  S := S'
def dcompL (g : D → Env → Option Env) (t : M Bool) (e : M D) : List D → List D → Env → R (List D × Env)
  | [], acc, ρ => .ok (acc, ρ)
  | d :: ds, acc, ρ => match g d ρ with
    | none => .bad
    | some ρ1 => match t ρ1 with
      | .ok (true, ρ2) => match e ρ2 with
        | .ok (y, ρ3) => if smallL (acc.length + 1) then dcompL g t e ds (acc ++ [y]) ρ3 else .bad
        | _ => .bad
      | .ok (false, ρ2) => dcompL g t e ds acc ρ2
      | _ => .bad
def centry (nt : Nat) (fr : List Nat) (ρ : Env) : Env := List.replicate nt none ++ fr.map fun j => (ρ[j]?).join
def back (fo : Option (Nat × Nat)) (ρe ρ : Env) : Env := match fo with
  | none => ρ
  | some (i, j) => ρ.set j (ρe[i]?).join
def dcomp (nt : Nat) (fr : List Nat) (fo : Option (Nat × Nat)) (f : M (List D)) (g : D → Env → Option Env) (t : M Bool) (e : M D) : M D := bnd f fun ds ρ => match dcompL g t e ds [] (centry nt fr ρ) with
  | .ok (ys, ρe) => .ok (.lst ys, back fo ρe ρ)
  | _ => .bad
def DF (X : Cx) (c : Fc) (ifs : List Expr) (f : M Bool) : Prop := ∃ t, PF X ifs t ∧ ∀ ρ σ H Q, Rep X.K c ρ σ H → WpB X.K c σ H Q (f ρ) → t σ H Q
def foO (fo : Option (Nat × Nat)) : List Nat := match fo with
  | none => []
  | some (i, _) => [i]
section
variable {X : Cx} {c : Fc} {tg a b e : Expr} {pos : Pos}
theorem df_nil : DF X c [] (ret true) := ⟨_, pf_nil, fun ρ σ H Q r h => h H r .refl⟩
theorem WpI.bnd {K : Fr0} {σ : St} {H : Hp} {Q : VK} {f : M (List D)} {k : List D → M D} {ρ : Env} {Q' : It → Hp → Prop} (h : Wp K c σ H Q (Sk.bnd f k ρ))
    (hQ : ∀ ds ρ' J H', Rep K c ρ' σ H' → ItOk K (CnT c σ H') H' ds J → Gr c.O σ H H' → Wp K c σ H' Q (k ds ρ') → Q' J H') : WpI K c σ H Q' (f ρ) := by
  unfold Sk.bnd at h
  cases e : f ρ with
  | ok p => rw [e] at h; exact fun v H' hr hi hg => hQ p.1 p.2 v H' hr hi hg (h.gr hg)
  | exc x ρ' => rw [e] at h; exact h
  | bad => rw [e] at h; exact h
theorem Rep.grow {K : Fr0} {B0 : Addr → Prop} {H1 : Hp} {O' : List Nat} {Io' : Addr → Prop} {acc : Addr} {S' : Nat → Option (Option V)} {ρ : Env} {σ : St} {H : Hp} {xs ys : List V} (r : Rep K (cin B0 H1 O' Io' acc S') ρ σ H) (h : H acc = some (.lst xs)) (ho : ∀ j ∈ O', σ[j]? ≠ some (some (.ref acc))) :
    Rep K (cin B0 H1 O' Io' acc S') ρ σ (upd H acc (.lst ys)) := by
  have ext : Ext (fun a => a ≠ acc) H (upd H acc (.lst ys)) := ⟨fun b zs hb => by rw [upd_ne (ne_of hb h (by intro z; cases z))]; exact hb, fun b o u hb => by rw [upd_ne (ne_of hb h (by intro z; cases z))]; exact hb, fun b o hb hq => by rw [upd_ne hb]; exact hq⟩
  have cnext : Ext (Cn (cin B0 H1 O' Io' acc S') σ) H (upd H acc (.lst ys)) := ⟨ext.tup, ext.frz, fun b o hb hq => ext.at_ b o hb.1.2 hq⟩
  refine ⟨r.len, fun i d hd => ?_, fun j hj v hv => ?_, r.inj, r.b0, fun b o hb hio => ?_, fun b hb => ?_, r.pO, r.ps⟩
  · obtain ⟨v, h1, h2⟩ := r.val i d hd
    refine ⟨v, h1, ?_⟩
    rcases h2 with ⟨hi, ds, a, zs, h3, h5, h6, h7⟩ | ⟨hi, h3⟩
    · subst h5
      have ne : a ≠ acc := fun e => ho i hi (by rw [h1, e])
      exact .inl ⟨hi, ds, a, zs, h3, rfl, by rw [upd_ne ne]; exact h6, IsL.ext cnext (fun _ h _ => h) h7⟩
    · exact .inr ⟨hi, Is.ext cnext (fun _ h _ => h) h3⟩
  · obtain ⟨a, zs, h1, h2, h3⟩ := r.own j hj v hv
    subst h1
    have ne : a ≠ acc := fun e => ho j hj (by rw [hv, e])
    exact ⟨a, zs, rfl, by rw [upd_ne ne]; exact h2, h3⟩
  · have ne : b ≠ acc := fun e => hio (.inr e)
    rw [upd_ne ne]
    exact r.kp b o hb hio
  · by_cases e : b = acc
    · subst e; rw [upd_same] at hb; cases hb
    · rw [upd_ne e] at hb; exact r.dm b hb
theorem join_some {α : Type} {o : Option (Option α)} {a : α} (h : o.join = some a) : o = some (some a) := by
  cases o with
  | none => cases h
  | some x => have : x = some a := h; rw [this]
def FoOk (c : Fc) (nt : Nat) (fr : List Nat) (fo : Option (Nat × Nat)) : Prop := match fo with
  | none => ∀ j ∈ fr, j ∉ c.O
  | some (i, j) => j ∈ c.O ∧ nt ≤ i ∧ fr[i - nt]? = some j ∧ ∀ k j', fr[k]? = some j' → nt + k ≠ i → j' ∉ c.O
def FoIo (σ : St) (fo : Option (Nat × Nat)) (a : Addr) : Prop := match fo with
  | none => False
  | some (_, j) => σ[j]? = some (some (.ref a))
theorem cstart_get {nt : Nat} {fr : List Nat} {σ : St} {k j : Nat} (h : fr[k]? = some j) : (cstart nt fr σ)[nt + k]? = some (σ[j]?).join := by
  unfold cstart
  rw [List.getElem?_append_right (by simp), List.length_replicate, List.getElem?_map, show nt + k - nt = k by omega, h]
  rfl
theorem centry_inv {nt : Nat} {fr : List Nat} {ρ : Env} {i : Nat} {d : D} (hd : (centry nt fr ρ)[i]? = some (some d)) : ∃ k j, i = nt + k ∧ fr[k]? = some j ∧ ρ[j]? = some (some d) := by
  have hi : nt ≤ i := by
    apply Nat.le_of_not_lt
    intro hlt
    unfold centry at hd
    rw [List.getElem?_append_left (by simpa using hlt), List.getElem?_replicate] at hd
    split at hd <;> cases hd
  unfold centry at hd
  rw [List.getElem?_append_right (by simpa using hi), List.length_replicate, List.getElem?_map] at hd
  cases ej : fr[i - nt]? with
  | none => rw [ej] at hd; cases hd
  | some j =>
    rw [ej] at hd
    exact ⟨i - nt, j, by omega, ej, join_some (by simpa using hd)⟩
theorem cstart_inv {nt : Nat} {fr : List Nat} {σ : St} {i : Nat} {d : V} (hd : (cstart nt fr σ)[i]? = some (some d)) : ∃ k j, i = nt + k ∧ fr[k]? = some j ∧ σ[j]? = some (some d) := by
  have hi : nt ≤ i := by
    apply Nat.le_of_not_lt
    intro hlt
    unfold cstart at hd
    rw [List.getElem?_append_left (by simpa using hlt), List.getElem?_replicate] at hd
    split at hd <;> cases hd
  unfold cstart at hd
  rw [List.getElem?_append_right (by simpa using hi), List.length_replicate, List.getElem?_map] at hd
  cases ej : fr[i - nt]? with
  | none => rw [ej] at hd; cases hd
  | some j =>
    rw [ej] at hd
    exact ⟨i - nt, j, by omega, ej, join_some (by simpa using hd)⟩
theorem Rep.entry {K : Fr0} {nt : Nat} {fr : List Nat} {fo : Option (Nat × Nat)} {acc : Addr} {ρ : Env} {σ : St} {H : Hp} (r : Rep K c ρ σ H) (hn : H acc = none) (hfo : FoOk c nt fr fo) :
    Rep K (cin (Cn c σ) H (foO fo) (FoIo σ fo) acc fun j => (cstart nt fr σ)[j]?) (centry nt fr ρ) (cstart nt fr σ) (upd H acc (.lst [])) := by
  have sm : Same H (upd H acc (.lst [])) := same_new hn _
  have ownI : ∀ i ∈ foO fo, ∀ v, (cstart nt fr σ)[i]? = some (some v) → ∃ j, fo = some (i, j) ∧ j ∈ c.O ∧ σ[j]? = some (some v) := fun i hi v hv => by
    cases fo with
    | none => cases hi
    | some p =>
      obtain ⟨i', j'⟩ := p
      have e : i = i' := by simpa [foO] using hi
      subst e
      obtain ⟨h1, h2, h3, h4⟩ := hfo
      obtain ⟨k, j, e1, e2, e3⟩ := cstart_inv hv
      have hk : k = i - nt := by omega
      subst hk
      rw [h3] at e2
      cases e2
      exact ⟨j', rfl, h1, e3⟩
  have clI : ∀ a, Cl c.O σ a → Cl (foO fo) (cstart nt fr σ) a := fun a ha i hi e => by
    obtain ⟨j, _, hj, e2⟩ := ownI i hi _ e
    exact ha j hj e2
  refine ⟨by simp [centry, cstart], fun i d hd => ?_, fun i hi v hv => ?_, fun i j a hi hj h1 h2 => ?_, fun a ha => ?_, fun b o hb hio => ?_, fun b hb => ?_, fun _ h => h, fun _ _ => rfl⟩
  · obtain ⟨k, j, e1, e2, e3⟩ := centry_inv hd
    subst e1
    by_cases hO : nt + k ∈ foO fo
    · obtain ⟨v, hv⟩ : ∃ v, σ[j]? = some (some v) := by
        obtain ⟨v, h1, _⟩ := r.val j d e3
        exact ⟨v, h1⟩
      have hc : (cstart nt fr σ)[nt + k]? = some (some v) := by rw [cstart_get e2, hv]; rfl
      obtain ⟨j', f1, f2, f3⟩ := ownI _ hO v hc
      subst f1
      obtain ⟨g1, g2, g3, g4⟩ := hfo
      rw [show nt + k - nt = k by omega, e2] at g3
      cases g3
      obtain ⟨ds, a, xs, h1, h3, h4, h5⟩ := r.getO g1 e3
      rw [hv] at h3
      cases h3
      exact ⟨.ref a, hc, .inl ⟨hO, ds, a, xs, h1, rfl, sm _ _ h4, IsL.ext (Ext.of_same sm) (fun b hb hs => ⟨⟨hb, fun e => by subst e; rw [hn] at hs; cases hs⟩, clI b hb.2⟩) h5⟩⟩
    · have hj : j ∉ c.O := by
        cases fo with
        | none => exact hfo j (List.mem_of_getElem? e2)
        | some p =>
          obtain ⟨i', j'⟩ := p
          exact hfo.2.2.2 k j e2 (fun e => hO (by simp [foO, e]))
      obtain ⟨v, h1, h2⟩ := r.get hj e3
      refine ⟨v, by rw [cstart_get e2, h1]; rfl, .inr ⟨hO, ?_⟩⟩
      refine Is.ext (Ext.of_same sm) (fun a ha hs => ⟨⟨ha, fun e => ?_⟩, clI a ha.2⟩) h2
      subst e; rw [hn] at hs; cases hs
  · obtain ⟨j, f1, f2, f3⟩ := ownI i hi v hv
    obtain ⟨a, xs, h1, h2, h3⟩ := r.own j f2 v f3
    subst h1 f1
    exact ⟨a, xs, rfl, sm _ _ h2, .inr ⟨hi, .inl f3⟩⟩
  · cases fo with
    | none => cases hi
    | some p =>
      obtain ⟨i', j'⟩ := p
      have e : i = i' := by simpa [foO, cin] using hi
      have e2 : j = i' := by simpa [foO, cin] using hj
      rw [e, e2]
  · have ha' : upd H acc (.lst []) a = none := ha
    by_cases e : a = acc
    · subst e; rw [upd_same] at ha'; cases ha'
    · rw [upd_ne e] at ha'; exact ⟨r.new ha', e⟩
  · exact hb
  · exact hb
theorem Rep.leave {K : Fr0} {nt : Nat} {fr : List Nat} {fo : Option (Nat × Nat)} {acc : Addr} {ρ ρe : Env} {σ σe : St} {H H' : Hp} (r : Rep K c ρ σ H) (hn : H acc = none) (hfo : FoOk c nt fr fo) (hf : ∀ i j, fo = some (i, j) → σe[i]? = (cstart nt fr σ)[i]?)
    (q : Rep K (cin (Cn c σ) H (foO fo) (FoIo σ fo) acc fun j => (cstart nt fr σ)[j]?) ρe σe H') : Rep K c (back fo ρe ρ) σ H' ∧ Gr c.O σ H H' := by
  have kp : ∀ b o, H b = some o → ¬ FoIo σ fo b → H' b = some o := fun b o hb hio => q.kp b o (by show upd H acc (.lst []) b = some o; rw [upd_ne (ne_of_none hb hn)]; exact hb) fun z => z.elim hio fun e => absurd e (ne_of_none hb hn)
  have clean : ∀ b, Cl c.O σ b → ¬ FoIo σ fo b := fun b hb hio => by
    cases fo with
    | none => exact hio
    | some p => exact hb p.2 hfo.1 hio
  have dom : ∀ b, H' b = none → H b = none := fun b hb => by
    have := q.dm b hb
    by_cases e : b = acc
    · subst e; exact hn
    · have this : upd H acc (.lst []) b = none := this
      rw [upd_ne e] at this; exact this
  have notT : ∀ b xs, H b = some (.tup xs) → ¬ FoIo σ fo b := fun b xs hb hio => by
    cases fo with
    | none => exact hio
    | some p =>
      obtain ⟨a, ys, e1, e2, _⟩ := r.own p.2 hfo.1 _ hio
      cases e1; rw [hb] at e2; cases e2
  have notF : ∀ b o u, H b = some (.frz o u) → ¬ FoIo σ fo b := fun b o u hb hio => by
    cases fo with
    | none => exact hio
    | some p =>
      obtain ⟨a, ys, e1, e2, _⟩ := r.own p.2 hfo.1 _ hio
      cases e1; rw [hb] at e2; cases e2
  have gr : Gr c.O σ H H' := ⟨⟨fun b xs hb => kp b _ hb (notT b xs hb), fun b o u hb => kp b _ hb (notF b o u hb), fun b o hc hb => kp b o hb (clean b hc)⟩, dom⟩
  refine ⟨⟨?_, fun k d hd => ?_, fun j hj v hv => ?_, r.inj, r.b0, fun b o hb hio => ?_, fun b hb => r.dm b (dom b hb), r.pO, r.ps⟩, gr⟩
  · cases fo with
    | none => exact r.len
    | some p => show (ρ.set _ _).length = _; rw [List.length_set]; exact r.len
  · -- an old slot, or the one that came back
    have oldSlot : ρ[k]? = some (some d) → (∀ i, fo ≠ some (i, k)) → ∃ v, σ[k]? = some (some v) ∧ ((k ∈ c.O ∧ ∃ ds a xs, d = .lst ds ∧ v = .ref a ∧ H' a = some (.lst xs) ∧ IsL K (Cn c σ) H' ds xs) ∨ (k ∉ c.O ∧ Is K (Cn c σ) H' d v)) := fun hk hne => by
      obtain ⟨v, h1, h2⟩ := r.val k d hk
      refine ⟨v, h1, ?_⟩
      rcases h2 with ⟨hi, ds, a, xs, h3, h5, h6, h7⟩ | ⟨hi, h3⟩
      · subst h5
        refine .inl ⟨hi, ds, a, xs, h3, rfl, kp a _ h6 (fun hio => ?_), gr.isL h7⟩
        cases fo with
        | none => exact hio
        | some p =>
          obtain ⟨i', j'⟩ := p
          have e := r.inj k j' a hi hfo.1 h1 hio
          exact hne i' (by rw [e])
      · exact .inr ⟨hi, gr.is h3⟩
    cases fo with
    | none => exact oldSlot hd (fun i e => by cases e)
    | some p =>
      obtain ⟨i', j'⟩ := p
      have hd' : (ρ.set j' (ρe[i']?).join)[k]? = some (some d) := hd
      by_cases e : k = j'
      · subst e
        have hl : k < ρ.length := by
          have := (List.getElem?_eq_some_iff.mp hd').1
          rwa [List.length_set] at this
        rw [List.getElem?_set_self hl] at hd'
        have he : ρe[i']? = some (some d) := join_some (Option.some.inj hd')
        obtain ⟨ds, a, xs, h1, h3, h4, h5⟩ := q.getO (show i' ∈ foO (some (i', k)) by simp [foO]) he
        have h3' := hf i' k rfl
        rw [h3] at h3'
        obtain ⟨k2, j2, e1, e2, e3⟩ := cstart_inv h3'.symm
        have hk2 : k2 = i' - nt := by omega
        subst hk2
        rw [hfo.2.2.1] at e2
        cases e2
        exact ⟨.ref a, e3, .inl ⟨hfo.1, ds, a, xs, h1, rfl, h4, IsL.ext Ext.refl (fun b hb _ => hb.1.1) h5⟩⟩
      · rw [set_get e] at hd'
        exact oldSlot hd' (fun i e2 => e (by cases e2; rfl))
  · obtain ⟨a, xs, h1, h2, h3⟩ := r.own j hj v hv
    subst h1
    by_cases hio : FoIo σ fo a
    · cases fo with
      | none => exact hio.elim
      | some p =>
        obtain ⟨i', j'⟩ := p
        have hc : (cstart nt fr σ)[i']? = some (some (.ref a)) := by
          have := cstart_get (σ := σ) (nt := nt) hfo.2.2.1
          rw [show nt + (i' - nt) = i' by have := hfo.2.1; omega] at this
          rw [this]
          have hio' : σ[j']? = some (some (.ref a)) := hio
          rw [hio']; rfl
        have h3' := hf i' j' rfl
        rw [hc] at h3'
        obtain ⟨a', ys, e1, e2, _⟩ := q.own i' (by simp [foO, cin]) _ h3'
        cases e1
        exact ⟨a, ys, rfl, e2, h3⟩
    · exact ⟨a, xs, rfl, kp a _ h2 hio, h3⟩
  · by_cases hio2 : FoIo σ fo b
    · cases fo with
      | none => exact hio2.elim
      | some p =>
        obtain ⟨a, ys, e1, e2, e3⟩ := r.own p.2 hfo.1 _ hio2
        cases e1
        rcases e3 with e3 | e3
        · rw [hb] at e3; cases e3
        · exact absurd e3.2 hio
    · exact kp b o (r.kp b o hb hio) hio2
theorem de_comp {it elt : Expr} {ifs : List Expr} {scope : Scope} {N' : List Str} {nt : Nat} {fr : List Nat} {fo : Option (Nat × Nat)} {f : M (List D)} {g : D → Env → Option Env} {t : M Bool} {k : M D} (hc : X.calm = true) (hi : DI X c tg it f) (S : CompScope X scope N' nt fr)
    (hfo : FoOk c nt fr fo)
    (hb : ∀ fp cl C s₀ H₀ pn B0 H1 Io' acc S', DG (compCx X scope N' fp cl C s₀ H₀ pn) (cin B0 H1 (foO fo) Io' acc S') tg g ∧ DF (compCx X scope N' fp cl C s₀ H₀ pn) (cin B0 H1 (foO fo) Io' acc S') ifs t ∧ DE (compCx X scope N' fp cl C s₀ H₀ pn) (cin B0 H1 (foO fo) Io' acc S') elt k)
    (hs : ∀ x, foldedSetIterable it X.env x = pure x := by intro _; rfl) : DE X c (.ListComp elt [⟨tg, it, ifs, 0⟩] scope pos) (dcomp nt fr fo f g t k) := by
  obtain ⟨wi, pi, wI⟩ := hi
  refine ⟨_, pe_comp hc pi S hs, fun ρ σ H Q r h => wI ρ σ H _ r (WpI.bnd h fun ds ρ1 J H1 r1 iok g1 h1 => ?_)⟩
  intro acc fp cl C s₀ H₀ pn hn
  obtain ⟨⟨tg', pg, wg⟩, ⟨tt, pt, wt⟩, ⟨te, pe, we⟩⟩ := hb fp cl C s₀ H₀ pn (Cn c σ) H1 (FoIo σ fo) acc fun j => (cstart nt fr σ)[j]?
  refine ⟨tg', tt, te, pg, pt, pe, ?_⟩
  cases ew : dcompL g t k ds [] (centry nt fr ρ1) with
  | exc x ρ' => rw [ew] at h1; exact h1.elim
  | bad => rw [ew] at h1; exact h1.elim
  | ok p =>
    rw [ew] at h1
    obtain ⟨ys, ρe⟩ := p
    have h1 : ∀ v H', Rep X.K c (back fo ρe ρ1) σ H' → Is X.K (Cn c σ) H' (.lst ys) v → Gr c.O σ H1 H' → Q v H' := h1
    have accO : ∀ j ∈ foO fo, (cstart nt fr σ)[j]? ≠ some (some (.ref acc)) := fun j hj e => by
      have r0 := r1.entry (acc := acc) hn hfo
      cases fo with
      | none => cases hj
      | some p =>
        obtain ⟨i', j'⟩ := p
        have e2 : j = i' := by simpa [foO] using hj
        subst e2
        obtain ⟨k2, j2, e1, e2, e3⟩ := cstart_inv e
        have hk2 : k2 = j - nt := by omega
        subst hk2
        rw [hfo.2.2.1] at e2
        cases e2
        obtain ⟨a, us, e4, e5, _⟩ := r1.own j' hfo.1 _ e3
        cases e4; rw [hn] at e5; cases e5
    refine ⟨fun i m σ' H' => m = ds.length - i ∧ i ≤ ds.length ∧ ∃ ρ' zs xs, Rep X.K (cin (Cn c σ) H1 (foO fo) (FoIo σ fo) acc fun j => (cstart nt fr σ)[j]?) ρ' σ' H' ∧ (∀ j ∈ foO fo, σ'[j]? = (cstart nt fr σ)[j]?) ∧ H' acc = some (.lst xs) ∧ IsL X.K (Cn (cin (Cn c σ) H1 (foO fo) (FoIo σ fo) acc fun j => (cstart nt fr σ)[j]?) σ') H' zs xs ∧ dcompL g t k (ds.drop i) zs ρ' = .ok (ys, ρe),
      ⟨ds.length, by simp, Nat.zero_le _, centry nt fr ρ1, [], [], r1.entry hn hfo, fun _ _ => rfl, upd_same, rfl, by simpa using ew⟩, ?_⟩
    rintro i m σ' H' ⟨rfl, hi, ρ', zs, xs, r', so, ha, iz, w⟩
    obtain ⟨_, gr⟩ := r1.leave hn hfo (fun i j e => so i (by rw [e]; simp [foO])) r'
    have ex : Ext (CnT c σ H1) H1 H' := ⟨gr.ext.tup, gr.ext.frz, fun b o hb hq => gr.ext.at_ b o hb.1.2 hq⟩
    have accC : ∀ τ : St, (∀ j ∈ foO fo, τ[j]? = (cstart nt fr σ)[j]?) → Cl (foO fo) τ acc := fun τ hτ j hj e => accO j hj (by rw [← hτ j hj]; exact e)
    by_cases hlt : i < ds.length
    · refine .inr ⟨iok.go H' i ds[i] ex (by simp [hlt]), fun x H'' y => ?_⟩
      obtain ⟨sm, ix⟩ := iok.yl H' i ds[i] x H'' ex (by simp [hlt]) y
      rw [drop_cons' hlt] at w
      unfold dcompL at w
      have ix2 : Is X.K (Cn (cin (Cn c σ) H1 (foO fo) (FoIo σ fo) acc fun j => (cstart nt fr σ)[j]?) σ') H'' ds[i] x := Is.ext Ext.refl (fun a ha _ => ⟨⟨ha.1, fun e => by
        have := ha.2
        rw [e, hn] at this; cases this⟩, fun j hj e => by
          rw [so j hj] at e
          cases fo with
          | none => cases hj
          | some p =>
            obtain ⟨i', j'⟩ := p
            have e2 : j = i' := by simpa [foO, cin] using hj
            subst e2
            obtain ⟨k2, j2, e1, e2, e3⟩ := cstart_inv e
            have hk2 : k2 = j - nt := by omega
            subst hk2
            rw [hfo.2.2.1] at e2
            cases e2
            exact ha.1.2 j' hfo.1 e3⟩) ix
      cases e1 : g ds[i] ρ' with
      | none => simp only [e1] at w; cases w
      | some ρ2 =>
        simp only [e1] at w
        refine wg ρ' σ' H'' ds[i] x ρ2 _ (r'.same sm) ix2 e1 fun σ2 r2 g2 o2 => ?_
        have so2 : ∀ j ∈ foO fo, σ2[j]? = (cstart nt fr σ)[j]? := fun j hj => (o2 j hj).trans (so j hj)
        have ha2 : H'' acc = some (.lst xs) := sm _ _ ha
        have iz2 := g2.isL (IsL.ext (Ext.of_same sm) (fun _ h _ => h) iz)
        cases e2 : t ρ2 with
        | exc x ρ3 => simp only [e2] at w; cases w
        | bad => simp only [e2] at w; cases w
        | ok p2 =>
          obtain ⟨bb, ρ3⟩ := p2
          refine wt ρ2 σ2 H'' _ r2 ?_
          rw [e2]
          intro H3 r3 g3
          have ha3 : H3 acc = some (.lst xs) := g3.ext.at_ _ _ (accC σ2 so2) ha2
          have iz3 := g3.isL iz2
          cases bb with
          | false =>
            rw [if_neg Bool.false_ne_true]
            simp only [e2] at w
            exact ⟨ds.length - (i + 1), by omega, rfl, hlt, ρ3, zs, xs, r3, so2, ha3, iz3, w⟩
          | true =>
            rw [if_pos rfl]
            simp only [e2] at w
            cases e3 : k ρ3 with
            | exc x ρ4 => simp only [e3] at w; cases w
            | bad => simp only [e3] at w; cases w
            | ok p3 =>
              obtain ⟨d4, ρ4⟩ := p3
              simp only [e3] at w
              refine we ρ3 σ2 H3 _ r3 ?_
              rw [e3]
              intro y4 H4 r4 i4 g4
              have ha4 : H4 acc = some (.lst xs) := g4.ext.at_ _ _ (accC σ2 so2) ha3
              have hsz : smallL (zs.length + 1) = true := by
                cases e5 : smallL (zs.length + 1) with
                | true => rfl
                | false => rw [e5] at w; simp at w
              rw [if_pos hsz] at w
              have hsz' : zs.length + 1 ≤ sizeLine := of_decide_eq_true hsz
              have r5 := r4.grow (ys := xs ++ [y4]) ha4 (fun j hj e => accC σ2 so2 j hj e)
              have ext5 : Ext (Cn (cin (Cn c σ) H1 (foO fo) (FoIo σ fo) acc fun j => (cstart nt fr σ)[j]?) σ2) H4 (upd H4 acc (.lst (xs ++ [y4]))) := ⟨fun b us hb => by rw [upd_ne (ne_of hb ha4 (by intro z; cases z))]; exact hb, fun b o u hb => by rw [upd_ne (ne_of hb ha4 (by intro z; cases z))]; exact hb, fun b o hb hq => by rw [upd_ne hb.1.2]; exact hq⟩
              refine ⟨xs, ha4, by rw [iz3.length]; omega, ds.length - (i + 1), by omega, rfl, hlt, ρ4, zs ++ [d4], xs ++ [y4], r5, so2, upd_same, ?_, w⟩
              exact IsL.append (IsL.ext ext5 (fun _ h _ => h) (g4.isL iz3)) (IsL.one (Is.ext ext5 (fun _ h _ => h) i4))
    · have hie : i = ds.length := by omega
      subst hie
      rw [List.drop_of_length_le (Nat.le_refl _)] at w
      unfold dcompL at w
      cases w
      obtain ⟨r6, g6⟩ := r1.leave hn hfo (fun i j e => so i (by rw [e]; simp [foO])) r'
      exact .inl ⟨iok.stop H' ex, h1 _ H' r6 ⟨acc, xs, rfl, r1.new hn, ha, IsL.ext Ext.refl (fun a ha hs => ha.1.1) iz⟩ g6⟩
end
end L2.Sk
set_option Elab.async false
set_option linter.all false
set_option maxRecDepth 100000
namespace L2.Sk
open PySem PySem.Spec PyProof.Rows
theorem Rep.io {K : Fr0} {c : Fc} {ρ : Env} {σ : St} {H H' : Hp} {i : Nat} {a : Addr} {bs : List D} {xs : List V} (r : Rep K c ρ σ H) (hi : i ∈ c.O) (hs : σ[i]? = some (some (.ref a))) (kp : ∀ b o, b ≠ a → H b = some o → H' b = some o)
    (ha : H' a = some (.lst xs)) (him : True) (il : IsL K (Cn c σ) H' bs xs) (dm : ∀ b, H' b = none → H b = none) : Rep K c (ρ.set i (some (.lst bs))) σ H' ∧ Gr c.O σ H H' := by
  obtain ⟨a', xs0, e0, h0, hown⟩ := r.own i hi _ hs
  cases e0
  have gr : Gr c.O σ H H' := ⟨⟨fun b us hb => kp b _ (ne_of hb h0 (by intro z; cases z)) hb, fun b o u hb => kp b _ (ne_of hb h0 (by intro z; cases z)) hb, fun b o hc hb => kp b o (fun e => hc i hi (by rw [hs, e])) hb⟩, dm⟩
  refine ⟨⟨by rw [List.length_set]; exact r.len, fun k d hk => ?_, fun j hj v hv => ?_, r.inj, r.b0, fun b o hb hio => ?_, fun b hb => r.dm b (dm b hb), r.pO, r.ps⟩, gr⟩
  · by_cases e : k = i
    · subst e
      have hl : k < ρ.length := by
        have := (List.getElem?_eq_some_iff.mp hk).1
        rwa [List.length_set] at this
      rw [List.getElem?_set_self hl] at hk
      cases hk
      exact ⟨.ref a, hs, .inl ⟨hi, bs, a, xs, rfl, rfl, ha, il⟩⟩
    · rw [set_get e] at hk
      obtain ⟨v, h1, h2⟩ := r.val k d hk
      refine ⟨v, h1, ?_⟩
      rcases h2 with ⟨hk2, ds, b, ys, h3, h5, h6, h7⟩ | ⟨hk2, h3⟩
      · subst h5
        have ne : b ≠ a := fun e2 => e (r.inj k i a hk2 hi (by rw [h1, e2]) hs)
        exact .inl ⟨hk2, ds, b, ys, h3, rfl, kp b _ ne h6, gr.isL h7⟩
      · exact .inr ⟨hk2, gr.is h3⟩
  · obtain ⟨b, ys, h1, h2, h3⟩ := r.own j hj v hv
    subst h1
    by_cases e : b = a
    · subst e; exact ⟨b, xs, rfl, ha, h3⟩
    · exact ⟨b, ys, rfl, kp b _ e h2, h3⟩
  · have ne : b ≠ a := fun e => by
      subst e
      rcases hown with z | z
      · rw [hb] at z; cases z
      · exact hio z.2
    exact kp b o ne (r.kp b o hb hio)
def getL (i : Nat) (ρ : Env) : Option (List D) := match ρ[i]? with
  | some (some (.lst ds)) => some ds
  | _ => none
theorem getL_some {i : Nat} {ρ : Env} {ds : List D} (h : getL i ρ = some ds) : ρ[i]? = some (some (.lst ds)) := by
  unfold getL at h
  split at h
  · rename_i e; cases h; exact e
  · cases h
theorem Rep.getLO {K : Fr0} {c : Fc} {ρ : Env} {σ : St} {H : Hp} (r : Rep K c ρ σ H) {i : Nat} {ds : List D} (hi : i ∈ c.O) (h : getL i ρ = some ds) :
    ∃ a xs, True ∧ σ[i]? = some (some (.ref a)) ∧ H a = some (.lst xs) ∧ IsL K (Cn c σ) H ds xs := by
  obtain ⟨ds', a, xs, h1, h3, h4, h5⟩ := r.getO hi (getL_some h)
  cases h1
  exact ⟨a, xs, trivial, h3, h4, h5⟩
theorem upd_keeps {H : Hp} {a b : Addr} {o u : HO} (h : b ≠ a) (hb : H b = some o) : upd H a u b = some o := by rw [upd_ne h]; exact hb
theorem upd_dom {H : Hp} {a b : Addr} {u : HO} (h : upd H a u b = none) : H b = none := by
  by_cases e : b = a
  · subst e; rw [upd_same] at h; cases h
  · rw [upd_ne e] at h; exact h
section
variable {X : Cx} {c : Fc} {a b e : Expr} {pos : Pos}
def dappend (i : Nat) (f : M D) : M D := fun ρ => match getL i ρ with
  | none => .bad
  | some _ => (bnd f fun d ρ => match getL i ρ with
    | some ds => if imm d && smallL (ds.length + 1) then .ok (.non, ρ.set i (some (.lst (ds ++ [d])))) else .bad
    | none => .bad) ρ
theorem de_append {i : Nat} {x : Str} {p1 apos : Pos} {f : M D} (he : DE X c e f) (ho : i ∈ c.O := by exact of_decide_eq_true rfl) (hN : X.N[i]? = some x := by rfl) (hv : Vis X.env.scope x := by first | exact Or.inl rfl | exact Or.inr (Or.inl rfl) | exact Or.inr (Or.inr rfl)) (hd : (x == ("__debug__" : Str)) = false := by decide) (hcd : (x == ("__classdict__" : Str)) = false := by decide)
    (hbase : attributeBase (.Name x p1) "append" X.env (eval (.Name x p1) X.env) = eval (.Name x p1) X.env := by rfl)
    (hfew : ((backTo pos (starEach [e] X.env)).all (fun x => !x.1) && (backToKw pos (keywordEach [] X.env)).all (fun x => x.1.isSome)
      && decide ([e].length + ([] : List Keyword).length + (if ([] : List Keyword).isEmpty then 0 else 1) < 30)) = true := by rfl)
    (hline : (apos.endLine == pos.line) = true := by rfl) (hs : starEach [e] X.env = (false, eval e X.env) :: starEach [] X.env := by rfl) (hplain : (backTo pos (starEach [] X.env)).any (·.1) = false := by rfl) :
    DE X c (.Call (.Attribute (.Name x p1) "append" apos) [e] [] pos) (dappend i f) := by
  obtain ⟨t, p, w⟩ := he
  refine ⟨_, pe_bm PySem.F.plainAttrs_list PySem.F.slot_list_append PySem.F.type_list_append mt_append (pe_var hN hv hd hcd) (pa_cons p pa_nil hs) hbase hfew hline hs hplain, fun ρ σ H Q r h => ?_⟩
  unfold dappend at h
  cases e0 : getL i ρ with
  | none => rw [e0] at h; exact h.elim
  | some ds0 =>
    simp only [e0] at h
    obtain ⟨l, xs0, _, hl, hH, _⟩ := r.getLO ho e0
    refine ⟨.ref l, hl, .inl ⟨rfl, xs0, .inl (.inl hH)⟩, w ρ σ H _ r (Wp.bnd h fun d ρ1 v H1 r1 i1 g1 h1 => ?_)⟩
    cases e1 : getL i ρ1 with
    | none => simp only [e1] at h1; exact h1.elim
    | some ds =>
      simp only [e1] at h1
      by_cases hb : (imm d && smallL (ds.length + 1)) = true
      · rw [if_pos hb] at h1
        rw [Bool.and_eq_true] at hb
        obtain ⟨l', xs, him, hl', hH', il⟩ := r1.getLO ho e1
        rw [hl] at hl'
        cases hl'
        have hsz : ds.length + 1 ≤ sizeLine := of_decide_eq_true hb.2
        have ext : Ext (Cn c σ) H1 (upd H1 l (.lst (xs ++ [v]))) := ⟨fun b us hb => upd_keeps (ne_of hb hH' (by intro z; cases z)) hb, fun b o u hb => upd_keeps (ne_of hb hH' (by intro z; cases z)) hb, fun b o hb hq => upd_keeps (fun e => hb.2 i ho (by rw [hl, e])) hq⟩
        obtain ⟨r2, g2⟩ := r1.io (H' := upd H1 l (.lst (xs ++ [v]))) (bs := ds ++ [d]) ho hl (fun b o hb ho => upd_keeps hb ho) upd_same trivial
          (IsL.append (IsL.ext ext (fun _ h _ => h) il) (IsL.one (Is.ext ext (fun _ h _ => h) i1))) (fun b hb => upd_dom hb)
        exact ⟨l, xs, v, rfl, rfl, hH', by rw [il.length]; omega, h1 _ _ r2 rfl g2⟩
      · rw [if_neg hb] at h1; exact h1.elim
def ssetI (i : Nat) (k f : M D) : MS := sbnd f fun d ρ => match getL i ρ with
  | none => .bad
  | some _ => (sbnd k fun j ρ => match j, getL i ρ with
    | .int n, some ds => match ixN ds.length n with
      | some q => if imm d then .ok (.nx (ρ.set i (some (.lst (ds.set q d))))) else .bad
      | none => .bad
    | _, _ => .bad) ρ
theorem ds_setI {i : Nat} {x : Str} {p1 p2 : Pos} {ke : Expr} {f k : M D} (he : DE X c e f) (hk : DE X c ke k) (ho : i ∈ c.O := by exact of_decide_eq_true rfl) (hN : X.N[i]? = some x := by rfl) (hv : Vis X.env.scope x := by first | exact Or.inl rfl | exact Or.inr (Or.inl rfl) | exact Or.inr (Or.inr rfl)) (hd : (x == ("__debug__" : Str)) = false := by decide) (hcd : (x == ("__classdict__" : Str)) = false := by decide)
    (ha : ∀ v, assign (.Subscript (.Name x p1) ke p2) X.env v = (do
      let ov ← holding [v] (eval (.Name x p1) X.env)
      let iv ← holding [v, ov] (eval ke X.env)
      standAt p2
      holding [v, ov, iv] (setItem ov iv v)
      release [v, ov, iv] []) := by intro _; rfl)
    (hs : swapsWithSole [.Subscript (.Name x p1) ke p2] e pos.line X.env = pure false := by rfl) (hw : swappedStores [.Subscript (.Name x p1) ke p2] e X.env = pure none := by rfl) (h1 : (assignEach [.Subscript (.Name x p1) ke p2] X.env).map (·.2) = [assign (.Subscript (.Name x p1) ke p2) X.env] := by rfl) :
    DS X c (.Assign [.Subscript (.Name x p1) ke p2] e pos) (ssetI i k f) := by
  obtain ⟨t, p, w⟩ := he
  obtain ⟨tk, pk, wk⟩ := hk
  refine ⟨_, ps_asg p (pg_sub (pe_var hN hv hd hcd) pk set_list ha) hs hw h1, fun ρ σ H D r h => w ρ σ H _ r (Wp.sbnd h fun d ρ1 v H1 r1 i1 g1 h1 => ?_)⟩
  cases e0 : getL i ρ1 with
  | none => simp only [e0] at h1; exact h1.elim
  | some ds0 =>
    simp only [e0] at h1
    obtain ⟨l, xs0, _, hl, hH, _⟩ := r1.getLO ho e0
    refine ⟨.ref l, hl, wk ρ1 σ H1 _ r1 (Wp.sbnd h1 fun j ρ2 u H2 r2 i2 g2 h2 => ?_)⟩
    cases j with
    | int n =>
      cases e1 : getL i ρ2 with
      | none => simp only [e1] at h2; exact h2.elim
      | some ds =>
        simp only [e1] at h2
        cases e2 : ixN ds.length n with
        | none => simp only [e2] at h2; exact h2.elim
        | some q =>
          simp only [e2] at h2
          by_cases hb : imm d = true
          · rw [if_pos hb] at h2
            obtain ⟨l', xs, him, hl', hH', il⟩ := r2.getLO ho e1
            rw [hl] at hl'
            cases hl'
            cases i2
            have i3 := g2.is i1
            have ext : Ext (Cn c σ) H2 (upd H2 l (.lst (xs.set q v))) := ⟨fun b us hb => upd_keeps (ne_of hb hH' (by intro z; cases z)) hb, fun b o u hb => upd_keeps (ne_of hb hH' (by intro z; cases z)) hb, fun b o hb hq => upd_keeps (fun e => hb.2 i ho (by rw [hl, e])) hq⟩
            obtain ⟨r3, g3⟩ := r2.io (H' := upd H2 l (.lst (xs.set q v))) (bs := ds.set q d) ho hl (fun b o hb ho => upd_keeps hb ho) upd_same trivial
              (IsL.set (Is.ext ext (fun _ h _ => h) i3) q (IsL.ext ext (fun _ h _ => h) il)) (fun b hb => upd_dom hb)
            exact ⟨l, xs, n, q, rfl, rfl, hH', by rw [il.length]; exact e2, h2 σ _ r3 g3.s⟩
          · rw [if_neg hb] at h2; exact h2.elim
    | _ => exact h2.elim
structure Apart (K : Fr0) (c : Fc) (ρ : Env) (σ : St) (H : Hp) (a : Addr) : Prop where
  val : ∀ i d v, ρ[i]? = some (some d) → i ∉ c.O → σ[i]? = some (some v) → Is K (fun b => Cn c σ b ∧ b ≠ a) H d v
  cont : ∀ i ds b xs, ρ[i]? = some (some (.lst ds)) → i ∈ c.O → σ[i]? = some (some (.ref b)) → H b = some (.lst xs) → IsL K (Cn c σ) H ds xs → IsL K (fun b => Cn c σ b ∧ b ≠ a) H ds xs
  own : ∀ j ∈ c.O, σ[j]? ≠ some (some (.ref a))
  new : c.H0 a = none
theorem Is.fresh {K : Fr0} {A : Addr → Prop} {H : Hp} {d : D} {v : V} {a : Addr} (h : Is K A H d v) (hn : H a = none) : Is K (fun b => A b ∧ b ≠ a) H d v := Is.ext Ext.refl (fun b h1 h2 => ⟨h1, fun e => by rw [e, hn] at h2; cases h2⟩) h
theorem Rep.apart {K : Fr0} {ρ : Env} {σ : St} {H : Hp} {a : Addr} {o : HO} (r : Rep K c ρ σ H) (hn : H a = none) : Apart K c ρ σ (upd H a o) a where
  val := fun i d v h1 h2 h3 => by
    obtain ⟨w, h4, h5⟩ := r.get h2 h1
    rw [h3] at h4
    cases h4
    exact Is.ext (Ext.of_same (same_new hn _)) (fun _ h _ => h) (h5.fresh hn)
  cont := fun i ds b xs h1 h2 h3 h4 _ => by
    obtain ⟨ds', a', ys, e1, e2, e3, e4⟩ := r.getO h2 h1
    cases e1
    rw [h3] at e2
    cases e2
    have := same_new hn o _ _ e3
    rw [h4] at this
    cases this
    exact IsL.ext (Ext.of_same (same_new hn _)) (fun b hb hs => ⟨hb, fun e => by rw [e, hn] at hs; cases hs⟩) e4
  own := fun j hj e => (r.new hn).2 j hj e
  new := r.dm a hn
theorem Rep.apart_same {K : Fr0} {ρ : Env} {σ : St} {H H' : Hp} {a : Addr} (r : Rep K c ρ σ H) (hn : H a = none) (sm : Same H H') : Apart K c ρ σ H' a where
  val := fun i d v h1 h2 h3 => by
    obtain ⟨w, h4, h5⟩ := r.get h2 h1
    rw [h3] at h4
    cases h4
    exact Is.ext (Ext.of_same sm) (fun _ h _ => h) (h5.fresh hn)
  cont := fun i ds b xs h1 h2 h3 h4 _ => by
    obtain ⟨ds', a', ys, e1, e2, e3, e4⟩ := r.getO h2 h1
    cases e1
    rw [h3] at e2
    cases e2
    have := sm _ _ e3
    rw [h4] at this
    cases this
    exact IsL.ext (Ext.of_same sm) (fun b hb hs => ⟨hb, fun e => by rw [e, hn] at hs; cases hs⟩) e4
  own := fun j hj e => (r.new hn).2 j hj e
  new := r.dm a hn
def WpN (K : Fr0) (c : Fc) (σ : St) (H : Hp) (Q : VK) : R (List D × Env) → Prop
  | .ok (ds, ρ) => ∀ a xs H', H a = none → Rep K c ρ σ H' → Apart K c ρ σ H' a → H' a = some (.lst xs) → True → IsL K (fun b => Cn c σ b ∧ b ≠ a) H' ds xs → Gr c.O σ H H' → Q (.ref a) H'
  | .exc x ρ => ∀ H', Rep K c ρ σ H' → Gr c.O σ H H' → c.E x H'
  | .bad => False
def DN (X : Cx) (c : Fc) (e : Expr) (f : M (List D)) : Prop := ∃ t, PE X e t ∧ ∀ ρ σ H Q, Rep X.K c ρ σ H → WpN X.K c σ H Q (f ρ) → t σ H Q
theorem WpN.gr {K : Fr0} {σ : St} {H H1 : Hp} {Q : VK} : ∀ {r : R (List D × Env)}, WpN K c σ H Q r → Gr c.O σ H H1 → WpN K c σ H1 Q r
  | .ok (d, ρ), h, g => fun a xs H' hn h1 h2 h3 h4 h5 hg => h a xs H' (g.dom a hn) h1 h2 h3 h4 h5 (g.trans hg)
  | .exc x ρ, h, g => fun H' hr hg => h H' hr (g.trans hg)
  | .bad, h, _ => h
theorem WpL.bndN {K : Fr0} {σ : St} {H : Hp} {Q : VK} {f : M (List D)} {k : List D → M (List D)} {ρ : Env} {Q' : List V → Hp → Prop} (h : WpN K c σ H Q (Sk.bnd f k ρ)) (hQ : ∀ d ρ' v H', Rep K c ρ' σ H' → IsL K (Cn c σ) H' d v → Gr c.O σ H H' → WpN K c σ H' Q (k d ρ') → Q' v H') : WpL K c σ H Q' (f ρ) := by
  unfold Sk.bnd at h
  cases e : f ρ with
  | ok p => rw [e] at h; exact fun v H' hr hi hg => hQ p.1 p.2 v H' hr hi hg (h.gr hg)
  | exc x ρ' => rw [e] at h; exact h
  | bad => rw [e] at h; exact h
def nlst (f : M (List D)) : M (List D) := bnd f fun ds => lift (if immL ds && smallL ds.length then some ds else none)
theorem dn_lst {es : List Expr} {f : M (List D)} (h : DA X c es f) : DN X c (.List es pos) (nlst f) := by
  obtain ⟨t, p, w⟩ := h
  refine ⟨_, pe_lst p, fun ρ σ H Q r h => w ρ σ H _ r (WpL.bndN h fun ds ρ1 vs H1 r1 i1 g1 h1 => ?_)⟩
  by_cases hb : (immL ds && smallL ds.length) = true
  · rw [if_pos hb] at h1
    rw [Bool.and_eq_true] at hb
    refine ⟨by rw [i1.length]; exact of_decide_eq_true hb.2, fun p hp => ?_⟩
    exact h1 p vs _ hp (r1.laid hp _) (r1.apart hp) upd_same trivial (IsL.ext (Ext.of_same (same_new hp _)) (fun b h hs => ⟨h, fun e => by rw [e, hp] at hs; cases hs⟩) i1) (.of_same (same_new hp _))
  · rw [if_neg hb] at h1; exact h1.elim
theorem Cl.setO {O : List Nat} {σ : St} {i : Nat} {a b : Addr} (h : Cl O σ b) (hb : b ≠ a) : Cl O (σ.set i (some (.ref a))) b := fun j hj e => by
  by_cases hji : j = i
  · subst hji
    have hl : j < σ.length := by
      have := (List.getElem?_eq_some_iff.mp e).1
      rwa [List.length_set] at this
    rw [List.getElem?_set_self hl] at e
    cases e
    exact hb rfl
  · rw [set_get hji] at e
    exact h j hj e
theorem Rep.setO {K : Fr0} {ρ : Env} {σ : St} {H : Hp} {i : Nat} {a : Addr} {ds : List D} {xs : List V} (r : Rep K c ρ σ H) (hi : i ∈ c.O) (hP : i ∉ c.P) (ap : Apart K c ρ σ H a) (ha : H a = some (.lst xs)) (him : True) (il : IsL K (fun b => Cn c σ b ∧ b ≠ a) H ds xs) :
    Rep K c (ρ.set i (some (.lst ds))) (σ.set i (some (.ref a))) H where
  len := by rw [List.length_set, List.length_set]; exact r.len
  val := fun j e hj => by
    by_cases e1 : j = i
    · subst e1
      have hl : j < ρ.length := by
        have := (List.getElem?_eq_some_iff.mp hj).1
        rwa [List.length_set] at this
      rw [List.getElem?_set_self hl] at hj
      cases hj
      exact ⟨.ref a, List.getElem?_set_self (by rw [← r.len]; exact hl), .inl ⟨hi, ds, a, xs, rfl, rfl, ha, IsL.ext Ext.refl (fun b hb _ => ⟨hb.1.1, hb.1.2.setO hb.2⟩) il⟩⟩
    · rw [set_get e1] at hj
      obtain ⟨w, h1, h2⟩ := r.val j e hj
      refine ⟨w, by rw [set_get e1]; exact h1, ?_⟩
      rcases h2 with ⟨g1, ds', b', xs', g3, g5, g6, g7⟩ | ⟨h3, h4⟩
      · subst g3 g5
        exact .inl ⟨g1, ds', b', xs', rfl, rfl, g6, IsL.ext Ext.refl (fun b hb _ => ⟨hb.1.1, hb.1.2.setO hb.2⟩) (ap.cont j ds' b' xs' hj g1 h1 g6 g7)⟩
      · exact .inr ⟨h3, Is.ext Ext.refl (fun b hb _ => ⟨hb.1.1, hb.1.2.setO hb.2⟩) (ap.val j e w hj h3 h1)⟩
  own := fun j hj w h => by
    by_cases e1 : j = i
    · subst e1
      have hl : j < σ.length := by
        have := (List.getElem?_eq_some_iff.mp h).1
        rwa [List.length_set] at this
      rw [List.getElem?_set_self hl] at h
      cases h
      exact ⟨a, xs, rfl, ha, .inl ap.new⟩
    · rw [set_get e1] at h
      exact r.own j hj w h
  inj := fun j k b hj hk h1 h2 => by
    by_cases e1 : j = i
    · by_cases e2 : k = i
      · rw [e1, e2]
      · subst e1
        have hl : j < σ.length := by
          have := (List.getElem?_eq_some_iff.mp h1).1
          rwa [List.length_set] at this
        rw [List.getElem?_set_self hl] at h1
        cases h1
        rw [set_get e2] at h2
        exact absurd h2 (ap.own k hk)
    · by_cases e2 : k = i
      · subst e2
        have hl : k < σ.length := by
          have := (List.getElem?_eq_some_iff.mp h2).1
          rwa [List.length_set] at this
        rw [List.getElem?_set_self hl] at h2
        cases h2
        rw [set_get e1] at h1
        exact absurd h1 (ap.own j hj)
      · rw [set_get e1] at h1
        rw [set_get e2] at h2
        exact r.inj j k b hj hk h1 h2
  b0 := r.b0
  kp := r.kp
  dm := r.dm
  pO := r.pO
  ps := fun j hj => by
    have e : j ≠ i := fun e => hP (e ▸ hj)
    rw [set_get e]; exact r.ps j hj
def ssetN (i : Nat) (f : M (List D)) : MS := sbnd f fun ds ρ => .ok (.nx (ρ.set i (some (.lst ds))))
theorem ds_setN {i : Nat} {x : Str} {pos' : Pos} {f : M (List D)} (hN : X.N.Nodup) (he : DN X c e f) (ho : i ∈ c.O := by exact of_decide_eq_true rfl) (hP : i ∉ c.P := by exact of_decide_eq_false rfl) (hi : X.N[i]? = some x := by rfl) (hx : Loc X.env.scope x := by first | exact Or.inl rfl | exact Or.inr rfl) (hs : swapsWith e (some (.Name x pos')) pos.line X.env = pure false := by rfl) (hf : X.fn x = true ∨ X.env.scope.names.lookup x = some .local := by first | exact .inl rfl | exact .inr rfl | assumption) :
    DS X c (.Assign [.Name x pos'] e pos) (ssetN i f) := by
  obtain ⟨t, p, w⟩ := he
  refine ⟨_, ps_set hN hi hx p hs hf, fun ρ σ H D r h => w ρ σ H _ r ?_⟩
  unfold ssetN sbnd at h
  cases ef : f ρ with
  | bad => rw [ef] at h; exact h
  | exc z ρ' => rw [ef] at h; exact fun H' hr hg => h σ H' hr hg.s
  | ok q =>
    rw [ef] at h
    intro a xs H' hn r' ap ha him il g'
    exact h _ H' (r'.setO ho hP ap ha him il) ⟨g'.ext, fun b hb hs => hb.setO (fun e => by rw [e, hn] at hs; exact absurd hs (by simp)), g'.dom⟩
def dlenO (i : Nat) : M D := fun ρ => match getL i ρ with
  | some ds => .ok (.int ds.length, ρ)
  | none => .bad
theorem de_lenO {i : Nat} {x : Str} {p p1 : Pos} (hg : Gl X "len") (hm : X.mg "len" = none) (ho : i ∈ c.O := by exact of_decide_eq_true rfl) (hN : X.N[i]? = some x := by rfl) (hv : Vis X.env.scope x := by first | exact Or.inl rfl | exact Or.inr (Or.inl rfl) | exact Or.inr (Or.inr rfl)) (hd : (x == ("__debug__" : Str)) = false := by decide) (hcd : (x == ("__classdict__" : Str)) = false := by decide) :
    DE X c (.Call (.Name "len" p) [.Name x p1] [] pos) (dlenO i) := by
  refine ⟨_, pe_callB call_lenA hg hm PySem.boot_len (pa_cons (pe_var hN hv hd hcd) pa_nil), fun ρ σ H Q r h => ?_⟩
  unfold dlenO at h
  cases e0 : getL i ρ with
  | none => simp only [e0] at h; exact h.elim
  | some ds =>
    simp only [e0] at h
    obtain ⟨l, xs, him, hl, hH, il⟩ := r.getLO ho e0
    exact ⟨.ref l, hl, .inl ⟨l, xs, rfl, .inl (.inl (.inl hH)), by rw [il.length]; exact h _ H r rfl .refl⟩⟩
def dtupO (i : Nat) : M D := fun ρ => match getL i ρ with
  | some ds => .ok (.tup ds, ρ)
  | none => .bad
theorem de_tupO {i : Nat} {x : Str} {p p1 : Pos} (hg : Gl X "tuple") (hm : X.mg "tuple" = none) (hb : bootBuiltins "tuple" = some (.type "tuple") := by first | rfl | exact PySem.boot_tuple) (ho : i ∈ c.O := by exact of_decide_eq_true rfl) (hN : X.N[i]? = some x := by rfl) (hv : Vis X.env.scope x := by first | exact Or.inl rfl | exact Or.inr (Or.inl rfl) | exact Or.inr (Or.inr rfl)) (hd : (x == ("__debug__" : Str)) = false := by decide) (hcd : (x == ("__classdict__" : Str)) = false := by decide) :
    DE X c (.Call (.Name "tuple" p) [.Name x p1] [] pos) (dtupO i) := by
  refine ⟨_, pe_callTy call_tuple_of hg hm hb (pa_cons (pe_var hN hv hd hcd) pa_nil), fun ρ σ H Q r h => ?_⟩
  unfold dtupO at h
  cases e0 : getL i ρ with
  | none => simp only [e0] at h; exact h.elim
  | some ds =>
    simp only [e0] at h
    obtain ⟨l, xs, him, hl, hH, il⟩ := r.getLO ho e0
    refine ⟨.ref l, hl, l, xs, rfl, .inl ⟨.inl (.inl hH), fun p hp => h _ _ (r.laid hp _) ⟨p, xs, rfl, .inl upd_same, ?_⟩ (.of_same (same_new hp _))⟩⟩
    exact IsL.ext (Ext.of_same (same_new hp _)) (fun _ h _ => h) il
def dixO (i : Nat) (g : M D) : M D := fun ρ => match getL i ρ with
  | none => .bad
  | some _ => (bnd g fun k ρ => match k, getL i ρ with
    | .int n, some ds => match atI ds n with
      | some d => .ok (d, ρ)
      | none => .bad
    | _, _ => .bad) ρ
theorem de_ixO {i : Nat} {x : Str} {p1 : Pos} {g : M D} (hb : DE X c b g) (hs : PlainIx b := by intro _ _; rfl) (ho : i ∈ c.O := by exact of_decide_eq_true rfl) (hN : X.N[i]? = some x := by rfl) (hv : Vis X.env.scope x := by first | exact Or.inl rfl | exact Or.inr (Or.inl rfl) | exact Or.inr (Or.inr rfl)) (hd : (x == ("__debug__" : Str)) = false := by decide) (hcd : (x == ("__classdict__" : Str)) = false := by decide) :
    DE X c (.Subscript (.Name x p1) b pos) (dixO i g) := by
  obtain ⟨tb, pb, wb⟩ := hb
  refine ⟨_, pe_ix ix_list (pe_var hN hv hd hcd) pb hs, fun ρ σ H Q r h => ?_⟩
  unfold dixO at h
  cases e0 : getL i ρ with
  | none => simp only [e0] at h; exact h.elim
  | some ds0 =>
    simp only [e0] at h
    obtain ⟨l, xs0, _, hl, hH, _⟩ := r.getLO ho e0
    refine ⟨.ref l, hl, wb ρ σ H _ r (Wp.bnd h fun k ρ1 v H1 r1 i1 g1 h1 => ?_)⟩
    cases k with
    | int n =>
      cases e1 : getL i ρ1 with
      | none => simp only [e1] at h1; exact h1.elim
      | some ds =>
        simp only [e1] at h1
        cases e2 : atI ds n with
        | none => simp only [e2] at h1; exact h1.elim
        | some d =>
          simp only [e2] at h1
          obtain ⟨l', xs, him, hl', hH', il⟩ := r1.getLO ho e1
          rw [hl] at hl'
          cases hl'
          cases i1
          obtain ⟨w, h3, h4⟩ := il.atI e2
          exact ⟨l, xs, n, w, rfl, rfl, .inl (.inl hH'), h3, h1 w H1 r1 h4 .refl⟩
    | _ => exact h1.elim
end
def cfn (O P : List Nat) (A : Addr → Prop) (H : Hp) (Io : Addr → Prop) (E : Exn → Hp → Prop) (S : Nat → Option (Option V)) : Fc where
  O := O
  P := P
  B := fun a => A a ∨ H a = none
  H0 := H
  Io := Io
  E := E
  S := S
def envOf (n : Nat) (ds : List D) : Env := ds.map some ++ List.replicate (n - ds.length) none
def spD (K : Fr0) (F : List D → R D) : Sp := fun vs H Q _ => ∃ ds A, IsL K A H ds vs ∧ (∀ a, A a → True) ∧ match F ds with
  | .ok d => ∀ v H', Same H H' → Is K (fun a => A a ∨ H a = none) H' d v → Q v H'
  | _ => False
def spIO (K : Fr0) (F : List D → List D → R (D × List D)) : Sp := fun vs H Q _ => ∃ (bs ds : List D) (A : Addr → Prop) (a : Addr) (xs vs' : List V), vs = .ref a :: vs' ∧ H a = some (.lst xs) ∧ True ∧ IsL K A H bs xs ∧ ¬ A a ∧ IsL K A H ds vs' ∧ match F bs ds with
  | .ok (d, bs') => ∀ v H' xs', (∀ b o, b ≠ a → H b = some o → H' b = some o) → (∀ b, H' b = none → H b = none) → H' a = some (.lst xs') → True → IsL K (fun b => A b ∨ H b = none) H' bs' xs' → Is K (fun b => A b ∨ H b = none) H' d v → Q v H'
  | _ => False
def dfn (n p : Nat) (body : MS) (ds : List D) : R D := if ds.length = p then match body (envOf n ds) with
  | .ok (.rt d _) => .ok d
  | .ok (.nx _) => .ok .non
  | _ => .bad else .bad
def dfnIO (n p : Nat) (body : MS) (bs ds : List D) : R (D × List D) := if ds.length + 1 = p then match body (envOf n (.lst bs :: ds)) with
  | .ok (.rt d ρ) => match getL 0 ρ with
    | some bs' => .ok (d, bs')
    | none => .bad
  | .ok (.nx ρ) => match getL 0 ρ with
    | some bs' => .ok (.non, bs')
    | none => .bad
  | _ => .bad else .bad
theorem start_get {N : List Str} {vs : List V} {i : Nat} {v : V} (h : (start N vs)[i]? = some (some v)) : vs[i]? = some v := by
  unfold start at h
  by_cases hi : i < vs.length
  · rw [List.getElem?_append_left (by simpa using hi), List.getElem?_map] at h
    cases e : vs[i]? with
    | none => rw [e] at h; cases h
    | some w => rw [e] at h; cases h; rfl
  · rw [List.getElem?_append_right (by simpa using hi), List.getElem?_replicate] at h
    split at h <;> cases h
theorem start_of {N : List Str} {vs : List V} {i : Nat} {v : V} (h : vs[i]? = some v) : (start N vs)[i]? = some (some v) := by
  unfold start
  have hi : i < vs.length := (List.getElem?_eq_some_iff.mp h).1
  rw [List.getElem?_append_left (by simpa using hi), List.getElem?_map, h]; rfl
theorem envOf_get {n : Nat} {ds : List D} {i : Nat} {d : D} (h : (envOf n ds)[i]? = some (some d)) : ds[i]? = some d := by
  unfold envOf at h
  by_cases hi : i < ds.length
  · rw [List.getElem?_append_left (by simpa using hi), List.getElem?_map] at h
    cases e : ds[i]? with
    | none => rw [e] at h; cases h
    | some w => rw [e] at h; cases h; rfl
  · rw [List.getElem?_append_right (by simpa using hi), List.getElem?_replicate] at h
    split at h <;> cases h
theorem rep_start {K : Fr0} {N : List Str} {O : List Nat} {A : Addr → Prop} {H : Hp} {E : Exn → Hp → Prop} {ds : List D} {vs : List V} (il : IsL K A H ds vs) (hO : ∀ i ∈ O, ds.length ≤ i) :
    Rep K (cfn O [] A H (fun _ => False) E fun _ => none) (envOf N.length ds) (start N vs) H where
  len := by unfold envOf start; simp [il.length]
  val := fun i d h => by
    have h1 := envOf_get h
    obtain ⟨v, h2, h3⟩ := il.get h1
    have hi : i ∉ O := fun z => by
      have := (List.getElem?_eq_some_iff.mp h1).1
      have := hO i z
      omega
    refine ⟨v, start_of h2, .inr ⟨hi, Is.ext Ext.refl (fun a ha _ => ⟨.inl ha, fun j hj e => ?_⟩) h3⟩⟩
    have := (List.getElem?_eq_some_iff.mp (start_get e)).1
    have := hO j hj
    rw [il.length] at *
    omega
  own := fun j hj v h => by
    have := (List.getElem?_eq_some_iff.mp (start_get h)).1
    have := hO j hj
    rw [il.length] at *
    omega
  inj := fun i j a hi hj h1 h2 => by
    have := (List.getElem?_eq_some_iff.mp (start_get h1)).1
    have := hO i hi
    rw [il.length] at *
    omega
  b0 := fun a h => .inr h
  kp := fun b o h _ => h
  dm := fun b h => h
  pO := fun j hj => by cases hj
  ps := fun j hj => by cases hj
section
variable {P : Program} {w : World} {K : PySem.W.Frag} {mg : Str → Option Value} {base : Heap}
theorem fn_pure {x qual : Str} {st : Stmt} {f : Addr} {fd : FuncData} {N ps : List Str} {k : Nat} {O : List Nat} {body : MS} (F : Fun K x qual st f fd) (S : FnScope N ps (defScope st)) (hO : ∀ i ∈ O, ps.length ≤ i)
    (hb : ∀ (cdv : Value) (A : Around) (outer : List PySem.Env) (s : Shared) (H : Hp) (E : XK) (B : Addr → Prop), Room k (A.deeper (envOfC qual (defScope st) s.heap.objs.size f cdv)) →
      DSs (cxOf CX0 P w K mg base N qual (defScope st) f cdv A outer s H E).nox (cfn O [] B H (fun _ => False) (fun _ _ => False) fun _ => none) (defBody st) body) :
    FnOk P w K mg base CX0 (k + 1) f fd ps (spD K (dfn N.length ps.length body)) := by
  refine F.ok S (fun vs H Q E h => ?_) (fun cdv A outer s H vs Q E hr h => ?_)
  · obtain ⟨ds, B, il, _, h⟩ := h
    unfold dfn at h
    by_cases e : ds.length = ps.length
    · rw [il.length]; exact e
    · rw [if_neg e] at h; exact h.elim
  · obtain ⟨ds, B, il, _, h⟩ := h
    obtain ⟨t, p, wt⟩ := hb cdv A outer s H E B hr
    refine ⟨t, p, ?_⟩
    unfold dfn at h
    by_cases e : ds.length = ps.length
    · rw [if_pos e] at h
      refine wt (envOf N.length ds) (start N vs) H _ (rep_start il (fun i hi => by rw [e]; exact hO i hi)) ?_
      have same : ∀ {ρ : Env} {σ : St} {H' : Hp}, Rep K (cfn O [] B H (fun _ => False) (fun _ _ => False) fun _ => none) ρ σ H' → Same H H' := fun r b o hb => r.kp b o hb fun z => z
      cases eb : body (envOf N.length ds) with
      | bad => rw [eb] at h; exact h.elim
      | exc z ρ => rw [eb] at h; exact h.elim
      | ok fl =>
        rw [eb] at h
        cases fl with
        | nx ρ => exact fun σ' H' r' _ => h .non H' (same r') rfl
        | rt d ρ => exact fun v σ' H' r' i' _ => h v H' (same r') i'
        | bk ρ => exact h.elim
        | ct ρ => exact h.elim
    · rw [if_neg e] at h; exact h.elim
theorem fn_io {x qual : Str} {st : Stmt} {f : Addr} {fd : FuncData} {N ps : List Str} {k : Nat} {O : List Nat} {body : MS} (F : Fun K x qual st f fd) (S : FnScope N ps (defScope st)) (hO : ∀ i ∈ O, i = 0 ∨ ps.length ≤ i) (h0 : 0 ∈ O)
    (hb : ∀ (cdv : Value) (A : Around) (outer : List PySem.Env) (s : Shared) (H : Hp) (E : XK) (B Io : Addr → Prop) (S : Nat → Option (Option V)), Room k (A.deeper (envOfC qual (defScope st) s.heap.objs.size f cdv)) →
      DSs (cxOf CX0 P w K mg base N qual (defScope st) f cdv A outer s H E).nox (cfn O [0] B H Io (fun _ _ => False) S) (defBody st) body) :
    FnOk P w K mg base CX0 (k + 1) f fd ps (spIO K (dfnIO N.length ps.length body)) := by
  refine F.ok S (fun vs H Q E h => ?_) (fun cdv A outer s H vs Q E hr h => ?_)
  · obtain ⟨bs, ds, B, a, xs, vs', rfl, ha, him, ib, nA, il, h⟩ := h
    unfold dfnIO at h
    by_cases e : ds.length + 1 = ps.length
    · rw [List.length_cons, il.length]; exact e
    · rw [if_neg e] at h; exact h.elim
  · obtain ⟨bs, ds, B, a, xs, vs', rfl, ha, him, ib, nA, il, h⟩ := h
    obtain ⟨t, p, wt⟩ := hb cdv A outer s H E B (fun b => b = a) (fun j => (start N (.ref a :: vs'))[j]?) hr
    refine ⟨t, p, ?_⟩
    unfold dfnIO at h
    by_cases e : ds.length + 1 = ps.length
    · rw [if_pos e] at h
      have only : ∀ j ∈ O, ∀ v, (start N (.ref a :: vs'))[j]? = some (some v) → j = 0 ∧ v = .ref a := fun j hj v hv => by
        have h1 := start_get hv
        rcases hO j hj with z | z
        · subst z; cases h1; exact ⟨rfl, rfl⟩
        · have := (List.getElem?_eq_some_iff.mp h1).1
          rw [List.length_cons, il.length] at this
          omega
      have r0 : Rep K (cfn O [0] B H (fun b => b = a) (fun _ _ => False) fun j => (start N (.ref a :: vs'))[j]?) (envOf N.length (.lst bs :: ds)) (start N (.ref a :: vs')) H := by
        refine ⟨by unfold envOf start; simp [il.length], fun i d hd => ?_, fun j hj v hv => ?_, fun i j b hi hj h1 h2 => ?_, fun b hb => .inr hb, fun b o hb _ => hb, fun b hb => hb, fun j hj => ?_, fun _ _ => rfl⟩
        · have h1 := envOf_get hd
          cases i with
          | zero =>
            cases h1
            exact ⟨.ref a, start_of rfl, .inl ⟨h0, bs, a, xs, rfl, rfl, ha, IsL.ext Ext.refl (fun b hb _ => ⟨.inl hb, fun j hj e2 => by obtain ⟨_, e3⟩ := only j hj _ e2; cases e3; exact nA hb⟩) ib⟩⟩
          | succ i =>
            have h1' : ds[i]? = some d := by simpa using h1
            obtain ⟨v, h2, h3⟩ := il.get h1'
            have hi : i + 1 ∉ O := fun z => by
              have h4 := (List.getElem?_eq_some_iff.mp h1').1
              rcases hO _ z with q | q
              · cases q
              · omega
            refine ⟨v, start_of (by simpa using h2), .inr ⟨hi, Is.ext Ext.refl (fun b hb _ => ⟨.inl hb, fun j hj e2 => ?_⟩) h3⟩⟩
            obtain ⟨_, e3⟩ := only j hj _ e2
            cases e3
            exact nA hb
        · obtain ⟨rfl, rfl⟩ := only j hj v hv
          exact ⟨a, xs, rfl, ha, .inr ⟨by simp [cfn], rfl⟩⟩
        · rw [(only i hi _ h1).1, (only j hj _ h2).1]
        · have : j = 0 := by simpa [cfn] using hj
          rw [this]; exact h0
      refine wt _ _ H _ r0 ?_
      have fin : ∀ {ρ : Env} {σ : St} {H' : Hp} {bs' : List D}, Rep K (cfn O [0] B H (fun b => b = a) (fun _ _ => False) fun j => (start N (.ref a :: vs'))[j]?) ρ σ H' → getL 0 ρ = some bs' →
          ∃ xs', H' a = some (.lst xs') ∧ True ∧ IsL K (fun b => B b ∨ H b = none) H' bs' xs' := fun {ρ σ H' bs'} r e1 => by
        obtain ⟨l, ys, h1, h2, h3, h4⟩ := r.getLO h0 e1
        have h5 := r.ps 0 (by simp [cfn])
        have h6 : (cfn O [0] B H (fun b => b = a) (fun _ _ => False) fun j => (start N (.ref a :: vs'))[j]?).S 0 = some (some (.ref a)) := start_of rfl
        rw [h2, h6] at h5
        cases h5
        exact ⟨ys, h3, h1, IsL.ext Ext.refl (fun b hb _ => hb.1) h4⟩
      have kps : ∀ {ρ : Env} {σ : St} {H' : Hp}, Rep K (cfn O [0] B H (fun b => b = a) (fun _ _ => False) fun j => (start N (.ref a :: vs'))[j]?) ρ σ H' → ∀ b o, b ≠ a → H b = some o → H' b = some o := fun r b o hb ho => r.kp b o ho hb
      cases eb : body (envOf N.length (.lst bs :: ds)) with
      | bad => rw [eb] at h; exact h.elim
      | exc z ρ => rw [eb] at h; exact h.elim
      | ok fl =>
        rw [eb] at h
        cases fl with
        | nx ρ =>
          cases eg : getL 0 ρ with
          | none => simp only [eg] at h
          | some bs' =>
            simp only [eg] at h
            exact fun σ' H' r' _ => by
              obtain ⟨xs', h1, h2, h3⟩ := fin r' eg
              exact h .non H' xs' (kps r') (fun b hb => r'.dm b hb) h1 h2 h3 rfl
        | rt d ρ =>
          cases eg : getL 0 ρ with
          | none => simp only [eg] at h
          | some bs' =>
            simp only [eg] at h
            exact fun v σ' H' r' i' _ => by
              obtain ⟨xs', h1, h2, h3⟩ := fin r' eg
              exact h v H' xs' (kps r') (fun b hb => r'.dm b hb) h1 h2 h3 i'
        | bk ρ => exact h.elim
        | ct ρ => exact h.elim
    · rw [if_neg e] at h; exact h.elim
end
section
variable {X : Cx} {c : Fc} {a b e : Expr} {pos : Pos}
def dcallF (F : List D → R D) (g : M (List D)) : M D := bnd g fun ds ρ => match F ds with
  | .ok d => .ok (d, ρ)
  | _ => .bad
theorem de_call {k : Nat} {f : Addr} {fd : FuncData} {ps : List Str} {F : List D → R D} {x : Str} {p : Pos} {es : List Expr} {g : M (List D)} (G : FnOk X.prog X.w X.K X.mg X.base CX0 k f fd ps (spD X.K F)) (hr : Room k X.A) (hg : Gl X x) (hm : X.mg x = some (.ref f)) (hk : PySem.W.keepIn X.K (.ref f) = true) (hb : Binds X.K fd ps [])
    (ha : DA X c (e :: es) g) (hd : (x == ("__debug__" : Str)) = false := by decide) (he : starEach (e :: es) X.env = (false, eval e X.env) :: starEach es X.env := by rfl) (hpl : (backTo pos (starEach es X.env)).any (·.1) = false := by rfl) : DE X c (.Call (.Name x p) (e :: es) [] pos) (dcallF F g) := by
  obtain ⟨t, pa, w⟩ := ha
  refine ⟨_, pe_call G hr hg hm hk hb .nil pass0 pa hd he hpl, fun ρ σ H Q r h => w ρ σ H _ r (WpL.bnd h fun ds ρ1 vs H1 r1 i1 g1 h1 => ?_)⟩
  rw [List.append_nil]
  refine ⟨ds, Cn c σ, i1, fun _ _ => trivial, ?_⟩
  cases ef : F ds with
  | bad => simp only [ef] at h1; exact h1.elim
  | exc z ρ' => simp only [ef] at h1; exact h1.elim
  | ok d =>
    simp only [ef] at h1
    exact fun v H' sm i => h1 v H' (r1.same sm) (Is.ext Ext.refl (fun a ha _ => ha.elim id r1.new) i) (.of_same sm)
def dcallIO (F : List D → List D → R (D × List D)) (i : Nat) (g : M (List D)) : M D := fun ρ => match getL i ρ with
  | none => .bad
  | some _ => (bnd g fun ds ρ => match getL i ρ with
    | none => .bad
    | some bs => match F bs ds with
      | .ok (d, bs') => .ok (d, ρ.set i (some (.lst bs')))
      | _ => .bad) ρ
theorem de_callIO {k i : Nat} {f : Addr} {fd : FuncData} {ps : List Str} {F : List D → List D → R (D × List D)} {x y : Str} {p p1 : Pos} {es : List Expr} {g : M (List D)} (G : FnOk X.prog X.w X.K X.mg X.base CX0 k f fd ps (spIO X.K F)) (hr : Room k X.A) (hg : Gl X x) (hm : X.mg x = some (.ref f)) (hk : PySem.W.keepIn X.K (.ref f) = true) (hb : Binds X.K fd ps [])
    (ha : DA X c es g) (ho : i ∈ c.O := by exact of_decide_eq_true rfl) (hN : X.N[i]? = some y := by rfl) (hv : Vis X.env.scope y := by first | exact Or.inl rfl | exact Or.inr (Or.inl rfl) | exact Or.inr (Or.inr rfl)) (hdy : (y == ("__debug__" : Str)) = false := by decide) (hcd : (y == ("__classdict__" : Str)) = false := by decide)
    (hd : (x == ("__debug__" : Str)) = false := by decide) (he : starEach (.Name y p1 :: es) X.env = (false, eval (.Name y p1) X.env) :: starEach es X.env := by rfl) (hpl : (backTo pos (starEach es X.env)).any (·.1) = false := by rfl) : DE X c (.Call (.Name x p) (.Name y p1 :: es) [] pos) (dcallIO F i g) := by
  obtain ⟨t, pa, w⟩ := ha
  refine ⟨_, pe_call G hr hg hm hk hb .nil pass0 (pa_cons (pe_var hN hv hdy hcd) pa he) hd he hpl, fun ρ σ H Q r h => ?_⟩
  unfold dcallIO at h
  cases e0 : getL i ρ with
  | none => simp only [e0] at h; exact h.elim
  | some ds0 =>
    simp only [e0] at h
    obtain ⟨l, xs0, _, hl, hH, _⟩ := r.getLO ho e0
    refine ⟨.ref l, hl, w ρ σ H _ r (WpL.bnd h fun ds ρ1 vs H1 r1 i1 g1 h1 => ?_)⟩
    show spIO X.K F (.ref l :: vs ++ []) H1 Q E0
    rw [List.append_nil]
    cases e1 : getL i ρ1 with
    | none => simp only [e1] at h1; exact h1.elim
    | some bs =>
      simp only [e1] at h1
      obtain ⟨l', xs, him, hl', hH', il⟩ := r1.getLO ho e1
      rw [hl] at hl'
      cases hl'
      refine ⟨bs, ds, Cn c σ, l, xs, vs, rfl, hH', him, il, fun hc => hc.2 i ho hl, i1, ?_⟩
      cases ef : F bs ds with
      | bad => simp only [ef] at h1; exact h1.elim
      | exc z ρ' => simp only [ef] at h1; exact h1.elim
      | ok q =>
        obtain ⟨d, bs'⟩ := q
        simp only [ef] at h1
        intro v H' xs' kp dm ha2 him2 il2 i2
        obtain ⟨r2, g2⟩ := r1.io (bs := bs') ho hl kp ha2 him2 (IsL.ext Ext.refl (fun a ha _ => ha.elim id r1.new) il2) dm
        exact h1 v H' r2 (Is.ext Ext.refl (fun a ha _ => ha.elim id r1.new) i2) g2
end
end L2.Sk
set_option Elab.async false
set_option linter.all false
set_option maxRecDepth 100000
namespace L2.Sk
open PySem PySem.Spec PyProof.Rows
def keyPD : Key → PyData
  | .inl i => .int i
  | .inr x => .str x
mutual
def toPD : D → PyData
  | .non => .none
  | .bl b => .bool b
  | .int i => .int i
  | .str x => .str x
  | .tup ds => .tuple (toPDs ds)
  | .lst ds => .list (toPDs ds)
  | .dic kvs => .dict (kvs.map fun p => (keyPD p.1, .int p.2))
  | .fz ns => .list (ns.map .int)
  | .exc _ => .dict [(.int (2 ^ 2000), .none)]
def toPDs : List D → List PyData
  | [] => []
  | d :: ds => toPD d :: toPDs ds
end
mutual
def noL : D → Bool
  | .tup ds => noLs ds
  | .lst _ => false
  | .fz _ => false
  | _ => true
def noLs : List D → Bool
  | [] => true
  | d :: ds => noL d && noLs ds
end
mutual
def noX : D → Bool
  | .tup ds => noXs ds
  | .lst ds => noXs ds
  | .exc _ => false
  | _ => true
def noXs : List D → Bool
  | [] => true
  | d :: ds => noX d && noXs ds
end
mutual
theorem noX_lay : ∀ {d : D}, (toPD d).canLay0 = true → noX d = true
  | .non, _ => rfl
  | .bl _, _ => rfl
  | .int _, _ => rfl
  | .str _, _ => rfl
  | .tup ds, h => by unfold noX; exact noXs_lay (by simpa [toPD, PyData.canLay0] using h)
  | .lst ds, h => by unfold noX; exact noXs_lay (by simpa [toPD, PyData.canLay0] using h)
  | .dic _, _ => rfl
  | .fz _, _ => rfl
  | .exc _, h => by simp [toPD, PyData.canLay0] at h
theorem noXs_lay : ∀ {ds : List D}, PyData.canLayAll0 (toPDs ds) = true → noXs ds = true
  | [], _ => rfl
  | d :: ds, h => by
    have h' : (toPD d).canLay0 = true ∧ PyData.canLayAll0 (toPDs ds) = true := by simpa [toPDs, PyData.canLayAll0] using h
    unfold noXs
    rw [noX_lay h'.1, noXs_lay h'.2]; rfl
end
theorem readsAll_ints {h : Heap} : ∀ {ns : List Int} {us : List Value}, Vals (ns.map V.int) us → ∃ as, ReadsAll h us (ns.map .int) as
  | [], us, r => by
    rw [List.map_nil] at r; cases r; exact ⟨[], .nil⟩
  | n :: ns, us, r => by
    rw [List.map_cons] at r
    cases r with
    | cons r1 r2 =>
      obtain ⟨t, e⟩ := r1
      subst e
      obtain ⟨as, q⟩ := readsAll_ints (ns := ns) r2
      exact ⟨[] ++ as, .cons (.int n t) q⟩
theorem not_mem_app {α : Type} {x : α} {l l' : List α} (h1 : x ∉ l) (h2 : x ∉ l') : x ∉ l ++ l' := fun h => (List.mem_append.mp h).elim h1 h2
theorem pairs_reads {P : Program} {w : World} {h : Heap} : ∀ {kvs : List (Key × Int)} {es : List DictEntry} {vs : List (Key × Value)}, KV (kvs.map fun p => (p.1, V.int p.2)) vs → Pairs (mixKind P w) es vs →
    ReadsAll h (es.map (·.key)) ((kvs.map fun p => (keyPD p.1, PyData.int p.2)).map (·.1)) [] ∧ ReadsAll h (es.map (·.val)) ((kvs.map fun p => (keyPD p.1, PyData.int p.2)).map (·.2)) []
  | [], es, vs, r, p => by
    have r' : KV ([] : List (Key × V)) vs := r
    unfold KV at r'
    cases r'
    cases p
    exact ⟨.nil, .nil⟩
  | (k, i) :: kvs, es, vs, r, p => by
    have r' : KV ((k, V.int i) :: kvs.map fun p => (p.1, V.int p.2)) vs := r
    unfold KV at r'
    cases r' with
    | cons r1 r2 =>
      cases p with
      | cons p1 p2 p3 =>
        obtain ⟨q1, q2⟩ := pairs_reads (h := h) (kvs := kvs) r2 p3
        obtain ⟨e1, t, e2⟩ := r1
        have hk : ∀ {e : DictEntry} {kv : Key × Value}, k = kv.1 → (mixKind P w).is kv.1 e.key = true → Reads h e.key (keyPD k) [] := fun {e kv} hk hi => by
          subst hk
          rcases keyIs_shape hi with ⟨i, t, e1, e2⟩ | ⟨x, t, e1, e2⟩
          · rw [e1, e2]; exact .int i t
          · rw [e1, e2]; exact .str x t
        refine ⟨.cons (as := []) (bs := []) (hk e1 p1) q1, .cons (as := []) (bs := []) ?_ q2⟩
        show Reads h _ (.int i) []
        dsimp only
        rw [p2, e2]
        exact .int i t
section
variable {X : Cx} {pins : List (Addr × Obj)} {σ : St} {H : Hp} {s : Shared} {A : Addr → Prop}
mutual
theorem reads_of (I : Inv X pins σ H s) : ∀ {d : D} {v : V} {u : Value}, noX d = true → Is X.K A H d v → RelV v u → ∃ as, Reads s.heap u (toPD d) as ∧ (noL d = true → sysModules ∉ as)
  | .non, _, _, _, h, r => by cases h; cases r; exact ⟨[], .none, by simp⟩
  | .bl b, _, _, _, h, r => by cases h; cases r; exact ⟨[], .bool b, by simp⟩
  | .int i, _, _, _, h, r => by cases h; obtain ⟨t, rfl⟩ := r; exact ⟨[], .int i t, by simp⟩
  | .str x, _, _, _, h, r => by cases h; obtain ⟨t, rfl⟩ := r; exact ⟨[], .str x t, by simp⟩
  | .tup ds, _, _, nx, ⟨a, xs, hv, ta, il⟩, r => by
    subst hv
    cases r
    obtain ⟨its, rv, p, _⟩ := I.tuple ta.sq
    obtain ⟨o, h1, h2, n, h3⟩ := p
    obtain ⟨as, q, nl⟩ := readsL_of I (by simpa [noX] using nx) il rv
    exact ⟨as, .tuple h1 h2 h3 (by simpa using q), fun z => nl (by simpa [noL] using z)⟩
  | .lst ds, _, _, nx, ⟨a, xs, hv, _, ta, il⟩, r => by
    subst hv
    cases r
    obtain ⟨its, rv, p, _⟩ := I.list (SqL.of ta)
    obtain ⟨o, h1, h2, n, h3⟩ := p.isList
    obtain ⟨as, q, nl⟩ := readsL_of I (by simpa [noX] using nx) il rv
    exact ⟨a :: as, .list h1 h2 h3 (by simpa using q), fun z => by simp [noL] at z⟩
  | .dic kvs, _, _, _, ⟨a, hv, _, ta⟩, r => by
    subst hv
    cases r
    obtain ⟨hz, hS, vs, rk, o, es, ep, h1, h2, h3, h4, h5, h6⟩ := (show ObjOk X.prog X.w H s.heap a (.dK _) from I.hok a _ ta)
    obtain ⟨q1, q2⟩ := pairs_reads (h := s.heap) rk h5
    refine ⟨_, Reads.dict (as := []) (bs := []) h1 h2.1 h3 q1 q2, fun _ hm => ?_⟩
    have : sysModules = a := by simpa using hm
    rw [← this] at hS
    simp at hS
  | .exc _, _, _, nx, _, _ => by simp [noX] at nx
  | .fz ns, _, _, _, ⟨a, hv, ta⟩, r => by
    subst hv
    cases r
    obtain ⟨its, rv, p, _⟩ := I.list ta.sq
    obtain ⟨o, h1, h2, n, h3⟩ := p.isList
    obtain ⟨as, q⟩ := readsAll_ints rv
    exact ⟨a :: as, .list h1 h2 h3 (by simpa using q), fun z => by simp [noL] at z⟩
theorem readsL_of (I : Inv X pins σ H s) : ∀ {ds : List D} {xs : List V} {us : List Value}, noXs ds = true → IsL X.K A H ds xs → Vals xs us → ∃ as, ReadsAll s.heap us (toPDs ds) as ∧ (noLs ds = true → sysModules ∉ as)
  | [], _, _, _, h, r => by cases h; cases r; exact ⟨[], .nil, by simp⟩
  | d :: ds, _, _, nx, ⟨x, ys, hx, h1, h2⟩, r => by
    subst hx
    cases r with
    | cons r1 r2 =>
      have nx' : noX d = true ∧ noXs ds = true := by simpa [noXs] using nx
      obtain ⟨as, q1, n1⟩ := reads_of I nx'.1 h1 r1
      obtain ⟨bs, q2, n2⟩ := readsL_of I nx'.2 h2 r2
      exact ⟨as ++ bs, .cons q1 q2, fun z => by
        have z' : noL d = true ∧ noLs ds = true := by simpa [noLs] using z
        exact not_mem_app (n1 z'.1) (n2 z'.2)⟩
end
end
def reprOk (d : D) : Bool := (toPD d).showable && decide ((toPD d).shown.length ≤ sizeLine) && decide ((toPD d).depth ≤ 50) && (!(toPD d).hasDict || noL d)
section
variable {X : Cx}
end
def reprD : List D → Option D
  | [d] => if reprOk d then some (.str (toPD d).shown) else none
  | _ => none
def eqOk (d : D) : Bool := (toPD d).canLay0 && decide ((toPD d).depth ≤ 50)
def rEqA (K : Fr0) (neg : Bool) : R2 := fun x y H Q => ∃ d e A, Is K A H d x ∧ Is K A H e y ∧ eqOk d = true ∧ eqOk e = true ∧ Q (.bl (if neg then !PyData.eqv (toPD d) (toPD e) else PyData.eqv (toPD d) (toPD e))) H
section
variable {X : Cx}
theorem eqOk_of {d : D} (h : eqOk d = true) : SeqAt.shaped (toPD d) = true := by
  unfold eqOk at h
  unfold SeqAt.shaped
  simp only [Bool.and_eq_true, decide_eq_true_eq] at h ⊢
  exact ⟨h.1, by omega⟩
theorem eqOk_x {d : D} (h : eqOk d = true) : noX d = true := by
  unfold eqOk at h
  rw [Bool.and_eq_true] at h
  exact noX_lay h.1
theorem op_eqA {k : Nat} (hr : Room k X.A) : OpR X (compareOp .Eq) (rEqA X.K false) := by
  intro pins s σ H x y v u Q I rx ry h
  obtain ⟨d, e, A, h1, h2, o1, o2, q⟩ := h
  obtain ⟨as, r1, _⟩ := reads_of I (eqOk_x o1) h1 rx
  obtain ⟨bs, r2, _⟩ := reads_of I (eqOk_x o2) h2 ry
  exact SeqAt.compareEq_shaped r1 r2 (eqOk_of o1) (eqOk_of o2) hr.units ⟨.bl _, H, I, rfl, by simpa using q⟩
theorem op_neA {k : Nat} (hr : Room k X.A) : OpR X (compareOp .NotEq) (rEqA X.K true) := by
  intro pins s σ H x y v u Q I rx ry h
  obtain ⟨d, e, A, h1, h2, o1, o2, q⟩ := h
  obtain ⟨as, r1, _⟩ := reads_of I (eqOk_x o1) h1 rx
  obtain ⟨bs, r2, _⟩ := reads_of I (eqOk_x o2) h2 ry
  exact SeqAt.compareNe_shaped r1 r2 (eqOk_of o1) (eqOk_of o2) hr.units ⟨.bl _, H, I, rfl, by simpa using q⟩
end
def eqA (x y : D) : Option D := if eqOk x && eqOk y then some (.bl (PyData.eqv (toPD x) (toPD y))) else none
def neA (x y : D) : Option D := if eqOk x && eqOk y then some (.bl (!PyData.eqv (toPD x) (toPD y))) else none
theorem ops_eqA {K : Fr0} : OpS K eqA (rEqA K false) := by
  intro A H x y d v u Q hn ix iy e k
  obtain ⟨e1, e2⟩ := if_some e
  rw [Bool.and_eq_true] at e1
  subst e2
  exact ⟨x, y, A, ix, iy, e1.1, e1.2, k _ H (Same.refl H) rfl⟩
theorem ops_neA {K : Fr0} : OpS K neA (rEqA K true) := by
  intro A H x y d v u Q hn ix iy e k
  obtain ⟨e1, e2⟩ := if_some e
  rw [Bool.and_eq_true] at e1
  subst e2
  exact ⟨x, y, A, ix, iy, e1.1, e1.2, k _ H (Same.refl H) rfl⟩
section
variable {X : Cx} {c : Fc} {a b e : Expr} {pos : Pos}
def dneO (i : Nat) (g : M D) : M D := fun ρ => match getL i ρ with
  | none => .bad
  | some _ => (bnd g fun y ρ => match getL i ρ with
    | none => .bad
    | some ds => lift (neA (.lst ds) y) ρ) ρ
theorem dt_neO {i k : Nat} {x : Str} {p1 : Pos} {g : M D} (hr : Room k X.A) (hb : DE X c b g) (ho : i ∈ c.O := by exact of_decide_eq_true rfl) (hN : X.N[i]? = some x := by rfl) (hv : Vis X.env.scope x := by first | exact Or.inl rfl | exact Or.inr (Or.inl rfl) | exact Or.inr (Or.inr rfl)) (hd : (x == ("__debug__" : Str)) = false := by decide) (hcd : (x == ("__classdict__" : Str)) = false := by decide) :
    DT X c (.Compare (.Name x p1) [.NotEq] [b] pos) (tst (dneO i g)) := by
  obtain ⟨tb, pb, wb⟩ := hb
  refine ⟨_, pt_cmpR (op_neA hr) (pe_var hN hv hd hcd) pb (nomark _), fun ρ σ H Q r h => ?_⟩
  unfold tst dneO bnd at h
  cases e0 : getL i ρ with
  | none => simp only [e0] at h; exact h.elim
  | some ds0 =>
    simp only [e0] at h
    obtain ⟨l, xs0, _, hl, hH, _⟩ := r.getLO ho e0
    refine ⟨.ref l, hl, wb ρ σ H _ r ?_⟩
    cases eg : g ρ with
    | bad => simp only [eg] at h; exact h
    | exc z ρ' => simp only [eg] at h; exact h
    | ok q =>
      obtain ⟨y, ρ1⟩ := q
      simp only [eg] at h
      intro u H1 r1 i1 g1
      cases e1 : getL i ρ1 with
      | none => simp only [e1] at h; exact h.elim
      | some ds =>
        simp only [e1] at h
        cases en : neA (.lst ds) y with
        | none => simp only [en, lift] at h; exact h.elim
        | some d =>
          simp only [en, lift, ret] at h
          obtain ⟨e3, e4⟩ := if_some en
          rw [Bool.and_eq_true] at e3
          subst e4
          obtain ⟨l', xs, him, hl', hH', il⟩ := r1.getLO ho e1
          rw [hl] at hl'
          cases hl'
          refine ⟨.lst ds, y, fun _ => True, ⟨l, xs, rfl, trivial, hH', IsL.ext Ext.refl (fun _ h _ => trivial) il⟩, Is.ext Ext.refl (fun _ _ _ => trivial) i1, e3.1, e3.2, _, rfl, ?_⟩
          exact h H1 r1 g1
end
end L2.Sk
set_option Elab.async false
set_option linter.all false
set_option maxRecDepth 100000
namespace L2.Sk
open PySem PySem.Spec PyProof.Rows
section
variable {prog : Program} {w : World} {A : Around} {E : Value → Shared → Prop} {s : Shared}
theorem tupNext {it tu : Addr} {k : Nat} {arr : Array Value} {x : Value} {Q : Value → Shared → Prop} (hI : s.heap.IsTupleIter it tu k) (hT : s.heap.IsTuple tu arr) (hx : arr[k]? = some x)
    (q : ∀ h', h'.IsTupleIter it tu (k + 1) → Heap.SameBut it s.heap h' → Q x { s with heap := h' }) : wpAny (model prog w) A (Builtin.SmallTypes.nextOf (.ref it)) Q E s := by
  obtain ⟨ob, e1, e2, e3⟩ := id hI
  obtain ⟨ot, f1, _, m, f2⟩ := hT
  unfold Builtin.SmallTypes.nextOf
  refine wpAny_bind (wpAny_callSpecial?_slot (name := Str.ofString "__next__") hI.typeIs F.slot_tuple_iterator_next (wpAny_call_entry F.slot_tuple_iterator_next hI.typeIs F.entry_tuple_iterator_next ?_ (F.args_tuple_iterator_next_1 _)))
  show wpAny (model prog w) _ (field (Value.ref it) 0 >>= _) _ _ s
  refine wpAny_bind (wpAny_field e1 e3 (x := Value.ref tu) rfl ?_)
  show wpAny (model prog w) _ (if (Value.ref tu == Value.none) = true then _ else _) _ _ s
  rw [if_neg (show ¬ ((Value.ref tu == Value.none) = true) from Bool.false_ne_true)]
  show wpAny (model prog w) _ (field (Value.ref it) 1 >>= _) _ _ s
  refine wpAny_bind (wpAny_field e1 e3 (x := Value.int k 0) rfl ?_)
  show wpAny (model prog w) _ (seqItems? (Value.ref tu) >>= _) _ _ s
  refine wpAny_bind (wpAny_seqItems f1 f2 ?_)
  simp only [Int.toNat_natCast, hx]
  refine wpAny_bind (wpAny_setField e1 e3 (by simp) (wpAny_pure ⟨x, rfl, wpAny_pure (q _ ?_ (Heap.SameBut.update ..))⟩))
  exact ⟨_, Heap.get?_update_self _ e1 (Obj.isFreed_of_fields (Obj.data_mapFields e3 _)), (Obj.cls_mapFields ..).trans e2, by rw [Obj.data_mapFields e3]; simp [rawInt]⟩
theorem tupStop {it tu : Addr} {k : Nat} {arr : Array Value} {Q : Value → Shared → Prop} (hh : A.handled = none) (hI : s.heap.IsTupleIter it tu k) (hT : s.heap.IsTuple tu arr) (hx : arr[k]? = none)
    (q : ∀ h' e, Heap.ExtBut it s.heap h' → (∃ o, h'.get? e = some o ∧ o.cls = .type "StopIteration") → E (.ref e) { s with heap := h' }) : wpAny (model prog w) A (Builtin.SmallTypes.nextOf (.ref it)) Q E s := by
  obtain ⟨ob, e1, e2, e3⟩ := id hI
  obtain ⟨ot, f1, _, m, f2⟩ := hT
  unfold Builtin.SmallTypes.nextOf
  refine wpAny_bind (wpAny_callSpecial?_slot (name := Str.ofString "__next__") hI.typeIs F.slot_tuple_iterator_next (wpAny_call_entry F.slot_tuple_iterator_next hI.typeIs F.entry_tuple_iterator_next ?_ (F.args_tuple_iterator_next_1 _)))
  show wpAny (model prog w) _ (field (Value.ref it) 0 >>= _) _ _ s
  refine wpAny_bind (wpAny_field e1 e3 (x := Value.ref tu) rfl ?_)
  show wpAny (model prog w) _ (if (Value.ref tu == Value.none) = true then _ else _) _ _ s
  rw [if_neg (show ¬ ((Value.ref tu == Value.none) = true) from Bool.false_ne_true)]
  show wpAny (model prog w) _ (field (Value.ref it) 1 >>= _) _ _ s
  refine wpAny_bind (wpAny_field e1 e3 (x := Value.int k 0) rfl ?_)
  show wpAny (model prog w) _ (seqItems? (Value.ref tu) >>= _) _ _ s
  refine wpAny_bind (wpAny_seqItems f1 f2 ?_)
  simp only [Int.toNat_natCast, hx]
  refine wpAny_bind (wpAny_rule (wpAny_bind (wpAny_setField e1 e3 (by simp) ?_)))
  show wpAny (model prog w) _ (newExc (Value.type "StopIteration") [] >>= _) _ _ _
  refine wpAny_bind ?_
  simp only [newExc, newTuple]
  refine wpAny_bind (wpAny_newObj_type ?_ (by size_fits))
  refine wpAny_bind (m := firstArgMember _ _) (wpAny_of_eq (a := Value.none) (by first | rfl | (simp only [firstArgMember]; rfl)) ?_)
  refine wpAny_newObj_type ?_ (by size_fits)
  simp only [raiseNew]
  refine wpAny_bind (wpAny_handled ?_)
  first | rw [show A.in1.handled = none from hh] | rw [hh]
  exact wpAny_bind (wpAny_pure (wpAny_throw (q _ _ (((Heap.SameBut.update ..).extBut.push _).push _) ⟨_, Heap.get?_push_size _ rfl, rfl⟩)))
end
theorem drawsTup {prog : Program} {w : World} {A : Around} (hh : A.handled = none) (it tu : Addr) (hne : tu ≠ it) (arr : Array Value) :
    Draws prog w A it [it, tu] arr.size (fun i x => arr[i]? = some x) (fun i h => h.IsTupleIter it tu i ∧ h.IsTuple tu arr) where
  live := fun i h st => by obtain ⟨⟨o, e, _⟩, _⟩ := st; exact ⟨o, e⟩
  frame := fun i h h' st k => by
    obtain ⟨h1, o, e, r⟩ := st
    exact ⟨h1.at fun o q => k it (by simp) o q, o, k tu (by simp) o e, r⟩
  item := fun i s Q E hi st q => tupNext st.1 st.2 (Array.getElem?_eq_getElem hi) fun h' h1 sb => q _ h' s.toks (Array.getElem?_eq_getElem hi) ⟨h1, by
    obtain ⟨o, e, r⟩ := st.2
    exact ⟨o, sb.extBut _ _ hne e, r⟩⟩ sb
  done := fun s Q E st q => tupStop hh st.1 st.2 (Array.getElem?_eq_none (Nat.le_refl _)) q
structure ZAp (z TI TO i1 i2 : Addr) (fp1 fp2 : List Addr) : Prop where
  zTI : z ≠ TI
  zTO : z ≠ TO
  zi1 : z ≠ i1
  zi2 : z ≠ i2
  IO : TI ≠ TO
  Ii1 : TI ≠ i1
  Ii2 : TI ≠ i2
  Oi1 : TO ≠ i1
  Oi2 : TO ≠ i2
  ii : i1 ≠ i2
  z1 : z ∉ fp1
  z2 : z ∉ fp2
  O1 : TO ∉ fp1
  O2 : TO ∉ fp2
  i21 : i2 ∉ fp1
  i12 : i1 ∉ fp2
section
variable {prog : Program} {w : World} {A : Around} {E : Value → Shared → Prop} {s : Shared} {z TI TO i1 i2 : Addr} {fp1 fp2 : List Addr} {n1 n2 k : Nat} {P1 P2 : Nat → Value → Prop} {S1 S2 : Nat → Heap → Prop}
theorem fr_same {fp : List Addr} {a : Addr} {h h' : Heap} (sb : Heap.SameBut a h h') (ha : a ∉ fp) : ∀ b ∈ fp, ∀ o, h.get? b = some o → h'.get? b = some o := fun b hb o e => sb.extBut _ _ (fun q => ha (q ▸ hb)) e
theorem zip_go (D1 : Draws prog w A i1 fp1 n1 P1 S1) (D2 : Draws prog w A i2 fp2 n2 P2 S2) (ap : ZAp z TI TO i1 i2 fp1 fp2) {p q : Value} (zz : IsZip s.heap z TI TO .none) (zI : IsPair s.heap TI (.ref i1) (.ref i2)) (zO : IsPair s.heap TO p q)
    (t1 : S1 k s.heap) (t2 : S2 k s.heap) (l1 : k < n1) (l2 : k < n2) {Q : Value → Shared → Prop}
    (fin : ∀ x y h' tk, P1 k x → P2 k y → IsZip h' z TI TO (rawInt s.heap.objs.size) → IsPair h' TO x y → S1 (k + 1) h' → S2 (k + 1) h' → IsPair h' s.heap.objs.size x y →
      (∀ c o, c ≠ z → c ≠ TO → c ≠ i1 → c ≠ i2 → s.heap.get? c = some o → h'.get? c = some o) → Q (.ref s.heap.objs.size) { s with heap := h', toks := tk }) :
    wpAny (model prog w) A (Builtin.«zip.__next__» ⟨[.ref z], []⟩) (fun r s' => ∃ v, r = .done (.ret v) ∧ Q v s') E s := by
  show wpAny (model prog w) A (field (Value.ref z) 2 >>= _) _ _ _
  refine wpAny_bind (wpAny_field zz rfl (x := Value.bool false) rfl ?_)
  show wpAny (model prog w) A (field (Value.ref z) 3 >>= _) _ _ _
  refine wpAny_bind (wpAny_field zz rfl (x := Value.ref TI) rfl (wpAny_bind (wpAny_seqItems zI rfl ?_)))
  show wpAny (model prog w) A (Builtin.SmallTypes.ownedTupleIsFree (Value.ref z) >>= _) _ _ _
  refine wpAny_bind ?_
  unfold Builtin.SmallTypes.ownedTupleIsFree
  refine wpAny_bind (wpAny_field zz rfl (x := Value.none) rfl (wpAny_pure ?_))
  simp only [if_true]
  refine wpAny_bind (wpAny_rule (wpAny_bind (wpAny_field zz rfl (x := Value.ref TO) rfl (wpAny_bind (wpAny_setField_rec zz (by simp) fun h1 zz1 b1 => ?_)))))
  replace zz1 : IsZip h1 z TI TO .ellipsis := zz1
  refine wpAny_bind ?_
  simp only [List.zipIdx_cons, List.zipIdx_nil, List.forIn_cons, List.forIn_nil]
  refine wpAny_bind (wpAny_bind (wpAny_onRaise ?_))
  show wpAny (model prog w) A (Builtin.SmallTypes.nextOf (Value.ref i1) >>= _) _ _ _
  refine wpAny_bind (D1.item k _ _ _ l1 (D1.frame _ _ _ t1 (fr_same b1 ap.z1)) fun x h2 tk2 px u1 b2 => wpAny_pure ?_)
  have zO2 : IsPair h2 TO p q := b2.extBut _ _ ap.Oi1 (b1.extBut _ _ ap.zTO.symm zO)
  refine wpAny_bind (wpAny_seqItems zO2 rfl (wpAny_bind (wpAny_updateSeq_pair zO2 fun h3 zO3 b3 => ?_)))
  replace zO3 : IsPair h3 TO x q := zO3
  refine wpAny_bind (wpAny_letGo (wpAny_pure (wpAny_bind (wpAny_bind (wpAny_onRaise ?_)))))
  show wpAny (model prog w) A (Builtin.SmallTypes.nextOf (Value.ref i2) >>= _) _ _ _
  have t2' : S2 k h3 := D2.frame _ _ _ (D2.frame _ _ _ (D2.frame _ _ _ t2 (fr_same b1 ap.z2)) (fr_same b2 ap.i12)) (fr_same b3 ap.O2)
  refine wpAny_bind (D2.item k _ _ _ l2 t2' fun y h4 tk4 py u2 b4 => wpAny_pure ?_)
  have zO4 : IsPair h4 TO x q := b4.extBut _ _ ap.Oi2 zO3
  refine wpAny_bind (wpAny_seqItems zO4 rfl (wpAny_bind (wpAny_updateSeq_pair zO4 fun h5 zO5 b5 => ?_)))
  replace zO5 : IsPair h5 TO x y := zO5
  refine wpAny_bind (wpAny_letGo (wpAny_pure (wpAny_pure (wpAny_bind (wpAny_seqItems zO5 rfl (wpAny_bind (wpAny_newTuple ?_)))))))
  have sz : h5.objs.size = s.heap.objs.size := by rw [b5.1, b4.1, b3.1, b2.1, b1.1]
  have zz5 : IsZip h5 z TI TO .ellipsis := b5.extBut _ _ ap.zTO (b4.extBut _ _ ap.zi2 (b3.extBut _ _ ap.zTO (b2.extBut _ _ ap.zi1 zz1)))
  have keep5 : ∀ c o, c ≠ z → c ≠ TO → c ≠ i1 → c ≠ i2 → s.heap.get? c = some o → h5.get? c = some o := fun c o c1 c2 c3 c4 e => b5.extBut _ _ c2 (b4.extBut _ _ c4 (b3.extBut _ _ c2 (b2.extBut _ _ c3 (b1.extBut _ _ c1 e))))
  have v1 : S1 (k + 1) h5 := D1.frame _ _ _ (D1.frame _ _ _ (D1.frame _ _ _ u1 (fr_same b3 ap.O1)) (fr_same b4 ap.i21)) (fr_same b5 ap.O1)
  have v2 : S2 (k + 1) h5 := D2.frame _ _ _ u2 (fr_same b5 ap.O2)
  have lz : z < h5.objs.size := Heap.lt_size zz5
  show wpAny (model prog w) A (Builtin.SmallTypes.ownedTupleHandOut (Value.ref z) (Value.ref h5.objs.size) >>= _) _ _ _
  refine wpAny_bind ?_
  unfold Builtin.SmallTypes.ownedTupleHandOut
  have zz6 : IsZip (h5.push { cls := .type "tuple", data := .seq #[x, y] }) z TI TO .ellipsis := Heap.get?_push_of_some _ zz5
  refine wpAny_bind (wpAny_setField_rec zz6 (by simp) fun h7 zz7 b7 => ?_)
  replace zz7 : IsZip h7 z TI TO (rawInt h5.objs.size) := zz7
  refine wpAny_setField_rec zz7 (by simp) fun h8 zz8 b8 => ?_
  replace zz8 : IsZip h8 z TI TO (rawInt h5.objs.size) := zz8
  have up : ∀ c o, c ≠ z → h5.get? c = some o → h8.get? c = some o := fun c o c1 e => b8.extBut _ _ c1 (b7.extBut _ _ c1 (Heap.get?_push_of_some _ e))
  have new8 : IsPair h8 h5.objs.size x y := b8.extBut _ _ (Nat.ne_of_gt lz) (b7.extBut _ _ (Nat.ne_of_gt lz) (Heap.get?_push_size _ rfl))
  rw [sz] at zz8 new8
  refine wpAny_pure ⟨_, rfl, ?_⟩
  show Q (Value.ref h5.objs.size) _
  rw [sz]
  exact fin x y h8 tk4 px py zz8 (up _ _ ap.zTO.symm zO5) (D1.frame _ _ _ v1 fun b hb o e => up b o (fun q => ap.z1 (q ▸ hb)) e) (D2.frame _ _ _ v2 fun b hb o e => up b o (fun q => ap.z2 (q ▸ hb)) e) new8 fun c o c1 c2 c3 c4 e => up c o c1 (keep5 c o c1 c2 c3 c4 e)
theorem zip_halt (hh : A.handled = none) (D1 : Draws prog w A i1 fp1 n1 P1 S1) (D2 : Draws prog w A i2 fp2 n2 P2 S2) (ap : ZAp z TI TO i1 i2 fp1 fp2) {p q : Value} (zz : IsZip s.heap z TI TO .none) (zI : IsPair s.heap TI (.ref i1) (.ref i2)) (zO : IsPair s.heap TO p q)
    (t1 : S1 k s.heap) (t2 : S2 k s.heap) (hk : k = min n1 n2) {Q : Fin → Shared → Prop}
    (fin : ∀ h' tk e, (∀ c o, c ≠ z → c ≠ TO → c ≠ i1 → c ≠ i2 → s.heap.get? c = some o → h'.get? c = some o) → (∃ o, h'.get? e = some o ∧ o.cls = .type "StopIteration") → E (.ref e) { s with heap := h', toks := tk }) :
    wpAny (model prog w) A (Builtin.«zip.__next__» ⟨[.ref z], []⟩) Q E s := by
  show wpAny (model prog w) A (field (Value.ref z) 2 >>= _) _ _ _
  refine wpAny_bind (wpAny_field zz rfl (x := Value.bool false) rfl ?_)
  show wpAny (model prog w) A (field (Value.ref z) 3 >>= _) _ _ _
  refine wpAny_bind (wpAny_field zz rfl (x := Value.ref TI) rfl (wpAny_bind (wpAny_seqItems zI rfl ?_)))
  show wpAny (model prog w) A (Builtin.SmallTypes.ownedTupleIsFree (Value.ref z) >>= _) _ _ _
  refine wpAny_bind ?_
  unfold Builtin.SmallTypes.ownedTupleIsFree
  refine wpAny_bind (wpAny_field zz rfl (x := Value.none) rfl (wpAny_pure ?_))
  simp only [if_true]
  refine wpAny_bind (wpAny_rule (wpAny_bind (wpAny_field zz rfl (x := Value.ref TO) rfl (wpAny_bind (wpAny_setField_rec zz (by simp) fun h1 zz1 b1 => ?_)))))
  replace zz1 : IsZip h1 z TI TO .ellipsis := zz1
  refine wpAny_bind ?_
  simp only [List.zipIdx_cons, List.zipIdx_nil, List.forIn_cons, List.forIn_nil]
  refine wpAny_bind (wpAny_bind (wpAny_onRaise ?_))
  show wpAny (model prog w) A (Builtin.SmallTypes.nextOf (Value.ref i1) >>= _) _ _ _
  have t1' : S1 k h1 := D1.frame _ _ _ t1 (fr_same b1 ap.z1)
  by_cases h12 : n1 ≤ n2
  · have e1 : k = n1 := by rw [hk]; exact Nat.min_eq_left h12
    rw [e1] at t1'
    refine wpAny_bind (D1.done _ _ _ t1' fun h2 e b2 he => ?_)
    obtain ⟨oe, f1, f2⟩ := he
    have zz2 : IsZip h2 z TI TO .ellipsis := b2 _ _ ap.zi1 zz1
    have ez : e ≠ z := fun x => by subst x; rw [zz2] at f1; cases f1; simp at f2
    refine wpAny_setField_rec zz2 (by simp) fun h3 _ b3 => ?_
    exact fin h3 s.toks e (fun c o c1 _ c3 _ x => b3.extBut _ _ c1 (b2 _ _ c3 (b1.extBut _ _ c1 x))) ⟨oe, b3.extBut _ _ ez f1, f2⟩
  · have e1 : k = n2 := by rw [hk]; exact Nat.min_eq_right (by omega)
    refine wpAny_bind (D1.item k _ _ _ (by omega) t1' fun x h2 tk2 px u1 b2 => wpAny_pure ?_)
    have zO2 : IsPair h2 TO p q := b2.extBut _ _ ap.Oi1 (b1.extBut _ _ ap.zTO.symm zO)
    refine wpAny_bind (wpAny_seqItems zO2 rfl (wpAny_bind (wpAny_updateSeq_pair zO2 fun h3 zO3 b3 => ?_)))
    refine wpAny_bind (wpAny_letGo (wpAny_pure (wpAny_bind (wpAny_bind (wpAny_onRaise ?_)))))
    show wpAny (model prog w) A (Builtin.SmallTypes.nextOf (Value.ref i2) >>= _) _ _ _
    have t2' : S2 k h3 := D2.frame _ _ _ (D2.frame _ _ _ (D2.frame _ _ _ t2 (fr_same b1 ap.z2)) (fr_same b2 ap.i12)) (fr_same b3 ap.O2)
    rw [e1] at t2'
    refine wpAny_bind (D2.done _ _ _ t2' fun h4 e b4 he => ?_)
    obtain ⟨oe, f1, f2⟩ := he
    have zz4 : IsZip h4 z TI TO .ellipsis := b4 _ _ ap.zi2 (b3.extBut _ _ ap.zTO (b2.extBut _ _ ap.zi1 zz1))
    have ez : e ≠ z := fun x => by subst x; rw [zz4] at f1; cases f1; simp at f2
    refine wpAny_setField_rec zz4 (by simp) fun h5 _ b5 => ?_
    exact fin h5 tk2 e (fun c o c1 c2 c3 c4 x => b5.extBut _ _ c1 (b4 _ _ c4 (b3.extBut _ _ c2 (b2.extBut _ _ c3 (b1.extBut _ _ c1 x))))) ⟨oe, b5.extBut _ _ ez f1, f2⟩
theorem zip_made {l1 l2 : Addr} {xs ys : Array Value} {Q : Value → Shared → Prop} (t1 : s.heap.IsTuple l1 xs) (t2 : s.heap.IsTuple l2 ys)
    (fin : ∀ h', IsZip h' (s.heap.objs.size + 4) (s.heap.objs.size + 2) (s.heap.objs.size + 3) .none → IsPair h' (s.heap.objs.size + 2) (.ref s.heap.objs.size) (.ref (s.heap.objs.size + 1)) → IsPair h' (s.heap.objs.size + 3) .none .none →
      h'.IsTupleIter s.heap.objs.size l1 0 → h'.IsTupleIter (s.heap.objs.size + 1) l2 0 → (∀ c o, s.heap.get? c = some o → h'.get? c = some o) → Q (.ref (s.heap.objs.size + 4)) { s with heap := h' }) :
    wpAny (model prog w) A (call (.type "zip") [.ref l1, .ref l2]) Q E s := by
  have meets : Meets (Builtin.«zip.__new__» ⟨[.type "zip", .ref l1, .ref l2], []⟩) (fun _ R s => s.heap.IsTuple l1 xs ∧ s.heap.IsTuple l2 ys ∧
      R (.ok (.ret (.ref (s.heap.objs.size + 4)))) { s with heap := ((((s.heap.push { cls := .type "tuple_iterator", data := .fields #[.ref l1, .int 0 0] }).push { cls := .type "tuple_iterator", data := .fields #[.ref l2, .int 0 0] }).push { cls := .type "tuple", data := .seq #[.ref s.heap.objs.size, .ref (s.heap.objs.size + 1)] }).push { cls := .type "tuple", data := .seq #[.none, .none] }).push { cls := .type "zip", data := .fields #[.none, .bool false, .bool false, .ref (s.heap.objs.size + 2), .ref (s.heap.objs.size + 3)] } }) :=
    .of_wp fun prog w A R s h => by
      obtain ⟨hp, g, d, tk, os⟩ := s
      obtain ⟨ha, hb, h⟩ := h
      have hsub := sub_zip
      have hA : Heap.IsTuple (Shared.heap ⟨hp, g, d, tk, os⟩) l1 xs := ha
      have hB : Heap.IsTuple (Shared.heap ⟨hp.push { cls := .type "tuple_iterator", data := .fields #[.ref l1, .int 0 0] }, g, d, tk, os⟩) l2 ys := by
        obtain ⟨o, e, r⟩ := hb
        exact ⟨o, Heap.get?_push_of_some _ e, r⟩
      wp_walk using wpAny_pyIter_tuple hA, wpAny_pyIter_tuple hB
      simp only [Heap.size_push] at *
      exact ⟨_, rfl, h⟩
  refine callType_new F.called_zip (by decide) (F.typeCall_zip_2 _ _) (F.newCall_zip_2 _ _) (fun obj => F.args_object_init_3 obj _ _) F.entry_zip_new meets ⟨t1, t2, ?_⟩
  generalize e1 : s.heap.push { cls := .type "tuple_iterator", data := .fields #[.ref l1, .int 0 0] } = m1
  have s1 : m1.objs.size = s.heap.objs.size + 1 := by rw [← e1, Heap.size_push]
  have q1 : m1.get? s.heap.objs.size = some { cls := .type "tuple_iterator", data := .fields #[.ref l1, .int 0 0] } := by rw [← e1]; exact Heap.get?_push_size _ rfl
  have k1 : ∀ c o, s.heap.get? c = some o → m1.get? c = some o := fun c o x => by rw [← e1]; exact Heap.get?_push_of_some _ x
  generalize e2 : m1.push { cls := .type "tuple_iterator", data := .fields #[.ref l2, .int 0 0] } = m2
  have s2 : m2.objs.size = s.heap.objs.size + 2 := by rw [← e2, Heap.size_push, s1]
  have q2 : m2.get? (s.heap.objs.size + 1) = some { cls := .type "tuple_iterator", data := .fields #[.ref l2, .int 0 0] } := by rw [← e2, ← s1]; exact Heap.get?_push_size _ rfl
  have k2 : ∀ c o, m1.get? c = some o → m2.get? c = some o := fun c o x => by rw [← e2]; exact Heap.get?_push_of_some _ x
  generalize e3 : m2.push { cls := .type "tuple", data := .seq #[.ref s.heap.objs.size, .ref (s.heap.objs.size + 1)] } = m3
  have s3 : m3.objs.size = s.heap.objs.size + 3 := by rw [← e3, Heap.size_push, s2]
  have q3 : m3.get? (s.heap.objs.size + 2) = some { cls := .type "tuple", data := .seq #[.ref s.heap.objs.size, .ref (s.heap.objs.size + 1)] } := by rw [← e3, ← s2]; exact Heap.get?_push_size _ rfl
  have k3 : ∀ c o, m2.get? c = some o → m3.get? c = some o := fun c o x => by rw [← e3]; exact Heap.get?_push_of_some _ x
  generalize e4 : m3.push { cls := .type "tuple", data := .seq #[.none, .none] } = m4
  have s4 : m4.objs.size = s.heap.objs.size + 4 := by rw [← e4, Heap.size_push, s3]
  have q4 : m4.get? (s.heap.objs.size + 3) = some { cls := .type "tuple", data := .seq #[.none, .none] } := by rw [← e4, ← s3]; exact Heap.get?_push_size _ rfl
  have k4 : ∀ c o, m3.get? c = some o → m4.get? c = some o := fun c o x => by rw [← e4]; exact Heap.get?_push_of_some _ x
  generalize e5 : m4.push { cls := .type "zip", data := .fields #[.none, .bool false, .bool false, .ref (s.heap.objs.size + 2), .ref (s.heap.objs.size + 3)] } = m5
  have q5 : m5.get? (s.heap.objs.size + 4) = some { cls := .type "zip", data := .fields #[.none, .bool false, .bool false, .ref (s.heap.objs.size + 2), .ref (s.heap.objs.size + 3)] } := by rw [← e5, ← s4]; exact Heap.get?_push_size _ rfl
  have k5 : ∀ c o, m4.get? c = some o → m5.get? c = some o := fun c o x => by rw [← e5]; exact Heap.get?_push_of_some _ x
  show _ ∧ _
  exact ⟨⟨_, q5, rfl⟩, fin m5 q5 (k5 _ _ (k4 _ _ q3)) (k5 _ _ q4) ⟨_, k5 _ _ (k4 _ _ (k3 _ _ (k2 _ _ q1))), rfl, rfl⟩ ⟨_, k5 _ _ (k4 _ _ (k3 _ _ q2)), rfl, rfl⟩ fun c o x => k5 _ _ (k4 _ _ (k3 _ _ (k2 _ _ (k1 _ _ x))))⟩
end
section
variable {X : Cx} {pins : List (Addr × Obj)} {σ : St} {H : Hp} {s : Shared} {h' : Heap}
theorem turnNew {ch : List Addr} {T : Addr} {o : HO} {t' : Nat} (I : Inv X pins σ H s) (k : ∀ b u, b ∉ ch → s.heap.get? b = some u → h'.get? b = some u) (hf : ∀ b ∈ ch, FpOk X pins H b) (hT : s.heap.objs.size ≤ T) (new : ObjOk X.prog X.w (upd H T o) h' T o) :
    Inv X pins σ (upd H T o) { s with heap := h', toks := t' } := by
  have hn : H T = none := I.hok.fresh hT
  have nch : ∀ b u, H b = some u → b ∉ ch := fun b u e z => by rw [(hf b z).1] at e; cases e
  refine I.step (g' := s.gens) (d' := s.drawn) (ch := ch) (fun b hb => ⟨(hf b hb).2.2.2.1, (hf b hb).2.1, (hf b hb).2.2.2.2.1, (hf b hb).2.2.2.2.2⟩) (fun b u _ _ hc e _ => k b u hc e) (fun b u _ _ hc e _ => ⟨u.slots, k b u hc e⟩) (fun b u hc e n => ?_)
    (fun b u hc e => ⟨u, k b u hc e⟩) (fun b xs e => by rw [upd_ne (ne_of_none e hn)]; exact e) (fun b u xs e => by rw [upd_ne (ne_of_none e hn)]; exact e) (fun b ps e => ⟨#[], by rw [upd_ne (ne_of_none e hn), e]; simp⟩) (fun m hm => ?_) (fun b u e => ?_) I.bare
  · rw [upd_ne (Nat.ne_of_lt (Nat.lt_of_lt_of_le (Heap.lt_size e) hT))]; exact n
  · obtain ⟨ob, es, ep, ho, r⟩ := hm
    exact ⟨ob, es, ep, k _ ob (fun z => (hf _ z).2.1 rfl) ho, r⟩
  · by_cases hb : b = T
    · subst hb; rw [upd_same] at e; cases e; exact new
    · rw [upd_ne hb] at e
      refine (I.hok b u e).stay (fun c v hc q => k c v ?_ q) (fun c q => by rw [upd_ne (ne_of_none q hn)]; exact q) fun c xs q => by rw [upd_ne (ne_of_none q hn)]; exact q
      rcases hc with z | z
      · rw [z]; exact nch b u e
      · exact nch c _ z
theorem turnOld {ch : List Addr} {t' : Nat} (I : Inv X pins σ H s) (k : ∀ b u, b ∉ ch → s.heap.get? b = some u → h'.get? b = some u) (hf : ∀ b ∈ ch, FpOk X pins H b) : Inv X pins σ H { s with heap := h', toks := t' } := by
  have nch : ∀ b u, H b = some u → b ∉ ch := fun b u e z => by rw [(hf b z).1] at e; cases e
  refine I.step (g' := s.gens) (d' := s.drawn) (ch := ch) (fun b hb => ⟨(hf b hb).2.2.2.1, (hf b hb).2.1, (hf b hb).2.2.2.2.1, (hf b hb).2.2.2.2.2⟩) (fun b u _ _ hc e _ => k b u hc e) (fun b u _ _ hc e _ => ⟨u.slots, k b u hc e⟩) (fun b u hc e n => n)
    (fun b u hc e => ⟨u, k b u hc e⟩) (fun b xs e => e) (fun b u xs e => e) (fun b ps e => ⟨#[], by rw [e]; simp⟩) (fun m hm => ?_) (fun b u e => ?_) I.bare
  · obtain ⟨ob, es, ep, ho, r⟩ := hm
    exact ⟨ob, es, ep, k _ ob (fun z => (hf _ z).2.1 rfl) ho, r⟩
  · refine (I.hok b u e).stay (fun c v hc q => k c v ?_ q) (fun c q => q) fun c xs q => q
    rcases hc with z | z
    · rw [z]; exact nch b u e
    · exact nch c _ z
end
def Itz (K : Fr0) (a1 a2 : Addr) (xs ys : List V) : It :=
  ⟨fun i H => i < min xs.length ys.length ∧ SqT K H a1 xs ∧ SqT K H a2 ys, fun i H x H' => ∃ p u v, H p = none ∧ xs[i]? = some u ∧ ys[i]? = some v ∧ x = .ref p ∧ H' = upd H p (.tup [u, v]), fun i H => i = min xs.length ys.length ∧ SqT K H a1 xs ∧ SqT K H a2 ys⟩
def ZSt (z TI TO i1 i2 a1 a2 : Addr) (i : Nat) (h : Heap) : Prop := IsZip h z TI TO .none ∧ IsPair h TI (.ref i1) (.ref i2) ∧ (∃ p q, IsPair h TO p q) ∧ h.IsTupleIter i1 a1 i ∧ h.IsTupleIter i2 a2 i
theorem turn_zip {P : Program} {w : World} {K : Fr0} {es : List Expr} {kk : Nat} {pos : Pos} {z TI TO i1 i2 a1 a2 : Addr} {xs ys : List V} (ap : ZAp z TI TO i1 i2 [i1, a1] [i2, a2]) (n1 : a1 ≠ i1) (n2 : a2 ≠ i2) :
    Turn P w K (.Tuple es kk pos) (Itz K a1 a2 xs ys) [z, TI, TO, i1, i2] z (ZSt z TI TO i1 i2 a1 a2) where
  mem := by simp
  obj := fun i h st b hb => by
    obtain ⟨h1, h2, ⟨p, q, h3⟩, ⟨o4, h4, c4, d4⟩, ⟨o5, h5, c5, d5⟩⟩ := st
    simp only [List.mem_cons, List.not_mem_nil, or_false] at hb
    rcases hb with rfl | rfl | rfl | rfl | rfl
    · exact ⟨_, h1, fun v e => by cases (show Data.fields _ = Data.cell v from e)⟩
    · exact ⟨_, h2, fun v e => by cases (show Data.seq _ _ = Data.cell v from e)⟩
    · exact ⟨_, h3, fun v e => by cases (show Data.seq _ _ = Data.cell v from e)⟩
    · exact ⟨_, h4, fun v e => by rw [d4] at e; cases e⟩
    · exact ⟨_, h5, fun v e => by rw [d5] at e; cases e⟩
  keep := fun i h h' st k => by
    obtain ⟨h1, h2, ⟨p, q, h3⟩, h4, h5⟩ := st
    exact ⟨k z (by simp) _ h1, k TI (by simp) _ h2, ⟨p, q, k TO (by simp) _ h3⟩, h4.at fun o e => k i1 (by simp) o e, h5.at fun o e => k i2 (by simp) o e⟩
  item := by
    intro X hP hw hK hc i pins s σ H E I hf st hg
    subst hP hw hK
    obtain ⟨hlt, hx, hy⟩ := hg
    obtain ⟨h1, h2, ⟨p, q, h3⟩, h4, h5⟩ := st
    obtain ⟨it1, r1, p1, z1⟩ := I.tuple hx
    obtain ⟨it2, r2, p2, z2⟩ := I.tuple hy
    have l1 : i < it1.toArray.size := by rw [List.size_toArray, ← r1.length]; omega
    have l2 : i < it2.toArray.size := by rw [List.size_toArray, ← r2.length]; omega
    have hT : s.TypeIs (.ref z) "zip" := ⟨_, h1, rfl⟩
    have hh : X.A.in1.handled = none := I.ok.hd hc
    unfold pyNext
    refine wpAny_bind (wpAny_attempt (wpAny_callSpecial?_slot (name := Str.ofString "__next__") hT F.slot_zip_next (wpAny_call_entry F.slot_zip_next hT F.entry_zip_next
      (zip_go (drawsTup hh i1 a1 n1 it1.toArray) (drawsTup hh i2 a2 n2 it2.toArray) ap h1 h2 h3 ⟨h4, p1⟩ ⟨h5, p2⟩ l1 l2 fun x y h' tk px py zz zO u1 u2 new kp => wpAny_pure ?_) (F.args_zip_next_1 _))))
    refine ⟨.ref s.heap.objs.size, rfl, wpAny_letOwnedTupleGo_zip zz fun h2' zz2 sb => ?_⟩
    obtain ⟨xv, hxv⟩ : ∃ v, xs[i]? = some v := ⟨xs[i]'(by omega), List.getElem?_eq_getElem (by omega)⟩
    obtain ⟨yv, hyv⟩ : ∃ v, ys[i]? = some v := ⟨ys[i]'(by omega), List.getElem?_eq_getElem (by omega)⟩
    obtain ⟨x', ex, rx⟩ := r1.get hxv
    obtain ⟨y', ey, ry⟩ := r2.get hyv
    have exx : x' = x := by
      have : it1.toArray[i]? = some x := px
      rw [List.getElem?_toArray, ex] at this
      exact Option.some.inj this
    have eyy : y' = y := by
      have : it2.toArray[i]? = some y := py
      rw [List.getElem?_toArray, ey] at this
      exact Option.some.inj this
    subst exx eyy
    have lz : z < s.heap.objs.size := Heap.lt_size h1
    have keep : ∀ b u, b ∉ [z, TI, TO, i1, i2] → s.heap.get? b = some u → h2'.get? b = some u := fun b u hb e => by
      simp only [List.mem_cons, List.not_mem_nil, or_false, not_or] at hb
      exact sb.extBut _ _ hb.1 (kp b u hb.1 hb.2.2.1 hb.2.2.2.1 hb.2.2.2.2 e)
    have I2 : Inv X pins σ (upd H s.heap.objs.size (.tup [xv, yv])) { s with heap := h2', toks := tk } :=
      turnNew I keep hf (Nat.le_refl _) ⟨by show 2 ≤ sizeLine; decide, [x', y'], .cons rx (.cons ry .nil), ⟨_, sb.extBut _ _ (Nat.ne_of_gt lz) new, rfl, _, rfl⟩⟩
    refine ⟨.ref s.heap.objs.size, upd H s.heap.objs.size (.tup [xv, yv]), I2, rfl, ⟨s.heap.objs.size, xv, yv, I.hok.fresh (Nat.le_refl _), hxv, hyv, rfl, rfl⟩, ?_, fun b hb => ?_⟩
    · exact ⟨zz2, sb.extBut _ _ ap.zTI.symm (kp _ _ ap.zTI.symm ap.IO ap.Ii1 ap.Ii2 h2), ⟨_, _, sb.extBut _ _ ap.zTO.symm zO⟩, u1.1.at fun o e => sb.extBut _ _ ap.zi1.symm e, u2.1.at fun o e => sb.extBut _ _ ap.zi2.symm e⟩
    · have hb1 : b ≠ s.heap.objs.size := by
        simp only [List.mem_cons, List.not_mem_nil, or_false] at hb
        obtain ⟨o4, g4, _⟩ := h4
        obtain ⟨o5, g5, _⟩ := h5
        rcases hb with rfl | rfl | rfl | rfl | rfl
        · exact Nat.ne_of_lt (Heap.lt_size h1)
        · exact Nat.ne_of_lt (Heap.lt_size h2)
        · exact Nat.ne_of_lt (Heap.lt_size h3)
        · exact Nat.ne_of_lt (Heap.lt_size g4)
        · exact Nat.ne_of_lt (Heap.lt_size g5)
      rw [upd_ne hb1]
      exact (hf b hb).1
  done := by
    intro X hP hw hK hc i pins s σ H E I hf st hg
    subst hP hw hK
    obtain ⟨hlt, hx, hy⟩ := hg
    obtain ⟨h1, h2, ⟨p, q, h3⟩, h4, h5⟩ := st
    obtain ⟨it1, r1, p1, z1⟩ := I.tuple hx
    obtain ⟨it2, r2, p2, z2⟩ := I.tuple hy
    have hT : s.TypeIs (.ref z) "zip" := ⟨_, h1, rfl⟩
    have hh : X.A.in1.handled = none := I.ok.hd hc
    unfold pyNext
    refine wpAny_bind (wpAny_attempt (wpAny_callSpecial?_slot (name := Str.ofString "__next__") hT F.slot_zip_next (wpAny_call_entry F.slot_zip_next hT F.entry_zip_next
      (zip_halt hh (drawsTup hh i1 a1 n1 it1.toArray) (drawsTup hh i2 a2 n2 it2.toArray) ap h1 h2 h3 ⟨h4, p1⟩ ⟨h5, p2⟩ (by rw [List.size_toArray, List.size_toArray, ← r1.length, ← r2.length]; exact hlt) fun h' tk e kp he => ?_) (F.args_zip_next_1 _))))
    obtain ⟨o, ho, hcl⟩ := he
    refine wpAny_bind (wpAny_isInstance (T := "StopIteration") (b := true) ⟨o, ho, hcl⟩ isSubtype_stop (wpAny_pure ⟨rfl, turnOld I (fun b u hb e => ?_) hf⟩))
    simp only [List.mem_cons, List.not_mem_nil, or_false, not_or] at hb
    exact kp b u hb.1 hb.2.2.1 hb.2.2.2.1 hb.2.2.2.2 e
  self := fun A i s Q E st h => wpAny_pyIter_zip st.1 h
section
variable {X : Cx} {c : Fc} {a b e : Expr} {pos : Pos} {es : List Expr} {kk : Nat} {tp : Pos}
theorem zap_new (n l1 l2 : Nat) (h1 : l1 < n) (h2 : l2 < n) : ZAp (n + 4) (n + 2) (n + 3) n (n + 1) [n, l1] [n + 1, l2] := by
  refine ⟨?_, ?_, ?_, ?_, ?_, ?_, ?_, ?_, ?_, ?_, ?_, ?_, ?_, ?_, ?_, ?_⟩ <;> simp only [List.mem_cons, List.not_mem_nil, or_false, not_or, ne_eq] <;> (unfold Addr at *) <;> omega
def iZip (K : Fr0) (ta : TA) : TI := fun σ H R => ta σ H fun vs H1 => ∃ a1 a2 xs ys, vs = [.ref a1, .ref a2] ∧ SqT K H1 a1 xs ∧ SqT K H1 a2 ys ∧ R (Itz K a1 a2 xs ys) H1
theorem pi_zip {ta : TA} {p : Pos} (hg : Gl X "zip") (hm : X.mg "zip" = none) (ha : PA X [a, b] ta) (hs : starEach [a, b] X.env = [(false, eval a X.env), (false, eval b X.env)] := by rfl) (hs2 : starEach [b] X.env = [(false, eval b X.env)] := by rfl) :
    PI X (.Tuple es kk tp) (.Call (.Name "zip" p) [a, b] [] pos) (iZip X.K ta) := by
  intro pins s σ H R I h
  refine Call_ (ld_blt I hg hm PyProof.Rows.boot_zip (PyProof.Rows.callWith_type1 (thn (ha pos pins s σ H _ I h) fun us s1 ⟨vs, H1, I1, r1, q1⟩ => ?_) (by rw [hs, hs2]) (by rw [hs2]; rfl)))
  obtain ⟨a1, a2, xs, ys, e1, hx, hy, q⟩ := q1
  subst e1
  obtain ⟨u1, u2, rfl, ru1, ru2⟩ := Vals.two r1
  cases (show u1 = Value.ref a1 from ru1)
  cases (show u2 = Value.ref a2 from ru2)
  obtain ⟨it1, v1, p1, z1⟩ := I1.tuple hx
  obtain ⟨it2, v2, p2, z2⟩ := I1.tuple hy
  refine zip_made (show s1.heap.IsTuple a1 it1.toArray from p1) (show s1.heap.IsTuple a2 it2.toArray from p2) fun h' zz zI zO g1 g2 kp => ?_
  refine wpAny_pyIter_zip zz ?_
  have la1 : a1 < s1.heap.objs.size := by obtain ⟨o, e, _⟩ := p1; exact Heap.lt_size e
  have la2 : a2 < s1.heap.objs.size := by obtain ⟨o, e, _⟩ := p2; exact Heap.lt_size e
  have ap : ZAp (s1.heap.objs.size + 4) (s1.heap.objs.size + 2) (s1.heap.objs.size + 3) s1.heap.objs.size (s1.heap.objs.size + 1) [s1.heap.objs.size, a1] [s1.heap.objs.size + 1, a2] := by
    exact zap_new _ _ _ la1 la2
  refine ⟨s1.heap.objs.size + 4, [s1.heap.objs.size + 4, s1.heap.objs.size + 2, s1.heap.objs.size + 3, s1.heap.objs.size, s1.heap.objs.size + 1], _, _, H1, rfl, I1.kept (t' := s1.toks) kp, turn_zip (xs := xs) (ys := ys) ap (Nat.ne_of_lt la1) (Nat.ne_of_lt (Nat.lt_succ_of_lt la2)), ⟨zz, zI, ⟨_, _, zO⟩, g1, g2⟩, fun b hb => ?_, q⟩
  simp only [List.mem_cons, List.not_mem_nil, or_false] at hb
  have hb2 : s1.heap.objs.size ≤ b := by
    rcases hb with e | e | e | e | e <;> rw [e]
    · exact Nat.le_add_right _ _
    · exact Nat.le_add_right _ _
    · exact Nat.le_add_right _ _
    · exact Nat.le_refl _
    · exact Nat.le_add_right _ _
  exact I1.fpOk hb2 (I1.hok.fresh hb2)
def zipD : List D → List D → List D
  | x :: xs, y :: ys => .tup [x, y] :: zipD xs ys
  | _, _ => []
theorem zipD_get : ∀ {xs ys : List D} {i : Nat} {d : D}, (zipD xs ys)[i]? = some d → ∃ x y, xs[i]? = some x ∧ ys[i]? = some y ∧ d = .tup [x, y]
  | [], _, _, _, h => by simp [zipD] at h
  | _ :: _, [], _, _, h => by simp [zipD] at h
  | x :: xs, y :: ys, 0, d, h => by
    have : D.tup [x, y] = d := by simpa [zipD] using h
    exact ⟨x, y, rfl, rfl, this.symm⟩
  | x :: xs, y :: ys, i + 1, d, h => by
    obtain ⟨u, v, h1, h2, h3⟩ := zipD_get (xs := xs) (ys := ys) (i := i) (d := d) (by simpa [zipD] using h)
    exact ⟨u, v, by simpa using h1, by simpa using h2, h3⟩
theorem zipD_len : ∀ (xs ys : List D), (zipD xs ys).length = min xs.length ys.length
  | [], ys => by simp [zipD]
  | _ :: _, [] => by simp [zipD]
  | x :: xs, y :: ys => by simp [zipD, zipD_len xs ys]
theorem it_zip {K : Fr0} {A : Addr → Prop} {H : Hp} {ds es : List D} {xs ys : List V} {a1 a2 : Addr} (t1 : TupAt K H a1 xs) (t2 : TupAt K H a2 ys) (i1 : IsL K A H ds xs) (i2 : IsL K A H es ys) : ItOk K A H (zipD ds es) (Itz K a1 a2 xs ys) where
  go := fun H' i d ex hd => by
    have hl : i < (zipD ds es).length := (List.getElem?_eq_some_iff.mp hd).1
    rw [zipD_len, ← i1.length, ← i2.length] at hl
    exact ⟨hl, (t1.elim (fun h => .inl (ex.tup _ _ h)) .inr : TupAt K H' a1 xs).sq, (t2.elim (fun h => .inl (ex.tup _ _ h)) .inr : TupAt K H' a2 ys).sq⟩
  yl := fun H' i d x H'' ex hd y => by
    obtain ⟨p, u, v, hp, hu, hv, rfl, rfl⟩ := y
    obtain ⟨dx, dy, h1, h2, rfl⟩ := zipD_get hd
    obtain ⟨u', g1, g2⟩ := i1.get h1
    obtain ⟨v', g3, g4⟩ := i2.get h2
    rw [hu] at g1
    rw [hv] at g3
    cases g1
    cases g3
    have sm := same_new hp (.tup [u, v])
    exact ⟨sm, p, [u, v], rfl, .inl upd_same, u, [v], rfl, Is.ext (Ext.of_same sm) (fun _ h _ => h) (Is.ext ex (fun _ h _ => h) g2), v, [], rfl, Is.ext (Ext.of_same sm) (fun _ h _ => h) (Is.ext ex (fun _ h _ => h) g4), rfl⟩
  stop := fun H' ex => ⟨by rw [zipD_len, i1.length, i2.length], (t1.elim (fun h => .inl (ex.tup _ _ h)) .inr : TupAt K H' a1 xs).sq, (t2.elim (fun h => .inl (ex.tup _ _ h)) .inr : TupAt K H' a2 ys).sq⟩
def zip2 : List D → Option (List D)
  | [.tup xs, .tup ys] => some (zipD xs ys)
  | _ => none
def dzip (f : M (List D)) : M (List D) := bnd f fun ds => lift (zip2 ds)
theorem di_zip {f : M (List D)} {p : Pos} (hg : Gl X "zip") (hm : X.mg "zip" = none) (ha : DA X c [a, b] f) (hs : starEach [a, b] X.env = [(false, eval a X.env), (false, eval b X.env)] := by rfl) (hs2 : starEach [b] X.env = [(false, eval b X.env)] := by rfl) :
    DI X c (.Tuple es kk tp) (.Call (.Name "zip" p) [a, b] [] pos) (dzip f) := by
  obtain ⟨t, pa, w⟩ := ha
  refine ⟨_, pi_zip hg hm pa hs hs2, fun ρ σ H Q r h => w ρ σ H _ r (WpL.bndI h fun ds ρ1 vs H1 r1 i1 g1 h1 => ?_)⟩
  obtain ⟨es', e, h2⟩ := wpI_lift h1
  unfold zip2 at e
  split at e
  · obtain ⟨v, u, rfl, j1, j2⟩ := IsL.inv2 i1
    cases e
    obtain ⟨a1, xs, rfl, t1, il1⟩ := Is.tr j1
    obtain ⟨a2, ys, rfl, t2, il2⟩ := Is.tr j2
    exact ⟨a1, a2, xs, ys, rfl, t1.sq, t2.sq, h2 _ H1 r1 (it_zip t1 t2 il1 il2) .refl⟩
  · cases e
end
end L2.Sk
set_option Elab.async false
set_option linter.all false
set_option maxRecDepth 100000
namespace L2.Sk
open PySem PySem.Spec PyProof.Rows
theorem noFill_tupMul : fillsNumberSlot (.type "tuple") "mul" = pure false := by
  first | kernel_rfl | (unfold fillsNumberSlot; kernel_rfl) | decide +kernel
theorem repeat_tup : seqRepeat? (.type "tuple") = pure (some (.builtin "tuple.__mul__")) := by
  first | kernel_rfl | (unfold seqRepeat?; kernel_rfl) | decide +kernel
theorem rmul_int_tup (a : Int) (t : Tok) (l : Addr) (dd : Option Addr) (items : Array Value) (n : Nat) (sl : Array (Option Value)) :
    Meets (Builtin.«int.__rmul__» ⟨[.int a t, .ref l], []⟩) (fun _ R s => s.heap.get? l = some { cls := .type "tuple", dict := dd, data := .seq items n, slots := sl } ∧ R (.ok (.ret .notImplemented)) s) :=
  .of_wp fun prog w A R s h => by
    obtain ⟨hp, g, d, tk, os⟩ := s
    obtain ⟨hl, h⟩ := h
    wp_walk using wpAny_loadPart' hl
    exact ⟨_, rfl, h⟩
theorem tupMul (l : Addr) (dd : Option Addr) (items : Array Value) (n : Nat) (sl : Array (Option Value)) (k : Int) (t : Tok) (h0 : ¬ items.isEmpty = true) (h1 : ¬ (k == 1) = true) (h2 : ¬ k ≤ 0) (h3 : ¬ (decide (k < -(2 ^ 63)) || decide (k ≥ 2 ^ 63)) = true)
    (h4 : ¬ (items.size : Int) * k > (2 ^ 63 - 1) / 8) (h5 : ¬ Builtin.Tuple.tupleTooMany ((items.size : Int) * k) = true) (h6 : ((List.replicate k.toNat items).foldl (· ++ ·) #[]).size ≤ sizeLine) :
    Meets (Builtin.«tuple.__mul__» ⟨[.ref l, .int k t], []⟩) (fun _ R s => s.heap.get? l = some { cls := .type "tuple", dict := dd, data := .seq items n, slots := sl } ∧
      R (.ok (.ret (.ref s.heap.objs.size))) { s with heap := s.heap.push { cls := .type "tuple", data := .seq ((List.replicate k.toNat items).foldl (· ++ ·) #[]) } }) :=
  .of_wp fun prog w A R s h => by
    obtain ⟨hp, g, d, tk, os⟩ := s
    obtain ⟨hl, h⟩ := h
    have f1 := AutoSeq1.idx_int
    have f2 := AutoSeq1.sub_tuple_tuple
    have h01 : ¬ (items.isEmpty || k == 1) = true := by simp only [Bool.or_eq_true, not_or]; exact ⟨h0, h1⟩
    have h02 : ¬ (decide (k ≤ 0) || items.isEmpty) = true := by simp only [Bool.or_eq_true, decide_eq_true_eq, not_or]; exact ⟨h2, h0⟩
    wp_walk using wpAny_loadPart' hl
    rw [if_neg h3]
    wp_walk using wpAny_loadPart' hl
    rw [if_neg h4]
    wp_walk using wpAny_loadPart' hl
    exact ⟨_, rfl, h⟩
section
variable {X : Cx}
def rRepT (K : Fr0) : R2 := fun x y H Q => ∃ a xs k, x = .ref a ∧ y = .int k ∧ SqT K H a xs ∧ xs ≠ [] ∧ 2 ≤ k ∧ xs.length * k.toNat ≤ sizeLine ∧ ∀ p, H p = none → Q (.ref p) (upd H p (.tup (List.replicate k.toNat xs).flatten))
theorem op_repT : OpR X (binaryOp .Mult) (rRepT X.K) := by
  intro pins s σ H x y v u Q I rx ry h
  obtain ⟨a, xs, k, rfl, rfl, hx, hne, hk, hz, q⟩ := h
  cases rx
  obtain ⟨t, rfl⟩ := ry
  obtain ⟨its, r, p1, _⟩ := I.tuple hx
  obtain ⟨⟨cls, dd, data, sl⟩, ho, hc, n, hd⟩ := id p1
  simp only at hc hd
  subst hc hd
  have hl := r.length
  have hnew : List.foldl (fun x1 x2 => x1 ++ x2) #[] (List.replicate k.toNat its.toArray) = (List.replicate k.toNat its).flatten.toArray := by
    have := foldl_rep its k.toNat []
    rw [List.nil_append] at this
    exact this
  have hlen : (List.replicate k.toNat its).flatten.length = k.toNat * its.length := len_rep its k.toNat
  have hsl : (sizeLine : Nat) = 16777216 := sizeLine_eq
  have e0 : ¬ its.toArray.isEmpty = true := by
    intro e
    have : its = [] := by simpa using e
    rw [this] at hl
    exact hne (List.length_eq_zero_iff.mp hl)
  have pos1 : 1 ≤ its.length := by
    cases its with
    | nil => simp at e0
    | cons z zs => simp
  have kk : ((k.toNat : Nat) : Int) = k := Int.toNat_of_nonneg (by omega)
  have mm : (its.toArray.size : Int) * k = ((its.length * k.toNat : Nat) : Int) := by rw [List.size_toArray, Int.natCast_mul, kk]
  have zz : its.length * k.toNat ≤ sizeLine := by rw [← hl]; exact hz
  have kle : k.toNat ≤ its.length * k.toNat := Nat.le_mul_of_pos_left _ pos1
  have T1 : s.TypeIs (.ref a) "tuple" := ⟨_, ho, rfl⟩
  refine wpAny_binaryOp_repeat_ref (T := "tuple") (U := "int") (by decide) T1 (fun s' => typeIs_int s' k t) noFill_tupMul F.fills_int_mul F.slot_int_rmul repeat_tup F.slot_int_index.lookup
    (call_meets F.slot_int_rmul (typeIs_int s k t) F.entry_int_rmul (F.args_int_rmul_2 _ _) (rmul_int_tup k t a dd its.toArray n sl)
      ⟨ho, rfl, T1, call_meets F.slot_tuple_mul T1 F.entry_tuple_mul (F.args_tuple_mul_2 _ _) (tupMul a dd its.toArray n sl k t e0 (by simp; omega) (by omega) (by simp; omega) (by rw [mm]; omega) ?_ (by rw [hnew, List.size_toArray, hlen, Nat.mul_comm]; exact zz)) ⟨ho, ?_⟩⟩)
  · rw [mm]
    show ¬ decide (((its.length * k.toNat : Nat) : Int) > (sizeLine : Int)) = true
    rw [decide_eq_true_eq]
    omega
  · rw [hnew]
    refine ⟨.ref s.heap.objs.size, _, I.laid (t' := s.toks) (o := .tup (List.replicate k.toNat xs).flatten) (fun b ob q => Heap.get?_push_of_some _ q) (Nat.le_refl _) ?_, rfl, q _ (I.hok.fresh (Nat.le_refl _))⟩
    exact ⟨by rw [len_rep, Nat.mul_comm]; exact hz, _, r.rep k.toNat, IsTup.new _ _⟩
def rMulA (K : Fr0) : R2 := fun x y H Q => (rI CMul (fun i j => .int (i * j))) x y H Q ∨ (rRepT K x y H Q ∨ rRep x y H Q)
theorem op_mulA : OpR X (binaryOp .Mult) (rMulA X.K) := OpR.or op_mul (OpR.or op_repT op_rep)
end
def mulA : D → D → Option D
  | .int i, .int j => if cmulB i j then some (.int (i * j)) else none
  | .tup ds, .int k => if (!ds.isEmpty && decide (2 ≤ k)) && smallL (ds.length * k.toNat) then some (.tup (List.replicate k.toNat ds).flatten) else none
  | .lst ds, .int k => if (decide (-(2 ^ 62) ≤ k) && decide (k < 2 ^ 62)) && smallL (ds.length * k.toNat) then some (.lst (List.replicate k.toNat ds).flatten) else none
  | _, _ => none
theorem IsL.rep {K : Fr0} {A : Addr → Prop} {H : Hp} {ds : List D} {xs : List V} (h : IsL K A H ds xs) : ∀ k : Nat, IsL K A H (List.replicate k ds).flatten (List.replicate k xs).flatten
  | 0 => by simp [IsL]
  | k + 1 => by
    rw [List.replicate_succ, List.replicate_succ, List.flatten_cons, List.flatten_cons]
    exact IsL.append h (IsL.rep h k)
theorem ops_mulA {K : Fr0} : OpS K mulA (rMulA K) := by
  intro A H x y d v u Q hn ix iy e k
  cases x <;> cases y <;> simp only [mulA] at e <;> try (cases e; done)
  · rename_i i j
    obtain ⟨e1, e2⟩ := if_some e
    subst e2
    cases ix; cases iy
    exact .inl ⟨i, j, rfl, rfl, cmulB_of e1, k _ H (Same.refl H) rfl⟩
  · rename_i ds j
    obtain ⟨a, xs, rfl, ta, il⟩ := ix
    cases iy
    obtain ⟨e1, e2⟩ := if_some e
    subst e2
    rw [Bool.and_eq_true, Bool.and_eq_true] at e1
    obtain ⟨⟨e3, e4⟩, e5⟩ := e1
    refine .inr (.inl ⟨a, xs, j, rfl, rfl, ta.sq, fun z => ?_, of_decide_eq_true e4, by rw [il.length]; exact of_decide_eq_true e5, fun p hp => k _ _ (same_new hp _) ⟨p, _, rfl, .inl upd_same, IsL.ext (Ext.of_same (same_new hp _)) (fun _ h _ => h) (IsL.rep il _)⟩⟩)
    have := il.length
    rw [z] at this
    have : ds = [] := List.length_eq_zero_iff.mp this.symm
    rw [this] at e3
    simp at e3
  · rename_i ds j
    obtain ⟨a, xs, rfl, _, ta, il⟩ := ix
    cases iy
    obtain ⟨e1, e2⟩ := if_some e
    subst e2
    rw [Bool.and_eq_true, Bool.and_eq_true] at e1
    obtain ⟨⟨e3, e4⟩, e5⟩ := e1
    have e3' := of_decide_eq_true e3
    have e4' := of_decide_eq_true e4
    refine .inr (.inr ⟨a, j, xs, rfl, rfl, ta, by omega, by omega, by rw [il.length]; exact of_decide_eq_true e5, fun p hp => k _ _ (same_new hp _) ⟨p, _, rfl, hn p hp, upd_same, IsL.ext (Ext.of_same (same_new hp _)) (fun _ h _ => h) (IsL.rep il _)⟩⟩)
def negD : D → Option D
  | .int i => some (.int (-i))
  | _ => none
def d1 (F : D → Option D) (f : M D) : M D := bnd f fun x => lift (F x)
section
variable {X : Cx} {c : Fc} {a b e : Expr} {pos : Pos}
theorem de_neg {f : M D} (h : DE X c a f) : DE X c (.UnaryOp .USub a pos) (d1 negD f) := by
  obtain ⟨t, p, w⟩ := h
  refine ⟨_, pe_un un_neg p, fun ρ σ H Q r h => w ρ σ H _ r (Wp.bnd h fun d ρ1 v H1 r1 i1 g1 h1 => ?_)⟩
  obtain ⟨d', e, h2⟩ := h1.lift
  cases d <;> simp only [negD] at e <;> try (cases e; done)
  rename_i i
  cases e
  cases i1
  exact ⟨i, rfl, h2 _ H1 r1 rfl .refl⟩
theorem modBig {pins : List (Addr × Obj)} {σ : St} {H : Hp} {s : Shared} (I : Inv X pins σ H s) : sysModules < s.heap.objs.size := by
  obtain ⟨mb, h1, _⟩ := I.ok.mod.blt
  have hlt : builtinsNs < X.base.objs.size := h1.lt
  have hle : X.base.objs.size ≤ s.heap.objs.size := Nat.le_trans I.ok.bsz I.sz
  have hd : sysModules < builtinsNs ∨ sysModules < mainGlobals := by decide
  have hg : mainGlobals < X.base.objs.size := I.ok.mod.glob.lt
  rcases hd with z | z
  · exact Nat.lt_of_lt_of_le (Nat.lt_trans z hlt) hle
  · exact Nat.lt_of_lt_of_le (Nat.lt_trans z hg) hle
def spar (i j : Nat) (f : M (List D)) : MS := sbnd f fun ds ρ => match ds with
  | [d, e] => .ok (.nx ((ρ.set i (some d)).set j (some e)))
  | _ => .bad
theorem ds_par {i j : Nat} {x y : Str} {f : M (List D)} {px py pt : Pos} {kt k2 pt2} (hN : X.N.Nodup) (ha : DA X c [a, b] f) (hw : swappedStores [.Tuple [.Name x px, .Name y py] kt pt] (.Tuple [a, b] k2 pt2) X.env = pure (some [x, y])) (hc : X.calm = true := by rfl) (hi : X.N[i]? = some x := by rfl) (hj : X.N[j]? = some y := by rfl) (hij : i ≠ j := by decide)
    (hx : X.env.scope.names.lookup x = some .local := by rfl) (hy : X.env.scope.names.lookup y = some .local := by rfl) (ho : i ∉ c.O := by exact of_decide_eq_false rfl) (hp : j ∉ c.O := by exact of_decide_eq_false rfl)
    (hs : swapsWithSole [.Tuple [.Name x px, .Name y py] kt pt] (.Tuple [a, b] k2 pt2) pos.line X.env = pure false := by rfl) :
    DS X c (.Assign [.Tuple [.Name x px, .Name y py] kt pt] (.Tuple [a, b] k2 pt2) pos) (spar i j f) := by
  obtain ⟨t, p, w⟩ := ha
  refine ⟨_, ps_par hc hN hi hj hij hx hy p hw hs, fun ρ σ H D r h => w ρ σ H _ r (WpL.sbnd h fun ds ρ1 vs H1 r1 i1 g1 h1 => ?_)⟩
  match ds, i1, h1 with
  | [], _, h1 => exact h1.elim
  | [_], _, h1 => exact h1.elim
  | [d, e], i1, h1 =>
    obtain ⟨v, u, rfl, j1, j2⟩ := IsL.inv2 i1
    refine ⟨v, u, rfl, h1 _ H1 ((r1.set ho j1).set hp ?_) ((GrS.set ho).trans (GrS.set hp))⟩
    exact (GrS.set (H := H1) ho).is j2
  | _ :: _ :: _ :: _, _, h1 => exact h1.elim
mutual
def immF : D → Bool
  | .tup ds => immFs ds
  | .lst _ => false
  | .dic _ => false
  | _ => true
def immFs : List D → Bool
  | [] => true
  | d :: ds => immF d && immFs ds
end
mutual
theorem Is.immF {K : Fr0} {A B : Addr → Prop} {H : Hp} : ∀ {d : D} {v : V}, immF d = true → Is K A H d v → Is K B H d v
  | .non, _, _, h => h
  | .bl _, _, _, h => h
  | .int _, _, _, h => h
  | .str _, _, _, h => h
  | .tup ds, _, i, ⟨a, xs, hv, h, r⟩ => ⟨a, xs, hv, h, IsL.immF (by simpa [Sk.immF] using i) r⟩
  | .lst _, _, i, _ => by simp [Sk.immF] at i
  | .dic _, _, i, _ => by simp [Sk.immF] at i
  | .fz _, _, _, h => h
  | .exc _, _, _, h => h
theorem IsL.immF {K : Fr0} {A B : Addr → Prop} {H : Hp} : ∀ {ds : List D} {xs : List V}, immFs ds = true → IsL K A H ds xs → IsL K B H ds xs
  | [], _, _, h => h
  | d :: ds, _, i, ⟨x, ys, hx, h, r⟩ => by
    have i' : Sk.immF d = true ∧ immFs ds = true := by simpa [immFs] using i
    exact ⟨x, ys, hx, Is.immF i'.1 h, IsL.immF i'.2 r⟩
end
def ncall (F : List D → R D) (g : M (List D)) : M (List D) := bnd g fun ds ρ => if immFs ds then match F ds with
  | .ok (.lst bs) => if immL bs then .ok (bs, ρ) else .bad
  | _ => .bad else .bad
theorem dn_call {k : Nat} {f : Addr} {fd : FuncData} {ps : List Str} {F : List D → R D} {x : Str} {p : Pos} {es : List Expr} {g : M (List D)} (G : FnOk X.prog X.w X.K X.mg X.base CX0 k f fd ps (spD X.K F)) (hr : Room k X.A) (hg : Gl X x) (hm : X.mg x = some (.ref f)) (hk : PySem.W.keepIn X.K (.ref f) = true) (hb : Binds X.K fd ps [])
    (ha : DA X c (e :: es) g) (hd : (x == ("__debug__" : Str)) = false := by decide) (he : starEach (e :: es) X.env = (false, eval e X.env) :: starEach es X.env := by rfl) (hpl : (backTo pos (starEach es X.env)).any (·.1) = false := by rfl) : DN X c (.Call (.Name x p) (e :: es) [] pos) (ncall F g) := by
  obtain ⟨t, pa, w⟩ := ha
  refine ⟨_, pe_call G hr hg hm hk hb .nil pass0 pa hd he hpl, fun ρ σ H Q r h => w ρ σ H _ r (WpL.bndN h fun ds ρ1 vs H1 r1 i1 g1 h1 => ?_)⟩
  rw [List.append_nil]
  by_cases him : immFs ds = true
  · rw [if_pos him] at h1
    refine ⟨ds, fun _ => False, IsL.immF him i1, fun _ _ => trivial, ?_⟩
    cases ef : F ds with
    | bad => simp only [ef] at h1; exact h1.elim
    | exc z ρ' => simp only [ef] at h1; exact h1.elim
    | ok d =>
      cases d with
      | lst bs =>
        simp only [ef] at h1
        by_cases hb2 : immL bs = true
        · rw [if_pos hb2] at h1
          intro v H' sm i
          obtain ⟨a, xs, rfl, hA, ha2, il⟩ := i
          have hn : H1 a = none := hA.elim False.elim id
          exact h1 a xs H' hn (r1.same sm) (r1.apart_same hn sm) ha2 trivial (IsL.imm hb2 il) (.of_same sm)
        · rw [if_neg hb2] at h1; exact h1.elim
      | _ => simp only [ef] at h1; exact h1.elim
  · rw [if_neg him] at h1; exact h1.elim
end
structure CompS (outer : Scope) (N : List Str) (scope : Scope) (N' : List Str) (nt : Nat) (fr : List Nat) : Prop where
  kind : scope.kind = .function
  nocell : ∀ y ∈ scope.names, y.2 ≠ .cell
  names : ∀ y ∈ scope.names, y.2 = .local → scope.names.lookup y.1 = some .local
  frees : ∀ y ∈ scope.names, y.2 = .free → outer.names.lookup y.1 = some .cell
  len : N'.length = nt + fr.length
  slots : ∀ p ∈ fr.zipIdx, N'[nt + p.2]? = N[p.1]? ∧ ((N[p.1]?).bind fun x => scope.names.lookup x) = some .free
theorem CompS.ok {X : Cx} {outer : Scope} {N : List Str} {scope : Scope} {N' : List Str} {nt : Nat} {fr : List Nat} (S : CompS outer N scope N' nt fr) (h1 : X.env.scope = outer) (h2 : X.N = N) : CompScope X scope N' nt fr := by
  subst h1 h2
  refine ⟨S.kind, S.nocell, S.names, S.frees, S.len, fun i j h => ?_⟩
  have hm : (j, i) ∈ fr.zipIdx := by
    rw [List.mem_iff_getElem?]
    refine ⟨i, ?_⟩
    rw [List.getElem?_zipIdx, h]
    simp
  obtain ⟨h3, h4⟩ := S.slots (j, i) hm
  cases e : X.N[j]? with
  | none =>
    have h4' : ((X.N[j]?).bind fun x => scope.names.lookup x) = some .free := h4
    rw [e] at h4'; cases h4'
  | some x =>
    have h4' : ((X.N[j]?).bind fun x => scope.names.lookup x) = some .free := h4
    rw [e] at h4'
    exact ⟨x, by have h3' : N'[nt + i]? = X.N[j]? := h3
                 rw [h3', e], rfl, h4'⟩
structure Callee (P : Program) (w : World) (K : PySem.W.Frag) (mg : Str → Option Value) (base : Heap) (k : Nat) (x : Str) (ps : List Str) (sp : Sp) : Prop where
  ex : ∃ f fd, FnOk P w K mg base CX0 k f fd ps sp ∧ mg x = some (.ref f) ∧ PySem.W.keepIn K (.ref f) = true ∧ Binds K fd ps []
end L2.Sk
set_option Elab.async false
set_option linter.all false
set_option maxRecDepth 100000
namespace L2.Sk
open PySem PySem.Spec PyProof.Rows
theorem bo_len : bootBuiltins "len" = some (.builtin "len") := by decide +kernel
theorem bo_abs : bootBuiltins "abs" = some (.builtin "abs") := by decide +kernel
theorem bo_max : bootBuiltins "max" = some (.builtin "max") := by decide +kernel
theorem bo_min : bootBuiltins "min" = some (.builtin "min") := by decide +kernel
theorem bo_all : bootBuiltins "all" = some (.builtin "all") := by decide +kernel
theorem bo_divmod : bootBuiltins "divmod" = some (.builtin "divmod") := by decide +kernel
theorem bo_int : bootBuiltins "int" = some (.type "int") := by decide +kernel
theorem bo_bool : bootBuiltins "bool" = some (.type "bool") := by decide +kernel
theorem bo_tuple : bootBuiltins "tuple" = some (.type "tuple") := by decide +kernel
theorem bo_list : bootBuiltins "list" = some (.type "list") := by decide +kernel
theorem bo_isinstance : bootBuiltins "isinstance" = some (.builtin "isinstance") := by decide +kernel
def snil : MS := fun ρ => .ok (.nx ρ)
def snever : MS := fun _ => .bad
theorem dss_nil' {X : Cx} {c : Fc} : DSs X c [] snil := dss_nil
theorem ds_never' {X : Cx} {c : Fc} {st : Stmt} : DS X c st snever := ds_never
theorem ix_any {X : Cx} : IxR X (fun x y H Q => rIxL X.K x y H Q ∨ rIxT X.K x y H Q) := ix_list.or ix_tup
theorem foOk_of {c : Fc} {nt : Nat} {fr : List Nat} {i j : Nat} (h1 : j ∈ c.O) (h2 : nt ≤ i) (h3 : fr[i - nt]? = some j) (h4 : ∀ p ∈ fr.zipIdx, nt + p.2 ≠ i → p.1 ∉ c.O) : FoOk c nt fr (some (i, j)) :=
  ⟨h1, h2, h3, fun k j' h hk => h4 (j', k) (by rw [List.mem_iff_getElem?]; exact ⟨k, by rw [List.getElem?_zipIdx, h]; simp⟩) hk⟩
def eqB (x y : D) : Option D := match sc2 x y with
  | some b => some (.bl b)
  | none => eqA x y
def neB (x y : D) : Option D := match sc2 x y with
  | some b => some (.bl (!b))
  | none => neA x y
theorem op_eqB {X : Cx} {k : Nat} (hr : Room k X.A) : OpR X (compareOp .Eq) (fun x y H Q => rEq x y H Q ∨ rEqA X.K false x y H Q) := OpR.or op_eq (op_eqA hr)
theorem op_neB {X : Cx} {k : Nat} (hr : Room k X.A) : OpR X (compareOp .NotEq) (fun x y H Q => rNe x y H Q ∨ rEqA X.K true x y H Q) := OpR.or op_ne (op_neA hr)
theorem ops_eqB {K : Fr0} : OpS K eqB (fun x y H Q => rEq x y H Q ∨ rEqA K false x y H Q) := by
  intro A H x y d v u Q hn ix iy e k
  unfold eqB at e
  cases e1 : sc2 x y with
  | some b => simp only [e1] at e; exact .inl (ops_eqS A H x y d v u Q hn ix iy (by unfold eqS; rw [e1]; exact e) k)
  | none => simp only [e1] at e; exact .inr (ops_eqA A H x y d v u Q hn ix iy e k)
theorem ops_neB {K : Fr0} : OpS K neB (fun x y H Q => rNe x y H Q ∨ rEqA K true x y H Q) := by
  intro A H x y d v u Q hn ix iy e k
  unfold neB at e
  cases e1 : sc2 x y with
  | some b => simp only [e1] at e; exact .inl (ops_neS A H x y d v u Q hn ix iy (by unfold neS; rw [e1]; exact e) k)
  | none => simp only [e1] at e; exact .inr (ops_neA A H x y d v u Q hn ix iy e k)
end L2.Sk
set_option Elab.async false
set_option linter.all false
set_option maxRecDepth 100000
namespace L2.Sk
section
variable {α β : Type} {ρ : Env} {f g k : M D} {t u : M Bool} {l m : M (List D)} {p q r : MS}
theorem a_ret (a : α) : ret a ρ = .ok (a, ρ) := rfl
theorem a_lift (o : Option α) : lift o ρ = match o with | some a => .ok (a, ρ) | none => .bad := by cases o <;> rfl
theorem a_bnd {f : M α} {k : α → M β} : bnd f k ρ = match f ρ with | .ok (a, ρ') => k a ρ' | .exc x ρ' => .exc x ρ' | .bad => .bad := rfl
theorem a_dv (i : Nat) : dv i ρ = match ρ[i]? with | some (some d) => .ok (d, ρ) | _ => .bad := rfl
theorem a_dcons : dcons f l ρ = match f ρ with | .ok (d, ρ1) => (match l ρ1 with | .ok (ds, ρ2) => .ok (d :: ds, ρ2) | .exc x ρ' => .exc x ρ' | .bad => .bad) | .exc x ρ' => .exc x ρ' | .bad => .bad := by
  simp only [dcons, bnd, sbnd]
  cases f ρ with
  | ok z =>
    obtain ⟨z1, ρ1⟩ := z
    simp only [ret]
    cases l ρ1 with
    | ok z => obtain ⟨z2, ρ2⟩ := z; rfl
    | exc x ρ' => rfl
    | bad => rfl
  | exc x ρ' => rfl
  | bad => rfl
theorem a_dtup : dtup l ρ = match l ρ with | .ok (ds, ρ1) => (if smallL ds.length then .ok (.tup ds, ρ1) else .bad) | .exc x ρ' => .exc x ρ' | .bad => .bad := by
  simp only [dtup, bnd, sbnd]
  cases l ρ with
  | ok z =>
    obtain ⟨z1, ρ1⟩ := z
    cases h : smallL z1.length <;> simp [h, lift, ret]
  | exc x ρ' => rfl
  | bad => rfl
theorem a_dlst : dlst l ρ = match l ρ with | .ok (ds, ρ1) => (if smallL ds.length then .ok (.lst ds, ρ1) else .bad) | .exc x ρ' => .exc x ρ' | .bad => .bad := by
  simp only [dlst, bnd, sbnd]
  cases l ρ with
  | ok z =>
    obtain ⟨z1, ρ1⟩ := z
    cases h : smallL z1.length <;> simp [h, lift, ret]
  | exc x ρ' => rfl
  | bad => rfl
theorem a_nlst : nlst l ρ = match l ρ with | .ok (ds, ρ1) => (if immL ds && smallL ds.length then .ok (ds, ρ1) else .bad) | .exc x ρ' => .exc x ρ' | .bad => .bad := by
  simp only [nlst, bnd, sbnd]
  cases l ρ with
  | ok z =>
    obtain ⟨z1, ρ1⟩ := z
    cases h : (immL z1 && smallL z1.length) <;> simp [h, lift, ret]
  | exc x ρ' => rfl
  | bad => rfl
theorem a_d2 (F : D → D → Option D) : d2 F f g ρ = match f ρ with | .ok (x, ρ1) => (match g ρ1 with | .ok (y, ρ2) => (match F x y with | some d => .ok (d, ρ2) | none => .bad) | .exc x ρ' => .exc x ρ' | .bad => .bad) | .exc x ρ' => .exc x ρ' | .bad => .bad := by
  simp only [d2, bnd, sbnd]
  cases f ρ with
  | ok z =>
    obtain ⟨z1, ρ1⟩ := z
    dsimp only <;>
    cases g ρ1 with
    | ok z => obtain ⟨z2, ρ2⟩ := z; (dsimp only; cases F z1 z2 <;> rfl)
    | exc x ρ' => rfl
    | bad => rfl
  | exc x ρ' => rfl
  | bad => rfl
theorem a_d1 (F : D → Option D) : d1 F f ρ = match f ρ with | .ok (x, ρ1) => (match F x with | some d => .ok (d, ρ1) | none => .bad) | .exc x ρ' => .exc x ρ' | .bad => .bad := by
  simp only [d1, bnd, sbnd]
  cases f ρ with
  | ok z =>
    obtain ⟨z1, ρ1⟩ := z
    (dsimp only; cases F z1 <;> rfl)
  | exc x ρ' => rfl
  | bad => rfl
theorem a_dcall (F : List D → Option D) : dcall F l ρ = match l ρ with | .ok (xs, ρ1) => (match F xs with | some d => .ok (d, ρ1) | none => .bad) | .exc x ρ' => .exc x ρ' | .bad => .bad := by
  simp only [dcall, bnd, sbnd]
  cases l ρ with
  | ok z =>
    obtain ⟨z1, ρ1⟩ := z
    (dsimp only; cases F z1 <;> rfl)
  | exc x ρ' => rfl
  | bad => rfl
theorem a_dcallF (F : List D → R D) : dcallF F l ρ = match l ρ with | .ok (xs, ρ1) => (match F xs with | .ok d => .ok (d, ρ1) | _ => .bad) | .exc x ρ' => .exc x ρ' | .bad => .bad := by
  simp only [dcallF, bnd, sbnd]
  cases l ρ with
  | ok z =>
    obtain ⟨z1, ρ1⟩ := z
    cases F z1 <;> rfl
  | exc x ρ' => rfl
  | bad => rfl
theorem a_disi (T : String) : disi T f ρ = match f ρ with | .ok (d, ρ1) => .ok (.bl (instB (tyD d) T), ρ1) | .exc x ρ' => .exc x ρ' | .bad => .bad := by
  simp only [disi, bnd, sbnd]
  cases f ρ with
  | ok z =>
    obtain ⟨z1, ρ1⟩ := z
    rfl
  | exc x ρ' => rfl
  | bad => rfl
theorem a_tst : tst f ρ = match f ρ with | .ok (d, ρ1) => (match asB d with | some b => .ok (b, ρ1) | none => .bad) | .exc x ρ' => .exc x ρ' | .bad => .bad := by
  simp only [tst, bnd, sbnd]
  cases f ρ with
  | ok z =>
    obtain ⟨z1, ρ1⟩ := z
    (dsimp only; cases asB z1 <;> rfl)
  | exc x ρ' => rfl
  | bad => rfl
theorem asB_bl (b : Bool) : asB (.bl b) = some b := rfl
theorem a_tnot : tnot t ρ = match t ρ with | .ok (b, ρ1) => .ok (!b, ρ1) | .exc x ρ' => .exc x ρ' | .bad => .bad := by
  simp only [tnot, bnd, sbnd]
  cases t ρ with
  | ok z =>
    obtain ⟨z1, ρ1⟩ := z
    rfl
  | exc x ρ' => rfl
  | bad => rfl
theorem a_tand : tand t u ρ = match t ρ with | .ok (b, ρ1) => (bif b then u ρ1 else .ok (false, ρ1)) | .exc x ρ' => .exc x ρ' | .bad => .bad := by
  simp only [tand, bnd, sbnd]
  cases t ρ with
  | ok z =>
    obtain ⟨z1, ρ1⟩ := z
    cases z1 <;> rfl
  | exc x ρ' => rfl
  | bad => rfl
theorem a_tor : tor t u ρ = match t ρ with | .ok (b, ρ1) => (bif b then .ok (true, ρ1) else u ρ1) | .exc x ρ' => .exc x ρ' | .bad => .bad := by
  simp only [tor, bnd, sbnd]
  cases t ρ with
  | ok z =>
    obtain ⟨z1, ρ1⟩ := z
    cases z1 <;> rfl
  | exc x ρ' => rfl
  | bad => rfl
theorem a_dand : dand f g ρ = match f ρ with | .ok (d, ρ1) => (match asB d with | some b => (bif b then g ρ1 else .ok (.bl false, ρ1)) | none => .bad) | .exc x ρ' => .exc x ρ' | .bad => .bad := by
  simp only [dand, bnd, sbnd]
  cases f ρ with
  | ok z =>
    obtain ⟨z1, ρ1⟩ := z
    simp only [a_lift]
    cases asB z1 with
    | none => rfl
    | some b => cases b <;> rfl
  | exc x ρ' => rfl
  | bad => rfl
theorem a_dor : dor f g ρ = match f ρ with | .ok (d, ρ1) => (match asB d with | some b => (bif b then .ok (.bl true, ρ1) else g ρ1) | none => .bad) | .exc x ρ' => .exc x ρ' | .bad => .bad := by
  simp only [dor, bnd, sbnd]
  cases f ρ with
  | ok z =>
    obtain ⟨z1, ρ1⟩ := z
    simp only [a_lift]
    cases asB z1 with
    | none => rfl
    | some b => cases b <;> rfl
  | exc x ρ' => rfl
  | bad => rfl
theorem a_dnot : dnot f ρ = match f ρ with | .ok (d, ρ1) => (match asB d with | some b => .ok (.bl (!b), ρ1) | none => .bad) | .exc x ρ' => .exc x ρ' | .bad => .bad := by
  simp only [dnot, bnd, sbnd]
  cases f ρ with
  | ok z =>
    obtain ⟨z1, ρ1⟩ := z
    simp only [a_lift]
    cases asB z1 with
    | none => rfl
    | some b => cases b <;> rfl
  | exc x ρ' => rfl
  | bad => rfl
theorem a_dif : dif t f g ρ = match t ρ with | .ok (b, ρ1) => (bif b then f ρ1 else g ρ1) | .exc x ρ' => .exc x ρ' | .bad => .bad := by
  simp only [dif, bnd, sbnd]
  cases t ρ with
  | ok z =>
    obtain ⟨z1, ρ1⟩ := z
    cases z1 <;> rfl
  | exc x ρ' => rfl
  | bad => rfl
theorem a_sif : sif t p q ρ = match t ρ with | .ok (b, ρ1) => (bif b then p ρ1 else q ρ1) | .exc x ρ' => .exc x ρ' | .bad => .bad := by
  simp only [sif, bnd, sbnd]
  cases t ρ with
  | ok z =>
    obtain ⟨z1, ρ1⟩ := z
    cases z1 <;> rfl
  | exc x ρ' => rfl
  | bad => rfl
theorem a_sseq : sseq p q ρ = match p ρ with | .ok (.nx ρ') => q ρ' | z => z := by
  unfold sseq
  cases p ρ with
  | ok z => cases z <;> rfl
  | exc x ρ' => rfl
  | bad => rfl
theorem a_sret : sret f ρ = match f ρ with | .ok (d, ρ1) => .ok (.rt d ρ1) | .exc x ρ' => .exc x ρ' | .bad => .bad := by
  simp only [sret, bnd, sbnd]
  cases f ρ with
  | ok z =>
    obtain ⟨z1, ρ1⟩ := z
    rfl
  | exc x ρ' => rfl
  | bad => rfl
theorem a_sset (i : Nat) : sset i f ρ = match f ρ with | .ok (d, ρ1) => .ok (.nx (ρ1.set i (some d))) | .exc x ρ' => .exc x ρ' | .bad => .bad := by
  simp only [sset, bnd, sbnd]
  cases f ρ with
  | ok z =>
    obtain ⟨z1, ρ1⟩ := z
    rfl
  | exc x ρ' => rfl
  | bad => rfl
theorem a_ssetN (i : Nat) : ssetN i l ρ = match l ρ with | .ok (ds, ρ1) => .ok (.nx (ρ1.set i (some (.lst ds)))) | .exc x ρ' => .exc x ρ' | .bad => .bad := by
  simp only [ssetN, bnd, sbnd]
  cases l ρ with
  | ok z =>
    obtain ⟨z1, ρ1⟩ := z
    rfl
  | exc x ρ' => rfl
  | bad => rfl
theorem a_sexpr : sexpr f ρ = match f ρ with | .ok (_, ρ1) => .ok (.nx ρ1) | .exc x ρ' => .exc x ρ' | .bad => .bad := by
  simp only [sexpr, bnd, sbnd]
  cases f ρ with
  | ok z =>
    obtain ⟨z1, ρ1⟩ := z
    rfl
  | exc x ρ' => rfl
  | bad => rfl
theorem a_snil : snil ρ = .ok (.nx ρ) := rfl
theorem a_spar (i j : Nat) : spar i j l ρ = match l ρ with | .ok ([d, e], ρ1) => .ok (.nx ((ρ1.set i (some d)).set j (some e))) | .ok _ => .bad | .exc x ρ' => .exc x ρ' | .bad => .bad := by
  simp only [spar, bnd, sbnd]
  cases l ρ with
  | ok z =>
    obtain ⟨z1, ρ1⟩ := z
    match z1 with
    | [] => rfl
    | [_] => rfl
    | [_, _] => rfl
    | _ :: _ :: _ :: _ => rfl
  | exc x ρ' => rfl
  | bad => rfl
theorem a_sasg (G : D → Env → Option Env) : sasg f G ρ = match f ρ with | .ok (d, ρ1) => (match G d ρ1 with | some ρ2 => .ok (.nx ρ2) | none => .bad) | .exc x ρ' => .exc x ρ' | .bad => .bad := by
  simp only [sasg, bnd, sbnd]
  cases f ρ with
  | ok z =>
    obtain ⟨z1, ρ1⟩ := z
    dsimp only <;>
    cases G z1 ρ1 <;> rfl
  | exc x ρ' => rfl
  | bad => rfl
theorem a_sfor (G : D → Env → Option Env) (b : MS) : sfor l G b ρ = match l ρ with | .ok (ds, ρ1) => dloop G b ds ρ1 | .exc x ρ' => .exc x ρ' | .bad => .bad := by
  simp only [sfor, bnd, sbnd]
  cases l ρ with
  | ok z =>
    obtain ⟨z1, ρ1⟩ := z
    rfl
  | exc x ρ' => rfl
  | bad => rfl
theorem a_dseq : dseq f ρ = match f ρ with | .ok (d, ρ1) => (match seqD d with | some ds => .ok (ds, ρ1) | none => .bad) | .exc x ρ' => .exc x ρ' | .bad => .bad := by
  simp only [dseq, bnd, sbnd]
  cases f ρ with
  | ok z =>
    obtain ⟨z1, ρ1⟩ := z
    (dsimp only; cases seqD z1 <;> rfl)
  | exc x ρ' => rfl
  | bad => rfl
theorem a_drng1 : drng1 l ρ = match l ρ with | .ok (d, ρ1) => (match rng1 d with | some ds => .ok (ds, ρ1) | none => .bad) | .exc x ρ' => .exc x ρ' | .bad => .bad := by
  simp only [drng1, bnd, sbnd]
  cases l ρ with
  | ok z =>
    obtain ⟨z1, ρ1⟩ := z
    (dsimp only; cases rng1 z1 <;> rfl)
  | exc x ρ' => rfl
  | bad => rfl
theorem a_dzip : dzip l ρ = match l ρ with | .ok (d, ρ1) => (match zip2 d with | some ds => .ok (ds, ρ1) | none => .bad) | .exc x ρ' => .exc x ρ' | .bad => .bad := by
  simp only [dzip, bnd, sbnd]
  cases l ρ with
  | ok z =>
    obtain ⟨z1, ρ1⟩ := z
    (dsimp only; cases zip2 z1 <;> rfl)
  | exc x ρ' => rfl
  | bad => rfl
theorem a_dcomp {nt : Nat} {fr : List Nat} {fo : Option (Nat × Nat)} {G : D → Env → Option Env} {e : M D} : dcomp nt fr fo l G t e ρ = match l ρ with
    | .ok (ds, ρ1) => (match dcompL G t e ds [] (centry nt fr ρ1) with | .ok (ys, ρe) => .ok (.lst ys, back fo ρe ρ1) | _ => .bad) | .exc x ρ' => .exc x ρ' | .bad => .bad := by
  simp only [dcomp, bnd, sbnd]
  cases l ρ with
  | ok z =>
    obtain ⟨z1, ρ1⟩ := z
    dsimp only <;>
    cases dcompL G t e z1 [] (centry nt fr ρ1) with
    | ok z => obtain ⟨z2, ρ2⟩ := z; rfl
    | exc x ρ' => rfl
    | bad => rfl
  | exc x ρ' => rfl
  | bad => rfl
theorem a_dcallIO (F : List D → List D → R (D × List D)) (i : Nat) : dcallIO F i l ρ = match getL i ρ with
    | none => .bad
    | some _ => (match l ρ with
      | .ok (ds, ρ1) => (match getL i ρ1 with
        | none => .bad
        | some bs => (match F bs ds with | .ok (d, bs') => .ok (d, ρ1.set i (some (.lst bs'))) | _ => .bad))
      | .exc x ρ' => .exc x ρ' | .bad => .bad) := by
  simp only [dcallIO, bnd]
  cases getL i ρ with
  | none => rfl
  | some _ =>
    dsimp only <;>
    cases l ρ with
    | ok z =>
      obtain ⟨z1, ρ1⟩ := z
      dsimp only <;>
      cases getL i ρ1 with
      | none => rfl
      | some bs =>
        dsimp only <;>
        cases F bs z1 with
        | ok z => obtain ⟨z2, z3⟩ := z; rfl
        | exc x ρ' => rfl
        | bad => rfl
    | exc x ρ' => rfl
    | bad => rfl
theorem a_ncall (F : List D → R D) : ncall F l ρ = match l ρ with
    | .ok (ds, ρ1) => (if immFs ds then (match F ds with | .ok (.lst bs) => (if immL bs then .ok (bs, ρ1) else .bad) | _ => .bad) else .bad) | .exc x ρ' => .exc x ρ' | .bad => .bad := by
  simp only [ncall, bnd, sbnd]
  cases l ρ with
  | ok z =>
    obtain ⟨z1, ρ1⟩ := z
    dsimp only <;>
    cases immFs z1 with
    | false => rfl
    | true =>
      simp only [if_true]
      cases F z1 with
      | ok z => cases z <;> rfl
      | exc x ρ' => rfl
      | bad => rfl
  | exc x ρ' => rfl
  | bad => rfl
theorem a_dixO (i : Nat) : dixO i f ρ = match getL i ρ with
    | none => .bad
    | some _ => (match f ρ with
      | .ok (k, ρ1) => (match k, getL i ρ1 with
        | .int n, some ds => (match atI ds n with | some d => .ok (d, ρ1) | none => .bad)
        | _, _ => .bad)
      | .exc x ρ' => .exc x ρ' | .bad => .bad) := by
  simp only [dixO, bnd]
  cases getL i ρ with
  | none => rfl
  | some _ =>
    dsimp only <;>
    cases f ρ with
    | ok z =>
      obtain ⟨z1, ρ1⟩ := z
      dsimp only <;>
      cases z1 <;> cases getL i ρ1 <;> try rfl
    | exc x ρ' => rfl
    | bad => rfl
theorem a_ssetI (i : Nat) : ssetI i k f ρ = match f ρ with
    | .ok (d, ρ1) => (match getL i ρ1 with
      | none => .bad
      | some _ => (match k ρ1 with
        | .ok (j, ρ2) => (match j, getL i ρ2 with
          | .int n, some ds => (match ixN ds.length n with
            | some q => if imm d then .ok (.nx (ρ2.set i (some (.lst (ds.set q d))))) else .bad
            | none => .bad)
          | _, _ => .bad)
        | .exc x ρ' => .exc x ρ' | .bad => .bad))
    | .exc x ρ' => .exc x ρ' | .bad => .bad := by
  simp only [ssetI, bnd, sbnd]
  cases f ρ with
  | ok z =>
    obtain ⟨z1, ρ1⟩ := z
    dsimp only <;>
    cases getL i ρ1 with
    | none => rfl
    | some _ =>
      dsimp only <;>
      cases k ρ1 with
      | ok z =>
        obtain ⟨z2, ρ2⟩ := z
        dsimp only <;>
        cases z2 <;> cases getL i ρ2 <;> try rfl
      | exc x ρ' => rfl
      | bad => rfl
  | exc x ρ' => rfl
  | bad => rfl
theorem a_dlenO (i : Nat) : dlenO i ρ = match getL i ρ with | some ds => .ok (.int ds.length, ρ) | none => .bad := by
  unfold dlenO
  cases getL i ρ <;> rfl
theorem a_dtupO (i : Nat) : dtupO i ρ = match getL i ρ with | some ds => .ok (.tup ds, ρ) | none => .bad := by
  unfold dtupO
  cases getL i ρ <;> rfl
theorem a_dneO (i : Nat) : dneO i f ρ = match getL i ρ with
    | none => .bad
    | some _ => (match f ρ with
      | .ok (y, ρ1) => (match getL i ρ1 with
        | none => .bad
        | some ds => (match neA (.lst ds) y with | some d => .ok (d, ρ1) | none => .bad))
      | .exc x ρ' => .exc x ρ' | .bad => .bad) := by
  simp only [dneO, bnd]
  cases getL i ρ with
  | none => rfl
  | some _ =>
    dsimp only <;>
    cases f ρ with
    | ok z =>
      obtain ⟨z1, ρ1⟩ := z
      dsimp only <;>
      cases getL i ρ1 with
      | none => rfl
      | some ds => (dsimp only; cases neA (.lst ds) z1 <;> rfl)
    | exc x ρ' => rfl
    | bad => rfl
theorem a_dappend (i : Nat) : dappend i f ρ = match getL i ρ with
    | none => .bad
    | some _ => (match f ρ with
      | .ok (d, ρ1) => (match getL i ρ1 with
        | some ds => if imm d && smallL (ds.length + 1) then .ok (.non, ρ1.set i (some (.lst (ds ++ [d])))) else .bad
        | none => .bad)
      | .exc x ρ' => .exc x ρ' | .bad => .bad) := by
  simp only [dappend, bnd]
  cases getL i ρ with
  | none => rfl
  | some _ =>
    dsimp only <;>
    cases f ρ with
    | ok z =>
      obtain ⟨z1, ρ1⟩ := z
      dsimp only <;>
      cases getL i ρ1 <;> rfl
    | exc x ρ' => rfl
    | bad => rfl
theorem a_dsl {g k : M (Option Int)} : dsl f g k ρ = match f ρ with
    | .ok (d, ρ1) => (match g ρ1 with
      | .ok (lo, ρ2) => (match k ρ2 with
        | .ok (hi, ρ3) => (match slD d lo hi with | some x => .ok (x, ρ3) | none => .bad)
        | .exc x ρ' => .exc x ρ' | .bad => .bad)
      | .exc x ρ' => .exc x ρ' | .bad => .bad)
    | .exc x ρ' => .exc x ρ' | .bad => .bad := by
  simp only [dsl, bnd, sbnd]
  cases f ρ with
  | ok z =>
    obtain ⟨z1, ρ1⟩ := z
    dsimp only <;>
    cases g ρ1 with
    | ok z =>
      obtain ⟨z2, ρ2⟩ := z
      dsimp only <;>
      cases k ρ2 with
      | ok z => obtain ⟨z3, ρ3⟩ := z; (dsimp only; cases slD z1 z2 z3 <;> rfl)
      | exc x ρ' => rfl
      | bad => rfl
    | exc x ρ' => rfl
    | bad => rfl
  | exc x ρ' => rfl
  | bad => rfl
theorem a_dpart : dpart f ρ = match f ρ with | .ok (.int i, ρ1) => .ok (some i, ρ1) | .ok _ => .bad | .exc x ρ' => .exc x ρ' | .bad => .bad := by
  simp only [dpart, bnd, sbnd]
  cases f ρ with
  | ok z =>
    obtain ⟨z1, ρ1⟩ := z
    cases z1 <;> rfl
  | exc x ρ' => rfl
  | bad => rfl
end
theorem sm_of {n : Nat} (h : n ≤ 1000000) : smallL n = true := by
  unfold smallL
  exact decide_eq_true (Nat.le_trans h (by rw [PySem.sizeLine_eq]; decide))
theorem run_fn' {n p : Nat} {body : MS} {ds : List D} {d : D} {ρ : Env} (h : ds.length = p) (e : body (envOf n ds) = .ok (.rt d ρ)) : dfn n p body ds = .ok d := by
  unfold dfn; rw [if_pos h, e]
theorem run_io {n p : Nat} {body : MS} {bs ds bs' : List D} {d : D} {ρ : Env} (h : ds.length + 1 = p) (e : body (envOf n (.lst bs :: ds)) = .ok (.rt d ρ)) (g : getL 0 ρ = some bs') : dfnIO n p body bs ds = .ok (d, bs') := by
  unfold dfnIO; rw [if_pos h, e]; simp only [g]
end L2.Sk
set_option Elab.async false
set_option linter.all false
set_option maxRecDepth 100000
namespace L2.Sk
open PySem PySem.Spec PyProof.Rows
section
variable {prog : Program} {w : World} {A : Around} {E : Value → Shared → Prop} {s : Shared}
end
section
variable {X : Cx} {c : Fc} {a b e : Expr} {pos : Pos} {es : List Expr} {kk : Nat} {tp : Pos}
def enumF (k : Nat) : List D → List D
  | [] => []
  | x :: xs => .tup [.int (k : Nat), x] :: enumF (k + 1) xs
def enum1 : List D → Option (List D)
  | [.tup xs] => some (enumF 0 xs)
  | _ => none
def denum (f : M (List D)) : M (List D) := bnd f fun ds => lift (enum1 ds)
end
def vD : D → V
  | .bl b => .bl b
  | .int i => .int i
  | .str x => .str x
  | _ => .non
def flD : D → Bool
  | .non => true
  | .bl _ => true
  | .int _ => true
  | .str _ => true
  | _ => false
def sqD : D → Option (List D)
  | .tup ds => some ds
  | .lst ds => some ds
  | _ => none
def inD (x y : D) : Option D := match sqD y with
  | some ds => if flD x && ds.all flD then some (.bl (ds.any fun d => eqV (vD d) (vD x))) else none
  | none => none
theorem a_denum {l : M (List D)} {ρ : Env} : denum l ρ = match l ρ with | .ok (d, ρ1) => (match enum1 d with | some ds => .ok (ds, ρ1) | none => .bad) | .exc x ρ' => .exc x ρ' | .bad => .bad := by
  simp only [denum, bnd]
  cases l ρ with
  | ok z => obtain ⟨z1, ρ1⟩ := z; (dsimp only; cases enum1 z1 <;> rfl)
  | exc x ρ' => rfl
  | bad => rfl
end L2.Sk
set_option Elab.async false
set_option linter.all false
set_option maxRecDepth 100000
namespace L2.Sk
open PySem PySem.Spec PyProof.Rows
section
variable {X : Cx} {tg iter elt : Expr} {ifs : List Expr} {scope : Scope} {pos : Pos} {wi : TI} {N' : List Str} {nt : Nat} {fr : List Nat}
end
section
variable {X : Cx} {c : Fc}
end
end L2.Sk
set_option Elab.async false
set_option linter.all false
set_option maxRecDepth 100000
namespace L2.Sk
open PySem PySem.Spec PyProof.Rows
def maxI : List Int → Int
  | [] => 0
  | [n] => n
  | n :: m :: ns => max n (maxI (m :: ns))
section
variable {X : Cx}
end
def maxLD : List D → Option D
  | [.lst ds] => match intsD ds with
    | some (n :: ns) => some (.int (maxI (n :: ns)))
    | _ => none
  | _ => none
end L2.Sk
set_option Elab.async false
set_option linter.all false
set_option maxRecDepth 100000
namespace L2.Sk
open PySem PySem.Spec PyProof.Rows
def wloop (t : M Bool) (b : MS) : Nat → MS
  | 0, _ => .bad
  | n + 1, ρ => match t ρ with
    | .ok (true, ρ1) => match b ρ1 with
      | .ok (.nx ρ2) => wloop t b n ρ2
      | .ok (.ct ρ2) => wloop t b n ρ2
      | .ok (.bk ρ2) => .ok (.nx ρ2)
      | .ok (.rt d ρ2) => .ok (.rt d ρ2)
      | .exc x ρ2 => .exc x ρ2
      | .bad => .bad
    | .ok (false, ρ1) => .ok (.nx ρ1)
    | .exc x ρ1 => .exc x ρ1
    | .bad => .bad
open Classical in
section
variable {X : Cx} {c : Fc} {pos : Pos}
end
end L2.Sk
set_option Elab.async false
set_option linter.all false
set_option maxRecDepth 100000
namespace L2.Sk
open PySem PySem.Spec PyProof.Rows
def TupK (K : Fr0) (a : Addr) (ns : List Int) : Prop := ∃ (o : Obj) (its : Array Value) (n : Nat), K.lookup a = some o ∧ o.cls = .type "tuple" ∧ o.data = .seq its n ∧ its.size ≤ sizeLine ∧ Vals (ns.map V.int) its.toList
theorem TupK.is {K : Fr0} {a : Addr} {ns : List Int} (h : TupK K a ns) (H : Hp) (A : Addr → Prop) : Is K A H (.tup (ns.map .int)) (.ref a) := ⟨a, _, rfl, .inr h, isL_ints ns⟩
theorem de_globT {X : Cx} {c : Fc} {x : Str} {a : Addr} {ns : List Int} {pos : Pos} (hg : Gl X x) (hm : X.mg x = some (.ref a)) (ht : TupK X.K a ns) (hdb : (x == ("__debug__" : Str)) = false := by decide) : DE X c (.Name x pos) (ret (.tup (ns.map .int))) :=
  de_glob (v := .ref a) hg hm rfl (fun H A => ht.is H A) hdb
theorem tupK2 {K : Fr0} {a : Addr} {od : Option Addr} {its : Array Value} {n : Nat} {sl : Array (Option Value)} {i j : Int} {t u : Tok} (h : K.lookup a = some ⟨.type "tuple", od, .seq its n, sl⟩) (e : its.toList = [.int i t, .int j u]) : TupK K a [i, j] :=
  ⟨_, its, n, h, rfl, rfl, by
    have : its.size = 2 := by rw [← Array.length_toList, e]; rfl
    rw [this]; decide, by rw [e]; exact .cons ⟨t, rfl⟩ (.cons ⟨u, rfl⟩ .nil)⟩
end L2.Sk
set_option Elab.async false
set_option linter.all false
set_option maxRecDepth 100000
namespace L2.Sk
open PySem PySem.Spec PyProof.Rows
def FlyAt (h : Heap) (e T : Addr) (cls : Value) : Prop :=
  ∃ oe vs oT ts a0, h.get? e = some oe ∧ (oe.cls = cls ∧ vs[2]? = some .none ∧ vs[0]? = some a0) ∧ oe.data = .fields vs ∧ vs[1]? = some (.ref T) ∧ T ≠ e ∧ h.get? T = some oT ∧ oT.data = .fields ts ∧ ts[3]? = some .none
def CX1 (P : Program) (w : World) : CXT := fun outer H s E u s' => ∃ e T C H', u = .ref e ∧ s'.os = s.os ∧ AllBare s'.gens ∧ Un (frs outer) [] H H' s.heap s'.heap ∧ HOk P w H' s'.heap ∧
  s.heap.get? e = none ∧ s.heap.get? T = none ∧ H' e = none ∧ H' T = none ∧ FlyAt s'.heap e T (.ref C) ∧ E (.ref C) none H'
structure Lft (h h' : Heap) (ch fs : List Addr) : Prop where
  keep : ∀ b o, b ∉ ch → b ∉ fs → h.get? b = some o → h'.get? b = some o
  slot : ∀ b o, b ∈ fs → h.get? b = some o → ∃ sl, h'.get? b = some { o with slots := sl }
section
variable {M : Model} {A : Around} {E : Value → Shared → Prop} {s : Shared}
abbrev quieted : Obj → Obj := Obj.mapFields (·.setIfInBounds 3 Value.none)
theorem notFr {base : Heap} {l : List PySem.Env} {h : Heap} {b : Addr} {o : Obj} {vs : Array Value} (hl : h.FunFrames base l) (hb : h.get? b = some o) (hd : o.data = .fields vs) : b ∉ frs l := fun z => by
  obtain ⟨_, o', ho', hn⟩ := hl.mem z
  rw [hb] at ho'
  cases ho'
  exact hn vs hd
theorem mark_out {e T : Addr} {oe oT : Obj} {vs ts : Array Value} {Q : Unit → Shared → Prop} (he : s.heap.get? e = some oe) (hd : oe.data = .fields vs) (h1 : vs[1]? = some (.ref T)) (hT : s.heap.get? T = some oT) (hdT : oT.data = .fields ts) (h3 : 3 < ts.size)
    (k : Q () { s with heap := s.heap.update T quieted }) : wpAny M A (setFlight (.ref e) none) Q E s := by
  unfold setFlight
  refine wpAny_bind (wpAny_field he hd h1 ?_)
  have t : (Value.ref T != Value.none) = true := by simp
  rw [if_pos t]
  exact wpAny_setField hT hdT h3 k
theorem quiet_here {h : Heap} {T : Addr} {oT : Obj} {ts : Array Value} (hT : h.get? T = some oT) (hdT : oT.data = .fields ts) (h3 : 3 < ts.size) : ∃ o2 t2, (h.update T quieted).get? T = some o2 ∧ o2.data = .fields t2 ∧ t2[3]? = some .none :=
  ⟨_, _, Heap.get?_update_self _ hT (Obj.isFreed_of_fields (Obj.data_mapFields hdT _)), Obj.data_mapFields hdT _, by simp [h3]⟩
theorem quiet_else {h : Heap} {T b : Addr} (n : b ≠ T) : (h.update T quieted).get? b = h.get? b := Heap.get?_update_other _ _ (Ne.symm n)
theorem one_more {base : Heap} {env : PySem.Env} {outer : List PySem.Env} {L e : Addr} {oe : Obj} {vs : Array Value} {head : Value} {had : Bool} {Q : Unit → Shared → Prop} (hfr : A.frames = some (env :: outer)) (hl : s.heap.FunFrames base (env :: outer)) (hf : env.frame = some L)
    (he : s.heap.get? e = some oe) (hd : oe.data = .fields vs) (h1 : 1 < vs.size)
    (k : ∀ h' T, s.heap.get? T = none → T ≠ e → (∀ b o, b ≠ e → b ∉ frs (env :: outer) → s.heap.get? b = some o → h'.get? b = some o) → (∀ b o, b ∈ frs (env :: outer) → s.heap.get? b = some o → ∃ sl, h'.get? b = some { o with slots := sl }) →
      h'.get? e = some (Obj.mapFields (·.setIfInBounds 1 (Value.ref T)) oe) → (∃ oT ts, h'.get? T = some oT ∧ oT.data = .fields ts ∧ 3 < ts.size) → h'.FunFrames base (env :: outer) → Q () { s with heap := h' }) :
    wpAny M A (do let a ← frameOf env; let pl ← entryPlaceOf L had; let b ← EntryCells.newEntry head a .none (rawInt L) .none pl; setField (.ref e) 1 b) Q E s := by
  have hene := notFr hl he hd
  refine wpAny_bind (wpAny_frameOf_fun hfr hl hf fun h₁ hs₁ => wpAny_bind (wpAny_entryPlaceOf fun pl hpl => ?_))
  unfold EntryCells.newEntry newFields
  have he₁ : h₁.get? e = some oe := (hs₁.2.1 e hene).trans he
  refine wpAny_bind (wpAny_newObj_type ?_ (hpl.sizeOk5 _ _ _ _ _))
  generalize hob : ({ cls := Value.type "traceback", dict := none, data := Data.fields ([head, Value.ref L, Value.none, rawInt L, Value.none] ++ (if pl.isEmpty then List.replicate 6 Value.none else pl)).toArray } : Obj) = ob
  have nT : h₁.objs.size ≠ e := Nat.ne_of_gt (Heap.lt_size he₁)
  have hnT : s.heap.get? h₁.objs.size = none := by
    cases q : s.heap.get? h₁.objs.size with
    | none => rfl
    | some o =>
      obtain ⟨sl, q'⟩ := hs₁.2.2 _ o q
      exact absurd (Heap.lt_size q') (Nat.lt_irrefl _)
  refine wpAny_setField (Heap.get?_push_of_some _ he₁) hd h1 ?_
  have keep : ∀ b o, b ≠ e → h₁.get? b = some o → ((h₁.push ob).update e (Obj.mapFields (·.setIfInBounds 1 (Value.ref h₁.objs.size)))).get? b = some o := fun b o hb q => (Heap.get?_update_other _ _ (Ne.symm hb)).trans (Heap.get?_push_of_some _ q)
  refine k _ h₁.objs.size hnT nT (fun b o hb hf q => keep b o hb ((hs₁.2.1 b hf).trans q)) (fun b o hb q => ?_) (Heap.get?_update_self _ (Heap.get?_push_of_some _ he₁) (Obj.isFreed_of_fields (Obj.data_mapFields hd _))) ⟨ob, ([head, Value.ref L, Value.none, rawInt L, Value.none] ++ (if pl.isEmpty then List.replicate 6 Value.none else pl)).toArray, ?_, by rw [← hob], by simp⟩ (hl.of_keeps fun b o q hn => ?_)
  · obtain ⟨sl, q'⟩ := hs₁.2.2 b o q
    exact ⟨sl, keep b _ (fun z => hene (z ▸ hb)) q'⟩
  · exact (Heap.get?_update_other _ _ (Ne.symm nT)).trans (Heap.get?_push_size _ (by rw [← hob]; rfl))
  · obtain ⟨sl, q'⟩ := hs₁.2.2 b o q
    exact ⟨_, keep b _ (fun z => by subst z; rw [he] at q; cases q; exact hn vs hd) q', rfl⟩
theorem more_out {base : Heap} {env : PySem.Env} {outer : List PySem.Env} {L e : Addr} {oe : Obj} {vs : Array Value} {a0 head : Value} {had : Bool} {Q : Unit → Shared → Prop} (hfr : A.frames = some (env :: outer)) (hl : s.heap.FunFrames base (env :: outer)) (hf : env.frame = some L)
    (he : s.heap.get? e = some oe) (hd : oe.data = .fields vs) (h1 : 1 < vs.size) (h2 : vs[2]? = some .none) (h0 : vs[0]? = some a0)
    (k : ∀ h' T', Lft s.heap h' [e] (frs (env :: outer)) → FlyAt h' e T' oe.cls → s.heap.get? T' = none → Q () { s with heap := h' }) :
    wpAny M A (do let a ← frameOf env; let pl ← entryPlaceOf L had; let b ← EntryCells.newEntry head a .none (rawInt L) .none pl; setField (.ref e) 1 b) (fun _ s' => wpAny M A (setFlight (.ref e) none) Q E s') E s := by
  refine one_more hfr hl hf he hd h1 fun h' T nT ne kp sl ee eT _ => ?_
  obtain ⟨oT, ts, gT, dT, sT⟩ := eT
  have dd := Obj.data_mapFields hd (·.setIfInBounds 1 (Value.ref T))
  refine mark_out (s := { s with heap := h' }) ee dd (by simp [h1]) gT dT sT ?_
  obtain ⟨o2, t2, q1, q2, q3⟩ := quiet_here gT dT sT
  have nf : ∀ b o, s.heap.get? b = some o → b ≠ T := fun b o q z => by rw [z, nT] at q; cases q
  refine k _ T ⟨fun b o hb hf q => (quiet_else (nf b o q)).trans (kp b o (by simpa using hb) hf q), fun b o hb q => ?_⟩ ⟨_, _, o2, t2, a0, (quiet_else (Ne.symm ne)).trans ee, ⟨Obj.cls_mapFields _ _, ?_, ?_⟩, dd, by simp [h1], ne, q1, q2, q3⟩ nT
  · obtain ⟨sl, q'⟩ := sl b o hb q
    exact ⟨sl, (quiet_else (nf b o q)).trans q'⟩
  · rw [Array.getElem?_setIfInBounds_ne (by decide)]; exact h2
  · rw [Array.getElem?_setIfInBounds_ne (by decide)]; exact h0
theorem land_next {base : Heap} {env : PySem.Env} {outer : List PySem.Env} {L e T : Addr} {cls : Value} {Q : Unit → Shared → Prop} (hfr : A.frames = some (env :: outer)) (hl : s.heap.FunFrames base (env :: outer)) (hf : env.frame = some L) (F : FlyAt s.heap e T cls)
    (k : ∀ h' T', Lft s.heap h' [e, T] (frs (env :: outer)) → FlyAt h' e T' cls → (T' = T ∨ s.heap.get? T' = none) → Q () { s with heap := h' }) :
    wpAny M A (noteFrame (.ref e) env) (fun _ s₂ => wpAny M A (setFlight (.ref e) none) Q E s₂) E s := by
  obtain ⟨oe, vs, oT, ts, a0, he, ⟨hc, h2, h0⟩, hd, h1, hne, hT, hdT, h3⟩ := F
  subst hc
  have z3 : 3 < ts.size := (Array.getElem?_eq_some_iff.mp h3).1
  have z1 : 1 < vs.size := (Array.getElem?_eq_some_iff.mp h1).1
  have tT : (Value.ref T != Value.none) = true := by simp
  have tL : ¬ ((Value.none == rawInt L) = true) := by simp [rawInt]
  have nf := notFr hl hT hdT
  unfold noteFrame
  simp only [hf]
  refine wpAny_bind (wpAny_field he hd h1 ?_)
  rw [if_pos tT]
  refine wpAny_bind (wpAny_field hT hdT h3 ?_)
  rw [if_neg tL]
  refine wpAny_bind (wpAny_setField hT hdT z3 ?_)
  have hl1 : (s.heap.update T quieted).FunFrames base (env :: outer) := hl.of_keeps fun b o q hn => ⟨o, (quiet_else fun z => by subst z; rw [hT] at q; cases q; exact hn ts hdT).trans q, rfl⟩
  refine more_out (s := { s with heap := s.heap.update T quieted }) hfr hl1 hf ((quiet_else (Ne.symm hne)).trans he) hd z1 h2 h0 fun h' T' x y z => ?_
  refine k h' T' ⟨fun b o hb hf q => ?_, fun b o hb q => ?_⟩ y (.inr ?_)
  · simp only [List.mem_cons, List.not_mem_nil, or_false, not_or] at hb
    exact x.keep b o (by simpa using hb.1) hf ((quiet_else hb.2).trans q)
  · exact x.slot b o hb ((quiet_else fun (z : b = T) => nf (z ▸ hb)).trans q)
  · by_cases e2 : T' = T
    · subst e2
      obtain ⟨_, _, q, _⟩ := quiet_here hT hdT z3
      have z' : (s.heap.update T' quieted).get? T' = none := z
      rw [q] at z'; cases z'
    · exact (quiet_else e2).symm.trans z
theorem leave_next {base : Heap} {env : PySem.Env} {outer : List PySem.Env} {L e T : Addr} {cls : Value} {Q : Unit → Shared → Prop} (hfr : A.frames = some (env :: outer)) (hl : s.heap.FunFrames base (env :: outer)) (hf : env.frame = some L) (F : FlyAt s.heap e T cls)
    (k : ∀ h' T', Lft s.heap h' [e, T] (frs (env :: outer)) → FlyAt h' e T' cls → (T' = T ∨ s.heap.get? T' = none) → Q () { s with heap := h' }) : wpAny M A (leaving env (.ref e)) Q E s := by
  unfold leaving
  exact wpAny_bind (land_next hfr hl hf F k)
theorem leave_made {base h : Heap} {env : PySem.Env} {outer : List PySem.Env} {L e : Addr} {cls : Value} {args : List Value} {Q : Unit → Shared → Prop} (hfr : A.frames = some (env :: outer)) (hl : h.FunFrames base (env :: outer)) (hf : env.frame = some L) (hx : Heap.MadeExcOf h s.heap e cls args)
    (k : ∀ h' T', Lft s.heap h' [e] (frs (env :: outer)) → FlyAt h' e T' cls → s.heap.get? T' = none → Q () { s with heap := h' }) : wpAny M A (leaving env (.ref e)) Q E s := by
  obtain ⟨t, he, htn, ht⟩ := hx.there
  have hl1 : s.heap.FunFrames base (env :: outer) := hl.of_keeps fun b o q _ => ⟨o, hx.keeps b o q, rfl⟩
  unfold leaving noteFrame
  simp only [hf]
  refine wpAny_bind (wpAny_bind (wpAny_field he rfl (x := .none) rfl ?_))
  rw [if_neg (by decide)]
  exact more_out hfr hl1 hf he rfl (of_decide_eq_true rfl) rfl rfl k
theorem land_again {base : Heap} {l : List PySem.Env} {e T : Addr} {cls : Value} {Q : Unit → Shared → Prop} (hl : s.heap.FunFrames base l) (F : FlyAt s.heap e T cls)
    (k : ∀ h' T', Lft s.heap h' [e, T] (frs l) → FlyAt h' e T' cls → (T' = T ∨ s.heap.get? T' = none) → Q () { s with heap := h' }) :
    wpAny M A (setFlight (.ref e) none) Q E s := by
  obtain ⟨oe, vs, oT, ts, a0, he, hc, hd, h1, hne, hT, hdT, h3⟩ := F
  have z3 : 3 < ts.size := (Array.getElem?_eq_some_iff.mp h3).1
  have nf := notFr hl hT hdT
  refine mark_out he hd h1 hT hdT z3 ?_
  obtain ⟨o2, t2, q1, q2, q3⟩ := quiet_here hT hdT z3
  refine k _ T ⟨fun b o hb _ q => ?_, fun b o hb q => ⟨o.slots, (quiet_else fun (z : b = T) => nf (z ▸ hb)).trans q⟩⟩ ⟨oe, vs, o2, t2, a0, (quiet_else (Ne.symm hne)).trans he, hc, hd, h1, hne, q1, q2, q3⟩ (.inl rfl)
  simp only [List.mem_cons, List.not_mem_nil, or_false, not_or] at hb
  exact (quiet_else hb.2).trans q
end
theorem hok_on {P : Program} {w : World} {H : Hp} {h h' : Heap} (x : HOk P w H h) (k : ∀ b o, (H b).isSome = true → h.get? b = some o → h'.get? b = some o) : HOk P w H h' := fun a o e =>
  (x a o e).stay (fun b u hb q => k b u (by rcases hb with rfl | hb; · rw [e]; rfl
                                            · rw [hb]; rfl) q) (fun _ z => z) fun _ _ z => z
theorem objOk_there {P : Program} {w : World} {H : Hp} {h : Heap} {a : Addr} {o : HO} (x : ObjOk P w H h a o) : ∃ u, h.get? a = some u := by
  cases o with
  | lst xs => obtain ⟨_, _, _, _, e⟩ := x; exact ⟨_, e⟩
  | tup xs => obtain ⟨_, _, _, ob, e, _⟩ := x; exact ⟨_, e⟩
  | dK kvs => obtain ⟨_, _, _, _, o, _, _, e, _⟩ := x; exact ⟨_, e⟩
  | dT kvs => obtain ⟨_, _, _, _, o, _, _, e, _⟩ := x; exact ⟨_, e⟩
  | set S n => obtain ⟨o, _, _, _, e, _⟩ := x; exact ⟨_, e⟩
  | ins C dx fs => obtain ⟨_, _, _, e, _⟩ := x; exact ⟨_, e⟩
  | own y => obtain ⟨_, e⟩ := x; exact ⟨_, e⟩
  | xd fs => obtain ⟨_, ⟨_, _, _, e, _⟩, _⟩ := x; exact ⟨_, e⟩
  | rng lo hi => obtain ⟨_, _, _, e⟩ := x; exact ⟨_, e⟩
  | frz ob u => obtain ⟨e, _⟩ := x; exact ⟨_, e⟩
  | tbl ps => exact ⟨_, (show h.get? a = some _ from x)⟩
  | met f y => exact ⟨_, (show h.get? a = some _ from x)⟩
  | ext φ => obtain ⟨_, e, _⟩ := x; exact e
section
variable {X : Cx} {pins : List (Addr × Obj)} {σ : St} {H : Hp} {s : Shared}
theorem inv_left {H' : Hp} {s' : Shared} {h' : Heap} {ch : List Addr} (I : Inv X pins σ H s) (hs : X.stack = X.env :: X.outer) (hf : X.env.frame = some X.env.locals) (hex : X.ex = [])
    (u : Un (frs X.stack) [] H H' s.heap s'.heap) (hok : HOk X.prog X.w H' s'.heap) (hch : ∀ b ∈ ch, H' b = none) (hchn : ∀ b ∈ ch, s.heap.get? b = none) (x : Lft s'.heap h' ch (frs X.stack)) :
    Un (frs X.outer) [] X.H₀ H' X.s₀.heap h' ∧ HOk X.prog X.w H' h' := by
  have hfs : frs X.stack = X.env.locals :: frs X.outer := by rw [hs]; unfold frs; rw [List.filterMap_cons, hf]
  have hb := I.base
  rw [hex] at hb
  have nL : ∀ b o, X.s₀.heap.get? b = some o → b ≠ X.env.locals := fun b o q z => absurd (Nat.lt_of_lt_of_le (Heap.lt_size q) (z ▸ I.ok.above)) (Nat.lt_irrefl _)
  have nch : ∀ b o, X.s₀.heap.get? b = some o → b ∉ ch := fun b o q z => by
    obtain ⟨o', q'⟩ := hb.there b o q (by simp)
    rw [hchn b z] at q'; cases q'
  have nfs : ∀ b o, X.s₀.heap.get? b = some o → b ∉ frs X.outer → b ∉ frs X.stack := fun b o q z y => by
    rw [hfs] at y
    exact (List.mem_cons.mp y).elim (nL b o q) z
  have yfs : ∀ b, b ∈ frs X.outer → b ∈ frs X.stack := fun b z => by rw [hfs]; exact List.mem_cons_of_mem _ z
  refine ⟨⟨fun b o q n hb1 _ => ?_, fun b o q n hb1 _ => ?_, fun b o q n _ => ?_, fun b o q _ => ?_, fun b xs q => u.tups b xs (hb.tups b xs q), fun b o v q => u.frzs b o v (hb.frzs b o v q), fun b ps q => ?_⟩, ?_⟩
  · exact x.keep b o (nch b o q) (nfs b o q hb1) (u.keep b o (hb.keep b o q n hb1 (by simp)) (hb.free b o q n (by simp)) (nfs b o q hb1) (by simp))
  · obtain ⟨sl, q1⟩ := hb.slot b o q n hb1 (by simp)
    obtain ⟨sl2, q2⟩ := u.slot b _ q1 (hb.free b o q n (by simp)) (yfs b hb1) (by simp)
    obtain ⟨sl3, q3⟩ := x.slot b _ (yfs b hb1) q2
    exact ⟨sl3, q3⟩
  · obtain ⟨o', q'⟩ := hb.there b o q (by simp)
    exact u.free b o' q' (hb.free b o q n (by simp)) (by simp)
  · obtain ⟨o1, q1⟩ := hb.there b o q (by simp)
    obtain ⟨o2, q2⟩ := u.there b o1 q1 (by simp)
    by_cases hb1 : b ∈ frs X.stack
    · obtain ⟨sl, q3⟩ := x.slot b o2 hb1 q2
      exact ⟨_, q3⟩
    · exact ⟨o2, x.keep b o2 (nch b o q) hb1 q2⟩
  · obtain ⟨m1, q1⟩ := hb.tbls b ps q
    obtain ⟨m2, q2⟩ := u.tbls b _ q1
    exact ⟨m1 ++ m2, by rw [q2, Array.append_assoc]⟩
  · refine hok_on hok fun b o hb1 q => x.keep b o (fun z => ?_) (fun z => ?_) q
    · rw [hch b z] at hb1; cases hb1
    · obtain ⟨_, o1, ho1, _⟩ := I.stack.mem z
      rw [u.free b o1 ho1 (I.stkFree b z) (by simp)] at hb1
      cases hb1
theorem pass_on {s' : Shared} {E : XK} {u : Value} {A : Around} (I : Inv X pins σ H s) (hs : X.stack = X.env :: X.outer) (hf : X.env.frame = some X.env.locals) (hex : X.ex = []) (hA : A.frames = some X.stack) (x : CX1 X.prog X.w X.stack H s E u s') {E' : Value → Shared → Prop} :
    wpAny (model X.prog X.w) A (leaving X.env u) (fun _ s'' => CX1 X.prog X.w X.outer X.H₀ X.s₀ E u s'') E' s' := by
  obtain ⟨e, T, C, H', rfl, os, bare, un, hok, he, hT, hHe, hHT, F, q⟩ := x
  have hl : s'.heap.FunFrames X.base X.stack := by
    have h0 := I.stack
    have all : ∀ (l : List PySem.Env), (∀ b ∈ frs l, b ∈ frs X.stack) → s.heap.FunFrames X.base l → s'.heap.FunFrames X.base l := by
      intro l
      induction l with
      | nil => intro _ _; trivial
      | cons env r ih =>
        intro hss hl
        obtain ⟨hk, ⟨L, o, hf', hn, ho, hd⟩, hr⟩ := hl
        have hfr : frs (env :: r) = L :: frs r := by unfold frs; rw [List.filterMap_cons, hf']
        rw [hfr] at hss
        have hL := hss L List.mem_cons_self
        obtain ⟨sl, e⟩ := un.slot L o ho (I.stkFree L hL) hL (by simp)
        exact ⟨hk, ⟨L, _, hf', hn, e, hd⟩, ih (fun b hb => hss b (List.mem_cons_of_mem _ hb)) hr⟩
    exact all X.stack (fun _ z => z) h0
  rw [hs] at hl hA
  refine leave_next hA hl hf F fun h' T' y1 y2 y3 => ?_
  rw [← hs] at y1
  have hz : ∀ b ∈ [e, T], H' b = none := fun b hb => by
    simp only [List.mem_cons, List.not_mem_nil, or_false] at hb
    rcases hb with rfl | rfl
    · exact hHe
    · exact hHT
  have hzn : ∀ b ∈ [e, T], s.heap.get? b = none := fun b hb => by
    simp only [List.mem_cons, List.not_mem_nil, or_false] at hb
    rcases hb with rfl | rfl
    · exact he
    · exact hT
  obtain ⟨z1, z2⟩ := inv_left I hs hf hex un hok hz hzn y1
  have up : ∀ b, s.heap.get? b = none → X.s₀.heap.get? b = none := fun b hb => by
    cases q : X.s₀.heap.get? b with
    | none => rfl
    | some o =>
      obtain ⟨o', q'⟩ := I.base.there b o q (by rw [hex]; simp)
      rw [hb] at q'; cases q'
  have up' : ∀ b, s'.heap.get? b = none → s.heap.get? b = none := fun b hb => by
    cases q : s.heap.get? b with
    | none => rfl
    | some o =>
      obtain ⟨o', q'⟩ := un.there b o q (by simp)
      rw [hb] at q'; cases q'
  have hT2 : s.heap.get? T' = none := y3.elim (fun z => z ▸ hT) (up' T')
  have hHT2 : H' T' = none := y3.elim (fun z => z ▸ hHT) fun z => by
    cases q : H' T' with
    | none => rfl
    | some o =>
      obtain ⟨o', q'⟩ := objOk_there (hok _ _ q)
      rw [z] at q'; cases q'
  exact ⟨e, T', C, H', rfl, os.trans I.os, bare, z1, z2, up e he, up T' hT2, hHe, hHT2, y2, q⟩
end
end L2.Sk
set_option Elab.async false
set_option linter.all false
set_option maxRecDepth 100000
namespace L2.Sk
open PySem PySem.Spec PyProof.Rows
structure XC (base : Heap) (C : Addr) (bm : List Value) : Prop where
  hasBase : bm.contains (.type "BaseException") = true
  ex : ∃ nm q N bs hdct sn sub ab col dd k0 k1 k2 k3 k5 newId initId B bmB mN, base.get? C = some (excClassObj nm q C N bs bm hdct sn sub ab col dd k0 k1 k2 k3 k5 newId) ∧ base.Ns N mN ∧ mN "__init__" = none ∧ OwnTail base bmB bm ∧ ExcBaseFacts B newId initId bmB
def dfnX (n p : Nat) (body : MS) (ds : List D) : R D := if ds.length = p then match body (envOf n ds) with
  | .ok (.rt d _) => .ok d
  | .ok (.nx _) => .ok .non
  | .exc x ρ => .exc x ρ
  | _ => .bad else .bad
section
variable {X : Cx} {c : Fc} {e : Expr} {es : List Expr} {pos cpos np : Pos}
theorem ps_raise {x : Str} {C : Addr} {bm : List Value} {t : TA} {E : XK} (hc : X.calm = true) (hg : Gl X x) (hm : X.mg x = some (.ref C)) (xc : XC X.base C bm) (ha : PA X (e :: es) t)
    (made : ∀ pins σ H s h' a us, Inv X pins σ H s → Heap.MadeExcOf s.heap h' a (.ref C) us → E (.ref C) none H → X.xe (.ref a) { s with heap := h' })
    (hd : (x == ("__debug__" : Str)) = false := by decide) (he : starEach (e :: es) X.env = (false, eval e X.env) :: starEach es X.env := by rfl) (hpl : (backTo cpos (starEach es X.env)).any (·.1) = false := by rfl) :
    PS X (.Raise (some (.Call (.Name x np) (e :: es) [] cpos)) none pos) (fun _ σ H => t σ H fun vs H1 => vs.length ≤ sizeLine ∧ E (.ref C) none H1) := by
  intro pins s σ H D I h
  obtain ⟨nm, q, N, bs, hdct, sn, sub, ab, col, dd, k0, k1, k2, k3, k5, newId, initId, B, bmB, mN, hC, hN, hni, T, FB⟩ := xc.ex
  refine wpAny_Raise_call_subT (C := C) (nm := nm) (q := q) (N := N) (bs := bs) (bm := bm) (hdct := hdct) (sn := sn) (sub := sub) (ab := ab) (col := col) (dd := dd) (k0 := k0) (k1 := k1) (k2 := k2) (k3 := k3) (k5 := k5)
    FB (mN := mN) xc.hasBase (I.ok.hd hc) (by rw [he]; show (false || (backTo cpos (starEach es X.env)).any (·.1)) = false; rw [hpl]; rfl) hni ?_
  have hn : PE X (.Name x np) (fun _ H Q => Q (.ref C) H) := pe_glob hg hm rfl hd
  refine thn (hn pins s σ H (fun v H1 => v = .ref C ∧ H1 = H) I ⟨rfl, rfl⟩) fun f s1 h1 => ?_
  obtain ⟨v, H1, I1, rv, rfl, rfl⟩ := h1
  refine ⟨rv, ?_⟩
  have h2 := ha cpos pins s1 σ _ _ I1 h
  rw [he] at h2 ⊢
  refine Calls.evalArgs_plain (thn h2 fun vs s2 h3 => ?_)
  obtain ⟨ws, H2, I2, r2, hl, hE⟩ := h3
  refine ⟨rfl, by rw [← r2.length]; exact hl, I2.bk _ _ hC, hN.keeps I2.bk, T.keeps I2.bk, fun h' a hx => made pins σ H2 s2 h' a vs I2 hx hE⟩
structure XL (X : Cx) (c : Fc) (cl : Str → Option Addr) (E : XK) : Prop where
  made : ∀ C pins σ H s h' a us, Inv X pins σ H s → Heap.MadeExcOf s.heap h' a (.ref C) us → E (.ref C) none H → X.xe (.ref a) { s with heap := h' }
  pass : Passes (CX1 X.prog X.w) X E
  wish : ∀ x C H', cl x.cls = some C → c.E x H' → E (.ref C) none H'
structure XL2 (X : Cx) (c : Fc) (cl : Str → Option Addr) (E : XK) : Prop where
  pass : Passes (CX1 X.prog X.w) X E
  wish : ∀ x C H', cl x.cls = some C → c.E x H' → E (.ref C) none H'
theorem XL.two {X : Cx} {c : Fc} {cl : Str → Option Addr} {E : XK} (L : XL X c cl E) : XL2 X c cl E := ⟨L.pass, L.wish⟩
def sraise (x : Str) (f : M (List D)) : MS := fun ρ => match f ρ with
  | .ok (ds, ρ') => if smallL ds.length then .exc ⟨x, .non⟩ ρ' else .bad
  | .exc z ρ' => .exc z ρ'
  | .bad => .bad
theorem ds_raise {x : Str} {C : Addr} {bm : List Value} {f : M (List D)} {E : XK} {cl : Str → Option Addr} (hc : X.calm = true) (L : XL X c cl E) (hcl : cl x = some C) (hg : Gl X x) (hm : X.mg x = some (.ref C)) (xc : XC X.base C bm) (ha : DA X c (e :: es) f)
    (hd : (x == ("__debug__" : Str)) = false := by decide) (he : starEach (e :: es) X.env = (false, eval e X.env) :: starEach es X.env := by rfl) (hpl : (backTo cpos (starEach es X.env)).any (·.1) = false := by rfl) :
    DS X c (.Raise (some (.Call (.Name x np) (e :: es) [] cpos)) none pos) (sraise x f) := by
  obtain ⟨t, pa, w⟩ := ha
  refine ⟨_, ps_raise (E := E) hc hg hm xc pa (L.made C) hd he hpl, fun ρ σ H D r h => w ρ σ H _ r ?_⟩
  unfold sraise at h
  cases ef : f ρ with
  | bad => rw [ef] at h; exact h
  | exc z ρ' => rw [ef] at h; exact fun H' r' g' => h σ H' r' g'.s
  | ok p =>
    obtain ⟨ds, ρ'⟩ := p
    rw [ef] at h
    intro vs H' r' i' g'
    by_cases hs : smallL ds.length = true
    · simp only [hs, if_true] at h
      exact ⟨by rw [i'.length]; exact of_decide_eq_true hs, L.wish ⟨x, .non⟩ C H' hcl (h σ H' r' g'.s)⟩
    · simp only [hs] at h
      exact h.elim
def spX (K : Fr0) (cl : Str → Option Addr) (F : List D → R D) : Sp := fun vs H Q E => ∃ ds A, IsL K A H ds vs ∧ (∀ a, A a → True) ∧ match F ds with
  | .ok d => ∀ v H', Same H H' → Is K (fun a => A a ∨ H a = none) H' d v → Q v H'
  | .exc x _ => ∃ C, cl x.cls = some C ∧ ∀ H', Same H H' → E (.ref C) none H'
  | .bad => False
def dcallX (RN : List Str) (F : List D → R D) (g : M (List D)) : M D := bnd g fun ds ρ => match F ds with
  | .ok d => .ok (d, ρ)
  | .exc x _ => if RN.contains x.cls then .exc x ρ else .bad
  | .bad => .bad
theorem de_callX {k : Nat} {f : Addr} {fd : FuncData} {ps : List Str} {F : List D → R D} {x : Str} {p : Pos} {g : M (List D)} {E : XK} {cl : Str → Option Addr} (L : XL2 X c cl E) {RN : List Str} (hcl : ∀ n, RN.contains n = true → (cl n).isSome = true)
    (G : FnOk X.prog X.w X.K X.mg X.base (CX1 X.prog X.w) k f fd ps (spX X.K cl F)) (hr : Room k X.A) (hg : Gl X x) (hm : X.mg x = some (.ref f)) (hk : PySem.W.keepIn X.K (.ref f) = true) (hb : Binds X.K fd ps [])
    (ha : DA X c (e :: es) g) (hd : (x == ("__debug__" : Str)) = false := by decide) (he : starEach (e :: es) X.env = (false, eval e X.env) :: starEach es X.env := by rfl) (hpl : (backTo pos (starEach es X.env)).any (·.1) = false := by rfl) : DE X c (.Call (.Name x p) (e :: es) [] pos) (dcallX RN F g) := by
  obtain ⟨t, pa, w⟩ := ha
  refine ⟨_, pe_call G hr hg hm hk hb .nil L.pass pa hd he hpl, fun ρ σ H Q r h => w ρ σ H _ r (WpL.bnd h fun ds ρ1 vs H1 r1 i1 g1 h1 => ?_)⟩
  rw [List.append_nil]
  refine ⟨ds, Cn c σ, i1, fun _ _ => trivial, ?_⟩
  cases ef : F ds with
  | bad => simp only [ef] at h1; exact h1.elim
  | exc z ρ' =>
    simp only [ef] at h1
    by_cases hz : RN.contains z.cls = true
    case neg => rw [if_neg hz] at h1; exact h1.elim
    rw [if_pos hz] at h1
    obtain ⟨C, hC⟩ := Option.isSome_iff_exists.mp (hcl z.cls hz)
    exact ⟨C, hC, fun H' sm => L.wish z C H' hC (h1 H' (r1.same sm) (.of_same sm))⟩
  | ok d =>
    simp only [ef] at h1
    exact fun v H' sm i => h1 v H' (r1.same sm) (Is.ext Ext.refl (fun a ha _ => ha.elim id r1.new) i) (.of_same sm)
def dcallP (F : List D → R D) (g : M (List D)) : M D := bnd g fun ds ρ => match F ds with
  | .ok d => .ok (d, ρ)
  | _ => .bad
end
section
variable {P : Program} {w : World} {K : PySem.W.Frag} {mg : Str → Option Value} {base : Heap}
theorem xl_def {N : List Str} {qual : Str} {scope : Scope} {f : Addr} {cdv : Value} {A : Around} {outer : List PySem.Env} {s : Shared} {H : Hp} {E : XK} {c : Fc} {cl : Str → Option Addr} (hf : (envOfC qual scope s.heap.objs.size f cdv).frame = some s.heap.objs.size)
    (hw : ∀ x C H', cl x.cls = some C → c.E x H' → E (.ref C) none H') : XL (cxOf (CX1 P w) P w K mg base N qual scope f cdv A outer s H E) c cl E where
  made := fun C pins σ H1 s1 h' a us I hx hE => by
    show wpAny (model P w) _ (leaving _ (.ref a)) _ _ _
    refine leave_made (s := { s1 with heap := h' }) (h := s1.heap) (base := base) I.ok.frames I.stack hf hx fun h2 T' y1 y2 y3 => ?_
    have hn : H1 a = none := by
      cases q : H1 a with
      | none => rfl
      | some o =>
        obtain ⟨o', q'⟩ := objOk_there (I.hok _ _ q)
        rw [hx.new] at q'; cases q'
    have hT : s1.heap.get? T' = none := by
      cases q : s1.heap.get? T' with
      | none => rfl
      | some o => rw [show ({ s1 with heap := h' } : Shared).heap.get? T' = some o from hx.keeps _ _ q] at y3; cases y3
    have hHT : H1 T' = none := by
      cases q : H1 T' with
      | none => rfl
      | some o =>
        obtain ⟨o', q'⟩ := objOk_there (I.hok _ _ q)
        rw [hT] at q'; cases q'
    have up : ∀ b, s1.heap.get? b = none → s.heap.get? b = none := fun b hb => by
      cases q : s.heap.get? b with
      | none => rfl
      | some o =>
        obtain ⟨o', q'⟩ := I.base.there b o q (by show b ∉ ([] : List Addr); simp)
        rw [hb] at q'; cases q'
    obtain ⟨z1, z2⟩ := inv_left (s' := { s1 with heap := h' }) I rfl hf rfl (Un.kept hx.keeps) (I.hok.kept hx.keeps) (fun b hb => by rw [List.mem_singleton] at hb; subst hb; exact hn) (fun b hb => by rw [List.mem_singleton] at hb; subst hb; exact hx.new) y1
    exact ⟨a, T', C, H1, rfl, I.os, I.bare, z1, z2, up a hx.new, up T' hT, hn, hHT, y2, hE⟩
  pass := fun pins σ H1 s1 u s' I x => pass_on I rfl hf rfl I.ok.frames x
  wish := hw
theorem fn_exc {x qual : Str} {st : Stmt} {f : Addr} {fd : FuncData} {N ps : List Str} {k : Nat} {O : List Nat} {body : MS} {cl : Str → Option Addr} (F : Fun K x qual st f fd) (S : FnScope N ps (defScope st)) (hO : ∀ i ∈ O, ps.length ≤ i)
    (hb : ∀ (cdv : Value) (A : Around) (outer : List PySem.Env) (s : Shared) (H : Hp) (E : XK) (B : Addr → Prop), Room k (A.deeper (envOfC qual (defScope st) s.heap.objs.size f cdv)) →
      DSs (cxOf (CX1 P w) P w K mg base N qual (defScope st) f cdv A outer s H E) (cfn O [] B H (fun _ => False) (fun x H' => ∀ C, cl x.cls = some C → E (.ref C) none H') fun _ => none) (defBody st) body) :
    FnOk P w K mg base (CX1 P w) (k + 1) f fd ps (spX K cl (dfnX N.length ps.length body)) := by
  obtain ⟨oc, od, kV, doc, pm, an, cdv, ct, osl, rfl, lk, hcd⟩ := F.ex
  refine fn_of lk hcd S (fun vs H Q E h => ?_) fun A outer s H vs Q E hr h => ?_
  · obtain ⟨ds, B, il, _, h⟩ := h
    unfold dfnX at h
    by_cases e : ds.length = ps.length
    · rw [il.length]; exact e
    · rw [if_neg e] at h; exact h.elim
  · obtain ⟨ds, B, il, _, h⟩ := h
    obtain ⟨t, p, wt⟩ := hb cdv A outer s H E B hr
    refine ⟨t, p, ?_⟩
    unfold dfnX at h
    by_cases e : ds.length = ps.length
    · rw [if_pos e] at h
      refine wt (envOf N.length ds) (start N vs) H _ (rep_start il (fun i hi => by rw [e]; exact hO i hi)) ?_
      have same : ∀ {ρ : Env} {σ : St} {H' : Hp}, Rep K (cfn O [] B H (fun _ => False) (fun x H' => ∀ C, cl x.cls = some C → E (.ref C) none H') fun _ => none) ρ σ H' → Same H H' := fun r b o hb => r.kp b o hb fun z => z
      cases eb : body (envOf N.length ds) with
      | bad => rw [eb] at h; exact h.elim
      | exc z ρ =>
        rw [eb] at h
        obtain ⟨C, hC, h⟩ := h
        exact fun σ' H' r' _ C' hC' => by
          rw [hC] at hC'; cases hC'
          exact h H' (same r')
      | ok fl =>
        rw [eb] at h
        cases fl with
        | nx ρ => exact fun σ' H' r' _ => h .non H' (same r') rfl
        | rt d ρ => exact fun v σ' H' r' i' _ => h v H' (same r') i'
        | bk ρ => exact h.elim
        | ct ρ => exact h.elim
    · rw [if_neg e] at h; exact h.elim
structure CalleeX (P : Program) (w : World) (K : PySem.W.Frag) (mg : Str → Option Value) (base : Heap) (k : Nat) (x : Str) (ps : List Str) (sp : Sp) : Prop where
  ex : ∃ f fd, FnOk P w K mg base (CX1 P w) k f fd ps sp ∧ mg x = some (.ref f) ∧ PySem.W.keepIn K (.ref f) = true ∧ Binds K fd ps []
end
end L2.Sk
set_option Elab.async false
set_option linter.all false
set_option maxRecDepth 100000
namespace L2.Sk
open PySem PySem.Spec PyProof.Rows
section
variable {M : Model} {A : Around} {E : Value → Shared → Prop}
variable {nm q nm' q' : Str} {C S N N' : Addr} {bs bm bs' bm' : List Value} {hdct hdct' : Bool} {sn sn' : List Str} {sub sub' : List Value} {ab ab' : Bool} {col col' : Option Bool} {dd dd' : Option Addr} {k0 k1 k2 k3 k5 j0 j1 j2 j3 j5 : Option Value} {newId newId' : String}
theorem excMatches_own {h : Heap} {g : Array GenState} {d : Drawn} {t : Nat} {os : OsState} {e : Addr} {oe : Obj} {Q : Bool → Shared → Prop}
    (hC : h.get? C = some (excClassObj nm q C N bs bm hdct sn sub ab col dd k0 k1 k2 k3 k5 newId)) (hS : h.get? S = some (excClassObj nm' q' S N' bs' bm' hdct' sn' sub' ab' col' dd' j0 j1 j2 j3 j5 newId'))
    (he : h.get? e = some oe) (hcls : oe.cls = .ref C) (hbase : bm'.contains (.type "BaseException") = true)
    (hq : Q ((Value.ref C :: bm).contains (.ref S)) ⟨h, g, d, t, os⟩) : wpAny M A (excMatches (.ref e) (.ref S)) Q E ⟨h, g, d, t, os⟩ := by
  have hcB : (Value.ref S :: bm').contains (.type "BaseException") = true := by rw [List.contains_cons, hbase, Bool.or_true]
  have f := tc_notTuple
  unfold excMatches
  repeat (first | (with_reducible refine wpAny_loadPart_at he ?_; rw [hcls]) | with_reducible refine wpAny_loadPart_at hS ?_ | (with_reducible refine wpAny_isSubtype_exc hS ?_; rw [hcB]) | with_reducible refine wpAny_isSubtype_exc hC ?_ | wp_step)
  all_goals (first | exact hq | (cases hb : (Value.ref C :: bm).contains (.ref S) <;> (rw [hb] at hq; wp_walk; exact hq)))
end
end L2.Sk
set_option Elab.async false
set_option linter.all false
set_option maxRecDepth 100000
namespace L2
open PySem PySem.Spec PyProof.Rows
def AloneA (A : Around) (H : Hp) : Prop := ∃ e oe u vs, A.handled = some (.ref e) ∧ H e = some (.frz oe u) ∧ oe.data = .fields vs ∧ vs[2]? = some .none
def tCallL (A : Around) (sp : Sp) (dvs : List V) (E : XK) (t : TA) : TE := fun σ H Q => t σ H fun vs H1 => AloneA A H1 ∧ sp (vs ++ dvs) H1 Q E
structure RoomL (k : Nat) (A : Around) : Prop where
  dp : A.depth + 3 * k + 5 < recursionLimit
  un : A.units + 16 * k + 200 < cLine
  gd : A.guards = some []
theorem RoomL.deeper {k : Nat} {A : Around} (r : RoomL (k + 1) A) (env : Env) : RoomL k (A.deeper env) :=
  ⟨by have := r.dp; show A.depth + 1 + 3 * k + 5 < _; omega, by have := r.un; show A.units + 3 + 16 * k + 200 < _; omega, r.gd⟩
theorem RoomL.depth {k : Nat} {A : Around} (r : RoomL k A) : A.depth < recursionLimit := by have := r.dp; omega
structure FnOkL (P : Program) (w : World) (K : PySem.W.Frag) (mg : Str → Option Value) (base : Heap) (CX : CXT) (k : Nat) (f : Addr) (fd : FuncData) (ps : List Str) (sp : Sp) : Prop where
  len : ∀ vs H Q E, sp vs H Q E → vs.length = ps.length
  run : ∀ (A : Around) (outer : List Env) (s : Shared) (H : Hp) (args : Args) (us : List Value) (vs : List V) (Q : VK) (E : XK), RoomL k A → AloneA A H → Env0 P w K mg base A outer s H → BindsTo s fd args (ps.zip us) → Vals vs us → sp vs H Q E →
    codeAny (model P w) A (.call (.ref f) args) (CR CX outer P w H s Q E) s
def cxOfL (CX : CXT) (P : Program) (w : World) (K : PySem.W.Frag) (mg : Str → Option Value) (base : Heap) (N : List Str) (qual : Str) (scope : Scope) (f : Addr) (cd : Value) (A : Around) (outer : List Env) (s : Shared) (H : Hp) (E : XK) : Cx where
  prog := P
  w := w
  K := K
  mg := mg
  base := base
  A := A.deeper (envOfC qual scope s.heap.objs.size f cd)
  N := N
  s₀ := s
  H₀ := H
  env := envOfC qual scope s.heap.objs.size f cd
  outer := outer
  stack := envOfC qual scope s.heap.objs.size f cd :: outer
  ex := []
  calm := false
  fn := fun _ => true
  pn := []
  xe := fun e s' => wpAny (model P w) (A.deeper (envOfC qual scope s.heap.objs.size f cd)) (leaving (envOfC qual scope s.heap.objs.size f cd) e) (fun _ s'' => CX outer H s E e s'') (fun e' s'' => CX outer H s E e' s'') s'
theorem inv_startL {CX : CXT} {P : Program} {w : World} {K : PySem.W.Frag} {mg : Str → Option Value} {base : Heap} {N ps : List Str} {qual : Str} {scope : Scope} {f : Addr} {cd : Value} {A : Around} {outer : List Env} {s s1 : Shared} {H : Hp} {E : XK} {us : List Value} {vs : List V}
    (S : FnScope N ps scope) (e0 : Env0 P w K mg base A outer s H) (hl : vs.length = ps.length) (r : Vals vs us)
    (x : InCallC s s.heap.objs.size (bindL (envOfC qual scope s.heap.objs.size f cd).kindOf (ps.zip us) fun _ => none) (cellsFrom (s.heap.objs.size + 1) scope.names []) (bindC (envOfC qual scope s.heap.objs.size f cd).kindOf (ps.zip us) fun _ => none) s1) :
    Inv (cxOfL CX P w K mg base N qual scope f cd A outer s H E) [] (start N vs) H s1 := by
  have hpl : ps.length ≤ N.length := by have := congrArg List.length S.pre; rw [List.length_take] at this; omega
  obtain ⟨h1, tk, rfl, hk⟩ := x.done
  have noA : ∀ b : Addr, b ∉ (cxOfL CX P w K mg base N qual scope f cd A outer s H E).ex := fun b z => absurd (show b ∈ ([] : List Addr) from z) (by simp)
  refine ⟨⟨e0.mod, S.kind, rfl, rfl, Nat.le_refl _, fun y z c h1 h2 => ?_, fun y hy => ?_, fun y c _ h => ?_, (fun z => Bool.noConfusion z), Around.frames_deeper e0.frames, .inr ⟨rfl, rfl⟩, fun b z => absurd z (noA b), e0.bs, e0.bsz, fun b _ _ => noA b, fun b z => absurd z (noA b), e0.funs, e0.frf⟩,
    rfl, e0.bare, Un.kept hk, ⟨_, x.toInCall.ns, fun i y v h1 h2 h3 => ?_⟩, fun y c h => ⟨_, x.cell y c h⟩, e0.hok.fresh (Nat.le_refl _), fun y c h => ?_, fun p hp => absurd (show p ∈ ([] : List (Addr × Obj)) from hp) (by simp), e0.hok.kept hk, ?_⟩
  · exact name_of_addr x.apart (PySem.mem_of_lookup h1) (PySem.mem_of_lookup h2)
  · have hy : scope.names.lookup y = some .cell ∨ scope.names.lookup y = some .free := hy
    rcases hy with hy | hy
    · exact cell_has hy
    · exact absurd rfl (S.nofree _ (PySem.mem_of_lookup hy))
  · exact Nat.le_of_lt (x.above y c (PySem.mem_of_lookup h))
  · have hi : i < vs.length := by
      unfold start at h2
      by_cases hi : i < vs.length
      · exact hi
      · rw [List.getElem?_append_right (by simpa using hi)] at h2
        rw [List.getElem?_replicate] at h2
        split at h2 <;> cases h2
    have ha : vs[i]? = some v := by
      unfold start at h2
      rw [List.getElem?_append_left (by simpa using hi), List.getElem?_map] at h2
      cases e : vs[i]? with
      | none => rw [e] at h2; cases h2
      | some a => rw [e] at h2; cases h2; rfl
    obtain ⟨u, hu, rv⟩ := r.get ha
    have hp : ps[i]? = some y := by
      rw [← S.pre, List.getElem?_take_of_lt (by omega)]; exact h1
    have ndP : ps.Nodup := by rw [← S.pre]; exact S.nd.sublist (List.take_sublist _ _)
    refine ⟨u, rv, ?_⟩
    rcases S.par y (List.mem_of_getElem? hp) with k | k
    · exact .inl ⟨k, bindL_get ndP hp hu k⟩
    · obtain ⟨c, e⟩ := cell_has (n := s.heap.objs.size + 1) k
      refine .inr ⟨.inl k, c, e, ?_⟩
      have q := x.cell y c e
      rw [bindC_get ndP hp hu (by show scope.names.lookup y ≠ _; rw [k]; decide)] at q
      exact q
  · exact e0.hok.fresh (Nat.le_of_lt (x.above y c (PySem.mem_of_lookup h)))
  · unfold start
    show _ = N.length
    rw [List.length_append, List.length_map, List.length_replicate]
    omega
theorem fn_ofL {CX : CXT} {P : Program} {w : World} {K : PySem.W.Frag} {mg : Str → Option Value} {base : Heap} {k : Nat} {f : Addr} {name qual : Str} {params : Arguments} {body : List Stmt} {scope : Scope} {dV kV doc pm cdv ct oc : Value} {an od : Option Addr}
    {osl : Array (Option Value)} {N ps : List Str} {sp : Sp} (lk : K.lookup f = some ⟨oc, od, .func (PySem.W.fnOf name qual params body scope dV kV doc pm an cdv ct), osl⟩) (hcd : PySem.W.codeIn K cdv qual = true) (S : FnScope N ps scope)
    (len : ∀ vs H Q E, sp vs H Q E → vs.length = ps.length)
    (hbody : ∀ (A : Around) (outer : List Env) (s : Shared) (H : Hp) (vs : List V) (Q : VK) (E : XK), RoomL k (A.deeper (envOfC qual scope s.heap.objs.size f cdv)) → AloneA (A.deeper (envOfC qual scope s.heap.objs.size f cdv)) H → sp vs H Q E →
      ∃ t, PSs (cxOfL CX P w K mg base N qual scope f cdv A outer s H E) body t ∧ t { nx := fun _ H' => Q .non H', rt := Q } (start N vs) H) :
    FnOkL P w K mg base CX (k + 1) f (PySem.W.fnOf name qual params body scope dV kV doc pm an cdv ct) ps sp := by
  refine ⟨len, fun A outer s H args us vs Q E hr al e0 hb r hsp => ?_⟩
  have hl := len _ _ _ _ hsp
  have KX : K.In s.heap := e0.mod.kin.keeps fun b o e => (e0.bs b o e).1
  have lim : s.heap.NoLimit := e0.mod.nolimit.keeps fun b o e => (e0.bs b o e).1
  have hkind : ∀ y ∈ ps.zip us, scope.names.lookup y.1 = some .local ∨ (scope.names.lookup y.1 = some .cell ∧ ((cellsFrom (s.heap.objs.size + 1) scope.names []).lookup y.1).isSome = true) := fun ⟨n, v⟩ hy => by
    rcases S.par n (List.of_mem_zip hy).1 with q | q
    · exact .inl q
    · exact .inr ⟨q, PySem.W.cellsFrom_some _ _ _ (.inl q)⟩
  refine codeAny_call_function hr.depth (KX _ _ lk) rfl S.co S.gen rfl (PySem.W.codeRec_of KX hcd) (hb _ _ _ _ ?_)
  refine wpAny_newFunctionEnv_cells S.kind hkind fun env he s1 x => ?_
  subst he
  refine ⟨lim.keeps x.toInCall.keep, codeAny_func ?_⟩
  obtain ⟨t, ht, hq⟩ := hbody A outer s H vs Q E (hr.deeper _) al hsp
  have I : Inv (cxOfL CX P w K mg base N qual scope f cdv A outer s H E) [] (start N vs) H s1 := inv_startL S e0 hl r x
  refine wpAny_mono (ht [] s1 (start N vs) H _ I hq) (fun fl s' hs => ?_) fun e s' hs => hs
  have fin : ∀ {σ' : St} {H' : Hp} {v : V} {u : Value}, Inv (cxOfL CX P w K mg base N qual scope f cdv A outer s H E) [] σ' H' s' → RelV v u → Q v H' → CE outer P w H s Q u s' :=
    fun {σ' H' v u} J rv q => ⟨v, H', J.os, J.bare, J.base, J.hok, rv, q⟩
  cases fl with
  | ret u =>
    obtain ⟨v, σ', H', J, rv, q⟩ := hs
    exact fin J rv q
  | next =>
    obtain ⟨σ', H', J, q⟩ := hs
    exact fin (v := V.non) (u := Value.none) J rfl q
  | brk =>
    obtain ⟨_, _, _, q⟩ := hs
    exact False.elim q
  | cont =>
    obtain ⟨_, _, _, q⟩ := hs
    exact False.elim q
section
variable {X : Cx} {CX : CXT} {k : Nat} {f C : Addr} {fd : FuncData} {ps : List Str} {sp : Sp} {dvs : List V} {ds : List Value} {E : XK} {x m : Str} {p pos apos : Pos} {e o : Expr} {es : List Expr} {ta : TE} {t : TA}
theorem run_fnL {pins : List (Addr × Obj)} {σ : St} {H : Hp} {s : Shared} {Q : VK} {us : List Value} {vs : List V} (F : FnOkL X.prog X.w X.K X.mg X.base CX k f fd ps sp) (hr : RoomL k X.A) (hb : Binds X.K fd ps ds) (hd : Vals dvs ds) (hx : Passes CX X E)
    (I : Inv X pins σ H s) (r : Vals vs us) (al : AloneA X.A H) (h : sp (vs ++ dvs) H Q E) : wpAny (model X.prog X.w) X.A (call (.ref f) us) (EP X pins σ Q) X.xe s := by
  have r2 : Vals (vs ++ dvs) (us ++ ds) := r.append hd
  have hl : (us ++ ds).length = ps.length := by rw [← r2.length]; exact F.len _ _ _ _ h
  refine wpAny_call (codeAny_mono (F.run X.A X.stack s H ⟨us, []⟩ (us ++ ds) (vs ++ dvs) Q E hr al I.env0 (hb s us I.kIn hl) r2 h) fun r s' hq => ?_)
  cases r with
  | error e => exact hx pins σ H s e s' I hq
  | ok fl =>
    cases fl with
    | ret u => exact I.after hq
    | next => exact False.elim hq
    | brk => exact False.elim hq
    | cont => exact False.elim hq
theorem pe_callL (F : FnOkL X.prog X.w X.K X.mg X.base CX k f fd ps sp) (hr : RoomL k X.A) (hg : Gl X x) (hm : X.mg x = some (.ref f)) (hk : PySem.W.keepIn X.K (.ref f) = true) (hb : Binds X.K fd ps ds) (hd : Vals dvs ds) (hx : Passes CX X E)
    (ha : PA X (e :: es) t) (hdb : (x == ("__debug__" : Str)) = false := by decide) (he : starEach (e :: es) X.env = (false, eval e X.env) :: starEach es X.env := by rfl) (hpl : (backTo pos (starEach es X.env)).any (·.1) = false := by rfl) :
    PE X (.Call (.Name x p) (e :: es) [] pos) (tCallL X.A sp dvs E t) := by
  intro pins s σ H Q I h
  refine wpAny_Call_Name_kw (ld_glob I hg hm ?_ hdb)
  refine PySem.W.callWith_K (h₀ := X.base) I.ok.mod.kin hk (thn (ha pos pins s σ H _ I h) fun us s1 ⟨vs, H1, I1, r, q⟩ => ⟨I1.kIn, ?_⟩) he hpl
  exact run_fnL F hr hb hd hx I1 r q.1 q.2
end
end L2
set_option Elab.async false
set_option linter.all false
set_option maxRecDepth 100000
namespace L2.Sk
open PySem PySem.Spec PyProof.Rows
def isT (b : Bool) : Value → Bool
  | .bool a => a == b
  | _ => false
theorem vals_bools : ∀ {bs : List Bool} {us : List Value}, Vals (bs.map V.bl) us → us = bs.map Value.bool
  | [], _, r => by rw [List.map_nil] at r; cases r; rfl
  | b :: bs, _, r => by
    rw [List.map_cons] at r
    cases r with
    | cons r1 r2 =>
      have e : _ = Value.bool b := r1
      rw [e, vals_bools r2]; rfl
theorem countP_isT (b : Bool) : ∀ bs : List Bool, List.countP (isT b) (bs.map Value.bool) = bs.countP (· == b)
  | [] => rfl
  | a :: bs => by simp [List.countP_cons, countP_isT b bs, isT]
def rCount : V → List V → Hp → VK → Prop := fun x vs H Q => ∃ (l : Addr) (bs : List Bool) (b : Bool), x = .ref l ∧ vs = [.bl b] ∧ H l = some (.lst (bs.map V.bl)) ∧ Q (.int (bs.countP (· == b))) H
def rIndex : V → List V → Hp → VK → Prop := fun x vs H Q => ∃ (l : Addr) (bs : List Bool) (b : Bool) (j : Nat), x = .ref l ∧ vs = [.bl b] ∧ H l = some (.lst (bs.map V.bl)) ∧ bs.findIdx? (· == b) = some j ∧ Q (.int j) H
section
variable {X : Cx}
theorem mt_count : MtR X "list.count" rCount := by
  intro pins s σ H x vs v us Q I rx rv h
  obtain ⟨l, bs, b, rfl, rfl, hH, q⟩ := h
  cases rx
  obtain ⟨u, rfl, ru⟩ := Vals.one rv
  have ru' : u = Value.bool b := ru
  subst ru'
  obtain ⟨z, its, n, r, hl, e⟩ := I.lstM hH
  have hi := vals_bools r
  subst hi
  refine call_meets F.slot_list_count ⟨_, e, rfl⟩ F.entry_list_count (F.args_list_count_2 _ _) (SeqAt.list_countAt l (bs.map Value.bool).toArray n none #[] (.bool b) (isT b)) ⟨e, fun y hy => ?_, ?_⟩
  · have hy' : y ∈ bs.map Value.bool := by simpa using hy
    obtain ⟨a, _, rfl⟩ := List.mem_map.mp hy'
    exact SeqAt.EqAt.bool_bool a b
  · refine ⟨.int _, H, I.tok _, ⟨s.toks, ?_⟩, q⟩
    show Value.int _ _ = Value.int _ _
    rw [List.toList_toArray, countP_isT]
theorem mt_index : MtR X "list.index" rIndex := by
  intro pins s σ H x vs v us Q I rx rv h
  obtain ⟨l, bs, b, j, rfl, rfl, hH, hj, q⟩ := h
  cases rx
  obtain ⟨u, rfl, ru⟩ := Vals.one rv
  have ru' : u = Value.bool b := ru
  subst ru'
  obtain ⟨z, its, n, r, hl, e⟩ := I.lstM hH
  have hi := vals_bools r
  subst hi
  rw [List.findIdx?_eq_some_iff_getElem] at hj
  obtain ⟨h1, h2, h3⟩ := hj
  have hz : bs.length ≤ sizeLine := by simpa using z
  rw [sizeLine_eq] at hz
  refine call_meets F.slot_list_index ⟨_, e, rfl⟩ F.entry_list_index (F.args_list_index_2 _ _) (SeqAt.list_indexAt l (bs.map Value.bool).toArray n none #[] (.bool b) (isT b) j (by simpa using h1) (by omega) ?_ ?_) ⟨e, fun y hy => ?_, ?_⟩
  · simpa [isT] using h2
  · intro m hm hmj
    have := h3 m hmj
    simpa [isT] using this
  · have hy' : y ∈ bs.map Value.bool := by simpa using hy
    obtain ⟨a, _, rfl⟩ := List.mem_map.mp hy'
    exact SeqAt.EqAt.bool_bool a b
  · exact ⟨.int _, H, I.tok _, ⟨s.toks, rfl⟩, q⟩
end
def countD (x : D) (ys : List D) : Option D := match x, ys with
  | .lst ds, [.bl b] => (boolsD ds).map fun bs => .int (bs.countP (· == b))
  | _, _ => none
def indexD (x : D) (ys : List D) : Option D := match x, ys with
  | .lst ds, [.bl b] => (boolsD ds).bind fun bs => (bs.findIdx? (· == b)).map fun j => .int j
  | _, _ => none
def dmeth (F : D → List D → Option D) (f : M D) (g : M (List D)) : M D := bnd f fun x => match x with
  | .lst ds => bnd g fun ys => lift (F (.lst ds) ys)
  | _ => fun _ => .bad
def MethS (K : Fr0) (F : D → List D → Option D) (r : V → List V → Hp → VK → Prop) : Prop := ∀ A H x ys d v vs (Q : VK), (∀ a, H a = none → A a) → Is K A H x v → IsL K A H ys vs → F x ys = some d → (∀ u H', Same H H' → Is K A H' d u → Q u H') → r v vs H Q
theorem meths_count {K : Fr0} : MethS K countD rCount := by
  intro A H x ys d v vs Q hn ix iy e k
  unfold countD at e
  split at e
  · rename_i ds b
    obtain ⟨u, rfl, e2⟩ := IsL.inv1 iy
    cases e2
    obtain ⟨a, xs, rfl, _, ta, il⟩ := ix
    cases eb : boolsD ds with
    | none => rw [eb] at e; cases e
    | some bs =>
      rw [eb] at e
      cases e
      rw [boolsD_vals il eb] at ta
      exact ⟨a, bs, b, rfl, rfl, ta, k _ H (Same.refl H) rfl⟩
  · cases e
theorem meths_index {K : Fr0} : MethS K indexD rIndex := by
  intro A H x ys d v vs Q hn ix iy e k
  unfold indexD at e
  split at e
  · rename_i ds b
    obtain ⟨u, rfl, e2⟩ := IsL.inv1 iy
    cases e2
    obtain ⟨a, xs, rfl, _, ta, il⟩ := ix
    cases eb : boolsD ds with
    | none => rw [eb] at e; cases e
    | some bs =>
      rw [eb] at e
      cases ej : bs.findIdx? (· == b) with
      | none => simp only [Option.bind_some, ej] at e; cases e
      | some j =>
        simp only [Option.bind_some, ej, Option.map_some] at e
        cases e
        rw [boolsD_vals il eb] at ta
        exact ⟨a, bs, b, j, rfl, rfl, ta, ej, k _ H (Same.refl H) rfl⟩
  · cases e
section
variable {X : Cx} {c : Fc} {o e : Expr} {es : List Expr} {apos cpos : Pos}
theorem de_meth {id : String} {name : Str} {r : V → List V → Hp → VK → Prop} {F : D → List D → Option D} {f : M D} {g : M (List D)} (slot : Slot "list" name id) (hty : typeOf (.builtin id) = pure (.type "method_descriptor")) (hm : MtR X id r) (hF : MethS X.K F r)
    (ho : DE X c o f) (ha : DA X c (e :: es) g)
    (hbase : attributeBase o name X.env (eval o X.env) = eval o X.env := by rfl)
    (hfew : ((backTo cpos (starEach (e :: es) X.env)).all (fun x => !x.1) && (backToKw cpos (keywordEach [] X.env)).all (fun x => x.1.isSome)
      && decide ((e :: es).length + ([] : List Keyword).length + (if ([] : List Keyword).isEmpty then 0 else 1) < 30)) = true := by rfl)
    (hline : (apos.endLine == cpos.line) = true := by rfl) (hs : starEach (e :: es) X.env = (false, eval e X.env) :: starEach es X.env := by rfl) (hplain : (backTo cpos (starEach es X.env)).any (·.1) = false := by rfl) :
    DE X c (.Call (.Attribute o name apos) (e :: es) [] cpos) (dmeth F f g) := by
  obtain ⟨to, po, wo⟩ := ho
  obtain ⟨t, pa, wa⟩ := ha
  refine ⟨_, pe_bm PySem.F.plainAttrs_list slot hty hm po pa hbase hfew hline hs hplain, fun ρ σ H Q r0 h => wo ρ σ H _ r0 (Wp.bnd h fun x ρ1 v H1 r1 i1 g1 h1 => ?_)⟩
  cases x with
  | lst ds =>
    obtain ⟨a, xs, rfl, ha, hH, il⟩ := i1
    refine ⟨.inl ⟨rfl, xs, .inl (.inl hH)⟩, wa ρ1 σ H1 _ r1 (WpL.bnd h1 fun ys ρ2 vs H2 r2 i2 g2 h2 => ?_)⟩
    obtain ⟨d, ed, h3⟩ := h2.lift
    exact hF (Cn c σ) H2 (.lst ds) ys d (.ref a) vs Q (fun a ha => r2.new ha) (g2.is ⟨a, xs, rfl, ha, hH, il⟩) i2 ed fun u H' sm i => h3 u H' (r2.same sm) i (.of_same sm)
  | _ => exact h1.elim
end
end L2.Sk
set_option Elab.async false
set_option linter.all false
set_option maxRecDepth 100000
namespace L2.Sk
open PySem PySem.Spec PyProof.Rows
def isI (b : Int) : Value → Bool
  | .int a _ => a == b
  | _ => false
section
variable {X : Cx}
end
def countI (x : D) (ys : List D) : Option D := match x, ys with
  | .lst ds, [.int b] => (intsD ds).map fun ns => .int (ns.countP (· == b))
  | _, _ => none
end L2.Sk
set_option Elab.async false
set_option linter.all false
set_option maxRecDepth 100000
namespace L2.Sk
open PySem PySem.Spec PyProof.Rows
@[reducible] def toX (X : Cx) (xe : Value → Shared → Prop) (pn : List (Addr × Obj)) : Cx := { X with xe := xe, pn := pn }
@[reducible] def hdX (X : Cx) (e : Addr) : Cx := { X with A := X.A.mark (some (.ref e)), calm := false, xe := fun _ _ => False }
section
variable {X : Cx} {pins : List (Addr × Obj)} {σ : St} {H : Hp} {s : Shared} {xe : Value → Shared → Prop}
theorem inv_to (I : Inv X pins σ H s) : Inv (toX X xe (X.pn ++ pins)) [] σ H s :=
  let k := I.ok
  ⟨⟨k.mod, k.kind, k.glob, k.blt, k.above, k.inj, k.has, k.cab, k.hd, k.frames, k.stk, k.exf, k.bs, k.bsz, k.noex, k.exfs, k.funs, k.frf⟩, I.os, I.bare, I.base, I.loc, I.cell, I.free, I.freeC,
    fun p hp => I.pin p (by rw [List.append_nil] at hp; exact hp), I.hok, I.len⟩
theorem inv_from {pins2 : List (Addr × Obj)} (I : Inv (toX X xe (X.pn ++ pins)) pins2 σ H s) : Inv X pins σ H s :=
  let k := I.ok
  ⟨⟨k.mod, k.kind, k.glob, k.blt, k.above, k.inj, k.has, k.cab, k.hd, k.frames, k.stk, k.exf, k.bs, k.bsz, k.noex, k.exfs, k.funs, k.frf⟩, I.os, I.bare, I.base, I.loc, I.cell, I.free, I.freeC,
    fun p hp => I.pin p (List.mem_append_left _ hp), I.hok, I.len⟩
theorem inv_hd (e : Addr) (I : Inv X pins σ H s) : Inv (hdX X e) pins σ H s :=
  let k := I.ok
  ⟨⟨k.mod, k.kind, k.glob, k.blt, k.above, k.inj, k.has, k.cab, fun z => (nomatch z), k.frames, k.stk, k.exf, k.bs, k.bsz, k.noex, k.exfs, k.funs, k.frf⟩, I.os, I.bare, I.base, I.loc, I.cell, I.free, I.freeC, I.pin, I.hok, I.len⟩
theorem inv_unhd {e : Addr} {σ' : St} {H' : Hp} {s' : Shared} (k : X.Ok) (I : Inv (hdX X e) pins σ' H' s') : Inv X pins σ' H' s' :=
  ⟨k, I.os, I.bare, I.base, I.loc, I.cell, I.free, I.freeC, I.pin, I.hok, I.len⟩
theorem inv_forget {h' : Heap} {m' : Str → Option Value} {tk : Nat} (I : Inv X pins σ H s) (hn : h'.Ns X.env.locals m') (hs : Heap.SameBut X.env.locals s.heap h') :
    Inv X pins (List.replicate X.N.length none) H { s with heap := h', toks := tk } := by
  obtain ⟨m, hn0, _⟩ := id I.loc
  obtain ⟨oL, _, _, hoL, _⟩ := id hn0
  have ne : ∀ b o, X.s₀.heap.get? b = some o → b ≠ X.env.locals := fun b o q => Nat.ne_of_lt (Nat.lt_of_lt_of_le (Heap.lt_size q) I.ok.above)
  refine ⟨I.ok, I.os, I.bare, ⟨fun b o e n hb hx => (hs.2 b (ne b o e)).trans (I.base.keep b o e n hb hx), fun b o e n hb hx => ?_, I.base.free, fun b o e hx => ?_, I.base.tups, I.base.frzs, I.base.tbls⟩, ⟨m', hn, fun j y v e1 e2 e3 => ?_⟩, fun y c e => ?_, I.free, I.freeC, fun p hp => ?_, fun b ob e => ?_, by simp⟩
  · obtain ⟨sl, q⟩ := I.base.slot b o e n hb hx
    exact ⟨sl, (hs.2 b (ne b o e)).trans q⟩
  · obtain ⟨o', q⟩ := I.base.there b o e hx
    exact ⟨o', (hs.2 b (ne b o e)).trans q⟩
  · rw [List.getElem?_replicate] at e2
    split at e2 <;> cases e2
  · obtain ⟨w', z⟩ := I.cell y c e
    exact ⟨w', z.sameBut hs (I.cne y c e)⟩
  · obtain ⟨e, n, nl, nf, d⟩ := I.pin p hp
    exact ⟨(hs.2 p.1 nl).trans e, n, nl, nf, d⟩
  · refine (I.hok b ob e).stay (fun c w' hc q => (hs.2 c ?_).trans q) (fun _ q => q) fun _ _ q => q
    rintro rfl
    rcases hc with rfl | hc
    · rw [I.free] at e; cases e
    · rw [I.free] at hc; cases hc
theorem funs_on {H' : Hp} {h' : Heap} (I : Inv X pins σ H s) (u : Un (frs X.stack) [] H H' s.heap h') : h'.FunFrames X.base X.stack := by
  have all : ∀ (l : List PySem.Env), (∀ b ∈ frs l, b ∈ frs X.stack) → s.heap.FunFrames X.base l → h'.FunFrames X.base l := by
    intro l
    induction l with
    | nil => intro _ _; trivial
    | cons env r ih =>
      intro hss hl
      obtain ⟨hk, ⟨L, o, hf', hn, ho, hd⟩, hr⟩ := hl
      have hfr : frs (env :: r) = L :: frs r := by unfold frs; rw [List.filterMap_cons, hf']
      rw [hfr] at hss
      have hL := hss L List.mem_cons_self
      obtain ⟨sl, e⟩ := u.slot L o ho (I.stkFree L hL) hL (by simp)
      exact ⟨hk, ⟨L, _, hf', hn, e, hd⟩, ih (fun b hb => hss b (List.mem_cons_of_mem _ hb)) hr⟩
  exact all X.stack (fun _ z => z) I.stack
theorem un_lft {H' : Hp} {h1 h' : Heap} {ch : List Addr} (u : Un (frs X.stack) [] H H' s.heap h1) (hchn : ∀ b ∈ ch, s.heap.get? b = none) (x : Lft h1 h' ch (frs X.stack)) : Un (frs X.stack) [] H H' s.heap h' := by
  have nch : ∀ b o, s.heap.get? b = some o → b ∉ ch := fun b o q z => by rw [hchn b z] at q; cases q
  refine ⟨fun b o q n hb hx => x.keep b o (nch b o q) hb (u.keep b o q n hb hx), fun b o q n hb hx => ?_, u.free, fun b o q hx => ?_, u.tups, u.frzs, u.tbls⟩
  · obtain ⟨sl, q1⟩ := u.slot b o q n hb hx
    obtain ⟨sl2, q2⟩ := x.slot b _ hb q1
    exact ⟨sl2, q2⟩
  · obtain ⟨o2, q2⟩ := u.there b o q hx
    by_cases hb : b ∈ frs X.stack
    · obtain ⟨sl, q3⟩ := x.slot b o2 hb q2
      exact ⟨_, q3⟩
    · exact ⟨o2, x.keep b o2 (nch b o q) hb q2⟩
theorem hok_lft {H' : Hp} {h1 h' : Heap} {ch : List Addr} (I : Inv X pins σ H s) (u : Un (frs X.stack) [] H H' s.heap h1) (hok : HOk X.prog X.w H' h1) (hch : ∀ b ∈ ch, H' b = none) (x : Lft h1 h' ch (frs X.stack)) : HOk X.prog X.w H' h' :=
  hok_on hok fun b o hb1 q => x.keep b o (fun z => by rw [hch b z] at hb1; cases hb1) (fun z => by
    obtain ⟨_, o1, ho1, _⟩ := I.stack.mem z
    rw [u.free b o1 ho1 (I.stkFree b z) (by simp)] at hb1
    cases hb1) q
theorem un_held {H' : Hp} {h' : Heap} {e : Addr} {o : HO} (u : Un (frs X.stack) [] H H' s.heap h') (he : s.heap.get? e = none) (hHe : H' e = none) : Un (frs X.stack) [] H (upd H' e o) s.heap h' := by
  have ne : ∀ b ob, s.heap.get? b = some ob → b ≠ e := fun b ob q z => by rw [z, he] at q; cases q
  have ne' : ∀ b u, H' b = some u → b ≠ e := fun b u q z => by rw [z, hHe] at q; cases q
  refine ⟨u.keep, u.slot, fun b ob q n hx => by rw [upd_ne (ne b ob q)]; exact u.free b ob q n hx, u.there, fun b xs q => ?_, fun b ob w q => ?_, fun b ps q => ?_⟩
  · have := u.tups b xs q
    rw [upd_ne (ne' b _ this)]; exact this
  · have := u.frzs b ob w q
    rw [upd_ne (ne' b _ this)]; exact this
  · obtain ⟨m, this⟩ := u.tbls b ps q
    exact ⟨m, by rw [upd_ne (ne' b _ this)]; exact this⟩
theorem hok_held {P : Program} {w : World} {H' : Hp} {h' : Heap} {e : Addr} {oe : Obj} (hok : HOk P w H' h') (hHe : H' e = none) (he : h'.get? e = some oe) : HOk P w (upd H' e (.frz oe (.own e))) h' := fun b ob q => by
  by_cases hb : b = e
  · subst hb
    rw [upd_same] at q
    cases q
    exact ⟨he, oe, he⟩
  · rw [upd_ne hb] at q
    have ne' : ∀ c u, H' c = some u → c ≠ e := fun c u q z => by rw [z, hHe] at q; cases q
    exact (hok b ob q).stay (fun _ _ _ q => q) (fun c q => by rw [upd_ne (ne' c _ q)]; exact q) fun c xs q => by rw [upd_ne (ne' c _ q)]; exact q
end
def stry (RN : List Str) (f : MS) (F : List D → R D) : MS := fun ρ => match f ρ with
  | .exc x ρ' => if RN.contains x.cls then match F [.exc x.cls] with
      | .ok d => .ok (.rt d ρ')
      | _ => .bad
    else .bad
  | r => r
def reE (c : Fc) (E : Exn → Hp → Prop) : Fc := { c with E := E }
theorem Rep.reE {K : Fr0} {c : Fc} {E : Exn → Hp → Prop} {ρ : Env} {σ : St} {H : Hp} (r : Rep K c ρ σ H) : Rep K (Sk.reE c E) ρ σ H := ⟨r.len, r.val, r.own, r.inj, r.b0, r.kp, r.dm, r.pO, r.ps⟩
theorem Rep.unE {K : Fr0} {c : Fc} {E : Exn → Hp → Prop} {ρ : Env} {σ : St} {H : Hp} (r : Rep K (Sk.reE c E) ρ σ H) : Rep K c ρ σ H := ⟨r.len, r.val, r.own, r.inj, r.b0, r.kp, r.dm, r.pO, r.ps⟩
structure XCls (K : Fr0) (base : Heap) (RN : List Str) (S : Addr) : Prop where
  sup : ∃ bm, XC base S bm
  own : ∀ n C, clR K RN n = some C → ∃ bm, XC base C bm ∧ (Value.ref C :: bm).contains (.ref S) = true
  ki : ∀ n C, clR K RN n = some C → XK6 K C
def ch (H6 : Hp) : Fc := ⟨[], [], fun a => H6 a = none, H6, fun _ => False, fun _ _ => False, fun _ => none⟩
section
variable {X : Cx} {c : Fc} {pos np hpos p1 p2 p3 p4 : Pos} {body : List Stmt}
theorem ds_try {x n m : Str} {i : Nat} {S fm : Addr} {fd : FuncData} {ps : List Str} {k : Nat} {F : List D → R D} {f : MS} {RN : List Str} (hN : X.N.Nodup) (hcx : X.stack = X.env :: X.outer) (hf : X.env.frame = some X.env.locals)
    (hcl : XCls X.K X.base RN S) (hgS : Gl X x) (hmS : X.mg x = some (.ref S))
    (G : FnOkL X.prog X.w X.K X.mg X.base CX0 k fm fd ps (spD X.K F)) (hr : Room k X.A) (hgm : Gl X m) (hmm : X.mg m = some (.ref fm)) (hkm : PySem.W.keepIn X.K (.ref fm) = true) (hbm : Binds X.K fd ps [])
    (hb : ∀ (xe : Value → Shared → Prop) (pn : List (Addr × Obj)) (E : XK) (cE : Exn → Hp → Prop), XL2 (toX X xe pn) (reE c cE) (clR X.K RN) E → DSs (toX X xe pn) (reE c cE) body f)
    (hi : X.N[i]? = some n := by rfl) (hx : X.env.scope.names.lookup n = some .local := by rfl) (hkn : X.env.kindOf n = some .local := by rfl)
    (hdx : (x == ("__debug__" : Str)) = false := by decide) (hdm : (m == ("__debug__" : Str)) = false := by decide) (hdn : (n == ("__debug__" : Str)) = false := by decide) (hcn : (n == ("__classdict__" : Str)) = false := by decide)
    (hst : starEach [.Name n p2] X.env = (false, eval (.Name n p2) X.env) :: starEach [] X.env := by rfl) (hpl : (backTo p3 (starEach [] X.env)).any (·.1) = false := by rfl) :
    DS X c (.Try body [.ExceptHandler (some (.Name x np)) (some n) [.Return (some (.Call (.Name m p1) [.Name n p2] [] p3)) p4] hpos] [] [] pos) (stry RN f F) := by
  refine ⟨fun D σ H => ∃ ρ, Rep X.K c ρ σ H ∧ WpS X.K c σ H D (stry RN f F ρ), ?_, fun ρ σ H D r h => ⟨ρ, r, h⟩⟩
  rintro pins s σ H D I ⟨ρ, r, w⟩
  refine wpAny_Try_except ?_
  have hk := I.ok
  let xe : Value → Shared → Prop := fun e s₁ => wpAny (model X.prog X.w) X.A (noteFrame e X.env) (fun _ s₂ => wpAny (model X.prog X.w) X.A (setFlight e none) (fun _ s₃ => wpAny (model X.prog X.w) X.A (handleBy e X.env [.ExceptHandler (some (.Name x np)) (some n) [.Return (some (.Call (.Name m p1) [.Name n p2] [] p3)) p4] hpos]) (SP X pins D) X.xe s₃) X.xe s₂) X.xe s₁
  let cE : Exn → Hp → Prop := fun z H' => ∃ ρ' σ', f ρ = .exc z ρ' ∧ Rep X.K c ρ' σ' H' ∧ GrS c.O σ H σ' H'
  let E : XK := fun cv _ H' => ∃ C z, cv = .ref C ∧ clR X.K RN z.cls = some C ∧ cE z H'
  have L : XL2 (toX X xe (X.pn ++ pins)) (reE c cE) (clR X.K RN) E := by
    refine ⟨?_, fun z C H' h1 h2 => ⟨C, z, rfl, h1, h2⟩⟩
    intro pins2 σ2 H2 s2 u s' I2 hx2
    obtain ⟨e, T, C, H', rfl, os, bare, un, hok, he, hT, hHe, hHT, Fl, C', z, hC', hz, ρ', σ', ef, r', g'⟩ := hx2
    have eC : C = C' := Value.ref.inj hC'
    subst eC
    have I3 : Inv X pins σ2 H2 s2 := inv_from I2
    have hz2 : ∀ b ∈ [e, T], H' b = none := fun b hb => by
      simp only [List.mem_cons, List.not_mem_nil, or_false] at hb
      rcases hb with rfl | rfl
      · exact hHe
      · exact hHT
    have hz3 : ∀ b ∈ [e, T], s2.heap.get? b = none := fun b hb => by
      simp only [List.mem_cons, List.not_mem_nil, or_false] at hb
      rcases hb with rfl | rfl
      · exact he
      · exact hT
    have hl : s'.heap.FunFrames X.base X.stack := funs_on I3 un
    have hA : X.A.frames = some (X.env :: X.outer) := by rw [← hcx]; exact hk.frames
    show wpAny _ _ _ _ _ _
    rw [hcx] at hl
    refine land_next hA hl hf Fl fun h3 T3 y1 y2 y3 => ?_
    rw [← hcx] at y1
    have un3 : Un (frs X.stack) [] H2 H' s2.heap h3 := un_lft un hz3 y1
    have hok3 : HOk X.prog X.w H' h3 := hok_lft I3 un hok hz2 y1
    have I4 : Inv X pins σ2 H' { s' with heap := h3 } := I3.call' (s' := { s' with heap := h3 }) (ch := []) os un3 hok3 bare (fun b hb => nomatch hb)
    have up : ∀ b, s'.heap.get? b = none → s2.heap.get? b = none := fun b hb => by
      cases q : s2.heap.get? b with
      | none => rfl
      | some o =>
        obtain ⟨o', q'⟩ := un.there b o q (by simp)
        rw [hb] at q'; cases q'
    have hT3 : s2.heap.get? T3 = none := y3.elim (fun z => z ▸ hT) (up T3)
    have hHT3 : H' T3 = none := y3.elim (fun z => z ▸ hHT) fun z => by
      cases q : H' T3 with
      | none => rfl
      | some o =>
        obtain ⟨o', q'⟩ := objOk_there (hok _ _ q)
        rw [z] at q'; cases q'
    refine wpAny_handleBy_cons (codeAny_handlers_test ?_) (by intro q; cases q)
    refine ld_glob (X := hdX X e) (inv_hd e I4) hgS hmS ?_ hdx
    obtain ⟨bmS, xS⟩ := hcl.sup
    obtain ⟨bm, xC, hin⟩ := hcl.own _ _ hz
    obtain ⟨nmS, qS, NS, bsS, hdctS, snS, subS, abS, colS, ddS, j0, j1, j2, j3, j5, newIdS, _, _, _, _, hS, _⟩ := xS.ex
    obtain ⟨nm, q, N, bs, hdct, sn, sub, ab, col, dd, k0, k1, k2, k3, k5, newId, _, _, _, _, hC, _⟩ := xC.ex
    obtain ⟨oe, vs, oT, ts, a0, hoe, hoc, hod, _⟩ := id y2
    refine excMatches_own (M := model X.prog X.w) (A := X.A.mark (some (.ref e))) (h := h3) (g := s'.gens) (d := s'.drawn) (t := s'.toks) (os := s'.os) (I4.bk _ _ hC) (I4.bk _ _ hS) hoe hoc.1 xS.hasBase ?_
    rw [hin]
    show codeAny _ _ _ _ _
    refine codeAny_handlers_suite_as ?_
    have hl3 : h3.FunFrames X.base X.stack := funs_on I3 un3
    refine land_again (s := { s' with heap := h3 }) hl3 y2 fun h4 T4 z1 z2 z3 => ?_
    have hz4 : ∀ b ∈ [e, T3], H' b = none := fun b hb => by
      simp only [List.mem_cons, List.not_mem_nil, or_false] at hb
      rcases hb with rfl | rfl
      · exact hHe
      · exact hHT3
    have hz5 : ∀ b ∈ [e, T3], s2.heap.get? b = none := fun b hb => by
      simp only [List.mem_cons, List.not_mem_nil, or_false] at hb
      rcases hb with rfl | rfl
      · exact he
      · exact hT3
    have un4 : Un (frs X.stack) [] H2 H' s2.heap h4 := un_lft un3 hz5 z1
    have hok4 : HOk X.prog X.w H' h4 := hok_lft I3 un3 hok3 hz4 z1
    obtain ⟨oe4, vs4, oT4, ts4, a04, hoe4, hoc4, hod4, _⟩ := id z2
    have I5 : Inv X pins σ2 (upd H' e (.frz oe4 (.own e))) { s' with heap := h4 } := I3.call' (s' := { s' with heap := h4 }) (ch := []) os (un_held un4 he hHe) (hok_held hok4 hHe hoe4) bare (fun b hb => nomatch hb)
    refine store_ok (v := .ref e) I5 hN hi (.inl hx) rfl (fun s5 I6 => ?_) (.inr hx)
    have sm : Same H' (upd H' e (.frz oe4 (.own e))) := same_new hHe _
    have hil : IsL X.K (fun _ => False) (upd H' e (.frz oe4 (.own e))) [.exc z.cls] [.ref e] := ⟨.ref e, [], rfl, ⟨e, rfl, C, (clR_in hz).2, hcl.ki _ _ hz, oe4, vs4, upd_same, hoc4.1, hod4⟩, rfl⟩
    cases em : F [.exc z.cls] with
    | bad => simp only [stry, ef, (clR_in hz).1, em, if_true] at w; exact w.elim
    | exc z' ρ'' => simp only [stry, ef, (clR_in hz).1, em, if_true] at w; exact w.elim
    | ok d =>
      simp only [stry, ef, (clR_in hz).1, em, if_true] at w
      have hσl : i < σ2.length := by rw [I5.len]; exact (List.getElem?_eq_some_iff.mp hi).1
      have call := pss_one (ps_ret (pos := p4) (pe_callL (X := hdX X e) (E := fun _ _ _ => False) (pos := p3) (p := p1) G ⟨hr.dp, hr.un, hr.gd⟩ hgm hmm hkm hbm .nil (fun _ _ _ _ _ _ _ z => z.elim) (pa_cons (pe_var (X := hdX X e) (pos := p2) hi (.inl hx) hdn hcn) pa_nil hst) hdm hst hpl))
      have run := call pins s5 _ _ ({ nx := fun _ _ => False, rt := D.rt } : Ends) (inv_hd e I6) ⟨.ref e, List.getElem?_set_self hσl, ⟨e, oe4, .own e, vs4, rfl, upd_same, hod4, hoc4.2.1⟩, [.exc z.cls], fun _ => False, hil, fun _ _ => trivial, by
        rw [em]
        exact fun v H6 sm6 i6 => w v σ' H6 (r'.same (fun b o q => sm6 b o (sm b o q))) (Is.ext Ext.refl (fun a ha _ => ha.elim (fun z => z.elim) fun hn => r'.b0 a (r'.dm a (sm.free hn))) i6) (g'.trans (Gr.of_same (fun b o q => sm6 b o (sm b o q))).s)⟩
      refine wpAny_mono run (fun fl s6 h6 => ?_) (fun _ _ z => z.elim)
      cases fl with
      | next => obtain ⟨_, _, _, z⟩ := h6; exact z.elim
      | brk => obtain ⟨_, _, _, z⟩ := h6; exact z.elim
      | cont => obtain ⟨_, _, _, z⟩ := h6; exact z.elim
      | ret u =>
        obtain ⟨v, σ7, H7, I7, rv, q7⟩ := h6
        have I8 := inv_unhd hk I7
        obtain ⟨m8, hn8, _⟩ := id I8.loc
        exact wpAny_nameGoes hkn hn8 (by rw [hk.kind]; rfl) fun h9 m9 hn9 hs9 => ⟨v, _, H7, inv_forget I8 hn9 hs9, rv, q7⟩
  obtain ⟨t, p, wt⟩ := hb xe (X.pn ++ pins) E cE L
  have w' : WpS X.K (reE c cE) σ H D (f ρ) := by
    cases ef : f ρ with
    | bad => simp only [stry, ef] at w; exact w
    | exc z ρ' => exact fun σ' H' r' g' => ⟨ρ', σ', ef, r'.unE, g'⟩
    | ok fl =>
      simp only [stry, ef] at w
      cases fl with
      | nx ρ' => exact fun σ' H' r' g' => w σ' H' r'.unE g'
      | rt d ρ' => exact fun v σ' H' r' i' g' => w v σ' H' r'.unE i' g'
      | bk ρ' => exact fun σ' H' r' g' => w σ' H' r'.unE g'
      | ct ρ' => exact fun σ' H' r' g' => w σ' H' r'.unE g'
  have run := p [] s σ H D (inv_to I) (wt ρ σ H D r.reE w')
  refine wpAny_mono run (fun fl s1 h1 => ?_) (fun _ _ z => z)
  cases fl with
  | next =>
    obtain ⟨σ1, H1, I1, q1⟩ := h1
    exact wpAny_execs_nil ⟨σ1, H1, inv_from I1, q1⟩
  | brk => obtain ⟨σ1, H1, I1, q1⟩ := h1; exact ⟨σ1, H1, inv_from I1, q1⟩
  | cont => obtain ⟨σ1, H1, I1, q1⟩ := h1; exact ⟨σ1, H1, inv_from I1, q1⟩
  | ret u => obtain ⟨v, σ1, H1, I1, rv, q1⟩ := h1; exact ⟨v, σ1, H1, inv_from I1, rv, q1⟩
end
end L2.Sk
set_option Elab.async false
set_option linter.all false
set_option maxRecDepth 100000
namespace L2.Sk
open PySem PySem.Spec PyProof.Rows PySem.W
def bmV : List Value := [.type "ValueError", .type "Exception", .type "BaseException", .type "object"]
def supIn (K : Fr0) (C S : Addr) : Bool := match K.lookup C with
  | some ⟨_, _, .cls cd, _⟩ => cd.mro.contains (.ref S)
  | _ => false
theorem xc_of_in {K : Fr0} {h : Heap} {C S : Addr} (X : K.In h) (q : excIn K C bmV "ValueError.__new__" = true) (hs : supIn K C S = true) : ∃ bm, XC h C bm ∧ (Value.ref C :: bm).contains (.ref S) = true := by
  unfold excIn at q
  split at q
  · rename_i dd cd sl ho
    split at q
    · rename_i C' bm k0 k1 k2 k3 n k5 hm hl
      simp only [Bool.and_eq_true, beq_iff_eq, Bool.not_eq_true'] at q
      obtain ⟨⟨⟨⟨⟨e1, e2⟩, hdel⟩, ht⟩, hok⟩, hni⟩ := q
      subst e1 e2
      unfold supIn at hs
      rw [ho] at hs
      dsimp only at hs
      rw [hm] at hs
      obtain ⟨nm, bs, mro, ns, qn, hd, sn, sub, ab, col, del⟩ := cd
      dsimp only at hm hdel hok hni
      subst hm hdel
      have hz : sl = #[k0, k1, k2, k3, some (.builtin _), k5] := Array.toList_inj.mp hl
      subst hz
      have hT := tail_of_in X ht
      refine ⟨bm, ⟨hT.hasType (by decide +kernel), nm, qn, ns, bs, hd, sn, sub, ab, col, dd, k0, k1, k2, k3, k5, _, "ValueError.__init__", "ValueError", bmV, _, X _ _ ho, .of_isNs (isNs_of_in X hok), nsMap_none_of_in X hok hni, hT, PySem.F.excBase_ValueError⟩, hs⟩
    · cases q
  · cases q
def xk6In (K : Fr0) (D : Addr) : Bool :=
  findIn K (.ref D) "__getattribute__" == some (some (.builtin "BaseException.__getattribute__")) && findIn K (.ref D) "__getattr__" == some none &&
  findIn K (.ref D) "__class__" == some (some (.builtin "object.__class__")) && mroIn K D (.type "object") == some true && subIn K (.ref D) (.type "BaseException") == some true && (clsIn K D).isSome &&
  (["int", "bool", "str", "tuple", "list", "dict"].all fun T => kitOne K (.ref D) (.type T) == some false)
theorem xk6_of {K : Fr0} {D : Addr} (h : xk6In K D = true) : XK6 K D := by
  unfold xk6In at h
  simp only [Bool.and_eq_true, beq_iff_eq] at h
  obtain ⟨⟨⟨⟨⟨⟨h1, h2⟩, h3⟩, h4⟩, h5⟩, h6⟩, h7⟩ := h
  exact ⟨h1, h2, h3, h4, h5, h6, fun T hT => by simpa using List.all_eq_true.mp h7 T hT⟩
def instX (n m : Str) : Bool := n == m || m == "SackError"
def xRow (K : Fr0) (S : Addr) (TN : List Str) (n : Str) : Bool := match clsOf K n with
  | some C => excIn K C bmV "ValueError.__new__" && supIn K C S && xk6In K C && kitOne K (.ref C) (.type "ValueError") == some true &&
    TN.all fun m => match clsOf K m with
      | some Cm => kitOne K (.ref C) (.ref Cm) == some (instX n m)
      | none => false
  | none => false
def xAll (K : Fr0) (RN TN : List Str) : Bool := match clsOf K "SackError" with
  | some S => excIn K S bmV "ValueError.__new__" && supIn K S S && RN.all (xRow K S TN)
  | none => false
structure XT (K : Fr0) (mg : Str → Option Value) (RN TN : List Str) : Prop where
  all : xAll K RN TN = true
  mgc : ∀ n C, clsOf K n = some C → mg n = some (.ref C)
theorem clsOf_mg {K : Fr0} {h : Heap} {mg : Str → Option Value} (X : K.In h) (G : h.Ns mainGlobals mg) (n : Str) (C : Addr) (e : clsOf K n = some C) : mg n = some (.ref C) := by
  unfold clsOf at e
  split at e
  · rename_i C' q
    cases e
    exact mg_of X G q
  · cases e
section
variable {K : Fr0} {mg : Str → Option Value} {RN TN : List Str}
theorem XT.sup (t : XT K mg RN TN) : ∃ S, clsOf K "SackError" = some S ∧ excIn K S bmV "ValueError.__new__" = true ∧ supIn K S S = true ∧ RN.all (xRow K S TN) = true := by
  have h := t.all
  unfold xAll at h
  split at h
  · rename_i S e
    simp only [Bool.and_eq_true] at h
    exact ⟨S, e, h.1.1, h.1.2, h.2⟩
  · cases h
theorem XT.row (t : XT K mg RN TN) {S : Addr} (hS : clsOf K "SackError" = some S) {n : Str} (hn : RN.contains n = true) : xRow K S TN n = true := by
  obtain ⟨S', e, _, _, h⟩ := t.sup
  rw [hS] at e
  cases e
  exact List.all_eq_true.mp h n (by simpa using hn)
theorem XT.cls (t : XT K mg RN TN) {n : Str} {C : Addr} (h : clR K RN n = some C) : clsOf K n = some C ∧ ∃ S, clsOf K "SackError" = some S ∧ excIn K C bmV "ValueError.__new__" = true ∧ supIn K C S = true ∧ XK6 K C ∧ kitOne K (.ref C) (.type "ValueError") = some true ∧
    ∀ m ∈ TN, ∃ Cm, clsOf K m = some Cm ∧ kitOne K (.ref C) (.ref Cm) = some (instX n m) := by
  unfold clR at h
  split at h
  · rename_i hn
    obtain ⟨S, hS, _⟩ := t.sup
    have r := t.row hS hn
    unfold xRow at r
    rw [h] at r
    simp only [Bool.and_eq_true, beq_iff_eq] at r
    obtain ⟨⟨⟨⟨r1, r2⟩, r3⟩, r4⟩, r5⟩ := r
    refine ⟨h, S, hS, r1, r2, xk6_of r3, r4, fun m hm => ?_⟩
    have := List.all_eq_true.mp r5 m hm
    split at this
    · rename_i Cm e
      exact ⟨Cm, e, by simpa using this⟩
    · cases this
  · cases h
theorem XT.has (t : XT K mg RN TN) {n : Str} (hn : RN.contains n = true) : ∃ C, clR K RN n = some C := by
  obtain ⟨S, hS, _⟩ := t.sup
  have r := t.row hS hn
  unfold xRow at r
  split at r
  · rename_i C e
    exact ⟨C, by unfold clR; rw [if_pos hn]; exact e⟩
  · cases r
theorem XT.ask (t : XT K mg RN TN) {n m : Str} (hn : RN.contains n = true) (hm : m ∈ TN) : ∃ Cm, clsOf K m = some Cm := by
  obtain ⟨C, hC⟩ := t.has hn
  obtain ⟨_, _, _, _, _, _, _, h⟩ := t.cls hC
  obtain ⟨Cm, e, _⟩ := h m hm
  exact ⟨Cm, e⟩
theorem XT.xcls (t : XT K mg RN TN) {base : Heap} (X : K.In base) : ∃ S, mg "SackError" = some (.ref S) ∧ XCls K base RN S := by
  obtain ⟨S, hS, h1, h2, _⟩ := t.sup
  refine ⟨S, t.mgc _ _ hS, ⟨(xc_of_in X h1 h2).imp fun bm h => h.1, fun n C h => ?_, fun n C h => ?_⟩⟩
  · obtain ⟨_, S', hS', r1, r2, _⟩ := t.cls h
    rw [hS] at hS'
    cases hS'
    exact xc_of_in X r1 r2
  · obtain ⟨_, _, _, _, _, r, _⟩ := t.cls h
    exact r
end
theorem ty_count : typeOf (.builtin "list.count") = pure (.type "method_descriptor") := by kernel_rfl
theorem ty_index : typeOf (.builtin "list.index") = pure (.type "method_descriptor") := by kernel_rfl
def disx (RN : List Str) (m : Str) (f : M D) : M D := bnd f fun d => match d with
  | .exc n => if RN.contains n then ret (.bl (m == "ValueError" || instX n m)) else fun _ => .bad
  | _ => fun _ => .bad
section
variable {X : Cx} {c : Fc} {a b e : Expr} {pos : Pos} {RN TN : List Str}
def rIsx (K : Fr0) (RN : List Str) (m : Str) (Cm : V) : List V → Hp → VK → Prop := fun xs H Q => ∃ v n A, xs = [v, Cm] ∧ RN.contains n = true ∧ Is K A H (.exc n) v ∧ Q (.bl (m == "ValueError" || instX n m)) H
theorem call_isx {m : Str} {Cm : V} {um : Value} (hr : RelV Cm um) (hu : ∀ u, RelV Cm u → u = um) (hk : ∀ n C, clsOf X.K n = some C → RN.contains n = true → kitOne X.K (.ref C) um = some (m == "ValueError" || instX n m)) : CallR X (.builtin "isinstance") (rIsx X.K RN m Cm) := by
  intro pins s σ H xs us Q I r h
  obtain ⟨v, n, A, rfl, hn, hi, q⟩ := h
  obtain ⟨u, w, rfl, r1, r2⟩ := Vals.two r
  rw [hu w r2]
  obtain ⟨z, rfl, C, hC, h1, h2⟩ := hi
  cases (show u = Value.ref z from r1)
  exact isinst_exc I h1 h2 (hk n C hC hn) fun tk => ⟨.bl _, H, I.tok tk, rfl, q⟩
theorem disx_wp {m : Str} {f : M D} {t : TE} {Cm : V} (w : ∀ ρ σ H Q, Rep X.K c ρ σ H → Wp X.K c σ H Q (f ρ) → t σ H Q) : ∀ ρ σ H Q, Rep X.K c ρ σ H → Wp X.K c σ H Q (disx RN m f ρ) → tCB (rIsx X.K RN m Cm) (tCons t (tCons (tC Cm) tNil)) σ H Q := fun ρ σ H Q r h => w ρ σ H _ r (Wp.bnd h fun d ρ1 v H1 r1 i1 g1 h1 => by
  cases d with
  | exc n =>
    dsimp only at h1
    by_cases hn : RN.contains n = true
    · rw [if_pos hn] at h1
      exact ⟨v, n, _, rfl, hn, i1, h1 _ H1 r1 rfl .refl⟩
    · rw [if_neg hn] at h1
      exact h1.elim
  | _ => exact h1.elim)
theorem de_isx {m : Str} {mgl : Str → Option Value} {p p2 : Pos} {f : M D} (t : XT X.K X.mg RN TN) (hm : m ∈ TN) (hne : (m == "ValueError") = false) (hg : Gl X "isinstance") (hmi : X.mg "isinstance" = none) (hg2 : Gl X m) (ha : DE X c a f)
    (hs : ∃ Cm, clsOf X.K m = some Cm)
    (hv : bootBuiltins "isinstance" = some (.builtin "isinstance") := by first | rfl | exact PySem.boot_isinstance) (hdb2 : (m == ("__debug__" : Str)) = false := by decide)
    (he : starEach [a, .Name m p2] X.env = (false, eval a X.env) :: starEach [.Name m p2] X.env := by rfl) (hpl : (backTo pos (starEach [.Name m p2] X.env)).any (·.1) = false := by rfl) : DE X c (.Call (.Name "isinstance" p) [a, .Name m p2] [] pos) (disx RN m f) := by
  obtain ⟨ta, pa, w⟩ := ha
  obtain ⟨Cm, hCm⟩ := hs
  refine ⟨_, pe_callB (call_isx (RN := RN) (m := m) (Cm := .ref Cm) (um := .ref Cm) rfl (fun u h => h) fun n C hC hn => ?_) hg hmi hv (pa_cons pa (pa_cons (pe_glob (v := .ref Cm) hg2 (t.mgc m Cm hCm) rfl hdb2) pa_nil (by rfl)) he) (by decide) (by decide) he hpl, disx_wp w⟩
  have hcl : clR X.K RN n = some C := by unfold clR; rw [if_pos hn]; exact hC
  obtain ⟨_, _, _, _, _, _, _, h⟩ := t.cls hcl
  obtain ⟨Cm', e1, e2⟩ := h m hm
  rw [hCm] at e1
  cases e1
  rw [e2, hne]; rfl
theorem de_isxV {p p2 : Pos} {f : M D} (t : XT X.K X.mg RN TN) (hg : Gl X "isinstance") (hmi : X.mg "isinstance" = none) (hg2 : Gl X "ValueError") (hm2 : X.mg "ValueError" = none) (ha : DE X c a f)
    (hv : bootBuiltins "isinstance" = some (.builtin "isinstance") := by first | rfl | exact PySem.boot_isinstance) (hv2 : bootBuiltins "ValueError" = some (.type "ValueError") := by rfl)
    (he : starEach [a, .Name "ValueError" p2] X.env = (false, eval a X.env) :: starEach [.Name "ValueError" p2] X.env := by rfl) (hpl : (backTo pos (starEach [.Name "ValueError" p2] X.env)).any (·.1) = false := by rfl) : DE X c (.Call (.Name "isinstance" p) [a, .Name "ValueError" p2] [] pos) (disx RN "ValueError" f) := by
  obtain ⟨ta, pa, w⟩ := ha
  refine ⟨_, pe_callB (call_isx (RN := RN) (m := "ValueError") (Cm := .ty "ValueError") (um := .type "ValueError") rfl (fun u h => h) fun n C hC hn => ?_) hg hmi hv (pa_cons pa (pa_cons (pe_bltn (v := .ty "ValueError") hg2 hm2 hv2 rfl (by decide) (by decide)) pa_nil (by rfl)) he) (by decide) (by decide) he hpl, disx_wp w⟩
  have hcl : clR X.K RN n = some C := by unfold clR; rw [if_pos hn]; exact hC
  obtain ⟨_, _, _, _, _, _, h, _⟩ := t.cls hcl
  rw [h]; rfl
end
section
variable {P : Program} {w : World} {K : PySem.W.Frag} {mg : Str → Option Value} {base : Heap}
theorem fn_pureL {x qual : Str} {st : Stmt} {f : Addr} {fd : FuncData} {N ps : List Str} {k : Nat} {O : List Nat} {body : MS} (F : Fun K x qual st f fd) (S : FnScope N ps (defScope st)) (hO : ∀ i ∈ O, ps.length ≤ i)
    (hb : ∀ (cdv : Value) (A : Around) (outer : List PySem.Env) (s : Shared) (H : Hp) (E : XK) (B : Addr → Prop), RoomL k (A.deeper (envOfC qual (defScope st) s.heap.objs.size f cdv)) → AloneA (A.deeper (envOfC qual (defScope st) s.heap.objs.size f cdv)) H →
      DSs (cxOfL CX0 P w K mg base N qual (defScope st) f cdv A outer s H E).nox (cfn O [] B H (fun _ => False) (fun _ _ => False) fun _ => none) (defBody st) body) :
    FnOkL P w K mg base CX0 (k + 1) f fd ps (spD K (dfn N.length ps.length body)) := by
  obtain ⟨oc, od, kV, doc, pm, an, cdv, ct, osl, rfl, lk, hcd⟩ := F.ex
  refine fn_ofL lk hcd S (fun vs H Q E h => ?_) (fun A outer s H vs Q E hr al h => ?_)
  · obtain ⟨ds, B, il, _, h⟩ := h
    unfold dfn at h
    by_cases e : ds.length = ps.length
    · rw [il.length]; exact e
    · rw [if_neg e] at h; exact h.elim
  · obtain ⟨ds, B, il, _, h⟩ := h
    obtain ⟨t, p, wt⟩ := hb cdv A outer s H E B hr al
    refine ⟨t, p.nox, ?_⟩
    unfold dfn at h
    by_cases e : ds.length = ps.length
    · rw [if_pos e] at h
      refine wt (envOf N.length ds) (start N vs) H _ (rep_start il (fun i hi => by rw [e]; exact hO i hi)) ?_
      have same : ∀ {ρ : Env} {σ : St} {H' : Hp}, Rep K (cfn O [] B H (fun _ => False) (fun _ _ => False) fun _ => none) ρ σ H' → Same H H' := fun r b o hb => r.kp b o hb fun z => z
      cases eb : body (envOf N.length ds) with
      | bad => rw [eb] at h; exact h.elim
      | exc z ρ => rw [eb] at h; exact h.elim
      | ok fl =>
        rw [eb] at h
        cases fl with
        | nx ρ => exact fun σ' H' r' _ => h .non H' (same r') rfl
        | rt d ρ => exact fun v σ' H' r' i' _ => h v H' (same r') i'
        | bk ρ => exact h.elim
        | ct ρ => exact h.elim
    · rw [if_neg e] at h; exact h.elim
structure CalleeL (P : Program) (w : World) (K : PySem.W.Frag) (mg : Str → Option Value) (base : Heap) (k : Nat) (x : Str) (ps : List Str) (sp : Sp) : Prop where
  ex : ∃ f fd, FnOkL P w K mg base CX0 k f fd ps sp ∧ mg x = some (.ref f) ∧ PySem.W.keepIn K (.ref f) = true ∧ Binds K fd ps []
end
end L2.Sk
set_option Elab.async false
set_option linter.all false
set_option maxRecDepth 100000
namespace L2.Sk
open PySem PySem.Spec PyProof.Rows
section
variable {ρ : Env} {f g : M D} {l : M (List D)} {p q : MS} {RN : List Str}
theorem a_dcallX (F : List D → R D) : dcallX RN F l ρ = match l ρ with | .ok (xs, ρ1) => (match F xs with | .ok d => .ok (d, ρ1) | .exc x _ => (if RN.contains x.cls then .exc x ρ1 else .bad) | .bad => .bad) | .exc x ρ' => .exc x ρ' | .bad => .bad := by
  simp only [dcallX, bnd]
  cases l ρ with
  | ok z => obtain ⟨z1, ρ1⟩ := z; cases F z1 <;> rfl
  | exc x ρ' => rfl
  | bad => rfl
theorem a_dcallP (F : List D → R D) : dcallP F l ρ = match l ρ with | .ok (xs, ρ1) => (match F xs with | .ok d => .ok (d, ρ1) | _ => .bad) | .exc x ρ' => .exc x ρ' | .bad => .bad := by
  simp only [dcallP, bnd]
  cases l ρ with
  | ok z => obtain ⟨z1, ρ1⟩ := z; cases F z1 <;> rfl
  | exc x ρ' => rfl
  | bad => rfl
theorem a_sraise (x : Str) : sraise x l ρ = match l ρ with | .ok (ds, ρ') => (if smallL ds.length then .exc ⟨x, .non⟩ ρ' else .bad) | .exc z ρ' => .exc z ρ' | .bad => .bad := rfl
theorem a_stry (F : List D → R D) : stry RN p F ρ = match p ρ with | .exc x ρ' => (if RN.contains x.cls then (match F [.exc x.cls] with | .ok d => .ok (.rt d ρ') | _ => .bad) else .bad) | r => r := rfl
theorem a_disx (m : Str) : disx RN m f ρ = match f ρ with | .ok (.exc n, ρ1) => (if RN.contains n then .ok (.bl (m == "ValueError" || instX n m), ρ1) else .bad) | .ok _ => .bad | .exc x ρ' => .exc x ρ' | .bad => .bad := by
  simp only [disx, bnd]
  cases f ρ with
  | ok z =>
    obtain ⟨z1, ρ1⟩ := z
    cases z1 <;> first | rfl | (dsimp only; split <;> rfl)
  | exc x ρ' => rfl
  | bad => rfl
theorem a_dmeth (F : D → List D → Option D) : dmeth F f l ρ = match f ρ with
    | .ok (.lst ds, ρ1) => (match l ρ1 with | .ok (ys, ρ2) => (match F (.lst ds) ys with | some d => .ok (d, ρ2) | none => .bad) | .exc x ρ' => .exc x ρ' | .bad => .bad)
    | .ok _ => .bad | .exc x ρ' => .exc x ρ' | .bad => .bad := by
  simp only [dmeth, bnd]
  cases f ρ with
  | ok z =>
    obtain ⟨z1, ρ1⟩ := z
    cases z1 with
    | lst ds =>
      show bnd l (fun ys => lift (F (D.lst ds) ys)) ρ1 = (match l ρ1 with | .ok (ys, ρ2) => (match F (.lst ds) ys with | some d => .ok (d, ρ2) | none => .bad) | .exc x ρ' => .exc x ρ' | .bad => .bad)
      unfold bnd
      cases l ρ1 with
      | ok z => obtain ⟨z2, ρ2⟩ := z; (dsimp only; cases F (.lst ds) z2 <;> rfl)
      | exc x ρ' => rfl
      | bad => rfl
    | _ => rfl
  | exc x ρ' => rfl
  | bad => rfl
end
theorem run_xx {n p : Nat} {body : MS} {ds : List D} {x : Exn} {ρ : Env} (h : ds.length = p) (e : body (envOf n ds) = .exc x ρ) : dfnX n p body ds = .exc x ρ := by
  unfold dfnX; rw [if_pos h, e]
theorem seq_xx {p q : MS} {ρ ρ' : Env} {x : Exn} (h : p ρ = .exc x ρ') : sseq p q ρ = .exc x ρ' := by unfold sseq; rw [h]
end L2.Sk
set_option Elab.async false
set_option linter.all false
set_option maxRecDepth 100000
namespace L2.Sk
open PySem PySem.Spec PyProof.Rows
def unO (_ : Nat) (c : Fc) : Fc := { c with O := [], P := [], B := fun _ => True }
theorem Gr.unSame {c : Fc} {σ : St} {H H' : Hp} {i : Nat} (g : Gr (unO i c).O σ H H') : Same H H' := fun b o h => g.ext.at_ b o (fun j hj => by cases hj) h
theorem Rep.un {K : Fr0} {c : Fc} {ρ : Env} {σ : St} {H : Hp} {i : Nat} (r : Rep K c ρ σ H) (_ : i ∈ c.O) : Rep K (unO i c) ρ σ H := by
  have all : ∀ b : Addr, Cn (unO i c) σ b := fun b => ⟨trivial, fun j hj => by cases hj⟩
  refine ⟨r.len, fun k d hk => ?_, fun j hj => (by cases hj), fun k j a hk => (by cases hk), fun _ _ => trivial, r.kp, r.dm, fun j hj => (by cases hj), fun j hj => (by cases hj)⟩
  obtain ⟨v, h1, h2⟩ := r.val k d hk
  refine ⟨v, h1, .inr ⟨fun z => (by cases z), ?_⟩⟩
  rcases h2 with ⟨hk2, ds, a, xs, h3, h5, h6, h7⟩ | ⟨hk2, h3⟩
  · subst h3 h5
    exact ⟨a, xs, rfl, all a, h6, IsL.ext Ext.refl (fun b _ _ => all b) h7⟩
  · exact Is.ext Ext.refl (fun b _ _ => all b) h3
theorem Gr.un {c : Fc} {σ : St} {H H' : Hp} {i : Nat} (g : Gr (unO i c).O σ H H') : Gr c.O σ H H' := .of_same g.unSame
open Classical in
open Classical in
open Classical in
section
variable {X : Cx} {c : Fc} {e : Expr} {pos : Pos}
def rng2 : List D → Option (List D)
  | [.int i, .int j] => if decide (-(2 ^ 62) ≤ i) && decide (i < 2 ^ 62) && decide (-(2 ^ 62) ≤ j) && decide (j < 2 ^ 62) then some (rngD i (j - i).toNat) else none
  | _ => none
theorem XL2.un {i : Nat} {cl : Str → Option Addr} {E : XK} (L : XL2 X c cl E) : XL2 X (unO i c) cl E := ⟨L.pass, L.wish⟩
def dloopO (i n : Nat) (g : D → Env → Option Env) (b : MS) : Nat → MS
  | 0, ρ => match getL i ρ with
    | some ds => if ds.length ≤ n then .ok (.nx ρ) else .bad
    | none => .bad
  | m + 1, ρ => match getL i ρ with
    | some ds => match ds[n - (m + 1)]? with
      | none => .bad
      | some d => match g d ρ with
        | none => .bad
        | some ρ1 => match b ρ1 with
          | .ok (.nx ρ2) => dloopO i n g b m ρ2
          | .ok (.ct ρ2) => dloopO i n g b m ρ2
          | .ok (.bk ρ2) => .ok (.nx ρ2)
          | .ok (.rt r ρ2) => .ok (.rt r ρ2)
          | .exc x ρ2 => .exc x ρ2
          | .bad => .bad
    | none => .bad
end
section
variable {ρ : Env} {f : M D} {t : M Bool} {n : M (List D)}
open Classical in
open Classical in
open Classical in
end
end L2.Sk
set_option Elab.async false
set_option linter.all false
set_option maxRecDepth 100000
namespace L2.Sk
open PySem PySem.Spec PyProof.Rows
def inA (x y : D) : Option D := match sqD y with
  | some ds => if eqOk x && eqOk y then some (.bl ((toPDs ds).any fun y => PyData.eqv y (toPD x))) else none
  | none => none
section
variable {X : Cx}
end
end L2.Sk
set_option Elab.async false
set_option linter.all false
set_option maxRecDepth 100000
namespace L2.Sk
open PySem PySem.Spec PyProof.Rows
section
variable {prog : Program} {w : World} {A : Around} {R : Result → Shared → Prop} {I : Addr} {fp wr : List Addr} {n : Nat} {P : Nat → Value → Prop} {St : Nat → Heap → Prop}
end
section
variable {prog : Program} {w : World} {A : Around} {E : Value → Shared → Prop} {s : Shared}
end
def tupsD : List D → Option (List (List Int))
  | [] => some []
  | .tup ts :: r => match intsD ts, tupsD r with
    | some n, some ns => some (n :: ns)
    | _, _ => none
  | _ => none
def nthL (ns : List (List Int)) (i : Nat) : List Int := (ns[i]?).getD []
def bestT (ns : List (List Int)) : Nat := argBest (fun i j => HT.lexLt (nthL ns i) (nthL ns j)) (ns.length - 1)
def minTD : List D → Option D
  | [.lst ds] => match tupsD ds with
    | some (n :: ns) => some (.tup ((nthL (n :: ns) (bestT (n :: ns))).map .int))
    | _ => none
  | _ => none
section
variable {X : Cx}
end
def indexA (x : D) (ys : List D) : Option D := match x, ys with
  | .lst ds, [d] => if ds.all eqOk && eqOk d then (ds.findIdx? fun e => PyData.eqv (toPD e) (toPD d)).map fun j => .int j else none
  | _, _ => none
end L2.Sk
set_option Elab.async false
set_option linter.all false
set_option maxRecDepth 100000
namespace L2.Sk
open PySem PySem.Spec PyProof.Rows
section
variable {prog : Program} {w : World} {A : Around} {E : Value → Shared → Prop} {s : Shared}
end
section
variable {X : Cx} {c : Fc} {a b e : Expr} {pos : Pos} {es : List Expr} {kk : Nat} {tp : Pos}
end
section
variable {X : Cx} {c : Fc} {a b e : Expr} {pos : Pos} {es : List Expr} {kk : Nat} {tp : Pos}
def enumL1 : List D → Option (List D)
  | [.lst xs] => some (enumF 0 xs)
  | _ => none
def denumL (f : M (List D)) : M (List D) := bnd f fun ds => lift (enumL1 ds)
end
end L2.Sk
set_option Elab.async false
set_option linter.all false
set_option maxRecDepth 100000
namespace L2.Sk
open PySem PySem.Spec PyProof.Rows
section
variable {X : Cx} {c : Fc} {pos : Pos}
theorem pe_dict0 : PE X (.Dict [] [] pos) (fun σ H Q => ∀ p, H p = none → Q (.ref p) (upd H p (.dK []))) := by
  intro pins s σ H Q I h
  have hf : H s.heap.objs.size = none := I.hok.fresh (Nat.le_refl _)
  refine wpAny_Dict_empty ⟨.ref s.heap.objs.size, upd H s.heap.objs.size (.dK []), I.laid (t' := s.toks) (fun b o q => Heap.get?_push_of_some _ q) (Nat.le_refl _) ?_, rfl, h _ hf⟩
  exact ⟨by show 0 ≤ sizeLine; decide, beq_eq_false_iff_ne.mpr (Ne.symm (Nat.ne_of_lt (modBig I))), [], .nil, Heap.DictOf.new _⟩
theorem de_dict0 : DE X c (.Dict [] [] pos) (ret (.dic [])) :=
  ⟨_, pe_dict0, fun ρ σ H Q r h p hp => h _ _ (r.laid hp _) ⟨p, rfl, r.new hp, upd_same⟩ (.of_same (same_new hp _))⟩
def sforE (f : M (List D)) : MS := fun ρ => match f ρ with
  | .exc x ρ' => .exc x ρ'
  | _ => .bad
theorem ds_forE {tg it : Expr} {body : List Stmt} {f : M (List D)} (hi : DI X c tg it f) (hs : ∀ x, foldedSetIterable it X.env x = pure x := by intro _; rfl) : DS X c (.For tg it body [] pos) (sforE f) := by
  obtain ⟨wi, pi, wI⟩ := hi
  refine ⟨fun _ σ H => wi σ H fun _ _ => False, fun pins s σ H D I h => ?_, fun ρ σ H D r h => wI ρ σ H _ r ?_⟩
  · refine wpAny_For (thn (pi pins s σ H _ I h) fun v s1 h1 => thn h1 fun itv s2 h2 => ?_) hs
    obtain ⟨it, fp, tn, J, H2, e, I2, T, st2, f2, z⟩ := h2
    exact z.elim
  · unfold sforE at h
    cases ef : f ρ with
    | bad => rw [ef] at h; exact h
    | exc z ρ' => rw [ef] at h; exact fun H' r' g' => h σ H' r' g'.s
    | ok p => rw [ef] at h; exact h.elim
end
end L2.Sk
set_option Elab.async false
set_option linter.all false
set_option maxRecDepth 100000
namespace L2.Sk
open PySem PySem.Spec PyProof.Rows
section
variable {prog : Program} {w : World} {A : Around} {E : Value → Shared → Prop} {s : Shared}
end
theorem AloneA.laid {A : Around} {H : Hp} {p : Addr} {o : HO} (x : AloneA A H) (h : H p = none) : AloneA A (upd H p o) := by
  obtain ⟨e, oe, u, vs, h1, h2, h3⟩ := x
  exact ⟨e, oe, u, vs, h1, by rw [upd_ne (ne_of_none h2 h)]; exact h2, h3⟩
theorem AloneA.rep {K : Fr0} {c : Fc} {A : Around} (x : AloneA A c.H0) (hio : ∀ a, ¬ c.Io a) (ρ : Env) (σ : St) (H : Hp) (r : Rep K c ρ σ H) : AloneA A H := by
  obtain ⟨e, oe, u, vs, h1, h2, h3⟩ := x
  exact ⟨e, oe, u, vs, h1, r.kp _ _ h2 (hio e), h3⟩
end L2.Sk
namespace L2
open PySem PySem.Spec PyProof.Rows L2.Sk
structure TurnH (P : Program) (w : World) (K : PySem.W.Frag) (tg : Expr) (J : It) (fp : List Addr) (it : Addr) (tn : Nat → Heap → Prop) : Prop where
  mem : it ∈ fp
  obj : ∀ i h, tn i h → ∀ b ∈ fp, ∃ o, h.get? b = some o ∧ ∀ v, o.data ≠ .cell v
  keep : ∀ i h h', tn i h → (∀ b ∈ fp, ∀ o, h.get? b = some o → h'.get? b = some o) → tn i h'
  item : ∀ (X : Cx), X.prog = P → X.w = w → X.K = K → AloneA X.A X.H₀ → ∀ (i : Nat) (pins : List (Addr × Obj)) (s : Shared) (σ : St) (H : Hp) (E : Value → Shared → Prop), Inv X pins σ H s → (∀ b ∈ fp, FpOk X pins H b) → tn i s.heap → J.go i H →
    wpAny (model P w) X.A (pyNext (.ref it)) (fun r s1 => ∃ u, r = some u ∧
      wpAny (model P w) X.A (letOwnedTupleGo tg (.ref it) u) (fun _ s2 => ∃ x H', Inv X pins σ H' s2 ∧ RelV x u ∧ J.yld i H x H' ∧ tn (i + 1) s2.heap ∧ ∀ b ∈ fp, H' b = none) E s1) E s
  done : ∀ (X : Cx), X.prog = P → X.w = w → X.K = K → AloneA X.A X.H₀ → ∀ (i : Nat) (pins : List (Addr × Obj)) (s : Shared) (σ : St) (H : Hp) (E : Value → Shared → Prop), Inv X pins σ H s → (∀ b ∈ fp, FpOk X pins H b) → tn i s.heap → J.stop i H →
    wpAny (model P w) X.A (pyNext (.ref it)) (fun r s1 => r = none ∧ Inv X pins σ H s1) E s
  self : ∀ (A : Around) (i : Nat) (s : Shared) (Q : Value → Shared → Prop) (E : Value → Shared → Prop), tn i s.heap → Q (.ref it) s → wpAny (model P w) A (pyIter (.ref it)) Q E s
section
variable {X : Cx} {tg : Expr}
end
end L2
namespace L2.Sk
open PySem PySem.Spec PyProof.Rows
section
variable {X : Cx} {tg iter elt : Expr} {ifs : List Expr} {scope : Scope} {pos : Pos} {wi : TI} {N' : List Str} {nt : Nat} {fr : List Nat}
end
section
variable {X : Cx} {c : Fc} {tg a b e : Expr} {pos : Pos}
end
theorem RoomL.units {k : Nat} {A : Around} (r : RoomL k A) : A.units + 64 < cLine := by have := r.un; omega
section
variable {X : Cx} {c : Fc} {e : Expr} {es : List Expr} {pos : Pos}
end
end L2.Sk
set_option Elab.async false
set_option linter.all false
set_option maxRecDepth 100000
namespace L2.Sk
open PySem PySem.Spec PyProof.Rows
section
variable {prog : Program} {w : World} {A : Around} {R : Result → Shared → Prop} {I : Addr} {fp wr : List Addr} {n : Nat} {P : Nat → Value → Prop} {St : Nat → Heap → Prop} {dv : Value}
end
section
variable {prog : Program} {w : World} {A : Around} {E : Value → Shared → Prop} {s : Shared}
end
section
variable {prog : Program} {w : World} {A : Around} {R : Result → Shared → Prop} {I : Addr} {fp wr : List Addr} {n : Nat} {P : Nat → Value → Prop} {St : Nat → Heap → Prop} {dv : Value}
end
section
variable {prog : Program} {w : World} {A : Around} {E : Value → Shared → Prop} {s : Shared}
end
section
variable {prog : Program} {w : World} {A : Around} {E : Value → Shared → Prop} {s : Shared}
end
end L2.Sk
set_option Elab.async false
set_option linter.all false
set_option maxRecDepth 100000
namespace L2.Sk
open PySem PySem.Spec PyProof.Rows
section
variable {X : Cx}
end
section
variable {X : Cx} {c : Fc} {a b e : Expr} {pos : Pos}
def dcallK (F : List D → List D → Option D) (f g : M (List D)) : M D := bnd f fun xs => bnd g fun zs => lift (F xs zs)
end
def topDD (xs zs : List D) : Option D := match xs, zs with
  | [.lst ds], [z] => (intsD ds).map fun ns => if ns = [] then z else .int (maxI ns)
  | _, _ => none
def slB (x : D) (lo hi : Option Int) : Option D := match x with
  | .tup ds => some (.tup (cutD ds lo hi))
  | .lst ds => some (.lst (cutD ds lo hi))
  | _ => none
def dslB (f : M D) (g k : M (Option Int)) : M D := bnd f fun d => bnd g fun l => bnd k fun u => lift (slB d l u)
section
variable {X : Cx} {c : Fc} {a b e : Expr} {pos p2 : Pos}
def repD (x y : D) : Option (List D) := match x, y with
  | .lst ds, .int k => if (decide (-(2 ^ 62) ≤ k) && decide (k < 2 ^ 62)) && (smallL (ds.length * k.toNat) && immL ds) then some (List.replicate k.toNat ds).flatten else none
  | _, _ => none
def nrep (f g : M D) : M (List D) := bnd f fun x => bnd g fun y => lift (repD x y)
def nlist (f : M D) : M (List D) := bnd f fun x => lift (match x with
  | .lst ds => if immL ds then some ds else none
  | .tup ds => if immL ds then some ds else none
  | _ => none)
def dextend (i : Nat) (f : M D) : M D := fun ρ => match getL i ρ with
  | none => .bad
  | some _ => (bnd f fun d ρ => match d, getL i ρ with
    | .lst es, some ds => if immL es && smallL (ds.length + es.length) then .ok (.non, ρ.set i (some (.lst (ds ++ es)))) else .bad
    | _, _ => .bad) ρ
def denumA (f : M (List D)) : M (List D) := fun ρ => match f ρ with
  | .ok ([.tup _], _) => denum f ρ
  | _ => denumL f ρ
end
end L2.Sk
set_option Elab.async false
set_option linter.all false
set_option maxRecDepth 100000
namespace L2.Sk
open PySem PySem.Spec PyProof.Rows
section
variable {ρ : Env} {f g : M D} {l k : M (List D)}
theorem a_dcallK (F : List D → List D → Option D) : dcallK F l k ρ = match l ρ with | .ok (xs, ρ1) => (match k ρ1 with | .ok (zs, ρ2) => (match F xs zs with | some d => .ok (d, ρ2) | none => .bad) | .exc x ρ' => .exc x ρ' | .bad => .bad) | .exc x ρ' => .exc x ρ' | .bad => .bad := by
  simp only [dcallK, bnd]
  cases l ρ with
  | ok z =>
    obtain ⟨z1, ρ1⟩ := z
    dsimp only
    cases k ρ1 with
    | ok z => obtain ⟨z2, ρ2⟩ := z; (dsimp only; cases F z1 z2 <;> rfl)
    | exc x ρ' => rfl
    | bad => rfl
  | exc x ρ' => rfl
  | bad => rfl
theorem a_nrep : nrep f g ρ = match f ρ with | .ok (x, ρ1) => (match g ρ1 with | .ok (y, ρ2) => (match repD x y with | some ds => .ok (ds, ρ2) | none => .bad) | .exc x ρ' => .exc x ρ' | .bad => .bad) | .exc x ρ' => .exc x ρ' | .bad => .bad := by
  simp only [nrep, bnd]
  cases f ρ with
  | ok z =>
    obtain ⟨z1, ρ1⟩ := z
    dsimp only
    cases g ρ1 with
    | ok z => obtain ⟨z2, ρ2⟩ := z; (dsimp only; cases repD z1 z2 <;> rfl)
    | exc x ρ' => rfl
    | bad => rfl
  | exc x ρ' => rfl
  | bad => rfl
theorem a_dextend (i : Nat) : dextend i f ρ = match getL i ρ with
    | none => .bad
    | some _ => (match f ρ with | .ok (d, ρ1) => (match d, getL i ρ1 with | .lst es, some ds => (if immL es && smallL (ds.length + es.length) then .ok (.non, ρ1.set i (some (.lst (ds ++ es)))) else .bad) | _, _ => .bad) | .exc x ρ' => .exc x ρ' | .bad => .bad) := by
  unfold dextend
  cases getL i ρ with
  | none => rfl
  | some z =>
    simp only [bnd]
    cases f ρ with
    | ok z => obtain ⟨z1, ρ1⟩ := z; rfl
    | exc x ρ' => rfl
    | bad => rfl
theorem a_dslB (p q : M (Option Int)) : dslB f p q ρ = match f ρ with | .ok (d, ρ1) => (match p ρ1 with | .ok (l, ρ2) => (match q ρ2 with | .ok (u, ρ3) => (match slB d l u with | some r => .ok (r, ρ3) | none => .bad) | .exc x ρ' => .exc x ρ' | .bad => .bad) | .exc x ρ' => .exc x ρ' | .bad => .bad) | .exc x ρ' => .exc x ρ' | .bad => .bad := by
  simp only [dslB, bnd]
  cases f ρ with
  | ok z =>
    obtain ⟨z1, ρ1⟩ := z
    dsimp only
    cases p ρ1 with
    | ok z =>
      obtain ⟨z2, ρ2⟩ := z
      dsimp only
      cases q ρ2 with
      | ok z => obtain ⟨z3, ρ3⟩ := z; (dsimp only; cases slB z1 z2 z3 <;> rfl)
      | exc x ρ' => rfl
      | bad => rfl
    | exc x ρ' => rfl
    | bad => rfl
  | exc x ρ' => rfl
  | bad => rfl
end
end L2.Sk
set_option Elab.async false
set_option linter.all false
set_option maxRecDepth 100000
namespace L2.Sk
open PySem PySem.Spec PyProof.Rows
section
variable {X : Cx} {c : Fc} {e : Expr} {es : List Expr} {pos : Pos}
theorem dC {k j : Nat} {ps : List Str} {F : List D → R D} {x : Str} {p : Pos} {g : M (List D)} (C : Callee X.prog X.w X.K X.mg X.base k x ps (spD X.K F)) (hr : Room j X.A) (ha : DA X c (e :: es) g)
    (hk : k ≤ j := by decide) (hg : Gl X x := by rfl) (hd : (x == ("__debug__" : Str)) = false := by decide) (he : starEach (e :: es) X.env = (false, eval e X.env) :: starEach es X.env := by rfl) (hpl : (backTo pos (starEach es X.env)).any (·.1) = false := by rfl) : DE X c (.Call (.Name x p) (e :: es) [] pos) (dcallF F g) := by
  obtain ⟨f, fd, G, m, kk, b⟩ := C.ex
  exact de_call G (hr.mono hk) hg m kk b ha hd he hpl
theorem nC {k j : Nat} {ps : List Str} {F : List D → R D} {x : Str} {p : Pos} {g : M (List D)} (C : Callee X.prog X.w X.K X.mg X.base k x ps (spD X.K F)) (hr : Room j X.A) (ha : DA X c (e :: es) g)
    (hk : k ≤ j := by decide) (hg : Gl X x := by rfl) (hd : (x == ("__debug__" : Str)) = false := by decide) (he : starEach (e :: es) X.env = (false, eval e X.env) :: starEach es X.env := by rfl) (hpl : (backTo pos (starEach es X.env)).any (·.1) = false := by rfl) : DN X c (.Call (.Name x p) (e :: es) [] pos) (ncall F g) := by
  obtain ⟨f, fd, G, m, kk, b⟩ := C.ex
  exact dn_call G (hr.mono hk) hg m kk b ha hd he hpl
theorem iC {k j i : Nat} {ps : List Str} {F : List D → List D → R (D × List D)} {x y : Str} {p p1 : Pos} {g : M (List D)} (C : Callee X.prog X.w X.K X.mg X.base k x ps (spIO X.K F)) (hr : Room j X.A) (ha : DA X c es g)
    (hk : k ≤ j := by decide) (hg : Gl X x := by rfl) (ho : i ∈ c.O := by exact of_decide_eq_true rfl) (hN : X.N[i]? = some y := by rfl) (hv : Vis X.env.scope y := by first | exact Or.inl rfl | exact Or.inr (Or.inl rfl) | exact Or.inr (Or.inr rfl)) (hdy : (y == ("__debug__" : Str)) = false := by decide) (hcd : (y == ("__classdict__" : Str)) = false := by decide)
    (hd : (x == ("__debug__" : Str)) = false := by decide) (he : starEach (.Name y p1 :: es) X.env = (false, eval (.Name y p1) X.env) :: starEach es X.env := by rfl) (hpl : (backTo pos (starEach es X.env)).any (·.1) = false := by rfl) : DE X c (.Call (.Name x p) (.Name y p1 :: es) [] pos) (dcallIO F i g) := by
  obtain ⟨f, fd, G, m, kk, b⟩ := C.ex
  exact de_callIO G (hr.mono hk) hg m kk b ha ho hN hv hdy hcd hd he hpl
theorem xC {k j : Nat} {ps : List Str} {F : List D → R D} {x : Str} {p : Pos} {g : M (List D)} {E : XK} {cl : Str → Option Addr} {RN : List Str} (L : XL2 X c cl E) (hcl : ∀ n, RN.contains n = true → (cl n).isSome = true) (C : CalleeX X.prog X.w X.K X.mg X.base k x ps (spX X.K cl F)) (hr : Room j X.A) (ha : DA X c (e :: es) g)
    (hk : k ≤ j := by decide) (hg : Gl X x := by rfl) (hd : (x == ("__debug__" : Str)) = false := by decide) (he : starEach (e :: es) X.env = (false, eval e X.env) :: starEach es X.env := by rfl) (hpl : (backTo pos (starEach es X.env)).any (·.1) = false := by rfl) : DE X c (.Call (.Name x p) (e :: es) [] pos) (dcallX RN F g) := by
  obtain ⟨f, fd, G, m, kk, b⟩ := C.ex
  exact de_callX L hcl G (hr.mono hk) hg m kk b ha hd he hpl
theorem gI {x : Str} {i : Int} (h : ∃ t, X.mg x = some (.int i t)) (hg : Gl X x := by rfl) (hd : (x == ("__debug__" : Str)) = false := by decide) : DE X c (.Name x pos) (ret (.int i)) := by
  obtain ⟨t, h⟩ := h
  exact de_glob (v := .int i) (d := .int i) hg h ⟨_, rfl⟩ (fun _ _ => rfl) hd
theorem gT {x : Str} {ns : List Int} (h : ∃ a, X.mg x = some (.ref a) ∧ TupK X.K a ns) (hg : Gl X x := by rfl) (hd : (x == ("__debug__" : Str)) = false := by decide) : DE X c (.Name x pos) (ret (.tup (ns.map .int))) := by
  obtain ⟨a, h1, h2⟩ := h
  exact de_globT hg h1 h2 hd
end
theorem nd (N : List Str) (h : N.Nodup := by decide +kernel) : N.Nodup := h
theorem cs {X : Cx} (N N' : List Str) (nt : Nat) (fr : List Nat) (outer : Scope) {scope : Scope} (h0 : scope.kind = .function := by rfl) (h1 : ∀ y ∈ scope.names, y.2 ≠ .cell := by decide +kernel) (h2 : ∀ y ∈ scope.names, y.2 = .local → scope.names.lookup y.1 = some .local := by decide +kernel)
    (h3 : ∀ y ∈ scope.names, y.2 = .free → outer.names.lookup y.1 = some .cell := by decide +kernel) (h4 : N'.length = nt + fr.length := by rfl) (h5 : ∀ p ∈ fr.zipIdx, N'[nt + p.2]? = N[p.1]? ∧ ((N[p.1]?).bind fun x => scope.names.lookup x) = some .free := by decide +kernel)
    (h6 : X.env.scope = outer := by rfl) (h7 : X.N = N := by rfl) : CompScope X scope N' nt fr := CompS.ok (outer := outer) (N := N) ⟨h0, h1, h2, h3, h4, h5⟩ h6 h7
theorem f0 {c : Fc} {nt : Nat} (fr O : List Nat) (e : c.O = O := by rfl) (h : ∀ j ∈ fr, j ∉ O := by decide) : FoOk c nt fr none := fun j hj => by rw [e]; exact h j hj
theorem f1 {c : Fc} (nt : Nat) (fr O : List Nat) (i j : Nat) (e : c.O = O := by rfl) (h1 : j ∈ O := by decide) (h2 : nt ≤ i := by decide) (h3 : fr[i - nt]? = some j := by rfl) (h4 : ∀ p ∈ fr.zipIdx, nt + p.2 ≠ i → p.1 ∉ O := by decide) : FoOk c nt fr (some (i, j)) :=
  foOk_of (by rw [e]; exact h1) h2 h3 (by rw [e]; exact h4)
end L2.Sk
set_option Elab.async false
set_option linter.all false
set_option maxRecDepth 100000
namespace L2.Sk
open PySem PySem.Spec PyProof.Rows
section
variable {X : Cx} {c : Fc}
end
end L2.Sk
set_option Elab.async false
set_option linter.all false
set_option maxRecDepth 100000
namespace L2.Sk
open PySem PySem.Spec PyProof.Rows
end L2.Sk
set_option Elab.async false
set_option linter.all false
set_option maxRecDepth 100000
namespace L2.Sk
open PySem PySem.Spec PyProof.Rows
section
variable {X : Cx} {c : Fc} {a b e : Expr} {pos : Pos}
def dinsert (i : Nat) (f : M D) : M D := fun ρ => match getL i ρ with
  | none => .bad
  | some _ => (bnd f fun d ρ => match getL i ρ with
    | some ds => if smallL (ds.length + 1) then .ok (.non, ρ.set i (some (.lst (d :: ds)))) else .bad
    | none => .bad) ρ
end
end L2.Sk
set_option Elab.async false
set_option linter.all false
set_option maxRecDepth 100000
namespace L2.Sk
open PySem PySem.Spec PyProof.Rows
section
variable {prog : Program} {w : World} {A : Around} {E : Value → Shared → Prop} {s : Shared}
end
section
variable {X : Cx} {c : Fc} {a e : Expr} {pos : Pos} {tg : Expr}
def rev1 : List D → Option (List D)
  | [.tup xs] => some xs.reverse
  | _ => none
def drev (f : M (List D)) : M (List D) := bnd f fun ds => lift (rev1 ds)
theorem a_drev {l : M (List D)} {ρ : Env} : drev l ρ = match l ρ with | .ok (d, ρ1) => (match rev1 d with | some ds => .ok (ds, ρ1) | none => .bad) | .exc x ρ' => .exc x ρ' | .bad => .bad := by
  simp only [drev, bnd]
  cases l ρ with
  | ok z => obtain ⟨z1, ρ1⟩ := z; (dsimp only; cases rev1 z1 <;> rfl)
  | exc x ρ' => rfl
  | bad => rfl
theorem a_dinsert {f : M D} {ρ : Env} (i : Nat) : dinsert i f ρ = match getL i ρ with
    | none => .bad
    | some _ => (match f ρ with
      | .ok (d, ρ1) => (match getL i ρ1 with | some ds => (if smallL (ds.length + 1) then .ok (.non, ρ1.set i (some (.lst (d :: ds)))) else .bad) | none => .bad)
      | .exc x ρ' => .exc x ρ' | .bad => .bad) := by
  unfold dinsert
  cases getL i ρ with
  | none => rfl
  | some z =>
    simp only [bnd]
    cases f ρ with
    | ok z => obtain ⟨z1, ρ1⟩ := z; rfl
    | exc x ρ' => rfl
    | bad => rfl
end
end L2.Sk
set_option Elab.async false
set_option linter.all false
set_option maxRecDepth 100000
namespace L2.Sk
namespace Law
open PySem PySem.Spec PyProof.Rows
set_option maxHeartbeats 4000000
theorem getL_0 (ds : List D) (r : Env) : getL 0 (some (.lst ds) :: r) = some ds := rfl
theorem getL_s (i : Nat) (o : Option D) (r : Env) : getL (i + 1) (o :: r) = getL i r := rfl
theorem ix0 (a b c : D) : ixD (.tup [a, b, c]) (.int 0) = some a := rfl
theorem ix1 (a b c : D) : ixD (.tup [a, b, c]) (.int 1) = some b := rfl
theorem ix2 (a b c : D) : ixD (.tup [a, b, c]) (.int 2) = some c := rfl
theorem ne_ints (i j : Int) : neB (.int i) (.int j) = some (.bl (!decide (i = j))) := rfl
theorem eq_ints (i j : Int) : eqB (.int i) (.int j) = some (.bl (decide (i = j))) := rfl
theorem inst_tt (ds : List D) : instB (tyD (.tup ds)) "tuple" = true := rfl
theorem lenD_tup (ds : List D) : lenD [.tup ds] = some (.int ds.length) := rfl
theorem isN_eq (d : D) : isN d .non = some (.bl (isNonD d)) := rfl
theorem notN_eq (d : D) : notN d .non = some (.bl (!isNonD d)) := rfl
theorem gt_ints (i j : Int) : gtD (.int i) (.int j) = some (.bl (decide (j < i))) := rfl
theorem lt_ints (i j : Int) : ltD (.int i) (.int j) = some (.bl (decide (i < j))) := rfl
theorem le_ints (i j : Int) : leD (.int i) (.int j) = some (.bl (decide (i ≤ j))) := rfl
local macro_rules | `(tactic| push_cast [$xs,*]) => `(tactic| simp only [envOf, a_ret, a_dv, a_dcons, a_dtup, a_dlst, a_nlst, a_d2, a_d1, a_dcall, a_dcallF, a_disi, a_tst, asB_bl, a_tnot, a_tand, a_tor, a_dand, a_dor, a_dnot, a_dif, a_sif, a_sret, a_sset, a_ssetN, a_sexpr, a_snil, a_spar, a_sasg, a_sfor, a_dseq, a_drng1, a_dzip, a_dcallIO, a_ncall, a_dixO, a_ssetI, a_dlenO, a_dtupO, a_dneO, a_dappend, a_dsl, a_dpart, List.length_cons, List.length_nil, List.map_cons, List.map_nil, List.replicate, List.nil_append, List.cons_append, List.append_nil, List.getElem?_cons_zero, List.getElem?_cons_succ, List.set_cons_zero, List.set_cons_succ, Nat.reduceAdd, Nat.reduceSub, Nat.sub_self, Nat.zero_add, reduceIte, Bool.not_true, Bool.not_false, Bool.false_eq_true, if_true, if_false, ite_true, ite_false, cond_true, cond_false, decide_true, decide_false, ix0, ix1, ix2, inst_tt, lenD_tup, ne_ints, eq_ints, isN_eq, notN_eq, gt_ints, lt_ints, le_ints, getL_0, getL_s, a_dcallX, a_dcallP, a_sraise, a_disx, a_dmeth, a_denum, $xs,*])
theorem run1 {n p : Nat} {body : MS} {ds : List D} {d : D} (h : ds.length = p) (e : ∃ ρ, body (envOf n ds) = .ok (.rt d ρ)) : dfn n p body ds = .ok d := by
  obtain ⟨ρ, e⟩ := e
  exact run_fn' h e
def isWhole : D → Bool
  | .int _ => true
  | _ => false
def isCount : D → Bool
  | .int i => decide (0 ≤ i)
  | _ => false
def isPos : D → Bool
  | .int i => decide (0 < i)
  | _ => false
def isKind : D → Bool
  | .tup [a, b, c] => isPos a && isCount b && (isNonD c || isCount c)
  | _ => false
theorem len3 {ds : List D} (h : ds.length = 3) : ∃ a b c, ds = [a, b, c] := by
  match ds, h with
  | [a, b, c], _ => exact ⟨a, b, c, rfl⟩
theorem isKind_len {ds : List D} (h : ds.length ≠ 3) : isKind (.tup ds) = false := by
  match ds, h with
  | [], _ => rfl
  | [_], _ => rfl
  | [_, _], _ => rfl
  | [a, b, c], h => exact absurd rfl h
  | _ :: _ :: _ :: _ :: _, _ => rfl
theorem seq_nx {p q : MS} {ρ ρ' : Env} (h : p ρ = .ok (.nx ρ')) : sseq p q ρ = q ρ' := by rw [a_sseq, h]
theorem seq_rt {p q : MS} {ρ ρ' : Env} {d : D} (h : p ρ = .ok (.rt d ρ')) : sseq p q ρ = .ok (.rt d ρ') := by rw [a_sseq, h]
theorem comp1 {e : M D} {f : D → D} : ∀ (ds acc : List D) (o : Option D), (∀ d ∈ ds, e [some d] = .ok (f d, [some d])) → acc.length + ds.length ≤ 1000 → ∃ ρ', dcompL (gname 0) (ret true) e ds acc [o] = .ok (acc ++ ds.map f, ρ')
  | [], acc, o, _, _ => ⟨[o], by simp [dcompL]⟩
  | d :: ds, acc, o, h, hl => by
    have hl' : acc.length + (ds.length + 1) ≤ 1000 := hl
    obtain ⟨ρ', q⟩ := comp1 ds (acc ++ [f d]) (some d) (fun x hx => h x (List.mem_cons_of_mem _ hx)) (by rw [List.length_append, List.length_singleton]; omega)
    refine ⟨ρ', ?_⟩
    unfold dcompL
    simp only [gname, List.set_cons_zero, ret, h d List.mem_cons_self, sm_of (show acc.length + 1 ≤ 1000000 by omega), if_true, q]
    simp
theorem bools_map (f : D → Bool) : ∀ ds : List D, boolsD (ds.map fun d => D.bl (f d)) = some (ds.map f)
  | [] => rfl
  | d :: ds => by simp [boolsD, bools_map f ds]
theorem all_map {ds : List D} {f : D → Bool} : allD [.lst (ds.map fun d => D.bl (f d))] = some (.bl (ds.all f)) := by
  simp only [allD, bools_map, Option.map_some]
  congr 2
  rw [List.all_map]
  rfl
theorem de_all1 {F : List D → R D} {f : D → Bool} {xs : M (List D)} {ds : List D} {ρ : Env} (hx : xs ρ = .ok (ds, ρ)) (hF : ∀ d ∈ ds, F [d] = .ok (.bl (f d))) (hl : ds.length ≤ 1000) :
    dcall allD (dcons (dcomp 1 [] none xs (gname 0) (ret true) (dcallF F (dcons (dv 0) (ret [])))) (ret [])) ρ = .ok (.bl (ds.all f), ρ) := by
  obtain ⟨ρ', q⟩ := comp1 (e := dcallF F (dcons (dv 0) (ret []))) (f := fun d => D.bl (f d)) ds [] none (fun x hm => by push_cast []; rw [hF x hm]) (by simpa using hl)
  have q' : dcompL (gname 0) (ret true) (dcallF F (dcons (dv 0) (ret []))) ds [] (centry 1 [] ρ) = .ok ([] ++ ds.map fun d => D.bl (f d), ρ') := q
  simp only [a_dcall, a_dcons, a_dcomp, hx, q', a_ret, List.nil_append, all_map]
  rfl
def isStore : D → Bool
  | .tup ds => decide (ds.length ≤ 12) && ds.all isKind
  | _ => false
def leI : D → D → Bool
  | .int i, .int j => decide (i ≤ j)
  | _, _ => false
def takes (k x : D) : Bool := match k with
  | .tup [_, _, m] => isCount x && (isNonD m || leI x m)
  | _ => false
def takesAll : List D → List D → Bool
  | k :: ks, x :: xs => takes k x && takesAll ks xs
  | _, _ => true
def isLoad : D → D → Bool
  | .tup xs, .tup ks => decide (xs.length = ks.length) && takesAll ks xs
  | _, _ => false
theorem drng_int {l : M (List D)} {ρ ρ1 : Env} {j : Int} (e : l ρ = .ok ([.int j], ρ1)) (h0 : 0 ≤ j) (h : j ≤ 1000000) : drng1 l ρ = .ok (rngD 0 j.toNat, ρ1) := by
  have h1 : (-(2 ^ 62) ≤ j) := by omega
  have h2 : (j < 2 ^ 62) := by omega
  have e2 : rng1 [.int j] = some (rngD 0 j.toNat) := by
    simp only [rng1, h1, h2, decide_true, Bool.and_self, if_true]
  have e3 : drng1 l ρ = lift (rng1 [.int j]) ρ1 := by
    show bnd l (fun ds => lift (rng1 ds)) ρ = _
    rw [a_bnd, e]
  rw [e3, e2]
  rfl
theorem divmod_eq {n m : Int} (h0 : 0 < m) (h1 : m < 1606938044258990275541962092341162602522202993782792835301376) : divmodD [.int n, .int m] = some (.tup [.int (n / m), .int (n % m)]) := by
  simp only [divmodD, cdivB, h0, h1, decide_true, Bool.and_self, if_true]
theorem at0 (d : D) (r : List D) : atI (d :: r) 0 = some d := by
  unfold atI ixN
  rw [if_pos (by omega), if_pos (by simp)]
  rfl
theorem ixN0 : ixN 1 0 = some 0 := by decide
theorem add_ints (i j : Int) : addD (.int i) (.int j) = some (.int (i + j)) := rfl
theorem ix_lst {ds : List D} {k : Int} (h0 : 0 ≤ k) (h1 : k < ds.length) : ∃ d ∈ ds, ixD (.lst ds) (.int k) = some d := by
  obtain ⟨i, rfl⟩ := Int.eq_ofNat_of_zero_le h0
  have hi : i < ds.length := by omega
  refine ⟨ds[i], List.getElem_mem hi, ?_⟩
  show atI ds (i : Int) = _
  unfold atI ixN
  rw [if_pos (by omega), if_pos (by omega)]
  show ds[(i : Int).toNat]? = _
  rw [Int.toNat_natCast, List.getElem?_eq_getElem hi]
theorem mul2 (i : Int) : mulA (.int 2) (.int i) = some (.int (2 * i)) := by
  have h : cmulB 2 i = true := by
    unfold cmulB
    have : fits64 2 = true := by decide
    rw [this]; rfl
  simp only [mulA, h, if_true]
def goodM (c m : D) : Prop := m = c ∨ ∃ j, m = .int j ∧ 0 ≤ j ∧ j ≤ 5
def goodKind (k : D) : Prop := ∃ a b m, k = .tup [.int a, .int b, m] ∧ 1 ≤ a ∧ a ≤ 25 ∧ 0 ≤ b ∧ b ≤ 39 ∧ goodM .non m
theorem goodKind.imm {k : D} (h : goodKind k) : imm k = true := by
  obtain ⟨a, b, m, rfl, _, _, _, _, hm⟩ := h
  rcases hm with rfl | ⟨j, rfl, _⟩ <;> rfl
theorem goodKind.lay {k : D} (h : goodKind k) : (toPD k).canLay0 = true ∧ (toPD k).depth = 1 := by
  obtain ⟨a, b, m, rfl, _, _, _, _, hm⟩ := h
  rcases hm with rfl | ⟨j, rfl, _⟩ <;> exact ⟨rfl, rfl⟩
theorem layAll : ∀ ks : List D, (∀ k ∈ ks, goodKind k) → PyData.canLayAll0 (toPDs ks) = true ∧ PyData.depthAll (toPDs ks) ≤ 1
  | [], _ => ⟨rfl, Nat.zero_le _⟩
  | k :: ks, h => by
    obtain ⟨h1, h2⟩ := layAll ks fun x hx => h x (List.mem_cons_of_mem _ hx)
    obtain ⟨g1, g2⟩ := (h k List.mem_cons_self).lay
    unfold toPDs
    simp only [PyData.canLayAll0, PyData.depthAll, h1, g1, g2, Bool.and_self, true_and]
    omega
theorem ne_nil_some {ks : List D} (h : ∀ k ∈ ks, goodKind k) : ∃ b, neA (.lst ks) (.lst []) = some (.bl b) ∧ (b = true → ks ≠ []) := by
  obtain ⟨h1, h2⟩ := layAll ks h
  have e1 : eqOk (.lst ks) = true := by
    have e : eqOk (.lst ks) = (PyData.canLayAll0 (toPDs ks) && decide (PyData.depthAll (toPDs ks) + 1 ≤ 50)) := by
      simp only [eqOk, toPD, PyData.canLay0, PyData.depth]
    rw [e, h1, Bool.true_and, decide_eq_true_eq]
    omega
  have e2 : eqOk (.lst []) = true := rfl
  refine ⟨!PyData.eqv (toPD (.lst ks)) (toPD (.lst [])), by simp only [neA, e1, e2, Bool.and_self, if_true], fun hb hn => ?_⟩
  subst hn
  exact absurd hb (by decide)
theorem at_lst {ds : List D} {k : Int} (h0 : 0 ≤ k) (h1 : k < ds.length) : ∃ d ∈ ds, atI ds k = some d := by
  obtain ⟨d, hd, e⟩ := ix_lst h0 h1
  exact ⟨d, hd, e⟩
theorem rngD_len (j : Nat) : (rngD 0 j).length = j := by simp [rngD]
theorem mod_ints {i j : Int} (h : 0 < j) : modD (.int i) (.int j) = some (.int (i % j)) := by
  simp only [modD, iicD, h, decide_true, if_true]
theorem fdiv_ints {i j : Int} (h : 0 < j) (h1 : j < 1606938044258990275541962092341162602522202993782792835301376) : fdivD (.int i) (.int j) = some (.int (i / j)) := by
  simp only [fdivD, iicD, cdivB, h, h1, decide_true, Bool.and_self, if_true]
theorem mul_l {i j : Int} (h : fits64 i = true) : mulA (.int i) (.int j) = some (.int (i * j)) := by
  simp only [mulA, cmulB, h, Bool.true_or, if_true]
theorem mul_r {i j : Int} (h : fits64 j = true) : mulA (.int i) (.int j) = some (.int (i * j)) := by
  simp only [mulA, cmulB, h, Bool.or_true, if_true]
theorem fits_of {i : Int} (h0 : 0 ≤ i) (h1 : i < 2000000000) : fits64 i = true := by
  unfold fits64
  rw [Bool.and_eq_true, decide_eq_true_eq, decide_eq_true_eq]
  constructor <;> omega
def facts : List Int := [48271, 69621, 16807, 39373, 30269, 40014, 40692, 50021, 61687, 71993, 83869, 95561, 30307]
structure Nice (w e : Nat) (d : D) : Prop where
  lv : (toPD d).leavesShort 40 = true
  sh : (toPD d).showable = true
  wt : (toPD d).weight ≤ w
  dp : (toPD d).depth ≤ e
def plain (d : D) : Bool := !(toPD d).hasDict && noL d
theorem neg_int (i : Int) : negD (.int i) = some (.int (-i)) := rfl
theorem add_lsts {xs ys : List D} (h : xs.length + ys.length ≤ 1000000) : addD (.lst xs) (.lst ys) = some (.lst (xs ++ ys)) := by
  simp only [addD, sm_of h, if_true]
theorem add_tups {xs ys : List D} (h : xs.length + ys.length ≤ 1000000) : addD (.tup xs) (.tup ys) = some (.tup (xs ++ ys)) := by
  simp only [addD, sm_of h, if_true]
end Law
end L2.Sk
set_option Elab.async false
set_option linter.all false
set_option maxRecDepth 100000
namespace L2.Sk
namespace Law
open PySem PySem.Spec PyProof.Rows
set_option maxHeartbeats 4000000
local macro_rules | `(tactic| push_cast [$xs,*]) => `(tactic| simp only [envOf, a_ret, a_dv, a_dcons, a_dtup, a_dlst, a_nlst, a_d2, a_d1, a_dcall, a_dcallF, a_disi, a_tst, asB_bl, a_tnot, a_tand, a_tor, a_dand, a_dor, a_dnot, a_dif, a_sif, a_sret, a_sset, a_ssetN, a_sexpr, a_snil, a_spar, a_sasg, a_sfor, a_dseq, a_drng1, a_dzip, a_dcallIO, a_ncall, a_dixO, a_ssetI, a_dlenO, a_dtupO, a_dneO, a_dappend, a_dsl, a_dpart, List.length_cons, List.length_nil, List.map_cons, List.map_nil, List.replicate, List.nil_append, List.cons_append, List.append_nil, List.getElem?_cons_zero, List.getElem?_cons_succ, List.set_cons_zero, List.set_cons_succ, Nat.reduceAdd, Nat.reduceSub, Nat.sub_self, Nat.zero_add, reduceIte, Bool.not_true, Bool.not_false, Bool.false_eq_true, if_true, if_false, ite_true, ite_false, cond_true, cond_false, decide_true, decide_false, ix0, ix1, ix2, inst_tt, lenD_tup, ne_ints, eq_ints, isN_eq, notN_eq, gt_ints, lt_ints, le_ints, getL_0, getL_s, a_dcallX, a_dcallP, a_sraise, a_disx, a_dmeth, a_denum, $xs,*])
def pt (p : Int) : D → Int
  | .tup [.int a, .int b, _] => if p = 0 then a else b
  | _ => 0
def num : D → Int
  | .int x => x
  | _ => 0
def terms (p : Int) : List D → List D → List Int
  | k :: ks, x :: xs => (pt p k * num x) :: terms p ks xs
  | _, _ => []
theorem listD_tup (xs : List D) : listD [.tup xs] = some (.lst xs) := rfl
theorem ne_strs (x : Str) : neB (.str x) (.str x) = some (.bl false) := by
  show some (D.bl (!decide (x = x))) = _
  rw [decide_eq_true rfl]; rfl
end Law
end L2.Sk
set_option Elab.async false
set_option linter.all false
set_option maxRecDepth 100000
namespace L2.Sk
namespace Law
open PySem PySem.Spec PyProof.Rows
set_option maxHeartbeats 4000000
theorem loop_cons {G : D → Env → Option Env} {b : MS} {d : D} {ds : List D} {ρ ρ1 ρ2 : Env} (h1 : G d ρ = some ρ1) (h2 : b ρ1 = .ok (.nx ρ2)) : dloop G b (d :: ds) ρ = dloop G b ds ρ2 := by
  show (match G d ρ with | none => R.bad | some ρ1 => _) = _
  rw [h1]
  simp only [h2]
def mD : Option Int → D
  | none => .non
  | some j => .int j
end Law
end L2.Sk
set_option Elab.async false
set_option linter.all false
set_option maxRecDepth 100000
namespace L2.Sk
namespace Law
open PySem PySem.Spec PyProof.Rows
def top (i : Nat) : Stmt := PySem.Challenge.pw_sackloads_k05_what_is_no_store.main.body.getD i (.Pass ⟨0, 0, 0, 0⟩)
abbrev s__law_marks : Stmt := top 126
abbrev s_is_whole : Stmt := top 13
abbrev s_is_count : Stmt := top 14
abbrev s_is_kind : Stmt := top 15
abbrev s_is_store : Stmt := top 16
abbrev s_need_store : Stmt := top 17
abbrev s_is_load : Stmt := top 22
abbrev s_need_load : Stmt := top 23
abbrev s_weight : Stmt := top 25
abbrev s_worth : Stmt := top 26
abbrev s_fits : Stmt := top 27
abbrev s_bounded : Stmt := top 32
abbrev s_leaves : Stmt := top 34
abbrev s_whole_load : Stmt := top 35
abbrev s_show : Stmt := top 118
abbrev s__law_first : Stmt := top 127
abbrev s_need_asked : Stmt := top 39
abbrev s_best_worths : Stmt := top 44
abbrev s_best_worth : Stmt := top 45
abbrev s_best_load : Stmt := top 47
abbrev s_loads_many : Stmt := top 49
abbrev s_best_many : Stmt := top 52
abbrev s_least_weight : Stmt := top 58
abbrev s_least_load : Stmt := top 60
abbrev s_half_loads : Stmt := top 70
abbrev s__law_second : Stmt := top 128
abbrev s_met_worth : Stmt := top 72
abbrev s_met_load : Stmt := top 73
abbrev s_stair_for : Stmt := top 74
abbrev s_is_stair : Stmt := top 76
abbrev s_best_shares : Stmt := top 91
abbrev s_share_worth : Stmt := top 92
abbrev s_bound : Stmt := top 94
abbrev s_some_price : Stmt := top 95
abbrev s__law_third : Stmt := top 129
abbrev s_whole_bound : Stmt := top 96
abbrev s_cut_load : Stmt := top 97
abbrev s_table_bound : Stmt := top 103
abbrev s_table_paper : Stmt := top 104
abbrev s_need_cut_asked : Stmt := top 105
abbrev s_is_cut : Stmt := top 111
abbrev s_cut_for : Stmt := top 113
abbrev s__law_last : Stmt := top 130
abbrev s__law_said : Stmt := top 131
abbrev s__law_take : Stmt := top 123
abbrev s__law_kind_of : Stmt := top 124
abbrev s__law_stocked : Stmt := top 125
abbrev s__law_mix : Stmt := top 121
abbrev s__law_cell : Stmt := top 120
abbrev s__law_box : Stmt := top 122
abbrev s_law : Stmt := top 132
structure Txt (K : PySem.W.Frag) (mg : Str → Option Value) : Prop where
  b_ValueError : mg "ValueError" = none
  b_abs : mg "abs" = none
  b_all : mg "all" = none
  b_bool : mg "bool" = none
  b_divmod : mg "divmod" = none
  b_int : mg "int" = none
  b_isinstance : mg "isinstance" = none
  b_len : mg "len" = none
  b_list : mg "list" = none
  b_max : mg "max" = none
  b_min : mg "min" = none
  b_range : mg "range" = none
  b_tuple : mg "tuple" = none
  b_zip : mg "zip" = none
  c_BOTTOM : ∃ t, mg "BOTTOM" = some (.int 1 t)
  c_KINDS_AT_MOST : ∃ t, mg "KINDS_AT_MOST" = some (.int 12 t)
  c_MOST : ∃ t, mg "MOST" = some (.int 2 t)
  c_NOTHING : ∃ a, mg "NOTHING" = some (.ref a) ∧ TupK K a [0, 1]
  c_TOP : ∃ t, mg "TOP" = some (.int 0 t)
  c_WEIGHT : ∃ t, mg "WEIGHT" = some (.int 0 t)
  c_WORTH : ∃ t, mg "WORTH" = some (.int 1 t)
def RN : List Str := ["NoStore", "NoLoad"]
def TN : List Str := ["SackError", "NoText", "NotSingle", "TooMany", "NoLoad", "NoNumber", "NoStore"]
noncomputable def d__law_marks : MS :=
    (sseq (sif (tor (tnot (tst (disx RN "SackError" (dv 0)))) (tnot (tst (disx RN "ValueError" (dv 0))))) (sret (ret (.str "other"))) snil)
    (sseq (sset 1 (dlst (dcons (disx RN "NoStore" (dv 0)) (dcons (disx RN "NoNumber" (dv 0)) (dcons (disx RN "NoLoad" (dv 0)) (dcons (disx RN "TooMany" (dv 0)) (ret [])))))))
    (sseq (sset 1 (d2 addD (dv 1) (dlst (dcons (disx RN "NotSingle" (dv 0)) (dcons (disx RN "NoText" (dv 0)) (ret []))))))
    (sseq (sif (tst (d2 neS (dmeth countD (dv 1) (dcons (ret (.bl true)) (ret []))) (ret (.int 1)))) (sret (ret (.str "other"))) snil)
    (sret (d2 ixD (dlst (dcons (ret (.str "store")) (dcons (ret (.str "number")) (dcons (ret (.str "load")) (dcons (ret (.str "many")) (dcons (ret (.str "single")) (dcons (ret (.str "text")) (ret [])))))))) (dmeth indexD (dv 1) (dcons (ret (.bl true)) (ret [])))))))))
noncomputable def F__law_marks : List D → R D := dfn 2 1 d__law_marks
noncomputable def d_is_whole : MS :=
    (sret (dand (disi "int" (dv 0)) (dnot (disi "bool" (dv 0)))))
noncomputable def F_is_whole : List D → R D := dfn 1 1 d_is_whole
noncomputable def d_is_count : MS :=
    (sret (dand (dcallF F_is_whole (dcons (dv 0) (ret []))) (d2 geD (dv 0) (ret (.int 0)))))
noncomputable def F_is_count : List D → R D := dfn 1 1 d_is_count
noncomputable def d_is_kind : MS :=
    (sseq (sif (tor (tnot (tst (disi "tuple" (dv 0)))) (tst (d2 neB (dcall lenD (dcons (dv 0) (ret []))) (ret (.int 3))))) (sret (ret (.bl false))) snil)
    (sseq (sif (tor (tnot (tst (dcallF F_is_count (dcons (d2 ixD (dv 0) (ret (.int 0))) (ret []))))) (tst (d2 eqB (d2 ixD (dv 0) (ret (.int 0))) (ret (.int 0))))) (sret (ret (.bl false))) snil)
    (sret (dand (dcallF F_is_count (dcons (d2 ixD (dv 0) (ret (.int 1))) (ret []))) (dor (d2 isN (d2 ixD (dv 0) (ret (.int 2))) (ret .non)) (dcallF F_is_count (dcons (d2 ixD (dv 0) (ret (.int 2))) (ret []))))))))
noncomputable def F_is_kind : List D → R D := dfn 1 1 d_is_kind
noncomputable def d_is_store : MS :=
    (sseq (sif (tor (tnot (tst (disi "tuple" (dv 0)))) (tst (d2 gtD (dcall lenD (dcons (dv 0) (ret []))) (ret (.int 12))))) (sret (ret (.bl false))) snil)
    (sret (dcall allD (dcons (dcomp 1 [] none (dseq (dv 0)) (gname 0) (ret true) (dcallF F_is_kind (dcons (dv 0) (ret [])))) (ret [])))))
noncomputable def F_is_store : List D → R D := dfn 1 1 d_is_store
noncomputable def d_need_store : MS :=
    (sif (tnot (tst (dcallF F_is_store (dcons (dv 0) (ret []))))) (sraise "NoStore" (dcons (ret (.str "this is no store")) (ret []))) snil)
noncomputable def F_need_store : List D → R D := dfnX 1 1 d_need_store
noncomputable def d_is_load : MS :=
    (sseq (sexpr (dcallX RN F_need_store (dcons (dv 1) (ret []))))
    (sseq snever
    snever))
noncomputable def F_is_load : List D → R D := dfnX 2 2 d_is_load
noncomputable def d_need_load : MS :=
    (sif (tnot (tst (dcallX RN F_is_load (dcons (dv 1) (dcons (dv 0) (ret [])))))) (sraise "NoLoad" (dcons (ret (.str "this is no load of the store")) (ret []))) snil)
noncomputable def F_need_load : List D → R D := dfnX 2 2 d_need_load
noncomputable def d_weight : MS :=
    (sseq (sexpr (dcallX RN F_need_load (dcons (dv 0) (dcons (dv 1) (ret [])))))
    snever)
noncomputable def F_weight : List D → R D := dfnX 2 2 d_weight
noncomputable def d_worth : MS :=
    (sseq (sexpr (dcallX RN F_need_load (dcons (dv 0) (dcons (dv 1) (ret [])))))
    snever)
noncomputable def F_worth : List D → R D := dfnX 2 2 d_worth
noncomputable def d_fits : MS :=
    (sseq (sexpr (dcallX RN F_need_load (dcons (dv 0) (dcons (dv 1) (ret [])))))
    (sseq snever
    snever))
noncomputable def F_fits : List D → R D := dfnX 3 3 d_fits
noncomputable def d_bounded : MS :=
    (sseq (sexpr (dcallX RN F_need_store (dcons (dv 0) (ret []))))
    (sseq snever
    snever))
noncomputable def F_bounded : List D → R D := dfnX 2 2 d_bounded
noncomputable def d_leaves : MS :=
    (sseq (sexpr (dcallX RN F_need_load (dcons (dv 0) (dcons (dv 1) (ret [])))))
    snever)
noncomputable def F_leaves : List D → R D := dfnX 2 2 d_leaves
noncomputable def d_whole_load : MS :=
    (sseq (sexpr (dcallX RN F_need_store (dcons (dv 0) (ret []))))
    (sseq snever
    snever))
noncomputable def F_whole_load : List D → R D := dfnX 1 1 d_whole_load
noncomputable def d_show : MS :=
    (sseq (sexpr (dcallX RN F_need_store (dcons (dv 0) (ret []))))
    snever)
noncomputable def F_show : List D → R D := dfnX 1 1 d_show
noncomputable def d__law_first : MS :=
    (sif (tst (d2 eqB (dv 0) (ret (.int 0)))) (sexpr (dcallX RN F_is_load (dcons (ret .non) (dcons (dv 1) (ret []))))) (sif (tst (d2 eqB (dv 0) (ret (.int 1)))) (sexpr (dcallX RN F_weight (dcons (dv 1) (dcons (ret .non) (ret []))))) (sif (tst (d2 eqB (dv 0) (ret (.int 2)))) (sexpr (dcallX RN F_worth (dcons (dv 1) (dcons (ret .non) (ret []))))) (sif (tst (d2 eqB (dv 0) (ret (.int 3)))) (sexpr (dcallX RN F_fits (dcons (dv 1) (dcons (ret .non) (dcons (ret .non) (ret [])))))) (sif (tst (d2 eqB (dv 0) (ret (.int 4)))) (sexpr (dcallX RN F_bounded (dcons (dv 1) (dcons (ret .non) (ret []))))) (sif (tst (d2 eqB (dv 0) (ret (.int 5)))) (sexpr (dcallX RN F_leaves (dcons (dv 1) (dcons (ret .non) (ret []))))) (sif (tst (d2 eqB (dv 0) (ret (.int 6)))) (sexpr (dcallX RN F_whole_load (dcons (dv 1) (ret [])))) (sexpr (dcallX RN F_show (dcons (dv 1) (ret [])))))))))))
noncomputable def F__law_first : List D → R D := dfnX 2 2 d__law_first
noncomputable def d_need_asked : MS :=
    (sseq (sexpr (dcallX RN F_need_store (dcons (dv 0) (ret []))))
    (sseq snever
    snever))
noncomputable def F_need_asked : List D → R D := dfnX 2 2 d_need_asked
noncomputable def d_best_worths : MS :=
    (sseq (sexpr (dcallX RN F_need_asked (dcons (dv 0) (dcons (dv 1) (ret [])))))
    snever)
noncomputable def F_best_worths : List D → R D := dfnX 2 2 d_best_worths
noncomputable def d_best_worth : MS :=
    (sret (d2 ixD (dcallX RN F_best_worths (dcons (dv 0) (dcons (dv 1) (ret [])))) (dv 1)))
noncomputable def F_best_worth : List D → R D := dfnX 2 2 d_best_worth
noncomputable def d_best_load : MS :=
    (sseq (sexpr (dcallX RN F_need_asked (dcons (dv 0) (dcons (dv 1) (ret [])))))
    (sseq snever
    (sseq snever
    (sseq snever
    (sseq snever
    snever)))))
noncomputable def F_best_load : List D → R D := dfnX 8 2 d_best_load
noncomputable def d_loads_many : MS :=
    (sseq (sexpr (dcallX RN F_need_asked (dcons (dv 0) (dcons (dv 1) (ret [])))))
    (sseq snever
    (sseq snever
    snever)))
noncomputable def F_loads_many : List D → R D := dfnX 4 2 d_loads_many
noncomputable def d_best_many : MS :=
    (sseq (sexpr (dcallX RN F_need_asked (dcons (dv 0) (dcons (dv 1) (ret [])))))
    (sseq snever
    (sseq snever
    snever)))
noncomputable def F_best_many : List D → R D := dfnX 4 2 d_best_many
noncomputable def d_least_weight : MS :=
    (sseq (sexpr (dcallX RN F_need_asked (dcons (dv 0) (dcons (dv 1) (ret [])))))
    snever)
noncomputable def F_least_weight : List D → R D := dfnX 2 2 d_least_weight
noncomputable def d_least_load : MS :=
    (sseq (sexpr (dcallX RN F_need_asked (dcons (dv 0) (dcons (dv 1) (ret [])))))
    (sseq snever
    (sseq snever
    (sseq snever
    (sseq snever
    (sseq snever
    snever))))))
noncomputable def F_least_load : List D → R D := dfnX 8 2 d_least_load
noncomputable def d_half_loads : MS :=
    (sseq (sexpr (dcallX RN F_need_store (dcons (dv 0) (ret []))))
    (sseq snever
    snever))
noncomputable def F_half_loads : List D → R D := dfnX 1 1 d_half_loads
noncomputable def d__law_second : MS :=
    (sif (tst (d2 eqB (dv 0) (ret (.int 0)))) (sexpr (dcallX RN F_best_worths (dcons (dv 1) (dcons (ret .non) (ret []))))) (sif (tst (d2 eqB (dv 0) (ret (.int 1)))) (sexpr (dcallX RN F_best_worth (dcons (dv 1) (dcons (ret .non) (ret []))))) (sif (tst (d2 eqB (dv 0) (ret (.int 2)))) (sexpr (dcallX RN F_best_load (dcons (dv 1) (dcons (ret .non) (ret []))))) (sif (tst (d2 eqB (dv 0) (ret (.int 3)))) (sexpr (dcallX RN F_loads_many (dcons (dv 1) (dcons (ret .non) (ret []))))) (sif (tst (d2 eqB (dv 0) (ret (.int 4)))) (sexpr (dcallX RN F_best_many (dcons (dv 1) (dcons (ret .non) (ret []))))) (sif (tst (d2 eqB (dv 0) (ret (.int 5)))) (sexpr (dcallX RN F_least_weight (dcons (dv 1) (dcons (ret .non) (ret []))))) (sif (tst (d2 eqB (dv 0) (ret (.int 6)))) (sexpr (dcallX RN F_least_load (dcons (dv 1) (dcons (ret .non) (ret []))))) (sexpr (dcallX RN F_half_loads (dcons (dv 1) (ret [])))))))))))
noncomputable def F__law_second : List D → R D := dfnX 2 2 d__law_second
noncomputable def d_met_worth : MS :=
    (sseq (sexpr (dcallX RN F_need_store (dcons (dv 0) (ret []))))
    (sseq snever
    (sseq snever
    snever)))
noncomputable def F_met_worth : List D → R D := dfnX 3 2 d_met_worth
noncomputable def d_met_load : MS :=
    (sseq (sset 2 (dcallX RN F_met_worth (dcons (dv 0) (dcons (dv 1) (ret [])))))
    (sseq snever
    (sseq snever
    (sseq snever
    (sseq snever
    (sseq snever
    snever))))))
noncomputable def F_met_load : List D → R D := dfnX 8 2 d_met_load
noncomputable def d_stair_for : MS :=
    (sseq (sexpr (dcallX RN F_need_store (dcons (dv 0) (ret []))))
    (sseq snever
    (sseq snever
    (sseq snever
    (sseq snever
    (sseq snever
    (sseq snever
    (sseq snever
    snever))))))))
noncomputable def F_stair_for : List D → R D := dfnX 7 3 d_stair_for
noncomputable def d_is_stair : MS :=
    (sseq (sset 4 (dcallX RN F_stair_for (dcons (dv 1) (dcons (dv 2) (dcons (dv 3) (ret []))))))
    (sseq snever
    snever))
noncomputable def F_is_stair : List D → R D := dfnX 5 4 d_is_stair
noncomputable def d_best_shares : MS :=
    (sseq (sexpr (dcallX RN F_need_store (dcons (dv 0) (ret []))))
    (sseq snever
    (sseq snever
    (sseq snever
    (sseq snever
    snever)))))
noncomputable def F_best_shares : List D → R D := dfnX 5 2 d_best_shares
noncomputable def d_share_worth : MS :=
    (sseq (sset 2 (ret (.tup [.int 0, .int 1])))
    (sseq (sforE (dzip (dcons (dv 0) (dcons (dcallX RN F_best_shares (dcons (dv 0) (dcons (dv 1) (ret [])))) (ret [])))))
    snever))
noncomputable def F_share_worth : List D → R D := dfnX 5 2 d_share_worth
noncomputable def d_bound : MS :=
    (sseq (sexpr (dcallX RN F_need_store (dcons (dv 0) (ret []))))
    (sseq snever
    (sseq snever
    snever)))
noncomputable def F_bound : List D → R D := dfnX 3 3 d_bound
noncomputable def d_some_price : MS :=
    (sseq (sexpr (dcallX RN F_need_store (dcons (dv 0) (ret []))))
    (sseq snever
    (sseq snever
    (sseq snever
    snever))))
noncomputable def F_some_price : List D → R D := dfnX 4 2 d_some_price
noncomputable def d__law_third : MS :=
    (sif (tst (d2 eqB (dv 0) (ret (.int 0)))) (sexpr (dcallX RN F_met_worth (dcons (dv 1) (dcons (ret .non) (ret []))))) (sif (tst (d2 eqB (dv 0) (ret (.int 1)))) (sexpr (dcallX RN F_met_load (dcons (dv 1) (dcons (ret .non) (ret []))))) (sif (tst (d2 eqB (dv 0) (ret (.int 2)))) (sexpr (dcallX RN F_is_stair (dcons (ret .non) (dcons (dv 1) (dcons (ret .non) (dcons (ret .non) (ret []))))))) (sif (tst (d2 eqB (dv 0) (ret (.int 3)))) (sexpr (dcallX RN F_stair_for (dcons (dv 1) (dcons (ret .non) (dcons (ret .non) (ret [])))))) (sif (tst (d2 eqB (dv 0) (ret (.int 4)))) (sexpr (dcallX RN F_best_shares (dcons (dv 1) (dcons (ret .non) (ret []))))) (sif (tst (d2 eqB (dv 0) (ret (.int 5)))) (sexpr (dcallX RN F_share_worth (dcons (dv 1) (dcons (ret .non) (ret []))))) (sif (tst (d2 eqB (dv 0) (ret (.int 6)))) (sexpr (dcallX RN F_bound (dcons (dv 1) (dcons (ret .non) (dcons (ret .non) (ret [])))))) (sexpr (dcallX RN F_some_price (dcons (dv 1) (dcons (ret .non) (ret []))))))))))))
noncomputable def F__law_third : List D → R D := dfnX 2 2 d__law_third
noncomputable def d_whole_bound : MS :=
    (sseq (sset 2 (dcallX RN F_share_worth (dcons (dv 0) (dcons (dv 1) (ret [])))))
    snever)
noncomputable def F_whole_bound : List D → R D := dfnX 3 2 d_whole_bound
noncomputable def d_cut_load : MS :=
    (sret (dcall tupleD (dcons (dcomp 1 [] none (dseq (dcallX RN F_best_shares (dcons (dv 0) (dcons (dv 1) (ret []))))) (gname 0) (ret true) (d2 fdivD (d2 ixD (dv 0) (ret (.int 0))) (d2 ixD (dv 0) (ret (.int 1))))) (ret []))))
noncomputable def F_cut_load : List D → R D := dfnX 2 2 d_cut_load
noncomputable def d_table_bound : MS :=
    (sseq (sexpr (dcallX RN F_need_asked (dcons (dv 1) (dcons (dv 2) (ret [])))))
    (sseq snever
    (sseq snever
    snever)))
noncomputable def F_table_bound : List D → R D := dfnX 5 3 d_table_bound
noncomputable def d_table_paper : MS :=
    (sseq (sexpr (dcallX RN F_need_asked (dcons (dv 0) (dcons (dv 1) (ret [])))))
    (sseq snever
    (sseq snever
    snever)))
noncomputable def F_table_paper : List D → R D := dfnX 4 2 d_table_paper
noncomputable def d_need_cut_asked : MS :=
    (sseq (sexpr (dcallX RN F_need_store (dcons (dv 0) (ret []))))
    (sseq snever
    (sseq snever
    snever)))
noncomputable def F_need_cut_asked : List D → R D := dfnX 3 3 d_need_cut_asked
noncomputable def d_is_cut : MS :=
    (sseq (sexpr (dcallX RN F_need_cut_asked (dcons (dv 1) (dcons (dv 2) (dcons (dv 3) (ret []))))))
    snever)
noncomputable def F_is_cut : List D → R D := dfnX 4 4 d_is_cut
noncomputable def d_cut_for : MS :=
    (sseq (sexpr (dcallX RN F_need_cut_asked (dcons (dv 0) (dcons (dv 1) (dcons (dv 2) (ret []))))))
    (sseq snever
    snever))
noncomputable def F_cut_for : List D → R D := dfnX 3 3 d_cut_for
noncomputable def d__law_last : MS :=
    (sif (tst (d2 eqB (dv 0) (ret (.int 0)))) (sexpr (dcallX RN F_whole_bound (dcons (dv 1) (dcons (ret .non) (ret []))))) (sif (tst (d2 eqB (dv 0) (ret (.int 1)))) (sexpr (dcallX RN F_cut_load (dcons (dv 1) (dcons (ret .non) (ret []))))) (sif (tst (d2 eqB (dv 0) (ret (.int 2)))) (sexpr (dcallX RN F_table_bound (dcons (ret .non) (dcons (dv 1) (dcons (ret .non) (ret [])))))) (sif (tst (d2 eqB (dv 0) (ret (.int 3)))) (sexpr (dcallX RN F_table_paper (dcons (dv 1) (dcons (ret .non) (ret []))))) (sif (tst (d2 eqB (dv 0) (ret (.int 4)))) (sexpr (dcallX RN F_is_cut (dcons (ret .non) (dcons (dv 1) (dcons (ret .non) (dcons (ret .non) (ret []))))))) (sexpr (dcallX RN F_cut_for (dcons (dv 1) (dcons (ret .non) (dcons (ret .non) (ret [])))))))))))
noncomputable def F__law_last : List D → R D := dfnX 2 2 d__law_last
noncomputable def d__law_said : MS :=
    (sseq (stry RN (sif (tst (d2 eqB (dv 0) (ret (.int 0)))) (sexpr (dcallX RN F__law_first (dcons (dv 1) (dcons (dv 2) (ret []))))) (sif (tst (d2 eqB (dv 0) (ret (.int 1)))) (sexpr (dcallX RN F__law_second (dcons (dv 1) (dcons (dv 2) (ret []))))) (sif (tst (d2 eqB (dv 0) (ret (.int 2)))) (sexpr (dcallX RN F__law_third (dcons (dv 1) (dcons (dv 2) (ret []))))) (sexpr (dcallX RN F__law_last (dcons (dv 1) (dcons (dv 2) (ret [])))))))) F__law_marks)
    (sret (ret (.str "told"))))
noncomputable def F__law_said : List D → R D := dfn 4 3 d__law_said
noncomputable def d__law_take : MS :=
    (sseq (sasg (dcall divmodD (dcons (dixO 0 (ret (.int 0))) (dcons (dv 1) (ret [])))) (gtup 2 (gcons (gname 2) (gcons (gname 3) gnil))))
    (sseq (ssetI 0 (ret (.int 0)) (dv 2))
    (sret (dv 3))))
noncomputable def F__law_take : List D → List D → R (D × List D) := dfnIO 4 2 d__law_take
noncomputable def d__law_kind_of : MS :=
    (sseq (sset 2 (dcallIO F__law_take 0 (dcons (ret (.int 6)) (ret []))))
    (sseq (spar 3 4 (dcons (d2 addD (ret (.int 1)) (dcallIO F__law_take 0 (dcons (ret (.int 7)) (ret [])))) (dcons (dcallIO F__law_take 0 (dcons (ret (.int 10)) (ret []))) (ret []))))
    (sseq (sif (tst (d2 eqB (dv 2) (ret (.int 1)))) (sset 4 (d2 mulA (ret (.int 2)) (dv 3))) snil)
    (sseq (sif (tst (d2 eqB (dv 2) (ret (.int 2)))) (sset 4 (d2 addD (dv 3) (dcallIO F__law_take 0 (dcons (ret (.int 3)) (ret []))))) snil)
    (sseq (sif (tst (d2 eqB (dv 2) (ret (.int 3)))) (spar 3 4 (dcons (d2 addD (ret (.int 1)) (dcallIO F__law_take 0 (dcons (ret (.int 25)) (ret [])))) (dcons (dcallIO F__law_take 0 (dcons (ret (.int 40)) (ret []))) (ret [])))) snil)
    (sseq (sset 5 (d2 ixD (dlst (dcons (ret (.int 1)) (dcons (ret (.int 1)) (dcons (ret (.int 1)) (dcons (ret (.int 2)) (dcons (ret (.int 3)) (dcons (ret (.int 0)) (dcons (ret (.int 5)) (dcons (dv 1) (ret [])))))))))) (dcallIO F__law_take 0 (dcons (ret (.int 8)) (ret [])))))
    (sret (dtup (dcons (dv 3) (dcons (dv 4) (dcons (dv 5) (ret []))))))))))))
noncomputable def F__law_kind_of : List D → List D → R (D × List D) := dfnIO 6 2 d__law_kind_of
noncomputable def d__law_stocked : MS :=
    (sseq (ssetN 3 (nlst (ret [])))
    (sseq (sfor (drng1 (dcons (dcallIO F__law_take 0 (dcons (d2 addD (dv 1) (ret (.int 1))) (ret []))) (ret []))) (gname 4) (sseq (sset 5 (dcallIO F__law_kind_of 0 (dcons (dv 2) (ret []))))
    (sseq (sif (tand (tst (dneO 3 (dlst (ret [])))) (tst (d2 eqB (dcallIO F__law_take 0 (dcons (ret (.int 7)) (ret []))) (ret (.int 6))))) (sset 5 (dixO 3 (dcallIO F__law_take 0 (dcons (dlenO 3) (ret []))))) snil)
    (sexpr (dappend 3 (dv 5))))))
    (sret (dtupO 3))))
noncomputable def F__law_stocked : List D → List D → R (D × List D) := dfnIO 6 3 d__law_stocked
noncomputable def d__law_mix : MS :=
    (sseq (sset 2 (dlst (dcons (ret (.int 48271)) (dcons (ret (.int 69621)) (dcons (ret (.int 16807)) (dcons (ret (.int 39373)) (dcons (ret (.int 30269)) (dcons (ret (.int 40014)) (dcons (ret (.int 40692)) (dcons (ret (.int 50021)) (dcons (ret (.int 61687)) (dcons (ret (.int 71993)) (dcons (ret (.int 83869)) (dcons (ret (.int 95561)) (dcons (ret (.int 30307)) (ret []))))))))))))))))
    (sseq (sset 3 (d2 addD (d2 addD (d2 mulA (d2 addD (d2 modD (dv 0) (ret (.int 2147483647))) (ret (.int 12345))) (d2 ixD (dv 2) (d2 modD (dv 1) (ret (.int 13))))) (d2 mulA (ret (.int 977)) (dv 1))) (d2 mulA (ret (.int 7919)) (d2 fdivD (dv 1) (ret (.int 13))))))
    (sseq (sset 3 (d2 modD (dv 3) (ret (.int 1000000007))))
    (sret (d2 fdivD (d2 modD (d2 addD (d2 mulA (dv 3) (dv 3)) (d2 mulA (ret (.int 48271)) (dv 1))) (ret (.int 1000000007))) (ret (.int 7)))))))
noncomputable def F__law_mix : List D → R D := dfn 4 2 d__law_mix
noncomputable def d__law_cell : MS :=
    (sseq (sif (tst (d2 ltD (dv 1) (dcall lenD (dcons (dv 0) (ret []))))) (sret (d2 ixD (dv 0) (dv 1))) snil)
    (sret (ret (.int 0))))
noncomputable def F__law_cell : List D → R D := dfn 2 2 d__law_cell
noncomputable def d__law_box : MS :=
    (sseq (sset 2 (dcallF F__law_cell (dcons (dv 0) (dcons (dv 1) (ret [])))))
    (sseq (sif (tst (d2 eqB (d2 modD (dv 2) (ret (.int 2))) (ret (.int 0)))) (sret (dlst (dcons (d2 fdivD (dcall absD (dcons (dv 2) (ret []))) (ret (.int 2))) (ret [])))) snil)
    (sseq (sset 3 (ret (.int 0)))
    (sseq (sfor (drng1 (dcons (ret (.int 40)) (ret []))) (gname 4) (sset 3 (d2 addD (d2 mulA (dv 3) (ret (.int 142857143))) (dcallF F__law_mix (dcons (dv 2) (dcons (dv 4) (ret [])))))))
    (sret (dlst (dcons (dv 3) (ret []))))))))
noncomputable def F__law_box : List D → R D := dfn 5 2 d__law_box
noncomputable def d_law : MS :=
    (sseq (sfor (drng1 (dcons (dcall max2D (dcons (ret (.int 1)) (dcons (dcall min2D (dcons (dcall lenD (dcons (dv 0) (ret []))) (dcons (ret (.int 3)) (ret [])))) (ret [])))) (ret []))) (gname 1) (sseq (ssetN 2 (ncall F__law_box (dcons (dv 0) (dcons (dv 1) (ret [])))))
    (sseq (sset 3 (dcallIO F__law_stocked 2 (dcons (ret (.int 6)) (dcons (ret .non) (ret [])))))
    (sseq (sset 4 (dlst (dcons (ret .non) (dcons (dcall listD (dcons (dv 3) (ret []))) (dcons (d2 addD (dv 3) (dtup (dcons (dtup (dcons (ret (.int 0)) (dcons (ret (.int 1)) (dcons (ret (.int 1)) (ret []))))) (ret [])))) (dcons (d2 addD (dtup (dcons (dtup (dcons (ret (.int 1)) (dcons (d1 negD (ret (.int 1))) (dcons (ret (.int 1)) (ret []))))) (ret []))) (dv 3)) (dcons (d2 addD (dv 3) (dtup (dcons (dtup (dcons (ret (.int 1)) (dcons (ret (.int 1)) (dcons (ret (.bl true)) (ret []))))) (ret [])))) (dcons (ret (.str "1/1*")) (dcons (ret (.int 5)) (ret []))))))))))
    (sseq (sset 4 (d2 addD (dv 4) (dlst (dcons (d2 mulA (dtup (dcons (dtup (dcons (ret (.int 1)) (dcons (ret (.int 1)) (dcons (ret (.int 1)) (ret []))))) (ret []))) (ret (.int 13))) (dcons (ret (.dic [])) (dcons (d2 addD (dv 3) (dtup (dcons (ret .non) (ret [])))) (dcons (dtup (dcons (dtup (dcons (ret (.int 1)) (dcons (ret (.int 1)) (ret [])))) (ret []))) (dcons (dlst (dcons (dlst (ret [])) (ret []))) (dcons (ret (.bl false)) (ret []))))))))))
    (sseq (sset 4 (d2 addD (dv 4) (dlst (dcons (d2 addD (dv 3) (dtup (dcons (dtup (dcons (ret (.int 1)) (dcons (ret (.int 1)) (dcons (d1 negD (ret (.int 1))) (ret []))))) (ret [])))) (dcons (dtup (dcons (d2 addD (dv 3) (dtup (dcons (dtup (ret [])) (ret [])))) (ret []))) (ret []))))))
    (sfor (drng1 (dcons (ret (.int 4)) (ret []))) (gname 5) (sseq (sset 6 (d2 ixD (dv 4) (dcallIO F__law_take 2 (dcons (ret (.int 15)) (ret [])))))
    (sfor (drng1 (dcons (ret (.int 4)) (ret []))) (gname 7) (sfor (drng1 (dcons (ret (.int 8)) (ret []))) (gname 8) (sif (tst (d2 neB (dcallF F__law_said (dcons (dv 7) (dcons (dv 8) (dcons (dv 6) (ret []))))) (ret (.str "store")))) (sret (ret (.bl false))) snil)))))))))))
    (sret (ret (.bl true))))
noncomputable def F_law : List D → R D := dfn 9 1 d_law
end Law
end L2.Sk
set_option Elab.async false
set_option linter.all false
set_option maxRecDepth 100000
namespace L2.Sk
namespace Law
open PySem PySem.Spec PyProof.Rows
set_option maxHeartbeats 4000000
local macro_rules | `(tactic| push_cast [$xs,*]) => `(tactic| simp only [envOf, a_ret, a_dv, a_dcons, a_dtup, a_dlst, a_nlst, a_d2, a_d1, a_dcall, a_dcallF, a_disi, a_tst, asB_bl, a_tnot, a_tand, a_tor, a_dand, a_dor, a_dnot, a_dif, a_sif, a_sret, a_sset, a_ssetN, a_sexpr, a_snil, a_spar, a_sasg, a_sfor, a_dseq, a_drng1, a_dzip, a_dcallIO, a_ncall, a_dixO, a_ssetI, a_dlenO, a_dtupO, a_dneO, a_dappend, a_dsl, a_dpart, List.length_cons, List.length_nil, List.map_cons, List.map_nil, List.replicate, List.nil_append, List.cons_append, List.append_nil, List.getElem?_cons_zero, List.getElem?_cons_succ, List.set_cons_zero, List.set_cons_succ, Nat.reduceAdd, Nat.reduceSub, Nat.sub_self, Nat.zero_add, reduceIte, Bool.not_true, Bool.not_false, Bool.false_eq_true, if_true, if_false, ite_true, ite_false, cond_true, cond_false, decide_true, decide_false, ix0, ix1, ix2, inst_tt, lenD_tup, ne_ints, eq_ints, isN_eq, notN_eq, gt_ints, lt_ints, le_ints, getL_0, getL_s, a_dcallX, a_dcallP, a_sraise, a_disx, a_dmeth, a_denum, $xs,*])
theorem F_is_whole_eq (d : D) : F_is_whole [d] = .ok (.bl (isWhole d)) := by
  unfold F_is_whole d_is_whole
  refine run1 rfl ⟨[some d], ?_⟩
  push_cast []
  cases d <;> rfl
theorem F_is_count_eq (d : D) : F_is_count [d] = .ok (.bl (isCount d)) := by
  unfold F_is_count d_is_count
  refine run1 rfl ⟨[some d], ?_⟩
  push_cast []
  rw [F_is_whole_eq]
  cases d <;> rfl
theorem F_is_kind_eq (d : D) : F_is_kind [d] = .ok (.bl (isKind d)) := by
  unfold F_is_kind d_is_kind
  refine run1 rfl ⟨[some d], ?_⟩
  cases d with
  | tup ds =>
    by_cases h : ds.length = 3
    · obtain ⟨a, b, c, rfl⟩ := len3 h
      refine (seq_nx (ρ' := [some (.tup [a, b, c])]) rfl).trans ?_
      by_cases hp : isPos a = true
      · refine (seq_nx (ρ' := [some (.tup [a, b, c])]) ?_).trans ?_
        · cases a with
          | int i =>
            have h2 : 0 < i := of_decide_eq_true hp
            have h0 : 0 ≤ i := by omega
            have h1 : ¬ i = 0 := by omega
            push_cast [ix0, F_is_count_eq, isCount, eq_ints, asB_bl, h0, h1, decide_true, decide_false]
          | _ => exact absurd hp (by simp [isPos])
        · push_cast [ix1, ix2, F_is_count_eq, isN_eq, isKind, hp, asB_bl, Bool.true_and]
          cases hb : isCount b <;> cases hc : isNonD c <;> rfl
      · refine (seq_rt (d := .bl false) (ρ' := [some (.tup [a, b, c])]) ?_).trans ?_
        · cases a with
          | int i =>
            have h2 : ¬ 0 < i := fun z => hp (decide_eq_true z)
            push_cast [ix0, F_is_count_eq, isCount, eq_ints, asB_bl]
            by_cases h0 : 0 ≤ i
            · have h1 : i = 0 := by omega
              subst h1; rfl
            · simp only [h0, decide_false]
              rfl
          | _ => rfl
        · have hp' : isPos a = false := by simpa using hp
          simp only [isKind, hp', Bool.false_and]
    · refine (seq_rt (d := .bl false) (ρ' := [some (.tup ds)]) ?_).trans ?_
      · push_cast []
        have h3 : ¬ ((ds.length : Int) = 3) := by omega
        simp only [inst_tt, lenD_tup, ne_ints, h3, decide_false, asB_bl]
        rfl
      · rw [isKind_len h]
  | _ => rfl
theorem F_is_store_eq (d : D) : F_is_store [d] = .ok (.bl (isStore d)) := by
  unfold F_is_store d_is_store
  refine run1 rfl ⟨[some d], ?_⟩
  cases d with
  | tup ds =>
    by_cases h : ds.length ≤ 12
    · have h2 : ¬ ((12 : Int) < (ds.length : Int)) := by omega
      refine (seq_nx (ρ' := [some (.tup ds)]) ?_).trans ?_
      · push_cast [inst_tt, lenD_tup, gt_ints, h2, decide_false, asB_bl]
      · rw [a_sret, de_all1 (F := F_is_kind) (f := isKind) (xs := dseq (dv 0)) (ds := ds) (ρ := [some (.tup ds)]) rfl (fun d _ => F_is_kind_eq d) (by omega)]
        simp only [isStore, h, decide_true, Bool.true_and]
    · have h2 : ((12 : Int) < (ds.length : Int)) := by omega
      refine (seq_rt (d := .bl false) (ρ' := [some (.tup ds)]) ?_).trans ?_
      · push_cast [inst_tt, lenD_tup, gt_ints, h2, decide_true, asB_bl]
      · simp only [isStore, h, decide_false, Bool.false_and]
  | _ => rfl
end Law
end L2.Sk
set_option Elab.async false
set_option linter.all false
set_option maxRecDepth 100000
namespace L2.Sk
namespace Law
open PySem PySem.Spec PyProof.Rows
set_option maxHeartbeats 4000000
local macro_rules | `(tactic| push_cast [$xs,*]) => `(tactic| simp only [envOf, a_ret, a_dv, a_dcons, a_dtup, a_dlst, a_nlst, a_d2, a_d1, a_dcall, a_dcallF, a_disi, a_tst, asB_bl, a_tnot, a_tand, a_tor, a_dand, a_dor, a_dnot, a_dif, a_sif, a_sret, a_sset, a_ssetN, a_sexpr, a_snil, a_spar, a_sasg, a_sfor, a_dseq, a_drng1, a_dzip, a_dcallIO, a_ncall, a_dixO, a_ssetI, a_dlenO, a_dtupO, a_dneO, a_dappend, a_dsl, a_dpart, List.length_cons, List.length_nil, List.map_cons, List.map_nil, List.replicate, List.nil_append, List.cons_append, List.append_nil, List.getElem?_cons_zero, List.getElem?_cons_succ, List.set_cons_zero, List.set_cons_succ, Nat.reduceAdd, Nat.reduceSub, Nat.sub_self, Nat.zero_add, reduceIte, Bool.not_true, Bool.not_false, Bool.false_eq_true, if_true, if_false, ite_true, ite_false, cond_true, cond_false, decide_true, decide_false, ix0, ix1, ix2, inst_tt, lenD_tup, ne_ints, eq_ints, isN_eq, notN_eq, gt_ints, lt_ints, le_ints, getL_0, getL_s, a_dcallX, a_dcallP, a_sraise, a_disx, a_dmeth, a_denum, $xs,*])
theorem sm1 : smallL 1 = true := sm_of (by omega)
theorem need_store_x (d : D) (h : isStore d = false) : F_need_store [d] = .exc ⟨"NoStore", .non⟩ [some d] := by
  unfold F_need_store
  refine run_xx rfl ?_
  unfold d_need_store
  push_cast [F_is_store_eq, h, sm1]
theorem try_x {p : MS} {F : List D → R D} {ρ ρ' : Env} {d v : D} {n : Str} (h : p ρ = .exc ⟨n, v⟩ ρ') (hn : RN.contains n = true) (hF : F [.exc n] = .ok d) : stry RN p F ρ = .ok (.rt d ρ') := by
  rw [a_stry, h]
  simp only [hn, if_true, hF]
end Law
end L2.Sk
set_option Elab.async false
set_option linter.all false
set_option maxRecDepth 100000
namespace L2.Sk
namespace Law
open PySem PySem.Spec PyProof.Rows
set_option maxHeartbeats 4000000
local macro_rules | `(tactic| push_cast [$xs,*]) => `(tactic| simp only [envOf, a_ret, a_dv, a_dcons, a_dtup, a_dlst, a_nlst, a_d2, a_d1, a_dcall, a_dcallF, a_disi, a_tst, asB_bl, a_tnot, a_tand, a_tor, a_dand, a_dor, a_dnot, a_dif, a_sif, a_sret, a_sset, a_ssetN, a_sexpr, a_snil, a_spar, a_sasg, a_sfor, a_dseq, a_drng1, a_dzip, a_dcallIO, a_ncall, a_dixO, a_ssetI, a_dlenO, a_dtupO, a_dneO, a_dappend, a_dsl, a_dpart, List.length_cons, List.length_nil, List.map_cons, List.map_nil, List.replicate, List.nil_append, List.cons_append, List.append_nil, List.getElem?_cons_zero, List.getElem?_cons_succ, List.set_cons_zero, List.set_cons_succ, Nat.reduceAdd, Nat.reduceSub, Nat.sub_self, Nat.zero_add, reduceIte, Bool.not_true, Bool.not_false, Bool.false_eq_true, if_true, if_false, ite_true, ite_false, cond_true, cond_false, decide_true, decide_false, ix0, ix1, ix2, inst_tt, lenD_tup, ne_ints, eq_ints, isN_eq, notN_eq, gt_ints, lt_ints, le_ints, getL_0, getL_s, a_dcallX, a_dcallP, a_sraise, a_disx, a_dmeth, a_denum, $xs,*])
theorem take_eq {n m : Int} (h0 : 0 < m) (h1 : m < 1606938044258990275541962092341162602522202993782792835301376) : F__law_take [.int n] [.int m] = .ok (.int (n % m), [.int (n / m)]) := by
  unfold F__law_take
  refine run_io (ρ := [some (.lst [.int (n / m)]), some (.int m), some (.int (n / m)), some (.int (n % m))]) rfl ?_ rfl
  unfold d__law_take
  refine (seq_nx (ρ' := [some (.lst [.int n]), some (.int m), some (.int (n / m)), some (.int (n % m))]) ?_).trans ?_
  · push_cast [at0, divmod_eq h0 h1, gtup, gcons, gname, gnil, Option.bind_some]
  · refine (seq_nx (ρ' := [some (.lst [.int (n / m)]), some (.int m), some (.int (n / m)), some (.int (n % m))]) ?_).trans rfl
    push_cast [ixN0, imm]
theorem kind_of_eq (n : Int) (c : D) : ∃ a b m n', F__law_kind_of [.int n] [c] = .ok (.tup [.int a, .int b, m], [.int n']) ∧ 1 ≤ a ∧ a ≤ 25 ∧ 0 ≤ b ∧ b ≤ 39 ∧ goodM c m := by
  have s2 : ∀ n k : Int, ∃ n' a b, (spar 3 4 (dcons (d2 addD (ret (.int 1)) (dcallIO F__law_take 0 (dcons (ret (.int 7)) (ret [])))) (dcons (dcallIO F__law_take 0 (dcons (ret (.int 10)) (ret []))) (ret [])))) [some (.lst [.int n]), some c, some (.int k), none, none, none] = .ok (.nx [some (.lst [.int n']), some c, some (.int k), some (.int a), some (.int b), none]) ∧ 1 ≤ a ∧ a ≤ 7 ∧ 0 ≤ b ∧ b ≤ 9 := by
    intro n k
    refine ⟨n / 7 / 10, 1 + n % 7, n / 7 % 10, ?_, by omega, by omega, by omega, by omega⟩
    push_cast [take_eq (m := 7) (by decide) (by decide), take_eq (m := 10) (by decide) (by decide), add_ints]
  have s3 : ∀ n k a b : Int, 1 ≤ a → a ≤ 7 → 0 ≤ b → b ≤ 9 → ∃ b', (sif (tst (d2 eqB (dv 2) (ret (.int 1)))) (sset 4 (d2 mulA (ret (.int 2)) (dv 3))) snil) [some (.lst [.int n]), some c, some (.int k), some (.int a), some (.int b), none] = .ok (.nx [some (.lst [.int n]), some c, some (.int k), some (.int a), some (.int b'), none]) ∧ 0 ≤ b' ∧ b' ≤ 14 := by
    intro n k a b h1 h2 h3 h4
    by_cases hk : k = 1
    · refine ⟨2 * a, ?_, by omega, by omega⟩
      push_cast [hk, mul2]
    · refine ⟨b, ?_, by omega, by omega⟩
      push_cast [hk]
  have s4 : ∀ n k a b : Int, 1 ≤ a → a ≤ 7 → 0 ≤ b → b ≤ 14 → ∃ n' b', (sif (tst (d2 eqB (dv 2) (ret (.int 2)))) (sset 4 (d2 addD (dv 3) (dcallIO F__law_take 0 (dcons (ret (.int 3)) (ret []))))) snil) [some (.lst [.int n]), some c, some (.int k), some (.int a), some (.int b), none] = .ok (.nx [some (.lst [.int n']), some c, some (.int k), some (.int a), some (.int b'), none]) ∧ 0 ≤ b' ∧ b' ≤ 14 := by
    intro n k a b h1 h2 h3 h4
    by_cases hk : k = 2
    · refine ⟨n / 3, a + n % 3, ?_, by omega, by omega⟩
      push_cast [hk, add_ints, take_eq (m := 3) (by decide) (by decide)]
    · refine ⟨n, b, ?_, by omega, by omega⟩
      push_cast [hk]
  have s5 : ∀ n k a b : Int, 1 ≤ a → a ≤ 7 → 0 ≤ b → b ≤ 14 → ∃ n' a' b', (sif (tst (d2 eqB (dv 2) (ret (.int 3)))) (spar 3 4 (dcons (d2 addD (ret (.int 1)) (dcallIO F__law_take 0 (dcons (ret (.int 25)) (ret [])))) (dcons (dcallIO F__law_take 0 (dcons (ret (.int 40)) (ret []))) (ret [])))) snil) [some (.lst [.int n]), some c, some (.int k), some (.int a), some (.int b), none] = .ok (.nx [some (.lst [.int n']), some c, some (.int k), some (.int a'), some (.int b'), none]) ∧ 1 ≤ a' ∧ a' ≤ 25 ∧ 0 ≤ b' ∧ b' ≤ 39 := by
    intro n k a b h1 h2 h3 h4
    by_cases hk : k = 3
    · refine ⟨n / 25 / 40, 1 + n % 25, n / 25 % 40, ?_, by omega, by omega, by omega, by omega⟩
      push_cast [hk, add_ints, take_eq (m := 25) (by decide) (by decide), take_eq (m := 40) (by decide) (by decide)]
    · refine ⟨n, a, b, ?_, by omega, by omega, by omega, by omega⟩
      push_cast [hk]
  have s6 : ∀ n k a b : Int, ∃ n' m, (sset 5 (d2 ixD (dlst (dcons (ret (.int 1)) (dcons (ret (.int 1)) (dcons (ret (.int 1)) (dcons (ret (.int 2)) (dcons (ret (.int 3)) (dcons (ret (.int 0)) (dcons (ret (.int 5)) (dcons (dv 1) (ret [])))))))))) (dcallIO F__law_take 0 (dcons (ret (.int 8)) (ret []))))) [some (.lst [.int n]), some c, some (.int k), some (.int a), some (.int b), none] = .ok (.nx [some (.lst [.int n']), some c, some (.int k), some (.int a), some (.int b), some m]) ∧ goodM c m := by
    intro n k a b
    obtain ⟨m, hm, e⟩ := ix_lst (ds := [.int 1, .int 1, .int 1, .int 2, .int 3, .int 0, .int 5, c]) (k := n % 8) (by omega) (by simp; omega)
    refine ⟨n / 8, m, ?_, ?_⟩
    · push_cast [take_eq (m := 8) (by decide) (by decide), sm_of (show 8 ≤ 1000000 by omega), e]
    · simp only [List.mem_cons, List.not_mem_nil, or_false] at hm
      rcases hm with h | h | h | h | h | h | h | h
      · exact .inr ⟨_, h, by omega, by omega⟩
      · exact .inr ⟨_, h, by omega, by omega⟩
      · exact .inr ⟨_, h, by omega, by omega⟩
      · exact .inr ⟨_, h, by omega, by omega⟩
      · exact .inr ⟨_, h, by omega, by omega⟩
      · exact .inr ⟨_, h, by omega, by omega⟩
      · exact .inr ⟨_, h, by omega, by omega⟩
      · exact .inl h
  obtain ⟨n2, a2, b2, e2, p2, q2, r2, t2⟩ := s2 (n / 6) (n % 6)
  obtain ⟨b3, e3, r3, t3⟩ := s3 n2 (n % 6) a2 b2 p2 q2 r2 t2
  obtain ⟨n4, b4, e4, r4, t4⟩ := s4 n2 (n % 6) a2 b3 p2 q2 r3 t3
  obtain ⟨n5, a5, b5, e5, p5, q5, r5, t5⟩ := s5 n4 (n % 6) a2 b4 p2 q2 r4 t4
  obtain ⟨n6, m, e6, g6⟩ := s6 n5 (n % 6) a5 b5
  refine ⟨a5, b5, m, n6, ?_, p5, q5, r5, t5, g6⟩
  unfold F__law_kind_of
  refine run_io (ρ := [some (.lst [.int n6]), some c, some (.int (n % 6)), some (.int a5), some (.int b5), some m]) rfl ?_ rfl
  unfold d__law_kind_of
  refine (seq_nx (ρ' := [some (.lst [.int (n / 6)]), some c, some (.int (n % 6)), none, none, none]) ?_).trans ?_
  · push_cast [take_eq (m := 6) (by decide) (by decide)]
  refine (seq_nx e2).trans ?_
  refine (seq_nx e3).trans ?_
  refine (seq_nx e4).trans ?_
  refine (seq_nx e5).trans ?_
  refine (seq_nx e6).trans ?_
  push_cast [sm_of (show 3 ≤ 1000000 by omega)]
theorem stock_step (n : Int) (ks : List D) (o4 o5 : Option D) (h : ∀ k ∈ ks, goodKind k) (hl : ks.length ≤ 12) : ∃ n' k', goodKind k' ∧ (sseq (sset 5 (dcallIO F__law_kind_of 0 (dcons (dv 2) (ret [])))) (sseq (sif (tand (tst (dneO 3 (dlst (ret [])))) (tst (d2 eqB (dcallIO F__law_take 0 (dcons (ret (.int 7)) (ret []))) (ret (.int 6))))) (sset 5 (dixO 3 (dcallIO F__law_take 0 (dcons (dlenO 3) (ret []))))) snil) (sexpr (dappend 3 (dv 5))))) [some (.lst [.int n]), some (.int 6), some .non, some (.lst ks), o4, o5] = .ok (.nx [some (.lst [.int n']), some (.int 6), some .non, some (.lst (ks ++ [k'])), o4, some k']) := by
  obtain ⟨a, b, m, n1, e1, p1, p2, p3, p4, p5⟩ := kind_of_eq n .non
  have gk : goodKind (.tup [.int a, .int b, m]) := ⟨a, b, m, rfl, p1, p2, p3, p4, p5⟩
  obtain ⟨b0, eb, hb⟩ := ne_nil_some h
  have s1 : (sset 5 (dcallIO F__law_kind_of 0 (dcons (dv 2) (ret [])))) [some (.lst [.int n]), some (.int 6), some .non, some (.lst ks), o4, o5] = .ok (.nx [some (.lst [.int n1]), some (.int 6), some .non, some (.lst ks), o4, some (.tup [.int a, .int b, m])]) := by
    push_cast [e1]
  have s2 : ∃ n' k', goodKind k' ∧ (sif (tand (tst (dneO 3 (dlst (ret [])))) (tst (d2 eqB (dcallIO F__law_take 0 (dcons (ret (.int 7)) (ret []))) (ret (.int 6))))) (sset 5 (dixO 3 (dcallIO F__law_take 0 (dcons (dlenO 3) (ret []))))) snil) [some (.lst [.int n1]), some (.int 6), some .non, some (.lst ks), o4, some (.tup [.int a, .int b, m])] = .ok (.nx [some (.lst [.int n']), some (.int 6), some .non, some (.lst ks), o4, some k']) := by
    cases b0 with
    | false =>
      refine ⟨n1, _, gk, ?_⟩
      push_cast [eb, sm_of (show 0 ≤ 1000000 by omega)]
    | true =>
      have hne := hb rfl
      have hpos : 0 < ks.length := List.length_pos_iff.mpr hne
      by_cases h6 : n1 % 7 = 6
      · obtain ⟨k', hk', e⟩ := at_lst (ds := ks) (k := n1 / 7 % (ks.length : Int)) (Int.emod_nonneg _ (by omega)) (Int.emod_lt_of_pos _ (by omega))
        refine ⟨n1 / 7 / (ks.length : Int), k', h k' hk', ?_⟩
        push_cast [eb, sm_of (show 0 ≤ 1000000 by omega), take_eq (m := 7) (by decide) (by decide), h6, take_eq (m := (ks.length : Int)) (by omega) (by omega), e]
      · refine ⟨n1 / 7, _, gk, ?_⟩
        push_cast [eb, sm_of (show 0 ≤ 1000000 by omega), take_eq (m := 7) (by decide) (by decide), h6]
  obtain ⟨n2, k', gk', e2⟩ := s2
  refine ⟨n2, k', gk', ?_⟩
  refine (seq_nx s1).trans ((seq_nx e2).trans ?_)
  push_cast [gk'.imm, sm_of (show ks.length + 1 ≤ 1000000 by omega), Bool.and_self]
theorem stock_loop : ∀ (ds : List D) (n : Int) (ks : List D) (o4 o5 : Option D), (∀ k ∈ ks, goodKind k) → ks.length + ds.length ≤ 6 →
    ∃ n' ks' o4' o5', dloop (gname 4) (sseq (sset 5 (dcallIO F__law_kind_of 0 (dcons (dv 2) (ret [])))) (sseq (sif (tand (tst (dneO 3 (dlst (ret [])))) (tst (d2 eqB (dcallIO F__law_take 0 (dcons (ret (.int 7)) (ret []))) (ret (.int 6))))) (sset 5 (dixO 3 (dcallIO F__law_take 0 (dcons (dlenO 3) (ret []))))) snil) (sexpr (dappend 3 (dv 5))))) ds [some (.lst [.int n]), some (.int 6), some .non, some (.lst ks), o4, o5] = .ok (.nx [some (.lst [.int n']), some (.int 6), some .non, some (.lst ks'), o4', o5']) ∧ (∀ k ∈ ks', goodKind k) ∧ ks'.length ≤ 6
  | [], n, ks, o4, o5, h, hl => ⟨n, ks, o4, o5, rfl, h, by simpa using hl⟩
  | d :: ds, n, ks, o4, o5, h, hl => by
    have hl' : ks.length + (ds.length + 1) ≤ 6 := hl
    obtain ⟨n1, k', gk, e⟩ := stock_step n ks (some d) o5 h (by omega)
    obtain ⟨n', ks', o4', o5', q, g, l⟩ := stock_loop ds n1 (ks ++ [k']) (some d) (some k') (fun x hx => (List.mem_append.mp hx).elim (h x) fun hx => by
      rw [List.mem_singleton] at hx; subst hx; exact gk) (by rw [List.length_append, List.length_singleton]; omega)
    refine ⟨n', ks', o4', o5', ?_, g, l⟩
    unfold dloop
    simp only [gname, List.set_cons_zero, List.set_cons_succ, e]
    exact q
theorem stocked_eq (n : Int) : ∃ ks n', F__law_stocked [.int n] [.int 6, .non] = .ok (.tup ks, [.int n']) ∧ (∀ k ∈ ks, goodKind k) ∧ ks.length ≤ 6 := by
  obtain ⟨n', ks', o4', o5', q, g, l⟩ := stock_loop (rngD 0 (n % 7).toNat) (n / 7) [] none none (fun _ h => by cases h) (by rw [rngD_len]; simp; omega)
  refine ⟨ks', n', ?_, g, l⟩
  unfold F__law_stocked
  refine run_io (ρ := [some (.lst [.int n']), some (.int 6), some .non, some (.lst ks'), o4', o5']) rfl ?_ rfl
  unfold d__law_stocked
  refine (seq_nx (ρ' := [some (.lst [.int n]), some (.int 6), some .non, some (.lst []), none, none]) ?_).trans ?_
  · push_cast [immL, sm_of (show 0 ≤ 1000000 by omega), Bool.and_self]
  refine (seq_nx (ρ' := [some (.lst [.int n']), some (.int 6), some .non, some (.lst ks'), o4', o5']) ?_).trans ?_
  · rw [a_sfor, drng_int (j := n % 7) (ρ1 := [some (.lst [.int (n / 7)]), some (.int 6), some .non, some (.lst []), none, none]) ?_ (by omega) (by omega)]
    · exact q
    · push_cast [add_ints, take_eq (m := 7) (by decide) (by decide), Int.reduceAdd]
  · push_cast []
theorem cell_eq (ns : List Int) (i : Int) (h0 : 0 ≤ i) : ∃ x, F__law_cell [.fz ns, .int i] = .ok (.int x) := by
  by_cases h : i < ns.length
  · obtain ⟨j, rfl⟩ := Int.eq_ofNat_of_zero_le h0
    have hj : j < ns.length := by omega
    have e : ixD (.fz ns) (.int (j : Int)) = some (.int ns[j]) := by
      show (atI ns (j : Int)).map D.int = _
      unfold atI ixN
      rw [if_pos (by omega), if_pos (by omega)]
      show (ns[(j : Int).toNat]?).map D.int = _
      rw [Int.toNat_natCast, List.getElem?_eq_getElem hj]; rfl
    refine ⟨ns[j], ?_⟩
    unfold F__law_cell d__law_cell
    refine run1 rfl ⟨[some (.fz ns), some (.int (j : Int))], ?_⟩
    refine (seq_rt (d := .int ns[j]) (ρ' := [some (.fz ns), some (.int (j : Int))]) ?_)
    push_cast [e, lenD, h]
  · refine ⟨0, ?_⟩
    unfold F__law_cell d__law_cell
    refine run1 rfl ⟨[some (.fz ns), some (.int i)], ?_⟩
    refine (seq_nx (ρ' := [some (.fz ns), some (.int i)]) ?_).trans rfl
    push_cast [lenD, h]
theorem mix_eq (x j : Int) (h0 : 0 ≤ j) (h1 : j < 40) : ∃ v, F__law_mix [.int x, .int j] = .ok (.int v) := by
  obtain ⟨m, hm, e⟩ := ix_lst (ds := [.int 48271, .int 69621, .int 16807, .int 39373, .int 30269, .int 40014, .int 40692, .int 50021, .int 61687, .int 71993, .int 83869, .int 95561, .int 30307]) (k := j % 13) (by omega) (by simp; omega)
  have hm2 : ∃ c, m = .int c ∧ fits64 c = true := by
    have : m ∈ facts.map D.int := hm
    obtain ⟨c, hc, rfl⟩ := List.mem_map.mp this
    exact ⟨c, rfl, List.all_eq_true.mp (show facts.all fits64 = true by decide) c hc⟩
  obtain ⟨c, rfl, hc⟩ := hm2
  have f3 : ∀ s : Int, fits64 (s % 1000000007) = true := fun s => fits_of (by omega) (by omega)
  have f977 : fits64 977 = true := by decide
  have f79 : fits64 7919 = true := by decide
  have f48 : fits64 48271 = true := by decide
  let L : D := .lst [.int 48271, .int 69621, .int 16807, .int 39373, .int 30269, .int 40014, .int 40692, .int 50021, .int 61687, .int 71993, .int 83869, .int 95561, .int 30307]
  let s1 : Int := (x % 2147483647 + 12345) * c + 977 * j + 7919 * (j / 13)
  let s2 : Int := s1 % 1000000007
  refine ⟨(s2 * s2 + 48271 * j) % 1000000007 / 7, ?_⟩
  unfold F__law_mix d__law_mix
  refine run1 rfl ⟨[some (.int x), some (.int j), some L, some (.int s2)], ?_⟩
  refine (seq_nx (ρ' := [some (.int x), some (.int j), some L, none]) ?_).trans ?_
  · push_cast [sm_of (show 13 ≤ 1000000 by omega)]
    rfl
  refine (seq_nx (ρ' := [some (.int x), some (.int j), some L, some (.int s1)]) ?_).trans ?_
  · push_cast [L, mod_ints (j := 2147483647) (by decide), mod_ints (j := 13) (by decide), add_ints, e, mul_r hc, mul_l f977, mul_l f79, fdiv_ints (j := 13) (by decide) (by decide)]
    rfl
  refine (seq_nx (ρ' := [some (.int x), some (.int j), some L, some (.int s2)]) ?_).trans ?_
  · push_cast [mod_ints (j := 1000000007) (by decide), s2]
  · push_cast [mod_ints (j := 1000000007) (by decide), s2, add_ints, mul_l (f3 _), mul_l f48, fdiv_ints (j := 7) (by decide) (by decide)]
theorem box_loop (A B : Option D) (x : Int) : ∀ (ds : List D) (s : Int) (o : Option D), (∀ d ∈ ds, ∃ j : Int, d = .int j ∧ 0 ≤ j ∧ j < 40) → ∃ s' o', dloop (gname 4) (sset 3 (d2 addD (d2 mulA (dv 3) (ret (.int 142857143))) (dcallF F__law_mix (dcons (dv 2) (dcons (dv 4) (ret [])))))) ds [A, B, some (.int x), some (.int s), o] = .ok (.nx [A, B, some (.int x), some (.int s'), o'])
  | [], s, o, _ => ⟨s, o, rfl⟩
  | d :: ds, s, o, h => by
    obtain ⟨j, rfl, h0, h1⟩ := h d List.mem_cons_self
    obtain ⟨v, e⟩ := mix_eq x j h0 h1
    obtain ⟨s', o', q⟩ := box_loop A B x ds (s * 142857143 + v) (some (.int j)) fun y hy => h y (List.mem_cons_of_mem _ hy)
    refine ⟨s', o', ?_⟩
    have st : (sset 3 (d2 addD (d2 mulA (dv 3) (ret (.int 142857143))) (dcallF F__law_mix (dcons (dv 2) (dcons (dv 4) (ret [])))))) [A, B, some (.int x), some (.int s), some (.int j)] = .ok (.nx [A, B, some (.int x), some (.int (s * 142857143 + v)), some (.int j)]) := by
      push_cast [e, mul_r (j := 142857143) (by decide), add_ints]
    unfold dloop
    simp only [gname, List.set_cons_zero, List.set_cons_succ, st]
    exact q
theorem box_eq (ns : List Int) (i : Int) (h0 : 0 ≤ i) : ∃ n, F__law_box [.fz ns, .int i] = .ok (.lst [.int n]) := by
  obtain ⟨x, e⟩ := cell_eq ns i h0
  have s1 : (sset 2 (dcallF F__law_cell (dcons (dv 0) (dcons (dv 1) (ret []))))) [some (.fz ns), some (.int i), none, none, none] = .ok (.nx [some (.fz ns), some (.int i), some (.int x), none, none]) := by
    push_cast [e]
  by_cases hx : x % 2 = 0
  · refine ⟨(if x < 0 then -x else x) / 2, ?_⟩
    unfold F__law_box d__law_box
    refine run1 rfl ⟨[some (.fz ns), some (.int i), some (.int x), none, none], ?_⟩
    refine (seq_nx s1).trans (seq_rt ?_)
    push_cast [mod_ints (j := 2) (by decide), hx, absD, fdiv_ints (j := 2) (by decide) (by decide), sm_of (show 1 ≤ 1000000 by omega)]
  · obtain ⟨s', o', q⟩ := box_loop (some (.fz ns)) (some (.int i)) x (rngD 0 40) 0 none fun d hd => by
      unfold rngD at hd
      obtain ⟨k, hk, rfl⟩ := List.mem_map.mp hd
      have hk' := List.mem_range.mp hk
      exact ⟨_, rfl, by omega, by omega⟩
    refine ⟨s', ?_⟩
    unfold F__law_box d__law_box
    refine run1 rfl ⟨[some (.fz ns), some (.int i), some (.int x), some (.int s'), o'], ?_⟩
    refine (seq_nx s1).trans ?_
    refine (seq_nx (ρ' := [some (.fz ns), some (.int i), some (.int x), none, none]) ?_).trans ?_
    · push_cast [mod_ints (j := 2) (by decide), hx]
    refine (seq_nx (ρ' := [some (.fz ns), some (.int i), some (.int x), some (.int 0), none]) ?_).trans ?_
    · push_cast []
    refine (seq_nx (ρ' := [some (.fz ns), some (.int i), some (.int x), some (.int s'), o']) ?_).trans ?_
    · rw [a_sfor, drng_int (j := 40) (ρ1 := [some (.fz ns), some (.int i), some (.int x), some (.int 0), none]) rfl (by omega) (by omega)]
      exact q
    · push_cast [sm_of (show 1 ≤ 1000000 by omega)]
end Law
end L2.Sk
set_option Elab.async false
set_option linter.all false
set_option maxRecDepth 100000
namespace L2.Sk
namespace Law
open PySem PySem.Spec PyProof.Rows
set_option maxHeartbeats 4000000
local macro_rules | `(tactic| push_cast [$xs,*]) => `(tactic| simp only [envOf, a_ret, a_dv, a_dcons, a_dtup, a_dlst, a_nlst, a_d2, a_d1, a_dcall, a_dcallF, a_disi, a_tst, asB_bl, a_tnot, a_tand, a_tor, a_dand, a_dor, a_dnot, a_dif, a_sif, a_sret, a_sset, a_ssetN, a_sexpr, a_snil, a_spar, a_sasg, a_sfor, a_dseq, a_drng1, a_dzip, a_dcallIO, a_ncall, a_dixO, a_ssetI, a_dlenO, a_dtupO, a_dneO, a_dappend, a_dsl, a_dpart, List.length_cons, List.length_nil, List.map_cons, List.map_nil, List.replicate, List.nil_append, List.cons_append, List.append_nil, List.getElem?_cons_zero, List.getElem?_cons_succ, List.set_cons_zero, List.set_cons_succ, Nat.reduceAdd, Nat.reduceSub, Nat.sub_self, Nat.zero_add, reduceIte, Bool.not_true, Bool.not_false, Bool.false_eq_true, if_true, if_false, ite_true, ite_false, cond_true, cond_false, decide_true, decide_false, ix0, ix1, ix2, inst_tt, lenD_tup, ne_ints, eq_ints, isN_eq, notN_eq, gt_ints, lt_ints, le_ints, getL_0, getL_s, a_dcallX, a_dcallP, a_sraise, a_disx, a_dmeth, a_denum, $xs,*])
theorem rn_NoStore : RN.contains "NoStore" = true := by decide
theorem marks_NoStore : F__law_marks [.exc "NoStore"] = .ok (.str "store") := by
  have f0 : (("SackError" : Str) == "ValueError" || instX "NoStore" "SackError") = true := by decide
  have f1 : (("ValueError" : Str) == "ValueError" || instX "NoStore" "ValueError") = true := by decide
  have f2 : (("NoStore" : Str) == "ValueError" || instX "NoStore" "NoStore") = true := by decide
  have f3 : (("NoNumber" : Str) == "ValueError" || instX "NoStore" "NoNumber") = false := by decide
  have f4 : (("NoLoad" : Str) == "ValueError" || instX "NoStore" "NoLoad") = false := by decide
  have f5 : (("TooMany" : Str) == "ValueError" || instX "NoStore" "TooMany") = false := by decide
  have f6 : (("NotSingle" : Str) == "ValueError" || instX "NoStore" "NotSingle") = false := by decide
  have f7 : (("NoText" : Str) == "ValueError" || instX "NoStore" "NoText") = false := by decide
  unfold F__law_marks
  refine run1 rfl ⟨[some (.exc "NoStore"), some (.lst [.bl true, .bl false, .bl false, .bl false, .bl false, .bl false])], ?_⟩
  unfold d__law_marks
  refine (seq_nx (ρ' := [some (.exc "NoStore"), none]) ?_).trans ?_
  · push_cast [f0, f1, rn_NoStore]
  refine (seq_nx (ρ' := [some (.exc "NoStore"), some (.lst [.bl true, .bl false, .bl false, .bl false])]) ?_).trans ?_
  · push_cast [f2, f3, f4, f5, rn_NoStore, sm_of (show 4 ≤ 1000000 by omega)]
  refine (seq_nx (ρ' := [some (.exc "NoStore"), some (.lst [.bl true, .bl false, .bl false, .bl false, .bl false, .bl false])]) ?_).trans ?_
  · push_cast [f6, f7, rn_NoStore, sm_of (show 2 ≤ 1000000 by omega), add_lsts (xs := [.bl true, .bl false, .bl false, .bl false]) (ys := [.bl false, .bl false]) (by simp)]
  have c1 : countD (.lst [.bl true, .bl false, .bl false, .bl false, .bl false, .bl false]) [.bl true] = some (.int 1) := rfl
  have c2 : neS (.int 1) (.int 1) = some (.bl false) := rfl
  have c3 : indexD (.lst [.bl true, .bl false, .bl false, .bl false, .bl false, .bl false]) [.bl true] = some (.int 0) := rfl
  have c4 : ixD (.lst [.str "store", .str "number", .str "load", .str "many", .str "single", .str "text"]) (.int 0) = some (.str "store") := rfl
  refine (seq_nx (ρ' := [some (.exc "NoStore"), some (.lst [.bl true, .bl false, .bl false, .bl false, .bl false, .bl false])]) ?_).trans ?_
  · push_cast [c1, c2]
  · push_cast [c3, c4, sm_of (show 6 ≤ 1000000 by omega)]
theorem rns : RN.contains "NoStore" = true := by decide
theorem x_is_load (thing store : D) (h : isStore store = false) : F_is_load [thing, store] = .exc ⟨"NoStore", .non⟩ [some thing, some store] := by
  unfold F_is_load
  refine run_xx rfl ?_
  unfold d_is_load
  push_cast [a_sseq, need_store_x store h, rns]
theorem x_need_load (store thing : D) (h : isStore store = false) : F_need_load [store, thing] = .exc ⟨"NoStore", .non⟩ [some store, some thing] := by
  unfold F_need_load
  refine run_xx rfl ?_
  unfold d_need_load
  push_cast [a_sseq, x_is_load thing store h, rns]
theorem x_weight (store load : D) (h : isStore store = false) : F_weight [store, load] = .exc ⟨"NoStore", .non⟩ [some store, some load] := by
  unfold F_weight
  refine run_xx rfl ?_
  unfold d_weight
  push_cast [a_sseq, x_need_load store load h, rns]
theorem x_worth (store load : D) (h : isStore store = false) : F_worth [store, load] = .exc ⟨"NoStore", .non⟩ [some store, some load] := by
  unfold F_worth
  refine run_xx rfl ?_
  unfold d_worth
  push_cast [a_sseq, x_need_load store load h, rns]
theorem x_fits (store load room : D) (h : isStore store = false) : F_fits [store, load, room] = .exc ⟨"NoStore", .non⟩ [some store, some load, some room] := by
  unfold F_fits
  refine run_xx rfl ?_
  unfold d_fits
  push_cast [a_sseq, x_need_load store load h, rns]
theorem x_bounded (store room : D) (h : isStore store = false) : F_bounded [store, room] = .exc ⟨"NoStore", .non⟩ [some store, some room] := by
  unfold F_bounded
  refine run_xx rfl ?_
  unfold d_bounded
  push_cast [a_sseq, need_store_x store h, rns]
theorem x_leaves (store load : D) (h : isStore store = false) : F_leaves [store, load] = .exc ⟨"NoStore", .non⟩ [some store, some load] := by
  unfold F_leaves
  refine run_xx rfl ?_
  unfold d_leaves
  push_cast [a_sseq, x_need_load store load h, rns]
theorem x_whole_load (store : D) (h : isStore store = false) : F_whole_load [store] = .exc ⟨"NoStore", .non⟩ [some store] := by
  unfold F_whole_load
  refine run_xx rfl ?_
  unfold d_whole_load
  push_cast [a_sseq, need_store_x store h, rns]
theorem x_show (store : D) (h : isStore store = false) : F_show [store] = .exc ⟨"NoStore", .non⟩ [some store] := by
  unfold F_show
  refine run_xx rfl ?_
  unfold d_show
  push_cast [a_sseq, need_store_x store h, rns]
theorem x_need_asked (store number : D) (h : isStore store = false) : F_need_asked [store, number] = .exc ⟨"NoStore", .non⟩ [some store, some number] := by
  unfold F_need_asked
  refine run_xx rfl ?_
  unfold d_need_asked
  push_cast [a_sseq, need_store_x store h, rns]
theorem x_best_worths (store room : D) (h : isStore store = false) : F_best_worths [store, room] = .exc ⟨"NoStore", .non⟩ [some store, some room] := by
  unfold F_best_worths
  refine run_xx rfl ?_
  unfold d_best_worths
  push_cast [a_sseq, x_need_asked store room h, rns]
theorem x_best_worth (store room : D) (h : isStore store = false) : F_best_worth [store, room] = .exc ⟨"NoStore", .non⟩ [some store, some room] := by
  unfold F_best_worth
  refine run_xx rfl ?_
  unfold d_best_worth
  push_cast [a_sseq, x_best_worths store room h, rns]
theorem x_best_load (store room : D) (h : isStore store = false) : F_best_load [store, room] = .exc ⟨"NoStore", .non⟩ [some store, some room, none, none, none, none, none, none] := by
  unfold F_best_load
  refine run_xx rfl ?_
  unfold d_best_load
  push_cast [a_sseq, x_need_asked store room h, rns]
theorem x_loads_many (store room : D) (h : isStore store = false) : F_loads_many [store, room] = .exc ⟨"NoStore", .non⟩ [some store, some room, none, none] := by
  unfold F_loads_many
  refine run_xx rfl ?_
  unfold d_loads_many
  push_cast [a_sseq, x_need_asked store room h, rns]
theorem x_best_many (store room : D) (h : isStore store = false) : F_best_many [store, room] = .exc ⟨"NoStore", .non⟩ [some store, some room, none, none] := by
  unfold F_best_many
  refine run_xx rfl ?_
  unfold d_best_many
  push_cast [a_sseq, x_need_asked store room h, rns]
theorem x_least_weight (store worth : D) (h : isStore store = false) : F_least_weight [store, worth] = .exc ⟨"NoStore", .non⟩ [some store, some worth] := by
  unfold F_least_weight
  refine run_xx rfl ?_
  unfold d_least_weight
  push_cast [a_sseq, x_need_asked store worth h, rns]
theorem x_least_load (store worth : D) (h : isStore store = false) : F_least_load [store, worth] = .exc ⟨"NoStore", .non⟩ [some store, some worth, none, none, none, none, none, none] := by
  unfold F_least_load
  refine run_xx rfl ?_
  unfold d_least_load
  push_cast [a_sseq, x_need_asked store worth h, rns]
theorem x_half_loads (store : D) (h : isStore store = false) : F_half_loads [store] = .exc ⟨"NoStore", .non⟩ [some store] := by
  unfold F_half_loads
  refine run_xx rfl ?_
  unfold d_half_loads
  push_cast [a_sseq, need_store_x store h, rns]
theorem x_met_worth (store room : D) (h : isStore store = false) : F_met_worth [store, room] = .exc ⟨"NoStore", .non⟩ [some store, some room, none] := by
  unfold F_met_worth
  refine run_xx rfl ?_
  unfold d_met_worth
  push_cast [a_sseq, need_store_x store h, rns]
theorem x_met_load (store room : D) (h : isStore store = false) : F_met_load [store, room] = .exc ⟨"NoStore", .non⟩ [some store, some room, none, none, none, none, none, none] := by
  unfold F_met_load
  refine run_xx rfl ?_
  unfold d_met_load
  push_cast [a_sseq, x_met_worth store room h, rns]
theorem x_stair_for (store room worth : D) (h : isStore store = false) : F_stair_for [store, room, worth] = .exc ⟨"NoStore", .non⟩ [some store, some room, some worth, none, none, none, none] := by
  unfold F_stair_for
  refine run_xx rfl ?_
  unfold d_stair_for
  push_cast [a_sseq, need_store_x store h, rns]
theorem x_is_stair (thing store room worth : D) (h : isStore store = false) : F_is_stair [thing, store, room, worth] = .exc ⟨"NoStore", .non⟩ [some thing, some store, some room, some worth, none] := by
  unfold F_is_stair
  refine run_xx rfl ?_
  unfold d_is_stair
  push_cast [a_sseq, x_stair_for store room worth h, rns]
theorem x_best_shares (store room : D) (h : isStore store = false) : F_best_shares [store, room] = .exc ⟨"NoStore", .non⟩ [some store, some room, none, none, none] := by
  unfold F_best_shares
  refine run_xx rfl ?_
  unfold d_best_shares
  push_cast [a_sseq, need_store_x store h, rns]
theorem x_share_worth (store room : D) (h : isStore store = false) : F_share_worth [store, room] = .exc ⟨"NoStore", .non⟩ [some store, some room, some (.tup [.int 0, .int 1]), none, none] := by
  unfold F_share_worth
  refine run_xx rfl ?_
  unfold d_share_worth
  refine (seq_nx (ρ' := [some store, some room, some (.tup [.int 0, .int 1]), none, none]) rfl).trans (seq_xx ?_)
  unfold sforE
  push_cast [x_best_shares store room h, rns]
theorem x_bound (store room price : D) (h : isStore store = false) : F_bound [store, room, price] = .exc ⟨"NoStore", .non⟩ [some store, some room, some price] := by
  unfold F_bound
  refine run_xx rfl ?_
  unfold d_bound
  push_cast [a_sseq, need_store_x store h, rns]
theorem x_some_price (store room : D) (h : isStore store = false) : F_some_price [store, room] = .exc ⟨"NoStore", .non⟩ [some store, some room, none, none] := by
  unfold F_some_price
  refine run_xx rfl ?_
  unfold d_some_price
  push_cast [a_sseq, need_store_x store h, rns]
theorem x_whole_bound (store room : D) (h : isStore store = false) : F_whole_bound [store, room] = .exc ⟨"NoStore", .non⟩ [some store, some room, none] := by
  unfold F_whole_bound
  refine run_xx rfl ?_
  unfold d_whole_bound
  push_cast [a_sseq, x_share_worth store room h, rns]
theorem x_cut_load (store room : D) (h : isStore store = false) : F_cut_load [store, room] = .exc ⟨"NoStore", .non⟩ [some store, some room] := by
  unfold F_cut_load
  refine run_xx rfl ?_
  unfold d_cut_load
  push_cast [a_dcomp, a_sseq, x_best_shares store room h, rns]
theorem x_table_bound (thing store room : D) (h : isStore store = false) : F_table_bound [thing, store, room] = .exc ⟨"NoStore", .non⟩ [some thing, some store, some room, none, none] := by
  unfold F_table_bound
  refine run_xx rfl ?_
  unfold d_table_bound
  push_cast [a_sseq, x_need_asked store room h, rns]
theorem x_table_paper (store room : D) (h : isStore store = false) : F_table_paper [store, room] = .exc ⟨"NoStore", .non⟩ [some store, some room, none, none] := by
  unfold F_table_paper
  refine run_xx rfl ?_
  unfold d_table_paper
  push_cast [a_sseq, x_need_asked store room h, rns]
theorem x_need_cut_asked (store room u : D) (h : isStore store = false) : F_need_cut_asked [store, room, u] = .exc ⟨"NoStore", .non⟩ [some store, some room, some u] := by
  unfold F_need_cut_asked
  refine run_xx rfl ?_
  unfold d_need_cut_asked
  push_cast [a_sseq, need_store_x store h, rns]
theorem x_is_cut (thing store room u : D) (h : isStore store = false) : F_is_cut [thing, store, room, u] = .exc ⟨"NoStore", .non⟩ [some thing, some store, some room, some u] := by
  unfold F_is_cut
  refine run_xx rfl ?_
  unfold d_is_cut
  push_cast [a_sseq, x_need_cut_asked store room u h, rns]
theorem x_cut_for (store room u : D) (h : isStore store = false) : F_cut_for [store, room, u] = .exc ⟨"NoStore", .non⟩ [some store, some room, some u] := by
  unfold F_cut_for
  refine run_xx rfl ?_
  unfold d_cut_for
  push_cast [a_sseq, x_need_cut_asked store room u h, rns]
theorem law_first (i : Int) (store : D) (h : isStore store = false) (h0 : 0 ≤ i) (h1 : i < 8) : F__law_first [.int i, store] = .exc ⟨"NoStore", .non⟩ [some (.int i), some store] := by
  unfold F__law_first
  refine run_xx rfl ?_
  unfold d__law_first
  have hi : i = 0 ∨ i = 1 ∨ i = 2 ∨ i = 3 ∨ i = 4 ∨ i = 5 ∨ i = 6 ∨ i = 7 := by omega
  rcases hi with rfl | rfl | rfl | rfl | rfl | rfl | rfl | rfl
  all_goals push_cast [a_sseq, Int.reduceEq, x_is_load .non store h, x_weight store .non h, x_worth store .non h, x_fits store .non .non h, x_bounded store .non h, x_leaves store .non h, x_whole_load store h, x_show store h, rns]
theorem law_second (i : Int) (store : D) (h : isStore store = false) (h0 : 0 ≤ i) (h1 : i < 8) : F__law_second [.int i, store] = .exc ⟨"NoStore", .non⟩ [some (.int i), some store] := by
  unfold F__law_second
  refine run_xx rfl ?_
  unfold d__law_second
  have hi : i = 0 ∨ i = 1 ∨ i = 2 ∨ i = 3 ∨ i = 4 ∨ i = 5 ∨ i = 6 ∨ i = 7 := by omega
  rcases hi with rfl | rfl | rfl | rfl | rfl | rfl | rfl | rfl
  all_goals push_cast [a_sseq, Int.reduceEq, x_best_worths store .non h, x_best_worth store .non h, x_best_load store .non h, x_loads_many store .non h, x_best_many store .non h, x_least_weight store .non h, x_least_load store .non h, x_half_loads store h, rns]
theorem law_third (i : Int) (store : D) (h : isStore store = false) (h0 : 0 ≤ i) (h1 : i < 8) : F__law_third [.int i, store] = .exc ⟨"NoStore", .non⟩ [some (.int i), some store] := by
  unfold F__law_third
  refine run_xx rfl ?_
  unfold d__law_third
  have hi : i = 0 ∨ i = 1 ∨ i = 2 ∨ i = 3 ∨ i = 4 ∨ i = 5 ∨ i = 6 ∨ i = 7 := by omega
  rcases hi with rfl | rfl | rfl | rfl | rfl | rfl | rfl | rfl
  all_goals push_cast [a_sseq, Int.reduceEq, x_met_worth store .non h, x_met_load store .non h, x_is_stair .non store .non .non h, x_stair_for store .non .non h, x_best_shares store .non h, x_share_worth store .non h, x_bound store .non .non h, x_some_price store .non h, rns]
theorem law_last (i : Int) (store : D) (h : isStore store = false) (h0 : 0 ≤ i) (h1 : i < 8) : F__law_last [.int i, store] = .exc ⟨"NoStore", .non⟩ [some (.int i), some store] := by
  unfold F__law_last
  refine run_xx rfl ?_
  unfold d__law_last
  have hi : i = 0 ∨ i = 1 ∨ i = 2 ∨ i = 3 ∨ i = 4 ∨ i = 5 ∨ i = 6 ∨ i = 7 := by omega
  rcases hi with rfl | rfl | rfl | rfl | rfl | rfl | rfl | rfl
  all_goals push_cast [a_sseq, Int.reduceEq, x_whole_bound store .non h, x_cut_load store .non h, x_table_bound .non store .non h, x_table_paper store .non h, x_is_cut .non store .non .non h, x_cut_for store .non .non h, rns]
theorem said (p i : Int) (store : D) (h : isStore store = false) (p0 : 0 ≤ p) (p1 : p < 4) (h0 : 0 ≤ i) (h1 : i < 8) : F__law_said [.int p, .int i, store] = .ok (.str "store") := by
  unfold F__law_said
  refine run1 rfl ⟨[some (.int p), some (.int i), some store, none], ?_⟩
  unfold d__law_said
  refine seq_rt (try_x (n := "NoStore") (v := .non) ?_ rns marks_NoStore)
  have hp : p = 0 ∨ p = 1 ∨ p = 2 ∨ p = 3 := by omega
  rcases hp with rfl | rfl | rfl | rfl
  all_goals push_cast [a_sseq, Int.reduceEq, law_first i store h h0 h1, law_second i store h h0 h1, law_third i store h h0 h1, law_last i store h h0 h1, rns]
theorem kinds_loop (store : D) (h : isStore store = false) (p : Int) (p0 : 0 ≤ p) (p1 : p < 4) (A B C E L K : Option D) : ∀ (ds : List D) (o : Option D), (∀ d ∈ ds, ∃ j : Int, d = .int j ∧ 0 ≤ j ∧ j < 8) →
    ∃ o', dloop (gname 8) (sif (tst (d2 neB (dcallF F__law_said (dcons (dv 7) (dcons (dv 8) (dcons (dv 6) (ret []))))) (ret (.str "store")))) (sret (ret (.bl false))) snil) ds [A, B, C, E, L, K, some store, some (.int p), o] = .ok (.nx [A, B, C, E, L, K, some store, some (.int p), o'])
  | [], o, _ => ⟨o, rfl⟩
  | d :: ds, o, H => by
    obtain ⟨j, rfl, h0, h1⟩ := H d List.mem_cons_self
    obtain ⟨o', q⟩ := kinds_loop store h p p0 p1 A B C E L K ds (some (.int j)) fun x hx => H x (List.mem_cons_of_mem _ hx)
    refine ⟨o', ?_⟩
    have e : (sif (tst (d2 neB (dcallF F__law_said (dcons (dv 7) (dcons (dv 8) (dcons (dv 6) (ret []))))) (ret (.str "store")))) (sret (ret (.bl false))) snil) [A, B, C, E, L, K, some store, some (.int p), some (.int j)] = .ok (.nx [A, B, C, E, L, K, some store, some (.int p), some (.int j)]) := by
      push_cast [said p j store h p0 p1 h0 h1, ne_strs]
    exact (loop_cons rfl e).trans q
theorem rng_mem {n : Nat} {d : D} (h : d ∈ rngD 0 n) : ∃ j : Int, d = .int j ∧ 0 ≤ j ∧ j < n := by
  unfold rngD at h
  obtain ⟨k, hk, rfl⟩ := List.mem_map.mp h
  have := List.mem_range.mp hk
  exact ⟨_, rfl, by omega, by omega⟩
theorem parts_loop (store : D) (h : isStore store = false) (A B C E L K : Option D) : ∀ (ds : List D) (o o8 : Option D), (∀ d ∈ ds, ∃ j : Int, d = .int j ∧ 0 ≤ j ∧ j < 4) →
    ∃ o' o8', dloop (gname 7) (sfor (drng1 (dcons (ret (.int 8)) (ret []))) (gname 8) (sif (tst (d2 neB (dcallF F__law_said (dcons (dv 7) (dcons (dv 8) (dcons (dv 6) (ret []))))) (ret (.str "store")))) (sret (ret (.bl false))) snil)) ds [A, B, C, E, L, K, some store, o, o8] = .ok (.nx [A, B, C, E, L, K, some store, o', o8'])
  | [], o, o8, _ => ⟨o, o8, rfl⟩
  | d :: ds, o, o8, H => by
    obtain ⟨j, rfl, h0, h1⟩ := H d List.mem_cons_self
    obtain ⟨p8, e⟩ := kinds_loop store h j h0 h1 A B C E L K (rngD 0 8) o8 fun d hd => rng_mem hd
    obtain ⟨o', o8', q⟩ := parts_loop store h A B C E L K ds (some (.int j)) p8 fun x hx => H x (List.mem_cons_of_mem _ hx)
    refine ⟨o', o8', ?_⟩
    refine (loop_cons (ρ1 := [A, B, C, E, L, K, some store, some (.int j), o8]) rfl ?_).trans q
    rw [a_sfor, drng_int (j := 8) (ρ1 := [A, B, C, E, L, K, some store, some (.int j), o8]) rfl (by omega) (by omega)]
    exact e
theorem laps_loop (things : List D) (hl : things.length = 15) (H : ∀ d ∈ things, isStore d = false) (A B E : Option D) : ∀ (ds : List D) (n : Int) (o5 o6 o7 o8 : Option D), ∃ n' p5 p6 p7 p8, dloop (gname 5) (sseq (sset 6 (d2 ixD (dv 4) (dcallIO F__law_take 2 (dcons (ret (.int 15)) (ret []))))) (sfor (drng1 (dcons (ret (.int 4)) (ret []))) (gname 7) (sfor (drng1 (dcons (ret (.int 8)) (ret []))) (gname 8) (sif (tst (d2 neB (dcallF F__law_said (dcons (dv 7) (dcons (dv 8) (dcons (dv 6) (ret []))))) (ret (.str "store")))) (sret (ret (.bl false))) snil)))) ds [A, B, some (.lst [.int n]), E, some (.lst things), o5, o6, o7, o8] = .ok (.nx [A, B, some (.lst [.int n']), E, some (.lst things), p5, p6, p7, p8])
  | [], n, o5, o6, o7, o8 => ⟨n, o5, o6, o7, o8, rfl⟩
  | d :: ds, n, o5, o6, o7, o8 => by
    obtain ⟨s, hs, e⟩ := ix_lst (ds := things) (k := n % 15) (by omega) (by omega)
    obtain ⟨q7, q8, e2⟩ := parts_loop s (H s hs) A B (some (.lst [.int (n / 15)])) E (some (.lst things)) (some d) (rngD 0 4) o7 o8 fun d hd => rng_mem hd
    obtain ⟨n', p5, p6, p7, p8, q⟩ := laps_loop things hl H A B E ds (n / 15) (some d) (some s) q7 q8
    refine ⟨n', p5, p6, p7, p8, ?_⟩
    refine (loop_cons (ρ1 := [A, B, some (.lst [.int n]), E, some (.lst things), some d, o6, o7, o8]) rfl ?_).trans q
    refine (seq_nx (ρ' := [A, B, some (.lst [.int (n / 15)]), E, some (.lst things), some d, some s, o7, o8]) ?_).trans ?_
    · push_cast [take_eq (m := 15) (by decide) (by decide), e]
    · rw [a_sfor, drng_int (j := 4) (ρ1 := [A, B, some (.lst [.int (n / 15)]), E, some (.lst things), some d, some s, o7, o8]) rfl (by omega) (by omega)]
      exact e2
theorem no_behind {ks : List D} {b : D} (h : isKind b = false) : isStore (.tup (ks ++ [b])) = false := by
  simp only [isStore, List.all_append, List.all_cons, h, Bool.false_and, Bool.and_false]
theorem no_ahead {ks : List D} {b : D} (h : isKind b = false) : isStore (.tup ([b] ++ ks)) = false := by
  simp only [isStore, List.all_append, List.all_cons, h, Bool.false_and, Bool.and_false]
theorem no_in {ks : List D} (hk : ∀ k ∈ ks, goodKind k) : isStore (.tup [.tup (ks ++ [.tup []])]) = false := by
  have : isKind (.tup (ks ++ [.tup []])) = false := by
    match ks, hk with
    | [], _ => rfl
    | [_], _ => rfl
    | [a, b], hk =>
      obtain ⟨x, y, m, rfl, _⟩ := hk a List.mem_cons_self
      rfl
    | _ :: _ :: _ :: ks, _ => exact isKind_len (by simp)
  simp only [isStore, List.all_cons, this, Bool.false_and, Bool.and_false]
def some1 (ks : List D) : List D := [.non, .lst ks, .tup (ks ++ [.tup [.int 0, .int 1, .int 1]]), .tup ([.tup [.int 1, .int (-1), .int 1]] ++ ks), .tup (ks ++ [.tup [.int 1, .int 1, .bl true]]), .str "1/1*", .int 5]
def t13 : D := .tup (List.replicate 13 (.tup [.int 1, .int 1, .int 1]))
def some2 (ks : List D) : List D := [t13, .dic [], .tup (ks ++ [.non]), .tup [.tup [.int 1, .int 1]], .lst [.lst []], .bl false]
def some3 (ks : List D) : List D := [.tup (ks ++ [.tup [.int 1, .int 1, .int (-1)]]), .tup [.tup (ks ++ [.tup []])]]
theorem rep13 : mulA (.tup [.tup [.int 1, .int 1, .int 1]]) (.int 13) = some t13 := by
  have h : smallL 13 = true := sm_of (by omega)
  exact (if_pos (e := none) (c := ((decide (-(2 ^ 62) ≤ (13 : Int)) && decide ((13 : Int) < 2 ^ 62)) && smallL 13) = true) (by rw [h]; decide)).trans rfl
theorem none_store {ks : List D} (hk : ∀ k ∈ ks, goodKind k) : ∀ d ∈ some1 ks ++ some2 ks ++ some3 ks, isStore d = false := by
  intro d hd
  simp only [some1, some2, some3, List.cons_append, List.nil_append, List.mem_cons, List.not_mem_nil, or_false] at hd
  rcases hd with rfl | rfl | rfl | rfl | rfl | rfl | rfl | rfl | rfl | rfl | rfl | rfl | rfl | rfl | rfl
  · rfl
  · rfl
  · exact no_behind rfl
  · exact no_ahead (ks := ks) rfl
  · exact no_behind rfl
  · rfl
  · rfl
  · rfl
  · rfl
  · exact no_behind rfl
  · rfl
  · rfl
  · rfl
  · exact no_behind rfl
  · exact no_in hk
theorem law_body (ns : List Int) (i : Int) (h0 : 0 ≤ i) (o2 o3 o4 o5 o6 o7 o8 : Option D) : ∃ p2 p3 p4 p5 p6 p7 p8, (sseq (ssetN 2 (ncall F__law_box (dcons (dv 0) (dcons (dv 1) (ret []))))) (sseq (sset 3 (dcallIO F__law_stocked 2 (dcons (ret (.int 6)) (dcons (ret .non) (ret []))))) (sseq (sset 4 (dlst (dcons (ret .non) (dcons (dcall listD (dcons (dv 3) (ret []))) (dcons (d2 addD (dv 3) (dtup (dcons (dtup (dcons (ret (.int 0)) (dcons (ret (.int 1)) (dcons (ret (.int 1)) (ret []))))) (ret [])))) (dcons (d2 addD (dtup (dcons (dtup (dcons (ret (.int 1)) (dcons (d1 negD (ret (.int 1))) (dcons (ret (.int 1)) (ret []))))) (ret []))) (dv 3)) (dcons (d2 addD (dv 3) (dtup (dcons (dtup (dcons (ret (.int 1)) (dcons (ret (.int 1)) (dcons (ret (.bl true)) (ret []))))) (ret [])))) (dcons (ret (.str "1/1*")) (dcons (ret (.int 5)) (ret [])))))))))) (sseq (sset 4 (d2 addD (dv 4) (dlst (dcons (d2 mulA (dtup (dcons (dtup (dcons (ret (.int 1)) (dcons (ret (.int 1)) (dcons (ret (.int 1)) (ret []))))) (ret []))) (ret (.int 13))) (dcons (ret (.dic [])) (dcons (d2 addD (dv 3) (dtup (dcons (ret .non) (ret [])))) (dcons (dtup (dcons (dtup (dcons (ret (.int 1)) (dcons (ret (.int 1)) (ret [])))) (ret []))) (dcons (dlst (dcons (dlst (ret [])) (ret []))) (dcons (ret (.bl false)) (ret [])))))))))) (sseq (sset 4 (d2 addD (dv 4) (dlst (dcons (d2 addD (dv 3) (dtup (dcons (dtup (dcons (ret (.int 1)) (dcons (ret (.int 1)) (dcons (d1 negD (ret (.int 1))) (ret []))))) (ret [])))) (dcons (dtup (dcons (d2 addD (dv 3) (dtup (dcons (dtup (ret [])) (ret [])))) (ret []))) (ret [])))))) (sfor (drng1 (dcons (ret (.int 4)) (ret []))) (gname 5) (sseq (sset 6 (d2 ixD (dv 4) (dcallIO F__law_take 2 (dcons (ret (.int 15)) (ret []))))) (sfor (drng1 (dcons (ret (.int 4)) (ret []))) (gname 7) (sfor (drng1 (dcons (ret (.int 8)) (ret []))) (gname 8) (sif (tst (d2 neB (dcallF F__law_said (dcons (dv 7) (dcons (dv 8) (dcons (dv 6) (ret []))))) (ret (.str "store")))) (sret (ret (.bl false))) snil)))))))))) [some (.fz ns), some (.int i), o2, o3, o4, o5, o6, o7, o8] = .ok (.nx [some (.fz ns), some (.int i), p2, p3, p4, p5, p6, p7, p8]) := by
  obtain ⟨n0, e0⟩ := box_eq ns i h0
  obtain ⟨ks, n1, e1, hk, hkl⟩ := stocked_eq n0
  obtain ⟨n', p5, p6, p7, p8, q⟩ := laps_loop (some1 ks ++ some2 ks ++ some3 ks) rfl (none_store hk) (some (.fz ns)) (some (.int i)) (some (.tup ks)) (rngD 0 4) n1 o5 o6 o7 o8
  refine ⟨some (.lst [.int n']), some (.tup ks), some (.lst (some1 ks ++ some2 ks ++ some3 ks)), p5, p6, p7, p8, ?_⟩
  refine (seq_nx (ρ' := [some (.fz ns), some (.int i), some (.lst [.int n0]), o3, o4, o5, o6, o7, o8]) ?_).trans ?_
  · have g1 : immFs [.fz ns, .int i] = true := rfl
    have g2 : immL [.int n0] = true := rfl
    push_cast [e0, g1, g2] <;> rfl
  refine (seq_nx (ρ' := [some (.fz ns), some (.int i), some (.lst [.int n1]), some (.tup ks), o4, o5, o6, o7, o8]) ?_).trans ?_
  · push_cast [e1] <;> rfl
  have a1 := add_tups (xs := ks) (ys := [.tup [.int 0, .int 1, .int 1]]) (by simp; omega)
  have a2 := add_tups (xs := [.tup [.int 1, .int (-1), .int 1]]) (ys := ks) (by simp; omega)
  have a3 := add_tups (xs := ks) (ys := [.tup [.int 1, .int 1, .bl true]]) (by simp; omega)
  have a4 := add_tups (xs := ks) (ys := [.non]) (by simp; omega)
  have a5 := add_tups (xs := ks) (ys := [.tup [.int 1, .int 1, .int (-1)]]) (by simp; omega)
  have a6 := add_tups (xs := ks) (ys := [.tup []]) (by simp; omega)
  refine (seq_nx (ρ' := [some (.fz ns), some (.int i), some (.lst [.int n1]), some (.tup ks), some (.lst (some1 ks)), o5, o6, o7, o8]) ?_).trans ?_
  · push_cast [listD_tup, neg_int, a1, a2, a3, sm_of (show 7 ≤ 1000000 by omega), sm_of (show 3 ≤ 1000000 by omega), sm_of (show 1 ≤ 1000000 by omega)]
    rfl
  have b1 := add_lsts (xs := some1 ks) (ys := some2 ks) (show 7 + 6 ≤ 1000000 by omega)
  have b2 := add_lsts (xs := some1 ks ++ some2 ks) (ys := some3 ks) (show 13 + 2 ≤ 1000000 by omega)
  refine (seq_nx (ρ' := [some (.fz ns), some (.int i), some (.lst [.int n1]), some (.tup ks), some (.lst (some1 ks ++ some2 ks)), o5, o6, o7, o8]) ?_).trans ?_
  · simp only [some2] at b1
    push_cast [rep13, a4, b1, some2, sm_of (show 6 ≤ 1000000 by omega), sm_of (show 3 ≤ 1000000 by omega), sm_of (show 2 ≤ 1000000 by omega), sm_of (show 1 ≤ 1000000 by omega), sm_of (show 0 ≤ 1000000 by omega)]
  refine (seq_nx (ρ' := [some (.fz ns), some (.int i), some (.lst [.int n1]), some (.tup ks), some (.lst (some1 ks ++ some2 ks ++ some3 ks)), o5, o6, o7, o8]) ?_).trans ?_
  · simp only [some3] at b2
    push_cast [neg_int, a5, a6, b2, some3, sm_of (show 3 ≤ 1000000 by omega), sm_of (show 2 ≤ 1000000 by omega), sm_of (show 1 ≤ 1000000 by omega), sm_of (show 0 ≤ 1000000 by omega)]
  rw [a_sfor, drng_int (j := 4) (ρ1 := [some (.fz ns), some (.int i), some (.lst [.int n1]), some (.tup ks), some (.lst (some1 ks ++ some2 ks ++ some3 ks)), o5, o6, o7, o8]) rfl (by omega) (by omega)]
  exact q
theorem law_loop (ns : List Int) : ∀ (ds : List D) (o1 o2 o3 o4 o5 o6 o7 o8 : Option D), (∀ d ∈ ds, ∃ i : Int, d = .int i ∧ 0 ≤ i) → ∃ ρ, dloop (gname 1) (sseq (ssetN 2 (ncall F__law_box (dcons (dv 0) (dcons (dv 1) (ret []))))) (sseq (sset 3 (dcallIO F__law_stocked 2 (dcons (ret (.int 6)) (dcons (ret .non) (ret []))))) (sseq (sset 4 (dlst (dcons (ret .non) (dcons (dcall listD (dcons (dv 3) (ret []))) (dcons (d2 addD (dv 3) (dtup (dcons (dtup (dcons (ret (.int 0)) (dcons (ret (.int 1)) (dcons (ret (.int 1)) (ret []))))) (ret [])))) (dcons (d2 addD (dtup (dcons (dtup (dcons (ret (.int 1)) (dcons (d1 negD (ret (.int 1))) (dcons (ret (.int 1)) (ret []))))) (ret []))) (dv 3)) (dcons (d2 addD (dv 3) (dtup (dcons (dtup (dcons (ret (.int 1)) (dcons (ret (.int 1)) (dcons (ret (.bl true)) (ret []))))) (ret [])))) (dcons (ret (.str "1/1*")) (dcons (ret (.int 5)) (ret [])))))))))) (sseq (sset 4 (d2 addD (dv 4) (dlst (dcons (d2 mulA (dtup (dcons (dtup (dcons (ret (.int 1)) (dcons (ret (.int 1)) (dcons (ret (.int 1)) (ret []))))) (ret []))) (ret (.int 13))) (dcons (ret (.dic [])) (dcons (d2 addD (dv 3) (dtup (dcons (ret .non) (ret [])))) (dcons (dtup (dcons (dtup (dcons (ret (.int 1)) (dcons (ret (.int 1)) (ret [])))) (ret []))) (dcons (dlst (dcons (dlst (ret [])) (ret []))) (dcons (ret (.bl false)) (ret [])))))))))) (sseq (sset 4 (d2 addD (dv 4) (dlst (dcons (d2 addD (dv 3) (dtup (dcons (dtup (dcons (ret (.int 1)) (dcons (ret (.int 1)) (dcons (d1 negD (ret (.int 1))) (ret []))))) (ret [])))) (dcons (dtup (dcons (d2 addD (dv 3) (dtup (dcons (dtup (ret [])) (ret [])))) (ret []))) (ret [])))))) (sfor (drng1 (dcons (ret (.int 4)) (ret []))) (gname 5) (sseq (sset 6 (d2 ixD (dv 4) (dcallIO F__law_take 2 (dcons (ret (.int 15)) (ret []))))) (sfor (drng1 (dcons (ret (.int 4)) (ret []))) (gname 7) (sfor (drng1 (dcons (ret (.int 8)) (ret []))) (gname 8) (sif (tst (d2 neB (dcallF F__law_said (dcons (dv 7) (dcons (dv 8) (dcons (dv 6) (ret []))))) (ret (.str "store")))) (sret (ret (.bl false))) snil)))))))))) ds [some (.fz ns), o1, o2, o3, o4, o5, o6, o7, o8] = .ok (.nx ρ)
  | [], o1, o2, o3, o4, o5, o6, o7, o8, _ => ⟨_, rfl⟩
  | d :: ds, o1, o2, o3, o4, o5, o6, o7, o8, h => by
    obtain ⟨i, rfl, h0⟩ := h d List.mem_cons_self
    obtain ⟨p2, p3, p4, p5, p6, p7, p8, e⟩ := law_body ns i h0 o2 o3 o4 o5 o6 o7 o8
    obtain ⟨ρ, q⟩ := law_loop ns ds (some (.int i)) p2 p3 p4 p5 p6 p7 p8 fun y hy => h y (List.mem_cons_of_mem _ hy)
    refine ⟨ρ, ?_⟩
    unfold dloop
    simp only [gname, List.set_cons_zero, List.set_cons_succ, e]
    exact q
theorem law_true (ns : List Int) (hn : ns.length ≤ 63) : F_law [.fz ns] = .ok (.bl true) := by
  let j : Int := if (if (3 : Int) < (ns.length : Int) then (3 : Int) else (ns.length : Int)) > 1 then (if (3 : Int) < (ns.length : Int) then (3 : Int) else (ns.length : Int)) else 1
  have hj0 : 0 ≤ j := by simp only [j]; split <;> split <;> omega
  have hj1 : j ≤ 6 := by simp only [j]; split <;> split <;> omega
  obtain ⟨ρ, q⟩ := law_loop ns (rngD 0 j.toNat) none none none none none none none none fun d hd => by
    obtain ⟨k, rfl, h, _⟩ := rng_mem hd
    exact ⟨_, rfl, h⟩
  unfold F_law
  refine run1 rfl ⟨ρ, ?_⟩
  unfold d_law
  refine (seq_nx (ρ' := ρ) ?_).trans rfl
  rw [a_sfor, drng_int (j := j) (ρ1 := [some (.fz ns), none, none, none, none, none, none, none, none]) ?_ hj0 (by omega)]
  · exact q
  · rfl
end Law
end L2.Sk
set_option Elab.async false
set_option linter.all false
set_option maxRecDepth 100000
namespace L2.Sk
namespace Law
open PySem PySem.Spec PyProof.Rows
section
variable {P : Program} {w : World} {K : PySem.W.Frag} {mg : Str → Option Value} {base : Heap}
set_option maxHeartbeats 4000000
theorem sc__law_marks : FnScope ["e", "found"] ["e"] (defScope s__law_marks) := ⟨rfl, rfl, rfl, by decide +kernel, rfl, by decide +kernel, by decide +kernel⟩
abbrev Q0 (P : Program) (w : World) (K : Fr0) (mg : Str → Option Value) (base : Heap) : Prop := CalleeL P w K mg base 1 "_law_marks" ["e"] (spD K F__law_marks)
theorem q0 {f : Addr} {fd : FuncData} (F : Fun K "_law_marks" "_law_marks" s__law_marks f fd) (m : mg "_law_marks" = some (.ref f)) (T : Txt K mg) (XTt : XT K mg RN TN) (hB : K.In base) : Q0 P w K mg base := by
  have hcl : ∀ n, RN.contains n = true → (clR K RN n).isSome = true := fun n hn => Option.isSome_iff_exists.mpr (XTt.has hn)
  have rn0 : RN.contains "NoStore" = true := by decide
  obtain ⟨S, mS, xS⟩ := XTt.xcls hB
  refine ⟨f, fd, ?_, m, F.kp, F.binds fun _ _ _ _ _ _ us hl => match us, hl with | [_], _ => rfl⟩
  show FnOkL P w K mg base CX0 1 f fd ["e"] (spD K (dfn (["e", "found"] : List Str).length (["e"] : List Str).length d__law_marks))
  refine fn_pureL (N := ["e", "found"]) (ps := ["e"]) (k := 0) (O := []) (body := d__law_marks) F sc__law_marks ?a ?b
  case a => decide
  intro cdv A outer s H E B hr al
  have hal : ∀ ρ σ H', Rep K (cfn [] [] B H (fun _ => False) (fun _ _ => False) fun _ => none) ρ σ H' → AloneA (A.deeper (envOfC "_law_marks" (defScope s__law_marks) s.heap.objs.size f cdv)) H' := Sk.AloneA.rep al (fun _ z => z)
  exact (dss_cons (ds_if (DW.dt (dw_or (dt_not (dt_val (de_isx (RN := RN) (m := "SackError") (mgl := mg) XTt (by decide) (by decide) rfl T.b_isinstance rfl (de_var 0) (XTt.ask rn0 (by decide)) bo_isinstance))) (dw_or1 (dt_not (dt_val (de_isxV XTt rfl T.b_isinstance rfl T.b_ValueError (de_var 0) bo_isinstance)))))) (dss_one (ds_ret de_str)) dss_nil')
      (dss_cons (ds_set (i := 1) sc__law_marks.nd (de_lst (da_cons (de_isx (RN := RN) (m := "NoStore") (mgl := mg) XTt (by decide) (by decide) rfl T.b_isinstance rfl (de_var 0) (XTt.ask rn0 (by decide)) bo_isinstance) (da_cons (de_isx (RN := RN) (m := "NoNumber") (mgl := mg) XTt (by decide) (by decide) rfl T.b_isinstance rfl (de_var 0) (XTt.ask rn0 (by decide)) bo_isinstance) (da_cons (de_isx (RN := RN) (m := "NoLoad") (mgl := mg) XTt (by decide) (by decide) rfl T.b_isinstance rfl (de_var 0) (XTt.ask rn0 (by decide)) bo_isinstance) (da_cons (de_isx (RN := RN) (m := "TooMany") (mgl := mg) XTt (by decide) (by decide) rfl T.b_isinstance rfl (de_var 0) (XTt.ask rn0 (by decide)) bo_isinstance) da_nil))))))
      (dss_cons (ds_set (i := 1) sc__law_marks.nd (de_bin op_addA ops_add (de_var 1) (de_lst (da_cons (de_isx (RN := RN) (m := "NotSingle") (mgl := mg) XTt (by decide) (by decide) rfl T.b_isinstance rfl (de_var 0) (XTt.ask rn0 (by decide)) bo_isinstance) (da_cons (de_isx (RN := RN) (m := "NoText") (mgl := mg) XTt (by decide) (by decide) rfl T.b_isinstance rfl (de_var 0) (XTt.ask rn0 (by decide)) bo_isinstance) da_nil)))))
      (dss_cons (ds_if (dt_cmp op_ne ops_neS (de_meth PySem.F.slot_list_count ty_count mt_count meths_count (de_var 1) (da_cons de_bl da_nil)) de_int (nomark _)) (dss_one (ds_ret de_str)) dss_nil')
      (dss_one (ds_ret (de_ix ix_any ops_ix (de_lst (da_cons de_str (da_cons de_str (da_cons de_str (da_cons de_str (da_cons de_str (da_cons de_str da_nil))))))) (de_meth PySem.F.slot_list_index ty_index mt_index meths_index (de_var 1) (da_cons de_bl da_nil)))))))))
theorem sc_is_whole : FnScope ["thing"] ["thing"] (defScope s_is_whole) := ⟨rfl, rfl, rfl, by decide +kernel, rfl, by decide +kernel, by decide +kernel⟩
abbrev Q1 (P : Program) (w : World) (K : Fr0) (mg : Str → Option Value) (base : Heap) : Prop := Callee P w K mg base 1 "is_whole" ["thing"] (spD K F_is_whole)
theorem q1 {f : Addr} {fd : FuncData} (F : Fun K "is_whole" "is_whole" s_is_whole f fd) (m : mg "is_whole" = some (.ref f)) (T : Txt K mg) (XTt : XT K mg RN TN) (hB : K.In base) : Q1 P w K mg base := by
  refine ⟨f, fd, ?_, m, F.kp, F.binds fun _ _ _ _ _ _ us hl => match us, hl with | [_], _ => rfl⟩
  show FnOk P w K mg base CX0 1 f fd ["thing"] (spD K (dfn (["thing"] : List Str).length (["thing"] : List Str).length d_is_whole))
  refine fn_pure (N := ["thing"]) (ps := ["thing"]) (k := 0) (O := []) (body := d_is_whole) F sc_is_whole ?a ?b
  case a => decide
  intro cdv A outer s H E B hr
  exact (dss_one (ds_ret (de_and (de_isi kit_int rfl T.b_isinstance rfl T.b_int bo_int (de_var 0) bo_isinstance) (de_one (de_not (de_isi kit_bool rfl T.b_isinstance rfl T.b_bool bo_bool (de_var 0) bo_isinstance))))))
theorem sc_is_count : FnScope ["thing"] ["thing"] (defScope s_is_count) := ⟨rfl, rfl, rfl, by decide +kernel, rfl, by decide +kernel, by decide +kernel⟩
abbrev Q2 (P : Program) (w : World) (K : Fr0) (mg : Str → Option Value) (base : Heap) : Prop := Callee P w K mg base 2 "is_count" ["thing"] (spD K F_is_count)
theorem q2 {f : Addr} {fd : FuncData} (F : Fun K "is_count" "is_count" s_is_count f fd) (m : mg "is_count" = some (.ref f)) (T : Txt K mg) (XTt : XT K mg RN TN) (hB : K.In base) (C_is_whole : Q1 P w K mg base) : Q2 P w K mg base := by
  refine ⟨f, fd, ?_, m, F.kp, F.binds fun _ _ _ _ _ _ us hl => match us, hl with | [_], _ => rfl⟩
  show FnOk P w K mg base CX0 2 f fd ["thing"] (spD K (dfn (["thing"] : List Str).length (["thing"] : List Str).length d_is_count))
  refine fn_pure (N := ["thing"]) (ps := ["thing"]) (k := 1) (O := []) (body := d_is_count) F sc_is_count ?a ?b
  case a => decide
  intro cdv A outer s H E B hr
  exact (dss_one (ds_ret (de_and (dC C_is_whole hr (da_cons (de_var 0) da_nil)) (de_one (de_cmp op_ge ops_ge (de_var 0) de_int (nomark _))))))
theorem sc_is_kind : FnScope ["thing"] ["thing"] (defScope s_is_kind) := ⟨rfl, rfl, rfl, by decide +kernel, rfl, by decide +kernel, by decide +kernel⟩
abbrev Q3 (P : Program) (w : World) (K : Fr0) (mg : Str → Option Value) (base : Heap) : Prop := Callee P w K mg base 3 "is_kind" ["thing"] (spD K F_is_kind)
theorem q3 {f : Addr} {fd : FuncData} (F : Fun K "is_kind" "is_kind" s_is_kind f fd) (m : mg "is_kind" = some (.ref f)) (T : Txt K mg) (XTt : XT K mg RN TN) (hB : K.In base) (C_is_count : Q2 P w K mg base) : Q3 P w K mg base := by
  refine ⟨f, fd, ?_, m, F.kp, F.binds fun _ _ _ _ _ _ us hl => match us, hl with | [_], _ => rfl⟩
  show FnOk P w K mg base CX0 3 f fd ["thing"] (spD K (dfn (["thing"] : List Str).length (["thing"] : List Str).length d_is_kind))
  refine fn_pure (N := ["thing"]) (ps := ["thing"]) (k := 2) (O := []) (body := d_is_kind) F sc_is_kind ?a ?b
  case a => decide
  intro cdv A outer s H E B hr
  exact (dss_cons (ds_if (DW.dt (dw_or (dt_not (dt_val (de_isi kit_tuple rfl T.b_isinstance rfl T.b_tuple bo_tuple (de_var 0) bo_isinstance))) (dw_or1 (dt_cmp (op_neB hr) ops_neB (de_callB call_lenA calls_len rfl T.b_len bo_len (da_cons (de_var 0) da_nil)) de_int (nomark _))))) (dss_one (ds_ret de_bl)) dss_nil')
      (dss_cons (ds_if (DW.dt (dw_or (dt_not (dt_val (dC C_is_count hr (da_cons (de_ix ix_any ops_ix (de_var 0) (gI T.c_WEIGHT)) da_nil)))) (dw_or1 (dt_cmp (op_eqB hr) ops_eqB (de_ix ix_any ops_ix (de_var 0) (gI T.c_WEIGHT)) de_int (nomark _))))) (dss_one (ds_ret de_bl)) dss_nil')
      (dss_one (ds_ret (de_and (dC C_is_count hr (da_cons (de_ix ix_any ops_ix (de_var 0) (gI T.c_WORTH)) da_nil)) (de_one (de_or (de_cmp op_isN ops_isN (de_ix ix_any ops_ix (de_var 0) (gI T.c_MOST)) de_non (nomark _)) (de_one (dC C_is_count hr (da_cons (de_ix ix_any ops_ix (de_var 0) (gI T.c_MOST)) da_nil))))))))))
theorem sc_is_store : FnScope ["thing"] ["thing"] (defScope s_is_store) := ⟨rfl, rfl, rfl, by decide +kernel, rfl, by decide +kernel, by decide +kernel⟩
abbrev Q4 (P : Program) (w : World) (K : Fr0) (mg : Str → Option Value) (base : Heap) : Prop := Callee P w K mg base 4 "is_store" ["thing"] (spD K F_is_store)
theorem q4 {f : Addr} {fd : FuncData} (F : Fun K "is_store" "is_store" s_is_store f fd) (m : mg "is_store" = some (.ref f)) (T : Txt K mg) (XTt : XT K mg RN TN) (hB : K.In base) (C_is_kind : Q3 P w K mg base) : Q4 P w K mg base := by
  refine ⟨f, fd, ?_, m, F.kp, F.binds fun _ _ _ _ _ _ us hl => match us, hl with | [_], _ => rfl⟩
  show FnOk P w K mg base CX0 4 f fd ["thing"] (spD K (dfn (["thing"] : List Str).length (["thing"] : List Str).length d_is_store))
  refine fn_pure (N := ["thing"]) (ps := ["thing"]) (k := 3) (O := []) (body := d_is_store) F sc_is_store ?a ?b
  case a => decide
  intro cdv A outer s H E B hr
  exact (dss_cons (ds_if (DW.dt (dw_or (dt_not (dt_val (de_isi kit_tuple rfl T.b_isinstance rfl T.b_tuple bo_tuple (de_var 0) bo_isinstance))) (dw_or1 (dt_cmp op_gt ops_gt (de_callB call_lenA calls_len rfl T.b_len bo_len (da_cons (de_var 0) da_nil)) (gI T.c_KINDS_AT_MOST) (nomark _))))) (dss_one (ds_ret de_bl)) dss_nil')
      (dss_one (ds_ret (de_callB (call_all rfl) calls_all rfl T.b_all bo_all (da_cons (de_comp (fo := none) rfl (di_seq (de_var 0)) (cs ["thing"] ["part"] 1 [] (defScope s_is_store)) (f0 [] []) (fun _ _ _ _ _ _ _ _ _ _ _ => ⟨(dg_name (i := 0) (nd ["part"])), df_nil, (dC C_is_kind hr (da_cons (de_var 0) da_nil))⟩)) da_nil)))))
theorem sc_need_store : FnScope ["thing"] ["thing"] (defScope s_need_store) := ⟨rfl, rfl, rfl, by decide +kernel, rfl, by decide +kernel, by decide +kernel⟩
abbrev Q5 (P : Program) (w : World) (K : Fr0) (mg : Str → Option Value) (base : Heap) : Prop := CalleeX P w K mg base 5 "need_store" ["thing"] (spX K (clR K RN) F_need_store)
theorem q5 {f : Addr} {fd : FuncData} (F : Fun K "need_store" "need_store" s_need_store f fd) (m : mg "need_store" = some (.ref f)) (T : Txt K mg) (XTt : XT K mg RN TN) (hB : K.In base) (C_is_store : Q4 P w K mg base) : Q5 P w K mg base := by
  have hcl : ∀ n, RN.contains n = true → (clR K RN n).isSome = true := fun n hn => Option.isSome_iff_exists.mpr (XTt.has hn)
  have rn0 : RN.contains "NoStore" = true := by decide
  obtain ⟨S, mS, xS⟩ := XTt.xcls hB
  obtain ⟨C_NoStore, hc_NoStore⟩ := XTt.has (n := "NoStore") (by decide)
  have mc_NoStore := XTt.mgc _ _ (XTt.cls hc_NoStore).1
  obtain ⟨bm_NoStore, xc_NoStore, _⟩ := xS.own _ _ hc_NoStore
  refine ⟨f, fd, ?_, m, F.kp, F.binds fun _ _ _ _ _ _ us hl => match us, hl with | [_], _ => rfl⟩
  show FnOk P w K mg base (CX1 P w) 5 f fd ["thing"] (spX K (clR K RN) (dfnX (["thing"] : List Str).length (["thing"] : List Str).length d_need_store))
  refine fn_exc (N := ["thing"]) (ps := ["thing"]) (k := 4) (O := []) (body := d_need_store) (cl := clR K RN) F sc_need_store ?a ?b
  case a => decide
  intro cdv A outer s H E B hr
  have L := xl_def (P := P) (w := w) (K := K) (mg := mg) (base := base) (N := ["thing"]) (qual := "need_store") (scope := defScope s_need_store) (f := f) (cdv := cdv) (A := A) (outer := outer) (s := s) (H := H) (E := E) (c := cfn [] [] B H (fun _ => False) (fun x H' => ∀ C, clR K RN x.cls = some C → E (.ref C) none H') fun _ => none) (cl := clR K RN) rfl (fun x C H' h1 h2 => h2 C h1)
  exact (dss_one (ds_if (dt_not (dt_val (dC C_is_store hr (da_cons (de_var 0) da_nil)))) (dss_one (ds_raise rfl L hc_NoStore rfl mc_NoStore xc_NoStore (da_cons de_str da_nil))) dss_nil'))
theorem sc_is_load : FnScope ["thing", "store"] ["thing", "store"] (defScope s_is_load) := ⟨rfl, rfl, rfl, by decide +kernel, rfl, by decide +kernel, by decide +kernel⟩
abbrev Q6 (P : Program) (w : World) (K : Fr0) (mg : Str → Option Value) (base : Heap) : Prop := CalleeX P w K mg base 6 "is_load" ["thing", "store"] (spX K (clR K RN) F_is_load)
theorem q6 {f : Addr} {fd : FuncData} (F : Fun K "is_load" "is_load" s_is_load f fd) (m : mg "is_load" = some (.ref f)) (T : Txt K mg) (XTt : XT K mg RN TN) (hB : K.In base) (C_need_store : Q5 P w K mg base) : Q6 P w K mg base := by
  have hcl : ∀ n, RN.contains n = true → (clR K RN n).isSome = true := fun n hn => Option.isSome_iff_exists.mpr (XTt.has hn)
  have rn0 : RN.contains "NoStore" = true := by decide
  obtain ⟨S, mS, xS⟩ := XTt.xcls hB
  refine ⟨f, fd, ?_, m, F.kp, F.binds fun _ _ _ _ _ _ us hl => match us, hl with | [_, _], _ => rfl⟩
  show FnOk P w K mg base (CX1 P w) 6 f fd ["thing", "store"] (spX K (clR K RN) (dfnX (["thing", "store"] : List Str).length (["thing", "store"] : List Str).length d_is_load))
  refine fn_exc (N := ["thing", "store"]) (ps := ["thing", "store"]) (k := 5) (O := []) (body := d_is_load) (cl := clR K RN) F sc_is_load ?a ?b
  case a => decide
  intro cdv A outer s H E B hr
  have L := xl_def (P := P) (w := w) (K := K) (mg := mg) (base := base) (N := ["thing", "store"]) (qual := "is_load") (scope := defScope s_is_load) (f := f) (cdv := cdv) (A := A) (outer := outer) (s := s) (H := H) (E := E) (c := cfn [] [] B H (fun _ => False) (fun x H' => ∀ C, clR K RN x.cls = some C → E (.ref C) none H') fun _ => none) (cl := clR K RN) rfl (fun x C H' h1 h2 => h2 C h1)
  exact (dss_cons (ds_expr (xC L.two hcl C_need_store hr (da_cons (de_var 1) da_nil)))
      (dss_cons ds_never'
      (dss_one ds_never')))
theorem sc_need_load : FnScope ["store", "thing"] ["store", "thing"] (defScope s_need_load) := ⟨rfl, rfl, rfl, by decide +kernel, rfl, by decide +kernel, by decide +kernel⟩
abbrev Q7 (P : Program) (w : World) (K : Fr0) (mg : Str → Option Value) (base : Heap) : Prop := CalleeX P w K mg base 7 "need_load" ["store", "thing"] (spX K (clR K RN) F_need_load)
theorem q7 {f : Addr} {fd : FuncData} (F : Fun K "need_load" "need_load" s_need_load f fd) (m : mg "need_load" = some (.ref f)) (T : Txt K mg) (XTt : XT K mg RN TN) (hB : K.In base) (C_is_load : Q6 P w K mg base) : Q7 P w K mg base := by
  have hcl : ∀ n, RN.contains n = true → (clR K RN n).isSome = true := fun n hn => Option.isSome_iff_exists.mpr (XTt.has hn)
  have rn0 : RN.contains "NoStore" = true := by decide
  obtain ⟨S, mS, xS⟩ := XTt.xcls hB
  obtain ⟨C_NoLoad, hc_NoLoad⟩ := XTt.has (n := "NoLoad") (by decide)
  have mc_NoLoad := XTt.mgc _ _ (XTt.cls hc_NoLoad).1
  obtain ⟨bm_NoLoad, xc_NoLoad, _⟩ := xS.own _ _ hc_NoLoad
  refine ⟨f, fd, ?_, m, F.kp, F.binds fun _ _ _ _ _ _ us hl => match us, hl with | [_, _], _ => rfl⟩
  show FnOk P w K mg base (CX1 P w) 7 f fd ["store", "thing"] (spX K (clR K RN) (dfnX (["store", "thing"] : List Str).length (["store", "thing"] : List Str).length d_need_load))
  refine fn_exc (N := ["store", "thing"]) (ps := ["store", "thing"]) (k := 6) (O := []) (body := d_need_load) (cl := clR K RN) F sc_need_load ?a ?b
  case a => decide
  intro cdv A outer s H E B hr
  have L := xl_def (P := P) (w := w) (K := K) (mg := mg) (base := base) (N := ["store", "thing"]) (qual := "need_load") (scope := defScope s_need_load) (f := f) (cdv := cdv) (A := A) (outer := outer) (s := s) (H := H) (E := E) (c := cfn [] [] B H (fun _ => False) (fun x H' => ∀ C, clR K RN x.cls = some C → E (.ref C) none H') fun _ => none) (cl := clR K RN) rfl (fun x C H' h1 h2 => h2 C h1)
  exact (dss_one (ds_if (dt_not (dt_val (xC L.two hcl C_is_load hr (da_cons (de_var 1) (da_cons (de_var 0) da_nil))))) (dss_one (ds_raise rfl L hc_NoLoad rfl mc_NoLoad xc_NoLoad (da_cons de_str da_nil))) dss_nil'))
theorem sc_weight : FnScope ["store", "load"] ["store", "load"] (defScope s_weight) := ⟨rfl, rfl, rfl, by decide +kernel, rfl, by decide +kernel, by decide +kernel⟩
abbrev Q8 (P : Program) (w : World) (K : Fr0) (mg : Str → Option Value) (base : Heap) : Prop := CalleeX P w K mg base 8 "weight" ["store", "load"] (spX K (clR K RN) F_weight)
theorem q8 {f : Addr} {fd : FuncData} (F : Fun K "weight" "weight" s_weight f fd) (m : mg "weight" = some (.ref f)) (T : Txt K mg) (XTt : XT K mg RN TN) (hB : K.In base) (C_need_load : Q7 P w K mg base) : Q8 P w K mg base := by
  have hcl : ∀ n, RN.contains n = true → (clR K RN n).isSome = true := fun n hn => Option.isSome_iff_exists.mpr (XTt.has hn)
  have rn0 : RN.contains "NoStore" = true := by decide
  obtain ⟨S, mS, xS⟩ := XTt.xcls hB
  refine ⟨f, fd, ?_, m, F.kp, F.binds fun _ _ _ _ _ _ us hl => match us, hl with | [_, _], _ => rfl⟩
  show FnOk P w K mg base (CX1 P w) 8 f fd ["store", "load"] (spX K (clR K RN) (dfnX (["store", "load"] : List Str).length (["store", "load"] : List Str).length d_weight))
  refine fn_exc (N := ["store", "load"]) (ps := ["store", "load"]) (k := 7) (O := []) (body := d_weight) (cl := clR K RN) F sc_weight ?a ?b
  case a => decide
  intro cdv A outer s H E B hr
  have L := xl_def (P := P) (w := w) (K := K) (mg := mg) (base := base) (N := ["store", "load"]) (qual := "weight") (scope := defScope s_weight) (f := f) (cdv := cdv) (A := A) (outer := outer) (s := s) (H := H) (E := E) (c := cfn [] [] B H (fun _ => False) (fun x H' => ∀ C, clR K RN x.cls = some C → E (.ref C) none H') fun _ => none) (cl := clR K RN) rfl (fun x C H' h1 h2 => h2 C h1)
  exact (dss_cons (ds_expr (xC L.two hcl C_need_load hr (da_cons (de_var 0) (da_cons (de_var 1) da_nil))))
      (dss_one ds_never'))
theorem sc_worth : FnScope ["store", "load"] ["store", "load"] (defScope s_worth) := ⟨rfl, rfl, rfl, by decide +kernel, rfl, by decide +kernel, by decide +kernel⟩
abbrev Q9 (P : Program) (w : World) (K : Fr0) (mg : Str → Option Value) (base : Heap) : Prop := CalleeX P w K mg base 8 "worth" ["store", "load"] (spX K (clR K RN) F_worth)
theorem q9 {f : Addr} {fd : FuncData} (F : Fun K "worth" "worth" s_worth f fd) (m : mg "worth" = some (.ref f)) (T : Txt K mg) (XTt : XT K mg RN TN) (hB : K.In base) (C_need_load : Q7 P w K mg base) : Q9 P w K mg base := by
  have hcl : ∀ n, RN.contains n = true → (clR K RN n).isSome = true := fun n hn => Option.isSome_iff_exists.mpr (XTt.has hn)
  have rn0 : RN.contains "NoStore" = true := by decide
  obtain ⟨S, mS, xS⟩ := XTt.xcls hB
  refine ⟨f, fd, ?_, m, F.kp, F.binds fun _ _ _ _ _ _ us hl => match us, hl with | [_, _], _ => rfl⟩
  show FnOk P w K mg base (CX1 P w) 8 f fd ["store", "load"] (spX K (clR K RN) (dfnX (["store", "load"] : List Str).length (["store", "load"] : List Str).length d_worth))
  refine fn_exc (N := ["store", "load"]) (ps := ["store", "load"]) (k := 7) (O := []) (body := d_worth) (cl := clR K RN) F sc_worth ?a ?b
  case a => decide
  intro cdv A outer s H E B hr
  have L := xl_def (P := P) (w := w) (K := K) (mg := mg) (base := base) (N := ["store", "load"]) (qual := "worth") (scope := defScope s_worth) (f := f) (cdv := cdv) (A := A) (outer := outer) (s := s) (H := H) (E := E) (c := cfn [] [] B H (fun _ => False) (fun x H' => ∀ C, clR K RN x.cls = some C → E (.ref C) none H') fun _ => none) (cl := clR K RN) rfl (fun x C H' h1 h2 => h2 C h1)
  exact (dss_cons (ds_expr (xC L.two hcl C_need_load hr (da_cons (de_var 0) (da_cons (de_var 1) da_nil))))
      (dss_one ds_never'))
theorem sc_fits : FnScope ["store", "load", "room"] ["store", "load", "room"] (defScope s_fits) := ⟨rfl, rfl, rfl, by decide +kernel, rfl, by decide +kernel, by decide +kernel⟩
abbrev Q10 (P : Program) (w : World) (K : Fr0) (mg : Str → Option Value) (base : Heap) : Prop := CalleeX P w K mg base 8 "fits" ["store", "load", "room"] (spX K (clR K RN) F_fits)
theorem q10 {f : Addr} {fd : FuncData} (F : Fun K "fits" "fits" s_fits f fd) (m : mg "fits" = some (.ref f)) (T : Txt K mg) (XTt : XT K mg RN TN) (hB : K.In base) (C_need_load : Q7 P w K mg base) : Q10 P w K mg base := by
  have hcl : ∀ n, RN.contains n = true → (clR K RN n).isSome = true := fun n hn => Option.isSome_iff_exists.mpr (XTt.has hn)
  have rn0 : RN.contains "NoStore" = true := by decide
  obtain ⟨S, mS, xS⟩ := XTt.xcls hB
  refine ⟨f, fd, ?_, m, F.kp, F.binds fun _ _ _ _ _ _ us hl => match us, hl with | [_, _, _], _ => rfl⟩
  show FnOk P w K mg base (CX1 P w) 8 f fd ["store", "load", "room"] (spX K (clR K RN) (dfnX (["store", "load", "room"] : List Str).length (["store", "load", "room"] : List Str).length d_fits))
  refine fn_exc (N := ["store", "load", "room"]) (ps := ["store", "load", "room"]) (k := 7) (O := []) (body := d_fits) (cl := clR K RN) F sc_fits ?a ?b
  case a => decide
  intro cdv A outer s H E B hr
  have L := xl_def (P := P) (w := w) (K := K) (mg := mg) (base := base) (N := ["store", "load", "room"]) (qual := "fits") (scope := defScope s_fits) (f := f) (cdv := cdv) (A := A) (outer := outer) (s := s) (H := H) (E := E) (c := cfn [] [] B H (fun _ => False) (fun x H' => ∀ C, clR K RN x.cls = some C → E (.ref C) none H') fun _ => none) (cl := clR K RN) rfl (fun x C H' h1 h2 => h2 C h1)
  exact (dss_cons (ds_expr (xC L.two hcl C_need_load hr (da_cons (de_var 0) (da_cons (de_var 1) da_nil))))
      (dss_cons ds_never'
      (dss_one ds_never')))
theorem sc_bounded : FnScope ["store", "room"] ["store", "room"] (defScope s_bounded) := ⟨rfl, rfl, rfl, by decide +kernel, rfl, by decide +kernel, by decide +kernel⟩
abbrev Q11 (P : Program) (w : World) (K : Fr0) (mg : Str → Option Value) (base : Heap) : Prop := CalleeX P w K mg base 6 "bounded" ["store", "room"] (spX K (clR K RN) F_bounded)
theorem q11 {f : Addr} {fd : FuncData} (F : Fun K "bounded" "bounded" s_bounded f fd) (m : mg "bounded" = some (.ref f)) (T : Txt K mg) (XTt : XT K mg RN TN) (hB : K.In base) (C_need_store : Q5 P w K mg base) : Q11 P w K mg base := by
  have hcl : ∀ n, RN.contains n = true → (clR K RN n).isSome = true := fun n hn => Option.isSome_iff_exists.mpr (XTt.has hn)
  have rn0 : RN.contains "NoStore" = true := by decide
  obtain ⟨S, mS, xS⟩ := XTt.xcls hB
  refine ⟨f, fd, ?_, m, F.kp, F.binds fun _ _ _ _ _ _ us hl => match us, hl with | [_, _], _ => rfl⟩
  show FnOk P w K mg base (CX1 P w) 6 f fd ["store", "room"] (spX K (clR K RN) (dfnX (["store", "room"] : List Str).length (["store", "room"] : List Str).length d_bounded))
  refine fn_exc (N := ["store", "room"]) (ps := ["store", "room"]) (k := 5) (O := []) (body := d_bounded) (cl := clR K RN) F sc_bounded ?a ?b
  case a => decide
  intro cdv A outer s H E B hr
  have L := xl_def (P := P) (w := w) (K := K) (mg := mg) (base := base) (N := ["store", "room"]) (qual := "bounded") (scope := defScope s_bounded) (f := f) (cdv := cdv) (A := A) (outer := outer) (s := s) (H := H) (E := E) (c := cfn [] [] B H (fun _ => False) (fun x H' => ∀ C, clR K RN x.cls = some C → E (.ref C) none H') fun _ => none) (cl := clR K RN) rfl (fun x C H' h1 h2 => h2 C h1)
  exact (dss_cons (ds_expr (xC L.two hcl C_need_store hr (da_cons (de_var 0) da_nil)))
      (dss_cons ds_never'
      (dss_one ds_never')))
theorem sc_leaves : FnScope ["store", "load"] ["store", "load"] (defScope s_leaves) := ⟨rfl, rfl, rfl, by decide +kernel, rfl, by decide +kernel, by decide +kernel⟩
abbrev Q12 (P : Program) (w : World) (K : Fr0) (mg : Str → Option Value) (base : Heap) : Prop := CalleeX P w K mg base 8 "leaves" ["store", "load"] (spX K (clR K RN) F_leaves)
theorem q12 {f : Addr} {fd : FuncData} (F : Fun K "leaves" "leaves" s_leaves f fd) (m : mg "leaves" = some (.ref f)) (T : Txt K mg) (XTt : XT K mg RN TN) (hB : K.In base) (C_need_load : Q7 P w K mg base) : Q12 P w K mg base := by
  have hcl : ∀ n, RN.contains n = true → (clR K RN n).isSome = true := fun n hn => Option.isSome_iff_exists.mpr (XTt.has hn)
  have rn0 : RN.contains "NoStore" = true := by decide
  obtain ⟨S, mS, xS⟩ := XTt.xcls hB
  refine ⟨f, fd, ?_, m, F.kp, F.binds fun _ _ _ _ _ _ us hl => match us, hl with | [_, _], _ => rfl⟩
  show FnOk P w K mg base (CX1 P w) 8 f fd ["store", "load"] (spX K (clR K RN) (dfnX (["store", "load"] : List Str).length (["store", "load"] : List Str).length d_leaves))
  refine fn_exc (N := ["store", "load"]) (ps := ["store", "load"]) (k := 7) (O := []) (body := d_leaves) (cl := clR K RN) F sc_leaves ?a ?b
  case a => decide
  intro cdv A outer s H E B hr
  have L := xl_def (P := P) (w := w) (K := K) (mg := mg) (base := base) (N := ["store", "load"]) (qual := "leaves") (scope := defScope s_leaves) (f := f) (cdv := cdv) (A := A) (outer := outer) (s := s) (H := H) (E := E) (c := cfn [] [] B H (fun _ => False) (fun x H' => ∀ C, clR K RN x.cls = some C → E (.ref C) none H') fun _ => none) (cl := clR K RN) rfl (fun x C H' h1 h2 => h2 C h1)
  exact (dss_cons (ds_expr (xC L.two hcl C_need_load hr (da_cons (de_var 0) (da_cons (de_var 1) da_nil))))
      (dss_one ds_never'))
theorem sc_whole_load : FnScope ["store"] ["store"] (defScope s_whole_load) := ⟨rfl, rfl, rfl, by decide +kernel, rfl, by decide +kernel, by decide +kernel⟩
abbrev Q13 (P : Program) (w : World) (K : Fr0) (mg : Str → Option Value) (base : Heap) : Prop := CalleeX P w K mg base 6 "whole_load" ["store"] (spX K (clR K RN) F_whole_load)
theorem q13 {f : Addr} {fd : FuncData} (F : Fun K "whole_load" "whole_load" s_whole_load f fd) (m : mg "whole_load" = some (.ref f)) (T : Txt K mg) (XTt : XT K mg RN TN) (hB : K.In base) (C_need_store : Q5 P w K mg base) : Q13 P w K mg base := by
  have hcl : ∀ n, RN.contains n = true → (clR K RN n).isSome = true := fun n hn => Option.isSome_iff_exists.mpr (XTt.has hn)
  have rn0 : RN.contains "NoStore" = true := by decide
  obtain ⟨S, mS, xS⟩ := XTt.xcls hB
  refine ⟨f, fd, ?_, m, F.kp, F.binds fun _ _ _ _ _ _ us hl => match us, hl with | [_], _ => rfl⟩
  show FnOk P w K mg base (CX1 P w) 6 f fd ["store"] (spX K (clR K RN) (dfnX (["store"] : List Str).length (["store"] : List Str).length d_whole_load))
  refine fn_exc (N := ["store"]) (ps := ["store"]) (k := 5) (O := []) (body := d_whole_load) (cl := clR K RN) F sc_whole_load ?a ?b
  case a => decide
  intro cdv A outer s H E B hr
  have L := xl_def (P := P) (w := w) (K := K) (mg := mg) (base := base) (N := ["store"]) (qual := "whole_load") (scope := defScope s_whole_load) (f := f) (cdv := cdv) (A := A) (outer := outer) (s := s) (H := H) (E := E) (c := cfn [] [] B H (fun _ => False) (fun x H' => ∀ C, clR K RN x.cls = some C → E (.ref C) none H') fun _ => none) (cl := clR K RN) rfl (fun x C H' h1 h2 => h2 C h1)
  exact (dss_cons (ds_expr (xC L.two hcl C_need_store hr (da_cons (de_var 0) da_nil)))
      (dss_cons ds_never'
      (dss_one ds_never')))
theorem sc_show : FnScope ["store"] ["store"] (defScope s_show) := ⟨rfl, rfl, rfl, by decide +kernel, rfl, by decide +kernel, by decide +kernel⟩
abbrev Q14 (P : Program) (w : World) (K : Fr0) (mg : Str → Option Value) (base : Heap) : Prop := CalleeX P w K mg base 6 "show" ["store"] (spX K (clR K RN) F_show)
theorem q14 {f : Addr} {fd : FuncData} (F : Fun K "show" "show" s_show f fd) (m : mg "show" = some (.ref f)) (T : Txt K mg) (XTt : XT K mg RN TN) (hB : K.In base) (C_need_store : Q5 P w K mg base) : Q14 P w K mg base := by
  have hcl : ∀ n, RN.contains n = true → (clR K RN n).isSome = true := fun n hn => Option.isSome_iff_exists.mpr (XTt.has hn)
  have rn0 : RN.contains "NoStore" = true := by decide
  obtain ⟨S, mS, xS⟩ := XTt.xcls hB
  refine ⟨f, fd, ?_, m, F.kp, F.binds fun _ _ _ _ _ _ us hl => match us, hl with | [_], _ => rfl⟩
  show FnOk P w K mg base (CX1 P w) 6 f fd ["store"] (spX K (clR K RN) (dfnX (["store"] : List Str).length (["store"] : List Str).length d_show))
  refine fn_exc (N := ["store"]) (ps := ["store"]) (k := 5) (O := []) (body := d_show) (cl := clR K RN) F sc_show ?a ?b
  case a => decide
  intro cdv A outer s H E B hr
  have L := xl_def (P := P) (w := w) (K := K) (mg := mg) (base := base) (N := ["store"]) (qual := "show") (scope := defScope s_show) (f := f) (cdv := cdv) (A := A) (outer := outer) (s := s) (H := H) (E := E) (c := cfn [] [] B H (fun _ => False) (fun x H' => ∀ C, clR K RN x.cls = some C → E (.ref C) none H') fun _ => none) (cl := clR K RN) rfl (fun x C H' h1 h2 => h2 C h1)
  exact (dss_cons (ds_expr (xC L.two hcl C_need_store hr (da_cons (de_var 0) da_nil)))
      (dss_one ds_never'))
theorem sc__law_first : FnScope ["kind", "store"] ["kind", "store"] (defScope s__law_first) := ⟨rfl, rfl, rfl, by decide +kernel, rfl, by decide +kernel, by decide +kernel⟩
abbrev Q15 (P : Program) (w : World) (K : Fr0) (mg : Str → Option Value) (base : Heap) : Prop := CalleeX P w K mg base 9 "_law_first" ["kind", "store"] (spX K (clR K RN) F__law_first)
theorem q15 {f : Addr} {fd : FuncData} (F : Fun K "_law_first" "_law_first" s__law_first f fd) (m : mg "_law_first" = some (.ref f)) (T : Txt K mg) (XTt : XT K mg RN TN) (hB : K.In base) (C_is_load : Q6 P w K mg base) (C_weight : Q8 P w K mg base) (C_worth : Q9 P w K mg base) (C_fits : Q10 P w K mg base) (C_bounded : Q11 P w K mg base) (C_leaves : Q12 P w K mg base) (C_whole_load : Q13 P w K mg base) (C_show : Q14 P w K mg base) : Q15 P w K mg base := by
  have hcl : ∀ n, RN.contains n = true → (clR K RN n).isSome = true := fun n hn => Option.isSome_iff_exists.mpr (XTt.has hn)
  have rn0 : RN.contains "NoStore" = true := by decide
  obtain ⟨S, mS, xS⟩ := XTt.xcls hB
  refine ⟨f, fd, ?_, m, F.kp, F.binds fun _ _ _ _ _ _ us hl => match us, hl with | [_, _], _ => rfl⟩
  show FnOk P w K mg base (CX1 P w) 9 f fd ["kind", "store"] (spX K (clR K RN) (dfnX (["kind", "store"] : List Str).length (["kind", "store"] : List Str).length d__law_first))
  refine fn_exc (N := ["kind", "store"]) (ps := ["kind", "store"]) (k := 8) (O := []) (body := d__law_first) (cl := clR K RN) F sc__law_first ?a ?b
  case a => decide
  intro cdv A outer s H E B hr
  have L := xl_def (P := P) (w := w) (K := K) (mg := mg) (base := base) (N := ["kind", "store"]) (qual := "_law_first") (scope := defScope s__law_first) (f := f) (cdv := cdv) (A := A) (outer := outer) (s := s) (H := H) (E := E) (c := cfn [] [] B H (fun _ => False) (fun x H' => ∀ C, clR K RN x.cls = some C → E (.ref C) none H') fun _ => none) (cl := clR K RN) rfl (fun x C H' h1 h2 => h2 C h1)
  exact (dss_one (ds_if (dt_cmp (op_eqB hr) ops_eqB (de_var 0) de_int (nomark _)) (dss_one (ds_expr (xC L.two hcl C_is_load hr (da_cons de_non (da_cons (de_var 1) da_nil))))) (dss_one (ds_if (dt_cmp (op_eqB hr) ops_eqB (de_var 0) de_int (nomark _)) (dss_one (ds_expr (xC L.two hcl C_weight hr (da_cons (de_var 1) (da_cons de_non da_nil))))) (dss_one (ds_if (dt_cmp (op_eqB hr) ops_eqB (de_var 0) de_int (nomark _)) (dss_one (ds_expr (xC L.two hcl C_worth hr (da_cons (de_var 1) (da_cons de_non da_nil))))) (dss_one (ds_if (dt_cmp (op_eqB hr) ops_eqB (de_var 0) de_int (nomark _)) (dss_one (ds_expr (xC L.two hcl C_fits hr (da_cons (de_var 1) (da_cons de_non (da_cons de_non da_nil)))))) (dss_one (ds_if (dt_cmp (op_eqB hr) ops_eqB (de_var 0) de_int (nomark _)) (dss_one (ds_expr (xC L.two hcl C_bounded hr (da_cons (de_var 1) (da_cons de_non da_nil))))) (dss_one (ds_if (dt_cmp (op_eqB hr) ops_eqB (de_var 0) de_int (nomark _)) (dss_one (ds_expr (xC L.two hcl C_leaves hr (da_cons (de_var 1) (da_cons de_non da_nil))))) (dss_one (ds_if (dt_cmp (op_eqB hr) ops_eqB (de_var 0) de_int (nomark _)) (dss_one (ds_expr (xC L.two hcl C_whole_load hr (da_cons (de_var 1) da_nil)))) (dss_one (ds_expr (xC L.two hcl C_show hr (da_cons (de_var 1) da_nil))))))))))))))))))
theorem sc_need_asked : FnScope ["store", "number"] ["store", "number"] (defScope s_need_asked) := ⟨rfl, rfl, rfl, by decide +kernel, rfl, by decide +kernel, by decide +kernel⟩
abbrev Q16 (P : Program) (w : World) (K : Fr0) (mg : Str → Option Value) (base : Heap) : Prop := CalleeX P w K mg base 6 "need_asked" ["store", "number"] (spX K (clR K RN) F_need_asked)
theorem q16 {f : Addr} {fd : FuncData} (F : Fun K "need_asked" "need_asked" s_need_asked f fd) (m : mg "need_asked" = some (.ref f)) (T : Txt K mg) (XTt : XT K mg RN TN) (hB : K.In base) (C_need_store : Q5 P w K mg base) : Q16 P w K mg base := by
  have hcl : ∀ n, RN.contains n = true → (clR K RN n).isSome = true := fun n hn => Option.isSome_iff_exists.mpr (XTt.has hn)
  have rn0 : RN.contains "NoStore" = true := by decide
  obtain ⟨S, mS, xS⟩ := XTt.xcls hB
  refine ⟨f, fd, ?_, m, F.kp, F.binds fun _ _ _ _ _ _ us hl => match us, hl with | [_, _], _ => rfl⟩
  show FnOk P w K mg base (CX1 P w) 6 f fd ["store", "number"] (spX K (clR K RN) (dfnX (["store", "number"] : List Str).length (["store", "number"] : List Str).length d_need_asked))
  refine fn_exc (N := ["store", "number"]) (ps := ["store", "number"]) (k := 5) (O := []) (body := d_need_asked) (cl := clR K RN) F sc_need_asked ?a ?b
  case a => decide
  intro cdv A outer s H E B hr
  have L := xl_def (P := P) (w := w) (K := K) (mg := mg) (base := base) (N := ["store", "number"]) (qual := "need_asked") (scope := defScope s_need_asked) (f := f) (cdv := cdv) (A := A) (outer := outer) (s := s) (H := H) (E := E) (c := cfn [] [] B H (fun _ => False) (fun x H' => ∀ C, clR K RN x.cls = some C → E (.ref C) none H') fun _ => none) (cl := clR K RN) rfl (fun x C H' h1 h2 => h2 C h1)
  exact (dss_cons (ds_expr (xC L.two hcl C_need_store hr (da_cons (de_var 0) da_nil)))
      (dss_cons ds_never'
      (dss_one ds_never')))
theorem sc_best_worths : FnScope ["store", "room"] ["store", "room"] (defScope s_best_worths) := ⟨rfl, rfl, rfl, by decide +kernel, rfl, by decide +kernel, by decide +kernel⟩
abbrev Q17 (P : Program) (w : World) (K : Fr0) (mg : Str → Option Value) (base : Heap) : Prop := CalleeX P w K mg base 7 "best_worths" ["store", "room"] (spX K (clR K RN) F_best_worths)
theorem q17 {f : Addr} {fd : FuncData} (F : Fun K "best_worths" "best_worths" s_best_worths f fd) (m : mg "best_worths" = some (.ref f)) (T : Txt K mg) (XTt : XT K mg RN TN) (hB : K.In base) (C_need_asked : Q16 P w K mg base) : Q17 P w K mg base := by
  have hcl : ∀ n, RN.contains n = true → (clR K RN n).isSome = true := fun n hn => Option.isSome_iff_exists.mpr (XTt.has hn)
  have rn0 : RN.contains "NoStore" = true := by decide
  obtain ⟨S, mS, xS⟩ := XTt.xcls hB
  refine ⟨f, fd, ?_, m, F.kp, F.binds fun _ _ _ _ _ _ us hl => match us, hl with | [_, _], _ => rfl⟩
  show FnOk P w K mg base (CX1 P w) 7 f fd ["store", "room"] (spX K (clR K RN) (dfnX (["store", "room"] : List Str).length (["store", "room"] : List Str).length d_best_worths))
  refine fn_exc (N := ["store", "room"]) (ps := ["store", "room"]) (k := 6) (O := []) (body := d_best_worths) (cl := clR K RN) F sc_best_worths ?a ?b
  case a => decide
  intro cdv A outer s H E B hr
  have L := xl_def (P := P) (w := w) (K := K) (mg := mg) (base := base) (N := ["store", "room"]) (qual := "best_worths") (scope := defScope s_best_worths) (f := f) (cdv := cdv) (A := A) (outer := outer) (s := s) (H := H) (E := E) (c := cfn [] [] B H (fun _ => False) (fun x H' => ∀ C, clR K RN x.cls = some C → E (.ref C) none H') fun _ => none) (cl := clR K RN) rfl (fun x C H' h1 h2 => h2 C h1)
  exact (dss_cons (ds_expr (xC L.two hcl C_need_asked hr (da_cons (de_var 0) (da_cons (de_var 1) da_nil))))
      (dss_one ds_never'))
theorem sc_best_worth : FnScope ["store", "room"] ["store", "room"] (defScope s_best_worth) := ⟨rfl, rfl, rfl, by decide +kernel, rfl, by decide +kernel, by decide +kernel⟩
abbrev Q18 (P : Program) (w : World) (K : Fr0) (mg : Str → Option Value) (base : Heap) : Prop := CalleeX P w K mg base 8 "best_worth" ["store", "room"] (spX K (clR K RN) F_best_worth)
theorem q18 {f : Addr} {fd : FuncData} (F : Fun K "best_worth" "best_worth" s_best_worth f fd) (m : mg "best_worth" = some (.ref f)) (T : Txt K mg) (XTt : XT K mg RN TN) (hB : K.In base) (C_best_worths : Q17 P w K mg base) : Q18 P w K mg base := by
  have hcl : ∀ n, RN.contains n = true → (clR K RN n).isSome = true := fun n hn => Option.isSome_iff_exists.mpr (XTt.has hn)
  have rn0 : RN.contains "NoStore" = true := by decide
  obtain ⟨S, mS, xS⟩ := XTt.xcls hB
  refine ⟨f, fd, ?_, m, F.kp, F.binds fun _ _ _ _ _ _ us hl => match us, hl with | [_, _], _ => rfl⟩
  show FnOk P w K mg base (CX1 P w) 8 f fd ["store", "room"] (spX K (clR K RN) (dfnX (["store", "room"] : List Str).length (["store", "room"] : List Str).length d_best_worth))
  refine fn_exc (N := ["store", "room"]) (ps := ["store", "room"]) (k := 7) (O := []) (body := d_best_worth) (cl := clR K RN) F sc_best_worth ?a ?b
  case a => decide
  intro cdv A outer s H E B hr
  have L := xl_def (P := P) (w := w) (K := K) (mg := mg) (base := base) (N := ["store", "room"]) (qual := "best_worth") (scope := defScope s_best_worth) (f := f) (cdv := cdv) (A := A) (outer := outer) (s := s) (H := H) (E := E) (c := cfn [] [] B H (fun _ => False) (fun x H' => ∀ C, clR K RN x.cls = some C → E (.ref C) none H') fun _ => none) (cl := clR K RN) rfl (fun x C H' h1 h2 => h2 C h1)
  exact (dss_one (ds_ret (de_ix ix_any ops_ix (xC L.two hcl C_best_worths hr (da_cons (de_var 0) (da_cons (de_var 1) da_nil))) (de_var 1))))
theorem sc_best_load : FnScope ["store", "room", "rows", "load", "left", "place", "kind", "times"] ["store", "room"] (defScope s_best_load) := ⟨rfl, rfl, rfl, by decide +kernel, rfl, by decide +kernel, by decide +kernel⟩
abbrev Q19 (P : Program) (w : World) (K : Fr0) (mg : Str → Option Value) (base : Heap) : Prop := CalleeX P w K mg base 7 "best_load" ["store", "room"] (spX K (clR K RN) F_best_load)
theorem q19 {f : Addr} {fd : FuncData} (F : Fun K "best_load" "best_load" s_best_load f fd) (m : mg "best_load" = some (.ref f)) (T : Txt K mg) (XTt : XT K mg RN TN) (hB : K.In base) (C_need_asked : Q16 P w K mg base) : Q19 P w K mg base := by
  have hcl : ∀ n, RN.contains n = true → (clR K RN n).isSome = true := fun n hn => Option.isSome_iff_exists.mpr (XTt.has hn)
  have rn0 : RN.contains "NoStore" = true := by decide
  obtain ⟨S, mS, xS⟩ := XTt.xcls hB
  refine ⟨f, fd, ?_, m, F.kp, F.binds fun _ _ _ _ _ _ us hl => match us, hl with | [_, _], _ => rfl⟩
  show FnOk P w K mg base (CX1 P w) 7 f fd ["store", "room"] (spX K (clR K RN) (dfnX (["store", "room", "rows", "load", "left", "place", "kind", "times"] : List Str).length (["store", "room"] : List Str).length d_best_load))
  refine fn_exc (N := ["store", "room", "rows", "load", "left", "place", "kind", "times"]) (ps := ["store", "room"]) (k := 6) (O := [3]) (body := d_best_load) (cl := clR K RN) F sc_best_load ?a ?b
  case a => decide
  intro cdv A outer s H E B hr
  have L := xl_def (P := P) (w := w) (K := K) (mg := mg) (base := base) (N := ["store", "room", "rows", "load", "left", "place", "kind", "times"]) (qual := "best_load") (scope := defScope s_best_load) (f := f) (cdv := cdv) (A := A) (outer := outer) (s := s) (H := H) (E := E) (c := cfn [3] [] B H (fun _ => False) (fun x H' => ∀ C, clR K RN x.cls = some C → E (.ref C) none H') fun _ => none) (cl := clR K RN) rfl (fun x C H' h1 h2 => h2 C h1)
  exact (dss_cons (ds_expr (xC L.two hcl C_need_asked hr (da_cons (de_var 0) (da_cons (de_var 1) da_nil))))
      (dss_cons ds_never'
      (dss_cons ds_never'
      (dss_cons ds_never'
      (dss_cons ds_never'
      (dss_one ds_never'))))))
theorem sc_loads_many : FnScope ["store", "room", "row", "kind"] ["store", "room"] (defScope s_loads_many) := ⟨rfl, rfl, rfl, by decide +kernel, rfl, by decide +kernel, by decide +kernel⟩
abbrev Q20 (P : Program) (w : World) (K : Fr0) (mg : Str → Option Value) (base : Heap) : Prop := CalleeX P w K mg base 7 "loads_many" ["store", "room"] (spX K (clR K RN) F_loads_many)
theorem q20 {f : Addr} {fd : FuncData} (F : Fun K "loads_many" "loads_many" s_loads_many f fd) (m : mg "loads_many" = some (.ref f)) (T : Txt K mg) (XTt : XT K mg RN TN) (hB : K.In base) (C_need_asked : Q16 P w K mg base) : Q20 P w K mg base := by
  have hcl : ∀ n, RN.contains n = true → (clR K RN n).isSome = true := fun n hn => Option.isSome_iff_exists.mpr (XTt.has hn)
  have rn0 : RN.contains "NoStore" = true := by decide
  obtain ⟨S, mS, xS⟩ := XTt.xcls hB
  refine ⟨f, fd, ?_, m, F.kp, F.binds fun _ _ _ _ _ _ us hl => match us, hl with | [_, _], _ => rfl⟩
  show FnOk P w K mg base (CX1 P w) 7 f fd ["store", "room"] (spX K (clR K RN) (dfnX (["store", "room", "row", "kind"] : List Str).length (["store", "room"] : List Str).length d_loads_many))
  refine fn_exc (N := ["store", "room", "row", "kind"]) (ps := ["store", "room"]) (k := 6) (O := []) (body := d_loads_many) (cl := clR K RN) F sc_loads_many ?a ?b
  case a => decide
  intro cdv A outer s H E B hr
  have L := xl_def (P := P) (w := w) (K := K) (mg := mg) (base := base) (N := ["store", "room", "row", "kind"]) (qual := "loads_many") (scope := defScope s_loads_many) (f := f) (cdv := cdv) (A := A) (outer := outer) (s := s) (H := H) (E := E) (c := cfn [] [] B H (fun _ => False) (fun x H' => ∀ C, clR K RN x.cls = some C → E (.ref C) none H') fun _ => none) (cl := clR K RN) rfl (fun x C H' h1 h2 => h2 C h1)
  exact (dss_cons (ds_expr (xC L.two hcl C_need_asked hr (da_cons (de_var 0) (da_cons (de_var 1) da_nil))))
      (dss_cons ds_never'
      (dss_cons ds_never'
      (dss_one ds_never'))))
theorem sc_best_many : FnScope ["store", "room", "row", "kind"] ["store", "room"] (defScope s_best_many) := ⟨rfl, rfl, rfl, by decide +kernel, rfl, by decide +kernel, by decide +kernel⟩
abbrev Q21 (P : Program) (w : World) (K : Fr0) (mg : Str → Option Value) (base : Heap) : Prop := CalleeX P w K mg base 7 "best_many" ["store", "room"] (spX K (clR K RN) F_best_many)
theorem q21 {f : Addr} {fd : FuncData} (F : Fun K "best_many" "best_many" s_best_many f fd) (m : mg "best_many" = some (.ref f)) (T : Txt K mg) (XTt : XT K mg RN TN) (hB : K.In base) (C_need_asked : Q16 P w K mg base) : Q21 P w K mg base := by
  have hcl : ∀ n, RN.contains n = true → (clR K RN n).isSome = true := fun n hn => Option.isSome_iff_exists.mpr (XTt.has hn)
  have rn0 : RN.contains "NoStore" = true := by decide
  obtain ⟨S, mS, xS⟩ := XTt.xcls hB
  refine ⟨f, fd, ?_, m, F.kp, F.binds fun _ _ _ _ _ _ us hl => match us, hl with | [_, _], _ => rfl⟩
  show FnOk P w K mg base (CX1 P w) 7 f fd ["store", "room"] (spX K (clR K RN) (dfnX (["store", "room", "row", "kind"] : List Str).length (["store", "room"] : List Str).length d_best_many))
  refine fn_exc (N := ["store", "room", "row", "kind"]) (ps := ["store", "room"]) (k := 6) (O := []) (body := d_best_many) (cl := clR K RN) F sc_best_many ?a ?b
  case a => decide
  intro cdv A outer s H E B hr
  have L := xl_def (P := P) (w := w) (K := K) (mg := mg) (base := base) (N := ["store", "room", "row", "kind"]) (qual := "best_many") (scope := defScope s_best_many) (f := f) (cdv := cdv) (A := A) (outer := outer) (s := s) (H := H) (E := E) (c := cfn [] [] B H (fun _ => False) (fun x H' => ∀ C, clR K RN x.cls = some C → E (.ref C) none H') fun _ => none) (cl := clR K RN) rfl (fun x C H' h1 h2 => h2 C h1)
  exact (dss_cons (ds_expr (xC L.two hcl C_need_asked hr (da_cons (de_var 0) (da_cons (de_var 1) da_nil))))
      (dss_cons ds_never'
      (dss_cons ds_never'
      (dss_one ds_never'))))
theorem sc_least_weight : FnScope ["store", "worth"] ["store", "worth"] (defScope s_least_weight) := ⟨rfl, rfl, rfl, by decide +kernel, rfl, by decide +kernel, by decide +kernel⟩
abbrev Q22 (P : Program) (w : World) (K : Fr0) (mg : Str → Option Value) (base : Heap) : Prop := CalleeX P w K mg base 7 "least_weight" ["store", "worth"] (spX K (clR K RN) F_least_weight)
theorem q22 {f : Addr} {fd : FuncData} (F : Fun K "least_weight" "least_weight" s_least_weight f fd) (m : mg "least_weight" = some (.ref f)) (T : Txt K mg) (XTt : XT K mg RN TN) (hB : K.In base) (C_need_asked : Q16 P w K mg base) : Q22 P w K mg base := by
  have hcl : ∀ n, RN.contains n = true → (clR K RN n).isSome = true := fun n hn => Option.isSome_iff_exists.mpr (XTt.has hn)
  have rn0 : RN.contains "NoStore" = true := by decide
  obtain ⟨S, mS, xS⟩ := XTt.xcls hB
  refine ⟨f, fd, ?_, m, F.kp, F.binds fun _ _ _ _ _ _ us hl => match us, hl with | [_, _], _ => rfl⟩
  show FnOk P w K mg base (CX1 P w) 7 f fd ["store", "worth"] (spX K (clR K RN) (dfnX (["store", "worth"] : List Str).length (["store", "worth"] : List Str).length d_least_weight))
  refine fn_exc (N := ["store", "worth"]) (ps := ["store", "worth"]) (k := 6) (O := []) (body := d_least_weight) (cl := clR K RN) F sc_least_weight ?a ?b
  case a => decide
  intro cdv A outer s H E B hr
  have L := xl_def (P := P) (w := w) (K := K) (mg := mg) (base := base) (N := ["store", "worth"]) (qual := "least_weight") (scope := defScope s_least_weight) (f := f) (cdv := cdv) (A := A) (outer := outer) (s := s) (H := H) (E := E) (c := cfn [] [] B H (fun _ => False) (fun x H' => ∀ C, clR K RN x.cls = some C → E (.ref C) none H') fun _ => none) (cl := clR K RN) rfl (fun x C H' h1 h2 => h2 C h1)
  exact (dss_cons (ds_expr (xC L.two hcl C_need_asked hr (da_cons (de_var 0) (da_cons (de_var 1) da_nil))))
      (dss_one ds_never'))
theorem sc_least_load : FnScope ["store", "worth", "rows", "load", "goal", "place", "kind", "times"] ["store", "worth"] (defScope s_least_load) := ⟨rfl, rfl, rfl, by decide +kernel, rfl, by decide +kernel, by decide +kernel⟩
abbrev Q23 (P : Program) (w : World) (K : Fr0) (mg : Str → Option Value) (base : Heap) : Prop := CalleeX P w K mg base 7 "least_load" ["store", "worth"] (spX K (clR K RN) F_least_load)
theorem q23 {f : Addr} {fd : FuncData} (F : Fun K "least_load" "least_load" s_least_load f fd) (m : mg "least_load" = some (.ref f)) (T : Txt K mg) (XTt : XT K mg RN TN) (hB : K.In base) (C_need_asked : Q16 P w K mg base) : Q23 P w K mg base := by
  have hcl : ∀ n, RN.contains n = true → (clR K RN n).isSome = true := fun n hn => Option.isSome_iff_exists.mpr (XTt.has hn)
  have rn0 : RN.contains "NoStore" = true := by decide
  obtain ⟨S, mS, xS⟩ := XTt.xcls hB
  refine ⟨f, fd, ?_, m, F.kp, F.binds fun _ _ _ _ _ _ us hl => match us, hl with | [_, _], _ => rfl⟩
  show FnOk P w K mg base (CX1 P w) 7 f fd ["store", "worth"] (spX K (clR K RN) (dfnX (["store", "worth", "rows", "load", "goal", "place", "kind", "times"] : List Str).length (["store", "worth"] : List Str).length d_least_load))
  refine fn_exc (N := ["store", "worth", "rows", "load", "goal", "place", "kind", "times"]) (ps := ["store", "worth"]) (k := 6) (O := [3]) (body := d_least_load) (cl := clR K RN) F sc_least_load ?a ?b
  case a => decide
  intro cdv A outer s H E B hr
  have L := xl_def (P := P) (w := w) (K := K) (mg := mg) (base := base) (N := ["store", "worth", "rows", "load", "goal", "place", "kind", "times"]) (qual := "least_load") (scope := defScope s_least_load) (f := f) (cdv := cdv) (A := A) (outer := outer) (s := s) (H := H) (E := E) (c := cfn [3] [] B H (fun _ => False) (fun x H' => ∀ C, clR K RN x.cls = some C → E (.ref C) none H') fun _ => none) (cl := clR K RN) rfl (fun x C H' h1 h2 => h2 C h1)
  exact (dss_cons (ds_expr (xC L.two hcl C_need_asked hr (da_cons (de_var 0) (da_cons (de_var 1) da_nil))))
      (dss_cons ds_never'
      (dss_cons ds_never'
      (dss_cons ds_never'
      (dss_cons ds_never'
      (dss_cons ds_never'
      (dss_one ds_never')))))))
theorem sc_half_loads : FnScope ["store"] ["store"] (defScope s_half_loads) := ⟨rfl, rfl, rfl, by decide +kernel, rfl, by decide +kernel, by decide +kernel⟩
abbrev Q24 (P : Program) (w : World) (K : Fr0) (mg : Str → Option Value) (base : Heap) : Prop := CalleeX P w K mg base 6 "half_loads" ["store"] (spX K (clR K RN) F_half_loads)
theorem q24 {f : Addr} {fd : FuncData} (F : Fun K "half_loads" "half_loads" s_half_loads f fd) (m : mg "half_loads" = some (.ref f)) (T : Txt K mg) (XTt : XT K mg RN TN) (hB : K.In base) (C_need_store : Q5 P w K mg base) : Q24 P w K mg base := by
  have hcl : ∀ n, RN.contains n = true → (clR K RN n).isSome = true := fun n hn => Option.isSome_iff_exists.mpr (XTt.has hn)
  have rn0 : RN.contains "NoStore" = true := by decide
  obtain ⟨S, mS, xS⟩ := XTt.xcls hB
  refine ⟨f, fd, ?_, m, F.kp, F.binds fun _ _ _ _ _ _ us hl => match us, hl with | [_], _ => rfl⟩
  show FnOk P w K mg base (CX1 P w) 6 f fd ["store"] (spX K (clR K RN) (dfnX (["store"] : List Str).length (["store"] : List Str).length d_half_loads))
  refine fn_exc (N := ["store"]) (ps := ["store"]) (k := 5) (O := []) (body := d_half_loads) (cl := clR K RN) F sc_half_loads ?a ?b
  case a => decide
  intro cdv A outer s H E B hr
  have L := xl_def (P := P) (w := w) (K := K) (mg := mg) (base := base) (N := ["store"]) (qual := "half_loads") (scope := defScope s_half_loads) (f := f) (cdv := cdv) (A := A) (outer := outer) (s := s) (H := H) (E := E) (c := cfn [] [] B H (fun _ => False) (fun x H' => ∀ C, clR K RN x.cls = some C → E (.ref C) none H') fun _ => none) (cl := clR K RN) rfl (fun x C H' h1 h2 => h2 C h1)
  exact (dss_cons (ds_expr (xC L.two hcl C_need_store hr (da_cons (de_var 0) da_nil)))
      (dss_cons ds_never'
      (dss_one ds_never')))
theorem sc__law_second : FnScope ["kind", "store"] ["kind", "store"] (defScope s__law_second) := ⟨rfl, rfl, rfl, by decide +kernel, rfl, by decide +kernel, by decide +kernel⟩
abbrev Q25 (P : Program) (w : World) (K : Fr0) (mg : Str → Option Value) (base : Heap) : Prop := CalleeX P w K mg base 9 "_law_second" ["kind", "store"] (spX K (clR K RN) F__law_second)
theorem q25 {f : Addr} {fd : FuncData} (F : Fun K "_law_second" "_law_second" s__law_second f fd) (m : mg "_law_second" = some (.ref f)) (T : Txt K mg) (XTt : XT K mg RN TN) (hB : K.In base) (C_best_worths : Q17 P w K mg base) (C_best_worth : Q18 P w K mg base) (C_best_load : Q19 P w K mg base) (C_loads_many : Q20 P w K mg base) (C_best_many : Q21 P w K mg base) (C_least_weight : Q22 P w K mg base) (C_least_load : Q23 P w K mg base) (C_half_loads : Q24 P w K mg base) : Q25 P w K mg base := by
  have hcl : ∀ n, RN.contains n = true → (clR K RN n).isSome = true := fun n hn => Option.isSome_iff_exists.mpr (XTt.has hn)
  have rn0 : RN.contains "NoStore" = true := by decide
  obtain ⟨S, mS, xS⟩ := XTt.xcls hB
  refine ⟨f, fd, ?_, m, F.kp, F.binds fun _ _ _ _ _ _ us hl => match us, hl with | [_, _], _ => rfl⟩
  show FnOk P w K mg base (CX1 P w) 9 f fd ["kind", "store"] (spX K (clR K RN) (dfnX (["kind", "store"] : List Str).length (["kind", "store"] : List Str).length d__law_second))
  refine fn_exc (N := ["kind", "store"]) (ps := ["kind", "store"]) (k := 8) (O := []) (body := d__law_second) (cl := clR K RN) F sc__law_second ?a ?b
  case a => decide
  intro cdv A outer s H E B hr
  have L := xl_def (P := P) (w := w) (K := K) (mg := mg) (base := base) (N := ["kind", "store"]) (qual := "_law_second") (scope := defScope s__law_second) (f := f) (cdv := cdv) (A := A) (outer := outer) (s := s) (H := H) (E := E) (c := cfn [] [] B H (fun _ => False) (fun x H' => ∀ C, clR K RN x.cls = some C → E (.ref C) none H') fun _ => none) (cl := clR K RN) rfl (fun x C H' h1 h2 => h2 C h1)
  exact (dss_one (ds_if (dt_cmp (op_eqB hr) ops_eqB (de_var 0) de_int (nomark _)) (dss_one (ds_expr (xC L.two hcl C_best_worths hr (da_cons (de_var 1) (da_cons de_non da_nil))))) (dss_one (ds_if (dt_cmp (op_eqB hr) ops_eqB (de_var 0) de_int (nomark _)) (dss_one (ds_expr (xC L.two hcl C_best_worth hr (da_cons (de_var 1) (da_cons de_non da_nil))))) (dss_one (ds_if (dt_cmp (op_eqB hr) ops_eqB (de_var 0) de_int (nomark _)) (dss_one (ds_expr (xC L.two hcl C_best_load hr (da_cons (de_var 1) (da_cons de_non da_nil))))) (dss_one (ds_if (dt_cmp (op_eqB hr) ops_eqB (de_var 0) de_int (nomark _)) (dss_one (ds_expr (xC L.two hcl C_loads_many hr (da_cons (de_var 1) (da_cons de_non da_nil))))) (dss_one (ds_if (dt_cmp (op_eqB hr) ops_eqB (de_var 0) de_int (nomark _)) (dss_one (ds_expr (xC L.two hcl C_best_many hr (da_cons (de_var 1) (da_cons de_non da_nil))))) (dss_one (ds_if (dt_cmp (op_eqB hr) ops_eqB (de_var 0) de_int (nomark _)) (dss_one (ds_expr (xC L.two hcl C_least_weight hr (da_cons (de_var 1) (da_cons de_non da_nil))))) (dss_one (ds_if (dt_cmp (op_eqB hr) ops_eqB (de_var 0) de_int (nomark _)) (dss_one (ds_expr (xC L.two hcl C_least_load hr (da_cons (de_var 1) (da_cons de_non da_nil))))) (dss_one (ds_expr (xC L.two hcl C_half_loads hr (da_cons (de_var 1) da_nil))))))))))))))))))
theorem sc_met_worth : FnScope ["store", "room", "both"] ["store", "room"] (defScope s_met_worth) := ⟨rfl, rfl, rfl, by decide +kernel, rfl, by decide +kernel, by decide +kernel⟩
abbrev Q26 (P : Program) (w : World) (K : Fr0) (mg : Str → Option Value) (base : Heap) : Prop := CalleeX P w K mg base 6 "met_worth" ["store", "room"] (spX K (clR K RN) F_met_worth)
theorem q26 {f : Addr} {fd : FuncData} (F : Fun K "met_worth" "met_worth" s_met_worth f fd) (m : mg "met_worth" = some (.ref f)) (T : Txt K mg) (XTt : XT K mg RN TN) (hB : K.In base) (C_need_store : Q5 P w K mg base) : Q26 P w K mg base := by
  have hcl : ∀ n, RN.contains n = true → (clR K RN n).isSome = true := fun n hn => Option.isSome_iff_exists.mpr (XTt.has hn)
  have rn0 : RN.contains "NoStore" = true := by decide
  obtain ⟨S, mS, xS⟩ := XTt.xcls hB
  refine ⟨f, fd, ?_, m, F.kp, F.binds fun _ _ _ _ _ _ us hl => match us, hl with | [_, _], _ => rfl⟩
  show FnOk P w K mg base (CX1 P w) 6 f fd ["store", "room"] (spX K (clR K RN) (dfnX (["store", "room", "both"] : List Str).length (["store", "room"] : List Str).length d_met_worth))
  refine fn_exc (N := ["store", "room", "both"]) (ps := ["store", "room"]) (k := 5) (O := []) (body := d_met_worth) (cl := clR K RN) F sc_met_worth ?a ?b
  case a => decide
  intro cdv A outer s H E B hr
  have L := xl_def (P := P) (w := w) (K := K) (mg := mg) (base := base) (N := ["store", "room", "both"]) (qual := "met_worth") (scope := defScope s_met_worth) (f := f) (cdv := cdv) (A := A) (outer := outer) (s := s) (H := H) (E := E) (c := cfn [] [] B H (fun _ => False) (fun x H' => ∀ C, clR K RN x.cls = some C → E (.ref C) none H') fun _ => none) (cl := clR K RN) rfl (fun x C H' h1 h2 => h2 C h1)
  exact (dss_cons (ds_expr (xC L.two hcl C_need_store hr (da_cons (de_var 0) da_nil)))
      (dss_cons ds_never'
      (dss_cons ds_never'
      (dss_one ds_never'))))
theorem sc_met_load : FnScope ["store", "room", "best", "seconds", "fitting", "front", "beside", "back"] ["store", "room"] (defScope s_met_load) := ⟨rfl, rfl, rfl, by decide +kernel, rfl, by decide +kernel, by decide +kernel⟩
abbrev Q27 (P : Program) (w : World) (K : Fr0) (mg : Str → Option Value) (base : Heap) : Prop := CalleeX P w K mg base 7 "met_load" ["store", "room"] (spX K (clR K RN) F_met_load)
theorem q27 {f : Addr} {fd : FuncData} (F : Fun K "met_load" "met_load" s_met_load f fd) (m : mg "met_load" = some (.ref f)) (T : Txt K mg) (XTt : XT K mg RN TN) (hB : K.In base) (C_met_worth : Q26 P w K mg base) : Q27 P w K mg base := by
  have hcl : ∀ n, RN.contains n = true → (clR K RN n).isSome = true := fun n hn => Option.isSome_iff_exists.mpr (XTt.has hn)
  have rn0 : RN.contains "NoStore" = true := by decide
  obtain ⟨S, mS, xS⟩ := XTt.xcls hB
  refine ⟨f, fd, ?_, m, F.kp, F.binds fun _ _ _ _ _ _ us hl => match us, hl with | [_, _], _ => rfl⟩
  show FnOk P w K mg base (CX1 P w) 7 f fd ["store", "room"] (spX K (clR K RN) (dfnX (["store", "room", "best", "seconds", "fitting", "front", "beside", "back"] : List Str).length (["store", "room"] : List Str).length d_met_load))
  refine fn_exc (N := ["store", "room", "best", "seconds", "fitting", "front", "beside", "back"]) (ps := ["store", "room"]) (k := 6) (O := []) (body := d_met_load) (cl := clR K RN) F sc_met_load ?a ?b
  case a => decide
  intro cdv A outer s H E B hr
  have L := xl_def (P := P) (w := w) (K := K) (mg := mg) (base := base) (N := ["store", "room", "best", "seconds", "fitting", "front", "beside", "back"]) (qual := "met_load") (scope := defScope s_met_load) (f := f) (cdv := cdv) (A := A) (outer := outer) (s := s) (H := H) (E := E) (c := cfn [] [] B H (fun _ => False) (fun x H' => ∀ C, clR K RN x.cls = some C → E (.ref C) none H') fun _ => none) (cl := clR K RN) rfl (fun x C H' h1 h2 => h2 C h1)
  exact (dss_cons (ds_set (i := 2) sc_met_load.nd (xC L.two hcl C_met_worth hr (da_cons (de_var 0) (da_cons (de_var 1) da_nil))))
      (dss_cons ds_never'
      (dss_cons ds_never'
      (dss_cons ds_never'
      (dss_cons ds_never'
      (dss_cons ds_never'
      (dss_one ds_never')))))))
theorem sc_stair_for : FnScope ["store", "room", "worth", "both", "steps", "i", "j"] ["store", "room", "worth"] (defScope s_stair_for) := ⟨rfl, rfl, rfl, by decide +kernel, rfl, by decide +kernel, by decide +kernel⟩
abbrev Q28 (P : Program) (w : World) (K : Fr0) (mg : Str → Option Value) (base : Heap) : Prop := CalleeX P w K mg base 6 "stair_for" ["store", "room", "worth"] (spX K (clR K RN) F_stair_for)
theorem q28 {f : Addr} {fd : FuncData} (F : Fun K "stair_for" "stair_for" s_stair_for f fd) (m : mg "stair_for" = some (.ref f)) (T : Txt K mg) (XTt : XT K mg RN TN) (hB : K.In base) (C_need_store : Q5 P w K mg base) : Q28 P w K mg base := by
  have hcl : ∀ n, RN.contains n = true → (clR K RN n).isSome = true := fun n hn => Option.isSome_iff_exists.mpr (XTt.has hn)
  have rn0 : RN.contains "NoStore" = true := by decide
  obtain ⟨S, mS, xS⟩ := XTt.xcls hB
  refine ⟨f, fd, ?_, m, F.kp, F.binds fun _ _ _ _ _ _ us hl => match us, hl with | [_, _, _], _ => rfl⟩
  show FnOk P w K mg base (CX1 P w) 6 f fd ["store", "room", "worth"] (spX K (clR K RN) (dfnX (["store", "room", "worth", "both", "steps", "i", "j"] : List Str).length (["store", "room", "worth"] : List Str).length d_stair_for))
  refine fn_exc (N := ["store", "room", "worth", "both", "steps", "i", "j"]) (ps := ["store", "room", "worth"]) (k := 5) (O := [4]) (body := d_stair_for) (cl := clR K RN) F sc_stair_for ?a ?b
  case a => decide
  intro cdv A outer s H E B hr
  have L := xl_def (P := P) (w := w) (K := K) (mg := mg) (base := base) (N := ["store", "room", "worth", "both", "steps", "i", "j"]) (qual := "stair_for") (scope := defScope s_stair_for) (f := f) (cdv := cdv) (A := A) (outer := outer) (s := s) (H := H) (E := E) (c := cfn [4] [] B H (fun _ => False) (fun x H' => ∀ C, clR K RN x.cls = some C → E (.ref C) none H') fun _ => none) (cl := clR K RN) rfl (fun x C H' h1 h2 => h2 C h1)
  exact (dss_cons (ds_expr (xC L.two hcl C_need_store hr (da_cons (de_var 0) da_nil)))
      (dss_cons ds_never'
      (dss_cons ds_never'
      (dss_cons ds_never'
      (dss_cons ds_never'
      (dss_cons ds_never'
      (dss_cons ds_never'
      (dss_cons ds_never'
      (dss_one ds_never')))))))))
theorem sc_is_stair : FnScope ["thing", "store", "room", "worth", "stair"] ["thing", "store", "room", "worth"] (defScope s_is_stair) := ⟨rfl, rfl, rfl, by decide +kernel, rfl, by decide +kernel, by decide +kernel⟩
abbrev Q29 (P : Program) (w : World) (K : Fr0) (mg : Str → Option Value) (base : Heap) : Prop := CalleeX P w K mg base 7 "is_stair" ["thing", "store", "room", "worth"] (spX K (clR K RN) F_is_stair)
theorem q29 {f : Addr} {fd : FuncData} (F : Fun K "is_stair" "is_stair" s_is_stair f fd) (m : mg "is_stair" = some (.ref f)) (T : Txt K mg) (XTt : XT K mg RN TN) (hB : K.In base) (C_stair_for : Q28 P w K mg base) : Q29 P w K mg base := by
  have hcl : ∀ n, RN.contains n = true → (clR K RN n).isSome = true := fun n hn => Option.isSome_iff_exists.mpr (XTt.has hn)
  have rn0 : RN.contains "NoStore" = true := by decide
  obtain ⟨S, mS, xS⟩ := XTt.xcls hB
  refine ⟨f, fd, ?_, m, F.kp, F.binds fun _ _ _ _ _ _ us hl => match us, hl with | [_, _, _, _], _ => rfl⟩
  show FnOk P w K mg base (CX1 P w) 7 f fd ["thing", "store", "room", "worth"] (spX K (clR K RN) (dfnX (["thing", "store", "room", "worth", "stair"] : List Str).length (["thing", "store", "room", "worth"] : List Str).length d_is_stair))
  refine fn_exc (N := ["thing", "store", "room", "worth", "stair"]) (ps := ["thing", "store", "room", "worth"]) (k := 6) (O := []) (body := d_is_stair) (cl := clR K RN) F sc_is_stair ?a ?b
  case a => decide
  intro cdv A outer s H E B hr
  have L := xl_def (P := P) (w := w) (K := K) (mg := mg) (base := base) (N := ["thing", "store", "room", "worth", "stair"]) (qual := "is_stair") (scope := defScope s_is_stair) (f := f) (cdv := cdv) (A := A) (outer := outer) (s := s) (H := H) (E := E) (c := cfn [] [] B H (fun _ => False) (fun x H' => ∀ C, clR K RN x.cls = some C → E (.ref C) none H') fun _ => none) (cl := clR K RN) rfl (fun x C H' h1 h2 => h2 C h1)
  exact (dss_cons (ds_set (i := 4) sc_is_stair.nd (xC L.two hcl C_stair_for hr (da_cons (de_var 1) (da_cons (de_var 2) (da_cons (de_var 3) da_nil)))))
      (dss_cons ds_never'
      (dss_one ds_never')))
theorem sc_best_shares : FnScope ["store", "room", "shares", "left", "place"] ["store", "room"] (defScope s_best_shares) := ⟨rfl, rfl, rfl, by decide +kernel, rfl, by decide +kernel, by decide +kernel⟩
abbrev Q30 (P : Program) (w : World) (K : Fr0) (mg : Str → Option Value) (base : Heap) : Prop := CalleeX P w K mg base 6 "best_shares" ["store", "room"] (spX K (clR K RN) F_best_shares)
theorem q30 {f : Addr} {fd : FuncData} (F : Fun K "best_shares" "best_shares" s_best_shares f fd) (m : mg "best_shares" = some (.ref f)) (T : Txt K mg) (XTt : XT K mg RN TN) (hB : K.In base) (C_need_store : Q5 P w K mg base) : Q30 P w K mg base := by
  have hcl : ∀ n, RN.contains n = true → (clR K RN n).isSome = true := fun n hn => Option.isSome_iff_exists.mpr (XTt.has hn)
  have rn0 : RN.contains "NoStore" = true := by decide
  obtain ⟨S, mS, xS⟩ := XTt.xcls hB
  refine ⟨f, fd, ?_, m, F.kp, F.binds fun _ _ _ _ _ _ us hl => match us, hl with | [_, _], _ => rfl⟩
  show FnOk P w K mg base (CX1 P w) 6 f fd ["store", "room"] (spX K (clR K RN) (dfnX (["store", "room", "shares", "left", "place"] : List Str).length (["store", "room"] : List Str).length d_best_shares))
  refine fn_exc (N := ["store", "room", "shares", "left", "place"]) (ps := ["store", "room"]) (k := 5) (O := [2]) (body := d_best_shares) (cl := clR K RN) F sc_best_shares ?a ?b
  case a => decide
  intro cdv A outer s H E B hr
  have L := xl_def (P := P) (w := w) (K := K) (mg := mg) (base := base) (N := ["store", "room", "shares", "left", "place"]) (qual := "best_shares") (scope := defScope s_best_shares) (f := f) (cdv := cdv) (A := A) (outer := outer) (s := s) (H := H) (E := E) (c := cfn [2] [] B H (fun _ => False) (fun x H' => ∀ C, clR K RN x.cls = some C → E (.ref C) none H') fun _ => none) (cl := clR K RN) rfl (fun x C H' h1 h2 => h2 C h1)
  exact (dss_cons (ds_expr (xC L.two hcl C_need_store hr (da_cons (de_var 0) da_nil)))
      (dss_cons ds_never'
      (dss_cons ds_never'
      (dss_cons ds_never'
      (dss_cons ds_never'
      (dss_one ds_never'))))))
theorem sc_share_worth : FnScope ["store", "room", "total", "kind", "share"] ["store", "room"] (defScope s_share_worth) := ⟨rfl, rfl, rfl, by decide +kernel, rfl, by decide +kernel, by decide +kernel⟩
abbrev Q31 (P : Program) (w : World) (K : Fr0) (mg : Str → Option Value) (base : Heap) : Prop := CalleeX P w K mg base 7 "share_worth" ["store", "room"] (spX K (clR K RN) F_share_worth)
theorem q31 {f : Addr} {fd : FuncData} (F : Fun K "share_worth" "share_worth" s_share_worth f fd) (m : mg "share_worth" = some (.ref f)) (T : Txt K mg) (XTt : XT K mg RN TN) (hB : K.In base) (C_best_shares : Q30 P w K mg base) : Q31 P w K mg base := by
  have hcl : ∀ n, RN.contains n = true → (clR K RN n).isSome = true := fun n hn => Option.isSome_iff_exists.mpr (XTt.has hn)
  have rn0 : RN.contains "NoStore" = true := by decide
  obtain ⟨S, mS, xS⟩ := XTt.xcls hB
  refine ⟨f, fd, ?_, m, F.kp, F.binds fun _ _ _ _ _ _ us hl => match us, hl with | [_, _], _ => rfl⟩
  show FnOk P w K mg base (CX1 P w) 7 f fd ["store", "room"] (spX K (clR K RN) (dfnX (["store", "room", "total", "kind", "share"] : List Str).length (["store", "room"] : List Str).length d_share_worth))
  refine fn_exc (N := ["store", "room", "total", "kind", "share"]) (ps := ["store", "room"]) (k := 6) (O := []) (body := d_share_worth) (cl := clR K RN) F sc_share_worth ?a ?b
  case a => decide
  intro cdv A outer s H E B hr
  have L := xl_def (P := P) (w := w) (K := K) (mg := mg) (base := base) (N := ["store", "room", "total", "kind", "share"]) (qual := "share_worth") (scope := defScope s_share_worth) (f := f) (cdv := cdv) (A := A) (outer := outer) (s := s) (H := H) (E := E) (c := cfn [] [] B H (fun _ => False) (fun x H' => ∀ C, clR K RN x.cls = some C → E (.ref C) none H') fun _ => none) (cl := clR K RN) rfl (fun x C H' h1 h2 => h2 C h1)
  exact (dss_cons (ds_set (i := 2) sc_share_worth.nd (gT (ns := [0, 1]) T.c_NOTHING))
      (dss_cons (ds_forE (di_zip rfl T.b_zip (da_cons (de_var 0) (da_cons (xC L.two hcl C_best_shares hr (da_cons (de_var 0) (da_cons (de_var 1) da_nil))) da_nil))))
      (dss_one ds_never')))
theorem sc_bound : FnScope ["store", "room", "price"] ["store", "room", "price"] (defScope s_bound) := ⟨rfl, rfl, rfl, by decide +kernel, rfl, by decide +kernel, by decide +kernel⟩
abbrev Q32 (P : Program) (w : World) (K : Fr0) (mg : Str → Option Value) (base : Heap) : Prop := CalleeX P w K mg base 6 "bound" ["store", "room", "price"] (spX K (clR K RN) F_bound)
theorem q32 {f : Addr} {fd : FuncData} (F : Fun K "bound" "bound" s_bound f fd) (m : mg "bound" = some (.ref f)) (T : Txt K mg) (XTt : XT K mg RN TN) (hB : K.In base) (C_need_store : Q5 P w K mg base) : Q32 P w K mg base := by
  have hcl : ∀ n, RN.contains n = true → (clR K RN n).isSome = true := fun n hn => Option.isSome_iff_exists.mpr (XTt.has hn)
  have rn0 : RN.contains "NoStore" = true := by decide
  obtain ⟨S, mS, xS⟩ := XTt.xcls hB
  refine ⟨f, fd, ?_, m, F.kp, F.binds fun _ _ _ _ _ _ us hl => match us, hl with | [_, _, _], _ => rfl⟩
  show FnOk P w K mg base (CX1 P w) 6 f fd ["store", "room", "price"] (spX K (clR K RN) (dfnX (["store", "room", "price"] : List Str).length (["store", "room", "price"] : List Str).length d_bound))
  refine fn_exc (N := ["store", "room", "price"]) (ps := ["store", "room", "price"]) (k := 5) (O := []) (body := d_bound) (cl := clR K RN) F sc_bound ?a ?b
  case a => decide
  intro cdv A outer s H E B hr
  have L := xl_def (P := P) (w := w) (K := K) (mg := mg) (base := base) (N := ["store", "room", "price"]) (qual := "bound") (scope := defScope s_bound) (f := f) (cdv := cdv) (A := A) (outer := outer) (s := s) (H := H) (E := E) (c := cfn [] [] B H (fun _ => False) (fun x H' => ∀ C, clR K RN x.cls = some C → E (.ref C) none H') fun _ => none) (cl := clR K RN) rfl (fun x C H' h1 h2 => h2 C h1)
  exact (dss_cons (ds_expr (xC L.two hcl C_need_store hr (da_cons (de_var 0) da_nil)))
      (dss_cons ds_never'
      (dss_cons ds_never'
      (dss_one ds_never'))))
theorem sc_some_price : FnScope ["store", "room", "left", "place"] ["store", "room"] (defScope s_some_price) := ⟨rfl, rfl, rfl, by decide +kernel, rfl, by decide +kernel, by decide +kernel⟩
abbrev Q33 (P : Program) (w : World) (K : Fr0) (mg : Str → Option Value) (base : Heap) : Prop := CalleeX P w K mg base 6 "some_price" ["store", "room"] (spX K (clR K RN) F_some_price)
theorem q33 {f : Addr} {fd : FuncData} (F : Fun K "some_price" "some_price" s_some_price f fd) (m : mg "some_price" = some (.ref f)) (T : Txt K mg) (XTt : XT K mg RN TN) (hB : K.In base) (C_need_store : Q5 P w K mg base) : Q33 P w K mg base := by
  have hcl : ∀ n, RN.contains n = true → (clR K RN n).isSome = true := fun n hn => Option.isSome_iff_exists.mpr (XTt.has hn)
  have rn0 : RN.contains "NoStore" = true := by decide
  obtain ⟨S, mS, xS⟩ := XTt.xcls hB
  refine ⟨f, fd, ?_, m, F.kp, F.binds fun _ _ _ _ _ _ us hl => match us, hl with | [_, _], _ => rfl⟩
  show FnOk P w K mg base (CX1 P w) 6 f fd ["store", "room"] (spX K (clR K RN) (dfnX (["store", "room", "left", "place"] : List Str).length (["store", "room"] : List Str).length d_some_price))
  refine fn_exc (N := ["store", "room", "left", "place"]) (ps := ["store", "room"]) (k := 5) (O := []) (body := d_some_price) (cl := clR K RN) F sc_some_price ?a ?b
  case a => decide
  intro cdv A outer s H E B hr
  have L := xl_def (P := P) (w := w) (K := K) (mg := mg) (base := base) (N := ["store", "room", "left", "place"]) (qual := "some_price") (scope := defScope s_some_price) (f := f) (cdv := cdv) (A := A) (outer := outer) (s := s) (H := H) (E := E) (c := cfn [] [] B H (fun _ => False) (fun x H' => ∀ C, clR K RN x.cls = some C → E (.ref C) none H') fun _ => none) (cl := clR K RN) rfl (fun x C H' h1 h2 => h2 C h1)
  exact (dss_cons (ds_expr (xC L.two hcl C_need_store hr (da_cons (de_var 0) da_nil)))
      (dss_cons ds_never'
      (dss_cons ds_never'
      (dss_cons ds_never'
      (dss_one ds_never')))))
theorem sc__law_third : FnScope ["kind", "store"] ["kind", "store"] (defScope s__law_third) := ⟨rfl, rfl, rfl, by decide +kernel, rfl, by decide +kernel, by decide +kernel⟩
abbrev Q34 (P : Program) (w : World) (K : Fr0) (mg : Str → Option Value) (base : Heap) : Prop := CalleeX P w K mg base 8 "_law_third" ["kind", "store"] (spX K (clR K RN) F__law_third)
theorem q34 {f : Addr} {fd : FuncData} (F : Fun K "_law_third" "_law_third" s__law_third f fd) (m : mg "_law_third" = some (.ref f)) (T : Txt K mg) (XTt : XT K mg RN TN) (hB : K.In base) (C_met_worth : Q26 P w K mg base) (C_met_load : Q27 P w K mg base) (C_is_stair : Q29 P w K mg base) (C_stair_for : Q28 P w K mg base) (C_best_shares : Q30 P w K mg base) (C_share_worth : Q31 P w K mg base) (C_bound : Q32 P w K mg base) (C_some_price : Q33 P w K mg base) : Q34 P w K mg base := by
  have hcl : ∀ n, RN.contains n = true → (clR K RN n).isSome = true := fun n hn => Option.isSome_iff_exists.mpr (XTt.has hn)
  have rn0 : RN.contains "NoStore" = true := by decide
  obtain ⟨S, mS, xS⟩ := XTt.xcls hB
  refine ⟨f, fd, ?_, m, F.kp, F.binds fun _ _ _ _ _ _ us hl => match us, hl with | [_, _], _ => rfl⟩
  show FnOk P w K mg base (CX1 P w) 8 f fd ["kind", "store"] (spX K (clR K RN) (dfnX (["kind", "store"] : List Str).length (["kind", "store"] : List Str).length d__law_third))
  refine fn_exc (N := ["kind", "store"]) (ps := ["kind", "store"]) (k := 7) (O := []) (body := d__law_third) (cl := clR K RN) F sc__law_third ?a ?b
  case a => decide
  intro cdv A outer s H E B hr
  have L := xl_def (P := P) (w := w) (K := K) (mg := mg) (base := base) (N := ["kind", "store"]) (qual := "_law_third") (scope := defScope s__law_third) (f := f) (cdv := cdv) (A := A) (outer := outer) (s := s) (H := H) (E := E) (c := cfn [] [] B H (fun _ => False) (fun x H' => ∀ C, clR K RN x.cls = some C → E (.ref C) none H') fun _ => none) (cl := clR K RN) rfl (fun x C H' h1 h2 => h2 C h1)
  exact (dss_one (ds_if (dt_cmp (op_eqB hr) ops_eqB (de_var 0) de_int (nomark _)) (dss_one (ds_expr (xC L.two hcl C_met_worth hr (da_cons (de_var 1) (da_cons de_non da_nil))))) (dss_one (ds_if (dt_cmp (op_eqB hr) ops_eqB (de_var 0) de_int (nomark _)) (dss_one (ds_expr (xC L.two hcl C_met_load hr (da_cons (de_var 1) (da_cons de_non da_nil))))) (dss_one (ds_if (dt_cmp (op_eqB hr) ops_eqB (de_var 0) de_int (nomark _)) (dss_one (ds_expr (xC L.two hcl C_is_stair hr (da_cons de_non (da_cons (de_var 1) (da_cons de_non (da_cons de_non da_nil))))))) (dss_one (ds_if (dt_cmp (op_eqB hr) ops_eqB (de_var 0) de_int (nomark _)) (dss_one (ds_expr (xC L.two hcl C_stair_for hr (da_cons (de_var 1) (da_cons de_non (da_cons de_non da_nil)))))) (dss_one (ds_if (dt_cmp (op_eqB hr) ops_eqB (de_var 0) de_int (nomark _)) (dss_one (ds_expr (xC L.two hcl C_best_shares hr (da_cons (de_var 1) (da_cons de_non da_nil))))) (dss_one (ds_if (dt_cmp (op_eqB hr) ops_eqB (de_var 0) de_int (nomark _)) (dss_one (ds_expr (xC L.two hcl C_share_worth hr (da_cons (de_var 1) (da_cons de_non da_nil))))) (dss_one (ds_if (dt_cmp (op_eqB hr) ops_eqB (de_var 0) de_int (nomark _)) (dss_one (ds_expr (xC L.two hcl C_bound hr (da_cons (de_var 1) (da_cons de_non (da_cons de_non da_nil)))))) (dss_one (ds_expr (xC L.two hcl C_some_price hr (da_cons (de_var 1) (da_cons de_non da_nil)))))))))))))))))))
theorem sc_whole_bound : FnScope ["store", "room", "total"] ["store", "room"] (defScope s_whole_bound) := ⟨rfl, rfl, rfl, by decide +kernel, rfl, by decide +kernel, by decide +kernel⟩
abbrev Q35 (P : Program) (w : World) (K : Fr0) (mg : Str → Option Value) (base : Heap) : Prop := CalleeX P w K mg base 8 "whole_bound" ["store", "room"] (spX K (clR K RN) F_whole_bound)
theorem q35 {f : Addr} {fd : FuncData} (F : Fun K "whole_bound" "whole_bound" s_whole_bound f fd) (m : mg "whole_bound" = some (.ref f)) (T : Txt K mg) (XTt : XT K mg RN TN) (hB : K.In base) (C_share_worth : Q31 P w K mg base) : Q35 P w K mg base := by
  have hcl : ∀ n, RN.contains n = true → (clR K RN n).isSome = true := fun n hn => Option.isSome_iff_exists.mpr (XTt.has hn)
  have rn0 : RN.contains "NoStore" = true := by decide
  obtain ⟨S, mS, xS⟩ := XTt.xcls hB
  refine ⟨f, fd, ?_, m, F.kp, F.binds fun _ _ _ _ _ _ us hl => match us, hl with | [_, _], _ => rfl⟩
  show FnOk P w K mg base (CX1 P w) 8 f fd ["store", "room"] (spX K (clR K RN) (dfnX (["store", "room", "total"] : List Str).length (["store", "room"] : List Str).length d_whole_bound))
  refine fn_exc (N := ["store", "room", "total"]) (ps := ["store", "room"]) (k := 7) (O := []) (body := d_whole_bound) (cl := clR K RN) F sc_whole_bound ?a ?b
  case a => decide
  intro cdv A outer s H E B hr
  have L := xl_def (P := P) (w := w) (K := K) (mg := mg) (base := base) (N := ["store", "room", "total"]) (qual := "whole_bound") (scope := defScope s_whole_bound) (f := f) (cdv := cdv) (A := A) (outer := outer) (s := s) (H := H) (E := E) (c := cfn [] [] B H (fun _ => False) (fun x H' => ∀ C, clR K RN x.cls = some C → E (.ref C) none H') fun _ => none) (cl := clR K RN) rfl (fun x C H' h1 h2 => h2 C h1)
  exact (dss_cons (ds_set (i := 2) sc_whole_bound.nd (xC L.two hcl C_share_worth hr (da_cons (de_var 0) (da_cons (de_var 1) da_nil))))
      (dss_one ds_never'))
theorem sc_cut_load : FnScope ["store", "room"] ["store", "room"] (defScope s_cut_load) := ⟨rfl, rfl, rfl, by decide +kernel, rfl, by decide +kernel, by decide +kernel⟩
abbrev Q36 (P : Program) (w : World) (K : Fr0) (mg : Str → Option Value) (base : Heap) : Prop := CalleeX P w K mg base 7 "cut_load" ["store", "room"] (spX K (clR K RN) F_cut_load)
theorem q36 {f : Addr} {fd : FuncData} (F : Fun K "cut_load" "cut_load" s_cut_load f fd) (m : mg "cut_load" = some (.ref f)) (T : Txt K mg) (XTt : XT K mg RN TN) (hB : K.In base) (C_best_shares : Q30 P w K mg base) : Q36 P w K mg base := by
  have hcl : ∀ n, RN.contains n = true → (clR K RN n).isSome = true := fun n hn => Option.isSome_iff_exists.mpr (XTt.has hn)
  have rn0 : RN.contains "NoStore" = true := by decide
  obtain ⟨S, mS, xS⟩ := XTt.xcls hB
  refine ⟨f, fd, ?_, m, F.kp, F.binds fun _ _ _ _ _ _ us hl => match us, hl with | [_, _], _ => rfl⟩
  show FnOk P w K mg base (CX1 P w) 7 f fd ["store", "room"] (spX K (clR K RN) (dfnX (["store", "room"] : List Str).length (["store", "room"] : List Str).length d_cut_load))
  refine fn_exc (N := ["store", "room"]) (ps := ["store", "room"]) (k := 6) (O := []) (body := d_cut_load) (cl := clR K RN) F sc_cut_load ?a ?b
  case a => decide
  intro cdv A outer s H E B hr
  have L := xl_def (P := P) (w := w) (K := K) (mg := mg) (base := base) (N := ["store", "room"]) (qual := "cut_load") (scope := defScope s_cut_load) (f := f) (cdv := cdv) (A := A) (outer := outer) (s := s) (H := H) (E := E) (c := cfn [] [] B H (fun _ => False) (fun x H' => ∀ C, clR K RN x.cls = some C → E (.ref C) none H') fun _ => none) (cl := clR K RN) rfl (fun x C H' h1 h2 => h2 C h1)
  exact (dss_one (ds_ret (de_callTy call_tuple_of calls_tuple rfl T.b_tuple bo_tuple (da_cons (de_comp (fo := none) rfl (di_seq (xC L.two hcl C_best_shares hr (da_cons (de_var 0) (da_cons (de_var 1) da_nil)))) (cs ["store", "room"] ["share"] 1 [] (defScope s_cut_load)) (f0 [] []) (fun _ _ _ _ _ _ _ _ _ _ _ => ⟨(dg_name (i := 0) (nd ["share"])), df_nil, (de_bin op_fdiv ops_fdiv (de_ix ix_any ops_ix (de_var 0) (gI T.c_TOP)) (de_ix ix_any ops_ix (de_var 0) (gI T.c_BOTTOM)))⟩)) da_nil))))
theorem sc_table_bound : FnScope ["thing", "store", "room", "place", "kind"] ["thing", "store", "room"] (defScope s_table_bound) := ⟨rfl, rfl, rfl, by decide +kernel, rfl, by decide +kernel, by decide +kernel⟩
abbrev Q37 (P : Program) (w : World) (K : Fr0) (mg : Str → Option Value) (base : Heap) : Prop := CalleeX P w K mg base 7 "table_bound" ["thing", "store", "room"] (spX K (clR K RN) F_table_bound)
theorem q37 {f : Addr} {fd : FuncData} (F : Fun K "table_bound" "table_bound" s_table_bound f fd) (m : mg "table_bound" = some (.ref f)) (T : Txt K mg) (XTt : XT K mg RN TN) (hB : K.In base) (C_need_asked : Q16 P w K mg base) : Q37 P w K mg base := by
  have hcl : ∀ n, RN.contains n = true → (clR K RN n).isSome = true := fun n hn => Option.isSome_iff_exists.mpr (XTt.has hn)
  have rn0 : RN.contains "NoStore" = true := by decide
  obtain ⟨S, mS, xS⟩ := XTt.xcls hB
  refine ⟨f, fd, ?_, m, F.kp, F.binds fun _ _ _ _ _ _ us hl => match us, hl with | [_, _, _], _ => rfl⟩
  show FnOk P w K mg base (CX1 P w) 7 f fd ["thing", "store", "room"] (spX K (clR K RN) (dfnX (["thing", "store", "room", "place", "kind"] : List Str).length (["thing", "store", "room"] : List Str).length d_table_bound))
  refine fn_exc (N := ["thing", "store", "room", "place", "kind"]) (ps := ["thing", "store", "room"]) (k := 6) (O := []) (body := d_table_bound) (cl := clR K RN) F sc_table_bound ?a ?b
  case a => decide
  intro cdv A outer s H E B hr
  have L := xl_def (P := P) (w := w) (K := K) (mg := mg) (base := base) (N := ["thing", "store", "room", "place", "kind"]) (qual := "table_bound") (scope := defScope s_table_bound) (f := f) (cdv := cdv) (A := A) (outer := outer) (s := s) (H := H) (E := E) (c := cfn [] [] B H (fun _ => False) (fun x H' => ∀ C, clR K RN x.cls = some C → E (.ref C) none H') fun _ => none) (cl := clR K RN) rfl (fun x C H' h1 h2 => h2 C h1)
  exact (dss_cons (ds_expr (xC L.two hcl C_need_asked hr (da_cons (de_var 1) (da_cons (de_var 2) da_nil))))
      (dss_cons ds_never'
      (dss_cons ds_never'
      (dss_one ds_never'))))
theorem sc_table_paper : FnScope ["store", "room", "rows", "kind"] ["store", "room"] (defScope s_table_paper) := ⟨rfl, rfl, rfl, by decide +kernel, rfl, by decide +kernel, by decide +kernel⟩
abbrev Q38 (P : Program) (w : World) (K : Fr0) (mg : Str → Option Value) (base : Heap) : Prop := CalleeX P w K mg base 7 "table_paper" ["store", "room"] (spX K (clR K RN) F_table_paper)
theorem q38 {f : Addr} {fd : FuncData} (F : Fun K "table_paper" "table_paper" s_table_paper f fd) (m : mg "table_paper" = some (.ref f)) (T : Txt K mg) (XTt : XT K mg RN TN) (hB : K.In base) (C_need_asked : Q16 P w K mg base) : Q38 P w K mg base := by
  have hcl : ∀ n, RN.contains n = true → (clR K RN n).isSome = true := fun n hn => Option.isSome_iff_exists.mpr (XTt.has hn)
  have rn0 : RN.contains "NoStore" = true := by decide
  obtain ⟨S, mS, xS⟩ := XTt.xcls hB
  refine ⟨f, fd, ?_, m, F.kp, F.binds fun _ _ _ _ _ _ us hl => match us, hl with | [_, _], _ => rfl⟩
  show FnOk P w K mg base (CX1 P w) 7 f fd ["store", "room"] (spX K (clR K RN) (dfnX (["store", "room", "rows", "kind"] : List Str).length (["store", "room"] : List Str).length d_table_paper))
  refine fn_exc (N := ["store", "room", "rows", "kind"]) (ps := ["store", "room"]) (k := 6) (O := [2]) (body := d_table_paper) (cl := clR K RN) F sc_table_paper ?a ?b
  case a => decide
  intro cdv A outer s H E B hr
  have L := xl_def (P := P) (w := w) (K := K) (mg := mg) (base := base) (N := ["store", "room", "rows", "kind"]) (qual := "table_paper") (scope := defScope s_table_paper) (f := f) (cdv := cdv) (A := A) (outer := outer) (s := s) (H := H) (E := E) (c := cfn [2] [] B H (fun _ => False) (fun x H' => ∀ C, clR K RN x.cls = some C → E (.ref C) none H') fun _ => none) (cl := clR K RN) rfl (fun x C H' h1 h2 => h2 C h1)
  exact (dss_cons (ds_expr (xC L.two hcl C_need_asked hr (da_cons (de_var 0) (da_cons (de_var 1) da_nil))))
      (dss_cons ds_never'
      (dss_cons ds_never'
      (dss_one ds_never'))))
theorem sc_need_cut_asked : FnScope ["store", "room", "u"] ["store", "room", "u"] (defScope s_need_cut_asked) := ⟨rfl, rfl, rfl, by decide +kernel, rfl, by decide +kernel, by decide +kernel⟩
abbrev Q39 (P : Program) (w : World) (K : Fr0) (mg : Str → Option Value) (base : Heap) : Prop := CalleeX P w K mg base 6 "need_cut_asked" ["store", "room", "u"] (spX K (clR K RN) F_need_cut_asked)
theorem q39 {f : Addr} {fd : FuncData} (F : Fun K "need_cut_asked" "need_cut_asked" s_need_cut_asked f fd) (m : mg "need_cut_asked" = some (.ref f)) (T : Txt K mg) (XTt : XT K mg RN TN) (hB : K.In base) (C_need_store : Q5 P w K mg base) : Q39 P w K mg base := by
  have hcl : ∀ n, RN.contains n = true → (clR K RN n).isSome = true := fun n hn => Option.isSome_iff_exists.mpr (XTt.has hn)
  have rn0 : RN.contains "NoStore" = true := by decide
  obtain ⟨S, mS, xS⟩ := XTt.xcls hB
  refine ⟨f, fd, ?_, m, F.kp, F.binds fun _ _ _ _ _ _ us hl => match us, hl with | [_, _, _], _ => rfl⟩
  show FnOk P w K mg base (CX1 P w) 6 f fd ["store", "room", "u"] (spX K (clR K RN) (dfnX (["store", "room", "u"] : List Str).length (["store", "room", "u"] : List Str).length d_need_cut_asked))
  refine fn_exc (N := ["store", "room", "u"]) (ps := ["store", "room", "u"]) (k := 5) (O := []) (body := d_need_cut_asked) (cl := clR K RN) F sc_need_cut_asked ?a ?b
  case a => decide
  intro cdv A outer s H E B hr
  have L := xl_def (P := P) (w := w) (K := K) (mg := mg) (base := base) (N := ["store", "room", "u"]) (qual := "need_cut_asked") (scope := defScope s_need_cut_asked) (f := f) (cdv := cdv) (A := A) (outer := outer) (s := s) (H := H) (E := E) (c := cfn [] [] B H (fun _ => False) (fun x H' => ∀ C, clR K RN x.cls = some C → E (.ref C) none H') fun _ => none) (cl := clR K RN) rfl (fun x C H' h1 h2 => h2 C h1)
  exact (dss_cons (ds_expr (xC L.two hcl C_need_store hr (da_cons (de_var 0) da_nil)))
      (dss_cons ds_never'
      (dss_cons ds_never'
      (dss_one ds_never'))))
theorem sc_is_cut : FnScope ["thing", "store", "room", "u"] ["thing", "store", "room", "u"] (defScope s_is_cut) := ⟨rfl, rfl, rfl, by decide +kernel, rfl, by decide +kernel, by decide +kernel⟩
abbrev Q40 (P : Program) (w : World) (K : Fr0) (mg : Str → Option Value) (base : Heap) : Prop := CalleeX P w K mg base 7 "is_cut" ["thing", "store", "room", "u"] (spX K (clR K RN) F_is_cut)
theorem q40 {f : Addr} {fd : FuncData} (F : Fun K "is_cut" "is_cut" s_is_cut f fd) (m : mg "is_cut" = some (.ref f)) (T : Txt K mg) (XTt : XT K mg RN TN) (hB : K.In base) (C_need_cut_asked : Q39 P w K mg base) : Q40 P w K mg base := by
  have hcl : ∀ n, RN.contains n = true → (clR K RN n).isSome = true := fun n hn => Option.isSome_iff_exists.mpr (XTt.has hn)
  have rn0 : RN.contains "NoStore" = true := by decide
  obtain ⟨S, mS, xS⟩ := XTt.xcls hB
  refine ⟨f, fd, ?_, m, F.kp, F.binds fun _ _ _ _ _ _ us hl => match us, hl with | [_, _, _, _], _ => rfl⟩
  show FnOk P w K mg base (CX1 P w) 7 f fd ["thing", "store", "room", "u"] (spX K (clR K RN) (dfnX (["thing", "store", "room", "u"] : List Str).length (["thing", "store", "room", "u"] : List Str).length d_is_cut))
  refine fn_exc (N := ["thing", "store", "room", "u"]) (ps := ["thing", "store", "room", "u"]) (k := 6) (O := []) (body := d_is_cut) (cl := clR K RN) F sc_is_cut ?a ?b
  case a => decide
  intro cdv A outer s H E B hr
  have L := xl_def (P := P) (w := w) (K := K) (mg := mg) (base := base) (N := ["thing", "store", "room", "u"]) (qual := "is_cut") (scope := defScope s_is_cut) (f := f) (cdv := cdv) (A := A) (outer := outer) (s := s) (H := H) (E := E) (c := cfn [] [] B H (fun _ => False) (fun x H' => ∀ C, clR K RN x.cls = some C → E (.ref C) none H') fun _ => none) (cl := clR K RN) rfl (fun x C H' h1 h2 => h2 C h1)
  exact (dss_cons (ds_expr (xC L.two hcl C_need_cut_asked hr (da_cons (de_var 1) (da_cons (de_var 2) (da_cons (de_var 3) da_nil)))))
      (dss_one ds_never'))
theorem sc_cut_for : FnScope ["store", "room", "u"] ["store", "room", "u"] (defScope s_cut_for) := ⟨rfl, rfl, rfl, by decide +kernel, rfl, by decide +kernel, by decide +kernel⟩
abbrev Q41 (P : Program) (w : World) (K : Fr0) (mg : Str → Option Value) (base : Heap) : Prop := CalleeX P w K mg base 7 "cut_for" ["store", "room", "u"] (spX K (clR K RN) F_cut_for)
theorem q41 {f : Addr} {fd : FuncData} (F : Fun K "cut_for" "cut_for" s_cut_for f fd) (m : mg "cut_for" = some (.ref f)) (T : Txt K mg) (XTt : XT K mg RN TN) (hB : K.In base) (C_need_cut_asked : Q39 P w K mg base) : Q41 P w K mg base := by
  have hcl : ∀ n, RN.contains n = true → (clR K RN n).isSome = true := fun n hn => Option.isSome_iff_exists.mpr (XTt.has hn)
  have rn0 : RN.contains "NoStore" = true := by decide
  obtain ⟨S, mS, xS⟩ := XTt.xcls hB
  refine ⟨f, fd, ?_, m, F.kp, F.binds fun _ _ _ _ _ _ us hl => match us, hl with | [_, _, _], _ => rfl⟩
  show FnOk P w K mg base (CX1 P w) 7 f fd ["store", "room", "u"] (spX K (clR K RN) (dfnX (["store", "room", "u"] : List Str).length (["store", "room", "u"] : List Str).length d_cut_for))
  refine fn_exc (N := ["store", "room", "u"]) (ps := ["store", "room", "u"]) (k := 6) (O := []) (body := d_cut_for) (cl := clR K RN) F sc_cut_for ?a ?b
  case a => decide
  intro cdv A outer s H E B hr
  have L := xl_def (P := P) (w := w) (K := K) (mg := mg) (base := base) (N := ["store", "room", "u"]) (qual := "cut_for") (scope := defScope s_cut_for) (f := f) (cdv := cdv) (A := A) (outer := outer) (s := s) (H := H) (E := E) (c := cfn [] [] B H (fun _ => False) (fun x H' => ∀ C, clR K RN x.cls = some C → E (.ref C) none H') fun _ => none) (cl := clR K RN) rfl (fun x C H' h1 h2 => h2 C h1)
  exact (dss_cons (ds_expr (xC L.two hcl C_need_cut_asked hr (da_cons (de_var 0) (da_cons (de_var 1) (da_cons (de_var 2) da_nil)))))
      (dss_cons ds_never'
      (dss_one ds_never')))
theorem sc__law_last : FnScope ["kind", "store"] ["kind", "store"] (defScope s__law_last) := ⟨rfl, rfl, rfl, by decide +kernel, rfl, by decide +kernel, by decide +kernel⟩
abbrev Q42 (P : Program) (w : World) (K : Fr0) (mg : Str → Option Value) (base : Heap) : Prop := CalleeX P w K mg base 9 "_law_last" ["kind", "store"] (spX K (clR K RN) F__law_last)
theorem q42 {f : Addr} {fd : FuncData} (F : Fun K "_law_last" "_law_last" s__law_last f fd) (m : mg "_law_last" = some (.ref f)) (T : Txt K mg) (XTt : XT K mg RN TN) (hB : K.In base) (C_whole_bound : Q35 P w K mg base) (C_cut_load : Q36 P w K mg base) (C_table_bound : Q37 P w K mg base) (C_table_paper : Q38 P w K mg base) (C_is_cut : Q40 P w K mg base) (C_cut_for : Q41 P w K mg base) : Q42 P w K mg base := by
  have hcl : ∀ n, RN.contains n = true → (clR K RN n).isSome = true := fun n hn => Option.isSome_iff_exists.mpr (XTt.has hn)
  have rn0 : RN.contains "NoStore" = true := by decide
  obtain ⟨S, mS, xS⟩ := XTt.xcls hB
  refine ⟨f, fd, ?_, m, F.kp, F.binds fun _ _ _ _ _ _ us hl => match us, hl with | [_, _], _ => rfl⟩
  show FnOk P w K mg base (CX1 P w) 9 f fd ["kind", "store"] (spX K (clR K RN) (dfnX (["kind", "store"] : List Str).length (["kind", "store"] : List Str).length d__law_last))
  refine fn_exc (N := ["kind", "store"]) (ps := ["kind", "store"]) (k := 8) (O := []) (body := d__law_last) (cl := clR K RN) F sc__law_last ?a ?b
  case a => decide
  intro cdv A outer s H E B hr
  have L := xl_def (P := P) (w := w) (K := K) (mg := mg) (base := base) (N := ["kind", "store"]) (qual := "_law_last") (scope := defScope s__law_last) (f := f) (cdv := cdv) (A := A) (outer := outer) (s := s) (H := H) (E := E) (c := cfn [] [] B H (fun _ => False) (fun x H' => ∀ C, clR K RN x.cls = some C → E (.ref C) none H') fun _ => none) (cl := clR K RN) rfl (fun x C H' h1 h2 => h2 C h1)
  exact (dss_one (ds_if (dt_cmp (op_eqB hr) ops_eqB (de_var 0) de_int (nomark _)) (dss_one (ds_expr (xC L.two hcl C_whole_bound hr (da_cons (de_var 1) (da_cons de_non da_nil))))) (dss_one (ds_if (dt_cmp (op_eqB hr) ops_eqB (de_var 0) de_int (nomark _)) (dss_one (ds_expr (xC L.two hcl C_cut_load hr (da_cons (de_var 1) (da_cons de_non da_nil))))) (dss_one (ds_if (dt_cmp (op_eqB hr) ops_eqB (de_var 0) de_int (nomark _)) (dss_one (ds_expr (xC L.two hcl C_table_bound hr (da_cons de_non (da_cons (de_var 1) (da_cons de_non da_nil)))))) (dss_one (ds_if (dt_cmp (op_eqB hr) ops_eqB (de_var 0) de_int (nomark _)) (dss_one (ds_expr (xC L.two hcl C_table_paper hr (da_cons (de_var 1) (da_cons de_non da_nil))))) (dss_one (ds_if (dt_cmp (op_eqB hr) ops_eqB (de_var 0) de_int (nomark _)) (dss_one (ds_expr (xC L.two hcl C_is_cut hr (da_cons de_non (da_cons (de_var 1) (da_cons de_non (da_cons de_non da_nil))))))) (dss_one (ds_expr (xC L.two hcl C_cut_for hr (da_cons (de_var 1) (da_cons de_non (da_cons de_non da_nil))))))))))))))))
theorem sc__law_said : FnScope ["part", "kind", "store", "e"] ["part", "kind", "store"] (defScope s__law_said) := ⟨rfl, rfl, rfl, by decide +kernel, rfl, by decide +kernel, by decide +kernel⟩
abbrev Q43 (P : Program) (w : World) (K : Fr0) (mg : Str → Option Value) (base : Heap) : Prop := Callee P w K mg base 10 "_law_said" ["part", "kind", "store"] (spD K F__law_said)
theorem q43 {f : Addr} {fd : FuncData} (F : Fun K "_law_said" "_law_said" s__law_said f fd) (m : mg "_law_said" = some (.ref f)) (T : Txt K mg) (XTt : XT K mg RN TN) (hB : K.In base) (C__law_marks : Q0 P w K mg base) (C__law_first : Q15 P w K mg base) (C__law_second : Q25 P w K mg base) (C__law_third : Q34 P w K mg base) (C__law_last : Q42 P w K mg base) : Q43 P w K mg base := by
  obtain ⟨f__law_marks, fd__law_marks, G__law_marks, m__law_marks, k__law_marks, b__law_marks⟩ := C__law_marks.ex
  have hcl : ∀ n, RN.contains n = true → (clR K RN n).isSome = true := fun n hn => Option.isSome_iff_exists.mpr (XTt.has hn)
  have rn0 : RN.contains "NoStore" = true := by decide
  obtain ⟨S, mS, xS⟩ := XTt.xcls hB
  refine ⟨f, fd, ?_, m, F.kp, F.binds fun _ _ _ _ _ _ us hl => match us, hl with | [_, _, _], _ => rfl⟩
  show FnOk P w K mg base CX0 10 f fd ["part", "kind", "store"] (spD K (dfn (["part", "kind", "store", "e"] : List Str).length (["part", "kind", "store"] : List Str).length d__law_said))
  refine fn_pure (N := ["part", "kind", "store", "e"]) (ps := ["part", "kind", "store"]) (k := 9) (O := []) (body := d__law_said) F sc__law_said ?a ?b
  case a => decide
  intro cdv A outer s H E B hr
  exact (dss_cons (ds_try (i := 3) sc__law_said.nd rfl rfl xS rfl mS G__law_marks (hr.mono (by decide)) rfl m__law_marks k__law_marks b__law_marks (fun xe pn E2 cE L => (dss_one (ds_if (dt_cmp (op_eqB hr) ops_eqB (de_var 0) de_int (nomark _)) (dss_one (ds_expr (xC L hcl C__law_first hr (da_cons (de_var 1) (da_cons (de_var 2) da_nil))))) (dss_one (ds_if (dt_cmp (op_eqB hr) ops_eqB (de_var 0) de_int (nomark _)) (dss_one (ds_expr (xC L hcl C__law_second hr (da_cons (de_var 1) (da_cons (de_var 2) da_nil))))) (dss_one (ds_if (dt_cmp (op_eqB hr) ops_eqB (de_var 0) de_int (nomark _)) (dss_one (ds_expr (xC L hcl C__law_third hr (da_cons (de_var 1) (da_cons (de_var 2) da_nil))))) (dss_one (ds_expr (xC L hcl C__law_last hr (da_cons (de_var 1) (da_cons (de_var 2) da_nil)))))))))))))
      (dss_one (ds_ret de_str)))
theorem sc__law_take : FnScope ["box", "many", "left", "digit"] ["box", "many"] (defScope s__law_take) := ⟨rfl, rfl, rfl, by decide +kernel, rfl, by decide +kernel, by decide +kernel⟩
abbrev Q44 (P : Program) (w : World) (K : Fr0) (mg : Str → Option Value) (base : Heap) : Prop := Callee P w K mg base 1 "_law_take" ["box", "many"] (spIO K F__law_take)
theorem q44 {f : Addr} {fd : FuncData} (F : Fun K "_law_take" "_law_take" s__law_take f fd) (m : mg "_law_take" = some (.ref f)) (T : Txt K mg) (XTt : XT K mg RN TN) (hB : K.In base) : Q44 P w K mg base := by
  refine ⟨f, fd, ?_, m, F.kp, F.binds fun _ _ _ _ _ _ us hl => match us, hl with | [_, _], _ => rfl⟩
  show FnOk P w K mg base CX0 1 f fd ["box", "many"] (spIO K (dfnIO (["box", "many", "left", "digit"] : List Str).length (["box", "many"] : List Str).length d__law_take))
  refine fn_io (N := ["box", "many", "left", "digit"]) (ps := ["box", "many"]) (k := 0) (O := [0]) (body := d__law_take) F sc__law_take ?a ?a0 ?b
  case a => decide
  case a0 => decide
  intro cdv A outer s H E B Io S hr
  exact (dss_cons (ds_asg (de_callB call_divmod calls_divmod rfl T.b_divmod bo_divmod (da_cons (de_ixO (i := 0) de_int) (da_cons (de_var 1) da_nil))) (dg_tup (n := 2) rfl (dgs_cons (dg_name (i := 2) sc__law_take.nd) (dgs_cons (dg_name (i := 3) sc__law_take.nd) dgs_nil))))
      (dss_cons (ds_setI (i := 0) (de_var 2) de_int)
      (dss_one (ds_ret (de_var 3)))))
theorem sc__law_kind_of : FnScope ["box", "ends", "way", "heavy", "dear", "often"] ["box", "ends"] (defScope s__law_kind_of) := ⟨rfl, rfl, rfl, by decide +kernel, rfl, by decide +kernel, by decide +kernel⟩
abbrev Q45 (P : Program) (w : World) (K : Fr0) (mg : Str → Option Value) (base : Heap) : Prop := Callee P w K mg base 2 "_law_kind_of" ["box", "ends"] (spIO K F__law_kind_of)
theorem q45 {f : Addr} {fd : FuncData} (F : Fun K "_law_kind_of" "_law_kind_of" s__law_kind_of f fd) (m : mg "_law_kind_of" = some (.ref f)) (T : Txt K mg) (XTt : XT K mg RN TN) (hB : K.In base) (C__law_take : Q44 P w K mg base) : Q45 P w K mg base := by
  refine ⟨f, fd, ?_, m, F.kp, F.binds fun _ _ _ _ _ _ us hl => match us, hl with | [_, _], _ => rfl⟩
  show FnOk P w K mg base CX0 2 f fd ["box", "ends"] (spIO K (dfnIO (["box", "ends", "way", "heavy", "dear", "often"] : List Str).length (["box", "ends"] : List Str).length d__law_kind_of))
  refine fn_io (N := ["box", "ends", "way", "heavy", "dear", "often"]) (ps := ["box", "ends"]) (k := 1) (O := [0]) (body := d__law_kind_of) F sc__law_kind_of ?a ?a0 ?b
  case a => decide
  case a0 => decide
  intro cdv A outer s H E B Io S hr
  exact (dss_cons (ds_set (i := 2) sc__law_kind_of.nd (iC (i := 0) C__law_take hr (da_cons de_int da_nil)))
      (dss_cons (ds_par (i := 3) (j := 4) sc__law_kind_of.nd (da_cons (de_bin op_addA ops_add de_int (iC (i := 0) C__law_take hr (da_cons de_int da_nil))) (da_cons (iC (i := 0) C__law_take hr (da_cons de_int da_nil)) da_nil)) rfl)
      (dss_cons (ds_if (dt_cmp (op_eqB hr) ops_eqB (de_var 2) de_int (nomark _)) (dss_one (ds_set (i := 4) sc__law_kind_of.nd (de_bin op_mulA ops_mulA de_int (de_var 3)))) dss_nil')
      (dss_cons (ds_if (dt_cmp (op_eqB hr) ops_eqB (de_var 2) de_int (nomark _)) (dss_one (ds_set (i := 4) sc__law_kind_of.nd (de_bin op_addA ops_add (de_var 3) (iC (i := 0) C__law_take hr (da_cons de_int da_nil))))) dss_nil')
      (dss_cons (ds_if (dt_cmp (op_eqB hr) ops_eqB (de_var 2) de_int (nomark _)) (dss_one (ds_par (i := 3) (j := 4) sc__law_kind_of.nd (da_cons (de_bin op_addA ops_add de_int (iC (i := 0) C__law_take hr (da_cons de_int da_nil))) (da_cons (iC (i := 0) C__law_take hr (da_cons de_int da_nil)) da_nil)) rfl)) dss_nil')
      (dss_cons (ds_set (i := 5) sc__law_kind_of.nd (de_ix ix_any ops_ix (de_lst (da_cons de_int (da_cons de_int (da_cons de_int (da_cons de_int (da_cons de_int (da_cons de_int (da_cons de_int (da_cons (de_var 1) da_nil))))))))) (iC (i := 0) C__law_take hr (da_cons de_int da_nil))))
      (dss_one (ds_ret (de_tup (da_cons (de_var 3) (da_cons (de_var 4) (da_cons (de_var 5) da_nil))))))))))))
theorem sc__law_stocked : FnScope ["box", "most", "ends", "found", "k", "kind"] ["box", "most", "ends"] (defScope s__law_stocked) := ⟨rfl, rfl, rfl, by decide +kernel, rfl, by decide +kernel, by decide +kernel⟩
abbrev Q46 (P : Program) (w : World) (K : Fr0) (mg : Str → Option Value) (base : Heap) : Prop := Callee P w K mg base 3 "_law_stocked" ["box", "most", "ends"] (spIO K F__law_stocked)
theorem q46 {f : Addr} {fd : FuncData} (F : Fun K "_law_stocked" "_law_stocked" s__law_stocked f fd) (m : mg "_law_stocked" = some (.ref f)) (T : Txt K mg) (XTt : XT K mg RN TN) (hB : K.In base) (C__law_take : Q44 P w K mg base) (C__law_kind_of : Q45 P w K mg base) : Q46 P w K mg base := by
  refine ⟨f, fd, ?_, m, F.kp, F.binds fun _ _ _ _ _ _ us hl => match us, hl with | [_, _, _], _ => rfl⟩
  show FnOk P w K mg base CX0 3 f fd ["box", "most", "ends"] (spIO K (dfnIO (["box", "most", "ends", "found", "k", "kind"] : List Str).length (["box", "most", "ends"] : List Str).length d__law_stocked))
  refine fn_io (N := ["box", "most", "ends", "found", "k", "kind"]) (ps := ["box", "most", "ends"]) (k := 2) (O := [0, 3]) (body := d__law_stocked) F sc__law_stocked ?a ?a0 ?b
  case a => decide
  case a0 => decide
  intro cdv A outer s H E B Io S hr
  exact (dss_cons (ds_setN (i := 3) sc__law_stocked.nd (dn_lst da_nil))
      (dss_cons (ds_for PassesOwn.never rfl (di_range1 rfl T.b_range (da_cons (iC (i := 0) C__law_take hr (da_cons (de_bin op_addA ops_add (de_var 1) de_int) da_nil)) da_nil)) (dg_name (i := 4) sc__law_stocked.nd) (dss_cons (ds_set (i := 5) sc__law_stocked.nd (iC (i := 0) C__law_kind_of hr (da_cons (de_var 2) da_nil)))
      (dss_cons (ds_if (DW.dt (dw_and (dt_neO (i := 3) hr (de_lst da_nil)) (dw_and1 (dt_cmp (op_eqB hr) ops_eqB (iC (i := 0) C__law_take hr (da_cons de_int da_nil)) de_int (nomark _))))) (dss_one (ds_set (i := 5) sc__law_stocked.nd (de_ixO (i := 3) (iC (i := 0) C__law_take hr (da_cons (de_lenO (i := 3) rfl T.b_len) da_nil))))) dss_nil')
      (dss_one (ds_expr (de_append (i := 3) (de_var 5)))))))
      (dss_one (ds_ret (de_tupO (i := 3) rfl T.b_tuple bo_tuple)))))
theorem sc__law_mix : FnScope ["cell", "k", "some", "stir"] ["cell", "k"] (defScope s__law_mix) := ⟨rfl, rfl, rfl, by decide +kernel, rfl, by decide +kernel, by decide +kernel⟩
abbrev Q47 (P : Program) (w : World) (K : Fr0) (mg : Str → Option Value) (base : Heap) : Prop := Callee P w K mg base 1 "_law_mix" ["cell", "k"] (spD K F__law_mix)
theorem q47 {f : Addr} {fd : FuncData} (F : Fun K "_law_mix" "_law_mix" s__law_mix f fd) (m : mg "_law_mix" = some (.ref f)) (T : Txt K mg) (XTt : XT K mg RN TN) (hB : K.In base) : Q47 P w K mg base := by
  refine ⟨f, fd, ?_, m, F.kp, F.binds fun _ _ _ _ _ _ us hl => match us, hl with | [_, _], _ => rfl⟩
  show FnOk P w K mg base CX0 1 f fd ["cell", "k"] (spD K (dfn (["cell", "k", "some", "stir"] : List Str).length (["cell", "k"] : List Str).length d__law_mix))
  refine fn_pure (N := ["cell", "k", "some", "stir"]) (ps := ["cell", "k"]) (k := 0) (O := []) (body := d__law_mix) F sc__law_mix ?a ?b
  case a => decide
  intro cdv A outer s H E B hr
  exact (dss_cons (ds_set (i := 2) sc__law_mix.nd (de_lst (da_cons de_int (da_cons de_int (da_cons de_int (da_cons de_int (da_cons de_int (da_cons de_int (da_cons de_int (da_cons de_int (da_cons de_int (da_cons de_int (da_cons de_int (da_cons de_int (da_cons de_int da_nil)))))))))))))))
      (dss_cons (ds_set (i := 3) sc__law_mix.nd (de_bin op_addA ops_add (de_bin op_addA ops_add (de_bin op_mulA ops_mulA (de_bin op_addA ops_add (de_bin op_mod ops_mod (de_var 0) de_int) de_int) (de_ix ix_any ops_ix (de_var 2) (de_bin op_mod ops_mod (de_var 1) de_int))) (de_bin op_mulA ops_mulA de_int (de_var 1))) (de_bin op_mulA ops_mulA de_int (de_bin op_fdiv ops_fdiv (de_var 1) de_int))))
      (dss_cons (ds_set (i := 3) sc__law_mix.nd (de_bin op_mod ops_mod (de_var 3) de_int))
      (dss_one (ds_ret (de_bin op_fdiv ops_fdiv (de_bin op_mod ops_mod (de_bin op_addA ops_add (de_bin op_mulA ops_mulA (de_var 3) (de_var 3)) (de_bin op_mulA ops_mulA de_int (de_var 1))) de_int) de_int))))))
theorem sc__law_cell : FnScope ["script", "k"] ["script", "k"] (defScope s__law_cell) := ⟨rfl, rfl, rfl, by decide +kernel, rfl, by decide +kernel, by decide +kernel⟩
abbrev Q48 (P : Program) (w : World) (K : Fr0) (mg : Str → Option Value) (base : Heap) : Prop := Callee P w K mg base 1 "_law_cell" ["script", "k"] (spD K F__law_cell)
theorem q48 {f : Addr} {fd : FuncData} (F : Fun K "_law_cell" "_law_cell" s__law_cell f fd) (m : mg "_law_cell" = some (.ref f)) (T : Txt K mg) (XTt : XT K mg RN TN) (hB : K.In base) : Q48 P w K mg base := by
  refine ⟨f, fd, ?_, m, F.kp, F.binds fun _ _ _ _ _ _ us hl => match us, hl with | [_, _], _ => rfl⟩
  show FnOk P w K mg base CX0 1 f fd ["script", "k"] (spD K (dfn (["script", "k"] : List Str).length (["script", "k"] : List Str).length d__law_cell))
  refine fn_pure (N := ["script", "k"]) (ps := ["script", "k"]) (k := 0) (O := []) (body := d__law_cell) F sc__law_cell ?a ?b
  case a => decide
  intro cdv A outer s H E B hr
  exact (dss_cons (ds_if (dt_cmp op_lt ops_lt (de_var 1) (de_callB call_lenA calls_len rfl T.b_len bo_len (da_cons (de_var 0) da_nil)) (nomark _)) (dss_one (ds_ret (de_ix ix_any ops_ix (de_var 0) (de_var 1)))) dss_nil')
      (dss_one (ds_ret de_int)))
theorem sc__law_box : FnScope ["script", "k", "cell", "number", "j"] ["script", "k"] (defScope s__law_box) := ⟨rfl, rfl, rfl, by decide +kernel, rfl, by decide +kernel, by decide +kernel⟩
abbrev Q49 (P : Program) (w : World) (K : Fr0) (mg : Str → Option Value) (base : Heap) : Prop := Callee P w K mg base 2 "_law_box" ["script", "k"] (spD K F__law_box)
theorem q49 {f : Addr} {fd : FuncData} (F : Fun K "_law_box" "_law_box" s__law_box f fd) (m : mg "_law_box" = some (.ref f)) (T : Txt K mg) (XTt : XT K mg RN TN) (hB : K.In base) (C__law_mix : Q47 P w K mg base) (C__law_cell : Q48 P w K mg base) : Q49 P w K mg base := by
  refine ⟨f, fd, ?_, m, F.kp, F.binds fun _ _ _ _ _ _ us hl => match us, hl with | [_, _], _ => rfl⟩
  show FnOk P w K mg base CX0 2 f fd ["script", "k"] (spD K (dfn (["script", "k", "cell", "number", "j"] : List Str).length (["script", "k"] : List Str).length d__law_box))
  refine fn_pure (N := ["script", "k", "cell", "number", "j"]) (ps := ["script", "k"]) (k := 1) (O := []) (body := d__law_box) F sc__law_box ?a ?b
  case a => decide
  intro cdv A outer s H E B hr
  exact (dss_cons (ds_set (i := 2) sc__law_box.nd (dC C__law_cell hr (da_cons (de_var 0) (da_cons (de_var 1) da_nil))))
      (dss_cons (ds_if (dt_cmp (op_eqB hr) ops_eqB (de_bin op_mod ops_mod (de_var 2) de_int) de_int (nomark _)) (dss_one (ds_ret (de_lst (da_cons (de_bin op_fdiv ops_fdiv (de_callB call_abs calls_abs rfl T.b_abs bo_abs (da_cons (de_var 2) da_nil)) de_int) da_nil)))) dss_nil')
      (dss_cons (ds_set (i := 3) sc__law_box.nd de_int)
      (dss_cons (ds_for PassesOwn.never rfl (di_range1 rfl T.b_range (da_cons de_int da_nil)) (dg_name (i := 4) sc__law_box.nd) (dss_one (ds_set (i := 3) sc__law_box.nd (de_bin op_addA ops_add (de_bin op_mulA ops_mulA (de_var 3) de_int) (dC C__law_mix hr (da_cons (de_var 2) (da_cons (de_var 4) da_nil)))))))
      (dss_one (ds_ret (de_lst (da_cons (de_var 3) da_nil))))))))
theorem sc_law : FnScope ["script", "k", "box", "store", "some", "lap", "thing", "part", "kind"] ["script"] (defScope s_law) := ⟨rfl, rfl, rfl, by decide +kernel, rfl, by decide +kernel, by decide +kernel⟩
theorem fk_law {f : Addr} {fd : FuncData} (F : Fun K "law" "law" s_law f fd) (T : Txt K mg) (XTt : XT K mg RN TN) (hB : K.In base) (C__law_said : Q43 P w K mg base) (C__law_take : Q44 P w K mg base) (C__law_stocked : Q46 P w K mg base) (C__law_box : Q49 P w K mg base) : FnOk P w K mg base CX0 11 f fd ["script"] (spD K F_law) := by
  show FnOk P w K mg base CX0 11 f fd ["script"] (spD K (dfn (["script", "k", "box", "store", "some", "lap", "thing", "part", "kind"] : List Str).length (["script"] : List Str).length d_law))
  refine fn_pure (N := ["script", "k", "box", "store", "some", "lap", "thing", "part", "kind"]) (ps := ["script"]) (k := 10) (O := [2]) (body := d_law) F sc_law ?a ?b
  case a => decide
  intro cdv A outer s H E B hr
  exact (dss_cons (ds_for PassesOwn.never rfl (di_range1 rfl T.b_range (da_cons (de_callB (call_max2 rfl) calls_max rfl T.b_max bo_max (da_cons de_int (da_cons (de_callB (call_min2 rfl) calls_min rfl T.b_min bo_min (da_cons (de_callB call_lenA calls_len rfl T.b_len bo_len (da_cons (de_var 0) da_nil)) (da_cons de_int da_nil))) da_nil))) da_nil)) (dg_name (i := 1) sc_law.nd) (dss_cons (ds_setN (i := 2) sc_law.nd (nC C__law_box hr (da_cons (de_var 0) (da_cons (de_var 1) da_nil))))
      (dss_cons (ds_set (i := 3) sc_law.nd (iC (i := 2) C__law_stocked hr (da_cons de_int (da_cons de_non da_nil))))
      (dss_cons (ds_set (i := 4) sc_law.nd (de_lst (da_cons de_non (da_cons (de_callTy call_list_of calls_list rfl T.b_list bo_list (da_cons (de_var 3) da_nil)) (da_cons (de_bin op_addA ops_add (de_var 3) (de_tup (da_cons (de_tup (da_cons de_int (da_cons de_int (da_cons de_int da_nil)))) da_nil))) (da_cons (de_bin op_addA ops_add (de_tup (da_cons (de_tup (da_cons de_int (da_cons (de_neg de_int) (da_cons de_int da_nil)))) da_nil)) (de_var 3)) (da_cons (de_bin op_addA ops_add (de_var 3) (de_tup (da_cons (de_tup (da_cons de_int (da_cons de_int (da_cons de_bl da_nil)))) da_nil))) (da_cons de_str (da_cons de_int da_nil)))))))))
      (dss_cons (ds_set (i := 4) sc_law.nd (de_bin op_addA ops_add (de_var 4) (de_lst (da_cons (de_bin op_mulA ops_mulA (de_tup (da_cons (de_tup (da_cons de_int (da_cons de_int (da_cons de_int da_nil)))) da_nil)) de_int) (da_cons de_dict0 (da_cons (de_bin op_addA ops_add (de_var 3) (de_tup (da_cons de_non da_nil))) (da_cons (de_tup (da_cons (de_tup (da_cons de_int (da_cons de_int da_nil))) da_nil)) (da_cons (de_lst (da_cons (de_lst da_nil) da_nil)) (da_cons de_bl da_nil)))))))))
      (dss_cons (ds_set (i := 4) sc_law.nd (de_bin op_addA ops_add (de_var 4) (de_lst (da_cons (de_bin op_addA ops_add (de_var 3) (de_tup (da_cons (de_tup (da_cons de_int (da_cons de_int (da_cons (de_neg de_int) da_nil)))) da_nil))) (da_cons (de_tup (da_cons (de_bin op_addA ops_add (de_var 3) (de_tup (da_cons (de_tup da_nil) da_nil))) da_nil)) da_nil)))))
      (dss_one (ds_for PassesOwn.never rfl (di_range1 rfl T.b_range (da_cons de_int da_nil)) (dg_name (i := 5) sc_law.nd) (dss_cons (ds_set (i := 6) sc_law.nd (de_ix ix_any ops_ix (de_var 4) (iC (i := 2) C__law_take hr (da_cons de_int da_nil))))
      (dss_one (ds_for PassesOwn.never rfl (di_range1 rfl T.b_range (da_cons de_int da_nil)) (dg_name (i := 7) sc_law.nd) (dss_one (ds_for PassesOwn.never rfl (di_range1 rfl T.b_range (da_cons de_int da_nil)) (dg_name (i := 8) sc_law.nd) (dss_one (ds_if (dt_cmp (op_neB hr) ops_neB (dC C__law_said hr (da_cons (de_var 7) (da_cons (de_var 8) (da_cons (de_var 6) da_nil)))) de_str (nomark _)) (dss_one (ds_ret de_bl)) dss_nil')))))))))))))))
      (dss_one (ds_ret de_bl)))
end
theorem all_mk {l : PySem.W.OpenLaw} {w : World} {K : PySem.W.Frag} {h : Heap} {mg : Str → Option Value} {fa f0 f1 f2 f3 f4 f5 f6 f7 f8 f9 f10 f11 f12 f13 f14 f15 f16 f17 f18 f19 f20 f21 f22 f23 f24 f25 f26 f27 f28 f29 f30 f31 f32 f33 f34 f35 f36 f37 f38 f39 f40 f41 f42 f43 f44 f45 f46 f47 f48 f49 f50 : Addr} (X : K.In h) (G : h.Ns mainGlobals mg) (hfa : mg "law" = some (.ref fa))
    {od0 an0 od1 an1 od2 an2 od3 an3 od4 an4 od5 an5 od6 an6 od7 an7 od8 an8 od9 an9 od10 an10 od11 an11 od12 an12 od13 an13 od14 an14 od15 an15 od16 an16 od17 an17 od18 an18 od19 an19 od20 an20 od21 an21 od22 an22 od23 an23 od24 an24 od25 an25 od26 an26 od27 an27 od28 an28 od29 an29 od30 an30 od31 an31 od32 an32 od33 an33 od34 an34 od35 an35 od36 an36 od37 an37 od38 an38 od39 an39 od40 an40 od41 an41 od42 an42 od43 an43 od44 an44 od45 an45 od46 an46 od47 an47 od48 an48 od49 an49 od50 an50 : Option Addr} {sl0 sl1 sl2 sl3 sl4 sl5 sl6 sl7 sl8 sl9 sl10 sl11 sl12 sl13 sl14 sl15 sl16 sl17 sl18 sl19 sl20 sl21 sl22 sl23 sl24 sl25 sl26 sl27 sl28 sl29 sl30 sl31 sl32 sl33 sl34 sl35 sl36 sl37 sl38 sl39 sl40 sl41 sl42 sl43 sl44 sl45 sl46 sl47 sl48 sl49 sl50 : Array (Option Value)} {oc0 kV0 dc0 pm0 cd0 ct0 oc1 kV1 dc1 pm1 cd1 ct1 oc2 kV2 dc2 pm2 cd2 ct2 oc3 kV3 dc3 pm3 cd3 ct3 oc4 kV4 dc4 pm4 cd4 ct4 oc5 kV5 dc5 pm5 cd5 ct5 oc6 kV6 dc6 pm6 cd6 ct6 oc7 kV7 dc7 pm7 cd7 ct7 oc8 kV8 dc8 pm8 cd8 ct8 oc9 kV9 dc9 pm9 cd9 ct9 oc10 kV10 dc10 pm10 cd10 ct10 oc11 kV11 dc11 pm11 cd11 ct11 oc12 kV12 dc12 pm12 cd12 ct12 oc13 kV13 dc13 pm13 cd13 ct13 oc14 kV14 dc14 pm14 cd14 ct14 oc15 kV15 dc15 pm15 cd15 ct15 oc16 kV16 dc16 pm16 cd16 ct16 oc17 kV17 dc17 pm17 cd17 ct17 oc18 kV18 dc18 pm18 cd18 ct18 oc19 kV19 dc19 pm19 cd19 ct19 oc20 kV20 dc20 pm20 cd20 ct20 oc21 kV21 dc21 pm21 cd21 ct21 oc22 kV22 dc22 pm22 cd22 ct22 oc23 kV23 dc23 pm23 cd23 ct23 oc24 kV24 dc24 pm24 cd24 ct24 oc25 kV25 dc25 pm25 cd25 ct25 oc26 kV26 dc26 pm26 cd26 ct26 oc27 kV27 dc27 pm27 cd27 ct27 oc28 kV28 dc28 pm28 cd28 ct28 oc29 kV29 dc29 pm29 cd29 ct29 oc30 kV30 dc30 pm30 cd30 ct30 oc31 kV31 dc31 pm31 cd31 ct31 oc32 kV32 dc32 pm32 cd32 ct32 oc33 kV33 dc33 pm33 cd33 ct33 oc34 kV34 dc34 pm34 cd34 ct34 oc35 kV35 dc35 pm35 cd35 ct35 oc36 kV36 dc36 pm36 cd36 ct36 oc37 kV37 dc37 pm37 cd37 ct37 oc38 kV38 dc38 pm38 cd38 ct38 oc39 kV39 dc39 pm39 cd39 ct39 oc40 kV40 dc40 pm40 cd40 ct40 oc41 kV41 dc41 pm41 cd41 ct41 oc42 kV42 dc42 pm42 cd42 ct42 oc43 kV43 dc43 pm43 cd43 ct43 oc44 kV44 dc44 pm44 cd44 ct44 oc45 kV45 dc45 pm45 cd45 ct45 oc46 kV46 dc46 pm46 cd46 ct46 oc47 kV47 dc47 pm47 cd47 ct47 oc48 kV48 dc48 pm48 cd48 ct48 oc49 kV49 dc49 pm49 cd49 ct49 oc50 kV50 dc50 pm50 cd50 ct50 : Value} {tk_BOTTOM : Tok} {tk_KINDS_AT_MOST : Tok} {tk_MOST : Tok} {qa_NOTHING : Addr} {qd_NOTHING : Option Addr} {qi_NOTHING : Array Value} {qn_NOTHING : Nat} {qs_NOTHING : Array (Option Value)} {tk_NOTHING_0 : Tok} {tk_NOTHING_1 : Tok} {tk_TOP : Tok} {tk_WEIGHT : Tok} {tk_WORTH : Tok}
    (a0 : PySem.W.nsIn K mainGlobals "_law_marks" = some (some (.ref f0))) (l0 : K.lookup f0 = some ⟨oc0, od0, .func (PySem.W.fnOf "_law_marks" "_law_marks" (defArgs s__law_marks) (defBody s__law_marks) (defScope s__law_marks) .none kV0 dc0 pm0 an0 cd0 ct0), sl0⟩) (c0 : PySem.W.codeIn K cd0 "_law_marks" = true) (k0 : PySem.W.keepIn K (.ref f0) = true)
    (a1 : PySem.W.nsIn K mainGlobals "is_whole" = some (some (.ref f1))) (l1 : K.lookup f1 = some ⟨oc1, od1, .func (PySem.W.fnOf "is_whole" "is_whole" (defArgs s_is_whole) (defBody s_is_whole) (defScope s_is_whole) .none kV1 dc1 pm1 an1 cd1 ct1), sl1⟩) (c1 : PySem.W.codeIn K cd1 "is_whole" = true) (k1 : PySem.W.keepIn K (.ref f1) = true)
    (a2 : PySem.W.nsIn K mainGlobals "is_count" = some (some (.ref f2))) (l2 : K.lookup f2 = some ⟨oc2, od2, .func (PySem.W.fnOf "is_count" "is_count" (defArgs s_is_count) (defBody s_is_count) (defScope s_is_count) .none kV2 dc2 pm2 an2 cd2 ct2), sl2⟩) (c2 : PySem.W.codeIn K cd2 "is_count" = true) (k2 : PySem.W.keepIn K (.ref f2) = true)
    (a3 : PySem.W.nsIn K mainGlobals "is_kind" = some (some (.ref f3))) (l3 : K.lookup f3 = some ⟨oc3, od3, .func (PySem.W.fnOf "is_kind" "is_kind" (defArgs s_is_kind) (defBody s_is_kind) (defScope s_is_kind) .none kV3 dc3 pm3 an3 cd3 ct3), sl3⟩) (c3 : PySem.W.codeIn K cd3 "is_kind" = true) (k3 : PySem.W.keepIn K (.ref f3) = true)
    (a4 : PySem.W.nsIn K mainGlobals "is_store" = some (some (.ref f4))) (l4 : K.lookup f4 = some ⟨oc4, od4, .func (PySem.W.fnOf "is_store" "is_store" (defArgs s_is_store) (defBody s_is_store) (defScope s_is_store) .none kV4 dc4 pm4 an4 cd4 ct4), sl4⟩) (c4 : PySem.W.codeIn K cd4 "is_store" = true) (k4 : PySem.W.keepIn K (.ref f4) = true)
    (a5 : PySem.W.nsIn K mainGlobals "need_store" = some (some (.ref f5))) (l5 : K.lookup f5 = some ⟨oc5, od5, .func (PySem.W.fnOf "need_store" "need_store" (defArgs s_need_store) (defBody s_need_store) (defScope s_need_store) .none kV5 dc5 pm5 an5 cd5 ct5), sl5⟩) (c5 : PySem.W.codeIn K cd5 "need_store" = true) (k5 : PySem.W.keepIn K (.ref f5) = true)
    (a6 : PySem.W.nsIn K mainGlobals "is_load" = some (some (.ref f6))) (l6 : K.lookup f6 = some ⟨oc6, od6, .func (PySem.W.fnOf "is_load" "is_load" (defArgs s_is_load) (defBody s_is_load) (defScope s_is_load) .none kV6 dc6 pm6 an6 cd6 ct6), sl6⟩) (c6 : PySem.W.codeIn K cd6 "is_load" = true) (k6 : PySem.W.keepIn K (.ref f6) = true)
    (a7 : PySem.W.nsIn K mainGlobals "need_load" = some (some (.ref f7))) (l7 : K.lookup f7 = some ⟨oc7, od7, .func (PySem.W.fnOf "need_load" "need_load" (defArgs s_need_load) (defBody s_need_load) (defScope s_need_load) .none kV7 dc7 pm7 an7 cd7 ct7), sl7⟩) (c7 : PySem.W.codeIn K cd7 "need_load" = true) (k7 : PySem.W.keepIn K (.ref f7) = true)
    (a8 : PySem.W.nsIn K mainGlobals "weight" = some (some (.ref f8))) (l8 : K.lookup f8 = some ⟨oc8, od8, .func (PySem.W.fnOf "weight" "weight" (defArgs s_weight) (defBody s_weight) (defScope s_weight) .none kV8 dc8 pm8 an8 cd8 ct8), sl8⟩) (c8 : PySem.W.codeIn K cd8 "weight" = true) (k8 : PySem.W.keepIn K (.ref f8) = true)
    (a9 : PySem.W.nsIn K mainGlobals "worth" = some (some (.ref f9))) (l9 : K.lookup f9 = some ⟨oc9, od9, .func (PySem.W.fnOf "worth" "worth" (defArgs s_worth) (defBody s_worth) (defScope s_worth) .none kV9 dc9 pm9 an9 cd9 ct9), sl9⟩) (c9 : PySem.W.codeIn K cd9 "worth" = true) (k9 : PySem.W.keepIn K (.ref f9) = true)
    (a10 : PySem.W.nsIn K mainGlobals "fits" = some (some (.ref f10))) (l10 : K.lookup f10 = some ⟨oc10, od10, .func (PySem.W.fnOf "fits" "fits" (defArgs s_fits) (defBody s_fits) (defScope s_fits) .none kV10 dc10 pm10 an10 cd10 ct10), sl10⟩) (c10 : PySem.W.codeIn K cd10 "fits" = true) (k10 : PySem.W.keepIn K (.ref f10) = true)
    (a11 : PySem.W.nsIn K mainGlobals "bounded" = some (some (.ref f11))) (l11 : K.lookup f11 = some ⟨oc11, od11, .func (PySem.W.fnOf "bounded" "bounded" (defArgs s_bounded) (defBody s_bounded) (defScope s_bounded) .none kV11 dc11 pm11 an11 cd11 ct11), sl11⟩) (c11 : PySem.W.codeIn K cd11 "bounded" = true) (k11 : PySem.W.keepIn K (.ref f11) = true)
    (a12 : PySem.W.nsIn K mainGlobals "leaves" = some (some (.ref f12))) (l12 : K.lookup f12 = some ⟨oc12, od12, .func (PySem.W.fnOf "leaves" "leaves" (defArgs s_leaves) (defBody s_leaves) (defScope s_leaves) .none kV12 dc12 pm12 an12 cd12 ct12), sl12⟩) (c12 : PySem.W.codeIn K cd12 "leaves" = true) (k12 : PySem.W.keepIn K (.ref f12) = true)
    (a13 : PySem.W.nsIn K mainGlobals "whole_load" = some (some (.ref f13))) (l13 : K.lookup f13 = some ⟨oc13, od13, .func (PySem.W.fnOf "whole_load" "whole_load" (defArgs s_whole_load) (defBody s_whole_load) (defScope s_whole_load) .none kV13 dc13 pm13 an13 cd13 ct13), sl13⟩) (c13 : PySem.W.codeIn K cd13 "whole_load" = true) (k13 : PySem.W.keepIn K (.ref f13) = true)
    (a14 : PySem.W.nsIn K mainGlobals "show" = some (some (.ref f14))) (l14 : K.lookup f14 = some ⟨oc14, od14, .func (PySem.W.fnOf "show" "show" (defArgs s_show) (defBody s_show) (defScope s_show) .none kV14 dc14 pm14 an14 cd14 ct14), sl14⟩) (c14 : PySem.W.codeIn K cd14 "show" = true) (k14 : PySem.W.keepIn K (.ref f14) = true)
    (a15 : PySem.W.nsIn K mainGlobals "_law_first" = some (some (.ref f15))) (l15 : K.lookup f15 = some ⟨oc15, od15, .func (PySem.W.fnOf "_law_first" "_law_first" (defArgs s__law_first) (defBody s__law_first) (defScope s__law_first) .none kV15 dc15 pm15 an15 cd15 ct15), sl15⟩) (c15 : PySem.W.codeIn K cd15 "_law_first" = true) (k15 : PySem.W.keepIn K (.ref f15) = true)
    (a16 : PySem.W.nsIn K mainGlobals "need_asked" = some (some (.ref f16))) (l16 : K.lookup f16 = some ⟨oc16, od16, .func (PySem.W.fnOf "need_asked" "need_asked" (defArgs s_need_asked) (defBody s_need_asked) (defScope s_need_asked) .none kV16 dc16 pm16 an16 cd16 ct16), sl16⟩) (c16 : PySem.W.codeIn K cd16 "need_asked" = true) (k16 : PySem.W.keepIn K (.ref f16) = true)
    (a17 : PySem.W.nsIn K mainGlobals "best_worths" = some (some (.ref f17))) (l17 : K.lookup f17 = some ⟨oc17, od17, .func (PySem.W.fnOf "best_worths" "best_worths" (defArgs s_best_worths) (defBody s_best_worths) (defScope s_best_worths) .none kV17 dc17 pm17 an17 cd17 ct17), sl17⟩) (c17 : PySem.W.codeIn K cd17 "best_worths" = true) (k17 : PySem.W.keepIn K (.ref f17) = true)
    (a18 : PySem.W.nsIn K mainGlobals "best_worth" = some (some (.ref f18))) (l18 : K.lookup f18 = some ⟨oc18, od18, .func (PySem.W.fnOf "best_worth" "best_worth" (defArgs s_best_worth) (defBody s_best_worth) (defScope s_best_worth) .none kV18 dc18 pm18 an18 cd18 ct18), sl18⟩) (c18 : PySem.W.codeIn K cd18 "best_worth" = true) (k18 : PySem.W.keepIn K (.ref f18) = true)
    (a19 : PySem.W.nsIn K mainGlobals "best_load" = some (some (.ref f19))) (l19 : K.lookup f19 = some ⟨oc19, od19, .func (PySem.W.fnOf "best_load" "best_load" (defArgs s_best_load) (defBody s_best_load) (defScope s_best_load) .none kV19 dc19 pm19 an19 cd19 ct19), sl19⟩) (c19 : PySem.W.codeIn K cd19 "best_load" = true) (k19 : PySem.W.keepIn K (.ref f19) = true)
    (a20 : PySem.W.nsIn K mainGlobals "loads_many" = some (some (.ref f20))) (l20 : K.lookup f20 = some ⟨oc20, od20, .func (PySem.W.fnOf "loads_many" "loads_many" (defArgs s_loads_many) (defBody s_loads_many) (defScope s_loads_many) .none kV20 dc20 pm20 an20 cd20 ct20), sl20⟩) (c20 : PySem.W.codeIn K cd20 "loads_many" = true) (k20 : PySem.W.keepIn K (.ref f20) = true)
    (a21 : PySem.W.nsIn K mainGlobals "best_many" = some (some (.ref f21))) (l21 : K.lookup f21 = some ⟨oc21, od21, .func (PySem.W.fnOf "best_many" "best_many" (defArgs s_best_many) (defBody s_best_many) (defScope s_best_many) .none kV21 dc21 pm21 an21 cd21 ct21), sl21⟩) (c21 : PySem.W.codeIn K cd21 "best_many" = true) (k21 : PySem.W.keepIn K (.ref f21) = true)
    (a22 : PySem.W.nsIn K mainGlobals "least_weight" = some (some (.ref f22))) (l22 : K.lookup f22 = some ⟨oc22, od22, .func (PySem.W.fnOf "least_weight" "least_weight" (defArgs s_least_weight) (defBody s_least_weight) (defScope s_least_weight) .none kV22 dc22 pm22 an22 cd22 ct22), sl22⟩) (c22 : PySem.W.codeIn K cd22 "least_weight" = true) (k22 : PySem.W.keepIn K (.ref f22) = true)
    (a23 : PySem.W.nsIn K mainGlobals "least_load" = some (some (.ref f23))) (l23 : K.lookup f23 = some ⟨oc23, od23, .func (PySem.W.fnOf "least_load" "least_load" (defArgs s_least_load) (defBody s_least_load) (defScope s_least_load) .none kV23 dc23 pm23 an23 cd23 ct23), sl23⟩) (c23 : PySem.W.codeIn K cd23 "least_load" = true) (k23 : PySem.W.keepIn K (.ref f23) = true)
    (a24 : PySem.W.nsIn K mainGlobals "half_loads" = some (some (.ref f24))) (l24 : K.lookup f24 = some ⟨oc24, od24, .func (PySem.W.fnOf "half_loads" "half_loads" (defArgs s_half_loads) (defBody s_half_loads) (defScope s_half_loads) .none kV24 dc24 pm24 an24 cd24 ct24), sl24⟩) (c24 : PySem.W.codeIn K cd24 "half_loads" = true) (k24 : PySem.W.keepIn K (.ref f24) = true)
    (a25 : PySem.W.nsIn K mainGlobals "_law_second" = some (some (.ref f25))) (l25 : K.lookup f25 = some ⟨oc25, od25, .func (PySem.W.fnOf "_law_second" "_law_second" (defArgs s__law_second) (defBody s__law_second) (defScope s__law_second) .none kV25 dc25 pm25 an25 cd25 ct25), sl25⟩) (c25 : PySem.W.codeIn K cd25 "_law_second" = true) (k25 : PySem.W.keepIn K (.ref f25) = true)
    (a26 : PySem.W.nsIn K mainGlobals "met_worth" = some (some (.ref f26))) (l26 : K.lookup f26 = some ⟨oc26, od26, .func (PySem.W.fnOf "met_worth" "met_worth" (defArgs s_met_worth) (defBody s_met_worth) (defScope s_met_worth) .none kV26 dc26 pm26 an26 cd26 ct26), sl26⟩) (c26 : PySem.W.codeIn K cd26 "met_worth" = true) (k26 : PySem.W.keepIn K (.ref f26) = true)
    (a27 : PySem.W.nsIn K mainGlobals "met_load" = some (some (.ref f27))) (l27 : K.lookup f27 = some ⟨oc27, od27, .func (PySem.W.fnOf "met_load" "met_load" (defArgs s_met_load) (defBody s_met_load) (defScope s_met_load) .none kV27 dc27 pm27 an27 cd27 ct27), sl27⟩) (c27 : PySem.W.codeIn K cd27 "met_load" = true) (k27 : PySem.W.keepIn K (.ref f27) = true)
    (a28 : PySem.W.nsIn K mainGlobals "stair_for" = some (some (.ref f28))) (l28 : K.lookup f28 = some ⟨oc28, od28, .func (PySem.W.fnOf "stair_for" "stair_for" (defArgs s_stair_for) (defBody s_stair_for) (defScope s_stair_for) .none kV28 dc28 pm28 an28 cd28 ct28), sl28⟩) (c28 : PySem.W.codeIn K cd28 "stair_for" = true) (k28 : PySem.W.keepIn K (.ref f28) = true)
    (a29 : PySem.W.nsIn K mainGlobals "is_stair" = some (some (.ref f29))) (l29 : K.lookup f29 = some ⟨oc29, od29, .func (PySem.W.fnOf "is_stair" "is_stair" (defArgs s_is_stair) (defBody s_is_stair) (defScope s_is_stair) .none kV29 dc29 pm29 an29 cd29 ct29), sl29⟩) (c29 : PySem.W.codeIn K cd29 "is_stair" = true) (k29 : PySem.W.keepIn K (.ref f29) = true)
    (a30 : PySem.W.nsIn K mainGlobals "best_shares" = some (some (.ref f30))) (l30 : K.lookup f30 = some ⟨oc30, od30, .func (PySem.W.fnOf "best_shares" "best_shares" (defArgs s_best_shares) (defBody s_best_shares) (defScope s_best_shares) .none kV30 dc30 pm30 an30 cd30 ct30), sl30⟩) (c30 : PySem.W.codeIn K cd30 "best_shares" = true) (k30 : PySem.W.keepIn K (.ref f30) = true)
    (a31 : PySem.W.nsIn K mainGlobals "share_worth" = some (some (.ref f31))) (l31 : K.lookup f31 = some ⟨oc31, od31, .func (PySem.W.fnOf "share_worth" "share_worth" (defArgs s_share_worth) (defBody s_share_worth) (defScope s_share_worth) .none kV31 dc31 pm31 an31 cd31 ct31), sl31⟩) (c31 : PySem.W.codeIn K cd31 "share_worth" = true) (k31 : PySem.W.keepIn K (.ref f31) = true)
    (a32 : PySem.W.nsIn K mainGlobals "bound" = some (some (.ref f32))) (l32 : K.lookup f32 = some ⟨oc32, od32, .func (PySem.W.fnOf "bound" "bound" (defArgs s_bound) (defBody s_bound) (defScope s_bound) .none kV32 dc32 pm32 an32 cd32 ct32), sl32⟩) (c32 : PySem.W.codeIn K cd32 "bound" = true) (k32 : PySem.W.keepIn K (.ref f32) = true)
    (a33 : PySem.W.nsIn K mainGlobals "some_price" = some (some (.ref f33))) (l33 : K.lookup f33 = some ⟨oc33, od33, .func (PySem.W.fnOf "some_price" "some_price" (defArgs s_some_price) (defBody s_some_price) (defScope s_some_price) .none kV33 dc33 pm33 an33 cd33 ct33), sl33⟩) (c33 : PySem.W.codeIn K cd33 "some_price" = true) (k33 : PySem.W.keepIn K (.ref f33) = true)
    (a34 : PySem.W.nsIn K mainGlobals "_law_third" = some (some (.ref f34))) (l34 : K.lookup f34 = some ⟨oc34, od34, .func (PySem.W.fnOf "_law_third" "_law_third" (defArgs s__law_third) (defBody s__law_third) (defScope s__law_third) .none kV34 dc34 pm34 an34 cd34 ct34), sl34⟩) (c34 : PySem.W.codeIn K cd34 "_law_third" = true) (k34 : PySem.W.keepIn K (.ref f34) = true)
    (a35 : PySem.W.nsIn K mainGlobals "whole_bound" = some (some (.ref f35))) (l35 : K.lookup f35 = some ⟨oc35, od35, .func (PySem.W.fnOf "whole_bound" "whole_bound" (defArgs s_whole_bound) (defBody s_whole_bound) (defScope s_whole_bound) .none kV35 dc35 pm35 an35 cd35 ct35), sl35⟩) (c35 : PySem.W.codeIn K cd35 "whole_bound" = true) (k35 : PySem.W.keepIn K (.ref f35) = true)
    (a36 : PySem.W.nsIn K mainGlobals "cut_load" = some (some (.ref f36))) (l36 : K.lookup f36 = some ⟨oc36, od36, .func (PySem.W.fnOf "cut_load" "cut_load" (defArgs s_cut_load) (defBody s_cut_load) (defScope s_cut_load) .none kV36 dc36 pm36 an36 cd36 ct36), sl36⟩) (c36 : PySem.W.codeIn K cd36 "cut_load" = true) (k36 : PySem.W.keepIn K (.ref f36) = true)
    (a37 : PySem.W.nsIn K mainGlobals "table_bound" = some (some (.ref f37))) (l37 : K.lookup f37 = some ⟨oc37, od37, .func (PySem.W.fnOf "table_bound" "table_bound" (defArgs s_table_bound) (defBody s_table_bound) (defScope s_table_bound) .none kV37 dc37 pm37 an37 cd37 ct37), sl37⟩) (c37 : PySem.W.codeIn K cd37 "table_bound" = true) (k37 : PySem.W.keepIn K (.ref f37) = true)
    (a38 : PySem.W.nsIn K mainGlobals "table_paper" = some (some (.ref f38))) (l38 : K.lookup f38 = some ⟨oc38, od38, .func (PySem.W.fnOf "table_paper" "table_paper" (defArgs s_table_paper) (defBody s_table_paper) (defScope s_table_paper) .none kV38 dc38 pm38 an38 cd38 ct38), sl38⟩) (c38 : PySem.W.codeIn K cd38 "table_paper" = true) (k38 : PySem.W.keepIn K (.ref f38) = true)
    (a39 : PySem.W.nsIn K mainGlobals "need_cut_asked" = some (some (.ref f39))) (l39 : K.lookup f39 = some ⟨oc39, od39, .func (PySem.W.fnOf "need_cut_asked" "need_cut_asked" (defArgs s_need_cut_asked) (defBody s_need_cut_asked) (defScope s_need_cut_asked) .none kV39 dc39 pm39 an39 cd39 ct39), sl39⟩) (c39 : PySem.W.codeIn K cd39 "need_cut_asked" = true) (k39 : PySem.W.keepIn K (.ref f39) = true)
    (a40 : PySem.W.nsIn K mainGlobals "is_cut" = some (some (.ref f40))) (l40 : K.lookup f40 = some ⟨oc40, od40, .func (PySem.W.fnOf "is_cut" "is_cut" (defArgs s_is_cut) (defBody s_is_cut) (defScope s_is_cut) .none kV40 dc40 pm40 an40 cd40 ct40), sl40⟩) (c40 : PySem.W.codeIn K cd40 "is_cut" = true) (k40 : PySem.W.keepIn K (.ref f40) = true)
    (a41 : PySem.W.nsIn K mainGlobals "cut_for" = some (some (.ref f41))) (l41 : K.lookup f41 = some ⟨oc41, od41, .func (PySem.W.fnOf "cut_for" "cut_for" (defArgs s_cut_for) (defBody s_cut_for) (defScope s_cut_for) .none kV41 dc41 pm41 an41 cd41 ct41), sl41⟩) (c41 : PySem.W.codeIn K cd41 "cut_for" = true) (k41 : PySem.W.keepIn K (.ref f41) = true)
    (a42 : PySem.W.nsIn K mainGlobals "_law_last" = some (some (.ref f42))) (l42 : K.lookup f42 = some ⟨oc42, od42, .func (PySem.W.fnOf "_law_last" "_law_last" (defArgs s__law_last) (defBody s__law_last) (defScope s__law_last) .none kV42 dc42 pm42 an42 cd42 ct42), sl42⟩) (c42 : PySem.W.codeIn K cd42 "_law_last" = true) (k42 : PySem.W.keepIn K (.ref f42) = true)
    (a43 : PySem.W.nsIn K mainGlobals "_law_said" = some (some (.ref f43))) (l43 : K.lookup f43 = some ⟨oc43, od43, .func (PySem.W.fnOf "_law_said" "_law_said" (defArgs s__law_said) (defBody s__law_said) (defScope s__law_said) .none kV43 dc43 pm43 an43 cd43 ct43), sl43⟩) (c43 : PySem.W.codeIn K cd43 "_law_said" = true) (k43 : PySem.W.keepIn K (.ref f43) = true)
    (a44 : PySem.W.nsIn K mainGlobals "_law_take" = some (some (.ref f44))) (l44 : K.lookup f44 = some ⟨oc44, od44, .func (PySem.W.fnOf "_law_take" "_law_take" (defArgs s__law_take) (defBody s__law_take) (defScope s__law_take) .none kV44 dc44 pm44 an44 cd44 ct44), sl44⟩) (c44 : PySem.W.codeIn K cd44 "_law_take" = true) (k44 : PySem.W.keepIn K (.ref f44) = true)
    (a45 : PySem.W.nsIn K mainGlobals "_law_kind_of" = some (some (.ref f45))) (l45 : K.lookup f45 = some ⟨oc45, od45, .func (PySem.W.fnOf "_law_kind_of" "_law_kind_of" (defArgs s__law_kind_of) (defBody s__law_kind_of) (defScope s__law_kind_of) .none kV45 dc45 pm45 an45 cd45 ct45), sl45⟩) (c45 : PySem.W.codeIn K cd45 "_law_kind_of" = true) (k45 : PySem.W.keepIn K (.ref f45) = true)
    (a46 : PySem.W.nsIn K mainGlobals "_law_stocked" = some (some (.ref f46))) (l46 : K.lookup f46 = some ⟨oc46, od46, .func (PySem.W.fnOf "_law_stocked" "_law_stocked" (defArgs s__law_stocked) (defBody s__law_stocked) (defScope s__law_stocked) .none kV46 dc46 pm46 an46 cd46 ct46), sl46⟩) (c46 : PySem.W.codeIn K cd46 "_law_stocked" = true) (k46 : PySem.W.keepIn K (.ref f46) = true)
    (a47 : PySem.W.nsIn K mainGlobals "_law_mix" = some (some (.ref f47))) (l47 : K.lookup f47 = some ⟨oc47, od47, .func (PySem.W.fnOf "_law_mix" "_law_mix" (defArgs s__law_mix) (defBody s__law_mix) (defScope s__law_mix) .none kV47 dc47 pm47 an47 cd47 ct47), sl47⟩) (c47 : PySem.W.codeIn K cd47 "_law_mix" = true) (k47 : PySem.W.keepIn K (.ref f47) = true)
    (a48 : PySem.W.nsIn K mainGlobals "_law_cell" = some (some (.ref f48))) (l48 : K.lookup f48 = some ⟨oc48, od48, .func (PySem.W.fnOf "_law_cell" "_law_cell" (defArgs s__law_cell) (defBody s__law_cell) (defScope s__law_cell) .none kV48 dc48 pm48 an48 cd48 ct48), sl48⟩) (c48 : PySem.W.codeIn K cd48 "_law_cell" = true) (k48 : PySem.W.keepIn K (.ref f48) = true)
    (a49 : PySem.W.nsIn K mainGlobals "_law_box" = some (some (.ref f49))) (l49 : K.lookup f49 = some ⟨oc49, od49, .func (PySem.W.fnOf "_law_box" "_law_box" (defArgs s__law_box) (defBody s__law_box) (defScope s__law_box) .none kV49 dc49 pm49 an49 cd49 ct49), sl49⟩) (c49 : PySem.W.codeIn K cd49 "_law_box" = true) (k49 : PySem.W.keepIn K (.ref f49) = true)
    (a50 : PySem.W.nsIn K mainGlobals "law" = some (some (.ref f50))) (l50 : K.lookup f50 = some ⟨oc50, od50, .func (PySem.W.fnOf "law" "law" (defArgs s_law) (defBody s_law) (defScope s_law) .none kV50 dc50 pm50 an50 cd50 ct50), sl50⟩) (c50 : PySem.W.codeIn K cd50 "law" = true) (k50 : PySem.W.keepIn K (.ref f50) = true)
    (zb_ValueError : PySem.W.nsIn K mainGlobals "ValueError" = some none)
    (zb_abs : PySem.W.nsIn K mainGlobals "abs" = some none)
    (zb_all : PySem.W.nsIn K mainGlobals "all" = some none)
    (zb_bool : PySem.W.nsIn K mainGlobals "bool" = some none)
    (zb_divmod : PySem.W.nsIn K mainGlobals "divmod" = some none)
    (zb_int : PySem.W.nsIn K mainGlobals "int" = some none)
    (zb_isinstance : PySem.W.nsIn K mainGlobals "isinstance" = some none)
    (zb_len : PySem.W.nsIn K mainGlobals "len" = some none)
    (zb_list : PySem.W.nsIn K mainGlobals "list" = some none)
    (zb_max : PySem.W.nsIn K mainGlobals "max" = some none)
    (zb_min : PySem.W.nsIn K mainGlobals "min" = some none)
    (zb_range : PySem.W.nsIn K mainGlobals "range" = some none)
    (zb_tuple : PySem.W.nsIn K mainGlobals "tuple" = some none)
    (zb_zip : PySem.W.nsIn K mainGlobals "zip" = some none)
    (xz : xAll K RN TN = true)
    (zg_BOTTOM : PySem.W.nsIn K mainGlobals "BOTTOM" = some (some (.int 1 tk_BOTTOM)))
    (zg_KINDS_AT_MOST : PySem.W.nsIn K mainGlobals "KINDS_AT_MOST" = some (some (.int 12 tk_KINDS_AT_MOST)))
    (zg_MOST : PySem.W.nsIn K mainGlobals "MOST" = some (some (.int 2 tk_MOST)))
    (zg_NOTHING : PySem.W.nsIn K mainGlobals "NOTHING" = some (some (.ref qa_NOTHING))) (zl_NOTHING : K.lookup qa_NOTHING = some ⟨.type "tuple", qd_NOTHING, .seq qi_NOTHING qn_NOTHING, qs_NOTHING⟩) (zv_NOTHING : qi_NOTHING.toList = [.int 0 tk_NOTHING_0, .int 1 tk_NOTHING_1])
    (zg_TOP : PySem.W.nsIn K mainGlobals "TOP" = some (some (.int 0 tk_TOP)))
    (zg_WEIGHT : PySem.W.nsIn K mainGlobals "WEIGHT" = some (some (.int 0 tk_WEIGHT)))
    (zg_WORTH : PySem.W.nsIn K mainGlobals "WORTH" = some (some (.int 1 tk_WORTH))) :
    ∃ fd : FuncData, (∀ (s : Shared) (v : Value), BindsTo s fd ⟨[v], []⟩ [("script", v)]) ∧ ∀ base : Heap, K.In base → base.Ns mainGlobals mg → FnOk l.prog w K mg base CX0 11 fa fd ["script"] (spD K F_law) := by
  have e := hfa.symm.trans (PySem.W.mg_of X G a50)
  cases e
  have T : Txt K mg := ⟨PySem.W.mg_none_of X G zb_ValueError, PySem.W.mg_none_of X G zb_abs, PySem.W.mg_none_of X G zb_all, PySem.W.mg_none_of X G zb_bool, PySem.W.mg_none_of X G zb_divmod, PySem.W.mg_none_of X G zb_int, PySem.W.mg_none_of X G zb_isinstance, PySem.W.mg_none_of X G zb_len, PySem.W.mg_none_of X G zb_list, PySem.W.mg_none_of X G zb_max, PySem.W.mg_none_of X G zb_min, PySem.W.mg_none_of X G zb_range, PySem.W.mg_none_of X G zb_tuple, PySem.W.mg_none_of X G zb_zip, ⟨_, PySem.W.mg_of X G zg_BOTTOM⟩, ⟨_, PySem.W.mg_of X G zg_KINDS_AT_MOST⟩, ⟨_, PySem.W.mg_of X G zg_MOST⟩, ⟨_, PySem.W.mg_of X G zg_NOTHING, tupK2 zl_NOTHING zv_NOTHING⟩, ⟨_, PySem.W.mg_of X G zg_TOP⟩, ⟨_, PySem.W.mg_of X G zg_WEIGHT⟩, ⟨_, PySem.W.mg_of X G zg_WORTH⟩⟩
  refine ⟨PySem.W.fnOf "law" "law" (defArgs s_law) (defBody s_law) (defScope s_law) .none kV50 dc50 pm50 an50 cd50 ct50, fun s v => .of_eq rfl, fun base hB _ => ?_⟩
  have XTt : XT K mg RN TN := ⟨xz, clsOf_mg X G⟩
  have C__law_marks := q0 (P := l.prog) (w := w) (base := base) (fun_mk (st := s__law_marks) l0 c0 k0) (PySem.W.mg_of X G a0) T XTt hB
  have C_is_whole := q1 (P := l.prog) (w := w) (base := base) (fun_mk (st := s_is_whole) l1 c1 k1) (PySem.W.mg_of X G a1) T XTt hB
  have C_is_count := q2 (P := l.prog) (w := w) (base := base) (fun_mk (st := s_is_count) l2 c2 k2) (PySem.W.mg_of X G a2) T XTt hB C_is_whole
  have C_is_kind := q3 (P := l.prog) (w := w) (base := base) (fun_mk (st := s_is_kind) l3 c3 k3) (PySem.W.mg_of X G a3) T XTt hB C_is_count
  have C_is_store := q4 (P := l.prog) (w := w) (base := base) (fun_mk (st := s_is_store) l4 c4 k4) (PySem.W.mg_of X G a4) T XTt hB C_is_kind
  have C_need_store := q5 (P := l.prog) (w := w) (base := base) (fun_mk (st := s_need_store) l5 c5 k5) (PySem.W.mg_of X G a5) T XTt hB C_is_store
  have C_is_load := q6 (P := l.prog) (w := w) (base := base) (fun_mk (st := s_is_load) l6 c6 k6) (PySem.W.mg_of X G a6) T XTt hB C_need_store
  have C_need_load := q7 (P := l.prog) (w := w) (base := base) (fun_mk (st := s_need_load) l7 c7 k7) (PySem.W.mg_of X G a7) T XTt hB C_is_load
  have C_weight := q8 (P := l.prog) (w := w) (base := base) (fun_mk (st := s_weight) l8 c8 k8) (PySem.W.mg_of X G a8) T XTt hB C_need_load
  have C_worth := q9 (P := l.prog) (w := w) (base := base) (fun_mk (st := s_worth) l9 c9 k9) (PySem.W.mg_of X G a9) T XTt hB C_need_load
  have C_fits := q10 (P := l.prog) (w := w) (base := base) (fun_mk (st := s_fits) l10 c10 k10) (PySem.W.mg_of X G a10) T XTt hB C_need_load
  have C_bounded := q11 (P := l.prog) (w := w) (base := base) (fun_mk (st := s_bounded) l11 c11 k11) (PySem.W.mg_of X G a11) T XTt hB C_need_store
  have C_leaves := q12 (P := l.prog) (w := w) (base := base) (fun_mk (st := s_leaves) l12 c12 k12) (PySem.W.mg_of X G a12) T XTt hB C_need_load
  have C_whole_load := q13 (P := l.prog) (w := w) (base := base) (fun_mk (st := s_whole_load) l13 c13 k13) (PySem.W.mg_of X G a13) T XTt hB C_need_store
  have C_show := q14 (P := l.prog) (w := w) (base := base) (fun_mk (st := s_show) l14 c14 k14) (PySem.W.mg_of X G a14) T XTt hB C_need_store
  have C__law_first := q15 (P := l.prog) (w := w) (base := base) (fun_mk (st := s__law_first) l15 c15 k15) (PySem.W.mg_of X G a15) T XTt hB C_is_load C_weight C_worth C_fits C_bounded C_leaves C_whole_load C_show
  have C_need_asked := q16 (P := l.prog) (w := w) (base := base) (fun_mk (st := s_need_asked) l16 c16 k16) (PySem.W.mg_of X G a16) T XTt hB C_need_store
  have C_best_worths := q17 (P := l.prog) (w := w) (base := base) (fun_mk (st := s_best_worths) l17 c17 k17) (PySem.W.mg_of X G a17) T XTt hB C_need_asked
  have C_best_worth := q18 (P := l.prog) (w := w) (base := base) (fun_mk (st := s_best_worth) l18 c18 k18) (PySem.W.mg_of X G a18) T XTt hB C_best_worths
  have C_best_load := q19 (P := l.prog) (w := w) (base := base) (fun_mk (st := s_best_load) l19 c19 k19) (PySem.W.mg_of X G a19) T XTt hB C_need_asked
  have C_loads_many := q20 (P := l.prog) (w := w) (base := base) (fun_mk (st := s_loads_many) l20 c20 k20) (PySem.W.mg_of X G a20) T XTt hB C_need_asked
  have C_best_many := q21 (P := l.prog) (w := w) (base := base) (fun_mk (st := s_best_many) l21 c21 k21) (PySem.W.mg_of X G a21) T XTt hB C_need_asked
  have C_least_weight := q22 (P := l.prog) (w := w) (base := base) (fun_mk (st := s_least_weight) l22 c22 k22) (PySem.W.mg_of X G a22) T XTt hB C_need_asked
  have C_least_load := q23 (P := l.prog) (w := w) (base := base) (fun_mk (st := s_least_load) l23 c23 k23) (PySem.W.mg_of X G a23) T XTt hB C_need_asked
  have C_half_loads := q24 (P := l.prog) (w := w) (base := base) (fun_mk (st := s_half_loads) l24 c24 k24) (PySem.W.mg_of X G a24) T XTt hB C_need_store
  have C__law_second := q25 (P := l.prog) (w := w) (base := base) (fun_mk (st := s__law_second) l25 c25 k25) (PySem.W.mg_of X G a25) T XTt hB C_best_worths C_best_worth C_best_load C_loads_many C_best_many C_least_weight C_least_load C_half_loads
  have C_met_worth := q26 (P := l.prog) (w := w) (base := base) (fun_mk (st := s_met_worth) l26 c26 k26) (PySem.W.mg_of X G a26) T XTt hB C_need_store
  have C_met_load := q27 (P := l.prog) (w := w) (base := base) (fun_mk (st := s_met_load) l27 c27 k27) (PySem.W.mg_of X G a27) T XTt hB C_met_worth
  have C_stair_for := q28 (P := l.prog) (w := w) (base := base) (fun_mk (st := s_stair_for) l28 c28 k28) (PySem.W.mg_of X G a28) T XTt hB C_need_store
  have C_is_stair := q29 (P := l.prog) (w := w) (base := base) (fun_mk (st := s_is_stair) l29 c29 k29) (PySem.W.mg_of X G a29) T XTt hB C_stair_for
  have C_best_shares := q30 (P := l.prog) (w := w) (base := base) (fun_mk (st := s_best_shares) l30 c30 k30) (PySem.W.mg_of X G a30) T XTt hB C_need_store
  have C_share_worth := q31 (P := l.prog) (w := w) (base := base) (fun_mk (st := s_share_worth) l31 c31 k31) (PySem.W.mg_of X G a31) T XTt hB C_best_shares
  have C_bound := q32 (P := l.prog) (w := w) (base := base) (fun_mk (st := s_bound) l32 c32 k32) (PySem.W.mg_of X G a32) T XTt hB C_need_store
  have C_some_price := q33 (P := l.prog) (w := w) (base := base) (fun_mk (st := s_some_price) l33 c33 k33) (PySem.W.mg_of X G a33) T XTt hB C_need_store
  have C__law_third := q34 (P := l.prog) (w := w) (base := base) (fun_mk (st := s__law_third) l34 c34 k34) (PySem.W.mg_of X G a34) T XTt hB C_met_worth C_met_load C_is_stair C_stair_for C_best_shares C_share_worth C_bound C_some_price
  have C_whole_bound := q35 (P := l.prog) (w := w) (base := base) (fun_mk (st := s_whole_bound) l35 c35 k35) (PySem.W.mg_of X G a35) T XTt hB C_share_worth
  have C_cut_load := q36 (P := l.prog) (w := w) (base := base) (fun_mk (st := s_cut_load) l36 c36 k36) (PySem.W.mg_of X G a36) T XTt hB C_best_shares
  have C_table_bound := q37 (P := l.prog) (w := w) (base := base) (fun_mk (st := s_table_bound) l37 c37 k37) (PySem.W.mg_of X G a37) T XTt hB C_need_asked
  have C_table_paper := q38 (P := l.prog) (w := w) (base := base) (fun_mk (st := s_table_paper) l38 c38 k38) (PySem.W.mg_of X G a38) T XTt hB C_need_asked
  have C_need_cut_asked := q39 (P := l.prog) (w := w) (base := base) (fun_mk (st := s_need_cut_asked) l39 c39 k39) (PySem.W.mg_of X G a39) T XTt hB C_need_store
  have C_is_cut := q40 (P := l.prog) (w := w) (base := base) (fun_mk (st := s_is_cut) l40 c40 k40) (PySem.W.mg_of X G a40) T XTt hB C_need_cut_asked
  have C_cut_for := q41 (P := l.prog) (w := w) (base := base) (fun_mk (st := s_cut_for) l41 c41 k41) (PySem.W.mg_of X G a41) T XTt hB C_need_cut_asked
  have C__law_last := q42 (P := l.prog) (w := w) (base := base) (fun_mk (st := s__law_last) l42 c42 k42) (PySem.W.mg_of X G a42) T XTt hB C_whole_bound C_cut_load C_table_bound C_table_paper C_is_cut C_cut_for
  have C__law_said := q43 (P := l.prog) (w := w) (base := base) (fun_mk (st := s__law_said) l43 c43 k43) (PySem.W.mg_of X G a43) T XTt hB C__law_marks C__law_first C__law_second C__law_third C__law_last
  have C__law_take := q44 (P := l.prog) (w := w) (base := base) (fun_mk (st := s__law_take) l44 c44 k44) (PySem.W.mg_of X G a44) T XTt hB
  have C__law_kind_of := q45 (P := l.prog) (w := w) (base := base) (fun_mk (st := s__law_kind_of) l45 c45 k45) (PySem.W.mg_of X G a45) T XTt hB C__law_take
  have C__law_stocked := q46 (P := l.prog) (w := w) (base := base) (fun_mk (st := s__law_stocked) l46 c46 k46) (PySem.W.mg_of X G a46) T XTt hB C__law_take C__law_kind_of
  have C__law_mix := q47 (P := l.prog) (w := w) (base := base) (fun_mk (st := s__law_mix) l47 c47 k47) (PySem.W.mg_of X G a47) T XTt hB
  have C__law_cell := q48 (P := l.prog) (w := w) (base := base) (fun_mk (st := s__law_cell) l48 c48 k48) (PySem.W.mg_of X G a48) T XTt hB
  have C__law_box := q49 (P := l.prog) (w := w) (base := base) (fun_mk (st := s__law_box) l49 c49 k49) (PySem.W.mg_of X G a49) T XTt hB C__law_mix C__law_cell
  exact fk_law (P := l.prog) (w := w) (base := base) (fun_mk (st := s_law) l50 c50 k50) T XTt hB C__law_said C__law_take C__law_stocked C__law_box
end Law
end L2.Sk
def PySem.W.Fast.tw17378173733110515035 : Nat := 0
def PySem.W.Fast.tw707792825267089248 : Nat := 0
def PySem.W.Fast.tw9286527656843174214 : Nat := 0
def PySem.W.Fast.tw2419468553231151229 : Nat := 0
def PySem.W.Fast.tw3928655553981418170 : Nat := 0
def PySem.W.Fast.tw5238647626916492630 : Nat := 0
def PySem.W.Fast.tw12735974666171872995 : Nat := 0
def PySem.W.Fast.tw10375143418250832011 : Nat := 0
def PySem.W.Fast.tw3089537939638754805 : Nat := 0
def PySem.W.Fast.tw16576109089385106641 : Nat := 0
def PySem.W.Fast.tw4199217917264750749 : Nat := 0
def PySem.W.Fast.tw15710282536764535121 : Nat := 0
def PySem.W.Fast.tw748423009758567827 : Nat := 0
def PySem.W.Fast.tw13573994705048733027 : Nat := 0
def PySem.W.Fast.tw17275347128782611775 : Nat := 0
def PySem.W.Fast.tw13384108084633456251 : Nat := 0
def PySem.W.Fast.tw13448635008594058588 : Nat := 0
def PySem.W.Fast.tw12496272237491157364 : Nat := 0
def PySem.W.Fast.tw7766932583791066897 : Nat := 0
def PySem.W.Fast.tw4403144911969699654 : Nat := 0
def PySem.W.Fast.tw6800397588559398339 : Nat := 0
def PySem.W.Fast.tw13726511555385432015 : Nat := 0
set_option Elab.async false
set_option linter.all false
set_option maxRecDepth 100000
namespace L2.Sk
namespace Law
open PySem PySem.Spec PyProof.Rows
theorem fz_of {K : Fr0} {H : Hp} {a : Addr} {ns : List Int} (hO : Only H) (hS : SqL K H a (ns.map V.int)) : FzAt K H a (ns.map V.int) := by
  rcases hS with (h | h) | h
  · rcases hO a with z | ⟨o, xs, z⟩
    · rw [h] at z; cases z
    · rw [h] at z; cases z
  · exact .inl h
  · exact .inr h
theorem walk {l : PySem.W.OpenLaw} {q : Program} {loose : List Str} {XP : (Str → Option Value) → Heap → Prop} {YP : World → Heap → Prop} {d : DefRec} {K : Params → PySem.W.Frag} (hn : l.most = some 63) (hdf : d.params.defaults = [])
    (hY : ∀ (w : World) (h : Heap), YP w h → (K w.params).In h) (hlaw : ∀ ns : List Int, ns.length ≤ 63 → F_law [.fz ns] = .ok (.bl true))
    (F : ∀ (w : World) (mg : Str → Option Value) (fa : Addr) (h : Heap), (K w.params).In h → h.Ns mainGlobals mg → mg d.name = some (.ref fa) →
      ∃ fd : FuncData, (∀ (s : Shared) (u : Value), BindsTo s fd ⟨[u], []⟩ [("script", u)]) ∧ ∀ base : Heap, (K w.params).In base → base.Ns mainGlobals mg → FnOk l.prog w (K w.params) mg base CX0 11 fa fd ["script"] (spD (K w.params) F_law)) :
    PySem.W.WalkO q loose XP YP l.row.toRowW d [] (fun f vs => PySem.call f vs) :=
  L2.walk_of (n := 63) (k := 11) (x := "script") (CX := fun _ => CX0) (sp := fun w => spD (K w.params) F_law) hn (by decide) hdf ⟨rfl, by decide, by decide, rfl⟩ hY F (fun w H a ns hl hO hS => by
    refine ⟨[.fz ns], fun _ => False, ⟨.ref a, [], rfl, ⟨a, rfl, fz_of hO hS⟩, rfl⟩, fun _ _ => trivial, ?_⟩
    rw [hlaw ns hl]
    exact fun v H' _ h => h) fun _ _ _ _ _ z => z
end Law
end L2.Sk
open PySem PySem.W PyProof.Rows
set_option maxRecDepth 100000 in
set_option maxHeartbeats 0 in
theorem PySem.Challenge.cw_sackloads_k05_what_is_no_store_holds : PySem.Challenge.rw_sackloads_k05_what_is_no_store.Holds := by
  w_on; o_law; k_head; (case hw => w_witness2)
  k_fill
  refine L2.Sk.Law.walk (l := PySem.Challenge.rw_sackloads_k05_what_is_no_store) rfl rfl (fun w h Y => by first | exact PySem.W.kIn_of Y | exact PySem.W.km_in_of Y) L2.Sk.Law.law_true ?F
  case F =>
    intro w mg fa h KX G hmg
    refine' L2.Sk.Law.all_mk KX G hmg ?a0 ?l0 ?c0 ?k0 ?a1 ?l1 ?c1 ?k1 ?a2 ?l2 ?c2 ?k2 ?a3 ?l3 ?c3 ?k3 ?a4 ?l4 ?c4 ?k4 ?a5 ?l5 ?c5 ?k5 ?a6 ?l6 ?c6 ?k6 ?a7 ?l7 ?c7 ?k7 ?a8 ?l8 ?c8 ?k8 ?a9 ?l9 ?c9 ?k9 ?a10 ?l10 ?c10 ?k10 ?a11 ?l11 ?c11 ?k11 ?a12 ?l12 ?c12 ?k12 ?a13 ?l13 ?c13 ?k13 ?a14 ?l14 ?c14 ?k14 ?a15 ?l15 ?c15 ?k15 ?a16 ?l16 ?c16 ?k16 ?a17 ?l17 ?c17 ?k17 ?a18 ?l18 ?c18 ?k18 ?a19 ?l19 ?c19 ?k19 ?a20 ?l20 ?c20 ?k20 ?a21 ?l21 ?c21 ?k21 ?a22 ?l22 ?c22 ?k22 ?a23 ?l23 ?c23 ?k23 ?a24 ?l24 ?c24 ?k24 ?a25 ?l25 ?c25 ?k25 ?a26 ?l26 ?c26 ?k26 ?a27 ?l27 ?c27 ?k27 ?a28 ?l28 ?c28 ?k28 ?a29 ?l29 ?c29 ?k29 ?a30 ?l30 ?c30 ?k30 ?a31 ?l31 ?c31 ?k31 ?a32 ?l32 ?c32 ?k32 ?a33 ?l33 ?c33 ?k33 ?a34 ?l34 ?c34 ?k34 ?a35 ?l35 ?c35 ?k35 ?a36 ?l36 ?c36 ?k36 ?a37 ?l37 ?c37 ?k37 ?a38 ?l38 ?c38 ?k38 ?a39 ?l39 ?c39 ?k39 ?a40 ?l40 ?c40 ?k40 ?a41 ?l41 ?c41 ?k41 ?a42 ?l42 ?c42 ?k42 ?a43 ?l43 ?c43 ?k43 ?a44 ?l44 ?c44 ?k44 ?a45 ?l45 ?c45 ?k45 ?a46 ?l46 ?c46 ?k46 ?a47 ?l47 ?c47 ?k47 ?a48 ?l48 ?c48 ?k48 ?a49 ?l49 ?c49 ?k49 ?a50 ?l50 ?c50 ?k50 ?zb_ValueError ?zb_abs ?zb_all ?zb_bool ?zb_divmod ?zb_int ?zb_isinstance ?zb_len ?zb_list ?zb_max ?zb_min ?zb_range ?zb_tuple ?zb_zip ?xz ?zg_BOTTOM ?zg_KINDS_AT_MOST ?zg_MOST ?zg_NOTHING ?zl_NOTHING ?zv_NOTHING ?zg_TOP ?zg_WEIGHT ?zg_WORTH
    (case a0 => k_is)
    (case l0 => k_is)
    (case c0 => k_is)
    (case k0 => k_is)
    (case a1 => k_is)
    (case l1 => k_is)
    (case c1 => k_is)
    (case k1 => k_is)
    (case a2 => k_is)
    (case l2 => k_is)
    (case c2 => k_is)
    (case k2 => k_is)
    (case a3 => k_is)
    (case l3 => k_is)
    (case c3 => k_is)
    (case k3 => k_is)
    (case a4 => k_is)
    (case l4 => k_is)
    (case c4 => k_is)
    (case k4 => k_is)
    (case a5 => k_is)
    (case l5 => k_is)
    (case c5 => k_is)
    (case k5 => k_is)
    (case a6 => k_is)
    (case l6 => k_is)
    (case c6 => k_is)
    (case k6 => k_is)
    (case a7 => k_is)
    (case l7 => k_is)
    (case c7 => k_is)
    (case k7 => k_is)
    (case a8 => k_is)
    (case l8 => k_is)
    (case c8 => k_is)
    (case k8 => k_is)
    (case a9 => k_is)
    (case l9 => k_is)
    (case c9 => k_is)
    (case k9 => k_is)
    (case a10 => k_is)
    (case l10 => k_is)
    (case c10 => k_is)
    (case k10 => k_is)
    (case a11 => k_is)
    (case l11 => k_is)
    (case c11 => k_is)
    (case k11 => k_is)
    (case a12 => k_is)
    (case l12 => k_is)
    (case c12 => k_is)
    (case k12 => k_is)
    (case a13 => k_is)
    (case l13 => k_is)
    (case c13 => k_is)
    (case k13 => k_is)
    (case a14 => k_is)
    (case l14 => k_is)
    (case c14 => k_is)
    (case k14 => k_is)
    (case a15 => k_is)
    (case l15 => k_is)
    (case c15 => k_is)
    (case k15 => k_is)
    (case a16 => k_is)
    (case l16 => k_is)
    (case c16 => k_is)
    (case k16 => k_is)
    (case a17 => k_is)
    (case l17 => k_is)
    (case c17 => k_is)
    (case k17 => k_is)
    (case a18 => k_is)
    (case l18 => k_is)
    (case c18 => k_is)
    (case k18 => k_is)
    (case a19 => k_is)
    (case l19 => k_is)
    (case c19 => k_is)
    (case k19 => k_is)
    (case a20 => k_is)
    (case l20 => k_is)
    (case c20 => k_is)
    (case k20 => k_is)
    (case a21 => k_is)
    (case l21 => k_is)
    (case c21 => k_is)
    (case k21 => k_is)
    (case a22 => k_is)
    (case l22 => k_is)
    (case c22 => k_is)
    (case k22 => k_is)
    (case a23 => k_is)
    (case l23 => k_is)
    (case c23 => k_is)
    (case k23 => k_is)
    (case a24 => k_is)
    (case l24 => k_is)
    (case c24 => k_is)
    (case k24 => k_is)
    (case a25 => k_is)
    (case l25 => k_is)
    (case c25 => k_is)
    (case k25 => k_is)
    (case a26 => k_is)
    (case l26 => k_is)
    (case c26 => k_is)
    (case k26 => k_is)
    (case a27 => k_is)
    (case l27 => k_is)
    (case c27 => k_is)
    (case k27 => k_is)
    (case a28 => k_is)
    (case l28 => k_is)
    (case c28 => k_is)
    (case k28 => k_is)
    (case a29 => k_is)
    (case l29 => k_is)
    (case c29 => k_is)
    (case k29 => k_is)
    (case a30 => k_is)
    (case l30 => k_is)
    (case c30 => k_is)
    (case k30 => k_is)
    (case a31 => k_is)
    (case l31 => k_is)
    (case c31 => k_is)
    (case k31 => k_is)
    (case a32 => k_is)
    (case l32 => k_is)
    (case c32 => k_is)
    (case k32 => k_is)
    (case a33 => k_is)
    (case l33 => k_is)
    (case c33 => k_is)
    (case k33 => k_is)
    (case a34 => k_is)
    (case l34 => k_is)
    (case c34 => k_is)
    (case k34 => k_is)
    (case a35 => k_is)
    (case l35 => k_is)
    (case c35 => k_is)
    (case k35 => k_is)
    (case a36 => k_is)
    (case l36 => k_is)
    (case c36 => k_is)
    (case k36 => k_is)
    (case a37 => k_is)
    (case l37 => k_is)
    (case c37 => k_is)
    (case k37 => k_is)
    (case a38 => k_is)
    (case l38 => k_is)
    (case c38 => k_is)
    (case k38 => k_is)
    (case a39 => k_is)
    (case l39 => k_is)
    (case c39 => k_is)
    (case k39 => k_is)
    (case a40 => k_is)
    (case l40 => k_is)
    (case c40 => k_is)
    (case k40 => k_is)
    (case a41 => k_is)
    (case l41 => k_is)
    (case c41 => k_is)
    (case k41 => k_is)
    (case a42 => k_is)
    (case l42 => k_is)
    (case c42 => k_is)
    (case k42 => k_is)
    (case a43 => k_is)
    (case l43 => k_is)
    (case c43 => k_is)
    (case k43 => k_is)
    (case a44 => k_is)
    (case l44 => k_is)
    (case c44 => k_is)
    (case k44 => k_is)
    (case a45 => k_is)
    (case l45 => k_is)
    (case c45 => k_is)
    (case k45 => k_is)
    (case a46 => k_is)
    (case l46 => k_is)
    (case c46 => k_is)
    (case k46 => k_is)
    (case a47 => k_is)
    (case l47 => k_is)
    (case c47 => k_is)
    (case k47 => k_is)
    (case a48 => k_is)
    (case l48 => k_is)
    (case c48 => k_is)
    (case k48 => k_is)
    (case a49 => k_is)
    (case l49 => k_is)
    (case c49 => k_is)
    (case k49 => k_is)
    (case a50 => k_is)
    (case l50 => k_is)
    (case c50 => k_is)
    (case k50 => k_is)
    (case zb_ValueError => k_is)
    (case zb_abs => k_is)
    (case zb_all => k_is)
    (case zb_bool => k_is)
    (case zb_divmod => k_is)
    (case zb_int => k_is)
    (case zb_isinstance => k_is)
    (case zb_len => k_is)
    (case zb_list => k_is)
    (case zb_max => k_is)
    (case zb_min => k_is)
    (case zb_range => k_is)
    (case zb_tuple => k_is)
    (case zb_zip => k_is)
    (case xz => kernel_rfl)
    (case zg_BOTTOM => k_is)
    (case zg_KINDS_AT_MOST => k_is)
    (case zg_MOST => k_is)
    (case zg_NOTHING => k_is)
    (case zl_NOTHING => k_is)
    (case zv_NOTHING => rfl)
    (case zg_TOP => k_is)
    (case zg_WEIGHT => k_is)
    (case zg_WORTH => k_is)
