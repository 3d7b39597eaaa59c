import PyProof.Rows.All
import Wide.All
import OpenK.AllK
import Wide.FinOn
import Lean
import PyProof.EqAt
import PyProof.EqKinds
import PyProof.TupleCall
import KE.KUnpack
import PySem.Challenge.RW_sackloads_k16_loads_not_beaten
def PySem.W.Fast.tw10927965930288328303 : Nat := 0
def PySem.W.Fast.tw5423326626661637041 : Nat := 0
def PySem.W.Fast.tw4994539316203799861 : Nat := 0
def PySem.W.Fast.tw14694963112871441210 : Nat := 0
def PySem.W.Fast.tw16193595424198521371 : Nat := 0
set_option linter.all false
set_option Elab.async false
set_option maxRecDepth 100000
open List renaming mem_cons_of_mem → mM, mem_cons_self → mS_, getElem?_eq_getElem → gG, length_cons → lC_, length_map → lM_, length_append → lA_, getElem?_map → gM_, map_cons → mC_, mem_append → mA_, length_range → lR_, length_nil → lN_, size_toArray → sT_, mem_range → mR_, mem_map → mP_, map_map → mm_, replicate_succ → rS_, length_set → lS_, not_mem_nil → nN_, append_assoc → aA_, getElem?_eq_some_iff → gI_, flatMap_cons → fC_, foldl_cons → fo_, mem_singleton → ms_, mem_append_right → mr_, filter_cons → ft_
namespace L2
open PySem PySem.Spec PyProof.Rows
abbrev Key:=Sum Int Str
def qkk:Key->Value->Bool
 | .inl k,v=>Value.isInt k v
 | .inr x,v=>Value.isStrOf x v
def qnW (w:World):Key->Int
 | .inl k=>hashInt k
 | .inr x=>hashStr w x
theorem zi:∀ {k:Key} {v:Value},qkk k v=true->(∃ i t,k=Sum.inl i/\v=Value.int i t)\/(∃ x t,k=Sum.inr x/\v=Value.str x t)
 | .inl i,v,h=>by
  obtain ⟨t,e⟩:=Value.isInt_shape (k:=i) (v:=v) h
  exact .inl ⟨i,t,rfl,e⟩
 | .inr x,v,h=>by
  obtain ⟨t,e⟩:=Value.isStrOf_shape (x:=x) (v:=v) h
  exact .inr ⟨x,t,rfl,e⟩
theorem qkl (a b:Int):decide ((Sum.inl a:Key)=Sum.inl b)=(a==b):=by
 by_cases e:a=b
 ·subst e;simp
 ·have h:¬ (Sum.inl a:Key)=Sum.inl b:=fun q=>e (Sum.inl.inj q)
  rw [decide_eq_false h]
  exact (beq_eq_false_iff_ne.mpr e).symm
theorem qkm (a b:Str):decide ((Sum.inr a:Key)=Sum.inr b)=decide (a=b):=by
 by_cases e:a=b
 ·subst e;simp
 ·have h:¬ (Sum.inr a:Key)=Sum.inr b:=fun q=>e (Sum.inr.inj q)
  rw [decide_eq_false h,decide_eq_false e]
theorem qkn (a:Int) (b:Str):decide ((Sum.inl a:Key)=Sum.inr b)=false:=decide_eq_false (fun q=>nomatch q)
theorem qko (a:Str) (b:Int):decide ((Sum.inr a:Key)=Sum.inl b)=false:=decide_eq_false (fun q=>nomatch q)
def qaO (prog:Program) (w:World):PySem.KeyKind prog w Key where
 is:=qkk
 hash:=qnW w
 inj:=fun v a b ha hb=>by
  rcases zi ha with ⟨i,t,rfl,rfl⟩ | ⟨x,t,rfl,rfl⟩
  ·rcases zi hb with ⟨j,u,rfl,e⟩ | ⟨y,u,rfl,e⟩
   ·injection e with e1 _;rw [e1]
   ·exact nomatch e
  ·rcases zi hb with ⟨j,u,rfl,e⟩ | ⟨y,u,rfl,e⟩
   ·exact nomatch e
   ·injection e with e1 _;rw [e1]
 byValue:=fun k v h=>by
  rcases zi h with ⟨i,t,rfl,rfl⟩ | ⟨x,t,rfl,rfl⟩<;>rfl
 pyHash:=fun hv h=>by
  rcases zi hv with ⟨i,t,rfl,rfl⟩ | ⟨x,t,rfl,rfl⟩
  ·exact wpAny_pyHash_int h
  ·exact wpAny_pyHash_str h
 eqBool:=fun hu hv h=>by
  rcases zi hu with ⟨i,t,rfl,rfl⟩ | ⟨x,t,rfl,rfl⟩
  ·rcases zi hv with ⟨j,u,rfl,rfl⟩ | ⟨y,u,rfl,rfl⟩
   ·rw [qkl] at h;exact wpAny_eqBool_int h
   ·rw [qkn] at h;exact SeqAt.EqAt.int_str i t y u _ _ _ _ h
  ·rcases zi hv with ⟨j,u,rfl,rfl⟩ | ⟨y,u,rfl,rfl⟩
   ·rw [qko] at h;exact SeqAt.EqAt.str_int x t j u _ _ _ _ h
   ·rw [qkm] at h;exact wpAny_eqBool_str h
 «strs»:=fun k x t v h=>by
  rcases zi h with ⟨i,u,rfl,e⟩ | ⟨y,u,rfl,e⟩
  ·exact nomatch e
  ·injection e with e1 _
   subst e1
   cases v<;>rfl
end L2
namespace L2
open PySem PySem.Spec PyProof.Rows
inductive V where
 | non | bl (b:Bool) | int (i:Int) | str (x:Str) | byt (b:Array UInt8) | flt (b:UInt64) | ref (a:Addr) | ty (n:String)
 deriving DecidableEq
def z9:V->Value->Prop
 | .non,u=>u=Value.none
 | .bl b,u=>u=Value.bool b
 | .int i,u=>∃ t,u=Value.int i t
 | .str x,u=>∃ t,u=Value.str x t
 | .byt b,u=>∃ t,u=Value.bytes b t
 | .flt b,u=>∃ t,u=Value.float b t
 | .ref a,u=>u=Value.ref a
 | .ty n,u=>u=Value.type n
abbrev qT:List V->List Value->Prop:=Paired z9
theorem qT.length {xs:List V} {us:List Value} (r:qT xs us):xs.length=us.length:=Paired.length r
theorem qT.get:∀ {xs:List V} {us:List Value} {i:Nat} {x:V},qT xs us->xs[i]? = some x->∃ u,us[i]? = some u/\z9 x u
 | _,_,_,_,.nil,e=>by simp at e
 | _,_,0,_,.cons r _,e=>by simp at e;subst e;exact ⟨_,rfl,r⟩
 | _,_,i+1,x,.cons _ t,e=>by
  obtain ⟨u,h1,h2⟩:=qT.get (i:=i) (x:=x) t (by simpa using e)
  exact ⟨u,by simpa using h1,h2⟩
theorem qT.set {x:V} {u:Value} (r:z9 x u):∀ {xs:List V} {us:List Value} (i:Nat),qT xs us->qT (xs.set i x) (us.set i u)
 | _,_,_,.nil => .nil
 | _,_,0,.cons _ t => .cons r t
 | _,_,i+1,.cons q t => .cons q (qT.set r i t)
theorem qT.append:∀ {xs ys:List V} {us ws:List Value},qT xs us->qT ys ws->qT (xs++ys) (us++ws)
 | _,_,_,_,.nil,s=>s
 | _,_,_,_,.cons r t,s => .cons r (qT.append t s)
theorem qT.take:∀ {xs:List V} {us:List Value} (n:Nat),qT xs us->qT (xs.take n) (us.take n)
 | _,_,0,_ => .nil
 | _,_,_+1,.nil => .nil
 | _,_,n+1,.cons r t => .cons r (qT.take n t)
theorem qT.drop:∀ {xs:List V} {us:List Value} (n:Nat),qT xs us->qT (xs.drop n) (us.drop n)
 | _,_,0,r=>r
 | _,_,_+1,.nil => .nil
 | _,_,n+1,.cons _ t=>qT.drop n t
def qmA:Option V->Option Value->Prop
 | some v,some u=>z9 v u
 | none,none=>True
 | _,_=>False
def KV {κ:Type}:List (κ×V)->List (κ×Value)->Prop:=Paired fun (p:κ×V) (q:κ×Value)=>p.1=q.1/\z9 p.2 q.2
def kV:Key->V
 | .inl i => .int i
 | .inr x => .str x
inductive HO where
 /-- a list -/
 | lst (xs:List V)
 /-- a tuple (never changes) -/
 | tup (xs:List V)
 /-- a dict whose keys are ints and texts;one whose keys are tuples of ints and texts (the empty one is both) -/
 | dK (kvs:List (Key×V)) | dT (kvs:List (List Key×V))
 /-- a set of ints: its members,its size -/
 | set (S:Int->Bool) (n:Nat)
 /-- an instance of the class at C,its dict at dx,its attributes -/
 | ins (C dx:Addr) (fs:List (Str×V))
 /-- the dict of the instance at x -/
 | own (x:Addr)
 /-- the dict of an exception -/
 | xd (fs:List (Str×V))
 /-- a bound method,f of x -/
 | met (f x:Addr)
 /-- a range object lo,lo+1,.. below hi -/
 | rng (lo hi:Int)
 /-- a thing that is known to the object (the script;a dict while a loop walks it): read,never written while it is so -/
 | frz (o:Obj) (u:HO)
 /-- a code object's table -/
 | tbl (ps:Array Value)
 /-- any other thing,by what is true of its one object (a def of one's own: SetO a S n:=HO.ext fun h => ..) -/
 | ext (φ:Heap->Prop)
 /-- the table of a code object in which at most one lambda's code stands -/
 | lam (pos:Pos) (q:Str)
abbrev Hp:=Addr->Option HO
def upd (H:Hp) (a:Addr) (o:HO):Hp:=fun b=>if b=a then some o else H b
theorem qk {H:Hp} {a:Addr} {o:HO}:upd H a o a=some o:=by unfold upd;rw [if_pos rfl]
theorem qj {H:Hp} {a b:Addr} {o:HO} (h:b≠a):upd H a o b=H b:=by unfold upd;rw [if_neg h]
theorem uR {H:Hp} {a b:Addr} {o u:HO} (h:H a=some o) (h':H b=some u) (d:o≠u):a≠b:=by
 intro e;subst e;rw [h] at h';exact d (Option.some.inj h')
theorem qE {H:Hp} {a b:Addr} {o:HO} (h:H a=some o) (h':H b=none):a≠b:=by
 intro e;subst e;rw [h] at h';cases h'
section
variable (P:Program) (w:World)
def j8 (H:Hp) (h:Heap) (a:Addr):HO->Prop
 | .lst xs=>xs.length<=sizeLine/\∃ (its:List Value) (n:Nat),qT xs its/\h.get? a=some { cls := .type "list",data := .seq its.toArray n }
 | .tup xs=>xs.length<=sizeLine/\∃ its:List Value,qT xs its/\IsTup h a its.toArray
 | .dK kvs=>kvs.length<=sizeLine/\(a==sysModules)=false/\∃ vs,KV kvs vs/\h.DictOf (qaO P w) a vs
 | .dT kvs=>kvs.length<=sizeLine/\(a==sysModules)=false/\∃ xs:List (List Key×Addr×Value),
   Paired (fun (p:List Key×V) (q:List Key×Addr×Value)=>p.1=q.1/\H q.2.1=some (.tup (p.1.map kV))/\z9 p.2 q.2.2) kvs xs /\
   ∃ o es ep,h.get? a=some o/\o.ExactDict/\o.data = .dict es ep/\es.toList=xs.map (entryOfKey (tupleKind (qaO P w)))/\(xs.map (·.1)).Nodup
 | .set S n=>h.SetOf (intKind P w) a S n
 | .ins C dx fs=>H dx=some (.own a)/\fs.length<=1000/\dx≠a/\h.get? a=some (PySem.W.instObj C dx) /\
   ∃ mA,h.Ns1 dx mA/\(∀ f,qmA (fs.lookup f) (mA f))/\PySem.Within mA (fs.map (·.1))
 | .own _=>∃ o,h.get? a=some o
 | .xd fs=>∃ mA,h.Ns1 a mA/\∀ f,qmA (fs.lookup f) (mA f)
 | .rng lo hi=>∃ t u v,h.get? a=some { cls := .type "range",data := .fields #[.int lo t,.int hi u,.int 1 v] }
 | .frz o u=>h.get? a=some o/\j8 H h a u
 | .tbl ps=>h.get? a=some { cls := .none,data := .fields ps }
 | .met f x=>h.get? a=some (PySem.W.methodObj (.ref f) (.ref x))
 | .lam pos q=>h.get? a=some { cls := .none,data := .fields #[] }\/∃ (c:Addr) (oc:Obj) (vs:Array Value) (t:Tok),H c=some (.frz oc (.own c))/\oc.data = .fields vs/\vs[1]? = some (.str q t) /\
   h.get? a=some { cls := .none,data := .fields #[rawInt pos.line,rawInt pos.col,.ref c] }
 | .ext φ=>φ h/\(∃ o,h.get? a=some o)/\∀ h1 h2:Heap,φ h1->(∀ o,h1.get? a=some o->h2.get? a=some o)->φ h2
def HOk (H:Hp) (h:Heap):Prop:=∀ a o,H a=some o->j8 P w H h a o
end
section
variable {P:Program} {w:World} {H H':Hp} {h h':Heap} {a:Addr} {o:HO}
theorem j8.lt (x:j8 P w H h a o):a<h.objs.size:=by
 cases o with
 | lst xs=>obtain ⟨_,_,_,_,e⟩:=x;exact Heap.lt_size e
 | tup xs=>obtain ⟨_,_,_,p⟩:=x;exact p.lt
 | dK kvs=>obtain ⟨_,_,_,_,o,_,_,e,_⟩:=x;exact Heap.lt_size e
 | dT kvs=>obtain ⟨_,_,_,_,o,_,_,e,_⟩:=x;exact Heap.lt_size e
 | set S n=>obtain ⟨o,_,_,_,e,_⟩:=x;exact Heap.lt_size e
 | ins C dx fs=>obtain ⟨_,_,_,e,_⟩:=x;exact Heap.lt_size e
 | own y=>obtain ⟨_,e⟩:=x;exact Heap.lt_size e
 | xd fs=>obtain ⟨_,⟨_,_,_,e,_⟩,_⟩:=x;exact Heap.lt_size e
 | rng lo hi=>obtain ⟨_,_,_,e⟩:=x;exact Heap.lt_size e
 | frz ob u=>obtain ⟨e,_⟩:=x;exact Heap.lt_size e
 | tbl ps=>exact Heap.lt_size (show h.get? a=some _ from x)
 | met f y=>exact Heap.lt_size (show h.get? a=some _ from x)
 | ext φ=>obtain ⟨_,⟨_,e⟩,_⟩:=x;exact Heap.lt_size e
 | lam pos q =>
  rcases x with e | ⟨_,_,_,_,_,_,_,e⟩
  ·exact Heap.lt_size e
  ·exact Heap.lt_size e
theorem Paired.mapP {α β:Type} {F G:α->β->Prop}:∀ {lQ:List α} {lK:List β},Paired F lQ lK->(∀ a b,F a b->G a b)->Paired G lQ lK
 | _,_,.nil,_ => .nil
 | _,_,.cons r t,f => .cons (f _ _ r) (Paired.mapP t f)
theorem j8.stay (x:j8 P w H h a o) (k:∀ b u,(b=a\/H b=some (.own a))->h.get? b=some u->h'.get? b=some u)
  (ho:∀ b,H b=some (.own a)->H' b=some (.own a)) (ht:∀ b xs,H b=some (.tup xs)->H' b=some (.tup xs)) (hz:∀ b ob u,H b=some (.frz ob u)->H' b=some (.frz ob u):=by exact fun _ _ _ q=>q):j8 P w H' h' a o:=by
 induction o with
 | lst xs=>obtain ⟨z,its,n,r,e⟩:=x;exact ⟨z,its,n,r,k _ _ (.inl rfl) e⟩
 | tup xs=>obtain ⟨z,its,r,ob,e,c⟩:=x;exact ⟨z,its,r,ob,k _ _ (.inl rfl) e,c⟩
 | dK kvs=>obtain ⟨z,y,vs,r,ob,es,ep,e,c⟩:=x;exact ⟨z,y,vs,r,ob,es,ep,k _ _ (.inl rfl) e,c⟩
 | dT kvs =>
  obtain ⟨z,y,xs,r,ob,es,ep,e,c⟩:=x
  exact ⟨z,y,xs,Paired.mapP r fun p q z=>⟨z.1,ht _ _ z.2.1,z.2.2⟩,ob,es,ep,k _ _ (.inl rfl) e,c⟩
 | set S n=>obtain ⟨ob,es,ep,t,e,c⟩:=x;exact ⟨ob,es,ep,t,k _ _ (.inl rfl) e,c⟩
 | ins C dx fs =>
  obtain ⟨d,z,ne,e,mA,⟨od,es,ep,e2,c⟩,r⟩:=x
  exact ⟨ho _ d,z,ne,k _ _ (.inl rfl) e,mA,⟨od,es,ep,k _ _ (.inr d) e2,c⟩,r⟩
 | own y=>obtain ⟨ob,e⟩:=x;exact ⟨ob,k _ _ (.inl rfl) e⟩
 | xd fs=>obtain ⟨mA,⟨od,es,ep,e,c⟩,r⟩:=x;exact ⟨mA,⟨od,es,ep,k _ _ (.inl rfl) e,c⟩,r⟩
 | rng lo hi=>obtain ⟨t,u,v,e⟩:=x;exact ⟨t,u,v,k _ _ (.inl rfl) e⟩
 | frz ob u ih=>obtain ⟨e,q⟩:=x;exact ⟨k _ _ (.inl rfl) e,ih q⟩
 | tbl ps =>
  have e:h.get? a=some { cls := .none,data := .fields ps }:=x
  show h'.get? a=some { cls := .none,data := .fields ps }
  exact k a _ (.inl rfl) e
 | met f y =>
  have e:h.get? a=some (PySem.W.methodObj (.ref f) (.ref y)):=x
  show h'.get? a=some (PySem.W.methodObj (.ref f) (.ref y))
  exact k a _ (.inl rfl) e
 | ext φ=>obtain ⟨p,⟨o,e⟩,st⟩:=x;exact ⟨st _ _ p fun o q=>k _ _ (.inl rfl) q,⟨o,k _ _ (.inl rfl) e⟩,st⟩
 | lam pos q =>
  rcases x with e | ⟨c,oc,vs,t,h1,h2,h3,e⟩
  ·exact .inl (k _ _ (.inl rfl) e)
  ·exact .inr ⟨c,oc,vs,t,hz _ _ _ h1,h2,h3,k _ _ (.inl rfl) e⟩
theorem HOk.lt (x:HOk P w H h) (e:H a=some o):a<h.objs.size:=(x a o e).lt
theorem HOk.fresh (x:HOk P w H h) (e:h.objs.size<=a):H a=none:=by
 cases q:H a with
 | none=>rfl
 | some u=>exact absurd (Nat.lt_of_lt_of_le (x.lt q) e) (Nat.lt_irrefl _)
theorem HOk.kept (x:HOk P w H h) (k:∀ b u,h.get? b=some u->h'.get? b=some u):HOk P w H h':=fun a o e =>
 (x a o e).stay (fun b u _ q=>k b u q) (fun _ q=>q) fun _ _ q=>q
theorem HOk.laid (x:HOk P w H h) (k:∀ b u,h.get? b=some u->h'.get? b=some u) (hp:h.objs.size<=a) (new:j8 P w (upd H a o) h' a o):HOk P w (upd H a o) h':=fun b u e=>by
 have hn:=x.fresh hp
 by_cases hb:b=a
 ·subst hb;rw [qk] at e;cases e;exact new
 ·rw [qj hb] at e
  exact (x b u e).stay (fun c v _ q=>k c v q) (fun c q=>by rw [qj (qE q hn)];exact q) (fun c xs q=>by rw [qj (qE q hn)];exact q) fun c ob z q=>by rw [qj (qE q hn)];exact q
end
def Rd (H:Hp) (a:Addr) (u:HO):Prop:=H a=some u\/∃ o,H a=some (.frz o u)
theorem Rd.ok {P:Program} {w:World} {H:Hp} {h:Heap} {a:Addr} {u:HO} (r:Rd H a u) (x:HOk P w H h):j8 P w H h a u:=by
 rcases r with r | ⟨o,r⟩
 ·exact x a u r
 ·obtain ⟨_,q⟩:=x a _ r
  exact q
def Mut:Option HO->Prop
 | some (.lst _)=>True
 | some (.dK _)=>True
 | some (.dT _)=>True
 | some (.set _ _)=>True
 | some (.ins _ _ _)=>True
 | some (.ext _)=>True
 | _=>False
section
variable {P:Program} {w:World} {H:Hp} {h h':Heap} {x e:Addr} {o':HO}
theorem HOk.write (ok:HOk P w H h) (mu:Mut (H x)) (he:e=x\/H e=some (.own x)) (k:∀ b u,b≠e->h.get? b=some u->h'.get? b=some u) (heo:∃ u,h'.get? e=some u)
  (new:j8 P w (upd H x o') h' x o'):HOk P w (upd H x o') h':=fun b u q=>by
 have nown:∀ c y,H c=some (.own y)->c≠x:=fun c y r z=>by subst z;rw [r] at mu;exact mu
 have ntup:∀ c xs,H c=some (.tup xs)->c≠x:=fun c xs r z=>by subst z;rw [r] at mu;exact mu
 have nfrz:∀ c ob y,H c=some (.frz ob y)->c≠x:=fun c ob y r z=>by subst z;rw [r] at mu;exact mu
 by_cases hb:b=x
 ·subst hb;rw [qk] at q;cases q;exact new
 ·rw [qj hb] at q
  by_cases hbe:b=e
  ·have q':H b=some (.own x):=by
    rcases he with z | z
    ·exact absurd (hbe.trans z) hb
    ·rw [hbe];exact z
   rw [q] at q';cases q'
   obtain ⟨v,hv⟩:=heo
   exact ⟨v,by rw [hbe];exact hv⟩
  ·refine (ok b u q).stay (fun c v hc r=>k c v ?_ r) (fun c r=>by rw [qj (nown c b r)];exact r) (fun c xs r=>by rw [qj (ntup c xs r)];exact r) fun c ob z r=>by rw [qj (nfrz c ob z r)];exact r
   rcases hc with rfl | hc
   ·exact hbe
   ·rintro rfl
    rcases he with z | z
    ·exact nown c b hc z
    ·rw [hc] at z;cases z;exact hb rfl
end
structure Un (fs ex:List Addr) (H H':Hp) (h h':Heap):Prop where
 keep:∀ b o,h.get? b=some o->H b=none->b ∉ fs->b ∉ ex->h'.get? b=some o
 slot:∀ b o,h.get? b=some o->H b=none->b∈fs->b ∉ ex->∃ sl,h'.get? b=some { o with slots:=sl }
 free:∀ b o,h.get? b=some o->H b=none->b ∉ ex->H' b=none
 there:∀ b o,h.get? b=some o->b ∉ ex->∃ o',h'.get? b=some o'
 tups:∀ b xs,H b=some (.tup xs)->H' b=some (.tup xs)
 frzs:∀ b o u,H b=some (.frz o u)->H' b=some (.frz o u)
 tbls:∀ b pos q,H b=some (.lam pos q)->H' b=some (.lam pos q)
section
variable {fs fs' ex ex':List Addr} {H H1 H2:Hp} {h h1 h2 h':Heap} {a x e:Addr} {o:HO}
theorem Un.any (u:Un fs ex H H1 h h1) {b:Addr} {ob:Obj} (q:h.get? b=some ob) (n:H b=none) (hx:b ∉ ex):∃ sl,h1.get? b=some { ob with slots:=sl }:=by
 by_cases hb:b∈fs
 ·exact u.slot b ob q n hb hx
 ·exact ⟨ob.slots,u.keep b ob q n hb hx⟩
theorem Un.trans (a:Un fs ex H H1 h h1) (b:Un fs ex H1 H2 h1 h2):Un fs ex H H2 h h2 where
 keep:=fun c ob q n hc hx=>b.keep c ob (a.keep c ob q n hc hx) (a.free c ob q n hx) hc hx
 slot:=fun c ob q n hc hx=>by
  obtain ⟨sl,e1⟩:=a.slot c ob q n hc hx
  obtain ⟨sl',e2⟩:=b.slot c _ e1 (a.free c ob q n hx) hc hx
  exact ⟨sl',e2⟩
 free:=fun c ob q n hx=>by
  obtain ⟨o',e1⟩:=a.there c ob q hx
  exact b.free c o' e1 (a.free c ob q n hx) hx
 there:=fun c ob q hx=>by
  obtain ⟨o',e1⟩:=a.there c ob q hx
  exact b.there c o' e1 hx
 tups:=fun c xs q=>b.tups c xs (a.tups c xs q)
 frzs:=fun c ob xs q=>b.frzs c ob xs (a.frzs c ob xs q)
 tbls:=fun c ps x q=>b.tbls c ps x (a.tbls c ps x q)
theorem Un.kept (k:∀ b u,h.get? b=some u->h'.get? b=some u):Un fs ex H H h h' :=
 ⟨fun b ob q _ _ _=>k b ob q,fun b ob q _ _ _=>⟨ob.slots,k b ob q⟩,fun _ _ _ n _=>n,fun b ob q _=>⟨ob,k b ob q⟩,fun _ _ q=>q,fun _ _ _ q=>q,fun _ _ _ q=>q⟩
theorem Un.refl:Un fs ex H H h h:=Un.kept fun _ _ q=>q
theorem Un.laid (k:∀ b u,h.get? b=some u->h'.get? b=some u) (hp:h.objs.size<=a) (hn:H a=none):Un fs ex H (upd H a o) h h' where
 keep:=fun b u q _ _ _=>k b u q
 slot:=fun b u q _ _ _=>⟨u.slots,k b u q⟩
 free:=fun b u q n _=>by rw [qj (Nat.ne_of_lt (Nat.lt_of_lt_of_le (Heap.lt_size q) hp))];exact n
 there:=fun b u q _=>⟨u,k b u q⟩
 tups:=fun b xs q=>by rw [qj (qE q hn)];exact q
 frzs:=fun b u xs q=>by rw [qj (qE q hn)];exact q
 tbls:=fun b ps x q=>by rw [qj (qE q hn)];exact q
theorem Un.write (mu:Mut (H x)) (he:e=x\/H e=some (.own x)) (k:∀ b u,b≠e->h.get? b=some u->h'.get? b=some u) (heo:∃ u,h'.get? e=some u):Un fs ex H (upd H x o) h h':=by
 have hx:∀ b,H b=none->b≠x:=fun b n z=>by subst z;rw [n] at mu;exact mu
 have hb:∀ b,H b=none->b≠e:=fun b n z=>by
  subst z
  rcases he with r | r
  ·exact hx b n r
  ·rw [n] at r;cases r
 have hm:∀ b u,H b=some u->¬ Mut (some u)->b≠x:=fun b u q nm z=>by subst z;rw [q] at mu;exact nm mu
 refine ⟨fun b u q n _ _=>k b u (hb b n) q,fun b u q n _ _=>⟨u.slots,k b u (hb b n) q⟩,fun b u q n _=>by rw [qj (hx b n)];exact n,fun b u q _ => ?_,
  fun b xs q=>by rw [qj (hm b _ q fun z=>z)];exact q,fun b u xs q=>by rw [qj (hm b _ q fun z=>z)];exact q,fun b ps x q=>by rw [qj (hm b _ q fun z=>z)];exact q⟩
 by_cases hbe:b=e
 ·subst hbe;exact heo
 ·exact ⟨u,k b u hbe q⟩
end
def trk (h:Heap) (H:Hp):List Addr:=(List.range h.objs.size).filter fun a=>(H a).isSome
def qgu (h:Heap) (H:Hp):Heap:=PySem.W.hideAll h (trk h H)
theorem qeC (h:Heap) (H:Hp):(qgu h H).objs.size=h.objs.size:=PySem.W.hideAll_size _ _
theorem qgv {h:Heap} {H:Hp} {b:Addr} {o:Obj} (e:h.get? b=some o) (n:H b=none):(qgu h H).get? b=some o :=
 PySem.W.hideAll_get _ e fun hm=>by
  have q:(H b).isSome=true:=(List.mem_filter.mp hm).2
  rw [n] at q;simp at q
theorem qiN {h:Heap} {H:Hp} {b:Addr} {o:Obj} (e:(qgu h H).get? b=some o):h.get? b=some o/\H b=none:=by
 have e':h.get? b=some o:=PySem.W.of_hideAll (trk h H) e
 refine ⟨e',?_⟩
 cases q:H b with
 | none=>rfl
 | some x =>
  have hm:b∈trk h H:=List.mem_filter.mpr ⟨mR_.mpr (Heap.lt_size e'),by simp [q]⟩
  have z:(qgu h H).get? b=none:=PySem.W.hideAll_none (trk h H) hm
  rw [z] at e;cases e
def qiO (g h:Heap) (L:Addr):List (Addr×Obj):=(List.range h.objs.size).filterMap fun a=>if a=L\/(g.get? a).isSome=true then none else (h.get? a).map fun o=>(a,o)
def vZ (g h:Heap) (L d:Addr):List (Addr×Obj):=(qiO g h L).filter fun p=>decide (p.1≠d)
end L2
namespace L2
open PySem PySem.Spec PyProof.Rows
structure Mod (K:PySem.W.Frag) (mg:Str->Option Value) (base:Heap):Prop where
 kin:K.In base
 glob:base.Ns mainGlobals mg
 blt:∃ mb,base.Ns builtinsNs mb/\∀ x:Str,x≠"__name__"->mb x=bootBuiltins x
 nolimit:base.NoLimit
 bm:∃ bm ob,mg "__builtins__"=some (.ref bm)/\bm≠builtinsNs/\base.get? bm=some ob/\ob.cls = .type "module"/\ob.dict=some builtinsNs/\ob.data = .plain
structure Cx where
 prog:Program
 w:World
 K:PySem.W.Frag
 mg:Str->Option Value
 base:Heap
 A:Around
 N:List Str
 s₀:Shared
 H₀:Hp
 env:Env
 outer:List Env
 stack:List Env
 ex:List Addr
 fn:Str->Bool
 calm:Bool
 pn:List (Addr×Obj)
 xe:Value->Shared->Prop
def frs (l:List Env):List Addr:=l.filterMap (·.frame)
abbrev Cx.fs (X:Cx):List Addr:=frs X.outer
def Vis (sc:Scope) (x:Str):Prop:=sc.names.lookup x=some .local\/sc.names.lookup x=some .cell\/sc.names.lookup x=some .free
def Loc (sc:Scope) (x:Str):Prop:=sc.names.lookup x=some .local\/sc.names.lookup x=some .cell
def qnX (env:Env) (h:Heap) (m:Str->Option Value) (x:Str) (u:Value):Prop :=
 (env.kindOf x=some .local/\m x=some u)\/((env.kindOf x=some .cell\/env.kindOf x=some .free)/\∃ c,env.cells.lookup x=some c/\h.IsCell c (some u))
structure Cx.Ok (X:Cx):Prop where
 mod:Mod X.K X.mg X.base
 kind:X.env.scope.kind = .function
 glob:X.env.globals=mainGlobals
 blt:X.env.builtins=builtinsNs
 above:X.s₀.heap.objs.size<=X.env.locals
 inj:∀ x y c,X.env.cells.lookup x=some c->X.env.cells.lookup y=some c->x=y
 has:∀ x,(X.env.kindOf x=some .cell\/X.env.kindOf x=some .free)->∃ c,X.env.cells.lookup x=some c
 cab:∀ x c,X.fn x=true->X.env.cells.lookup x=some c->X.s₀.heap.objs.size<=c
 hd:X.calm=true->X.A.handled=none
 frames:X.A.frames=some X.stack
 stk:X.stack=X.outer\/(X.stack=X.env::X.outer/\X.env.frame=some X.env.locals)
 exf:∀ b∈X.ex,b≠X.env.locals/\∀ x c,X.env.cells.lookup x=some c->c≠b
 bs:∀ b o,X.base.get? b=some o->X.s₀.heap.get? b=some o/\X.H₀ b=none
 bsz:X.base.objs.size<=X.s₀.heap.objs.size
 noex:∀ b o,X.base.get? b=some o->b ∉ X.ex
 exfs:∀ b∈X.ex,b ∉ X.fs
 funs:X.s₀.heap.FunFrames X.base X.outer
 frf:∀ b∈X.fs,X.H₀ b=none
structure Inv (X:Cx) (pins:List (Addr×Obj)) (Z:List (Option V)) (H:Hp) (s:Shared):Prop where
 ok:X.Ok
 os:s.os=X.s₀.os
 bare:AllBare s.gens
 base:Un X.fs X.ex X.H₀ H X.s₀.heap s.heap
 loc:∃ m,s.heap.Ns X.env.locals m/\∀ (i:Nat) (x:Str) (v:V),X.N[i]? = some x->Z[i]? = some (some v)->Vis X.env.scope x->∃ u,z9 v u/\qnX X.env s.heap m x u
 cell:∀ x c,X.env.cells.lookup x=some c->∃ v,s.heap.IsCell c v
 free:H X.env.locals=none
 freeC:∀ x c,X.env.cells.lookup x=some c->H c=none
 pin:∀ p∈X.pn++pins,s.heap.get? p.1=some p.2/\H p.1=none/\p.1≠X.env.locals/\p.1 ∉ X.fs/\∀ v,p.2.data ≠ .cell v
 hok:HOk X.prog X.w H s.heap
 len:Z.length=X.N.length
section
variable {X:Cx} {pins:List (Addr×Obj)} {Z:List (Option V)} {H H':Hp} {s:Shared} {h':Heap}
theorem Cx.Ok.nofr (ok:X.Ok) {b:Addr} {o:Obj} (e:X.base.get? b=some o):b ∉ X.fs:=fun hb=>by
 have:=(ok.funs.mem hb).1
 rw [e] at this;cases this
theorem Inv.bs (I:Inv X pins Z H s):∀ b o,X.base.get? b=some o->s.heap.get? b=some o/\H b=none:=fun b o e =>
 ⟨I.base.keep b o (I.ok.bs b o e).1 (I.ok.bs b o e).2 (I.ok.nofr e) (I.ok.noex b o e),I.base.free b o (I.ok.bs b o e).1 (I.ok.bs b o e).2 (I.ok.noex b o e)⟩
theorem Inv.bk (I:Inv X pins Z H s):∀ b o,X.base.get? b=some o->s.heap.get? b=some o:=fun b o e=>(I.bs b o e).1
theorem Inv.mod (I:Inv X pins Z H s):Mod X.K X.mg X.base:=I.ok.mod
theorem Inv.kIn (I:Inv X pins Z H s):X.K.In s.heap:=I.ok.mod.kin.keeps I.bk
theorem Inv.lt (I:Inv X pins Z H s):X.env.locals<s.heap.objs.size:=let ⟨_,hn,_⟩:=I.loc;hn.lt
theorem Inv.sz (I:Inv X pins Z H s):X.s₀.heap.objs.size<=s.heap.objs.size:=Nat.le_trans I.ok.above (Nat.le_of_lt I.lt)
theorem Inv.nofs (I:Inv X pins Z H s) {a:Addr} (h:s.heap.objs.size<=a):a ∉ X.fs:=fun hb=>by
 obtain ⟨_,o,ho,_⟩:=I.ok.funs.mem hb
 exact absurd (Nat.lt_of_lt_of_le (Heap.lt_size ho) (Nat.le_trans I.sz h)) (Nat.lt_irrefl _)
theorem Inv.cne (I:Inv X pins Z H s):∀ x c,X.env.cells.lookup x=some c->c≠X.env.locals:=fun x c e z=>by
 obtain ⟨v,o,ho,hd⟩:=I.cell x c e
 obtain ⟨m,⟨o',es,ep,ho',hd',_⟩,_⟩:=I.loc
 rw [z,ho'] at ho;cases ho;rw [hd'] at hd;cases hd
theorem Inv.funs (I:Inv X pins Z H s):s.heap.FunFrames X.base X.outer:=by
 have all:∀ (l:List Env),(∀ b∈frs l,b∈X.fs)->X.s₀.heap.FunFrames X.base l->s.heap.FunFrames X.base l:=by
  intro l
  induction l with
  | nil=>intro _ _;trivial
  | cons env r ih =>
   intro hs hl
   obtain ⟨hk,⟨L,o,hf,hn,ho,hd⟩,hr⟩:=hl
   have hL:L∈X.fs:=hs L (by unfold frs;rw [List.filterMap_cons,hf];exact mS_)
   obtain ⟨sl,e⟩:=I.base.slot L o ho (I.ok.frf L hL) hL fun z=>I.ok.exfs L z hL
   exact ⟨hk,⟨L,_,hf,hn,e,hd⟩,ih (fun b hb=>hs b (by unfold frs;rw [List.filterMap_cons,hf];exact mM _ hb)) hr⟩
 exact all X.outer (fun _ hb=>hb) I.ok.funs
theorem Inv.stack (I:Inv X pins Z H s):s.heap.FunFrames X.base X.stack:=by
 rcases I.ok.stk with e | ⟨e,hf⟩
 ·rw [e];exact I.funs
 ·rw [e]
  obtain ⟨m,hn,_⟩:=I.loc
  refine .cons (by rw [I.ok.kind];decide) hf hn ?_ I.funs
  exact Heap.get?_none_of_le (Nat.le_trans I.ok.bsz I.ok.above)
theorem Inv.stkSub (I:Inv X pins Z H s):∀ b∈frs X.stack,b∈X.env.locals::X.fs:=fun b hb=>by
 rcases I.ok.stk with e | ⟨e,hf⟩
 ·rw [e] at hb;exact mM _ hb
 ·rw [e] at hb
  unfold frs at hb
  rw [List.filterMap_cons,hf] at hb
  exact hb
theorem Inv.stkFree (I:Inv X pins Z H s):∀ b∈frs X.stack,H b=none:=fun b hb=>by
 rcases List.mem_cons.mp (I.stkSub b hb) with e | hb
 ·rw [e];exact I.free
 ·obtain ⟨_,o,ho,_⟩:=I.ok.funs.mem hb
  exact I.base.free b o ho (I.ok.frf b hb) fun z=>I.ok.exfs b z hb
theorem Inv.step {g':Array GenState} {t':Nat} {d':Drawn} {ch:List Addr} (I:Inv X pins Z H s)
  (hch:∀ b∈ch,(b∈X.ex\/X.s₀.heap.objs.size<=b)/\b≠X.env.locals/\(∀ x c,X.env.cells.lookup x=some c->c≠b)/\∀ p∈X.pn++pins,p.1≠b)
  (keep:∀ b o,b≠X.env.locals->b ∉ X.fs->b ∉ ch->s.heap.get? b=some o->H b=none->h'.get? b=some o)
  (slot:∀ b o,b≠X.env.locals->b∈X.fs->b ∉ ch->s.heap.get? b=some o->H b=none->∃ sl,h'.get? b=some { o with slots:=sl }) (free:∀ b o,b ∉ ch->s.heap.get? b=some o->H b=none->H' b=none)
  (there:∀ b o,b ∉ ch->s.heap.get? b=some o->∃ o',h'.get? b=some o')
  (tups:∀ b xs,H b=some (.tup xs)->H' b=some (.tup xs)) (frzs:∀ b o u,H b=some (.frz o u)->H' b=some (.frz o u)) (tbls:∀ b pos q,H b=some (.lam pos q)->H' b=some (.lam pos q))
  (ns:∀ m,s.heap.Ns X.env.locals m->h'.Ns X.env.locals m) (hok:HOk X.prog X.w H' h') (hg:AllBare g') :
  Inv X pins Z H' { s with heap:=h',gens:=g',drawn:=d',toks:=t' }:=by
 have neL:∀ b o,X.s₀.heap.get? b=some o->b≠X.env.locals:=fun b o e=>Nat.ne_of_lt (Nat.lt_of_lt_of_le (Heap.lt_size e) I.ok.above)
 have neC:∀ b o,X.s₀.heap.get? b=some o->b ∉ X.ex->b ∉ ch:=fun b o e hx hb=>by
  rcases (hch b hb).1 with z | z
  ·exact hx z
  ·exact absurd (Nat.lt_of_lt_of_le (Heap.lt_size e) z) (Nat.lt_irrefl _)
 have cellK:∀ x c,X.env.cells.lookup x=some c->∀ v,s.heap.IsCell c v->h'.IsCell c v:=fun x c e v ⟨o,ho,hd⟩=>by
  have nch:c ∉ ch:=fun z=>(hch c z).2.2.1 x c e rfl
  by_cases hc:c∈X.fs
  ·obtain ⟨sl,q⟩:=slot c o (I.cne x c e) hc nch ho (I.freeC x c e)
   exact ⟨_,q,hd⟩
  ·exact ⟨o,keep c o (I.cne x c e) hc nch ho (I.freeC x c e),hd⟩
 refine ⟨I.ok,I.os,hg,⟨fun b o e n hb hx => ?_,fun b o e n hb hx => ?_,fun b o e n hx => ?_,fun b o e hx => ?_,fun b xs e=>tups b xs (I.base.tups b xs e),fun b o xs e=>frzs b o xs (I.base.frzs b o xs e),fun b ps x e=>tbls b ps x (I.base.tbls b ps x e)⟩,?_,fun x c e => ?_,?_,fun x c e => ?_,fun p hp => ?_,hok,I.len⟩
 ·exact keep b o (neL b o e) hb (neC b o e hx) (I.base.keep b o e n hb hx) (I.base.free b o e n hx)
 ·obtain ⟨sl,e1⟩:=I.base.slot b o e n hb hx
  obtain ⟨sl',e2⟩:=slot b _ (neL b o e) hb (neC b o e hx) e1 (I.base.free b o e n hx)
  exact ⟨sl',e2⟩
 ·obtain ⟨o',e1⟩:=I.base.there b o e hx
  exact free b o' (neC b o e hx) e1 (I.base.free b o e n hx)
 ·obtain ⟨o',e1⟩:=I.base.there b o e hx
  exact there b o' (neC b o e hx) e1
 ·obtain ⟨m,hn,hl⟩:=I.loc
  refine ⟨m,ns m hn,fun i x v e1 e2 e3 => ?_⟩
  obtain ⟨u,r,l⟩:=hl i x v e1 e2 e3
  refine ⟨u,r,?_⟩
  rcases l with l | ⟨k,c,e,z⟩
  ·exact .inl l
  ·exact .inr ⟨k,c,e,cellK x c e _ z⟩
 ·obtain ⟨v,z⟩:=I.cell x c e
  exact ⟨v,cellK x c e v z⟩
 ·obtain ⟨m,⟨o,_,_,ho,_⟩,_⟩:=I.loc
  exact free _ o (fun z=>(hch _ z).2.1 rfl) ho I.free
 ·obtain ⟨v,o,ho,hd⟩:=I.cell x c e
  exact free c o (fun z=>(hch c z).2.2.1 x c e rfl) ho (I.freeC x c e)
 ·obtain ⟨e,n,ne,nf,d⟩:=I.pin p hp
  have nch:p.1 ∉ ch:=fun z=>(hch p.1 z).2.2.2 p hp rfl
  exact ⟨keep p.1 p.2 ne nf nch e n,free p.1 p.2 nch e n,ne,nf,d⟩
theorem Inv.un {t':Nat} (I:Inv X pins Z H s) (u:Un X.fs [] H H' s.heap h') (hok:HOk X.prog X.w H' h'):Inv X pins Z H' { s with heap:=h',toks:=t' }:=by
 obtain ⟨m,⟨o,es,ep,ho,r⟩,_⟩:=id I.loc
 obtain ⟨sl,hL⟩:=u.any ho I.free (by simp)
 exact I.step (g':=s.gens) (d':=s.drawn) (ch:=[]) (fun _ z=>nomatch z) (fun b o _ hb _ e n=>u.keep b o e n hb (by simp)) (fun b o _ hb _ e n=>u.slot b o e n hb (by simp)) (fun b o _ e n=>u.free b o e n (by simp)) (fun b o _ e=>u.there b o e (by simp)) u.tups u.frzs u.tbls (fun m' hm=>by
  obtain ⟨o',es',ep',ho',r'⟩:=hm
  rw [ho] at ho';cases ho'
  exact ⟨_,es',ep',hL,r'⟩) hok I.bare
theorem Inv.call {g':Array GenState} {t':Nat} {d':Drawn} {ch:List Addr} (I:Inv X pins Z H s) (u:Un (frs X.stack) ch H H' s.heap h') (hok:HOk X.prog X.w H' h') (hg:AllBare g')
  (hch:∀ b∈ch,(b∈X.ex\/X.s₀.heap.objs.size<=b)/\b≠X.env.locals/\(∀ x c,X.env.cells.lookup x=some c->c≠b)/\∀ p∈X.pn++pins,p.1≠b) :
  Inv X pins Z H' { s with heap:=h',gens:=g',drawn:=d',toks:=t' }:=by
 obtain ⟨m,⟨o,es,ep,ho,r⟩,_⟩:=id I.loc
 obtain ⟨sl,hL⟩:=u.any ho I.free fun z=>(hch _ z).2.1 rfl
 exact I.step (ch:=ch) hch (fun b o hL hb hc e n=>u.keep b o e n (fun z=>(List.mem_cons.mp (I.stkSub b z)).elim hL hb) hc) (fun b o _ _ hc e n=>u.any e n hc) (fun b o hc e n=>u.free b o e n hc) (fun b o hc e=>u.there b o e hc) u.tups u.frzs u.tbls (fun m' hm=>by
  obtain ⟨o',es',ep',ho',r'⟩:=hm
  rw [ho] at ho';cases ho'
  exact ⟨_,es',ep',hL,r'⟩) hok hg
theorem Inv.turned {t':Nat} {it:Addr} (I:Inv X pins Z H s) (k:∀ b o,b≠it->s.heap.get? b=some o->h'.get? b=some o) (hn:H it=none) (hL:it≠X.env.locals)
  (h1:it∈X.ex\/X.s₀.heap.objs.size<=it) (h2:∀ x c,X.env.cells.lookup x=some c->c≠it) (h3:∀ p∈X.pn++pins,p.1≠it):Inv X pins Z H { s with heap:=h',toks:=t' }:=by
 have nit:∀ b u,H b=some u->b≠it:=fun b u e z=>by rw [z,hn] at e;cases e
 refine I.step (g':=s.gens) (d':=s.drawn) (ch:=[it]) (fun b hb => ?_) (fun b o _ _ hc e _=>k b o (fun z=>hc (by simp [z])) e) (fun b o _ _ hc e _=>⟨o.slots,k b o (fun z=>hc (by simp [z])) e⟩) (fun _ _ _ _ n=>n)
  (fun b o hc e=>⟨o,k b o (fun z=>hc (by simp [z])) e⟩) (fun _ _ e=>e) (fun _ _ _ e=>e) (fun _ _ _ e=>e) (fun m hm => ?_) (fun b u e => ?_) I.bare
 ·have e:b=it:=by simpa using hb
  subst e
  exact ⟨h1,hL,h2,h3⟩
 ·obtain ⟨o,es,ep,ho,r⟩:=hm
  exact ⟨o,es,ep,k _ o (Ne.symm hL) ho,r⟩
 ·refine (I.hok b u e).stay (fun c v hc q=>k c v ?_ q) (fun _ q=>q) fun _ _ q=>q
  rcases hc with z | z
  ·rw [z];exact nit b u e
  ·exact nit c _ z
theorem Inv.tok (I:Inv X pins Z H s) (t:Nat):Inv X pins Z H { s with toks:=t }:=I.un (h':=s.heap) (t':=t) Un.refl I.hok
theorem Inv.kept {t':Nat} (I:Inv X pins Z H s) (k:∀ b u,s.heap.get? b=some u->h'.get? b=some u):Inv X pins Z H { s with heap:=h',toks:=t' }:=I.un (Un.kept k) (I.hok.kept k)
theorem Inv.laid {a:Addr} {o:HO} {t':Nat} (I:Inv X pins Z H s) (k:∀ b u,s.heap.get? b=some u->h'.get? b=some u) (hp:s.heap.objs.size<=a) (new:j8 X.prog X.w (upd H a o) h' a o) :
  Inv X pins Z (upd H a o) { s with heap:=h',toks:=t' }:=I.un (Un.laid k hp (I.hok.fresh hp)) (I.hok.laid k hp new)
theorem Inv.write {x e:Addr} {o:HO} {t':Nat} (I:Inv X pins Z H s) (mu:Mut (H x)) (he:e=x\/H e=some (.own x)) (k:∀ b u,b≠e->s.heap.get? b=some u->h'.get? b=some u) (heo:∃ u,h'.get? e=some u)
  (new:j8 X.prog X.w (upd H x o) h' x o):Inv X pins Z (upd H x o) { s with heap:=h',toks:=t' }:=I.un (Un.write mu he k heo) (I.hok.write mu he k heo new)
theorem Inv.pins_of {pins':List (Addr×Obj)} (I:Inv X pins Z H s) (h:∀ p∈pins',s.heap.get? p.1=some p.2/\H p.1=none/\p.1≠X.env.locals/\p.1 ∉ X.fs/\∀ v,p.2.data ≠ .cell v):Inv X pins' Z H s :=
 ⟨I.ok,I.os,I.bare,I.base,I.loc,I.cell,I.free,I.freeC,fun p hp=>(mA_.mp hp).elim (fun z=>I.pin p (List.mem_append_left _ z)) (h p),I.hok,I.len⟩
theorem qc3 {N:List Str} (hN:N.Nodup) {i j:Nat} {x:Str} (a:N[i]? = some x) (b:N[j]? = some x):i=j:=by
 obtain ⟨h1,e1⟩:=gI_.mp a
 obtain ⟨h2,e2⟩:=gI_.mp b
 exact (List.getElem_inj hN).mp (e1.trans e2.symm)
theorem qbz {M:Model} {A:Around} {E:Value->Shared->Prop} {i:Nat} {x:Str} {v:V} {u:Value} {Q:Unit->Shared->Prop} (I:Inv X pins Z H s) (hN:X.N.Nodup) (hi:X.N[i]? = some x) (hx:Loc X.env.scope x) (r:z9 v u)
  (h:∀ s',Inv X pins (Z.set i (some v)) H s'->(∃ a,Heap.SameBut a s.heap s'.heap/\(a=X.env.locals\/X.env.cells.lookup x=some a))->Q () s') (hf:X.fn x=true\/X.env.scope.names.lookup x=some .local:=by first | exact .inl rfl | exact .inr rfl | assumption):wpAny M A (storeName X.env x u) Q E s:=by
 obtain ⟨m,hn,hl⟩:=id I.loc
 have hcls:(X.env.scope.kind == .class||(X.env.scope.kind == .module&&X.env.locals != X.env.globals))=false:=by rw [I.ok.kind];rfl
 have hiσ:i<Z.length:=by rw [I.len];exact (gI_.mp hi).1
 have cne:=I.cne
 have tracked:∀ {a:Addr} {h':Heap},(∃ o,s.heap.get? a=some o/\H a=none)->Heap.SameBut a s.heap h'->HOk X.prog X.w H h':=fun {a h'} ha hs b ob e=>by
  obtain ⟨_,_,hfree⟩:=ha
  refine (I.hok b ob e).stay (fun c w' hc q=>(hs.2 c ?_).trans q) (fun _ q=>q) fun _ _ q=>q
  rintro rfl
  rcases hc with rfl | hc
  ·rw [hfree] at e;cases e
  ·rw [hfree] at hc;cases hc
 rcases hx with hk | hk
 ·refine wpAny_storeName_local hk hn (fun h' hn' hs => ?_) hcls
  obtain ⟨oL,_,_,hoL,_⟩:=id hn
  refine h _ ⟨I.ok,I.os,I.bare,⟨fun b o e n hb hx => ?_,fun b o e n hb hx => ?_,I.base.free,fun b o e hx => ?_,I.base.tups,I.base.frzs,I.base.tbls⟩,⟨_,hn',fun j y v' e1 e2 e3 => ?_⟩,fun y c e => ?_,I.free,I.freeC,fun p hp => ?_,tracked ⟨oL,hoL,I.free⟩ hs,by simpa using I.len⟩ ⟨_,hs,.inl rfl⟩
  ·exact (hs.2 b (Nat.ne_of_lt (Nat.lt_of_lt_of_le (Heap.lt_size e) I.ok.above))).trans (I.base.keep b o e n hb hx)
  ·obtain ⟨sl,e1⟩:=I.base.slot b o e n hb hx
   exact ⟨sl,(hs.2 b (Nat.ne_of_lt (Nat.lt_of_lt_of_le (Heap.lt_size e) I.ok.above))).trans e1⟩
  ·obtain ⟨o',e1⟩:=I.base.there b o e hx
   exact ⟨o',(hs.2 b (Nat.ne_of_lt (Nat.lt_of_lt_of_le (Heap.lt_size e) I.ok.above))).trans e1⟩
  ·by_cases hj:j=i
   ·subst hj
    rw [hi] at e1;cases e1
    rw [List.getElem?_set_self hiσ] at e2
    cases e2
    exact ⟨u,r,.inl ⟨hk,by simp⟩⟩
   ·rw [List.getElem?_set_ne (Ne.symm hj)] at e2
    obtain ⟨u',r',q⟩:=hl j y v' e1 e2 e3
    refine ⟨u',r',?_⟩
    rcases q with ⟨k,e⟩ | ⟨k,c,e,z⟩
    ·refine .inl ⟨k,?_⟩
     have:y≠x:=fun e=>hj (qc3 hN e1 (e▸hi))
     simp [this,e]
    ·exact .inr ⟨k,c,e,z.sameBut hs (cne y c e)⟩
  ·obtain ⟨w',z⟩:=I.cell y c e
   exact ⟨w',z.sameBut hs (cne y c e)⟩
  ·obtain ⟨e,n,ne,nf,d⟩:=I.pin p hp
   exact ⟨(hs.2 p.1 ne).trans e,n,ne,nf,d⟩
 ·have hfn:X.fn x=true:=by
   rcases hf with z | z
   ·exact z
   ·rw [z] at hk;cases hk
  obtain ⟨c,hc⟩:=I.ok.has x (.inl hk)
  obtain ⟨w',z⟩:=I.cell x c hc
  refine wpAny_storeName_cell I.ok.kind hk hc z (fun h' hc' hs => ?_)
  obtain ⟨oc,hoc,hocd⟩:=id z
  refine h { s with heap:=h' } ⟨I.ok,I.os,I.bare,⟨fun b o e n hb hx => ?_,fun b o e n hb hx => ?_,I.base.free,fun b o e hx => ?_,I.base.tups,I.base.frzs,I.base.tbls⟩,⟨m,hn.sameBut hs (Ne.symm (cne x c hc)),fun j y v' e1 e2 e3 => ?_⟩,fun y c' e => ?_,I.free,I.freeC,fun p hp => ?_,tracked ⟨oc,hoc,I.freeC x c hc⟩ hs,by simpa using I.len⟩ ⟨c,hs,.inr hc⟩
  ·exact (hs.2 b (Nat.ne_of_lt (Nat.lt_of_lt_of_le (Heap.lt_size e) (I.ok.cab x c hfn hc)))).trans (I.base.keep b o e n hb hx)
  ·obtain ⟨sl,e1⟩:=I.base.slot b o e n hb hx
   exact ⟨sl,(hs.2 b (Nat.ne_of_lt (Nat.lt_of_lt_of_le (Heap.lt_size e) (I.ok.cab x c hfn hc)))).trans e1⟩
  ·obtain ⟨o',e1⟩:=I.base.there b o e hx
   exact ⟨o',(hs.2 b (Nat.ne_of_lt (Nat.lt_of_lt_of_le (Heap.lt_size e) (I.ok.cab x c hfn hc)))).trans e1⟩
  ·by_cases hj:j=i
   ·subst hj
    rw [hi] at e1;cases e1
    rw [List.getElem?_set_self hiσ] at e2
    cases e2
    exact ⟨u,r,.inr ⟨.inl hk,c,hc,hc'⟩⟩
   ·rw [List.getElem?_set_ne (Ne.symm hj)] at e2
    obtain ⟨u',r',q⟩:=hl j y v' e1 e2 e3
    refine ⟨u',r',?_⟩
    rcases q with q | ⟨k,c',e,z'⟩
    ·exact .inl q
    ·refine .inr ⟨k,c',e,z'.sameBut hs ?_⟩
     rintro rfl
     exact hj (qc3 hN e1 (I.ok.inj _ _ _ e hc▸hi))
  ·by_cases hcc:c'=c
   ·subst hcc;exact ⟨_,hc'⟩
   ·obtain ⟨w2,z2⟩:=I.cell y c' e
    exact ⟨w2,z2.sameBut hs hcc⟩
  ·obtain ⟨e,n,ne,nf,d⟩:=I.pin p hp
   refine ⟨(hs.2 p.1 ?_).trans e,n,ne,nf,d⟩
   intro q
   rw [q,hoc] at e
   have q':oc=p.2:=Option.some.inj e
   exact d w' (by rw [<- q'];exact hocd)
theorem uS {M:Model} {A:Around} {E:Value->Shared->Prop} {i:Nat} {x:Str} {v:V} {u:Value} {Q:Unit->Shared->Prop} (I:Inv X pins Z H s) (hN:X.N.Nodup) (hi:X.N[i]? = some x) (hx:Loc X.env.scope x) (r:z9 v u)
  (h:∀ s',Inv X pins (Z.set i (some v)) H s'->Q () s') (hf:X.fn x=true\/X.env.scope.names.lookup x=some .local:=by first | exact .inl rfl | exact .inr rfl | assumption):wpAny M A (storeName X.env x u) Q E s :=
 qbz I hN hi hx r (fun s' I' _=>h s' I') hf
theorem Inv.call' {s':Shared} {ch:List Addr} (I:Inv X pins Z H s) (ho:s'.os=s.os) (u:Un (frs X.stack) ch H H' s.heap s'.heap) (hok:HOk X.prog X.w H' s'.heap) (hg:AllBare s'.gens)
  (hch:∀ b∈ch,(b∈X.ex\/X.s₀.heap.objs.size<=b)/\b≠X.env.locals/\(∀ x c,X.env.cells.lookup x=some c->c≠b)/\∀ p∈X.pn++pins,p.1≠b):Inv X pins Z H' s':=by
 obtain ⟨h',g',d',t',o'⟩:=s'
 have e:o'=s.os:=ho
 subst e
 exact I.call (g':=g') (t':=t') (d':=d') u hok hg hch
end
abbrev XK:=Value->Option Addr->Hp->Prop
abbrev St:=List (Option V)
abbrev VK:=V->Hp->Prop
abbrev TE:=St->Hp->VK->Prop
abbrev TT:=St->Hp->(Bool->Hp->Prop)->Prop
abbrev TA:=St->Hp->(List V->Hp->Prop)->Prop
structure qev where
 nx:St->Hp->Prop
 rt:VK
 bk:St->Hp->Prop:=fun _ _=>False
 ct:St->Hp->Prop:=fun _ _=>False
abbrev TS:=qev->St->Hp->Prop
def EP (X:Cx) (pins:List (Addr×Obj)) (Z:St) (Q:VK) (u:Value) (s':Shared):Prop:=∃ v H',Inv X pins Z H' s'/\z9 v u/\Q v H'
def TP (X:Cx) (pins:List (Addr×Obj)) (Z:St) (Q:Bool->Hp->Prop) (b:Bool) (s':Shared):Prop:=∃ H',Inv X pins Z H' s'/\Q b H'
def AP (X:Cx) (pins:List (Addr×Obj)) (Z:St) (Q:List V->Hp->Prop) (us:List Value) (s':Shared):Prop:=∃ vs H',Inv X pins Z H' s'/\qT vs us/\Q vs H'
def SP (X:Cx) (pins:List (Addr×Obj)) (D:qev) (f:Flow) (s':Shared):Prop :=
 match f with
 | .next=>∃ Z' H',Inv X pins Z' H' s'/\D.nx Z' H'
 | .brk=>∃ Z' H',Inv X pins Z' H' s'/\D.bk Z' H'
 | .cont=>∃ Z' H',Inv X pins Z' H' s'/\D.ct Z' H'
 | .ret u=>∃ v Z' H',Inv X pins Z' H' s'/\z9 v u/\D.rt v H'
def PE (X:Cx) (e:Expr) (t:TE):Prop :=
 ∀ (pins:List (Addr×Obj)) (s:Shared) (Z:St) (H:Hp) (Q:VK),Inv X pins Z H s->t Z H Q->wpAny (model X.prog X.w) X.A (eval e X.env) (EP X pins Z Q) X.xe s
def PT (X:Cx) (e:Expr) (t:TT):Prop :=
 ∀ (pins:List (Addr×Obj)) (s:Shared) (Z:St) (H:Hp) (Q:Bool->Hp->Prop),Inv X pins Z H s->t Z H Q->wpAny (model X.prog X.w) X.A (isTrue e X.env (eval e X.env)) (TP X pins Z Q) X.xe s
def PW (X:Cx) (e:Expr) (t:TT):Prop :=
 ∀ (whole:Sem Value) (pins:List (Addr×Obj)) (s:Shared) (Z:St) (H:Hp) (Q:Bool->Hp->Prop),Inv X pins Z H s->t Z H Q->wpAny (model X.prog X.w) X.A (isTrue e X.env whole) (TP X pins Z Q) X.xe s
theorem PW.pt {X:Cx} {e:Expr} {t:TT} (h:PW X e t):PT X e t:=h _
def PA (X:Cx) (es:List Expr) (t:TA):Prop :=
 ∀ (pos:Pos) (pins:List (Addr×Obj)) (s:Shared) (Z:St) (H:Hp) (Q:List V->Hp->Prop),Inv X pins Z H s->t Z H Q->wpAny (model X.prog X.w) X.A (spliced (backTo pos (starEach es X.env))) (AP X pins Z Q) X.xe s
def PS (X:Cx) (st:Stmt) (t:TS):Prop :=
 ∀ (pins:List (Addr×Obj)) (s:Shared) (Z:St) (H:Hp) (D:qev),Inv X pins Z H s->t D Z H->wpAny (model X.prog X.w) X.A (exec st X.env) (SP X pins D) X.xe s
def PSs (X:Cx) (st:List Stmt) (t:TS):Prop :=
 ∀ (pins:List (Addr×Obj)) (s:Shared) (Z:St) (H:Hp) (D:qev),Inv X pins Z H s->t D Z H->wpAny (model X.prog X.w) X.A (execs st X.env) (SP X pins D) X.xe s
theorem thn {α:Type} {t:Sem α} {Q Q':α->Shared->Prop} {M:Model} {A:Around} {E:Value->Shared->Prop} {s:Shared} (h:wpAny M A t Q E s) (hQ:∀ a s,Q a s->Q' a s):wpAny M A t Q' E s:=wpAny_mono h hQ fun _ _ x=>x
end L2
namespace L2
open PySem PySem.Spec PyProof.Rows
section
variable {X:Cx}
theorem bin {a b:Expr} {ta tb:TE} (ha:PE X a ta) (hb:PE X b tb) {pins:List (Addr×Obj)} {s:Shared} {Z:St} {H:Hp} {R:V->V->Hp->Prop} (I:Inv X pins Z H s) (h:ta Z H fun x H1=>tb Z H1 fun y H2=>R x y H2)
  {α:Type} {Q:α->Shared->Prop} {f:Value->Value->Sem α}
  (hf:∀ v u s2 x y H2,Inv X pins Z H2 s2->z9 x v->z9 y u->R x y H2->wpAny (model X.prog X.w) X.A (f v u) Q X.xe s2) :
  wpAny (model X.prog X.w) X.A (eval a X.env) (fun v sJ=>wpAny (model X.prog X.w) X.A (eval b X.env) (fun u sQ=>wpAny (model X.prog X.w) X.A (f v u) Q X.xe sQ) X.xe sJ) X.xe s:=by
 refine thn (ha pins s Z H _ I h) fun v s1 ⟨x,H1,I1,r1,q1⟩ => ?_
 refine thn (hb pins s1 Z H1 _ I1 q1) fun u s2 ⟨y,H2,I2,r2,q2⟩ => ?_
 exact hf v u s2 x y H2 I2 r1 r2 q2
def qnt (i:Nat):TE:=fun Z H Q=>∃ v,Z[i]? = some (some v)/\Q v H
def tC (v:V):TE:=fun _ H Q=>Q v H
theorem jO {i:Nat} {x:Str} {pos:Pos} (hN:X.N[i]? = some x) (hv:Vis X.env.scope x) (hd:(x==("__debug__":Str))=false:=by decide) (hcd:(x==("__classdict__":Str))=false:=by decide):PE X (.Name x pos) (qnt i):=by
 intro pins s Z H Q I h
 obtain ⟨v,e,h⟩:=h
 obtain ⟨m,hn,hl⟩:=I.loc
 obtain ⟨u,r,l⟩:=hl i x v hN e hv
 have fin:EP X pins Z Q u s:=⟨v,H,I,r,h⟩
 rcases l with ⟨hk,hm⟩ | ⟨hk,c,hc,hcell⟩
 ·exact wpAny_Name (wpAny_loadName_local I.ok.kind hk hn hm fin) hd
 ·rcases hk with hk | hk
  ·exact wpAny_Name (wpAny_loadName_cell I.ok.kind hk hc hcell fin) hd
  ·exact wpAny_Name (wpAny_loadName_free I.ok.kind hk hc hcell fin hcd) hd
theorem qeD {i j pos}:PE X (.Constant (.int i) j pos) (tC (.int i)):=fun _ _ _ H _ I h=>wpAny_Constant_int ⟨.int i,H,I.tok _,⟨_,rfl⟩,h⟩
theorem qkp {b j pos}:PE X (.Constant (.bool b) j pos) (tC (.bl b)):=fun _ _ _ H _ I h=>Constant_bool ⟨.bl b,H,I,rfl,h⟩
theorem qkq {j pos}:PE X (.Constant .none j pos) (tC .non):=fun _ _ _ H _ I h=>Constant_none ⟨.non,H,I,rfl,h⟩
theorem qkr {x j pos}:PE X (.Constant (.str x) j pos) (tC (.str x)):=fun _ _ _ H _ I h=>Calls.Constant_str ⟨.str x,H,I.tok _,⟨_,rfl⟩,h⟩
def Gl (X:Cx) (x:Str):Prop:=X.env.kindOf x=some .globalImplicit
theorem qaP {E:Value->Shared->Prop} {pins:List (Addr×Obj)} {s:Shared} {Z:St} {H:Hp} {x:Str} {u:Value} {pos:Pos} {Q:Value->Shared->Prop} (I:Inv X pins Z H s) (hg:Gl X x) (hm:X.mg x=some u) (h:Q u s)
  (hd:(x==("__debug__":Str))=false:=by decide):wpAny (model X.prog X.w) X.A (eval (.Name x pos) X.env) Q E s :=
 Calls.Name_function_global I.ok.kind hg (Calls.loadGlobal_global (by rw [I.ok.glob];exact I.mod.glob.keeps I.bk) hm h) hd
theorem qan {E:Value->Shared->Prop} {pins:List (Addr×Obj)} {s:Shared} {Z:St} {H:Hp} {x:Str} {u:Value} {pos:Pos} {Q:Value->Shared->Prop} (I:Inv X pins Z H s) (hg:Gl X x) (hm:X.mg x=none) (hv:bootBuiltins x=some u) (h:Q u s)
  (hn:x≠"__name__":=by decide) (hd:(x==("__debug__":Str))=false:=by decide):wpAny (model X.prog X.w) X.A (eval (.Name x pos) X.env) Q E s:=by
 obtain ⟨mb,h1,h2⟩:=I.mod.blt
 exact Calls.Name_function_global I.ok.kind hg (Calls.loadGlobal_builtin (by rw [I.ok.glob];exact I.mod.glob.keeps I.bk) hm (by rw [I.ok.blt];exact h1.keeps I.bk) ((h2 x hn).trans hv) h) hd
theorem qaQ {x:Str} {v:V} {u:Value} {pos:Pos} (hg:Gl X x) (hm:X.mg x=some u) (r:z9 v u) (hd:(x==("__debug__":Str))=false:=by decide):PE X (.Name x pos) (tC v) :=
 fun _ _ _ H _ I h=>qaP I hg hm ⟨v,H,I,r,h⟩ hd
theorem qeE {x:Str} {v:V} {u:Value} {pos:Pos} (hg:Gl X x) (hm:X.mg x=none) (hv:bootBuiltins x=some u) (r:z9 v u) (hn:x≠"__name__":=by decide) (hd:(x==("__debug__":Str))=false:=by decide):PE X (.Name x pos) (tC v) :=
 fun _ _ _ H _ I h=>qan I hg hm hv ⟨v,H,I,r,h⟩ hn hd
variable {a b:Expr} {ta tb:TE} {pos:Pos}
def PC (X:Cx) (op:CmpOp) (a b:Expr) (t:TE):Prop :=
 ∀ (pins:List (Addr×Obj)) (s:Shared) (Z:St) (H:Hp) (Q:VK),Inv X pins Z H s->t Z H Q ->
  wpAny (model X.prog X.w) X.A (eval a X.env) (fun v sJ=>wpAny (model X.prog X.w) X.A (eval b X.env) (fun u sQ=>wpAny (model X.prog X.w) X.A (compareOp op v u) (EP X pins Z Q) X.xe sQ) X.xe sJ) X.xe s
theorem qgw (b:Expr) {op:CmpOp} (h:op ≠ .In) (h2:op ≠ .NotIn):behindInMarks op b=false:=by
 have e1:(op==CmpOp.In)=false:=by cases op<;>first | rfl | exact absurd rfl h
 have e2:(op==CmpOp.NotIn)=false:=by cases op<;>first | rfl | exact absurd rfl h2
 cases b<;>simp [behindInMarks,e1,e2]
def tB (t:TE):TT:=fun Z H Q=>t Z H fun x H1=>∃ c,x = .bl c/\Q c H1
theorem qnu {op:CmpOp} {t:TE} (h:PC X op a b t) (h1:behindInMarks op b=false:=by first | exact qgw _ (by decide) (by decide) | rfl):PT X (.Compare a [op] [b] pos) (tB t):=by
 intro pins s Z H Q I hw
 refine wpAny_isTrue_Compare1 (thn (h pins s Z H _ I hw) fun v s1 h1=>thn h1 fun u s2 h2=>thn h2 fun c s3 ⟨x,H1,I1,r1,q1⟩ => ?_) h1
 obtain ⟨d,rfl,q⟩:=q1
 cases r1
 exact wpAny_truthy_bool ⟨H1,I1,q⟩
theorem qks {e:Expr} {t:TE} (h:PE X e t) (he:∀ whole,isTrue e X.env whole=(do let v <- whole;standAt e.pos;holding [v] (truthy v)):=by intro _;rfl):PT X e (tB t):=by
 intro pins s Z H Q I hw
 refine isTrue_plain (thn (h pins s Z H _ I hw) fun v s1 ⟨x,H1,I1,r1,q1⟩ => ?_) (he _)
 obtain ⟨d,rfl,q⟩:=q1
 cases r1
 exact wpAny_truthy_bool ⟨H1,I1,q⟩
variable {tA tB':TT} {vZ:List Expr}
def qnY (t u:TT):TT:=fun Z H Q=>t Z H fun c H1=>if c=true then u Z H1 Q else Q false H1
def tOr (t u:TT):TT:=fun Z H Q=>t Z H fun c H1=>if c=true then Q true H1 else u Z H1 Q
def qnZ (t:TT):TT:=fun Z H Q=>t Z H fun c H1=>Q (!c) H1
theorem qiP (ha:PT X a tA):PW X (.BoolOp .And [a] pos) tA:=by
 intro wh pins s Z H Q I h
 refine isTrue_and (thn (ha pins s Z H Q I h) fun c s1 e => ?_)
 cases c with
 | true=>exact isTrue_and_nil e
 | false=>exact e
theorem qkt (ha:PT X a tA):PW X (.BoolOp .Or [a] pos) tA:=by
 intro wh pins s Z H Q I h
 refine isTrue_or (thn (ha pins s Z H Q I h) fun c s1 e => ?_)
 cases c with
 | false=>exact isTrue_or_nil e
 | true=>exact e
theorem qku (ha:PT X a tA) (hb:PW X (.BoolOp .And (b::vZ) pos) tB'):PW X (.BoolOp .And (a::b::vZ) pos) (qnY tA tB'):=by
 intro wh pins s Z H Q I h
 refine isTrue_and (thn (ha pins s Z H _ I h) fun c s1 ⟨H1,I1,q1⟩ => ?_)
 cases c with
 | true=>exact hb wh pins s1 Z H1 Q I1 q1
 | false=>exact ⟨H1,I1,q1⟩
theorem qmB (ha:PT X a tA) (hb:PW X (.BoolOp .Or (b::vZ) pos) tB'):PW X (.BoolOp .Or (a::b::vZ) pos) (tOr tA tB'):=by
 intro wh pins s Z H Q I h
 refine isTrue_or (thn (ha pins s Z H _ I h) fun c s1 ⟨H1,I1,q1⟩ => ?_)
 cases c with
 | true=>exact ⟨H1,I1,q1⟩
 | false=>exact hb wh pins s1 Z H1 Q I1 q1
theorem qkv (ha:PT X a tA):PT X (.UnaryOp .Not a pos) (qnZ tA):=by
 intro pins s Z H Q I h
 exact isTrue_not (ha pins s Z H (fun c H1=>Q (!c) H1) I h)
def qmC (ta tb:TE):TE:=fun Z H Q=>ta Z H fun x H1=>∃ c,x = .bl c/\if c=true then tb Z H1 Q else Q (.bl false) H1
def qn0 (ta tb:TE):TE:=fun Z H Q=>ta Z H fun x H1=>∃ c,x = .bl c/\if c=true then Q (.bl true) H1 else tb Z H1 Q
def qmD (ta:TE):TE:=fun Z H Q=>ta Z H fun x H1=>∃ c,x = .bl c/\Q (.bl (!c)) H1
theorem qkw {op} {t:TE} (h:PE X a t):PE X (.BoolOp op [a] pos) t:=fun pins s Z H Q I hw=>BoolOp_one (h pins s Z H Q I hw)
theorem qkx (ha:PE X a ta) (hb:PE X (.BoolOp .And (b::vZ) pos) tb):PE X (.BoolOp .And (a::b::vZ) pos) (qmC ta tb):=by
 intro pins s Z H Q I h
 refine BoolOp_and (thn (ha pins s Z H _ I h) fun v s1 ⟨x,H1,I1,r1,q1⟩ => ?_)
 obtain ⟨c,rfl,q1⟩:=q1
 cases r1
 refine wpAny_truthy_bool ?_
 cases c with
 | true=>exact hb pins s1 Z H1 Q I1 q1
 | false=>exact ⟨.bl false,H1,I1,rfl,q1⟩
theorem qmE (ha:PE X a ta) (hb:PE X (.BoolOp .Or (b::vZ) pos) tb):PE X (.BoolOp .Or (a::b::vZ) pos) (qn0 ta tb):=by
 intro pins s Z H Q I h
 refine BoolOp_or (thn (ha pins s Z H _ I h) fun v s1 ⟨x,H1,I1,r1,q1⟩ => ?_)
 obtain ⟨c,rfl,q1⟩:=q1
 cases r1
 refine wpAny_truthy_bool ?_
 cases c with
 | false=>exact hb pins s1 Z H1 Q I1 q1
 | true=>exact ⟨.bl true,H1,I1,rfl,q1⟩
theorem qky (ha:PE X a ta):PE X (.UnaryOp .Not a pos) (qmD ta):=by
 intro pins s Z H Q I h
 refine UnaryOp_ (thn (ha pins s Z H _ I h) fun v s1 ⟨x,H1,I1,r1,q1⟩ => ?_)
 obtain ⟨c,rfl,q1⟩:=q1
 cases r1
 exact not_of (wpAny_truthy_bool ⟨.bl (!c),H1,I1,rfl,q1⟩)
end
end L2
namespace L2
open PySem PySem.Spec PyProof.Rows
def SqL (K:PySem.W.Frag) (H:Hp) (a:Addr) (xs:List V):Prop :=
 Rd H a (.lst xs) \/
  ∃ (o:Obj) (its:Array Value) (n:Nat),K.lookup a=some o/\o.cls = .type "list"/\o.dict=none/\o.data = .seq its n/\its.size<=sizeLine/\qT xs its.toList
def SqT (K:PySem.W.Frag) (H:Hp) (a:Addr) (xs:List V):Prop :=
 Rd H a (.tup xs) \/
  ∃ (o:Obj) (its:Array Value) (n:Nat),K.lookup a=some o/\o.cls = .type "tuple"/\o.data = .seq its n/\its.size<=sizeLine/\qT xs its.toList
def qn1:Value->Option V
 | .none=>some .non
 | .bool b=>some (.bl b)
 | .int i _=>some (.int i)
 | .str x _=>some (.str x)
 | .bytes b _=>some (.byt b)
 | .float b _=>some (.flt b)
 | .ref a=>some (.ref a)
 | .type n=>some (.ty n)
 | _=>none
theorem z9.abs {x:V} {u:Value} (r:z9 x u):qn1 u=some x:=by
 cases x with
 | non=>cases r;rfl
 | bl _=>cases r;rfl
 | int _=>obtain ⟨t,rfl⟩:=r;rfl
 | str _=>obtain ⟨t,rfl⟩:=r;rfl
 | byt _=>obtain ⟨t,rfl⟩:=r;rfl
 | flt _=>obtain ⟨t,rfl⟩:=r;rfl
 | ref _=>cases r;rfl
 | ty _=>cases r;rfl
theorem z9.inj {x y:V} {u:Value} (r:z9 x u) (q:z9 y u):x=y:=Option.some.inj (r.abs.symm.trans q.abs)
theorem qT.inj:∀ {xs ys:List V} {us:List Value},qT xs us->qT ys us->xs=ys
 | _,_,_,.nil,.nil=>rfl
 | _,_,_,.cons r t,.cons r' t'=>by rw [r.inj r',qT.inj t t']
section
variable {X:Cx} {pins:List (Addr×Obj)} {Z:St} {H:Hp} {s:Shared} {a:Addr} {xs ys:List V}
theorem SqL.of {K:PySem.W.Frag} (h:H a=some (.lst xs)):SqL K H a xs := .inl (.inl h)
theorem Inv.list (I:Inv X pins Z H s) (h:SqL X.K H a xs):∃ its:List Value,qT xs its/\PlainL s.heap a its.toArray/\xs.length<=sizeLine:=by
 rcases h with h | ⟨o,its,n,hk,hc,hd,hs,hz,r⟩
 ·obtain ⟨z,its,n,r,e⟩:=h.ok I.hok
  exact ⟨its,r,⟨_,n,e,rfl,rfl,rfl⟩,z⟩
 ·refine ⟨its.toList,r,⟨o,n,I.kIn a o hk,hc,hd,by simpa using hs⟩,?_⟩
  have e:=r.length
  simp only [Array.length_toList] at e
  omega
theorem Inv.tuple (I:Inv X pins Z H s) (h:SqT X.K H a xs):∃ its:List Value,qT xs its/\IsTup s.heap a its.toArray/\xs.length<=sizeLine:=by
 rcases h with h | ⟨o,its,n,hk,hc,hs,hz,r⟩
 ·obtain ⟨z,its,r,p⟩:=h.ok I.hok
  exact ⟨its,r,p,z⟩
 ·refine ⟨its.toList,r,⟨o,I.kIn a o hk,hc,n,by simpa using hs⟩,?_⟩
  have e:=r.length
  simp only [Array.length_toList] at e
  omega
theorem Inv.list_inj (I:Inv X pins Z H s) (h:SqL X.K H a xs) (h':SqL X.K H a ys):xs=ys:=by
 obtain ⟨its,r,⟨o,n,e,_,_,d⟩,_⟩:=I.list h
 obtain ⟨its',r',⟨o',n',e',_,_,d'⟩,_⟩:=I.list h'
 rw [e] at e';cases e'
 rw [d] at d'
 injection d' with d1 _
 have:its=its':=by simpa using congrArg Array.toList d1
 subst this
 exact r.inj r'
theorem Inv.tuple_inj (I:Inv X pins Z H s) (h:SqT X.K H a xs) (h':SqT X.K H a ys):xs=ys:=by
 obtain ⟨its,r,⟨o,e,_,n,d⟩,_⟩:=I.tuple h
 obtain ⟨its',r',⟨o',e',_,n',d'⟩,_⟩:=I.tuple h'
 rw [e] at e';cases e'
 rw [d] at d'
 injection d' with d1 _
 have:its=its':=by simpa using congrArg Array.toList d1
 subst this
 exact r.inj r'
end
abbrev Cx.wish (X:Cx) (E:Value->Shared->Prop):Cx:={ X with xe:=E }
abbrev Cx.nox (X:Cx):Cx:=X.wish fun _ _=>False
theorem Cx.Ok.wish {X:Cx} (ok:X.Ok) (E:Value->Shared->Prop):(X.wish E).Ok :=
 ⟨ok.mod,ok.kind,ok.glob,ok.blt,ok.above,ok.inj,ok.has,ok.cab,ok.hd,ok.frames,ok.stk,ok.exf,ok.bs,ok.bsz,ok.noex,ok.exfs,ok.funs,ok.frf⟩
theorem Cx.Ok.unwish {X:Cx} {E:Value->Shared->Prop} (ok:(X.wish E).Ok):X.Ok :=
 ⟨ok.mod,ok.kind,ok.glob,ok.blt,ok.above,ok.inj,ok.has,ok.cab,ok.hd,ok.frames,ok.stk,ok.exf,ok.bs,ok.bsz,ok.noex,ok.exfs,ok.funs,ok.frf⟩
section
variable {X:Cx} {pins:List (Addr×Obj)} {Z:St} {H:Hp} {s:Shared} {E:Value->Shared->Prop}
theorem Inv.wish (I:Inv X pins Z H s) (E:Value->Shared->Prop):Inv (X.wish E) pins Z H s:=⟨I.ok.wish E,I.os,I.bare,I.base,I.loc,I.cell,I.free,I.freeC,I.pin,I.hok,I.len⟩
theorem Inv.unwish (I:Inv (X.wish E) pins Z H s):Inv X pins Z H s:=⟨I.ok.unwish,I.os,I.bare,I.base,I.loc,I.cell,I.free,I.freeC,I.pin,I.hok,I.len⟩
theorem SP.unwish {D:qev} {f:Flow} {s':Shared} (h:SP (X.wish E) pins D f s'):SP X pins D f s':=by
 cases f with
 | next=>obtain ⟨Z',H',I,q⟩:=h;exact ⟨Z',H',I.unwish,q⟩
 | brk=>obtain ⟨Z',H',I,q⟩:=h;exact ⟨Z',H',I.unwish,q⟩
 | cont=>obtain ⟨Z',H',I,q⟩:=h;exact ⟨Z',H',I.unwish,q⟩
 | ret u=>obtain ⟨v,Z',H',I,r,q⟩:=h;exact ⟨v,Z',H',I.unwish,r,q⟩
theorem PE.nox {e:Expr} {t:TE} (h:PE X.nox e t):PE X e t:=fun pins s Z H Q I hw =>
 wpAny_mono (h pins s Z H Q (I.wish _) hw) (fun _ _ ⟨v,H',I',r,q⟩=>⟨v,H',I'.unwish,r,q⟩) fun _ _ z=>False.elim z
theorem PT.nox {e:Expr} {t:TT} (h:PT X.nox e t):PT X e t:=fun pins s Z H Q I hw =>
 wpAny_mono (h pins s Z H Q (I.wish _) hw) (fun _ _ ⟨H',I',q⟩=>⟨H',I'.unwish,q⟩) fun _ _ z=>False.elim z
theorem PSs.nox {st:List Stmt} {t:TS} (h:PSs X.nox st t):PSs X st t:=fun pins s Z H D I hw =>
 wpAny_mono (h pins s Z H D (I.wish _) hw) (fun _ _ q=>q.unwish) fun _ _ z=>False.elim z
end
section
variable {X:Cx} {st:Stmt} {vZ:List Stmt} {t u:TS} {e:Expr} {te:TE} {pos:Pos}
def qmF:TS:=fun D Z H=>D.nx Z H
def qmn (t u:TS):TS:=fun D Z H=>t { D with nx:=u D } Z H
theorem qaR:PSs X [] qmF:=fun _ _ Z H _ I h=>wpAny_execs_nil ⟨Z,H,I,h⟩
theorem uu (h1:PS X st t) (h2:PSs X vZ u):PSs X (st::vZ) (qmn t u):=by
 intro pins s Z H D I h
 refine wpAny_execs_cons (thn (h1 pins s Z H { D with nx:=u D } I h) fun f s1 q => ?_)
 cases f with
 | next =>
  obtain ⟨Z',H',I',q⟩:=q
  exact h2 pins s1 Z' H' D I' q
 | ret v=>exact q
 | brk=>exact q
 | cont=>exact q
theorem qeF (h1:PS X st t):PSs X [st] t:=by
 intro pins s Z H D I h
 refine wpAny_execs_cons (thn (h1 pins s Z H D I h) fun f s1 q => ?_)
 cases f with
 | next=>exact wpAny_execs_nil q
 | ret v=>exact q
 | brk=>exact q
 | cont=>exact q
theorem Inv.quiet {pins:List (Addr×Obj)} {Z:St} {H:Hp} {s:Shared} (I:Inv X pins Z H s):interactive X.env=false:=by simp [interactive,I.ok.kind]
def qmG (te:TE):TS:=fun D Z H=>te Z H fun _ H1=>D.nx Z H1
theorem qcp (he:PE X e te) (hs:swapsWith e none pos.line X.env=pure false:=by rfl):PS X (.Expr e pos) (qmG te):=by
 intro pins s Z H D I h
 exact wpAny_Expr_any (thn (he pins s Z H _ I h) fun v s1 ⟨x,H1,I1,r1,q1⟩=>⟨Z,H1,I1,q1⟩) I.quiet hs
def qn2 (te:TE):TS:=fun D Z H=>te Z H D.rt
theorem qc4 (he:PE X e te):PS X (.Return (some e) pos) (qn2 te):=by
 intro pins s Z H D I h
 exact wpAny_Return_some (thn (he pins s Z H _ I h) fun v s1 ⟨x,H1,I1,r1,q1⟩=>⟨x,Z,H1,I1,r1,q1⟩)
def qn3 (c:TT) (t u:TS):TS:=fun D Z H=>c Z H fun b H1=>if b=true then t D Z H1 else u D Z H1
theorem qkz {c:Expr} {a b:List Stmt} {tc:TT} (hc:PT X c tc) (ha:PSs X a t) (hb:PSs X b u):PS X (.If c a b pos) (qn3 tc t u):=by
 intro pins s Z H D I h
 refine wpAny_If (thn (hc pins s Z H _ I h) fun d s1 ⟨H1,I1,q1⟩ => ?_)
 cases d with
 | true=>exact ha pins s1 Z H1 D I1 q1
 | false=>exact hb pins s1 Z H1 D I1 q1
end
abbrev TG:=V->St->Hp->(St->Hp->Prop)->Prop
abbrev TGs:=List V->St->Hp->(St->Hp->Prop)->Prop
def PG (X:Cx) (target:Expr) (t:TG):Prop :=
 ∀ (pins:List (Addr×Obj)) (s:Shared) (Z:St) (H:Hp) (v:V) (u:Value) (Q:St->Hp->Prop),Inv X pins Z H s->z9 v u->t v Z H Q ->
  wpAny (model X.prog X.w) X.A (assign target X.env u) (fun _ s'=>∃ Z' H',Inv X pins Z' H' s'/\Q Z' H') X.xe s
def PGs (X:Cx) (ts:List Expr) (t:TGs):Prop :=
 ∀ (pins:List (Addr×Obj)) (s:Shared) (Z:St) (H:Hp) (vs:List V) (us:List Value) (Q:St->Hp->Prop),Inv X pins Z H s->qT vs us->t vs Z H Q ->
  wpAny (model X.prog X.w) X.A (assignInOrder ((assignEach ts X.env).map (·.2)) us) (fun _ s'=>∃ Z' H',Inv X pins Z' H' s'/\Q Z' H') X.xe s
abbrev qmH:=V->V->V->Hp->(Hp->Prop)->Prop
def qnv (X:Cx) (t:qmH):Prop :=
 ∀ (pins:List (Addr×Obj)) (s:Shared) (Z:St) (H:Hp) (o i v:V) (ov iv u:Value) (Q:Hp->Prop),Inv X pins Z H s->z9 o ov->z9 i iv->z9 v u->t o i v H Q ->
  wpAny (model X.prog X.w) X.A (setItem ov iv u) (fun _ s'=>∃ H',Inv X pins Z H' s'/\Q H') X.xe s
section
variable {X:Cx} {pos:Pos}
def qkA (i:Nat):TG:=fun v Z H Q=>Q (Z.set i (some v)) H
theorem qiQ {i:Nat} {x:Str} (hN:X.N.Nodup) (hi:X.N[i]? = some x) (hx:Loc X.env.scope x) (hf:X.fn x=true\/X.env.scope.names.lookup x=some .local:=by first | exact .inl rfl | exact .inr rfl | assumption):PG X (.Name x pos) (qkA i):=by
 intro pins s Z H v u Q I r h
 exact wpAny_assign_Name (uS I hN hi hx r (fun s' I'=>⟨_,H,I',h⟩) hf)
def qn4:TGs:=fun vs Z H Q=>vs=[]/\Q Z H
def qmI (t:TG) (u:TGs):TGs:=fun vs Z H Q=>∃ v r,vs=v::r/\t v Z H fun Z' H'=>u r Z' H' Q
theorem qiR:PGs X [] qn4:=by
 intro pins s Z H vs us Q I r h
 obtain ⟨e,h⟩:=h
 subst e
 cases r
 exact assignInOrder_nil ⟨Z,H,I,h⟩
theorem qgx {e:Expr} {es:List Expr} {t:TG} {u:TGs} (h1:PG X e t) (h2:PGs X es u)
  (hs:(assignEach (e::es) X.env).map (·.2)=assign e X.env::(assignEach es X.env).map (·.2):=by rfl):PGs X (e::es) (qmI t u):=by
 intro pins s Z H vs us Q I r h
 obtain ⟨v,vr,e1,h⟩:=h
 subst e1
 cases r with
 | cons r rr =>
  rw [hs]
  refine assignInOrder_cons (thn (h1 pins s Z H _ _ _ I r h) fun _ s1 ⟨Z1,H1,I1,q1⟩ => ?_)
  exact h2 pins s1 Z1 H1 _ _ Q I1 rr q1
def qn5 (K:PySem.W.Frag) (n:Nat) (t:TGs):TG:=fun v Z H Q=>∃ a xs,v = .ref a/\SqT K H a xs/\xs.length=n/\t xs Z H Q
theorem qkB {es:List Expr} {k:Nat} {t:TGs} {n:Nat} (hc:X.calm=true) (h:PGs X es t)
  (hn:(assignEach es X.env).length=n:=by rfl) (hst:(assignEach es X.env).findIdx? (·.1)=none:=by rfl):PG X (.Tuple es k pos) (qn5 X.K n t):=by
 intro pins s Z H v u Q I r hw
 obtain ⟨a,xs,e1,hq,hl,hw⟩:=hw
 subst e1
 cases r
 obtain ⟨its,rv,ht,hz⟩:=I.tuple hq
 refine assign_Tuple_tuple (I.ok.hd hc) ht (by simp [hn,<- hl,rv.length]) hst fun h' hx => ?_
 have I1:Inv X pins Z H { s with heap:=h' }:=I.kept (t':=s.toks) fun b o e=>hx b o (Nat.ne_of_lt (Heap.lt_size e)) e
 exact h pins _ Z H xs _ Q I1 (by simpa using rv) hw
def qn6 (to ti:TE) (t:qmH):TG:=fun v Z H Q=>to Z H fun o H1=>ti Z H1 fun i H2=>t o i v H2 fun H3=>Q Z H3
theorem qkC {o i:Expr} {to ti:TE} {t:qmH} (ho:PE X o to) (hi:PE X i ti) (hs:qnv X t)
  (ha:∀ v,assign (.Subscript o i pos) X.env v=(do
   let ov <- holding [v] (eval o X.env)
   let iv <- holding [v,ov] (eval i X.env)
   standAt pos
   holding [v,ov,iv] (setItem ov iv v)
   release [v,ov,iv] []):=by intro _;rfl):PG X (.Subscript o i pos) (qn6 to ti t):=by
 intro pins s Z H v u Q I r h
 rw [ha]
 refine wpAny_bind (wpAny_holding (thn (ho pins s Z H _ I h) fun ov s1 ⟨x,H1,I1,r1,q1⟩ => ?_))
 refine wpAny_bind (wpAny_holding (thn (hi pins s1 Z H1 _ I1 q1) fun iv s2 ⟨y,H2,I2,r2,q2⟩ => ?_))
 refine wpAny_bind (wpAny_standAt (wpAny_bind (wpAny_holding (thn (hs pins s2 Z H2 x y v ov iv u _ I2 r1 r2 r q2) fun _ s3 ⟨H3,I3,q3⟩ => ?_))))
 exact wpAny_release ⟨Z,H3,I3,q3⟩
def qnw (te:TE) (g:TG):TS:=fun D Z H=>te Z H fun x H1=>g x Z H1 D.nx
theorem qhT {tg e:Expr} {te:TE} {g:TG} (he:PE X e te) (hg:PG X tg g) (hs:swapsWithSole [tg] e pos.line X.env=pure false:=by rfl) (hw:swappedStores [tg] e X.env=pure none:=by rfl)
  (h1:(assignEach [tg] X.env).map (·.2)=[assign tg X.env]:=by rfl):PS X (.Assign [tg] e pos) (qnw te g):=by
 intro pins s Z H D I h
 refine wpAny_Assign_stores (thn (he pins s Z H _ I h) fun v s1 ⟨x,H1,I1,r1,q1⟩ => ?_) hs hw
 rw [h1]
 exact thn (hg pins s1 Z H1 x v _ I1 r1 q1) fun _ s2 q=>q
theorem qc5 {i:Nat} {x:Str} {e:Expr} {te:TE} {pos':Pos} (hN:X.N.Nodup) (hi:X.N[i]? = some x) (hx:Loc X.env.scope x) (he:PE X e te) (hs:swapsWith e (some (.Name x pos')) pos.line X.env=pure false:=by rfl) (hf:X.fn x=true\/X.env.scope.names.lookup x=some .local:=by first | exact .inl rfl | exact .inr rfl | assumption) :
  PS X (.Assign [.Name x pos'] e pos) (qnw te (qkA i)):=by
 intro pins s Z H D I h
 refine wpAny_Assign_Name (thn (he pins s Z H _ I h) fun v s1 ⟨y,H1,I1,r1,q1⟩ => ?_) hs
 exact uS I1 hN hi hx r1 (fun s2 I2=>⟨_,H1,I2,q1⟩) hf
def qn7 (i j:Nat) (ta:TA):TS:=fun D Z H=>ta Z H fun vs H1=>∃ v w,vs=[v,w]/\D.nx ((Z.set i (some v)).set j (some w)) H1
theorem qkD {i j:Nat} {x y:Str} {a b:Expr} {ta:TA} {px py pt:Pos} {kt k2 pt2} (hc:X.calm=true) (hN:X.N.Nodup) (hi:X.N[i]? = some x) (hj:X.N[j]? = some y) (hij:i≠j)
  (hx:X.env.scope.names.lookup x=some .local) (hy:X.env.scope.names.lookup y=some .local) (ha:PA X [a,b] ta)
  (hw:swappedStores [.Tuple [.Name x px,.Name y py] kt pt] (.Tuple [a,b] k2 pt2) X.env=pure (some [x,y]))
  (hs:swapsWithSole [.Tuple [.Name x px,.Name y py] kt pt] (.Tuple [a,b] k2 pt2) pos.line X.env=pure false:=by rfl) :
  PS X (.Assign [.Tuple [.Name x px,.Name y py] kt pt] (.Tuple [a,b] k2 pt2) pos) (qn7 i j ta):=by
 intro pins s Z H D I h
 rw [exec_Assign_arm]
 refine wpAny_bind (wpAny_standAt ?_)
 rw [hs]
 refine wpAny_bind (wpAny_pure ?_)
 rw [if_neg (by decide)]
 refine wpAny_bind (Tuple_ (thn (ha _ pins s Z H _ I h) fun us s1 ⟨vs,H1,I1,r1,q1⟩ => ?_))
 obtain ⟨v,w,e1,q1⟩:=q1
 subst e1
 obtain ⟨u1,u2,rfl,rv,rw'⟩:∃ u1 u2,us=[u1,u2]/\z9 v u1/\z9 w u2:=by
  cases r1 with
  | cons p q =>
   cases q with
   | cons p' q' =>
    cases q'
    exact ⟨_,_,rfl,p,p'⟩
 refine wpAny_newObj_type ?_ (by show 2<=sizeLine;decide)
 have I2:Inv X pins Z H1 { s1 with heap:=s1.heap.push { cls := .type "tuple",data := .seq [u1,u2].toArray } }:=I1.kept (t':=s1.toks) fun b o e=>Heap.get?_push_of_some _ e
 rw [hw]
 refine wpAny_bind (wpAny_pure ?_)
 show wpAny (model X.prog X.w) X.A (do rule "assign.swapped-stores";let items <- unpackItems (.ref s1.heap.objs.size) 2 none;assignInOrder [fun v=>bindName X.env y v,fun v=>bindName X.env x v] items.reverse;pure Flow.next) _ _ _
 refine wpAny_bind (wpAny_rule (wpAny_bind (unpackItems_tuple (items := #[u1,u2]) (I.ok.hd hc) (IsTup.new s1.heap _) fun h' hx' => ?_)))
 have I3:=I2.kept (h':=h') (t':=s1.toks) fun b o e=>hx' b o (Nat.ne_of_lt (Heap.lt_size e)) e
 show wpAny _ _ (assignInOrder [fun v=>bindName X.env y v,fun v=>bindName X.env x v] [u2,u1] >>= fun _=>pure Flow.next) _ _ _
 refine wpAny_bind (assignInOrder_cons (wpAny_bindName (uS I3 hN hj (.inl hy) rw' (fun s2 I4 => ?_) (.inr hy))))
 refine assignInOrder_cons (wpAny_bindName (uS I4 hN hi (.inl hx) rv (fun s3 I5=>assignInOrder_nil (wpAny_pure ?_)) (.inr hx)))
 rw [List.set_comm _ _ (Ne.symm hij)] at I5
 exact ⟨_,H1,I5,q1⟩
end
section
variable {X:Cx} {pos:Pos}
end
structure It where
 go:Nat->Hp->Prop
 yld:Nat->Hp->V->Hp->Prop
 stop:Nat->Hp->Prop
def qcm (X:Cx) (pins:List (Addr×Obj)) (H:Hp) (b:Addr):Prop :=
 H b=none/\b≠X.env.locals/\b ∉ X.fs/\(b∈X.ex\/X.s₀.heap.objs.size<=b)/\(∀ x c,X.env.cells.lookup x=some c->c≠b)/\∀ p∈X.pn++pins,p.1≠b
theorem Inv.fpOk {X:Cx} {pins:List (Addr×Obj)} {Z:St} {H H':Hp} {s:Shared} {b:Addr} (I:Inv X pins Z H s) (hb:s.heap.objs.size<=b) (hn:H' b=none):qcm X pins H' b:=by
 refine ⟨hn,Nat.ne_of_gt (Nat.lt_of_lt_of_le I.lt hb),I.nofs hb,.inr (Nat.le_trans I.sz hb),fun x c e z => ?_,fun p hp z => ?_⟩
 ·obtain ⟨v,q⟩:=I.cell x c e
  exact absurd (Nat.lt_of_lt_of_le q.lt (by rw [z];exact hb)) (Nat.lt_irrefl _)
 ·exact absurd (Nat.lt_of_lt_of_le (Heap.lt_size (I.pin p hp).1) (by rw [z];exact hb)) (Nat.lt_irrefl _)
structure qkE (P:Program) (w:World) (K:PySem.W.Frag) (tg:Expr) (J:It) (fp:List Addr) (it:Addr) (tn:Nat->Heap->Prop):Prop where
 mem:it∈fp
 obj:∀ i h,tn i h->∀ b∈fp,∃ o,h.get? b=some o/\∀ v,o.data ≠ .cell v
 keep:∀ i h h',tn i h->(∀ b∈fp,∀ o,h.get? b=some o->h'.get? b=some o)->tn i h'
 item:∀ (X:Cx),X.prog=P->X.w=w->X.K=K->X.calm=true->∀ (i:Nat) (pins:List (Addr×Obj)) (s:Shared) (Z:St) (H:Hp) (E:Value->Shared->Prop),Inv X pins Z H s->(∀ b∈fp,qcm X pins H b)->tn i s.heap->J.go i H ->
  wpAny (model P w) X.A (pyNext (.ref it)) (fun r s1=>∃ u,r=some u /\
   wpAny (model P w) X.A (letOwnedTupleGo tg (.ref it) u) (fun _ s2=>∃ x H',Inv X pins Z H' s2/\z9 x u/\J.yld i H x H'/\tn (i+1) s2.heap/\∀ b∈fp,H' b=none) E s1) E s
 done:∀ (X:Cx),X.prog=P->X.w=w->X.K=K->X.calm=true->∀ (i:Nat) (pins:List (Addr×Obj)) (s:Shared) (Z:St) (H:Hp) (E:Value->Shared->Prop),Inv X pins Z H s->(∀ b∈fp,qcm X pins H b)->tn i s.heap->J.stop i H ->
  wpAny (model P w) X.A (pyNext (.ref it)) (fun r s1=>r=none/\Inv X pins Z H s1) E s
 self:∀ (A:Around) (i:Nat) (s:Shared) (Q:Value->Shared->Prop) (E:Value->Shared->Prop),tn i s.heap->Q (.ref it) s->wpAny (model P w) A (pyIter (.ref it)) Q E s
abbrev TI:=St->Hp->(It->Hp->Prop)->Prop
def PIE (X:Cx) (pins:List (Addr×Obj)) (Z:St) (tg:Expr) (R:It->Hp->Prop) (itv:Value) (s2:Shared):Prop :=
 ∃ (it:Addr) (fp:List Addr) (tn:Nat->Heap->Prop) (J:It) (H':Hp),itv = .ref it/\Inv X pins Z H' s2/\qkE X.prog X.w X.K tg J fp it tn/\tn 0 s2.heap/\(∀ b∈fp,qcm X pins H' b)/\R J H'
def PI (X:Cx) (tg iter:Expr) (wi:TI):Prop :=
 ∀ (pins:List (Addr×Obj)) (s:Shared) (Z:St) (H:Hp) (R:It->Hp->Prop),Inv X pins Z H s->wi Z H R ->
  wpAny (model X.prog X.w) X.A (eval iter X.env) (fun v s1=>wpAny (model X.prog X.w) X.A (pyIter v) (PIE X pins Z tg R) X.xe s1) X.xe s
theorem qiS {M:Model} {A:Around} {E:Value->Shared->Prop} {s:Shared} {tg:Expr} {it:Addr} {u:Value} {o:Obj} {n:String} {vs:Array Value} {Q:Unit->Shared->Prop} (ho:s.heap.get? it=some o) (hc:o.cls = .type n) (hd:o.data = .fields vs)
  (hn:["enumerate","zip","dict_itemiterator","dict_reverseitemiterator","odict_iterator","itertools.zip_longest","itertools.pairwise"].contains n=false) (hQ:Q () s):wpAny M A (letOwnedTupleGo tg (.ref it) u) Q E s:=by
 unfold letOwnedTupleGo
 cases tg<;>first
  | exact wpAny_pure hQ
  | (cases u<;>first
    | exact wpAny_pure hQ
    | (refine wpAny_bind (wpAny_load ho ?_)
       rw [hc,hd]
       show wpAny M A (if (["enumerate","zip","dict_itemiterator","dict_reverseitemiterator","odict_iterator","itertools.zip_longest","itertools.pairwise"].contains n&&vs[0]? == some (rawInt _))=true then _ else _) Q E s
       rw [if_neg (by intro h;rw [hn,Bool.false_and] at h;cases h)]
       exact wpAny_pure hQ))
def Itl (K:PySem.W.Frag) (a:Addr):It :=
 ⟨fun i H=>∃ xs x,SqL K H a xs/\xs[i]? = some x,fun i H x H'=>H'=H/\∀ xs,SqL K H a xs->xs[i]? = some x,fun i H=>∃ xs,SqL K H a xs/\xs.length<=i⟩
def Itt (K:PySem.W.Frag) (a:Addr):It :=
 ⟨fun i H=>∃ xs x,SqT K H a xs/\xs[i]? = some x,fun i H x H'=>H'=H/\∀ xs,SqT K H a xs->xs[i]? = some x,fun i H=>∃ xs,SqT K H a xs/\xs.length<=i⟩
def Itr (lo:Int) (n:Nat):It:=⟨fun i _=>i<n,fun i H x H'=>H'=H/\x = .int (lo+i),fun i _=>n<=i⟩
theorem qeG {P:Program} {w:World} {K:PySem.W.Frag} {tg:Expr} (a it:Addr):qkE P w K tg (Itl K a) [it] it (fun i h=>h.IsListIter it a i) where
 mem:=by simp
 obj:=fun i h st b hb=>by
  have e:b=it:=by simpa using hb
  subst e
  obtain ⟨o,e,c,d⟩:=st
  exact ⟨o,e,fun v z=>by rw [d] at z;cases z⟩
 keep:=fun i h h' st k=>st.at fun o e=>k it (by simp) o e
 item:=by
  intro X hP hw hK hc i pins s Z H E I hf st hg
  subst hP hw hK
  obtain ⟨xs,x,hq,hx⟩:=hg
  obtain ⟨its,rv,p,hz⟩:=I.list hq
  obtain ⟨u,hu,ru⟩:=rv.get hx
  obtain ⟨f0,f1,f2,f3,f4,f5⟩:=hf it (by simp)
  refine wpAny_pyNext_list_item st p.isList (x:=u) (by simpa using hu) fun h' st' sb => ?_
  have I1:Inv X pins Z H { s with heap:=h' }:=I.turned (t':=s.toks) (fun b o hb e=>(sb.2 b hb).trans e) f0 f1 f3 f4 f5
  obtain ⟨o,e,c,d⟩:=id st'
  exact ⟨u,rfl,qiS (s:={ s with heap:=h' }) e c d (by decide) ⟨x,H,I1,ru,⟨rfl,fun ys hy=>by rw [I.list_inj hy hq];exact hx⟩,st',fun b hb=>(hf b hb).1⟩⟩
 done:=by
  intro X hP hw hK hc i pins s Z H E I hf st hg
  subst hP hw hK
  obtain ⟨xs,hq,hx⟩:=hg
  obtain ⟨its,rv,p,hz⟩:=I.list hq
  obtain ⟨f0,f1,f2,f3,f4,f5⟩:=hf it (by simp)
  have hl:=rv.length
  exact wpAny_pyNext_list_end (I.ok.hd hc) st p.isList (by simp;omega) fun h' eb=>⟨rfl,I.turned (t':=s.toks) (fun b o hb e=>eb b o hb e) f0 f1 f3 f4 f5⟩
 self:=fun _ _ _ _ _ st h=>wpAny_pyIter_listiter st h
theorem qdX {P:Program} {w:World} {K:PySem.W.Frag} {tg:Expr} (a it:Addr):qkE P w K tg (Itt K a) [it] it (fun i h=>h.IsTupleIter it a i) where
 mem:=by simp
 obj:=fun i h st b hb=>by
  have e:b=it:=by simpa using hb
  subst e
  obtain ⟨o,e,c,d⟩:=st
  exact ⟨o,e,fun v z=>by rw [d] at z;cases z⟩
 keep:=fun i h h' st k=>st.at fun o e=>k it (by simp) o e
 item:=by
  intro X hP hw hK hc i pins s Z H E I hf st hg
  subst hP hw hK
  obtain ⟨xs,x,hq,hx⟩:=hg
  obtain ⟨its,rv,p,hz⟩:=I.tuple hq
  obtain ⟨u,hu,ru⟩:=rv.get hx
  obtain ⟨f0,f1,f2,f3,f4,f5⟩:=hf it (by simp)
  refine wpAny_pyNext_tuple_item st (show s.heap.IsTuple a its.toArray from p) (x:=u) (by simpa using hu) fun h' st' sb => ?_
  have I1:Inv X pins Z H { s with heap:=h' }:=I.turned (t':=s.toks) (fun b o hb e=>(sb.2 b hb).trans e) f0 f1 f3 f4 f5
  obtain ⟨o,e,c,d⟩:=id st'
  exact ⟨u,rfl,qiS (s:={ s with heap:=h' }) e c d (by decide) ⟨x,H,I1,ru,⟨rfl,fun ys hy=>by rw [I.tuple_inj hy hq];exact hx⟩,st',fun b hb=>(hf b hb).1⟩⟩
 done:=by
  intro X hP hw hK hc i pins s Z H E I hf st hg
  subst hP hw hK
  obtain ⟨xs,hq,hx⟩:=hg
  obtain ⟨its,rv,p,hz⟩:=I.tuple hq
  obtain ⟨f0,f1,f2,f3,f4,f5⟩:=hf it (by simp)
  have hl:=rv.length
  exact wpAny_pyNext_tuple_end (I.ok.hd hc) st (show s.heap.IsTuple a its.toArray from p) (by simp;omega) fun h' eb=>⟨rfl,I.turned (t':=s.toks) (fun b o hb e=>eb b o hb e) f0 f1 f3 f4 f5⟩
 self:=fun _ _ _ _ _ st h=>wpAny_pyIter_tupleiter st h
theorem qdY {P:Program} {w:World} {K:PySem.W.Frag} {tg:Expr} (it:Addr) (lo:Int) (n:Nat):qkE P w K tg (Itr lo n) [it] it (fun i h=>IsRangeIter h it (lo+(i:Nat)*1) ((n:Int)-(i:Nat)) 1) where
 mem:=by simp
 obj:=fun i h st b hb=>by
  have e:b=it:=by simpa using hb
  subst e
  exact ⟨_,st,fun v z=>by
   have z':Data.fields _=Data.cell v:=z
   cases z'⟩
 keep:=fun i h h' st k=>k it (by simp) _ st
 item:=by
  intro X hP hw hK hc i pins s Z H E I hf st hg
  subst hP hw hK
  obtain ⟨f0,f1,f2,f3,f4,f5⟩:=hf it (by simp)
  have W:=Walks.range (prog:=X.prog) (w:=X.w) (I.ok.hd hc) it lo 1 n
  refine W.item i s _ _ hg st fun v h' tk hv st' kk => ?_
  obtain ⟨t,rfl⟩:=hv
  have I1:Inv X pins Z H { s with heap:=h',toks:=tk }:=I.turned (fun b o hb e=>kk b o (by simpa using hb) e) f0 f1 f3 f4 f5
  refine ⟨_,rfl,qiS (s:={ s with heap:=h',toks:=tk }) (n:="range_iterator") st' rfl rfl (by decide) ⟨.int (lo+i),H,I1,⟨t,?_⟩,⟨rfl,rfl⟩,st',fun b hb=>(hf b hb).1⟩⟩
  rw [Int.mul_one]
 done:=by
  intro X hP hw hK hc i pins s Z H E I hf st hg
  subst hP hw hK
  obtain ⟨f0,f1,f2,f3,f4,f5⟩:=hf it (by simp)
  exact wpAny_pyNext_range_end (I.ok.hd hc) st (by have:n<=i:=hg;omega) fun h' eb=>⟨rfl,I.turned (t':=s.toks) (fun b o hb e=>eb b o hb e) f0 f1 f3 f4 f5⟩
 self:=fun _ _ _ _ _ st h=>wpAny_pyIter_rangeiter st h
end L2
namespace L2
open PySem PySem.Spec PyProof.Rows
section
variable {X:Cx} {tg:Expr}
theorem qgy {pins:List (Addr×Obj)} {Z:St} {H:Hp} {s:Shared} {R:It->Hp->Prop} {E:Value->Shared->Prop} {lo hi:Int} {t u v:Tok} {tk:Nat} (I:Inv X pins Z H s) (h1 : -(2 ^ 62)<=lo) (h2:lo<2 ^ 62) (h3 : -(2 ^ 62)<=hi) (h4:hi<2 ^ 62)
  (q:R (Itr lo (hi-lo).toNat) H):wpAny (model X.prog X.w) X.A (pyIter (.ref s.heap.objs.size)) (PIE X pins Z tg R) E { s with heap:=s.heap.push { cls := .type "range",data := .fields #[.int lo t,.int hi u,.int 1 v] },toks:=tk }:=by
 refine wpAny_pyIter_range (IsRange.new ..) (small_one h1 h2 h3 h4) ?_
 have I1:Inv X pins Z H { s with heap:=s.heap.push { cls := .type "range",data := .fields #[.int lo t,.int hi u,.int 1 v] },toks:=tk }:=I.kept fun b o e=>Heap.get?_push_of_some _ e
 refine ⟨(s.heap.push { cls := .type "range",data := .fields #[.int lo t,.int hi u,.int 1 v] }).objs.size,[(s.heap.push { cls := .type "range",data := .fields #[.int lo t,.int hi u,.int 1 v] }).objs.size],_,_,H,rfl,
  I1.kept (t':=tk) fun b o e=>Heap.get?_push_of_some _ e,qdY _ lo (hi-lo).toNat,?_,fun b hb => ?_,q⟩
 ·have e1:lo+((0:Nat):Int)*1=lo:=by simp
  have e2:(((hi-lo).toNat:Nat):Int)-((0:Nat):Int)=Builtin.Range.rangeSize lo hi 1:=by rw [rangeSize_one];split<;>omega
  show IsRangeIter _ _ (lo+((0:Nat):Int)*1) ((((hi-lo).toNat:Nat):Int)-((0:Nat):Int)) 1
  rw [e1,e2]
  exact Heap.get?_push_size _ rfl
 ·have e:b=(s.heap.push { cls := .type "range",data := .fields #[.int lo t,.int hi u,.int 1 v] }).objs.size:=by simpa using hb
  subst e
  exact I1.fpOk (Nat.le_refl _) (I1.hok.fresh (Nat.le_refl _))
def qmJ (ta:TA):TI:=fun Z H R=>ta Z H fun vs H1=>∃ j:Int,vs=[.int j] /\ -(2 ^ 62)<=j/\j<2 ^ 62/\R (Itr 0 j.toNat) H1
theorem qeH {a:Expr} {ta:TA} {p pos:Pos} (hg:Gl X "range") (hm:X.mg "range"=none) (ha:PA X [a] ta) (hs:starEach [a] X.env=[(false,eval a X.env)]:=by rfl):PI X tg (.Call (.Name "range" p) [a] [] pos) (qmJ ta):=by
 intro pins s Z H R I h
 refine Call_ (qan I hg hm boot_range (PyProof.Rows.callWith_type1 (thn (ha pos pins s Z H _ I h) fun us s1 ⟨vs,H1,I1,r1,q1⟩ => ?_) hs rfl))
 obtain ⟨j,e,q1,q2,q⟩:=q1
 subst e
 cases r1 with
 | cons r rr =>
  cases rr
  obtain ⟨t,rfl⟩:=r
  exact call_range_1 (qgy I1 (by omega) (by omega) q1 q2 (by simpa using q))
def qn8 (wi:TI) (g:TG) (tb:TS):TS:=fun D Z H=>wi Z H fun J H1=>∃ W:Nat->Nat->St->Hp->Prop,(∃ m,W 0 m Z H1)/\∀ i m Z H,W i m Z H ->
 (J.stop i H/\D.nx Z H)\/(J.go i H/\∃ N:St->Hp->Prop,(∀ Z' H',N Z' H'->∃ m',m'<m/\W (i+1) m' Z' H')/\∀ x H',J.yld i H x H'->g x Z H' fun Z2 H2=>tb { D with nx:=N,ct:=N,bk:=D.nx } Z2 H2)
def qao (fp:List Addr) (h:Heap):List (Addr×Obj):=fp.filterMap fun b=>(h.get? b).map fun o=>(b,o)
theorem jT {fp:List Addr} {h:Heap} {b:Addr} {o:Obj} (hb:b∈fp) (e:h.get? b=some o):(b,o)∈qao fp h:=List.mem_filterMap.mpr ⟨b,hb,by rw [e];rfl⟩
theorem qeI {fp:List Addr} {h:Heap} {p:Addr×Obj} (hp:p∈qao fp h):p.1∈fp/\h.get? p.1=some p.2:=by
 obtain ⟨b,hb,e⟩:=List.mem_filterMap.mp hp
 cases q:h.get? b with
 | none=>rw [q] at e;cases e
 | some o =>
  rw [q] at e
  have e':(b,o)=p:=Option.some.inj e
  subst e'
  exact ⟨hb,q⟩
theorem Inv.pinned {pins:List (Addr×Obj)} {Z:St} {H:Hp} {s:Shared} {fp:List Addr} (I:Inv X pins Z H s) (hf:∀ b∈fp,qcm X pins H b) (ho:∀ b∈fp,∃ o,s.heap.get? b=some o/\∀ v,o.data ≠ .cell v):Inv X (pins++qao fp s.heap) Z H s :=
 I.pins_of fun p hp=>(mA_.mp hp).elim (fun z=>I.pin p (mr_ _ z)) fun z=>by
  obtain ⟨hb,e⟩:=qeI z
  obtain ⟨f0,f1,f2,_⟩:=hf p.1 hb
  obtain ⟨o,e',d⟩:=ho p.1 hb
  rw [e] at e';cases e'
  exact ⟨e,f0,f1,f2,d⟩
theorem Inv.unpinned {pins pl:List (Addr×Obj)} {Z:St} {H:Hp} {s:Shared} (I:Inv X (pins++pl) Z H s):Inv X pins Z H s:=I.pins_of fun p hp=>I.pin p (mr_ _ (List.mem_append_left _ hp))
theorem qkF {iter:Expr} {body:List Stmt} {wi:TI} {g:TG} {tb:TS} {pos:Pos} (hp:PassesOwn (model X.prog X.w) X.A X.env X.xe) (hc:X.calm=true) (hi:PI X tg iter wi) (hg:PG X tg g) (hb:PSs X body tb)
  (hs:∀ x,foldedSetIterable iter X.env x=pure x:=by intro _;rfl):PS X (.For tg iter body [] pos) (qn8 wi g tb):=by
 intro pins s Z H D I h
 refine wpAny_For (thn (hi pins s Z H _ I h) fun v s1 h1=>thn h1 fun itv s2 h2 => ?_) hs
 obtain ⟨it,fp,tn,J,H2,e,I2,T,st2,f2,W,⟨m0,w0⟩,turn⟩:=h2
 subst e
 have stat:∀ {H':Hp},(∀ b∈fp,H' b=none)->∀ b∈fp,qcm X pins H' b:=fun hn b hb=>⟨hn b hb,(f2 b hb).2⟩
 refine codeAny_forLoop_any (fun n s'=>∃ i Z' H',Inv X pins Z' H' s'/\tn i s'.heap/\(∀ b∈fp,H' b=none)/\W i n Z' H') ?_ m0 ⟨0,Z,H2,I2,st2,fun b hb=>(f2 b hb).1,w0⟩
 rintro n s3 ⟨i,Z3,H3,I3,st3,fr3,w3⟩
 rcases turn i n Z3 H3 w3 with ⟨stop,qn⟩ | ⟨go,N,hN,step⟩
 ·refine wpAny_passesOwn hp (thn (T.done X rfl rfl rfl hc i pins s3 Z3 H3 X.xe I3 (stat fr3) st3 stop) fun r s4 ⟨hr,I4⟩ => ?_)
  subst hr
  exact wpAny_execs_nil ⟨Z3,H3,I4,qn⟩
 ·refine wpAny_passesOwn hp (thn (T.item X rfl rfl rfl hc i pins s3 Z3 H3 X.xe I3 (stat fr3) st3 go) fun r s4 ⟨u,hr,h4⟩ => ?_)
  subst hr
  refine wpAny_passesOwn hp (thn h4 fun _ s5 ⟨x,H5,I5,r5,y5,st5,fr5⟩ => ?_)
  have I5':=I5.pinned (stat fr5) (T.obj _ _ st5)
  refine wpAny_passesOwn hp (thn (hg _ s5 Z3 H5 x u _ I5' r5 (step x H5 y5)) fun _ s6 ⟨Z6,H6,I6,q6⟩ => ?_)
  refine wpAny_passesOwn hp (thn (hb _ s6 Z6 H6 _ I6 q6) fun f s7 q7 => ?_)
  have again:∀ {Z7:St} {H7:Hp},Inv X (pins++qao fp s5.heap) Z7 H7 s7->N Z7 H7->∃ m,m<n/\∃ i Z' H',Inv X pins Z' H' s7/\tn i s7.heap/\(∀ b∈fp,H' b=none)/\W i m Z' H':=fun {Z7 H7} I7 n7=>by
   obtain ⟨m',hm,w7⟩:=hN Z7 H7 n7
   refine ⟨m',hm,i+1,Z7,H7,I7.unpinned,T.keep _ _ _ st5 fun b hb o e=>(I7.pin (b,o) (mr_ _ (mr_ _ (jT hb e)))).1,fun b hb => ?_,w7⟩
   obtain ⟨o,e,d⟩:=T.obj _ _ st5 b hb
   exact (I7.pin (b,o) (mr_ _ (mr_ _ (jT hb e)))).2.1
  cases f with
  | next=>obtain ⟨Z7,H7,I7,n7⟩:=q7;exact again I7 n7
  | cont=>obtain ⟨Z7,H7,I7,n7⟩:=q7;exact again I7 n7
  | brk=>obtain ⟨Z7,H7,I7,q7⟩:=q7;exact ⟨Z7,H7,I7.unpinned,q7⟩
  | ret v=>obtain ⟨x7,Z7,H7,I7,r7,q7⟩:=q7;exact ⟨x7,Z7,H7,I7.unpinned,r7,q7⟩
end
end L2
namespace L2
open PySem PySem.Spec PyProof.Rows
abbrev R2:=V->V->Hp->VK->Prop
def OpR (X:Cx) (f:Value->Value->Sem Value) (r:R2):Prop :=
 ∀ (pins:List (Addr×Obj)) (s:Shared) (Z:St) (H:Hp) (x y:V) (v u:Value) (Q:VK),Inv X pins Z H s->z9 x v->z9 y u->r x y H Q ->
  wpAny (model X.prog X.w) X.A (f v u) (EP X pins Z Q) X.xe s
def UnR (X:Cx) (f:Value->Sem Value) (r:V->Hp->VK->Prop):Prop :=
 ∀ (pins:List (Addr×Obj)) (s:Shared) (Z:St) (H:Hp) (x:V) (v:Value) (Q:VK),Inv X pins Z H s->z9 x v->r x H Q ->
  wpAny (model X.prog X.w) X.A (f v) (EP X pins Z Q) X.xe s
def j9 (X:Cx) (f:Value) (r:List V->Hp->VK->Prop):Prop :=
 ∀ (pins:List (Addr×Obj)) (s:Shared) (Z:St) (H:Hp) (xs:List V) (us:List Value) (Q:VK),Inv X pins Z H s->qT xs us->r xs H Q ->
  wpAny (model X.prog X.w) X.A (call f us) (EP X pins Z Q) X.xe s
def tOp (r:R2) (ta tb:TE):TE:=fun Z H Q=>ta Z H fun x H1=>tb Z H1 fun y H2=>r x y H2 Q
def tUn (r:V->Hp->VK->Prop) (ta:TE):TE:=fun Z H Q=>ta Z H fun x H1=>r x H1 Q
def rI (C:Int->Int->Prop) (g:Int->Int->V):R2:=fun x y H Q=>∃ i j,x = .int i/\y = .int j/\C i j/\Q (g i j) H
def rI0 (g:Int->Int->V):R2:=fun x y H Q=>∃ i j,x = .int i/\y = .int j/\Q (g i j) H
def rU (g:Int->V):V->Hp->VK->Prop:=fun x H Q=>∃ i,x = .int i/\Q (g i) H
section
variable {X:Cx} {a b c:Expr} {ta tb tc:TE} {pos:Pos}
theorem qmK (ha:PE X a ta) (hb:PE X b tb) {pins:List (Addr×Obj)} {s:Shared} {Z:St} {H:Hp} {R:V->V->Hp->Prop} (I:Inv X pins Z H s)
  (h:ta Z H fun x H1=>tb Z H1 fun y H2=>R x y H2) {Q:Value->Shared->Prop} {f:Value->Value->Sem Value}
  (hf:∀ v u s2 x y H2,Inv X pins Z H2 s2->z9 x v->z9 y u->R x y H2->wpAny (model X.prog X.w) X.A (f v u) Q X.xe s2) :
  wpAny (model X.prog X.w) X.A (eval a X.env) (fun v sJ=>wpAny (model X.prog X.w) X.A (eval b X.env) (fun u sQ=>wpAny (model X.prog X.w) X.A (f v u) Q X.xe sQ) X.xe sJ) X.xe s:=by
 refine thn (ha pins s Z H _ I h) fun v s1 ⟨x,H1,I1,r1,q1⟩ => ?_
 refine thn (hb pins s1 Z H1 _ I1 q1) fun u s2 ⟨y,H2,I2,r2,q2⟩ => ?_
 exact hf v u s2 x y H2 I2 r1 r2 q2
theorem qmL {op:Operator} {r:R2} (ho:OpR X (binaryOp op) r) (ha:PE X a ta) (hb:PE X b tb):PE X (.BinOp a op b pos) (tOp r ta tb):=by
 intro pins s Z H Q I h
 exact wpAny_BinOp (qmK ha hb I h fun v u s2 x y H2 I2 rx ry q=>ho pins s2 Z H2 x y v u Q I2 rx ry q)
theorem qmM {op:UnaryOp} {r:V->Hp->VK->Prop} (ho:UnR X (unaryOp op) r) (ha:PE X a ta):PE X (.UnaryOp op a pos) (tUn r ta):=by
 intro pins s Z H Q I h
 exact UnaryOp_ (thn (ha pins s Z H _ I h) fun v s1 ⟨x,H1,I1,r1,q1⟩=>ho pins s1 Z H1 x v Q I1 r1 q1)
theorem opI {f:Value->Value->Sem Value} {C:Int->Int->Prop} {g:Int->Int->Int}
  (rule:∀ (i j:Int) (t u:Tok) (s:Shared) (Q:Value->Shared->Prop) (E:Value->Shared->Prop),C i j->Q (.int (g i j) s.toks) { s with toks:=s.toks+1 }->wpAny (model X.prog X.w) X.A (f (.int i t) (.int j u)) Q E s) :
  OpR X f (rI C fun i j => .int (g i j)):=by
 intro pins s Z H x y v u Q I rx ry h
 obtain ⟨i,j,rfl,rfl,hc,q⟩:=h
 obtain ⟨t,rfl⟩:=rx
 obtain ⟨t',rfl⟩:=ry
 exact rule i j t t' s _ _ hc ⟨.int (g i j),H,I.tok _,⟨_,rfl⟩,q⟩
theorem qnx {f:Value->Value->Sem Value} {g:Int->Int->Int}
  (rule:∀ (i j:Int) (t u:Tok) (s:Shared) (Q:Value->Shared->Prop) (E:Value->Shared->Prop),Q (.int (g i j) s.toks) { s with toks:=s.toks+1 }->wpAny (model X.prog X.w) X.A (f (.int i t) (.int j u)) Q E s) :
  OpR X f (rI0 fun i j => .int (g i j)):=by
 intro pins s Z H x y v u Q I rx ry h
 obtain ⟨i,j,rfl,rfl,q⟩:=h
 obtain ⟨t,rfl⟩:=rx
 obtain ⟨t',rfl⟩:=ry
 exact rule i j t t' s _ _ ⟨.int (g i j),H,I.tok _,⟨_,rfl⟩,q⟩
theorem qmo {f:Value->Value->Sem Value} {g:Int->Int->Bool}
  (rule:∀ (i j:Int) (t u:Tok) (s:Shared) (Q:Value->Shared->Prop) (E:Value->Shared->Prop),Q (.bool (g i j)) s->wpAny (model X.prog X.w) X.A (f (.int i t) (.int j u)) Q E s) :
  OpR X f (rI0 fun i j => .bl (g i j)):=by
 intro pins s Z H x y v u Q I rx ry h
 obtain ⟨i,j,rfl,rfl,q⟩:=h
 obtain ⟨t,rfl⟩:=rx
 obtain ⟨t',rfl⟩:=ry
 exact rule i j t t' s _ _ ⟨.bl (g i j),H,I,rfl,q⟩
def qkG (i j:Int):Prop:=0<j/\j<1606938044258990275541962092341162602522202993782792835301376
theorem qny {i j:Int} (h1:0<j) (h2:j<1606938044258990275541962092341162602522202993782792835301376):Builtin.divisionGoesByPylong i j=false:=by
 refine PyProof.noPylong_of_log2 ?_
 have h0:j.natAbs≠0:=by omega
 have h3:j.natAbs<2 ^ 200:=by
   have:(2:Nat) ^ 200=1606938044258990275541962092341162602522202993782792835301376:=by decide +kernel
   omega
 have:=(Nat.log2_lt h0).mpr h3
 omega
def qnz (i j:Int):Prop:=0<=j/\j<=1000000/\i.natAbs<2 ^ 64
def qkH (i j:Int):Prop:=(-(2 ^ 64)<i/\i<2 ^ 64)\/(-(2 ^ 64)<j/\j<2 ^ 64)
theorem qkH.ok {i j:Int} (h:qkH i j):IntMulOk i j:=by
 rcases h with ⟨h1,h2⟩ | ⟨h1,h2⟩
 ·exact .of_left (intBits_le_64 h1 h2)
 ·exact .of_right (intBits_le_64 h1 h2)
theorem qkI:OpR X (binaryOp .Add) (rI0 fun i j => .int (i+j)):=qnx fun _ _ _ _ _ _ _ q=>add_int q
theorem qkJ:OpR X (binaryOp .Sub) (rI0 fun i j => .int (i-j)):=qnx fun _ _ _ _ _ _ _ q=>sub_int q
theorem qkK:OpR X (binaryOp .Mult) (rI qkH fun i j => .int (i*j)):=opI fun _ _ _ _ _ _ _ hc q=>mul_int q hc.ok
theorem uD:OpR X (binaryOp .FloorDiv) (rI qkG fun i j => .int (i/j)):=opI fun i j _ _ _ _ _ hc q=>by
 have h1:(0:Int)<j:=hc.1
 have h2:j<1606938044258990275541962092341162602522202993782792835301376:=hc.2
 exact floordiv_int (by omega) (by rw [Int.fdiv_eq_ediv_of_nonneg i (by omega)];exact q) (.inl (qny h1 h2))
theorem qbA:OpR X (binaryOp .Mod) (rI (fun _ j=>0<j) fun i j => .int (i%j)):=opI fun i j _ _ _ _ _ hc q=>by
 have h1:(0:Int)<j:=hc
 exact mod_int' (by omega) (by rw [Int.fmod_eq_emod_of_nonneg i (by omega)];exact q)
theorem qhU:OpR X (binaryOp .Pow) (rI qnz fun i j => .int (i ^ j.toNat)):=opI fun _ _ _ _ _ _ _ hc q=>pow_int_small hc.1 hc.2.1 hc.2.2 q
theorem unI {f:Value->Sem Value} {g:Int->Int}
  (rule:∀ (i:Int) (t:Tok) (s:Shared) (Q:Value->Shared->Prop) (E:Value->Shared->Prop),Q (.int (g i) s.toks) { s with toks:=s.toks+1 }->wpAny (model X.prog X.w) X.A (f (.int i t)) Q E s) :
  UnR X f (rU fun i => .int (g i)):=by
 intro pins s Z H x v Q I rx h
 obtain ⟨i,rfl,q⟩:=h
 obtain ⟨t,rfl⟩:=rx
 exact rule i t s _ _ ⟨.int (g i),H,I.tok _,⟨_,rfl⟩,q⟩
theorem qkL:UnR X (unaryOp .USub) (rU fun i => .int (-i)):=unI fun _ _ _ _ _ q=>neg_int q
end
def qmN:V->V->Bool
 | .non,.non=>true | .non,.int _=>true | .int _,.non=>true | .non,.bl _=>true | .bl _,.non=>true | .non,.str _=>true | .str _,.non=>true
 | .int _,.int _=>true | .bl _,.bl _=>true | .str _,.str _=>true | .byt _,.byt _=>true
 | .int _,.str _=>true | .str _,.int _=>true | .bl _,.str _=>true | .str _,.bl _=>true
 | _,_=>false
def rEq:R2:=fun x y H Q=>qmN x y=true/\Q (.bl (decide (x=y))) H
def rNe:R2:=fun x y H Q=>qmN x y=true/\Q (.bl (!decide (x=y))) H
theorem qeJ {i j:Int}:decide (V.int i=V.int j)=(i==j):=by
 rw [Bool.eq_iff_iff]
 simp
theorem qhV {i j:Bool}:decide (V.bl i=V.bl j)=(i==j):=by
 rw [Bool.eq_iff_iff]
 simp
theorem qeK {i j:Str}:decide (V.str i=V.str j)=(i==j):=by
 rw [Bool.eq_iff_iff]
 simp
theorem qeL {i j:Array UInt8}:decide (V.byt i=V.byt j)=(i.toList==j.toList):=by
 rw [Bool.eq_iff_iff]
 cases i
 cases j
 simp
section
variable {X:Cx} {a b c:Expr} {ta tb tc:TE} {pos:Pos}
theorem qY {pins:List (Addr×Obj)} {Z:St} {H:Hp} {s:Shared} {Q:VK} {k k':Bool} (I:Inv X pins Z H s) (q:Q (.bl k) H) (e:k=k'):EP X pins Z Q (.bool k') s:=by
 subst e
 exact ⟨.bl k,H,I,rfl,q⟩
theorem qmO:OpR X (compareOp .Eq) rEq:=by
 intro pins s Z H x y v u Q I rx ry h
 obtain ⟨hs,q⟩:=h
 cases x with
 | non =>
  cases rx
  cases y with
  | non=>cases ry;exact PySem.EqNone.eq_none_none (qY I q (by simp))
  | bl j=>cases ry;exact PySem.EqNone.eq_none_bool (qY I q (by simp))
  | int j=>obtain ⟨t',rfl⟩:=ry;exact PySem.EqNone.eq_none_int (qY I q (by simp))
  | str j=>obtain ⟨t',rfl⟩:=ry;exact PySem.EqNone.eq_none_str (qY I q (by simp))
  | _=>exact absurd (show false=true from hs) Bool.false_ne_true
 | bl i =>
  cases rx
  cases y with
  | non=>cases ry;exact PySem.EqNone.eq_bool_none (qY I q (by simp))
  | bl j=>cases ry;exact eq_bool (qY I q qhV)
  | str j=>obtain ⟨t',rfl⟩:=ry;exact PySem.EqMixed.eq_bool_str (qY I q (by simp))
  | _=>exact absurd (show false=true from hs) Bool.false_ne_true
 | int i =>
  obtain ⟨t,rfl⟩:=rx
  cases y with
  | non=>cases ry;exact PySem.EqNone.eq_int_none (qY I q (by simp))
  | int j=>obtain ⟨t',rfl⟩:=ry;exact eq_int (qY I q qeJ)
  | str j=>obtain ⟨t',rfl⟩:=ry;exact PySem.EqMixed.eq_int_str (qY I q (by simp))
  | _=>exact absurd (show false=true from hs) Bool.false_ne_true
 | str i =>
  obtain ⟨t,rfl⟩:=rx
  cases y with
  | non=>cases ry;exact PySem.EqNone.eq_str_none (qY I q (by simp))
  | bl j=>cases ry;exact PySem.EqMixed.eq_str_bool (qY I q (by simp))
  | int j=>obtain ⟨t',rfl⟩:=ry;exact PySem.EqMixed.eq_str_int (qY I q (by simp))
  | str j=>obtain ⟨t',rfl⟩:=ry;exact eq_str (qY I q qeK)
  | _=>exact absurd (show false=true from hs) Bool.false_ne_true
 | byt i =>
  obtain ⟨t,rfl⟩:=rx
  cases y with
  | byt j=>obtain ⟨t',rfl⟩:=ry;exact PySem.W.eq_bytes (qY I q qeL)
  | _=>exact absurd (show false=true from hs) Bool.false_ne_true
 | _=>cases y<;>exact absurd (show false=true from hs) Bool.false_ne_true
theorem qkM:OpR X (compareOp .NotEq) rNe:=by
 intro pins s Z H x y v u Q I rx ry h
 obtain ⟨hs,q⟩:=h
 cases x with
 | non =>
  cases rx
  cases y with
  | non=>cases ry;exact PySem.EqNone.ne_none_none (qY I q (by simp))
  | bl j=>cases ry;exact PySem.EqNone.ne_none_bool (qY I q (by simp))
  | int j=>obtain ⟨t',rfl⟩:=ry;exact PySem.EqNone.ne_none_int (qY I q (by simp))
  | str j=>obtain ⟨t',rfl⟩:=ry;exact PySem.EqNone.ne_none_str (qY I q (by simp))
  | _=>exact absurd (show false=true from hs) Bool.false_ne_true
 | bl i =>
  cases rx
  cases y with
  | non=>cases ry;exact PySem.EqNone.ne_bool_none (qY I q (by simp))
  | bl j=>cases ry;exact ne_bool (qY I q (congrArg not qhV))
  | str j=>obtain ⟨t',rfl⟩:=ry;exact PySem.EqMixed.ne_bool_str (qY I q (by simp))
  | _=>exact absurd (show false=true from hs) Bool.false_ne_true
 | int i =>
  obtain ⟨t,rfl⟩:=rx
  cases y with
  | non=>cases ry;exact PySem.EqNone.ne_int_none (qY I q (by simp))
  | int j=>obtain ⟨t',rfl⟩:=ry;exact ne_int (qY I q (congrArg not qeJ))
  | str j=>obtain ⟨t',rfl⟩:=ry;exact PySem.EqMixed.ne_int_str (qY I q (by simp))
  | _=>exact absurd (show false=true from hs) Bool.false_ne_true
 | str i =>
  obtain ⟨t,rfl⟩:=rx
  cases y with
  | non=>cases ry;exact PySem.EqNone.ne_str_none (qY I q (by simp))
  | bl j=>cases ry;exact PySem.EqMixed.ne_str_bool (qY I q (by simp))
  | int j=>obtain ⟨t',rfl⟩:=ry;exact PySem.EqMixed.ne_str_int (qY I q (by simp))
  | str j=>obtain ⟨t',rfl⟩:=ry;exact ne_str (qY I q (congrArg not qeK))
  | _=>exact absurd (show false=true from hs) Bool.false_ne_true
 | byt i =>
  obtain ⟨t,rfl⟩:=rx
  cases y with
  | byt j=>obtain ⟨t',rfl⟩:=ry;exact PySem.W.ne_bytes (qY I q (congrArg not qeL))
  | _=>exact absurd (show false=true from hs) Bool.false_ne_true
 | _=>cases y<;>exact absurd (show false=true from hs) Bool.false_ne_true
theorem qkN:OpR X (compareOp .Lt) (rI0 fun i j => .bl (decide (i<j))):=qmo fun _ _ _ _ _ _ _ q=>lt_int q
theorem qmP:OpR X (compareOp .LtE) (rI0 fun i j => .bl (decide (i<=j))):=qmo fun _ _ _ _ _ _ _ q=>le_int q
theorem qiT:OpR X (compareOp .Gt) (rI0 fun i j => .bl (decide (j<i))):=qmo fun _ _ _ _ _ _ _ q=>gt_int q
theorem qkO:OpR X (compareOp .GtE) (rI0 fun i j => .bl (decide (j<=i))):=qmo fun _ _ _ _ _ _ _ q=>ge_int q
theorem qkP:OpR X (compareOp .Is) (fun x y H Q=>y = .non/\Q (.bl (decide (x = .non))) H):=by
 intro pins s Z H x y v u Q I rx ry h
 obtain ⟨rfl,q⟩:=h
 cases ry
 refine is_none_gen (qY I q ?_)
 cases x<;>first
  | (cases rx;rfl)
  | (obtain ⟨t,rfl⟩:=rx;rfl)
theorem qiU:OpR X (compareOp .IsNot) (fun x y H Q=>y = .non/\Q (.bl (!decide (x = .non))) H):=by
 intro pins s Z H x y v u Q I rx ry h
 obtain ⟨rfl,q⟩:=h
 cases ry
 refine isnot_none_gen (qY I q ?_)
 cases x<;>first
  | (cases rx;rfl)
  | (obtain ⟨t,rfl⟩:=rx;rfl)
theorem OpR.or {f:Value->Value->Sem Value} {r r':R2} (h:OpR X f r) (h':OpR X f r'):OpR X f (fun x y H Q=>r x y H Q\/r' x y H Q):=by
 intro pins s Z H x y v u Q I rx ry q
 rcases q with q | q
 ·exact h pins s Z H x y v u Q I rx ry q
 ·exact h' pins s Z H x y v u Q I rx ry q
theorem zC (b:Expr) {op:CmpOp} (h:op ≠ .In:=by decide) (h2:op ≠ .NotIn:=by decide):behindInMarks op b=false:=by
 have e1:(op==CmpOp.In)=false:=by cases op<;>first | rfl | exact absurd rfl h
 have e2:(op==CmpOp.NotIn)=false:=by cases op<;>first | rfl | exact absurd rfl h2
 cases b<;>simp [behindInMarks,e1,e2]
theorem qiV {op:CmpOp} {r:R2} (ho:OpR X (compareOp op) r) (ha:PE X a ta) (hb:PE X b tb) (hm:behindInMarks op b=false):PE X (.Compare a [op] [b] pos) (tOp r ta tb):=by
 intro pins s Z H Q I h
 exact wpAny_Compare1 (qmK ha hb I h fun v u s2 x y H2 I2 rx ry q=>ho pins s2 Z H2 x y v u Q I2 rx ry q) hm
def qmQ (t:TE):TT:=fun Z H Q=>t Z H fun x H'=>∃ k,x = .bl k/\Q k H'
theorem qeM {op:CmpOp} {r:R2} (ho:OpR X (compareOp op) r) (ha:PE X a ta) (hb:PE X b tb) (hm:behindInMarks op b=false):PT X (.Compare a [op] [b] pos) (qmQ (tOp r ta tb)):=by
 intro pins s Z H Q I h
 refine wpAny_isTrue_Compare1 (thn (ha pins s Z H _ I h) fun v s1 ⟨x,H1,I1,r1,q1⟩=>thn (hb pins s1 Z H1 _ I1 q1) fun u s2 ⟨y,H2,I2,r2,q2⟩ =>
  thn (ho pins s2 Z H2 x y v u _ I2 r1 r2 q2) fun c s3 ⟨z,H3,I3,r3,k,e,q3⟩ => ?_) hm
 subst e
 cases r3
 exact wpAny_truthy_bool ⟨H3,I3,q3⟩
theorem qbB:(sizeLine:Nat)<2 ^ 63:=by rw [sizeLine_eq];decide
theorem qdZ:OpR X (binaryOp .Add) (fun x y H Q=>∃ i j,x = .str i/\y = .str j/\i.length+j.length<=sizeLine/\Q (.str (i++j)) H):=by
 intro pins s Z H x y v u Q I rx ry h
 obtain ⟨i,j,rfl,rfl,hz,q⟩:=h
 obtain ⟨t,rfl⟩:=rx
 obtain ⟨t',rfl⟩:=ry
 exact add_str (fun t' tk=>⟨.str (i++j),H,I.tok _,⟨_,rfl⟩,q⟩) hz
theorem qgz {x:V} {us:List Value} (r:qT [x] us):∃ u,us=[u]/\z9 x u:=by
 cases r with
 | cons r1 r2=>cases r2;exact ⟨_,rfl,r1⟩
theorem qiW {x y:V} {us:List Value} (r:qT [x,y] us):∃ u w',us=[u,w']/\z9 x u/\z9 y w':=by
 cases r with
 | cons r1 r2 =>
  cases r2 with
  | cons r3 r4=>cases r4;exact ⟨_,_,rfl,r1,r3⟩
theorem qgA:j9 X (.builtin "abs") (fun xs H Q=>∃ i,xs=[.int i]/\Q (.int (if i<0 then -i else i)) H):=by
 intro pins s Z H xs us Q I r h
 obtain ⟨i,rfl,q⟩:=h
 obtain ⟨u,rfl,t,rfl⟩:=qgz r
 exact call_abs_int fun u tk=>⟨.int (if i<0 then -i else i),H,I.tok _,⟨_,rfl⟩,q⟩
theorem qeN (hc:X.calm=true):j9 X (.builtin "max") (fun xs H Q=>∃ i j,xs=[.int i,.int j]/\Q (.int (if j>i then j else i)) H):=by
 intro pins s Z H xs us Q I r h
 obtain ⟨i,j,rfl,q⟩:=h
 obtain ⟨u,w',rfl,⟨t,rfl⟩,⟨t',rfl⟩⟩:=qiW r
 refine max_two_ints (I.ok.hd hc) fun h' tk k=>⟨_,H,I.kept k,?_,q⟩
 by_cases hj:j>i
 ·rw [if_pos hj,if_pos hj];exact ⟨_,rfl⟩
 ·rw [if_neg hj,if_neg hj];exact ⟨_,rfl⟩
theorem v9 (hc:X.calm=true):j9 X (.builtin "min") (fun xs H Q=>∃ i j,xs=[.int i,.int j]/\Q (.int (if j<i then j else i)) H):=by
 intro pins s Z H xs us Q I r h
 obtain ⟨i,j,rfl,q⟩:=h
 obtain ⟨u,w',rfl,⟨t,rfl⟩,⟨t',rfl⟩⟩:=qiW r
 refine min_two_ints (I.ok.hd hc) fun h' tk k=>⟨_,H,I.kept k,?_,q⟩
 by_cases hj:j<i
 ·rw [if_pos hj,if_pos hj];exact ⟨_,rfl⟩
 ·rw [if_neg hj,if_neg hj];exact ⟨_,rfl⟩
theorem qcq:j9 X (.builtin "divmod") (fun xs H Q=>∃ i j,xs=[.int i,.int j]/\qkG i j/\∀ p,H p=none->Q (.ref p) (upd H p (.tup [.int (i/j),.int (i%j)]))):=by
 intro pins s Z H xs us Q I r h
 obtain ⟨i,j,rfl,⟨h1,h2⟩,q⟩:=h
 obtain ⟨u,w',rfl,⟨t,rfl⟩,⟨t',rfl⟩⟩:=qiW r
 refine divmod_int (by omega) ?_ (.inl (qny h1 h2))
 rw [Int.fdiv_eq_ediv_of_nonneg i (by omega),Int.fmod_eq_emod_of_nonneg i (by omega)]
 have hn:H s.heap.objs.size=none:=I.hok.fresh (Nat.le_refl _)
 refine ⟨.ref s.heap.objs.size,_,?_,rfl,q _ hn⟩
 refine I.laid (fun b o e=>Heap.get?_push_of_some _ e) (Nat.le_refl _) ⟨by simp only [lC_,lN_];rw [sizeLine_eq];decide,[.int (i/j) s.toks,.int (i%j) (s.toks+1)],.cons ⟨_,rfl⟩ (.cons ⟨_,rfl⟩ .nil),?_⟩
 exact ⟨_,Heap.get?_push_size s.heap rfl,rfl,0,rfl⟩
end
end L2
namespace L2
open PySem PySem.Spec PyProof.Rows
structure qmR (h:Heap) (x dx C:Addr) (mA:Str->Option Value):Prop where
 obj:h.get? x=some (PySem.W.instObj C dx)
 ns:h.Ns1 dx mA
 ne:dx≠x
theorem qeO {h:Heap} {dx:Addr} {mA:Str->Option Value} (n:h.Ns1 dx mA):∃ od,h.get? dx=some od/\∀ name,PySem.W.lookIn name od=some (mA name):=by
 obtain ⟨o,es,ep,ho,hd,hk,_,hm⟩:=n
 refine ⟨o,ho,fun name => ?_⟩
 have e:=hm name
 unfold nsFind findBy at e
 rw [<- Array.find?_toList] at e
 unfold PySem.W.lookIn
 rw [hd]
 dsimp only
 split
 ·rename_i y q
  rw [q] at e
  exact congrArg some e
 ·rename_i q
  rw [q] at e
  have a:es.toList.any (·.refKey)=false:=by
   rw [List.any_eq_false]
   intro y hy
   obtain ⟨z,t,hkey⟩:=hk y (Array.mem_toList_iff.mp hy)
   simp [DictEntry.refKey,hkey]
  have a':¬ es.toList.any (·.refKey)=true:=by rw [a];exact Bool.false_ne_true
  rw [if_neg a']
  exact congrArg some e
theorem qmR.look {h:Heap} {x dx C:Addr} {mA:Str->Option Value} (I:qmR h x dx C mA):∃ od,PySem.W.InstAt h x (PySem.W.instObj C dx) C (some od)/\∀ name,PySem.W.lookIn name od=some (mA name) :=
 let ⟨od,ho,hl⟩:=qeO I.ns
 ⟨od,⟨I.obj,rfl,rfl,ho⟩,hl⟩
section
variable {prog:Program} {w:World} {A:Around} {E:Value->Shared->Prop} {s:Shared} {K:PySem.W.Frag} {x dx C f:Addr} {mA:Str->Option Value} {name:Str} {v:Value}
end
def qn9 (f:Str) (v:V):List (Str×V)->List (Str×V)
 | []=>[(f,v)]
 | (g,x)::r=>if g=f then (g,v)::r else (g,x)::qn9 f v r
section
variable {P:Program} {w:World} {H H':Hp} {h h':Heap} {a C dx:Addr} {fs fs':List (Str×V)}
theorem qiX (hok:HOk P w H h) (e:H a=some (.ins C dx fs)):∃ mA,qmR h a dx C mA/\(∀ f,qmA (fs.lookup f) (mA f))/\PySem.Within mA (fs.map (·.1))/\fs.length<=1000/\H dx=some (.own a):=by
 obtain ⟨d,z,ne,ob,mA,n,r,q⟩:=(show j8 P w H h a (.ins C dx fs) from hok a _ e)
 exact ⟨mA,⟨ob,n,ne⟩,r,q,z,d⟩
end
structure Cls (K:PySem.W.Frag) (C:Addr):Prop where
 pg:PySem.W.plainGet K C Str.empty=true
 hd:PySem.W.hasDictIn K C=true
 po:PySem.W.plainOver K C=true
 sa:PySem.W.findIn K (.ref C) "__setattr__"=some (some (.builtin "object.__setattr__"))
theorem Cls.get {K:PySem.W.Frag} {C:Addr} (c:Cls K C) (f:Str):PySem.W.plainGet K C f=true:=c.pg
structure Con (K:PySem.W.Frag) (C:Addr) (f:Str) (v:V) (u:Value):Prop where
 at_:PySem.W.findIn K (.ref C) f=some (some u)
 rel:z9 v u
 get:PySem.W.specialIn K u "__get__"=some none
 cp:PySem.W.copiedNames.contains f=false
structure qov (K:PySem.W.Frag) (C:Addr) (m:Str) (f:Addr):Prop where
 at_:PySem.W.findIn K (.ref C) m=some (some (.ref f))
 fn:PySem.W.isFn K (.ref f)=true
 kp:PySem.W.keepIn K (.ref f)=true
section
variable {X:Cx} {pins:List (Addr×Obj)} {Z:St} {H:Hp} {s:Shared} {a C dx:Addr} {fs:List (Str×V)} {f:Str} {v:V} {A:Around} {E:Value->Shared->Prop}
end
section
variable {X:Cx} {o e value:Expr} {f:Str} {pos pos' tpos:Pos} {ta tv:TE}
end
section
variable {X:Cx} {pins:List (Addr×Obj)} {Z:St} {H:Hp} {s:Shared} {A:Around} {E:Value->Shared->Prop} {Q:Value->Shared->Prop} {c:Value} {b:Bool}
inductive qew (K:PySem.W.Frag) (H:Hp):V->Value->Prop where
 | non:qew K H .non (.type "NoneType")
 | bl (x:Bool):qew K H (.bl x) (.type "bool")
 | int (i:Int):qew K H (.int i) (.type "int")
 | str (x:Str):qew K H (.str x) (.type "str")
 | flt (x:UInt64):qew K H (.flt x) (.type "float")
 | lst {a:Addr} {xs:List V} (e:H a=some (.lst xs)):qew K H (.ref a) (.type "list")
 | frz {a:Addr} {o:Obj} {xs:List V} (e:H a=some (.frz o (.lst xs))):qew K H (.ref a) (.type "list")
 | tup {a:Addr} {xs:List V} (e:H a=some (.tup xs)):qew K H (.ref a) (.type "tuple")
 | dK {a:Addr} {kvs:List (Key×V)} (e:H a=some (.dK kvs)):qew K H (.ref a) (.type "dict")
 | dT {a:Addr} {kvs:List (List Key×V)} (e:H a=some (.dT kvs)):qew K H (.ref a) (.type "dict")
 | ins {a C dx:Addr} {fs:List (Str×V)} (e:H a=some (.ins C dx fs)) (cl:Cls K C) (ha:PySem.W.findIn K (.ref C) "__class__"=some (some (.builtin "object.__class__")))
   (hn:PySem.W.specialIn K (.builtin "object.__class__") "__get__"=some (some (.builtin "getset_descriptor.__get__"))) (htk:PySem.W.takesIn K (.builtin "object.__class__")=some true)
   (hm:PySem.W.mroIn K C (.type "object")=some true):qew K H (.ref a) (.ref C)
theorem yA {x:V} {u t:Value} (I:Inv X pins Z H s) (rx:z9 x u) (ty:qew X.K H x t) (e:PySem.W.kitOne X.K t c=some b) (h:∀ tk,Q (.bool b) { s with toks:=tk }) :
  wpAny (model X.prog X.w) A (call (.builtin "isinstance") [u,c]) Q E s:=by
 cases ty with
 | non=>cases (show u=Value.none from rx);exact PySem.W.kia_one PySem.W.kitx_none I.kIn True.intro e (fun z=>nomatch z) h
 | bl y=>cases (show u=Value.bool y from rx);exact PySem.W.kia_one PySem.W.kitx_bool I.kIn True.intro e (fun z=>nomatch z) h
 | int i=>obtain ⟨t,q⟩:=(show ∃ t,u=Value.int i t from rx);cases q;exact PySem.W.kia_one PySem.W.kitx_int I.kIn True.intro e (fun z=>nomatch z) h
 | str y=>obtain ⟨t,q⟩:=(show ∃ t,u=Value.str y t from rx);cases q;exact PySem.W.kia_one PySem.W.kitx_str I.kIn True.intro e (fun z=>nomatch z) h
 | flt y=>obtain ⟨t,q⟩:=(show ∃ t,u=Value.float y t from rx);cases q;exact PySem.W.kia_one PySem.W.kitx_float I.kIn True.intro e (fun z=>nomatch z) h
 | @lst a xs ea =>
  cases (show u=Value.ref a from rx)
  obtain ⟨_,_,n,_,h1⟩:=(show j8 X.prog X.w H s.heap a (.lst xs) from I.hok a _ ea)
  exact PySem.W.kia_one PySem.W.kitx_list I.kIn ⟨_,h1,rfl⟩ e (fun z=>nomatch z) h
 | @frz a ob xs ea =>
  cases (show u=Value.ref a from rx)
  obtain ⟨_,_,_,n,_,h1⟩:=(show j8 X.prog X.w H s.heap a (.frz ob (.lst xs)) from I.hok a _ ea)
  exact PySem.W.kia_one PySem.W.kitx_list I.kIn ⟨_,h1,rfl⟩ e (fun z=>nomatch z) h
 | @tup a xs ea =>
  cases (show u=Value.ref a from rx)
  obtain ⟨_,_,_,p⟩:=(show j8 X.prog X.w H s.heap a (.tup xs) from I.hok a _ ea)
  obtain ⟨o,h1,h2,_⟩:=p
  exact PySem.W.kia_one PySem.W.kitx_tuple I.kIn ⟨o,h1,h2⟩ e (fun z=>nomatch z) h
 | @dK a kvs ea =>
  cases (show u=Value.ref a from rx)
  obtain ⟨_,_,vs,_,p⟩:=(show j8 X.prog X.w H s.heap a (.dK kvs) from I.hok a _ ea)
  obtain ⟨o,es,ep,h1,h2,_⟩:=p
  exact PySem.W.kia_one PySem.W.kitx_dict I.kIn ⟨o,h1,h2.1⟩ e (fun z=>nomatch z) h
 | @dT a kvs ea =>
  cases (show u=Value.ref a from rx)
  obtain ⟨_,_,xs,_,o,es,ep,h1,h2,_⟩:=(show j8 X.prog X.w H s.heap a (.dT kvs) from I.hok a _ ea)
  exact PySem.W.kia_one PySem.W.kitx_dict I.kIn ⟨o,h1,h2.1⟩ e (fun z=>nomatch z) h
 | @ins a C dx fs ea cl ha hn htk hm =>
  cases (show u=Value.ref a from rx)
  obtain ⟨mA,O,_⟩:=qiX I.hok ea
  obtain ⟨od,J,_⟩:=O.look
  exact PySem.W.kia_one (PySem.W.kitx_own (cl.get _) cl.hd ha hn htk hm) I.kIn J e (fun z=>nomatch z) h
end
end L2
namespace L2
open PySem PySem.Spec PyProof.Rows
structure jA (k:Nat) (A:Around):Prop where
 hd:A.handled=none
 dp:A.depth+3*k+5<recursionLimit
 un:A.units+16*k+200<cLine
 gd:A.guards=some []
theorem jA.mono {j k:Nat} {A:Around} (r:jA k A) (h:j<=k):jA j A:=⟨r.hd,by have:=r.dp;omega,by have:=r.un;omega,r.gd⟩
theorem jA.deeper {k:Nat} {A:Around} (r:jA (k+1) A) (env:Env):jA k (A.deeper env) :=
 ⟨r.hd,by have:=r.dp;show A.depth+1+3*k+5<_;omega,by have:=r.un;show A.units+3+16*k+200<_;omega,r.gd⟩
theorem jA.in1 {k:Nat} {A:Around} (r:jA (k+1) A):jA k A.in1 :=
 ⟨r.hd,by have:=r.dp;show A.depth+3*k+5<_;omega,by have:=r.un;show A.units+1+16*k+200<_;omega,r.gd⟩
theorem jA.depth {k:Nat} {A:Around} (r:jA k A):A.depth<recursionLimit:=by have:=r.dp;omega
theorem jA.units {k:Nat} {A:Around} (r:jA k A):A.units+64<cLine:=by have:=r.un;omega
theorem jA.units0 {k:Nat} {A:Around} (r:jA k A):A.units<cLine:=by have:=r.un;omega
def qmS:TA:=fun _ H Q=>Q [] H
def qgB (ta:TE) (tr:TA):TA:=fun Z H Q=>ta Z H fun x H1=>tr Z H1 fun xs H2=>Q (x::xs) H2
section
variable {X:Cx} {e:Expr} {es:List Expr} {te:TE} {t:TA} {pos:Pos}
theorem ya:PA X [] qmS:=fun _ _ _ _ H Q I h=>Calls.spliced_nil ⟨[],H,I,.nil,h⟩
theorem zQ (ha:PE X e te) (hr:PA X es t) (hs:starEach (e::es) X.env=(false,eval e X.env)::starEach es X.env:=by rfl):PA X (e::es) (qgB te t):=by
 intro pos pins s Z H Q I h
 rw [hs]
 show wpAny _ _ (spliced ((false,eval e X.env)::backTo pos (starEach es X.env))) _ _ s
 refine Calls.spliced_cons (thn (ha pins s Z H _ I h) fun u s1 ⟨x,H1,I1,r1,q1⟩ => ?_)
 exact thn (hr pos pins s1 Z H1 _ I1 q1) fun us s2 ⟨xs,H2,I2,r2,q2⟩=>⟨x::xs,H2,I2,.cons r1 r2,q2⟩
def qoa (t:TA):TE:=fun Z H Q=>t Z H fun xs H1=>xs.length<=sizeLine/\∀ p,H1 p=none->Q (.ref p) (upd H1 p (.tup xs))
def qob (t:TA):TE:=fun Z H Q=>t Z H fun xs H1=>xs.length<=sizeLine/\∀ p,H1 p=none->Q (.ref p) (upd H1 p (.lst xs))
theorem qeP {x1} (h:PA X es t):PE X (.Tuple es x1 pos) (qoa t):=by
 intro pins s Z H Q I hq
 refine wpAny_Tuple_spliced (thn (h pos pins s Z H _ I hq) fun us s1 ⟨xs,H1,I1,r,z,q⟩=>⟨by rw [<- r.length];exact z,?_⟩)
 have hf:H1 s1.heap.objs.size=none:=I1.hok.fresh (Nat.le_refl _)
 refine ⟨.ref s1.heap.objs.size,upd H1 s1.heap.objs.size (.tup xs),I1.laid (t':=s1.toks) (fun b u e=>Heap.get?_push_of_some _ e) (Nat.le_refl _) ?_,rfl,q _ hf⟩
 exact ⟨z,us,r,⟨_,Heap.get?_push_size _ rfl,rfl,_,rfl⟩⟩
theorem qhW (h:PA X es t):PE X (.List es pos) (qob t):=by
 intro pins s Z H Q I hq
 refine wpAny_List_spliced (thn (h pos pins s Z H _ I hq) fun us s1 ⟨xs,H1,I1,r,z,q⟩=>⟨by rw [<- r.length];exact z,?_⟩)
 have hf:H1 s1.heap.objs.size=none:=I1.hok.fresh (Nat.le_refl _)
 refine ⟨.ref s1.heap.objs.size,upd H1 s1.heap.objs.size (.lst xs),I1.laid (t':=s1.toks) (fun b u e=>Heap.get?_push_of_some _ e) (Nat.le_refl _) ?_,rfl,q _ hf⟩
 exact ⟨z,us,0,r,Heap.get?_push_size _ rfl⟩
end
abbrev Sp:=List V->Hp->VK->XK->Prop
abbrev CXT:=List Env->Hp->Shared->XK->Value->Shared->Prop
structure qgq (P:Program) (w:World) (K:PySem.W.Frag) (mg:Str->Option Value) (base:Heap) (A:Around) (outer:List Env) (s:Shared) (H:Hp):Prop where
 frames:A.frames=some outer
 mod:Mod K mg base
 bs:∀ b o,base.get? b=some o->s.heap.get? b=some o/\H b=none
 bsz:base.objs.size<=s.heap.objs.size
 funs:s.heap.FunFrames base outer
 frf:∀ b∈frs outer,H b=none
 hok:HOk P w H s.heap
 bare:AllBare s.gens
def CE (outer:List Env) (P:Program) (w:World) (H:Hp) (s:Shared) (Q:VK) (u:Value) (s':Shared):Prop :=
 ∃ v H',s'.os=s.os/\AllBare s'.gens/\Un (frs outer) [] H H' s.heap s'.heap/\HOk P w H' s'.heap/\z9 v u/\Q v H'
def CR (CX:CXT) (outer:List Env) (P:Program) (w:World) (H:Hp) (s:Shared) (Q:VK) (E:XK) (r:Result) (s':Shared):Prop :=
 match r with
 | .ok (.ret u)=>CE outer P w H s Q u s'
 | .ok _=>False
 | .error e=>CX outer H s E e s'
structure uQ (P:Program) (w:World) (K:PySem.W.Frag) (mg:Str->Option Value) (base:Heap) (CX:CXT) (k:Nat) (f:Addr) (fd:FuncData) (ps:List Str) (sp:Sp):Prop where
 len:∀ vs H Q E,sp vs H Q E->vs.length=ps.length
 run:∀ (A:Around) (outer:List Env) (s:Shared) (H:Hp) (args:Args) (us:List Value) (vs:List V) (Q:VK) (E:XK),jA k A->qgq P w K mg base A outer s H->BindsTo s fd args (ps.zip us)->qT vs us->sp vs H Q E ->
  codeAny (model P w) A (.call (.ref f) args) (CR CX outer P w H s Q E) s
theorem uQ.mono {P:Program} {w:World} {K:PySem.W.Frag} {mg:Str->Option Value} {base:Heap} {CX:CXT} {j k:Nat} {f:Addr} {fd:FuncData} {ps:List Str} {sp:Sp} (F:uQ P w K mg base CX j f fd ps sp) (h:j<=k) :
  uQ P w K mg base CX k f fd ps sp:=⟨F.len,fun A outer s H args us vs Q E hr=>F.run A outer s H args us vs Q E (hr.mono h)⟩
theorem qgq.in1 {P:Program} {w:World} {K:PySem.W.Frag} {mg:Str->Option Value} {base:Heap} {A:Around} {outer:List Env} {s:Shared} {H:Hp} (e:qgq P w K mg base A outer s H) :
  qgq P w K mg base A.in1 outer s H:=⟨e.frames,e.mod,e.bs,e.bsz,e.funs,e.frf,e.hok,e.bare⟩
section
variable {X:Cx} {pins:List (Addr×Obj)} {Z:St} {H:Hp} {s s':Shared}
theorem Inv.env0 (I:Inv X pins Z H s):qgq X.prog X.w X.K X.mg X.base X.A X.stack s H :=
 ⟨I.ok.frames,I.ok.mod,I.bs,Nat.le_trans I.ok.bsz I.sz,I.stack,I.stkFree,I.hok,I.bare⟩
theorem Inv.after {Q:VK} {u:Value} (I:Inv X pins Z H s) (h:CE X.stack X.prog X.w H s Q u s'):EP X pins Z Q u s':=by
 obtain ⟨v,H',os,bare,un,hok,r,q⟩:=h
 obtain ⟨hh,g,d,t,os'⟩:=s'
 obtain rfl:os'=s.os:=os
 exact ⟨v,H',I.call (h':=hh) (g':=g) (d':=d) (t':=t) (ch:=[]) un hok bare (fun b z=>absurd z (by simp)),r,q⟩
end
def qmT (sp:Sp) (dvs:List V) (E:XK) (t:TA):TE:=fun Z H Q=>t Z H fun vs H1=>sp (vs++dvs) H1 Q E
def ua (K:PySem.W.Frag) (fd:FuncData) (ps:List Str) (ds:List Value):Prop :=
 ∀ (s:Shared) (us:List Value),K.In s.heap->(us++ds).length=ps.length->BindsTo s fd ⟨us,[]⟩ (ps.zip (us++ds))
theorem ua.all {K:PySem.W.Frag} {fd:FuncData} {ps:List Str} (h:∀ us:List Value,us.length=ps.length->bindArgs fd ⟨us,[]⟩=pure (ps.zip us)):ua K fd ps []:=fun s us _ hl=>by
 rw [List.append_nil] at hl |-
 exact .of_eq (h us hl)
def wc (CX:CXT) (X:Cx) (E:XK):Prop:=∀ (pins:List (Addr×Obj)) (Z:St) (H:Hp) (s:Shared) (e:Value) (s':Shared),Inv X pins Z H s->CX X.stack H s E e s'->X.xe e s'
section
variable {X:Cx} {CX:CXT} {k:Nat} {f C:Addr} {fd:FuncData} {ps:List Str} {sp:Sp} {dvs:List V} {ds:List Value} {E:XK} {x m:Str} {p pos apos:Pos} {e o:Expr} {es:List Expr} {ta:TE} {t:TA}
theorem qkQ {pins:List (Addr×Obj)} {Z:St} {H:Hp} {s:Shared} {Q:VK} {us:List Value} {vs:List V} (F:uQ X.prog X.w X.K X.mg X.base CX k f fd ps sp) (hr:jA k X.A) (hb:ua X.K fd ps ds) (hd:qT dvs ds) (hx:wc CX X E)
  (I:Inv X pins Z H s) (r:qT vs us) (h:sp (vs++dvs) H Q E):wpAny (model X.prog X.w) X.A (call (.ref f) us) (EP X pins Z Q) X.xe s:=by
 have r2:qT (vs++dvs) (us++ds):=r.append hd
 have hl:(us++ds).length=ps.length:=by rw [<- r2.length];exact F.len _ _ _ _ h
 refine wpAny_call (codeAny_mono (F.run X.A X.stack s H ⟨us,[]⟩ (us++ds) (vs++dvs) Q E hr I.env0 (hb s us I.kIn hl) r2 h) fun r s' hq => ?_)
 cases r with
 | error e=>exact hx pins Z H s e s' I hq
 | ok fl =>
  cases fl with
  | ret u=>exact I.after hq
  | next=>exact False.elim hq
  | brk=>exact False.elim hq
  | cont=>exact False.elim hq
theorem vt (F:uQ X.prog X.w X.K X.mg X.base CX k f fd ps sp) (hr:jA k X.A) (hg:Gl X x) (hm:X.mg x=some (.ref f)) (hk:PySem.W.keepIn X.K (.ref f)=true) (hb:ua X.K fd ps ds) (hd:qT dvs ds) (hx:wc CX X E)
  (ha:PA X (e::es) t) (hdb:(x==("__debug__":Str))=false:=by decide) (he:starEach (e::es) X.env=(false,eval e X.env)::starEach es X.env:=by rfl) (hpl:(backTo pos (starEach es X.env)).any (·.1)=false:=by rfl) :
  PE X (.Call (.Name x p) (e::es) [] pos) (qmT sp dvs E t):=by
 intro pins s Z H Q I h
 refine wpAny_Call_Name_kw (qaP I hg hm ?_ hdb)
 refine PySem.W.callWith_K (h₀:=X.base) I.ok.mod.kin hk (thn (ha pos pins s Z H _ I h) fun us s1 ⟨vs,H1,I1,r,q⟩=>⟨I1.kIn,?_⟩) he hpl
 exact qkQ F hr hb hd hx I1 r q
structure Mk (K:PySem.W.Frag) (C f:Addr):Prop where
 makes:PySem.W.makesIn K C=true
 init:PySem.W.findIn K (.ref C) "__init__"=some (some (.ref f))
 fn:PySem.W.isFn K (.ref f)=true
 kp:PySem.W.keepIn K (.ref C)=true
end
def PK (X:Cx) (kws:List Keyword) (t:TA):Prop :=
 ∀ (pos:Pos) (pins:List (Addr×Obj)) (s:Shared) (Z:St) (H:Hp) (Q:List V->Hp->Prop),Inv X pins Z H s->t Z H Q->wpAny (model X.prog X.w) X.A (evalAll ((backToKw pos (keywordEach kws X.env)).map (·.2))) (AP X pins Z Q) X.xe s
section
variable {X:Cx} {CX:CXT} {k:Nat} {f C:Addr} {fd:FuncData} {ps ks:List Str} {sp:Sp} {E:XK} {x m:Str} {p pos apos kpos:Pos} {e o:Expr} {es:List Expr} {kws:List Keyword} {te ta:TE} {t tk:TA} {nm:Option Str}
theorem qkR:PK X [] qmS:=fun _ _ _ _ H Q I h=>wpAny_evalAll_nil ⟨[],H,I,.nil,h⟩
theorem qiY (ha:PE X e te) (hr:PK X kws t):PK X (⟨nm,e,kpos⟩::kws) (qgB te t):=by
 intro pos pins s Z H Q I h
 show wpAny _ _ (evalAll ((do let v <- eval e X.env;standAt pos;pure v)::(backToKw pos (keywordEach kws X.env)).map (·.2))) _ _ s
 refine wpAny_evalAll_cons (wpAny_bind (thn (ha pins s Z H _ I h) fun u s1 ⟨x,H1,I1,r1,q1⟩=>wpAny_bind (wpAny_standAt (wpAny_pure ?_))))
 exact thn (hr pos pins s1 Z H1 _ I1 q1) fun us s2 ⟨xs,H2,I2,r2,q2⟩=>⟨x::xs,H2,I2,.cons r1 r2,q2⟩
variable {g:List Value->List Value->List Value} {gV:List V->List V->List V}
end
structure qy (N P:List Str) (sc:Scope):Prop where
 kind:sc.kind = .function
 co:sc.isCoroutine=false
 gen:sc.isGenerator=false
 nd:N.Nodup
 pre:N.take P.length=P
 par:∀ x∈P,sc.names.lookup x=some .local\/sc.names.lookup x=some .cell
 nofree:∀ y∈sc.names,y.2 ≠ .free
theorem qbC {kindOf:Str->Option NameKind} {x:Str}:∀ {binds:List (Str×Value)} {m:Str->Option Value},(∀ v,(x,v) ∉ binds)->bindL kindOf binds m x=m x
 | [],_,_=>rfl
 | (n,v)::r,m,h=>by
  unfold bindL
  rw [qbC fun w hw=>h w (mM _ hw)]
  split
  ·have:x≠n:=by rintro rfl;exact h v mS_
   simp [this]
  ·rfl
theorem qbD {kindOf:Str->Option NameKind} {x:Str}:∀ {binds:List (Str×Value)} {m:Str->Option Value},(∀ v,(x,v) ∉ binds)->bindC kindOf binds m x=m x
 | [],_,_=>rfl
 | (n,v)::r,m,h=>by
  unfold bindC
  rw [qbD fun w hw=>h w (mM _ hw)]
  split
  ·rfl
  ·have:x≠n:=by rintro rfl;exact h v mS_
   simp [this]
theorem wd {kindOf:Str->Option NameKind} {x:Str} {v:Value}:∀ {P:List Str} {vs:List Value} {i:Nat} {m:Str->Option Value},P.Nodup->P[i]? = some x->vs[i]? = some v->kindOf x=some .local ->
  bindL kindOf (P.zip vs) m x=some v
 | [],_,_,_,_,h,_,_=>by simp at h
 | _::_,[],_,_,_,_,h,_=>by simp at h
 | p::P,w::vs,0,m,nd,h1,h2,hk=>by
  simp at h1 h2;subst h1;subst h2
  show bindL kindOf ((p,w)::P.zip vs) m p=_
  unfold bindL
  rw [qbC fun v hv=>(List.nodup_cons.mp nd).1 (List.of_mem_zip hv).1,if_pos hk]
  simp
 | p::P,w::vs,i+1,m,nd,h1,h2,hk=>by
  show bindL kindOf ((p,w)::P.zip vs) m x=_
  unfold bindL
  exact wd (i:=i) (List.nodup_cons.mp nd).2 (by simpa using h1) (by simpa using h2) hk
theorem wf {kindOf:Str->Option NameKind} {x:Str} {v:Value}:∀ {P:List Str} {vs:List Value} {i:Nat} {m:Str->Option Value},P.Nodup->P[i]? = some x->vs[i]? = some v->kindOf x≠some .local ->
  bindC kindOf (P.zip vs) m x=some v
 | [],_,_,_,_,h,_,_=>by simp at h
 | _::_,[],_,_,_,_,h,_=>by simp at h
 | p::P,w::vs,0,m,nd,h1,h2,hk=>by
  simp at h1 h2;subst h1;subst h2
  show bindC kindOf ((p,w)::P.zip vs) m p=_
  unfold bindC
  rw [qbD fun v hv=>(List.nodup_cons.mp nd).1 (List.of_mem_zip hv).1,if_neg hk]
  simp
 | p::P,w::vs,i+1,m,nd,h1,h2,hk=>by
  show bindC kindOf ((p,w)::P.zip vs) m x=_
  unfold bindC
  exact wf (i:=i) (List.nodup_cons.mp nd).2 (by simpa using h1) (by simpa using h2) hk
def zP (N:List Str) (vs:List V):St:=vs.map some++List.replicate (N.length-vs.length) none
def qgr (CX:CXT) (P:Program) (w:World) (K:PySem.W.Frag) (mg:Str->Option Value) (base:Heap) (N:List Str) (qual:Str) (scope:Scope) (f:Addr) (cd:Value) (A:Around) (outer:List Env) (s:Shared) (H:Hp) (E:XK):Cx where
 prog:=P
 w:=w
 K:=K
 mg:=mg
 base:=base
 A:=A.deeper (envOfC qual scope s.heap.objs.size f cd)
 N:=N
 s₀:=s
 H₀:=H
 env:=envOfC qual scope s.heap.objs.size f cd
 outer:=outer
 stack:=envOfC qual scope s.heap.objs.size f cd::outer
 ex:=[]
 calm:=true
 fn:=fun _=>true
 pn:=[]
 xe:=fun e s'=>wpAny (model P w) (A.deeper (envOfC qual scope s.heap.objs.size f cd)) (leaving (envOfC qual scope s.heap.objs.size f cd) e) (fun _ s''=>CX outer H s E e s'') (fun e' s''=>CX outer H s E e' s'') s'
theorem v0 {sc:Scope} {n:Nat} {x:Str} (h:sc.names.lookup x=some .cell):∃ c,(cellsFrom n sc.names []).lookup x=some c:=by
 have q:=PySem.W.cellsFrom_some sc.names n [] (.inl h)
 exact Option.isSome_iff_exists.mp q
theorem qeQ {CX:CXT} {P:Program} {w:World} {K:PySem.W.Frag} {mg:Str->Option Value} {base:Heap} {N ps:List Str} {qual:Str} {scope:Scope} {f:Addr} {cd:Value} {A:Around} {outer:List Env} {s s1:Shared} {H:Hp} {E:XK} {us:List Value} {vs:List V}
  (S:qy N ps scope) (hd:A.handled=none) (e0:qgq P w K mg base A outer s H) (hl:vs.length=ps.length) (r:qT vs us)
  (x:InCallC s s.heap.objs.size (bindL (envOfC qual scope s.heap.objs.size f cd).kindOf (ps.zip us) fun _=>none) (cellsFrom (s.heap.objs.size+1) scope.names []) (bindC (envOfC qual scope s.heap.objs.size f cd).kindOf (ps.zip us) fun _=>none) s1) :
  Inv (qgr CX P w K mg base N qual scope f cd A outer s H E) [] (zP N vs) H s1:=by
 have hpl:ps.length<=N.length:=by have:=congrArg List.length S.pre;rw [List.length_take] at this;omega
 obtain ⟨h1,tk,rfl,hk⟩:=x.done
 have noA:∀ b:Addr,b ∉ (qgr CX P w K mg base N qual scope f cd A outer s H E).ex:=fun b z=>absurd (show b∈([]:List Addr) from z) (by simp)
 refine ⟨⟨e0.mod,S.kind,rfl,rfl,Nat.le_refl _,fun y z c h1 h2 => ?_,fun y hy => ?_,fun y c _ h => ?_,fun _=>hd,Around.frames_deeper e0.frames,.inr ⟨rfl,rfl⟩,fun b z=>absurd z (noA b),e0.bs,e0.bsz,fun b _ _=>noA b,fun b z=>absurd z (noA b),e0.funs,e0.frf⟩,
  rfl,e0.bare,Un.kept hk,⟨_,x.toInCall.ns,fun i y v h1 h2 h3 => ?_⟩,fun y c h=>⟨_,x.cell y c h⟩,e0.hok.fresh (Nat.le_refl _),fun y c h => ?_,fun p hp=>absurd (show p∈([]:List (Addr×Obj)) from hp) (by simp),e0.hok.kept hk,?_⟩
 ·exact name_of_addr x.apart (PySem.mem_of_lookup h1) (PySem.mem_of_lookup h2)
 ·have hy:scope.names.lookup y=some .cell\/scope.names.lookup y=some .free:=hy
  rcases hy with hy | hy
  ·exact v0 hy
  ·exact absurd rfl (S.nofree _ (PySem.mem_of_lookup hy))
 ·exact Nat.le_of_lt (x.above y c (PySem.mem_of_lookup h))
 ·have hi:i<vs.length:=by
   unfold zP at h2
   by_cases hi:i<vs.length
   ·exact hi
   ·rw [List.getElem?_append_right (by simpa using hi)] at h2
    rw [List.getElem?_replicate] at h2
    split at h2<;>cases h2
  have ha:vs[i]? = some v:=by
   unfold zP at h2
   rw [List.getElem?_append_left (by simpa using hi),gM_] at h2
   cases e:vs[i]? with
   | none=>rw [e] at h2;cases h2
   | some a=>rw [e] at h2;cases h2;rfl
  obtain ⟨u,hu,rv⟩:=r.get ha
  have hp:ps[i]? = some y:=by
   rw [<- S.pre,List.getElem?_take_of_lt (by omega)];exact h1
  have ndP:ps.Nodup:=by rw [<- S.pre];exact S.nd.sublist (List.take_sublist _ _)
  refine ⟨u,rv,?_⟩
  rcases S.par y (List.mem_of_getElem? hp) with k | k
  ·exact .inl ⟨k,wd ndP hp hu k⟩
  ·obtain ⟨c,e⟩:=v0 (n:=s.heap.objs.size+1) k
   refine .inr ⟨.inl k,c,e,?_⟩
   have q:=x.cell y c e
   rw [wf ndP hp hu (by show scope.names.lookup y≠_;rw [k];decide)] at q
   exact q
 ·exact e0.hok.fresh (Nat.le_of_lt (x.above y c (PySem.mem_of_lookup h)))
 ·unfold zP
  show _=N.length
  rw [lA_,lM_,List.length_replicate]
  omega
theorem qkS {CX:CXT} {P:Program} {w:World} {K:PySem.W.Frag} {mg:Str->Option Value} {base:Heap} {k:Nat} {f:Addr} {name qual:Str} {params:Arguments} {body:List Stmt} {scope:Scope} {dV kV doc pm cdv ct oc:Value} {an od:Option Addr}
  {osl:Array (Option Value)} {N ps:List Str} {sp:Sp} (lk:K.lookup f=some ⟨oc,od,.func (PySem.W.fnOf name qual params body scope dV kV doc pm an cdv ct),osl⟩) (hcd:PySem.W.codeIn K cdv qual=true) (S:qy N ps scope)
  (len:∀ vs H Q E,sp vs H Q E->vs.length=ps.length)
  (hbody:∀ (A:Around) (outer:List Env) (s:Shared) (H:Hp) (vs:List V) (Q:VK) (E:XK),jA k (A.deeper (envOfC qual scope s.heap.objs.size f cdv))->sp vs H Q E ->
   ∃ t,PSs (qgr CX P w K mg base N qual scope f cdv A outer s H E) body t/\t { nx:=fun _ H'=>Q .non H',rt:=Q } (zP N vs) H) :
  uQ P w K mg base CX (k+1) f (PySem.W.fnOf name qual params body scope dV kV doc pm an cdv ct) ps sp:=by
 refine ⟨len,fun A outer s H args us vs Q E hr e0 hb r hsp => ?_⟩
 have hl:=len _ _ _ _ hsp
 have KX:K.In s.heap:=e0.mod.kin.keeps fun b o e=>(e0.bs b o e).1
 have lim:s.heap.NoLimit:=e0.mod.nolimit.keeps fun b o e=>(e0.bs b o e).1
 have hkind:∀ y∈ps.zip us,scope.names.lookup y.1=some .local\/(scope.names.lookup y.1=some .cell/\((cellsFrom (s.heap.objs.size+1) scope.names []).lookup y.1).isSome=true):=fun ⟨n,v⟩ hy=>by
  rcases S.par n (List.of_mem_zip hy).1 with q | q
  ·exact .inl q
  ·exact .inr ⟨q,PySem.W.cellsFrom_some _ _ _ (.inl q)⟩
 refine codeAny_call_function hr.depth (KX _ _ lk) rfl S.co S.gen rfl (PySem.W.codeRec_of KX hcd) (hb _ _ _ _ ?_)
 refine wpAny_newFunctionEnv_cells S.kind hkind fun env he s1 x => ?_
 subst he
 refine ⟨lim.keeps x.toInCall.keep,codeAny_func ?_⟩
 obtain ⟨t,ht,hq⟩:=hbody A outer s H vs Q E (hr.deeper _) hsp
 have I:Inv (qgr CX P w K mg base N qual scope f cdv A outer s H E) [] (zP N vs) H s1:=qeQ S hr.hd e0 hl r x
 refine wpAny_mono (ht [] s1 (zP N vs) H _ I hq) (fun fl s' hs => ?_) fun e s' hs=>hs
 have fin:∀ {Z':St} {H':Hp} {v:V} {u:Value},Inv (qgr CX P w K mg base N qual scope f cdv A outer s H E) [] Z' H' s'->z9 v u->Q v H'->CE outer P w H s Q u s' :=
  fun {Z' H' v u} J rv q=>⟨v,H',J.os,J.bare,J.base,J.hok,rv,q⟩
 cases fl with
 | ret u =>
  obtain ⟨v,Z',H',J,rv,q⟩:=hs
  exact fin J rv q
 | next =>
  obtain ⟨Z',H',J,q⟩:=hs
  exact fin (v:=V.non) (u:=Value.none) J rfl q
 | brk =>
  obtain ⟨_,_,_,q⟩:=hs
  exact False.elim q
 | cont =>
  obtain ⟨_,_,_,q⟩:=hs
  exact False.elim q
end L2
namespace L2
open PySem PySem.Spec PyProof.Rows
section
variable {X:Cx} {x:Str} {p pos:Pos} {e:Expr} {es:List Expr} {t:TA} {id T:String} {r:List V->Hp->VK->Prop}
def tCB (r:List V->Hp->VK->Prop) (t:TA):TE:=fun Z H Q=>t Z H fun vs H1=>r vs H1 Q
theorem uv (hc:j9 X (.builtin id) r) (hg:Gl X x) (hm:X.mg x=none) (hv:bootBuiltins x=some (.builtin id)) (ha:PA X (e::es) t) (hn:x≠"__name__":=by decide) (hdb:(x==("__debug__":Str))=false:=by decide)
  (he:starEach (e::es) X.env=(false,eval e X.env)::starEach es X.env:=by rfl) (hpl:(backTo pos (starEach es X.env)).any (·.1)=false:=by rfl):PE X (.Call (.Name x p) (e::es) [] pos) (tCB r t):=by
 intro pins s Z H Q I h
 refine wpAny_Call_Name_kw (qan I hg hm hv ?_ hn hdb)
 exact PyProof.Rows.callWith_builtin1 (thn (ha pos pins s Z H _ I h) fun us s1 ⟨vs,H1,I1,r1,q1⟩=>hc pins s1 Z H1 vs us Q I1 r1 q1) he hpl
theorem qbE (hc:j9 X (.type T) r) (hg:Gl X x) (hm:X.mg x=none) (hv:bootBuiltins x=some (.type T)) (ha:PA X (e::es) t) (hn:x≠"__name__":=by decide) (hdb:(x==("__debug__":Str))=false:=by decide)
  (he:starEach (e::es) X.env=(false,eval e X.env)::starEach es X.env:=by rfl) (hpl:(backTo pos (starEach es X.env)).any (·.1)=false:=by rfl):PE X (.Call (.Name x p) (e::es) [] pos) (tCB r t):=by
 intro pins s Z H Q I h
 refine wpAny_Call_Name_kw (qan I hg hm hv ?_ hn hdb)
 exact PyProof.Rows.callWith_type1 (thn (ha pos pins s Z H _ I h) fun us s1 ⟨vs,H1,I1,r1,q1⟩=>hc pins s1 Z H1 vs us Q I1 r1 q1) he hpl
end
end L2
namespace HT
open PySem PyProof.Rows
def lexLt:List Int->List Int->Bool
 | [],[]=>false
 | [],_::_=>true
 | _::_,[]=>false
 | x::xs,y::ys=>if x=y then lexLt xs ys else decide (x<y)
theorem lexLt_cons (x y:Int) (xs ys:List Int):lexLt (x::xs) (y::ys)=if x=y then lexLt xs ys else decide (x<y):=rfl
theorem qaS:lexLt [] []=false:=rfl
theorem qad (y:Int) (ys:List Int):lexLt [] (y::ys)=true:=rfl
theorem qae (x:Int) (xs:List Int):lexLt (x::xs) []=false:=rfl
theorem qgC (A:Around) (s:Shared) (a:Int) (t:Tok) (c:Int) (u:Tok):∃ e,SeqAt.EqAt A s (.int a t) (.int c u) e/\(e=true ↔ a=c) :=
 ⟨(a==c),SeqAt.EqAt.int_int a t c u,by simp⟩
theorem qgD (A:Around) (s:Shared) (a:Int) (t:Tok) (c:Int) (u:Tok) (prog:Program) (w:World) (E:Value->Shared->Prop) (Q:Value->Shared->Prop) (h:Q (.bool (decide (a<c))) s) :
  wpAny (model prog w) A (richCompare .Lt (.int a t) (.int c u)) Q E s :=
 (PyProof.Rows.lt_int h:wpAny (model prog w) A (compareOp .Lt (.int a t) (.int c u)) Q E s)
section
open PySem.SeqAt
open PySem.AutoSeq1 (wpAny_loadPart')
open PySem.MeetsSeq PySem.MeetsSeq2 PySem.MeetsSeq3
theorem qaT (l b:Addr) (items items2:Array Value) (n n2:Nat) (dd dd2:Option Addr) (sl sl2:Array (Option Value)) (ns ms:List Int) (hi:IntsAre items.toList ns) (hj:IntsAre items2.toList ms) :
  Meets (Builtin.«tuple.__lt__» ⟨[.ref l,.ref b],[]⟩)
   (fun _ R s=>s.heap.get? l=some { cls := .type "tuple",dict:=dd,data := .seq items n,slots:=sl }/\s.heap.get? b=some { cls := .type "tuple",dict:=dd2,data := .seq items2 n2,slots:=sl2 } /\
    R (.ok (.ret (.bool (lexLt ns ms)))) s) :=
 .of_wp fun prog w A R s h=>by
  obtain ⟨hp,g,d,tk,os⟩:=s;obtain ⟨hl,hb,h⟩:=h
  have f2:=AutoSeq1.sub_tuple_tuple
  have z1:items.size=ns.length:=by rw [<- hi.length];simp
  have z2:items2.size=ms.length:=by rw [<- hj.length];simp
  wp_walk using wpAny_loadPart' hl,wpAny_loadPart' hb,wpAny_forIn_list _ (fun vZ b s'=>b.1=none/\s'=⟨hp,g,d,tk,os⟩/\∃ (vs ws:List Value) (ns' ms':List Int),vZ=vs.zip ws /\
   IntsAre vs ns'/\IntsAre ws ms'/\ns'.length+items2.size=ms'.length+items.size/\R (.ok (.ret (.bool (lexLt ns' ms')))) ⟨hp,g,d,tk,os⟩) _
  case turn =>
   rintro ⟨y,x⟩ vZ b s' ⟨hb',rfl,vs,ws,ns',ms',hz,hvi,hwi,hlen,hR⟩
   cases hvi with
   | nil=>rw [List.zip_nil_left] at hz;cases hz
   | cons a t hvi' =>
    cases hwi with
    | nil=>rw [List.zip_nil_right] at hz;cases hz
    | cons c u hwi' =>
     rw [List.zip_cons_cons] at hz
     injection hz with hyx hrest
     injection hyx with hy hx
     subst hy hx
     rw [lexLt_cons] at hR
     simp only [lC_] at hlen
     obtain ⟨e,he,hiff⟩:=qgC A.in1 ⟨hp,g,d,tk,os⟩ a t c u
     refine wpAny_bind (he prog w _ _ ?_)
     cases e with
     | true =>
      rw [if_pos (hiff.mp rfl)] at hR
      wp_walk
      exact ⟨rfl,rfl,_,_,_,_,hrest,hvi',hwi',by omega,hR⟩
     | false =>
      rw [if_neg (fun q=>absurd (hiff.mpr q) Bool.false_ne_true)] at hR
      have hri:=qgD A.in1 ⟨hp,g,d,tk,os⟩ a t c u prog w
      wp_walk using hri
      exact ⟨_,rfl,by simpa using hR⟩
  case fin =>
   rintro ⟨b1,b2⟩ s' ⟨hb',rfl,vs,ws,ns',ms',hz,hvi,hwi,hlen,hR⟩
   simp only at hb'
   subst hb'
   have hv:lexLt ns' ms'=decide (items.size<items2.size):=by
    cases hvi with
    | nil =>
     cases hwi with
     | nil =>
      simp only [lN_] at hlen
      rw [qaS]
      exact (decide_eq_false (by omega)).symm
     | cons c u hw =>
      simp only [lN_,lC_] at hlen
      rw [qad]
      exact (decide_eq_true (by omega)).symm
    | cons a t hv =>
     cases hwi with
     | nil =>
      simp only [lN_,lC_] at hlen
      rw [qae]
      exact (decide_eq_false (by omega)).symm
     | cons c u hw =>
      rw [List.zip_cons_cons] at hz
      cases hz
   rw [hv] at hR
   wp_walk
   exact ⟨_,rfl,by simpa [Builtin.Tuple.tupleCompareSizes] using hR⟩
  case h =>
   exact ⟨rfl,rfl,items.toList,items2.toList,ns,ms,rfl,hi,hj,by omega,h⟩
end
section
variable {prog:Program} {w:World} {A:Around} {E:Value->Shared->Prop} {s:Shared}
theorem lt_tupInts {l b:Addr} {items items2:Array Value} {ns ms:List Int} {Q:Value->Shared->Prop} (hl:IsTup s.heap l items) (hb:IsTup s.heap b items2) (hi:IntsAre items.toList ns) (hj:IntsAre items2.toList ms)
  (hu:A.units<cLine) (h:Q (.bool (lexLt ns ms)) s):wpAny (model prog w) A (compareOp .Lt (.ref l) (.ref b)) Q E s:=by
 obtain ⟨⟨cls,dd,data,sl⟩,ho,hc,n,hd⟩:=id hl
 obtain ⟨⟨cls2,dd2,data2,sl2⟩,ho2,hc2,n2,hd2⟩:=id hb
 simp only at hc hd hc2 hd2
 subst hc hd hc2 hd2
 exact richCompare_meets_room (op := .Lt) ⟨_,ho,rfl⟩ ⟨_,ho2,rfl⟩ PySem.F.slot_tuple_lt PySem.F.entry_tuple_lt (PySem.F.args_tuple_lt_2 _ _) (qaT l b items items2 n n2 dd dd2 sl sl2 ns ms hi hj)
  ⟨ho,ho2,show Value.bool (lexLt ns ms)≠Value.notImplemented/\Q (.bool (lexLt ns ms)) s from ⟨(fun x=>nomatch x),h⟩⟩ hu
theorem cat_tup {t b:Addr} {vs ws:List Value} {Q:Value->Shared->Prop} (ht:IsTup s.heap t vs.toArray) (hb:IsTup s.heap b ws.toArray) (hv:vs≠[])
  (h1:ws=[]->Q (.ref t) s) (h2:ws≠[]->Q (.ref s.heap.objs.size) { s with heap:=s.heap.push { cls := .type "tuple",data := .seq (vs++ws).toArray } })
  (hsz:vs.length+ws.length<=sizeLine):wpAny (model prog w) A (binaryOp .Add (.ref t) (.ref b)) Q E s:=by
 obtain ⟨⟨cls,dd,data,sl⟩,ho,hc,n,hd⟩:=id ht
 obtain ⟨⟨cls2,dd2,data2,sl2⟩,ho2,hc2,n2,hd2⟩:=id hb
 simp only at hc hd hc2 hd2
 subst hc hd hc2 hd2
 have e:vs.toArray++ws.toArray=(vs++ws).toArray:=by simp
 by_cases hw:ws=[]
 ·exact concat_meets ⟨_,ho,rfl⟩ ⟨_,ho2,rfl⟩ noFill_tuple_add seq_tuple_add PySem.F.slot_tuple_add PySem.F.entry_tuple_add (PySem.F.args_tuple_add_2 _ _)
   (tuple_addW1 t b vs.toArray ws.toArray n n2 dd dd2 sl sl2 (by simpa using hv) (by simp [hw])) ⟨ho,ho2,h1 hw⟩
 ·refine concat_meets ⟨_,ho,rfl⟩ ⟨_,ho2,rfl⟩ noFill_tuple_add seq_tuple_add PySem.F.slot_tuple_add PySem.F.entry_tuple_add (PySem.F.args_tuple_add_2 _ _)
   (tuple_addW2 t b vs.toArray ws.toArray n n2 dd dd2 sl sl2 (by simpa using hv) (by simpa using hw) (by rw [sT_,sT_];exact hsz)) ⟨ho,ho2,?_⟩
  rw [e]
  exact h2 hw
def sIx (n d:Nat):Option Int->Nat
 | none=>d
 | some v=>if v<0 then (v+(n:Int)).toNat else min v.toNat n
theorem sIx_none (n d:Nat):sIx n d none=d:=rfl
theorem sIx_nat (n d k:Nat):sIx n d (some (k:Int))=min k n:=by
 show (if (k:Int)<0 then ((k:Int)+(n:Int)).toNat else min (k:Int).toNat n)=min k n
 rw [if_neg (by omega),Int.toNat_natCast]
theorem qkT (n d:Nat) (hd:d<=n) (o:Option Int):sIx n d o<=n:=by
 cases o with
 | none=>exact hd
 | some v =>
  show (if v<0 then (v+(n:Int)).toNat else min v.toNat n)<=n
  by_cases hv:v<0
  ·rw [if_pos hv];omega
  ·rw [if_neg hv];exact Nat.min_le_right _ _
theorem qeR (v:Int) (n d:Nat):(if v<0 then max (v+(n:Int)) 0 else min v (n:Int))=((sIx n d (some v):Nat):Int):=by
 show (if v<0 then max (v+(n:Int)) 0 else min v (n:Int))=(((if v<0 then (v+(n:Int)).toNat else min v.toNat n):Nat):Int)
 by_cases hv:v<0
 ·simp only [if_pos hv];omega
 ·simp only [if_neg hv];omega
theorem qd0 (lo hi:Option Int) (n:Nat):Builtin.Slice.sliceAdjust lo hi 1 (n:Int)=(((sIx n 0 lo:Nat):Int),((sIx n n hi:Nat):Int)):=by
 have h1:¬ ((1:Int)<0):=by omega
 unfold Builtin.Slice.sliceAdjust
 simp only [h1,if_false]
 refine Prod.ext ?_ ?_
 ·cases lo with
  | none=>rfl
  | some v=>exact qeR v n 0
 ·cases hi with
  | none=>rfl
  | some v=>exact qeR v n n
theorem qd1 (i j:Nat):Builtin.Slice.slicePlaces (i:Int) (j:Int) 1=j-i:=by
 unfold Builtin.Slice.slicePlaces
 have h1:(1:Int)>0:=by omega
 simp only [h1,if_true,Int.ediv_one]
 split<;>omega
theorem qap {v:Value} {o:Option Int} {Q:Option Int->Shared->Prop} (p:IsPart v o) (h:Q o s):wpAny (model prog w) A (Builtin.Slice.slicePartIndex v) Q E s:=by
 cases p with
 | none=>exact slicePart_none h
 | int i t=>exact slicePart_int h
theorem sliceApplied_gen {sl:Addr} {vl vu:Value} {lo hi:Option Int} {n:Nat} {Q:Int×Int×Nat->Shared->Prop} (hs:s.heap.IsSliceOf sl vl vu .none) (pl:IsPart vl lo) (pu:IsPart vu hi)
  (h:Q (((sIx n 0 lo:Nat):Int),1,sIx n n hi-sIx n 0 lo) s):wpAny (model prog w) A (Builtin.Slice.sliceApplied (.ref sl) (pure (n:Int))) Q E s:=by
 obtain ⟨os,hos,hcs,hds⟩:=id hs
 unfold Builtin.Slice.sliceApplied Builtin.Slice.sliceFields
 refine wpAny_bind (wpAny_bind (wpAny_field hos hds (x:=vl) rfl (wpAny_bind (wpAny_field hos hds (x:=vu) rfl (wpAny_bind (wpAny_field hos hds (x := .none) rfl (wpAny_pure ?_)))))))
 refine wpAny_bind (slicePart_none ?_)
 show wpAny _ _ (if ((1:Int)==0)=true then _ else _) _ _ s
 rw [if_neg (by decide)]
 refine wpAny_bind (qap pl (wpAny_bind (qap pu (wpAny_bind (wpAny_pure ?_)))))
 show wpAny _ _ (match Builtin.Slice.sliceAdjust lo hi 1 (n:Int) with | (lo,hi)=>pure (lo,(1:Int),Builtin.Slice.slicePlaces lo hi 1)) _ _ s
 rw [qd0 lo hi n]
 show wpAny _ _ (pure (((sIx n 0 lo:Nat):Int),(1:Int),Builtin.Slice.slicePlaces ((sIx n 0 lo:Nat):Int) ((sIx n n hi:Nat):Int) 1)) _ _ s
 rw [qd1]
 exact wpAny_pure h
theorem qgE (xs:Array Value) (i k:Nat):((List.range k).filterMap fun (m:Nat)=>xs[((i:Int)+(m:Int)*1).toNat]?).toArray=((xs.toList.drop i).take k).toArray:=by
 have e:(fun (m:Nat)=>xs[((i:Int)+(m:Int)*1).toNat]?)=fun m=>xs[i+m]? := by
  funext m
  have:((i:Int)+(m:Int)*1).toNat=i+m:=by omega
  rw [this]
 rw [e]
 have:=pick_run xs i k
 rw [List.filterMap_map] at this
 have e2:((fun x=>xs[x]?)∘fun x=>i+x)=fun m=>xs[i+m]? := rfl
 rw [e2] at this
 rw [this]
theorem getItem_tuple_cut {t sl:Addr} {items:Array Value} {vl vu:Value} {lo hi:Option Int} {Q:Value->Shared->Prop} (ht:IsTup s.heap t items) (hs:s.heap.IsSliceOf sl vl vu .none) (pl:IsPart vl lo) (pu:IsPart vu hi)
  (hw:¬ (sIx items.size 0 lo=0/\sIx items.size items.size hi=items.size))
  (h:Q (.ref s.heap.objs.size) { s with heap:=s.heap.push { cls := .type "tuple",data := .seq ((items.toList.drop (sIx items.size 0 lo)).take (sIx items.size items.size hi-sIx items.size 0 lo)).toArray } })
  (hsz:items.size<=sizeLine):wpAny (model prog w) A (getItem (.ref t) (.ref sl)) Q E s:=by
 have htake:sizeOk (.seq ((items.toList.drop (sIx items.size 0 lo)).take (sIx items.size items.size hi-sIx items.size 0 lo)).toArray):=by
  show ((items.toList.drop (sIx items.size 0 lo)).take (sIx items.size items.size hi-sIx items.size 0 lo)).toArray.size<=sizeLine
  rw [sT_,List.length_take,List.length_drop,Array.length_toList]
  omega
 have hj:sIx items.size items.size hi<=items.size:=qkT _ _ (Nat.le_refl _) hi
 obtain ⟨os,hos,hcs,hds⟩:=id hs
 have hTs:s.TypeIs (.ref sl) "slice":=⟨os,hos,hcs⟩
 unfold getItem
 try with_reducible refine wpAny_holding ?_
 first | refine wpAny_bind (wpAny_pure ?_) | skip
 refine wpAny_bind (wpAny_sequenceKey ht.typeIs (by decide) ?_)
 refine wpAny_bind (wpAny_callSpecial?_slot (name:=Str.ofString "__getitem__") ht.typeIs PyProof.Rows.slot_tuple_getitem
  (wpAny_call_entry PyProof.Rows.slot_tuple_getitem ht.typeIs entry_tuple_getitem ?_ (args_tuple_getitem _ _)))
 show wpAny _ _ (Builtin.Tuple.tupleItemsOf (.ref t) >>= _) _ _ s
 refine wpAny_bind (tupleItemsOf_ ht ?_)
 refine wpAny_bind (wpAny_typeOf hTs ?_)
 rw [if_pos (by decide)]
 refine wpAny_bind (sliceApplied_gen hs pl pu ?_)
 have hno:¬ ((((sIx items.size 0 lo:Nat):Int)==0&&(1:Int)==1&&(sIx items.size items.size hi-sIx items.size 0 lo)==items.size)=true):=by
  intro q
  rw [Bool.and_eq_true,Bool.and_eq_true] at q
  have q1:((sIx items.size 0 lo:Nat):Int)=0:=eq_of_beq q.1.1
  have q2:sIx items.size items.size hi-sIx items.size 0 lo=items.size:=eq_of_beq q.2
  exact hw ⟨by omega,by omega⟩
 show wpAny _ _ (if (((sIx items.size 0 lo:Nat):Int)==0&&(1:Int)==1&&(sIx items.size items.size hi-sIx items.size 0 lo)==items.size)=true then _ else _) _ _ s
 rw [if_neg hno,qgE]
 first
  | exact wpAny_bind (m:=Builtin.Tuple.tupleExact _) (wpAny_newObj_type (wpAny_pure ⟨_,rfl,wpAny_pure h⟩) htake)
  | exact wpAny_bind (m:=Builtin.Tuple.tupleExact _) (wpAny_newObj_type (wpAny_bind (wpAny_pure (wpAny_pure ⟨_,rfl,wpAny_pure h⟩))) htake)
  | exact wpAny_bind (wpAny_bind (m:=Builtin.Tuple.tupleExact _) (wpAny_newObj_type (wpAny_pure (wpAny_pure ⟨_,rfl,wpAny_pure h⟩)) htake))
  | exact wpAny_bind (wpAny_bind (m:=Builtin.Tuple.tupleExact _) (wpAny_newObj_type (wpAny_pure ⟨_,rfl,wpAny_pure h⟩) htake))
end
end HT
namespace L2
open PySem PySem.Spec PyProof.Rows
abbrev TO:=St->Hp->(Option Int->Hp->Prop)->Prop
def PO (X:Cx) (e:Option Expr) (t:TO):Prop :=
 ∀ (pins:List (Addr×Obj)) (s:Shared) (Z:St) (H:Hp) (Q:Option Int->Hp->Prop),Inv X pins Z H s->t Z H Q ->
  wpAny (model X.prog X.w) X.A (evalPart e X.env) (fun u s'=>∃ o H',Inv X pins Z H' s'/\IsPart u o/\Q o H') X.xe s
def qiZ:TO:=fun _ H Q=>Q none H
def qmU (t:TE):TO:=fun Z H Q=>t Z H fun x H1=>∃ i,x = .int i/\Q (some i) H1
theorem jU {ns:List Int}:∀ {us:List Value},qT (ns.map V.int) us->IntsAre us ns:=by
 induction ns with
 | nil=>intro us r;rw [List.map_nil] at r;cases r;exact .nil
 | cons n ns ih =>
  intro us r
  rw [mC_] at r
  cases r with
  | cons r1 r2 =>
   obtain ⟨t,e⟩:=r1
   subst e
   exact .cons n t (ih r2)
section
variable {X:Cx} {e:Expr} {te:TE} {lo hi:Option Expr} {tl th:TO} {pos p2:Pos}
theorem qi0:PO X none qiZ:=by
 intro pins s Z H Q I h
 rw [evalPart_none]
 exact wpAny_pure ⟨none,H,I,.none,h⟩
theorem qi1 (h:PE X e te):PO X (some e) (qmU te):=by
 intro pins s Z H Q I hw
 rw [evalPart_some]
 refine thn (h pins s Z H _ I hw) fun u s1 ⟨x,H1,I1,r1,q1⟩ => ?_
 obtain ⟨i,rfl,q⟩:=q1
 obtain ⟨t,rfl⟩:=r1
 exact ⟨some i,H1,I1,.int i t,q⟩
def SlR (X:Cx) (r:V->Option Int->Option Int->Hp->VK->Prop):Prop :=
 ∀ (pins:List (Addr×Obj)) (s:Shared) (Z:St) (H:Hp) (x:V) (v vl vu:Value) (lo hi:Option Int) (sl:Addr) (Q:VK),Inv X pins Z H s->z9 x v->s.heap.IsSliceOf sl vl vu .none->IsPart vl lo->IsPart vu hi->r x lo hi H Q ->
  ∃ T id,typeLookup (.type T) "__getitem__"=pure (some (.builtin id))/\s.TypeIs v T/\wpAny (model X.prog X.w) X.A (getItem v (.ref sl)) (EP X pins Z Q) X.xe s
theorem SlR.or {r r':V->Option Int->Option Int->Hp->VK->Prop} (h:SlR X r) (h':SlR X r'):SlR X (fun x lo hi H Q=>r x lo hi H Q\/r' x lo hi H Q):=by
 intro pins s Z H x v vl vu lo hi sl Q I rx hs pl pu q
 rcases q with q | q
 ·exact h pins s Z H x v vl vu lo hi sl Q I rx hs pl pu q
 ·exact h' pins s Z H x v vl vu lo hi sl Q I rx hs pl pu q
def tSl (r:V->Option Int->Option Int->Hp->VK->Prop) (te:TE) (tl th:TO):TE:=fun Z H Q=>te Z H fun x H1=>tl Z H1 fun l H2=>th Z H2 fun u H3=>r x l u H3 Q
theorem qgF {r:V->Option Int->Option Int->Hp->VK->Prop} (hr:SlR X r) (he:PE X e te) (hl:PO X lo tl) (hu:PO X hi th):PE X (.Subscript e (.Slice lo hi none p2) pos) (tSl r te tl th):=by
 intro pins s Z H Q I h
 refine Subscript_ (thn (he pins s Z H _ I h) fun v s1 ⟨x,H1,I1,r1,q1⟩ => ?_)
 refine wpAny_Slice (thn (hl pins s1 Z H1 _ I1 q1) fun vl s2 ⟨l,H2,I2,pl,q2⟩=>thn (hu pins s2 Z H2 _ I2 q2) fun vu s3 ⟨u,H3,I3,pu,q3⟩ => ?_)
 rw [evalPart_none]
 refine wpAny_pure ?_
 have I4:Inv X pins Z H3 { s3 with heap:=s3.heap.push { cls := .type "slice",data := .fields #[vl,vu,.none] } }:=I3.kept (t':=s3.toks) fun b ob q=>Heap.get?_push_of_some _ q
 obtain ⟨T,id,hT,ht,hg⟩:=hr pins { s3 with heap:=s3.heap.push { cls := .type "slice",data := .fields #[vl,vu,.none] } } Z H3 x v vl vu l u s3.heap.objs.size Q I4 r1 (Heap.IsSliceOf.new ..) pl pu q3
 show wpAny (model X.prog X.w) X.A (subscriptTail e (.Slice lo hi none p2) v (.ref s3.heap.objs.size)) (EP X pins Z Q) X.xe { s3 with heap:=s3.heap.push { cls := .type "slice",data := .fields #[vl,vu,.none] } }
 exact tail_any (ops:=[.ref s3.heap.objs.size,v]) ht hT hg (by with_unfolding_all rfl)
def qgs (xs:List V) (lo hi:Option Int):List V:=(xs.drop (HT.sIx xs.length 0 lo)).take (HT.sIx xs.length xs.length hi-HT.sIx xs.length 0 lo)
theorem wj (xs:List V) (lo hi:Option Int):(qgs xs lo hi).length<=xs.length:=by
 unfold qgs
 rw [List.length_take,List.length_drop]
 omega
def qnA (K:PySem.W.Frag):V->Option Int->Option Int->Hp->VK->Prop:=fun x lo hi H Q=>∃ a xs,x = .ref a/\SqT K H a xs /\
 ¬ (HT.sIx xs.length 0 lo=0/\HT.sIx xs.length xs.length hi=xs.length)/\∀ p,H p=none->Q (.ref p) (upd H p (.tup (qgs xs lo hi)))
theorem sl_tup:SlR X (qnA X.K):=by
 intro pins s Z H x v vl vu lo hi sl Q I rx hs pl pu h
 obtain ⟨a,xs,rfl,hx,hw,q⟩:=h
 cases rx
 obtain ⟨its,r,ht,hz⟩:=I.tuple hx
 have hlen:its.toArray.size=xs.length:=by rw [sT_];exact r.length.symm
 refine ⟨"tuple",_,PyProof.Rows.slot_tuple_getitem.lookup,ht.typeIs,?_⟩
 refine HT.getItem_tuple_cut ht hs pl pu (by rw [hlen];exact hw) ?_ (by rw [hlen];exact hz)
 rw [hlen]
 refine ⟨.ref s.heap.objs.size,_,I.laid (t':=s.toks) (o := .tup (qgs xs lo hi)) (fun b ob q=>Heap.get?_push_of_some _ q) (Nat.le_refl _) ?_,rfl,q _ (I.hok.fresh (Nat.le_refl _))⟩
 exact ⟨Nat.le_trans (wj xs lo hi) hz,_,(r.drop (HT.sIx xs.length 0 lo)).take (HT.sIx xs.length xs.length hi-HT.sIx xs.length 0 lo),IsTup.new _ _⟩
def rLtT (K:PySem.W.Frag):R2:=fun x y H Q=>∃ a b ns ms,x = .ref a/\y = .ref b/\SqT K H a (ns.map V.int)/\SqT K H b (ms.map V.int)/\Q (.bl (HT.lexLt ns ms)) H
theorem op_ltT (hu:X.A.units<cLine):OpR X (compareOp .Lt) (rLtT X.K):=by
 intro pins s Z H x y v u Q I rx ry h
 obtain ⟨a,b,ns,ms,rfl,rfl,ha,hb,q⟩:=h
 cases rx
 cases ry
 obtain ⟨its,r1,p1,_⟩:=I.tuple ha
 obtain ⟨its2,r2,p2,_⟩:=I.tuple hb
 have i1:IntsAre its.toArray.toList ns:=jU r1
 have i2:IntsAre its2.toArray.toList ms:=jU r2
 exact HT.lt_tupInts p1 p2 i1 i2 hu ⟨.bl (HT.lexLt ns ms),H,I,rfl,q⟩
def qkU (K:PySem.W.Frag):R2:=fun x y H Q=>∃ a b xs ys,x = .ref a/\y = .ref b/\SqT K H a xs/\SqT K H b ys/\xs≠[]/\xs.length+ys.length<=sizeLine /\
 (ys=[]->Q (.ref a) H)/\(ys≠[]->∀ p,H p=none->Q (.ref p) (upd H p (.tup (xs++ys))))
theorem qT.nil_iff {xs:List V} {us:List Value} (r:qT xs us):us=[] ↔ xs=[]:=by
 cases r with
 | nil=>simp
 | cons _ _=>simp
theorem qi2:OpR X (binaryOp .Add) (qkU X.K):=by
 intro pins s Z H x y v u Q I rx ry h
 obtain ⟨a,b,xs,ys,rfl,rfl,ha,hb,hx,hz,q1,q2⟩:=h
 cases rx
 cases ry
 obtain ⟨its,r1,p1,_⟩:=I.tuple ha
 obtain ⟨its2,r2,p2,_⟩:=I.tuple hb
 refine HT.cat_tup p1 p2 (fun z=>hx (r1.nil_iff.mp z)) (fun z=>⟨.ref a,H,I,rfl,q1 (r2.nil_iff.mp z)⟩) (fun z => ?_) (by rw [<- r1.length,<- r2.length];exact hz)
 refine ⟨.ref s.heap.objs.size,_,I.laid (t':=s.toks) (o := .tup (xs++ys)) (fun b ob q=>Heap.get?_push_of_some _ q) (Nat.le_refl _) ?_,rfl,q2 (fun w=>z (r2.nil_iff.mpr w)) _ (I.hok.fresh (Nat.le_refl _))⟩
 exact ⟨by rw [lA_];exact hz,_,r1.append r2,IsTup.new _ _⟩
end
end L2
namespace L2
open PySem PySem.Spec PyProof.Rows
def ixN (n:Nat) (i:Int):Option Nat:=if 0<=i then (if i<n then some i.toNat else none) else if -(n:Int)<=i then some (i+n).toNat else none
def atI {α:Type} (xs:List α) (i:Int):Option α:=(ixN xs.length i).bind fun j=>xs[j]?
theorem qeS {n:Nat} {i:Int} {j:Nat} (h:ixN n i=some j):seqIndex? i n=some j/\j<n /\ -(n:Int)<=i/\i<n:=by
 unfold ixN at h
 by_cases h0:0<=i
 ·rw [if_pos h0] at h
  by_cases h1:i<n
  ·rw [if_pos h1] at h
   have e:i.toNat=j:=Option.some.inj h
   exact ⟨by rw [seqIndex_of h0 h1,e],by omega,by omega,h1⟩
  ·rw [if_neg h1] at h;cases h
 ·rw [if_neg h0] at h
  by_cases h1 : -(n:Int)<=i
  ·rw [if_pos h1] at h
   have e:(i+n).toNat=j:=Option.some.inj h
   exact ⟨by rw [seqIndex_neg (by omega) h1,e],by omega,h1,by omega⟩
  ·rw [if_neg h1] at h;cases h
theorem qeT {α:Type} {xs:List α} {i:Int} {v:α} (h:atI xs i=some v):∃ j,seqIndex? i xs.length=some j/\xs[j]? = some v/\j<xs.length /\ -(xs.length:Int)<=i/\i<xs.length:=by
 unfold atI at h
 cases e:ixN xs.length i with
 | none=>rw [e] at h;cases h
 | some j =>
  rw [e] at h
  obtain ⟨h1,h2,h3,h4⟩:=qeS e
  exact ⟨j,h1,h,h2,h3,h4⟩
def qcr (b:Expr):Prop:=∀ o i,subscripted b false o i=operate [o,i] (getItem o i)
def IxR (X:Cx) (r:R2):Prop :=
 ∀ (value slice:Expr) (pins:List (Addr×Obj)) (s:Shared) (Z:St) (H:Hp) (x y:V) (v u:Value) (Q:VK),Inv X pins Z H s->z9 x v->z9 y u->r x y H Q ->
  subscripted slice false v u=operate [v,u] (getItem v u)->wpAny (model X.prog X.w) X.A (subscriptTail value slice v u) (EP X pins Z Q) X.xe s
def MtR (X:Cx) (id:String) (r:V->List V->Hp->VK->Prop):Prop :=
 ∀ (pins:List (Addr×Obj)) (s:Shared) (Z:St) (H:Hp) (x:V) (xs:List V) (v:Value) (us:List Value) (Q:VK),Inv X pins Z H s->z9 x v->qT xs us->r x xs H Q ->
  wpAny (model X.prog X.w) X.A (call (.builtin id) (v::us)) (EP X pins Z Q) X.xe s
section
variable {X:Cx} {a b:Expr} {ta tb:TE} {pos:Pos}
theorem IxR.or {r r':R2} (h:IxR X r) (h':IxR X r'):IxR X (fun x y H Q=>r x y H Q\/r' x y H Q):=by
 intro value slice pins s Z H x y v u Q I rx ry q hs
 rcases q with q | q
 ·exact h value slice pins s Z H x y v u Q I rx ry q hs
 ·exact h' value slice pins s Z H x y v u Q I rx ry q hs
theorem MtR.or {id:String} {r r':V->List V->Hp->VK->Prop} (h:MtR X id r) (h':MtR X id r'):MtR X id (fun x xs H Q=>r x xs H Q\/r' x xs H Q):=by
 intro pins s Z H x xs v us Q I rx rs q
 rcases q with q | q
 ·exact h pins s Z H x xs v us Q I rx rs q
 ·exact h' pins s Z H x xs v us Q I rx rs q
theorem qgG {r:R2} (hr:IxR X r) (ha:PE X a ta) (hb:PE X b tb) (hs:qcr b):PE X (.Subscript a b pos) (tOp r ta tb):=by
 intro pins s Z H Q I h
 exact Subscript_ (qmK ha hb I h fun v u s2 x y H2 I2 rx ry q=>hr a b pins s2 Z H2 x y v u Q I2 rx ry q (hs _ _))
def qmV (K:PySem.W.Frag):R2:=fun x y H Q=>∃ p xs i v,x = .ref p/\y = .int i/\SqL K H p xs/\atI xs i=some v/\Q v H
def qmW (K:PySem.W.Frag):R2:=fun x y H Q=>∃ p xs i v,x = .ref p/\y = .int i/\SqT K H p xs/\atI xs i=some v/\Q v H
theorem qeU:IxR X (qmV X.K):=by
 intro value slice pins s Z H x y v u Q I rx ry h hs
 obtain ⟨p,xs,i,z,rfl,rfl,hq,he,q⟩:=h
 cases rx
 obtain ⟨t,rfl⟩:=ry
 obtain ⟨its,r,pl,hz⟩:=I.list hq
 obtain ⟨j,h1,h2,h3,h4,h5⟩:=qeT he
 obtain ⟨w,ew,rw'⟩:=r.get h2
 have hl:=r.length
 have hn:=qbB
 have fin:EP X pins Z Q w s:=⟨z,H,I,rw',q⟩
 by_cases h0:0<=i
 ·have hj:i.toNat=j:=by
   rw [seqIndex_of h0 h5] at h1
   exact Option.some.inj h1
  exact item_listR pl.isList h0 (by omega) (by rw [hj];simpa using ew) fin hs
 ·have hj:(i+(its.toArray.size:Int)).toNat=j:=by
   rw [seqIndex_neg (by omega) h4] at h1
   rw [sT_,<- hl]
   exact Option.some.inj h1
  exact subscriptTail_builtinR (x:=w) pl.isList.typeIs slot_list_getitem.lookup
   (wpAny_getItem_list_neg (Q:=fun r s'=>r=w/\EP X pins Z Q r s') pl.isList (by omega) (by rw [sT_]<;>omega) (by omega) (by rw [hj];simpa using ew) ⟨rfl,fin⟩) hs
theorem qkV:IxR X (qmW X.K):=by
 intro value slice pins s Z H x y v u Q I rx ry h hs
 obtain ⟨p,xs,i,z,rfl,rfl,hq,he,q⟩:=h
 cases rx
 obtain ⟨t,rfl⟩:=ry
 obtain ⟨its,r,pl,hz⟩:=I.tuple hq
 obtain ⟨j,h1,h2,h3,h4,h5⟩:=qeT he
 obtain ⟨w,ew,rw'⟩:=r.get h2
 have hl:=r.length
 have hn:=qbB
 have fin:EP X pins Z Q w s:=⟨z,H,I,rw',q⟩
 exact subscriptTail_builtinR (x:=w) pl.typeIs slot_tuple_getitem.lookup
  (getItem_tuple (j:=j) (Q:=fun r s'=>r=w/\EP X pins Z Q r s') pl (by omega) (by omega) (by rw [sT_,<- hl];exact h1) (by simpa using ew) ⟨rfl,fin⟩) hs
theorem qd2 (its:List Value) (n j:Nat) (u:Value):Obj.mapSeq (·.setIfInBounds j u) { cls := .type "list",data := .seq its.toArray n }={ cls := .type "list",data := .seq (its.set j u).toArray n }:=by
 simp [Obj.mapSeq]
theorem Inv.lst {pins:List (Addr×Obj)} {Z:St} {H:Hp} {s:Shared} {p:Addr} {xs:List V} (I:Inv X pins Z H s) (h:H p=some (.lst xs)) :
  ∃ (its:List Value) (n:Nat),qT xs its/\s.heap.get? p=some { cls := .type "list",data := .seq its.toArray n }/\xs.length<=sizeLine:=by
 obtain ⟨z,its,n,r,e⟩:=I.hok p _ h
 exact ⟨its,n,r,e,z⟩
theorem Inv.lstUpd {pins:List (Addr×Obj)} {Z:St} {H:Hp} {s:Shared} {p:Addr} {xs ys:List V} {its its':List Value} {n n':Nat} {f:Obj->Obj} (I:Inv X pins Z H s) (h:H p=some (.lst xs))
  (ho:s.heap.get? p=some { cls := .type "list",data := .seq its.toArray n }) (hf:f { cls := .type "list",data := .seq its.toArray n }={ cls := .type "list",data := .seq its'.toArray n' }) (r:qT ys its') (hz:ys.length<=sizeLine) (t:Nat) :
  Inv X pins Z (upd H p (.lst ys)) { s with heap:=s.heap.update p f,toks:=t }:=by
 have e:(s.heap.update p f).get? p=some { cls := .type "list",data := .seq its'.toArray n' }:=by
  rw [Heap.get?_update_self f ho (by rw [hf]<;>rfl),hf]
 refine I.write (x:=p) (e:=p) (by rw [h];trivial) (.inl rfl) (fun b u hb q=>(Heap.get?_update_other _ _ (Ne.symm hb)).trans q) ⟨_,e⟩ ?_
 exact ⟨hz,its',n',r,e⟩
def qmX:V->V->V->Hp->(Hp->Prop)->Prop:=fun o i v H Q=>∃ p xs k j,o = .ref p/\i = .int k/\H p=some (.lst xs)/\ixN xs.length k=some j/\Q (upd H p (.lst (xs.set j v)))
theorem qgH:qnv X qmX:=by
 intro pins s Z H o i v ov iv u Q I ro ri rv h
 obtain ⟨p,xs,k,j,rfl,rfl,hp,hj,q⟩:=h
 cases ro
 obtain ⟨t,rfl⟩:=ri
 obtain ⟨its,n,r,ho,hz⟩:=I.lst hp
 obtain ⟨h1,h2,h3,h4⟩:=qeS hj
 have hl:=r.length
 have hn:=qbB
 have I':Inv X pins Z (upd H p (.lst (xs.set j v))) { s with heap:=s.heap.update p (Obj.mapSeq (·.setIfInBounds j u)) } :=
  I.lstUpd hp ho (qd2 its n j u) (r.set rv j) (by rw [lS_];exact hz) s.toks
 by_cases h0:0<=k
 ·have hk:k.toNat=j:=by
   rw [seqIndex_of h0 h4] at h1
   exact Option.some.inj h1
  exact PySem.W.ki_setAt ho h0 (by omega) (by rw [sT_,<- hl];exact h4) (by rw [hk];exact ⟨_,I',q⟩)
 ·have hk:(k+(its.toArray.size:Int)).toNat=j:=by
   rw [seqIndex_neg (by omega) h3] at h1
   rw [sT_,<- hl]
   exact Option.some.inj h1
  exact PySem.W.ki_setBack ho (by omega) (by rw [sT_,<- hl];exact h3) (by omega) (by rw [hk];exact ⟨_,I',q⟩)
theorem qbF (lo hi:Option Int) (n:Nat):(sliceBounds lo hi none n).1=((HT.sIx n 0 lo:Nat):Int)/\(sliceBounds lo hi none n).2.1=((HT.sIx n n hi:Nat):Int)/\(sliceBounds lo hi none n).2.2=1:=by
 refine ⟨?_,?_,rfl⟩
 ·cases lo with
  | none=>simp [sliceBounds,HT.sIx]
  | some i =>
   simp only [sliceBounds,HT.sIx,Option.getD_none,show (1:Int)>0 by decide,if_true]
   by_cases h:i<0
   ·simp only [h,if_true]<;>omega
   ·simp only [h,if_false]<;>omega
 ·cases hi with
  | none=>simp [sliceBounds,HT.sIx]
  | some i =>
   simp only [sliceBounds,HT.sIx,Option.getD_none,show (1:Int)>0 by decide,if_true]
   by_cases h:i<0
   ·simp only [h,if_true]<;>omega
   ·simp only [h,if_false]<;>omega
theorem qaU (its:List Value) (lo hi:Option Int):slicePick its.toArray lo hi none=((its.drop (HT.sIx its.length 0 lo)).take (HT.sIx its.length its.length hi-HT.sIx its.length 0 lo)).toArray:=by
 obtain ⟨h1,h2,h3⟩:=qbF lo hi its.toArray.size
 unfold slicePick
 rw [h1,h2,h3]
 simp only [sliceRange_one,pick_run,sT_]<;>rfl
def qoc (K:PySem.W.Frag):V->Option Int->Option Int->Hp->VK->Prop:=fun x lo hi H Q=>∃ a xs,x = .ref a/\SqL K H a xs/\∀ p,H p=none->Q (.ref p) (upd H p (.lst (qgs xs lo hi)))
theorem qi3:SlR X (qoc X.K):=by
 intro pins s Z H x v vl vu lo hi sl Q I rx hs pl pu h
 obtain ⟨a,xs,rfl,hx,q⟩:=h
 cases rx
 obtain ⟨its,r,ht,hz⟩:=I.list hx
 have hlen:=r.length
 refine ⟨"list",_,slot_list_getitem.lookup,ht.isList.typeIs,?_⟩
 refine wpAny_getItem_list_slice ht.isList hs pl pu .none (by simp) ?_ (by rw [sT_]<;>omega)
 rw [qaU,<- hlen]
 refine ⟨.ref s.heap.objs.size,_,I.laid (t':=s.toks) (o := .lst (qgs xs lo hi)) (fun b ob q=>Heap.get?_push_of_some _ q) (Nat.le_refl _) ?_,rfl,q _ (I.hok.fresh (Nat.le_refl _))⟩
 exact ⟨Nat.le_trans (wj xs lo hi) hz,_,0,(r.drop (HT.sIx xs.length 0 lo)).take (HT.sIx xs.length xs.length hi-HT.sIx xs.length 0 lo),Heap.get?_push_size _ rfl⟩
def vW:V->Bool
 | .non=>true
 | .bl _=>true
 | .int _=>true
 | .str _=>true
 | _=>false
def eqV:V->V->Bool
 | .non,.non=>true
 | .bl a,.bl b=>a==b
 | .bl a,.int b=>(if a then 1 else 0)==b
 | .int a,.bl b=>a==(if b then 1 else 0)
 | .int a,.int b=>a==b
 | .str a,.str b=>a==b
 | _,_=>false
theorem qkW {A:Around} {s:Shared} {y x:V} {u v:Value} (ry:z9 y u) (rx:z9 x v) (fy:vW y=true) (fx:vW x=true):SeqAt.EqAt A s u v (eqV y x):=by
 cases y with
 | non =>
  cases ry
  cases x with
  | non=>cases rx;exact SeqAt.EqAt.same _
  | bl b=>cases rx;exact SeqAt.EqAt.none_bool b
  | int b=>obtain ⟨t,rfl⟩:=rx;exact SeqAt.EqAt.none_int b t
  | str b=>obtain ⟨t,rfl⟩:=rx;exact SeqAt.EqAt.none_str b t
  | _=>exact absurd (show false=true from fx) Bool.false_ne_true
 | bl a =>
  cases ry
  cases x with
  | non=>cases rx;exact SeqAt.EqAt.bool_none a
  | bl b=>cases rx;exact SeqAt.EqAt.bool_bool a b
  | int b=>obtain ⟨t,rfl⟩:=rx;exact SeqAt.EqAt.bool_int a b t
  | str b=>obtain ⟨t,rfl⟩:=rx;exact SeqAt.EqAt.bool_str a b t
  | _=>exact absurd (show false=true from fx) Bool.false_ne_true
 | int a =>
  obtain ⟨t',rfl⟩:=ry
  cases x with
  | non=>cases rx;exact SeqAt.EqAt.int_none a t'
  | bl b=>cases rx;exact SeqAt.EqAt.int_bool a t' b
  | int b=>obtain ⟨t,rfl⟩:=rx;exact SeqAt.EqAt.int_int a t' b t
  | str b=>obtain ⟨t,rfl⟩:=rx;exact SeqAt.EqAt.int_str a t' b t
  | _=>exact absurd (show false=true from fx) Bool.false_ne_true
 | str a =>
  obtain ⟨t',rfl⟩:=ry
  cases x with
  | non=>cases rx;exact SeqAt.EqAt.str_none a t'
  | bl b=>cases rx;exact SeqAt.EqAt.str_bool a t' b
  | int b=>obtain ⟨t,rfl⟩:=rx;exact SeqAt.EqAt.str_int a t' b t
  | str b=>obtain ⟨t,rfl⟩:=rx;exact SeqAt.EqAt.str_str a t' b t
  | _=>exact absurd (show false=true from fx) Bool.false_ne_true
 | _=>exact absurd (show false=true from fy) Bool.false_ne_true
def eqU (x:V) (u:Value):Bool:=match u with
 | .none=>eqV .non x
 | .bool b=>eqV (.bl b) x
 | .int i _=>eqV (.int i) x
 | .str z _=>eqV (.str z) x
 | _=>false
theorem qhX {x y:V} {u:Value} (r:z9 y u) (f:vW y=true):eqU x u=eqV y x:=by
 cases y with
 | non=>cases r;rfl
 | bl b=>cases r;rfl
 | int i=>obtain ⟨t,rfl⟩:=r;rfl
 | str z=>obtain ⟨t,rfl⟩:=r;rfl
 | _=>exact absurd (show false=true from f) Bool.false_ne_true
theorem qcs {x:V}:∀ {xs:List V} {us:List Value},qT xs us->xs.all vW=true->us.any (eqU x)=xs.any fun y=>eqV y x
 | _,_,.nil,_=>rfl
 | y::xs,u::us,.cons r t,f=>by
  rw [List.all_cons,Bool.and_eq_true] at f
  rw [List.any_cons,List.any_cons,qhX r f.1,qcs t f.2]
theorem qaV {A:Around} {s:Shared} {x:V} {v:Value} (rx:z9 x v) (fx:vW x=true):∀ {xs:List V} {us:List Value},qT xs us->xs.all vW=true->∀ u∈us,SeqAt.EqAt A s u v (eqU x u)
 | _,_,.nil,_=>fun u hu=>by cases hu
 | y::xs,u::us,.cons r t,f=>fun u' hu=>by
  rw [List.all_cons,Bool.and_eq_true] at f
  rcases List.mem_cons.mp hu with rfl | hu
  ·rw [qhX r f.1];exact qkW r rx f.1 fx
  ·exact qaV rx fx t f.2 u' hu
def inV (x:V) (xs:List V):Bool:=xs.any fun y=>eqV y x
def rIn (K:PySem.W.Frag) (neg:Bool):R2:=fun x y H Q=>∃ p xs,y = .ref p/\(SqL K H p xs\/SqT K H p xs)/\vW x=true/\xs.all vW=true/\Q (.bl (if neg then !inV x xs else inV x xs)) H
theorem qeV:OpR X (compareOp .In) (rIn X.K false):=by
 intro pins s Z H x y v u Q I rx ry h
 obtain ⟨p,xs,rfl,hq,fx,fs,q⟩:=h
 cases ry
 rcases hq with hq | hq
 ·obtain ⟨its,r,pl,hz⟩:=I.list hq
  refine SeqAt.in_listAt (eqU x) pl.isList (fun w hw=>qaV rx fx r fs w (by simpa using hw)) ⟨.bl _,H,I,rfl,?_⟩
  rw [show its.toArray.any (eqU x)=its.any (eqU x) by simp,qcs r fs]
  exact q
 ·obtain ⟨its,r,pl,hz⟩:=I.tuple hq
  refine SeqAt.in_tupleAt (eqU x) pl (fun w hw=>qaV rx fx r fs w (by simpa using hw)) ⟨.bl _,H,I,rfl,?_⟩
  rw [show its.toArray.any (eqU x)=its.any (eqU x) by simp,qcs r fs]
  exact q
theorem qbG:j9 X (.builtin "len") (fun xs H Q=>∃ p ys,xs=[.ref p]/\(SqL X.K H p ys\/SqT X.K H p ys)/\Q (.int ys.length) H):=by
 intro pins s Z H xs us Q I r h
 obtain ⟨p,ys,rfl,hq,q⟩:=h
 obtain ⟨u,rfl,rx⟩:=qgz r
 cases rx
 have hn:=qbB
 rcases hq with hq | hq
 ·obtain ⟨its,r',pl,hz⟩:=I.list hq
  have hlen:=r'.length
  exact Calls.call_len_list pl.isList (by simp only [sT_]<;>omega) ⟨.int ys.length,H,I.tok _,⟨s.toks+1,by rw [sT_,hlen]⟩,q⟩
 ·obtain ⟨its,r',pl,hz⟩:=I.tuple hq
  have hlen:=r'.length
  exact len_tuple pl (by simp only [sT_]<;>omega) ⟨.int ys.length,H,I.tok _,⟨s.toks+1,by rw [sT_,hlen]⟩,q⟩
theorem qbH:j9 X (.builtin "len") (fun xs H Q=>∃ z,xs=[.str z]/\z.length<=sizeLine/\Q (.int z.length) H):=by
 intro pins s Z H xs us Q I r h
 obtain ⟨z,rfl,hz,q⟩:=h
 obtain ⟨u,rfl,t,rfl⟩:=qgz r
 have hn:=qbB
 exact len_str (by omega) ⟨.int z.length,H,I.tok _,⟨_,rfl⟩,q⟩
theorem j9.or {f:Value} {r r':List V->Hp->VK->Prop} (h:j9 X f r) (h':j9 X f r'):j9 X f (fun xs H Q=>r xs H Q\/r' xs H Q):=by
 intro pins s Z H xs us Q I rs q
 rcases q with q | q
 ·exact h pins s Z H xs us Q I rs q
 ·exact h' pins s Z H xs us Q I rs q
theorem uT:j9 X (.type "tuple") (fun xs H Q=>∃ p ys,xs=[.ref p]/\((SqL X.K H p ys/\∀ l,H l=none->Q (.ref l) (upd H l (.tup ys)))\/(SqT X.K H p ys/\Q (.ref p) H))):=by
 intro pins s Z H xs us Q I r h
 obtain ⟨p,ys,rfl,h⟩:=h
 obtain ⟨u,rfl,rx⟩:=qgz r
 cases rx
 rcases h with ⟨hq,q⟩ | ⟨hq,q⟩
 ·obtain ⟨its,r',pl,hz⟩:=I.list hq
  have hlen:=r'.length
  refine call_tuple_list pl.isList (fun h' kp => ?_) (by simp only [sT_]<;>omega)
  have I1:Inv X pins Z H { s with heap:=h' }:=I.kept (t':=s.toks) kp
  have I2:Inv X pins Z (upd H h'.objs.size (.tup ys)) { s with heap:=h'.push { cls := .type "tuple",data := .seq its.toArray } } :=
   I1.laid (t':=s.toks) (fun b o e=>Heap.get?_push_of_some _ e) (Nat.le_refl _) (show j8 X.prog X.w _ _ _ (.tup ys) from ⟨hz,its,r',IsTup.new _ _⟩)
  exact ⟨.ref h'.objs.size,_,I2,rfl,q _ (I1.hok.fresh (Nat.le_refl _))⟩
 ·obtain ⟨its,r',pl,hz⟩:=I.tuple hq
  exact call_tuple_same pl ⟨.ref p,H,I,rfl,q⟩
def tyV (K:PySem.W.Frag) (T:String) (x:V) (H:Hp):Prop:=match x with
 | .str _=>T="str"
 | .int _=>T="int"
 | .ref p=>(T="list"/\∃ xs,SqL K H p xs)\/(T="tuple"/\∃ o,K.lookup p=some o/\o.cls = .type "tuple"/\o.dict=none) \/
   (T="dict"/\((∃ kvs,H p=some (.dK kvs))\/∃ kvs,H p=some (.dT kvs)))\/(T="set"/\∃ S n,H p=some (.set S n))
 | _=>False
theorem qkX {pins:List (Addr×Obj)} {Z:St} {H:Hp} {s:Shared} {T:String} {x:V} {v:Value} (I:Inv X pins Z H s) (r:z9 x v) (ty:tyV X.K T x H) :
  s.TypeIs v T/\∀ a,v = .ref a->∃ ob,s.heap.get? a=some ob/\ob.dict=none:=by
 cases x with
 | str z =>
  obtain ⟨t,rfl⟩:=r
  cases (show T="str" from ty)
  exact ⟨typeIs_str s z t,fun _ e=>nomatch e⟩
 | int i =>
  obtain ⟨t,rfl⟩:=r
  cases (show T="int" from ty)
  exact ⟨typeIs_int s i t,fun _ e=>nomatch e⟩
 | ref p =>
  cases r
  rcases ty with ⟨rfl,xs,hq⟩ | ⟨rfl,o,hk,hc,hd⟩ | ⟨rfl,hk⟩ | ⟨rfl,S,n,hk⟩
  ·obtain ⟨its,_,pl,_⟩:=I.list hq
   refine ⟨pl.isList.typeIs,fun a e => ?_⟩
   cases e
   obtain ⟨o,n,e,c,hd,_⟩:=pl
   exact ⟨o,e,hd⟩
  ·refine ⟨⟨o,I.kIn p o hk,hc⟩,fun a e => ?_⟩
   cases e
   exact ⟨o,I.kIn _ o hk,hd⟩
  ·have z:∃ o,s.heap.get? p=some o/\o.ExactDict:=by
    rcases hk with ⟨kvs,hk⟩ | ⟨kvs,hk⟩
    ·obtain ⟨_,_,_,_,o,_,_,e,ex,_⟩:=I.hok p _ hk
     exact ⟨o,e,ex⟩
    ·obtain ⟨_,_,_,_,o,_,_,e,ex,_⟩:=I.hok p _ hk
     exact ⟨o,e,ex⟩
   obtain ⟨o,e,ex⟩:=z
   refine ⟨⟨o,e,ex.1⟩,fun a e2 => ?_⟩
   cases e2
   exact ⟨o,e,ex.2.1⟩
  ·obtain ⟨o,_,_,_,e,ex,_⟩:=I.hok p _ hk
   refine ⟨⟨o,e,ex.1⟩,fun a e2 => ?_⟩
   cases e2
   exact ⟨o,e,ex.2.1⟩
 | _=>exact False.elim ty
def tBM (K:PySem.W.Frag) (T:String) (r:V->List V->Hp->VK->Prop) (to:TE) (t:TA):TE:=fun Z H Q=>to Z H fun x H1=>tyV K T x H1/\t Z H1 fun xs H2=>r x xs H2 Q
variable {o e:Expr} {es:List Expr} {to:TE} {t:TA} {name:Str} {apos cpos:Pos} {T id:String} {r:V->List V->Hp->VK->Prop}
theorem qeW (pa:PlainAttrs T) (slot:Slot T name id) (hty:typeOf (.builtin id)=pure (.type "method_descriptor")) (hm:MtR X id r) (ho:PE X o to) (ha:PA X (e::es) t)
  (hbase:attributeBase o name X.env (eval o X.env)=eval o X.env:=by rfl)
  (hfew:((backTo cpos (starEach (e::es) X.env)).all (fun x => !x.1)&&(backToKw cpos (keywordEach [] X.env)).all (fun x=>x.1.isSome)
   && decide ((e::es).length+([]:List Keyword).length+(if ([]:List Keyword).isEmpty then 0 else 1)<30))=true:=by rfl)
  (hline:(apos.endLine==cpos.line)=true:=by rfl) (hs:starEach (e::es) X.env=(false,eval e X.env)::starEach es X.env:=by rfl) (hplain:(backTo cpos (starEach es X.env)).any (·.1)=false:=by rfl) :
  PE X (.Call (.Attribute o name apos) (e::es) [] cpos) (tBM X.K T r to t):=by
 intro pins s Z H Q I h
 refine wpAny_Call_method_late hbase hfew hline rfl (thn (ho pins s Z H _ I h) fun v s1 ⟨x,H1,I1,r1,ty,q1⟩ => ?_)
 obtain ⟨h1,h2⟩:=qkX I1 r1 ty
 refine ⟨T,id,pa,slot,hty,h1,h2,?_⟩
 have hA:=ha cpos pins s1 Z H1 _ I1 q1
 rw [hs] at hA |-
 refine Calls.callWith_builtin (by show (false||(backTo cpos (starEach es X.env)).any (·.1))=false;rw [hplain]<;>rfl) (Calls.evalArgs_plain ?_)
 exact thn hA fun us s2 ⟨vs,H2,I2,r2,q2⟩=>hm pins s2 Z H2 x vs v us Q I2 r1 r2 q2
/- xs.append(e),list.index on a module's tuple .. are MtR facts of 06m -/
end
end L2
namespace L2
open PySem PySem.Spec PyProof.Rows
def MtM (X:Cx) (id:String) (r:V->List V->Hp->VK->Prop):Prop :=
 ∀ (pins:List (Addr×Obj)) (s:Shared) (Z:St) (H:Hp) (x:V) (xs:List V) (v:Value) (us:List Value) (Q:VK),Inv X pins Z H s->z9 x v->qT xs us->r x xs H Q ->
  wpAny (model X.prog X.w) X.A (call (.builtin id) (v::us)) (EP X pins Z Q) X.xe s
theorem qT.one:∀ {x:V} {us:List Value},qT [x] us->∃ u,us=[u]/\z9 x u
 | _,_,.cons r .nil=>⟨_,rfl,r⟩
theorem qT.two:∀ {x y:V} {us:List Value},qT [x,y] us->∃ u v,us=[u,v]/\z9 x u/\z9 y v
 | _,_,_,.cons r (.cons q .nil)=>⟨_,_,rfl,r,q⟩
theorem qT.eraseIdx:∀ {xs:List V} {us:List Value} (i:Nat),qT xs us->qT (xs.eraseIdx i) (us.eraseIdx i)
 | _,_,_,.nil => .nil
 | _,_,0,.cons _ t=>t
 | _,_,i+1,.cons r t => .cons r (qT.eraseIdx i t)
theorem qT.reverse {xs:List V} {us:List Value} (h:qT xs us):qT xs.reverse us.reverse:=by
 induction h with
 | nil=>exact .nil
 | cons r t ih=>rw [List.reverse_cons,List.reverse_cons];exact qT.append ih (.cons r .nil)
theorem qT.rep {xs:List V} {us:List Value} (h:qT xs us):∀ k:Nat,qT (List.replicate k xs).flatten (List.replicate k us).flatten
 | 0 => .nil
 | k+1=>by
  rw [rS_,rS_,List.flatten_cons,List.flatten_cons]
  exact qT.append h (qT.rep h k)
theorem wm (its:List Value):∀ (k:Nat) (acc:List Value),
  List.foldl (fun x1 x2=>x1++x2) acc.toArray (List.replicate k its.toArray)=(acc++(List.replicate k its).flatten).toArray
 | 0,acc=>by simp
 | k+1,acc=>by
  have e:acc.toArray++its.toArray=(acc++its).toArray:=by simp
  have e2:(acc++its)++(List.replicate k its).flatten=acc++(List.replicate (k+1) its).flatten:=by
   rw [rS_,List.flatten_cons,aA_]
  rw [<- e2,<- wm its k (acc++its),<- e,rS_,fo_]
section
variable {X:Cx} {pins:List (Addr×Obj)} {Z:St} {H:Hp} {s:Shared} {l b:Addr} {xs ys zs:List V}
theorem Inv.lset {its its':List Value} {n:Nat} {f:Array Value->Array Value} {t':Nat} (I:Inv X pins Z H s) (hH:H l=some (.lst xs))
  (e:s.heap.get? l=some { cls := .type "list",data := .seq its.toArray n }) (hf:f its.toArray=its'.toArray) (hv:qT ys its') (hz:ys.length<=sizeLine) :
  Inv X pins Z (upd H l (.lst ys)) { s with heap:=s.heap.update l (Obj.mapSeq f),toks:=t' }:=by
 have q:=PySem.IsL.update e f
 rw [hf] at q
 refine I.write (x:=l) (e:=l) (by rw [hH];exact trivial) (.inl rfl) (fun b' u hb hu=>(Heap.get?_update_other s.heap (Obj.mapSeq f) (Ne.symm hb)).trans hu) ⟨_,q⟩ ?_
 exact ⟨hz,its',_,hv,q⟩
theorem Inv.lnew {its:List Value} {t':Nat} (I:Inv X pins Z H s) (hv:qT ys its) (hz:ys.length<=sizeLine) :
  Inv X pins Z (upd H s.heap.objs.size (.lst ys)) { s with heap:=s.heap.push { cls := .type "list",data := .seq its.toArray },toks:=t' } :=
 I.laid (fun _ _ q=>Heap.get?_push_of_some _ q) (Nat.le_refl _) ⟨hz,its,0,hv,Heap.get?_push_size _ rfl⟩
theorem Inv.fresh (I:Inv X pins Z H s):H s.heap.objs.size=none:=I.hok.fresh (Nat.le_refl _)
theorem Inv.lstM (I:Inv X pins Z H s) (hH:H l=some (.lst xs)):xs.length<=sizeLine/\∃ (its:List Value) (n:Nat),qT xs its/\xs.length=its.length/\s.heap.get? l=some { cls := .type "list",data := .seq its.toArray n }:=by
 obtain ⟨z,its,n,r,e⟩:=I.hok l _ hH
 exact ⟨z,its,n,r,r.length,e⟩
theorem qc6 {n:Nat} (h:n<=sizeLine):Builtin.List.listTooLong n=false:=by
 unfold Builtin.List.listTooLong
 exact decide_eq_false (by omega)
end
section
variable {X:Cx}
def qi4:V->List V->Hp->VK->Prop:=fun x vs H Q=>∃ l xs y,x = .ref l/\vs=[y]/\H l=some (.lst xs)/\xs.length<sizeLine/\Q .non (upd H l (.lst (xs++[y])))
theorem ud:MtM X "list.append" qi4:=by
 intro pins s Z H x vs v us Q I rx rv h
 obtain ⟨l,xs,y,rfl,rfl,hH,hz,q⟩:=h
 cases rx
 obtain ⟨u,rfl,ru⟩:=rv.one
 obtain ⟨z,its,n,r,hl,e⟩:=I.lstM hH
 refine call_meets F.slot_list_append ⟨_,e,rfl⟩ F.entry_list_append (F.args_list_append_2 _ _) (PySem.list_append l its.toArray n u (by rw [sT_];omega)) ⟨e,?_⟩
 refine ⟨.non,_,I.lset (its':=its++[u]) hH e (by simp) (r.append (.cons ru .nil)) ?_,rfl,q⟩
 rw [lA_,List.length_singleton]
 omega
def qi5:V->List V->Hp->VK->Prop:=fun x vs H Q=>∃ l b xs zs,x = .ref l/\vs=[.ref b]/\H l=some (.lst xs)/\H b=some (.lst zs)/\xs.length+zs.length<=sizeLine/\Q .non (upd H l (.lst (xs++zs)))
theorem qeX:MtM X "list.extend" qi5:=by
 intro pins s Z H x vs v us Q I rx rv h
 obtain ⟨l,b,xs,zs,rfl,rfl,hH,hB,hz,q⟩:=h
 cases rx
 obtain ⟨u,rfl,ru⟩:=rv.one
 cases ru
 obtain ⟨z,its,n,r,hl,e⟩:=I.lstM hH
 obtain ⟨z2,its2,n2,r2,hl2,e2⟩:=I.lstM hB
 have hsz:its.toArray.size+its2.toArray.size<=sizeLine:=by rw [sT_,sT_];omega
 have hlong:¬ (!its.toArray.isEmpty&&Builtin.List.listTooLong (its.toArray.size+its2.toArray.size))=true:=by
  rw [qc6 hsz,Bool.and_false]
  exact Bool.false_ne_true
 refine call_meets F.slot_list_extend ⟨_,e,rfl⟩ F.entry_list_extend (F.args_list_extend_2 _ _)
  (AutoSeq1.list_extend_list_list_0 l its.toArray n b its2.toArray n2 hlong (by rw [sT_];omega) (by omega)) ⟨e,e2,?_⟩
 refine ⟨.non,_,I.lset (its':=its++its2) hH e (by simp) (r.append r2) ?_,rfl,q⟩
 rw [lA_]
 omega
def qnB:R2:=fun x y H Q=>∃ l b xs zs,x = .ref l/\y = .ref b/\H l=some (.lst xs)/\H b=some (.lst zs)/\xs.length+zs.length<=sizeLine/\∀ p,H p=none->Q (.ref p) (upd H p (.lst (xs++zs)))
theorem qkY:OpR X (binaryOp .Add) qnB:=by
 intro pins s Z H x y v u Q I rx ry h
 obtain ⟨l,b,xs,zs,rfl,rfl,hH,hB,hz,q⟩:=h
 cases rx
 cases ry
 obtain ⟨z,its,n,r,hl,e⟩:=I.lstM hH
 obtain ⟨z2,its2,n2,r2,hl2,e2⟩:=I.lstM hB
 refine PySem.P.add_list e e2 ?_ (by rw [sT_,sT_];omega)
 have ea:its.toArray++its2.toArray=(its++its2).toArray:=by simp
 rw [ea]
 exact ⟨.ref _,_,I.lnew (t':=s.toks) (r.append r2) (by rw [lA_];omega),rfl,q _ I.fresh⟩
def qnC:R2:=fun x y H Q=>∃ l k xs,x = .ref l/\y = .int k/\H l=some (.lst xs) /\ -(2 ^ 63)<=k/\k<2 ^ 63/\xs.length*k.toNat<=sizeLine /\
 ∀ p,H p=none->Q (.ref p) (upd H p (.lst (List.replicate k.toNat xs).flatten))
theorem qct {α:Type} (xs:List α) (k:Nat):(List.replicate k xs).flatten.length=k*xs.length:=by
 induction k with
 | zero=>simp
 | succ k ih=>rw [rS_,List.flatten_cons,lA_,ih,Nat.succ_mul,Nat.add_comm]
theorem qkZ:OpR X (binaryOp .Mult) qnC:=by
 intro pins s Z H x y v u Q I rx ry h
 obtain ⟨l,k,xs,rfl,rfl,hH,h1,h2,hz,q⟩:=h
 cases rx
 obtain ⟨t,rfl⟩:=ry
 obtain ⟨z,its,n,r,hl,e⟩:=I.lstM hH
 have hlen:its.toArray.size*k.toNat<=sizeLine:=by rw [sT_,<- hl];exact hz
 have hcap:¬ its.toArray.size*k.toNat>(2 ^ 63-1)/8:=by
  have:(sizeLine:Nat)<=(2 ^ 63-1)/8:=by decide
  omega
 have hfit:¬ (!Builtin.List.listFitsIndex k)=true:=by
  rw [fitsIndex_both h1 h2]
  exact Bool.false_ne_true
 have hlong:¬ Builtin.List.listTooLong (its.toArray.size*k.toNat)=true:=by
  rw [qc6 hlen]
  exact Bool.false_ne_true
 have hnew:List.foldl (fun x1 x2=>x1++x2) #[] (List.replicate (if its.toArray.isEmpty=true then 0 else k.toNat) its.toArray)=(List.replicate k.toNat its).flatten.toArray:=by
  have f0:∀ m:Nat,List.foldl (fun x1 x2=>x1++x2) #[] (List.replicate m its.toArray)=(List.replicate m its).flatten.toArray:=fun m=>by
   have:=wm its m []
   rw [List.nil_append] at this
   exact this
  rw [f0]
  cases its with
  | nil=>simp
  | cons a r'=>rw [if_neg (by simp)]
 refine wpAny_binaryOp_repeat_ref (T:="list") (U:="int") (by decide) ⟨_,e,rfl⟩ (fun s'=>typeIs_int s' k t) noFill_list_mul F.fills_int_mul F.slot_int_rmul repeat_list F.slot_int_index.lookup
  (call_meets F.slot_int_rmul (typeIs_int s k t) F.entry_int_rmul (F.args_int_rmul_2 _ _) (int___rmul___int_list k t l its.toArray n)
   ⟨e,rfl,⟨_,e,rfl⟩,call_meets F.slot_list_mul ⟨_,e,rfl⟩ F.entry_list_mul (F.args_list_mul_2 _ _) (AutoListH.list___mul___list_int_3 l its.toArray n k t hfit hcap hlong) ⟨e,?_⟩⟩)
 rw [hnew]
 exact ⟨.ref _,_,I.lnew (t':=s.toks) (r.rep k.toNat) (by rw [qct,Nat.mul_comm];exact hz),rfl,q _ I.fresh⟩
end
section
variable {prog:Program} {w:World} {A:Around} {E:Value->Shared->Prop} {s:Shared}
set_option maxRecDepth 100000 in
end
section
variable {X:Cx}
end
end L2
namespace Att
open PySem PySem.W PySem.Calls PyProof.Rows
theorem wn {P:Params} {h:Heap}:∀ (ns:List Int) (vs:List Value),WellAll P h vs (ns.map WData.int)->IntsAre vs ns:=by
 intro ns
 induction ns with
 | nil =>
  intro vs w
  rw [List.map_nil] at w
  cases w
  exact .nil
 | cons n ns ih =>
  intro vs w
  rw [mC_] at w
  cases w with
  | cons a b =>
   cases a
   exact .cons _ _ (ih _ b)
theorem qeY {l:OpenLaw} {n:Nat} (hn:l.most=some n) {P:Params} {h:Heap} {args:List WData} {vals:List Value}
  (hpre:l.row.toRowW.claim.pre args=true) (hwl:WellAll P h vals args) :
  ∃ a vs ns,vals=[Value.ref a]/\args=[WData.list (ns.map WData.int)]/\h.get? a=some { cls := .type "list",data := .seq vs.toArray }/\IntsAre vs ns/\ns.length<=n:=by
 have hsh:WShape.hasAll [] args [.list .int]=true:=(pre_splitW hpre).1
 have hc:l.pre.holds [] { args:=args }=true:=(pre_splitW hpre).2
 obtain ⟨d,r,rfl,h1,h2⟩:=hasAllW_cons hsh
 obtain rfl:=hasAllW_nil h2
 obtain ⟨xs,rfl,h3⟩:=hasW_list h1
 obtain ⟨ns,rfl⟩:=items_int h3
 have hlen:ns.length<=n:=by
  unfold OpenLaw.pre at hc
  have h4:(WTm.not (.lt (.lit (.int (n:Int))) (.len (.arg 0)))).holds [] { args:=[.list (ns.map .int)] }=true:=by
   have h4:=(holds_andW hc).1
   rw [hn] at h4
   exact h4
  have h5:=condW_of h4 (w_not (w_lt w_lit (w_len_list (w_arg rfl))))
  rw [lM_] at h5
  refine Nat.le_of_not_lt fun q => ?_
  have q':(n:Int)<((ns.length:Nat):Int):=by omega
  first
   | (rw [decide_eq_true q'] at h5;exact absurd h5 (by decide))
   | (simp at h5;omega)
 cases hwl with
 | cons w1 w2 =>
  cases w2
  cases w1 with
  | list ho hall=>exact ⟨_,_,ns,rfl,rfl,ho,wn ns _ hall,hlen⟩
theorem qeZ (l:OpenLaw) (args:List WData):l.row.toRowW.claim.post args (.bool true) args=true :=
 postW_of (r:=l.row.toRowW) (X:=(true==true))
  (show WShape.has [] (.bool true) .bool=true by first | rfl | decide | simp [WShape.has,WShape.arms,WShape.armsAll])
  (show (WTm.eq .res (.lit (.bool true))).value [] { args:=args,res:=some (.bool true),after:=args }=some (.bool (true==true)) from w_eq_bool (w_res rfl) w_lit) rfl
theorem attach_call {l:OpenLaw} {n:Nat} {q:Program} {loose:List Str} {XP:(Str->Option Value)->Heap->Prop} {YP:World->Heap->Prop} {d:DefRec}
  (hn:l.most=some n) (hdf:d.params.defaults=[])
  (call:∀ (w:World) (s₀ sJ:Shared) (mg mb:Str->Option Value) (fa:Addr) (o:Obj) (pm cd doc:Value) (a:Addr) (vs:List Value) (ns:List Int),
   Ground q loose [] XP w s₀ mg mb sJ.heap->YP w sJ.heap ->
   sJ.heap.get? fa=some o->o.data = .func (docDef d.name d.params d.body d.scope pm cd doc)->sJ.heap.CodeRec cd d.name->mg d.name=some (.ref fa) ->
   sJ.heap.get? a=some { cls := .type "list",data := .seq vs.toArray }->IntsAre vs ns->ns.length<=n->sJ.gens = #[] ->
   codeAny (model l.prog w) callerA (.call (.ref fa) ⟨[.ref a],[]⟩) (fun r s'=>r = .ok (.ret (.bool true))/\OldK sJ.heap s'.heap/\s'.os=sJ.os/\AllBare s'.gens) sJ) :
  WalkO q loose XP YP l.row.toRowW d [] (fun f vs=>PySem.call f vs):=by
 intro w s₀ sJ mg mb G Y fa o pm cd doc dV kV ho hd hcd hD hmg hg args vals as hpre hlay hrd hwl hlo
 obtain rfl:dV = .none:=Dflts.none hD hdf
 obtain rfl:kV = .none:=Dflts.noKw hD
 obtain ⟨a,vs,ns,rfl,rfl,hobj,hints,hlen⟩:=qeY hn hpre hwl
 refine enter_call (codeAny_mono (call w s₀ sJ mg mb fa o pm cd doc a vs ns G Y ho (fd_plain hd) hcd hmg hobj hints hlen hg) fun r s' hq => ?_)
 obtain ⟨rfl,h2,h3,h4⟩:=hq
 exact ⟨.inl ⟨.bool true,.bool true,[],rfl,fun _=>rfl,.bool true,qeZ l _,fun _=>⟨List.Pairwise.nil,fun _ hm=>(nomatch hm)⟩⟩,h2,h3,h4⟩
section
variable {prog:Program} {w:World} {A:Around} {E:Value->Shared->Prop} {s:Shared} {K:Frag}
end
end Att
namespace L2
open PySem PySem.Spec PyProof.Rows
theorem qbI:∀ {vs:List Value} {ns:List Int},IntsAre vs ns->qT (ns.map V.int) vs
 | _,_,.nil => .nil
 | _,_,.cons n t h => .cons ⟨t,rfl⟩ (qbI h)
def qmp (H:Hp):Prop:=∀ b,H b=none\/(∃ o xs,H b=some (.frz o (.lst xs)))\/∃ pos q,H b=some (.lam pos q)
def qmq:Option (Addr×Addr×Pos×Str)->Hp
 | some (_,Pt,pos,q)=>fun b=>if b=Pt then some (.lam pos q) else none
 | none=>fun _=>none
theorem qgI {P:Program} {w:World} {K:PySem.W.Frag} {mg mb:Str->Option Value} {CX:CXT} {k:Nat} {fa a:Addr} {fd:FuncData} {x:Str} {sp:Sp} {sJ:Shared} {vs:List Value} {ns:List Int} {lm:Option (Addr×Addr×Pos×Str)}
  (KX:K.In sJ.heap) (hns:sJ.heap.Ns mainGlobals mg) (hb:sJ.heap.Ns builtinsNs mb) (hbb:∀ x:Str,x≠"__name__"->mb x=bootBuiltins x) (hlim:sJ.heap.NoLimit)
  (hbm:∃ bm ob,mg "__builtins__"=some (.ref bm)/\bm≠builtinsNs/\sJ.heap.get? bm=some ob/\ob.cls = .type "module"/\ob.dict=some builtinsNs/\ob.data = .plain)
  (hlm:∀ c Pt pos q,lm=some (c,Pt,pos,q)->PySem.W.CodeHd sJ.heap c Pt/\sJ.heap.get? Pt=some (PySem.W.tabObj #[])/\K.lookup Pt=none)
  (hg:sJ.gens = #[])
  (ha:sJ.heap.get? a=some { cls := .type "list",data := .seq vs.toArray }) (hi:IntsAre vs ns) (hl:ns.length<=sizeLine) (hr:jA k callerA)
  (F:∀ base:Heap,K.In base->base.Ns mainGlobals mg->uQ P w K mg base CX k fa fd [x] sp) (hbind:∀ (s:Shared) (u:Value),BindsTo s fd ⟨[u],[]⟩ [(x,u)])
  (hsp:∀ H:Hp,qmp H->(∀ c Pt pos q,lm=some (c,Pt,pos,q)->H Pt=some (.lam pos q))->SqL K H a (ns.map V.int)->sp [.ref a] H (fun v _=>v = .bl true) fun _ _ _=>False)
  (hCX:∀ H e s',CX [] H sJ (fun _ _ _=>False) e s'->False) :
  codeAny (model P w) callerA (.call (.ref fa) ⟨[.ref a],[]⟩) (fun r s'=>r = .ok (.ret (.bool true))/\OldK sJ.heap s'.heap/\s'.os=sJ.os/\AllBare s'.gens) sJ:=by
 have rv:=qbI hi
 have lenV:=hi.length
 have core:∀ H:Hp,qmp H->(∀ c Pt pos q,lm=some (c,Pt,pos,q)->H Pt=some (.lam pos q))->SqL K H a (ns.map V.int)->HOk P w H sJ.heap ->
   (∀ b u,H b=some u->K.lookup b=none/\((∃ o xs,u = .frz o (.lst xs))\/∃ c pos q,lm=some (c,b,pos,q)/\u = .lam pos q)) ->
   codeAny (model P w) callerA (.call (.ref fa) ⟨[.ref a],[]⟩) (fun r s'=>r = .ok (.ret (.bool true))/\OldK sJ.heap s'.heap/\s'.os=sJ.os/\AllBare s'.gens) sJ:=by
  intro H hO hT hS hok hA
  have base_of:∀ {b:Addr} {o:Obj},sJ.heap.get? b=some o->H b=none->(qgu sJ.heap H).get? b=some o:=fun e n=>qgv e n
  have noD:∀ {b:Addr} {o:Obj},sJ.heap.get? b=some o->(∀ its n,o.data ≠ .seq its n)->(∀ f,o.data ≠ .fields f)->H b=none:=fun {b o} e d1 d2=>by
   cases q:H b with
   | none=>rfl
   | some u =>
    rcases (hA b u q).2 with ⟨ob,xs,rfl⟩ | ⟨c,pos,q',hl2,rfl⟩
    ·obtain ⟨e1,_,its,n,_,e2⟩:=hok b _ q
     rw [e] at e2;cases e2
     exact (d1 _ _ rfl).elim
    ·have e2:=(hlm _ _ _ _ hl2).2.1
     rw [e] at e2;cases e2
     exact (d2 _ rfl).elim
  have nsK:∀ {b:Addr} {m:Str->Option Value},sJ.heap.Ns b m->(qgu sJ.heap H).Ns b m:=fun {b m} ⟨o,es,ep,e,d,r⟩=>⟨o,es,ep,base_of e (noD e (fun _ _ z=>by rw [d] at z;cases z) fun _ z=>by rw [d] at z;cases z),d,r⟩
  have hKb:K.In (qgu sJ.heap H):=fun b o e=>base_of (KX b o e) (by
   cases q:H b with
   | none=>rfl
   | some u=>rw [(hA b u q).1] at e;cases e)
  have hM:Mod K mg (qgu sJ.heap H):=⟨hKb,nsK hns,⟨mb,nsK hb,hbb⟩,let ⟨mc,h1,h2⟩:=hlim;⟨mc,nsK h1,h2⟩,
   let ⟨bm,ob,b1,b2,b3,b4,b5,b6⟩:=hbm;⟨bm,ob,b1,b2,base_of b3 (noD b3 (fun _ _ z=>by rw [b6] at z;cases z) fun _ z=>by rw [b6] at z;cases z),b4,b5,b6⟩⟩
  have e0:qgq P w K mg (qgu sJ.heap H) callerA [] sJ H:=⟨rfl,hM,fun b o e=>qiN e,Nat.le_of_eq (qeC _ _),trivial,fun b hb=>absurd (show b∈([]:List Addr) from hb) (by simp),hok,.of_eq hg⟩
  refine codeAny_mono ((F _ hKb (nsK hns)).run callerA [] sJ H ⟨[.ref a],[]⟩ [.ref a] [.ref a] _ _ hr e0 (hbind sJ (.ref a)) (.cons rfl .nil) (hsp H hO hT hS)) fun r s' h => ?_
  cases r with
  | error e=>exact (hCX H e s' h).elim
  | ok fl =>
   cases fl with
   | next=>exact False.elim h
   | brk=>exact False.elim h
   | cont=>exact False.elim h
   | ret u =>
    obtain ⟨v,H',os,bare,un,hok',r',q⟩:=h
    have q':v = .bl true:=q
    subst q'
    obtain rfl:u=Value.bool true:=r'
    have asIt:∀ b o,sJ.heap.get? b=some o->asItWas sJ.heap s'.heap b o:=fun b o e=>by
     cases q:H b with
     | none=>exact .inl (un.keep b o e q (by intro z;exact absurd (show b∈([]:List Addr) from z) (by simp)) (by simp))
     | some u =>
      rcases (hA b u q).2 with ⟨ob,xs,rfl⟩ | ⟨c,pos,q2,hl2,rfl⟩
      ·have z2:=un.frzs b ob _ q
       obtain ⟨e1,_⟩:=hok b _ q
       obtain ⟨e2,_⟩:=hok' b _ z2
       rw [e] at e1;cases e1
       exact .inl e2
      ·obtain ⟨hc,e2,_⟩:=hlm _ _ _ _ hl2
       rw [e] at e2;cases e2
       rcases hok' b _ (un.tbls b pos q2 q) with z | ⟨c',oc,vs',t,_,_,_,z⟩
       ·exact .inl z
       ·exact .inr (.inl ⟨(hc.tab e).isCodeTable,rfl,#[],_,rfl,by rw [Array.empty_append];exact z⟩)
    exact ⟨rfl,⟨asIt,fun b o e=>un.there b o e (by simp)⟩,os,bare⟩
 let T:Hp:=qmq lm
 have hTb:∀ b u,T b=some u->∃ c pos q,lm=some (c,b,pos,q)/\u = .lam pos q:=fun b u z=>by
  cases hq:lm with
  | none=>simp only [T,hq,qmq] at z;cases z
  | some p =>
   obtain ⟨c,Pt,pos,q⟩:=p
   simp only [T,hq,qmq] at z
   by_cases hbp:b=Pt
   ·rw [if_pos hbp] at z;cases z
    exact ⟨c,pos,q,by rw [hbp],rfl⟩
   ·rw [if_neg hbp] at z;cases z
 have hTa:T a=none:=by
  cases q:T a with
  | none=>rfl
  | some u =>
   obtain ⟨c,pos,q2,hl2,_⟩:=hTb a u q
   have:=(hlm _ _ _ _ hl2).2.1
   rw [ha] at this;cases this
 have hTt:∀ c Pt pos q,lm=some (c,Pt,pos,q)->T Pt=some (.lam pos q):=fun c Pt pos q e=>by
  simp only [T,e,qmq,if_true]
 cases hk:K.lookup a with
 | some o =>
  have e:=KX a o hk
  rw [ha] at e
  cases e
  refine core T (fun b => ?_) hTt (.inr ⟨_,vs.toArray,_,hk,rfl,rfl,rfl,by rw [sT_,lenV];exact hl,by simpa using rv⟩) (fun b u z => ?_) (fun b u z => ?_)
  ·cases q:T b with
   | none=>exact .inl rfl
   | some u=>obtain ⟨_,pos,q2,_,rfl⟩:=hTb b u q;exact .inr (.inr ⟨pos,q2,rfl⟩)
  ·obtain ⟨c,pos,q2,hl2,rfl⟩:=hTb b u z
   exact .inl (hlm _ _ _ _ hl2).2.1
  ·obtain ⟨c,pos,q2,hl2,rfl⟩:=hTb b u z
   exact ⟨(hlm _ _ _ _ hl2).2.2,.inr ⟨c,pos,q2,hl2,rfl⟩⟩
 | none =>
  refine core (upd T a (.frz { cls := .type "list",data := .seq vs.toArray } (.lst (ns.map V.int)))) (fun b => ?_) (fun c Pt pos q e => ?_) (.inl (.inr ⟨{ cls := .type "list",data := .seq vs.toArray },qk⟩)) (fun b u z => ?_) (fun b u z => ?_)
  ·by_cases hb:b=a
   ·subst hb;exact .inr (.inl ⟨_,_,qk⟩)
   ·rw [qj hb]
    cases q:T b with
    | none=>exact .inl rfl
    | some u=>obtain ⟨_,pos,q2,_,rfl⟩:=hTb b u q;exact .inr (.inr ⟨pos,q2,rfl⟩)
  ·have h1:=hTt c Pt pos q e
   rw [qj (qE h1 hTa)]
   exact h1
  ·by_cases hb:b=a
   ·subst hb
    rw [qk] at z;cases z
    exact ⟨ha,by rw [lM_];exact hl,vs,_,rv,ha⟩
   ·rw [qj hb] at z
    obtain ⟨c,pos,q2,hl2,rfl⟩:=hTb b u z
    exact .inl (hlm _ _ _ _ hl2).2.1
  ·by_cases hb:b=a
   ·subst hb
    rw [qk] at z;cases z
    exact ⟨hk,.inl ⟨_,_,rfl⟩⟩
   ·rw [qj hb] at z
    obtain ⟨c,pos,q2,hl2,rfl⟩:=hTb b u z
    exact ⟨(hlm _ _ _ _ hl2).2.2,.inr ⟨c,pos,q2,hl2,rfl⟩⟩
end L2
namespace L2
open PySem PySem.Spec PyProof.Rows
end L2
/- THE LAST THEOREM (shape;LID,My.* are yours):
   My.Adr: a structure of the addresses that your layer names (classes,functions);My.Txt K t: a structure (Prop) of the equations over K;
   My.txt_mk:{K} {implicit addresses ..} (e1:nsIn K mainGlobals "law"=some (some (.ref f))) (e2:K.lookup f=some ⟨oc,od,.func (fnOf "law" "law" params body scope dV kV doc pm an cdv ct),sl⟩) (e3:codeIn K cdv "law"=true) .. : ∃ t,My.Txt K t
set_option maxRecDepth 100000 in
set_option maxHeartbeats 0 in
theorem PySem.Challenge.cw_LID_holds : PySem.Challenge.rw_LID.Holds := by
 w_on;o_law;k_head;(case hw=>w_witness2)
 k_fill
 refine L2.walk_of (l:=PySem.Challenge.rw_LID) (n:=63) (k:=40) (x:="script") (CX:=fun w => ..) (sp:=fun _=>My.sp_law) rfl (by decide) rfl ⟨rfl,by decide,by decide⟩ (fun w h Y=>PySem.W.kIn_of Y) ?F ?S ?C
 case F =>
  intro w mg fa h KX G hmg
  have T:∃ t,My.Txt (L2.KOf KX) t:=by
   dsimp only [L2.KOf]                          -- K must stand as «<heap const> w.params» for k_is
   refine' My.txt_mk ?e1 ?e2 ?e3 ..
   (case e1=>PySem.W.k_is)                    -- in the order: a name->its address->its object->its parts
   (case e2=>PySem.W.k_is)
   ..
  obtain ⟨t,T⟩:=T
  have e0:=hmg.symm.trans (PySem.W.mg_of KX G T.law)
  cases e0                                       -- fa is the law's own address
  exact ⟨_,fun s u => .of_eq rfl,fun base kb nb=>My.law_fn T kb nb⟩     -- if «.of_eq rfl» comes too early: refine' ⟨_,?b,fun base kb nb=>My.law_fn T kb nb⟩;exact fun s u => .of_eq rfl
 case S=>exact fun w H a ns hl hO hS => ..
 case C=>exact ..
(the tactic k_is has no namespace: write k_is) -/
namespace L2
open PySem PySem.Spec PyProof.Rows
def qB (s:Stmt):Arguments:=match s with
 | .FunctionDef _ a _ _ _ _ _ _ _ _=>a
 | _=>{ posonlyargs:=[],args:=[],vararg:=none,kwonlyargs:=[],kw_defaults:=[],kwarg:=none,defaults:=[] }
def qx (s:Stmt):List Stmt:=match s with
 | .FunctionDef _ _ b _ _ _ _ _ _ _=>b
 | _=>[]
def qd (s:Stmt):Scope:=match s with
 | .FunctionDef _ _ _ _ _ _ sc _ _ _=>sc
 | _=>{ kind := .function,names:=[],isGenerator:=false,isCoroutine:=false }
abbrev CX0:CXT:=fun _ _ _ _ _ _=>False
abbrev E0:XK:=fun _ _ _=>False
theorem qgJ {X:Cx}:wc CX0 X E0:=fun _ _ _ _ _ _ _ h=>h.elim
structure Fun (K:PySem.W.Frag) (x qual:Str) (st:Stmt) (f:Addr) (fd:FuncData):Prop where
 ex:∃ (oc:Value) (od:Option Addr) (kV doc pm:Value) (an:Option Addr) (cdv ct:Value) (osl:Array (Option Value)),
  fd=PySem.W.fnOf x qual (qB st) (qx st) (qd st) .none kV doc pm an cdv ct/\K.lookup f=some ⟨oc,od,.func fd,osl⟩/\PySem.W.codeIn K cdv qual=true
 kp:PySem.W.keepIn K (.ref f)=true
section
variable {P:Program} {w:World} {K:PySem.W.Frag} {mg:Str->Option Value} {base:Heap}
theorem Fun.ok {x qual:Str} {st:Stmt} {f:Addr} {fd:FuncData} {N ps:List Str} {k:Nat} {sp:Sp} (F:Fun K x qual st f fd) (S:qy N ps (qd st)) (len:∀ vs H Q E,sp vs H Q E->vs.length=ps.length)
  (hbody:∀ (cdv:Value) (A:Around) (outer:List Env) (s:Shared) (H:Hp) (vs:List V) (Q:VK) (E:XK),jA k (A.deeper (envOfC qual (qd st) s.heap.objs.size f cdv))->sp vs H Q E ->
   ∃ t,PSs (qgr CX0 P w K mg base N qual (qd st) f cdv A outer s H E).nox (qx st) t/\t { nx:=fun _ H'=>Q .non H',rt:=Q } (zP N vs) H):uQ P w K mg base CX0 (k+1) f fd ps sp:=by
 obtain ⟨oc,od,kV,doc,pm,an,cdv,ct,osl,rfl,lk,hcd⟩:=F.ex
 refine qkS lk hcd S len fun A outer s H vs Q E hr hsp => ?_
 obtain ⟨t,h,q⟩:=hbody cdv A outer s H vs Q E hr hsp
 exact ⟨t,h.nox,q⟩
theorem Fun.binds {x qual:Str} {st:Stmt} {f:Addr} {fd:FuncData} {ps:List Str} (F:Fun K x qual st f fd)
  (h:∀ (kV doc pm:Value) (an:Option Addr) (cdv ct:Value) (us:List Value),us.length=ps.length->bindArgs (PySem.W.fnOf x qual (qB st) (qx st) (qd st) .none kV doc pm an cdv ct) ⟨us,[]⟩=pure (ps.zip us)):ua K fd ps []:=by
 obtain ⟨oc,od,kV,doc,pm,an,cdv,ct,osl,rfl,lk,hcd⟩:=F.ex
 exact .all (h kV doc pm an cdv ct)
theorem zk {x qual:Str} {st:Stmt} {f:Addr} {oc:Value} {od an:Option Addr} {osl:Array (Option Value)} {kV doc pm cdv ct:Value} (l:K.lookup f=some ⟨oc,od,.func (PySem.W.fnOf x qual (qB st) (qx st) (qd st) .none kV doc pm an cdv ct),osl⟩)
  (c:PySem.W.codeIn K cdv qual=true) (k:PySem.W.keepIn K (.ref f)=true):Fun K x qual st f (PySem.W.fnOf x qual (qB st) (qx st) (qd st) .none kV doc pm an cdv ct):=⟨⟨oc,od,kV,doc,pm,an,cdv,ct,osl,rfl,l,c⟩,k⟩
end
section
variable {X:Cx}
theorem pv (i:Nat) {x:Str} {pos:Pos} (hN:X.N[i]? = some x:=by rfl) (hv:Vis X.env.scope x:=by first | exact Or.inl rfl | exact Or.inr (Or.inl rfl) | exact Or.inr (Or.inr rfl)) (hd:(x==("__debug__":Str))=false:=by decide)
  (hcd:(x==("__classdict__":Str))=false:=by decide):PE X (.Name x pos) (qnt i):=jO hN hv hd hcd
end
theorem qk0 {A B:Prop} (h:B):if false=true then A else B:=by
 rw [if_neg Bool.false_ne_true]
 exact h
theorem qk1 {A B:Prop} (h:A):if true=true then A else B:=by
 rw [if_pos rfl]
 exact h
def zD (H H':Hp):Prop:=∀ b o,H b=some o->H' b=some o
theorem zD.refl (H:Hp):zD H H:=fun _ _ h=>h
theorem zD.trans {H H1 H2:Hp} (a:zD H H1) (b:zD H1 H2):zD H H2:=fun c o h=>b c o (a c o h)
theorem zD.free {H H':Hp} (e:zD H H') {l:Addr} (h:H' l=Option.none):H l=Option.none:=by
 cases q:H l with
 | none=>rfl
 | some o =>
  rw [e l o q] at h
  cases h
end L2
namespace L2.Sk
open PySem PySem.Spec PyProof.Rows
inductive D where
 | non | bl (b:Bool) | int (i:Int) | str (x:Str) | tup (xs:List D) | lst (xs:List D) | dic (kvs:List (Key×Int)) | fz (ns:List Int)
 | exc (n:Str)
abbrev Fr0:=PySem.W.Frag
def qk2:FuncBody->Option Pos
 | .stmts [_,_,.Return (some (.Call _ _ [⟨_,.Lambda _ _ _ pos,_⟩] _)) _]=>some pos
 | _=>none
def lamOf (K:Fr0):Option (Addr×Addr×Pos):=match PySem.W.tabIn K "dearest_first",PySem.W.nsIn K mainGlobals "dearest_first" with
 | some (c,P),some (some (.ref f))=>(match K.lookup f with
  | some ⟨_,_,.func fd,_⟩=>(qk2 fd.body).map fun pos=>(c,P,pos)
  | _=>none)
 | _,_=>none
abbrev qmY:Str:="dearest_first.<locals>.<lambda>"
def qnD (K:Fr0) (H:Hp) (Io:Addr->Prop):Prop:=∀ c P pos,lamOf K=some (c,P,pos)->H P=some (.lam pos qmY)/\¬ Io P
abbrev qbJ (K:Fr0) (H:Hp):Prop:=qnD K H fun _=>False
theorem qbJ.same {K:Fr0} {H H':Hp} (h:qbJ K H) (s:zD H H'):qbJ K H':=fun c P pos e=>⟨s _ _ (h c P pos e).1,fun z=>z⟩
structure XK6 (K:Fr0) (D:Addr):Prop where
 ga:PySem.W.findIn K (.ref D) "__getattribute__"=some (some (.builtin "BaseException.__getattribute__"))
 gt:PySem.W.findIn K (.ref D) "__getattr__"=some none
 cl:PySem.W.findIn K (.ref D) "__class__"=some (some (.builtin "object.__class__"))
 ob:PySem.W.mroIn K D (.type "object")=some true
 be:PySem.W.subIn K (.ref D) (.type "BaseException")=some true
 is:(PySem.W.clsIn K D).isSome=true
 no:∀ T∈["int","bool","str","tuple","list","dict"],PySem.W.kitOne K (.ref D) (.type T)=some false
def ue (K:Fr0) (n:Str):Option Addr:=match PySem.W.nsIn K mainGlobals n with
 | some (some (.ref C))=>some C
 | _=>none
def clR (K:Fr0) (RN:List Str) (n:Str):Option Addr:=if RN.contains n then ue K n else none
theorem qc7 {K:Fr0} {RN:List Str} {n:Str} {C:Addr} (h:clR K RN n=some C):RN.contains n=true/\ue K n=some C:=by
 unfold clR at h
 split at h
 ·rename_i hn;exact ⟨hn,h⟩
 ·cases h
def qod (K:Fr0) (H:Hp) (a:Addr) (n:Str):Prop:=∃ C,ue K n=some C/\XK6 K C/\∃ o vs,H a=some (.frz o (.own a))/\o.cls = .ref C/\o.data = .fields vs
def TupAt (K:Fr0) (H:Hp) (a:Addr) (xs:List V):Prop :=
 H a=some (.tup xs)\/∃ (o:Obj) (its:Array Value) (n:Nat),K.lookup a=some o/\o.cls = .type "tuple"/\o.data = .seq its n/\its.size<=sizeLine/\qT xs its.toList
def qk3 (K:Fr0) (H:Hp) (a:Addr) (xs:List V):Prop :=
 (∃ o,H a=some (.frz o (.lst xs)))\/∃ (o:Obj) (its:Array Value) (n:Nat),K.lookup a=some o/\o.cls = .type "list"/\o.dict=none/\o.data = .seq its n/\its.size<=sizeLine/\qT xs its.toList
theorem TupAt.sq {K:Fr0} {H:Hp} {a:Addr} {xs:List V} (h:TupAt K H a xs):SqT K H a xs:=by
 rcases h with h | h
 ·exact .inl (.inl h)
 ·exact .inr h
theorem qk3.sq {K:Fr0} {H:Hp} {a:Addr} {xs:List V} (h:qk3 K H a xs):SqL K H a xs:=by
 rcases h with h | h
 ·exact .inl (.inr h)
 ·exact .inr h
mutual
def Is (K:Fr0) (A:Addr->Prop) (H:Hp):D->V->Prop
 | .non,v=>v = .non
 | .bl b,v=>v = .bl b
 | .int i,v=>v = .int i
 | .str x,v=>v = .str x
 | .tup ds,v=>∃ a xs,v = .ref a/\TupAt K H a xs/\IsL K A H ds xs
 | .lst ds,v=>∃ a xs,v = .ref a/\A a/\H a=some (.lst xs)/\IsL K A H ds xs
 | .dic kvs,v=>∃ a,v = .ref a/\A a/\H a=some (.dK (kvs.map fun p=>(p.1,V.int p.2)))
 | .fz ns,v=>∃ a,v = .ref a/\qk3 K H a (ns.map V.int)
 | .exc n,v=>∃ a,v = .ref a/\qod K H a n
def IsL (K:Fr0) (A:Addr->Prop) (H:Hp):List D->List V->Prop
 | [],xs=>xs=[]
 | d::ds,xs=>∃ x ys,xs=x::ys/\Is K A H d x/\IsL K A H ds ys
end
mutual
def imm:D->Bool
 | .tup ds=>immL ds
 | .lst _=>false
 | .dic _=>false
 | .fz _=>false
 | _=>true
def immL:List D->Bool
 | []=>true
 | d::ds=>imm d&&immL ds
end
structure Ext (A:Addr->Prop) (H H':Hp):Prop where
 tup:∀ b xs,H b=some (.tup xs)->H' b=some (.tup xs)
 frz:∀ b o u,H b=some (.frz o u)->H' b=some (.frz o u)
 at_:∀ b o,A b->H b=some o->H' b=some o
theorem Ext.refl {A:Addr->Prop} {H:Hp}:Ext A H H:=⟨fun _ _ h=>h,fun _ _ _ h=>h,fun _ _ _ h=>h⟩
theorem Ext.of_same {A:Addr->Prop} {H H':Hp} (s:zD H H'):Ext A H H':=⟨fun b xs h=>s b _ h,fun b o u h=>s b _ h,fun b o _ h=>s b o h⟩
mutual
theorem Is.ext {K:Fr0} {A B:Addr->Prop} {H H':Hp} (e:Ext A H H') (hAB:∀ a,A a->(H a).isSome=true->B a):∀ {d:D} {v:V},Is K A H d v->Is K B H' d v
 | .non,_,h=>h
 | .bl _,_,h=>h
 | .int _,_,h=>h
 | .str _,_,h=>h
 | .tup ds,_,⟨a,xs,hv,h,r⟩=>⟨a,xs,hv,h.elim (fun h => .inl (e.tup _ _ h)) .inr,IsL.ext e hAB r⟩
 | .lst ds,_,⟨a,xs,hv,hA,h,r⟩=>⟨a,xs,hv,hAB a hA (by rw [h];rfl),e.at_ _ _ hA h,IsL.ext e hAB r⟩
 | .dic kvs,_,⟨a,hv,hA,h⟩=>⟨a,hv,hAB a hA (by rw [h];rfl),e.at_ _ _ hA h⟩
 | .fz ns,_,⟨a,hv,h⟩=>⟨a,hv,h.elim (fun ⟨o,h⟩ => .inl ⟨o,e.frz _ _ _ h⟩) .inr⟩
 | .exc n,_,⟨a,hv,C,hc,hk,o,vs,h,r⟩=>⟨a,hv,C,hc,hk,o,vs,e.frz _ _ _ h,r⟩
theorem IsL.ext {K:Fr0} {A B:Addr->Prop} {H H':Hp} (e:Ext A H H') (hAB:∀ a,A a->(H a).isSome=true->B a):∀ {ds:List D} {xs:List V},IsL K A H ds xs->IsL K B H' ds xs
 | [],_,h=>h
 | _::_,_,⟨x,ys,hx,h,r⟩=>⟨x,ys,hx,Is.ext e hAB h,IsL.ext e hAB r⟩
end
mutual
theorem Is.imm {K:Fr0} {A B:Addr->Prop} {H:Hp}:∀ {d:D} {v:V},imm d=true->Is K A H d v->Is K B H d v
 | .non,_,_,h=>h
 | .bl _,_,_,h=>h
 | .int _,_,_,h=>h
 | .str _,_,_,h=>h
 | .tup ds,_,i,⟨a,xs,hv,h,r⟩=>⟨a,xs,hv,h,IsL.imm (by simpa [Sk.imm] using i) r⟩
 | .lst _,_,i,_=>by simp [Sk.imm] at i
 | .dic _,_,i,_=>by simp [Sk.imm] at i
 | .fz _,_,i,_=>by simp [Sk.imm] at i
 | .exc _,_,_,h=>h
theorem IsL.imm {K:Fr0} {A B:Addr->Prop} {H:Hp}:∀ {ds:List D} {xs:List V},immL ds=true->IsL K A H ds xs->IsL K B H ds xs
 | [],_,_,h=>h
 | d::ds,_,i,⟨x,ys,hx,h,r⟩=>by
  have i':Sk.imm d=true/\immL ds=true:=by simpa [immL] using i
  exact ⟨x,ys,hx,Is.imm i'.1 h,IsL.imm i'.2 r⟩
end
theorem IsL.length {K:Fr0} {A:Addr->Prop} {H:Hp}:∀ {ds:List D} {xs:List V},IsL K A H ds xs->xs.length=ds.length
 | [],_,h=>by rw [h];rfl
 | _::_,_,⟨x,ys,hx,_,r⟩=>by rw [hx,lC_,lC_,IsL.length r]
theorem IsL.get {K:Fr0} {A:Addr->Prop} {H:Hp}:∀ {ds:List D} {xs:List V} {i:Nat} {d:D},IsL K A H ds xs->ds[i]? = some d->∃ x,xs[i]? = some x/\Is K A H d x
 | [],_,_,_,_,h=>by simp at h
 | e::_,_,0,d,⟨x,ys,hx,h,r⟩,hd=>by
  have e1:e=d:=by simpa using hd
  subst e1
  exact ⟨x,by rw [hx];rfl,h⟩
 | _::ds,_,i+1,d,⟨x,ys,hx,h,r⟩,hd=>by
  obtain ⟨y,h1,h2⟩:=IsL.get (i:=i) (d:=d) r (by simpa using hd)
  exact ⟨y,by rw [hx];simpa using h1,h2⟩
theorem IsL.append {K:Fr0} {A:Addr->Prop} {H:Hp}:∀ {ds es:List D} {xs ys:List V},IsL K A H ds xs->IsL K A H es ys->IsL K A H (ds++es) (xs++ys)
 | [],_,_,_,h,g=>by rw [h];exact g
 | _::_,_,_,_,⟨x,zs,hx,h,r⟩,g=>⟨x,zs++_,by rw [hx];rfl,h,IsL.append r g⟩
theorem IsL.take {K:Fr0} {A:Addr->Prop} {H:Hp}:∀ {ds:List D} {xs:List V} (n:Nat),IsL K A H ds xs->IsL K A H (ds.take n) (xs.take n)
 | _,_,0,_=>by simp [IsL]
 | [],_,_+1,h=>by rw [h];simp [IsL]
 | _::_,_,n+1,⟨x,ys,hx,h,r⟩=>by rw [hx];exact ⟨x,ys.take n,rfl,h,IsL.take n r⟩
theorem IsL.drop {K:Fr0} {A:Addr->Prop} {H:Hp}:∀ {ds:List D} {xs:List V} (n:Nat),IsL K A H ds xs->IsL K A H (ds.drop n) (xs.drop n)
 | _,_,0,h=>h
 | [],_,_+1,h=>by rw [h];simp [IsL]
 | _::_,_,n+1,⟨x,ys,hx,h,r⟩=>by rw [hx];exact IsL.drop n r
theorem IsL.one {K:Fr0} {A:Addr->Prop} {H:Hp} {d:D} {v:V} (h:Is K A H d v):IsL K A H [d] [v]:=⟨v,[],rfl,h,rfl⟩
theorem IsL.set {K:Fr0} {A:Addr->Prop} {H:Hp} {d:D} {v:V} (hd:Is K A H d v):∀ {ds:List D} {xs:List V} (n:Nat),IsL K A H ds xs->IsL K A H (ds.set n d) (xs.set n v)
 | [],_,_,h=>by rw [h];simp [IsL]
 | _::_,_,0,⟨x,ys,hx,h,r⟩=>by rw [hx];exact ⟨v,ys,rfl,hd,r⟩
 | _::_,_,n+1,⟨x,ys,hx,h,r⟩=>by rw [hx];exact ⟨x,ys.set n v,rfl,h,IsL.set hd n r⟩
abbrev Env:=List (Option D)
structure Exn where
 cls:Str
 val:D
inductive R (α:Type) where
 | ok (a:α) | exc (x:Exn) (U:Env) | bad
structure Fc where
 O:List Nat
 P:List Nat
 B:Addr->Prop
 H0:Hp
 Io:Addr->Prop
 E:Exn->Hp->Prop
 S:Nat->Option (Option V)
def Cl (O:List Nat) (Z:St) (a:Addr):Prop:=∀ j∈O,Z[j]? ≠ some (some (.ref a))
def Cn (c:Fc) (Z:St) (a:Addr):Prop:=c.B a/\Cl c.O Z a
structure Rep (K:Fr0) (c:Fc) (U:Env) (Z:St) (H:Hp):Prop where
 len:U.length=Z.length
 val:∀ i d,U[i]? = some (some d)->∃ v,Z[i]? = some (some v) /\
  ((i∈c.O/\∃ ds a xs,d = .lst ds/\v = .ref a/\H a=some (.lst xs)/\IsL K (Cn c Z) H ds xs)\/(i ∉ c.O/\Is K (Cn c Z) H d v))
 own:∀ j∈c.O,∀ v,Z[j]? = some (some v)->∃ a xs,v = .ref a/\H a=some (.lst xs)/\(c.H0 a=none\/(j∈c.P/\c.Io a))
 inj:∀ i j a,i∈c.O->j∈c.O->Z[i]? = some (some (.ref a))->Z[j]? = some (some (.ref a))->i=j
 b0:(∀ a,c.H0 a=none->c.B a)/\qnD K c.H0 c.Io
 kp:∀ b o,c.H0 b=some o->¬ c.Io b->H b=some o
 dm:∀ b,H b=none->c.H0 b=none
 pO:∀ j∈c.P,j∈c.O
 ps:∀ j∈c.P,Z[j]? = c.S j
theorem Rep.tb {K:Fr0} {c:Fc} {U:Env} {Z:St} {H:Hp} (r:Rep K c U Z H):qbJ K H:=fun q P pos e=>⟨r.kp P _ (r.b0.2 q P pos e).1 (r.b0.2 q P pos e).2,fun z=>z⟩
structure Gr (O:List Nat) (Z:St) (H H':Hp):Prop where
 ext:Ext (Cl O Z) H H'
 dom:∀ b,H' b=none->H b=none
theorem Gr.refl {O:List Nat} {Z:St} {H:Hp}:Gr O Z H H:=⟨Ext.refl,fun _ h=>h⟩
theorem Gr.of_same {O:List Nat} {Z:St} {H H':Hp} (s:zD H H'):Gr O Z H H':=⟨Ext.of_same s,fun _ h=>s.free h⟩
theorem Gr.trans {O:List Nat} {Z:St} {H H1 H2:Hp} (a:Gr O Z H H1) (b:Gr O Z H1 H2):Gr O Z H H2 :=
 ⟨⟨fun c xs h=>b.ext.tup c xs (a.ext.tup c xs h),fun c o u h=>b.ext.frz c o u (a.ext.frz c o u h),fun c o hc h=>b.ext.at_ c o hc (a.ext.at_ c o hc h)⟩,fun c h=>a.dom c (b.dom c h)⟩
theorem Gr.cn {c:Fc} {Z:St} {H H':Hp} (g:Gr c.O Z H H'):Ext (Cn c Z) H H':=⟨g.ext.tup,g.ext.frz,fun b o hb h=>g.ext.at_ b o hb.2 h⟩
theorem Gr.is {K:Fr0} {c:Fc} {Z:St} {H H':Hp} {d:D} {v:V} (g:Gr c.O Z H H') (h:Is K (Cn c Z) H d v):Is K (Cn c Z) H' d v:=Is.ext g.cn (fun _ h _=>h) h
theorem Gr.isL {K:Fr0} {c:Fc} {Z:St} {H H':Hp} {d:List D} {v:List V} (g:Gr c.O Z H H') (h:IsL K (Cn c Z) H d v):IsL K (Cn c Z) H' d v:=IsL.ext g.cn (fun _ h _=>h) h
theorem Rep.new {K:Fr0} {c:Fc} {U:Env} {Z:St} {H:Hp} (r:Rep K c U Z H) {a:Addr} (h:H a=none):Cn c Z a :=
 ⟨r.b0.1 a (r.dm a h),fun j hj e=>by obtain ⟨b,xs,e1,e2,_⟩:=r.own j hj _ e;cases e1;rw [h] at e2;cases e2⟩
theorem Rep.same {K:Fr0} {c:Fc} {U:Env} {Z:St} {H H':Hp} (r:Rep K c U Z H) (s:zD H H'):Rep K c U Z H' where
 len:=r.len
 val:=fun i d h=>by
  obtain ⟨v,h1,h2⟩:=r.val i d h
  refine ⟨v,h1,?_⟩
  rcases h2 with ⟨hi,ds,a,xs,h3,h5,h6,h7⟩ | ⟨hi,h3⟩
  ·exact .inl ⟨hi,ds,a,xs,h3,h5,s _ _ h6,IsL.ext (Ext.of_same s) (fun _ h _=>h) h7⟩
  ·exact .inr ⟨hi,Is.ext (Ext.of_same s) (fun _ h _=>h) h3⟩
 own:=fun j hj v h=>by
  obtain ⟨a,xs,h1,h2,h3⟩:=r.own j hj v h
  exact ⟨a,xs,h1,s _ _ h2,h3⟩
 inj:=r.inj
 b0:=r.b0
 kp:=fun b o h1 h2=>s _ _ (r.kp b o h1 h2)
 dm:=fun b h=>r.dm b (s.free h)
 pO:=r.pO
 ps:=r.ps
theorem Rep.get {K:Fr0} {c:Fc} {U:Env} {Z:St} {H:Hp} (r:Rep K c U Z H) {i:Nat} {d:D} (hi:i ∉ c.O) (h:U[i]? = some (some d)):∃ v,Z[i]? = some (some v)/\Is K (Cn c Z) H d v:=by
 obtain ⟨v,h1,h2⟩:=r.val i d h
 rcases h2 with ⟨h3,_⟩ | ⟨_,h3⟩
 ·exact absurd h3 hi
 ·exact ⟨v,h1,h3⟩
theorem Rep.getO {K:Fr0} {c:Fc} {U:Env} {Z:St} {H:Hp} (r:Rep K c U Z H) {i:Nat} {d:D} (hi:i∈c.O) (h:U[i]? = some (some d)) :
  ∃ ds a xs,d = .lst ds/\Z[i]? = some (some (.ref a))/\H a=some (.lst xs)/\IsL K (Cn c Z) H ds xs:=by
 obtain ⟨v,h1,h2⟩:=r.val i d h
 rcases h2 with ⟨_,ds,a,xs,h3,h5,h6,h7⟩ | ⟨h3,_⟩
 ·subst h5;exact ⟨ds,a,xs,h3,h1,h6,h7⟩
 ·exact absurd hi h3
abbrev M (α:Type):=Env->R (α×Env)
def Wp (K:Fr0) (c:Fc) (Z:St) (H:Hp) (Q:VK):R (D×Env)->Prop
 | .ok (d,U)=>∀ v H',Rep K c U Z H'->Is K (Cn c Z) H' d v->Gr c.O Z H H'->Q v H'
 | .exc x U=>∀ H',Rep K c U Z H'->Gr c.O Z H H'->c.E x H'
 | .bad=>False
def WpB (K:Fr0) (c:Fc) (Z:St) (H:Hp) (Q:Bool->Hp->Prop):R (Bool×Env)->Prop
 | .ok (b,U)=>∀ H',Rep K c U Z H'->Gr c.O Z H H'->Q b H'
 | .exc x U=>∀ H',Rep K c U Z H'->Gr c.O Z H H'->c.E x H'
 | .bad=>False
def WpL (K:Fr0) (c:Fc) (Z:St) (H:Hp) (Q:List V->Hp->Prop):R (List D×Env)->Prop
 | .ok (ds,U)=>∀ vs H',Rep K c U Z H'->IsL K (Cn c Z) H' ds vs->Gr c.O Z H H'->Q vs H'
 | .exc x U=>∀ H',Rep K c U Z H'->Gr c.O Z H H'->c.E x H'
 | .bad=>False
def DE (X:Cx) (c:Fc) (e:Expr) (f:M D):Prop:=∃ t,PE X e t/\∀ U Z H Q,Rep X.K c U Z H->Wp X.K c Z H Q (f U)->t Z H Q
def DT (X:Cx) (c:Fc) (e:Expr) (f:M Bool):Prop:=∃ t,PT X e t/\∀ U Z H Q,Rep X.K c U Z H->WpB X.K c Z H Q (f U)->t Z H Q
def DA (X:Cx) (c:Fc) (es:List Expr) (f:M (List D)):Prop:=∃ t,PA X es t/\∀ U Z H Q,Rep X.K c U Z H->WpL X.K c Z H Q (f U)->t Z H Q
def ret {α:Type} (a:α):M α:=fun U => .ok (a,U)
def bnd {α β:Type} (f:M α) (k:α->M β):M β:=fun U=>match f U with
 | .ok (a,U')=>k a U'
 | .exc x U' => .exc x U'
 | .bad => .bad
def lift {α:Type}:Option α->M α
 | some a=>ret a
 | none=>fun _ => .bad
theorem qhY {α β:Type} {f:M α} {k:α->M β} {U U':Env} {a:α} (h:f U = .ok (a,U')):bnd f k U=k a U':=by unfold bnd;rw [h]
section
variable {K:Fr0} {c:Fc} {Z:St} {H H1:Hp} {Q:VK} {QB:Bool->Hp->Prop} {QL:List V->Hp->Prop} {r:R (D×Env)}
theorem Wp.gr:∀ {r:R (D×Env)},Wp K c Z H Q r->Gr c.O Z H H1->Wp K c Z H1 Q r
 | .ok (d,U),h,g=>fun v H' hr hi hg=>h v H' hr hi (g.trans hg)
 | .exc x U,h,g=>fun H' hr hg=>h H' hr (g.trans hg)
 | .bad,h,_=>h
theorem WpB.gr:∀ {r:R (Bool×Env)},WpB K c Z H QB r->Gr c.O Z H H1->WpB K c Z H1 QB r
 | .ok (d,U),h,g=>fun H' hr hg=>h H' hr (g.trans hg)
 | .exc x U,h,g=>fun H' hr hg=>h H' hr (g.trans hg)
 | .bad,h,_=>h
theorem WpL.gr:∀ {r:R (List D×Env)},WpL K c Z H QL r->Gr c.O Z H H1->WpL K c Z H1 QL r
 | .ok (d,U),h,g=>fun v H' hr hi hg=>h v H' hr hi (g.trans hg)
 | .exc x U,h,g=>fun H' hr hg=>h H' hr (g.trans hg)
 | .bad,h,_=>h
theorem Wp.bnd {f:M D} {k:D->M D} {U:Env} {Q':VK} (h:Wp K c Z H Q (bnd f k U)) (hQ:∀ d U' v H',Rep K c U' Z H'->Is K (Cn c Z) H' d v->Gr c.O Z H H'->Wp K c Z H' Q (k d U')->Q' v H'):Wp K c Z H Q' (f U):=by
 unfold Sk.bnd at h
 cases e:f U with
 | ok p=>rw [e] at h;exact fun v H' hr hi hg=>hQ p.1 p.2 v H' hr hi hg (h.gr hg)
 | exc x U'=>rw [e] at h;exact h
 | bad=>rw [e] at h;exact h
theorem Wp.bndB {f:M D} {k:D->M Bool} {U:Env} {Q':VK} (h:WpB K c Z H QB (Sk.bnd f k U)) (hQ:∀ d U' v H',Rep K c U' Z H'->Is K (Cn c Z) H' d v->Gr c.O Z H H'->WpB K c Z H' QB (k d U')->Q' v H'):Wp K c Z H Q' (f U):=by
 unfold Sk.bnd at h
 cases e:f U with
 | ok p=>rw [e] at h;exact fun v H' hr hi hg=>hQ p.1 p.2 v H' hr hi hg (h.gr hg)
 | exc x U'=>rw [e] at h;exact h
 | bad=>rw [e] at h;exact h
theorem Wp.bndL {f:M D} {k:D->M (List D)} {U:Env} {Q':VK} (h:WpL K c Z H QL (Sk.bnd f k U)) (hQ:∀ d U' v H',Rep K c U' Z H'->Is K (Cn c Z) H' d v->Gr c.O Z H H'->WpL K c Z H' QL (k d U')->Q' v H'):Wp K c Z H Q' (f U):=by
 unfold Sk.bnd at h
 cases e:f U with
 | ok p=>rw [e] at h;exact fun v H' hr hi hg=>hQ p.1 p.2 v H' hr hi hg (h.gr hg)
 | exc x U'=>rw [e] at h;exact h
 | bad=>rw [e] at h;exact h
theorem WpB.bndB {f:M Bool} {k:Bool->M Bool} {U:Env} {Q':Bool->Hp->Prop} (h:WpB K c Z H QB (Sk.bnd f k U)) (hQ:∀ d U' H',Rep K c U' Z H'->Gr c.O Z H H'->WpB K c Z H' QB (k d U')->Q' d H'):WpB K c Z H Q' (f U):=by
 unfold Sk.bnd at h
 cases e:f U with
 | ok p=>rw [e] at h;exact fun H' hr hg=>hQ p.1 p.2 H' hr hg (h.gr hg)
 | exc x U'=>rw [e] at h;exact h
 | bad=>rw [e] at h;exact h
theorem WpL.bnd {f:M (List D)} {k:List D->M D} {U:Env} {Q':List V->Hp->Prop} (h:Wp K c Z H Q (Sk.bnd f k U)) (hQ:∀ d U' v H',Rep K c U' Z H'->IsL K (Cn c Z) H' d v->Gr c.O Z H H'->Wp K c Z H' Q (k d U')->Q' v H'):WpL K c Z H Q' (f U):=by
 unfold Sk.bnd at h
 cases e:f U with
 | ok p=>rw [e] at h;exact fun v H' hr hi hg=>hQ p.1 p.2 v H' hr hi hg (h.gr hg)
 | exc x U'=>rw [e] at h;exact h
 | bad=>rw [e] at h;exact h
theorem WpL.bndL {f:M (List D)} {k:List D->M (List D)} {U:Env} {Q':List V->Hp->Prop} (h:WpL K c Z H QL (Sk.bnd f k U)) (hQ:∀ d U' v H',Rep K c U' Z H'->IsL K (Cn c Z) H' d v->Gr c.O Z H H'->WpL K c Z H' QL (k d U')->Q' v H'):WpL K c Z H Q' (f U):=by
 unfold Sk.bnd at h
 cases e:f U with
 | ok p=>rw [e] at h;exact fun v H' hr hi hg=>hQ p.1 p.2 v H' hr hi hg (h.gr hg)
 | exc x U'=>rw [e] at h;exact h
 | bad=>rw [e] at h;exact h
theorem Wp.lift {o:Option D} {U:Env} (h:Wp K c Z H Q (Sk.lift o U)):∃ d,o=some d/\∀ v H',Rep K c U Z H'->Is K (Cn c Z) H' d v->Gr c.O Z H H'->Q v H':=by
 cases o with
 | none=>exact h.elim
 | some d=>exact ⟨d,rfl,h⟩
end
section
variable {X:Cx} {c:Fc} {a b e:Expr} {pos:Pos}
theorem qg {i j pos}:DE X c (.Constant (.int i) j pos) (ret (.int i)):=⟨_,qeD,fun _ _ H Q r h=>h _ H r rfl .refl⟩
theorem qbK {i j pos}:DE X c (.Constant (.bool i) j pos) (ret (.bl i)):=⟨_,qkp,fun _ _ H Q r h=>h _ H r rfl .refl⟩
theorem qe0 {j pos}:DE X c (.Constant .none j pos) (ret .non):=⟨_,qkq,fun _ _ H Q r h=>h _ H r rfl .refl⟩
theorem yZ {x j pos}:DE X c (.Constant (.str x) j pos) (ret (.str x)):=⟨_,qkr,fun _ _ H Q r h=>h _ H r rfl .refl⟩
def dv (i:Nat):M D:=fun U=>match U[i]? with
 | some (some d) => .ok (d,U)
 | _ => .bad
theorem qc (i:Nat) {x:Str} (ho:i ∉ c.O:=by exact of_decide_eq_false rfl) (hN:X.N[i]? = some x:=by rfl) (hv:Vis X.env.scope x:=by first | exact Or.inl rfl | exact Or.inr (Or.inl rfl) | exact Or.inr (Or.inr rfl)) (hd:(x==("__debug__":Str))=false:=by decide)
  (hcd:(x==("__classdict__":Str))=false:=by decide):DE X c (.Name x pos) (dv i):=by
 refine ⟨_,jO hN hv hd hcd,fun U Z H Q r h => ?_⟩
 unfold dv at h
 split at h
 ·rename_i d e
  obtain ⟨v,h1,h2⟩:=r.get ho e
  exact ⟨v,h1,h v H r h2 .refl⟩
 ·exact h.elim
theorem qe1 {x:Str} {v:V} {u:Value} {d:D} (hg:Gl X x) (hm:X.mg x=some u) (rv:z9 v u) (hd:∀ H A,Is X.K A H d v) (hdb:(x==("__debug__":Str))=false:=by decide):DE X c (.Name x pos) (ret d) :=
 ⟨_,qaQ hg hm rv hdb,fun _ _ H Q r h=>h _ H r (hd _ _) .refl⟩
theorem qe:DA X c [] (ret []):=⟨_,ya,fun _ _ H Q r h=>h _ H r rfl .refl⟩
def qa (f:M D) (g:M (List D)):M (List D):=bnd f fun d=>bnd g fun ds=>ret (d::ds)
theorem qb {es:List Expr} {f:M D} {g:M (List D)} (ha:DE X c e f) (hr:DA X c es g) (hs:starEach (e::es) X.env=(false,eval e X.env)::starEach es X.env:=by rfl):DA X c (e::es) (qa f g):=by
 obtain ⟨ta,pa,wa⟩:=ha
 obtain ⟨tr,pr,wr⟩:=hr
 refine ⟨_,zQ pa pr hs,fun U Z H Q r h=>wa U Z H _ r (Wp.bndL h fun d U1 v H1 r1 i1 g1 h1=>wr U1 Z H1 _ r1 (WpL.bndL h1 fun ds U2 vs H2 r2 i2 g2 h2 => ?_))⟩
 exact h2 _ H2 r2 ⟨v,vs,rfl,g2.is i1,i2⟩ .refl
def qM (n:Nat):Bool:=decide (n<=sizeLine)
def zL (f:M (List D)):M D:=bnd f fun ds=>lift (if qM ds.length then some (.tup ds) else none)
def y7 (f:M (List D)):M D:=bnd f fun ds=>lift (if qM ds.length then some (.lst ds) else none)
theorem qv {H:Hp} {p:Addr} (h:H p=none) (o:HO):zD H (upd H p o):=fun b u q=>by rw [qj (qE q h)];exact q
theorem Rep.laid {K:Fr0} {U:Env} {Z:St} {H:Hp} (r:Rep K c U Z H) {p:Addr} (h:H p=none) (o:HO):Rep K c U Z (upd H p o):=r.same (qv h o)
theorem zx {p:Bool} {d e:D} (h:(if p then some d else none)=some e):p=true/\d=e:=by
 cases p with
 | true=>exact ⟨rfl,by simpa using h⟩
 | false=>simp at h
theorem jb {es:List Expr} {x1} {f:M (List D)} (h:DA X c es f):DE X c (.Tuple es x1 pos) (zL f):=by
 obtain ⟨t,p,w⟩:=h
 refine ⟨_,qeP p,fun U Z H Q r h=>w U Z H _ r (WpL.bnd h fun ds U1 vs H1 r1 i1 g1 h1 => ?_)⟩
 obtain ⟨d,e,h2⟩:=h1.lift
 obtain ⟨e1,e2⟩:=zx e
 subst e2
 refine ⟨by rw [i1.length];exact of_decide_eq_true e1,fun p hp=>h2 _ _ (r1.laid hp _) ⟨p,vs,rfl,.inl qk,IsL.ext (Ext.of_same (qv hp _)) (fun _ h _=>h) i1⟩ (.of_same (qv hp _))⟩
theorem yb {es:List Expr} {f:M (List D)} (h:DA X c es f):DE X c (.List es pos) (y7 f):=by
 obtain ⟨t,p,w⟩:=h
 refine ⟨_,qhW p,fun U Z H Q r h=>w U Z H _ r (WpL.bnd h fun ds U1 vs H1 r1 i1 g1 h1 => ?_)⟩
 obtain ⟨d,e,h2⟩:=h1.lift
 obtain ⟨e1,e2⟩:=zx e
 subst e2
 refine ⟨by rw [i1.length];exact of_decide_eq_true e1,fun p hp=>h2 _ _ (r1.laid hp _) ⟨p,vs,rfl,r1.new hp,qk,IsL.ext (Ext.of_same (qv hp _)) (fun _ h _=>h) i1⟩ (.of_same (qv hp _))⟩
def OpS (K:Fr0) (F:D->D->Option D) (r:R2):Prop:=∀ (A:Addr->Prop) (H:Hp) (x y d:D) (v u:V) (Q:VK),(∀ a,H a=none->A a)->Is K A H x v->Is K A H y u->F x y=some d ->
 (∀ w H',zD H H'->Is K A H' d w->Q w H')->r v u H Q
def d2 (F:D->D->Option D) (f g:M D):M D:=bnd f fun x=>bnd g fun y=>lift (F x y)
theorem op2 {r:R2} {F:D->D->Option D} {f g:M D} {ta tb:TE} (hF:OpS X.K F r) (wa:∀ U Z H Q,Rep X.K c U Z H->Wp X.K c Z H Q (f U)->ta Z H Q) (wb:∀ U Z H Q,Rep X.K c U Z H->Wp X.K c Z H Q (g U)->tb Z H Q) :
  ∀ U Z H Q,Rep X.K c U Z H->Wp X.K c Z H Q (d2 F f g U)->tOp r ta tb Z H Q:=fun U Z H Q rp h=>wa U Z H _ rp (Wp.bnd h fun x U1 v H1 r1 i1 g1 h1=>wb U1 Z H1 _ r1 (Wp.bnd h1 fun y U2 u H2 r2 i2 g2 h2=>by
 obtain ⟨d,e,h3⟩:=h2.lift
 exact hF _ H2 x y d v u Q (fun a ha=>r2.new ha) (g2.is i1) i2 e fun w H' s i=>h3 w H' (r2.same s) i (.of_same s)))
theorem qz {op:Operator} {r:R2} {F:D->D->Option D} {f g:M D} (ho:OpR X (binaryOp op) r) (hF:OpS X.K F r) (ha:DE X c a f) (hb:DE X c b g):DE X c (.BinOp a op b pos) (d2 F f g):=by
 obtain ⟨ta,pa,wa⟩:=ha
 obtain ⟨tb,pb,wb⟩:=hb
 exact ⟨_,qmL ho pa pb,op2 hF wa wb⟩
theorem qaq {op:CmpOp} {r:R2} {F:D->D->Option D} {f g:M D} (ho:OpR X (compareOp op) r) (hF:OpS X.K F r) (ha:DE X c a f) (hb:DE X c b g) (hm:behindInMarks op b=false):DE X c (.Compare a [op] [b] pos) (d2 F f g):=by
 obtain ⟨ta,pa,wa⟩:=ha
 obtain ⟨tb,pb,wb⟩:=hb
 exact ⟨_,qiV ho pa pb hm,op2 hF wa wb⟩
def asB:D->Option Bool
 | .bl b=>some b
 | _=>none
def tst (f:M D):M Bool:=bnd f fun d=>lift (asB d)
theorem qc8 {K:Fr0} {Z:St} {H:Hp} {QB:Bool->Hp->Prop} {o:Option Bool} {U:Env} (h:WpB K c Z H QB (lift o U)):∃ b,o=some b/\∀ H',Rep K c U Z H'->Gr c.O Z H H'->QB b H':=by
 cases o with
 | none=>exact h.elim
 | some d=>exact ⟨d,rfl,h⟩
theorem qaW {d:D} {b:Bool} (h:asB d=some b):d = .bl b:=by
 cases d<;>simp [asB] at h
 subst h;rfl
theorem ji {op:CmpOp} {r:R2} {F:D->D->Option D} {f g:M D} (ho:OpR X (compareOp op) r) (hF:OpS X.K F r) (ha:DE X c a f) (hb:DE X c b g) (hm:behindInMarks op b=false):DT X c (.Compare a [op] [b] pos) (tst (d2 F f g)):=by
 obtain ⟨ta,pa,wa⟩:=ha
 obtain ⟨tb,pb,wb⟩:=hb
 refine ⟨_,qeM ho pa pb hm,fun U Z H Q rp h=>op2 hF wa wb U Z H _ rp (Wp.bndB h fun d U1 v H1 r1 i1 g1 h1 => ?_)⟩
 obtain ⟨b,e,h2⟩:=qc8 h1
 have:=qaW e
 subst this
 exact ⟨b,i1,h2 H1 r1 .refl⟩
theorem vQ {f:M D} (h:DE X c e f) (he:∀ whole,isTrue e X.env whole=(do let v <- whole;standAt e.pos;holding [v] (truthy v)):=by intro _;rfl):DT X c e (tst f):=by
 obtain ⟨t,p,w⟩:=h
 refine ⟨_,qks p he,fun U Z H Q rp h=>w U Z H _ rp (Wp.bndB h fun d U1 v H1 r1 i1 g1 h1 => ?_)⟩
 obtain ⟨b,e,h2⟩:=qc8 h1
 have:=qaW e
 subst this
 exact ⟨b,i1,h2 H1 r1 .refl⟩
def qd3 (f:M Bool):M Bool:=bnd f fun b=>ret (!b)
theorem vR {f:M Bool} (h:DT X c a f):DT X c (.UnaryOp .Not a pos) (qd3 f):=by
 obtain ⟨t,p,w⟩:=h
 exact ⟨_,qkv p,fun U Z H Q rp h=>w U Z H _ rp (WpB.bndB h fun d U1 H1 r1 g1 h1=>h1 H1 r1 .refl)⟩
def DW (X:Cx) (c:Fc) (e:Expr) (f:M Bool):Prop:=∃ t,PW X e t/\∀ U Z H Q,Rep X.K c U Z H->WpB X.K c Z H Q (f U)->t Z H Q
theorem DW.dt {f:M Bool} (h:DW X c e f):DT X c e f:=by
 obtain ⟨t,p,w⟩:=h
 exact ⟨t,p.pt,w⟩
def qar (f g:M Bool):M Bool:=bnd f fun b=>if b then g else ret false
def tor (f g:M Bool):M Bool:=bnd f fun b=>if b then ret true else g
variable {vZ:List Expr}
theorem qe2 {f:M Bool} (h:DT X c a f):DW X c (.BoolOp .And [a] pos) f:=by
 obtain ⟨t,p,w⟩:=h
 exact ⟨t,qiP p,w⟩
theorem qas {f:M Bool} (h:DT X c a f):DW X c (.BoolOp .Or [a] pos) f:=by
 obtain ⟨t,p,w⟩:=h
 exact ⟨t,qkt p,w⟩
theorem qe3 {f g:M Bool} (ha:DT X c a f) (hb:DW X c (.BoolOp .And (b::vZ) pos) g):DW X c (.BoolOp .And (a::b::vZ) pos) (qar f g):=by
 obtain ⟨ta,pa,wa⟩:=ha
 obtain ⟨tb,pb,wb⟩:=hb
 refine ⟨_,qku pa pb,fun U Z H Q rp h=>wa U Z H _ rp (WpB.bndB h fun d U1 H1 r1 g1 h1 => ?_)⟩
 cases d with
 | true=>exact qk1 (wb U1 Z H1 Q r1 (by simpa using h1))
 | false=>exact qk0 ((by simpa using h1:WpB X.K c Z H1 Q (ret false U1)) H1 r1 .refl)
theorem qd4 {f g:M Bool} (ha:DT X c a f) (hb:DW X c (.BoolOp .Or (b::vZ) pos) g):DW X c (.BoolOp .Or (a::b::vZ) pos) (tor f g):=by
 obtain ⟨ta,pa,wa⟩:=ha
 obtain ⟨tb,pb,wb⟩:=hb
 refine ⟨_,qmB pa pb,fun U Z H Q rp h=>wa U Z H _ rp (WpB.bndB h fun d U1 H1 r1 g1 h1 => ?_)⟩
 cases d with
 | true=>exact qk1 ((by simpa using h1:WpB X.K c Z H1 Q (ret true U1)) H1 r1 .refl)
 | false=>exact qk0 (wb U1 Z H1 Q r1 (by simpa using h1))
def qmr (f:M D):M D:=bnd f fun d=>bnd (lift (asB d)) fun b=>ret (.bl (!b))
def qke (f g:M D):M D:=bnd f fun d=>bnd (lift (asB d)) fun b=>if b then g else ret (.bl false)
def dor (f g:M D):M D:=bnd f fun d=>bnd (lift (asB d)) fun b=>if b then ret (.bl true) else g
theorem qe4 {K:Fr0} {Z:St} {H:Hp} {Q:VK} {d:D} {k:Bool->M D} {U:Env} (h:Wp K c Z H Q (bnd (lift (asB d)) k U)):∃ b,d = .bl b/\Wp K c Z H Q (k b U):=by
 unfold bnd at h
 cases e:asB d with
 | none=>rw [e] at h;exact h.elim
 | some b=>rw [e] at h;exact ⟨b,qaW e,h⟩
theorem qbL {op} {f:M D} (h:DE X c a f):DE X c (.BoolOp op [a] pos) f:=by
 obtain ⟨t,p,w⟩:=h
 exact ⟨t,qkw p,w⟩
theorem qk4 {f:M D} (h:DE X c a f):DE X c (.UnaryOp .Not a pos) (qmr f):=by
 obtain ⟨t,p,w⟩:=h
 refine ⟨_,qky p,fun U Z H Q rp h=>w U Z H _ rp (Wp.bnd h fun d U1 v H1 r1 i1 g1 h1 => ?_)⟩
 obtain ⟨b,e,h2⟩:=qe4 h1
 subst e
 exact ⟨b,i1,h2 _ H1 r1 rfl .refl⟩
theorem qe5 {f g:M D} (ha:DE X c a f) (hb:DE X c (.BoolOp .And (b::vZ) pos) g):DE X c (.BoolOp .And (a::b::vZ) pos) (qke f g):=by
 obtain ⟨ta,pa,wa⟩:=ha
 obtain ⟨tb,pb,wb⟩:=hb
 refine ⟨_,qkx pa pb,fun U Z H Q rp h=>wa U Z H _ rp (Wp.bnd h fun d U1 v H1 r1 i1 g1 h1 => ?_)⟩
 obtain ⟨k,e,h2⟩:=qe4 h1
 subst e
 refine ⟨k,i1,?_⟩
 cases k with
 | true=>exact qk1 (wb U1 Z H1 Q r1 (by simpa using h2))
 | false=>exact qk0 ((by simpa using h2:Wp X.K c Z H1 Q (ret (.bl false) U1)) _ H1 r1 rfl .refl)
theorem qgK {f g:M D} (ha:DE X c a f) (hb:DE X c (.BoolOp .Or (b::vZ) pos) g):DE X c (.BoolOp .Or (a::b::vZ) pos) (dor f g):=by
 obtain ⟨ta,pa,wa⟩:=ha
 obtain ⟨tb,pb,wb⟩:=hb
 refine ⟨_,qmE pa pb,fun U Z H Q rp h=>wa U Z H _ rp (Wp.bnd h fun d U1 v H1 r1 i1 g1 h1 => ?_)⟩
 obtain ⟨k,e,h2⟩:=qe4 h1
 subst e
 refine ⟨k,i1,?_⟩
 cases k with
 | true=>exact qk1 ((by simpa using h2:Wp X.K c Z H1 Q (ret (.bl true) U1)) _ H1 r1 rfl .refl)
 | false=>exact qk0 (wb U1 Z H1 Q r1 (by simpa using h2))
def dif (f:M Bool) (g k:M D):M D:=bnd f fun b=>if b then g else k
def vX (K:Fr0) (F:List D->Option D) (r:List V->Hp->VK->Prop):Prop:=∀ (A:Addr->Prop) (H:Hp) (xs:List D) (d:D) (vs:List V) (Q:VK),(∀ a,H a=none->A a)->IsL K A H xs vs->F xs=some d ->
 (∀ w H',zD H H'->Is K A H' d w->Q w H')->r vs H Q
def qJ (F:List D->Option D) (f:M (List D)):M D:=bnd f fun ds=>lift (F ds)
theorem qk5 {r:List V->Hp->VK->Prop} {F:List D->Option D} {f:M (List D)} {t:TA} (hF:vX X.K F r) (w:∀ U Z H Q,Rep X.K c U Z H->WpL X.K c Z H Q (f U)->t Z H Q) :
  ∀ U Z H Q,Rep X.K c U Z H->Wp X.K c Z H Q (qJ F f U)->tCB r t Z H Q:=fun U Z H Q rp h=>w U Z H _ rp (WpL.bnd h fun ds U1 vs H1 r1 i1 g1 h1=>by
 obtain ⟨d,e,h3⟩:=h1.lift
 exact hF _ H1 ds d vs Q (fun a ha=>r1.new ha) i1 e fun w H' s i=>h3 w H' (r1.same s) i (.of_same s))
theorem qV {id:String} {x:Str} {p:Pos} {es:List Expr} {r:List V->Hp->VK->Prop} {F:List D->Option D} {f:M (List D)} (hc:j9 X (.builtin id) r) (hF:vX X.K F r) (hg:Gl X x) (hm:X.mg x=none) (hv:bootBuiltins x=some (.builtin id)) (ha:DA X c (e::es) f) (hn:x≠"__name__":=by decide) (hdb:(x==("__debug__":Str))=false:=by decide)
  (he:starEach (e::es) X.env=(false,eval e X.env)::starEach es X.env:=by rfl) (hpl:(backTo pos (starEach es X.env)).any (·.1)=false:=by rfl):DE X c (.Call (.Name x p) (e::es) [] pos) (qJ F f):=by
 obtain ⟨t,pa,w⟩:=ha
 exact ⟨_,uv hc hg hm hv pa hn hdb he hpl,qk5 hF w⟩
theorem qe6 {T:String} {x:Str} {p:Pos} {es:List Expr} {r:List V->Hp->VK->Prop} {F:List D->Option D} {f:M (List D)} (hc:j9 X (.type T) r) (hF:vX X.K F r) (hg:Gl X x) (hm:X.mg x=none) (hv:bootBuiltins x=some (.type T)) (ha:DA X c (e::es) f) (hn:x≠"__name__":=by decide) (hdb:(x==("__debug__":Str))=false:=by decide)
  (he:starEach (e::es) X.env=(false,eval e X.env)::starEach es X.env:=by rfl) (hpl:(backTo pos (starEach es X.env)).any (·.1)=false:=by rfl):DE X c (.Call (.Name x p) (e::es) [] pos) (qJ F f):=by
 obtain ⟨t,pa,w⟩:=ha
 exact ⟨_,qbE hc hg hm hv pa hn hdb he hpl,qk5 hF w⟩
theorem jq {r:R2} {F:D->D->Option D} {f g:M D} (hr:IxR X r) (hF:OpS X.K F r) (ha:DE X c a f) (hb:DE X c b g) (hs:qcr b:=by intro _ _;rfl):DE X c (.Subscript a b pos) (d2 F f g):=by
 obtain ⟨ta,pa,wa⟩:=ha
 obtain ⟨tb,pb,wb⟩:=hb
 exact ⟨_,qgG hr pa pb hs,op2 hF wa wb⟩
end
inductive Fl where
 | nx (U:Env) | rt (d:D) (U:Env) | bk (U:Env) | ct (U:Env)
structure GrS (O:List Nat) (Z:St) (H:Hp) (Z':St) (H':Hp):Prop where
 ext:Ext (Cl O Z) H H'
 cl:∀ b,Cl O Z b->(H b).isSome=true->Cl O Z' b
 dom:∀ b,H' b=none->H b=none
theorem qd5 {H H':Hp} {b:Addr} (dom:H' b=none->H b=none) (h:(H b).isSome=true):(H' b).isSome=true:=by
 cases e:H' b with
 | none=>rw [dom e] at h;cases h
 | some o=>rfl
theorem GrS.refl {O:List Nat} {Z:St} {H:Hp}:GrS O Z H Z H:=⟨Ext.refl,fun _ h _=>h,fun _ h=>h⟩
theorem Gr.s {O:List Nat} {Z:St} {H H':Hp} (g:Gr O Z H H'):GrS O Z H Z H':=⟨g.ext,fun _ h _=>h,g.dom⟩
theorem GrS.trans {O:List Nat} {Z Z1 Z2:St} {H H1 H2:Hp} (a:GrS O Z H Z1 H1) (b:GrS O Z1 H1 Z2 H2):GrS O Z H Z2 H2 :=
 ⟨⟨fun c xs h=>b.ext.tup c xs (a.ext.tup c xs h),fun c o u h=>b.ext.frz c o u (a.ext.frz c o u h),fun c o hc h=>b.ext.at_ c o (a.cl c hc (by rw [h];rfl)) (a.ext.at_ c o hc h)⟩,
  fun c hc h=>b.cl c (a.cl c hc h) (qd5 (a.dom c) h),fun c h=>a.dom c (b.dom c h)⟩
theorem GrS.is {K:Fr0} {c:Fc} {Z Z':St} {H H':Hp} {d:D} {v:V} (g:GrS c.O Z H Z' H') (h:Is K (Cn c Z) H d v):Is K (Cn c Z') H' d v :=
 Is.ext ⟨g.ext.tup,g.ext.frz,fun b o hb h=>g.ext.at_ b o hb.2 h⟩ (fun a ha hs=>⟨ha.1,g.cl a ha.2 hs⟩) h
theorem GrS.isL {K:Fr0} {c:Fc} {Z Z':St} {H H':Hp} {d:List D} {v:List V} (g:GrS c.O Z H Z' H') (h:IsL K (Cn c Z) H d v):IsL K (Cn c Z') H' d v :=
 IsL.ext ⟨g.ext.tup,g.ext.frz,fun b o hb h=>g.ext.at_ b o hb.2 h⟩ (fun a ha hs=>⟨ha.1,g.cl a ha.2 hs⟩) h
def WpS (K:Fr0) (c:Fc) (Z:St) (H:Hp) (D:qev):R Fl->Prop
 | .ok (.nx U)=>∀ Z' H',Rep K c U Z' H'->GrS c.O Z H Z' H'->D.nx Z' H'
 | .ok (.rt d U)=>∀ v Z' H',Rep K c U Z' H'->Is K c.B H' d v->GrS c.O Z H Z' H'->D.rt v H'
 | .ok (.bk U)=>∀ Z' H',Rep K c U Z' H'->GrS c.O Z H Z' H'->D.bk Z' H'
 | .ok (.ct U)=>∀ Z' H',Rep K c U Z' H'->GrS c.O Z H Z' H'->D.ct Z' H'
 | .exc x U=>∀ Z' H',Rep K c U Z' H'->GrS c.O Z H Z' H'->c.E x H'
 | .bad=>False
abbrev MS:=Env->R Fl
def DS (X:Cx) (c:Fc) (st:Stmt) (f:MS):Prop:=∃ t,PS X st t/\∀ U Z H D,Rep X.K c U Z H->WpS X.K c Z H D (f U)->t D Z H
def DSs (X:Cx) (c:Fc) (st:List Stmt) (f:MS):Prop:=∃ t,PSs X st t/\∀ U Z H D,Rep X.K c U Z H->WpS X.K c Z H D (f U)->t D Z H
theorem WpS.gr {K:Fr0} {c:Fc} {Z Z1:St} {H H1:Hp} {D:qev}:∀ {r:R Fl},WpS K c Z H D r->GrS c.O Z H Z1 H1->WpS K c Z1 H1 D r
 | .ok (.nx U),h,g=>fun Z' H' hr hg=>h Z' H' hr (g.trans hg)
 | .ok (.rt d U),h,g=>fun v Z' H' hr hi hg=>h v Z' H' hr hi (g.trans hg)
 | .ok (.bk U),h,g=>fun Z' H' hr hg=>h Z' H' hr (g.trans hg)
 | .ok (.ct U),h,g=>fun Z' H' hr hg=>h Z' H' hr (g.trans hg)
 | .exc x U,h,g=>fun Z' H' hr hg=>h Z' H' hr (g.trans hg)
 | .bad,h,_=>h
def sbnd {α:Type} (f:M α) (k:α->MS):MS:=fun U=>match f U with
 | .ok (a,U')=>k a U'
 | .exc x U' => .exc x U'
 | .bad => .bad
section
variable {K:Fr0} {c:Fc} {Z:St} {H:Hp} {D:qev}
theorem Wp.sbnd {f:M Sk.D} {k:Sk.D->MS} {U:Env} {Q':VK} (h:WpS K c Z H D (sbnd f k U)) (hQ:∀ d U' v H',Rep K c U' Z H'->Is K (Cn c Z) H' d v->Gr c.O Z H H'->WpS K c Z H' D (k d U')->Q' v H'):Wp K c Z H Q' (f U):=by
 unfold Sk.sbnd at h
 cases e:f U with
 | ok p=>rw [e] at h;exact fun v H' hr hi hg=>hQ p.1 p.2 v H' hr hi hg (h.gr hg.s)
 | exc x U'=>rw [e] at h;exact fun H' hr hg=>h Z H' hr hg.s
 | bad=>rw [e] at h;exact h
theorem WpB.sbnd {f:M Bool} {k:Bool->MS} {U:Env} {Q':Bool->Hp->Prop} (h:WpS K c Z H D (sbnd f k U)) (hQ:∀ d U' H',Rep K c U' Z H'->Gr c.O Z H H'->WpS K c Z H' D (k d U')->Q' d H'):WpB K c Z H Q' (f U):=by
 unfold Sk.sbnd at h
 cases e:f U with
 | ok p=>rw [e] at h;exact fun H' hr hg=>hQ p.1 p.2 H' hr hg (h.gr hg.s)
 | exc x U'=>rw [e] at h;exact fun H' hr hg=>h Z H' hr hg.s
 | bad=>rw [e] at h;exact h
theorem WpL.sbnd {f:M (List Sk.D)} {k:List Sk.D->MS} {U:Env} {Q':List V->Hp->Prop} (h:WpS K c Z H D (sbnd f k U)) (hQ:∀ d U' v H',Rep K c U' Z H'->IsL K (Cn c Z) H' d v->Gr c.O Z H H'->WpS K c Z H' D (k d U')->Q' v H'):WpL K c Z H Q' (f U):=by
 unfold Sk.sbnd at h
 cases e:f U with
 | ok p=>rw [e] at h;exact fun v H' hr hi hg=>hQ p.1 p.2 v H' hr hi hg (h.gr hg.s)
 | exc x U'=>rw [e] at h;exact fun H' hr hg=>h Z H' hr hg.s
 | bad=>rw [e] at h;exact h
end
def qZ (f g:MS):MS:=fun U=>match f U with
 | .ok (.nx U')=>g U'
 | r=>r
theorem WpS.mono_nx {K:Fr0} {c:Fc} {Z:St} {H:Hp} {D:qev} {f g:MS} {U:Env} {N:St->Hp->Prop} (h:WpS K c Z H D (qZ f g U)) (hN:∀ U' Z' H',Rep K c U' Z' H'->GrS c.O Z H Z' H'->WpS K c Z' H' D (g U')->N Z' H') :
  WpS K c Z H { D with nx:=N } (f U):=by
 unfold qZ at h
 cases e:f U with
 | ok fl =>
  rw [e] at h
  cases fl with
  | nx U'=>exact fun Z' H' hr hg=>hN U' Z' H' hr hg (h.gr hg)
  | rt d U'=>exact h
  | bk U'=>exact h
  | ct U'=>exact h
 | exc x U'=>rw [e] at h;exact h
 | bad=>rw [e] at h;exact h
section
variable {X:Cx} {c:Fc} {a b e:Expr} {pos:Pos} {st:Stmt} {sts:List Stmt}
theorem qi6:DSs X c [] (fun U => .ok (.nx U)):=⟨_,qaR,fun U Z H D r h=>h Z H r .refl⟩
theorem qi {f:MS} (h:DS X c st f):DSs X c [st] f:=by
 obtain ⟨t,p,w⟩:=h
 exact ⟨t,qeF p,w⟩
theorem qh {f g:MS} (h:DS X c st f) (hr:DSs X c sts g):DSs X c (st::sts) (qZ f g):=by
 obtain ⟨t,p,w⟩:=h
 obtain ⟨t2,p2,w2⟩:=hr
 exact ⟨_,uu p p2,fun U Z H D r h=>w U Z H _ r (h.mono_nx fun U' Z' H' r' g' h'=>w2 U' Z' H' D r' h')⟩
def yz (f:M D):MS:=sbnd f fun d U => .ok (.rt d U)
theorem Is.cn {K:Fr0} {Z:St} {H:Hp} {d:D} {v:V} (h:Is K (Cn c Z) H d v):Is K c.B H d v:=Is.ext Ext.refl (fun _ h _=>h.1) h
theorem qU {f:M D} (h:DE X c e f):DS X c (.Return (some e) pos) (yz f):=by
 obtain ⟨t,p,w⟩:=h
 exact ⟨_,qc4 p,fun U Z H D r h=>w U Z H _ r (Wp.sbnd h fun d U1 v H1 r1 i1 g1 h1=>h1 v Z H1 r1 i1.cn .refl)⟩
def jI (f:M D):MS:=sbnd f fun _ U => .ok (.nx U)
theorem uE {f:M D} (h:DE X c e f) (hs:swapsWith e none pos.line X.env=pure false:=by rfl):DS X c (.Expr e pos) (jI f):=by
 obtain ⟨t,p,w⟩:=h
 exact ⟨_,qcp p hs,fun U Z H D r h=>w U Z H _ r (Wp.sbnd h fun d U1 v H1 r1 i1 g1 h1=>h1 Z H1 r1 .refl)⟩
def sif (f:M Bool) (g k:MS):MS:=sbnd f fun b=>if b then g else k
theorem ub {t:Expr} {s1 s2:List Stmt} {f:M Bool} {g k:MS} (ht:DT X c t f) (ha:DSs X c s1 g) (hb:DSs X c s2 k):DS X c (.If t s1 s2 pos) (sif f g k):=by
 obtain ⟨tt,pt,wt⟩:=ht
 obtain ⟨ta,pa,wa⟩:=ha
 obtain ⟨tb,pb,wb⟩:=hb
 refine ⟨_,qkz pt pa pb,fun U Z H D rp h=>wt U Z H _ rp (WpB.sbnd h fun d U1 H1 r1 g1 h1 => ?_)⟩
 cases d with
 | true=>exact qk1 (wa U1 Z H1 D r1 (by simpa using h1))
 | false=>exact qk0 (wb U1 Z H1 D r1 (by simpa using h1))
theorem qW {α:Type} {l:List α} {i j:Nat} {v:α} (h:j≠i):(l.set i v)[j]? = l[j]? := List.getElem?_set_ne (Ne.symm h)
theorem Cl.set {O:List Nat} {Z:St} {i:Nat} {v:Option V} (hi:i ∉ O) (a:Addr):Cl O (Z.set i v) a ↔ Cl O Z a:=by
 constructor
 ·intro h j hj
  have e:j≠i:=fun e=>hi (e▸hj)
  have:=h j hj
  rw [qW e] at this
  exact this
 ·intro h j hj
  have e:j≠i:=fun e=>hi (e▸hj)
  rw [qW e]
  exact h j hj
theorem Rep.set {K:Fr0} {U:Env} {Z:St} {H:Hp} {i:Nat} {d:D} {v:V} (r:Rep K c U Z H) (hi:i ∉ c.O) (h:Is K (Cn c Z) H d v):Rep K c (U.set i (some d)) (Z.set i (some v)) H where
 len:=by rw [lS_,lS_];exact r.len
 val := fun j e hj=>by
  have up:∀ {d':D} {v':V},Is K (Cn c Z) H d' v'->Is K (Cn c (Z.set i (some v))) H d' v':=fun h=>Is.ext Ext.refl (fun a ha _=>⟨ha.1,(Cl.set hi a).mpr ha.2⟩) h
  by_cases e1:j=i
  ·subst e1
   have hl:j<U.length:=by
    have:=(gI_.mp hj).1
    rwa [lS_] at this
   rw [List.getElem?_set_self hl] at hj
   cases hj
   refine ⟨v,List.getElem?_set_self (by rw [<- r.len];exact hl),.inr ⟨hi,up h⟩⟩
  ·rw [qW e1] at hj
   obtain ⟨w,h1,h2⟩:=r.val j e hj
   refine ⟨w,by rw [qW e1];exact h1,?_⟩
   rcases h2 with ⟨hj2,ds,a,xs,h3,h5,h6,h7⟩ | ⟨h3,h4⟩
   ·exact .inl ⟨hj2,ds,a,xs,h3,h5,h6,IsL.ext Ext.refl (fun a ha _=>⟨ha.1,(Cl.set hi a).mpr ha.2⟩) h7⟩
   ·exact .inr ⟨h3,up h4⟩
 own:=fun j hj w h=>by
  have e1:j≠i:=fun e=>hi (e▸hj)
  rw [qW e1] at h
  exact r.own j hj w h
 inj:=fun j k a hj hk h1 h2=>by
  have e1:j≠i:=fun e=>hi (e▸hj)
  have e2:k≠i:=fun e=>hi (e▸hk)
  rw [qW e1] at h1
  rw [qW e2] at h2
  exact r.inj j k a hj hk h1 h2
 b0:=r.b0
 kp:=r.kp
 dm:=r.dm
 pO:=r.pO
 ps:=fun j hj=>by
  have e:j≠i:=fun e=>hi (e▸r.pO j hj)
  rw [qW e];exact r.ps j hj
theorem GrS.set {O:List Nat} {Z:St} {H:Hp} {i:Nat} {v:Option V} (hi:i ∉ O):GrS O Z H (Z.set i v) H:=⟨Ext.refl,fun b h _=>(Cl.set hi b).mpr h,fun _ h=>h⟩
def zM (i:Nat) (f:M D):MS:=sbnd f fun d U => .ok (.nx (U.set i (some d)))
theorem zl {i:Nat} {x:Str} {pos':Pos} {f:M D} (hN:X.N.Nodup) (he:DE X c e f) (ho:i ∉ c.O:=by exact of_decide_eq_false rfl) (hi:X.N[i]? = some x:=by rfl) (hx:Loc X.env.scope x:=by first | exact Or.inl rfl | exact Or.inr rfl) (hs:swapsWith e (some (.Name x pos')) pos.line X.env=pure false:=by rfl) (hf:X.fn x=true\/X.env.scope.names.lookup x=some .local:=by first | exact .inl rfl | exact .inr rfl | assumption) :
  DS X c (.Assign [.Name x pos'] e pos) (zM i f):=by
 obtain ⟨t,p,w⟩:=he
 refine ⟨_,qc5 hN hi hx p hs hf,fun U Z H D r h=>w U Z H _ r (Wp.sbnd h fun d U1 v H1 r1 i1 g1 h1 => ?_)⟩
 exact h1 _ H1 (r1.set ho i1) (.set ho)
def DG (X:Cx) (c:Fc) (tg:Expr) (f:D->Env->Option Env):Prop:=∃ g,PG X tg g/\∀ U Z H d v U' (N:St->Hp->Prop),Rep X.K c U Z H->Is X.K (Cn c Z) H d v->f d U=some U' ->
 (∀ Z',Rep X.K c U' Z' H->GrS c.O Z H Z' H->(∀ j∈c.O,Z'[j]? = Z[j]?)->N Z' H)->g v Z H N
def ql (i:Nat):D->Env->Option Env:=fun d U=>some (U.set i (some d))
theorem qA {i:Nat} {x:Str} (hN:X.N.Nodup) (ho:i ∉ c.O:=by exact of_decide_eq_false rfl) (hi:X.N[i]? = some x:=by rfl) (hx:Loc X.env.scope x:=by first | exact Or.inl rfl | exact Or.inr rfl) (hf:X.fn x=true\/X.env.scope.names.lookup x=some .local:=by first | exact .inl rfl | exact .inr rfl | assumption) {p:Pos}:DG X c (.Name x p) (ql i):=by
 refine ⟨_,qiQ hN hi hx hf,fun U Z H d v U' N r h e k => ?_⟩
 cases e
 exact k _ (r.set ho h) (.set ho) fun j hj=>qW fun e=>ho (e▸hj)
def DGs (X:Cx) (c:Fc) (tgs:List Expr) (f:List D->Env->Option Env):Prop:=∃ g,PGs X tgs g/\∀ U Z H ds vs U' (N:St->Hp->Prop),Rep X.K c U Z H->IsL X.K (Cn c Z) H ds vs->f ds U=some U' ->
 (∀ Z',Rep X.K c U' Z' H->GrS c.O Z H Z' H->(∀ j∈c.O,Z'[j]? = Z[j]?)->N Z' H)->g vs Z H N
def qaX:List D->Env->Option Env
 | [],U=>some U
 | _,_=>none
def zo (f:D->Env->Option Env) (g:List D->Env->Option Env):List D->Env->Option Env
 | d::ds,U=>(f d U).bind (g ds)
 | _,_=>none
theorem uF:DGs X c [] qaX:=by
 refine ⟨_,qiR,fun U Z H ds vs U' N r h e k => ?_⟩
 cases ds with
 | nil =>
  cases e
  exact ⟨h,k Z r .refl fun _ _=>rfl⟩
 | cons d ds=>cases e
theorem ze {tg:Expr} {tgs:List Expr} {f:D->Env->Option Env} {g:List D->Env->Option Env} (h1:DG X c tg f) (h2:DGs X c tgs g)
  (hs:(assignEach (tg::tgs) X.env).map (·.2)=assign tg X.env::(assignEach tgs X.env).map (·.2):=by rfl):DGs X c (tg::tgs) (zo f g):=by
 obtain ⟨t1,p1,w1⟩:=h1
 obtain ⟨t2,p2,w2⟩:=h2
 refine ⟨_,qgx p1 p2 hs,fun U Z H ds vs U' N r h e k => ?_⟩
 cases ds with
 | nil=>cases e
 | cons d ds =>
  obtain ⟨v,ws,rfl,i1,i2⟩:=h
  have e':(f d U).bind (g ds)=some U':=e
  cases e1:f d U with
  | none=>rw [e1] at e';cases e'
  | some U1 =>
   rw [e1] at e'
   exact ⟨v,ws,rfl,w1 U Z H d v U1 _ r i1 e1 fun Z1 r1 g1 o1=>w2 U1 Z1 H ds ws U' N r1 (g1.isL i2) e' fun Z2 r2 g2 o2=>k Z2 r2 (g1.trans g2) fun j hj=>(o2 j hj).trans (o1 j hj)⟩
def qaY (n:Nat) (g:List D->Env->Option Env):D->Env->Option Env
 | .tup ds,U=>if ds.length=n then g ds U else none
 | _,_=>none
theorem wp {es:List Expr} {k n:Nat} {p:Pos} {g:List D->Env->Option Env} (hc:X.calm=true) (h:DGs X c es g) (hn:(assignEach es X.env).length=n:=by rfl) (hst:(assignEach es X.env).findIdx? (·.1)=none:=by rfl):DG X c (.Tuple es k p) (qaY n g):=by
 obtain ⟨t,p,w⟩:=h
 refine ⟨_,qkB (n:=n) hc p hn hst,fun U Z H d v U' N r h e q => ?_⟩
 cases d with
 | tup ds =>
  obtain ⟨a,xs,rfl,ta,il⟩:=h
  have e':(if ds.length=n then g ds U else none)=some U':=e
  by_cases hl:ds.length=n
  ·rw [if_pos hl] at e'
   exact ⟨a,xs,rfl,ta.sq,by rw [il.length];exact hl,w U Z H ds xs U' N r il e' q⟩
  ·rw [if_neg hl] at e';cases e'
 | _=>cases e
def qms (f:M D) (g:D->Env->Option Env):MS:=sbnd f fun d U=>match g d U with
 | some U' => .ok (.nx U')
 | none => .bad
theorem qk6 {tg:Expr} {f:M D} {g:D->Env->Option Env} (he:DE X c e f) (hg:DG X c tg g) (hs:swapsWithSole [tg] e pos.line X.env=pure false:=by rfl) (hw:swappedStores [tg] e X.env=pure none:=by rfl) (h1:(assignEach [tg] X.env).map (·.2)=[assign tg X.env]:=by rfl):DS X c (.Assign [tg] e pos) (qms f g):=by
 obtain ⟨t,p,w⟩:=he
 obtain ⟨t2,p2,w2⟩:=hg
 refine ⟨_,qhT p p2 hs hw h1,fun U Z H D r h=>w U Z H _ r (Wp.sbnd h fun d U1 v H1 r1 i1 g1 h1 => ?_)⟩
 cases e:g d U1 with
 | none=>rw [e] at h1;exact h1.elim
 | some U2 =>
  rw [e] at h1
  exact w2 U1 Z H1 d v U2 _ r1 i1 e fun Z' r2 g2 _=>h1 Z' H1 r2 g2
end
section
variable {K:Fr0}
def iiD (g:Int->Int->D):D->D->Option D
 | .int i,.int j=>some (g i j)
 | _,_=>none
def qgL (C:Int->Int->Bool) (g:Int->Int->D):D->D->Option D
 | .int i,.int j=>if C i j then some (g i j) else none
 | _,_=>none
theorem ww {g:Int->Int->V} {gD:Int->Int->D} (hg:∀ A H i j,Is K A H (gD i j) (g i j)):OpS K (iiD gD) (rI0 g):=by
 intro A H x y d v u Q hn ix iy e k
 cases x<;>cases y<;>simp only [iiD] at e<;>try (cases e;done)
 rename_i i j
 cases (Option.some.inj e)
 cases (show v = .int i from ix)
 cases (show u = .int j from iy)
 exact ⟨i,j,rfl,rfl,k _ H (zD.refl H) (hg _ _ _ _)⟩
theorem qe7 {C:Int->Int->Prop} {CB:Int->Int->Bool} {g:Int->Int->V} {gD:Int->Int->D} (hC:∀ i j,CB i j=true->C i j) (hg:∀ A H i j,Is K A H (gD i j) (g i j)):OpS K (qgL CB gD) (rI C g):=by
 intro A H x y d v u Q hn ix iy e k
 cases x<;>cases y<;>simp only [qgL] at e<;>try (cases e;done)
 rename_i i j
 obtain ⟨e1,e2⟩:=zx e
 subst e2
 cases (show v = .int i from ix)
 cases (show u = .int j from iy)
 exact ⟨i,j,rfl,rfl,hC i j e1,k _ H (zD.refl H) (hg _ _ _ _)⟩
def qgM:D->D->Option D:=iiD fun i j => .int (i-j)
theorem qi7:OpS K qgM (rI0 fun i j => .int (i-j)):=ww fun _ _ _ _=>rfl
def yc (i:Int):Bool:=decide (-(2 ^ 64)<i)&&decide (i<2 ^ 64)
theorem qbM {i:Int} (h:yc i=true) : -(2 ^ 64)<i/\i<2 ^ 64:=by
 unfold yc at h
 rw [Bool.and_eq_true] at h
 exact ⟨of_decide_eq_true h.1,of_decide_eq_true h.2⟩
def qcu (i j:Int):Bool:=yc i||yc j
theorem qgN {i j:Int} (h:qcu i j=true):qkH i j:=by
 unfold qcu at h
 rw [Bool.or_eq_true] at h
 rcases h with h | h
 ·exact .inl (qbM h)
 ·exact .inr (qbM h)
def qd6 (i j:Int):Bool:=decide (0<j)&&decide (j<1606938044258990275541962092341162602522202993782792835301376)
theorem qc9 {i j:Int} (h:qd6 i j=true):qkG i j:=by
 unfold qd6 at h
 rw [Bool.and_eq_true] at h
 exact ⟨of_decide_eq_true h.1,of_decide_eq_true h.2⟩
def yn:D->D->Option D:=qgL qd6 fun i j => .int (i/j)
theorem yG:OpS K yn (rI qkG fun i j => .int (i/j)):=qe7 (fun _ _=>qc9) fun _ _ _ _=>rfl
def qhZ:D->D->Option D:=qgL (fun _ j=>decide (0<j)) fun i j => .int (i%j)
theorem wx:OpS K qhZ (rI (fun _ j=>0<j) fun i j => .int (i%j)):=qe7 (fun _ _ h=>of_decide_eq_true h) fun _ _ _ _=>rfl
def ltD:D->D->Option D:=iiD fun i j => .bl (decide (i<j))
def leD:D->D->Option D:=iiD fun i j => .bl (decide (i<=j))
def gtD:D->D->Option D:=iiD fun i j => .bl (decide (j<i))
def geD:D->D->Option D:=iiD fun i j => .bl (decide (j<=i))
theorem qk7:OpS K ltD (rI0 fun i j => .bl (decide (i<j))):=ww fun _ _ _ _=>rfl
theorem qk8:OpS K leD (rI0 fun i j => .bl (decide (i<=j))):=ww fun _ _ _ _=>rfl
theorem qe8:OpS K gtD (rI0 fun i j => .bl (decide (j<i))):=ww fun _ _ _ _=>rfl
theorem qh0:OpS K geD (rI0 fun i j => .bl (decide (j<=i))):=ww fun _ _ _ _=>rfl
def sc2:D->D->Option Bool
 | .non,.non=>some true | .non,.int _=>some false | .int _,.non=>some false | .non,.bl _=>some false | .bl _,.non=>some false | .non,.str _=>some false | .str _,.non=>some false
 | .int i,.int j=>some (decide (i=j)) | .bl i,.bl j=>some (decide (i=j)) | .str i,.str j=>some (decide (i=j))
 | .int _,.str _=>some false | .str _,.int _=>some false | .bl _,.str _=>some false | .str _,.bl _=>some false
 | _,_=>none
def eqS (x y:D):Option D:=(sc2 x y).map D.bl
def neS (x y:D):Option D:=(sc2 x y).map fun b=>D.bl (!b)
theorem qh1 {A:Addr->Prop} {H:Hp} {x y:D} {v u:V} {b:Bool} (ix:Is K A H x v) (iy:Is K A H y u) (e:sc2 x y=some b):qmN v u=true/\decide (v=u)=b:=by
 cases x<;>cases y<;>simp only [sc2] at e<;>first
  | (cases e;done)
  | (cases ix;cases iy;cases e;exact ⟨rfl,rfl⟩)
  | (cases ix;cases iy;cases e;exact ⟨rfl,by simp⟩)
  | (cases ix;cases iy;cases e;exact ⟨rfl,by rw [Bool.eq_iff_iff];simp⟩)
theorem qi8:OpS K eqS rEq:=by
 intro A H x y d v u Q hn ix iy e k
 unfold eqS at e
 cases e1:sc2 x y with
 | none=>rw [e1] at e;cases e
 | some b =>
  rw [e1] at e
  cases e
  obtain ⟨h1,h2⟩:=qh1 ix iy e1
  exact ⟨h1,by rw [h2];exact k _ H (zD.refl H) rfl⟩
theorem qe9:OpS K neS rNe:=by
 intro A H x y d v u Q hn ix iy e k
 unfold neS at e
 cases e1:sc2 x y with
 | none=>rw [e1] at e;cases e
 | some b =>
  rw [e1] at e
  cases e
  obtain ⟨h1,h2⟩:=qh1 ix iy e1
  exact ⟨h1,by rw [h2];exact k _ H (zD.refl H) rfl⟩
def y8:D->Bool
 | .non=>true
 | _=>false
theorem v3 {A:Addr->Prop} {H:Hp} {x:D} {v:V} (ix:Is K A H x v):decide (v=V.non)=y8 x:=by
 cases x with
 | non=>cases ix;rfl
 | bl b=>cases ix;rfl
 | int i=>cases ix;rfl
 | str s=>cases ix;rfl
 | tup ds=>obtain ⟨a,xs,rfl,_⟩:=ix;rfl
 | lst ds=>obtain ⟨a,xs,rfl,_⟩:=ix;rfl
 | dic ds=>obtain ⟨a,rfl,_⟩:=ix;rfl
 | fz ds=>obtain ⟨a,rfl,_⟩:=ix;rfl
 | exc ds=>obtain ⟨a,rfl,_⟩:=ix;rfl
def isN (x y:D):Option D:=if y8 y then some (.bl (y8 x)) else none
def qgO (x y:D):Option D:=if y8 y then some (.bl (!y8 x)) else none
theorem qi9:OpS K isN (fun x y H Q=>y = .non/\Q (.bl (decide (x = .non))) H):=by
 intro A H x y d v u Q hn ix iy e k
 obtain ⟨e1,e2⟩:=zx e
 subst e2
 have h:=v3 iy
 rw [e1] at h
 refine ⟨of_decide_eq_true h,?_⟩
 rw [v3 ix]
 exact k _ H (zD.refl H) rfl
theorem qgP:OpS K qgO (fun x y H Q=>y = .non/\Q (.bl (!decide (x = .non))) H):=by
 intro A H x y d v u Q hn ix iy e k
 obtain ⟨e1,e2⟩:=zx e
 subst e2
 have h:=v3 iy
 rw [e1] at h
 refine ⟨of_decide_eq_true h,?_⟩
 rw [v3 ix]
 exact k _ H (zD.refl H) rfl
def ixD:D->D->Option D
 | .tup ds,.int i=>atI ds i
 | .lst ds,.int i=>atI ds i
 | .fz ns,.int i=>(atI ns i).map D.int
 | _,_=>none
theorem IsL.atI {A:Addr->Prop} {H:Hp} {ds:List D} {xs:List V} {i:Int} {d:D} (h:IsL K A H ds xs) (e:L2.atI ds i=some d):∃ v,L2.atI xs i=some v/\Is K A H d v:=by
 unfold L2.atI at e |-
 rw [h.length]
 cases e1:ixN ds.length i with
 | none=>rw [e1] at e;cases e
 | some j =>
  rw [e1] at e
  exact h.get e
theorem zm:OpS K ixD (fun x y H Q=>qmV K x y H Q\/qmW K x y H Q):=by
 intro A H x y d v u Q hn ix iy e k
 cases x<;>cases y<;>simp only [ixD] at e<;>try (cases e;done)
 ·rename_i ds i
  cases iy
  obtain ⟨a,xs,rfl,ta,il⟩:=ix
  obtain ⟨w,h1,h2⟩:=il.atI e
  exact .inr ⟨a,xs,i,w,rfl,rfl,ta.sq,h1,k w H (zD.refl H) h2⟩
 ·rename_i ds i
  cases iy
  obtain ⟨a,xs,rfl,_,ta,il⟩:=ix
  obtain ⟨w,h1,h2⟩:=il.atI e
  exact .inl ⟨a,xs,i,w,rfl,rfl,.inl (.inl ta),h1,k w H (zD.refl H) h2⟩
 ·rename_i ns i
  cases iy
  obtain ⟨a,rfl,ta⟩:=ix
  cases e1:L2.atI ns i with
  | none=>rw [e1] at e;cases e
  | some m =>
   rw [e1] at e
   cases e
   have h1:L2.atI (ns.map V.int) i=some (V.int m):=by
    unfold L2.atI at e1 |-
    rw [lM_]
    cases e2:ixN ns.length i with
    | none=>rw [e2] at e1;cases e1
    | some j =>
     rw [e2] at e1
     have e3:ns[j]? = some m:=e1
     show (ns.map V.int)[j]? = some (V.int m)
     rw [gM_,e3];rfl
   exact .inl ⟨a,_,i,.int m,rfl,rfl,ta.sq,h1,k _ H (zD.refl H) rfl⟩
theorem IsL.inv1 {A:Addr->Prop} {H:Hp} {d:D} {vs:List V} (h:IsL K A H [d] vs):∃ v,vs=[v]/\Is K A H d v:=by
 obtain ⟨x,ys,e1,e2,e3⟩:=h
 have e3':ys=[]:=e3
 exact ⟨x,by rw [e1,e3'],e2⟩
theorem IsL.inv2 {A:Addr->Prop} {H:Hp} {d d':D} {vs:List V} (h:IsL K A H [d,d'] vs):∃ v w,vs=[v,w]/\Is K A H d v/\Is K A H d' w:=by
 obtain ⟨x,ys,e1,e2,e3⟩:=h
 obtain ⟨w,e4,e5⟩:=IsL.inv1 e3
 exact ⟨x,w,by rw [e1,e4],e2,e5⟩
def qmt:List D->Option D
 | [.int i]=>some (.int (if i<0 then -i else i))
 | _=>none
theorem qfa:vX K qmt (fun xs H Q=>∃ i,xs=[.int i]/\Q (.int (if i<0 then -i else i)) H):=by
 intro A H xs d vs Q hn h e k
 unfold qmt at e
 split at e
 ·rename_i i
  obtain ⟨v,rfl,e2⟩:=IsL.inv1 h
  cases e2;cases e
  exact ⟨i,rfl,k _ H (zD.refl H) rfl⟩
 ·cases e
def qja:List D->Option D
 | [.int i,.int j]=>some (.int (if j>i then j else i))
 | _=>none
def uG:List D->Option D
 | [.int i,.int j]=>some (.int (if j<i then j else i))
 | _=>none
theorem qfb:vX K qja (fun xs H Q=>∃ i j,xs=[.int i,.int j]/\Q (.int (if j>i then j else i)) H):=by
 intro A H xs d vs Q hn h e k
 unfold qja at e
 split at e
 ·rename_i i j
  obtain ⟨v,w,rfl,e2,e3⟩:=IsL.inv2 h
  cases e2;cases e3;cases e
  exact ⟨i,j,rfl,k _ H (zD.refl H) rfl⟩
 ·cases e
theorem wy:vX K uG (fun xs H Q=>∃ i j,xs=[.int i,.int j]/\Q (.int (if j<i then j else i)) H):=by
 intro A H xs d vs Q hn h e k
 unfold uG at e
 split at e
 ·rename_i i j
  obtain ⟨v,w,rfl,e2,e3⟩:=IsL.inv2 h
  cases e2;cases e3;cases e
  exact ⟨i,j,rfl,k _ H (zD.refl H) rfl⟩
 ·cases e
def wA:List D->Option D
 | [.int i,.int j]=>if qd6 i j then some (.tup [.int (i/j),.int (i%j)]) else none
 | _=>none
theorem qbN:vX K wA (fun xs H Q=>∃ i j,xs=[.int i,.int j]/\qkG i j/\∀ p,H p=none->Q (.ref p) (upd H p (.tup [.int (i/j),.int (i%j)]))):=by
 intro A H xs d vs Q hn h e k
 unfold wA at e
 split at e
 ·rename_i i j
  obtain ⟨v,w,rfl,e2,e3⟩:=IsL.inv2 h
  cases e2;cases e3
  obtain ⟨e6,e7⟩:=zx e
  subst e7
  exact ⟨i,j,rfl,qc9 e6,fun p hp=>k _ _ (qv hp _) ⟨p,_,rfl,.inl qk,_,_,rfl,rfl,_,_,rfl,rfl,rfl⟩⟩
 ·cases e
def qoe:List D->Option D
 | [.int i]=>some (.int i)
 | [.bl b]=>some (.int (if b then 1 else 0))
 | _=>none
def qat:List D->Option D
 | [.tup ds]=>some (.int ds.length)
 | [.lst ds]=>some (.int ds.length)
 | [.fz ns]=>some (.int ns.length)
 | [.str x]=>if qM x.length then some (.int x.length) else none
 | _=>none
def qnE (K:Fr0):List V->Hp->VK->Prop:=fun xs H Q=>(∃ p ys,xs=[.ref p]/\(SqL K H p ys\/SqT K H p ys)/\Q (.int ys.length) H)\/(∃ z,xs=[.str z]/\z.length<=sizeLine/\Q (.int z.length) H)
theorem jj {X:Cx}:j9 X (.builtin "len") (qnE X.K):=j9.or qbG qbH
theorem jD:vX K qat (qnE K):=by
 intro A H xs d vs Q hn h e k
 unfold qat at e
 split at e
 ·obtain ⟨v,rfl,a,zs,rfl,ta,il⟩:=IsL.inv1 h
  cases e
  exact .inl ⟨a,zs,rfl,.inr ta.sq,by rw [il.length];exact k _ H (zD.refl H) rfl⟩
 ·obtain ⟨v,rfl,a,zs,rfl,_,ta,il⟩:=IsL.inv1 h
  cases e
  exact .inl ⟨a,zs,rfl,.inl (.inl (.inl ta)),by rw [il.length];exact k _ H (zD.refl H) rfl⟩
 ·obtain ⟨v,rfl,a,rfl,ta⟩:=IsL.inv1 h
  cases e
  exact .inl ⟨a,_,rfl,.inl ta.sq,by rw [lM_];exact k _ H (zD.refl H) rfl⟩
 ·rename_i z
  obtain ⟨v,rfl,e2⟩:=IsL.inv1 h
  cases e2
  obtain ⟨e4,e5⟩:=zx e
  subst e5
  exact .inr ⟨z,rfl,of_decide_eq_true e4,k _ H (zD.refl H) rfl⟩
 ·cases e
def wB:List D->Option D
 | [.tup ds]=>some (.tup ds)
 | [.lst ds]=>some (.tup ds)
 | _=>none
theorem qcv:vX K wB (fun xs H Q=>∃ p ys,xs=[.ref p]/\((SqL K H p ys/\∀ l,H l=none->Q (.ref l) (upd H l (.tup ys)))\/(SqT K H p ys/\Q (.ref p) H))):=by
 intro A H xs d vs Q hn h e k
 unfold wB at e
 split at e
 ·obtain ⟨v,rfl,a,zs,rfl,ta,il⟩:=IsL.inv1 h
  cases e
  exact ⟨a,zs,rfl,.inr ⟨ta.sq,k _ H (zD.refl H) ⟨a,zs,rfl,ta,il⟩⟩⟩
 ·obtain ⟨v,rfl,a,zs,rfl,_,ta,il⟩:=IsL.inv1 h
  cases e
  exact ⟨a,zs,rfl,.inl ⟨.inl (.inl ta),fun l hl=>k _ _ (qv hl _) ⟨l,zs,rfl,.inl qk,IsL.ext (Ext.of_same (qv hl _)) (fun _ h _=>h) il⟩⟩⟩
 ·cases e
end
end L2.Sk
namespace L2.Sk
open PySem PySem.Spec PySem.Calls PyProof.Rows PySem.W
def qh2 (h:Heap) (a D:Addr):Prop:=∃ o,h.get? a=some o/\o.cls = .ref D
theorem qh2.looks {M:Model} {h:Heap} {a D:Addr} (I:qh2 h a D):Looks M h (typeOf (.ref a)) (.ref D):=by
 obtain ⟨o,h1,h2⟩:=I
 rw [<- h2]
 exact (Looks.ld h1).andThen .now
section
variable {prog:Program} {w:World} {A:Around} {E:Value->Shared->Prop} {K:Frag} {h:Heap} {g:Array GenState} {d:Drawn} {t:Nat} {os:OsState} {a D:Addr}
theorem qk9 (hm:mroIn K D (.type "object")=some true) {tp:Value} {R:Result->Shared->Prop} (X:K.In h) (I:qh2 h a D) (hq:R (.ok (.ret (.ref D))) ⟨h,g,d,t,os⟩) :
  codeAny (model prog w) A (.call (.builtin "getset_descriptor.__get__") ⟨[.builtin "object.__class__",.ref a,tp],[]⟩) R ⟨h,g,d,t,os⟩:=by
 have L0:=I.looks (M:=model prog w)
 have L1:=looks_mroIn (M:=model prog w) X hm
 have hT5:(⟨h,g,d,t,os⟩:Shared).TypeIs (.builtin "object.__class__") "getset_descriptor":=F.typeOf_object_class
 refine codeAny_call_builtin F.slot_gs_get.plain F.entry_gs_get (F.slot_gs_get.check _ _ _ _ _ _ _ _ hT5 (F.args_gs_get _ _ _) ?_)
 have eo:".".intercalate ("object.__class__".cutAt '.').dropLast="object":=by decide +kernel
 repeat (any_goals (first | assumption | with_reducible refine L0.at ?_ | with_reducible refine L1.at ?_ | wp_step))
 rw [eo]
 refine L1.at ?_
 repeat (any_goals (first | assumption | with_reducible refine L0.at ?_ | wp_step))
 refine ⟨Code.quiet_builtin _ (by decide +kernel),codeAny_builtin F.entry_object_class ?_⟩
 repeat (any_goals (first | assumption | with_reducible refine L0.at ?_ | wp_step))
theorem qgQ (ha:findIn K (.ref D) "__class__"=some (some (.builtin "object.__class__"))) (hm:mroIn K D (.type "object")=some true) {tk:Tok} {Q:Fin->Shared->Prop} (X:K.In h) (I:qh2 h a D) (hq:Q (.done (.ret (.ref D))) ⟨h,g,d,t,os⟩) :
  wpAny (model prog w) A (Builtin.«object.__getattribute__» ⟨[.ref a,.str "__class__" tk],[]⟩) Q E ⟨h,g,d,t,os⟩:=by
 have L0:=I.looks (M:=model prog w)
 have L1:=looks_findIn (M:=model prog w) X ha
 have hT5:(⟨h,g,d,t,os⟩:Shared).TypeIs (.builtin "object.__class__") "getset_descriptor":=F.typeOf_object_class
 have f5:=F.typeOf_object_class
 have f6:=F.slot_gs_get.lookup
 have f7:=F.slot_gs_set.lookup
 repeat (any_goals (first | assumption | with_reducible refine L0.at ?_ | with_reducible refine L1.at ?_ | wp_step))
 refine qk9 hm X I ?_
 repeat (any_goals (first | assumption | wp_step))
theorem qgR (hb:Looks (model prog w) h (isSubtype (.ref D) (.type "BaseException")) true) {nameV:Value} {Q:Unit->Shared->Prop} (I:qh2 h a D) (hq:Q () ⟨h,g,d,t,os⟩):wpAny (model prog w) A (checkBuiltinCall "BaseException.__getattribute__" ⟨[.ref a,nameV],[]⟩) Q E ⟨h,g,d,t,os⟩:=by
 have hk:builtinKind "BaseException.__getattribute__"=some .slot:=by decide +kernel
 have hsplit:splitId "BaseException.__getattribute__"=some ("BaseException","__getattribute__"):=by decide +kernel
 have L0:=I.looks (M:=model prog w)
 have ha:=F.args_bexc_ga (.ref a) nameV
 simp only [checkBuiltinCall,hk,hsplit]
 refine wpAny_bind ?_
 ·unfold isInstance
  repeat (first | with_reducible refine L0.at ?_ | with_reducible refine hb.at ?_ | wp_step)
  exact hq
theorem qmZ (FA:ExcAttrFacts "ValueError") (hga:findIn K (.ref D) "__getattribute__"=some (some (.builtin "BaseException.__getattribute__"))) (hgt:findIn K (.ref D) "__getattr__"=some none) (ha:findIn K (.ref D) "__class__"=some (some (.builtin "object.__class__"))) (hm:mroIn K D (.type "object")=some true)
  (hb:Looks (model prog w) h (isSubtype (.ref D) (.type "BaseException")) true) {tk:Tok} {fill expr:Bool} {Q:Value->Shared->Prop} (X:K.In h) (I:qh2 h a D) (hq:Q (.ref D) ⟨h,g,d,t,os⟩) :
  wpAny (model prog w) A (getAttrBy (.ref a) (.str "__class__" tk) fill expr) Q E ⟨h,g,d,t,os⟩:=by
 have L0:=I.looks (M:=model prog w)
 have L1:=looks_findIn (M:=model prog w) X hga
 have L2:=looks_findIn (M:=model prog w) X hgt
 have f3:=FA.ga.bind (.ref a)
 have hx0:(expr&&onTheHeap (Value.builtin "BaseException.__getattribute__"))=false:=by cases expr<;>rfl
 have hx2:(Value.builtin "BaseException.__getattribute__"==Value.builtin "object.__getattribute__")=false:=by decide +kernel
 have hx1:(onTheHeap (Value.ref D)&&Value.builtin "BaseException.__getattribute__"==Value.builtin "object.__getattribute__")=false:=by rw [hx2];rfl
 repeat (any_goals (first | assumption | with_reducible refine L0.at ?_ | with_reducible refine L1.at ?_ | with_reducible refine L2.at ?_ | wp_step))
 refine codeAny_call_builtin FA.ga.plain F.entry_bexc_ga (qgR hb I (qgQ ha hm X I ?_))
 repeat (any_goals (first | assumption | wp_step))
theorem qjb (FA:ExcAttrFacts "ValueError") (hga:findIn K (.ref D) "__getattribute__"=some (some (.builtin "BaseException.__getattribute__"))) (hgt:findIn K (.ref D) "__getattr__"=some none) (ha:findIn K (.ref D) "__class__"=some (some (.builtin "object.__class__"))) (hm:mroIn K D (.type "object")=some true)
  (hb:Looks (model prog w) h (isSubtype (.ref D) (.type "BaseException")) true) {Q:Option Value->Shared->Prop} (X:K.In h) (I:qh2 h a D) (hq:Q (some (.ref D)) ⟨h,g,d,t+1,os⟩) :
  wpAny (model prog w) A (getAttr? (.ref a) "__class__") Q E ⟨h,g,d,t,os⟩:=by
 unfold getAttr? getAttrBy?
 repeat (any_goals (first | assumption | with_reducible apply qmZ FA hga hgt ha hm hb X I | wp_step))
end
theorem qgS {K:Frag} {a D:Addr} (c:XK6 K D):KitX K (.ref a) (.ref D) (fun h=>qh2 h a D) where
 ty:=fun _ _ _ I=>I.looks
 it := fun _ _ X _=>by
  obtain ⟨cdD,hcD⟩:=Option.isSome_iff_exists.mp c.is
  unfold clsIn at hcD
  split at hcD
  ·rename_i c' d' cd' sl' ho
   intro A' Q' E' s' k q
   unfold isType loadHead
   exact wpAny_bind (wpAny_loadPart (k _ _ (X _ _ ho)) (wpAny_pure q))
  ·cases hcD
 ne := fun h tp dd its n sl X htp=>by
  obtain ⟨cdD,hcD⟩:=Option.isSome_iff_exists.mp c.is
  refine Bool.eq_false_iff.mpr fun q => ?_
  have e:D=tp:=Value.ref.inj (beq_iff_eq.mp q)
  subst e
  unfold clsIn at hcD
  split at hcD
  ·rename_i c' d' cd' sl' ho
   have z:=(X _ _ ho).symm.trans htp
   cases z
  ·cases hcD
 ca:=fun {prog w A E Q s} X p k=>by
  have I:=p
  obtain ⟨h,g,d,t,os⟩:=s
  exact qjb PySem.F.attrBase_ValueError.toExcAttrFacts c.ga c.gt c.cl c.ob (looks_subIn X c.be) X I k
theorem qau {X:Cx} {pins:List (Addr×Obj)} {Z:St} {H:Hp} {s:Shared} {A:Around} {E:Value->Shared->Prop} {Q:Value->Shared->Prop} {a C:Addr} {c:Value} {b:Bool} (I:Inv X pins Z H s) (xc:XK6 X.K C) (hH:∃ o vs,H a=some (.frz o (.own a))/\o.cls = .ref C/\o.data = .fields vs)
  (e:kitOne X.K (.ref C) c=some b) (h:∀ tk,Q (.bool b) { s with toks:=tk }):wpAny (model X.prog X.w) A (call (.builtin "isinstance") [.ref a,c]) Q E s:=by
 obtain ⟨o,vs,h1,h2,_⟩:=hH
 obtain ⟨p,_⟩:=(show j8 X.prog X.w H s.heap a (.frz o (.own a)) from I.hok a _ h1)
 exact kia_one (qgS xc) I.kIn ⟨o,p,h2⟩ e (fun z=>nomatch z) h
end L2.Sk
namespace L2.Sk
open PySem PySem.Spec PyProof.Rows
def tyD:D->String
 | .non=>"NoneType"
 | .bl _=>"bool"
 | .int _=>"int"
 | .str _=>"str"
 | .tup _=>"tuple"
 | .lst _=>"list"
 | .dic _=>"dict"
 | .fz _=>"list"
 | .exc _=>"exc"
def qcw (t T:String):Bool:=t==T||(t=="bool"&&T=="int")
def qd7:List String:=["NoneType","bool","int","str","tuple","list","dict"]
theorem qjc (d:D) (h:∀ C,d ≠ .exc C):tyD d∈qd7:=by
 cases d<;>first | (simp [tyD,qd7];done) | exact absurd rfl (h _)
structure qkf (K:Fr0) (T:String):Prop where
 ok:∀ t∈qd7,PySem.W.kitOne K (.type t) (.type T)=some (qcw t T)
 ex:T∈["int","bool","str","tuple","list","dict"]
 nx:qcw "exc" T=false
theorem qjd {K:Fr0}:qkf K "int":=⟨fun t ht=>by
 simp only [qd7,List.mem_cons,nN_,or_false] at ht
 rcases ht with rfl | rfl | rfl | rfl | rfl | rfl | rfl<;>kernel_rfl,by decide,by decide⟩
theorem qgT {K:Fr0}:qkf K "bool":=⟨fun t ht=>by
 simp only [qd7,List.mem_cons,nN_,or_false] at ht
 rcases ht with rfl | rfl | rfl | rfl | rfl | rfl | rfl<;>kernel_rfl,by decide,by decide⟩
theorem qbO {K:Fr0}:qkf K "tuple":=⟨fun t ht=>by
 simp only [qd7,List.mem_cons,nN_,or_false] at ht
 rcases ht with rfl | rfl | rfl | rfl | rfl | rfl | rfl<;>kernel_rfl,by decide,by decide⟩
section
variable {X:Cx} {pins:List (Addr×Obj)} {Z:St} {H:Hp} {s:Shared} {A:Addr->Prop} {E:Value->Shared->Prop} {Q:Value->Shared->Prop}
theorem qla {d:D} {v:V} {u:Value} {T:String} (I:Inv X pins Z H s) (h:Is X.K A H d v) (rv:z9 v u) (kt:qkf X.K T) (hQ:∀ tk,Q (.bool (qcw (tyD d) T)) { s with toks:=tk }) :
  wpAny (model X.prog X.w) X.A (call (.builtin "isinstance") [u,.type T]) Q E s:=by
 by_cases hx:∃ C,d = .exc C
 ·obtain ⟨C,rfl⟩:=hx
  obtain ⟨a,rfl,xa⟩:=h
  cases (show u=Value.ref a from rv)
  have q:∀ tk,Q (.bool false) { s with toks:=tk }:=fun tk=>by
   have:=hQ tk
   rw [show tyD (.exc C)="exc" from rfl,kt.nx] at this
   exact this
  obtain ⟨D0,h0,h1,h2⟩:=xa
  exact qau I h1 h2 (h1.no T kt.ex) q
 have e:=kt.ok (tyD d) (qjc d fun C hC=>hx ⟨C,hC⟩)
 cases d with
 | exc C=>exact absurd ⟨C,rfl⟩ hx
 | non=>cases h;exact yA I rv .non e hQ
 | bl b=>cases h;exact yA I rv (.bl b) e hQ
 | int i=>cases h;exact yA I rv (.int i) e hQ
 | str x=>cases h;exact yA I rv (.str x) e hQ
 | tup ds =>
  obtain ⟨a,xs,rfl,ta,il⟩:=h
  cases (show u=Value.ref a from rv)
  obtain ⟨its,r,p,z⟩:=I.tuple ta.sq
  obtain ⟨o,h1,h2,_⟩:=p
  exact PySem.W.kia_one PySem.W.kitx_tuple I.kIn ⟨o,h1,h2⟩ e (fun z=>nomatch z) hQ
 | lst ds =>
  obtain ⟨a,xs,rfl,hA,ta,il⟩:=h
  exact yA I rv (.lst ta) e hQ
 | dic kvs =>
  obtain ⟨a,rfl,hA,ta⟩:=h
  exact yA I rv (.dK ta) e hQ
 | fz ns =>
  obtain ⟨a,rfl,ta⟩:=h
  cases (show u=Value.ref a from rv)
  obtain ⟨its,r,p,z⟩:=I.list ta.sq
  obtain ⟨o,h1,h2,_⟩:=p.isList
  exact PySem.W.kia_one PySem.W.kitx_list I.kIn ⟨o,h1,h2⟩ e (fun z=>nomatch z) hQ
end
def qje (T:String) (f:M D):M D:=bnd f fun d=>ret (.bl (qcw (tyD d) T))
section
variable {X:Cx} {c:Fc} {a b e:Expr} {pos:Pos}
def qof (K:Fr0) (T:String):List V->Hp->VK->Prop:=fun xs H Q=>∃ v d A,xs=[v,.ty T]/\Is K A H d v/\Q (.bl (qcw (tyD d) T)) H
theorem qgU {T:String} (kt:qkf X.K T):j9 X (.builtin "isinstance") (qof X.K T):=by
 intro pins s Z H xs us Q I r h
 obtain ⟨v,d,A,rfl,hi,q⟩:=h
 obtain ⟨u,w,rfl,r1,r2⟩:=qT.two r
 cases (show w=Value.type T from r2)
 exact qla I hi r1 kt fun tk=>⟨.bl _,H,I.tok tk,rfl,q⟩
theorem qda {T:String} {x:Str} {p p2:Pos} {f:M D} (kt:qkf X.K T) (hg:Gl X "isinstance") (hm:X.mg "isinstance"=none) (hg2:Gl X x) (hm2:X.mg x=none) (hv2:bootBuiltins x=some (.type T)) (ha:DE X c a f)
  (hv:bootBuiltins "isinstance"=some (.builtin "isinstance"):=by first | rfl | exact PySem.boot_isinstance) (hn2:x≠"__name__":=by decide) (hdb2:(x==("__debug__":Str))=false:=by decide)
  (he:starEach [a,.Name x p2] X.env=(false,eval a X.env)::starEach [.Name x p2] X.env:=by rfl) (hpl:(backTo pos (starEach [.Name x p2] X.env)).any (·.1)=false:=by rfl):DE X c (.Call (.Name "isinstance" p) [a,.Name x p2] [] pos) (qje T f):=by
 obtain ⟨t,pa,w⟩:=ha
 refine ⟨_,uv (qgU kt) hg hm hv (zQ pa (zQ (qeE (v := .ty T) hg2 hm2 hv2 rfl hn2 hdb2) ya (by rfl)) he) (by decide) (by decide) he hpl,fun U Z H Q r h=>w U Z H _ r (Wp.bnd h fun d U1 v H1 r1 i1 g1 h1 => ?_)⟩
 exact ⟨v,d,_,rfl,i1,h1 _ H1 r1 rfl .refl⟩
end
def yd:List D->Option (List Bool)
 | []=>some []
 | .bl b::r=>(yd r).map (b::·)
 | _=>none
def uf:List D->Option (List Int)
 | []=>some []
 | .int i::r=>(uf r).map (i::·)
 | _=>none
theorem yH {K:Fr0} {A:Addr->Prop} {H:Hp}:∀ {ds:List D} {xs:List V} {bs:List Bool},IsL K A H ds xs->yd ds=some bs->xs=bs.map V.bl
 | [],_,_,h,e=>by cases e;exact h
 | .bl b::r,_,bs,⟨x,ys,hx,h1,h2⟩,e=>by
  cases h1
  cases e1:yd r with
  | none=>simp [yd,e1] at e
  | some l =>
   simp [yd,e1] at e
   subst e
   rw [hx,yH h2 e1];rfl
 | .non::_,_,_,_,e=>by cases e
 | .int _::_,_,_,_,e=>by cases e
 | .str _::_,_,_,_,e=>by cases e
 | .tup _::_,_,_,_,e=>by cases e
 | .lst _::_,_,_,_,e=>by cases e
 | .dic _::_,_,_,_,e=>by cases e
 | .fz _::_,_,_,_,e=>by cases e
 | .exc _::_,_,_,_,e=>by cases e
theorem yB {K:Fr0} {A:Addr->Prop} {H:Hp}:∀ {ds:List D} {xs:List V} {bs:List Int},IsL K A H ds xs->uf ds=some bs->xs=bs.map V.int
 | [],_,_,h,e=>by cases e;exact h
 | .int b::r,_,bs,⟨x,ys,hx,h1,h2⟩,e=>by
  cases h1
  cases e1:uf r with
  | none=>simp [uf,e1] at e
  | some l =>
   simp [uf,e1] at e
   subst e
   rw [hx,yB h2 e1];rfl
 | .non::_,_,_,_,e=>by cases e
 | .bl _::_,_,_,_,e=>by cases e
 | .str _::_,_,_,_,e=>by cases e
 | .tup _::_,_,_,_,e=>by cases e
 | .lst _::_,_,_,_,e=>by cases e
 | .dic _::_,_,_,_,e=>by cases e
 | .fz _::_,_,_,_,e=>by cases e
 | .exc _::_,_,_,_,e=>by cases e
theorem qgV {bs:List Bool}:∀ {us:List Value},qT (bs.map V.bl) us->LSm.BoolsAre us bs:=by
 induction bs with
 | nil=>intro us r;rw [List.map_nil] at r;cases r;exact .nil
 | cons b bs ih =>
  intro us r
  rw [mC_] at r
  cases r with
  | cons r1 r2 =>
   cases (show _=Value.bool b from r1)
   exact .cons b (ih r2)
section
variable {X:Cx}
theorem qdb (hc:X.calm=true):j9 X (.builtin "all") (fun xs H Q=>∃ (p:Addr) (bs:List Bool),xs=[.ref p]/\H p=some (.lst (bs.map V.bl))/\Q (.bl (bs.all id)) H):=by
 intro pins s Z H xs us Q I r h
 obtain ⟨p,bs,rfl,hp,q⟩:=h
 obtain ⟨u,rfl,ru⟩:=qT.one r
 cases ru
 obtain ⟨its,rv,pl,hz⟩:=I.list (SqL.of hp)
 have hl:=pl.isList
 have hb:=qgV rv
 have hlt:p<s.heap.objs.size:=by obtain ⟨_,e,_⟩:=hl;exact Heap.lt_size e
 refine call_all_walk (wpAny_pyIter_list hl ?_)
 refine ⟨s.heap.objs.size,[s.heap.objs.size,p],[s.heap.objs.size],its.toArray.size,_,_,fun i=>(bs[i]?).getD true,rfl,Walks.list (A:=X.A.in1) (I.ok.hd hc) _ p (Nat.ne_of_lt hlt) its.toArray,
  ⟨⟨_,Heap.get?_push_size _ rfl,rfl,rfl⟩,hl.push _⟩,fun i v s' Q' E' hP hQ => ?_,fun h' tk hk => ?_⟩
 ·obtain ⟨b,e,rfl⟩:=hb.get i v (by simpa using hP)
  simp only [e,Option.getD_some] at hQ
  exact wpAny_truthy_bool hQ
 ·have e:((List.range its.toArray.size).all fun i=>(bs[i]?).getD true)=bs.all id:=by
   rw [sT_,hb.length];exact LSm.range_all bs
  rw [e]
  exact ⟨.bl _,H,I.kept (LSm.kept_iter hk),rfl,q⟩
theorem qgW (hc:X.calm=true):j9 X (.builtin "sum") (fun xs H Q=>∃ (p:Addr) (ns:List Int),xs=[.ref p]/\H p=some (.lst (ns.map V.int))/\Q (.int ns.sum) H):=by
 intro pins s Z H xs us Q I r h
 obtain ⟨p,ns,rfl,hp,q⟩:=h
 obtain ⟨u,rfl,ru⟩:=qT.one r
 cases ru
 obtain ⟨its,rv,pl,hz⟩:=I.list (SqL.of hp)
 have hl:=pl.isList
 have hi:IntsAre its ns:=jU rv
 obtain ⟨zs,hx⟩:=hi.allInts.items
 have hl':s.heap.IsList p (intItems zs):=hx▸hl
 refine sum_intListG (I.ok.hd hc) hl' fun h' tk t' hk => ?_
 have e1:ns=zs.toList.map (·.1):=by
  rw [<- nums_intItems,<- hx]
  exact (show numsOf its.toArray.toList=ns from hi.numsOf).symm
 have e2:preSum (numAt zs) zs.size=ns.sum:=by
  rw [preSum_eq,List.take_of_length_le (by simp),e1]
 rw [e2]
 exact ⟨.int _,H,I.kept hk,⟨_,rfl⟩,q⟩
end
def qex:List D->Option D
 | [.lst ds]=>(yd ds).map fun bs => .bl (bs.all id)
 | _=>none
def qlb:List D->Option D
 | [.lst ds]=>(uf ds).map fun bs => .int bs.sum
 | _=>none
section
variable {K:Fr0}
theorem qbP:vX K qex (fun xs H Q=>∃ (p:Addr) (bs:List Bool),xs=[.ref p]/\H p=some (.lst (bs.map V.bl))/\Q (.bl (bs.all id)) H):=by
 intro A H xs d vs Q hn h e k
 unfold qex at e
 split at e
 ·obtain ⟨v,rfl,a,zs,rfl,_,ta,il⟩:=IsL.inv1 h
  obtain ⟨bs,h1,h2⟩:=Option.map_eq_some_iff.mp e
  subst h2
  rw [yH il h1] at ta
  exact ⟨a,bs,rfl,ta,k _ H (zD.refl H) rfl⟩
 ·cases e
theorem qfc:vX K qlb (fun xs H Q=>∃ (p:Addr) (ns:List Int),xs=[.ref p]/\H p=some (.lst (ns.map V.int))/\Q (.int ns.sum) H):=by
 intro A H xs d vs Q hn h e k
 unfold qlb at e
 split at e
 ·obtain ⟨v,rfl,a,zs,rfl,_,ta,il⟩:=IsL.inv1 h
  obtain ⟨bs,h1,h2⟩:=Option.map_eq_some_iff.mp e
  subst h2
  rw [yB il h1] at ta
  exact ⟨a,bs,rfl,ta,k _ H (zD.refl H) rfl⟩
 ·cases e
end
section
variable {X:Cx}
def qh3 (K:Fr0):R2:=fun x y H Q=>∃ a b ys,x = .ref a/\y = .ref b/\SqT K H a []/\SqT K H b ys/\Q (.ref b) H
theorem qgX:OpR X (binaryOp .Add) (qh3 X.K):=by
 intro pins s Z H x y v u Q I rx ry h
 obtain ⟨a,b,ys,rfl,rfl,ha,hb,q⟩:=h
 cases rx
 cases ry
 obtain ⟨its,r1,p1,_⟩:=I.tuple ha
 obtain ⟨its2,r2,p2,_⟩:=I.tuple hb
 cases r1
 obtain ⟨⟨cls,dd,data,sl⟩,ho,hc,n,hd⟩:=id p1
 obtain ⟨⟨cls2,dd2,data2,sl2⟩,ho2,hc2,n2,hd2⟩:=id p2
 simp only at hc hd hc2 hd2
 subst hc hd hc2 hd2
 exact concat_meets ⟨_,ho,rfl⟩ ⟨_,ho2,rfl⟩ noFill_tuple_add seq_tuple_add PySem.F.slot_tuple_add PySem.F.entry_tuple_add (PySem.F.args_tuple_add_2 _ _)
   (tuple_addW0 a b [].toArray its2.toArray n n2 dd dd2 sl sl2 (by simp)) ⟨ho,ho2,⟨.ref b,H,I,rfl,q⟩⟩
def qlc (K:Fr0):R2:=fun x y H Q=>(∃ i j,x = .int i/\y = .int j/\Q (.int (i+j)) H)\/((∃ i j,x = .str i/\y = .str j/\i.length+j.length<=sizeLine/\Q (.str (i++j)) H)\/(qh3 K x y H Q\/(qkU K x y H Q\/qnB x y H Q)))
theorem zp:OpR X (binaryOp .Add) (qlc X.K):=OpR.or qkI (OpR.or qdZ (OpR.or qgX (OpR.or qi2 qkY)))
end
def zB:D->D->Option D
 | .int i,.int j=>some (.int (i+j))
 | .str x,.str y=>if qM (x.length+y.length) then some (.str (x++y)) else none
 | .tup xs,.tup ys=>if qM (xs.length+ys.length) then some (.tup (xs++ys)) else none
 | .lst xs,.lst ys=>if qM (xs.length+ys.length) then some (.lst (xs++ys)) else none
 | _,_=>none
theorem zq {K:Fr0}:OpS K zB (qlc K):=by
 intro A H x y d v u Q hn ix iy e k
 cases x<;>cases y<;>simp only [zB] at e<;>try (cases e;done)
 ·rename_i i j
  cases ix;cases iy;cases e
  exact .inl ⟨i,j,rfl,rfl,k _ H (zD.refl H) rfl⟩
 ·rename_i i j
  cases ix;cases iy
  obtain ⟨e1,e2⟩:=zx e
  subst e2
  exact .inr (.inl ⟨i,j,rfl,rfl,of_decide_eq_true e1,k _ H (zD.refl H) rfl⟩)
 ·rename_i ds es
  obtain ⟨a,xs,rfl,ta,il⟩:=ix
  obtain ⟨b,ys,rfl,tb,jl⟩:=iy
  obtain ⟨e1,e2⟩:=zx e
  subst e2
  have hs:xs.length+ys.length<=sizeLine:=by rw [il.length,jl.length];exact of_decide_eq_true e1
  refine .inr (.inr ?_)
  cases ds with
  | nil =>
   have hx:xs=[]:=il
   subst hx
   exact .inl ⟨a,b,ys,rfl,rfl,ta.sq,tb.sq,k _ H (zD.refl H) ⟨b,ys,rfl,tb,jl⟩⟩
  | cons d0 ds =>
   refine .inr (.inl ⟨a,b,xs,ys,rfl,rfl,ta.sq,tb.sq,?_,hs,fun hy => ?_,fun hy p hp => ?_⟩)
   ·obtain ⟨x,zs,hx,_⟩:=il
    rw [hx];simp
   ·subst hy
    cases es with
    | nil=>rw [List.append_nil] at k;exact k _ H (zD.refl H) ⟨a,xs,rfl,ta,il⟩
    | cons e0 es=>obtain ⟨_,_,hx,_⟩:=jl;cases hx
   ·exact k _ _ (qv hp _) ⟨p,xs++ys,rfl,.inl qk,IsL.ext (Ext.of_same (qv hp _)) (fun _ h _=>h) (IsL.append il jl)⟩
 ·rename_i ds es
  obtain ⟨a,xs,rfl,hA,ta,il⟩:=ix
  obtain ⟨b,ys,rfl,hB,tb,jl⟩:=iy
  obtain ⟨e1,e2⟩:=zx e
  subst e2
  have hs:xs.length+ys.length<=sizeLine:=by rw [il.length,jl.length];exact of_decide_eq_true e1
  exact .inr (.inr (.inr (.inr ⟨a,b,xs,ys,rfl,rfl,ta,tb,hs,fun p hp=>k _ _ (qv hp _) ⟨p,xs++ys,rfl,hn p hp,qk,IsL.ext (Ext.of_same (qv hp _)) (fun _ h _=>h) (IsL.append il jl)⟩⟩)))
section
variable {X:Cx}
def qnF (K:Fr0):V->Option Int->Option Int->Hp->VK->Prop:=fun x lo hi H Q=>∃ a xs,x = .ref a/\SqT K H a xs/\(HT.sIx xs.length 0 lo=0/\HT.sIx xs.length xs.length hi=xs.length)/\Q (.ref a) H
theorem uH {prog:Program} {w:World} {A:Around} {E:Value->Shared->Prop} {s:Shared} {t sl:Addr} {items:Array Value} {vl vu:Value} {lo hi:Option Int} {Q:Value->Shared->Prop} (ht:IsTup s.heap t items) (hs:s.heap.IsSliceOf sl vl vu .none) (pl:IsPart vl lo) (pu:IsPart vu hi)
  (hw:HT.sIx items.size 0 lo=0/\HT.sIx items.size items.size hi=items.size) (h:Q (.ref t) s):wpAny (model prog w) A (getItem (.ref t) (.ref sl)) Q E s:=by
 obtain ⟨os,hos,hcs,hds⟩:=id hs
 have hTs:s.TypeIs (.ref sl) "slice":=⟨os,hos,hcs⟩
 unfold getItem
 try with_reducible refine wpAny_holding ?_
 first | refine wpAny_bind (wpAny_pure ?_) | skip
 refine wpAny_bind (wpAny_sequenceKey ht.typeIs (by decide) ?_)
 refine wpAny_bind (wpAny_callSpecial?_slot (name:=Str.ofString "__getitem__") ht.typeIs PyProof.Rows.slot_tuple_getitem
  (wpAny_call_entry PyProof.Rows.slot_tuple_getitem ht.typeIs entry_tuple_getitem ?_ (args_tuple_getitem _ _)))
 show wpAny _ _ (Builtin.Tuple.tupleItemsOf (.ref t) >>= _) _ _ s
 refine wpAny_bind (tupleItemsOf_ ht ?_)
 refine wpAny_bind (wpAny_typeOf hTs ?_)
 rw [if_pos (by decide)]
 refine wpAny_bind (HT.sliceApplied_gen hs pl pu ?_)
 have hyes:(((HT.sIx items.size 0 lo:Nat):Int)==0&&(1:Int)==1&&(HT.sIx items.size items.size hi-HT.sIx items.size 0 lo)==items.size)=true:=by
  rw [hw.1,hw.2];simp
 show wpAny _ _ (if (((HT.sIx items.size 0 lo:Nat):Int)==0&&(1:Int)==1&&(HT.sIx items.size items.size hi-HT.sIx items.size 0 lo)==items.size)=true then _ else _) _ _ s
 rw [if_pos hyes]
 refine wpAny_bind (m:=Builtin.Tuple.tupleIsExact (.ref t)) ?_
 unfold Builtin.Tuple.tupleIsExact
 refine wpAny_bind (wpAny_typeOf ht.typeIs ?_)
 refine wpAny_pure ?_
 rw [if_pos (by decide)]
 exact wpAny_bind (wpAny_rule (wpAny_pure ⟨_,rfl,wpAny_pure h⟩))
theorem qgY:SlR X (qnF X.K):=by
 intro pins s Z H x v vl vu lo hi sl Q I rx hs pl pu h
 obtain ⟨a,xs,rfl,hx,hw,q⟩:=h
 cases rx
 obtain ⟨its,r,ht,hz⟩:=I.tuple hx
 have hlen:its.toArray.size=xs.length:=by rw [sT_];exact r.length.symm
 refine ⟨"tuple",_,PyProof.Rows.slot_tuple_getitem.lookup,ht.typeIs,?_⟩
 exact uH ht hs pl pu (by rw [hlen];exact hw) ⟨.ref a,H,I,rfl,q⟩
theorem qld:SlR X (fun x lo hi H Q=>qnF X.K x lo hi H Q\/qnA X.K x lo hi H Q):=SlR.or qgY sl_tup
end
def qey (xs:List D) (lo hi:Option Int):List D:=(xs.drop (HT.sIx xs.length 0 lo)).take (HT.sIx xs.length xs.length hi-HT.sIx xs.length 0 lo)
def slD (x:D) (lo hi:Option Int):Option D:=match x with
 | .tup ds=>some (.tup (qey ds lo hi))
 | _=>none
section
variable {X:Cx} {c:Fc} {a b e:Expr} {pos p2:Pos}
def DO (X:Cx) (c:Fc) (e:Option Expr) (f:M (Option Int)):Prop:=∃ t,PO X e t/\∀ U Z H Q,Rep X.K c U Z H->(∀ o U',f U = .ok (o,U')->∀ H',Rep X.K c U' Z H'->Gr c.O Z H H'->Q o H')->(∀ x U',f U = .exc x U'->∀ H',Rep X.K c U' Z H'->Gr c.O Z H H'->c.E x H')->f U ≠ .bad->t Z H Q
theorem qaZ:DO X c none (ret none):=⟨_,qi0,fun U Z H Q r h _ _=>h none U rfl H r .refl⟩
def asI:D->Option Int
 | .int i=>some i
 | _=>none
def uI (f:M D):M (Option Int):=bnd f fun d=>match d with
 | .int i=>ret (some i)
 | _=>fun _ => .bad
theorem qa0 {f:M D} (h:DE X c e f):DO X c (some e) (uI f):=by
 obtain ⟨t,p,w⟩:=h
 refine ⟨_,qi1 p,fun U Z H Q r h1 h2 h3=>w U Z H _ r ?_⟩
 unfold uI bnd at h1 h2 h3
 cases e1:f U with
 | ok q =>
  obtain ⟨d,U'⟩:=q
  rw [e1] at h1 h2 h3
  intro v H' r' i' g'
  cases d<;>simp only [ret] at h1 h2 h3<;>try (exact absurd rfl h3)
  rename_i i
  exact ⟨i,i',h1 (some i) U' rfl H' r' g'⟩
 | exc x U'=>rw [e1] at h2;exact fun H' r' g'=>h2 x U' rfl H' r' g'
 | bad=>rw [e1] at h3;exact absurd rfl h3
def dsl (f:M D) (g k:M (Option Int)):M D:=bnd f fun d=>bnd g fun l=>bnd k fun u=>lift (slD d l u)
end
def zE (X:Cx) (scope:Scope) (N':List Str) (fp:List Addr) (cl:List (Str×Addr)) (C:Addr) (s₀:Shared) (H₀:Hp) (pn:List (Addr×Obj)):Cx where
 prog:=X.prog
 w:=X.w
 K:=X.K
 mg:=X.mg
 base:=X.base
 A:=X.A
 N:=N'
 s₀:=s₀
 H₀:=H₀
 env:=compEnvC scope cl C X.env
 outer:=X.stack
 stack:=X.stack
 ex:=fp
 fn:=fun _=>false
 calm:=X.calm
 pn:=pn
 xe:=fun _ _=>False
def PF (X:Cx) (ifs:List Expr) (t:TT):Prop:=∀ (pins:List (Addr×Obj)) (s:Shared) (Z:St) (H:Hp) (Q:Bool->Hp->Prop),Inv X pins Z H s->t Z H Q ->
 wpAny (model X.prog X.w) X.A (forIn ifs true fun c r=>if r=true then do let ok <- isTrue c X.env (eval c X.env);pure (ForInStep.yield ok) else pure (ForInStep.yield r)) (TP X pins Z Q) X.xe s
theorem qle {X:Cx}:PF X [] (fun _ H Q=>Q true H):=fun pins s Z H Q I h=>wpAny_tests_nil ⟨H,I,h⟩
structure jE (X:Cx) (scope:Scope) (N':List Str) (nt:Nat) (fr:List Nat):Prop where
 kind:scope.kind = .function
 nocell:∀ y∈scope.names,y.2 ≠ .cell
 names:∀ y∈scope.names,y.2 = .local->scope.names.lookup y.1=some .local
 frees:∀ y∈scope.names,y.2 = .free->X.env.kindOf y.1=some .cell
 len:N'.length=nt+fr.length
 slot:∀ i j,fr[i]? = some j->∃ x,N'[nt+i]? = some x/\X.N[j]? = some x/\scope.names.lookup x=some .free
theorem vv {env:PySem.Env}:∀ (names:List (Str×NameKind)) (cs:List (Str×Addr)),(∀ y∈names,y.2 = .free->∃ a,env.cells.lookup y.1=some a)->(∀ n a,cs.lookup n=some a->env.cells.lookup n=some a) ->
  ∃ cl,(forIn names cs fun x r=>match x with | (name,kind)=>if (kind==NameKind.free)=true then do let a <- cellOf env name;pure (ForInStep.yield ((name,a)::r)) else pure (ForInStep.yield r):Sem (List (Str×Addr)))=pure cl /\
   (∀ n a,cl.lookup n=some a->env.cells.lookup n=some a)/\(∀ n,(∃ a,cs.lookup n=some a)->∃ a,cl.lookup n=some a)/\∀ y∈names,y.2 = .free->∃ a,cl.lookup y.1=some a
 | [],cs,_,h=>⟨cs,rfl,h,fun _ h=>h,fun y hy=>by cases hy⟩
 | (n,k)::r,cs,hf,h=>by
  have hr:∀ y∈r,y.2 = .free->∃ a,env.cells.lookup y.1=some a:=fun y hy=>hf y (mM _ hy)
  rw [List.forIn_cons]
  by_cases hk:k = .free
  ·subst hk
   obtain ⟨a,ha⟩:=hf (n,.free) mS_ rfl
   have ha':env.cells.lookup n=some a:=ha
   have hcell:cellOf env n=pure a:=by unfold cellOf;rw [ha']
   obtain ⟨cl,e1,e2,e3,e4⟩:=vv r ((n,a)::cs) hr (fun m b hm=>by
    rw [List.lookup_cons] at hm
    cases e:m==n with
    | true=>rw [e] at hm;cases hm;rw [eq_of_beq e];exact ha'
    | false=>rw [e] at hm;exact h m b hm)
   refine ⟨cl,?_,e2,fun m ⟨b,hm⟩=>e3 m ?_,fun y hy hyf => ?_⟩
   ·show ((if (NameKind.free==NameKind.free)=true then _ else _) >>= _)=_
    rw [if_pos (by rfl),hcell]
    exact e1
   ·rw [List.lookup_cons]
    cases e:m==n with
    | true=>exact ⟨a,rfl⟩
    | false=>exact ⟨b,hm⟩
   ·rcases List.mem_cons.mp hy with rfl | hy
    ·exact e3 n ⟨a,by rw [List.lookup_cons];simp⟩
    ·exact e4 y hy hyf
  ·have hb:(k==NameKind.free)=false:=by simpa using hk
   obtain ⟨cl,e1,e2,e3,e4⟩:=vv r cs hr h
   refine ⟨cl,?_,e2,e3,fun y hy hyf => ?_⟩
   ·show ((if (k==NameKind.free)=true then _ else _) >>= _)=_
    rw [hb,if_neg Bool.false_ne_true]
    exact e1
   ·rcases List.mem_cons.mp hy with rfl | hy
    ·exact absurd hyf hk
    ·exact e4 y hy hyf
theorem uU {env:PySem.Env} {scope:Scope} (hf:∀ y∈scope.names,y.2 = .free->∃ a,env.cells.lookup y.1=some a) :
  ∃ cl,closureFor scope env=pure cl/\(∀ n a,cl.lookup n=some a->env.cells.lookup n=some a)/\∀ y∈scope.names,y.2 = .free->∃ a,cl.lookup y.1=some a:=by
 obtain ⟨cl,e1,e2,_,e4⟩:=vv scope.names [] hf (fun n a h=>by cases h)
 refine ⟨cl,?_,e2,e4⟩
 unfold closureFor
 show (forIn scope.names [] _ >>= _)=_
 have e5:(forIn scope.names [] fun x r=>match x with | (name,kind)=>if (kind==NameKind.free)=true then do let a <- cellOf env name;pure (ForInStep.yield ((name,a)::r)) else pure (ForInStep.yield r):Sem (List (Str×Addr)))=pure cl:=e1
 first
  | (rw [e5];rfl)
  | (simp only [bind_pure_comp,e5];rfl)
theorem ye {env:PySem.Env}:∀ {names:List (Str×NameKind)} {x:Str},names.lookup x=some .free->env.scope.kind = .function->env.kindOf x=some .cell ->
  (names.map fun (n,k)=>if (k==NameKind.free&&env.scope.kind == .function&&env.kindOf n==some .cell) then (n,NameKind.cell) else (n,k)).lookup x=some .cell
 | [],_,h,_,_=>by simp at h
 | (n,k)::r,x,h,hk,hx=>by
  have ih := @ye env r x
  show List.lookup x ((if (k==NameKind.free&&env.scope.kind == .function&&env.kindOf n==some .cell)=true then (n,NameKind.cell) else (n,k))::_)=_
  cases hxn:x==n with
  | true =>
   have e:x=n:=eq_of_beq hxn
   subst e
   simp only [List.lookup_cons,hxn] at h
   cases h
   rw [if_pos (by rw [hk,hx];rfl)]
   simp only [List.lookup_cons,hxn]
  | false =>
   simp only [List.lookup_cons,hxn] at h
   by_cases hc:(k==NameKind.free&&env.scope.kind == .function&&env.kindOf n==some .cell)=true
   ·rw [if_pos hc];simp only [List.lookup_cons,hxn];exact ih h hk hx
   ·rw [if_neg hc];simp only [List.lookup_cons,hxn];exact ih h hk hx
theorem jr {env:PySem.Env}:∀ {names:List (Str×NameKind)} {x:Str} {q:NameKind},(names.map fun (n,k)=>if (k==NameKind.free&&env.scope.kind == .function&&env.kindOf n==some .cell) then (n,NameKind.cell) else (n,k)).lookup x=some q ->
  q = .cell\/q = .free->(∀ y∈names,y.2 ≠ .cell)->∃ k,(x,k)∈names/\k = .free
 | [],_,_,h,_,_=>by simp at h
 | (n,k)::r,x,q,h,hq,hc=>by
  have ih := @jr env r x q
  have h':List.lookup x ((if (k==NameKind.free&&env.scope.kind == .function&&env.kindOf n==some .cell)=true then (n,NameKind.cell) else (n,k))::(r.map fun (n,k)=>if (k==NameKind.free&&env.scope.kind == .function&&env.kindOf n==some .cell) then (n,NameKind.cell) else (n,k)))=some q:=h
  have hr:∀ y∈r,y.2 ≠ .cell:=fun y hy=>hc y (mM _ hy)
  by_cases hcd:(k==NameKind.free&&env.scope.kind == .function&&env.kindOf n==some .cell)=true
  ·rw [if_pos hcd] at h'
   cases hxn:x==n with
   | true =>
    have e:x=n:=eq_of_beq hxn
    subst e
    refine ⟨k,mS_,?_⟩
    rw [Bool.and_eq_true,Bool.and_eq_true] at hcd
    exact eq_of_beq hcd.1.1
   | false =>
    simp only [List.lookup_cons,hxn] at h'
    obtain ⟨k',m,e⟩:=ih h' hq hr
    exact ⟨k',mM _ m,e⟩
  ·rw [if_neg hcd] at h'
   cases hxn:x==n with
   | true =>
    have e:x=n:=eq_of_beq hxn
    subst e
    simp only [List.lookup_cons,hxn] at h'
    cases h'
    rcases hq with rfl | rfl
    ·exact absurd rfl (hc (x,.cell) mS_)
    ·exact ⟨.free,mS_,rfl⟩
   | false =>
    simp only [List.lookup_cons,hxn] at h'
    obtain ⟨k',m,e⟩:=ih h' hq hr
    exact ⟨k',mM _ m,e⟩
def qH (nt:Nat) (fr:List Nat) (Z:St):St:=List.replicate nt none++fr.map fun j=>(Z[j]?).join
def qjf (X:Cx) (tg:Expr) (ifs:List Expr) (elt:Expr) (scope:Scope) (N':List Str) (wi:TI) (nt:Nat) (fr:List Nat):TE:=fun Z H Q=>wi Z H fun J H1=>∀ acc fp cl C s₀ H₀ pn,H1 acc=none ->
 ∃ (g:TG) (tt:TT) (te:TE),PG (zE X scope N' fp cl C s₀ H₀ pn) tg g/\PF (zE X scope N' fp cl C s₀ H₀ pn) ifs tt/\PE (zE X scope N' fp cl C s₀ H₀ pn) elt te /\
 ∃ W:Nat->Nat->St->Hp->Prop,(∃ m,W 0 m (qH nt fr Z) (upd H1 acc (.lst []))) /\
 ∀ i m Z' H',W i m Z' H'->(J.stop i H'/\Q (.ref acc) H')\/(J.go i H'/\∀ x H'',J.yld i H' x H''->g x Z' H'' fun Z2 H2=>tt Z2 H2 fun b H3 =>
  if b=true then te Z2 H3 fun y H4=>∃ ys,H4 acc=some (.lst ys)/\ys.length<sizeLine/\∃ m',m'<m/\W (i+1) m' Z2 (upd H4 acc (.lst (ys++[y]))) else ∃ m',m'<m/\W (i+1) m' Z2 H3)
section
variable {X:Cx} {tg iter elt:Expr} {ifs:List Expr} {scope:Scope} {pos:Pos} {wi:TI} {N':List Str} {nt:Nat} {fr:List Nat}
theorem wC {prog:Program} {w:World} {A:Around} {R:Result->Shared->Prop} {s:Shared} {it acc:Value} {env:PySem.Env} (I:Nat->Shared->Prop)
  (turn : ∀ n s,I n s->wpAny (model prog w) A (pyNext it) (fun r sJ=>match r with
   | none=>R (.ok .next) sJ
   | some v=>wpAny (model prog w) A (letOwnedTupleGo tg it v) (fun _ s1'=>wpAny (model prog w) A (assign tg env v) (fun _ sQ =>
     wpAny (model prog w) A (forIn ifs true fun c r=>if r=true then do let ok <- isTrue c env (eval c env);pure (ForInStep.yield ok) else pure (ForInStep.yield r)) (fun ok sV =>
      if ok=true then wpAny (model prog w) A (eval elt env) (fun x sK =>
       wpAny (model prog w) A (call (.builtin "list.append") [acc,x]) (fun _ sY=>∃ m,m<n/\I m sY) (fun _ _=>False) sK) (fun _ _=>False) sV
      else ∃ m,m<n/\I m sV) (fun _ _=>False) sQ) (fun _ _=>False) s1') (fun _ _=>False) sJ) (fun _ _=>False) s)
  (n:Nat) (h:I n s):codeAny (model prog w) A (.compLoop (.ListComp elt [⟨tg,iter,ifs,0⟩] scope pos) 0 it acc env) R s:=by
 refine codeAny_loop rfl I (fun n s hI => ?_) n h
 show wpAny _ A ((compTurn (.ListComp elt [⟨tg,iter,ifs,0⟩] scope pos) 0 it acc env).onRaise (fun x=>do noteFrame x env;theTreesLotGoes x)) _ _ s
 refine wpAny_noted ?_
 rw [compTurn_list]
 refine wpAny_bind (wpAny_standAt (wpAny_bind (wpAny_mono (turn n s hI) (fun r sJ hV => ?_) fun _ _ h'=>h'.elim)))
 cases r with
 | none=>exact wpAny_pure hV
 | some v =>
  refine wpAny_bind (wpAny_mono hV (fun _ s1' hK' => ?_) fun _ _ h'=>h'.elim)
  refine wpAny_bind (wpAny_mono hK' (fun _ sQ hX=>wpAny_bind (wpAny_mono hX (fun ok sV hJ => ?_) fun _ _ h'=>h'.elim)) fun _ _ h'=>h'.elim)
  cases ok with
  | false=>exact wpAny_pure ⟨rfl,hJ⟩
  | true =>
   exact wpAny_bind (wpAny_bind (wpAny_mono hJ (fun x sK h₄=>wpAny_bind (wpAny_mono h₄ (fun _ sY hG=>wpAny_pure (wpAny_pure ⟨rfl,hG⟩)) fun _ _ h'=>h'.elim)) fun _ _ h'=>h'.elim))
theorem qav {pins:List (Addr×Obj)} {Z:St} {H:Hp} {s:Shared} {hV:Heap} {tk:Nat} {fp:List Addr} {cl:List (Str×Addr)} (S:jE X scope N' nt fr) (I:Inv X pins Z H s) (hfp:∀ b∈fp,qcm X pins H b)
  (hex:∀ b∈fp,∃ o,s.heap.get? b=some o) (cl1:∀ n a,cl.lookup n=some a->X.env.cells.lookup n=some a) (cl2:∀ y∈scope.names,y.2 = .free->∃ a,cl.lookup y.1=some a)
  (hns:∃ m,hV.Ns s.heap.objs.size m) (old:∀ b o,s.heap.get? b=some o->hV.get? b=some o) :
  Inv (zE X scope N' fp cl s.heap.objs.size s H (X.pn++pins)) [] (qH nt fr Z) H { s with heap:=hV,toks:=tk }:=by
 have stkB:∀ b∈frs X.stack,b=X.env.locals\/b∈X.fs:=fun b hb=>List.mem_cons.mp (I.stkSub b hb)
 have hC:∀ b o,s.heap.get? b=some o->b≠s.heap.objs.size:=fun b o e=>Nat.ne_of_lt (Heap.lt_size e)
 obtain ⟨m,hn⟩:=hns
 refine ⟨⟨I.ok.mod,S.kind,I.ok.glob,I.ok.blt,Nat.le_refl _,fun x y c h1 h2=>I.ok.inj x y c (cl1 x c h1) (cl1 y c h2),fun x hx => ?_,fun x c hx => ?_,I.ok.hd,I.ok.frames,.inl rfl,fun b hb=>⟨?_,fun x c hx=>(hfp b hb).2.2.2.2.1 x c (cl1 x c hx)⟩,I.bs,Nat.le_trans I.ok.bsz I.sz,fun b o e hb => ?_,fun b hb hb2 => ?_,I.stack,I.stkFree⟩,
  rfl,I.bare,Un.kept old,⟨m,hn,fun i x v h1 h2 h3 => ?_⟩,fun x c hx => ?_,I.hok.fresh (Nat.le_refl _),fun x c hx=>I.freeC x c (cl1 x c hx),fun p hp => ?_,I.hok.kept old,?_⟩
 ·have hx':∃ k,(x,k)∈scope.names/\k = .free:=by
   rcases hx with hx | hx
   ·exact jr (env:=X.env) (q := .cell) hx (.inl rfl) S.nocell
   ·exact jr (env:=X.env) (q := .free) hx (.inr rfl) S.nocell
  obtain ⟨k,m,rfl⟩:=hx'
  exact cl2 (x,.free) m rfl
 ·have hx':false=true:=hx
  cases hx'
 ·obtain ⟨o,e⟩:=hex b hb
  exact hC b o e
 ·obtain ⟨f0,f1,f2,f3,f4,f5⟩:=hfp b hb
  rcases f3 with z | z
  ·exact I.ok.noex b o e z
  ·exact absurd (Nat.lt_of_lt_of_le (Heap.lt_size e) (Nat.le_trans I.ok.bsz z)) (Nat.lt_irrefl _)
 ·obtain ⟨f0,f1,f2,f3,f4,f5⟩:=hfp b hb
  rcases stkB b hb2 with z | z
  ·exact f1 z
  ·exact f2 z
 ·-- names
  have hi:nt<=i:=by
   apply Nat.le_of_not_lt
   intro hlt
   unfold qH at h2
   rw [List.getElem?_append_left (by simpa using hlt),List.getElem?_replicate] at h2
   split at h2<;>cases h2
  have h2':(fr.map fun j=>(Z[j]?).join)[i-nt]? = some (some v):=by
   unfold qH at h2
   rw [List.getElem?_append_right (by simpa using hi),List.length_replicate] at h2
   exact h2
  rw [gM_] at h2'
  cases ej:fr[i-nt]? with
  | none=>rw [ej] at h2';cases h2'
  | some j =>
   rw [ej] at h2'
   have hσ:(Z[j]?).join=some v:=by simpa using h2'
   have hσ':Z[j]? = some (some v):=by
    cases e:Z[j]? with
    | none=>rw [e] at hσ;cases hσ
    | some o =>
     rw [e] at hσ
     have:o=some v:=hσ
     rw [this]
   obtain ⟨y,hy1,hy2,hy3⟩:=S.slot (i-nt) j ej
   have hii:nt+(i-nt)=i:=by omega
   rw [hii] at hy1
   have exy:y=x:=by
    have h1':N'[i]? = some x:=h1
    rw [h1'] at hy1
    exact (Option.some.inj hy1).symm
   subst exy
   have hmem:(y,NameKind.free)∈scope.names:=PySem.mem_of_lookup hy3
   have hcellk:X.env.kindOf y=some .cell:=S.frees (y,.free) hmem rfl
   obtain ⟨m0,hn0,hl0⟩:=I.loc
   obtain ⟨u,ru,lk⟩:=hl0 j y v hy2 hσ' (.inr (.inl hcellk))
   refine ⟨u,ru,.inr ⟨.inl (ye hy3 I.ok.kind hcellk),?_⟩⟩
   rcases lk with ⟨k1,_⟩ | ⟨_,c,e,z⟩
   ·rw [hcellk] at k1;cases k1
   ·obtain ⟨a,ea⟩:=cl2 (y,.free) hmem rfl
    have ea':=cl1 y a ea
    rw [e] at ea'
    cases ea'
    obtain ⟨o,ho,hd⟩:=z
    exact ⟨c,ea,o,old _ _ ho,hd⟩
 ·obtain ⟨v,o,ho,hd⟩:=I.cell x c (cl1 x c hx)
  exact ⟨v,o,old _ _ ho,hd⟩
 ·have hp':p∈X.pn++pins:=by
   rcases mA_.mp (show p∈(X.pn++pins)++[] from hp) with z | z
   ·exact z
   ·cases z
  obtain ⟨e,n,ne,nf,d⟩:=I.pin p hp'
  refine ⟨old _ _ e,n,hC _ _ e,fun z => ?_,d⟩
  rcases stkB p.1 z with z | z
  ·exact ne z
  ·exact nf z
 ·show (qH nt fr Z).length=N'.length
  unfold qH
  rw [lA_,List.length_replicate,lM_,S.len]
theorem qdc {pins:List (Addr×Obj)} {Z Z':St} {H H':Hp} {s s':Shared} {h':Heap} {fp:List Addr} {cl:List (Str×Addr)} (I:Inv X pins Z H s) (hfp:∀ b∈fp,qcm X pins H b)
  (J:Inv (zE X scope N' fp cl s.heap.objs.size s H (X.pn++pins)) [] Z' H' s') (sb:Heap.SameBut s.heap.objs.size s'.heap h'):Inv X pins Z H' { s' with heap:=h' }:=by
 have hC:H' s.heap.objs.size=none:=J.free
 have u:=J.base
 have big:∀ b o,s.heap.get? b=some o->b≠s.heap.objs.size:=fun b o e=>Nat.ne_of_lt (Heap.lt_size e)
 have get':∀ b,b≠s.heap.objs.size->h'.get? b=s'.heap.get? b:=fun b hb=>sb.2 b hb
 have u2:Un (frs X.stack) fp H H' s.heap h' :=
  ⟨fun b o e n hb hx=>(get' b (big b o e)).trans (u.keep b o e n hb hx),fun b o e n hb hx=>by
   obtain ⟨sl,q⟩:=u.slot b o e n hb hx
   exact ⟨sl,(get' b (big b o e)).trans q⟩,u.free,fun b o e hx=>by
   obtain ⟨o',q⟩:=u.there b o e hx
   exact ⟨o',(get' b (big b o e)).trans q⟩,u.tups,u.frzs,u.tbls⟩
 refine I.call' (s':={ s' with heap:=h' }) (ch:=fp) J.os u2 (fun b o e => ?_) J.bare (fun b hb => ?_)
 ·refine (J.hok b o e).stay (fun c v hc q => ?_) (fun _ q=>q) fun _ _ q=>q
  refine (get' c ?_).trans q
  rintro rfl
  rcases hc with hc | hc
  ·rw [<- hc,hC] at e;cases e
  ·rw [hC] at hc;cases hc
 ·obtain ⟨f0,f1,f2,f3,f4,f5⟩:=hfp b hb
  exact ⟨f3,f1,f4,f5⟩
theorem qjg (hc:X.calm=true) (hi:PI X tg iter wi) (S:jE X scope N' nt fr)
  (hs:∀ x,foldedSetIterable iter X.env x=pure x:=by intro _;rfl):PE X (.ListComp elt [⟨tg,iter,ifs,0⟩] scope pos) (qjf X tg ifs elt scope N' wi nt fr):=by
 intro pins s Z H Q I hw
 obtain ⟨cl,hcl,cl1,cl2⟩:=uU (env:=X.env) (scope:=scope) (fun y hy hf=>I.ok.has y.1 (.inl (S.frees y hy hf)))
 rw [eval_ListComp]
 refine wpAny_comprehension_free (use:=none) rfl hs hcl S.kind S.names (thn (hi pins s Z H _ I hw) fun v s1 h1=>thn h1 fun itv s2 h2 => ?_)
 obtain ⟨it,fp,tn,J,H2,e,I2,T,st2,f2,hR⟩:=h2
 subst e
 have hacc:H2 s2.heap.objs.size=none:=I2.hok.fresh (Nat.le_refl _)
 refine wpAny_newObj_type (wpAny_newFunctionEnv S.nocell (by intro y hy;simp at hy) (fun hV hns1 hsb1 => ?_) S.kind)
 dsimp only at hns1 hsb1 |-
 have I3:Inv X pins Z (upd H2 s2.heap.objs.size (.lst [])) { s2 with heap:=s2.heap.push { cls := .type "list",dict:=none,data := .seq ([]:List Value).toArray } } :=
  I2.lnew (t':=s2.toks) (its:=[]) .nil (Nat.zero_le _)
 generalize hs3:({ s2 with heap:=s2.heap.push { cls := .type "list",dict:=none,data := .seq ([]:List Value).toArray } }:Shared)=s3 at I3
 have hh3:s2.heap.push { cls := .type "list",dict:=none,data := .seq ([]:List Value).toArray }=s3.heap:=by rw [<- hs3]
 rw [hh3] at hns1 hsb1
 have old:∀ b o,s3.heap.get? b=some o->hV.get? b=some o:=fun b o q=>hsb1.extBut b o (Nat.ne_of_lt (Heap.lt_size q)) (Heap.get?_push_of_some _ q)
 have objs2:∀ b∈fp,∃ o,s2.heap.get? b=some o:=fun b hb=>by
  obtain ⟨o,q,_⟩:=T.obj 0 _ st2 b hb
  exact ⟨o,q⟩
 have keep23:∀ b o,s2.heap.get? b=some o->s3.heap.get? b=some o:=fun b o q=>by rw [<- hh3];exact Heap.get?_push_of_some _ q
 have fpne:∀ b∈fp,b≠s2.heap.objs.size:=fun b hb=>by
  obtain ⟨o,q⟩:=objs2 b hb
  exact Nat.ne_of_lt (Heap.lt_size q)
 have f3:∀ b∈fp,qcm X pins (upd H2 s2.heap.objs.size (.lst [])) b:=fun b hb=>⟨by rw [qj (fpne b hb)];exact (f2 b hb).1,(f2 b hb).2⟩
 have J0:Inv (zE X scope N' fp cl s3.heap.objs.size s3 (upd H2 s2.heap.objs.size (.lst [])) (X.pn++pins)) [] (qH nt fr Z) (upd H2 s2.heap.objs.size (.lst [])) { s3 with heap:=hV,toks:=s3.toks } :=
  qav S I3 f3 (fun b hb=>(objs2 b hb).imp fun o q=>keep23 b o q) cl1 cl2 ⟨_,hns1⟩ old
 obtain ⟨g,tt,te,hg,hf,he,W,⟨m0,w0⟩,turn⟩:=hR s2.heap.objs.size fp cl s3.heap.objs.size s3 (upd H2 s2.heap.objs.size (.lst [])) (X.pn++pins) hacc
 have T0:tn 0 hV:=T.keep 0 _ _ st2 fun b hb o q=>old b o (keep23 b o q)
 have s3e:∀ tk:Nat,({ s2 with heap:=hV,toks:=tk }:Shared)={ s3 with heap:=hV,toks:=tk }:=fun tk=>by rw [<- hs3]
 have loop:∀ tk:Nat,codeAny (model X.prog X.w) X.A (.compLoop (.ListComp elt [⟨tg,iter,ifs,0⟩] scope pos) 0 (.ref it) (.ref s2.heap.objs.size) (compEnvC scope cl s3.heap.objs.size X.env))
   (compPost (model X.prog X.w) X.A X.xe none (EP X pins Z Q) (.ref s2.heap.objs.size) s3.heap.objs.size) { s3 with heap:=hV,toks:=tk }:=fun tk=>by
  have stat:∀ {H':Hp},(∀ b∈fp,H' b=none)->∀ b∈fp,qcm (zE X scope N' fp cl s3.heap.objs.size s3 (upd H2 s2.heap.objs.size (.lst [])) (X.pn++pins)) [] H' b:=fun {H'} hn b hb=>by
   obtain ⟨o,q⟩:=objs2 b hb
   have hbC:b≠s3.heap.objs.size:=Nat.ne_of_lt (Heap.lt_size (keep23 b o q))
   refine ⟨hn b hb,hbC,fun z => ?_,.inl hb,fun x c hx=>(f2 b hb).2.2.2.2.1 x c (cl1 x c hx),fun p hp => ?_⟩
   ·rcases List.mem_cons.mp (I2.stkSub b z) with z | z
    ·exact (f2 b hb).2.1 z
    ·exact (f2 b hb).2.2.1 z
   ·have hp':p∈X.pn++pins:=by
     rcases mA_.mp (show p∈(X.pn++pins)++[] from hp) with z | z
     ·exact z
     ·cases z
    exact (f2 b hb).2.2.2.2.2 p hp'
  have fr0:∀ b∈fp,upd H2 s2.heap.objs.size (.lst []) b=none:=fun b hb=>(f3 b hb).1
  refine wC (fun n s'=>∃ i Z' H',Inv (zE X scope N' fp cl s3.heap.objs.size s3 (upd H2 s2.heap.objs.size (.lst [])) (X.pn++pins)) [] Z' H' s'/\tn i s'.heap/\(∀ b∈fp,H' b=none)/\W i n Z' H') ?_ m0
   ⟨0,qH nt fr Z,_,J0.tok tk,T0,fr0,w0⟩
  rintro n s4 ⟨i,Z4,H4,J4,st4,fr4,w4⟩
  rcases turn i n Z4 H4 w4 with ⟨stop,qn⟩ | ⟨go,step⟩
  ·refine thn (T.done (zE X scope N' fp cl s3.heap.objs.size s3 (upd H2 s2.heap.objs.size (.lst [])) (X.pn++pins)) rfl rfl rfl hc i [] s4 Z4 H4 _ J4 (stat fr4) st4 stop) fun r s5 ⟨hr,J5⟩ => ?_
   subst hr
   obtain ⟨m5,n5,_⟩:=J5.loc
   refine ⟨m5,n5,fun h' sb=>⟨.ref s2.heap.objs.size,H4,qdc I3 f3 J5 sb,rfl,qn⟩⟩
  ·refine thn (T.item (zE X scope N' fp cl s3.heap.objs.size s3 (upd H2 s2.heap.objs.size (.lst [])) (X.pn++pins)) rfl rfl rfl hc i [] s4 Z4 H4 _ J4 (stat fr4) st4 go) fun r s5 ⟨u,hr,h5⟩ => ?_
   subst hr
   refine thn h5 fun _ s6 ⟨x,H6,J6,r6,y6,st6,fr6⟩ => ?_
   have J6':=J6.pinned (stat fr6) (T.obj _ _ st6)
   have again:∀ {Z7:St} {H7:Hp} {s7:Shared},Inv (zE X scope N' fp cl s3.heap.objs.size s3 (upd H2 s2.heap.objs.size (.lst [])) (X.pn++pins)) ([]++qao fp s6.heap) Z7 H7 s7->(∃ m',m'<n/\W (i+1) m' Z7 H7) ->
     ∃ m,m<n/\∃ i Z' H',Inv (zE X scope N' fp cl s3.heap.objs.size s3 (upd H2 s2.heap.objs.size (.lst [])) (X.pn++pins)) [] Z' H' s7/\tn i s7.heap/\(∀ b∈fp,H' b=none)/\W i m Z' H':=fun {Z7 H7 s7} I7 hm=>by
    obtain ⟨m',hm,w7⟩:=hm
    refine ⟨m',hm,i+1,Z7,H7,I7.unpinned,T.keep _ _ _ st6 fun b hb o q=>(I7.pin (b,o) (mr_ _ (mr_ _ (jT hb q)))).1,fun b hb => ?_,w7⟩
    obtain ⟨o,q,d⟩:=T.obj _ _ st6 b hb
    exact (I7.pin (b,o) (mr_ _ (mr_ _ (jT hb q)))).2.1
   refine thn (hg _ s6 Z4 H6 x u _ J6' r6 (step x H6 y6)) fun _ s7 ⟨Z7,H7,J7,q7⟩ => ?_
   refine thn (hf _ s7 Z7 H7 _ J7 q7) fun ok s8 ⟨H8,J8,q8⟩ => ?_
   cases ok with
   | false =>
    rw [if_neg Bool.false_ne_true] at q8 |-
    exact again J8 q8
   | true =>
    rw [if_pos rfl] at q8 |-
    refine thn (he _ s8 Z7 H8 _ J8 q8) fun z s9 ⟨y,H9,J9,r9,ys,hys,hz,hm⟩ => ?_
    refine thn (ud _ s9 Z7 H9 (.ref s2.heap.objs.size) [y] (.ref s2.heap.objs.size) [z] (fun _ H'=>H'=upd H9 s2.heap.objs.size (.lst (ys++[y]))) J9 rfl (.cons r9 .nil) ⟨_,ys,y,rfl,rfl,hys,hz,rfl⟩) fun _ s10 ⟨_,H10,J10,_,e10⟩ => ?_
    subst e10
    exact again J10 hm
 have zP:∀ tk:Nat,codeAny (model X.prog X.w) X.A (.compStart (.ListComp elt [⟨tg,iter,ifs,0⟩] scope pos) 0 (.ref it) (.ref s2.heap.objs.size) (compEnvC scope cl s3.heap.objs.size X.env))
   (compPost (model X.prog X.w) X.A X.xe none (EP X pins Z Q) (.ref s2.heap.objs.size) s3.heap.objs.size) { s3 with heap:=hV,toks:=tk }:=fun tk =>
  codeAny_compStart_list (loop tk) (T.self X.A 0 _ _ _ T0 (loop tk))
 have fin:=zP (s2.toks+([]:List (Str×Value)).length)
 rw [<- s3e] at fin
 rw [<- hh3] at fin
 rw [hh3] at fin |-
 exact fin
end
structure qh4 (K:Fr0) (A:Addr->Prop) (H:Hp) (ds:List D) (J:It):Prop where
 go:∀ H' i d,Ext A H H'->ds[i]? = some d->J.go i H'
 yl:∀ H' i d x H'',Ext A H H'->ds[i]? = some d->J.yld i H' x H''->zD H' H''/\Is K A H'' d x
 stop:∀ H',Ext A H H'->J.stop ds.length H'
def CnT (c:Fc) (Z:St) (H:Hp) (a:Addr):Prop:=Cn c Z a/\(H a).isSome=true
def WpI (K:Fr0) (c:Fc) (Z:St) (H:Hp) (Q:It->Hp->Prop):R (List D×Env)->Prop
 | .ok (ds,U)=>∀ J H',Rep K c U Z H'->qh4 K (CnT c Z H') H' ds J->Gr c.O Z H H'->Q J H'
 | .exc x U=>∀ H',Rep K c U Z H'->Gr c.O Z H H'->c.E x H'
 | .bad=>False
def DI (X:Cx) (c:Fc) (tg it:Expr) (f:M (List D)):Prop:=∃ w,PI X tg it w/\∀ U Z H Q,Rep X.K c U Z H->WpI X.K c Z H Q (f U)->w Z H Q
section
variable {X:Cx} {c:Fc} {tg a b e:Expr} {pos:Pos}
def qog (K:Fr0) (tl:TE):TI:=fun Z H R=>tl Z H fun x H1=>(∃ a,x = .ref a/\(∃ xs,SqL K H1 a xs)/\R (Itl K a) H1)\/(∃ a,x = .ref a/\(∃ xs,SqT K H1 a xs)/\R (Itt K a) H1)
theorem qlf {tl:TE} (hl:PE X e tl):PI X tg e (qog X.K tl):=by
 intro pins s Z H R I h
 refine thn (hl pins s Z H _ I h) fun v s1 ⟨x,H1,I1,r1,q1⟩ => ?_
 rcases q1 with ⟨a,e,⟨xs,hq⟩,q⟩ | ⟨a,e,⟨xs,hq⟩,q⟩
 ·subst e
  cases r1
  obtain ⟨its,rv,p,hz⟩:=I1.list hq
  refine wpAny_pyIter_list p.isList ?_
  refine ⟨s1.heap.objs.size,[s1.heap.objs.size],_,_,H1,rfl,I1.kept (t':=s1.toks) fun b o e=>Heap.get?_push_of_some _ e,qeG a _,⟨_,Heap.get?_push_size _ rfl,rfl,rfl⟩,fun b hb => ?_,q⟩
  have e:b=s1.heap.objs.size:=by simpa using hb
  subst e
  exact I1.fpOk (Nat.le_refl _) (I1.hok.fresh (Nat.le_refl _))
 ·subst e
  cases r1
  obtain ⟨its,rv,p,hz⟩:=I1.tuple hq
  refine wpAny_pyIter_tuple (show s1.heap.IsTuple a its.toArray from p) ?_
  refine ⟨s1.heap.objs.size,[s1.heap.objs.size],_,_,H1,rfl,I1.kept (t':=s1.toks) fun b o e=>Heap.get?_push_of_some _ e,qdX a _,⟨_,Heap.get?_push_size _ rfl,rfl,rfl⟩,fun b hb => ?_,q⟩
  have e:b=s1.heap.objs.size:=by simpa using hb
  subst e
  exact I1.fpOk (Nat.le_refl _) (I1.hok.fresh (Nat.le_refl _))
def qlg:D->Option (List D)
 | .tup ds=>some ds
 | .lst ds=>some ds
 | .fz ns=>some (ns.map .int)
 | _=>none
theorem SqL.inj {K:Fr0} {H:Hp} {a:Addr} {xs ys:List V} (h:H a=some (.lst xs)) (q:SqL K H a ys) (hk:∀ o,K.lookup a=some o->False):ys=xs:=by
 rcases q with (q | ⟨o,q⟩) | ⟨o,_,_,q,_⟩
 ·rw [h] at q;cases q;rfl
 ·rw [h] at q;cases q
 ·exact (hk o q).elim
theorem qa1 {K:Fr0} {A:Addr->Prop} {H:Hp}:∀ ns:List Int,IsL K A H (ns.map .int) (ns.map V.int)
 | []=>rfl
 | n::ns=>⟨.int n,ns.map V.int,rfl,rfl,qa1 ns⟩
theorem qfd {K:Fr0} {A:Addr->Prop} {H:Hp} {ds:List D} {xs:List V} {a:Addr} (hs:∀ H',Ext A H H'->SqL K H' a xs) (il:IsL K A H ds xs):qh4 K A H ds (Itl K a) where
 go:=fun H' i d ex hd=>by
  obtain ⟨x,h1,h2⟩:=il.get hd
  exact ⟨xs,x,hs H' ex,h1⟩
 yl:=fun H' i d x H'' ex hd y=>by
  obtain ⟨e,y⟩:=y
  subst e
  obtain ⟨x',h1,h2⟩:=il.get hd
  have h3:=y xs (hs _ ex)
  rw [h1] at h3
  cases h3
  exact ⟨zD.refl _,Is.ext ex (fun _ h _=>h) h2⟩
 stop:=fun H' ex=>⟨xs,hs H' ex,by rw [il.length];exact Nat.le_refl _⟩
theorem qlh {K:Fr0} {A:Addr->Prop} {H:Hp} {ds:List D} {xs:List V} {a:Addr} (hs:TupAt K H a xs) (il:IsL K A H ds xs):qh4 K A H ds (Itt K a) where
 go:=fun H' i d ex hd=>by
  obtain ⟨x,h1,h2⟩:=il.get hd
  exact ⟨xs,x,(hs.elim (fun h => .inl (ex.tup _ _ h)) .inr:TupAt K H' a xs).sq,h1⟩
 yl:=fun H' i d x H'' ex hd y=>by
  obtain ⟨e,y⟩:=y
  subst e
  obtain ⟨x',h1,h2⟩:=il.get hd
  have h3:=y xs (hs.elim (fun h => .inl (ex.tup _ _ h)) .inr:TupAt K _ a xs).sq
  rw [h1] at h3
  cases h3
  exact ⟨zD.refl _,Is.ext ex (fun _ h _=>h) h2⟩
 stop:=fun H' ex=>⟨xs,(hs.elim (fun h => .inl (ex.tup _ _ h)) .inr:TupAt K H' a xs).sq,by rw [il.length];exact Nat.le_refl _⟩
def yF (f:M D):M (List D):=bnd f fun d=>lift (qlg d)
theorem qa2 {K:Fr0} {Z:St} {H:Hp} {Q:It->Hp->Prop} {o:Option (List D)} {U:Env} (h:WpI K c Z H Q (lift o U)):∃ ds,o=some ds/\∀ J H',Rep K c U Z H'->qh4 K (CnT c Z H') H' ds J->Gr c.O Z H H'->Q J H':=by
 cases o with
 | none=>exact h.elim
 | some d=>exact ⟨d,rfl,h⟩
theorem WpI.gr {K:Fr0} {Z:St} {H H1:Hp} {Q:It->Hp->Prop}:∀ {r:R (List D×Env)},WpI K c Z H Q r->Gr c.O Z H H1->WpI K c Z H1 Q r
 | .ok (d,U),h,g=>fun v H' hr hi hg=>h v H' hr hi (g.trans hg)
 | .exc x U,h,g=>fun H' hr hg=>h H' hr (g.trans hg)
 | .bad,h,_=>h
theorem Wp.bndI {K:Fr0} {Z:St} {H:Hp} {Q:It->Hp->Prop} {f:M D} {k:D->M (List D)} {U:Env} {Q':VK} (h:WpI K c Z H Q (Sk.bnd f k U)) (hQ:∀ d U' v H',Rep K c U' Z H'->Is K (Cn c Z) H' d v->Gr c.O Z H H'->WpI K c Z H' Q (k d U')->Q' v H'):Wp K c Z H Q' (f U):=by
 unfold Sk.bnd at h
 cases e:f U with
 | ok p=>rw [e] at h;exact fun v H' hr hi hg=>hQ p.1 p.2 v H' hr hi hg (h.gr hg)
 | exc x U'=>rw [e] at h;exact h
 | bad=>rw [e] at h;exact h
theorem WpL.bndI {K:Fr0} {Z:St} {H:Hp} {Q:It->Hp->Prop} {f:M (List D)} {k:List D->M (List D)} {U:Env} {Q':List V->Hp->Prop} (h:WpI K c Z H Q (Sk.bnd f k U)) (hQ:∀ d U' v H',Rep K c U' Z H'->IsL K (Cn c Z) H' d v->Gr c.O Z H H'->WpI K c Z H' Q (k d U')->Q' v H'):WpL K c Z H Q' (f U):=by
 unfold Sk.bnd at h
 cases e:f U with
 | ok p=>rw [e] at h;exact fun v H' hr hi hg=>hQ p.1 p.2 v H' hr hi hg (h.gr hg)
 | exc x U'=>rw [e] at h;exact h
 | bad=>rw [e] at h;exact h
theorem Is.tr {K:Fr0} {A:Addr->Prop} {H:Hp} {d:D} {v:V} (h:Is K A H d v):Is K (fun a=>A a/\(H a).isSome=true) H d v:=Is.ext Ext.refl (fun a h1 h2=>⟨h1,h2⟩) h
theorem yf {f:M D} (h:DE X c e f):DI X c tg e (yF f):=by
 obtain ⟨t,p,w⟩:=h
 refine ⟨_,qlf p,fun U Z H Q r h=>w U Z H _ r (Wp.bndI h fun d U1 v H1 r1 i1 g1 h1 => ?_)⟩
 obtain ⟨ds,e,h2⟩:=qa2 h1
 have i2:Is X.K (CnT c Z H1) H1 d v:=i1.tr
 cases d<;>simp only [qlg] at e<;>try (cases e;done)
 ·cases e
  obtain ⟨a,xs,rfl,ta,il⟩:=i2
  exact .inr ⟨a,rfl,⟨xs,ta.sq⟩,h2 _ H1 r1 (qlh ta il) .refl⟩
 ·cases e
  obtain ⟨a,xs,rfl,hA,ta,il⟩:=i2
  exact .inl ⟨a,rfl,⟨xs,.inl (.inl ta)⟩,h2 _ H1 r1 (qfd (fun H' ex => .inl (.inl (ex.at_ _ _ hA ta))) il) .refl⟩
 ·cases e
  obtain ⟨a,rfl,ta⟩:=i2
  exact .inl ⟨a,rfl,⟨_,ta.sq⟩,h2 _ H1 r1 (qfd (fun H' ex=>(ta.elim (fun ⟨o,h⟩ => .inl ⟨o,ex.frz _ _ _ h⟩) .inr:qk3 X.K H' a _).sq) (qa1 _)) .refl⟩
def qa3 (lo:Int) (n:Nat):List D:=(List.range n).map fun i => .int (lo+(i:Nat))
theorem qli {K:Fr0} {A:Addr->Prop} {H:Hp} (lo:Int) (n:Nat):qh4 K A H (qa3 lo n) (Itr lo n) where
 go:=fun H' i d ex hd=>by
  have:i<(qa3 lo n).length:=(gI_.mp hd).1
  show i<n
  simpa [qa3] using this
 yl := fun H' i d x H'' ex hd y=>by
  obtain ⟨e,y⟩:=y
  subst e
  subst y
  refine ⟨zD.refl _,?_⟩
  unfold qa3 at hd
  rw [gM_] at hd
  cases e2:(List.range n)[i]? with
  | none=>rw [e2] at hd;cases hd
  | some j =>
   rw [e2] at hd
   have hj:j=i:=by
    have:=(gI_.mp e2).2
    simpa using this.symm
   subst hj
   cases hd
   rfl
 stop:=fun H' ex=>by show n<=(qa3 lo n).length;simp [qa3]
def qh5:List D->Option (List D)
 | [.int j]=>if decide (-(2 ^ 62)<=j)&&decide (j<2 ^ 62) then some (qa3 0 j.toNat) else none
 | _=>none
def js (f:M (List D)):M (List D):=bnd f fun ds=>lift (qh5 ds)
theorem yg {f:M (List D)} {p:Pos} (hg:Gl X "range") (hm:X.mg "range"=none) (ha:DA X c [a] f) (hs:starEach [a] X.env=[(false,eval a X.env)]:=by rfl):DI X c tg (.Call (.Name "range" p) [a] [] pos) (js f):=by
 obtain ⟨t,p,w⟩:=ha
 refine ⟨_,qeH hg hm p hs,fun U Z H Q r h=>w U Z H _ r (WpL.bndI h fun ds U1 vs H1 r1 i1 g1 h1 => ?_)⟩
 obtain ⟨es,e,h2⟩:=qa2 h1
 unfold qh5 at e
 split at e
 ·rename_i j
  obtain ⟨v,rfl,e2⟩:=IsL.inv1 i1
  cases e2
  by_cases hb:(decide (-(2 ^ 62)<=j)&&decide (j<2 ^ 62))=true
  ·rw [if_pos hb] at e
   cases e
   rw [Bool.and_eq_true] at hb
   exact ⟨j,rfl,of_decide_eq_true hb.1,of_decide_eq_true hb.2,h2 _ H1 r1 (qli 0 _) .refl⟩
  ·rw [if_neg hb] at e
   cases e
 ·cases e
def yx (g:D->Env->Option Env) (b:MS):List D->MS
 | [],U => .ok (.nx U)
 | d::ds,U=>match g d U with
  | none => .bad
  | some U1=>match b U1 with
   | .ok (.nx U2)=>yx g b ds U2
   | .ok (.ct U2)=>yx g b ds U2
   | .ok (.bk U2) => .ok (.nx U2)
   | .ok (.rt r U2) => .ok (.rt r U2)
   | .exc x U2 => .exc x U2
   | .bad => .bad
def vw (f:M (List D)) (g:D->Env->Option Env) (b:MS):MS:=sbnd f fun ds=>yx g b ds
theorem WpI.sbnd {K:Fr0} {Z:St} {H:Hp} {D':qev} {f:M (List D)} {k:List D->MS} {U:Env} {Q':It->Hp->Prop} (h:WpS K c Z H D' (Sk.sbnd f k U))
  (hQ:∀ ds U' J H',Rep K c U' Z H'->qh4 K (CnT c Z H') H' ds J->Gr c.O Z H H'->WpS K c Z H' D' (k ds U')->Q' J H'):WpI K c Z H Q' (f U):=by
 unfold Sk.sbnd at h
 cases e:f U with
 | ok p=>rw [e] at h;exact fun v H' hr hi hg=>hQ p.1 p.2 v H' hr hi hg (h.gr hg.s)
 | exc x U'=>rw [e] at h;exact fun H' hr hg=>h Z H' hr hg.s
 | bad=>rw [e] at h;exact h
theorem GrS.extT {Z Z':St} {H H':Hp} (g:GrS c.O Z H Z' H'):Ext (CnT c Z H) H H':=⟨g.ext.tup,g.ext.frz,fun b o hb h=>g.ext.at_ b o hb.1.2 h⟩
theorem GrS.cnT {Z Z':St} {H H':Hp} (g:GrS c.O Z H Z' H') {a:Addr} (h:CnT c Z H a):Cn c Z' a:=⟨h.1.1,g.cl a h.1.2 h.2⟩
theorem vx {α:Type} {l:List α} {i:Nat} (h:i<l.length):l.drop i=l[i]::l.drop (i+1):=List.drop_eq_getElem_cons h
theorem yo {it:Expr} {body:List Stmt} {f:M (List D)} {g:D->Env->Option Env} {b:MS} (hp:PassesOwn (model X.prog X.w) X.A X.env X.xe) (hc:X.calm=true) (hi:DI X c tg it f) (hg:DG X c tg g) (hb:DSs X c body b)
  (hs:∀ x,foldedSetIterable it X.env x=pure x:=by intro _;rfl):DS X c (.For tg it body [] pos) (vw f g b):=by
 obtain ⟨wi,pi,wI⟩:=hi
 obtain ⟨tg',pg,wg⟩:=hg
 obtain ⟨tb,pb,wb⟩:=hb
 refine ⟨_,qkF hp hc pi pg pb hs,fun U Z H D' r h=>wI U Z H _ r (WpI.sbnd h fun ds U1 J H1 r1 iok g1 h1 => ?_)⟩
 refine ⟨fun i m Z' H'=>m=ds.length-i/\i<=ds.length/\∃ U',Rep X.K c U' Z' H'/\GrS c.O Z H1 Z' H'/\WpS X.K c Z' H' D' (yx g b (ds.drop i) U'),⟨ds.length,by simp,Nat.zero_le _,U1,r1,.refl,by simpa using h1⟩,?_⟩
 rintro i m Z' H' ⟨rfl,hi,U',r',gs,w⟩
 by_cases hlt:i<ds.length
 ·refine .inr ⟨iok.go H' i ds[i] gs.extT (by simp [hlt]),fun Z2 H2=>∃ U2,Rep X.K c U2 Z2 H2/\GrS c.O Z H1 Z2 H2/\WpS X.K c Z2 H2 D' (yx g b (ds.drop (i+1)) U2),fun Z2 H2 n=>⟨ds.length-(i+1),by omega,rfl,hlt,n⟩,fun x H'' y => ?_⟩
  obtain ⟨sm,ix⟩:=iok.yl H' i ds[i] x H'' gs.extT (by simp [hlt]) y
  rw [vx hlt] at w
  unfold yx at w
  have gs2:GrS c.O Z H1 Z' H'':=gs.trans (Gr.of_same sm).s
  have ix2:Is X.K (Cn c Z') H'' ds[i] x:=Is.ext Ext.refl (fun a ha _=>gs2.cnT ha) ix
  cases e1:g ds[i] U' with
  | none=>simp only [e1] at w;exact w.elim
  | some U2 =>
   simp only [e1] at w
   refine wg U' Z' H'' ds[i] x U2 _ (r'.same sm) ix2 e1 fun Z2 r2 g2 _=>wb U2 Z2 H'' _ r2 ?_
   have w2:=w.gr ((Gr.of_same sm).s.trans g2)
   have gs3:GrS c.O Z H1 Z2 H'':=gs2.trans g2
   cases e2:b U2 with
   | ok fl =>
    cases fl with
    | nx U3=>simp only [e2] at w2;exact fun Z3 H3 r3 g3=>⟨U3,r3,gs3.trans g3,w2.gr g3⟩
    | ct U3=>simp only [e2] at w2;exact fun Z3 H3 r3 g3=>⟨U3,r3,gs3.trans g3,w2.gr g3⟩
    | bk U3=>simp only [e2] at w2;exact w2
    | rt d U3=>simp only [e2] at w2;exact w2
   | exc x U3=>simp only [e2] at w2;exact w2
   | bad=>simp only [e2] at w2;exact w2
 ·have hie:i=ds.length:=by omega
  subst hie
  rw [List.drop_of_length_le (Nat.le_refl _)] at w
  exact .inl ⟨iok.stop H' gs.extT,w Z' H' r' .refl⟩
end
def cin (B0:Addr->Prop) (H1:Hp) (O':List Nat) (Io':Addr->Prop) (acc:Addr) (S':Nat->Option (Option V)):Fc where
 O:=O'
 P:=O'
 B:=fun a=>B0 a/\a≠acc
 H0:=upd H1 acc (.lst [])
 Io:=fun a=>Io' a\/a=acc
 E:=fun _ _=>False
 S:=S'
def zR (g:D->Env->Option Env) (t:M Bool) (e:M D):List D->List D->Env->R (List D×Env)
 | [],acc,U => .ok (acc,U)
 | d :: ds,acc,U=>match g d U with
  | none => .bad
  | some U1=>match t U1 with
   | .ok (true,U2)=>match e U2 with
    | .ok (y,U3)=>if qM (acc.length+1) then zR g t e ds (acc++[y]) U3 else .bad
    | _ => .bad
   | .ok (false,U2)=>zR g t e ds acc U2
   | _ => .bad
def jP (nt:Nat) (fr:List Nat) (U:Env):Env:=List.replicate nt none++fr.map fun j=>(U[j]?).join
def qkg (fo:Option (Nat×Nat)) (Ue U:Env):Env:=match fo with
 | none=>U
 | some (i,j)=>U.set j (Ue[i]?).join
def zX (nt:Nat) (fr:List Nat) (fo:Option (Nat×Nat)) (f:M (List D)) (g:D->Env->Option Env) (t:M Bool) (e:M D):M D:=bnd f fun ds U=>match zR g t e ds [] (jP nt fr U) with
 | .ok (ys,Ue) => .ok (.lst ys,qkg fo Ue U)
 | _ => .bad
def DF (X:Cx) (c:Fc) (ifs:List Expr) (f:M Bool):Prop:=∃ t,PF X ifs t/\∀ U Z H Q,Rep X.K c U Z H->WpB X.K c Z H Q (f U)->t Z H Q
def foO (fo:Option (Nat×Nat)):List Nat:=match fo with
 | none=>[]
 | some (i,_)=>[i]
section
variable {X:Cx} {c:Fc} {tg a b e:Expr} {pos:Pos}
theorem uV:DF X c [] (ret true):=⟨_,qle,fun U Z H Q r h=>h H r .refl⟩
theorem WpI.bnd {K:Fr0} {Z:St} {H:Hp} {Q:VK} {f:M (List D)} {k:List D->M D} {U:Env} {Q':It->Hp->Prop} (h:Wp K c Z H Q (Sk.bnd f k U))
  (hQ:∀ ds U' J H',Rep K c U' Z H'->qh4 K (CnT c Z H') H' ds J->Gr c.O Z H H'->Wp K c Z H' Q (k ds U')->Q' J H'):WpI K c Z H Q' (f U):=by
 unfold Sk.bnd at h
 cases e:f U with
 | ok p=>rw [e] at h;exact fun v H' hr hi hg=>hQ p.1 p.2 v H' hr hi hg (h.gr hg)
 | exc x U'=>rw [e] at h;exact h
 | bad=>rw [e] at h;exact h
theorem Rep.grow {K:Fr0} {B0:Addr->Prop} {H1:Hp} {O':List Nat} {Io':Addr->Prop} {acc:Addr} {S':Nat->Option (Option V)} {U:Env} {Z:St} {H:Hp} {xs ys:List V} (r:Rep K (cin B0 H1 O' Io' acc S') U Z H) (h:H acc=some (.lst xs)) (ho:∀ j∈O',Z[j]? ≠ some (some (.ref acc))) :
  Rep K (cin B0 H1 O' Io' acc S') U Z (upd H acc (.lst ys)):=by
 have ext:Ext (fun a=>a≠acc) H (upd H acc (.lst ys)):=⟨fun b zs hb=>by rw [qj (uR hb h (by intro z;cases z))];exact hb,fun b o u hb=>by rw [qj (uR hb h (by intro z;cases z))];exact hb,fun b o hb hq=>by rw [qj hb];exact hq⟩
 have cnext:Ext (Cn (cin B0 H1 O' Io' acc S') Z) H (upd H acc (.lst ys)):=⟨ext.tup,ext.frz,fun b o hb hq=>ext.at_ b o hb.1.2 hq⟩
 refine ⟨r.len,fun i d hd => ?_,fun j hj v hv => ?_,r.inj,r.b0,fun b o hb hio => ?_,fun b hb => ?_,r.pO,r.ps⟩
 ·obtain ⟨v,h1,h2⟩:=r.val i d hd
  refine ⟨v,h1,?_⟩
  rcases h2 with ⟨hi,ds,a,zs,h3,h5,h6,h7⟩ | ⟨hi,h3⟩
  ·subst h5
   have ne:a≠acc:=fun e=>ho i hi (by rw [h1,e])
   exact .inl ⟨hi,ds,a,zs,h3,rfl,by rw [qj ne];exact h6,IsL.ext cnext (fun _ h _=>h) h7⟩
  ·exact .inr ⟨hi,Is.ext cnext (fun _ h _=>h) h3⟩
 ·obtain ⟨a,zs,h1,h2,h3⟩:=r.own j hj v hv
  subst h1
  have ne:a≠acc:=fun e=>ho j hj (by rw [hv,e])
  exact ⟨a,zs,rfl,by rw [qj ne];exact h2,h3⟩
 ·have ne:b≠acc:=fun e=>hio (.inr e)
  rw [qj ne]
  exact r.kp b o hb hio
 ·by_cases e:b=acc
  ·subst e;rw [qk] at hb;cases hb
  ·rw [qj e] at hb;exact r.dm b hb
theorem wD {α:Type} {o:Option (Option α)} {a:α} (h:o.join=some a):o=some (some a):=by
 cases o with
 | none=>cases h
 | some x=>have:x=some a:=h;rw [this]
def qjh (c:Fc) (nt:Nat) (fr:List Nat) (fo:Option (Nat×Nat)):Prop:=match fo with
 | none=>∀ j∈fr,j ∉ c.O
 | some (i,j)=>j∈c.O/\nt<=i/\fr[i-nt]? = some j/\∀ k j',fr[k]? = some j'->nt+k≠i->j' ∉ c.O
def qbx (Z:St) (fo:Option (Nat×Nat)) (a:Addr):Prop:=match fo with
 | none=>False
 | some (_,j)=>Z[j]? = some (some (.ref a))
theorem vy {nt:Nat} {fr:List Nat} {Z:St} {k j:Nat} (h:fr[k]? = some j):(qH nt fr Z)[nt+k]? = some (Z[j]?).join:=by
 unfold qH
 rw [List.getElem?_append_right (by simp),List.length_replicate,gM_,show nt+k-nt=k by omega,h]
 rfl
theorem qd8 {nt:Nat} {fr:List Nat} {U:Env} {i:Nat} {d:D} (hd:(jP nt fr U)[i]? = some (some d)):∃ k j,i=nt+k/\fr[k]? = some j/\U[j]? = some (some d):=by
 have hi:nt<=i:=by
  apply Nat.le_of_not_lt
  intro hlt
  unfold jP at hd
  rw [List.getElem?_append_left (by simpa using hlt),List.getElem?_replicate] at hd
  split at hd<;>cases hd
 unfold jP at hd
 rw [List.getElem?_append_right (by simpa using hi),List.length_replicate,gM_] at hd
 cases ej:fr[i-nt]? with
 | none=>rw [ej] at hd;cases hd
 | some j =>
  rw [ej] at hd
  exact ⟨i-nt,j,by omega,ej,wD (by simpa using hd)⟩
theorem jV {nt:Nat} {fr:List Nat} {Z:St} {i:Nat} {d:V} (hd:(qH nt fr Z)[i]? = some (some d)):∃ k j,i=nt+k/\fr[k]? = some j/\Z[j]? = some (some d):=by
 have hi:nt<=i:=by
  apply Nat.le_of_not_lt
  intro hlt
  unfold qH at hd
  rw [List.getElem?_append_left (by simpa using hlt),List.getElem?_replicate] at hd
  split at hd<;>cases hd
 unfold qH at hd
 rw [List.getElem?_append_right (by simpa using hi),List.length_replicate,gM_] at hd
 cases ej:fr[i-nt]? with
 | none=>rw [ej] at hd;cases hd
 | some j =>
  rw [ej] at hd
  exact ⟨i-nt,j,by omega,ej,wD (by simpa using hd)⟩
theorem Rep.entry {K:Fr0} {nt:Nat} {fr:List Nat} {fo:Option (Nat×Nat)} {acc:Addr} {U:Env} {Z:St} {H:Hp} (r:Rep K c U Z H) (hn:H acc=none) (hfo:qjh c nt fr fo) :
  Rep K (cin (Cn c Z) H (foO fo) (qbx Z fo) acc fun j=>(qH nt fr Z)[j]?) (jP nt fr U) (qH nt fr Z) (upd H acc (.lst [])):=by
 have sm:zD H (upd H acc (.lst [])):=qv hn _
 have ownI:∀ i∈foO fo,∀ v,(qH nt fr Z)[i]? = some (some v)->∃ j,fo=some (i,j)/\j∈c.O/\Z[j]? = some (some v):=fun i hi v hv=>by
  cases fo with
  | none=>cases hi
  | some p =>
   obtain ⟨i',j'⟩:=p
   have e:i=i':=by simpa [foO] using hi
   subst e
   obtain ⟨h1,h2,h3,h4⟩:=hfo
   obtain ⟨k,j,e1,e2,e3⟩:=jV hv
   have hk:k=i-nt:=by omega
   subst hk
   rw [h3] at e2
   cases e2
   exact ⟨j',rfl,h1,e3⟩
 have clI:∀ a,Cl c.O Z a->Cl (foO fo) (qH nt fr Z) a:=fun a ha i hi e=>by
  obtain ⟨j,_,hj,e2⟩:=ownI i hi _ e
  exact ha j hj e2
 refine ⟨by simp [jP,qH],fun i d hd => ?_,fun i hi v hv => ?_,fun i j a hi hj h1 h2 => ?_,⟨fun a ha => ?_,fun q P pos eP => ?_⟩,fun b o hb hio => ?_,fun b hb => ?_,fun _ h=>h,fun _ _=>rfl⟩
 ·obtain ⟨k,j,e1,e2,e3⟩:=qd8 hd
  subst e1
  by_cases hO:nt+k∈foO fo
  ·obtain ⟨v,hv⟩:∃ v,Z[j]? = some (some v):=by
    obtain ⟨v,h1,_⟩:=r.val j d e3
    exact ⟨v,h1⟩
   have hc:(qH nt fr Z)[nt+k]? = some (some v):=by rw [vy e2,hv];rfl
   obtain ⟨j',f1,f2,f3⟩:=ownI _ hO v hc
   subst f1
   obtain ⟨g1,g2,g3,g4⟩:=hfo
   rw [show nt+k-nt=k by omega,e2] at g3
   cases g3
   obtain ⟨ds,a,xs,h1,h3,h4,h5⟩:=r.getO g1 e3
   rw [hv] at h3
   cases h3
   exact ⟨.ref a,hc,.inl ⟨hO,ds,a,xs,h1,rfl,sm _ _ h4,IsL.ext (Ext.of_same sm) (fun b hb hs=>⟨⟨hb,fun e=>by subst e;rw [hn] at hs;cases hs⟩,clI b hb.2⟩) h5⟩⟩
  ·have hj:j ∉ c.O:=by
    cases fo with
    | none=>exact hfo j (List.mem_of_getElem? e2)
    | some p =>
     obtain ⟨i',j'⟩:=p
     exact hfo.2.2.2 k j e2 (fun e=>hO (by simp [foO,e]))
   obtain ⟨v,h1,h2⟩:=r.get hj e3
   refine ⟨v,by rw [vy e2,h1];rfl,.inr ⟨hO,?_⟩⟩
   refine Is.ext (Ext.of_same sm) (fun a ha hs=>⟨⟨ha,fun e => ?_⟩,clI a ha.2⟩) h2
   subst e;rw [hn] at hs;cases hs
 ·obtain ⟨j,f1,f2,f3⟩:=ownI i hi v hv
  obtain ⟨a,xs,h1,h2,h3⟩:=r.own j f2 v f3
  subst h1 f1
  exact ⟨a,xs,rfl,sm _ _ h2,.inr ⟨hi,.inl f3⟩⟩
 ·cases fo with
  | none=>cases hi
  | some p =>
   obtain ⟨i',j'⟩:=p
   have e:i=i':=by simpa [foO,cin] using hi
   have e2:j=i':=by simpa [foO,cin] using hj
   rw [e,e2]
 ·have ha':upd H acc (.lst []) a=none:=ha
  by_cases e:a=acc
  ·subst e;rw [qk] at ha';cases ha'
  ·rw [qj e] at ha';exact ⟨r.new ha',e⟩
 ·have hP:=(r.tb q P pos eP).1
  refine ⟨sm _ _ hP,fun z => ?_⟩
  rcases z with z | z
  ·cases fo with
   | none=>exact z
   | some p =>
    obtain ⟨b,xs,e1,e2,_⟩:=r.own _ hfo.1 _ z
    cases e1
    rw [hP] at e2;cases e2
  ·rw [z,hn] at hP;cases hP
 ·exact hb
 ·exact hb
theorem Rep.leave {K:Fr0} {nt:Nat} {fr:List Nat} {fo:Option (Nat×Nat)} {acc:Addr} {U Ue:Env} {Z Ze:St} {H H':Hp} (r:Rep K c U Z H) (hn:H acc=none) (hfo:qjh c nt fr fo) (hf:∀ i j,fo=some (i,j)->Ze[i]? = (qH nt fr Z)[i]?)
  (q:Rep K (cin (Cn c Z) H (foO fo) (qbx Z fo) acc fun j=>(qH nt fr Z)[j]?) Ue Ze H'):Rep K c (qkg fo Ue U) Z H'/\Gr c.O Z H H':=by
 have kp:∀ b o,H b=some o->¬ qbx Z fo b->H' b=some o:=fun b o hb hio=>q.kp b o (by show upd H acc (.lst []) b=some o;rw [qj (qE hb hn)];exact hb) fun z=>z.elim hio fun e=>absurd e (qE hb hn)
 have clean:∀ b,Cl c.O Z b->¬ qbx Z fo b:=fun b hb hio=>by
  cases fo with
  | none=>exact hio
  | some p=>exact hb p.2 hfo.1 hio
 have dom:∀ b,H' b=none->H b=none:=fun b hb=>by
  have:=q.dm b hb
  by_cases e:b=acc
  ·subst e;exact hn
  ·have this:upd H acc (.lst []) b=none:=this
   rw [qj e] at this;exact this
 have notT:∀ b xs,H b=some (.tup xs)->¬ qbx Z fo b:=fun b xs hb hio=>by
  cases fo with
  | none=>exact hio
  | some p =>
   obtain ⟨a,ys,e1,e2,_⟩:=r.own p.2 hfo.1 _ hio
   cases e1;rw [hb] at e2;cases e2
 have notF:∀ b o u,H b=some (.frz o u)->¬ qbx Z fo b:=fun b o u hb hio=>by
  cases fo with
  | none=>exact hio
  | some p =>
   obtain ⟨a,ys,e1,e2,_⟩:=r.own p.2 hfo.1 _ hio
   cases e1;rw [hb] at e2;cases e2
 have gr:Gr c.O Z H H':=⟨⟨fun b xs hb=>kp b _ hb (notT b xs hb),fun b o u hb=>kp b _ hb (notF b o u hb),fun b o hc hb=>kp b o hb (clean b hc)⟩,dom⟩
 refine ⟨⟨?_,fun k d hd => ?_,fun j hj v hv => ?_,r.inj,r.b0,fun b o hb hio => ?_,fun b hb=>r.dm b (dom b hb),r.pO,r.ps⟩,gr⟩
 ·cases fo with
  | none=>exact r.len
  | some p=>show (U.set _ _).length=_;rw [lS_];exact r.len
 ·-- an old slot,or the one that came qkg
  have oldSlot:U[k]? = some (some d)->(∀ i,fo≠some (i,k))->∃ v,Z[k]? = some (some v)/\((k∈c.O/\∃ ds a xs,d = .lst ds/\v = .ref a/\H' a=some (.lst xs)/\IsL K (Cn c Z) H' ds xs)\/(k ∉ c.O/\Is K (Cn c Z) H' d v)):=fun hk hne=>by
   obtain ⟨v,h1,h2⟩:=r.val k d hk
   refine ⟨v,h1,?_⟩
   rcases h2 with ⟨hi,ds,a,xs,h3,h5,h6,h7⟩ | ⟨hi,h3⟩
   ·subst h5
    refine .inl ⟨hi,ds,a,xs,h3,rfl,kp a _ h6 (fun hio => ?_),gr.isL h7⟩
    cases fo with
    | none=>exact hio
    | some p =>
     obtain ⟨i',j'⟩:=p
     have e:=r.inj k j' a hi hfo.1 h1 hio
     exact hne i' (by rw [e])
   ·exact .inr ⟨hi,gr.is h3⟩
  cases fo with
  | none=>exact oldSlot hd (fun i e=>by cases e)
  | some p =>
   obtain ⟨i',j'⟩:=p
   have hd':(U.set j' (Ue[i']?).join)[k]? = some (some d):=hd
   by_cases e:k=j'
   ·subst e
    have hl:k<U.length:=by
     have:=(gI_.mp hd').1
     rwa [lS_] at this
    rw [List.getElem?_set_self hl] at hd'
    have he:Ue[i']? = some (some d):=wD (Option.some.inj hd')
    obtain ⟨ds,a,xs,h1,h3,h4,h5⟩:=q.getO (show i'∈foO (some (i',k)) by simp [foO]) he
    have h3':=hf i' k rfl
    rw [h3] at h3'
    obtain ⟨k2,j2,e1,e2,e3⟩:=jV h3'.symm
    have hk2:k2=i'-nt:=by omega
    subst hk2
    rw [hfo.2.2.1] at e2
    cases e2
    exact ⟨.ref a,e3,.inl ⟨hfo.1,ds,a,xs,h1,rfl,h4,IsL.ext Ext.refl (fun b hb _=>hb.1.1) h5⟩⟩
   ·rw [qW e] at hd'
    exact oldSlot hd' (fun i e2=>e (by cases e2;rfl))
 ·obtain ⟨a,xs,h1,h2,h3⟩:=r.own j hj v hv
  subst h1
  by_cases hio:qbx Z fo a
  ·cases fo with
   | none=>exact hio.elim
   | some p =>
    obtain ⟨i',j'⟩:=p
    have hc:(qH nt fr Z)[i']? = some (some (.ref a)):=by
     have:=vy (Z:=Z) (nt:=nt) hfo.2.2.1
     rw [show nt+(i'-nt)=i' by have:=hfo.2.1;omega] at this
     rw [this]
     have hio':Z[j']? = some (some (.ref a)):=hio
     rw [hio'];rfl
    have h3':=hf i' j' rfl
    rw [hc] at h3'
    obtain ⟨a',ys,e1,e2,_⟩:=q.own i' (by simp [foO,cin]) _ h3'
    cases e1
    exact ⟨a,ys,rfl,e2,h3⟩
  ·exact ⟨a,xs,rfl,kp a _ h2 hio,h3⟩
 ·by_cases hio2:qbx Z fo b
  ·cases fo with
   | none=>exact hio2.elim
   | some p =>
    obtain ⟨a,ys,e1,e2,e3⟩:=r.own p.2 hfo.1 _ hio2
    cases e1
    rcases e3 with e3 | e3
    ·rw [hb] at e3;cases e3
    ·exact absurd e3.2 hio
  ·exact kp b o (r.kp b o hb hio) hio2
theorem ug {it elt:Expr} {ifs:List Expr} {scope:Scope} {N':List Str} {nt:Nat} {fr:List Nat} {fo:Option (Nat×Nat)} {f:M (List D)} {g:D->Env->Option Env} {t:M Bool} {k:M D} (hc:X.calm=true) (hi:DI X c tg it f) (S:jE X scope N' nt fr)
  (hfo:qjh c nt fr fo)
  (hb:∀ fp cl C s₀ H₀ pn B0 H1 Io' acc S',DG (zE X scope N' fp cl C s₀ H₀ pn) (cin B0 H1 (foO fo) Io' acc S') tg g/\DF (zE X scope N' fp cl C s₀ H₀ pn) (cin B0 H1 (foO fo) Io' acc S') ifs t/\DE (zE X scope N' fp cl C s₀ H₀ pn) (cin B0 H1 (foO fo) Io' acc S') elt k)
  (hs:∀ x,foldedSetIterable it X.env x=pure x:=by intro _;rfl):DE X c (.ListComp elt [⟨tg,it,ifs,0⟩] scope pos) (zX nt fr fo f g t k):=by
 obtain ⟨wi,pi,wI⟩:=hi
 refine ⟨_,qjg hc pi S hs,fun U Z H Q r h=>wI U Z H _ r (WpI.bnd h fun ds U1 J H1 r1 iok g1 h1 => ?_)⟩
 intro acc fp cl C s₀ H₀ pn hn
 obtain ⟨⟨tg',pg,wg⟩,⟨tt,pt,wt⟩,⟨te,pe,we⟩⟩:=hb fp cl C s₀ H₀ pn (Cn c Z) H1 (qbx Z fo) acc fun j=>(qH nt fr Z)[j]?
 refine ⟨tg',tt,te,pg,pt,pe,?_⟩
 cases ew:zR g t k ds [] (jP nt fr U1) with
 | exc x U'=>rw [ew] at h1;exact h1.elim
 | bad=>rw [ew] at h1;exact h1.elim
 | ok p =>
  rw [ew] at h1
  obtain ⟨ys,Ue⟩:=p
  have h1:∀ v H',Rep X.K c (qkg fo Ue U1) Z H'->Is X.K (Cn c Z) H' (.lst ys) v->Gr c.O Z H1 H'->Q v H':=h1
  have accO:∀ j∈foO fo,(qH nt fr Z)[j]? ≠ some (some (.ref acc)):=fun j hj e=>by
   have r0:=r1.entry (acc:=acc) hn hfo
   cases fo with
   | none=>cases hj
   | some p =>
    obtain ⟨i',j'⟩:=p
    have e2:j=i':=by simpa [foO] using hj
    subst e2
    obtain ⟨k2,j2,e1,e2,e3⟩:=jV e
    have hk2:k2=j-nt:=by omega
    subst hk2
    rw [hfo.2.2.1] at e2
    cases e2
    obtain ⟨a,us,e4,e5,_⟩:=r1.own j' hfo.1 _ e3
    cases e4;rw [hn] at e5;cases e5
  refine ⟨fun i m Z' H'=>m=ds.length-i/\i<=ds.length/\∃ U' zs xs,Rep X.K (cin (Cn c Z) H1 (foO fo) (qbx Z fo) acc fun j=>(qH nt fr Z)[j]?) U' Z' H'/\(∀ j∈foO fo,Z'[j]? = (qH nt fr Z)[j]?)/\H' acc=some (.lst xs)/\IsL X.K (Cn (cin (Cn c Z) H1 (foO fo) (qbx Z fo) acc fun j=>(qH nt fr Z)[j]?) Z') H' zs xs/\zR g t k (ds.drop i) zs U' = .ok (ys,Ue),
   ⟨ds.length,by simp,Nat.zero_le _,jP nt fr U1,[],[],r1.entry hn hfo,fun _ _=>rfl,qk,rfl,by simpa using ew⟩,?_⟩
  rintro i m Z' H' ⟨rfl,hi,U',zs,xs,r',so,ha,iz,w⟩
  obtain ⟨_,gr⟩:=r1.leave hn hfo (fun i j e=>so i (by rw [e];simp [foO])) r'
  have ex:Ext (CnT c Z H1) H1 H':=⟨gr.ext.tup,gr.ext.frz,fun b o hb hq=>gr.ext.at_ b o hb.1.2 hq⟩
  have accC:∀ τ:St,(∀ j∈foO fo,τ[j]? = (qH nt fr Z)[j]?)->Cl (foO fo) τ acc:=fun τ hτ j hj e=>accO j hj (by rw [<- hτ j hj];exact e)
  by_cases hlt:i<ds.length
  ·refine .inr ⟨iok.go H' i ds[i] ex (by simp [hlt]),fun x H'' y => ?_⟩
   obtain ⟨sm,ix⟩:=iok.yl H' i ds[i] x H'' ex (by simp [hlt]) y
   rw [vx hlt] at w
   unfold zR at w
   have ix2:Is X.K (Cn (cin (Cn c Z) H1 (foO fo) (qbx Z fo) acc fun j=>(qH nt fr Z)[j]?) Z') H'' ds[i] x:=Is.ext Ext.refl (fun a ha _=>⟨⟨ha.1,fun e=>by
    have:=ha.2
    rw [e,hn] at this;cases this⟩,fun j hj e=>by
     rw [so j hj] at e
     cases fo with
     | none=>cases hj
     | some p =>
      obtain ⟨i',j'⟩:=p
      have e2:j=i':=by simpa [foO,cin] using hj
      subst e2
      obtain ⟨k2,j2,e1,e2,e3⟩:=jV e
      have hk2:k2=j-nt:=by omega
      subst hk2
      rw [hfo.2.2.1] at e2
      cases e2
      exact ha.1.2 j' hfo.1 e3⟩) ix
   cases e1:g ds[i] U' with
   | none=>simp only [e1] at w;cases w
   | some U2 =>
    simp only [e1] at w
    refine wg U' Z' H'' ds[i] x U2 _ (r'.same sm) ix2 e1 fun Z2 r2 g2 o2 => ?_
    have so2:∀ j∈foO fo,Z2[j]? = (qH nt fr Z)[j]? := fun j hj=>(o2 j hj).trans (so j hj)
    have ha2:H'' acc=some (.lst xs):=sm _ _ ha
    have iz2:=g2.isL (IsL.ext (Ext.of_same sm) (fun _ h _=>h) iz)
    cases e2:t U2 with
    | exc x U3=>simp only [e2] at w;cases w
    | bad=>simp only [e2] at w;cases w
    | ok p2 =>
     obtain ⟨bb,U3⟩:=p2
     refine wt U2 Z2 H'' _ r2 ?_
     rw [e2]
     intro H3 r3 g3
     have ha3:H3 acc=some (.lst xs):=g3.ext.at_ _ _ (accC Z2 so2) ha2
     have iz3:=g3.isL iz2
     cases bb with
     | false =>
      rw [if_neg Bool.false_ne_true]
      simp only [e2] at w
      exact ⟨ds.length-(i+1),by omega,rfl,hlt,U3,zs,xs,r3,so2,ha3,iz3,w⟩
     | true =>
      rw [if_pos rfl]
      simp only [e2] at w
      cases e3:k U3 with
      | exc x U4=>simp only [e3] at w;cases w
      | bad=>simp only [e3] at w;cases w
      | ok p3 =>
       obtain ⟨d4,U4⟩:=p3
       simp only [e3] at w
       refine we U3 Z2 H3 _ r3 ?_
       rw [e3]
       intro y4 H4 r4 i4 g4
       have ha4:H4 acc=some (.lst xs):=g4.ext.at_ _ _ (accC Z2 so2) ha3
       have hsz:qM (zs.length+1)=true:=by
        cases e5:qM (zs.length+1) with
        | true=>rfl
        | false=>rw [e5] at w;simp at w
       rw [if_pos hsz] at w
       have hsz':zs.length+1<=sizeLine:=of_decide_eq_true hsz
       have r5:=r4.grow (ys:=xs++[y4]) ha4 (fun j hj e=>accC Z2 so2 j hj e)
       have ext5:Ext (Cn (cin (Cn c Z) H1 (foO fo) (qbx Z fo) acc fun j=>(qH nt fr Z)[j]?) Z2) H4 (upd H4 acc (.lst (xs++[y4]))):=⟨fun b us hb=>by rw [qj (uR hb ha4 (by intro z;cases z))];exact hb,fun b o u hb=>by rw [qj (uR hb ha4 (by intro z;cases z))];exact hb,fun b o hb hq=>by rw [qj hb.1.2];exact hq⟩
       refine ⟨xs,ha4,by rw [iz3.length];omega,ds.length-(i+1),by omega,rfl,hlt,U4,zs++[d4],xs++[y4],r5,so2,qk,?_,w⟩
       exact IsL.append (IsL.ext ext5 (fun _ h _=>h) (g4.isL iz3)) (IsL.one (Is.ext ext5 (fun _ h _=>h) i4))
  ·have hie:i=ds.length:=by omega
   subst hie
   rw [List.drop_of_length_le (Nat.le_refl _)] at w
   unfold zR at w
   cases w
   obtain ⟨r6,g6⟩:=r1.leave hn hfo (fun i j e=>so i (by rw [e];simp [foO])) r'
   exact .inl ⟨iok.stop H' ex,h1 _ H' r6 ⟨acc,xs,rfl,r1.new hn,ha,IsL.ext Ext.refl (fun a ha hs=>ha.1.1) iz⟩ g6⟩
end
theorem Rep.io {K:Fr0} {c:Fc} {U:Env} {Z:St} {H H':Hp} {i:Nat} {a:Addr} {bs:List D} {xs:List V} (r:Rep K c U Z H) (hi:i∈c.O) (hs:Z[i]? = some (some (.ref a))) (kp:∀ b o,b≠a->H b=some o->H' b=some o)
  (ha:H' a=some (.lst xs)) (him:True) (il:IsL K (Cn c Z) H' bs xs) (dm:∀ b,H' b=none->H b=none):Rep K c (U.set i (some (.lst bs))) Z H'/\Gr c.O Z H H':=by
 obtain ⟨a',xs0,e0,h0,hown⟩:=r.own i hi _ hs
 cases e0
 have gr:Gr c.O Z H H':=⟨⟨fun b us hb=>kp b _ (uR hb h0 (by intro z;cases z)) hb,fun b o u hb=>kp b _ (uR hb h0 (by intro z;cases z)) hb,fun b o hc hb=>kp b o (fun e=>hc i hi (by rw [hs,e])) hb⟩,dm⟩
 refine ⟨⟨by rw [lS_];exact r.len,fun k d hk => ?_,fun j hj v hv => ?_,r.inj,r.b0,fun b o hb hio => ?_,fun b hb=>r.dm b (dm b hb),r.pO,r.ps⟩,gr⟩
 ·by_cases e:k=i
  ·subst e
   have hl:k<U.length:=by
    have:=(gI_.mp hk).1
    rwa [lS_] at this
   rw [List.getElem?_set_self hl] at hk
   cases hk
   exact ⟨.ref a,hs,.inl ⟨hi,bs,a,xs,rfl,rfl,ha,il⟩⟩
  ·rw [qW e] at hk
   obtain ⟨v,h1,h2⟩:=r.val k d hk
   refine ⟨v,h1,?_⟩
   rcases h2 with ⟨hk2,ds,b,ys,h3,h5,h6,h7⟩ | ⟨hk2,h3⟩
   ·subst h5
    have ne:b≠a:=fun e2=>e (r.inj k i a hk2 hi (by rw [h1,e2]) hs)
    exact .inl ⟨hk2,ds,b,ys,h3,rfl,kp b _ ne h6,gr.isL h7⟩
   ·exact .inr ⟨hk2,gr.is h3⟩
 ·obtain ⟨b,ys,h1,h2,h3⟩:=r.own j hj v hv
  subst h1
  by_cases e:b=a
  ·subst e;exact ⟨b,xs,rfl,ha,h3⟩
  ·exact ⟨b,ys,rfl,kp b _ e h2,h3⟩
 ·have ne:b≠a:=fun e=>by
   subst e
   rcases hown with z | z
   ·rw [hb] at z;cases z
   ·exact hio z.2
  exact kp b o ne (r.kp b o hb hio)
def zf (i:Nat) (U:Env):Option (List D):=match U[i]? with
 | some (some (.lst ds))=>some ds
 | _=>none
theorem qfe {i:Nat} {U:Env} {ds:List D} (h:zf i U=some ds):U[i]? = some (some (.lst ds)):=by
 unfold zf at h
 split at h
 ·rename_i e;cases h;exact e
 ·cases h
theorem Rep.getLO {K:Fr0} {c:Fc} {U:Env} {Z:St} {H:Hp} (r:Rep K c U Z H) {i:Nat} {ds:List D} (hi:i∈c.O) (h:zf i U=some ds) :
  ∃ a xs,True/\Z[i]? = some (some (.ref a))/\H a=some (.lst xs)/\IsL K (Cn c Z) H ds xs:=by
 obtain ⟨ds',a,xs,h1,h3,h4,h5⟩:=r.getO hi (qfe h)
 cases h1
 exact ⟨a,xs,trivial,h3,h4,h5⟩
theorem zF {H:Hp} {a b:Addr} {o u:HO} (h:b≠a) (hb:H b=some o):upd H a u b=some o:=by rw [qj h];exact hb
theorem qcx {H:Hp} {a b:Addr} {u:HO} (h:upd H a u b=none):H b=none:=by
 by_cases e:b=a
 ·subst e;rw [qk] at h;cases h
 ·rw [qj e] at h;exact h
section
variable {X:Cx} {c:Fc} {a b e:Expr} {pos:Pos}
def zS (i:Nat) (f:M D):M D:=fun U=>match zf i U with
 | none => .bad
 | some _=>(bnd f fun d U=>match zf i U with
  | some ds=>if imm d&&qM (ds.length+1) then .ok (.non,U.set i (some (.lst (ds++[d])))) else .bad
  | none => .bad) U
theorem uW {i:Nat} {x:Str} {p1 apos:Pos} {f:M D} (he:DE X c e f) (ho:i∈c.O:=by exact of_decide_eq_true rfl) (hN:X.N[i]? = some x:=by rfl) (hv:Vis X.env.scope x:=by first | exact Or.inl rfl | exact Or.inr (Or.inl rfl) | exact Or.inr (Or.inr rfl)) (hd:(x==("__debug__":Str))=false:=by decide) (hcd:(x==("__classdict__":Str))=false:=by decide)
  (hbase:attributeBase (.Name x p1) "append" X.env (eval (.Name x p1) X.env)=eval (.Name x p1) X.env:=by rfl)
  (hfew:((backTo pos (starEach [e] X.env)).all (fun x => !x.1)&&(backToKw pos (keywordEach [] X.env)).all (fun x=>x.1.isSome)
   && decide ([e].length+([]:List Keyword).length+(if ([]:List Keyword).isEmpty then 0 else 1)<30))=true:=by rfl)
  (hline:(apos.endLine==pos.line)=true:=by rfl) (hs:starEach [e] X.env=(false,eval e X.env)::starEach [] X.env:=by rfl) (hplain:(backTo pos (starEach [] X.env)).any (·.1)=false:=by rfl) :
  DE X c (.Call (.Attribute (.Name x p1) "append" apos) [e] [] pos) (zS i f):=by
 obtain ⟨t,p,w⟩:=he
 refine ⟨_,qeW PySem.F.plainAttrs_list PySem.F.slot_list_append PySem.F.type_list_append ud (jO hN hv hd hcd) (zQ p ya hs) hbase hfew hline hs hplain,fun U Z H Q r h => ?_⟩
 unfold zS at h
 cases e0:zf i U with
 | none=>rw [e0] at h;exact h.elim
 | some ds0 =>
  simp only [e0] at h
  obtain ⟨l,xs0,_,hl,hH,_⟩:=r.getLO ho e0
  refine ⟨.ref l,hl,.inl ⟨rfl,xs0,.inl (.inl hH)⟩,w U Z H _ r (Wp.bnd h fun d U1 v H1 r1 i1 g1 h1 => ?_)⟩
  cases e1:zf i U1 with
  | none=>simp only [e1] at h1;exact h1.elim
  | some ds =>
   simp only [e1] at h1
   by_cases hb:(imm d&&qM (ds.length+1))=true
   ·rw [if_pos hb] at h1
    rw [Bool.and_eq_true] at hb
    obtain ⟨l',xs,him,hl',hH',il⟩:=r1.getLO ho e1
    rw [hl] at hl'
    cases hl'
    have hsz:ds.length+1<=sizeLine:=of_decide_eq_true hb.2
    have ext:Ext (Cn c Z) H1 (upd H1 l (.lst (xs++[v]))):=⟨fun b us hb=>zF (uR hb hH' (by intro z;cases z)) hb,fun b o u hb=>zF (uR hb hH' (by intro z;cases z)) hb,fun b o hb hq=>zF (fun e=>hb.2 i ho (by rw [hl,e])) hq⟩
    obtain ⟨r2,g2⟩:=r1.io (H':=upd H1 l (.lst (xs++[v]))) (bs:=ds++[d]) ho hl (fun b o hb ho=>zF hb ho) qk trivial
     (IsL.append (IsL.ext ext (fun _ h _=>h) il) (IsL.one (Is.ext ext (fun _ h _=>h) i1))) (fun b hb=>qcx hb)
    exact ⟨l,xs,v,rfl,rfl,hH',by rw [il.length];omega,h1 _ _ r2 rfl g2⟩
   ·rw [if_neg hb] at h1;exact h1.elim
def qgZ (i:Nat) (k f:M D):MS:=sbnd f fun d U=>match zf i U with
 | none => .bad
 | some _=>(sbnd k fun j U=>match j,zf i U with
  | .int n,some ds=>match ixN ds.length n with
   | some q=>if imm d then .ok (.nx (U.set i (some (.lst (ds.set q d))))) else .bad
   | none => .bad
  | _,_ => .bad) U
theorem qji {i:Nat} {x:Str} {p1 p2:Pos} {ke:Expr} {f k:M D} (he:DE X c e f) (hk:DE X c ke k) (ho:i∈c.O:=by exact of_decide_eq_true rfl) (hN:X.N[i]? = some x:=by rfl) (hv:Vis X.env.scope x:=by first | exact Or.inl rfl | exact Or.inr (Or.inl rfl) | exact Or.inr (Or.inr rfl)) (hd:(x==("__debug__":Str))=false:=by decide) (hcd:(x==("__classdict__":Str))=false:=by decide)
  (ha:∀ v,assign (.Subscript (.Name x p1) ke p2) X.env v=(do
   let ov <- holding [v] (eval (.Name x p1) X.env)
   let iv <- holding [v,ov] (eval ke X.env)
   standAt p2
   holding [v,ov,iv] (setItem ov iv v)
   release [v,ov,iv] []):=by intro _;rfl)
  (hs:swapsWithSole [.Subscript (.Name x p1) ke p2] e pos.line X.env=pure false:=by rfl) (hw:swappedStores [.Subscript (.Name x p1) ke p2] e X.env=pure none:=by rfl) (h1:(assignEach [.Subscript (.Name x p1) ke p2] X.env).map (·.2)=[assign (.Subscript (.Name x p1) ke p2) X.env]:=by rfl) :
  DS X c (.Assign [.Subscript (.Name x p1) ke p2] e pos) (qgZ i k f):=by
 obtain ⟨t,p,w⟩:=he
 obtain ⟨tk,pk,wk⟩:=hk
 refine ⟨_,qhT p (qkC (jO hN hv hd hcd) pk qgH ha) hs hw h1,fun U Z H D r h=>w U Z H _ r (Wp.sbnd h fun d U1 v H1 r1 i1 g1 h1 => ?_)⟩
 cases e0:zf i U1 with
 | none=>simp only [e0] at h1;exact h1.elim
 | some ds0 =>
  simp only [e0] at h1
  obtain ⟨l,xs0,_,hl,hH,_⟩:=r1.getLO ho e0
  refine ⟨.ref l,hl,wk U1 Z H1 _ r1 (Wp.sbnd h1 fun j U2 u H2 r2 i2 g2 h2 => ?_)⟩
  cases j with
  | int n =>
   cases e1:zf i U2 with
   | none=>simp only [e1] at h2;exact h2.elim
   | some ds =>
    simp only [e1] at h2
    cases e2:ixN ds.length n with
    | none=>simp only [e2] at h2;exact h2.elim
    | some q =>
     simp only [e2] at h2
     by_cases hb:imm d=true
     ·rw [if_pos hb] at h2
      obtain ⟨l',xs,him,hl',hH',il⟩:=r2.getLO ho e1
      rw [hl] at hl'
      cases hl'
      cases i2
      have i3:=g2.is i1
      have ext:Ext (Cn c Z) H2 (upd H2 l (.lst (xs.set q v))):=⟨fun b us hb=>zF (uR hb hH' (by intro z;cases z)) hb,fun b o u hb=>zF (uR hb hH' (by intro z;cases z)) hb,fun b o hb hq=>zF (fun e=>hb.2 i ho (by rw [hl,e])) hq⟩
      obtain ⟨r3,g3⟩:=r2.io (H':=upd H2 l (.lst (xs.set q v))) (bs:=ds.set q d) ho hl (fun b o hb ho=>zF hb ho) qk trivial
       (IsL.set (Is.ext ext (fun _ h _=>h) i3) q (IsL.ext ext (fun _ h _=>h) il)) (fun b hb=>qcx hb)
      exact ⟨l,xs,n,q,rfl,rfl,hH',by rw [il.length];exact e2,h2 Z _ r3 g3.s⟩
     ·rw [if_neg hb] at h2;exact h2.elim
  | _=>exact h2.elim
structure qg0 (K:Fr0) (c:Fc) (U:Env) (Z:St) (H:Hp) (a:Addr):Prop where
 val:∀ i d v,U[i]? = some (some d)->i ∉ c.O->Z[i]? = some (some v)->Is K (fun b=>Cn c Z b/\b≠a) H d v
 cont:∀ i ds b xs,U[i]? = some (some (.lst ds))->i∈c.O->Z[i]? = some (some (.ref b))->H b=some (.lst xs)->IsL K (Cn c Z) H ds xs->IsL K (fun b=>Cn c Z b/\b≠a) H ds xs
 own:∀ j∈c.O,Z[j]? ≠ some (some (.ref a))
 new:c.H0 a=none
theorem Is.fresh {K:Fr0} {A:Addr->Prop} {H:Hp} {d:D} {v:V} {a:Addr} (h:Is K A H d v) (hn:H a=none):Is K (fun b=>A b/\b≠a) H d v:=Is.ext Ext.refl (fun b h1 h2=>⟨h1,fun e=>by rw [e,hn] at h2;cases h2⟩) h
theorem Rep.apart {K:Fr0} {U:Env} {Z:St} {H:Hp} {a:Addr} {o:HO} (r:Rep K c U Z H) (hn:H a=none):qg0 K c U Z (upd H a o) a where
 val:=fun i d v h1 h2 h3=>by
  obtain ⟨w,h4,h5⟩:=r.get h2 h1
  rw [h3] at h4
  cases h4
  exact Is.ext (Ext.of_same (qv hn _)) (fun _ h _=>h) (h5.fresh hn)
 cont:=fun i ds b xs h1 h2 h3 h4 _=>by
  obtain ⟨ds',a',ys,e1,e2,e3,e4⟩:=r.getO h2 h1
  cases e1
  rw [h3] at e2
  cases e2
  have:=qv hn o _ _ e3
  rw [h4] at this
  cases this
  exact IsL.ext (Ext.of_same (qv hn _)) (fun b hb hs=>⟨hb,fun e=>by rw [e,hn] at hs;cases hs⟩) e4
 own:=fun j hj e=>(r.new hn).2 j hj e
 new:=r.dm a hn
theorem Rep.apart_same {K:Fr0} {U:Env} {Z:St} {H H':Hp} {a:Addr} (r:Rep K c U Z H) (hn:H a=none) (sm:zD H H'):qg0 K c U Z H' a where
 val:=fun i d v h1 h2 h3=>by
  obtain ⟨w,h4,h5⟩:=r.get h2 h1
  rw [h3] at h4
  cases h4
  exact Is.ext (Ext.of_same sm) (fun _ h _=>h) (h5.fresh hn)
 cont:=fun i ds b xs h1 h2 h3 h4 _=>by
  obtain ⟨ds',a',ys,e1,e2,e3,e4⟩:=r.getO h2 h1
  cases e1
  rw [h3] at e2
  cases e2
  have:=sm _ _ e3
  rw [h4] at this
  cases this
  exact IsL.ext (Ext.of_same sm) (fun b hb hs=>⟨hb,fun e=>by rw [e,hn] at hs;cases hs⟩) e4
 own:=fun j hj e=>(r.new hn).2 j hj e
 new:=r.dm a hn
def WpN (K:Fr0) (c:Fc) (Z:St) (H:Hp) (Q:VK):R (List D×Env)->Prop
 | .ok (ds,U)=>∀ a xs H',H a=none->Rep K c U Z H'->qg0 K c U Z H' a->H' a=some (.lst xs)->True->IsL K (fun b=>Cn c Z b/\b≠a) H' ds xs->Gr c.O Z H H'->Q (.ref a) H'
 | .exc x U=>∀ H',Rep K c U Z H'->Gr c.O Z H H'->c.E x H'
 | .bad=>False
def DN (X:Cx) (c:Fc) (e:Expr) (f:M (List D)):Prop:=∃ t,PE X e t/\∀ U Z H Q,Rep X.K c U Z H->WpN X.K c Z H Q (f U)->t Z H Q
theorem WpN.gr {K:Fr0} {Z:St} {H H1:Hp} {Q:VK}:∀ {r:R (List D×Env)},WpN K c Z H Q r->Gr c.O Z H H1->WpN K c Z H1 Q r
 | .ok (d,U),h,g=>fun a xs H' hn h1 h2 h3 h4 h5 hg=>h a xs H' (g.dom a hn) h1 h2 h3 h4 h5 (g.trans hg)
 | .exc x U,h,g=>fun H' hr hg=>h H' hr (g.trans hg)
 | .bad,h,_=>h
theorem WpL.bndN {K:Fr0} {Z:St} {H:Hp} {Q:VK} {f:M (List D)} {k:List D->M (List D)} {U:Env} {Q':List V->Hp->Prop} (h:WpN K c Z H Q (Sk.bnd f k U)) (hQ:∀ d U' v H',Rep K c U' Z H'->IsL K (Cn c Z) H' d v->Gr c.O Z H H'->WpN K c Z H' Q (k d U')->Q' v H'):WpL K c Z H Q' (f U):=by
 unfold Sk.bnd at h
 cases e:f U with
 | ok p=>rw [e] at h;exact fun v H' hr hi hg=>hQ p.1 p.2 v H' hr hi hg (h.gr hg)
 | exc x U'=>rw [e] at h;exact h
 | bad=>rw [e] at h;exact h
def qg1 (f:M (List D)):M (List D):=bnd f fun ds=>lift (if immL ds&&qM ds.length then some ds else none)
theorem qbQ {es:List Expr} {f:M (List D)} (h:DA X c es f):DN X c (.List es pos) (qg1 f):=by
 obtain ⟨t,p,w⟩:=h
 refine ⟨_,qhW p,fun U Z H Q r h=>w U Z H _ r (WpL.bndN h fun ds U1 vs H1 r1 i1 g1 h1 => ?_)⟩
 by_cases hb:(immL ds&&qM ds.length)=true
 ·rw [if_pos hb] at h1
  rw [Bool.and_eq_true] at hb
  refine ⟨by rw [i1.length];exact of_decide_eq_true hb.2,fun p hp => ?_⟩
  exact h1 p vs _ hp (r1.laid hp _) (r1.apart hp) qk trivial (IsL.ext (Ext.of_same (qv hp _)) (fun b h hs=>⟨h,fun e=>by rw [e,hp] at hs;cases hs⟩) i1) (.of_same (qv hp _))
 ·rw [if_neg hb] at h1;exact h1.elim
theorem Cl.setO {O:List Nat} {Z:St} {i:Nat} {a b:Addr} (h:Cl O Z b) (hb:b≠a):Cl O (Z.set i (some (.ref a))) b:=fun j hj e=>by
 by_cases hji:j=i
 ·subst hji
  have hl:j<Z.length:=by
   have:=(gI_.mp e).1
   rwa [lS_] at this
  rw [List.getElem?_set_self hl] at e
  cases e
  exact hb rfl
 ·rw [qW hji] at e
  exact h j hj e
theorem Rep.setO {K:Fr0} {U:Env} {Z:St} {H:Hp} {i:Nat} {a:Addr} {ds:List D} {xs:List V} (r:Rep K c U Z H) (hi:i∈c.O) (hP:i ∉ c.P) (ap:qg0 K c U Z H a) (ha:H a=some (.lst xs)) (him:True) (il:IsL K (fun b=>Cn c Z b/\b≠a) H ds xs) :
  Rep K c (U.set i (some (.lst ds))) (Z.set i (some (.ref a))) H where
 len:=by rw [lS_,lS_];exact r.len
 val := fun j e hj=>by
  by_cases e1:j=i
  ·subst e1
   have hl:j<U.length:=by
    have:=(gI_.mp hj).1
    rwa [lS_] at this
   rw [List.getElem?_set_self hl] at hj
   cases hj
   exact ⟨.ref a,List.getElem?_set_self (by rw [<- r.len];exact hl),.inl ⟨hi,ds,a,xs,rfl,rfl,ha,IsL.ext Ext.refl (fun b hb _=>⟨hb.1.1,hb.1.2.setO hb.2⟩) il⟩⟩
  ·rw [qW e1] at hj
   obtain ⟨w,h1,h2⟩:=r.val j e hj
   refine ⟨w,by rw [qW e1];exact h1,?_⟩
   rcases h2 with ⟨g1,ds',b',xs',g3,g5,g6,g7⟩ | ⟨h3,h4⟩
   ·subst g3 g5
    exact .inl ⟨g1,ds',b',xs',rfl,rfl,g6,IsL.ext Ext.refl (fun b hb _=>⟨hb.1.1,hb.1.2.setO hb.2⟩) (ap.cont j ds' b' xs' hj g1 h1 g6 g7)⟩
   ·exact .inr ⟨h3,Is.ext Ext.refl (fun b hb _=>⟨hb.1.1,hb.1.2.setO hb.2⟩) (ap.val j e w hj h3 h1)⟩
 own := fun j hj w h=>by
  by_cases e1:j=i
  ·subst e1
   have hl:j<Z.length:=by
    have:=(gI_.mp h).1
    rwa [lS_] at this
   rw [List.getElem?_set_self hl] at h
   cases h
   exact ⟨a,xs,rfl,ha,.inl ap.new⟩
  ·rw [qW e1] at h
   exact r.own j hj w h
 inj := fun j k b hj hk h1 h2=>by
  by_cases e1:j=i
  ·by_cases e2:k=i
   ·rw [e1,e2]
   ·subst e1
    have hl:j<Z.length:=by
     have:=(gI_.mp h1).1
     rwa [lS_] at this
    rw [List.getElem?_set_self hl] at h1
    cases h1
    rw [qW e2] at h2
    exact absurd h2 (ap.own k hk)
  ·by_cases e2:k=i
   ·subst e2
    have hl:k<Z.length:=by
     have:=(gI_.mp h2).1
     rwa [lS_] at this
    rw [List.getElem?_set_self hl] at h2
    cases h2
    rw [qW e1] at h1
    exact absurd h1 (ap.own j hj)
   ·rw [qW e1] at h1
    rw [qW e2] at h2
    exact r.inj j k b hj hk h1 h2
 b0:=r.b0
 kp:=r.kp
 dm:=r.dm
 pO:=r.pO
 ps:=fun j hj=>by
  have e:j≠i:=fun e=>hP (e▸hj)
  rw [qW e];exact r.ps j hj
def uX (i:Nat) (f:M (List D)):MS:=sbnd f fun ds U => .ok (.nx (U.set i (some (.lst ds))))
theorem vz {i:Nat} {x:Str} {pos':Pos} {f:M (List D)} (hN:X.N.Nodup) (he:DN X c e f) (ho:i∈c.O:=by exact of_decide_eq_true rfl) (hP:i ∉ c.P:=by exact of_decide_eq_false rfl) (hi:X.N[i]? = some x:=by rfl) (hx:Loc X.env.scope x:=by first | exact Or.inl rfl | exact Or.inr rfl) (hs:swapsWith e (some (.Name x pos')) pos.line X.env=pure false:=by rfl) (hf:X.fn x=true\/X.env.scope.names.lookup x=some .local:=by first | exact .inl rfl | exact .inr rfl | assumption) :
  DS X c (.Assign [.Name x pos'] e pos) (uX i f):=by
 obtain ⟨t,p,w⟩:=he
 refine ⟨_,qc5 hN hi hx p hs hf,fun U Z H D r h=>w U Z H _ r ?_⟩
 unfold uX sbnd at h
 cases ef:f U with
 | bad=>rw [ef] at h;exact h
 | exc z U'=>rw [ef] at h;exact fun H' hr hg=>h Z H' hr hg.s
 | ok q =>
  rw [ef] at h
  intro a xs H' hn r' ap ha him il g'
  exact h _ H' (r'.setO ho hP ap ha him il) ⟨g'.ext,fun b hb hs=>hb.setO (fun e=>by rw [e,hn] at hs;exact absurd hs (by simp)),g'.dom⟩
def qbR (i:Nat):M D:=fun U=>match zf i U with
 | some ds => .ok (.int ds.length,U)
 | none => .bad
theorem qjj {i:Nat} {x:Str} {p p1:Pos} (hg:Gl X "len") (hm:X.mg "len"=none) (ho:i∈c.O:=by exact of_decide_eq_true rfl) (hN:X.N[i]? = some x:=by rfl) (hv:Vis X.env.scope x:=by first | exact Or.inl rfl | exact Or.inr (Or.inl rfl) | exact Or.inr (Or.inr rfl)) (hd:(x==("__debug__":Str))=false:=by decide) (hcd:(x==("__classdict__":Str))=false:=by decide) :
  DE X c (.Call (.Name "len" p) [.Name x p1] [] pos) (qbR i):=by
 refine ⟨_,uv jj hg hm PySem.boot_len (zQ (jO hN hv hd hcd) ya),fun U Z H Q r h => ?_⟩
 unfold qbR at h
 cases e0:zf i U with
 | none=>simp only [e0] at h;exact h.elim
 | some ds =>
  simp only [e0] at h
  obtain ⟨l,xs,him,hl,hH,il⟩:=r.getLO ho e0
  exact ⟨.ref l,hl,.inl ⟨l,xs,rfl,.inl (.inl (.inl hH)),by rw [il.length];exact h _ H r rfl .refl⟩⟩
def qd9 (i:Nat):M D:=fun U=>match zf i U with
 | some ds => .ok (.tup ds,U)
 | none => .bad
theorem qff {i:Nat} {x:Str} {p p1:Pos} (hg:Gl X "tuple") (hm:X.mg "tuple"=none) (hb:bootBuiltins "tuple"=some (.type "tuple"):=by first | rfl | exact PySem.boot_tuple) (ho:i∈c.O:=by exact of_decide_eq_true rfl) (hN:X.N[i]? = some x:=by rfl) (hv:Vis X.env.scope x:=by first | exact Or.inl rfl | exact Or.inr (Or.inl rfl) | exact Or.inr (Or.inr rfl)) (hd:(x==("__debug__":Str))=false:=by decide) (hcd:(x==("__classdict__":Str))=false:=by decide) :
  DE X c (.Call (.Name "tuple" p) [.Name x p1] [] pos) (qd9 i):=by
 refine ⟨_,qbE uT hg hm hb (zQ (jO hN hv hd hcd) ya),fun U Z H Q r h => ?_⟩
 unfold qd9 at h
 cases e0:zf i U with
 | none=>simp only [e0] at h;exact h.elim
 | some ds =>
  simp only [e0] at h
  obtain ⟨l,xs,him,hl,hH,il⟩:=r.getLO ho e0
  refine ⟨.ref l,hl,l,xs,rfl,.inl ⟨.inl (.inl hH),fun p hp=>h _ _ (r.laid hp _) ⟨p,xs,rfl,.inl qk,?_⟩ (.of_same (qv hp _))⟩⟩
  exact IsL.ext (Ext.of_same (qv hp _)) (fun _ h _=>h) il
def qcy (i:Nat) (g:M D):M D:=fun U=>match zf i U with
 | none => .bad
 | some _=>(bnd g fun k U=>match k,zf i U with
  | .int n,some ds=>match atI ds n with
   | some d => .ok (d,U)
   | none => .bad
  | _,_ => .bad) U
theorem qfg {i:Nat} {x:Str} {p1:Pos} {g:M D} (hb:DE X c b g) (hs:qcr b:=by intro _ _;rfl) (ho:i∈c.O:=by exact of_decide_eq_true rfl) (hN:X.N[i]? = some x:=by rfl) (hv:Vis X.env.scope x:=by first | exact Or.inl rfl | exact Or.inr (Or.inl rfl) | exact Or.inr (Or.inr rfl)) (hd:(x==("__debug__":Str))=false:=by decide) (hcd:(x==("__classdict__":Str))=false:=by decide) :
  DE X c (.Subscript (.Name x p1) b pos) (qcy i g):=by
 obtain ⟨tb,pb,wb⟩:=hb
 refine ⟨_,qgG qeU (jO hN hv hd hcd) pb hs,fun U Z H Q r h => ?_⟩
 unfold qcy at h
 cases e0:zf i U with
 | none=>simp only [e0] at h;exact h.elim
 | some ds0 =>
  simp only [e0] at h
  obtain ⟨l,xs0,_,hl,hH,_⟩:=r.getLO ho e0
  refine ⟨.ref l,hl,wb U Z H _ r (Wp.bnd h fun k U1 v H1 r1 i1 g1 h1 => ?_)⟩
  cases k with
  | int n =>
   cases e1:zf i U1 with
   | none=>simp only [e1] at h1;exact h1.elim
   | some ds =>
    simp only [e1] at h1
    cases e2:atI ds n with
    | none=>simp only [e2] at h1;exact h1.elim
    | some d =>
     simp only [e2] at h1
     obtain ⟨l',xs,him,hl',hH',il⟩:=r1.getLO ho e1
     rw [hl] at hl'
     cases hl'
     cases i1
     obtain ⟨w,h3,h4⟩:=il.atI e2
     exact ⟨l,xs,n,w,rfl,rfl,.inl (.inl hH'),h3,h1 w H1 r1 h4 .refl⟩
  | _=>exact h1.elim
def qjk (i:Nat):MS:=fun U=>match zf i U with
 | some ds => .ok (.rt (.lst ds) U)
 | none => .bad
theorem qjl {i:Nat} {x:Str} {p1:Pos} (ho:i∈c.O:=by exact of_decide_eq_true rfl) (hP:i ∉ c.P:=by exact of_decide_eq_false rfl) (hN:X.N[i]? = some x:=by rfl) (hv:Vis X.env.scope x:=by first | exact Or.inl rfl | exact Or.inr (Or.inl rfl) | exact Or.inr (Or.inr rfl)) (hd:(x==("__debug__":Str))=false:=by decide) (hcd:(x==("__classdict__":Str))=false:=by decide) :
  DS X c (.Return (some (.Name x p1)) pos) (qjk i):=by
 refine ⟨_,qc4 (jO hN hv hd hcd),fun U Z H D r h => ?_⟩
 unfold qjk at h
 cases e0:zf i U with
 | none=>simp only [e0] at h;exact h.elim
 | some ds =>
  simp only [e0] at h
  obtain ⟨l,xs,him,hl,hH,il⟩:=r.getLO ho e0
  obtain ⟨a,ys,e1,e2,e3⟩:=r.own i ho _ hl
  cases e1
  have hB:c.B l:=by
   rcases e3 with z | z
   ·exact r.b0.1 l z
   ·exact absurd z.1 hP
  exact ⟨.ref l,hl,h (.ref l) Z H r ⟨l,xs,rfl,hB,hH,IsL.ext Ext.refl (fun _ h _=>h.1) il⟩ .refl⟩
end
def cfn (O P:List Nat) (A:Addr->Prop) (H:Hp) (Io:Addr->Prop) (E:Exn->Hp->Prop) (S:Nat->Option (Option V)):Fc where
 O:=O
 P:=P
 B:=fun a=>A a\/H a=none
 H0:=H
 Io:=Io
 E:=E
 S:=S
def jJ (n:Nat) (ds:List D):Env:=ds.map some++List.replicate (n-ds.length) none
def spD (K:Fr0) (F:List D->R D):Sp:=fun vs H Q _=>∃ ds A,IsL K A H ds vs/\qbJ K H/\match F ds with
 | .ok d=>∀ v H',zD H H'->Is K (fun a=>A a\/H a=none) H' d v->Q v H'
 | _=>False
def qez (K:Fr0) (F:List D->List D->R (D×List D)):Sp:=fun vs H Q _=>∃ (bs ds:List D) (A:Addr->Prop) (a:Addr) (xs vs':List V),vs = .ref a::vs'/\H a=some (.lst xs)/\qbJ K H/\IsL K A H bs xs/\¬ A a/\IsL K A H ds vs'/\match F bs ds with
 | .ok (d,bs')=>∀ v H' xs',(∀ b o,b≠a->H b=some o->H' b=some o)->(∀ b,H' b=none->H b=none)->H' a=some (.lst xs')->True->IsL K (fun b=>A b\/H b=none) H' bs' xs'->Is K (fun b=>A b\/H b=none) H' d v->Q v H'
 | _=>False
def dfn (n p:Nat) (body:MS) (ds:List D):R D:=if ds.length=p then match body (jJ n ds) with
 | .ok (.rt d _) => .ok d
 | .ok (.nx _) => .ok .non
 | _ => .bad else .bad
def vA (n p:Nat) (body:MS) (bs ds:List D):R (D×List D):=if ds.length+1=p then match body (jJ n (.lst bs::ds)) with
 | .ok (.rt d U)=>match zf 0 U with
  | some bs' => .ok (d,bs')
  | none => .bad
 | .ok (.nx U)=>match zf 0 U with
  | some bs' => .ok (.non,bs')
  | none => .bad
 | _ => .bad else .bad
theorem uY {N:List Str} {vs:List V} {i:Nat} {v:V} (h:(zP N vs)[i]? = some (some v)):vs[i]? = some v:=by
 unfold zP at h
 by_cases hi:i<vs.length
 ·rw [List.getElem?_append_left (by simpa using hi),gM_] at h
  cases e:vs[i]? with
  | none=>rw [e] at h;cases h
  | some w=>rw [e] at h;cases h;rfl
 ·rw [List.getElem?_append_right (by simpa using hi),List.getElem?_replicate] at h
  split at h<;>cases h
theorem v4 {N:List Str} {vs:List V} {i:Nat} {v:V} (h:vs[i]? = some v):(zP N vs)[i]? = some (some v):=by
 unfold zP
 have hi:i<vs.length:=(gI_.mp h).1
 rw [List.getElem?_append_left (by simpa using hi),gM_,h];rfl
theorem qbS {n:Nat} {ds:List D} {i:Nat} {d:D} (h:(jJ n ds)[i]? = some (some d)):ds[i]? = some d:=by
 unfold jJ at h
 by_cases hi:i<ds.length
 ·rw [List.getElem?_append_left (by simpa using hi),gM_] at h
  cases e:ds[i]? with
  | none=>rw [e] at h;cases h
  | some w=>rw [e] at h;cases h;rfl
 ·rw [List.getElem?_append_right (by simpa using hi),List.getElem?_replicate] at h
  split at h<;>cases h
theorem wE {K:Fr0} {N:List Str} {O:List Nat} {A:Addr->Prop} {H:Hp} {E:Exn->Hp->Prop} {ds:List D} {vs:List V} (il:IsL K A H ds vs) (tb:qbJ K H) (hO:∀ i∈O,ds.length<=i) :
  Rep K (cfn O [] A H (fun _=>False) E fun _=>none) (jJ N.length ds) (zP N vs) H where
 len:=by unfold jJ zP;simp [il.length]
 val:=fun i d h=>by
  have h1:=qbS h
  obtain ⟨v,h2,h3⟩:=il.get h1
  have hi:i ∉ O:=fun z=>by
   have:=(gI_.mp h1).1
   have:=hO i z
   omega
  refine ⟨v,v4 h2,.inr ⟨hi,Is.ext Ext.refl (fun a ha _=>⟨.inl ha,fun j hj e => ?_⟩) h3⟩⟩
  have:=(gI_.mp (uY e)).1
  have:=hO j hj
  rw [il.length] at *
  omega
 own:=fun j hj v h=>by
  have:=(gI_.mp (uY h)).1
  have:=hO j hj
  rw [il.length] at *
  omega
 inj:=fun i j a hi hj h1 h2=>by
  have:=(gI_.mp (uY h1)).1
  have:=hO i hi
  rw [il.length] at *
  omega
 b0:=⟨fun a h => .inr h,tb⟩
 kp:=fun b o h _=>h
 dm:=fun b h=>h
 pO:=fun j hj=>by cases hj
 ps:=fun j hj=>by cases hj
section
variable {P:Program} {w:World} {K:PySem.W.Frag} {mg:Str->Option Value} {base:Heap}
theorem zr {x qual:Str} {st:Stmt} {f:Addr} {fd:FuncData} {N ps:List Str} {k:Nat} {O:List Nat} {body:MS} (F:Fun K x qual st f fd) (S:qy N ps (qd st)) (hO:∀ i∈O,ps.length<=i)
  (hb:∀ (cdv:Value) (A:Around) (outer:List PySem.Env) (s:Shared) (H:Hp) (E:XK) (B:Addr->Prop),jA k (A.deeper (envOfC qual (qd st) s.heap.objs.size f cdv)) ->
   DSs (qgr CX0 P w K mg base N qual (qd st) f cdv A outer s H E).nox (cfn O [] B H (fun _=>False) (fun _ _=>False) fun _=>none) (qx st) body) :
  uQ P w K mg base CX0 (k+1) f fd ps (spD K (dfn N.length ps.length body)):=by
 refine F.ok S (fun vs H Q E h => ?_) (fun cdv A outer s H vs Q E hr h => ?_)
 ·obtain ⟨ds,B,il,_,h⟩:=h
  unfold dfn at h
  by_cases e:ds.length=ps.length
  ·rw [il.length];exact e
  ·rw [if_neg e] at h;exact h.elim
 ·obtain ⟨ds,B,il,tb,h⟩:=h
  obtain ⟨t,p,wt⟩:=hb cdv A outer s H E B hr
  refine ⟨t,p,?_⟩
  unfold dfn at h
  by_cases e:ds.length=ps.length
  ·rw [if_pos e] at h
   refine wt (jJ N.length ds) (zP N vs) H _ (wE il tb (fun i hi=>by rw [e];exact hO i hi)) ?_
   have same:∀ {U:Env} {Z:St} {H':Hp},Rep K (cfn O [] B H (fun _=>False) (fun _ _=>False) fun _=>none) U Z H'->zD H H':=fun r b o hb=>r.kp b o hb fun z=>z
   cases eb:body (jJ N.length ds) with
   | bad=>rw [eb] at h;exact h.elim
   | exc z U=>rw [eb] at h;exact h.elim
   | ok fl =>
    rw [eb] at h
    cases fl with
    | nx U=>exact fun Z' H' r' _=>h .non H' (same r') rfl
    | rt d U=>exact fun v Z' H' r' i' _=>h v H' (same r') i'
    | bk U=>exact h.elim
    | ct U=>exact h.elim
  ·rw [if_neg e] at h;exact h.elim
theorem qg2 {x qual:Str} {st:Stmt} {f:Addr} {fd:FuncData} {N ps:List Str} {k:Nat} {O:List Nat} {body:MS} (F:Fun K x qual st f fd) (S:qy N ps (qd st)) (hO:∀ i∈O,i=0\/ps.length<=i) (h0:0∈O)
  (hb:∀ (cdv:Value) (A:Around) (outer:List PySem.Env) (s:Shared) (H:Hp) (E:XK) (B Io:Addr->Prop) (S:Nat->Option (Option V)),jA k (A.deeper (envOfC qual (qd st) s.heap.objs.size f cdv)) ->
   DSs (qgr CX0 P w K mg base N qual (qd st) f cdv A outer s H E).nox (cfn O [0] B H Io (fun _ _=>False) S) (qx st) body) :
  uQ P w K mg base CX0 (k+1) f fd ps (qez K (vA N.length ps.length body)):=by
 refine F.ok S (fun vs H Q E h => ?_) (fun cdv A outer s H vs Q E hr h => ?_)
 ·obtain ⟨bs,ds,B,a,xs,vs',rfl,ha,him,ib,nA,il,h⟩:=h
  unfold vA at h
  by_cases e:ds.length+1=ps.length
  ·rw [lC_,il.length];exact e
  ·rw [if_neg e] at h;exact h.elim
 ·obtain ⟨bs,ds,B,a,xs,vs',rfl,ha,him,ib,nA,il,h⟩:=h
  obtain ⟨t,p,wt⟩:=hb cdv A outer s H E B (fun b=>b=a) (fun j=>(zP N (.ref a::vs'))[j]?) hr
  refine ⟨t,p,?_⟩
  unfold vA at h
  by_cases e:ds.length+1=ps.length
  ·rw [if_pos e] at h
   have only:∀ j∈O,∀ v,(zP N (.ref a::vs'))[j]? = some (some v)->j=0/\v = .ref a:=fun j hj v hv=>by
    have h1:=uY hv
    rcases hO j hj with z | z
    ·subst z;cases h1;exact ⟨rfl,rfl⟩
    ·have:=(gI_.mp h1).1
     rw [lC_,il.length] at this
     omega
   have r0:Rep K (cfn O [0] B H (fun b=>b=a) (fun _ _=>False) fun j=>(zP N (.ref a::vs'))[j]?) (jJ N.length (.lst bs::ds)) (zP N (.ref a::vs')) H:=by
    refine ⟨by unfold jJ zP;simp [il.length],fun i d hd => ?_,fun j hj v hv => ?_,fun i j b hi hj h1 h2 => ?_,⟨fun b hb => .inr hb,fun q P pos eP=>⟨(him q P pos eP).1,fun z=>by have:=(him q P pos eP).1;rw [z,ha] at this;cases this⟩⟩,fun b o hb _=>hb,fun b hb=>hb,fun j hj => ?_,fun _ _=>rfl⟩
    ·have h1:=qbS hd
     cases i with
     | zero =>
      cases h1
      exact ⟨.ref a,v4 rfl,.inl ⟨h0,bs,a,xs,rfl,rfl,ha,IsL.ext Ext.refl (fun b hb _=>⟨.inl hb,fun j hj e2=>by obtain ⟨_,e3⟩:=only j hj _ e2;cases e3;exact nA hb⟩) ib⟩⟩
     | succ i =>
      have h1':ds[i]? = some d:=by simpa using h1
      obtain ⟨v,h2,h3⟩:=il.get h1'
      have hi:i+1 ∉ O:=fun z=>by
       have h4:=(gI_.mp h1').1
       rcases hO _ z with q | q
       ·cases q
       ·omega
      refine ⟨v,v4 (by simpa using h2),.inr ⟨hi,Is.ext Ext.refl (fun b hb _=>⟨.inl hb,fun j hj e2 => ?_⟩) h3⟩⟩
      obtain ⟨_,e3⟩:=only j hj _ e2
      cases e3
      exact nA hb
    ·obtain ⟨rfl,rfl⟩:=only j hj v hv
     exact ⟨a,xs,rfl,ha,.inr ⟨by simp [cfn],rfl⟩⟩
    ·rw [(only i hi _ h1).1,(only j hj _ h2).1]
    ·have:j=0:=by simpa [cfn] using hj
     rw [this];exact h0
   refine wt _ _ H _ r0 ?_
   have fin:∀ {U:Env} {Z:St} {H':Hp} {bs':List D},Rep K (cfn O [0] B H (fun b=>b=a) (fun _ _=>False) fun j=>(zP N (.ref a::vs'))[j]?) U Z H'->zf 0 U=some bs' ->
     ∃ xs',H' a=some (.lst xs')/\True/\IsL K (fun b=>B b\/H b=none) H' bs' xs':=fun {U Z H' bs'} r e1=>by
    obtain ⟨l,ys,h1,h2,h3,h4⟩:=r.getLO h0 e1
    have h5:=r.ps 0 (by simp [cfn])
    have h6:(cfn O [0] B H (fun b=>b=a) (fun _ _=>False) fun j=>(zP N (.ref a::vs'))[j]?).S 0=some (some (.ref a)):=v4 rfl
    rw [h2,h6] at h5
    cases h5
    exact ⟨ys,h3,h1,IsL.ext Ext.refl (fun b hb _=>hb.1) h4⟩
   have kps:∀ {U:Env} {Z:St} {H':Hp},Rep K (cfn O [0] B H (fun b=>b=a) (fun _ _=>False) fun j=>(zP N (.ref a::vs'))[j]?) U Z H'->∀ b o,b≠a->H b=some o->H' b=some o:=fun r b o hb ho=>r.kp b o ho hb
   cases eb:body (jJ N.length (.lst bs::ds)) with
   | bad=>rw [eb] at h;exact h.elim
   | exc z U=>rw [eb] at h;exact h.elim
   | ok fl =>
    rw [eb] at h
    cases fl with
    | nx U =>
     cases eg:zf 0 U with
     | none=>simp only [eg] at h
     | some bs' =>
      simp only [eg] at h
      exact fun Z' H' r' _=>by
       obtain ⟨xs',h1,h2,h3⟩:=fin r' eg
       exact h .non H' xs' (kps r') (fun b hb=>r'.dm b hb) h1 h2 h3 rfl
    | rt d U =>
     cases eg:zf 0 U with
     | none=>simp only [eg] at h
     | some bs' =>
      simp only [eg] at h
      exact fun v Z' H' r' i' _=>by
       obtain ⟨xs',h1,h2,h3⟩:=fin r' eg
       exact h v H' xs' (kps r') (fun b hb=>r'.dm b hb) h1 h2 h3 i'
    | bk U=>exact h.elim
    | ct U=>exact h.elim
  ·rw [if_neg e] at h;exact h.elim
end
section
variable {X:Cx} {c:Fc} {a b e:Expr} {pos:Pos}
def qp (F:List D->R D) (g:M (List D)):M D:=bnd g fun ds U=>match F ds with
 | .ok d => .ok (d,U)
 | _ => .bad
theorem qjm {k:Nat} {f:Addr} {fd:FuncData} {ps:List Str} {F:List D->R D} {x:Str} {p:Pos} {es:List Expr} {g:M (List D)} (G:uQ X.prog X.w X.K X.mg X.base CX0 k f fd ps (spD X.K F)) (hr:jA k X.A) (hg:Gl X x) (hm:X.mg x=some (.ref f)) (hk:PySem.W.keepIn X.K (.ref f)=true) (hb:ua X.K fd ps [])
  (ha:DA X c (e::es) g) (hd:(x==("__debug__":Str))=false:=by decide) (he:starEach (e::es) X.env=(false,eval e X.env)::starEach es X.env:=by rfl) (hpl:(backTo pos (starEach es X.env)).any (·.1)=false:=by rfl):DE X c (.Call (.Name x p) (e::es) [] pos) (qp F g):=by
 obtain ⟨t,pa,w⟩:=ha
 refine ⟨_,vt G hr hg hm hk hb .nil qgJ pa hd he hpl,fun U Z H Q r h=>w U Z H _ r (WpL.bnd h fun ds U1 vs H1 r1 i1 g1 h1 => ?_)⟩
 rw [List.append_nil]
 refine ⟨ds,Cn c Z,i1,r1.tb,?_⟩
 cases ef:F ds with
 | bad=>simp only [ef] at h1;exact h1.elim
 | exc z U'=>simp only [ef] at h1;exact h1.elim
 | ok d =>
  simp only [ef] at h1
  exact fun v H' sm i=>h1 v H' (r1.same sm) (Is.ext Ext.refl (fun a ha _=>ha.elim id r1.new) i) (.of_same sm)
def qo (F:List D->List D->R (D×List D)) (i:Nat) (g:M (List D)):M D:=fun U=>match zf i U with
 | none => .bad
 | some _=>(bnd g fun ds U=>match zf i U with
  | none => .bad
  | some bs=>match F bs ds with
   | .ok (d,bs') => .ok (d,U.set i (some (.lst bs')))
   | _ => .bad) U
theorem qfh {k i:Nat} {f:Addr} {fd:FuncData} {ps:List Str} {F:List D->List D->R (D×List D)} {x y:Str} {p p1:Pos} {es:List Expr} {g:M (List D)} (G:uQ X.prog X.w X.K X.mg X.base CX0 k f fd ps (qez X.K F)) (hr:jA k X.A) (hg:Gl X x) (hm:X.mg x=some (.ref f)) (hk:PySem.W.keepIn X.K (.ref f)=true) (hb:ua X.K fd ps [])
  (ha:DA X c es g) (ho:i∈c.O:=by exact of_decide_eq_true rfl) (hN:X.N[i]? = some y:=by rfl) (hv:Vis X.env.scope y:=by first | exact Or.inl rfl | exact Or.inr (Or.inl rfl) | exact Or.inr (Or.inr rfl)) (hdy:(y==("__debug__":Str))=false:=by decide) (hcd:(y==("__classdict__":Str))=false:=by decide)
  (hd:(x==("__debug__":Str))=false:=by decide) (he:starEach (.Name y p1::es) X.env=(false,eval (.Name y p1) X.env)::starEach es X.env:=by rfl) (hpl:(backTo pos (starEach es X.env)).any (·.1)=false:=by rfl):DE X c (.Call (.Name x p) (.Name y p1::es) [] pos) (qo F i g):=by
 obtain ⟨t,pa,w⟩:=ha
 refine ⟨_,vt G hr hg hm hk hb .nil qgJ (zQ (jO hN hv hdy hcd) pa he) hd he hpl,fun U Z H Q r h => ?_⟩
 unfold qo at h
 cases e0:zf i U with
 | none=>simp only [e0] at h;exact h.elim
 | some ds0 =>
  simp only [e0] at h
  obtain ⟨l,xs0,_,hl,hH,_⟩:=r.getLO ho e0
  refine ⟨.ref l,hl,w U Z H _ r (WpL.bnd h fun ds U1 vs H1 r1 i1 g1 h1 => ?_)⟩
  show qez X.K F (.ref l::vs++[]) H1 Q E0
  rw [List.append_nil]
  cases e1:zf i U1 with
  | none=>simp only [e1] at h1;exact h1.elim
  | some bs =>
   simp only [e1] at h1
   obtain ⟨l',xs,him,hl',hH',il⟩:=r1.getLO ho e1
   rw [hl] at hl'
   cases hl'
   refine ⟨bs,ds,Cn c Z,l,xs,vs,rfl,hH',r1.tb,il,fun hc=>hc.2 i ho hl,i1,?_⟩
   cases ef:F bs ds with
   | bad=>simp only [ef] at h1;exact h1.elim
   | exc z U'=>simp only [ef] at h1;exact h1.elim
   | ok q =>
    obtain ⟨d,bs'⟩:=q
    simp only [ef] at h1
    intro v H' xs' kp dm ha2 him2 il2 i2
    obtain ⟨r2,g2⟩:=r1.io (bs:=bs') ho hl kp ha2 him2 (IsL.ext Ext.refl (fun a ha _=>ha.elim id r1.new) il2) dm
    exact h1 v H' r2 (Is.ext Ext.refl (fun a ha _=>ha.elim id r1.new) i2) g2
end
def qg3:Key->PyData
 | .inl i => .int i
 | .inr x => .str x
mutual
def zG:D->PyData
 | .non => .none
 | .bl b => .bool b
 | .int i => .int i
 | .str x => .str x
 | .tup ds => .tuple (toPDs ds)
 | .lst ds => .list (toPDs ds)
 | .dic kvs => .dict (kvs.map fun p=>(qg3 p.1,.int p.2))
 | .fz ns => .list (ns.map .int)
 | .exc _ => .dict [(.int (2 ^ 2000),.none)]
def toPDs:List D->List PyData
 | []=>[]
 | d::ds=>zG d::toPDs ds
end
mutual
def noL:D->Bool
 | .tup ds=>noLs ds
 | .lst _=>false
 | .fz _=>false
 | _=>true
def noLs:List D->Bool
 | []=>true
 | d::ds=>noL d&&noLs ds
end
mutual
def noX:D->Bool
 | .tup ds=>noXs ds
 | .lst ds=>noXs ds
 | .exc _=>false
 | _=>true
def noXs:List D->Bool
 | []=>true
 | d::ds=>noX d&&noXs ds
end
mutual
theorem qh6:∀ {d:D},(zG d).showable=true->noX d=true
 | .non,_=>rfl
 | .bl _,_=>rfl
 | .int _,_=>rfl
 | .str _,_=>rfl
 | .tup ds,h=>by unfold noX;exact noXs_sh (by simpa [zG,PyData.showable] using h)
 | .lst ds,h=>by unfold noX;exact noXs_sh (by simpa [zG,PyData.showable] using h)
 | .dic _,_=>rfl
 | .fz _,_=>rfl
 | .exc _,h=>by
  have e:(PyData.dict [(.int (2 ^ 2000),.none)]).showable=false:=by decide +kernel
  rw [show zG (.exc _)=PyData.dict [(.int (2 ^ 2000),.none)] from rfl,e] at h
  cases h
theorem noXs_sh:∀ {ds:List D},PyData.showableAll (toPDs ds)=true->noXs ds=true
 | [],_=>rfl
 | d::ds,h=>by
  have h':(zG d).showable=true/\PyData.showableAll (toPDs ds)=true:=by simpa [toPDs,PyData.showableAll] using h
  unfold noXs
  rw [qh6 h'.1,noXs_sh h'.2];rfl
end
mutual
theorem qfi:∀ {d:D},(zG d).canLay0=true->noX d=true
 | .non,_=>rfl
 | .bl _,_=>rfl
 | .int _,_=>rfl
 | .str _,_=>rfl
 | .tup ds,h=>by unfold noX;exact noXs_lay (by simpa [zG,PyData.canLay0] using h)
 | .lst ds,h=>by unfold noX;exact noXs_lay (by simpa [zG,PyData.canLay0] using h)
 | .dic _,_=>rfl
 | .fz _,_=>rfl
 | .exc _,h=>by simp [zG,PyData.canLay0] at h
theorem noXs_lay:∀ {ds:List D},PyData.canLayAll0 (toPDs ds)=true->noXs ds=true
 | [],_=>rfl
 | d::ds,h=>by
  have h':(zG d).canLay0=true/\PyData.canLayAll0 (toPDs ds)=true:=by simpa [toPDs,PyData.canLayAll0] using h
  unfold noXs
  rw [qfi h'.1,noXs_lay h'.2];rfl
end
theorem uZ {h:Heap}:∀ {ns:List Int} {us:List Value},qT (ns.map V.int) us->∃ as,ReadsAll h us (ns.map .int) as
 | [],us,r=>by
  rw [List.map_nil] at r;cases r;exact ⟨[],.nil⟩
 | n::ns,us,r=>by
  rw [mC_] at r
  cases r with
  | cons r1 r2 =>
   obtain ⟨t,e⟩:=r1
   subst e
   obtain ⟨as,q⟩:=uZ (ns:=ns) r2
   exact ⟨[]++as,.cons (.int n t) q⟩
theorem qcz {α:Type} {x:α} {l l':List α} (h1:x ∉ l) (h2:x ∉ l'):x ∉ l++l':=fun h=>(mA_.mp h).elim h1 h2
theorem wF {P:Program} {w:World} {h:Heap}:∀ {kvs:List (Key×Int)} {es:List DictEntry} {vs:List (Key×Value)},KV (kvs.map fun p=>(p.1,V.int p.2)) vs->Pairs (qaO P w) es vs ->
  ReadsAll h (es.map (·.key)) ((kvs.map fun p=>(qg3 p.1,PyData.int p.2)).map (·.1)) []/\ReadsAll h (es.map (·.val)) ((kvs.map fun p=>(qg3 p.1,PyData.int p.2)).map (·.2)) []
 | [],es,vs,r,p=>by
  have r':KV ([]:List (Key×V)) vs:=r
  unfold KV at r'
  cases r'
  cases p
  exact ⟨.nil,.nil⟩
 | (k,i)::kvs,es,vs,r,p=>by
  have r':KV ((k,V.int i)::kvs.map fun p=>(p.1,V.int p.2)) vs:=r
  unfold KV at r'
  cases r' with
  | cons r1 r2 =>
   cases p with
   | cons p1 p2 p3 =>
    obtain ⟨q1,q2⟩:=wF (h:=h) (kvs:=kvs) r2 p3
    obtain ⟨e1,t,e2⟩:=r1
    have hk:∀ {e:DictEntry} {kv:Key×Value},k=kv.1->(qaO P w).is kv.1 e.key=true->Reads h e.key (qg3 k) []:=fun {e kv} hk hi=>by
     subst hk
     rcases zi hi with ⟨i,t,e1,e2⟩ | ⟨x,t,e1,e2⟩
     ·rw [e1,e2];exact .int i t
     ·rw [e1,e2];exact .str x t
    refine ⟨.cons (as:=[]) (bs:=[]) (hk e1 p1) q1,.cons (as:=[]) (bs:=[]) ?_ q2⟩
    show Reads h _ (.int i) []
    dsimp only
    rw [p2,e2]
    exact .int i t
section
variable {X:Cx} {pins:List (Addr×Obj)} {Z:St} {H:Hp} {s:Shared} {A:Addr->Prop}
mutual
theorem yp (I:Inv X pins Z H s):∀ {d:D} {v:V} {u:Value},noX d=true->Is X.K A H d v->z9 v u->∃ as,Reads s.heap u (zG d) as/\(noL d=true->sysModules ∉ as)
 | .non,_,_,_,h,r=>by cases h;cases r;exact ⟨[],.none,by simp⟩
 | .bl b,_,_,_,h,r=>by cases h;cases r;exact ⟨[],.bool b,by simp⟩
 | .int i,_,_,_,h,r=>by cases h;obtain ⟨t,rfl⟩:=r;exact ⟨[],.int i t,by simp⟩
 | .str x,_,_,_,h,r=>by cases h;obtain ⟨t,rfl⟩:=r;exact ⟨[],.str x t,by simp⟩
 | .tup ds,_,_,nx,⟨a,xs,hv,ta,il⟩,r=>by
  subst hv
  cases r
  obtain ⟨its,rv,p,_⟩:=I.tuple ta.sq
  obtain ⟨o,h1,h2,n,h3⟩:=p
  obtain ⟨as,q,nl⟩:=readsL_of I (by simpa [noX] using nx) il rv
  exact ⟨as,.tuple h1 h2 h3 (by simpa using q),fun z=>nl (by simpa [noL] using z)⟩
 | .lst ds,_,_,nx,⟨a,xs,hv,_,ta,il⟩,r=>by
  subst hv
  cases r
  obtain ⟨its,rv,p,_⟩:=I.list (SqL.of ta)
  obtain ⟨o,h1,h2,n,h3⟩:=p.isList
  obtain ⟨as,q,nl⟩:=readsL_of I (by simpa [noX] using nx) il rv
  exact ⟨a::as,.list h1 h2 h3 (by simpa using q),fun z=>by simp [noL] at z⟩
 | .dic kvs,_,_,_,⟨a,hv,_,ta⟩,r=>by
  subst hv
  cases r
  obtain ⟨hz,hS,vs,rk,o,es,ep,h1,h2,h3,h4,h5,h6⟩:=(show j8 X.prog X.w H s.heap a (.dK _) from I.hok a _ ta)
  obtain ⟨q1,q2⟩:=wF (h:=s.heap) rk h5
  refine ⟨_,Reads.dict (as:=[]) (bs:=[]) h1 h2.1 h3 q1 q2,fun _ hm => ?_⟩
  have:sysModules=a:=by simpa using hm
  rw [<- this] at hS
  simp at hS
 | .exc _,_,_,nx,_,_=>by simp [noX] at nx
 | .fz ns,_,_,_,⟨a,hv,ta⟩,r=>by
  subst hv
  cases r
  obtain ⟨its,rv,p,_⟩:=I.list ta.sq
  obtain ⟨o,h1,h2,n,h3⟩:=p.isList
  obtain ⟨as,q⟩:=uZ rv
  exact ⟨a::as,.list h1 h2 h3 (by simpa using q),fun z=>by simp [noL] at z⟩
theorem readsL_of (I:Inv X pins Z H s):∀ {ds:List D} {xs:List V} {us:List Value},noXs ds=true->IsL X.K A H ds xs->qT xs us->∃ as,ReadsAll s.heap us (toPDs ds) as/\(noLs ds=true->sysModules ∉ as)
 | [],_,_,_,h,r=>by cases h;cases r;exact ⟨[],.nil,by simp⟩
 | d :: ds,_,_,nx,⟨x,ys,hx,h1,h2⟩,r=>by
  subst hx
  cases r with
  | cons r1 r2 =>
   have nx':noX d=true/\noXs ds=true:=by simpa [noXs] using nx
   obtain ⟨as,q1,n1⟩:=yp I nx'.1 h1 r1
   obtain ⟨bs,q2,n2⟩:=readsL_of I nx'.2 h2 r2
   exact ⟨as++bs,.cons q1 q2,fun z=>by
    have z':noL d=true/\noLs ds=true:=by simpa [noLs] using z
    exact qcz (n1 z'.1) (n2 z'.2)⟩
end
end
def qaw (d:D):Bool:=(zG d).showable&&decide ((zG d).shown.length<=sizeLine)&&decide ((zG d).depth<=50)&&(!(zG d).hasDict||noL d)
def qlj (K:Fr0):List V->Hp->VK->Prop:=fun xs H Q=>∃ v d A,xs=[v]/\Is K A H d v/\qaw d=true/\Q (.str (zG d).shown) H
section
variable {X:Cx}
theorem qax {k:Nat} (hr:jA k X.A):j9 X (.builtin "repr") (qlj X.K):=by
 intro pins s Z H xs us Q I r h
 obtain ⟨v,d,A,rfl,hi,ok,q⟩:=h
 obtain ⟨u,rfl,ru⟩:=qT.one r
 unfold qaw at ok
 simp only [Bool.and_eq_true,decide_eq_true_eq] at ok
 obtain ⟨⟨⟨o1,o2⟩,o3⟩,o4⟩:=ok
 obtain ⟨as,rd,nl⟩:=yp I (qh6 o1) hi ru
 have hun:=hr.un
 have big:∀ a,u = .ref a->wpAny (model X.prog X.w) X.A (call (.builtin "repr") [u]) (EP X pins Z Q) X.xe s:=fun a e=>by
  subst e
  refine repr_of_reads' rd o1 (fun hd=>nl ?_) hr.gd (by omega) (fun _ _ e=>e) (fun h' u tk hk=>⟨.str _,H,I.kept hk,⟨_,rfl⟩,q⟩) o2
  rw [hd] at o4
  simpa using o4
 cases d with
 | non=>cases hi;cases ru;exact PySem.P.repr_of_none ⟨.str _,H,I.tok _,⟨_,rfl⟩,q⟩
 | bl b=>cases hi;cases ru;exact PySem.P.repr_of_bool ⟨.str _,H,I.tok _,⟨s.toks,by cases b<;>rfl⟩,q⟩
 | int i =>
  cases hi;obtain ⟨t,rfl⟩:=ru
  exact PySem.P.repr_of_int (of_decide_eq_true o1) ⟨.str _,H,I.tok _,⟨_,rfl⟩,q⟩
 | str x=>cases hi;obtain ⟨t,rfl⟩:=ru;exact PySem.P.repr_of_str ⟨.str _,H,I.tok _,⟨_,rfl⟩,q⟩ o2
 | tup ds=>obtain ⟨a,zs,rfl,_⟩:=hi;exact big a ru
 | lst ds=>obtain ⟨a,zs,rfl,_⟩:=hi;exact big a ru
 | dic kvs=>obtain ⟨a,rfl,_⟩:=hi;exact big a ru
 | fz ns=>obtain ⟨a,rfl,_⟩:=hi;exact big a ru
 | exc C=>obtain ⟨a,rfl,_⟩:=hi;exact big a ru
end
def uA:List D->Option D
 | [d]=>if qaw d then some (.str (zG d).shown) else none
 | _=>none
theorem qay {K:Fr0}:vX K uA (qlj K):=by
 intro A H xs d vs Q hn h e k
 unfold uA at e
 split at e
 ·rename_i d0
  obtain ⟨v,rfl,e2⟩:=IsL.inv1 h
  obtain ⟨e6,e7⟩:=zx e
  subst e7
  exact ⟨v,d0,A,rfl,e2,e6,k _ H (zD.refl H) rfl⟩
 ·cases e
def u3 (d:D):Bool:=(zG d).canLay0&&decide ((zG d).depth<=50)
def qh7 (K:Fr0) (neg:Bool):R2:=fun x y H Q=>∃ d e A,Is K A H d x/\Is K A H e y/\u3 d=true/\u3 e=true/\Q (.bl (if neg then !PyData.eqv (zG d) (zG e) else PyData.eqv (zG d) (zG e))) H
section
variable {X:Cx}
theorem qa4 {d:D} (h:u3 d=true):SeqAt.shaped (zG d)=true:=by
 unfold u3 at h
 unfold SeqAt.shaped
 simp only [Bool.and_eq_true,decide_eq_true_eq] at h |-
 exact ⟨h.1,by omega⟩
theorem qaz {d:D} (h:u3 d=true):noX d=true:=by
 unfold u3 at h
 rw [Bool.and_eq_true] at h
 exact qfi h.1
theorem qlk {k:Nat} (hr:jA k X.A):OpR X (compareOp .Eq) (qh7 X.K false):=by
 intro pins s Z H x y v u Q I rx ry h
 obtain ⟨d,e,A,h1,h2,o1,o2,q⟩:=h
 obtain ⟨as,r1,_⟩:=yp I (qaz o1) h1 rx
 obtain ⟨bs,r2,_⟩:=yp I (qaz o2) h2 ry
 exact SeqAt.compareEq_shaped r1 r2 (qa4 o1) (qa4 o2) hr.units ⟨.bl _,H,I,rfl,by simpa using q⟩
theorem qh8 {k:Nat} (hr:jA k X.A):OpR X (compareOp .NotEq) (qh7 X.K true):=by
 intro pins s Z H x y v u Q I rx ry h
 obtain ⟨d,e,A,h1,h2,o1,o2,q⟩:=h
 obtain ⟨as,r1,_⟩:=yp I (qaz o1) h1 rx
 obtain ⟨bs,r2,_⟩:=yp I (qaz o2) h2 ry
 exact SeqAt.compareNe_shaped r1 r2 (qa4 o1) (qa4 o2) hr.units ⟨.bl _,H,I,rfl,by simpa using q⟩
end
def eqA (x y:D):Option D:=if u3 x&&u3 y then some (.bl (PyData.eqv (zG x) (zG y))) else none
def neA (x y:D):Option D:=if u3 x&&u3 y then some (.bl (!PyData.eqv (zG x) (zG y))) else none
theorem qjn {K:Fr0}:OpS K eqA (qh7 K false):=by
 intro A H x y d v u Q hn ix iy e k
 obtain ⟨e1,e2⟩:=zx e
 rw [Bool.and_eq_true] at e1
 subst e2
 exact ⟨x,y,A,ix,iy,e1.1,e1.2,k _ H (zD.refl H) rfl⟩
theorem qjo {K:Fr0}:OpS K neA (qh7 K true):=by
 intro A H x y d v u Q hn ix iy e k
 obtain ⟨e1,e2⟩:=zx e
 rw [Bool.and_eq_true] at e1
 subst e2
 exact ⟨x,y,A,ix,iy,e1.1,e1.2,k _ H (zD.refl H) rfl⟩
section
variable {X:Cx} {c:Fc} {a b e:Expr} {pos:Pos}
def qh9 (i:Nat) (g:M D):M D:=fun U=>match zf i U with
 | none => .bad
 | some _=>(bnd g fun y U=>match zf i U with
  | none => .bad
  | some ds=>lift (neA (.lst ds) y) U) U
theorem qll {i k:Nat} {x:Str} {p1:Pos} {g:M D} (hr:jA k X.A) (hb:DE X c b g) (ho:i∈c.O:=by exact of_decide_eq_true rfl) (hN:X.N[i]? = some x:=by rfl) (hv:Vis X.env.scope x:=by first | exact Or.inl rfl | exact Or.inr (Or.inl rfl) | exact Or.inr (Or.inr rfl)) (hd:(x==("__debug__":Str))=false:=by decide) (hcd:(x==("__classdict__":Str))=false:=by decide) :
  DT X c (.Compare (.Name x p1) [.NotEq] [b] pos) (tst (qh9 i g)):=by
 obtain ⟨tb,pb,wb⟩:=hb
 refine ⟨_,qeM (qh8 hr) (jO hN hv hd hcd) pb (zC _),fun U Z H Q r h => ?_⟩
 unfold tst qh9 bnd at h
 cases e0:zf i U with
 | none=>simp only [e0] at h;exact h.elim
 | some ds0 =>
  simp only [e0] at h
  obtain ⟨l,xs0,_,hl,hH,_⟩:=r.getLO ho e0
  refine ⟨.ref l,hl,wb U Z H _ r ?_⟩
  cases eg:g U with
  | bad=>simp only [eg] at h;exact h
  | exc z U'=>simp only [eg] at h;exact h
  | ok q =>
   obtain ⟨y,U1⟩:=q
   simp only [eg] at h
   intro u H1 r1 i1 g1
   cases e1:zf i U1 with
   | none=>simp only [e1] at h;exact h.elim
   | some ds =>
    simp only [e1] at h
    cases en:neA (.lst ds) y with
    | none=>simp only [en,lift] at h;exact h.elim
    | some d =>
     simp only [en,lift,ret] at h
     obtain ⟨e3,e4⟩:=zx en
     rw [Bool.and_eq_true] at e3
     subst e4
     obtain ⟨l',xs,him,hl',hH',il⟩:=r1.getLO ho e1
     rw [hl] at hl'
     cases hl'
     refine ⟨.lst ds,y,fun _=>True,⟨l,xs,rfl,trivial,hH',IsL.ext Ext.refl (fun _ h _=>trivial) il⟩,Is.ext Ext.refl (fun _ _ _=>trivial) i1,e3.1,e3.2,_,rfl,?_⟩
     exact h H1 r1 g1
end
section
variable {prog:Program} {w:World} {A:Around} {E:Value->Shared->Prop} {s:Shared}
theorem qjp {it tu:Addr} {k:Nat} {arr:Array Value} {x:Value} {Q:Value->Shared->Prop} (hI:s.heap.IsTupleIter it tu k) (hT:s.heap.IsTuple tu arr) (hx:arr[k]? = some x)
  (q:∀ h',h'.IsTupleIter it tu (k+1)->Heap.SameBut it s.heap h'->Q x { s with heap:=h' }):wpAny (model prog w) A (Builtin.SmallTypes.nextOf (.ref it)) Q E s:=by
 obtain ⟨ob,e1,e2,e3⟩:=id hI
 obtain ⟨ot,f1,_,m,f2⟩:=hT
 unfold Builtin.SmallTypes.nextOf
 refine wpAny_bind (wpAny_callSpecial?_slot (name:=Str.ofString "__next__") hI.typeIs F.slot_tuple_iterator_next (wpAny_call_entry F.slot_tuple_iterator_next hI.typeIs F.entry_tuple_iterator_next ?_ (F.args_tuple_iterator_next_1 _)))
 show wpAny (model prog w) _ (field (Value.ref it) 0 >>= _) _ _ s
 refine wpAny_bind (wpAny_field e1 e3 (x:=Value.ref tu) rfl ?_)
 show wpAny (model prog w) _ (if (Value.ref tu==Value.none)=true then _ else _) _ _ s
 rw [if_neg (show ¬ ((Value.ref tu==Value.none)=true) from Bool.false_ne_true)]
 show wpAny (model prog w) _ (field (Value.ref it) 1 >>= _) _ _ s
 refine wpAny_bind (wpAny_field e1 e3 (x:=Value.int k 0) rfl ?_)
 show wpAny (model prog w) _ (seqItems? (Value.ref tu) >>= _) _ _ s
 refine wpAny_bind (wpAny_seqItems f1 f2 ?_)
 simp only [Int.toNat_natCast,hx]
 refine wpAny_bind (wpAny_setField e1 e3 (by simp) (wpAny_pure ⟨x,rfl,wpAny_pure (q _ ?_ (Heap.SameBut.update ..))⟩))
 exact ⟨_,Heap.get?_update_self _ e1 (Obj.isFreed_of_fields (Obj.data_mapFields e3 _)),(Obj.cls_mapFields ..).trans e2,by rw [Obj.data_mapFields e3];simp [rawInt]⟩
theorem qjq {it tu:Addr} {k:Nat} {arr:Array Value} {Q:Value->Shared->Prop} (hh:A.handled=none) (hI:s.heap.IsTupleIter it tu k) (hT:s.heap.IsTuple tu arr) (hx:arr[k]? = none)
  (q:∀ h' e,Heap.ExtBut it s.heap h'->(∃ o,h'.get? e=some o/\o.cls = .type "StopIteration")->E (.ref e) { s with heap:=h' }):wpAny (model prog w) A (Builtin.SmallTypes.nextOf (.ref it)) Q E s:=by
 obtain ⟨ob,e1,e2,e3⟩:=id hI
 obtain ⟨ot,f1,_,m,f2⟩:=hT
 unfold Builtin.SmallTypes.nextOf
 refine wpAny_bind (wpAny_callSpecial?_slot (name:=Str.ofString "__next__") hI.typeIs F.slot_tuple_iterator_next (wpAny_call_entry F.slot_tuple_iterator_next hI.typeIs F.entry_tuple_iterator_next ?_ (F.args_tuple_iterator_next_1 _)))
 show wpAny (model prog w) _ (field (Value.ref it) 0 >>= _) _ _ s
 refine wpAny_bind (wpAny_field e1 e3 (x:=Value.ref tu) rfl ?_)
 show wpAny (model prog w) _ (if (Value.ref tu==Value.none)=true then _ else _) _ _ s
 rw [if_neg (show ¬ ((Value.ref tu==Value.none)=true) from Bool.false_ne_true)]
 show wpAny (model prog w) _ (field (Value.ref it) 1 >>= _) _ _ s
 refine wpAny_bind (wpAny_field e1 e3 (x:=Value.int k 0) rfl ?_)
 show wpAny (model prog w) _ (seqItems? (Value.ref tu) >>= _) _ _ s
 refine wpAny_bind (wpAny_seqItems f1 f2 ?_)
 simp only [Int.toNat_natCast,hx]
 refine wpAny_bind (wpAny_rule (wpAny_bind (wpAny_setField e1 e3 (by simp) ?_)))
 show wpAny (model prog w) _ (newExc (Value.type "StopIteration") [] >>= _) _ _ _
 refine wpAny_bind ?_
 simp only [newExc,newTuple]
 refine wpAny_bind (wpAny_newObj_type ?_ (by size_fits))
 refine wpAny_bind (m:=firstArgMember _ _) (wpAny_of_eq (a:=Value.none) (by first | rfl | (simp only [firstArgMember];rfl)) ?_)
 refine wpAny_newObj_type ?_ (by size_fits)
 simp only [raiseNew]
 refine wpAny_bind (wpAny_handled ?_)
 first | rw [show A.in1.handled=none from hh] | rw [hh]
 exact wpAny_bind (wpAny_pure (wpAny_throw (q _ _ (((Heap.SameBut.update ..).extBut.push _).push _) ⟨_,Heap.get?_push_size _ rfl,rfl⟩)))
end
theorem v5 {prog:Program} {w:World} {A:Around} (hh:A.handled=none) (it tu:Addr) (hne:tu≠it) (arr:Array Value) :
  Draws prog w A it [it,tu] arr.size (fun i x=>arr[i]? = some x) (fun i h=>h.IsTupleIter it tu i/\h.IsTuple tu arr) where
 live:=fun i h st=>by obtain ⟨⟨o,e,_⟩,_⟩:=st;exact ⟨o,e⟩
 frame:=fun i h h' st k=>by
  obtain ⟨h1,o,e,r⟩:=st
  exact ⟨h1.at fun o q=>k it (by simp) o q,o,k tu (by simp) o e,r⟩
 item:=fun i s Q E hi st q=>qjp st.1 st.2 (Array.getElem?_eq_getElem hi) fun h' h1 sb=>q _ h' s.toks (Array.getElem?_eq_getElem hi) ⟨h1,by
  obtain ⟨o,e,r⟩:=st.2
  exact ⟨o,sb.extBut _ _ hne e,r⟩⟩ sb
 done:=fun s Q E st q=>qjq hh st.1 st.2 (Array.getElem?_eq_none (Nat.le_refl _)) q
structure ZAp (z TI TO i1 i2:Addr) (fp1 fp2:List Addr):Prop where
 zTI:z≠TI
 zTO:z≠TO
 zi1:z≠i1
 zi2:z≠i2
 IO:TI≠TO
 Ii1:TI≠i1
 Ii2:TI≠i2
 Oi1:TO≠i1
 Oi2:TO≠i2
 ii:i1≠i2
 z1:z ∉ fp1
 z2:z ∉ fp2
 O1:TO ∉ fp1
 O2:TO ∉ fp2
 i21:i2 ∉ fp1
 i12:i1 ∉ fp2
section
variable {prog:Program} {w:World} {A:Around} {E:Value->Shared->Prop} {s:Shared} {z TI TO i1 i2:Addr} {fp1 fp2:List Addr} {n1 n2 k:Nat} {P1 P2:Nat->Value->Prop} {S1 S2:Nat->Heap->Prop}
theorem jK {fp:List Addr} {a:Addr} {h h':Heap} (sb:Heap.SameBut a h h') (ha:a ∉ fp):∀ b∈fp,∀ o,h.get? b=some o->h'.get? b=some o:=fun b hb o e=>sb.extBut _ _ (fun q=>ha (q▸hb)) e
theorem qlm (D1:Draws prog w A i1 fp1 n1 P1 S1) (D2:Draws prog w A i2 fp2 n2 P2 S2) (ap:ZAp z TI TO i1 i2 fp1 fp2) {p q:Value} (zz:IsZip s.heap z TI TO .none) (zI:IsPair s.heap TI (.ref i1) (.ref i2)) (zO:IsPair s.heap TO p q)
  (t1:S1 k s.heap) (t2:S2 k s.heap) (l1:k<n1) (l2:k<n2) {Q:Value->Shared->Prop}
  (fin:∀ x y h' tk,P1 k x->P2 k y->IsZip h' z TI TO (rawInt s.heap.objs.size)->IsPair h' TO x y->S1 (k+1) h'->S2 (k+1) h'->IsPair h' s.heap.objs.size x y ->
   (∀ c o,c≠z->c≠TO->c≠i1->c≠i2->s.heap.get? c=some o->h'.get? c=some o)->Q (.ref s.heap.objs.size) { s with heap:=h',toks:=tk }) :
  wpAny (model prog w) A (Builtin.«zip.__next__» ⟨[.ref z],[]⟩) (fun r s'=>∃ v,r = .done (.ret v)/\Q v s') E s:=by
 show wpAny (model prog w) A (field (Value.ref z) 2 >>= _) _ _ _
 refine wpAny_bind (wpAny_field zz rfl (x:=Value.bool false) rfl ?_)
 show wpAny (model prog w) A (field (Value.ref z) 3 >>= _) _ _ _
 refine wpAny_bind (wpAny_field zz rfl (x:=Value.ref TI) rfl (wpAny_bind (wpAny_seqItems zI rfl ?_)))
 show wpAny (model prog w) A (Builtin.SmallTypes.ownedTupleIsFree (Value.ref z) >>= _) _ _ _
 refine wpAny_bind ?_
 unfold Builtin.SmallTypes.ownedTupleIsFree
 refine wpAny_bind (wpAny_field zz rfl (x:=Value.none) rfl (wpAny_pure ?_))
 simp only [if_true]
 refine wpAny_bind (wpAny_rule (wpAny_bind (wpAny_field zz rfl (x:=Value.ref TO) rfl (wpAny_bind (wpAny_setField_rec zz (by simp) fun h1 zz1 b1 => ?_)))))
 replace zz1:IsZip h1 z TI TO .ellipsis:=zz1
 refine wpAny_bind ?_
 simp only [List.zipIdx_cons,List.zipIdx_nil,List.forIn_cons,List.forIn_nil]
 refine wpAny_bind (wpAny_bind (wpAny_onRaise ?_))
 show wpAny (model prog w) A (Builtin.SmallTypes.nextOf (Value.ref i1) >>= _) _ _ _
 refine wpAny_bind (D1.item k _ _ _ l1 (D1.frame _ _ _ t1 (jK b1 ap.z1)) fun x h2 tk2 px u1 b2=>wpAny_pure ?_)
 have zO2:IsPair h2 TO p q:=b2.extBut _ _ ap.Oi1 (b1.extBut _ _ ap.zTO.symm zO)
 refine wpAny_bind (wpAny_seqItems zO2 rfl (wpAny_bind (wpAny_updateSeq_pair zO2 fun h3 zO3 b3 => ?_)))
 replace zO3:IsPair h3 TO x q:=zO3
 refine wpAny_bind (wpAny_letGo (wpAny_pure (wpAny_bind (wpAny_bind (wpAny_onRaise ?_)))))
 show wpAny (model prog w) A (Builtin.SmallTypes.nextOf (Value.ref i2) >>= _) _ _ _
 have t2':S2 k h3:=D2.frame _ _ _ (D2.frame _ _ _ (D2.frame _ _ _ t2 (jK b1 ap.z2)) (jK b2 ap.i12)) (jK b3 ap.O2)
 refine wpAny_bind (D2.item k _ _ _ l2 t2' fun y h4 tk4 py u2 b4=>wpAny_pure ?_)
 have zO4:IsPair h4 TO x q:=b4.extBut _ _ ap.Oi2 zO3
 refine wpAny_bind (wpAny_seqItems zO4 rfl (wpAny_bind (wpAny_updateSeq_pair zO4 fun h5 zO5 b5 => ?_)))
 replace zO5:IsPair h5 TO x y:=zO5
 refine wpAny_bind (wpAny_letGo (wpAny_pure (wpAny_pure (wpAny_bind (wpAny_seqItems zO5 rfl (wpAny_bind (wpAny_newTuple ?_)))))))
 have sz:h5.objs.size=s.heap.objs.size:=by rw [b5.1,b4.1,b3.1,b2.1,b1.1]
 have zz5:IsZip h5 z TI TO .ellipsis:=b5.extBut _ _ ap.zTO (b4.extBut _ _ ap.zi2 (b3.extBut _ _ ap.zTO (b2.extBut _ _ ap.zi1 zz1)))
 have keep5:∀ c o,c≠z->c≠TO->c≠i1->c≠i2->s.heap.get? c=some o->h5.get? c=some o:=fun c o c1 c2 c3 c4 e=>b5.extBut _ _ c2 (b4.extBut _ _ c4 (b3.extBut _ _ c2 (b2.extBut _ _ c3 (b1.extBut _ _ c1 e))))
 have v1:S1 (k+1) h5:=D1.frame _ _ _ (D1.frame _ _ _ (D1.frame _ _ _ u1 (jK b3 ap.O1)) (jK b4 ap.i21)) (jK b5 ap.O1)
 have v2:S2 (k+1) h5:=D2.frame _ _ _ u2 (jK b5 ap.O2)
 have lz:z<h5.objs.size:=Heap.lt_size zz5
 show wpAny (model prog w) A (Builtin.SmallTypes.ownedTupleHandOut (Value.ref z) (Value.ref h5.objs.size) >>= _) _ _ _
 refine wpAny_bind ?_
 unfold Builtin.SmallTypes.ownedTupleHandOut
 have zz6:IsZip (h5.push { cls := .type "tuple",data := .seq #[x,y] }) z TI TO .ellipsis:=Heap.get?_push_of_some _ zz5
 refine wpAny_bind (wpAny_setField_rec zz6 (by simp) fun h7 zz7 b7 => ?_)
 replace zz7:IsZip h7 z TI TO (rawInt h5.objs.size):=zz7
 refine wpAny_setField_rec zz7 (by simp) fun h8 zz8 b8 => ?_
 replace zz8:IsZip h8 z TI TO (rawInt h5.objs.size):=zz8
 have up:∀ c o,c≠z->h5.get? c=some o->h8.get? c=some o:=fun c o c1 e=>b8.extBut _ _ c1 (b7.extBut _ _ c1 (Heap.get?_push_of_some _ e))
 have new8:IsPair h8 h5.objs.size x y:=b8.extBut _ _ (Nat.ne_of_gt lz) (b7.extBut _ _ (Nat.ne_of_gt lz) (Heap.get?_push_size _ rfl))
 rw [sz] at zz8 new8
 refine wpAny_pure ⟨_,rfl,?_⟩
 show Q (Value.ref h5.objs.size) _
 rw [sz]
 exact fin x y h8 tk4 px py zz8 (up _ _ ap.zTO.symm zO5) (D1.frame _ _ _ v1 fun b hb o e=>up b o (fun q=>ap.z1 (q▸hb)) e) (D2.frame _ _ _ v2 fun b hb o e=>up b o (fun q=>ap.z2 (q▸hb)) e) new8 fun c o c1 c2 c3 c4 e=>up c o c1 (keep5 c o c1 c2 c3 c4 e)
theorem qg4 (hh:A.handled=none) (D1:Draws prog w A i1 fp1 n1 P1 S1) (D2:Draws prog w A i2 fp2 n2 P2 S2) (ap:ZAp z TI TO i1 i2 fp1 fp2) {p q:Value} (zz:IsZip s.heap z TI TO .none) (zI:IsPair s.heap TI (.ref i1) (.ref i2)) (zO:IsPair s.heap TO p q)
  (t1:S1 k s.heap) (t2:S2 k s.heap) (hk:k=min n1 n2) {Q:Fin->Shared->Prop}
  (fin:∀ h' tk e,(∀ c o,c≠z->c≠TO->c≠i1->c≠i2->s.heap.get? c=some o->h'.get? c=some o)->(∃ o,h'.get? e=some o/\o.cls = .type "StopIteration")->E (.ref e) { s with heap:=h',toks:=tk }) :
  wpAny (model prog w) A (Builtin.«zip.__next__» ⟨[.ref z],[]⟩) Q E s:=by
 show wpAny (model prog w) A (field (Value.ref z) 2 >>= _) _ _ _
 refine wpAny_bind (wpAny_field zz rfl (x:=Value.bool false) rfl ?_)
 show wpAny (model prog w) A (field (Value.ref z) 3 >>= _) _ _ _
 refine wpAny_bind (wpAny_field zz rfl (x:=Value.ref TI) rfl (wpAny_bind (wpAny_seqItems zI rfl ?_)))
 show wpAny (model prog w) A (Builtin.SmallTypes.ownedTupleIsFree (Value.ref z) >>= _) _ _ _
 refine wpAny_bind ?_
 unfold Builtin.SmallTypes.ownedTupleIsFree
 refine wpAny_bind (wpAny_field zz rfl (x:=Value.none) rfl (wpAny_pure ?_))
 simp only [if_true]
 refine wpAny_bind (wpAny_rule (wpAny_bind (wpAny_field zz rfl (x:=Value.ref TO) rfl (wpAny_bind (wpAny_setField_rec zz (by simp) fun h1 zz1 b1 => ?_)))))
 replace zz1:IsZip h1 z TI TO .ellipsis:=zz1
 refine wpAny_bind ?_
 simp only [List.zipIdx_cons,List.zipIdx_nil,List.forIn_cons,List.forIn_nil]
 refine wpAny_bind (wpAny_bind (wpAny_onRaise ?_))
 show wpAny (model prog w) A (Builtin.SmallTypes.nextOf (Value.ref i1) >>= _) _ _ _
 have t1':S1 k h1:=D1.frame _ _ _ t1 (jK b1 ap.z1)
 by_cases h12:n1<=n2
 ·have e1:k=n1:=by rw [hk];exact Nat.min_eq_left h12
  rw [e1] at t1'
  refine wpAny_bind (D1.done _ _ _ t1' fun h2 e b2 he => ?_)
  obtain ⟨oe,f1,f2⟩:=he
  have zz2:IsZip h2 z TI TO .ellipsis:=b2 _ _ ap.zi1 zz1
  have ez:e≠z:=fun x=>by subst x;rw [zz2] at f1;cases f1;simp at f2
  refine wpAny_setField_rec zz2 (by simp) fun h3 _ b3 => ?_
  exact fin h3 s.toks e (fun c o c1 _ c3 _ x=>b3.extBut _ _ c1 (b2 _ _ c3 (b1.extBut _ _ c1 x))) ⟨oe,b3.extBut _ _ ez f1,f2⟩
 ·have e1:k=n2:=by rw [hk];exact Nat.min_eq_right (by omega)
  refine wpAny_bind (D1.item k _ _ _ (by omega) t1' fun x h2 tk2 px u1 b2=>wpAny_pure ?_)
  have zO2:IsPair h2 TO p q:=b2.extBut _ _ ap.Oi1 (b1.extBut _ _ ap.zTO.symm zO)
  refine wpAny_bind (wpAny_seqItems zO2 rfl (wpAny_bind (wpAny_updateSeq_pair zO2 fun h3 zO3 b3 => ?_)))
  refine wpAny_bind (wpAny_letGo (wpAny_pure (wpAny_bind (wpAny_bind (wpAny_onRaise ?_)))))
  show wpAny (model prog w) A (Builtin.SmallTypes.nextOf (Value.ref i2) >>= _) _ _ _
  have t2':S2 k h3:=D2.frame _ _ _ (D2.frame _ _ _ (D2.frame _ _ _ t2 (jK b1 ap.z2)) (jK b2 ap.i12)) (jK b3 ap.O2)
  rw [e1] at t2'
  refine wpAny_bind (D2.done _ _ _ t2' fun h4 e b4 he => ?_)
  obtain ⟨oe,f1,f2⟩:=he
  have zz4:IsZip h4 z TI TO .ellipsis:=b4 _ _ ap.zi2 (b3.extBut _ _ ap.zTO (b2.extBut _ _ ap.zi1 zz1))
  have ez:e≠z:=fun x=>by subst x;rw [zz4] at f1;cases f1;simp at f2
  refine wpAny_setField_rec zz4 (by simp) fun h5 _ b5 => ?_
  exact fin h5 tk2 e (fun c o c1 c2 c3 c4 x=>b5.extBut _ _ c1 (b4 _ _ c4 (b3.extBut _ _ c2 (b2.extBut _ _ c3 (b1.extBut _ _ c1 x))))) ⟨oe,b5.extBut _ _ ez f1,f2⟩
theorem qg5 {l1 l2:Addr} {xs ys:Array Value} {Q:Value->Shared->Prop} (t1:s.heap.IsTuple l1 xs) (t2:s.heap.IsTuple l2 ys)
  (fin:∀ h',IsZip h' (s.heap.objs.size+4) (s.heap.objs.size+2) (s.heap.objs.size+3) .none->IsPair h' (s.heap.objs.size+2) (.ref s.heap.objs.size) (.ref (s.heap.objs.size+1))->IsPair h' (s.heap.objs.size+3) .none .none ->
   h'.IsTupleIter s.heap.objs.size l1 0->h'.IsTupleIter (s.heap.objs.size+1) l2 0->(∀ c o,s.heap.get? c=some o->h'.get? c=some o)->Q (.ref (s.heap.objs.size+4)) { s with heap:=h' }) :
  wpAny (model prog w) A (call (.type "zip") [.ref l1,.ref l2]) Q E s:=by
 have meets:Meets (Builtin.«zip.__new__» ⟨[.type "zip",.ref l1,.ref l2],[]⟩) (fun _ R s=>s.heap.IsTuple l1 xs/\s.heap.IsTuple l2 ys /\
   R (.ok (.ret (.ref (s.heap.objs.size+4)))) { s with heap:=((((s.heap.push { cls := .type "tuple_iterator",data := .fields #[.ref l1,.int 0 0] }).push { cls := .type "tuple_iterator",data := .fields #[.ref l2,.int 0 0] }).push { cls := .type "tuple",data := .seq #[.ref s.heap.objs.size,.ref (s.heap.objs.size+1)] }).push { cls := .type "tuple",data := .seq #[.none,.none] }).push { cls := .type "zip",data := .fields #[.none,.bool false,.bool false,.ref (s.heap.objs.size+2),.ref (s.heap.objs.size+3)] } }) :=
  .of_wp fun prog w A R s h=>by
   obtain ⟨hp,g,d,tk,os⟩:=s
   obtain ⟨ha,hb,h⟩:=h
   have hsub:=sub_zip
   have hA:Heap.IsTuple (Shared.heap ⟨hp,g,d,tk,os⟩) l1 xs:=ha
   have hB:Heap.IsTuple (Shared.heap ⟨hp.push { cls := .type "tuple_iterator",data := .fields #[.ref l1,.int 0 0] },g,d,tk,os⟩) l2 ys:=by
    obtain ⟨o,e,r⟩:=hb
    exact ⟨o,Heap.get?_push_of_some _ e,r⟩
   wp_walk using wpAny_pyIter_tuple hA,wpAny_pyIter_tuple hB
   simp only [Heap.size_push] at *
   exact ⟨_,rfl,h⟩
 refine callType_new F.called_zip (by decide) (F.typeCall_zip_2 _ _) (F.newCall_zip_2 _ _) (fun obj=>F.args_object_init_3 obj _ _) F.entry_zip_new meets ⟨t1,t2,?_⟩
 generalize e1:s.heap.push { cls := .type "tuple_iterator",data := .fields #[.ref l1,.int 0 0] }=m1
 have s1:m1.objs.size=s.heap.objs.size+1:=by rw [<- e1,Heap.size_push]
 have q1:m1.get? s.heap.objs.size=some { cls := .type "tuple_iterator",data := .fields #[.ref l1,.int 0 0] }:=by rw [<- e1];exact Heap.get?_push_size _ rfl
 have k1:∀ c o,s.heap.get? c=some o->m1.get? c=some o:=fun c o x=>by rw [<- e1];exact Heap.get?_push_of_some _ x
 generalize e2:m1.push { cls := .type "tuple_iterator",data := .fields #[.ref l2,.int 0 0] }=m2
 have s2:m2.objs.size=s.heap.objs.size+2:=by rw [<- e2,Heap.size_push,s1]
 have q2:m2.get? (s.heap.objs.size+1)=some { cls := .type "tuple_iterator",data := .fields #[.ref l2,.int 0 0] }:=by rw [<- e2,<- s1];exact Heap.get?_push_size _ rfl
 have k2:∀ c o,m1.get? c=some o->m2.get? c=some o:=fun c o x=>by rw [<- e2];exact Heap.get?_push_of_some _ x
 generalize e3:m2.push { cls := .type "tuple",data := .seq #[.ref s.heap.objs.size,.ref (s.heap.objs.size+1)] }=m3
 have s3:m3.objs.size=s.heap.objs.size+3:=by rw [<- e3,Heap.size_push,s2]
 have q3:m3.get? (s.heap.objs.size+2)=some { cls := .type "tuple",data := .seq #[.ref s.heap.objs.size,.ref (s.heap.objs.size+1)] }:=by rw [<- e3,<- s2];exact Heap.get?_push_size _ rfl
 have k3:∀ c o,m2.get? c=some o->m3.get? c=some o:=fun c o x=>by rw [<- e3];exact Heap.get?_push_of_some _ x
 generalize e4:m3.push { cls := .type "tuple",data := .seq #[.none,.none] }=m4
 have s4:m4.objs.size=s.heap.objs.size+4:=by rw [<- e4,Heap.size_push,s3]
 have q4:m4.get? (s.heap.objs.size+3)=some { cls := .type "tuple",data := .seq #[.none,.none] }:=by rw [<- e4,<- s3];exact Heap.get?_push_size _ rfl
 have k4:∀ c o,m3.get? c=some o->m4.get? c=some o:=fun c o x=>by rw [<- e4];exact Heap.get?_push_of_some _ x
 generalize e5:m4.push { cls := .type "zip",data := .fields #[.none,.bool false,.bool false,.ref (s.heap.objs.size+2),.ref (s.heap.objs.size+3)] }=m5
 have q5:m5.get? (s.heap.objs.size+4)=some { cls := .type "zip",data := .fields #[.none,.bool false,.bool false,.ref (s.heap.objs.size+2),.ref (s.heap.objs.size+3)] }:=by rw [<- e5,<- s4];exact Heap.get?_push_size _ rfl
 have k5:∀ c o,m4.get? c=some o->m5.get? c=some o:=fun c o x=>by rw [<- e5];exact Heap.get?_push_of_some _ x
 show _/\_
 exact ⟨⟨_,q5,rfl⟩,fin m5 q5 (k5 _ _ (k4 _ _ q3)) (k5 _ _ q4) ⟨_,k5 _ _ (k4 _ _ (k3 _ _ (k2 _ _ q1))),rfl,rfl⟩ ⟨_,k5 _ _ (k4 _ _ (k3 _ _ q2)),rfl,rfl⟩ fun c o x=>k5 _ _ (k4 _ _ (k3 _ _ (k2 _ _ (k1 _ _ x))))⟩
end
section
variable {X:Cx} {pins:List (Addr×Obj)} {Z:St} {H:Hp} {s:Shared} {h':Heap}
theorem qjr {ch:List Addr} {T:Addr} {o:HO} {t':Nat} (I:Inv X pins Z H s) (k:∀ b u,b ∉ ch->s.heap.get? b=some u->h'.get? b=some u) (hf:∀ b∈ch,qcm X pins H b) (hT:s.heap.objs.size<=T) (new:j8 X.prog X.w (upd H T o) h' T o) :
  Inv X pins Z (upd H T o) { s with heap:=h',toks:=t' }:=by
 have hn:H T=none:=I.hok.fresh hT
 have nch:∀ b u,H b=some u->b ∉ ch:=fun b u e z=>by rw [(hf b z).1] at e;cases e
 refine I.step (g':=s.gens) (d':=s.drawn) (ch:=ch) (fun b hb=>⟨(hf b hb).2.2.2.1,(hf b hb).2.1,(hf b hb).2.2.2.2.1,(hf b hb).2.2.2.2.2⟩) (fun b u _ _ hc e _=>k b u hc e) (fun b u _ _ hc e _=>⟨u.slots,k b u hc e⟩) (fun b u hc e n => ?_)
  (fun b u hc e=>⟨u,k b u hc e⟩) (fun b xs e=>by rw [qj (qE e hn)];exact e) (fun b u xs e=>by rw [qj (qE e hn)];exact e) (fun b ps y e=>by rw [qj (qE e hn)];exact e) (fun m hm => ?_) (fun b u e => ?_) I.bare
 ·rw [qj (Nat.ne_of_lt (Nat.lt_of_lt_of_le (Heap.lt_size e) hT))];exact n
 ·obtain ⟨ob,es,ep,ho,r⟩:=hm
  exact ⟨ob,es,ep,k _ ob (fun z=>(hf _ z).2.1 rfl) ho,r⟩
 ·by_cases hb:b=T
  ·subst hb;rw [qk] at e;cases e;exact new
  ·rw [qj hb] at e
   refine (I.hok b u e).stay (fun c v hc q=>k c v ?_ q) (fun c q=>by rw [qj (qE q hn)];exact q) (fun c xs q=>by rw [qj (qE q hn)];exact q) fun c ob y q=>by rw [qj (qE q hn)];exact q
   rcases hc with z | z
   ·rw [z];exact nch b u e
   ·exact nch c _ z
theorem qjs {ch:List Addr} {t':Nat} (I:Inv X pins Z H s) (k:∀ b u,b ∉ ch->s.heap.get? b=some u->h'.get? b=some u) (hf:∀ b∈ch,qcm X pins H b):Inv X pins Z H { s with heap:=h',toks:=t' }:=by
 have nch:∀ b u,H b=some u->b ∉ ch:=fun b u e z=>by rw [(hf b z).1] at e;cases e
 refine I.step (g':=s.gens) (d':=s.drawn) (ch:=ch) (fun b hb=>⟨(hf b hb).2.2.2.1,(hf b hb).2.1,(hf b hb).2.2.2.2.1,(hf b hb).2.2.2.2.2⟩) (fun b u _ _ hc e _=>k b u hc e) (fun b u _ _ hc e _=>⟨u.slots,k b u hc e⟩) (fun b u hc e n=>n)
  (fun b u hc e=>⟨u,k b u hc e⟩) (fun b xs e=>e) (fun b u xs e=>e) (fun _ _ _ e=>e) (fun m hm => ?_) (fun b u e => ?_) I.bare
 ·obtain ⟨ob,es,ep,ho,r⟩:=hm
  exact ⟨ob,es,ep,k _ ob (fun z=>(hf _ z).2.1 rfl) ho,r⟩
 ·refine (I.hok b u e).stay (fun c v hc q=>k c v ?_ q) (fun c q=>q) fun c xs q=>q
  rcases hc with z | z
  ·rw [z];exact nch b u e
  ·exact nch c _ z
end
def Itz (K:Fr0) (a1 a2:Addr) (xs ys:List V):It :=
 ⟨fun i H=>i<min xs.length ys.length/\SqT K H a1 xs/\SqT K H a2 ys,fun i H x H'=>∃ p u v,H p=none/\xs[i]? = some u/\ys[i]? = some v/\x = .ref p/\H'=upd H p (.tup [u,v]),fun i H=>i=min xs.length ys.length/\SqT K H a1 xs/\SqT K H a2 ys⟩
def ZSt (z TI TO i1 i2 a1 a2:Addr) (i:Nat) (h:Heap):Prop:=IsZip h z TI TO .none/\IsPair h TI (.ref i1) (.ref i2)/\(∃ p q,IsPair h TO p q)/\h.IsTupleIter i1 a1 i/\h.IsTupleIter i2 a2 i
theorem qg6 {P:Program} {w:World} {K:Fr0} {es:List Expr} {kk:Nat} {pos:Pos} {z TI TO i1 i2 a1 a2:Addr} {xs ys:List V} (ap:ZAp z TI TO i1 i2 [i1,a1] [i2,a2]) (n1:a1≠i1) (n2:a2≠i2) :
  qkE P w K (.Tuple es kk pos) (Itz K a1 a2 xs ys) [z,TI,TO,i1,i2] z (ZSt z TI TO i1 i2 a1 a2) where
 mem:=by simp
 obj:=fun i h st b hb=>by
  obtain ⟨h1,h2,⟨p,q,h3⟩,⟨o4,h4,c4,d4⟩,⟨o5,h5,c5,d5⟩⟩:=st
  simp only [List.mem_cons,nN_,or_false] at hb
  rcases hb with rfl | rfl | rfl | rfl | rfl
  ·exact ⟨_,h1,fun v e=>by cases (show Data.fields _=Data.cell v from e)⟩
  ·exact ⟨_,h2,fun v e=>by cases (show Data.seq _ _=Data.cell v from e)⟩
  ·exact ⟨_,h3,fun v e=>by cases (show Data.seq _ _=Data.cell v from e)⟩
  ·exact ⟨_,h4,fun v e=>by rw [d4] at e;cases e⟩
  ·exact ⟨_,h5,fun v e=>by rw [d5] at e;cases e⟩
 keep:=fun i h h' st k=>by
  obtain ⟨h1,h2,⟨p,q,h3⟩,h4,h5⟩:=st
  exact ⟨k z (by simp) _ h1,k TI (by simp) _ h2,⟨p,q,k TO (by simp) _ h3⟩,h4.at fun o e=>k i1 (by simp) o e,h5.at fun o e=>k i2 (by simp) o e⟩
 item:=by
  intro X hP hw hK hc i pins s Z H E I hf st hg
  subst hP hw hK
  obtain ⟨hlt,hx,hy⟩:=hg
  obtain ⟨h1,h2,⟨p,q,h3⟩,h4,h5⟩:=st
  obtain ⟨it1,r1,p1,z1⟩:=I.tuple hx
  obtain ⟨it2,r2,p2,z2⟩:=I.tuple hy
  have l1:i<it1.toArray.size:=by rw [sT_,<- r1.length];omega
  have l2:i<it2.toArray.size:=by rw [sT_,<- r2.length];omega
  have hT:s.TypeIs (.ref z) "zip":=⟨_,h1,rfl⟩
  have hh:X.A.in1.handled=none:=I.ok.hd hc
  unfold pyNext
  refine wpAny_bind (wpAny_attempt (wpAny_callSpecial?_slot (name:=Str.ofString "__next__") hT F.slot_zip_next (wpAny_call_entry F.slot_zip_next hT F.entry_zip_next
   (qlm (v5 hh i1 a1 n1 it1.toArray) (v5 hh i2 a2 n2 it2.toArray) ap h1 h2 h3 ⟨h4,p1⟩ ⟨h5,p2⟩ l1 l2 fun x y h' tk px py zz zO u1 u2 new kp=>wpAny_pure ?_) (F.args_zip_next_1 _))))
  refine ⟨.ref s.heap.objs.size,rfl,wpAny_letOwnedTupleGo_zip zz fun h2' zz2 sb => ?_⟩
  obtain ⟨xv,hxv⟩:∃ v,xs[i]? = some v:=⟨xs[i]'(by omega),gG (by omega)⟩
  obtain ⟨yv,hyv⟩:∃ v,ys[i]? = some v:=⟨ys[i]'(by omega),gG (by omega)⟩
  obtain ⟨x',ex,rx⟩:=r1.get hxv
  obtain ⟨y',ey,ry⟩:=r2.get hyv
  have exx:x'=x:=by
   have:it1.toArray[i]? = some x:=px
   rw [List.getElem?_toArray,ex] at this
   exact Option.some.inj this
  have eyy:y'=y:=by
   have:it2.toArray[i]? = some y:=py
   rw [List.getElem?_toArray,ey] at this
   exact Option.some.inj this
  subst exx eyy
  have lz:z<s.heap.objs.size:=Heap.lt_size h1
  have keep:∀ b u,b ∉ [z,TI,TO,i1,i2]->s.heap.get? b=some u->h2'.get? b=some u:=fun b u hb e=>by
   simp only [List.mem_cons,nN_,or_false,not_or] at hb
   exact sb.extBut _ _ hb.1 (kp b u hb.1 hb.2.2.1 hb.2.2.2.1 hb.2.2.2.2 e)
  have I2:Inv X pins Z (upd H s.heap.objs.size (.tup [xv,yv])) { s with heap:=h2',toks:=tk } :=
   qjr I keep hf (Nat.le_refl _) ⟨by show 2<=sizeLine;decide,[x',y'],.cons rx (.cons ry .nil),⟨_,sb.extBut _ _ (Nat.ne_of_gt lz) new,rfl,_,rfl⟩⟩
  refine ⟨.ref s.heap.objs.size,upd H s.heap.objs.size (.tup [xv,yv]),I2,rfl,⟨s.heap.objs.size,xv,yv,I.hok.fresh (Nat.le_refl _),hxv,hyv,rfl,rfl⟩,?_,fun b hb => ?_⟩
  ·exact ⟨zz2,sb.extBut _ _ ap.zTI.symm (kp _ _ ap.zTI.symm ap.IO ap.Ii1 ap.Ii2 h2),⟨_,_,sb.extBut _ _ ap.zTO.symm zO⟩,u1.1.at fun o e=>sb.extBut _ _ ap.zi1.symm e,u2.1.at fun o e=>sb.extBut _ _ ap.zi2.symm e⟩
  ·have hb1:b≠s.heap.objs.size:=by
    simp only [List.mem_cons,nN_,or_false] at hb
    obtain ⟨o4,g4,_⟩:=h4
    obtain ⟨o5,g5,_⟩:=h5
    rcases hb with rfl | rfl | rfl | rfl | rfl
    ·exact Nat.ne_of_lt (Heap.lt_size h1)
    ·exact Nat.ne_of_lt (Heap.lt_size h2)
    ·exact Nat.ne_of_lt (Heap.lt_size h3)
    ·exact Nat.ne_of_lt (Heap.lt_size g4)
    ·exact Nat.ne_of_lt (Heap.lt_size g5)
   rw [qj hb1]
   exact (hf b hb).1
 done:=by
  intro X hP hw hK hc i pins s Z H E I hf st hg
  subst hP hw hK
  obtain ⟨hlt,hx,hy⟩:=hg
  obtain ⟨h1,h2,⟨p,q,h3⟩,h4,h5⟩:=st
  obtain ⟨it1,r1,p1,z1⟩:=I.tuple hx
  obtain ⟨it2,r2,p2,z2⟩:=I.tuple hy
  have hT:s.TypeIs (.ref z) "zip":=⟨_,h1,rfl⟩
  have hh:X.A.in1.handled=none:=I.ok.hd hc
  unfold pyNext
  refine wpAny_bind (wpAny_attempt (wpAny_callSpecial?_slot (name:=Str.ofString "__next__") hT F.slot_zip_next (wpAny_call_entry F.slot_zip_next hT F.entry_zip_next
   (qg4 hh (v5 hh i1 a1 n1 it1.toArray) (v5 hh i2 a2 n2 it2.toArray) ap h1 h2 h3 ⟨h4,p1⟩ ⟨h5,p2⟩ (by rw [sT_,sT_,<- r1.length,<- r2.length];exact hlt) fun h' tk e kp he => ?_) (F.args_zip_next_1 _))))
  obtain ⟨o,ho,hcl⟩:=he
  refine wpAny_bind (wpAny_isInstance (T:="StopIteration") (b:=true) ⟨o,ho,hcl⟩ isSubtype_stop (wpAny_pure ⟨rfl,qjs I (fun b u hb e => ?_) hf⟩))
  simp only [List.mem_cons,nN_,or_false,not_or] at hb
  exact kp b u hb.1 hb.2.2.1 hb.2.2.2.1 hb.2.2.2.2 e
 self:=fun A i s Q E st h=>wpAny_pyIter_zip st.1 h
section
variable {X:Cx} {c:Fc} {a b e:Expr} {pos:Pos} {es:List Expr} {kk:Nat} {tp:Pos}
theorem qjt (n l1 l2:Nat) (h1:l1<n) (h2:l2<n):ZAp (n+4) (n+2) (n+3) n (n+1) [n,l1] [n+1,l2]:=by
 refine ⟨?_,?_,?_,?_,?_,?_,?_,?_,?_,?_,?_,?_,?_,?_,?_,?_⟩<;>simp only [List.mem_cons,nN_,or_false,not_or,ne_eq]<;>(unfold Addr at *)<;>omega
def qoh (K:Fr0) (ta:TA):TI:=fun Z H R=>ta Z H fun vs H1=>∃ a1 a2 xs ys,vs=[.ref a1,.ref a2]/\SqT K H1 a1 xs/\SqT K H1 a2 ys/\R (Itz K a1 a2 xs ys) H1
theorem qln {ta:TA} {p:Pos} (hg:Gl X "zip") (hm:X.mg "zip"=none) (ha:PA X [a,b] ta) (hs:starEach [a,b] X.env=[(false,eval a X.env),(false,eval b X.env)]:=by rfl) (hs2:starEach [b] X.env=[(false,eval b X.env)]:=by rfl) :
  PI X (.Tuple es kk tp) (.Call (.Name "zip" p) [a,b] [] pos) (qoh X.K ta):=by
 intro pins s Z H R I h
 refine Call_ (qan I hg hm PyProof.Rows.boot_zip (PyProof.Rows.callWith_type1 (thn (ha pos pins s Z H _ I h) fun us s1 ⟨vs,H1,I1,r1,q1⟩ => ?_) (by rw [hs,hs2]) (by rw [hs2];rfl)))
 obtain ⟨a1,a2,xs,ys,e1,hx,hy,q⟩:=q1
 subst e1
 obtain ⟨u1,u2,rfl,ru1,ru2⟩:=qT.two r1
 cases (show u1=Value.ref a1 from ru1)
 cases (show u2=Value.ref a2 from ru2)
 obtain ⟨it1,v1,p1,z1⟩:=I1.tuple hx
 obtain ⟨it2,v2,p2,z2⟩:=I1.tuple hy
 refine qg5 (show s1.heap.IsTuple a1 it1.toArray from p1) (show s1.heap.IsTuple a2 it2.toArray from p2) fun h' zz zI zO g1 g2 kp => ?_
 refine wpAny_pyIter_zip zz ?_
 have la1:a1<s1.heap.objs.size:=by obtain ⟨o,e,_⟩:=p1;exact Heap.lt_size e
 have la2:a2<s1.heap.objs.size:=by obtain ⟨o,e,_⟩:=p2;exact Heap.lt_size e
 have ap:ZAp (s1.heap.objs.size+4) (s1.heap.objs.size+2) (s1.heap.objs.size+3) s1.heap.objs.size (s1.heap.objs.size+1) [s1.heap.objs.size,a1] [s1.heap.objs.size+1,a2]:=by
  exact qjt _ _ _ la1 la2
 refine ⟨s1.heap.objs.size+4,[s1.heap.objs.size+4,s1.heap.objs.size+2,s1.heap.objs.size+3,s1.heap.objs.size,s1.heap.objs.size+1],_,_,H1,rfl,I1.kept (t':=s1.toks) kp,qg6 (xs:=xs) (ys:=ys) ap (Nat.ne_of_lt la1) (Nat.ne_of_lt (Nat.lt_succ_of_lt la2)),⟨zz,zI,⟨_,_,zO⟩,g1,g2⟩,fun b hb => ?_,q⟩
 simp only [List.mem_cons,nN_,or_false] at hb
 have hb2:s1.heap.objs.size<=b:=by
  rcases hb with e | e | e | e | e<;>rw [e]
  ·exact Nat.le_add_right _ _
  ·exact Nat.le_add_right _ _
  ·exact Nat.le_add_right _ _
  ·exact Nat.le_refl _
  ·exact Nat.le_add_right _ _
 exact I1.fpOk hb2 (I1.hok.fresh hb2)
def qcn:List D->List D->List D
 | x::xs,y::ys => .tup [x,y]::qcn xs ys
 | _,_=>[]
theorem qdd:∀ {xs ys:List D} {i:Nat} {d:D},(qcn xs ys)[i]? = some d->∃ x y,xs[i]? = some x/\ys[i]? = some y/\d = .tup [x,y]
 | [],_,_,_,h=>by simp [qcn] at h
 | _::_,[],_,_,h=>by simp [qcn] at h
 | x::xs,y::ys,0,d,h=>by
  have:D.tup [x,y]=d:=by simpa [qcn] using h
  exact ⟨x,y,rfl,rfl,this.symm⟩
 | x::xs,y::ys,i+1,d,h=>by
  obtain ⟨u,v,h1,h2,h3⟩:=qdd (xs:=xs) (ys:=ys) (i:=i) (d:=d) (by simpa [qcn] using h)
  exact ⟨u,v,by simpa using h1,by simpa using h2,h3⟩
theorem qa5:∀ (xs ys:List D),(qcn xs ys).length=min xs.length ys.length
 | [],ys=>by simp [qcn]
 | _::_,[]=>by simp [qcn]
 | x::xs,y::ys=>by simp [qcn,qa5 xs ys]
theorem qlo {K:Fr0} {A:Addr->Prop} {H:Hp} {ds es:List D} {xs ys:List V} {a1 a2:Addr} (t1:TupAt K H a1 xs) (t2:TupAt K H a2 ys) (i1:IsL K A H ds xs) (i2:IsL K A H es ys):qh4 K A H (qcn ds es) (Itz K a1 a2 xs ys) where
 go:=fun H' i d ex hd=>by
  have hl:i<(qcn ds es).length:=(gI_.mp hd).1
  rw [qa5,<- i1.length,<- i2.length] at hl
  exact ⟨hl,(t1.elim (fun h => .inl (ex.tup _ _ h)) .inr:TupAt K H' a1 xs).sq,(t2.elim (fun h => .inl (ex.tup _ _ h)) .inr:TupAt K H' a2 ys).sq⟩
 yl:=fun H' i d x H'' ex hd y=>by
  obtain ⟨p,u,v,hp,hu,hv,rfl,rfl⟩:=y
  obtain ⟨dx,dy,h1,h2,rfl⟩:=qdd hd
  obtain ⟨u',g1,g2⟩:=i1.get h1
  obtain ⟨v',g3,g4⟩:=i2.get h2
  rw [hu] at g1
  rw [hv] at g3
  cases g1
  cases g3
  have sm:=qv hp (.tup [u,v])
  exact ⟨sm,p,[u,v],rfl,.inl qk,u,[v],rfl,Is.ext (Ext.of_same sm) (fun _ h _=>h) (Is.ext ex (fun _ h _=>h) g2),v,[],rfl,Is.ext (Ext.of_same sm) (fun _ h _=>h) (Is.ext ex (fun _ h _=>h) g4),rfl⟩
 stop:=fun H' ex=>⟨by rw [qa5,i1.length,i2.length],(t1.elim (fun h => .inl (ex.tup _ _ h)) .inr:TupAt K H' a1 xs).sq,(t2.elim (fun h => .inl (ex.tup _ _ h)) .inr:TupAt K H' a2 ys).sq⟩
def qlp:List D->Option (List D)
 | [.tup xs,.tup ys]=>some (qcn xs ys)
 | _=>none
def qlq (f:M (List D)):M (List D):=bnd f fun ds=>lift (qlp ds)
theorem qlr {f:M (List D)} {p:Pos} (hg:Gl X "zip") (hm:X.mg "zip"=none) (ha:DA X c [a,b] f) (hs:starEach [a,b] X.env=[(false,eval a X.env),(false,eval b X.env)]:=by rfl) (hs2:starEach [b] X.env=[(false,eval b X.env)]:=by rfl) :
  DI X c (.Tuple es kk tp) (.Call (.Name "zip" p) [a,b] [] pos) (qlq f):=by
 obtain ⟨t,pa,w⟩:=ha
 refine ⟨_,qln hg hm pa hs hs2,fun U Z H Q r h=>w U Z H _ r (WpL.bndI h fun ds U1 vs H1 r1 i1 g1 h1 => ?_)⟩
 obtain ⟨es',e,h2⟩:=qa2 h1
 unfold qlp at e
 split at e
 ·obtain ⟨v,u,rfl,j1,j2⟩:=IsL.inv2 i1
  cases e
  obtain ⟨a1,xs,rfl,t1,il1⟩:=Is.tr j1
  obtain ⟨a2,ys,rfl,t2,il2⟩:=Is.tr j2
  exact ⟨a1,a2,xs,ys,rfl,t1.sq,t2.sq,h2 _ H1 r1 (qlo t1 t2 il1 il2) .refl⟩
 ·cases e
end
theorem qa6:fillsNumberSlot (.type "tuple") "mul"=pure false:=by
 first | kernel_rfl | (unfold fillsNumberSlot;kernel_rfl) | decide +kernel
theorem qea:seqRepeat? (.type "tuple")=pure (some (.builtin "tuple.__mul__")):=by
 first | kernel_rfl | (unfold seqRepeat?;kernel_rfl) | decide +kernel
theorem qbT (a:Int) (t:Tok) (l:Addr) (dd:Option Addr) (items:Array Value) (n:Nat) (sl:Array (Option Value)) :
  Meets (Builtin.«int.__rmul__» ⟨[.int a t,.ref l],[]⟩) (fun _ R s=>s.heap.get? l=some { cls := .type "tuple",dict:=dd,data := .seq items n,slots:=sl }/\R (.ok (.ret .notImplemented)) s) :=
 .of_wp fun prog w A R s h=>by
  obtain ⟨hp,g,d,tk,os⟩:=s
  obtain ⟨hl,h⟩:=h
  wp_walk using wpAny_loadPart' hl
  exact ⟨_,rfl,h⟩
theorem qls (l:Addr) (dd:Option Addr) (items:Array Value) (n:Nat) (sl:Array (Option Value)) (k:Int) (t:Tok) (h0:¬ items.isEmpty=true) (h1:¬ (k==1)=true) (h2:¬ k<=0) (h3:¬ (decide (k < -(2 ^ 63))||decide (k >= 2 ^ 63))=true)
  (h4:¬ (items.size:Int)*k>(2 ^ 63-1)/8) (h5:¬ Builtin.Tuple.tupleTooMany ((items.size:Int)*k)=true) (h6:((List.replicate k.toNat items).foldl (·++·) #[]).size<=sizeLine) :
  Meets (Builtin.«tuple.__mul__» ⟨[.ref l,.int k t],[]⟩) (fun _ R s=>s.heap.get? l=some { cls := .type "tuple",dict:=dd,data := .seq items n,slots:=sl } /\
   R (.ok (.ret (.ref s.heap.objs.size))) { s with heap:=s.heap.push { cls := .type "tuple",data := .seq ((List.replicate k.toNat items).foldl (·++·) #[]) } }) :=
 .of_wp fun prog w A R s h=>by
  obtain ⟨hp,g,d,tk,os⟩:=s
  obtain ⟨hl,h⟩:=h
  have f1:=AutoSeq1.idx_int
  have f2:=AutoSeq1.sub_tuple_tuple
  have h01:¬ (items.isEmpty||k==1)=true:=by simp only [Bool.or_eq_true,not_or];exact ⟨h0,h1⟩
  have h02:¬ (decide (k<=0)||items.isEmpty)=true:=by simp only [Bool.or_eq_true,decide_eq_true_eq,not_or];exact ⟨h2,h0⟩
  wp_walk using wpAny_loadPart' hl
  rw [if_neg h3]
  wp_walk using wpAny_loadPart' hl
  rw [if_neg h4]
  wp_walk using wpAny_loadPart' hl
  exact ⟨_,rfl,h⟩
section
variable {X:Cx}
def qlt (K:Fr0):R2:=fun x y H Q=>∃ a xs k,x = .ref a/\y = .int k/\SqT K H a xs/\xs≠[]/\2<=k/\xs.length*k.toNat<=sizeLine/\∀ p,H p=none->Q (.ref p) (upd H p (.tup (List.replicate k.toNat xs).flatten))
theorem qju:OpR X (binaryOp .Mult) (qlt X.K):=by
 intro pins s Z H x y v u Q I rx ry h
 obtain ⟨a,xs,k,rfl,rfl,hx,hne,hk,hz,q⟩:=h
 cases rx
 obtain ⟨t,rfl⟩:=ry
 obtain ⟨its,r,p1,_⟩:=I.tuple hx
 obtain ⟨⟨cls,dd,data,sl⟩,ho,hc,n,hd⟩:=id p1
 simp only at hc hd
 subst hc hd
 have hl:=r.length
 have hnew:List.foldl (fun x1 x2=>x1++x2) #[] (List.replicate k.toNat its.toArray)=(List.replicate k.toNat its).flatten.toArray:=by
  have:=wm its k.toNat []
  rw [List.nil_append] at this
  exact this
 have hlen:(List.replicate k.toNat its).flatten.length=k.toNat*its.length:=qct its k.toNat
 have hsl:(sizeLine:Nat)=16777216:=sizeLine_eq
 have e0:¬ its.toArray.isEmpty=true:=by
  intro e
  have:its=[]:=by simpa using e
  rw [this] at hl
  exact hne (List.length_eq_zero_iff.mp hl)
 have pos1:1<=its.length:=by
  cases its with
  | nil=>simp at e0
  | cons z zs=>simp
 have kk:((k.toNat:Nat):Int)=k:=Int.toNat_of_nonneg (by omega)
 have mm:(its.toArray.size:Int)*k=((its.length*k.toNat:Nat):Int):=by rw [sT_,Int.natCast_mul,kk]
 have zz:its.length*k.toNat<=sizeLine:=by rw [<- hl];exact hz
 have kle:k.toNat<=its.length*k.toNat:=Nat.le_mul_of_pos_left _ pos1
 have T1:s.TypeIs (.ref a) "tuple":=⟨_,ho,rfl⟩
 refine wpAny_binaryOp_repeat_ref (T:="tuple") (U:="int") (by decide) T1 (fun s'=>typeIs_int s' k t) qa6 F.fills_int_mul F.slot_int_rmul qea F.slot_int_index.lookup
  (call_meets F.slot_int_rmul (typeIs_int s k t) F.entry_int_rmul (F.args_int_rmul_2 _ _) (qbT k t a dd its.toArray n sl)
   ⟨ho,rfl,T1,call_meets F.slot_tuple_mul T1 F.entry_tuple_mul (F.args_tuple_mul_2 _ _) (qls a dd its.toArray n sl k t e0 (by simp;omega) (by omega) (by simp;omega) (by rw [mm];omega) ?_ (by rw [hnew,sT_,hlen,Nat.mul_comm];exact zz)) ⟨ho,?_⟩⟩)
 ·rw [mm]
  show ¬ decide (((its.length*k.toNat:Nat):Int)>(sizeLine:Int))=true
  rw [decide_eq_true_eq]
  omega
 ·rw [hnew]
  refine ⟨.ref s.heap.objs.size,_,I.laid (t':=s.toks) (o := .tup (List.replicate k.toNat xs).flatten) (fun b ob q=>Heap.get?_push_of_some _ q) (Nat.le_refl _) ?_,rfl,q _ (I.hok.fresh (Nat.le_refl _))⟩
  exact ⟨by rw [qct,Nat.mul_comm];exact hz,_,r.rep k.toNat,IsTup.new _ _⟩
def qlu (K:Fr0):R2:=fun x y H Q=>(rI qkH (fun i j => .int (i*j))) x y H Q\/(qlt K x y H Q\/qnC x y H Q)
theorem jL:OpR X (binaryOp .Mult) (qlu X.K):=OpR.or qkK (OpR.or qju qkZ)
end
def y9:D->D->Option D
 | .int i,.int j=>if qcu i j then some (.int (i*j)) else none
 | .tup ds,.int k=>if (!ds.isEmpty&&decide (2<=k))&&qM (ds.length*k.toNat) then some (.tup (List.replicate k.toNat ds).flatten) else none
 | .lst ds,.int k=>if (decide (-(2 ^ 62)<=k)&&decide (k<2 ^ 62))&&qM (ds.length*k.toNat) then some (.lst (List.replicate k.toNat ds).flatten) else none
 | _,_=>none
theorem IsL.rep {K:Fr0} {A:Addr->Prop} {H:Hp} {ds:List D} {xs:List V} (h:IsL K A H ds xs):∀ k:Nat,IsL K A H (List.replicate k ds).flatten (List.replicate k xs).flatten
 | 0=>by simp [IsL]
 | k+1=>by
  rw [rS_,rS_,List.flatten_cons,List.flatten_cons]
  exact IsL.append h (IsL.rep h k)
theorem z8 {K:Fr0}:OpS K y9 (qlu K):=by
 intro A H x y d v u Q hn ix iy e k
 cases x<;>cases y<;>simp only [y9] at e<;>try (cases e;done)
 ·rename_i i j
  obtain ⟨e1,e2⟩:=zx e
  subst e2
  cases ix;cases iy
  exact .inl ⟨i,j,rfl,rfl,qgN e1,k _ H (zD.refl H) rfl⟩
 ·rename_i ds j
  obtain ⟨a,xs,rfl,ta,il⟩:=ix
  cases iy
  obtain ⟨e1,e2⟩:=zx e
  subst e2
  rw [Bool.and_eq_true,Bool.and_eq_true] at e1
  obtain ⟨⟨e3,e4⟩,e5⟩:=e1
  refine .inr (.inl ⟨a,xs,j,rfl,rfl,ta.sq,fun z => ?_,of_decide_eq_true e4,by rw [il.length];exact of_decide_eq_true e5,fun p hp=>k _ _ (qv hp _) ⟨p,_,rfl,.inl qk,IsL.ext (Ext.of_same (qv hp _)) (fun _ h _=>h) (IsL.rep il _)⟩⟩)
  have:=il.length
  rw [z] at this
  have:ds=[]:=List.length_eq_zero_iff.mp this.symm
  rw [this] at e3
  simp at e3
 ·rename_i ds j
  obtain ⟨a,xs,rfl,_,ta,il⟩:=ix
  cases iy
  obtain ⟨e1,e2⟩:=zx e
  subst e2
  rw [Bool.and_eq_true,Bool.and_eq_true] at e1
  obtain ⟨⟨e3,e4⟩,e5⟩:=e1
  have e3':=of_decide_eq_true e3
  have e4':=of_decide_eq_true e4
  refine .inr (.inr ⟨a,j,xs,rfl,rfl,ta,by omega,by omega,by rw [il.length];exact of_decide_eq_true e5,fun p hp=>k _ _ (qv hp _) ⟨p,_,rfl,hn p hp,qk,IsL.ext (Ext.of_same (qv hp _)) (fun _ h _=>h) (IsL.rep il _)⟩⟩)
def qeA:D->Option D
 | .int i=>some (.int (-i))
 | _=>none
def d1 (F:D->Option D) (f:M D):M D:=bnd f fun x=>lift (F x)
def qg7 (i j:Int):Bool:=decide (0<=j)&&decide (j<=1000000)&&decide (i.natAbs<2 ^ 64)
def qfj:D->D->Option D:=qgL qg7 fun i j => .int (i ^ j.toNat)
theorem qfk {K:Fr0}:OpS K qfj (rI qnz fun i j => .int (i ^ j.toNat)):=qe7 (fun i j h=>by
 unfold qg7 at h
 rw [Bool.and_eq_true,Bool.and_eq_true] at h
 exact ⟨of_decide_eq_true h.1.1,of_decide_eq_true h.1.2,of_decide_eq_true h.2⟩) fun _ _ _ _=>rfl
section
variable {X:Cx} {c:Fc} {a b e:Expr} {pos:Pos}
theorem qia {f:M D} (h:DE X c a f):DE X c (.UnaryOp .USub a pos) (d1 qeA f):=by
 obtain ⟨t,p,w⟩:=h
 refine ⟨_,qmM qkL p,fun U Z H Q r h=>w U Z H _ r (Wp.bnd h fun d U1 v H1 r1 i1 g1 h1 => ?_)⟩
 obtain ⟨d',e,h2⟩:=h1.lift
 cases d<;>simp only [qeA] at e<;>try (cases e;done)
 rename_i i
 cases e
 cases i1
 exact ⟨i,rfl,h2 _ H1 r1 rfl .refl⟩
def qjv (i j:Nat) (f:M (List D)):MS:=sbnd f fun ds U=>match ds with
 | [d,e] => .ok (.nx ((U.set i (some d)).set j (some e)))
 | _ => .bad
theorem qib {i j:Nat} {x y:Str} {f:M (List D)} {px py pt:Pos} {kt k2 pt2} (hN:X.N.Nodup) (ha:DA X c [a,b] f) (hw:swappedStores [.Tuple [.Name x px,.Name y py] kt pt] (.Tuple [a,b] k2 pt2) X.env=pure (some [x,y])) (hc:X.calm=true:=by rfl) (hi:X.N[i]? = some x:=by rfl) (hj:X.N[j]? = some y:=by rfl) (hij:i≠j:=by decide)
  (hx:X.env.scope.names.lookup x=some .local:=by rfl) (hy:X.env.scope.names.lookup y=some .local:=by rfl) (ho:i ∉ c.O:=by exact of_decide_eq_false rfl) (hp:j ∉ c.O:=by exact of_decide_eq_false rfl)
  (hs:swapsWithSole [.Tuple [.Name x px,.Name y py] kt pt] (.Tuple [a,b] k2 pt2) pos.line X.env=pure false:=by rfl) :
  DS X c (.Assign [.Tuple [.Name x px,.Name y py] kt pt] (.Tuple [a,b] k2 pt2) pos) (qjv i j f):=by
 obtain ⟨t,p,w⟩:=ha
 refine ⟨_,qkD hc hN hi hj hij hx hy p hw hs,fun U Z H D r h=>w U Z H _ r (WpL.sbnd h fun ds U1 vs H1 r1 i1 g1 h1 => ?_)⟩
 match ds,i1,h1 with
 | [],_,h1=>exact h1.elim
 | [_],_,h1=>exact h1.elim
 | [d,e],i1,h1 =>
  obtain ⟨v,u,rfl,j1,j2⟩:=IsL.inv2 i1
  refine ⟨v,u,rfl,h1 _ H1 ((r1.set ho j1).set hp ?_) ((GrS.set ho).trans (GrS.set hp))⟩
  exact (GrS.set (H:=H1) ho).is j2
 | _::_::_::_,_,h1=>exact h1.elim
mutual
def immF:D->Bool
 | .tup ds=>immFs ds
 | .lst _=>false
 | .dic _=>false
 | _=>true
def immFs:List D->Bool
 | []=>true
 | d::ds=>immF d&&immFs ds
end
mutual
theorem Is.immF {K:Fr0} {A B:Addr->Prop} {H:Hp}:∀ {d:D} {v:V},immF d=true->Is K A H d v->Is K B H d v
 | .non,_,_,h=>h
 | .bl _,_,_,h=>h
 | .int _,_,_,h=>h
 | .str _,_,_,h=>h
 | .tup ds,_,i,⟨a,xs,hv,h,r⟩=>⟨a,xs,hv,h,IsL.immF (by simpa [Sk.immF] using i) r⟩
 | .lst _,_,i,_=>by simp [Sk.immF] at i
 | .dic _,_,i,_=>by simp [Sk.immF] at i
 | .fz _,_,_,h=>h
 | .exc _,_,_,h=>h
theorem IsL.immF {K:Fr0} {A B:Addr->Prop} {H:Hp}:∀ {ds:List D} {xs:List V},immFs ds=true->IsL K A H ds xs->IsL K B H ds xs
 | [],_,_,h=>h
 | d::ds,_,i,⟨x,ys,hx,h,r⟩=>by
  have i':Sk.immF d=true/\immFs ds=true:=by simpa [immFs] using i
  exact ⟨x,ys,hx,Is.immF i'.1 h,IsL.immF i'.2 r⟩
end
def qbU (F:List D->R D) (g:M (List D)):M (List D):=bnd g fun ds U=>if immFs ds then match F ds with
 | .ok (.lst bs)=>if immL bs then .ok (bs,U) else .bad
 | _ => .bad else .bad
theorem qjw {k:Nat} {f:Addr} {fd:FuncData} {ps:List Str} {F:List D->R D} {x:Str} {p:Pos} {es:List Expr} {g:M (List D)} (G:uQ X.prog X.w X.K X.mg X.base CX0 k f fd ps (spD X.K F)) (hr:jA k X.A) (hg:Gl X x) (hm:X.mg x=some (.ref f)) (hk:PySem.W.keepIn X.K (.ref f)=true) (hb:ua X.K fd ps [])
  (ha:DA X c (e::es) g) (hd:(x==("__debug__":Str))=false:=by decide) (he:starEach (e::es) X.env=(false,eval e X.env)::starEach es X.env:=by rfl) (hpl:(backTo pos (starEach es X.env)).any (·.1)=false:=by rfl):DN X c (.Call (.Name x p) (e::es) [] pos) (qbU F g):=by
 obtain ⟨t,pa,w⟩:=ha
 refine ⟨_,vt G hr hg hm hk hb .nil qgJ pa hd he hpl,fun U Z H Q r h=>w U Z H _ r (WpL.bndN h fun ds U1 vs H1 r1 i1 g1 h1 => ?_)⟩
 rw [List.append_nil]
 by_cases him:immFs ds=true
 ·rw [if_pos him] at h1
  refine ⟨ds,fun _=>False,IsL.immF him i1,r1.tb,?_⟩
  cases ef:F ds with
  | bad=>simp only [ef] at h1;exact h1.elim
  | exc z U'=>simp only [ef] at h1;exact h1.elim
  | ok d =>
   cases d with
   | lst bs =>
    simp only [ef] at h1
    by_cases hb2:immL bs=true
    ·rw [if_pos hb2] at h1
     intro v H' sm i
     obtain ⟨a,xs,rfl,hA,ha2,il⟩:=i
     have hn:H1 a=none:=hA.elim False.elim id
     exact h1 a xs H' hn (r1.same sm) (r1.apart_same hn sm) ha2 trivial (IsL.imm hb2 il) (.of_same sm)
    ·rw [if_neg hb2] at h1;exact h1.elim
   | _=>simp only [ef] at h1;exact h1.elim
 ·rw [if_neg him] at h1;exact h1.elim
end
structure qjx (outer:Scope) (N:List Str) (scope:Scope) (N':List Str) (nt:Nat) (fr:List Nat):Prop where
 kind:scope.kind = .function
 nocell:∀ y∈scope.names,y.2 ≠ .cell
 names:∀ y∈scope.names,y.2 = .local->scope.names.lookup y.1=some .local
 frees:∀ y∈scope.names,y.2 = .free->outer.names.lookup y.1=some .cell
 len:N'.length=nt+fr.length
 slots:∀ p∈fr.zipIdx,N'[nt+p.2]? = N[p.1]? /\ ((N[p.1]?).bind fun x=>scope.names.lookup x)=some .free
theorem qjx.ok {X:Cx} {outer:Scope} {N:List Str} {scope:Scope} {N':List Str} {nt:Nat} {fr:List Nat} (S:qjx outer N scope N' nt fr) (h1:X.env.scope=outer) (h2:X.N=N):jE X scope N' nt fr:=by
 subst h1 h2
 refine ⟨S.kind,S.nocell,S.names,S.frees,S.len,fun i j h => ?_⟩
 have hm:(j,i)∈fr.zipIdx:=by
  rw [List.mem_iff_getElem?]
  refine ⟨i,?_⟩
  rw [List.getElem?_zipIdx,h]
  simp
 obtain ⟨h3,h4⟩:=S.slots (j,i) hm
 cases e:X.N[j]? with
 | none =>
  have h4':((X.N[j]?).bind fun x=>scope.names.lookup x)=some .free:=h4
  rw [e] at h4';cases h4'
 | some x =>
  have h4':((X.N[j]?).bind fun x=>scope.names.lookup x)=some .free:=h4
  rw [e] at h4'
  exact ⟨x,by
    have h3':N'[nt+i]? = X.N[j]? := h3
    rw [h3',e],rfl,h4'⟩
structure zn (P:Program) (w:World) (K:PySem.W.Frag) (mg:Str->Option Value) (base:Heap) (k:Nat) (x:Str) (ps:List Str) (sp:Sp):Prop where
 ex:∃ f fd,uQ P w K mg base CX0 k f fd ps sp/\mg x=some (.ref f)/\PySem.W.keepIn K (.ref f)=true/\ua K fd ps []
theorem vS:bootBuiltins "len"=some (.builtin "len"):=by decide +kernel
theorem qlv:bootBuiltins "abs"=some (.builtin "abs"):=by decide +kernel
theorem qlw:bootBuiltins "max"=some (.builtin "max"):=by decide +kernel
theorem qfl:bootBuiltins "min"=some (.builtin "min"):=by decide +kernel
theorem qic:bootBuiltins "all"=some (.builtin "all"):=by decide +kernel
theorem qlx:bootBuiltins "sum"=some (.builtin "sum"):=by decide +kernel
theorem qfm:bootBuiltins "divmod"=some (.builtin "divmod"):=by decide +kernel
theorem qfn:bootBuiltins "repr"=some (.builtin "repr"):=by decide +kernel
theorem qly:bootBuiltins "int"=some (.type "int"):=by decide +kernel
theorem qjy:bootBuiltins "bool"=some (.type "bool"):=by decide +kernel
theorem u4:bootBuiltins "tuple"=some (.type "tuple"):=by decide +kernel
theorem qF:bootBuiltins "isinstance"=some (.builtin "isinstance"):=by decide +kernel
def yC:MS:=fun U => .ok (.nx U)
theorem zc {X:Cx} {c:Fc}:DSs X c [] yC:=qi6
theorem zd {X:Cx}:IxR X (fun x y H Q=>qmV X.K x y H Q\/qmW X.K x y H Q):=qeU.or qkV
theorem qjz {c:Fc} {nt:Nat} {fr:List Nat} {i j:Nat} (h1:j∈c.O) (h2:nt<=i) (h3:fr[i-nt]? = some j) (h4:∀ p∈fr.zipIdx,nt+p.2≠i->p.1 ∉ c.O):qjh c nt fr (some (i,j)) :=
 ⟨h1,h2,h3,fun k j' h hk=>h4 (j',k) (by rw [List.mem_iff_getElem?];exact ⟨k,by rw [List.getElem?_zipIdx,h];simp⟩) hk⟩
def eqB (x y:D):Option D:=match sc2 x y with
 | some b=>some (.bl b)
 | none=>eqA x y
def neB (x y:D):Option D:=match sc2 x y with
 | some b=>some (.bl (!b))
 | none=>neA x y
theorem wG {X:Cx} {k:Nat} (hr:jA k X.A):OpR X (compareOp .Eq) (fun x y H Q=>rEq x y H Q\/qh7 X.K false x y H Q):=OpR.or qmO (qlk hr)
theorem qbV {X:Cx} {k:Nat} (hr:jA k X.A):OpR X (compareOp .NotEq) (fun x y H Q=>rNe x y H Q\/qh7 X.K true x y H Q):=OpR.or qkM (qh8 hr)
theorem uJ {K:Fr0}:OpS K eqB (fun x y H Q=>rEq x y H Q\/qh7 K false x y H Q):=by
 intro A H x y d v u Q hn ix iy e k
 unfold eqB at e
 cases e1:sc2 x y with
 | some b=>simp only [e1] at e;exact .inl (qi8 A H x y d v u Q hn ix iy (by unfold eqS;rw [e1];exact e) k)
 | none=>simp only [e1] at e;exact .inr (qjn A H x y d v u Q hn ix iy e k)
theorem wH {K:Fr0}:OpS K neB (fun x y H Q=>rNe x y H Q\/qh7 K true x y H Q):=by
 intro A H x y d v u Q hn ix iy e k
 unfold neB at e
 cases e1:sc2 x y with
 | some b=>simp only [e1] at e;exact .inl (qe9 A H x y d v u Q hn ix iy (by unfold neS;rw [e1];exact e) k)
 | none=>simp only [e1] at e;exact .inr (qjo A H x y d v u Q hn ix iy e k)
end L2.Sk
namespace L2.Sk
section
variable {α β:Type} {U:Env} {f g k:M D} {t u:M Bool} {l m:M (List D)} {p q r:MS}
theorem qbW (a:α):ret a U = .ok (a,U):=rfl
theorem qfo (o:Option α):lift o U=match o with | some a => .ok (a,U) | none => .bad:=by cases o<;>rfl
theorem qm0 {f:M α} {k:α->M β}:bnd f k U=match f U with | .ok (a,U')=>k a U' | .exc x U' => .exc x U' | .bad => .bad:=rfl
theorem qnG (i:Nat):dv i U=match U[i]? with | some (some d) => .ok (d,U) | _ => .bad:=rfl
theorem yy:qa f l U=match f U with | .ok (d,U1)=>(match l U1 with | .ok (ds,U2) => .ok (d::ds,U2) | .exc x U' => .exc x U' | .bad => .bad) | .exc x U' => .exc x U' | .bad => .bad:=by
 simp only [qa,bnd,sbnd]
 cases f U with
 | ok z =>
  obtain ⟨z1,U1⟩:=z
  simp only [ret]
  cases l U1 with
  | ok z=>obtain ⟨z2,U2⟩:=z;rfl
  | exc x U'=>rfl
  | bad=>rfl
 | exc x U'=>rfl
 | bad=>rfl
theorem wJ:zL l U=match l U with | .ok (ds,U1)=>(if qM ds.length then .ok (.tup ds,U1) else .bad) | .exc x U' => .exc x U' | .bad => .bad:=by
 simp only [zL,bnd,sbnd]
 cases l U with
 | ok z =>
  obtain ⟨z1,U1⟩:=z
  cases h:qM z1.length<;>simp [h,lift,ret]
 | exc x U'=>rfl
 | bad=>rfl
theorem qfp:y7 l U=match l U with | .ok (ds,U1)=>(if qM ds.length then .ok (.lst ds,U1) else .bad) | .exc x U' => .exc x U' | .bad => .bad:=by
 simp only [y7,bnd,sbnd]
 cases l U with
 | ok z =>
  obtain ⟨z1,U1⟩:=z
  cases h:qM z1.length<;>simp [h,lift,ret]
 | exc x U'=>rfl
 | bad=>rfl
theorem qid:qg1 l U=match l U with | .ok (ds,U1)=>(if immL ds&&qM ds.length then .ok (ds,U1) else .bad) | .exc x U' => .exc x U' | .bad => .bad:=by
 simp only [qg1,bnd,sbnd]
 cases l U with
 | ok z =>
  obtain ⟨z1,U1⟩:=z
  cases h:(immL z1&&qM z1.length)<;>simp [h,lift,ret]
 | exc x U'=>rfl
 | bad=>rfl
theorem qm1 (F:D->D->Option D):d2 F f g U=match f U with | .ok (x,U1)=>(match g U1 with | .ok (y,U2)=>(match F x y with | some d => .ok (d,U2) | none => .bad) | .exc x U' => .exc x U' | .bad => .bad) | .exc x U' => .exc x U' | .bad => .bad:=by
 simp only [d2,bnd,sbnd]
 cases f U with
 | ok z =>
  obtain ⟨z1,U1⟩:=z
  dsimp only <;>
  cases g U1 with
  | ok z=>obtain ⟨z2,U2⟩:=z;(dsimp only;cases F z1 z2<;>rfl)
  | exc x U'=>rfl
  | bad=>rfl
 | exc x U'=>rfl
 | bad=>rfl
theorem qm2 (F:D->Option D):d1 F f U=match f U with | .ok (x,U1)=>(match F x with | some d => .ok (d,U1) | none => .bad) | .exc x U' => .exc x U' | .bad => .bad:=by
 simp only [d1,bnd,sbnd]
 cases f U with
 | ok z =>
  obtain ⟨z1,U1⟩:=z
  (dsimp only;cases F z1<;>rfl)
 | exc x U'=>rfl
 | bad=>rfl
theorem wK (F:List D->Option D):qJ F l U=match l U with | .ok (xs,U1)=>(match F xs with | some d => .ok (d,U1) | none => .bad) | .exc x U' => .exc x U' | .bad => .bad:=by
 simp only [qJ,bnd,sbnd]
 cases l U with
 | ok z =>
  obtain ⟨z1,U1⟩:=z
  (dsimp only;cases F z1<;>rfl)
 | exc x U'=>rfl
 | bad=>rfl
theorem u5 (F:List D->R D):qp F l U=match l U with | .ok (xs,U1)=>(match F xs with | .ok d => .ok (d,U1) | _ => .bad) | .exc x U' => .exc x U' | .bad => .bad:=by
 simp only [qp,bnd,sbnd]
 cases l U with
 | ok z =>
  obtain ⟨z1,U1⟩:=z
  cases F z1<;>rfl
 | exc x U'=>rfl
 | bad=>rfl
theorem qie (T:String):qje T f U=match f U with | .ok (d,U1) => .ok (.bl (qcw (tyD d) T),U1) | .exc x U' => .exc x U' | .bad => .bad:=by
 simp only [qje,bnd,sbnd]
 cases f U with
 | ok z =>
  obtain ⟨z1,U1⟩:=z
  rfl
 | exc x U'=>rfl
 | bad=>rfl
theorem qjA:tst f U=match f U with | .ok (d,U1)=>(match asB d with | some b => .ok (b,U1) | none => .bad) | .exc x U' => .exc x U' | .bad => .bad:=by
 simp only [tst,bnd,sbnd]
 cases f U with
 | ok z =>
  obtain ⟨z1,U1⟩:=z
  (dsimp only;cases asB z1<;>rfl)
 | exc x U'=>rfl
 | bad=>rfl
theorem vT (b:Bool):asB (.bl b)=some b:=rfl
theorem qbX:qd3 t U=match t U with | .ok (b,U1) => .ok (!b,U1) | .exc x U' => .exc x U' | .bad => .bad:=by
 simp only [qd3,bnd,sbnd]
 cases t U with
 | ok z =>
  obtain ⟨z1,U1⟩:=z
  rfl
 | exc x U'=>rfl
 | bad=>rfl
theorem qfq:qar t u U=match t U with | .ok (b,U1)=>(bif b then u U1 else .ok (false,U1)) | .exc x U' => .exc x U' | .bad => .bad:=by
 simp only [qar,bnd,sbnd]
 cases t U with
 | ok z =>
  obtain ⟨z1,U1⟩:=z
  cases z1<;>rfl
 | exc x U'=>rfl
 | bad=>rfl
theorem qfr:tor t u U=match t U with | .ok (b,U1)=>(bif b then .ok (true,U1) else u U1) | .exc x U' => .exc x U' | .bad => .bad:=by
 simp only [tor,bnd,sbnd]
 cases t U with
 | ok z =>
  obtain ⟨z1,U1⟩:=z
  cases z1<;>rfl
 | exc x U'=>rfl
 | bad=>rfl
theorem qif:qke f g U=match f U with | .ok (d,U1)=>(match asB d with | some b=>(bif b then g U1 else .ok (.bl false,U1)) | none => .bad) | .exc x U' => .exc x U' | .bad => .bad:=by
 simp only [qke,bnd,sbnd]
 cases f U with
 | ok z =>
  obtain ⟨z1,U1⟩:=z
  simp only [qfo]
  cases asB z1 with
  | none=>rfl
  | some b=>cases b<;>rfl
 | exc x U'=>rfl
 | bad=>rfl
theorem qjB:dor f g U=match f U with | .ok (d,U1)=>(match asB d with | some b=>(bif b then .ok (.bl true,U1) else g U1) | none => .bad) | .exc x U' => .exc x U' | .bad => .bad:=by
 simp only [dor,bnd,sbnd]
 cases f U with
 | ok z =>
  obtain ⟨z1,U1⟩:=z
  simp only [qfo]
  cases asB z1 with
  | none=>rfl
  | some b=>cases b<;>rfl
 | exc x U'=>rfl
 | bad=>rfl
theorem qig:qmr f U=match f U with | .ok (d,U1)=>(match asB d with | some b => .ok (.bl (!b),U1) | none => .bad) | .exc x U' => .exc x U' | .bad => .bad:=by
 simp only [qmr,bnd,sbnd]
 cases f U with
 | ok z =>
  obtain ⟨z1,U1⟩:=z
  simp only [qfo]
  cases asB z1 with
  | none=>rfl
  | some b=>cases b<;>rfl
 | exc x U'=>rfl
 | bad=>rfl
theorem qlz:dif t f g U=match t U with | .ok (b,U1)=>(bif b then f U1 else g U1) | .exc x U' => .exc x U' | .bad => .bad:=by
 simp only [dif,bnd,sbnd]
 cases t U with
 | ok z =>
  obtain ⟨z1,U1⟩:=z
  cases z1<;>rfl
 | exc x U'=>rfl
 | bad=>rfl
theorem qg8:sif t p q U=match t U with | .ok (b,U1)=>(bif b then p U1 else q U1) | .exc x U' => .exc x U' | .bad => .bad:=by
 simp only [sif,bnd,sbnd]
 cases t U with
 | ok z =>
  obtain ⟨z1,U1⟩:=z
  cases z1<;>rfl
 | exc x U'=>rfl
 | bad=>rfl
theorem qih:qZ p q U=match p U with | .ok (.nx U')=>q U' | z=>z:=by
 unfold qZ
 cases p U with
 | ok z=>cases z<;>rfl
 | exc x U'=>rfl
 | bad=>rfl
theorem qaA:yz f U=match f U with | .ok (d,U1) => .ok (.rt d U1) | .exc x U' => .exc x U' | .bad => .bad:=by
 simp only [yz,bnd,sbnd]
 cases f U with
 | ok z =>
  obtain ⟨z1,U1⟩:=z
  rfl
 | exc x U'=>rfl
 | bad=>rfl
theorem wL (i:Nat):zM i f U=match f U with | .ok (d,U1) => .ok (.nx (U1.set i (some d))) | .exc x U' => .exc x U' | .bad => .bad:=by
 simp only [zM,bnd,sbnd]
 cases f U with
 | ok z =>
  obtain ⟨z1,U1⟩:=z
  rfl
 | exc x U'=>rfl
 | bad=>rfl
theorem qfs (i:Nat):uX i l U=match l U with | .ok (ds,U1) => .ok (.nx (U1.set i (some (.lst ds)))) | .exc x U' => .exc x U' | .bad => .bad:=by
 simp only [uX,bnd,sbnd]
 cases l U with
 | ok z =>
  obtain ⟨z1,U1⟩:=z
  rfl
 | exc x U'=>rfl
 | bad=>rfl
theorem uK:jI f U=match f U with | .ok (_,U1) => .ok (.nx U1) | .exc x U' => .exc x U' | .bad => .bad:=by
 simp only [jI,bnd,sbnd]
 cases f U with
 | ok z =>
  obtain ⟨z1,U1⟩:=z
  rfl
 | exc x U'=>rfl
 | bad=>rfl
theorem qii:yC U = .ok (.nx U):=rfl
theorem qij (i j:Nat):qjv i j l U=match l U with | .ok ([d,e],U1) => .ok (.nx ((U1.set i (some d)).set j (some e))) | .ok _ => .bad | .exc x U' => .exc x U' | .bad => .bad:=by
 simp only [qjv,bnd,sbnd]
 cases l U with
 | ok z =>
  obtain ⟨z1,U1⟩:=z
  match z1 with
  | []=>rfl
  | [_]=>rfl
  | [_,_]=>rfl
  | _::_::_::_=>rfl
 | exc x U'=>rfl
 | bad=>rfl
theorem qik (G:D->Env->Option Env):qms f G U=match f U with | .ok (d,U1)=>(match G d U1 with | some U2 => .ok (.nx U2) | none => .bad) | .exc x U' => .exc x U' | .bad => .bad:=by
 simp only [qms,bnd,sbnd]
 cases f U with
 | ok z =>
  obtain ⟨z1,U1⟩:=z
  dsimp only <;>
  cases G z1 U1<;>rfl
 | exc x U'=>rfl
 | bad=>rfl
theorem jQ (G:D->Env->Option Env) (b:MS):vw l G b U=match l U with | .ok (ds,U1)=>yx G b ds U1 | .exc x U' => .exc x U' | .bad => .bad:=by
 simp only [vw,bnd,sbnd]
 cases l U with
 | ok z =>
  obtain ⟨z1,U1⟩:=z
  rfl
 | exc x U'=>rfl
 | bad=>rfl
theorem qaB:yF f U=match f U with | .ok (d,U1)=>(match qlg d with | some ds => .ok (ds,U1) | none => .bad) | .exc x U' => .exc x U' | .bad => .bad:=by
 simp only [yF,bnd,sbnd]
 cases f U with
 | ok z =>
  obtain ⟨z1,U1⟩:=z
  (dsimp only;cases qlg z1<;>rfl)
 | exc x U'=>rfl
 | bad=>rfl
theorem qft:js l U=match l U with | .ok (d,U1)=>(match qh5 d with | some ds => .ok (ds,U1) | none => .bad) | .exc x U' => .exc x U' | .bad => .bad:=by
 simp only [js,bnd,sbnd]
 cases l U with
 | ok z =>
  obtain ⟨z1,U1⟩:=z
  (dsimp only;cases qh5 z1<;>rfl)
 | exc x U'=>rfl
 | bad=>rfl
theorem qfu:qlq l U=match l U with | .ok (d,U1)=>(match qlp d with | some ds => .ok (ds,U1) | none => .bad) | .exc x U' => .exc x U' | .bad => .bad:=by
 simp only [qlq,bnd,sbnd]
 cases l U with
 | ok z =>
  obtain ⟨z1,U1⟩:=z
  (dsimp only;cases qlp z1<;>rfl)
 | exc x U'=>rfl
 | bad=>rfl
theorem qcA {nt:Nat} {fr:List Nat} {fo:Option (Nat×Nat)} {G:D->Env->Option Env} {e:M D}:zX nt fr fo l G t e U=match l U with
  | .ok (ds,U1)=>(match zR G t e ds [] (jP nt fr U1) with | .ok (ys,Ue) => .ok (.lst ys,qkg fo Ue U1) | _ => .bad) | .exc x U' => .exc x U' | .bad => .bad:=by
 simp only [zX,bnd,sbnd]
 cases l U with
 | ok z =>
  obtain ⟨z1,U1⟩:=z
  dsimp only <;>
  cases zR G t e z1 [] (jP nt fr U1) with
  | ok z=>obtain ⟨z2,U2⟩:=z;rfl
  | exc x U'=>rfl
  | bad=>rfl
 | exc x U'=>rfl
 | bad=>rfl
theorem qbY (F:List D->List D->R (D×List D)) (i:Nat):qo F i l U=match zf i U with
  | none => .bad
  | some _=>(match l U with
   | .ok (ds,U1)=>(match zf i U1 with
    | none => .bad
    | some bs=>(match F bs ds with | .ok (d,bs') => .ok (d,U1.set i (some (.lst bs'))) | _ => .bad))
   | .exc x U' => .exc x U' | .bad => .bad):=by
 simp only [qo,bnd]
 cases zf i U with
 | none=>rfl
 | some _ =>
  dsimp only <;>
  cases l U with
  | ok z =>
   obtain ⟨z1,U1⟩:=z
   dsimp only <;>
   cases zf i U1 with
   | none=>rfl
   | some bs =>
    dsimp only <;>
    cases F bs z1 with
    | ok z=>obtain ⟨z2,z3⟩:=z;rfl
    | exc x U'=>rfl
    | bad=>rfl
  | exc x U'=>rfl
  | bad=>rfl
theorem qfv (F:List D->R D):qbU F l U=match l U with
  | .ok (ds,U1)=>(if immFs ds then (match F ds with | .ok (.lst bs)=>(if immL bs then .ok (bs,U1) else .bad) | _ => .bad) else .bad) | .exc x U' => .exc x U' | .bad => .bad:=by
 simp only [qbU,bnd,sbnd]
 cases l U with
 | ok z =>
  obtain ⟨z1,U1⟩:=z
  dsimp only <;>
  cases immFs z1 with
  | false=>rfl
  | true =>
   simp only [if_true]
   cases F z1 with
   | ok z=>cases z<;>rfl
   | exc x U'=>rfl
   | bad=>rfl
 | exc x U'=>rfl
 | bad=>rfl
theorem qfw (i:Nat):qcy i f U=match zf i U with
  | none => .bad
  | some _=>(match f U with
   | .ok (k,U1)=>(match k,zf i U1 with
    | .int n,some ds=>(match atI ds n with | some d => .ok (d,U1) | none => .bad)
    | _,_ => .bad)
   | .exc x U' => .exc x U' | .bad => .bad):=by
 simp only [qcy,bnd]
 cases zf i U with
 | none=>rfl
 | some _ =>
  dsimp only <;>
  cases f U with
  | ok z =>
   obtain ⟨z1,U1⟩:=z
   dsimp only <;>
   cases z1<;>cases zf i U1<;>try rfl
  | exc x U'=>rfl
  | bad=>rfl
theorem qfx (i:Nat):qgZ i k f U=match f U with
  | .ok (d,U1)=>(match zf i U1 with
   | none => .bad
   | some _=>(match k U1 with
    | .ok (j,U2)=>(match j,zf i U2 with
     | .int n,some ds=>(match ixN ds.length n with
      | some q=>if imm d then .ok (.nx (U2.set i (some (.lst (ds.set q d))))) else .bad
      | none => .bad)
     | _,_ => .bad)
    | .exc x U' => .exc x U' | .bad => .bad))
  | .exc x U' => .exc x U' | .bad => .bad:=by
 simp only [qgZ,bnd,sbnd]
 cases f U with
 | ok z =>
  obtain ⟨z1,U1⟩:=z
  dsimp only <;>
  cases zf i U1 with
  | none=>rfl
  | some _ =>
   dsimp only <;>
   cases k U1 with
   | ok z =>
    obtain ⟨z2,U2⟩:=z
    dsimp only <;>
    cases z2<;>cases zf i U2<;>try rfl
   | exc x U'=>rfl
   | bad=>rfl
 | exc x U'=>rfl
 | bad=>rfl
theorem qfy (i:Nat):qbR i U=match zf i U with | some ds => .ok (.int ds.length,U) | none => .bad:=by
 unfold qbR
 cases zf i U<;>rfl
theorem qfz (i:Nat):qd9 i U=match zf i U with | some ds => .ok (.tup ds,U) | none => .bad:=by
 unfold qd9
 cases zf i U<;>rfl
theorem qil (i:Nat):qh9 i f U=match zf i U with
  | none => .bad
  | some _=>(match f U with
   | .ok (y,U1)=>(match zf i U1 with
    | none => .bad
    | some ds=>(match neA (.lst ds) y with | some d => .ok (d,U1) | none => .bad))
   | .exc x U' => .exc x U' | .bad => .bad):=by
 simp only [qh9,bnd]
 cases zf i U with
 | none=>rfl
 | some _ =>
  dsimp only <;>
  cases f U with
  | ok z =>
   obtain ⟨z1,U1⟩:=z
   dsimp only <;>
   cases zf i U1 with
   | none=>rfl
   | some ds=>(dsimp only;cases neA (.lst ds) z1<;>rfl)
  | exc x U'=>rfl
  | bad=>rfl
theorem u6 (i:Nat):zS i f U=match zf i U with
  | none => .bad
  | some _=>(match f U with
   | .ok (d,U1)=>(match zf i U1 with
    | some ds=>if imm d&&qM (ds.length+1) then .ok (.non,U1.set i (some (.lst (ds++[d])))) else .bad
    | none => .bad)
   | .exc x U' => .exc x U' | .bad => .bad):=by
 simp only [zS,bnd]
 cases zf i U with
 | none=>rfl
 | some _ =>
  dsimp only <;>
  cases f U with
  | ok z =>
   obtain ⟨z1,U1⟩:=z
   dsimp only <;>
   cases zf i U1<;>rfl
  | exc x U'=>rfl
  | bad=>rfl
theorem qlA {g k:M (Option Int)}:dsl f g k U=match f U with
  | .ok (d,U1)=>(match g U1 with
   | .ok (lo,U2)=>(match k U2 with
    | .ok (hi,U3)=>(match slD d lo hi with | some x => .ok (x,U3) | none => .bad)
    | .exc x U' => .exc x U' | .bad => .bad)
   | .exc x U' => .exc x U' | .bad => .bad)
  | .exc x U' => .exc x U' | .bad => .bad:=by
 simp only [dsl,bnd,sbnd]
 cases f U with
 | ok z =>
  obtain ⟨z1,U1⟩:=z
  dsimp only <;>
  cases g U1 with
  | ok z =>
   obtain ⟨z2,U2⟩:=z
   dsimp only <;>
   cases k U2 with
   | ok z=>obtain ⟨z3,U3⟩:=z;(dsimp only;cases slD z1 z2 z3<;>rfl)
   | exc x U'=>rfl
   | bad=>rfl
  | exc x U'=>rfl
  | bad=>rfl
 | exc x U'=>rfl
 | bad=>rfl
theorem wM:uI f U=match f U with | .ok (.int i,U1) => .ok (some i,U1) | .ok _ => .bad | .exc x U' => .exc x U' | .bad => .bad:=by
 simp only [uI,bnd,sbnd]
 cases f U with
 | ok z =>
  obtain ⟨z1,U1⟩:=z
  cases z1<;>rfl
 | exc x U'=>rfl
 | bad=>rfl
end
theorem zt {n:Nat} (h:n<=1000000):qM n=true:=by
 unfold qM
 exact decide_eq_true (Nat.le_trans h (by rw [PySem.sizeLine_eq];decide))
theorem qjC {n p:Nat} {body:MS} {ds:List D} {d:D} {U:Env} (h:ds.length=p) (e:body (jJ n ds) = .ok (.rt d U)):dfn n p body ds = .ok d:=by
 unfold dfn;rw [if_pos h,e]
theorem qde {n p:Nat} {body:MS} {bs ds bs':List D} {d:D} {U:Env} (h:ds.length+1=p) (e:body (jJ n (.lst bs::ds)) = .ok (.rt d U)) (g:zf 0 U=some bs'):vA n p body bs ds = .ok (d,bs'):=by
 unfold vA;rw [if_pos h,e];simp only [g]
end L2.Sk
namespace L2.Sk
open PySem PySem.Spec PyProof.Rows
section
variable {prog:Program} {w:World} {A:Around} {E:Value->Shared->Prop} {s:Shared}
end
section
variable {X:Cx} {c:Fc} {a b e:Expr} {pos:Pos} {es:List Expr} {kk:Nat} {tp:Pos}
def qjD (k:Nat):List D->List D
 | []=>[]
 | x::xs => .tup [.int (k:Nat),x]::qjD (k+1) xs
def qjE:List D->Option (List D)
 | [.tup xs]=>some (qjD 0 xs)
 | _=>none
def qjF (f:M (List D)):M (List D):=bnd f fun ds=>lift (qjE ds)
end
def vD:D->V
 | .bl b => .bl b
 | .int i => .int i
 | .str x => .str x
 | _ => .non
def flD:D->Bool
 | .non=>true
 | .bl _=>true
 | .int _=>true
 | .str _=>true
 | _=>false
def sqD:D->Option (List D)
 | .tup ds=>some ds
 | .lst ds=>some ds
 | _=>none
def inD (x y:D):Option D:=match sqD y with
 | some ds=>if flD x&&ds.all flD then some (.bl (ds.any fun d=>eqV (vD d) (vD x))) else none
 | none=>none
theorem qim {K:Fr0} {A:Addr->Prop} {H:Hp} {d:D} {v:V} (h:Is K A H d v) (f:flD d=true):v=vD d/\vW v=true:=by
 cases d<;>first | (cases h;exact ⟨rfl,rfl⟩) | cases f
theorem qcB {K:Fr0} {A:Addr->Prop} {H:Hp}:∀ {ds:List D} {vs:List V},IsL K A H ds vs->ds.all flD=true->vs=ds.map vD/\vs.all vW=true
 | [],_,h,_=>by cases h;exact ⟨rfl,rfl⟩
 | d::ds,_,⟨x,ys,hx,h1,h2⟩,f=>by
  rw [List.all_cons,Bool.and_eq_true] at f
  obtain ⟨e1,e2⟩:=qim h1 f.1
  obtain ⟨e3,e4⟩:=qcB h2 f.2
  subst hx
  rw [mC_,<- e1,<- e3,List.all_cons,e2,e4]
  exact ⟨rfl,rfl⟩
theorem qlB {K:Fr0} {A:Addr->Prop} {H:Hp} {x y:D} {ds:List D} {v u:V} (ix:Is K A H x v) (iy:Is K A H y u) (e:sqD y=some ds) (f:(flD x&&ds.all flD)=true) :
  ∃ p xs,u = .ref p/\(SqL K H p xs\/SqT K H p xs)/\vW v=true/\xs.all vW=true/\inV v xs=ds.any fun d=>eqV (vD d) (vD x):=by
 rw [Bool.and_eq_true] at f
 obtain ⟨e1,e2⟩:=qim ix f.1
 cases y<;>simp only [sqD] at e<;>try (cases e;done)
 ·cases e
  obtain ⟨a,zs,rfl,ta,il⟩:=iy
  obtain ⟨e3,e4⟩:=qcB il f.2
  exact ⟨a,zs,rfl,.inr ta.sq,e2,e4,by rw [e3,e1];unfold inV;rw [List.any_map];rfl⟩
 ·cases e
  obtain ⟨a,zs,rfl,_,ta,il⟩:=iy
  obtain ⟨e3,e4⟩:=qcB il f.2
  exact ⟨a,zs,rfl,.inl (SqL.of ta),e2,e4,by rw [e3,e1];unfold inV;rw [List.any_map];rfl⟩
theorem qlC {K:Fr0}:OpS K inD (rIn K false):=by
 intro A H x y d v u Q hn ix iy e k
 unfold inD at e
 split at e
 ·rename_i ds es
  obtain ⟨e1,e2⟩:=zx e
  subst e2
  obtain ⟨p,xs,h1,h2,h3,h4,h5⟩:=qlB ix iy es e1
  exact ⟨p,xs,h1,h2,h3,h4,by rw [<- h5] at k;exact k _ H (zD.refl H) rfl⟩
 ·cases e
theorem qfA {l:M (List D)} {U:Env}:qjF l U=match l U with | .ok (d,U1)=>(match qjE d with | some ds => .ok (ds,U1) | none => .bad) | .exc x U' => .exc x U' | .bad => .bad:=by
 simp only [qjF,bnd]
 cases l U with
 | ok z=>obtain ⟨z1,U1⟩:=z;(dsimp only;cases qjE z1<;>rfl)
 | exc x U'=>rfl
 | bad=>rfl
section
variable {X:Cx} {tg iter elt:Expr} {ifs:List Expr} {scope:Scope} {pos:Pos} {wi:TI} {N':List Str} {nt:Nat} {fr:List Nat}
theorem qjG {i:Nat} {x:Str} {pos' spos:Pos} (hN:X.N.Nodup) (hix:X.N[i]? = some x) (hx:Loc X.env.scope x) (hfx:X.fn x=true\/X.env.scope.names.lookup x=some .local) (hc:X.calm=true) (hi:PI X tg iter wi) (S:jE X scope N' nt fr)
  (hsw:swapsWith (.ListComp elt [⟨tg,iter,ifs,0⟩] scope pos) (some (.Name x pos')) spos.line X.env=pure true)
  (hs:∀ x,foldedSetIterable iter X.env x=pure x:=by intro _;rfl):PS X (.Assign [.Name x pos'] (.ListComp elt [⟨tg,iter,ifs,0⟩] scope pos) spos) (fun D Z H=>qjf X tg ifs elt scope N' wi nt fr Z H fun v H'=>D.nx (Z.set i (some v)) H'):=by
 intro pins s Z H D I hw
 obtain ⟨cl,hcl,cl1,cl2⟩:=uU (env:=X.env) (scope:=scope) (fun y hy hf=>I.ok.has y.1 (.inl (S.frees y hy hf)))
 rw [exec_Assign_Name_used _ _ _ _ hsw]
 refine wpAny_bind (wpAny_standAt (wpAny_bind ?_))
 show wpAny (model X.prog X.w) X.A (comprehension (.ListComp elt [⟨tg,iter,ifs,0⟩] scope pos) scope X.env _ (newList []) false (eval iter X.env) (some (assign (.Name x pos') X.env)) >>= fun _=>pure ()) _ _ s
 refine wpAny_bind (thn (Q:=fun _ s'=>SP X pins D .next s') ?_ fun _ s' q=>wpAny_pure (wpAny_pure q))
 refine wpAny_comprehension_free (use:=some (assign (.Name x pos') X.env)) rfl hs hcl S.kind S.names (thn (hi pins s Z H _ I hw) fun v s1 h1=>thn h1 fun itv s2 h2 => ?_)
 obtain ⟨it,fp,tn,J,H2,e,I2,T,st2,f2,hR⟩:=h2
 subst e
 have hacc:H2 s2.heap.objs.size=none:=I2.hok.fresh (Nat.le_refl _)
 refine wpAny_newObj_type (wpAny_newFunctionEnv S.nocell (by intro y hy;simp at hy) (fun hV hns1 hsb1 => ?_) S.kind)
 dsimp only at hns1 hsb1 |-
 have I3:Inv X pins Z (upd H2 s2.heap.objs.size (.lst [])) { s2 with heap:=s2.heap.push { cls := .type "list",dict:=none,data := .seq ([]:List Value).toArray } } :=
  I2.lnew (t':=s2.toks) (its:=[]) .nil (Nat.zero_le _)
 generalize hs3:({ s2 with heap:=s2.heap.push { cls := .type "list",dict:=none,data := .seq ([]:List Value).toArray } }:Shared)=s3 at I3
 have hh3:s2.heap.push { cls := .type "list",dict:=none,data := .seq ([]:List Value).toArray }=s3.heap:=by rw [<- hs3]
 rw [hh3] at hns1 hsb1
 have old:∀ b o,s3.heap.get? b=some o->hV.get? b=some o:=fun b o q=>hsb1.extBut b o (Nat.ne_of_lt (Heap.lt_size q)) (Heap.get?_push_of_some _ q)
 have objs2:∀ b∈fp,∃ o,s2.heap.get? b=some o:=fun b hb=>by
  obtain ⟨o,q,_⟩:=T.obj 0 _ st2 b hb
  exact ⟨o,q⟩
 have keep23:∀ b o,s2.heap.get? b=some o->s3.heap.get? b=some o:=fun b o q=>by rw [<- hh3];exact Heap.get?_push_of_some _ q
 have fpne:∀ b∈fp,b≠s2.heap.objs.size:=fun b hb=>by
  obtain ⟨o,q⟩:=objs2 b hb
  exact Nat.ne_of_lt (Heap.lt_size q)
 have f3:∀ b∈fp,qcm X pins (upd H2 s2.heap.objs.size (.lst [])) b:=fun b hb=>⟨by rw [qj (fpne b hb)];exact (f2 b hb).1,(f2 b hb).2⟩
 have J0:Inv (zE X scope N' fp cl s3.heap.objs.size s3 (upd H2 s2.heap.objs.size (.lst [])) (X.pn++pins)) [] (qH nt fr Z) (upd H2 s2.heap.objs.size (.lst [])) { s3 with heap:=hV,toks:=s3.toks } :=
  qav S I3 f3 (fun b hb=>(objs2 b hb).imp fun o q=>keep23 b o q) cl1 cl2 ⟨_,hns1⟩ old
 obtain ⟨g,tt,te,hg,hf,he,W,⟨m0,w0⟩,turn⟩:=hR s2.heap.objs.size fp cl s3.heap.objs.size s3 (upd H2 s2.heap.objs.size (.lst [])) (X.pn++pins) hacc
 have T0:tn 0 hV:=T.keep 0 _ _ st2 fun b hb o q=>old b o (keep23 b o q)
 have s3e:∀ tk:Nat,({ s2 with heap:=hV,toks:=tk }:Shared)={ s3 with heap:=hV,toks:=tk }:=fun tk=>by rw [<- hs3]
 have loop:∀ tk:Nat,codeAny (model X.prog X.w) X.A (.compLoop (.ListComp elt [⟨tg,iter,ifs,0⟩] scope pos) 0 (.ref it) (.ref s2.heap.objs.size) (compEnvC scope cl s3.heap.objs.size X.env))
   (compPost (model X.prog X.w) X.A X.xe (some (assign (.Name x pos') X.env)) (fun _ s'=>SP X pins D .next s') (.ref s2.heap.objs.size) s3.heap.objs.size) { s3 with heap:=hV,toks:=tk }:=fun tk=>by
  have stat:∀ {H':Hp},(∀ b∈fp,H' b=none)->∀ b∈fp,qcm (zE X scope N' fp cl s3.heap.objs.size s3 (upd H2 s2.heap.objs.size (.lst [])) (X.pn++pins)) [] H' b:=fun {H'} hn b hb=>by
   obtain ⟨o,q⟩:=objs2 b hb
   have hbC:b≠s3.heap.objs.size:=Nat.ne_of_lt (Heap.lt_size (keep23 b o q))
   refine ⟨hn b hb,hbC,fun z => ?_,.inl hb,fun x c hx=>(f2 b hb).2.2.2.2.1 x c (cl1 x c hx),fun p hp => ?_⟩
   ·rcases List.mem_cons.mp (I2.stkSub b z) with z | z
    ·exact (f2 b hb).2.1 z
    ·exact (f2 b hb).2.2.1 z
   ·have hp':p∈X.pn++pins:=by
     rcases mA_.mp (show p∈(X.pn++pins)++[] from hp) with z | z
     ·exact z
     ·cases z
    exact (f2 b hb).2.2.2.2.2 p hp'
  have fr0:∀ b∈fp,upd H2 s2.heap.objs.size (.lst []) b=none:=fun b hb=>(f3 b hb).1
  refine wC (fun n s'=>∃ i Z' H',Inv (zE X scope N' fp cl s3.heap.objs.size s3 (upd H2 s2.heap.objs.size (.lst [])) (X.pn++pins)) [] Z' H' s'/\tn i s'.heap/\(∀ b∈fp,H' b=none)/\W i n Z' H') ?_ m0
   ⟨0,qH nt fr Z,_,J0.tok tk,T0,fr0,w0⟩
  rintro n s4 ⟨i,Z4,H4,J4,st4,fr4,w4⟩
  rcases turn i n Z4 H4 w4 with ⟨stop,qn⟩ | ⟨go,step⟩
  ·refine thn (T.done (zE X scope N' fp cl s3.heap.objs.size s3 (upd H2 s2.heap.objs.size (.lst [])) (X.pn++pins)) rfl rfl rfl hc i [] s4 Z4 H4 _ J4 (stat fr4) st4 stop) fun r s5 ⟨hr,J5⟩ => ?_
   subst hr
   obtain ⟨m5,n5,_⟩:=J5.loc
   have I5:Inv X pins Z H4 s5:=qdc I3 f3 J5 (Heap.SameBut.refl ..)
   have lC:X.env.locals≠s3.heap.objs.size:=Nat.ne_of_lt I3.lt
   have cC:∀ y c,X.env.cells.lookup y=some c->c≠s3.heap.objs.size:=fun y c hy=>by
    obtain ⟨v,o,ho,_⟩:=I3.cell y c hy
    exact Nat.ne_of_lt (Heap.lt_size ho)
   have pC:∀ p∈X.pn++pins,p.1≠s3.heap.objs.size:=fun p hp=>Nat.ne_of_lt (Heap.lt_size (I3.pin p hp).1)
   refine wpAny_assign_Name (qbz (v := .ref s2.heap.objs.size) I5 hN hix hx rfl (fun s'' I6 ⟨a,sb,ha⟩ => ?_) hfx)
   have aC:s3.heap.objs.size≠a:=by
    rcases ha with rfl | ha
    ·exact lC.symm
    ·exact (cC _ _ ha).symm
   exact ⟨m5,n5.sameBut sb aC,fun h' sb'=>⟨_,H4,I6.turned (t':=s''.toks) (fun b o hb q=>(sb'.2 b hb).trans q) J5.free lC.symm (.inr I3.sz) cC pC,qn⟩⟩
  ·refine thn (T.item (zE X scope N' fp cl s3.heap.objs.size s3 (upd H2 s2.heap.objs.size (.lst [])) (X.pn++pins)) rfl rfl rfl hc i [] s4 Z4 H4 _ J4 (stat fr4) st4 go) fun r s5 ⟨u,hr,h5⟩ => ?_
   subst hr
   refine thn h5 fun _ s6 ⟨x,H6,J6,r6,y6,st6,fr6⟩ => ?_
   have J6':=J6.pinned (stat fr6) (T.obj _ _ st6)
   have again:∀ {Z7:St} {H7:Hp} {s7:Shared},Inv (zE X scope N' fp cl s3.heap.objs.size s3 (upd H2 s2.heap.objs.size (.lst [])) (X.pn++pins)) ([]++qao fp s6.heap) Z7 H7 s7->(∃ m',m'<n/\W (i+1) m' Z7 H7) ->
     ∃ m,m<n/\∃ i Z' H',Inv (zE X scope N' fp cl s3.heap.objs.size s3 (upd H2 s2.heap.objs.size (.lst [])) (X.pn++pins)) [] Z' H' s7/\tn i s7.heap/\(∀ b∈fp,H' b=none)/\W i m Z' H':=fun {Z7 H7 s7} I7 hm=>by
    obtain ⟨m',hm,w7⟩:=hm
    refine ⟨m',hm,i+1,Z7,H7,I7.unpinned,T.keep _ _ _ st6 fun b hb o q=>(I7.pin (b,o) (mr_ _ (mr_ _ (jT hb q)))).1,fun b hb => ?_,w7⟩
    obtain ⟨o,q,d⟩:=T.obj _ _ st6 b hb
    exact (I7.pin (b,o) (mr_ _ (mr_ _ (jT hb q)))).2.1
   refine thn (hg _ s6 Z4 H6 x u _ J6' r6 (step x H6 y6)) fun _ s7 ⟨Z7,H7,J7,q7⟩ => ?_
   refine thn (hf _ s7 Z7 H7 _ J7 q7) fun ok s8 ⟨H8,J8,q8⟩ => ?_
   cases ok with
   | false =>
    rw [if_neg Bool.false_ne_true] at q8 |-
    exact again J8 q8
   | true =>
    rw [if_pos rfl] at q8 |-
    refine thn (he _ s8 Z7 H8 _ J8 q8) fun z s9 ⟨y,H9,J9,r9,ys,hys,hz,hm⟩ => ?_
    refine thn (ud _ s9 Z7 H9 (.ref s2.heap.objs.size) [y] (.ref s2.heap.objs.size) [z] (fun _ H'=>H'=upd H9 s2.heap.objs.size (.lst (ys++[y]))) J9 rfl (.cons r9 .nil) ⟨_,ys,y,rfl,rfl,hys,hz,rfl⟩) fun _ s10 ⟨_,H10,J10,_,e10⟩ => ?_
    subst e10
    exact again J10 hm
 have zP:∀ tk:Nat,codeAny (model X.prog X.w) X.A (.compStart (.ListComp elt [⟨tg,iter,ifs,0⟩] scope pos) 0 (.ref it) (.ref s2.heap.objs.size) (compEnvC scope cl s3.heap.objs.size X.env))
   (compPost (model X.prog X.w) X.A X.xe (some (assign (.Name x pos') X.env)) (fun _ s'=>SP X pins D .next s') (.ref s2.heap.objs.size) s3.heap.objs.size) { s3 with heap:=hV,toks:=tk }:=fun tk =>
  codeAny_compStart_list (loop tk) (T.self X.A 0 _ _ _ T0 (loop tk))
 have fin:=zP (s2.toks+([]:List (Str×Value)).length)
 rw [<- s3e] at fin
 rw [<- hh3] at fin
 rw [hh3] at fin |-
 exact fin
end
section
variable {X:Cx} {c:Fc}
def DC (X:Cx) (c:Fc) (tg it elt:Expr) (ifs:List Expr) (scope:Scope) (N':List Str) (nt:Nat) (fr:List Nat) (f:M D):Prop:=∃ wi,PI X tg it wi/\∀ U Z H Q,Rep X.K c U Z H->Wp X.K c Z H Q (f U)->qjf X tg ifs elt scope N' wi nt fr Z H Q
theorem qjH {it elt tg:Expr} {ifs:List Expr} {scope:Scope} {N':List Str} {nt:Nat} {fr:List Nat} {fo:Option (Nat×Nat)} {f:M (List D)} {g:D->Env->Option Env} {t:M Bool} {k:M D} (hc:X.calm=true) (hi:DI X c tg it f) (S:jE X scope N' nt fr)
  (hfo:qjh c nt fr fo)
  (hb:∀ fp cl C s₀ H₀ pn B0 H1 Io' acc S',DG (zE X scope N' fp cl C s₀ H₀ pn) (cin B0 H1 (foO fo) Io' acc S') tg g/\DF (zE X scope N' fp cl C s₀ H₀ pn) (cin B0 H1 (foO fo) Io' acc S') ifs t/\DE (zE X scope N' fp cl C s₀ H₀ pn) (cin B0 H1 (foO fo) Io' acc S') elt k)
  : DC X c tg it elt ifs scope N' nt fr (zX nt fr fo f g t k):=by
 obtain ⟨wi,pi,wI⟩:=hi
 refine ⟨wi,pi,fun U Z H Q r h=>wI U Z H _ r (WpI.bnd h fun ds U1 J H1 r1 iok g1 h1 => ?_)⟩
 intro acc fp cl C s₀ H₀ pn hn
 obtain ⟨⟨tg',pg,wg⟩,⟨tt,pt,wt⟩,⟨te,pe,we⟩⟩:=hb fp cl C s₀ H₀ pn (Cn c Z) H1 (qbx Z fo) acc fun j=>(qH nt fr Z)[j]?
 refine ⟨tg',tt,te,pg,pt,pe,?_⟩
 cases ew:zR g t k ds [] (jP nt fr U1) with
 | exc x U'=>rw [ew] at h1;exact h1.elim
 | bad=>rw [ew] at h1;exact h1.elim
 | ok p =>
  rw [ew] at h1
  obtain ⟨ys,Ue⟩:=p
  have h1:∀ v H',Rep X.K c (qkg fo Ue U1) Z H'->Is X.K (Cn c Z) H' (.lst ys) v->Gr c.O Z H1 H'->Q v H':=h1
  have accO:∀ j∈foO fo,(qH nt fr Z)[j]? ≠ some (some (.ref acc)):=fun j hj e=>by
   have r0:=r1.entry (acc:=acc) hn hfo
   cases fo with
   | none=>cases hj
   | some p =>
    obtain ⟨i',j'⟩:=p
    have e2:j=i':=by simpa [foO] using hj
    subst e2
    obtain ⟨k2,j2,e1,e2,e3⟩:=jV e
    have hk2:k2=j-nt:=by omega
    subst hk2
    rw [hfo.2.2.1] at e2
    cases e2
    obtain ⟨a,us,e4,e5,_⟩:=r1.own j' hfo.1 _ e3
    cases e4;rw [hn] at e5;cases e5
  refine ⟨fun i m Z' H'=>m=ds.length-i/\i<=ds.length/\∃ U' zs xs,Rep X.K (cin (Cn c Z) H1 (foO fo) (qbx Z fo) acc fun j=>(qH nt fr Z)[j]?) U' Z' H'/\(∀ j∈foO fo,Z'[j]? = (qH nt fr Z)[j]?)/\H' acc=some (.lst xs)/\IsL X.K (Cn (cin (Cn c Z) H1 (foO fo) (qbx Z fo) acc fun j=>(qH nt fr Z)[j]?) Z') H' zs xs/\zR g t k (ds.drop i) zs U' = .ok (ys,Ue),
   ⟨ds.length,by simp,Nat.zero_le _,jP nt fr U1,[],[],r1.entry hn hfo,fun _ _=>rfl,qk,rfl,by simpa using ew⟩,?_⟩
  rintro i m Z' H' ⟨rfl,hi,U',zs,xs,r',so,ha,iz,w⟩
  obtain ⟨_,gr⟩:=r1.leave hn hfo (fun i j e=>so i (by rw [e];simp [foO])) r'
  have ex:Ext (CnT c Z H1) H1 H':=⟨gr.ext.tup,gr.ext.frz,fun b o hb hq=>gr.ext.at_ b o hb.1.2 hq⟩
  have accC:∀ τ:St,(∀ j∈foO fo,τ[j]? = (qH nt fr Z)[j]?)->Cl (foO fo) τ acc:=fun τ hτ j hj e=>accO j hj (by rw [<- hτ j hj];exact e)
  by_cases hlt:i<ds.length
  ·refine .inr ⟨iok.go H' i ds[i] ex (by simp [hlt]),fun x H'' y => ?_⟩
   obtain ⟨sm,ix⟩:=iok.yl H' i ds[i] x H'' ex (by simp [hlt]) y
   rw [vx hlt] at w
   unfold zR at w
   have ix2:Is X.K (Cn (cin (Cn c Z) H1 (foO fo) (qbx Z fo) acc fun j=>(qH nt fr Z)[j]?) Z') H'' ds[i] x:=Is.ext Ext.refl (fun a ha _=>⟨⟨ha.1,fun e=>by
    have:=ha.2
    rw [e,hn] at this;cases this⟩,fun j hj e=>by
     rw [so j hj] at e
     cases fo with
     | none=>cases hj
     | some p =>
      obtain ⟨i',j'⟩:=p
      have e2:j=i':=by simpa [foO,cin] using hj
      subst e2
      obtain ⟨k2,j2,e1,e2,e3⟩:=jV e
      have hk2:k2=j-nt:=by omega
      subst hk2
      rw [hfo.2.2.1] at e2
      cases e2
      exact ha.1.2 j' hfo.1 e3⟩) ix
   cases e1:g ds[i] U' with
   | none=>simp only [e1] at w;cases w
   | some U2 =>
    simp only [e1] at w
    refine wg U' Z' H'' ds[i] x U2 _ (r'.same sm) ix2 e1 fun Z2 r2 g2 o2 => ?_
    have so2:∀ j∈foO fo,Z2[j]? = (qH nt fr Z)[j]? := fun j hj=>(o2 j hj).trans (so j hj)
    have ha2:H'' acc=some (.lst xs):=sm _ _ ha
    have iz2:=g2.isL (IsL.ext (Ext.of_same sm) (fun _ h _=>h) iz)
    cases e2:t U2 with
    | exc x U3=>simp only [e2] at w;cases w
    | bad=>simp only [e2] at w;cases w
    | ok p2 =>
     obtain ⟨bb,U3⟩:=p2
     refine wt U2 Z2 H'' _ r2 ?_
     rw [e2]
     intro H3 r3 g3
     have ha3:H3 acc=some (.lst xs):=g3.ext.at_ _ _ (accC Z2 so2) ha2
     have iz3:=g3.isL iz2
     cases bb with
     | false =>
      rw [if_neg Bool.false_ne_true]
      simp only [e2] at w
      exact ⟨ds.length-(i+1),by omega,rfl,hlt,U3,zs,xs,r3,so2,ha3,iz3,w⟩
     | true =>
      rw [if_pos rfl]
      simp only [e2] at w
      cases e3:k U3 with
      | exc x U4=>simp only [e3] at w;cases w
      | bad=>simp only [e3] at w;cases w
      | ok p3 =>
       obtain ⟨d4,U4⟩:=p3
       simp only [e3] at w
       refine we U3 Z2 H3 _ r3 ?_
       rw [e3]
       intro y4 H4 r4 i4 g4
       have ha4:H4 acc=some (.lst xs):=g4.ext.at_ _ _ (accC Z2 so2) ha3
       have hsz:qM (zs.length+1)=true:=by
        cases e5:qM (zs.length+1) with
        | true=>rfl
        | false=>rw [e5] at w;simp at w
       rw [if_pos hsz] at w
       have hsz':zs.length+1<=sizeLine:=of_decide_eq_true hsz
       have r5:=r4.grow (ys:=xs++[y4]) ha4 (fun j hj e=>accC Z2 so2 j hj e)
       have ext5:Ext (Cn (cin (Cn c Z) H1 (foO fo) (qbx Z fo) acc fun j=>(qH nt fr Z)[j]?) Z2) H4 (upd H4 acc (.lst (xs++[y4]))):=⟨fun b us hb=>by rw [qj (uR hb ha4 (by intro z;cases z))];exact hb,fun b o u hb=>by rw [qj (uR hb ha4 (by intro z;cases z))];exact hb,fun b o hb hq=>by rw [qj hb.1.2];exact hq⟩
       refine ⟨xs,ha4,by rw [iz3.length];omega,ds.length-(i+1),by omega,rfl,hlt,U4,zs++[d4],xs++[y4],r5,so2,qk,?_,w⟩
       exact IsL.append (IsL.ext ext5 (fun _ h _=>h) (g4.isL iz3)) (IsL.one (Is.ext ext5 (fun _ h _=>h) i4))
  ·have hie:i=ds.length:=by omega
   subst hie
   rw [List.drop_of_length_le (Nat.le_refl _)] at w
   unfold zR at w
   cases w
   obtain ⟨r6,g6⟩:=r1.leave hn hfo (fun i j e=>so i (by rw [e];simp [foO])) r'
   exact .inl ⟨iok.stop H' ex,h1 _ H' r6 ⟨acc,xs,rfl,r1.new hn,ha,IsL.ext Ext.refl (fun a ha hs=>ha.1.1) iz⟩ g6⟩
theorem qjI {i:Nat} {x:Str} {pos' spos pos:Pos} {tg it elt:Expr} {ifs:List Expr} {scope:Scope} {N':List Str} {nt:Nat} {fr:List Nat} {f:M D} (hN:X.N.Nodup) (h:DC X c tg it elt ifs scope N' nt fr f) (hc:X.calm=true) (S:jE X scope N' nt fr)
  (ho:i ∉ c.O:=by exact of_decide_eq_false rfl) (hix:X.N[i]? = some x:=by rfl) (hx:Loc X.env.scope x:=by first | exact Or.inl rfl | exact Or.inr rfl) (hfx:X.fn x=true\/X.env.scope.names.lookup x=some .local:=by first | exact .inl rfl | exact .inr rfl | assumption)
  (hsw:swapsWith (.ListComp elt [⟨tg,it,ifs,0⟩] scope pos) (some (.Name x pos')) spos.line X.env=pure true:=by rfl) (hs:∀ x,foldedSetIterable it X.env x=pure x:=by intro _;rfl) :
  DS X c (.Assign [.Name x pos'] (.ListComp elt [⟨tg,it,ifs,0⟩] scope pos) spos) (zM i f):=by
 obtain ⟨wi,pi,w⟩:=h
 refine ⟨_,qjG hN hix hx hfx hc pi S hsw hs,fun U Z H D r h=>w U Z H _ r (Wp.sbnd h fun d U1 v H1 r1 i1 g1 h1 => ?_)⟩
 exact h1 _ H1 (r1.set ho i1) (.set ho)
end
def qmu:List Int->Int
 | []=>0
 | [n]=>n
 | n::m::ns=>max n (qmu (m::ns))
section
variable {X:Cx}
end
def qoi:List D->Option D
 | [.lst ds]=>match uf ds with
  | some (n::ns)=>some (.int (qmu (n::ns)))
  | _=>none
 | _=>none
def qlD (t:M Bool) (b:MS):Nat->MS
 | 0,_ => .bad
 | n+1,U=>match t U with
  | .ok (true,U1)=>match b U1 with
   | .ok (.nx U2)=>qlD t b n U2
   | .ok (.ct U2)=>qlD t b n U2
   | .ok (.bk U2) => .ok (.nx U2)
   | .ok (.rt d U2) => .ok (.rt d U2)
   | .exc x U2 => .exc x U2
   | .bad => .bad
  | .ok (false,U1) => .ok (.nx U1)
  | .exc x U1 => .exc x U1
  | .bad => .bad
open Classical in
section
variable {X:Cx} {c:Fc} {pos:Pos}
end
def qmv (K:Fr0) (a:Addr) (ns:List Int):Prop:=∃ (o:Obj) (its:Array Value) (n:Nat),K.lookup a=some o/\o.cls = .type "tuple"/\o.data = .seq its n/\its.size<=sizeLine/\qT (ns.map V.int) its.toList
theorem qmv.is {K:Fr0} {a:Addr} {ns:List Int} (h:qmv K a ns) (H:Hp) (A:Addr->Prop):Is K A H (.tup (ns.map .int)) (.ref a):=⟨a,_,rfl,.inr h,qa1 ns⟩
theorem qg9 {X:Cx} {c:Fc} {x:Str} {a:Addr} {ns:List Int} {pos:Pos} (hg:Gl X x) (hm:X.mg x=some (.ref a)) (ht:qmv X.K a ns) (hdb:(x==("__debug__":Str))=false:=by decide):DE X c (.Name x pos) (ret (.tup (ns.map .int))) :=
 qe1 (v := .ref a) hg hm rfl (fun H A=>ht.is H A) hdb
def qa7 (h:Heap) (e T:Addr) (cls:Value):Prop :=
 ∃ oe vs oT ts a0,h.get? e=some oe/\(oe.cls=cls/\vs[2]? = some .none/\vs[0]? = some a0)/\oe.data = .fields vs/\vs[1]? = some (.ref T)/\T≠e/\h.get? T=some oT/\oT.data = .fields ts/\ts[3]? = some .none
def CX1 (P:Program) (w:World):CXT:=fun outer H s E u s'=>∃ e T C H',u = .ref e/\s'.os=s.os/\AllBare s'.gens/\Un (frs outer) [] H H' s.heap s'.heap/\HOk P w H' s'.heap /\
 s.heap.get? e=none/\s.heap.get? T=none/\H' e=none/\H' T=none/\qa7 s'.heap e T (.ref C)/\E (.ref C) none H'
structure Lft (h h':Heap) (ch fs:List Addr):Prop where
 keep:∀ b o,b ∉ ch->b ∉ fs->h.get? b=some o->h'.get? b=some o
 slot:∀ b o,b∈fs->h.get? b=some o->∃ sl,h'.get? b=some { o with slots:=sl }
section
variable {M:Model} {A:Around} {E:Value->Shared->Prop} {s:Shared}
abbrev vB:Obj->Obj:=Obj.mapFields (·.setIfInBounds 3 Value.none)
theorem qjJ {base:Heap} {l:List PySem.Env} {h:Heap} {b:Addr} {o:Obj} {vs:Array Value} (hl:h.FunFrames base l) (hb:h.get? b=some o) (hd:o.data = .fields vs):b ∉ frs l:=fun z=>by
 obtain ⟨_,o',ho',hn⟩:=hl.mem z
 rw [hb] at ho'
 cases ho'
 exact hn vs hd
theorem qdf {e T:Addr} {oe oT:Obj} {vs ts:Array Value} {Q:Unit->Shared->Prop} (he:s.heap.get? e=some oe) (hd:oe.data = .fields vs) (h1:vs[1]? = some (.ref T)) (hT:s.heap.get? T=some oT) (hdT:oT.data = .fields ts) (h3:3<ts.size)
  (k:Q () { s with heap:=s.heap.update T vB }):wpAny M A (setFlight (.ref e) none) Q E s:=by
 unfold setFlight
 refine wpAny_bind (wpAny_field he hd h1 ?_)
 have t:(Value.ref T != Value.none)=true:=by simp
 rw [if_pos t]
 exact wpAny_setField hT hdT h3 k
theorem vC {h:Heap} {T:Addr} {oT:Obj} {ts:Array Value} (hT:h.get? T=some oT) (hdT:oT.data = .fields ts) (h3:3<ts.size):∃ o2 t2,(h.update T vB).get? T=some o2/\o2.data = .fields t2/\t2[3]? = some .none :=
 ⟨_,_,Heap.get?_update_self _ hT (Obj.isFreed_of_fields (Obj.data_mapFields hdT _)),Obj.data_mapFields hdT _,by simp [h3]⟩
theorem zu {h:Heap} {T b:Addr} (n:b≠T):(h.update T vB).get? b=h.get? b:=Heap.get?_update_other _ _ (Ne.symm n)
theorem qha {base:Heap} {env:PySem.Env} {outer:List PySem.Env} {L e:Addr} {oe:Obj} {vs:Array Value} {head:Value} {had:Bool} {Q:Unit->Shared->Prop} (hfr:A.frames=some (env::outer)) (hl:s.heap.FunFrames base (env::outer)) (hf:env.frame=some L)
  (he:s.heap.get? e=some oe) (hd:oe.data = .fields vs) (h1:1<vs.size)
  (k:∀ h' T,s.heap.get? T=none->T≠e->(∀ b o,b≠e->b ∉ frs (env::outer)->s.heap.get? b=some o->h'.get? b=some o)->(∀ b o,b∈frs (env::outer)->s.heap.get? b=some o->∃ sl,h'.get? b=some { o with slots:=sl }) ->
   h'.get? e=some (Obj.mapFields (·.setIfInBounds 1 (Value.ref T)) oe)->(∃ oT ts,h'.get? T=some oT/\oT.data = .fields ts/\3<ts.size)->h'.FunFrames base (env::outer)->Q () { s with heap:=h' }) :
  wpAny M A (do let a <- frameOf env;let pl <- entryPlaceOf L had;let b <- EntryCells.newEntry head a .none (rawInt L) .none pl;setField (.ref e) 1 b) Q E s:=by
 have hene:=qjJ hl he hd
 refine wpAny_bind (wpAny_frameOf_fun hfr hl hf fun hV hsK=>wpAny_bind (wpAny_entryPlaceOf fun pl hpl => ?_))
 unfold EntryCells.newEntry newFields
 have he1:hV.get? e=some oe:=(hsK.2.1 e hene).trans he
 refine wpAny_bind (wpAny_newObj_type ?_ (hpl.sizeOk5 _ _ _ _ _))
 generalize hob:({ cls:=Value.type "traceback",dict:=none,data:=Data.fields ([head,Value.ref L,Value.none,rawInt L,Value.none]++(if pl.isEmpty then List.replicate 6 Value.none else pl)).toArray }:Obj)=ob
 have nT:hV.objs.size≠e:=Nat.ne_of_gt (Heap.lt_size he1)
 have hnT:s.heap.get? hV.objs.size=none:=by
  cases q:s.heap.get? hV.objs.size with
  | none=>rfl
  | some o =>
   obtain ⟨sl,q'⟩:=hsK.2.2 _ o q
   exact absurd (Heap.lt_size q') (Nat.lt_irrefl _)
 refine wpAny_setField (Heap.get?_push_of_some _ he1) hd h1 ?_
 have keep:∀ b o,b≠e->hV.get? b=some o->((hV.push ob).update e (Obj.mapFields (·.setIfInBounds 1 (Value.ref hV.objs.size)))).get? b=some o:=fun b o hb q=>(Heap.get?_update_other _ _ (Ne.symm hb)).trans (Heap.get?_push_of_some _ q)
 refine k _ hV.objs.size hnT nT (fun b o hb hf q=>keep b o hb ((hsK.2.1 b hf).trans q)) (fun b o hb q => ?_) (Heap.get?_update_self _ (Heap.get?_push_of_some _ he1) (Obj.isFreed_of_fields (Obj.data_mapFields hd _))) ⟨ob,([head,Value.ref L,Value.none,rawInt L,Value.none]++(if pl.isEmpty then List.replicate 6 Value.none else pl)).toArray,?_,by rw [<- hob],by simp⟩ (hl.of_keeps fun b o q hn => ?_)
 ·obtain ⟨sl,q'⟩:=hsK.2.2 b o q
  exact ⟨sl,keep b _ (fun z=>hene (z▸hb)) q'⟩
 ·exact (Heap.get?_update_other _ _ (Ne.symm nT)).trans (Heap.get?_push_size _ (by rw [<- hob];rfl))
 ·obtain ⟨sl,q'⟩:=hsK.2.2 b o q
  exact ⟨_,keep b _ (fun z=>by subst z;rw [he] at q;cases q;exact hn vs hd) q',rfl⟩
theorem qdg {base:Heap} {env:PySem.Env} {outer:List PySem.Env} {L e:Addr} {oe:Obj} {vs:Array Value} {a0 head:Value} {had:Bool} {Q:Unit->Shared->Prop} (hfr:A.frames=some (env::outer)) (hl:s.heap.FunFrames base (env::outer)) (hf:env.frame=some L)
  (he:s.heap.get? e=some oe) (hd:oe.data = .fields vs) (h1:1<vs.size) (h2:vs[2]? = some .none) (h0:vs[0]? = some a0)
  (k:∀ h' T',Lft s.heap h' [e] (frs (env::outer))->qa7 h' e T' oe.cls->s.heap.get? T'=none->Q () { s with heap:=h' }) :
  wpAny M A (do let a <- frameOf env;let pl <- entryPlaceOf L had;let b <- EntryCells.newEntry head a .none (rawInt L) .none pl;setField (.ref e) 1 b) (fun _ s'=>wpAny M A (setFlight (.ref e) none) Q E s') E s:=by
 refine qha hfr hl hf he hd h1 fun h' T nT ne kp sl ee eT _ => ?_
 obtain ⟨oT,ts,gT,dT,sT⟩:=eT
 have dd:=Obj.data_mapFields hd (·.setIfInBounds 1 (Value.ref T))
 refine qdf (s:={ s with heap:=h' }) ee dd (by simp [h1]) gT dT sT ?_
 obtain ⟨o2,t2,q1,q2,q3⟩:=vC gT dT sT
 have nf:∀ b o,s.heap.get? b=some o->b≠T:=fun b o q z=>by rw [z,nT] at q;cases q
 refine k _ T ⟨fun b o hb hf q=>(zu (nf b o q)).trans (kp b o (by simpa using hb) hf q),fun b o hb q => ?_⟩ ⟨_,_,o2,t2,a0,(zu (Ne.symm ne)).trans ee,⟨Obj.cls_mapFields _ _,?_,?_⟩,dd,by simp [h1],ne,q1,q2,q3⟩ nT
 ·obtain ⟨sl,q'⟩:=sl b o hb q
  exact ⟨sl,(zu (nf b o q)).trans q'⟩
 ·rw [Array.getElem?_setIfInBounds_ne (by decide)];exact h2
 ·rw [Array.getElem?_setIfInBounds_ne (by decide)];exact h0
theorem qbZ {base:Heap} {env:PySem.Env} {outer:List PySem.Env} {L e T:Addr} {cls:Value} {Q:Unit->Shared->Prop} (hfr:A.frames=some (env::outer)) (hl:s.heap.FunFrames base (env::outer)) (hf:env.frame=some L) (F:qa7 s.heap e T cls)
  (k:∀ h' T',Lft s.heap h' [e,T] (frs (env::outer))->qa7 h' e T' cls->(T'=T\/s.heap.get? T'=none)->Q () { s with heap:=h' }) :
  wpAny M A (noteFrame (.ref e) env) (fun _ sQ=>wpAny M A (setFlight (.ref e) none) Q E sQ) E s:=by
 obtain ⟨oe,vs,oT,ts,a0,he,⟨hc,h2,h0⟩,hd,h1,hne,hT,hdT,h3⟩:=F
 subst hc
 have z3:3<ts.size:=(Array.getElem?_eq_some_iff.mp h3).1
 have z1:1<vs.size:=(Array.getElem?_eq_some_iff.mp h1).1
 have tT:(Value.ref T != Value.none)=true:=by simp
 have tL:¬ ((Value.none==rawInt L)=true):=by simp [rawInt]
 have nf:=qjJ hl hT hdT
 unfold noteFrame
 simp only [hf]
 refine wpAny_bind (wpAny_field he hd h1 ?_)
 rw [if_pos tT]
 refine wpAny_bind (wpAny_field hT hdT h3 ?_)
 rw [if_neg tL]
 refine wpAny_bind (wpAny_setField hT hdT z3 ?_)
 have hl1:(s.heap.update T vB).FunFrames base (env::outer):=hl.of_keeps fun b o q hn=>⟨o,(zu fun z=>by subst z;rw [hT] at q;cases q;exact hn ts hdT).trans q,rfl⟩
 refine qdg (s:={ s with heap:=s.heap.update T vB }) hfr hl1 hf ((zu (Ne.symm hne)).trans he) hd z1 h2 h0 fun h' T' x y z => ?_
 refine k h' T' ⟨fun b o hb hf q => ?_,fun b o hb q => ?_⟩ y (.inr ?_)
 ·simp only [List.mem_cons,nN_,or_false,not_or] at hb
  exact x.keep b o (by simpa using hb.1) hf ((zu hb.2).trans q)
 ·exact x.slot b o hb ((zu fun (z:b=T)=>nf (z▸hb)).trans q)
 ·by_cases e2:T'=T
  ·subst e2
   obtain ⟨_,_,q,_⟩:=vC hT hdT z3
   have z':(s.heap.update T' vB).get? T'=none:=z
   rw [q] at z';cases z'
  ·exact (zu e2).symm.trans z
theorem qeb {base:Heap} {env:PySem.Env} {outer:List PySem.Env} {L e T:Addr} {cls:Value} {Q:Unit->Shared->Prop} (hfr:A.frames=some (env::outer)) (hl:s.heap.FunFrames base (env::outer)) (hf:env.frame=some L) (F:qa7 s.heap e T cls)
  (k:∀ h' T',Lft s.heap h' [e,T] (frs (env::outer))->qa7 h' e T' cls->(T'=T\/s.heap.get? T'=none)->Q () { s with heap:=h' }):wpAny M A (leaving env (.ref e)) Q E s:=by
 unfold leaving
 exact wpAny_bind (qbZ hfr hl hf F k)
theorem qec {base h:Heap} {env:PySem.Env} {outer:List PySem.Env} {L e:Addr} {cls:Value} {args:List Value} {Q:Unit->Shared->Prop} (hfr:A.frames=some (env::outer)) (hl:h.FunFrames base (env::outer)) (hf:env.frame=some L) (hx:Heap.MadeExcOf h s.heap e cls args)
  (k:∀ h' T',Lft s.heap h' [e] (frs (env::outer))->qa7 h' e T' cls->s.heap.get? T'=none->Q () { s with heap:=h' }):wpAny M A (leaving env (.ref e)) Q E s:=by
 obtain ⟨t,he,htn,ht⟩:=hx.there
 have hl1:s.heap.FunFrames base (env::outer):=hl.of_keeps fun b o q _=>⟨o,hx.keeps b o q,rfl⟩
 unfold leaving noteFrame
 simp only [hf]
 refine wpAny_bind (wpAny_bind (wpAny_field he rfl (x := .none) rfl ?_))
 rw [if_neg (by decide)]
 exact qdg hfr hl1 hf he rfl (of_decide_eq_true rfl) rfl rfl k
theorem qed {base:Heap} {l:List PySem.Env} {e T:Addr} {cls:Value} {Q:Unit->Shared->Prop} (hl:s.heap.FunFrames base l) (F:qa7 s.heap e T cls)
  (k:∀ h' T',Lft s.heap h' [e,T] (frs l)->qa7 h' e T' cls->(T'=T\/s.heap.get? T'=none)->Q () { s with heap:=h' }) :
  wpAny M A (setFlight (.ref e) none) Q E s:=by
 obtain ⟨oe,vs,oT,ts,a0,he,hc,hd,h1,hne,hT,hdT,h3⟩:=F
 have z3:3<ts.size:=(Array.getElem?_eq_some_iff.mp h3).1
 have nf:=qjJ hl hT hdT
 refine qdf he hd h1 hT hdT z3 ?_
 obtain ⟨o2,t2,q1,q2,q3⟩:=vC hT hdT z3
 refine k _ T ⟨fun b o hb _ q => ?_,fun b o hb q=>⟨o.slots,(zu fun (z:b=T)=>nf (z▸hb)).trans q⟩⟩ ⟨oe,vs,o2,t2,a0,(zu (Ne.symm hne)).trans he,hc,hd,h1,hne,q1,q2,q3⟩ (.inl rfl)
 simp only [List.mem_cons,nN_,or_false,not_or] at hb
 exact (zu hb.2).trans q
end
theorem qin {P:Program} {w:World} {H:Hp} {h h':Heap} (x:HOk P w H h) (k:∀ b o,(H b).isSome=true->h.get? b=some o->h'.get? b=some o):HOk P w H h':=fun a o e =>
 (x a o e).stay (fun b u hb q=>k b u (by
   rcases hb with rfl | hb;· rw [e];rfl
   ·rw [hb];rfl) q) (fun _ z=>z) fun _ _ z=>z
theorem yI {P:Program} {w:World} {H:Hp} {h:Heap} {a:Addr} {o:HO} (x:j8 P w H h a o):∃ u,h.get? a=some u:=by
 cases o with
 | lst xs=>obtain ⟨_,_,_,_,e⟩:=x;exact ⟨_,e⟩
 | tup xs=>obtain ⟨_,_,_,ob,e,_⟩:=x;exact ⟨_,e⟩
 | dK kvs=>obtain ⟨_,_,_,_,o,_,_,e,_⟩:=x;exact ⟨_,e⟩
 | dT kvs=>obtain ⟨_,_,_,_,o,_,_,e,_⟩:=x;exact ⟨_,e⟩
 | set S n=>obtain ⟨o,_,_,_,e,_⟩:=x;exact ⟨_,e⟩
 | ins C dx fs=>obtain ⟨_,_,_,e,_⟩:=x;exact ⟨_,e⟩
 | own y=>obtain ⟨_,e⟩:=x;exact ⟨_,e⟩
 | xd fs=>obtain ⟨_,⟨_,_,_,e,_⟩,_⟩:=x;exact ⟨_,e⟩
 | rng lo hi=>obtain ⟨_,_,_,e⟩:=x;exact ⟨_,e⟩
 | frz ob u=>obtain ⟨e,_⟩:=x;exact ⟨_,e⟩
 | tbl ps=>exact ⟨_,(show h.get? a=some _ from x)⟩
 | met f y=>exact ⟨_,(show h.get? a=some _ from x)⟩
 | ext φ=>obtain ⟨_,e,_⟩:=x;exact e
 | lam pos q=>rcases x with e | ⟨_,_,_,_,_,_,_,e⟩<;>exact ⟨_,e⟩
section
variable {X:Cx} {pins:List (Addr×Obj)} {Z:St} {H:Hp} {s:Shared}
theorem qdh {H':Hp} {s':Shared} {h':Heap} {ch:List Addr} (I:Inv X pins Z H s) (hs:X.stack=X.env::X.outer) (hf:X.env.frame=some X.env.locals) (hex:X.ex=[])
  (u:Un (frs X.stack) [] H H' s.heap s'.heap) (hok:HOk X.prog X.w H' s'.heap) (hch:∀ b∈ch,H' b=none) (hchn:∀ b∈ch,s.heap.get? b=none) (x:Lft s'.heap h' ch (frs X.stack)) :
  Un (frs X.outer) [] X.H₀ H' X.s₀.heap h'/\HOk X.prog X.w H' h':=by
 have hfs:frs X.stack=X.env.locals::frs X.outer:=by rw [hs];unfold frs;rw [List.filterMap_cons,hf]
 have hb:=I.base
 rw [hex] at hb
 have nL:∀ b o,X.s₀.heap.get? b=some o->b≠X.env.locals:=fun b o q z=>absurd (Nat.lt_of_lt_of_le (Heap.lt_size q) (z▸I.ok.above)) (Nat.lt_irrefl _)
 have nch:∀ b o,X.s₀.heap.get? b=some o->b ∉ ch:=fun b o q z=>by
  obtain ⟨o',q'⟩:=hb.there b o q (by simp)
  rw [hchn b z] at q';cases q'
 have nfs:∀ b o,X.s₀.heap.get? b=some o->b ∉ frs X.outer->b ∉ frs X.stack:=fun b o q z y=>by
  rw [hfs] at y
  exact (List.mem_cons.mp y).elim (nL b o q) z
 have yfs:∀ b,b∈frs X.outer->b∈frs X.stack:=fun b z=>by rw [hfs];exact mM _ z
 refine ⟨⟨fun b o q n hb1 _ => ?_,fun b o q n hb1 _ => ?_,fun b o q n _ => ?_,fun b o q _ => ?_,fun b xs q=>u.tups b xs (hb.tups b xs q),fun b o v q=>u.frzs b o v (hb.frzs b o v q),fun b ps y q=>u.tbls b ps y (hb.tbls b ps y q)⟩,?_⟩
 ·exact x.keep b o (nch b o q) (nfs b o q hb1) (u.keep b o (hb.keep b o q n hb1 (by simp)) (hb.free b o q n (by simp)) (nfs b o q hb1) (by simp))
 ·obtain ⟨sl,q1⟩:=hb.slot b o q n hb1 (by simp)
  obtain ⟨sl2,q2⟩:=u.slot b _ q1 (hb.free b o q n (by simp)) (yfs b hb1) (by simp)
  obtain ⟨sl3,q3⟩:=x.slot b _ (yfs b hb1) q2
  exact ⟨sl3,q3⟩
 ·obtain ⟨o',q'⟩:=hb.there b o q (by simp)
  exact u.free b o' q' (hb.free b o q n (by simp)) (by simp)
 ·obtain ⟨o1,q1⟩:=hb.there b o q (by simp)
  obtain ⟨o2,q2⟩:=u.there b o1 q1 (by simp)
  by_cases hb1:b∈frs X.stack
  ·obtain ⟨sl,q3⟩:=x.slot b o2 hb1 q2
   exact ⟨_,q3⟩
  ·exact ⟨o2,x.keep b o2 (nch b o q) hb1 q2⟩
 ·refine qin hok fun b o hb1 q=>x.keep b o (fun z => ?_) (fun z => ?_) q
  ·rw [hch b z] at hb1;cases hb1
  ·obtain ⟨_,o1,ho1,_⟩:=I.stack.mem z
   rw [u.free b o1 ho1 (I.stkFree b z) (by simp)] at hb1
   cases hb1
theorem qjK {s':Shared} {E:XK} {u:Value} {A:Around} (I:Inv X pins Z H s) (hs:X.stack=X.env::X.outer) (hf:X.env.frame=some X.env.locals) (hex:X.ex=[]) (hA:A.frames=some X.stack) (x:CX1 X.prog X.w X.stack H s E u s') {E':Value->Shared->Prop} :
  wpAny (model X.prog X.w) A (leaving X.env u) (fun _ s''=>CX1 X.prog X.w X.outer X.H₀ X.s₀ E u s'') E' s':=by
 obtain ⟨e,T,C,H',rfl,os,bare,un,hok,he,hT,hHe,hHT,F,q⟩:=x
 have hl:s'.heap.FunFrames X.base X.stack:=by
  have h0:=I.stack
  have all:∀ (l:List PySem.Env),(∀ b∈frs l,b∈frs X.stack)->s.heap.FunFrames X.base l->s'.heap.FunFrames X.base l:=by
   intro l
   induction l with
   | nil=>intro _ _;trivial
   | cons env r ih =>
    intro hss hl
    obtain ⟨hk,⟨L,o,hf',hn,ho,hd⟩,hr⟩:=hl
    have hfr:frs (env::r)=L::frs r:=by unfold frs;rw [List.filterMap_cons,hf']
    rw [hfr] at hss
    have hL:=hss L mS_
    obtain ⟨sl,e⟩:=un.slot L o ho (I.stkFree L hL) hL (by simp)
    exact ⟨hk,⟨L,_,hf',hn,e,hd⟩,ih (fun b hb=>hss b (mM _ hb)) hr⟩
  exact all X.stack (fun _ z=>z) h0
 rw [hs] at hl hA
 refine qeb hA hl hf F fun h' T' y1 y2 y3 => ?_
 rw [<- hs] at y1
 have hz:∀ b∈[e,T],H' b=none:=fun b hb=>by
  simp only [List.mem_cons,nN_,or_false] at hb
  rcases hb with rfl | rfl
  ·exact hHe
  ·exact hHT
 have hzn:∀ b∈[e,T],s.heap.get? b=none:=fun b hb=>by
  simp only [List.mem_cons,nN_,or_false] at hb
  rcases hb with rfl | rfl
  ·exact he
  ·exact hT
 obtain ⟨z1,z2⟩:=qdh I hs hf hex un hok hz hzn y1
 have up:∀ b,s.heap.get? b=none->X.s₀.heap.get? b=none:=fun b hb=>by
  cases q:X.s₀.heap.get? b with
  | none=>rfl
  | some o =>
   obtain ⟨o',q'⟩:=I.base.there b o q (by rw [hex];simp)
   rw [hb] at q';cases q'
 have up':∀ b,s'.heap.get? b=none->s.heap.get? b=none:=fun b hb=>by
  cases q:s.heap.get? b with
  | none=>rfl
  | some o =>
   obtain ⟨o',q'⟩:=un.there b o q (by simp)
   rw [hb] at q';cases q'
 have hT2:s.heap.get? T'=none:=y3.elim (fun z=>z▸hT) (up' T')
 have hHT2:H' T'=none:=y3.elim (fun z=>z▸hHT) fun z=>by
  cases q:H' T' with
  | none=>rfl
  | some o =>
   obtain ⟨o',q'⟩:=yI (hok _ _ q)
   rw [z] at q';cases q'
 exact ⟨e,T',C,H',rfl,os.trans I.os,bare,z1,z2,up e he,up T' hT2,hHe,hHT2,y2,q⟩
end
structure XC (base:Heap) (C:Addr) (bm:List Value):Prop where
 hasBase:bm.contains (.type "BaseException")=true
 ex:∃ nm q N bs hdct sn sub ab col dd k0 k1 k2 k3 k5 newId initId B bmB mN,base.get? C=some (excClassObj nm q C N bs bm hdct sn sub ab col dd k0 k1 k2 k3 k5 newId)/\base.Ns N mN/\mN "__init__"=none/\OwnTail base bmB bm/\ExcBaseFacts B newId initId bmB
def qcC (n p:Nat) (body:MS) (ds:List D):R D:=if ds.length=p then match body (jJ n ds) with
 | .ok (.rt d _) => .ok d
 | .ok (.nx _) => .ok .non
 | .exc x U => .exc x U
 | _ => .bad else .bad
section
variable {X:Cx} {c:Fc} {e:Expr} {es:List Expr} {pos cpos np:Pos}
theorem qhb {x:Str} {C:Addr} {bm:List Value} {t:TA} {E:XK} (hc:X.calm=true) (hg:Gl X x) (hm:X.mg x=some (.ref C)) (xc:XC X.base C bm) (ha:PA X (e::es) t)
  (made:∀ pins Z H s h' a us,Inv X pins Z H s->Heap.MadeExcOf s.heap h' a (.ref C) us->E (.ref C) none H->X.xe (.ref a) { s with heap:=h' })
  (hd:(x==("__debug__":Str))=false:=by decide) (he:starEach (e::es) X.env=(false,eval e X.env)::starEach es X.env:=by rfl) (hpl:(backTo cpos (starEach es X.env)).any (·.1)=false:=by rfl) :
  PS X (.Raise (some (.Call (.Name x np) (e::es) [] cpos)) none pos) (fun _ Z H=>t Z H fun vs H1=>vs.length<=sizeLine/\E (.ref C) none H1):=by
 intro pins s Z H D I h
 obtain ⟨nm,q,N,bs,hdct,sn,sub,ab,col,dd,k0,k1,k2,k3,k5,newId,initId,B,bmB,mN,hC,hN,hni,T,FB⟩:=xc.ex
 refine wpAny_Raise_call_subT (C:=C) (nm:=nm) (q:=q) (N:=N) (bs:=bs) (bm:=bm) (hdct:=hdct) (sn:=sn) (sub:=sub) (ab:=ab) (col:=col) (dd:=dd) (k0:=k0) (k1:=k1) (k2:=k2) (k3:=k3) (k5:=k5)
  FB (mN:=mN) xc.hasBase (I.ok.hd hc) (by rw [he];show (false||(backTo cpos (starEach es X.env)).any (·.1))=false;rw [hpl];rfl) hni ?_
 have hn:PE X (.Name x np) (fun _ H Q=>Q (.ref C) H):=qaQ hg hm rfl hd
 refine thn (hn pins s Z H (fun v H1=>v = .ref C/\H1=H) I ⟨rfl,rfl⟩) fun f s1 h1 => ?_
 obtain ⟨v,H1,I1,rv,rfl,rfl⟩:=h1
 refine ⟨rv,?_⟩
 have h2:=ha cpos pins s1 Z _ _ I1 h
 rw [he] at h2 |-
 refine Calls.evalArgs_plain (thn h2 fun vs s2 h3 => ?_)
 obtain ⟨ws,H2,I2,r2,hl,hE⟩:=h3
 refine ⟨rfl,by rw [<- r2.length];exact hl,I2.bk _ _ hC,hN.keeps I2.bk,T.keeps I2.bk,fun h' a hx=>made pins Z H2 s2 h' a vs I2 hx hE⟩
structure XL (X:Cx) (c:Fc) (cl:Str->Option Addr) (E:XK):Prop where
 made:∀ C pins Z H s h' a us,Inv X pins Z H s->Heap.MadeExcOf s.heap h' a (.ref C) us->E (.ref C) none H->X.xe (.ref a) { s with heap:=h' }
 pass:wc (CX1 X.prog X.w) X E
 wish:∀ x C H',cl x.cls=some C->c.E x H'->E (.ref C) none H'
structure XL2 (X:Cx) (c:Fc) (cl:Str->Option Addr) (E:XK):Prop where
 pass:wc (CX1 X.prog X.w) X E
 wish:∀ x C H',cl x.cls=some C->c.E x H'->E (.ref C) none H'
theorem XL.two {X:Cx} {c:Fc} {cl:Str->Option Addr} {E:XK} (L:XL X c cl E):XL2 X c cl E:=⟨L.pass,L.wish⟩
def qb0 (x:Str) (f:M (List D)):MS:=fun U=>match f U with
 | .ok (ds,U')=>if qM ds.length then .exc ⟨x,.non⟩ U' else .bad
 | .exc z U' => .exc z U'
 | .bad => .bad
theorem qdi {x:Str} {C:Addr} {bm:List Value} {f:M (List D)} {E:XK} {cl:Str->Option Addr} (hc:X.calm=true) (L:XL X c cl E) (hcl:cl x=some C) (hg:Gl X x) (hm:X.mg x=some (.ref C)) (xc:XC X.base C bm) (ha:DA X c (e::es) f)
  (hd:(x==("__debug__":Str))=false:=by decide) (he:starEach (e::es) X.env=(false,eval e X.env)::starEach es X.env:=by rfl) (hpl:(backTo cpos (starEach es X.env)).any (·.1)=false:=by rfl) :
  DS X c (.Raise (some (.Call (.Name x np) (e::es) [] cpos)) none pos) (qb0 x f):=by
 obtain ⟨t,pa,w⟩:=ha
 refine ⟨_,qhb (E:=E) hc hg hm xc pa (L.made C) hd he hpl,fun U Z H D r h=>w U Z H _ r ?_⟩
 unfold qb0 at h
 cases ef:f U with
 | bad=>rw [ef] at h;exact h
 | exc z U'=>rw [ef] at h;exact fun H' r' g'=>h Z H' r' g'.s
 | ok p =>
  obtain ⟨ds,U'⟩:=p
  rw [ef] at h
  intro vs H' r' i' g'
  by_cases hs:qM ds.length=true
  ·simp only [hs,if_true] at h
   exact ⟨by rw [i'.length];exact of_decide_eq_true hs,L.wish ⟨x,.non⟩ C H' hcl (h Z H' r' g'.s)⟩
  ·simp only [hs] at h
   exact h.elim
def spX (K:Fr0) (cl:Str->Option Addr) (F:List D->R D):Sp:=fun vs H Q E=>∃ ds A,IsL K A H ds vs/\qbJ K H/\match F ds with
 | .ok d=>∀ v H',zD H H'->Is K (fun a=>A a\/H a=none) H' d v->Q v H'
 | .exc x _=>∃ C,cl x.cls=some C/\∀ H',zD H H'->E (.ref C) none H'
 | .bad=>False
def u7 (RN:List Str) (F:List D->R D) (g:M (List D)):M D:=bnd g fun ds U=>match F ds with
 | .ok d => .ok (d,U)
 | .exc x _=>if RN.contains x.cls then .exc x U else .bad
 | .bad => .bad
theorem qhc {k:Nat} {f:Addr} {fd:FuncData} {ps:List Str} {F:List D->R D} {x:Str} {p:Pos} {g:M (List D)} {E:XK} {cl:Str->Option Addr} (L:XL2 X c cl E) {RN:List Str} (hcl:∀ n,RN.contains n=true->(cl n).isSome=true)
  (G:uQ X.prog X.w X.K X.mg X.base (CX1 X.prog X.w) k f fd ps (spX X.K cl F)) (hr:jA k X.A) (hg:Gl X x) (hm:X.mg x=some (.ref f)) (hk:PySem.W.keepIn X.K (.ref f)=true) (hb:ua X.K fd ps [])
  (ha:DA X c (e::es) g) (hd:(x==("__debug__":Str))=false:=by decide) (he:starEach (e::es) X.env=(false,eval e X.env)::starEach es X.env:=by rfl) (hpl:(backTo pos (starEach es X.env)).any (·.1)=false:=by rfl):DE X c (.Call (.Name x p) (e::es) [] pos) (u7 RN F g):=by
 obtain ⟨t,pa,w⟩:=ha
 refine ⟨_,vt G hr hg hm hk hb .nil L.pass pa hd he hpl,fun U Z H Q r h=>w U Z H _ r (WpL.bnd h fun ds U1 vs H1 r1 i1 g1 h1 => ?_)⟩
 rw [List.append_nil]
 refine ⟨ds,Cn c Z,i1,r1.tb,?_⟩
 cases ef:F ds with
 | bad=>simp only [ef] at h1;exact h1.elim
 | exc z U' =>
  simp only [ef] at h1
  by_cases hz:RN.contains z.cls=true
  case neg=>rw [if_neg hz] at h1;exact h1.elim
  rw [if_pos hz] at h1
  obtain ⟨C,hC⟩:=Option.isSome_iff_exists.mp (hcl z.cls hz)
  exact ⟨C,hC,fun H' sm=>L.wish z C H' hC (h1 H' (r1.same sm) (.of_same sm))⟩
 | ok d =>
  simp only [ef] at h1
  exact fun v H' sm i=>h1 v H' (r1.same sm) (Is.ext Ext.refl (fun a ha _=>ha.elim id r1.new) i) (.of_same sm)
def qdj (F:List D->R D) (g:M (List D)):M D:=bnd g fun ds U=>match F ds with
 | .ok d => .ok (d,U)
 | _ => .bad
theorem qhd {k:Nat} {f:Addr} {fd:FuncData} {ps:List Str} {F:List D->R D} {x:Str} {p:Pos} {g:M (List D)} {cl:Str->Option Addr}
  (G:uQ X.prog X.w X.K X.mg X.base (CX1 X.prog X.w) k f fd ps (spX X.K cl F)) (hr:jA k X.A) (hg:Gl X x) (hm:X.mg x=some (.ref f)) (hk:PySem.W.keepIn X.K (.ref f)=true) (hb:ua X.K fd ps [])
  (ha:DA X c (e::es) g) (hd:(x==("__debug__":Str))=false:=by decide) (he:starEach (e::es) X.env=(false,eval e X.env)::starEach es X.env:=by rfl) (hpl:(backTo pos (starEach es X.env)).any (·.1)=false:=by rfl):DE X c (.Call (.Name x p) (e::es) [] pos) (qdj F g):=by
 obtain ⟨t,pa,w⟩:=ha
 refine ⟨_,vt (E:=fun _ _ _=>False) G hr hg hm hk hb .nil (fun _ _ _ _ _ _ _ ⟨_,_,_,_,_,_,_,_,_,_,_,_,_,_,z⟩=>z.elim) pa hd he hpl,fun U Z H Q r h=>w U Z H _ r (WpL.bnd h fun ds U1 vs H1 r1 i1 g1 h1 => ?_)⟩
 rw [List.append_nil]
 refine ⟨ds,Cn c Z,i1,r1.tb,?_⟩
 cases ef:F ds with
 | bad=>simp only [ef] at h1;exact h1.elim
 | exc z U'=>simp only [ef] at h1;exact h1.elim
 | ok d =>
  simp only [ef] at h1
  exact fun v H' sm i=>h1 v H' (r1.same sm) (Is.ext Ext.refl (fun a ha _=>ha.elim id r1.new) i) (.of_same sm)
end
section
variable {P:Program} {w:World} {K:PySem.W.Frag} {mg:Str->Option Value} {base:Heap}
theorem qfB {N:List Str} {qual:Str} {scope:Scope} {f:Addr} {cdv:Value} {A:Around} {outer:List PySem.Env} {s:Shared} {H:Hp} {E:XK} {c:Fc} {cl:Str->Option Addr} (hf:(envOfC qual scope s.heap.objs.size f cdv).frame=some s.heap.objs.size)
  (hw:∀ x C H',cl x.cls=some C->c.E x H'->E (.ref C) none H'):XL (qgr (CX1 P w) P w K mg base N qual scope f cdv A outer s H E) c cl E where
 made:=fun C pins Z H1 s1 h' a us I hx hE=>by
  show wpAny (model P w) _ (leaving _ (.ref a)) _ _ _
  refine qec (s:={ s1 with heap:=h' }) (h:=s1.heap) (base:=base) I.ok.frames I.stack hf hx fun h2 T' y1 y2 y3 => ?_
  have hn:H1 a=none:=by
   cases q:H1 a with
   | none=>rfl
   | some o =>
    obtain ⟨o',q'⟩:=yI (I.hok _ _ q)
    rw [hx.new] at q';cases q'
  have hT:s1.heap.get? T'=none:=by
   cases q:s1.heap.get? T' with
   | none=>rfl
   | some o=>rw [show ({ s1 with heap:=h' }:Shared).heap.get? T'=some o from hx.keeps _ _ q] at y3;cases y3
  have hHT:H1 T'=none:=by
   cases q:H1 T' with
   | none=>rfl
   | some o =>
    obtain ⟨o',q'⟩:=yI (I.hok _ _ q)
    rw [hT] at q';cases q'
  have up:∀ b,s1.heap.get? b=none->s.heap.get? b=none:=fun b hb=>by
   cases q:s.heap.get? b with
   | none=>rfl
   | some o =>
    obtain ⟨o',q'⟩:=I.base.there b o q (by show b ∉ ([]:List Addr);simp)
    rw [hb] at q';cases q'
  obtain ⟨z1,z2⟩:=qdh (s':={ s1 with heap:=h' }) I rfl hf rfl (Un.kept hx.keeps) (I.hok.kept hx.keeps) (fun b hb=>by rw [ms_] at hb;subst hb;exact hn) (fun b hb=>by rw [ms_] at hb;subst hb;exact hx.new) y1
  exact ⟨a,T',C,H1,rfl,I.os,I.bare,z1,z2,up a hx.new,up T' hT,hn,hHT,y2,hE⟩
 pass:=fun pins Z H1 s1 u s' I x=>qjK I rfl hf rfl I.ok.frames x
 wish:=hw
theorem qfC {x qual:Str} {st:Stmt} {f:Addr} {fd:FuncData} {N ps:List Str} {k:Nat} {O:List Nat} {body:MS} {cl:Str->Option Addr} (F:Fun K x qual st f fd) (S:qy N ps (qd st)) (hO:∀ i∈O,ps.length<=i)
  (hb:∀ (cdv:Value) (A:Around) (outer:List PySem.Env) (s:Shared) (H:Hp) (E:XK) (B:Addr->Prop),jA k (A.deeper (envOfC qual (qd st) s.heap.objs.size f cdv)) ->
   DSs (qgr (CX1 P w) P w K mg base N qual (qd st) f cdv A outer s H E) (cfn O [] B H (fun _=>False) (fun x H'=>∀ C,cl x.cls=some C->E (.ref C) none H') fun _=>none) (qx st) body) :
  uQ P w K mg base (CX1 P w) (k+1) f fd ps (spX K cl (qcC N.length ps.length body)):=by
 obtain ⟨oc,od,kV,doc,pm,an,cdv,ct,osl,rfl,lk,hcd⟩:=F.ex
 refine qkS lk hcd S (fun vs H Q E h => ?_) fun A outer s H vs Q E hr h => ?_
 ·obtain ⟨ds,B,il,_,h⟩:=h
  unfold qcC at h
  by_cases e:ds.length=ps.length
  ·rw [il.length];exact e
  ·rw [if_neg e] at h;exact h.elim
 ·obtain ⟨ds,B,il,tb,h⟩:=h
  obtain ⟨t,p,wt⟩:=hb cdv A outer s H E B hr
  refine ⟨t,p,?_⟩
  unfold qcC at h
  by_cases e:ds.length=ps.length
  ·rw [if_pos e] at h
   refine wt (jJ N.length ds) (zP N vs) H _ (wE il tb (fun i hi=>by rw [e];exact hO i hi)) ?_
   have same:∀ {U:Env} {Z:St} {H':Hp},Rep K (cfn O [] B H (fun _=>False) (fun x H'=>∀ C,cl x.cls=some C->E (.ref C) none H') fun _=>none) U Z H'->zD H H':=fun r b o hb=>r.kp b o hb fun z=>z
   cases eb:body (jJ N.length ds) with
   | bad=>rw [eb] at h;exact h.elim
   | exc z U =>
    rw [eb] at h
    obtain ⟨C,hC,h⟩:=h
    exact fun Z' H' r' _ C' hC'=>by
     rw [hC] at hC';cases hC'
     exact h H' (same r')
   | ok fl =>
    rw [eb] at h
    cases fl with
    | nx U=>exact fun Z' H' r' _=>h .non H' (same r') rfl
    | rt d U=>exact fun v Z' H' r' i' _=>h v H' (same r') i'
    | bk U=>exact h.elim
    | ct U=>exact h.elim
  ·rw [if_neg e] at h;exact h.elim
structure wN (P:Program) (w:World) (K:PySem.W.Frag) (mg:Str->Option Value) (base:Heap) (k:Nat) (x:Str) (ps:List Str) (sp:Sp):Prop where
 ex:∃ f fd,uQ P w K mg base (CX1 P w) k f fd ps sp/\mg x=some (.ref f)/\PySem.W.keepIn K (.ref f)=true/\ua K fd ps []
end
section
variable {M:Model} {A:Around} {E:Value->Shared->Prop}
variable {nm q nm' q':Str} {C S N N':Addr} {bs bm bs' bm':List Value} {hdct hdct':Bool} {sn sn':List Str} {sub sub':List Value} {ab ab':Bool} {col col':Option Bool} {dd dd':Option Addr} {k0 k1 k2 k3 k5 j0 j1 j2 j3 j5:Option Value} {newId newId':String}
theorem qaf {h:Heap} {g:Array GenState} {d:Drawn} {t:Nat} {os:OsState} {e:Addr} {oe:Obj} {Q:Bool->Shared->Prop}
  (hC:h.get? C=some (excClassObj nm q C N bs bm hdct sn sub ab col dd k0 k1 k2 k3 k5 newId)) (hS:h.get? S=some (excClassObj nm' q' S N' bs' bm' hdct' sn' sub' ab' col' dd' j0 j1 j2 j3 j5 newId'))
  (he:h.get? e=some oe) (hcls:oe.cls = .ref C) (hbase:bm'.contains (.type "BaseException")=true)
  (hq:Q ((Value.ref C::bm).contains (.ref S)) ⟨h,g,d,t,os⟩):wpAny M A (excMatches (.ref e) (.ref S)) Q E ⟨h,g,d,t,os⟩:=by
 have hcB:(Value.ref S::bm').contains (.type "BaseException")=true:=by rw [List.contains_cons,hbase,Bool.or_true]
 have f:=tc_notTuple
 unfold excMatches
 repeat (first | (with_reducible refine wpAny_loadPart_at he ?_;rw [hcls]) | with_reducible refine wpAny_loadPart_at hS ?_ | (with_reducible refine wpAny_isSubtype_exc hS ?_;rw [hcB]) | with_reducible refine wpAny_isSubtype_exc hC ?_ | wp_step)
 all_goals (first | exact hq | (cases hb:(Value.ref C::bm).contains (.ref S)<;>(rw [hb] at hq;wp_walk;exact hq)))
end
end L2.Sk
namespace L2
open PySem PySem.Spec PyProof.Rows
def AloneA (A:Around) (H:Hp):Prop:=∃ e oe u vs,A.handled=some (.ref e)/\H e=some (.frz oe u)/\oe.data = .fields vs/\vs[2]? = some .none
def qlE (A:Around) (sp:Sp) (dvs:List V) (E:XK) (t:TA):TE:=fun Z H Q=>t Z H fun vs H1=>AloneA A H1/\sp (vs++dvs) H1 Q E
structure uh (k:Nat) (A:Around):Prop where
 dp:A.depth+3*k+5<recursionLimit
 un:A.units+16*k+200<cLine
 gd:A.guards=some []
theorem uh.mono {j k:Nat} {A:Around} (r:uh k A) (h:j<=k):uh j A:=⟨by have:=r.dp;omega,by have:=r.un;omega,r.gd⟩
theorem uh.deeper {k:Nat} {A:Around} (r:uh (k+1) A) (env:Env):uh k (A.deeper env) :=
 ⟨by have:=r.dp;show A.depth+1+3*k+5<_;omega,by have:=r.un;show A.units+3+16*k+200<_;omega,r.gd⟩
theorem uh.depth {k:Nat} {A:Around} (r:uh k A):A.depth<recursionLimit:=by have:=r.dp;omega
structure qb1 (P:Program) (w:World) (K:PySem.W.Frag) (mg:Str->Option Value) (base:Heap) (CX:CXT) (k:Nat) (f:Addr) (fd:FuncData) (ps:List Str) (sp:Sp):Prop where
 len:∀ vs H Q E,sp vs H Q E->vs.length=ps.length
 run:∀ (A:Around) (outer:List Env) (s:Shared) (H:Hp) (args:Args) (us:List Value) (vs:List V) (Q:VK) (E:XK),uh k A->AloneA A H->qgq P w K mg base A outer s H->BindsTo s fd args (ps.zip us)->qT vs us->sp vs H Q E ->
  codeAny (model P w) A (.call (.ref f) args) (CR CX outer P w H s Q E) s
def qee (CX:CXT) (P:Program) (w:World) (K:PySem.W.Frag) (mg:Str->Option Value) (base:Heap) (N:List Str) (qual:Str) (scope:Scope) (f:Addr) (cd:Value) (A:Around) (outer:List Env) (s:Shared) (H:Hp) (E:XK):Cx where
 prog:=P
 w:=w
 K:=K
 mg:=mg
 base:=base
 A:=A.deeper (envOfC qual scope s.heap.objs.size f cd)
 N:=N
 s₀:=s
 H₀:=H
 env:=envOfC qual scope s.heap.objs.size f cd
 outer:=outer
 stack:=envOfC qual scope s.heap.objs.size f cd::outer
 ex:=[]
 calm:=false
 fn:=fun _=>true
 pn:=[]
 xe:=fun e s'=>wpAny (model P w) (A.deeper (envOfC qual scope s.heap.objs.size f cd)) (leaving (envOfC qual scope s.heap.objs.size f cd) e) (fun _ s''=>CX outer H s E e s'') (fun e' s''=>CX outer H s E e' s'') s'
theorem qef {CX:CXT} {P:Program} {w:World} {K:PySem.W.Frag} {mg:Str->Option Value} {base:Heap} {N ps:List Str} {qual:Str} {scope:Scope} {f:Addr} {cd:Value} {A:Around} {outer:List Env} {s s1:Shared} {H:Hp} {E:XK} {us:List Value} {vs:List V}
  (S:qy N ps scope) (e0:qgq P w K mg base A outer s H) (hl:vs.length=ps.length) (r:qT vs us)
  (x:InCallC s s.heap.objs.size (bindL (envOfC qual scope s.heap.objs.size f cd).kindOf (ps.zip us) fun _=>none) (cellsFrom (s.heap.objs.size+1) scope.names []) (bindC (envOfC qual scope s.heap.objs.size f cd).kindOf (ps.zip us) fun _=>none) s1) :
  Inv (qee CX P w K mg base N qual scope f cd A outer s H E) [] (zP N vs) H s1:=by
 have hpl:ps.length<=N.length:=by have:=congrArg List.length S.pre;rw [List.length_take] at this;omega
 obtain ⟨h1,tk,rfl,hk⟩:=x.done
 have noA:∀ b:Addr,b ∉ (qee CX P w K mg base N qual scope f cd A outer s H E).ex:=fun b z=>absurd (show b∈([]:List Addr) from z) (by simp)
 refine ⟨⟨e0.mod,S.kind,rfl,rfl,Nat.le_refl _,fun y z c h1 h2 => ?_,fun y hy => ?_,fun y c _ h => ?_,(fun z=>Bool.noConfusion z),Around.frames_deeper e0.frames,.inr ⟨rfl,rfl⟩,fun b z=>absurd z (noA b),e0.bs,e0.bsz,fun b _ _=>noA b,fun b z=>absurd z (noA b),e0.funs,e0.frf⟩,
  rfl,e0.bare,Un.kept hk,⟨_,x.toInCall.ns,fun i y v h1 h2 h3 => ?_⟩,fun y c h=>⟨_,x.cell y c h⟩,e0.hok.fresh (Nat.le_refl _),fun y c h => ?_,fun p hp=>absurd (show p∈([]:List (Addr×Obj)) from hp) (by simp),e0.hok.kept hk,?_⟩
 ·exact name_of_addr x.apart (PySem.mem_of_lookup h1) (PySem.mem_of_lookup h2)
 ·have hy:scope.names.lookup y=some .cell\/scope.names.lookup y=some .free:=hy
  rcases hy with hy | hy
  ·exact v0 hy
  ·exact absurd rfl (S.nofree _ (PySem.mem_of_lookup hy))
 ·exact Nat.le_of_lt (x.above y c (PySem.mem_of_lookup h))
 ·have hi:i<vs.length:=by
   unfold zP at h2
   by_cases hi:i<vs.length
   ·exact hi
   ·rw [List.getElem?_append_right (by simpa using hi)] at h2
    rw [List.getElem?_replicate] at h2
    split at h2<;>cases h2
  have ha:vs[i]? = some v:=by
   unfold zP at h2
   rw [List.getElem?_append_left (by simpa using hi),gM_] at h2
   cases e:vs[i]? with
   | none=>rw [e] at h2;cases h2
   | some a=>rw [e] at h2;cases h2;rfl
  obtain ⟨u,hu,rv⟩:=r.get ha
  have hp:ps[i]? = some y:=by
   rw [<- S.pre,List.getElem?_take_of_lt (by omega)];exact h1
  have ndP:ps.Nodup:=by rw [<- S.pre];exact S.nd.sublist (List.take_sublist _ _)
  refine ⟨u,rv,?_⟩
  rcases S.par y (List.mem_of_getElem? hp) with k | k
  ·exact .inl ⟨k,wd ndP hp hu k⟩
  ·obtain ⟨c,e⟩:=v0 (n:=s.heap.objs.size+1) k
   refine .inr ⟨.inl k,c,e,?_⟩
   have q:=x.cell y c e
   rw [wf ndP hp hu (by show scope.names.lookup y≠_;rw [k];decide)] at q
   exact q
 ·exact e0.hok.fresh (Nat.le_of_lt (x.above y c (PySem.mem_of_lookup h)))
 ·unfold zP
  show _=N.length
  rw [lA_,lM_,List.length_replicate]
  omega
theorem qlF {CX:CXT} {P:Program} {w:World} {K:PySem.W.Frag} {mg:Str->Option Value} {base:Heap} {k:Nat} {f:Addr} {name qual:Str} {params:Arguments} {body:List Stmt} {scope:Scope} {dV kV doc pm cdv ct oc:Value} {an od:Option Addr}
  {osl:Array (Option Value)} {N ps:List Str} {sp:Sp} (lk:K.lookup f=some ⟨oc,od,.func (PySem.W.fnOf name qual params body scope dV kV doc pm an cdv ct),osl⟩) (hcd:PySem.W.codeIn K cdv qual=true) (S:qy N ps scope)
  (len:∀ vs H Q E,sp vs H Q E->vs.length=ps.length)
  (hbody:∀ (A:Around) (outer:List Env) (s:Shared) (H:Hp) (vs:List V) (Q:VK) (E:XK),uh k (A.deeper (envOfC qual scope s.heap.objs.size f cdv))->AloneA (A.deeper (envOfC qual scope s.heap.objs.size f cdv)) H->sp vs H Q E ->
   ∃ t,PSs (qee CX P w K mg base N qual scope f cdv A outer s H E) body t/\t { nx:=fun _ H'=>Q .non H',rt:=Q } (zP N vs) H) :
  qb1 P w K mg base CX (k+1) f (PySem.W.fnOf name qual params body scope dV kV doc pm an cdv ct) ps sp:=by
 refine ⟨len,fun A outer s H args us vs Q E hr al e0 hb r hsp => ?_⟩
 have hl:=len _ _ _ _ hsp
 have KX:K.In s.heap:=e0.mod.kin.keeps fun b o e=>(e0.bs b o e).1
 have lim:s.heap.NoLimit:=e0.mod.nolimit.keeps fun b o e=>(e0.bs b o e).1
 have hkind:∀ y∈ps.zip us,scope.names.lookup y.1=some .local\/(scope.names.lookup y.1=some .cell/\((cellsFrom (s.heap.objs.size+1) scope.names []).lookup y.1).isSome=true):=fun ⟨n,v⟩ hy=>by
  rcases S.par n (List.of_mem_zip hy).1 with q | q
  ·exact .inl q
  ·exact .inr ⟨q,PySem.W.cellsFrom_some _ _ _ (.inl q)⟩
 refine codeAny_call_function hr.depth (KX _ _ lk) rfl S.co S.gen rfl (PySem.W.codeRec_of KX hcd) (hb _ _ _ _ ?_)
 refine wpAny_newFunctionEnv_cells S.kind hkind fun env he s1 x => ?_
 subst he
 refine ⟨lim.keeps x.toInCall.keep,codeAny_func ?_⟩
 obtain ⟨t,ht,hq⟩:=hbody A outer s H vs Q E (hr.deeper _) al hsp
 have I:Inv (qee CX P w K mg base N qual scope f cdv A outer s H E) [] (zP N vs) H s1:=qef S e0 hl r x
 refine wpAny_mono (ht [] s1 (zP N vs) H _ I hq) (fun fl s' hs => ?_) fun e s' hs=>hs
 have fin:∀ {Z':St} {H':Hp} {v:V} {u:Value},Inv (qee CX P w K mg base N qual scope f cdv A outer s H E) [] Z' H' s'->z9 v u->Q v H'->CE outer P w H s Q u s' :=
  fun {Z' H' v u} J rv q=>⟨v,H',J.os,J.bare,J.base,J.hok,rv,q⟩
 cases fl with
 | ret u =>
  obtain ⟨v,Z',H',J,rv,q⟩:=hs
  exact fin J rv q
 | next =>
  obtain ⟨Z',H',J,q⟩:=hs
  exact fin (v:=V.non) (u:=Value.none) J rfl q
 | brk =>
  obtain ⟨_,_,_,q⟩:=hs
  exact False.elim q
 | cont =>
  obtain ⟨_,_,_,q⟩:=hs
  exact False.elim q
section
variable {X:Cx} {CX:CXT} {k:Nat} {f C:Addr} {fd:FuncData} {ps:List Str} {sp:Sp} {dvs:List V} {ds:List Value} {E:XK} {x m:Str} {p pos apos:Pos} {e o:Expr} {es:List Expr} {ta:TE} {t:TA}
theorem qjL {pins:List (Addr×Obj)} {Z:St} {H:Hp} {s:Shared} {Q:VK} {us:List Value} {vs:List V} (F:qb1 X.prog X.w X.K X.mg X.base CX k f fd ps sp) (hr:uh k X.A) (hb:ua X.K fd ps ds) (hd:qT dvs ds) (hx:wc CX X E)
  (I:Inv X pins Z H s) (r:qT vs us) (al:AloneA X.A H) (h:sp (vs++dvs) H Q E):wpAny (model X.prog X.w) X.A (call (.ref f) us) (EP X pins Z Q) X.xe s:=by
 have r2:qT (vs++dvs) (us++ds):=r.append hd
 have hl:(us++ds).length=ps.length:=by rw [<- r2.length];exact F.len _ _ _ _ h
 refine wpAny_call (codeAny_mono (F.run X.A X.stack s H ⟨us,[]⟩ (us++ds) (vs++dvs) Q E hr al I.env0 (hb s us I.kIn hl) r2 h) fun r s' hq => ?_)
 cases r with
 | error e=>exact hx pins Z H s e s' I hq
 | ok fl =>
  cases fl with
  | ret u=>exact I.after hq
  | next=>exact False.elim hq
  | brk=>exact False.elim hq
  | cont=>exact False.elim hq
theorem qdk (F:qb1 X.prog X.w X.K X.mg X.base CX k f fd ps sp) (hr:uh k X.A) (hg:Gl X x) (hm:X.mg x=some (.ref f)) (hk:PySem.W.keepIn X.K (.ref f)=true) (hb:ua X.K fd ps ds) (hd:qT dvs ds) (hx:wc CX X E)
  (ha:PA X (e::es) t) (hdb:(x==("__debug__":Str))=false:=by decide) (he:starEach (e::es) X.env=(false,eval e X.env)::starEach es X.env:=by rfl) (hpl:(backTo pos (starEach es X.env)).any (·.1)=false:=by rfl) :
  PE X (.Call (.Name x p) (e::es) [] pos) (qlE X.A sp dvs E t):=by
 intro pins s Z H Q I h
 refine wpAny_Call_Name_kw (qaP I hg hm ?_ hdb)
 refine PySem.W.callWith_K (h₀:=X.base) I.ok.mod.kin hk (thn (ha pos pins s Z H _ I h) fun us s1 ⟨vs,H1,I1,r,q⟩=>⟨I1.kIn,?_⟩) he hpl
 exact qjL F hr hb hd hx I1 r q.1 q.2
end
end L2
namespace L2.Sk
open PySem PySem.Spec PyProof.Rows
def isT (b:Bool):Value->Bool
 | .bool a=>a==b
 | _=>false
theorem vE:∀ {bs:List Bool} {us:List Value},qT (bs.map V.bl) us->us=bs.map Value.bool
 | [],_,r=>by rw [List.map_nil] at r;cases r;rfl
 | b::bs,_,r=>by
  rw [mC_] at r
  cases r with
  | cons r1 r2 =>
   have e:_=Value.bool b:=r1
   rw [e,vE r2];rfl
theorem qaC (b:Bool):∀ bs:List Bool,List.countP (isT b) (bs.map Value.bool)=bs.countP (·==b)
 | []=>rfl
 | a::bs=>by simp [List.countP_cons,qaC b bs,isT]
def qio:V->List V->Hp->VK->Prop:=fun x vs H Q=>∃ (l:Addr) (bs:List Bool) (b:Bool),x = .ref l/\vs=[.bl b]/\H l=some (.lst (bs.map V.bl))/\Q (.int (bs.countP (·==b))) H
def qip:V->List V->Hp->VK->Prop:=fun x vs H Q=>∃ (l:Addr) (bs:List Bool) (b:Bool) (j:Nat),x = .ref l/\vs=[.bl b]/\H l=some (.lst (bs.map V.bl))/\bs.findIdx? (·==b)=some j/\Q (.int j) H
section
variable {X:Cx}
theorem qhe:MtR X "list.count" qio:=by
 intro pins s Z H x vs v us Q I rx rv h
 obtain ⟨l,bs,b,rfl,rfl,hH,q⟩:=h
 cases rx
 obtain ⟨u,rfl,ru⟩:=qT.one rv
 have ru':u=Value.bool b:=ru
 subst ru'
 obtain ⟨z,its,n,r,hl,e⟩:=I.lstM hH
 have hi:=vE r
 subst hi
 refine call_meets F.slot_list_count ⟨_,e,rfl⟩ F.entry_list_count (F.args_list_count_2 _ _) (SeqAt.list_countAt l (bs.map Value.bool).toArray n none #[] (.bool b) (isT b)) ⟨e,fun y hy => ?_,?_⟩
 ·have hy':y∈bs.map Value.bool:=by simpa using hy
  obtain ⟨a,_,rfl⟩:=mP_.mp hy'
  exact SeqAt.EqAt.bool_bool a b
 ·refine ⟨.int _,H,I.tok _,⟨s.toks,?_⟩,q⟩
  show Value.int _ _=Value.int _ _
  rw [List.toList_toArray,qaC]
theorem qhf:MtR X "list.index" qip:=by
 intro pins s Z H x vs v us Q I rx rv h
 obtain ⟨l,bs,b,j,rfl,rfl,hH,hj,q⟩:=h
 cases rx
 obtain ⟨u,rfl,ru⟩:=qT.one rv
 have ru':u=Value.bool b:=ru
 subst ru'
 obtain ⟨z,its,n,r,hl,e⟩:=I.lstM hH
 have hi:=vE r
 subst hi
 rw [List.findIdx?_eq_some_iff_getElem] at hj
 obtain ⟨h1,h2,h3⟩:=hj
 have hz:bs.length<=sizeLine:=by simpa using z
 rw [sizeLine_eq] at hz
 refine call_meets F.slot_list_index ⟨_,e,rfl⟩ F.entry_list_index (F.args_list_index_2 _ _) (SeqAt.list_indexAt l (bs.map Value.bool).toArray n none #[] (.bool b) (isT b) j (by simpa using h1) (by omega) ?_ ?_) ⟨e,fun y hy => ?_,?_⟩
 ·simpa [isT] using h2
 ·intro m hm hmj
  have:=h3 m hmj
  simpa [isT] using this
 ·have hy':y∈bs.map Value.bool:=by simpa using hy
  obtain ⟨a,_,rfl⟩:=mP_.mp hy'
  exact SeqAt.EqAt.bool_bool a b
 ·exact ⟨.int _,H,I.tok _,⟨s.toks,rfl⟩,q⟩
end
def qdl (x:D) (ys:List D):Option D:=match x,ys with
 | .lst ds,[.bl b]=>(yd ds).map fun bs => .int (bs.countP (·==b))
 | _,_=>none
def qdm (x:D) (ys:List D):Option D:=match x,ys with
 | .lst ds,[.bl b]=>(yd ds).bind fun bs=>(bs.findIdx? (·==b)).map fun j => .int j
 | _,_=>none
def qfD (F:D->List D->Option D) (f:M D) (g:M (List D)):M D:=bnd f fun x=>match x with
 | .lst ds=>bnd g fun ys=>lift (F (.lst ds) ys)
 | _=>fun _ => .bad
def qjM (K:Fr0) (F:D->List D->Option D) (r:V->List V->Hp->VK->Prop):Prop:=∀ A H x ys d v vs (Q:VK),(∀ a,H a=none->A a)->Is K A H x v->IsL K A H ys vs->F x ys=some d->(∀ u H',zD H H'->Is K A H' d u->Q u H')->r v vs H Q
theorem qcD {K:Fr0}:qjM K qdl qio:=by
 intro A H x ys d v vs Q hn ix iy e k
 unfold qdl at e
 split at e
 ·rename_i ds b
  obtain ⟨u,rfl,e2⟩:=IsL.inv1 iy
  cases e2
  obtain ⟨a,xs,rfl,_,ta,il⟩:=ix
  cases eb:yd ds with
  | none=>rw [eb] at e;cases e
  | some bs =>
   rw [eb] at e
   cases e
   rw [yH il eb] at ta
   exact ⟨a,bs,b,rfl,rfl,ta,k _ H (zD.refl H) rfl⟩
 ·cases e
theorem qcE {K:Fr0}:qjM K qdm qip:=by
 intro A H x ys d v vs Q hn ix iy e k
 unfold qdm at e
 split at e
 ·rename_i ds b
  obtain ⟨u,rfl,e2⟩:=IsL.inv1 iy
  cases e2
  obtain ⟨a,xs,rfl,_,ta,il⟩:=ix
  cases eb:yd ds with
  | none=>rw [eb] at e;cases e
  | some bs =>
   rw [eb] at e
   cases ej:bs.findIdx? (·==b) with
   | none=>simp only [Option.bind_some,ej] at e;cases e
   | some j =>
    simp only [Option.bind_some,ej,Option.map_some] at e
    cases e
    rw [yH il eb] at ta
    exact ⟨a,bs,b,j,rfl,rfl,ta,ej,k _ H (zD.refl H) rfl⟩
 ·cases e
section
variable {X:Cx} {c:Fc} {o e:Expr} {es:List Expr} {apos cpos:Pos}
theorem qfE {id:String} {name:Str} {r:V->List V->Hp->VK->Prop} {F:D->List D->Option D} {f:M D} {g:M (List D)} (slot:Slot "list" name id) (hty:typeOf (.builtin id)=pure (.type "method_descriptor")) (hm:MtR X id r) (hF:qjM X.K F r)
  (ho:DE X c o f) (ha:DA X c (e::es) g)
  (hbase:attributeBase o name X.env (eval o X.env)=eval o X.env:=by rfl)
  (hfew:((backTo cpos (starEach (e::es) X.env)).all (fun x => !x.1)&&(backToKw cpos (keywordEach [] X.env)).all (fun x=>x.1.isSome)
   && decide ((e::es).length+([]:List Keyword).length+(if ([]:List Keyword).isEmpty then 0 else 1)<30))=true:=by rfl)
  (hline:(apos.endLine==cpos.line)=true:=by rfl) (hs:starEach (e::es) X.env=(false,eval e X.env)::starEach es X.env:=by rfl) (hplain:(backTo cpos (starEach es X.env)).any (·.1)=false:=by rfl) :
  DE X c (.Call (.Attribute o name apos) (e::es) [] cpos) (qfD F f g):=by
 obtain ⟨to,po,wo⟩:=ho
 obtain ⟨t,pa,wa⟩:=ha
 refine ⟨_,qeW PySem.F.plainAttrs_list slot hty hm po pa hbase hfew hline hs hplain,fun U Z H Q r0 h=>wo U Z H _ r0 (Wp.bnd h fun x U1 v H1 r1 i1 g1 h1 => ?_)⟩
 cases x with
 | lst ds =>
  obtain ⟨a,xs,rfl,ha,hH,il⟩:=i1
  refine ⟨.inl ⟨rfl,xs,.inl (.inl hH)⟩,wa U1 Z H1 _ r1 (WpL.bnd h1 fun ys U2 vs H2 r2 i2 g2 h2 => ?_)⟩
  obtain ⟨d,ed,h3⟩:=h2.lift
  exact hF (Cn c Z) H2 (.lst ds) ys d (.ref a) vs Q (fun a ha=>r2.new ha) (g2.is ⟨a,xs,rfl,ha,hH,il⟩) i2 ed fun u H' sm i=>h3 u H' (r2.same sm) i (.of_same sm)
 | _=>exact h1.elim
end
def isI (b:Int):Value->Bool
 | .int a _=>a==b
 | _=>false
section
variable {X:Cx}
end
def qnH (x:D) (ys:List D):Option D:=match x,ys with
 | .lst ds,[.int b]=>(uf ds).map fun ns => .int (ns.countP (·==b))
 | _,_=>none
@[reducible] def toX (X:Cx) (xe:Value->Shared->Prop) (pn:List (Addr×Obj)):Cx:={ X with xe:=xe,pn:=pn }
@[reducible] def hdX (X:Cx) (e:Addr):Cx:={ X with A:=X.A.mark (some (.ref e)),calm:=false,xe:=fun _ _=>False }
section
variable {X:Cx} {pins:List (Addr×Obj)} {Z:St} {H:Hp} {s:Shared} {xe:Value->Shared->Prop}
theorem qlG (I:Inv X pins Z H s):Inv (toX X xe (X.pn++pins)) [] Z H s :=
 let k:=I.ok
 ⟨⟨k.mod,k.kind,k.glob,k.blt,k.above,k.inj,k.has,k.cab,k.hd,k.frames,k.stk,k.exf,k.bs,k.bsz,k.noex,k.exfs,k.funs,k.frf⟩,I.os,I.bare,I.base,I.loc,I.cell,I.free,I.freeC,
  fun p hp=>I.pin p (by rw [List.append_nil] at hp;exact hp),I.hok,I.len⟩
theorem u8 {pins2:List (Addr×Obj)} (I:Inv (toX X xe (X.pn++pins)) pins2 Z H s):Inv X pins Z H s :=
 let k:=I.ok
 ⟨⟨k.mod,k.kind,k.glob,k.blt,k.above,k.inj,k.has,k.cab,k.hd,k.frames,k.stk,k.exf,k.bs,k.bsz,k.noex,k.exfs,k.funs,k.frf⟩,I.os,I.bare,I.base,I.loc,I.cell,I.free,I.freeC,
  fun p hp=>I.pin p (List.mem_append_left _ hp),I.hok,I.len⟩
theorem qiq (e:Addr) (I:Inv X pins Z H s):Inv (hdX X e) pins Z H s :=
 let k:=I.ok
 ⟨⟨k.mod,k.kind,k.glob,k.blt,k.above,k.inj,k.has,k.cab,fun z=>(nomatch z),k.frames,k.stk,k.exf,k.bs,k.bsz,k.noex,k.exfs,k.funs,k.frf⟩,I.os,I.bare,I.base,I.loc,I.cell,I.free,I.freeC,I.pin,I.hok,I.len⟩
theorem qhg {e:Addr} {Z':St} {H':Hp} {s':Shared} (k:X.Ok) (I:Inv (hdX X e) pins Z' H' s'):Inv X pins Z' H' s' :=
 ⟨k,I.os,I.bare,I.base,I.loc,I.cell,I.free,I.freeC,I.pin,I.hok,I.len⟩
theorem qeg {h':Heap} {m':Str->Option Value} {tk:Nat} (I:Inv X pins Z H s) (hn:h'.Ns X.env.locals m') (hs:Heap.SameBut X.env.locals s.heap h') :
  Inv X pins (List.replicate X.N.length none) H { s with heap:=h',toks:=tk }:=by
 obtain ⟨m,hn0,_⟩:=id I.loc
 obtain ⟨oL,_,_,hoL,_⟩:=id hn0
 have ne:∀ b o,X.s₀.heap.get? b=some o->b≠X.env.locals:=fun b o q=>Nat.ne_of_lt (Nat.lt_of_lt_of_le (Heap.lt_size q) I.ok.above)
 refine ⟨I.ok,I.os,I.bare,⟨fun b o e n hb hx=>(hs.2 b (ne b o e)).trans (I.base.keep b o e n hb hx),fun b o e n hb hx => ?_,I.base.free,fun b o e hx => ?_,I.base.tups,I.base.frzs,I.base.tbls⟩,⟨m',hn,fun j y v e1 e2 e3 => ?_⟩,fun y c e => ?_,I.free,I.freeC,fun p hp => ?_,fun b ob e => ?_,by simp⟩
 ·obtain ⟨sl,q⟩:=I.base.slot b o e n hb hx
  exact ⟨sl,(hs.2 b (ne b o e)).trans q⟩
 ·obtain ⟨o',q⟩:=I.base.there b o e hx
  exact ⟨o',(hs.2 b (ne b o e)).trans q⟩
 ·rw [List.getElem?_replicate] at e2
  split at e2<;>cases e2
 ·obtain ⟨w',z⟩:=I.cell y c e
  exact ⟨w',z.sameBut hs (I.cne y c e)⟩
 ·obtain ⟨e,n,nl,nf,d⟩:=I.pin p hp
  exact ⟨(hs.2 p.1 nl).trans e,n,nl,nf,d⟩
 ·refine (I.hok b ob e).stay (fun c w' hc q=>(hs.2 c ?_).trans q) (fun _ q=>q) fun _ _ q=>q
  rintro rfl
  rcases hc with rfl | hc
  ·rw [I.free] at e;cases e
  ·rw [I.free] at hc;cases hc
theorem qfF {H':Hp} {h':Heap} (I:Inv X pins Z H s) (u:Un (frs X.stack) [] H H' s.heap h'):h'.FunFrames X.base X.stack:=by
 have all:∀ (l:List PySem.Env),(∀ b∈frs l,b∈frs X.stack)->s.heap.FunFrames X.base l->h'.FunFrames X.base l:=by
  intro l
  induction l with
  | nil=>intro _ _;trivial
  | cons env r ih =>
   intro hss hl
   obtain ⟨hk,⟨L,o,hf',hn,ho,hd⟩,hr⟩:=hl
   have hfr:frs (env::r)=L::frs r:=by unfold frs;rw [List.filterMap_cons,hf']
   rw [hfr] at hss
   have hL:=hss L mS_
   obtain ⟨sl,e⟩:=u.slot L o ho (I.stkFree L hL) hL (by simp)
   exact ⟨hk,⟨L,_,hf',hn,e,hd⟩,ih (fun b hb=>hss b (mM _ hb)) hr⟩
 exact all X.stack (fun _ z=>z) I.stack
theorem qir {H':Hp} {h1 h':Heap} {ch:List Addr} (u:Un (frs X.stack) [] H H' s.heap h1) (hchn:∀ b∈ch,s.heap.get? b=none) (x:Lft h1 h' ch (frs X.stack)):Un (frs X.stack) [] H H' s.heap h':=by
 have nch:∀ b o,s.heap.get? b=some o->b ∉ ch:=fun b o q z=>by rw [hchn b z] at q;cases q
 refine ⟨fun b o q n hb hx=>x.keep b o (nch b o q) hb (u.keep b o q n hb hx),fun b o q n hb hx => ?_,u.free,fun b o q hx => ?_,u.tups,u.frzs,u.tbls⟩
 ·obtain ⟨sl,q1⟩:=u.slot b o q n hb hx
  obtain ⟨sl2,q2⟩:=x.slot b _ hb q1
  exact ⟨sl2,q2⟩
 ·obtain ⟨o2,q2⟩:=u.there b o q hx
  by_cases hb:b∈frs X.stack
  ·obtain ⟨sl,q3⟩:=x.slot b o2 hb q2
   exact ⟨_,q3⟩
  ·exact ⟨o2,x.keep b o2 (nch b o q) hb q2⟩
theorem qfG {H':Hp} {h1 h':Heap} {ch:List Addr} (I:Inv X pins Z H s) (u:Un (frs X.stack) [] H H' s.heap h1) (hok:HOk X.prog X.w H' h1) (hch:∀ b∈ch,H' b=none) (x:Lft h1 h' ch (frs X.stack)):HOk X.prog X.w H' h' :=
 qin hok fun b o hb1 q=>x.keep b o (fun z=>by rw [hch b z] at hb1;cases hb1) (fun z=>by
  obtain ⟨_,o1,ho1,_⟩:=I.stack.mem z
  rw [u.free b o1 ho1 (I.stkFree b z) (by simp)] at hb1
  cases hb1) q
theorem un_held {H':Hp} {h':Heap} {e:Addr} {o:HO} (u:Un (frs X.stack) [] H H' s.heap h') (he:s.heap.get? e=none) (hHe:H' e=none):Un (frs X.stack) [] H (upd H' e o) s.heap h':=by
 have ne:∀ b ob,s.heap.get? b=some ob->b≠e:=fun b ob q z=>by rw [z,he] at q;cases q
 have ne':∀ b u,H' b=some u->b≠e:=fun b u q z=>by rw [z,hHe] at q;cases q
 refine ⟨u.keep,u.slot,fun b ob q n hx=>by rw [qj (ne b ob q)];exact u.free b ob q n hx,u.there,fun b xs q => ?_,fun b ob w q => ?_,fun b ps y q => ?_⟩
 ·have:=u.tups b xs q
  rw [qj (ne' b _ this)];exact this
 ·have:=u.frzs b ob w q
  rw [qj (ne' b _ this)];exact this
 ·have:=u.tbls b ps y q
  rw [qj (ne' b _ this)];exact this
theorem qhh {P:Program} {w:World} {H':Hp} {h':Heap} {e:Addr} {oe:Obj} (hok:HOk P w H' h') (hHe:H' e=none) (he:h'.get? e=some oe):HOk P w (upd H' e (.frz oe (.own e))) h':=fun b ob q=>by
 by_cases hb:b=e
 ·subst hb
  rw [qk] at q
  cases q
  exact ⟨he,oe,he⟩
 ·rw [qj hb] at q
  have ne':∀ c u,H' c=some u->c≠e:=fun c u q z=>by rw [z,hHe] at q;cases q
  exact (hok b ob q).stay (fun _ _ _ q=>q) (fun c q=>by rw [qj (ne' c _ q)];exact q) (fun c xs q=>by rw [qj (ne' c _ q)];exact q) fun c ob y q=>by rw [qj (ne' c _ q)];exact q
end
def qfH (RN:List Str) (f:MS) (F:List D->R D):MS:=fun U=>match f U with
 | .exc x U'=>if RN.contains x.cls then match F [.exc x.cls] with
   | .ok d => .ok (.rt d U')
   | _ => .bad
  else .bad
 | r=>r
def reE (c:Fc) (E:Exn->Hp->Prop):Fc:={ c with E:=E }
theorem Rep.reE {K:Fr0} {c:Fc} {E:Exn->Hp->Prop} {U:Env} {Z:St} {H:Hp} (r:Rep K c U Z H):Rep K (Sk.reE c E) U Z H:=⟨r.len,r.val,r.own,r.inj,r.b0,r.kp,r.dm,r.pO,r.ps⟩
theorem Rep.unE {K:Fr0} {c:Fc} {E:Exn->Hp->Prop} {U:Env} {Z:St} {H:Hp} (r:Rep K (Sk.reE c E) U Z H):Rep K c U Z H:=⟨r.len,r.val,r.own,r.inj,r.b0,r.kp,r.dm,r.pO,r.ps⟩
structure qnI (K:Fr0) (base:Heap) (RN:List Str) (S:Addr):Prop where
 sup:∃ bm,XC base S bm
 own:∀ n C,clR K RN n=some C->∃ bm,XC base C bm/\(Value.ref C::bm).contains (.ref S)=true
 ki:∀ n C,clR K RN n=some C->XK6 K C
def ch (H6:Hp):Fc:=⟨[],[],fun a=>H6 a=none,H6,fun _=>False,fun _ _=>False,fun _=>none⟩
section
variable {X:Cx} {c:Fc} {pos np hpos p1 p2 p3 p4:Pos} {body:List Stmt}
theorem qlH {x n m:Str} {i:Nat} {S fm:Addr} {fd:FuncData} {ps:List Str} {k:Nat} {F:List D->R D} {f:MS} {RN:List Str} (hN:X.N.Nodup) (hcx:X.stack=X.env::X.outer) (hf:X.env.frame=some X.env.locals)
  (hcl:qnI X.K X.base RN S) (hgS:Gl X x) (hmS:X.mg x=some (.ref S))
  (G:qb1 X.prog X.w X.K X.mg X.base CX0 k fm fd ps (spD X.K F)) (hr:jA k X.A) (hgm:Gl X m) (hmm:X.mg m=some (.ref fm)) (hkm:PySem.W.keepIn X.K (.ref fm)=true) (hbm:ua X.K fd ps [])
  (hb:∀ (xe:Value->Shared->Prop) (pn:List (Addr×Obj)) (E:XK) (cE:Exn->Hp->Prop),XL2 (toX X xe pn) (reE c cE) (clR X.K RN) E->DSs (toX X xe pn) (reE c cE) body f)
  (hi:X.N[i]? = some n:=by rfl) (hx:X.env.scope.names.lookup n=some .local:=by rfl) (hkn:X.env.kindOf n=some .local:=by rfl)
  (hdx:(x==("__debug__":Str))=false:=by decide) (hdm:(m==("__debug__":Str))=false:=by decide) (hdn:(n==("__debug__":Str))=false:=by decide) (hcn:(n==("__classdict__":Str))=false:=by decide)
  (hst:starEach [.Name n p2] X.env=(false,eval (.Name n p2) X.env)::starEach [] X.env:=by rfl) (hpl:(backTo p3 (starEach [] X.env)).any (·.1)=false:=by rfl) :
  DS X c (.Try body [.ExceptHandler (some (.Name x np)) (some n) [.Return (some (.Call (.Name m p1) [.Name n p2] [] p3)) p4] hpos] [] [] pos) (qfH RN f F):=by
 refine ⟨fun D Z H=>∃ U,Rep X.K c U Z H/\WpS X.K c Z H D (qfH RN f F U),?_,fun U Z H D r h=>⟨U,r,h⟩⟩
 rintro pins s Z H D I ⟨U,r,w⟩
 refine wpAny_Try_except ?_
 have hk:=I.ok
 let xe:Value->Shared->Prop:=fun e sJ=>wpAny (model X.prog X.w) X.A (noteFrame e X.env) (fun _ sQ=>wpAny (model X.prog X.w) X.A (setFlight e none) (fun _ sV=>wpAny (model X.prog X.w) X.A (handleBy e X.env [.ExceptHandler (some (.Name x np)) (some n) [.Return (some (.Call (.Name m p1) [.Name n p2] [] p3)) p4] hpos]) (SP X pins D) X.xe sV) X.xe sQ) X.xe sJ
 let cE:Exn->Hp->Prop:=fun z H'=>∃ U' Z',f U = .exc z U'/\Rep X.K c U' Z' H'/\GrS c.O Z H Z' H'
 let E:XK:=fun cv _ H'=>∃ C z,cv = .ref C/\clR X.K RN z.cls=some C/\cE z H'
 have L:XL2 (toX X xe (X.pn++pins)) (reE c cE) (clR X.K RN) E:=by
  refine ⟨?_,fun z C H' h1 h2=>⟨C,z,rfl,h1,h2⟩⟩
  intro pins2 Z2 H2 s2 u s' I2 hx2
  obtain ⟨e,T,C,H',rfl,os,bare,un,hok,he,hT,hHe,hHT,Fl,C',z,hC',hz,U',Z',ef,r',g'⟩:=hx2
  have eC:C=C':=Value.ref.inj hC'
  subst eC
  have I3:Inv X pins Z2 H2 s2:=u8 I2
  have hz2:∀ b∈[e,T],H' b=none:=fun b hb=>by
   simp only [List.mem_cons,nN_,or_false] at hb
   rcases hb with rfl | rfl
   ·exact hHe
   ·exact hHT
  have hz3:∀ b∈[e,T],s2.heap.get? b=none:=fun b hb=>by
   simp only [List.mem_cons,nN_,or_false] at hb
   rcases hb with rfl | rfl
   ·exact he
   ·exact hT
  have hl:s'.heap.FunFrames X.base X.stack:=qfF I3 un
  have hA:X.A.frames=some (X.env::X.outer):=by rw [<- hcx];exact hk.frames
  show wpAny _ _ _ _ _ _
  rw [hcx] at hl
  refine qbZ hA hl hf Fl fun h3 T3 y1 y2 y3 => ?_
  rw [<- hcx] at y1
  have un3:Un (frs X.stack) [] H2 H' s2.heap h3:=qir un hz3 y1
  have hok3:HOk X.prog X.w H' h3:=qfG I3 un hok hz2 y1
  have I4:Inv X pins Z2 H' { s' with heap:=h3 }:=I3.call' (s':={ s' with heap:=h3 }) (ch:=[]) os un3 hok3 bare (fun b hb=>nomatch hb)
  have up:∀ b,s'.heap.get? b=none->s2.heap.get? b=none:=fun b hb=>by
   cases q:s2.heap.get? b with
   | none=>rfl
   | some o =>
    obtain ⟨o',q'⟩:=un.there b o q (by simp)
    rw [hb] at q';cases q'
  have hT3:s2.heap.get? T3=none:=y3.elim (fun z=>z▸hT) (up T3)
  have hHT3:H' T3=none:=y3.elim (fun z=>z▸hHT) fun z=>by
   cases q:H' T3 with
   | none=>rfl
   | some o =>
    obtain ⟨o',q'⟩:=yI (hok _ _ q)
    rw [z] at q';cases q'
  refine wpAny_handleBy_cons (codeAny_handlers_test ?_) (by intro q;cases q)
  refine qaP (X:=hdX X e) (qiq e I4) hgS hmS ?_ hdx
  obtain ⟨bmS,xS⟩:=hcl.sup
  obtain ⟨bm,xC,hin⟩:=hcl.own _ _ hz
  obtain ⟨nmS,qS,NS,bsS,hdctS,snS,subS,abS,colS,ddS,j0,j1,j2,j3,j5,newIdS,_,_,_,_,hS,_⟩:=xS.ex
  obtain ⟨nm,q,N,bs,hdct,sn,sub,ab,col,dd,k0,k1,k2,k3,k5,newId,_,_,_,_,hC,_⟩:=xC.ex
  obtain ⟨oe,vs,oT,ts,a0,hoe,hoc,hod,_⟩:=id y2
  refine qaf (M:=model X.prog X.w) (A:=X.A.mark (some (.ref e))) (h:=h3) (g:=s'.gens) (d:=s'.drawn) (t:=s'.toks) (os:=s'.os) (I4.bk _ _ hC) (I4.bk _ _ hS) hoe hoc.1 xS.hasBase ?_
  rw [hin]
  show codeAny _ _ _ _ _
  refine codeAny_handlers_suite_as ?_
  have hl3:h3.FunFrames X.base X.stack:=qfF I3 un3
  refine qed (s:={ s' with heap:=h3 }) hl3 y2 fun h4 T4 z1 z2 z3 => ?_
  have hz4:∀ b∈[e,T3],H' b=none:=fun b hb=>by
   simp only [List.mem_cons,nN_,or_false] at hb
   rcases hb with rfl | rfl
   ·exact hHe
   ·exact hHT3
  have hz5:∀ b∈[e,T3],s2.heap.get? b=none:=fun b hb=>by
   simp only [List.mem_cons,nN_,or_false] at hb
   rcases hb with rfl | rfl
   ·exact he
   ·exact hT3
  have un4:Un (frs X.stack) [] H2 H' s2.heap h4:=qir un3 hz5 z1
  have hok4:HOk X.prog X.w H' h4:=qfG I3 un3 hok3 hz4 z1
  obtain ⟨oe4,vs4,oT4,ts4,a04,hoe4,hoc4,hod4,_⟩:=id z2
  have I5:Inv X pins Z2 (upd H' e (.frz oe4 (.own e))) { s' with heap:=h4 }:=I3.call' (s':={ s' with heap:=h4 }) (ch:=[]) os (un_held un4 he hHe) (qhh hok4 hHe hoe4) bare (fun b hb=>nomatch hb)
  refine uS (v := .ref e) I5 hN hi (.inl hx) rfl (fun s5 I6 => ?_) (.inr hx)
  have sm:zD H' (upd H' e (.frz oe4 (.own e))):=qv hHe _
  have hil:IsL X.K (fun _=>False) (upd H' e (.frz oe4 (.own e))) [.exc z.cls] [.ref e]:=⟨.ref e,[],rfl,⟨e,rfl,C,(qc7 hz).2,hcl.ki _ _ hz,oe4,vs4,qk,hoc4.1,hod4⟩,rfl⟩
  cases em:F [.exc z.cls] with
  | bad=>simp only [qfH,ef,(qc7 hz).1,em,if_true] at w;exact w.elim
  | exc z' U''=>simp only [qfH,ef,(qc7 hz).1,em,if_true] at w;exact w.elim
  | ok d =>
   simp only [qfH,ef,(qc7 hz).1,em,if_true] at w
   have hσl:i<Z2.length:=by rw [I5.len];exact (gI_.mp hi).1
   have call:=qeF (qc4 (pos:=p4) (qdk (X:=hdX X e) (E:=fun _ _ _=>False) (pos:=p3) (p:=p1) G ⟨hr.dp,hr.un,hr.gd⟩ hgm hmm hkm hbm .nil (fun _ _ _ _ _ _ _ z=>z.elim) (zQ (jO (X:=hdX X e) (pos:=p2) hi (.inl hx) hdn hcn) ya hst) hdm hst hpl))
   have run:=call pins s5 _ _ ({ nx:=fun _ _=>False,rt:=D.rt }:qev) (qiq e I6) ⟨.ref e,List.getElem?_set_self hσl,⟨e,oe4,.own e,vs4,rfl,qk,hod4,hoc4.2.1⟩,[.exc z.cls],fun _=>False,hil,r'.tb.same sm,by
    rw [em]
    exact fun v H6 sm6 i6=>w v Z' H6 (r'.same (fun b o q=>sm6 b o (sm b o q))) (Is.ext Ext.refl (fun a ha _=>ha.elim (fun z=>z.elim) fun hn=>r'.b0.1 a (r'.dm a (sm.free hn))) i6) (g'.trans (Gr.of_same (fun b o q=>sm6 b o (sm b o q))).s)⟩
   refine wpAny_mono run (fun fl s6 h6 => ?_) (fun _ _ z=>z.elim)
   cases fl with
   | next=>obtain ⟨_,_,_,z⟩:=h6;exact z.elim
   | brk=>obtain ⟨_,_,_,z⟩:=h6;exact z.elim
   | cont=>obtain ⟨_,_,_,z⟩:=h6;exact z.elim
   | ret u =>
    obtain ⟨v,Z7,H7,I7,rv,q7⟩:=h6
    have I8:=qhg hk I7
    obtain ⟨m8,hn8,_⟩:=id I8.loc
    exact wpAny_nameGoes hkn hn8 (by rw [hk.kind];rfl) fun h9 m9 hn9 hs9=>⟨v,_,H7,qeg I8 hn9 hs9,rv,q7⟩
 obtain ⟨t,p,wt⟩:=hb xe (X.pn++pins) E cE L
 have w':WpS X.K (reE c cE) Z H D (f U):=by
  cases ef:f U with
  | bad=>simp only [qfH,ef] at w;exact w
  | exc z U'=>exact fun Z' H' r' g'=>⟨U',Z',ef,r'.unE,g'⟩
  | ok fl =>
   simp only [qfH,ef] at w
   cases fl with
   | nx U'=>exact fun Z' H' r' g'=>w Z' H' r'.unE g'
   | rt d U'=>exact fun v Z' H' r' i' g'=>w v Z' H' r'.unE i' g'
   | bk U'=>exact fun Z' H' r' g'=>w Z' H' r'.unE g'
   | ct U'=>exact fun Z' H' r' g'=>w Z' H' r'.unE g'
 have run:=p [] s Z H D (qlG I) (wt U Z H D r.reE w')
 refine wpAny_mono run (fun fl s1 h1 => ?_) (fun _ _ z=>z)
 cases fl with
 | next =>
  obtain ⟨Z1,H1,I1,q1⟩:=h1
  exact wpAny_execs_nil ⟨Z1,H1,u8 I1,q1⟩
 | brk=>obtain ⟨Z1,H1,I1,q1⟩:=h1;exact ⟨Z1,H1,u8 I1,q1⟩
 | cont=>obtain ⟨Z1,H1,I1,q1⟩:=h1;exact ⟨Z1,H1,u8 I1,q1⟩
 | ret u=>obtain ⟨v,Z1,H1,I1,rv,q1⟩:=h1;exact ⟨v,Z1,H1,u8 I1,rv,q1⟩
end
end L2.Sk
namespace L2.Sk
open PySem PySem.Spec PyProof.Rows PySem.W
def bmV:List Value:=[.type "ValueError",.type "Exception",.type "BaseException",.type "object"]
def qeh (K:Fr0) (C S:Addr):Bool:=match K.lookup C with
 | some ⟨_,_,.cls cd,_⟩=>cd.mro.contains (.ref S)
 | _=>false
theorem qdn {K:Fr0} {h:Heap} {C S:Addr} (X:K.In h) (q:excIn K C bmV "ValueError.__new__"=true) (hs:qeh K C S=true):∃ bm,XC h C bm/\(Value.ref C::bm).contains (.ref S)=true:=by
 unfold excIn at q
 split at q
 ·rename_i dd cd sl ho
  split at q
  ·rename_i C' bm k0 k1 k2 k3 n k5 hm hl
   simp only [Bool.and_eq_true,beq_iff_eq,Bool.not_eq_true'] at q
   obtain ⟨⟨⟨⟨⟨e1,e2⟩,hdel⟩,ht⟩,hok⟩,hni⟩:=q
   subst e1 e2
   unfold qeh at hs
   rw [ho] at hs
   dsimp only at hs
   rw [hm] at hs
   obtain ⟨nm,bs,mro,ns,qn,hd,sn,sub,ab,col,del⟩:=cd
   dsimp only at hm hdel hok hni
   subst hm hdel
   have hz:sl = #[k0,k1,k2,k3,some (.builtin _),k5]:=Array.toList_inj.mp hl
   subst hz
   have hT:=tail_of_in X ht
   refine ⟨bm,⟨hT.hasType (by decide +kernel),nm,qn,ns,bs,hd,sn,sub,ab,col,dd,k0,k1,k2,k3,k5,_,"ValueError.__init__","ValueError",bmV,_,X _ _ ho,.of_isNs (isNs_of_in X hok),nsMap_none_of_in X hok hni,hT,PySem.F.excBase_ValueError⟩,hs⟩
  ·cases q
 ·cases q
def qjN (K:Fr0) (D:Addr):Bool :=
 findIn K (.ref D) "__getattribute__"==some (some (.builtin "BaseException.__getattribute__"))&&findIn K (.ref D) "__getattr__"==some none &&
 findIn K (.ref D) "__class__"==some (some (.builtin "object.__class__"))&&mroIn K D (.type "object")==some true&&subIn K (.ref D) (.type "BaseException")==some true&&(clsIn K D).isSome &&
 (["int","bool","str","tuple","list","dict"].all fun T=>kitOne K (.ref D) (.type T)==some false)
theorem qlI {K:Fr0} {D:Addr} (h:qjN K D=true):XK6 K D:=by
 unfold qjN at h
 simp only [Bool.and_eq_true,beq_iff_eq] at h
 obtain ⟨⟨⟨⟨⟨⟨h1,h2⟩,h3⟩,h4⟩,h5⟩,h6⟩,h7⟩:=h
 exact ⟨h1,h2,h3,h4,h5,h6,fun T hT=>by simpa using List.all_eq_true.mp h7 T hT⟩
def u9 (n m:Str):Bool:=n==m||m=="SackError"
def qlJ (K:Fr0) (S:Addr) (TN:List Str) (n:Str):Bool:=match ue K n with
 | some C=>excIn K C bmV "ValueError.__new__"&&qeh K C S&&qjN K C&&kitOne K (.ref C) (.type "ValueError")==some true &&
  TN.all fun m=>match ue K m with
   | some Cm=>kitOne K (.ref C) (.ref Cm)==some (u9 n m)
   | none=>false
 | none=>false
def qm3 (K:Fr0) (RN TN:List Str):Bool:=match ue K "SackError" with
 | some S=>excIn K S bmV "ValueError.__new__"&&qeh K S S&&RN.all (qlJ K S TN)
 | none=>false
structure XT (K:Fr0) (mg:Str->Option Value) (RN TN:List Str):Prop where
 all:qm3 K RN TN=true
 mgc:∀ n C,ue K n=some C->mg n=some (.ref C)
theorem qhi {K:Fr0} {h:Heap} {mg:Str->Option Value} (X:K.In h) (G:h.Ns mainGlobals mg) (n:Str) (C:Addr) (e:ue K n=some C):mg n=some (.ref C):=by
 unfold ue at e
 split at e
 ·rename_i C' q
  cases e
  exact mg_of X G q
 ·cases e
section
variable {K:Fr0} {mg:Str->Option Value} {RN TN:List Str}
theorem XT.sup (t:XT K mg RN TN):∃ S,ue K "SackError"=some S/\excIn K S bmV "ValueError.__new__"=true/\qeh K S S=true/\RN.all (qlJ K S TN)=true:=by
 have h:=t.all
 unfold qm3 at h
 split at h
 ·rename_i S e
  simp only [Bool.and_eq_true] at h
  exact ⟨S,e,h.1.1,h.1.2,h.2⟩
 ·cases h
theorem XT.row (t:XT K mg RN TN) {S:Addr} (hS:ue K "SackError"=some S) {n:Str} (hn:RN.contains n=true):qlJ K S TN n=true:=by
 obtain ⟨S',e,_,_,h⟩:=t.sup
 rw [hS] at e
 cases e
 exact List.all_eq_true.mp h n (by simpa using hn)
theorem XT.cls (t:XT K mg RN TN) {n:Str} {C:Addr} (h:clR K RN n=some C):ue K n=some C/\∃ S,ue K "SackError"=some S/\excIn K C bmV "ValueError.__new__"=true/\qeh K C S=true/\XK6 K C/\kitOne K (.ref C) (.type "ValueError")=some true /\
  ∀ m∈TN,∃ Cm,ue K m=some Cm/\kitOne K (.ref C) (.ref Cm)=some (u9 n m):=by
 unfold clR at h
 split at h
 ·rename_i hn
  obtain ⟨S,hS,_⟩:=t.sup
  have r:=t.row hS hn
  unfold qlJ at r
  rw [h] at r
  simp only [Bool.and_eq_true,beq_iff_eq] at r
  obtain ⟨⟨⟨⟨r1,r2⟩,r3⟩,r4⟩,r5⟩:=r
  refine ⟨h,S,hS,r1,r2,qlI r3,r4,fun m hm => ?_⟩
  have:=List.all_eq_true.mp r5 m hm
  split at this
  ·rename_i Cm e
   exact ⟨Cm,e,by simpa using this⟩
  ·cases this
 ·cases h
theorem XT.has (t:XT K mg RN TN) {n:Str} (hn:RN.contains n=true):∃ C,clR K RN n=some C:=by
 obtain ⟨S,hS,_⟩:=t.sup
 have r:=t.row hS hn
 unfold qlJ at r
 split at r
 ·rename_i C e
  exact ⟨C,by unfold clR;rw [if_pos hn];exact e⟩
 ·cases r
theorem XT.ask (t:XT K mg RN TN) {n m:Str} (hn:RN.contains n=true) (hm:m∈TN):∃ Cm,ue K m=some Cm:=by
 obtain ⟨C,hC⟩:=t.has hn
 obtain ⟨_,_,_,_,_,_,_,h⟩:=t.cls hC
 obtain ⟨Cm,e,_⟩:=h m hm
 exact ⟨Cm,e⟩
theorem XT.xcls (t:XT K mg RN TN) {base:Heap} (X:K.In base):∃ S,mg "SackError"=some (.ref S)/\qnI K base RN S:=by
 obtain ⟨S,hS,h1,h2,_⟩:=t.sup
 refine ⟨S,t.mgc _ _ hS,⟨(qdn X h1 h2).imp fun bm h=>h.1,fun n C h => ?_,fun n C h => ?_⟩⟩
 ·obtain ⟨_,S',hS',r1,r2,_⟩:=t.cls h
  rw [hS] at hS'
  cases hS'
  exact qdn X r1 r2
 ·obtain ⟨_,_,_,_,_,r,_⟩:=t.cls h
  exact r
end
theorem qhj:typeOf (.builtin "list.count")=pure (.type "method_descriptor"):=by kernel_rfl
theorem qhk:typeOf (.builtin "list.index")=pure (.type "method_descriptor"):=by kernel_rfl
def qei (RN:List Str) (m:Str) (f:M D):M D:=bnd f fun d=>match d with
 | .exc n=>if RN.contains n then ret (.bl (m=="ValueError"||u9 n m)) else fun _ => .bad
 | _=>fun _ => .bad
section
variable {X:Cx} {c:Fc} {a b e:Expr} {pos:Pos} {RN TN:List Str}
def qnJ (K:Fr0) (RN:List Str) (m:Str) (Cm:V):List V->Hp->VK->Prop:=fun xs H Q=>∃ v n A,xs=[v,Cm]/\RN.contains n=true/\Is K A H (.exc n) v/\Q (.bl (m=="ValueError"||u9 n m)) H
theorem qdo {m:Str} {Cm:V} {um:Value} (hr:z9 Cm um) (hu:∀ u,z9 Cm u->u=um) (hk:∀ n C,ue X.K n=some C->RN.contains n=true->kitOne X.K (.ref C) um=some (m=="ValueError"||u9 n m)):j9 X (.builtin "isinstance") (qnJ X.K RN m Cm):=by
 intro pins s Z H xs us Q I r h
 obtain ⟨v,n,A,rfl,hn,hi,q⟩:=h
 obtain ⟨u,w,rfl,r1,r2⟩:=qT.two r
 rw [hu w r2]
 obtain ⟨z,rfl,C,hC,h1,h2⟩:=hi
 cases (show u=Value.ref z from r1)
 exact qau I h1 h2 (hk n C hC hn) fun tk=>⟨.bl _,H,I.tok tk,rfl,q⟩
theorem qfI {m:Str} {f:M D} {t:TE} {Cm:V} (w:∀ U Z H Q,Rep X.K c U Z H->Wp X.K c Z H Q (f U)->t Z H Q):∀ U Z H Q,Rep X.K c U Z H->Wp X.K c Z H Q (qei RN m f U)->tCB (qnJ X.K RN m Cm) (qgB t (qgB (tC Cm) qmS)) Z H Q:=fun U Z H Q r h=>w U Z H _ r (Wp.bnd h fun d U1 v H1 r1 i1 g1 h1=>by
 cases d with
 | exc n =>
  dsimp only at h1
  by_cases hn:RN.contains n=true
  ·rw [if_pos hn] at h1
   exact ⟨v,n,_,rfl,hn,i1,h1 _ H1 r1 rfl .refl⟩
  ·rw [if_neg hn] at h1
   exact h1.elim
 | _=>exact h1.elim)
theorem wO {m:Str} {mgl:Str->Option Value} {p p2:Pos} {f:M D} (t:XT X.K X.mg RN TN) (hm:m∈TN) (hne:(m=="ValueError")=false) (hg:Gl X "isinstance") (hmi:X.mg "isinstance"=none) (hg2:Gl X m) (ha:DE X c a f)
  (hs:∃ Cm,ue X.K m=some Cm)
  (hv:bootBuiltins "isinstance"=some (.builtin "isinstance"):=by first | rfl | exact PySem.boot_isinstance) (hdb2:(m==("__debug__":Str))=false:=by decide)
  (he:starEach [a,.Name m p2] X.env=(false,eval a X.env)::starEach [.Name m p2] X.env:=by rfl) (hpl:(backTo pos (starEach [.Name m p2] X.env)).any (·.1)=false:=by rfl):DE X c (.Call (.Name "isinstance" p) [a,.Name m p2] [] pos) (qei RN m f):=by
 obtain ⟨ta,pa,w⟩:=ha
 obtain ⟨Cm,hCm⟩:=hs
 refine ⟨_,uv (qdo (RN:=RN) (m:=m) (Cm := .ref Cm) (um := .ref Cm) rfl (fun u h=>h) fun n C hC hn => ?_) hg hmi hv (zQ pa (zQ (qaQ (v := .ref Cm) hg2 (t.mgc m Cm hCm) rfl hdb2) ya (by rfl)) he) (by decide) (by decide) he hpl,qfI w⟩
 have hcl:clR X.K RN n=some C:=by unfold clR;rw [if_pos hn];exact hC
 obtain ⟨_,_,_,_,_,_,_,h⟩:=t.cls hcl
 obtain ⟨Cm',e1,e2⟩:=h m hm
 rw [hCm] at e1
 cases e1
 rw [e2,hne];rfl
theorem qjO {p p2:Pos} {f:M D} (t:XT X.K X.mg RN TN) (hg:Gl X "isinstance") (hmi:X.mg "isinstance"=none) (hg2:Gl X "ValueError") (hm2:X.mg "ValueError"=none) (ha:DE X c a f)
  (hv:bootBuiltins "isinstance"=some (.builtin "isinstance"):=by first | rfl | exact PySem.boot_isinstance) (hv2:bootBuiltins "ValueError"=some (.type "ValueError"):=by rfl)
  (he:starEach [a,.Name "ValueError" p2] X.env=(false,eval a X.env)::starEach [.Name "ValueError" p2] X.env:=by rfl) (hpl:(backTo pos (starEach [.Name "ValueError" p2] X.env)).any (·.1)=false:=by rfl):DE X c (.Call (.Name "isinstance" p) [a,.Name "ValueError" p2] [] pos) (qei RN "ValueError" f):=by
 obtain ⟨ta,pa,w⟩:=ha
 refine ⟨_,uv (qdo (RN:=RN) (m:="ValueError") (Cm := .ty "ValueError") (um := .type "ValueError") rfl (fun u h=>h) fun n C hC hn => ?_) hg hmi hv (zQ pa (zQ (qeE (v := .ty "ValueError") hg2 hm2 hv2 rfl (by decide) (by decide)) ya (by rfl)) he) (by decide) (by decide) he hpl,qfI w⟩
 have hcl:clR X.K RN n=some C:=by unfold clR;rw [if_pos hn];exact hC
 obtain ⟨_,_,_,_,_,_,h,_⟩:=t.cls hcl
 rw [h];rfl
end
section
variable {P:Program} {w:World} {K:PySem.W.Frag} {mg:Str->Option Value} {base:Heap}
theorem qhl {x qual:Str} {st:Stmt} {f:Addr} {fd:FuncData} {N ps:List Str} {k:Nat} {O:List Nat} {body:MS} (F:Fun K x qual st f fd) (S:qy N ps (qd st)) (hO:∀ i∈O,ps.length<=i)
  (hb:∀ (cdv:Value) (A:Around) (outer:List PySem.Env) (s:Shared) (H:Hp) (E:XK) (B:Addr->Prop),uh k (A.deeper (envOfC qual (qd st) s.heap.objs.size f cdv))->AloneA (A.deeper (envOfC qual (qd st) s.heap.objs.size f cdv)) H ->
   DSs (qee CX0 P w K mg base N qual (qd st) f cdv A outer s H E).nox (cfn O [] B H (fun _=>False) (fun _ _=>False) fun _=>none) (qx st) body) :
  qb1 P w K mg base CX0 (k+1) f fd ps (spD K (dfn N.length ps.length body)):=by
 obtain ⟨oc,od,kV,doc,pm,an,cdv,ct,osl,rfl,lk,hcd⟩:=F.ex
 refine qlF lk hcd S (fun vs H Q E h => ?_) (fun A outer s H vs Q E hr al h => ?_)
 ·obtain ⟨ds,B,il,_,h⟩:=h
  unfold dfn at h
  by_cases e:ds.length=ps.length
  ·rw [il.length];exact e
  ·rw [if_neg e] at h;exact h.elim
 ·obtain ⟨ds,B,il,tb,h⟩:=h
  obtain ⟨t,p,wt⟩:=hb cdv A outer s H E B hr al
  refine ⟨t,p.nox,?_⟩
  unfold dfn at h
  by_cases e:ds.length=ps.length
  ·rw [if_pos e] at h
   refine wt (jJ N.length ds) (zP N vs) H _ (wE il tb (fun i hi=>by rw [e];exact hO i hi)) ?_
   have same:∀ {U:Env} {Z:St} {H':Hp},Rep K (cfn O [] B H (fun _=>False) (fun _ _=>False) fun _=>none) U Z H'->zD H H':=fun r b o hb=>r.kp b o hb fun z=>z
   cases eb:body (jJ N.length ds) with
   | bad=>rw [eb] at h;exact h.elim
   | exc z U=>rw [eb] at h;exact h.elim
   | ok fl =>
    rw [eb] at h
    cases fl with
    | nx U=>exact fun Z' H' r' _=>h .non H' (same r') rfl
    | rt d U=>exact fun v Z' H' r' i' _=>h v H' (same r') i'
    | bk U=>exact h.elim
    | ct U=>exact h.elim
  ·rw [if_neg e] at h;exact h.elim
structure qfJ (P:Program) (w:World) (K:PySem.W.Frag) (mg:Str->Option Value) (base:Heap) (k:Nat) (x:Str) (ps:List Str) (sp:Sp):Prop where
 ex:∃ f fd,qb1 P w K mg base CX0 k f fd ps sp/\mg x=some (.ref f)/\PySem.W.keepIn K (.ref f)=true/\ua K fd ps []
end
end L2.Sk
namespace L2.Sk
open PySem PySem.Spec PyProof.Rows
section
variable {U:Env} {f g:M D} {l:M (List D)} {p q:MS} {RN:List Str}
theorem va (F:List D->R D):u7 RN F l U=match l U with | .ok (xs,U1)=>(match F xs with | .ok d => .ok (d,U1) | .exc x _=>(if RN.contains x.cls then .exc x U1 else .bad) | .bad => .bad) | .exc x U' => .exc x U' | .bad => .bad:=by
 simp only [u7,bnd]
 cases l U with
 | ok z=>obtain ⟨z1,U1⟩:=z;cases F z1<;>rfl
 | exc x U'=>rfl
 | bad=>rfl
theorem qdp (F:List D->R D):qdj F l U=match l U with | .ok (xs,U1)=>(match F xs with | .ok d => .ok (d,U1) | _ => .bad) | .exc x U' => .exc x U' | .bad => .bad:=by
 simp only [qdj,bnd]
 cases l U with
 | ok z=>obtain ⟨z1,U1⟩:=z;cases F z1<;>rfl
 | exc x U'=>rfl
 | bad=>rfl
theorem qdq (x:Str):qb0 x l U=match l U with | .ok (ds,U')=>(if qM ds.length then .exc ⟨x,.non⟩ U' else .bad) | .exc z U' => .exc z U' | .bad => .bad:=rfl
theorem qis (F:List D->R D):qfH RN p F U=match p U with | .exc x U'=>(if RN.contains x.cls then (match F [.exc x.cls] with | .ok d => .ok (.rt d U') | _ => .bad) else .bad) | r=>r:=rfl
theorem qit (m:Str):qei RN m f U=match f U with | .ok (.exc n,U1)=>(if RN.contains n then .ok (.bl (m=="ValueError"||u9 n m),U1) else .bad) | .ok _ => .bad | .exc x U' => .exc x U' | .bad => .bad:=by
 simp only [qei,bnd]
 cases f U with
 | ok z =>
  obtain ⟨z1,U1⟩:=z
  cases z1<;>first | rfl | (dsimp only;split<;>rfl)
 | exc x U'=>rfl
 | bad=>rfl
theorem qfK (F:D->List D->Option D):qfD F f l U=match f U with
  | .ok (.lst ds,U1)=>(match l U1 with | .ok (ys,U2)=>(match F (.lst ds) ys with | some d => .ok (d,U2) | none => .bad) | .exc x U' => .exc x U' | .bad => .bad)
  | .ok _ => .bad | .exc x U' => .exc x U' | .bad => .bad:=by
 simp only [qfD,bnd]
 cases f U with
 | ok z =>
  obtain ⟨z1,U1⟩:=z
  cases z1 with
  | lst ds =>
   show bnd l (fun ys=>lift (F (D.lst ds) ys)) U1=(match l U1 with | .ok (ys,U2)=>(match F (.lst ds) ys with | some d => .ok (d,U2) | none => .bad) | .exc x U' => .exc x U' | .bad => .bad)
   unfold bnd
   cases l U1 with
   | ok z=>obtain ⟨z2,U2⟩:=z;(dsimp only;cases F (.lst ds) z2<;>rfl)
   | exc x U'=>rfl
   | bad=>rfl
  | _=>rfl
 | exc x U'=>rfl
 | bad=>rfl
end
theorem qm4 {n p:Nat} {body:MS} {ds:List D} {d:D} (h:ds.length=p) (e:∃ U,body (jJ n ds) = .ok (.rt d U)):qcC n p body ds = .ok d:=by
 obtain ⟨U,e⟩:=e
 unfold qcC;rw [if_pos h,e]
theorem qiu {n p:Nat} {body:MS} {ds:List D} (h:ds.length=p) (e:∃ U,body (jJ n ds) = .ok (.nx U)):qcC n p body ds = .ok .non:=by
 obtain ⟨U,e⟩:=e
 unfold qcC;rw [if_pos h,e]
theorem qiv {n p:Nat} {body:MS} {ds:List D} {x:Exn} {U:Env} (h:ds.length=p) (e:body (jJ n ds) = .exc x U):qcC n p body ds = .exc x U:=by
 unfold qcC;rw [if_pos h,e]
theorem qlK {p q:MS} {U U':Env} {x:Exn} (h:p U = .exc x U'):qZ p q U = .exc x U':=by unfold qZ;rw [h]
def unO (_:Nat) (c:Fc):Fc:={ c with O:=[],P:=[],B:=fun _=>True }
theorem Gr.unSame {c:Fc} {Z:St} {H H':Hp} {i:Nat} (g:Gr (unO i c).O Z H H'):zD H H':=fun b o h=>g.ext.at_ b o (fun j hj=>by cases hj) h
theorem Rep.un {K:Fr0} {c:Fc} {U:Env} {Z:St} {H:Hp} {i:Nat} (r:Rep K c U Z H) (_:i∈c.O):Rep K (unO i c) U Z H:=by
 have all:∀ b:Addr,Cn (unO i c) Z b:=fun b=>⟨trivial,fun j hj=>by cases hj⟩
 refine ⟨r.len,fun k d hk => ?_,fun j hj=>(by cases hj),fun k j a hk=>(by cases hk),⟨fun _ _=>trivial,r.b0.2⟩,r.kp,r.dm,fun j hj=>(by cases hj),fun j hj=>(by cases hj)⟩
 obtain ⟨v,h1,h2⟩:=r.val k d hk
 refine ⟨v,h1,.inr ⟨fun z=>(by cases z),?_⟩⟩
 rcases h2 with ⟨hk2,ds,a,xs,h3,h5,h6,h7⟩ | ⟨hk2,h3⟩
 ·subst h3 h5
  exact ⟨a,xs,rfl,all a,h6,IsL.ext Ext.refl (fun b _ _=>all b) h7⟩
 ·exact Is.ext Ext.refl (fun b _ _=>all b) h3
theorem Gr.un {c:Fc} {Z:St} {H H':Hp} {i:Nat} (g:Gr (unO i c).O Z H H'):Gr c.O Z H H' := .of_same g.unSame
theorem Rep.re {K:Fr0} {c:Fc} {U:Env} {Z:St} {H H':Hp} {i:Nat} (r:Rep K c U Z H) (_:i∈c.O) (_:Rep K (unO i c) U Z H') (g:Gr (unO i c).O Z H H'):Rep K c U Z H':=r.same g.unSame
open Classical in
open Classical in
noncomputable def qa8 (f:M Bool):M Bool:=fun U=>match f U with
 | .ok (d,U')=>if U'=U then .ok (d,U) else .bad
 | .exc x U'=>if U'=U then .exc x U else .bad
 | .bad => .bad
open Classical in
noncomputable def qoj (f:M (List D)):M (List D):=fun U=>match f U with
 | .ok (d,U')=>if immL d=true/\U'=U then .ok (d,U) else .bad
 | .exc x U'=>if U'=U then .exc x U else .bad
 | .bad => .bad
section
variable {X:Cx} {c:Fc} {e:Expr} {pos:Pos}
theorem qjP {i:Nat} {f:M Bool} (h:DT X (unO i c) e f) (ho:i∈c.O:=by exact of_decide_eq_true rfl):DT X c e (qa8 f):=by
 obtain ⟨t,p,w⟩:=h
 refine ⟨t,p,fun U Z H Q r h=>w U Z H Q (r.un ho) ?_⟩
 unfold qa8 at h
 cases ef:f U with
 | bad=>rw [ef] at h;exact h.elim
 | exc x U' =>
  rw [ef] at h
  simp only at h
  split at h
  ·rename_i e1
   subst e1
   exact fun H' r' g'=>h H' (r.re ho r' g') g'.un
  ·exact h.elim
 | ok q =>
  obtain ⟨d,U'⟩:=q
  rw [ef] at h
  simp only at h
  split at h
  ·rename_i e2
   subst e2
   exact fun H' r' g'=>h H' (r.re ho r' g') g'.un
  ·exact h.elim
def qkh (f:M (List D)):M D:=bnd f fun ds=>ret (.lst ds)
theorem qjQ {K:Fr0} {Z:St} {H:Hp} {Q:VK} {f:M (List D)} {U:Env} (r:Rep K c U Z H) (h:Wp K c Z H Q (qkh f U)):WpN K c Z H Q (f U):=by
 unfold qkh bnd at h
 cases ef:f U with
 | bad=>rw [ef] at h;exact h
 | exc x U'=>rw [ef] at h;exact h
 | ok q =>
  rw [ef] at h
  exact fun a xs H' hn r' ap ha him il g'=>h _ H' r' ⟨a,xs,rfl,r.new hn,ha,IsL.ext Ext.refl (fun _ h _=>h.1) il⟩ g'
theorem qm5 {f:M (List D)} (h:DN X c e f):DE X c e (qkh f):=by
 obtain ⟨t,p,w⟩:=h
 exact ⟨t,p,fun U Z H Q r h=>w U Z H Q r (qjQ r h)⟩
def qow:List D->Option (List D)
 | [.int i,.int j]=>if decide (-(2 ^ 62)<=i)&&decide (i<2 ^ 62)&&decide (-(2 ^ 62)<=j)&&decide (j<2 ^ 62) then some (qa3 i (j-i).toNat) else none
 | _=>none
theorem XL2.un {i:Nat} {cl:Str->Option Addr} {E:XK} (L:XL2 X c cl E):XL2 X (unO i c) cl E:=⟨L.pass,L.wish⟩
def qiw (i n:Nat) (g:D->Env->Option Env) (b:MS):Nat->MS
 | 0,U=>match zf i U with
  | some ds=>if ds.length<=n then .ok (.nx U) else .bad
  | none => .bad
 | m + 1,U=>match zf i U with
  | some ds=>match ds[n-(m+1)]? with
   | none => .bad
   | some d=>match g d U with
    | none => .bad
    | some U1=>match b U1 with
     | .ok (.nx U2)=>qiw i n g b m U2
     | .ok (.ct U2)=>qiw i n g b m U2
     | .ok (.bk U2) => .ok (.nx U2)
     | .ok (.rt r U2) => .ok (.rt r U2)
     | .exc x U2 => .exc x U2
     | .bad => .bad
  | none => .bad
end
section
variable {U:Env} {f:M D} {t:M Bool} {n:M (List D)}
open Classical in
open Classical in
theorem qjR:qa8 t U=match t U with | .ok (d,U')=>(if U'=U then .ok (d,U) else .bad) | .exc x U'=>(if U'=U then .exc x U else .bad) | .bad => .bad:=rfl
open Classical in
theorem qlL:qkh n U=match n U with | .ok (ds,U') => .ok (.lst ds,U') | .exc x U' => .exc x U' | .bad => .bad:=by
 unfold qkh bnd
 cases n U<;>rfl
end
theorem qm6 {f:M Bool} {U:Env} {b:Bool} (h:f U = .ok (b,U)):qa8 f U = .ok (b,U):=by
 rw [qjR,h]
 exact if_pos rfl
def qmw (K:Fr0) (neg:Bool):R2:=fun x y H Q=>∃ d e ds A,Is K A H d x/\Is K A H e y/\sqD e=some ds/\u3 d=true/\u3 e=true/\Q (.bl (if neg then !((toPDs ds).any fun y=>PyData.eqv y (zG d)) else (toPDs ds).any fun y=>PyData.eqv y (zG d))) H
def inA (x y:D):Option D:=match sqD y with
 | some ds=>if u3 x&&u3 y then some (.bl ((toPDs ds).any fun y=>PyData.eqv y (zG x))) else none
 | none=>none
section
variable {X:Cx}
theorem qa9 {d:D} (h:u3 d=true):(zG d).canLay0=true/\(zG d).depth<=50:=by
 unfold u3 at h
 rw [Bool.and_eq_true,decide_eq_true_eq] at h
 exact h
theorem qlM {k:Nat} (hr:jA k X.A):OpR X (compareOp .In) (qmw X.K false):=by
 intro pins s Z H x y v u Q I rx ry h
 obtain ⟨d,e,ds,A,h1,h2,es,o1,o2,q⟩:=h
 obtain ⟨as,r1,_⟩:=yp I (qaz o1) h1 rx
 obtain ⟨bs,r2,_⟩:=yp I (qaz o2) h2 ry
 have c1:=(qa9 o1).1
 have c2:=(qa9 o2).1
 have u1:=(qa9 o1).2
 have u:=hr.units
 cases e<;>simp only [sqD] at es<;>try (cases es;done)
 ·cases es
  exact SeqAt.in_tuple_reads r2 r1 (by simpa [zG,PyData.canLay0] using c2) c1 (by omega) ⟨.bl _,H,I,rfl,by simpa using q⟩
 ·cases es
  exact SeqAt.in_list_reads r2 r1 (by simpa [zG,PyData.canLay0] using c2) c1 (by omega) ⟨.bl _,H,I,rfl,by simpa using q⟩
end
theorem qjS {K:Fr0}:OpS K inA (qmw K false):=by
 intro A H x y d v u Q hn ix iy e k
 unfold inA at e
 split at e
 ·rename_i ds es
  obtain ⟨e1,e2⟩:=zx e
  subst e2
  rw [Bool.and_eq_true] at e1
  exact ⟨x,y,ds,A,ix,iy,es,e1.1,e1.2,k _ H (zD.refl H) rfl⟩
 ·cases e
def inB (x y:D):Option D:=(inD x y).or (inA x y)
theorem qlN {X:Cx} {k:Nat} (hr:jA k X.A):OpR X (compareOp .In) (fun x y H Q=>rIn X.K false x y H Q\/qmw X.K false x y H Q):=OpR.or qeV (qlM hr)
theorem qjT {K:Fr0}:OpS K inB (fun x y H Q=>rIn K false x y H Q\/qmw K false x y H Q):=by
 intro A H x y d v u Q hn ix iy e k
 unfold inB at e
 cases e1:inD x y with
 | some b=>rw [e1] at e;exact .inl (qlC A H x y d v u Q hn ix iy (by rw [e1];exact e) k)
 | none=>rw [e1] at e;exact .inr (qjS A H x y d v u Q hn ix iy e k)
section
variable {prog:Program} {w:World} {A:Around} {R:Result->Shared->Prop} {I:Addr} {fp wr:List Addr} {n:Nat} {P:Nat->Value->Prop} {St:Nat->Heap->Prop}
end
section
variable {prog:Program} {w:World} {A:Around} {E:Value->Shared->Prop} {s:Shared}
end
def qlO:List D->Option (List (List Int))
 | []=>some []
 | .tup ts::r=>match uf ts,qlO r with
  | some n,some ns=>some (n::ns)
  | _,_=>none
 | _=>none
def qm7 (ns:List (List Int)) (i:Nat):List Int:=(ns[i]?).getD []
def qm8 (ns:List (List Int)):Nat:=argBest (fun i j=>HT.lexLt (qm7 ns i) (qm7 ns j)) (ns.length-1)
def qok:List D->Option D
 | [.lst ds]=>match qlO ds with
  | some (n::ns)=>some (.tup ((qm7 (n::ns) (qm8 (n::ns))).map .int))
  | _=>none
 | _=>none
section
variable {X:Cx}
end
def qnK (x:D) (ys:List D):Option D:=match x,ys with
 | .lst ds,[d]=>if ds.all u3&&u3 d then (ds.findIdx? fun e=>PyData.eqv (zG e) (zG d)).map fun j => .int j else none
 | _,_=>none
section
variable {prog:Program} {w:World} {A:Around} {E:Value->Shared->Prop} {s:Shared}
end
section
variable {X:Cx} {c:Fc} {a b e:Expr} {pos:Pos} {es:List Expr} {kk:Nat} {tp:Pos}
end
section
variable {X:Cx} {c:Fc} {a b e:Expr} {pos:Pos} {es:List Expr} {kk:Nat} {tp:Pos}
def qlP:List D->Option (List D)
 | [.lst xs]=>some (qjD 0 xs)
 | _=>none
def qlQ (f:M (List D)):M (List D):=bnd f fun ds=>lift (qlP ds)
end
section
variable {X:Cx} {c:Fc} {pos:Pos}
end
section
variable {prog:Program} {w:World} {A:Around} {E:Value->Shared->Prop} {s:Shared}
end
theorem AloneA.laid {A:Around} {H:Hp} {p:Addr} {o:HO} (x:AloneA A H) (h:H p=none):AloneA A (upd H p o):=by
 obtain ⟨e,oe,u,vs,h1,h2,h3⟩:=x
 exact ⟨e,oe,u,vs,h1,by rw [qj (qE h2 h)];exact h2,h3⟩
theorem AloneA.rep {K:Fr0} {c:Fc} {A:Around} (x:AloneA A c.H0) (hio:∀ a,¬ c.Io a) (U:Env) (Z:St) (H:Hp) (r:Rep K c U Z H):AloneA A H:=by
 obtain ⟨e,oe,u,vs,h1,h2,h3⟩:=x
 exact ⟨e,oe,u,vs,h1,r.kp _ _ h2 (hio e),h3⟩
end L2.Sk
namespace L2
open PySem PySem.Spec PyProof.Rows L2.Sk
structure qol (P:Program) (w:World) (K:PySem.W.Frag) (tg:Expr) (J:It) (fp:List Addr) (it:Addr) (tn:Nat->Heap->Prop):Prop where
 mem:it∈fp
 obj:∀ i h,tn i h->∀ b∈fp,∃ o,h.get? b=some o/\∀ v,o.data ≠ .cell v
 keep:∀ i h h',tn i h->(∀ b∈fp,∀ o,h.get? b=some o->h'.get? b=some o)->tn i h'
 item:∀ (X:Cx),X.prog=P->X.w=w->X.K=K->AloneA X.A X.H₀->∀ (i:Nat) (pins:List (Addr×Obj)) (s:Shared) (Z:St) (H:Hp) (E:Value->Shared->Prop),Inv X pins Z H s->(∀ b∈fp,qcm X pins H b)->tn i s.heap->J.go i H ->
  wpAny (model P w) X.A (pyNext (.ref it)) (fun r s1=>∃ u,r=some u /\
   wpAny (model P w) X.A (letOwnedTupleGo tg (.ref it) u) (fun _ s2=>∃ x H',Inv X pins Z H' s2/\z9 x u/\J.yld i H x H'/\tn (i+1) s2.heap/\∀ b∈fp,H' b=none) E s1) E s
 done:∀ (X:Cx),X.prog=P->X.w=w->X.K=K->AloneA X.A X.H₀->∀ (i:Nat) (pins:List (Addr×Obj)) (s:Shared) (Z:St) (H:Hp) (E:Value->Shared->Prop),Inv X pins Z H s->(∀ b∈fp,qcm X pins H b)->tn i s.heap->J.stop i H ->
  wpAny (model P w) X.A (pyNext (.ref it)) (fun r s1=>r=none/\Inv X pins Z H s1) E s
 self:∀ (A:Around) (i:Nat) (s:Shared) (Q:Value->Shared->Prop) (E:Value->Shared->Prop),tn i s.heap->Q (.ref it) s->wpAny (model P w) A (pyIter (.ref it)) Q E s
section
variable {X:Cx} {tg:Expr}
end
end L2
namespace L2.Sk
open PySem PySem.Spec PyProof.Rows
section
variable {X:Cx} {tg iter elt:Expr} {ifs:List Expr} {scope:Scope} {pos:Pos} {wi:TI} {N':List Str} {nt:Nat} {fr:List Nat}
end
section
variable {X:Cx} {c:Fc} {tg a b e:Expr} {pos:Pos}
end
theorem uh.units {k:Nat} {A:Around} (r:uh k A):A.units+64<cLine:=by have:=r.un;omega
section
variable {X:Cx} {c:Fc} {e:Expr} {es:List Expr} {pos:Pos}
theorem qhm {k:Nat} {f:Addr} {fd:FuncData} {ps:List Str} {F:List D->R D} {x:Str} {p:Pos} {g:M (List D)} (hal:∀ U Z H,Rep X.K c U Z H->AloneA X.A H)
  (G:qb1 X.prog X.w X.K X.mg X.base CX0 k f fd ps (spD X.K F)) (hr:uh k X.A) (hg:Gl X x) (hm:X.mg x=some (.ref f)) (hk:PySem.W.keepIn X.K (.ref f)=true) (hb:ua X.K fd ps [])
  (ha:DA X c (e::es) g) (hd:(x==("__debug__":Str))=false:=by decide) (he:starEach (e::es) X.env=(false,eval e X.env)::starEach es X.env:=by rfl) (hpl:(backTo pos (starEach es X.env)).any (·.1)=false:=by rfl):DE X c (.Call (.Name x p) (e::es) [] pos) (qp F g):=by
 obtain ⟨t,pa,w⟩:=ha
 refine ⟨_,qdk (E:=fun _ _ _=>False) G hr hg hm hk hb .nil (fun _ _ _ _ _ _ _ z=>z.elim) pa hd he hpl,fun U Z H Q r h=>w U Z H _ r (WpL.bnd h fun ds U1 vs H1 r1 i1 g1 h1=>⟨hal _ _ _ r1,?_⟩)⟩
 rw [List.append_nil]
 refine ⟨ds,Cn c Z,i1,r1.tb,?_⟩
 cases ef:F ds with
 | bad=>simp only [ef] at h1;exact h1.elim
 | exc z U'=>simp only [ef] at h1;exact h1.elim
 | ok d =>
  simp only [ef] at h1
  exact fun v H' sm i=>h1 v H' (r1.same sm) (Is.ext Ext.refl (fun a ha _=>ha.elim id r1.new) i) (.of_same sm)
end
section
variable {prog:Program} {w:World} {A:Around} {R:Result->Shared->Prop} {I:Addr} {fp wr:List Addr} {n:Nat} {P:Nat->Value->Prop} {St:Nat->Heap->Prop} {dv:Value}
end
section
variable {prog:Program} {w:World} {A:Around} {E:Value->Shared->Prop} {s:Shared}
end
section
variable {prog:Program} {w:World} {A:Around} {R:Result->Shared->Prop} {I:Addr} {fp wr:List Addr} {n:Nat} {P:Nat->Value->Prop} {St:Nat->Heap->Prop} {dv:Value}
end
section
variable {prog:Program} {w:World} {A:Around} {E:Value->Shared->Prop} {s:Shared}
end
section
variable {prog:Program} {w:World} {A:Around} {E:Value->Shared->Prop} {s:Shared}
end
section
variable {X:Cx}
end
section
variable {X:Cx} {c:Fc} {a b e:Expr} {pos:Pos}
def qix (F:List D->List D->Option D) (f g:M (List D)):M D:=bnd f fun xs=>bnd g fun zs=>lift (F xs zs)
def CallKS (K:Fr0) (F:List D->List D->Option D) (r:List V->List V->Hp->VK->Prop):Prop:=∀ A H xs zs d vs ws (Q:VK),(∀ a,H a=none->A a)->IsL K A H xs vs->IsL K A H zs ws->F xs zs=some d->(∀ u H',zD H H'->Is K A H' d u->Q u H')->r vs ws H Q
end
def qom (xs zs:List D):Option D:=match xs,zs with
 | [.lst ds],[z]=>(uf ds).map fun ns=>if ns=[] then z else .int (qmu ns)
 | _,_=>none
def slB (x:D) (lo hi:Option Int):Option D:=match x with
 | .tup ds=>some (.tup (qey ds lo hi))
 | .lst ds=>some (.lst (qey ds lo hi))
 | _=>none
def qfL (f:M D) (g k:M (Option Int)):M D:=bnd f fun d=>bnd g fun l=>bnd k fun u=>lift (slB d l u)
section
variable {X:Cx} {c:Fc} {a b e:Expr} {pos p2:Pos}
theorem vb {lo hi:Option Expr} {f:M D} {g k:M (Option Int)} (ha:DE X c a f) (hl:DO X c lo g) (hu:DO X c hi k):DE X c (.Subscript a (.Slice lo hi none p2) pos) (qfL f g k):=by
 obtain ⟨ta,pa,wa⟩:=ha
 obtain ⟨tl,pl,wl⟩:=hl
 obtain ⟨tu,pu,wu⟩:=hu
 refine ⟨_,qgF (SlR.or qld qi3) pa pl pu,fun U Z H Q r h=>wa U Z H _ r (Wp.bnd h fun d U1 v H1 r1 i1 g1 h1 => ?_)⟩
 refine wl U1 Z H1 _ r1 (fun l U2 e2 H2 r2 g2 => ?_) (fun x U2 e2 H2 r2 g2 => ?_) (fun e2 => ?_)
 ·rw [qhY e2] at h1
  have h1:=h1.gr g2
  refine wu U2 Z H2 _ r2 (fun u U3 e3 H3 r3 g3 => ?_) (fun x U3 e3 H3 r3 g3 => ?_) (fun e3 => ?_)
  ·rw [qhY e3] at h1
   obtain ⟨d',e4,h4⟩:=h1.lift
   have i3:=g3.is (g2.is i1)
   clear h1
   cases d<;>simp only [slB] at e4<;>try (cases e4;done)
   ·rename_i ds
    cases e4
    obtain ⟨a,xs,rfl,ta,il⟩:=i3
    refine .inl ?_
    by_cases hw:HT.sIx xs.length 0 l=0/\HT.sIx xs.length xs.length u=xs.length
    ·refine .inl ⟨a,xs,rfl,ta.sq,hw,h4 _ H3 r3 ⟨a,xs,rfl,ta,?_⟩ g3⟩
     have e5:qey ds l u=ds:=by
      unfold qey
      rw [<- il.length,hw.1,hw.2]
      simp [il.length]
     rw [e5];exact il
    ·refine .inr ⟨a,xs,rfl,ta.sq,hw,fun p hp=>h4 _ _ (r3.laid hp _) ⟨p,qgs xs l u,rfl,.inl qk,?_⟩ (g3.trans (.of_same (qv hp _)))⟩
     refine IsL.ext (Ext.of_same (qv hp _)) (fun _ h _=>h) ?_
     unfold qey qgs
     rw [<- il.length]
     exact IsL.take _ (IsL.drop _ il)
   ·rename_i ds
    cases e4
    obtain ⟨a,xs,rfl,hA,ta,il⟩:=i3
    refine .inr ⟨a,xs,rfl,.inl (.inl ta),fun p hp=>h4 _ _ (r3.laid hp _) ⟨p,qgs xs l u,rfl,r3.new hp,qk,?_⟩ (g3.trans (.of_same (qv hp _)))⟩
    refine IsL.ext (Ext.of_same (qv hp _)) (fun _ h _=>h) ?_
    unfold qey qgs
    rw [<- il.length]
    exact IsL.take _ (IsL.drop _ il)
  ·unfold bnd at h1;rw [e3] at h1;exact h1 H3 r3 g3
  ·unfold bnd at h1;rw [e3] at h1;exact h1
 ·unfold bnd at h1;rw [e2] at h1;exact h1 H2 r2 g2
 ·unfold bnd at h1;rw [e2] at h1;exact h1
def qm9 (x y:D):Option (List D):=match x,y with
 | .lst ds,.int k=>if (decide (-(2 ^ 62)<=k)&&decide (k<2 ^ 62))&&(qM (ds.length*k.toNat)&&immL ds) then some (List.replicate k.toNat ds).flatten else none
 | _,_=>none
def qnL (f g:M D):M (List D):=bnd f fun x=>bnd g fun y=>lift (qm9 x y)
def qon (f:M D):M (List D):=bnd f fun x=>lift (match x with
 | .lst ds=>if immL ds then some ds else none
 | .tup ds=>if immL ds then some ds else none
 | _=>none)
def ui (i:Nat) (f:M D):M D:=fun U=>match zf i U with
 | none => .bad
 | some _=>(bnd f fun d U=>match d,zf i U with
  | .lst es,some ds=>if immL es&&qM (ds.length+es.length) then .ok (.non,U.set i (some (.lst (ds++es)))) else .bad
  | _,_ => .bad) U
theorem qfM {i:Nat} {x:Str} {p1 apos:Pos} {f:M D} (he:DE X c e f) (ho:i∈c.O:=by exact of_decide_eq_true rfl) (hN:X.N[i]? = some x:=by rfl) (hv:Vis X.env.scope x:=by first | exact Or.inl rfl | exact Or.inr (Or.inl rfl) | exact Or.inr (Or.inr rfl)) (hd:(x==("__debug__":Str))=false:=by decide) (hcd:(x==("__classdict__":Str))=false:=by decide)
  (hbase:attributeBase (.Name x p1) "extend" X.env (eval (.Name x p1) X.env)=eval (.Name x p1) X.env:=by rfl)
  (hfew:((backTo pos (starEach [e] X.env)).all (fun x => !x.1)&&(backToKw pos (keywordEach [] X.env)).all (fun x=>x.1.isSome)
   && decide ([e].length+([]:List Keyword).length+(if ([]:List Keyword).isEmpty then 0 else 1)<30))=true:=by rfl)
  (hline:(apos.endLine==pos.line)=true:=by rfl) (hs:starEach [e] X.env=(false,eval e X.env)::starEach [] X.env:=by rfl) (hplain:(backTo pos (starEach [] X.env)).any (·.1)=false:=by rfl) :
  DE X c (.Call (.Attribute (.Name x p1) "extend" apos) [e] [] pos) (ui i f):=by
 obtain ⟨t,p,w⟩:=he
 refine ⟨_,qeW PySem.F.plainAttrs_list PySem.F.slot_list_extend PySem.F.type_list_extend qeX (jO hN hv hd hcd) (zQ p ya hs) hbase hfew hline hs hplain,fun U Z H Q r h => ?_⟩
 unfold ui at h
 cases e0:zf i U with
 | none=>rw [e0] at h;exact h.elim
 | some ds0 =>
  simp only [e0] at h
  obtain ⟨l,xs0,_,hl,hH,_⟩:=r.getLO ho e0
  refine ⟨.ref l,hl,.inl ⟨rfl,xs0,.inl (.inl hH)⟩,w U Z H _ r (Wp.bnd h fun d U1 v H1 r1 i1 g1 h1 => ?_)⟩
  cases e1:zf i U1 with
  | none=>cases d<;>simp only [e1] at h1<;>exact h1.elim
  | some ds =>
   cases d with
   | lst es =>
    simp only [e1] at h1
    by_cases hb:(immL es&&qM (ds.length+es.length))=true
    ·rw [if_pos hb] at h1
     rw [Bool.and_eq_true] at hb
     obtain ⟨l',xs,him,hl',hH',il⟩:=r1.getLO ho e1
     rw [hl] at hl'
     cases hl'
     obtain ⟨b,zs,rfl,hA,hB,iz⟩:=i1
     have hsz:ds.length+es.length<=sizeLine:=of_decide_eq_true hb.2
     have ext:Ext (Cn c Z) H1 (upd H1 l (.lst (xs++zs))):=⟨fun b us hb=>zF (uR hb hH' (by intro z;cases z)) hb,fun b o u hb=>zF (uR hb hH' (by intro z;cases z)) hb,fun b o hb hq=>zF (fun e=>hb.2 i ho (by rw [hl,e])) hq⟩
     obtain ⟨r2,g2⟩:=r1.io (H':=upd H1 l (.lst (xs++zs))) (bs:=ds++es) ho hl (fun b o hb ho=>zF hb ho) qk trivial
      (IsL.append (IsL.ext ext (fun _ h _=>h) il) (IsL.ext ext (fun _ h _=>h) iz)) (fun b hb=>qcx hb)
     exact ⟨l,b,xs,zs,rfl,rfl,hH',hB,by rw [il.length,iz.length];exact hsz,h1 _ _ r2 rfl g2⟩
    ·rw [if_neg hb] at h1;exact h1.elim
   | _=>simp only [e1] at h1;exact h1.elim
theorem qhn {pins:List (Addr×Obj)} {Z:St} {H:Hp} {s:Shared} (I:Inv X pins Z H s) (j:Nat):Inv X pins (Z.set j none) H s:=by
 refine ⟨I.ok,I.os,I.bare,I.base,?_,I.cell,I.free,I.freeC,I.pin,I.hok,by rw [lS_];exact I.len⟩
 obtain ⟨m,hn,hl⟩:=I.loc
 refine ⟨m,hn,fun i x v e1 e2 e3 => ?_⟩
 by_cases hij:j=i
 ·subst hij
  rw [List.getElem?_set] at e2
  simp only [if_true] at e2
  split at e2<;>cases e2
 ·rw [List.getElem?_set_ne hij] at e2
  exact hl i x v e1 e2 e3
def qho (i j:Nat):MS:=fun U=>match zf j U with
 | some ds => .ok (.nx ((U.set i (some (.lst ds))).set j none))
 | none => .bad
theorem Rep.moved {K:Fr0} {U:Env} {Z:St} {H:Hp} {i j:Nat} {ds:List D} (r:Rep K c U Z H) (hj:j∈c.O) (hP:j ∉ c.P) (hi:i ∉ c.O) (hd:U[j]? = some (some (.lst ds))) (hil:i<Z.length):∃ a,Z[j]? = some (some (.ref a)) /\
  Rep K c ((U.set i (some (.lst ds))).set j none) ((Z.set i (some (.ref a))).set j none) H/\GrS c.O Z H ((Z.set i (some (.ref a))).set j none) H:=by
 obtain ⟨ds',a,xs,e1,hσ,hH,il⟩:=r.getO hj hd
 cases e1
 have hij:i≠j:=fun e=>hi (e▸hj)
 have hB:c.B a:=by
  obtain ⟨a',_,e2,_,e3⟩:=r.own j hj _ hσ
  cases e2
  exact r.b0.1 a (e3.resolve_right fun z=>hP z.1)
 have get:∀ k,k≠i->k≠j->((Z.set i (some (.ref a))).set j none)[k]? = Z[k]? := fun k h1 h2=>by
  rw [List.getElem?_set_ne (Ne.symm h2),List.getElem?_set_ne (Ne.symm h1)]
 have getj:∀ {v:V},((Z.set i (some (.ref a))).set j none)[j]? ≠ some (some v):=fun {v} e=>by
  rw [List.getElem?_set] at e
  simp only [if_true] at e
  split at e<;>cases e
 have cl:∀ b,Cl c.O Z b->Cl c.O ((Z.set i (some (.ref a))).set j none) b:=fun b hb k hk e=>by
  by_cases h2:k=j
  ·subst h2;exact getj e
  ·exact hb k hk (by rw [<- get k (fun e=>hi (e▸hk)) h2];exact e)
 have cla:Cl c.O ((Z.set i (some (.ref a))).set j none) a:=fun k hk e=>by
  by_cases h2:k=j
  ·subst h2;exact getj e
  ·rw [get k (fun e=>hi (e▸hk)) h2] at e
   exact h2 (r.inj k j a hk hj e hσ)
 refine ⟨a,hσ,⟨?_,fun k d hk => ?_,fun k hk v hv => ?_,fun k l b hk hl h1 h2 => ?_,r.b0,r.kp,r.dm,r.pO,fun k hk => ?_⟩,⟨Ext.refl,fun b hb _=>cl b hb,fun _ h=>h⟩⟩
 ·simp only [lS_];exact r.len
 ·have kj:k≠j:=fun e=>by
   subst e
   rw [List.getElem?_set] at hk
   simp only [if_true] at hk
   split at hk<;>cases hk
  rw [List.getElem?_set_ne (Ne.symm kj)] at hk
  by_cases ki:k=i
  ·subst ki
   rw [List.getElem?_set_self (by rw [r.len];exact hil)] at hk
   cases hk
   refine ⟨.ref a,by rw [List.getElem?_set_ne (Ne.symm kj),List.getElem?_set_self hil],.inr ⟨hi,a,xs,rfl,⟨hB,cla⟩,hH,IsL.ext Ext.refl (fun b hb _=>⟨hb.1,cl b hb.2⟩) il⟩⟩
  ·rw [List.getElem?_set_ne (Ne.symm ki)] at hk
   obtain ⟨v,h1,h2⟩:=r.val k d hk
   refine ⟨v,by rw [get k ki kj];exact h1,?_⟩
   rcases h2 with ⟨g1,ds2,b2,xs2,g3,g5,g6,g7⟩ | ⟨h3,h4⟩
   ·exact .inl ⟨g1,ds2,b2,xs2,g3,g5,g6,IsL.ext Ext.refl (fun b hb _=>⟨hb.1,cl b hb.2⟩) g7⟩
   ·exact .inr ⟨h3,Is.ext Ext.refl (fun b hb _=>⟨hb.1,cl b hb.2⟩) h4⟩
 ·have kj:k≠j:=fun e=>by subst e;exact getj hv
  rw [get k (fun e=>hi (e▸hk)) kj] at hv
  exact r.own k hk v hv
 ·have kj:k≠j:=fun e=>by subst e;exact getj h1
  have lj:l≠j:=fun e=>by subst e;exact getj h2
  rw [get k (fun e=>hi (e▸hk)) kj] at h1
  rw [get l (fun e=>hi (e▸hl)) lj] at h2
  exact r.inj k l b hk hl h1 h2
 ·have kO:=r.pO k hk
  rw [get k (fun e=>hi (e▸kO)) (fun e=>hP (e▸hk))]
  exact r.ps k hk
theorem qjU {i j:Nat} {x y:Str} {pos' p1:Pos} (hN:X.N.Nodup) (hj:j∈c.O:=by exact of_decide_eq_true rfl) (hP:j ∉ c.P:=by exact of_decide_eq_false rfl) (ho:i ∉ c.O:=by exact of_decide_eq_false rfl) (hi:X.N[i]? = some x:=by rfl) (hjN:X.N[j]? = some y:=by rfl) (hx:Loc X.env.scope x:=by first | exact Or.inl rfl | exact Or.inr rfl)
  (hv:Vis X.env.scope y:=by first | exact Or.inl rfl | exact Or.inr (Or.inl rfl) | exact Or.inr (Or.inr rfl)) (hd:(y==("__debug__":Str))=false:=by decide) (hcd:(y==("__classdict__":Str))=false:=by decide)
  (hs:swapsWith (.Name y p1) (some (.Name x pos')) pos.line X.env=pure false:=by rfl) (hf:X.fn x=true\/X.env.scope.names.lookup x=some .local:=by first | exact .inl rfl | exact .inr rfl | assumption) :
  DS X c (.Assign [.Name x pos'] (.Name y p1) pos) (qho i j):=by
 refine ⟨fun D Z H=>Z.length=X.N.length->∃ v,Z[j]? = some (some v)/\D.nx ((Z.set i (some v)).set j none) H,?_,fun U Z H D r h hl => ?_⟩
 ·intro pins s Z H D I hq
  obtain ⟨v,hσ,q⟩:=hq I.len
  have p:=qc5 (pos:=pos) (pos':=pos') hN hi hx (jO (pos:=p1) hjN hv hd hcd) hs hf pins s Z H ({ D with nx:=fun Z' H'=>Z'=Z.set i (some v)/\H'=H }:qev) I ⟨v,hσ,rfl,rfl⟩
  refine wpAny_mono p (fun fl s1 h1 => ?_) (fun _ _ z=>z)
  cases fl with
  | next =>
   obtain ⟨Z1,H1,I1,rfl,rfl⟩:=h1
   exact ⟨_,_,qhn I1 j,q⟩
  | brk=>exact h1
  | cont=>exact h1
  | ret u=>exact h1
 ·unfold qho at h
  cases e0:zf j U with
  | none=>rw [e0] at h;exact h.elim
  | some ds =>
   rw [e0] at h
   have hd:U[j]? = some (some (.lst ds)):=by
    unfold zf at e0
    split at e0
    ·rename_i z e;cases e0;exact e
    ·cases e0
   have hil:i<Z.length:=by rw [hl];exact (gI_.mp hi).1
   obtain ⟨a,hσ,r2,g2⟩:=r.moved hj hP ho hd hil
   exact ⟨.ref a,hσ,h _ H r2 g2⟩
def qnM (f:M (List D)):M (List D):=fun U=>match f U with
 | .ok ([.tup _],_)=>qjF f U
 | _=>qlQ f U
end
section
variable {U:Env} {f g:M D} {l k:M (List D)}
theorem qmx (F:List D->List D->Option D):qix F l k U=match l U with | .ok (xs,U1)=>(match k U1 with | .ok (zs,U2)=>(match F xs zs with | some d => .ok (d,U2) | none => .bad) | .exc x U' => .exc x U' | .bad => .bad) | .exc x U' => .exc x U' | .bad => .bad:=by
 simp only [qix,bnd]
 cases l U with
 | ok z =>
  obtain ⟨z1,U1⟩:=z
  dsimp only
  cases k U1 with
  | ok z=>obtain ⟨z2,U2⟩:=z;(dsimp only;cases F z1 z2<;>rfl)
  | exc x U'=>rfl
  | bad=>rfl
 | exc x U'=>rfl
 | bad=>rfl
theorem qnN:qnL f g U=match f U with | .ok (x,U1)=>(match g U1 with | .ok (y,U2)=>(match qm9 x y with | some ds => .ok (ds,U2) | none => .bad) | .exc x U' => .exc x U' | .bad => .bad) | .exc x U' => .exc x U' | .bad => .bad:=by
 simp only [qnL,bnd]
 cases f U with
 | ok z =>
  obtain ⟨z1,U1⟩:=z
  dsimp only
  cases g U1 with
  | ok z=>obtain ⟨z2,U2⟩:=z;(dsimp only;cases qm9 z1 z2<;>rfl)
  | exc x U'=>rfl
  | bad=>rfl
 | exc x U'=>rfl
 | bad=>rfl
theorem qfN (i:Nat):ui i f U=match zf i U with
  | none => .bad
  | some _=>(match f U with | .ok (d,U1)=>(match d,zf i U1 with | .lst es,some ds=>(if immL es&&qM (ds.length+es.length) then .ok (.non,U1.set i (some (.lst (ds++es)))) else .bad) | _,_ => .bad) | .exc x U' => .exc x U' | .bad => .bad):=by
 unfold ui
 cases zf i U with
 | none=>rfl
 | some z =>
  simp only [bnd]
  cases f U with
  | ok z=>obtain ⟨z1,U1⟩:=z;rfl
  | exc x U'=>rfl
  | bad=>rfl
theorem qdr (p q:M (Option Int)):qfL f p q U=match f U with | .ok (d,U1)=>(match p U1 with | .ok (l,U2)=>(match q U2 with | .ok (u,U3)=>(match slB d l u with | some r => .ok (r,U3) | none => .bad) | .exc x U' => .exc x U' | .bad => .bad) | .exc x U' => .exc x U' | .bad => .bad) | .exc x U' => .exc x U' | .bad => .bad:=by
 simp only [qfL,bnd]
 cases f U with
 | ok z =>
  obtain ⟨z1,U1⟩:=z
  dsimp only
  cases p U1 with
  | ok z =>
   obtain ⟨z2,U2⟩:=z
   dsimp only
   cases q U2 with
   | ok z=>obtain ⟨z3,U3⟩:=z;(dsimp only;cases slB z1 z2 z3<;>rfl)
   | exc x U'=>rfl
   | bad=>rfl
  | exc x U'=>rfl
  | bad=>rfl
 | exc x U'=>rfl
 | bad=>rfl
end
section
variable {X:Cx} {c:Fc} {e:Expr} {es:List Expr} {pos:Pos}
theorem dC {k j:Nat} {ps:List Str} {F:List D->R D} {x:Str} {p:Pos} {g:M (List D)} (C:zn X.prog X.w X.K X.mg X.base k x ps (spD X.K F)) (hr:jA j X.A) (ha:DA X c (e::es) g)
  (hk:k<=j:=by decide) (hg:Gl X x:=by rfl) (hd:(x==("__debug__":Str))=false:=by decide) (he:starEach (e::es) X.env=(false,eval e X.env)::starEach es X.env:=by rfl) (hpl:(backTo pos (starEach es X.env)).any (·.1)=false:=by rfl):DE X c (.Call (.Name x p) (e::es) [] pos) (qp F g):=by
 obtain ⟨f,fd,G,m,kk,b⟩:=C.ex
 exact qjm G (hr.mono hk) hg m kk b ha hd he hpl
theorem nC {k j:Nat} {ps:List Str} {F:List D->R D} {x:Str} {p:Pos} {g:M (List D)} (C:zn X.prog X.w X.K X.mg X.base k x ps (spD X.K F)) (hr:jA j X.A) (ha:DA X c (e::es) g)
  (hk:k<=j:=by decide) (hg:Gl X x:=by rfl) (hd:(x==("__debug__":Str))=false:=by decide) (he:starEach (e::es) X.env=(false,eval e X.env)::starEach es X.env:=by rfl) (hpl:(backTo pos (starEach es X.env)).any (·.1)=false:=by rfl):DN X c (.Call (.Name x p) (e::es) [] pos) (qbU F g):=by
 obtain ⟨f,fd,G,m,kk,b⟩:=C.ex
 exact qjw G (hr.mono hk) hg m kk b ha hd he hpl
theorem iC {k j i:Nat} {ps:List Str} {F:List D->List D->R (D×List D)} {x y:Str} {p p1:Pos} {g:M (List D)} (C:zn X.prog X.w X.K X.mg X.base k x ps (qez X.K F)) (hr:jA j X.A) (ha:DA X c es g)
  (hk:k<=j:=by decide) (hg:Gl X x:=by rfl) (ho:i∈c.O:=by exact of_decide_eq_true rfl) (hN:X.N[i]? = some y:=by rfl) (hv:Vis X.env.scope y:=by first | exact Or.inl rfl | exact Or.inr (Or.inl rfl) | exact Or.inr (Or.inr rfl)) (hdy:(y==("__debug__":Str))=false:=by decide) (hcd:(y==("__classdict__":Str))=false:=by decide)
  (hd:(x==("__debug__":Str))=false:=by decide) (he:starEach (.Name y p1::es) X.env=(false,eval (.Name y p1) X.env)::starEach es X.env:=by rfl) (hpl:(backTo pos (starEach es X.env)).any (·.1)=false:=by rfl):DE X c (.Call (.Name x p) (.Name y p1::es) [] pos) (qo F i g):=by
 obtain ⟨f,fd,G,m,kk,b⟩:=C.ex
 exact qfh G (hr.mono hk) hg m kk b ha ho hN hv hdy hcd hd he hpl
theorem xC {k j:Nat} {ps:List Str} {F:List D->R D} {x:Str} {p:Pos} {g:M (List D)} {E:XK} {cl:Str->Option Addr} {RN:List Str} (L:XL2 X c cl E) (hcl:∀ n,RN.contains n=true->(cl n).isSome=true) (C:wN X.prog X.w X.K X.mg X.base k x ps (spX X.K cl F)) (hr:jA j X.A) (ha:DA X c (e::es) g)
  (hk:k<=j:=by decide) (hg:Gl X x:=by rfl) (hd:(x==("__debug__":Str))=false:=by decide) (he:starEach (e::es) X.env=(false,eval e X.env)::starEach es X.env:=by rfl) (hpl:(backTo pos (starEach es X.env)).any (·.1)=false:=by rfl):DE X c (.Call (.Name x p) (e::es) [] pos) (u7 RN F g):=by
 obtain ⟨f,fd,G,m,kk,b⟩:=C.ex
 exact qhc L hcl G (hr.mono hk) hg m kk b ha hd he hpl
theorem pC {k j:Nat} {ps:List Str} {F:List D->R D} {x:Str} {p:Pos} {g:M (List D)} {cl:Str->Option Addr} (C:wN X.prog X.w X.K X.mg X.base k x ps (spX X.K cl F)) (hr:jA j X.A) (ha:DA X c (e::es) g)
  (hk:k<=j:=by decide) (hg:Gl X x:=by rfl) (hd:(x==("__debug__":Str))=false:=by decide) (he:starEach (e::es) X.env=(false,eval e X.env)::starEach es X.env:=by rfl) (hpl:(backTo pos (starEach es X.env)).any (·.1)=false:=by rfl):DE X c (.Call (.Name x p) (e::es) [] pos) (qdj F g):=by
 obtain ⟨f,fd,G,m,kk,b⟩:=C.ex
 exact qhd G (hr.mono hk) hg m kk b ha hd he hpl
theorem lC {k j:Nat} {ps:List Str} {F:List D->R D} {x:Str} {p:Pos} {g:M (List D)} (hal:∀ U Z H,Rep X.K c U Z H->AloneA X.A H) (C:qfJ X.prog X.w X.K X.mg X.base k x ps (spD X.K F)) (hr:uh j X.A) (ha:DA X c (e::es) g)
  (hk:k<=j:=by decide) (hg:Gl X x:=by rfl) (hd:(x==("__debug__":Str))=false:=by decide) (he:starEach (e::es) X.env=(false,eval e X.env)::starEach es X.env:=by rfl) (hpl:(backTo pos (starEach es X.env)).any (·.1)=false:=by rfl):DE X c (.Call (.Name x p) (e::es) [] pos) (qp F g):=by
 obtain ⟨f,fd,G,m,kk,b⟩:=C.ex
 exact qhm hal G (hr.mono hk) hg m kk b ha hd he hpl
theorem gI {x:Str} {i:Int} (h:∃ t,X.mg x=some (.int i t)) (hg:Gl X x:=by rfl) (hd:(x==("__debug__":Str))=false:=by decide):DE X c (.Name x pos) (ret (.int i)):=by
 obtain ⟨t,h⟩:=h
 exact qe1 (v := .int i) (d := .int i) hg h ⟨_,rfl⟩ (fun _ _=>rfl) hd
theorem gT {x:Str} {ns:List Int} (h:∃ a,X.mg x=some (.ref a)/\qmv X.K a ns) (hg:Gl X x:=by rfl) (hd:(x==("__debug__":Str))=false:=by decide):DE X c (.Name x pos) (ret (.tup (ns.map .int))):=by
 obtain ⟨a,h1,h2⟩:=h
 exact qg9 hg h1 h2 hd
end
theorem nd (N:List Str) (h:N.Nodup:=by decide +kernel):N.Nodup:=h
theorem cs {X:Cx} (N N':List Str) (nt:Nat) (fr:List Nat) (outer:Scope) {scope:Scope} (h0:scope.kind = .function:=by rfl) (h1:∀ y∈scope.names,y.2 ≠ .cell:=by decide +kernel) (h2:∀ y∈scope.names,y.2 = .local->scope.names.lookup y.1=some .local:=by decide +kernel)
  (h3:∀ y∈scope.names,y.2 = .free->outer.names.lookup y.1=some .cell:=by decide +kernel) (h4:N'.length=nt+fr.length:=by rfl) (h5:∀ p∈fr.zipIdx,N'[nt+p.2]? = N[p.1]? /\ ((N[p.1]?).bind fun x=>scope.names.lookup x)=some .free:=by decide +kernel)
  (h6:X.env.scope=outer:=by rfl) (h7:X.N=N:=by rfl):jE X scope N' nt fr:=qjx.ok (outer:=outer) (N:=N) ⟨h0,h1,h2,h3,h4,h5⟩ h6 h7
theorem f0 {c:Fc} {nt:Nat} (fr O:List Nat) (e:c.O=O:=by rfl) (h:∀ j∈fr,j ∉ O:=by decide):qjh c nt fr none:=fun j hj=>by rw [e];exact h j hj
theorem f1 {c:Fc} (nt:Nat) (fr O:List Nat) (i j:Nat) (e:c.O=O:=by rfl) (h1:j∈O:=by decide) (h2:nt<=i:=by decide) (h3:fr[i-nt]? = some j:=by rfl) (h4:∀ p∈fr.zipIdx,nt+p.2≠i->p.1 ∉ O:=by decide):qjh c nt fr (some (i,j)) :=
 qjz (by rw [e];exact h1) h2 h3 (by rw [e];exact h4)
theorem qhp {α:Type} {l:List (Option α)} {i j:Nat} {a:α} (h:(l.set i none)[j]? = some (some a)):j≠i/\l[j]? = some (some a):=by
 by_cases e:j=i
 ·subst e
  rw [List.getElem?_set] at h
  simp only [if_true] at h
  split at h<;>cases h
 ·exact ⟨e,by rw [List.getElem?_set_ne (Ne.symm e)] at h;exact h⟩
section
variable {X:Cx} {c:Fc}
end
end L2.Sk
namespace L2.Sk
open PySem PySem.Spec PyProof.Rows
section
variable {X:Cx} {c:Fc} {a b e:Expr} {pos:Pos}
def qfO (i:Nat) (f:M D):M D:=fun U=>match zf i U with
 | none => .bad
 | some _=>(bnd f fun d U=>match zf i U with
  | some ds=>if qM (ds.length+1) then .ok (.non,U.set i (some (.lst (d::ds)))) else .bad
  | none => .bad) U
end
section
variable {prog:Program} {w:World} {A:Around} {E:Value->Shared->Prop} {s:Shared}
end
section
variable {X:Cx} {c:Fc} {a e:Expr} {pos:Pos} {tg:Expr}
def qna:List D->Option (List D)
 | [.tup xs]=>some xs.reverse
 | _=>none
def qnO (f:M (List D)):M (List D):=bnd f fun ds=>lift (qna ds)
theorem qnP {l:M (List D)} {U:Env}:qnO l U=match l U with | .ok (d,U1)=>(match qna d with | some ds => .ok (ds,U1) | none => .bad) | .exc x U' => .exc x U' | .bad => .bad:=by
 simp only [qnO,bnd]
 cases l U with
 | ok z=>obtain ⟨z1,U1⟩:=z;(dsimp only;cases qna z1<;>rfl)
 | exc x U'=>rfl
 | bad=>rfl
theorem qlR {f:M D} {U:Env} (i:Nat):qfO i f U=match zf i U with
  | none => .bad
  | some _=>(match f U with
   | .ok (d,U1)=>(match zf i U1 with | some ds=>(if qM (ds.length+1) then .ok (.non,U1.set i (some (.lst (d::ds)))) else .bad) | none => .bad)
   | .exc x U' => .exc x U' | .bad => .bad):=by
 unfold qfO
 cases zf i U with
 | none=>rfl
 | some z =>
  simp only [bnd]
  cases f U with
  | ok z=>obtain ⟨z1,U1⟩:=z;rfl
  | exc x U'=>rfl
  | bad=>rfl
end
end L2.Sk
namespace HT
open PySem PySem.Spec PyProof.Rows
section
variable {prog:Program} {w:World} {A:Around} {E:Value->Shared->Prop} {s:Shared}
end
end HT
namespace L2
open PySem PySem.Spec PyProof.Rows
section
variable {X:Cx} {e:Expr} {te:TE} {ste:Expr} {ts:TO} {pos p2:Pos}
end
end L2
namespace L2.Sk
open PySem PySem.Spec PyProof.Rows
theorem IsL.rev {K:Fr0} {A:Addr->Prop} {H:Hp}:∀ {ds:List D} {xs:List V},IsL K A H ds xs->IsL K A H ds.reverse xs.reverse:=by
 intro ds
 induction ds with
 | nil =>
  intro xs h
  cases xs with
  | nil=>exact h
  | cons x xs=>exact absurd h.length (by simp)
 | cons d ds ih =>
  intro xs h
  obtain ⟨x,ys,rfl,h1,h2⟩:=h
  rw [List.reverse_cons,List.reverse_cons]
  have one:IsL K A H [d] [x]:=⟨x,[],rfl,h1,IsL.take 0 h2⟩
  exact IsL.append (ih h2) one
def qnb:D->Option D
 | .tup ds=>some (.tup ds.reverse)
 | .lst ds=>some (.lst ds.reverse)
 | _=>none
def qlS (f:M D):M D:=bnd f fun d=>lift (qnb d)
section
variable {X:Cx} {c:Fc} {a:Expr} {pos p2 p3 p4:Pos} {cj:Nat}
theorem qnc {f:M D} {U:Env}:qlS f U=match f U with | .ok (d,U1)=>(match qnb d with | some x => .ok (x,U1) | none => .bad) | .exc x U' => .exc x U' | .bad => .bad:=by
 simp only [qlS,bnd]
 cases f U with
 | ok z=>obtain ⟨z1,U1⟩:=z;(dsimp only;cases qnb z1<;>rfl)
 | exc x U'=>rfl
 | bad=>rfl
end
section
variable {X:Cx} {c:Fc}
end
end L2.Sk
namespace L2
open PySem PySem.Spec PyProof.Rows
section
variable {X:Cx} {pins:List (Addr×Obj)} {Z:St} {H:Hp} {s:Shared}
theorem qds {H:Hp} {a:Addr} {o:HO} (h:H a=none):zD H (upd H a o):=fun b u q=>by rw [qj (qE q h)];exact q
end
end L2
namespace L2.Srt
open PySem PySem.W PyProof.Rows
def runK {α:Type} (cmp:Nat->Nat->Bool):KasT α->α
 | .ret a=>a
 | .ask i j k=>runK cmp (k (cmp i j))
theorem yD {α β:Type} {cmp:Nat->Nat->Bool} {f:α->KasT β}:∀ t:KasT α,runK cmp (t.bind f)=runK cmp (f (runK cmp t))
 | .ret _=>rfl
 | .ask i j k=>yD (k (cmp i j))
def Fits {α:Type} (n:Nat) (R:α->Prop):KasT α->Prop
 | .ret a=>R a
 | .ask i j k=>i<n/\j<n/\∀ b,Fits n R (k b)
theorem Fits.bind {α β:Type} {n:Nat} {R:α->Prop} {R':β->Prop} {f:α->KasT β} (hf:∀ a,R a->Fits n R' (f a)):∀ {t:KasT α},Fits n R t->Fits n R' (t.bind f)
 | .ret _,h=>hf _ h
 | .ask _ _ _,⟨h1,h2,h3⟩=>⟨h1,h2,fun b=>Fits.bind hf (h3 b)⟩
theorem Fits.run {α:Type} {n:Nat} {R:α->Prop} {cmp:Nat->Nat->Bool}:∀ {t:KasT α},Fits n R t->R (runK cmp t)
 | .ret _,h=>h
 | .ask i j k,h=>Fits.run (t:=k (cmp i j)) (h.2.2 (cmp i j))
def Pl (n:Nat) (p:Array Nat):Prop:=p.size=n/\p.toList.Perm (List.range n)
theorem Pl.of_perm {n:Nat} {p q:Array Nat} (h:Pl n p) (hq:q.Perm p):Pl n q:=⟨hq.size_eq.trans h.1,(Array.perm_iff_toList_perm.mp hq).trans h.2⟩
theorem Pl.lt {n:Nat} {p:Array Nat} (h:Pl n p) (hn:0<n) (k:Nat):p.getD k 0<n:=by
 by_cases hk:k<p.size
 ·have e:p.getD k 0=p[k]:=by simp [Array.getD,hk]
  rw [e]
  have hm:p[k]∈p.toList:=by simp
  exact mR_.mp (h.2.mem_iff.mp hm)
 ·have e:p.getD k 0=0:=by simp [Array.getD,hk]
  rw [e];exact hn
theorem Pl.rev {n:Nat} {p:Array Nat} (h:Pl n p) (i j:Nat):Pl n (kas_rev p i j):=h.of_perm (mirror_perm _ _ _ _)
theorem qba {n:Nat} (hn:0<n) {p:Array Nat} (h:Pl n p):∀ f m,Fits n (fun _=>True) (kas_asc p f m)
 | 0,_=>True.intro
 | f+1,m=>⟨h.lt hn _,h.lt hn _,fun c=>by
  dsimp only
  split
  ·exact True.intro
  ·exact qba hn h f (m+1)⟩
theorem vc {n:Nat} (hn:0<n):∀ f {p:Array Nat} (_:Pl n p) m q,Fits n (fun r=>Pl n r.1) (kas_desc f p m q)
 | 0,_,h,_,_=>h
 | f+1,p,h,m,q=>⟨h.lt hn _,h.lt hn _,fun c=>by
  dsimp only
  split
  ·split
   ·exact vc hn f (h.rev _ _) _ _
   ·exact vc hn f h _ _
  ·refine ⟨h.lt hn _,h.lt hn _,fun d => ?_⟩
   dsimp only
   split
   ·exact h
   ·exact vc hn f h _ _⟩
theorem qaD {n:Nat} (hn:0<n) {p:Array Nat} (h:Pl n p) (m nrem:Nat):Fits n (fun r=>Pl n r.2) (kas_tail3 m nrem p) :=
 Fits.bind (R:=fun _=>True) (n:=n) (R':=fun r:Nat×Array Nat=>Pl n r.2) (f:=fun k => .ret (k,kas_rev p 0 m)) (fun _ _=>h.rev 0 m) (qba hn (h.rev _ _) _ _)
theorem vd {n:Nat} (hn:0<n) {p:Array Nat} (h:Pl n p) (m nrem:Nat):Fits n (fun r=>Pl n r.2) (kas_descPart m nrem p) :=
 Fits.bind (R:=fun r=>Pl n r.1) (fun r hr=>by
  split
  ·exact qaD hn (hr.rev _ _) _ _
  ·exact qaD hn hr _ _) (vc hn _ h _ _)
theorem qej {n:Nat} (hn:0<n) {p:Array Nat} (h:Pl n p) (nrem:Nat):Fits n (fun r=>Pl n r.2) (kas_count nrem p) :=
 Fits.bind (R:=fun _=>True) (fun m _=>by
  split
  ·exact h
  ·split
   ·refine ⟨h.lt hn _,h.lt hn _,fun c => ?_⟩
    dsimp only
    split
    ·exact h
    ·exact vd hn (h.rev _ _) _ _
   ·exact vd hn h _ _) (qba hn h _ _)
theorem vF {n:Nat} (hn:0<n) {p:Array Nat} (h:Pl n p) (k:Nat):∀ f l r,Fits n (fun _=>True) (kas_place p k f l r)
 | 0,_,_=>True.intro
 | f+1,l,r=>by
  unfold kas_place
  split
  ·exact True.intro
  ·refine ⟨h.lt hn _,h.lt hn _,fun c => ?_⟩
   dsimp only
   split
   ·exact vF hn h k f _ _
   ·exact vF hn h k f _ _
theorem qdt {n:Nat} (hn:0<n):∀ f {p:Array Nat} (_:Pl n p) k,Fits n (Pl n) (kas_bin f p k)
 | 0,_,h,_=>h
 | f+1,p,h,k=>Fits.bind (R:=fun _=>True) (fun l _=>qdt hn f (h.of_perm (bubble_perm _ _ _)) _) (vF hn h k _ _ _)
theorem fits_sort {n:Nat} (hn:0<n):Fits n (Pl n) (kas_sort n) :=
 Fits.bind (R:=fun r=>Pl n r.2) (fun r hr=>by
  split
  ·exact qdt hn _ hr _
  ·exact hr) (qej hn ⟨by simp,by simp⟩ _)
def ord (ks:List Int):List Nat:=if ks.length<2 then List.range ks.length else (runK (fun i j=>decide (ks.getD i 0<ks.getD j 0)) (kas_sort ks.length)).toList
theorem ord_perm (ks:List Int):(ord ks).Perm (List.range ks.length):=by
 unfold ord
 split
 ·exact .refl _
 ·exact (Fits.run (fits_sort (by omega))).2
theorem map_getD_range {α:Type} (d:α) (xs:List α):(List.range xs.length).map (fun i=>xs.getD i d)=xs:=by
 refine List.ext_getElem (by simp) fun i h1 h2 => ?_
 simp at h1 |-
 simp [h1]
section
variable {prog:Program} {w:World} {A:Around} {s:Shared}
end
end L2.Srt
set_option maxHeartbeats 1000000
namespace L2
open PySem PySem.Spec PyProof.Rows
structure SS (X:Cx) (H0:Hp) (s0:Shared) (H:Hp) (s:Shared):Prop where
 os:s.os=s0.os
 bare:AllBare s.gens
 un:Un (frs X.stack) [] H0 H s0.heap s.heap
 hok:HOk X.prog X.w H s.heap
 same:zD H0 H
section
variable {X:Cx} {pins:List (Addr×Obj)} {Z:St} {H0 H:Hp} {s0 s:Shared} {h':Heap} {b a kS:Addr}
theorem SS.inv (z:SS X H0 s0 H s) (I:Inv X pins Z H0 s0):Inv X pins Z H s:=by
 obtain ⟨hh,g,d,t,os'⟩:=s
 obtain rfl:os'=s0.os:=z.os
 exact I.call (h':=hh) (g':=g) (d':=d) (t':=t) (ch:=[]) z.un z.hok z.bare (fun b z=>absurd z (by simp))
theorem SS.of (I:Inv X pins Z H s):SS X H s H s:=⟨rfl,I.bare,.refl,I.hok,fun _ _ h=>h⟩
theorem SS.kept (z:SS X H0 s0 H s) (k:∀ b u,s.heap.get? b=some u->h'.get? b=some u) (tk:Nat):SS X H0 s0 H { s with heap:=h',toks:=tk } :=
 ⟨z.os,z.bare,z.un.trans (Un.kept k),z.hok.kept k,z.same⟩
theorem SS.poke (z:SS X H0 s0 H s) (hb:H b=none) (hb0:s0.heap.objs.size<=b) (sb:Heap.SameBut b s.heap h') (tk:Nat):SS X H0 s0 H { s with heap:=h',toks:=tk }:=by
 have ne:∀ c o,s0.heap.get? c=some o->c≠b:=fun c o e=>Nat.ne_of_lt (Nat.lt_of_lt_of_le (Heap.lt_size e) hb0)
 refine ⟨z.os,z.bare,⟨fun c o e n f x=>(sb.2 c (ne c o e)).trans (z.un.keep c o e n f x),fun c o e n f x => ?_,z.un.free,fun c o e x => ?_,z.un.tups,z.un.frzs,z.un.tbls⟩,fun c u q => ?_,z.same⟩
 ·obtain ⟨sl,q⟩:=z.un.slot c o e n f x
  exact ⟨sl,(sb.2 c (ne c o e)).trans q⟩
 ·obtain ⟨o',q⟩:=z.un.there c o e x
  exact ⟨o',(sb.2 c (ne c o e)).trans q⟩
 ·refine (z.hok c u q).stay (fun d v hd r=>(sb.2 d ?_).trans r) (fun _ q=>q) fun _ _ q=>q
  rintro rfl
  rcases hd with rfl | hd
  ·rw [hb] at q;cases q
  ·rw [hb] at hd;cases hd
theorem SS.call {Q:VK} {u:Value} {s':Shared} (z:SS X H0 s0 H s) (h:CE X.stack X.prog X.w H s Q u s') (hq:∀ v H',Q v H'->zD H H'):∃ v H',z9 v u/\Q v H'/\SS X H0 s0 H' s'/\Un (frs X.stack) [] H H' s.heap s'.heap:=by
 obtain ⟨v,H',os,bare,un,hok,r,q⟩:=h
 exact ⟨v,H',r,q,⟨os.trans z.os,bare,z.un.trans un,hok,fun b o e=>hq v H' q b o (z.same b o e)⟩,un⟩
end
section
variable {X:Cx} {H0 H:Hp} {s0 s:Shared} {a kS:Addr} {A:Around} {E:Value->Shared->Prop} {f:Value} {vs:List Value} {ks:List Int} {e1:Nat} {P:PySem.Fin->Shared->Prop}
abbrev qdu (ks:List Int) (vs:List Value):List Value:=(Srt.ord ks).map fun i=>vs.getD i Value.none
theorem qbb (h:ks.length=vs.length):(qdu ks vs).length=vs.length:=by
 rw [lM_,(Srt.ord_perm ks).length_eq,lR_,h]
abbrev qb2 (X:Cx) (H0:Hp) (s0:Shared) (a:Addr) (out:List Value) (P:PySem.Fin->Shared->Prop):Prop :=
 ∀ H' s' c,SS X H0 s0 H' s'->H' a=none->s'.heap.get? a=some (seqObj "list" out.toArray c)->P (.done (.ret .none)) s'
theorem qdv {st:SortSt} {out:List Value} {kA:Array Value} {e:Nat} (z:SS X H0 s0 H s) (gk:s.heap.get? kS=some (seqObj "list" kA e)) (ga:s.heap.get? a=some (seqObj "list" #[] e1)) (nk:H kS=none) (na:H a=none)
  (lk:s0.heap.objs.size<=kS) (la:s0.heap.objs.size<=a) (hka:kS≠a) (hkz:kA.size<64) (hoz:out.length<64) (ho:(arrOf st).map (·.2)=out.toArray) (hf:failedOf st=none) (fin:qb2 X H0 s0 a out P) :
  wpAny (model X.prog X.w) A (ksk_tail a false e1 (.ref kS) st) P E s:=by
 have sb1:=Heap.SameBut.update s.heap kS (Obj.mapSeq fun _=>(#[]:Array Value))
 have ga1:=(sb1.2 a hka.symm).trans ga
 have z1:=z.poke nk lk sb1 s.toks
 have sb2:=Heap.SameBut.update (s.heap.update kS (Obj.mapSeq fun _=>(#[]:Array Value))) a (Obj.mapSeq fun _=>out.toArray)
 have z2:=z1.poke na la sb2 s.toks
 unfold ksk_tail
 dsimp only
 rw [ho]
 refine wpAny_bind (listUpdate_at gk rfl ?_ (by rw [sizeLine_eq];omega) (Nat.zero_le _))
 refine wpAny_bind (wpAny_letGo (wpAny_bind (seqEpoch_at ga1 rfl ?_)))
 refine wpAny_bind (listUpdate_at ga1 rfl ?_ (Nat.zero_le _) (by show (out.toArray).size<=_;rw [sT_,sizeLine_eq];omega))
 rw [hf]
 simp only [bne_self_eq_false,Bool.false_eq_true,if_false]
 exact wpAny_pure (fin H _ _ z2 na (get?_update_seq ga1 fun _=>out.toArray))
end
section
variable {X:Cx} {pins:List (Addr×Obj)} {Z:St} {H:Hp} {s:Shared} {l f:Addr} {vs:List Value} {ks:List Int} {Q:Value->Shared->Prop} {E:Value->Shared->Prop}
end
end L2
set_option maxHeartbeats 1000000
namespace L2
open PySem PySem.Spec PyProof.Rows
def CallKS (X:Cx) (f:Value) (ks:List Str) (r:St->List V->List V->Hp->VK->Prop):Prop:=∀ (pins:List (Addr×Obj)) (s:Shared) (Z:St) (H:Hp) (xs:List V) (us:List Value) (zs:List V) (ws:List Value) (Q:VK),
 Inv X pins Z H s->qT xs us->qT zs ws->r Z xs zs H Q->wpAny (model X.prog X.w) X.A (call f us (ks.zip ws)) (EP X pins Z Q) X.xe s
theorem qfP {X:Cx} {x:Str} {p pos:Pos} {e:Expr} {es:List Expr} {kws:List Keyword} {t tk:TA} {id:String} {ks:List Str} {r:St->List V->List V->Hp->VK->Prop} (hc:CallKS X (.builtin id) ks r) (hg:Gl X x) (hm:X.mg x=none) (hv:bootBuiltins x=some (.builtin id)) (ha:PA X (e::es) t) (hkw:PK X kws tk)
  (hall:(backToKw pos (keywordEach kws X.env)).all (·.1.isSome)=true:=by rfl) (hks:(backToKw pos (keywordEach kws X.env)).filterMap (·.1)=ks:=by rfl) (hn:x≠"__name__":=by decide) (hdb:(x==("__debug__":Str))=false:=by decide)
  (he:starEach (e::es) X.env=(false,eval e X.env)::starEach es X.env:=by rfl) (hpl:((backTo pos (starEach (e::es) X.env)).any (·.1)||(backToKw pos (keywordEach kws X.env)).any (·.1.isNone))=false:=by rfl) :
  PE X (.Call (.Name x p) (e::es) kws pos) (fun Z H Q=>t Z H fun vs H1=>tk Z H1 fun zs H2=>r Z vs zs H2 Q):=by
 intro pins s Z H Q I h
 refine wpAny_Call_Name_kw (qan I hg hm hv ?_ hn hdb)
 refine PySem.W.callWith_of (P:=fun _=>True) hpl (fun _ _=>⟨.machine,.inr (.inl rfl),.now⟩) (evalArgs_kw2 hall (thn (ha pos pins s Z H _ I h) fun us s1 ⟨vs,H1,I1,r1,q1⟩ => ?_) he)
 refine thn (hkw pos pins s1 Z H1 _ I1 q1) fun ws s2 ⟨zs,H2,I2,rz,q2⟩=>⟨trivial,?_⟩
 rw [hks,List.nil_append]
 exact hc pins s2 Z H2 vs us zs ws Q I2 r1 rz q2
theorem wP {ys:List V} {its:List Value} (r:qT ys its):∀ l:List Nat,(∀ i∈l,i<ys.length)->qT (l.map fun i=>ys.getD i .non) (l.map fun i=>its.getD i Value.none)
 | [],_ => .nil
 | i::l,h=>by
  refine .cons ?_ (wP r l fun j hj=>h j (mM _ hj))
  have hi:=h i mS_
  obtain ⟨u,hu,rv⟩:=r.get (gG hi)
  have e1:ys.getD i V.non=ys[i]:=by simp [hi]
  have e2:its.getD i Value.none=u:=by simp [List.getD,hu]
  show z9 (ys.getD i V.non) (its.getD i Value.none)
  rw [e1,e2]
  exact rv
section
variable {X:Cx} {N':List Str} {fr:List Nat} {q x:Str} {params:Arguments} {body:Expr} {scope:Scope} {k:Nat}
end
end L2
namespace L2.Sk
open PySem PySem.Spec PyProof.Rows
def qnQ (U:Env):List Nat->Option (List D)
 | []=>some []
 | j::fr=>match U[j]?,qnQ U fr with
  | some (some d),some ds=>some (d::ds)
  | _,_=>none
def qlT (g:M D) (n:Nat) (cs:List D):List D->Option (List Int)
 | []=>some []
 | d::ds=>match g (jJ n (d::cs)),qlT g n cs ds with
  | .ok (.int k,_),some ks=>some (k::ks)
  | _,_=>none
def qag (l:List Nat) (ds:List D):List D:=l.map fun i=>ds.getD i .non
def qnR (n:Nat) (fr:List Nat) (f g:M D):M D:=bnd f fun d U=>match d with
 | .lst ds=>if ds.length<64 then match qnQ U fr with
   | some cs=>match qlT g n cs ds with
    | some ks => .ok (.lst (qag (Srt.ord ks) ds),U)
    | none => .bad
   | none => .bad
  else .bad
 | _ => .bad
theorem IsL.pick {K:Fr0} {A:Addr->Prop} {H:Hp} {ds:List D} {xs:List V} (il:IsL K A H ds xs):∀ l:List Nat,(∀ i∈l,i<ds.length)->IsL K A H (qag l ds) (l.map fun i=>xs.getD i .non)
 | [],_=>rfl
 | i::l,h=>by
  have hi:=h i mS_
  obtain ⟨y,hy,iy⟩:=il.get (gG hi)
  refine ⟨xs.getD i .non,_,rfl,?_,IsL.pick il l fun j hj=>h j (mM _ hj)⟩
  have e1:ds.getD i D.non=ds[i]:=by simp [hi]
  have e2:xs.getD i V.non=y:=by simp [List.getD,hy]
  rw [e2]
  show Is K A H (ds.getD i D.non) y
  rw [e1]
  exact iy
section
variable {X:Cx} {c:Fc} {e:Expr} {p pos kpos lpos:Pos} {N':List Str} {fr:List Nat} {x:Str} {params:Arguments} {body:Expr} {scope:Scope} {k:Nat} {c0 Pt:Addr}
end
end L2.Sk
namespace L2
open PySem PySem.Spec PyProof.Rows
theorem walk_lam {l:PySem.W.OpenLaw} {n k:Nat} {q:Program} {loose:List Str} {XP:(Str->Option Value)->Heap->Prop} {YP:World->Heap->Prop} {d:DefRec} {K:Params->PySem.W.Frag} {CX:World->CXT} {sp:World->Sp} {x:Str}
  (hn:l.most=some n) (hn2:n<=sizeLine) (hdf:d.params.defaults=[]) (hr:jA k callerA)
  (hY:∀ (w:World) (h:Heap),YP w h->(K w.params).In h) {lm:World->Option (Addr×Addr×Pos×Str)}
  (hlm:∀ (w:World) (mean:ExcName->Option Value) (mg mb:Str->Option Value) (h:Heap) (c Pt:Addr) (pos:Pos) (z:Str),Top q (PySem.W.looseW q loose) mean mg mb h->(K w.params).In h->lm w=some (c,Pt,pos,z) ->
   PySem.W.CodeHd h c Pt/\h.get? Pt=some (PySem.W.tabObj #[])/\(K w.params).lookup Pt=none)
  (F : ∀ (w:World) (mg:Str->Option Value) (fa:Addr) (h:Heap),(K w.params).In h->h.Ns mainGlobals mg->mg d.name=some (.ref fa) ->
   ∃ fd:FuncData,(∀ (s:Shared) (u:Value),BindsTo s fd ⟨[u],[]⟩ [(x,u)]) /\
    ∀ base:Heap,(K w.params).In base->base.Ns mainGlobals mg->uQ l.prog w (K w.params) mg base (CX w) k fa fd [x] (sp w))
  (hsp:∀ (w:World) (H:Hp) (a:Addr) (ns:List Int),ns.length<=n->qmp H->(∀ c Pt pos z,lm w=some (c,Pt,pos,z)->H Pt=some (.lam pos z))->SqL (K w.params) H a (ns.map V.int)->sp w [.ref a] H (fun v _=>v = .bl true) fun _ _ _=>False)
  (hCX:∀ (w:World) (H:Hp) (s:Shared) (e:Value) (s':Shared),CX w [] H s (fun _ _ _=>False) e s'->False) :
  PySem.W.WalkO q loose XP YP l.row.toRowW d [] (fun f vs=>PySem.call f vs):=by
 refine Att.attach_call hn hdf fun w s₀ sJ mg mb fa o pm cd doc a vs ns G Y ho hd hcd hmg hobj hints hlen hg => ?_
 have KX:=hY w _ Y
 obtain ⟨fd,hb,hF⟩:=F w mg fa _ KX G.T.g hmg
 exact qgI (lm:=lm w) KX G.T.g G.T.b G.T.builtins G.T.nolimit G.T.bmain (fun c Pt pos z=>hlm w _ mg mb _ c Pt pos z G.T KX) hg hobj hints (Nat.le_trans hlen hn2) hr hF hb (fun H hO hT hS=>hsp w H a ns hlen hO hT hS) fun H e s'=>hCX w H sJ e s'
end L2
namespace L2.Sk
open PySem PySem.Spec PyProof.Rows
section
variable {P:Program} {w:World} {K:PySem.W.Frag} {mg:Str->Option Value} {base:Heap}
end
section
variable {X:Cx} {c:Fc} {a b e:Expr} {pos:Pos}
def qnd (i:Nat) (f:M D):M D:=fun U=>match zf i U with
 | none => .bad
 | some _=>(bnd f fun d U=>match d,(zf i U).bind uf with
  | .int b,some ns=>match ns.findIdx? (·==b) with
   | some j => .ok (.non,U.set i (some (.lst ((ns.eraseIdx j).map D.int))))
   | none => .bad
  | _,_ => .bad) U
end
end L2.Sk
namespace L2.Sk
open PySem PySem.Spec PyProof.Rows
section
variable {X:Cx}
end
def qox:D->D->Option D
 | .bl a,.bl b=>some (.bl (a==b))
 | _,_=>none
end L2.Sk
namespace L2
open PySem PySem.Spec PyProof.Rows
section
variable {X:Cx} {pos:Pos}
end
end L2
namespace L2.Sk
open PySem PySem.Spec PyProof.Rows
section
variable {X:Cx} {c:Fc}
end
end L2.Sk
set_option maxHeartbeats 1000000
namespace L2
open PySem PySem.Spec PyProof.Rows
abbrev jp:=Int×Int×List Int
def lt3 (x y:jp):Bool:=if x.1=y.1 then if x.2.1=y.2.1 then HT.lexLt x.2.2 y.2.2 else decide (x.2.1<y.2.1) else decide (x.1<y.1)
theorem qbc:∀ a:List Int,HT.lexLt a a=false
 | []=>rfl
 | x::a=>by rw [HT.lexLt_cons,if_pos rfl];exact qbc a
theorem qdw:∀ a b:List Int,HT.lexLt a b=true->HT.lexLt b a=false
 | [],[],_=>rfl
 | [],_::_,_=>rfl
 | _::_,[],h=>by cases h
 | x::a,y::b,h=>by
  rw [HT.lexLt_cons] at h |-
  by_cases c:x=y
  ·subst c
   rw [if_pos rfl] at h |-
   exact qdw a b h
  ·rw [if_neg c] at h
   rw [if_neg fun z=>c z.symm]
   have:=of_decide_eq_true h
   exact decide_eq_false (by omega)
theorem qfQ:∀ a b c:List Int,HT.lexLt a c=true->HT.lexLt a b=true\/HT.lexLt b c=true
 | a,[],[],h=>by cases a<;>cases h
 | _,[],_::_,_ => .inr rfl
 | [],_::_,_,_ => .inl rfl
 | _::_,_::_,[],h=>by cases h
 | x :: a,y::b,z::c,h=>by
  rw [HT.lexLt_cons] at h
  rw [HT.lexLt_cons,HT.lexLt_cons]
  by_cases e1:x=y
  ·subst e1
   by_cases e2:x=z
   ·rw [if_pos e2] at h |-
    rw [if_pos rfl]
    exact qfQ a b c h
   ·rw [if_neg e2] at h |-
    exact .inr h
  ·by_cases e2:y=z
   ·subst e2
    rw [if_neg e1] at h |-
    exact .inl h
   ·rw [if_neg e1,if_neg e2]
    by_cases e3:x=z
    ·subst e3
     simp only [decide_eq_true_eq]
     omega
    ·rw [if_neg e3] at h
     simp only [decide_eq_true_eq] at h |-
     omega
theorem qcF (x:jp):lt3 x x=false:=by unfold lt3;rw [if_pos rfl,if_pos rfl];exact qbc _
theorem qhq (x y:jp) (h:lt3 x y=true):lt3 y x=false:=by
 unfold lt3 at h |-
 by_cases c:x.1=y.1
 ·rw [if_pos c] at h;rw [if_pos c.symm]
  by_cases d:x.2.1=y.2.1
  ·rw [if_pos d] at h;rw [if_pos d.symm];exact qdw _ _ h
  ·rw [if_neg d] at h;rw [if_neg fun z=>d z.symm]
   have:=of_decide_eq_true h
   exact decide_eq_false (by omega)
 ·rw [if_neg c] at h;rw [if_neg fun z=>c z.symm]
  have:=of_decide_eq_true h
  exact decide_eq_false (by omega)
theorem qfR (x y z:jp) (h:lt3 x z=true):lt3 x y=true\/lt3 y z=true:=by
 obtain ⟨x1,x2,x3⟩:=x
 obtain ⟨y1,y2,y3⟩:=y
 obtain ⟨z1,z2,z3⟩:=z
 unfold lt3 at h |-
 dsimp only at h |-
 by_cases e1:x1=y1
 ·subst e1
  by_cases e2:x1=z1
  ·rw [if_pos e2] at h |-
   rw [if_pos rfl]
   by_cases f1:x2=y2
   ·subst f1
    by_cases f2:x2=z2
    ·rw [if_pos f2] at h |-
     rw [if_pos rfl]
     exact qfQ _ _ _ h
    ·rw [if_neg f2] at h |-
     exact .inr h
   ·by_cases f2:y2=z2
    ·subst f2
     rw [if_neg f1] at h |-
     exact .inl h
    ·rw [if_neg f1,if_neg f2]
     by_cases f3:x2=z2
     ·subst f3
      simp only [decide_eq_true_eq]
      omega
     ·rw [if_neg f3] at h
      simp only [decide_eq_true_eq] at h |-
      omega
  ·rw [if_neg e2] at h |-
   exact .inr h
 ·by_cases e2:y1=z1
  ·subst e2
   rw [if_neg e1] at h |-
   exact .inl h
  ·rw [if_neg e1,if_neg e2]
   by_cases e3:x1=z1
   ·subst e3
    simp only [decide_eq_true_eq]
    omega
   ·rw [if_neg e3] at h
    simp only [decide_eq_true_eq] at h |-
    omega
def wQ (ks:List jp) (k:jp):Int:=((ks.countP fun y=>lt3 y k:Nat):Int)
def qw (ks:List jp):List Int:=ks.map (wQ ks)
theorem qcG {ks:List jp} {x y:jp} (hx:x∈ks):decide (wQ ks x<wQ ks y)=lt3 x y:=by
 have mono:∀ (p q:jp->Bool) (l:List jp),(∀ z,p z=true->q z=true)->l.countP p<=l.countP q:=fun p q l h=>List.countP_mono_left fun z _=>h z
 cases c:lt3 x y with
 | true =>
  apply decide_eq_true
  have sub:∀ z,lt3 z x=true->lt3 z y=true:=fun z hz=>by
   rcases qfR z y x hz with h | h
   ·exact h
   ·rw [qhq x y c] at h;cases h
  have strict:∀ l:List jp,x∈l->l.countP (fun z=>lt3 z x)<l.countP (fun z=>lt3 z y):=fun l=>by
   induction l with
   | nil=>intro h;cases h
   | cons a l ih =>
    intro h
    rw [List.countP_cons,List.countP_cons]
    rcases List.mem_cons.mp h with rfl | h
    ·rw [qcF,c]
     have:=mono (fun z=>lt3 z x) (fun z=>lt3 z y) l sub
     simp only [Bool.false_eq_true,if_false,if_true]
     omega
    ·have:=ih h
     cases d:lt3 a x with
     | true=>rw [sub a d];simp only [if_true];omega
     | false=>simp only [Bool.false_eq_true,if_false];split<;>omega
  have:=strict ks hx
  unfold wQ
  omega
 | false =>
  apply decide_eq_false
  have sub:∀ z,lt3 z y=true->lt3 z x=true:=fun z hz=>by
   rcases qfR z x y hz with h | h
   ·exact h
   ·rw [c] at h;cases h
  have:=mono (fun z=>lt3 z y) (fun z=>lt3 z x) ks sub
  unfold wQ
  omega
theorem qL (ks:List jp):(qw ks).length=ks.length:=lM_ _
def KAt (K:PySem.W.Frag) (H:Hp) (k:jp) (v:V):Prop:=∃ p q,v = .ref p/\Sk.TupAt K H p [.int k.1,.int k.2.1,.ref q]/\Sk.TupAt K H q (k.2.2.map V.int)
inductive qco (K:PySem.W.Frag) (H:Hp):List jp->List V->Prop
 | nil:qco K H [] []
 | cons {k:jp} {v:V} {ks:List jp} {vs:List V}:KAt K H k v->qco K H ks vs->qco K H (k::ks) (v::vs)
theorem qaE {K:PySem.W.Frag} {H H':Hp} {a:Addr} {xs:List V} (sm:zD H H') (h:Sk.TupAt K H a xs):Sk.TupAt K H' a xs:=by
 rcases h with h | h
 ·exact .inl (sm _ _ h)
 ·exact .inr h
theorem KAt.same {K:PySem.W.Frag} {H H':Hp} {k:jp} {v:V} (sm:zD H H') (h:KAt K H k v):KAt K H' k v:=by
 obtain ⟨p,q,e,h1,h2⟩:=h
 exact ⟨p,q,e,qaE sm h1,qaE sm h2⟩
theorem qco.same {K:PySem.W.Frag} {H H':Hp} {ks:List jp} {vs:List V} (sm:zD H H') (h:qco K H ks vs):qco K H' ks vs:=by
 induction h with
 | nil=>exact .nil
 | cons a _ ih=>exact .cons (a.same sm) ih
theorem qco.snoc {K:PySem.W.Frag} {H:Hp} {k:jp} {v:V} {ks:List jp} {vs:List V} (h:qco K H ks vs) (a:KAt K H k v):qco K H (ks++[k]) (vs++[v]):=by
 induction h with
 | nil=>exact .cons a .nil
 | cons b _ ih=>exact .cons b ih
def K3V (h:Heap) (k:jp) (u:Value):Prop:=∃ p q t1 t2 its,u = .ref p/\IsTup h p #[.int k.1 t1,.int k.2.1 t2,.ref q]/\IsTup h q its/\IntsAre its.toList k.2.2
inductive qcH (h:Heap):List jp->List Value->Prop
 | nil:qcH h [] []
 | cons {k:jp} {v:Value} {ks:List jp} {vs:List Value}:K3V h k v->qcH h ks vs->qcH h (k::ks) (v::vs)
theorem qcH.length {h:Heap} {ks:List jp} {vs:List Value} (x:qcH h ks vs):ks.length=vs.length:=by
 induction x with
 | nil=>rfl
 | cons _ _ ih=>rw [lC_,lC_,ih]
theorem qcH.get {h:Heap} {ks:List jp} {vs:List Value} (x:qcH h ks vs):∀ {i:Nat},i<ks.length->K3V h (ks.getD i (0,0,[])) (vs.getD i Value.none):=by
 induction x with
 | nil=>intro i hi;exact absurd hi (Nat.not_lt_zero _)
 | cons a _ ih =>
  intro i hi
  cases i with
  | zero=>exact a
  | succ i=>exact ih (by simpa using hi)
section
variable {X:Cx} {pins:List (Addr×Obj)} {Z:St} {H:Hp} {s:Shared}
theorem qne (I:Inv X pins Z H s) {k:jp} {v:V} {u:Value} (r:z9 v u) (h:KAt X.K H k v):K3V s.heap k u:=by
 obtain ⟨p,q,rfl,h1,h2⟩:=h
 cases r
 obtain ⟨its,r1,t1,_⟩:=I.tuple h1.sq
 obtain ⟨its2,r2,t2,_⟩:=I.tuple h2.sq
 cases r1 with
 | cons ra rr =>
 cases rr with
 | cons rb rr =>
 cases rr with
 | cons rc rr =>
 cases rr
 obtain ⟨ta,rfl⟩:=ra
 obtain ⟨tb,rfl⟩:=rb
 cases rc
 exact ⟨p,q,ta,tb,its2.toArray,rfl,t1,t2,by simpa using jU r2⟩
theorem qiy (I:Inv X pins Z H s) {ks:List jp} {vs:List V} (h:qco X.K H ks vs):∀ {us:List Value},qT vs us->qcH s.heap ks us:=by
 induction h with
 | nil=>intro us r;cases r;exact .nil
 | cons a _ ih=>intro us r;cases r with | cons ra rr=>exact .cons (qne I ra a) (ih rr)
end
theorem qaF {prog:Program} {w:World} {vs:List Value} {ns:List Int} (h:IntsAre vs ns):ItemsAre (intKind prog w) ns vs:=by
 induction h with
 | nil=>exact .nil
 | cons n t _ ih=>exact .cons (by simp [intKind,Value.isInt]) ih
section
variable {prog:Program} {w:World} {A:Around} {E:Value->Shared->Prop} {s:Shared}
theorem qlU {kx ky:jp} {u v:Value} {Q:Bool->Shared->Prop} (hu:A.units<cLine) (hx:K3V s.heap kx u) (hy:K3V s.heap ky v) (h:Q (lt3 kx ky) s) :
  wpAny (model prog w) A (PyProof.Rows.keyLt' (PyProof.Rows.tuples' true) u v) Q E s:=by
 obtain ⟨p,q,t1,t2,its,rfl,hp,hq,hi⟩:=hx
 obtain ⟨p',q',t1',t2',its',rfl,hp',hq',hi'⟩:=hy
 obtain ⟨o,ho,hc,n,hd⟩:=id hp
 obtain ⟨o',ho',hc',n',hd'⟩:=id hp'
 refine PySem.W.kat_lt ho hd ho' hd' ?_
 show PySem.W.KatLex prog w A true (decide (3<3)) Q [(.int kx.1 t1,.int ky.1 t1'),(.int kx.2.1 t2,.int ky.2.1 t2'),(.ref q,.ref q')] 0 s
 unfold lt3 at h
 refine PySem.W.kat_cons (wpAny_eqBool_int ?_)
 by_cases c:kx.1=ky.1
 ·rw [if_pos c] at h
  rw [show (kx.1==ky.1)=true by simp [c]]
  refine PySem.W.kat_yes (PySem.W.kat_cons (wpAny_eqBool_int ?_))
  by_cases d:kx.2.1=ky.2.1
  ·rw [if_pos d] at h
   rw [show (kx.2.1==ky.2.1)=true by simp [d]]
   refine PySem.W.kat_yes (PySem.W.kat_cons ?_)
   have kq:IsTupleKey (intKind prog w) s.heap kx.2.2 q:=by
    obtain ⟨o2,a1,a2,n2,a3⟩:=hq
    exact ⟨o2,its,n2,a1,a2,a3,qaF hi⟩
   have kq':IsTupleKey (intKind prog w) s.heap ky.2.2 q':=by
    obtain ⟨o2,a1,a2,n2,a3⟩:=hq'
    exact ⟨o2,its',n2,a1,a2,a3,qaF hi'⟩
   refine wpAny_eqBool_tuple hu kq kq' ?_
   by_cases e:kx.2.2=ky.2.2
   ·rw [decide_eq_true e]
    rw [e,qbc] at h
    exact PySem.W.kat_yes (PySem.W.kat_nil h)
   ·rw [decide_eq_false e]
    exact PySem.W.kat_no (PySem.W.kat_one _ _ (HT.lt_tupInts hq hq' hi hi' hu h))
  ·rw [if_neg d] at h
   rw [show (kx.2.1==ky.2.1)=false by simp [d]]
   exact PySem.W.kat_no (PySem.W.kat_one _ _ (lt_int h))
 ·rw [if_neg c] at h
  rw [show (kx.1==ky.1)=false by simp [c]]
  exact PySem.W.kat_no (oneLt_int h)
theorem qdx {ks:List jp} {vs:List Value} (x:qcH s.heap ks vs):∃ fs:List Value,PySem.W.KatTups s.heap vs fs/\fs.length=ks.length/\∀ v∈fs,∃ i t,v=Value.int i t:=by
 induction x with
 | nil=>exact ⟨[],.nil,rfl,fun v hv=>by cases hv⟩
 | @cons k v ks vs a _ ih =>
  obtain ⟨fs,h1,h2,h3⟩:=ih
  obtain ⟨p,q,t1,t2,its,rfl,⟨o,ho,hc,n,hd⟩,_,_⟩:=a
  refine ⟨.int k.1 t1::fs,.cons ho hc hd rfl h1,by rw [lC_,lC_,h2],fun v hv => ?_⟩
  rcases List.mem_cons.mp hv with rfl | hv
  ·exact ⟨_,_,rfl⟩
  ·exact h3 v hv
theorem qcI {α:Type} {vs:List Value} {ks:List jp} {R:α->Prop} {G:α->Shared->Prop} (hu:A.units<cLine) (hk:qcH s.heap ks vs):∀ {t:PySem.W.KasT α},Srt.Fits ks.length R t ->
  G (Srt.runK (fun i j=>decide ((qw ks).getD i 0<(qw ks).getD j 0)) t) s->t.kasWp (PySem.W.kas_ask prog w A (PyProof.Rows.tuples' true) vs) G s
 | .ret _,_,h=>h
 | .ask i j k,⟨h1,h2,h3⟩,h=>by
  have e1:(qw ks).getD i 0=wQ ks (ks.getD i (0,0,[])):=by unfold qw;simp [h1]
  have e2:(qw ks).getD j 0=wQ ks (ks.getD j (0,0,[])):=by unfold qw;simp [h2]
  have hm:ks.getD i (0,0,[])∈ks:=by simp [h1]
  have h':G (Srt.runK (fun i j=>decide ((qw ks).getD i 0<(qw ks).getD j 0)) (k (decide ((qw ks).getD i 0<(qw ks).getD j 0)))) s:=h
  rw [e1,e2,qcG hm] at h'
  show wpAny (model prog w) A (PyProof.Rows.keyLt' (PyProof.Rows.tuples' true) (vs.getD i Value.none) (vs.getD j Value.none)) _ _ s
  exact qlU hu (hk.get h1) (hk.get h2) (qcI hu hk (h3 _) h')
end
section
variable {X:Cx} {pins:List (Addr×Obj)} {Z:St} {H0 H:Hp} {s0 s:Shared} {a kS:Addr} {A:Around} {E:Value->Shared->Prop} {f:Value} {vs:List Value} {ks:List jp} {e1:Nat} {P:PySem.Fin->Shared->Prop}
theorem qhr {kA:Array Value} {e:Nat} {vk:List V} (I0:Inv X pins Z H0 s0) (hu:A.units<cLine) (z:SS X H0 s0 H s) (gk:s.heap.get? kS=some (seqObj "list" kA e)) (ga:s.heap.get? a=some (seqObj "list" #[] e1)) (nk:H kS=none) (na:H a=none)
  (lk:s0.heap.objs.size<=kS) (la:s0.heap.objs.size<=a) (hka:kS≠a) (hkv:qT vk kA.toList) (hk:qco X.K H ks vk) (hlen:ks.length=vs.length) (h64:vs.length<64) (fin:qb2 X H0 s0 a (qdu (qw ks) vs) P) :
  wpAny (model X.prog X.w) A (ksk_end a false vs.toArray e1 (.ref kS) kA) P E s:=by
 have kv:=qiy (z.inv I0) hk hkv
 have hrl:(qw ks).length=vs.length:=(qL ks).trans hlen
 have hkz:kA.size=vs.length:=by
  have h1:=kv.length
  rw [<- Array.length_toList,<- h1,hlen]
 unfold ksk_end
 dsimp only
 rw [if_neg (by decide)]
 by_cases h2:vs.length<2
 ·have h2':vs.toArray.size<2:=by rw [sT_];exact h2
  rw [if_pos h2',if_pos h2']
  refine wpAny_bind (wpAny_pure ?_)
  rw [StateT.run_pure]
  refine wpAny_bind (wpAny_pure ?_)
  dsimp only
  refine qdv z gk ga nk na lk la hka (by omega) (by rw [qbb hrl];exact h64) ?_ rfl fin
  have e0:qdu (qw ks) vs=vs:=by
   show (Srt.ord (qw ks)).map _=vs
   unfold Srt.ord
   rw [if_pos (by omega),hrl]
   exact Srt.map_getD_range _ vs
  rw [e0]
  apply Array.toList_inj.mp
  show ((kA.zip vs.toArray).map (·.2)).toList=vs.toArray.toList
  rw [Array.toList_map,ksk_zip,List.map_snd_zip (Nat.le_of_eq (by rw [Array.length_toList];exact hkz.symm))]
 ·have h2':¬ vs.toArray.size<2:=by rw [sT_];exact h2
  rw [if_neg h2',if_neg h2']
  have ekA:kA=kA.toList.toArray:=by simp
  obtain ⟨fs,t1,t2,t3⟩:=qdx kv
  refine wpAny_bind ?_
  rw [ekA]
  refine PySem.W.kat_kind (T := .type "int") t1 (by omega) (fun v hv => ?_) rfl ?_
  ·obtain ⟨i,t,rfl⟩:=t3 v hv
   exact .now
  have hl:kA.toList.length=vs.length:=by rw [Array.length_toList];exact hkz
  show wpAny _ _ _ _ _ _
  refine wpAny_bind (wpAny_mono (PySem.W.kat_run (κ:=PyProof.Rows.tuples' true) (Q:=fun st' s'=>s'=s/\(arrOf st').map (·.2)=(qdu (qw ks) vs).toArray/\failedOf st'=none) (G:=fun p s'=>s'=s/\p.toList=Srt.ord (qw ks)) hl (by omega) h64 (fun p st' s' a1 a2 a3 a4 => ?_) ?_) ?_ fun _ _ x=>x)
  ·refine ⟨a4.1,?_,a3⟩
   rw [PySem.W.kat_snds hl a2,a4.2]
  ·have ft:=Srt.fits_sort (n:=ks.length) (by omega)
   rw [<- hlen]
   refine qcI hu kv ft ⟨rfl,?_⟩
   unfold Srt.ord
   rw [if_neg (by omega),qL]
  ·rintro ⟨⟨⟩,st'⟩ s' ⟨rfl,h3,h4⟩
   dsimp only
   exact qdv z gk ga nk na lk la hka (by omega) (by rw [qbb hrl];exact h64) h3 h4 fin
abbrev qfS (X:Cx) (H0:Hp) (s0:Shared) (A:Around) (f v:Value) (k:jp):Prop:=∀ s' H',SS X H0 s0 H' s' ->
 wpAny (model X.prog X.w) A (call f [v]) (fun u s2=>∃ x H2,z9 x u/\KAt X.K H2 k x/\SS X H0 s0 H2 s2/\Un (frs X.stack) [] H' H2 s'.heap s2.heap/\zD H' H2) (fun _ _=>False) s'
theorem qfT (I0:Inv X pins Z H0 s0) (hu:A.units<cLine) (z:SS X H0 s0 H s) (gk:s.heap.get? kS=some (seqObj "list" #[] 0)) (ga:s.heap.get? a=some (seqObj "list" #[] e1)) (nk:H kS=none) (na:H a=none)
  (lk:s0.heap.objs.size<=kS) (la:s0.heap.objs.size<=a) (hka:kS≠a) (hlen:ks.length=vs.length) (h64:vs.length<64) (hfr:∀ b∈frs X.stack,b<s0.heap.objs.size)
  (turn:∀ (i:Nat) (v:Value) (k:jp),vs[i]? = some v->ks[i]? = some k->qfS X H0 s0 A f v k) (fin:qb2 X H0 s0 a (qdu (qw ks) vs) P):wpAny (model X.prog X.w) A (ksk_rest a f false vs.toArray e1 (.ref kS)) P E s:=by
 have nf:∀ c,s0.heap.objs.size<=c->c ∉ frs X.stack:=fun c hc hm=>absurd (Nat.lt_of_lt_of_le (hfr c hm) hc) (Nat.lt_irrefl _)
 unfold ksk_rest
 refine wpAny_bind (wpAny_rule ?_)
 rw [List.forIn_toArray]
 refine wpAny_bind (ksk_fold (fun i s'=>∃ H' kA e vk,SS X H0 s0 H' s'/\H' kS=none/\H' a=none/\s'.heap.get? kS=some (seqObj "list" kA e)/\s'.heap.get? a=some (seqObj "list" #[] e1)/\qT vk kA.toList/\qco X.K H' (ks.take i) vk/\kA.size=min i vs.length) vs 0 s
  ⟨H,#[],0,[],z,nk,na,gk,ga,.nil,by simpa using qco.nil,by simp⟩ ?step ?done)
 case step =>
  rintro j x s' hx ⟨H',kA,e,vk,z',k1,a1,g1,g2,hi,hki,hz0⟩
  rw [Nat.zero_add] at hki hz0 |-
  have hj:j<vs.length:=(gI_.mp hx).1
  obtain ⟨k,hkj⟩:∃ k,ks[j]? = some k:=⟨_,gG (by omega)⟩
  have hz:kA.size<=vs.length:=by omega
  refine wpAny_bind (wpAny_attempt (wpAny_mono (turn j x k hx hkj s' H' z') (fun v s2 hv => ?_) fun _ _ hF=>hF.elim))
  obtain ⟨y,H2,ry,ky,z2,u2,sm2⟩:=hv
  dsimp only
  have gk2:=u2.keep kS _ g1 k1 (nf kS lk) (by simp)
  have ga2:=u2.keep a _ g2 a1 (nf a la) (by simp)
  have nk2:=u2.free kS _ g1 k1 (by simp)
  have na2:=u2.free a _ g2 a1 (by simp)
  have sb:=Heap.SameBut.update s2.heap kS (Obj.mapSeq (·.push v))
  refine wpAny_bind (listUpdate_at gk2 rfl ?_ (by rw [sizeLine_eq];omega) (by show (kA.push _).size<=_;rw [Array.size_push,sizeLine_eq];omega))
  refine wpAny_pure ⟨rfl,H2,kA.push v,_,vk++[y],z2.poke nk2 lk sb s2.toks,nk2,na2,get?_update_seq gk2 (·.push v),(sb.2 a hka.symm).trans ga2,?_,?_,?_⟩
  ·have ea:(kA.push v).toList=kA.toList++[v]:=by simp
   rw [ea]
   exact hi.append (.cons ry .nil)
  ·have ek:ks.take (j+1)=ks.take j++[k]:=by rw [List.take_add_one,hkj];simp
   rw [ek]
   exact (hki.same sm2).snoc ky
  ·rw [Array.size_push];omega
 case done =>
  rintro s' ⟨H',kA,e,vk,z',k1,a1,g1,g2,hi,hki,hz0⟩
  have e3:ks.take (0+vs.length)=ks:=List.take_of_length_le (by omega)
  rw [e3] at hki
  refine wpAny_bind (listItems_at g1 rfl ?_)
  exact qhr I0 hu z' g1 g2 k1 a1 lk la hka hi hki hlen h64 fin
theorem qfU {n:Nat} (I0:Inv X pins Z H0 s0) (hu:A.units<cLine) (z:SS X H0 s0 H s) (ho:s.heap.get? a=some (seqObj "list" vs.toArray n)) (na:H a=none) (la:s0.heap.objs.size<=a) (hs0:s0.heap.objs.size<=s.heap.objs.size) (hlen:ks.length=vs.length) (h64:vs.length<64) (hfr:∀ b∈frs X.stack,b<s0.heap.objs.size)
  (turn:∀ (i:Nat) (v:Value) (k:jp),vs[i]? = some v->ks[i]? = some k->qfS X H0 s0 A f v k) (fin:qb2 X H0 s0 a (qdu (qw ks) vs) P):wpAny (model X.prog X.w) A (ksk_tree a f false) P E s:=by
 have hlt:a<s.heap.objs.size:=Heap.lt_size ho
 have sb:=Heap.SameBut.update s.heap a (Obj.mapSeq fun _=>(#[]:Array Value))
 obtain ⟨e1,ho1⟩:∃ e1,(s.heap.update a (Obj.mapSeq fun _=>(#[]:Array Value))).get? a=some (seqObj "list" #[] e1):=⟨_,get?_update_seq ho fun _ => #[]⟩
 have z1:=z.poke na la sb s.toks
 have hsz:((s.heap.update a (Obj.mapSeq fun _=>(#[]:Array Value))).push (seqObj "tuple" vs.toArray 0)).objs.size=s.heap.objs.size+1:=by rw [size_push',Heap.size_update]
 unfold ksk_tree
 refine wpAny_bind (listItems_at ho rfl (wpAny_bind (listUpdate_at ho rfl ?_ (by rw [sT_,sizeLine_eq];omega) (Nat.zero_le _))))
 refine wpAny_bind (seqEpoch_at ho1 rfl (wpAny_bind (wpAny_newTuple ?_ (by show vs.length<=_;rw [sizeLine_eq];omega))))
 refine wpAny_bind (wpAny_newList (wpAny_holding ?_) (Nat.zero_le _))
 have kp:∀ b u,(s.heap.update a (Obj.mapSeq fun _=>(#[]:Array Value))).get? b=some u->(((s.heap.update a (Obj.mapSeq fun _=>(#[]:Array Value))).push (seqObj "tuple" vs.toArray 0)).push (seqObj "list" #[] 0)).get? b=some u :=
  fun b u q=>Heap.get?_push_of_some _ (Heap.get?_push_of_some _ q)
 have z3:=z1.kept kp s.toks
 refine qfT I0 hu (kS:=((s.heap.update a (Obj.mapSeq fun _=>(#[]:Array Value))).push (seqObj "tuple" vs.toArray 0)).objs.size) z3 (Heap.get?_push_size _ rfl) (kp _ _ ho1) ?_ na (by rw [hsz];omega) la (by rw [hsz];exact Nat.ne_of_gt (Nat.lt_succ_of_lt hlt)) hlen h64 hfr turn fin
 cases q:H ((s.heap.update a (Obj.mapSeq fun _=>(#[]:Array Value))).push (seqObj "tuple" vs.toArray 0)).objs.size with
 | none=>rfl
 | some u =>
  have:=z.hok.lt q
  rw [hsz] at this
  exact absurd (Nat.lt_of_succ_lt this) (Nat.lt_irrefl _)
end
section
variable {X:Cx} {pins:List (Addr×Obj)} {Z:St} {H:Hp} {s:Shared} {l f:Addr} {vs:List Value} {ks:List jp} {Q:Value->Shared->Prop} {E:Value->Shared->Prop}
theorem qcJ (hu:X.A.in1.in1.units<cLine) (I:Inv X pins Z H s) (hl:s.heap.IsList l vs.toArray) (hlen:ks.length=vs.length) (h64:vs.length<64) (turn:∀ (i:Nat) (v:Value) (k:jp),vs[i]? = some v->ks[i]? = some k->qfS X H s X.A.in1.in1 (.ref f) v k)
  (fin:∀ D H' s' c,s.heap.objs.size<=D->SS X H s H' s'->H' D=none->s'.heap.get? D=some (seqObj "list" (qdu (qw ks) vs).toArray c)->Q (.ref D) s'):wpAny (model X.prog X.w) X.A (call (.builtin "sorted") [.ref l] [(Str.ofString "key",.ref f)]) Q E s:=by
 refine call_function_entry_kw kind_sorted plain_sorted entry_sorted (ksk_s1 _ _) ?_
 unfold Builtin.«sorted»
 refine wpAny_bind (m:=checkCount "sorted" 1 1 _) (wpAny_pure (wpAny_bind (collect_list hl ?_ (by rw [sizeLine_eq];omega))))
 refine wpAny_bind (wpAny_newList ?_ (by rw [sizeLine_eq];omega))
 have hsz:((s.heap.push (seqObj "list" #[] 0)).update s.heap.objs.size (Obj.mapSeq (·++vs.toArray))).objs.size=s.heap.objs.size+1:=by rw [Heap.size_update,size_push']
 have hD:(((s.heap.push (seqObj "list" #[] 0)).update s.heap.objs.size (Obj.mapSeq (·++vs.toArray))).push (seqObj "list" vs.toArray 0)).get? (s.heap.objs.size+1)=some (seqObj "list" vs.toArray 0):=by rw [<- hsz];exact Heap.get?_push_size _ rfl
 have keep:∀ b o,s.heap.get? b=some o->(((s.heap.push (seqObj "list" #[] 0)).update s.heap.objs.size (Obj.mapSeq (·++vs.toArray))).push (seqObj "list" vs.toArray 0)).get? b=some o:=fun b o q=>by
  have hb:=Heap.lt_size q
  rw [Heap.get?_push_ne _ _ _ (by rw [hsz];exact Nat.ne_of_lt (Nat.lt_succ_of_lt hb)),Heap.get?_update_ne _ _ _ _ (Nat.ne_of_lt hb),Heap.get?_push_ne _ _ _ (Nat.ne_of_lt hb)]
  exact q
 have z:=(SS.of I).kept keep s.toks
 have hfr:∀ b∈frs X.stack,b<s.heap.objs.size:=fun b hb=>by
  obtain ⟨_,o,ho,_⟩:=I.stack.mem hb
  exact Heap.lt_size ho
 have hszs:s.heap.objs.size<=(((s.heap.push (seqObj "list" #[] 0)).update s.heap.objs.size (Obj.mapSeq (·++vs.toArray))).push (seqObj "list" vs.toArray 0)).objs.size:=by rw [size_push',hsz];omega
 show wpAny _ _ _ _ _ { s with heap:=((s.heap.push (seqObj "list" #[] 0)).update s.heap.objs.size (Obj.mapSeq (·++vs.toArray))).push (seqObj "list" vs.toArray 0) }
 rw [hsz]
 refine wpAny_bind (wpAny_holding (wpAny_call_entry_kw slot_list_sort ⟨_,hD,rfl⟩ entry_list_sort ?body (ksk_l1 _ _)))
 case body =>
  show wpAny (model X.prog X.w) X.A.in1.in1 (Builtin.«list.sort» ⟨[.ref (s.heap.objs.size+1)],[(Str.ofString "key",.ref f)]⟩) _ _ _
  rw [ksk_t1]
  refine qfU I hu (X:=X) (H0:=H) (s0:=s) (H:=H) z hD (I.hok.fresh (Nat.le_succ _)) (Nat.le_succ _) hszs hlen h64 hfr turn fun H' s' c z' n' g'=>⟨_,rfl,?_⟩
  exact wpAny_pure ⟨_,rfl,fin _ H' s' c (Nat.le_succ _) z' n' g'⟩
end
end L2
namespace L2
open PySem PySem.Spec PyProof.Rows
def qlV (X:Cx) (f:Addr) (F:List Sk.D->Sk.R Sk.D):St->List V->List V->Hp->VK->Prop:=fun Z xs zs H Q =>
 ∃ (a:Addr) (ys:List V) (ks:List jp),xs=[.ref a]/\zs=[.ref f]/\SqL X.K H a ys/\ys.length<64/\ks.length=ys.length /\
  (∀ (i:Nat) (y:V) (k:jp),ys[i]? = some y->ks[i]? = some k->∀ H',zD H H'->Sk.spD X.K F [y] H' (fun v H2=>KAt X.K H2 k v/\zD H' H2) E0) /\
  ∀ H' p,zD H H'->H' p=none->Q (.ref p) (upd H' p (.lst ((Srt.ord (qw ks)).map fun i=>ys.getD i .non)))
section
variable {X:Cx} {k:Nat} {f:Addr} {fd:FuncData} {x:Str} {F:List Sk.D->Sk.R Sk.D}
theorem qek (G:uQ X.prog X.w X.K X.mg X.base CX0 k f fd [x] (Sk.spD X.K F)) (hb:ua X.K fd [x] []) (hr:jA (k+2) X.A):CallKS X (.builtin "sorted") [Str.ofString "key"] (qlV X f F):=by
 intro pins s Z H xs us zs wz Q I rx rz h
 obtain ⟨a,ys,ks,rfl,rfl,hs,h64,hlen,key,hq⟩:=h
 cases rx with
 | cons ra rr =>
 cases rr
 cases rz with
 | cons rf rr =>
 cases rr
 cases ra
 cases rf
 obtain ⟨its,r,ht,hz⟩:=I.list hs
 have hl:=r.length
 have hr2:jA k X.A.in1.in1:=hr.in1.in1
 refine qcJ (ks:=ks) hr2.units0 I ht.isList (by omega) (by omega) (fun i v k' hvi hki s' H' z => ?_) fun D H' s' c hD z' n' g' => ?_
 ·have hi:i<ys.length:=by rw [hl];exact (gI_.mp hvi).1
  obtain ⟨u,hu,ry⟩:=r.get (gG hi)
  rw [hvi] at hu;cases hu
  have sp:=key i ys[i] k' (gG hi) hki H' z.same
  have I':=z.inv I
  have e0:qgq X.prog X.w X.K X.mg X.base X.A.in1.in1 X.stack s' H':=by
   obtain ⟨a1,a2,a3,a4,a5,a6,a7,a8⟩:=I'.env0
   exact ⟨a1,a2,a3,a4,a5,a6,a7,a8⟩
  refine wpAny_call (codeAny_mono (G.run X.A.in1.in1 X.stack s' H' ⟨[v],[]⟩ [v] [ys[i]] (fun v H2=>KAt X.K H2 k' v/\zD H' H2) E0 hr2 e0 (by
   have:=hb s' [v] I'.kIn rfl
   simpa using this) (.cons ry .nil) sp) fun r' s2 hq' => ?_)
  cases r' with
  | error e=>exact hq'.elim
  | ok fl =>
   cases fl with
   | ret u =>
    obtain ⟨v',H2,r2,⟨ka,sm⟩,z2,u2⟩:=z.call hq' fun v H' q=>q.2
    exact ⟨v',H2,r2,ka,z2,u2,sm⟩
   | next=>exact False.elim hq'
   | brk=>exact False.elim hq'
   | cont=>exact False.elim hq'
 ·have hpl:∀ i∈Srt.ord (qw ks),i<ys.length:=fun i hi=>by
   have:=(Srt.ord_perm (qw ks)).mem_iff.mp hi
   rw [qL] at this
   rw [<- hlen];exact mR_.mp this
  have hnone:s.heap.get? D=none:=Heap.get?_none_of_le hD
  have rp:=wP r (Srt.ord (qw ks)) hpl
  have ol:((Srt.ord (qw ks)).map fun i=>ys.getD i V.non).length<=sizeLine:=by
   rw [lM_,(Srt.ord_perm (qw ks)).length_eq,lR_,qL,sizeLine_eq];omega
  have ne':∀ c u,H' c=some u->c≠D:=fun c u q z=>by rw [z,n'] at q;cases q
  have hok:HOk X.prog X.w (upd H' D (.lst ((Srt.ord (qw ks)).map fun i=>ys.getD i .non))) s'.heap:=fun b u e=>by
   by_cases hbD:b=D
   ·subst hbD
    rw [qk] at e;cases e
    exact ⟨ol,_,_,rp,g'⟩
   ·rw [qj hbD] at e
    exact (z'.hok b u e).stay (fun _ _ _ q=>q) (fun c q=>by rw [qj (ne' c _ q)];exact q) (fun c xs q=>by rw [qj (ne' c _ q)];exact q) fun c ob y q=>by rw [qj (ne' c _ q)];exact q
  have un:=Sk.un_held (o := .lst ((Srt.ord (qw ks)).map fun i=>ys.getD i .non)) z'.un hnone n'
  have zz:SS X H s (upd H' D (.lst ((Srt.ord (qw ks)).map fun i=>ys.getD i .non))) s':=⟨z'.os,z'.bare,un,hok,fun b o e=>qds n' b o (z'.same b o e)⟩
  exact ⟨.ref D,_,zz.inv I,rfl,hq H' D z'.same n'⟩
end
end L2
namespace L2.Sk
open PySem PySem.Spec PyProof.Rows
def qgt:D->Option jp
 | .tup [.int a,.int b,.tup ts]=>match uf ts with
  | some ns=>some (a,b,ns)
  | none=>none
 | _=>none
def wR (F:List D->R D):List D->Option (List jp)
 | []=>some []
 | d::ds=>match F [d],wR F ds with
  | .ok k,some ks=>match qgt k with
   | some k=>some (k::ks)
   | none=>none
  | _,_=>none
def qb3 (F:List D->R D) (f:M D):M D:=bnd f fun d U=>match d with
 | .lst ds=>if ds.length<64 then match wR F ds with
   | some ks => .ok (.lst (qag (Srt.ord (qw ks)) ds),U)
   | none => .bad
  else .bad
 | _ => .bad
theorem qaG {F:List D->R D} {d:D} {ds:List D} {ks:List jp} (h:wR F (d::ds)=some ks):∃ k k3 ks',F [d] = .ok k/\qgt k=some k3/\wR F ds=some ks'/\ks=k3::ks':=by
 unfold wR at h
 split at h
 ·rename_i k ks' e1 e2
  split at h
  ·rename_i k3 e3
   cases h
   exact ⟨k,k3,ks',e1,e3,e2,rfl⟩
  ·cases h
 ·cases h
theorem qb4 {F:List D->R D}:∀ {ds:List D} {ks:List jp},wR F ds=some ks->ks.length=ds.length
 | [],ks,h=>by cases h;rfl
 | d::ds,ks,h=>by
  obtain ⟨k,k3,ks',_,_,e,rfl⟩:=qaG h
  rw [lC_,lC_,qb4 e]
theorem qb5 {F:List D->R D}:∀ {ds:List D} {ks:List jp} {i:Nat} {d:D} {k:jp},wR F ds=some ks->ds[i]? = some d->ks[i]? = some k->∃ e,F [d] = .ok e/\qgt e=some k
 | [],_,_,_,_,_,h,_=>by simp at h
 | d0::ds,ks,i,d,k,h,h1,h2=>by
  obtain ⟨e0,k0,ks',a1,a2,a3,rfl⟩:=qaG h
  cases i with
  | zero =>
   have b1:d0=d:=by simpa using h1
   have b2:k0=k:=by simpa using h2
   subst b1 b2
   exact ⟨_,a1,a2⟩
  | succ i=>exact qb5 a3 (by simpa using h1) (by simpa using h2)
theorem qlW {K:Fr0} {A:Addr->Prop} {H:Hp} {d:D} {k:jp} {v:V} (e:qgt d=some k) (h:Is K A H d v):KAt K H k v:=by
 unfold qgt at e
 split at e
 ·rename_i a b ts
  split at e
  ·rename_i ns hns
   cases e
   obtain ⟨p,xs,rfl,tp,il⟩:=h
   obtain ⟨x1,y1,rfl,i1,il⟩:=il
   obtain ⟨x2,y2,rfl,i2,il⟩:=il
   obtain ⟨x3,y3,rfl,i3,il⟩:=il
   have il':y3=[]:=il
   subst il'
   have i1':x1=V.int a:=i1
   have i2':x2=V.int b:=i2
   subst i1' i2'
   obtain ⟨q,zs,rfl,tq,iz⟩:=i3
   rw [yB iz hns] at tq
   exact ⟨p,q,rfl,tp,tq⟩
  ·cases e
 ·cases e
section
variable {X:Cx} {c:Fc} {e:Expr} {p pos kpos p2:Pos} {x:Str} {k:Nat}
theorem qhs {j:Nat} {F:List D->R D} {y:Str} {f:M D} (he:DE X c e f) (C:zn X.prog X.w X.K X.mg X.base k x [y] (spD X.K F)) (hr:jA j X.A) (hg:Gl X "sorted") (hm:X.mg "sorted"=none)
  (hk:k+2<=j:=by decide) (hgx:Gl X x:=by rfl) (hdx:(x==("__debug__":Str))=false:=by decide)
  (hst:starEach [e] X.env=(false,eval e X.env)::starEach [] X.env:=by rfl) (hpl:((backTo pos (starEach [e] X.env)).any (·.1)||(backToKw pos (keywordEach [⟨some "key",.Name x p2,kpos⟩] X.env)).any (·.1.isNone))=false:=by rfl) :
  DE X c (.Call (.Name "sorted" p) [e] [⟨some "key",.Name x p2,kpos⟩] pos) (qb3 F f):=by
 obtain ⟨te,pe,we⟩:=he
 obtain ⟨fa,fd,G,m,kk,b⟩:=C.ex
 refine ⟨_,qfP (qek G b (hr.mono hk)) hg hm rfl (zQ pe ya hst) (qiY (qaQ (v := .ref fa) hgx m rfl hdx) qkR) (he:=hst) (hpl:=hpl),fun U Z H Q r h => ?_⟩
 refine we U Z H _ r (Wp.bnd h fun d U1 v H1 r1 i1 g1 h1 => ?_)
 cases d<;>try exact h1.elim
 rename_i ds
 by_cases h64:ds.length<64
 case neg=>simp only [h64,if_false] at h1;exact h1.elim
 simp only [h64,if_true] at h1
 cases hks:wR F ds with
 | none=>simp only [hks] at h1;exact h1.elim
 | some ks =>
  simp only [hks] at h1
  have hl:=qb4 hks
  obtain ⟨a,ys,rfl,hA,ta,il⟩:=i1
  have hyl:=il.length
  refine ⟨a,ys,ks,rfl,rfl,.inl (.inl ta),by omega,by omega,fun i y' k' hy hki H' sm' => ?_,fun H' p' sm' hp => ?_⟩
  ·have hi:i<ds.length:=by rw [<- hyl];exact (gI_.mp hy).1
   obtain ⟨z,e1,e2⟩:=il.get (gG hi)
   rw [hy] at e1;cases e1
   obtain ⟨e',eg,et⟩:=qb5 hks (gG hi) hki
   have r2:=r1.same sm'
   refine ⟨[ds[i]],Cn c Z,⟨y',[],rfl,Is.ext (Ext.of_same sm') (fun _ h _=>h) e2,rfl⟩,r2.tb,?_⟩
   rw [eg]
   exact fun v' H3 sm3 i3=>⟨qlW et i3,sm3⟩
  ·have r3:=r1.same sm'
   have hpl:∀ i∈Srt.ord (qw ks),i<ds.length:=fun i hi=>by
    have:=(Srt.ord_perm (qw ks)).mem_iff.mp hi
    rw [qL] at this
    rw [<- hl];exact mR_.mp this
   have ip:=IsL.pick (IsL.ext (Ext.of_same sm') (fun _ h _=>h) il) (Srt.ord (qw ks)) hpl
   have smA:zD H1 (upd H' p' (.lst ((Srt.ord (qw ks)).map fun i=>ys.getD i .non))):=fun b o q=>qv hp _ b o (sm' b o q)
   exact h1 _ _ (r3.laid hp _) ⟨p',_,rfl,r3.new hp,qk,IsL.ext (Ext.of_same (qv hp _)) (fun _ h _=>h) ip⟩ (.of_same smA)
theorem qht {F:List D->R D} {f:M D} {U U1:Env} {ds:List D} {ks:List jp} (h:f U = .ok (.lst ds,U1)) (h64:ds.length<64) (hk:wR F ds=some ks):qb3 F f U = .ok (.lst (qag (Srt.ord (qw ks)) ds),U1):=by
 unfold qb3 bnd
 simp only [h,h64,if_true,hk]
end
end L2.Sk
set_option maxHeartbeats 1000000
namespace L2.Sk
open PySem PySem.Spec PyProof.Rows
section
variable {X:Cx} {c:Fc} {a b e:Expr} {pos:Pos}
end
end L2.Sk
set_option maxHeartbeats 1000000
namespace L2
open PySem PySem.Spec PyProof.Rows
theorem qaH {h h':Heap} {a:Addr} {its:Array Value} (k:∀ b u,h.get? b=some u->h'.get? b=some u) (t:IsTup h a its):IsTup h' a its:=by
 obtain ⟨o,h1,h2,n,h3⟩:=t
 exact ⟨o,k _ _ h1,h2,n,h3⟩
theorem qcH.kept {h h':Heap} {ks:List jp} {vs:List Value} (k:∀ b u,h.get? b=some u->h'.get? b=some u) (x:qcH h ks vs):qcH h' ks vs:=by
 induction x with
 | nil=>exact .nil
 | cons a _ ih =>
  obtain ⟨p,q,t1,t2,its,e,h1,h2,h3⟩:=a
  exact .cons ⟨p,q,t1,t2,its,e,qaH k h1,qaH k h2,h3⟩ ih
section
variable {X:Cx} {pins:List (Addr×Obj)} {Z:St} {H0 H:Hp} {s0 s:Shared} {a:Addr} {A:Around} {E:Value->Shared->Prop} {vs:List Value} {ks:List jp} {P:PySem.Fin->Shared->Prop}
theorem qfV {n:Nat} (I0:Inv X pins Z H0 s0) (hu:A.units<cLine) (kv:qcH s0.heap ks vs) (z:SS X H0 s0 H s) (k0:∀ b u,s0.heap.get? b=some u->s.heap.get? b=some u) (ho:s.heap.get? a=some (seqObj "list" vs.toArray n)) (na:H a=none) (la:s0.heap.objs.size<=a) (h64:vs.length<64)
  (fin:qb2 X H0 s0 a (qdu (qw ks) vs) P):wpAny (model X.prog X.w) A (Builtin.«list.sort» ⟨[.ref a],[]⟩) P E s:=by
 have hlen:ks.length=vs.length:=kv.length
 have hrl:(qw ks).length=vs.length:=(qL ks).trans hlen
 have hlt:a<s.heap.objs.size:=Heap.lt_size ho
 have sb:=Heap.SameBut.update s.heap a (Obj.mapSeq fun _=>(#[]:Array Value))
 obtain ⟨e1,ho1⟩:∃ e1,(s.heap.update a (Obj.mapSeq fun _=>(#[]:Array Value))).get? a=some (seqObj "list" #[] e1):=⟨_,get?_update_seq ho fun _ => #[]⟩
 have z1:=z.poke na la sb s.toks
 have kp:∀ b u,(s.heap.update a (Obj.mapSeq fun _=>(#[]:Array Value))).get? b=some u->(((s.heap.update a (Obj.mapSeq fun _=>(#[]:Array Value))).push (seqObj "tuple" vs.toArray 0)).push (seqObj "list" #[] 0)).get? b=some u :=
  fun b u q=>Heap.get?_push_of_some _ (Heap.get?_push_of_some _ q)
 have z3:=z1.kept kp s.toks
 have ka:∀ b u,s0.heap.get? b=some u->(((s.heap.update a (Obj.mapSeq fun _=>(#[]:Array Value))).push (seqObj "tuple" vs.toArray 0)).push (seqObj "list" #[] 0)).get? b=some u:=fun b u q=>by
  refine kp b u ((sb.2 b ?_).trans (k0 b u q))
  exact Nat.ne_of_lt (Nat.lt_of_lt_of_le (Heap.lt_size q) la)
 have kv3:=kv.kept ka
 rw [list_sort_plain]
 refine wpAny_bind (listItems_at ho rfl (wpAny_bind (listUpdate_at ho rfl ?_ (by rw [sT_,sizeLine_eq];omega) (Nat.zero_le _))))
 refine wpAny_bind (seqEpoch_at ho1 rfl (wpAny_bind (wpAny_newTuple ?_ (by show vs.length<=_;rw [sizeLine_eq];omega))))
 refine wpAny_bind (wpAny_newList (wpAny_holding ?_) (Nat.zero_le _))
 show wpAny (model X.prog X.w) A _ P E { s with heap:=((s.heap.update a (Obj.mapSeq fun _=>(#[]:Array Value))).push (seqObj "tuple" vs.toArray 0)).push (seqObj "list" #[] 0) }
 generalize hs3:({ s with heap:=((s.heap.update a (Obj.mapSeq fun _=>(#[]:Array Value))).push (seqObj "tuple" vs.toArray 0)).push (seqObj "list" #[] 0) }:Shared)=s3
 have z3':SS X H0 s0 H s3:=by rw [<- hs3];exact z3
 have ga:s3.heap.get? a=some (seqObj "list" #[] e1):=by rw [<- hs3];exact kp _ _ ho1
 have kv3':qcH s3.heap ks vs:=by rw [<- hs3];exact kv3
 dsimp only
 have tail:∀ (st:SortSt),(arrOf st).map (·.2)=(qdu (qw ks) vs).toArray->failedOf st=none ->
   wpAny (model X.prog X.w) A (do
    let touched:=(<- seqEpoch a) != e1
    Builtin.List.listUpdate (.ref a) fun _=>(arrOf st).map (·.2)
    if let some e:=failedOf st then rule "list.sort.comparison-raised";throw e
    if touched then rule "list.sort.modified";raiseError "ValueError" "list modified during sort"
    ret .none) P E s3:=fun st ho hf=>by
  have ol:=qbb hrl
  have sb2:=Heap.SameBut.update s3.heap a (Obj.mapSeq fun _=>(qdu (qw ks) vs).toArray)
  have z4:=z3'.poke na la sb2 s3.toks
  refine wpAny_bind (seqEpoch_at ga rfl ?_)
  rw [ho,hf]
  refine wpAny_bind (listUpdate_at ga rfl ?_ (Nat.zero_le _) (by show (qdu (qw ks) vs).toArray.size<=_;rw [sT_,sizeLine_eq];omega))
  simp only [bne_self_eq_false,Bool.false_eq_true,if_false]
  exact wpAny_pure (fin H _ _ z4 na (get?_update_seq ga fun _=>(qdu (qw ks) vs).toArray))
 by_cases h2:vs.length<2
 ·have h2':vs.toArray.size<2:=by rw [sT_];exact h2
  rw [if_pos h2',if_pos h2']
  refine wpAny_bind (wpAny_pure ?_)
  rw [StateT.run_pure]
  refine wpAny_bind (wpAny_pure ?_)
  refine tail _ ?_ rfl
  have e0:qdu (qw ks) vs=vs:=by
   show (Srt.ord (qw ks)).map _=vs
   unfold Srt.ord
   rw [if_pos (by omega),hrl]
   exact Srt.map_getD_range _ vs
  rw [e0]
  apply Array.toList_inj.mp
  show ((vs.toArray.zip vs.toArray).map (·.2)).toList=vs.toArray.toList
  rw [Array.toList_map,ksk_zip,List.map_snd_zip (Nat.le_refl _)]
 ·have h2':¬ vs.toArray.size<2:=by rw [sT_];exact h2
  rw [if_neg h2',if_neg h2']
  obtain ⟨fs,t1,t2,t3⟩:=qdx kv3'
  refine wpAny_bind ?_
  refine PySem.W.kat_kind (T := .type "int") t1 (by omega) (fun v hv => ?_) rfl ?_
  ·obtain ⟨i,t,rfl⟩:=t3 v hv
   exact .now
  show wpAny _ _ _ _ _ _
  refine wpAny_bind (wpAny_mono (PySem.W.kat_run (κ:=PyProof.Rows.tuples' true) (Q:=fun st' s'=>s'=s3/\(arrOf st').map (·.2)=(qdu (qw ks) vs).toArray/\failedOf st'=none) (G:=fun p s'=>s'=s3/\p.toList=Srt.ord (qw ks)) rfl (by omega) h64 (fun p st' s' a1 a2 a3 a4 => ?_) ?_) ?_ fun _ _ x=>x)
  ·refine ⟨a4.1,?_,a3⟩
   rw [PySem.W.kat_snds rfl a2,a4.2]
  ·have ft:=Srt.fits_sort (n:=ks.length) (by omega)
   rw [<- hlen]
   refine qcI hu kv3' ft ⟨rfl,?_⟩
   unfold Srt.ord
   rw [if_neg (by omega),qL]
  ·rintro ⟨⟨⟩,st'⟩ s' ⟨rfl,h3,h4⟩
   exact tail st' h3 h4
end
def qlX (K:PySem.W.Frag):List V->Hp->VK->Prop:=fun xs H Q=>∃ (a:Addr) (ys:List V) (ks:List jp),xs=[.ref a]/\SqL K H a ys/\ys.length<64/\qco K H ks ys /\
  ∀ H' p,zD H H'->H' p=none->Q (.ref p) (upd H' p (.lst ((Srt.ord (qw ks)).map fun i=>ys.getD i .non)))
theorem qdy {K:PySem.W.Frag} {H:Hp} {ks:List jp} {vs:List V} (h:qco K H ks vs):ks.length=vs.length:=by
 induction h with
 | nil=>rfl
 | cons _ _ ih=>rw [lC_,lC_,ih]
theorem qel {X:Cx} {k:Nat} (hr:jA (k+2) X.A):j9 X (.builtin "sorted") (qlX X.K):=by
 intro pins s Z H xs us Q I r h
 obtain ⟨l,ys,ks,rfl,hs,h64,hk,hq⟩:=h
 obtain ⟨u,rfl,ru⟩:=qT.one r
 cases ru
 obtain ⟨vs,r,ht,hz⟩:=I.list hs
 have hl:=r.length
 have hlen:=qdy hk
 have kv:=qiy I hk r
 have hr2:jA k X.A.in1.in1:=hr.in1.in1
 have hL:=ht.isList
 refine Calls.call_function_entry kind_sorted plain_sorted entry_sorted (args_sorted1 _) ?_
 unfold Builtin.«sorted»
 refine wpAny_bind (m:=checkCount "sorted" 1 1 _) (wpAny_pure (wpAny_bind (collect_list hL ?_ (by rw [sizeLine_eq];omega))))
 refine wpAny_bind (wpAny_newList ?_ (by rw [sizeLine_eq];omega))
 have hsz:((s.heap.push (seqObj "list" #[] 0)).update s.heap.objs.size (Obj.mapSeq (·++vs.toArray))).objs.size=s.heap.objs.size+1:=by rw [Heap.size_update,size_push']
 have hD:(((s.heap.push (seqObj "list" #[] 0)).update s.heap.objs.size (Obj.mapSeq (·++vs.toArray))).push (seqObj "list" vs.toArray 0)).get? (s.heap.objs.size+1)=some (seqObj "list" vs.toArray 0):=by rw [<- hsz];exact Heap.get?_push_size _ rfl
 have keep:∀ b o,s.heap.get? b=some o->(((s.heap.push (seqObj "list" #[] 0)).update s.heap.objs.size (Obj.mapSeq (·++vs.toArray))).push (seqObj "list" vs.toArray 0)).get? b=some o:=fun b o q=>by
  have hb:=Heap.lt_size q
  rw [Heap.get?_push_ne _ _ _ (by rw [hsz];exact Nat.ne_of_lt (Nat.lt_succ_of_lt hb)),Heap.get?_update_ne _ _ _ _ (Nat.ne_of_lt hb),Heap.get?_push_ne _ _ _ (Nat.ne_of_lt hb)]
  exact q
 have z:=(SS.of I).kept keep s.toks
 show wpAny _ _ _ _ _ { s with heap:=((s.heap.push (seqObj "list" #[] 0)).update s.heap.objs.size (Obj.mapSeq (·++vs.toArray))).push (seqObj "list" vs.toArray 0) }
 rw [hsz]
 refine wpAny_bind (wpAny_holding (wpAny_call_entry slot_list_sort ⟨_,hD,rfl⟩ entry_list_sort ?body (args_list_sort _)))
 case body =>
  show wpAny (model X.prog X.w) X.A.in1.in1 (Builtin.«list.sort» ⟨[.ref (s.heap.objs.size+1)],[]⟩) _ _ _
  refine qfV (X:=X) (H0:=H) (s0:=s) (H:=H) I hr2.units0 kv z keep hD (I.hok.fresh (Nat.le_succ _)) (Nat.le_succ _) (by omega) fun H' s' c z' n' g'=>⟨_,rfl,?_⟩
  refine wpAny_pure ⟨_,rfl,?_⟩
  have hpl:∀ i∈Srt.ord (qw ks),i<ys.length:=fun i hi=>by
   have:=(Srt.ord_perm (qw ks)).mem_iff.mp hi
   rw [qL] at this
   rw [<- hlen];exact mR_.mp this
  have hnone:s.heap.get? (s.heap.objs.size+1)=none:=Heap.get?_none_of_le (Nat.le_succ _)
  have rp:=wP r (Srt.ord (qw ks)) hpl
  have ol:((Srt.ord (qw ks)).map fun i=>ys.getD i V.non).length<=sizeLine:=by
   rw [lM_,(Srt.ord_perm (qw ks)).length_eq,lR_,qL,sizeLine_eq];omega
  have ne':∀ c u,H' c=some u->c≠s.heap.objs.size+1:=fun c u q z=>by rw [z,n'] at q;cases q
  have hok:HOk X.prog X.w (upd H' (s.heap.objs.size+1) (.lst ((Srt.ord (qw ks)).map fun i=>ys.getD i .non))) s'.heap:=fun b u e=>by
   by_cases hbD:b=s.heap.objs.size+1
   ·subst hbD
    rw [qk] at e;cases e
    exact ⟨ol,_,_,rp,g'⟩
   ·rw [qj hbD] at e
    exact (z'.hok b u e).stay (fun _ _ _ q=>q) (fun c q=>by rw [qj (ne' c _ q)];exact q) (fun c xs q=>by rw [qj (ne' c _ q)];exact q) fun c ob y q=>by rw [qj (ne' c _ q)];exact q
  have un:=Sk.un_held (o := .lst ((Srt.ord (qw ks)).map fun i=>ys.getD i .non)) z'.un hnone n'
  have zz:SS X H s (upd H' (s.heap.objs.size+1) (.lst ((Srt.ord (qw ks)).map fun i=>ys.getD i .non))) s':=⟨z'.os,z'.bare,un,hok,fun b o e=>qds n' b o (z'.same b o e)⟩
  exact ⟨.ref (s.heap.objs.size+1),_,zz.inv I,rfl,hq H' _ z'.same n'⟩
end L2
namespace L2.Sk
open PySem PySem.Spec PyProof.Rows
def qb6:List D->Option (List jp)
 | []=>some []
 | d::ds=>match qgt d,qb6 ds with
  | some k,some ks=>some (k::ks)
  | _,_=>none
theorem qdz {K:Fr0} {A:Addr->Prop} {H:Hp}:∀ {ds:List D} {ks:List jp} {vs:List V},qb6 ds=some ks->IsL K A H ds vs->qco K H ks vs
 | [],ks,vs,h,il=>by
  cases h
  have:vs=[]:=il
  subst this
  exact .nil
 | d::ds,ks,vs,h,il=>by
  unfold qb6 at h
  split at h
  ·rename_i k ks' e1 e2
   cases h
   obtain ⟨x,ys,rfl,i1,i2⟩:=il
   exact .cons (qlW e1 i1) (qdz e2 i2)
  ·cases h
def qb7 (i:Nat):M (List D):=fun U=>match zf i U with
 | some ds=>if ds.length<64 then match qb6 ds with
   | some ks => .ok (qag (Srt.ord (qw ks)) ds,U)
   | none => .bad
  else .bad
 | none => .bad
section
variable {X:Cx} {c:Fc} {pos:Pos}
theorem qhu {i j:Nat} {x:Str} {p p1:Pos} (hr:jA j X.A) (hg:Gl X "sorted") (hm:X.mg "sorted"=none) (hj:2<=j:=by decide) (ho:i∈c.O:=by exact of_decide_eq_true rfl) (hN:X.N[i]? = some x:=by rfl) (hv:Vis X.env.scope x:=by first | exact Or.inl rfl | exact Or.inr (Or.inl rfl) | exact Or.inr (Or.inr rfl)) (hd:(x==("__debug__":Str))=false:=by decide) (hcd:(x==("__classdict__":Str))=false:=by decide) :
  DN X c (.Call (.Name "sorted" p) [.Name x p1] [] pos) (qb7 i):=by
 have hr2:jA (0+2) X.A:=hr.mono hj
 refine ⟨_,uv (qel hr2) hg hm rfl (zQ (jO hN hv hd hcd) ya),fun U Z H Q r h => ?_⟩
 unfold qb7 at h
 cases e0:zf i U with
 | none=>simp only [e0] at h;exact h.elim
 | some ds =>
  simp only [e0] at h
  by_cases h64:ds.length<64
  case neg=>simp only [h64,if_false] at h;exact h.elim
  simp only [h64,if_true] at h
  cases ek:qb6 ds with
  | none=>simp only [ek] at h;exact h.elim
  | some ks =>
   simp only [ek] at h
   obtain ⟨l,xs,him,hl,hH,il⟩:=r.getLO ho e0
   have hxl:=il.length
   have ka:=qdz ek il
   have hkl:=qdy ka
   refine ⟨.ref l,hl,l,xs,ks,rfl,.inl (.inl hH),by omega,ka,fun H' q sm hq => ?_⟩
   have r2:=r.same sm
   have hpl:∀ i∈Srt.ord (qw ks),i<ds.length:=fun i hi=>by
    have:=(Srt.ord_perm (qw ks)).mem_iff.mp hi
    rw [qL] at this
    have:=mR_.mp this
    omega
   have ip:=IsL.pick (IsL.ext (Ext.of_same sm) (fun _ h _=>h) il) (Srt.ord (qw ks)) hpl
   have hq0:H q=none:=sm.free hq
   exact h q _ _ hq0 (r2.laid hq _) (r2.apart hq) qk trivial (IsL.ext (Ext.of_same (qv hq _)) (fun b hb hs=>⟨hb,fun e=>by rw [e,hq] at hs;cases hs⟩) ip) (.of_same fun b o z=>qv hq _ b o (sm b o z))
theorem qhv {i:Nat} {U:Env} {ds:List D} {ks:List jp} (h:zf i U=some ds) (h64:ds.length<64) (hk:qb6 ds=some ks):qb7 i U = .ok (qag (Srt.ord (qw ks)) ds,U):=by
 unfold qb7
 simp only [h,h64,if_true,hk]
end
def rLtT (K:Fr0):R2:=fun x y H Q=>∃ a b ns ms,x = .ref a/\y = .ref b/\SqT K H a (ns.map V.int)/\SqT K H b (ms.map V.int)/\Q (.bl (HT.lexLt ns ms)) H
theorem op_ltT {X:Cx} {k:Nat} (hr:jA k X.A):OpR X (compareOp .Lt) (rLtT X.K):=by
 intro pins s Z H x y v u Q I rx ry h
 obtain ⟨a,b,ns,ms,rfl,rfl,h1,h2,q⟩:=h
 cases rx
 cases ry
 obtain ⟨i1,r1,t1,_⟩:=I.tuple h1
 obtain ⟨i2,r2,t2,_⟩:=I.tuple h2
 exact HT.lt_tupInts t1 t2 (by simpa using jU r1) (by simpa using jU r2) hr.units0 ⟨.bl _,H,I,rfl,q⟩
def ltB:D->D->Option D
 | .int i,.int j=>some (.bl (decide (i<j)))
 | .tup xs,.tup ys=>match uf xs,uf ys with
  | some ns,some ms=>some (.bl (HT.lexLt ns ms))
  | _,_=>none
 | _,_=>none
theorem qiz {X:Cx} {k:Nat} (hr:jA k X.A):OpR X (compareOp .Lt) (fun x y H Q=>rI0 (fun i j => .bl (decide (i<j))) x y H Q\/rLtT X.K x y H Q):=OpR.or qkN (op_ltT hr)
theorem qfW {K:Fr0}:OpS K ltB (fun x y H Q=>rI0 (fun i j => .bl (decide (i<j))) x y H Q\/rLtT K x y H Q):=by
 intro A H x y d v u Q hn hx hy e k
 unfold ltB at e
 split at e
 ·rename_i i j
  cases e
  cases hx
  cases hy
  exact .inl ⟨i,j,rfl,rfl,k _ H (zD.refl H) rfl⟩
 ·rename_i xs ys
  obtain ⟨a,vs,rfl,ta,il⟩:=hx
  obtain ⟨b,us,rfl,tb,jl⟩:=hy
  split at e
  ·rename_i ns ms e1 e2
   cases e
   rw [yB il e1] at ta
   rw [yB jl e2] at tb
   exact .inr ⟨a,b,ns,ms,rfl,rfl,ta.sq,tb.sq,k _ H (zD.refl H) rfl⟩
  ·cases e
 ·cases e
end L2.Sk
set_option maxHeartbeats 1000000
namespace L2.Sk
open PySem PySem.Spec PyProof.Rows
def qfX (O:List Nat) (U:Env):Bool:=O.all fun j=>match U[j]? with
 | some (some (.lst ds))=>immL ds
 | _=>true
open Classical in
noncomputable def ve (i:Nat) (O:List Nat) (F:List D->R D) (g:M (List D)) (t:M Bool):MS:=fun U=>match g U with
 | .ok (ds,U1)=>if immFs ds=true/\qfX O U1=true/\i<U1.length then match F ds with
   | .ok (.tup [.lst xs,.lst ys])=>match t (U1.set i (some (.tup [.lst xs,.lst ys]))) with
     | .ok (b,U2)=>if b=true then .ok (.rt (.bl false) U2) else if U2=U1.set i (some (.tup [.lst xs,.lst ys]))/\xs.length+ys.length<1000 then .ok (.nx (U1.set i none)) else .bad
     | _ => .bad
   | _ => .bad
  else .bad
 | _ => .bad
theorem Rep.spoil {K:Fr0} {c:Fc} {i:Nat} {U1:Env} {Z:St} {H1 H2 H4:Hp} {d:D} {v:V} (r1:Rep K c U1 Z H1) (hi:i ∉ c.O) (im:qfX c.O U1=true) (r2:Rep K c (U1.set i (some d)) (Z.set i (some v)) H2)
  (e1:Ext (Cl c.O Z) H1 H4) (e2:Ext (fun b=>¬ Cl c.O Z b) H2 H4) (e3:∀ b,H4 b=none->H2 b=none) (e4:∀ b o,c.H0 b=some o->H2 b=some o->H4 b=some o):Rep K c (U1.set i none) (Z.set i (some v)) H4 where
 len:=by rw [lS_,lS_];exact r1.len
 val := fun j d' h=>by
  obtain ⟨ne,h⟩:=qhp h
  obtain ⟨w,h1,h2⟩:=r1.val j d' h
  refine ⟨w,by rw [qW ne];exact h1,?_⟩
  rcases h2 with ⟨hj,ds,a,xs,g3,g5,g6,g7⟩ | ⟨hj,h3⟩
  ·subst g3 g5
   obtain ⟨ds',a',ys,q1,q2,q3,q4⟩:=r2.getO hj (show (U1.set i (some d))[j]? = some (some (.lst ds)) by rw [qW ne];exact h)
   cases q1
   rw [qW ne,h1] at q2
   cases q2
   have nc:¬ Cl c.O Z a:=fun z=>z j hj h1
   have hm:immL ds=true:=by
    have:=List.all_eq_true.mp im j hj
    rw [h] at this
    exact this
   refine .inl ⟨hj,ds,a,ys,rfl,rfl,e2.at_ _ _ nc q3,?_⟩
   have q5:IsL K (fun _=>False) H2 ds ys:=IsL.imm hm q4
   exact IsL.imm hm (IsL.ext (A:=fun _=>False) ⟨e2.tup,e2.frz,fun b o hb=>hb.elim⟩ (fun _ h _=>h) q5:IsL K (fun _=>False) H4 ds ys)
  ·exact .inr ⟨hj,Is.ext ⟨e1.tup,e1.frz,fun b o hb q=>e1.at_ b o hb.2 q⟩ (fun a ha _=>⟨ha.1,(Cl.set hi a).mpr ha.2⟩) h3⟩
 own:=fun j hj w h=>by
  obtain ⟨a,xs,q1,q2,q3⟩:=r2.own j hj w h
  subst q1
  have ne:j≠i:=fun e=>hi (e▸hj)
  rw [qW ne] at h
  exact ⟨a,xs,rfl,e2.at_ _ _ (fun z=>z j hj h) q2,q3⟩
 inj:=r2.inj
 b0:=r1.b0
 kp:=fun b o h1 h2=>e4 b o h1 (r2.kp b o h1 h2)
 dm:=fun b h=>r2.dm b (e3 b h)
 pO:=r1.pO
 ps:=r2.ps
section
variable {X:Cx} {c:Fc}
theorem qfY {k i:Nat} {ps:List Str} {F:List D->R D} {x fn:Str} {p p0 p1 p2 p3 p4 p5 p6 p7 p8 p9 q1 q2 q3 q4 q5 q6 q7 q8 a1 a2:Pos} {j1 j2 j3:Nat} {x1 x2} {e0 et:Expr} {es:List Expr} {g:M (List D)} {tt:M Bool} {j:Nat}
  (C:zn X.prog X.w X.K X.mg X.base k fn ps (spD X.K F)) (hr:jA j X.A) (ha:DA X c (e0::es) g) (ht:DT X c et tt) (hN:X.N.Nodup)
  (hkj:k<=j:=by decide) (hg:Gl X fn:=by rfl) (hd:(fn==("__debug__":Str))=false:=by decide) (he:starEach (e0::es) X.env=(false,eval e0 X.env)::starEach es X.env:=by rfl) (hpl:(backTo p1 (starEach es X.env)).any (·.1)=false:=by rfl)
  (ho:i ∉ c.O:=by exact of_decide_eq_false rfl) (hi:X.N[i]? = some x:=by rfl) (hx:Loc X.env.scope x:=by first | exact Or.inl rfl | exact Or.inr rfl) (hs:swapsWith (.Call (.Name fn p0) (e0::es) [] p1) (some (.Name x p)) p2.line X.env=pure false:=by rfl) (hf:X.fn x=true\/X.env.scope.names.lookup x=some .local:=by first | exact .inl rfl | exact .inr rfl)
  (hv:Vis X.env.scope x:=by first | exact Or.inl rfl | exact Or.inr (Or.inl rfl) | exact Or.inr (Or.inr rfl)) (hdx:(x==("__debug__":Str))=false:=by decide) (hcd:(x==("__classdict__":Str))=false:=by decide)
  (hb1:attributeBase (.Subscript (.Name x p3) (.Constant (.int 0) j1 p4) p5) "append" X.env (eval (.Subscript (.Name x p3) (.Constant (.int 0) j1 p4) p5) X.env)=eval (.Subscript (.Name x p3) (.Constant (.int 0) j1 p4) p5) X.env:=by rfl)
  (hb2:attributeBase (.Subscript (.Name x q1) (.Constant (.int 1) j2 q2) q3) "append" X.env (eval (.Subscript (.Name x q1) (.Constant (.int 1) j2 q2) q3) X.env)=eval (.Subscript (.Name x q1) (.Constant (.int 1) j2 q2) q3) X.env:=by rfl)
  (hw1:((backTo p7 (starEach [.Tuple [] x1 p6] X.env)).all (fun x => !x.1)&&(backToKw p7 (keywordEach [] X.env)).all (fun x=>x.1.isSome)&&decide ([Expr.Tuple [] x1 p6].length+([]:List Keyword).length+(if ([]:List Keyword).isEmpty then 0 else 1)<30))=true:=by rfl)
  (hw2:((backTo q5 (starEach [.Tuple [] x2 q4] X.env)).all (fun x => !x.1)&&(backToKw q5 (keywordEach [] X.env)).all (fun x=>x.1.isSome)&&decide ([Expr.Tuple [] x2 q4].length+([]:List Keyword).length+(if ([]:List Keyword).isEmpty then 0 else 1)<30))=true:=by rfl)
  (hl1:(a1.endLine==p7.line)=true:=by rfl) (hl2:(a2.endLine==q5.line)=true:=by rfl)
  (hs1:starEach [.Tuple [] x1 p6] X.env=(false,eval (.Tuple [] x1 p6) X.env)::starEach [] X.env:=by rfl) (hs2:starEach [.Tuple [] x2 q4] X.env=(false,eval (.Tuple [] x2 q4) X.env)::starEach [] X.env:=by rfl)
  (hn1:(backTo p7 (starEach [] X.env)).any (·.1)=false:=by rfl) (hn2:(backTo q5 (starEach [] X.env)).any (·.1)=false:=by rfl)
  (hz1:swapsWith (.Call (.Attribute (.Subscript (.Name x p3) (.Constant (.int 0) j1 p4) p5) "append" a1) [.Tuple [] x1 p6] [] p7) none p8.line X.env=pure false:=by rfl)
  (hz2:swapsWith (.Call (.Attribute (.Subscript (.Name x q1) (.Constant (.int 1) j2 q2) q3) "append" a2) [.Tuple [] x2 q4] [] q5) none q6.line X.env=pure false:=by rfl) :
  DSs X c [.Assign [.Name x p] (.Call (.Name fn p0) (e0::es) [] p1) p2,.If et [.Return (some (.Constant (.bool false) j3 q7)) q8] [] p9,
   .Expr (.Call (.Attribute (.Subscript (.Name x p3) (.Constant (.int 0) j1 p4) p5) "append" a1) [.Tuple [] x1 p6] [] p7) p8,
   .Expr (.Call (.Attribute (.Subscript (.Name x q1) (.Constant (.int 1) j2 q2) q3) "append" a2) [.Tuple [] x2 q4] [] q5) q6] (ve i c.O F g tt):=by
 obtain ⟨f,fd,G,hm,hk,hb⟩:=C.ex
 obtain ⟨ta,pa,wa⟩:=ha
 obtain ⟨tv,pv,wv⟩:=ht
 have s1:PS X (.Assign [.Name x p] (.Call (.Name fn p0) (e0::es) [] p1) p2) _:=qc5 hN hi hx (vt G (hr.mono hkj) hg hm hk hb .nil qgJ pa hd he hpl) hs hf
 have s2:PS X (.If et [.Return (some (.Constant (.bool false) j3 q7)) q8] [] p9) _:=qkz pv (uu (qc4 qkp) qaR) qaR
 have s3:PS X (.Expr (.Call (.Attribute (.Subscript (.Name x p3) (.Constant (.int 0) j1 p4) p5) "append" a1) [.Tuple [] x1 p6] [] p7) p8) _:=qcp (qeW PySem.F.plainAttrs_list PySem.F.slot_list_append PySem.F.type_list_append ud (qgG zd (jO hi hv hdx hcd) qeD (by intro _ _;rfl)) (zQ (qeP ya) ya hs1) hb1 hw1 hl1 hs1 hn1) hz1
 have s4:PS X (.Expr (.Call (.Attribute (.Subscript (.Name x q1) (.Constant (.int 1) j2 q2) q3) "append" a2) [.Tuple [] x2 q4] [] q5) q6) _:=qcp (qeW PySem.F.plainAttrs_list PySem.F.slot_list_append PySem.F.type_list_append ud (qgG zd (jO hi hv hdx hcd) qeD (by intro _ _;rfl)) (zQ (qeP ya) ya hs2) hb2 hw2 hl2 hs2 hn2) hz2
 refine ⟨_,uu s1 (uu s2 (uu s3 (uu s4 qaR))),fun U Z H D r h => ?_⟩
 unfold ve at h
 refine wa U Z H _ r ?_
 cases eg:g U with
 | bad=>rw [eg] at h;exact h
 | exc z U'=>rw [eg] at h;exact h.elim
 | ok pr =>
  obtain ⟨ds,U1⟩:=pr
  rw [eg] at h
  simp only at h
  by_cases him:immFs ds=true/\qfX c.O U1=true/\i<U1.length
  case neg=>rw [if_neg him] at h;exact h.elim
  rw [if_pos him] at h
  intro vs H1 r1 i1 g1
  show spD X.K F (vs++[]) H1 _ _
  rw [List.append_nil]
  refine ⟨ds,fun _=>False,IsL.immF him.1 i1,r1.tb,?_⟩
  split at h<;>try exact h.elim
  rename_i xs ys ef
  rw [ef]
  intro v H' sm iv
  show qmn _ _ D (Z.set i (some v)) H'
  have iv':Is X.K (Cn c Z) H' (.tup [.lst xs,.lst ys]) v:=Is.ext Ext.refl (fun a ha _=>r1.new (ha.elim False.elim id)) iv
  obtain ⟨tp,ws,rfl,tat,il⟩:=iv
  obtain ⟨u0,u1,rfl,i0,i1'⟩:=IsL.inv2 il
  obtain ⟨a0,z0,rfl,f0,h0,l0⟩:=i0
  obtain ⟨b0,z1,rfl,f1,h1,l1⟩:=i1'
  have f0:H1 a0=none:=f0.elim False.elim id
  have f1:H1 b0=none:=f1.elim False.elim id
  have r2:=(r1.same sm).set ho iv'
  refine wv _ _ H' _ r2 ?_
  split at h<;>try exact h.elim
  rename_i b U2 et'
  rw [et']
  intro H2 r3 g3
  show (if b=true then _ else _)
  cases b with
  | true =>
   rw [if_pos rfl] at h |-
   have gs:GrS c.O Z H (Z.set i (some (.ref tp))) H2:=(g1.s.trans (Gr.of_same sm).s).trans ((GrS.set ho).trans g3.s)
   exact h (.bl false) _ H2 r3 rfl gs
  | false =>
   rw [if_neg (by simp)] at h |-
   by_cases hq:U2=U1.set i (some (.tup [.lst xs,.lst ys]))/\xs.length+ys.length<1000
   case neg=>rw [if_neg hq] at h;exact h.elim
   rw [if_pos hq] at h
   obtain ⟨rfl,hsz⟩:=hq
   have n0:=l0.length
   have n1:=l1.length
   have hsl:(1000000:Nat)<=sizeLine:=of_decide_eq_true (by rw [sizeLine_eq]<;>decide)
   have c0:Cl c.O (Z.set i (some (.ref tp))) a0:=(Cl.set ho a0).mpr (r1.new f0).2
   have c1:Cl c.O (Z.set i (some (.ref tp))) b0:=(Cl.set ho b0).mpr (r1.new f1).2
   have k0:=g3.ext.at_ _ _ c0 h0
   have k1:=g3.ext.at_ _ _ c1 h1
   have tat2:TupAt X.K H2 tp [.ref a0,.ref b0]:=by
    rcases tat with q | q
    ·exact .inl (g3.ext.tup _ _ q)
    ·exact .inr q
   have hli:i<Z.length:=by rw [<- r1.len];exact him.2.2
   have gi:(Z.set i (some (V.ref tp)))[i]? = some (some (.ref tp)):=List.getElem?_set_self hli
   show qmn _ _ D (Z.set i (some (.ref tp))) H2
   refine ⟨.ref tp,gi,.inr ⟨tp,[.ref a0,.ref b0],0,.ref a0,rfl,rfl,tat2.sq,rfl,.inl ⟨rfl,z0,.inl (.inl k0)⟩,Nat.zero_le _,fun q hq => ?_⟩⟩
   have na0:a0≠q:=fun e=>by rw [e,hq] at k0;cases k0
   have nb0:b0≠q:=fun e=>by rw [e,hq] at k1;cases k1
   have ka:upd H2 q (.tup []) a0=some (.lst z0):=by rw [qj na0];exact k0
   refine ⟨a0,z0,.ref q,rfl,rfl,ka,by omega,?_⟩
   generalize hH3:upd (upd H2 q (.tup [])) a0 (.lst (z0++[.ref q]))=H3
   have p3:∀ b o,b≠a0->H2 b=some o->H3 b=some o:=fun b o nb hb=>by
    rw [<- hH3,qj nb,qj (fun e=>by rw [e,hq] at hb;cases hb)]
    exact hb
   have d3:∀ b,H3 b=none->H2 b=none:=fun b hb=>by
    rw [<- hH3] at hb
    by_cases e:b=a0
    ·rw [e,qk] at hb;cases hb
    ·rw [qj e] at hb
     by_cases e':b=q
     ·rw [e',qk] at hb;cases hb
     ·rw [qj e'] at hb;exact hb
   have tat3:TupAt X.K H3 tp [.ref a0,.ref b0]:=by
    rcases tat2 with z | z
    ·exact .inl (p3 _ _ (fun e=>by rw [e,k0] at z;cases z) z)
    ·exact .inr z
   obtain ⟨zs,k3,hzs⟩:∃ zs,H3 b0=some (.lst zs)/\zs.length<=2000:=by
    by_cases e:b0=a0
    ·exact ⟨_,by rw [<- hH3,e,qk],by rw [lA_,List.length_singleton];omega⟩
    ·exact ⟨z1,p3 _ _ e k1,by omega⟩
   show qmn _ _ D (Z.set i (some (.ref tp))) H3
   refine ⟨.ref tp,gi,.inr ⟨tp,[.ref a0,.ref b0],1,.ref b0,rfl,rfl,tat3.sq,rfl,.inl ⟨rfl,zs,.inl (.inl k3)⟩,Nat.zero_le _,fun q' hq' => ?_⟩⟩
   have nb1:b0≠q':=fun e=>by rw [e,hq'] at k3;cases k3
   have kb:upd H3 q' (.tup []) b0=some (.lst zs):=by rw [qj nb1];exact k3
   refine ⟨b0,zs,.ref q',rfl,rfl,kb,by omega,?_⟩
   generalize hH4:upd (upd H3 q' (.tup [])) b0 (.lst (zs++[.ref q']))=H4
   have p4:∀ b o,b≠a0->b≠b0->H2 b=some o->H4 b=some o:=fun b o n1 n2 hb=>by
    have:=p3 b o n1 hb
    rw [<- hH4,qj n2,qj (fun e=>by rw [e,hq'] at this;cases this)]
    exact this
   have d4:∀ b,H4 b=none->H2 b=none:=fun b hb=>by
    rw [<- hH4] at hb
    by_cases e:b=b0
    ·rw [e,qk] at hb;cases hb
    ·rw [qj e] at hb
     by_cases e':b=q'
     ·rw [e',qk] at hb;cases hb
     ·rw [qj e'] at hb;exact d3 b hb
   have ne1:∀ b o,H1 b=some o->b≠a0/\b≠b0:=fun b o hb=>⟨(fun e=>by rw [e,f0] at hb;cases hb),(fun e=>by rw [e,f1] at hb;cases hb)⟩
   have E1:Ext (Cl c.O Z) H1 H4:=⟨fun b us hb=>p4 _ _ (ne1 _ _ hb).1 (ne1 _ _ hb).2 (g3.ext.tup _ _ (sm _ _ hb)),fun b o u hb=>p4 _ _ (ne1 _ _ hb).1 (ne1 _ _ hb).2 (g3.ext.frz _ _ _ (sm _ _ hb)),fun b o hc hb=>p4 _ _ (ne1 _ _ hb).1 (ne1 _ _ hb).2 (g3.ext.at_ _ _ ((Cl.set ho b).mpr hc) (sm _ _ hb))⟩
   have E2:Ext (fun b=>¬ Cl c.O Z b) H2 H4:=⟨fun b us hb=>p4 _ _ (fun e=>by rw [e,k0] at hb;cases hb) (fun e=>by rw [e,k1] at hb;cases hb) hb,fun b o u hb=>p4 _ _ (fun e=>by rw [e,k0] at hb;cases hb) (fun e=>by rw [e,k1] at hb;cases hb) hb,fun b o hc hb=>p4 _ _ (fun e=>hc (e▸(r1.new f0).2)) (fun e=>hc (e▸(r1.new f1).2)) hb⟩
   have z0':=r1.dm a0 f0
   have z1':=r1.dm b0 f1
   have R4:=r1.spoil ho him.2.1 r3 E1 E2 d4 fun b o hb h2=>p4 b o (fun e=>by rw [e,z0'] at hb;cases hb) (fun e=>by rw [e,z1'] at hb;cases hb) h2
   refine h _ H4 R4 ⟨⟨fun b us hb=>E1.tup _ _ (g1.ext.tup _ _ hb),fun b o u hb=>E1.frz _ _ _ (g1.ext.frz _ _ _ hb),fun b o hc hb=>E1.at_ _ _ hc (g1.ext.at_ _ _ hc hb)⟩,fun b hc _=>(Cl.set ho b).mpr hc,fun b hb=>g1.dom b (sm.free (g3.dom b (d4 b hb)))⟩
end
end L2.Sk
namespace L2.Sk
namespace Law
open PySem PySem.Spec PyProof.Rows
set_option maxHeartbeats 4000000
theorem qiA (ds:List D) (r:Env):zf 0 (some (.lst ds)::r)=some ds:=rfl
theorem qiB (i:Nat) (o:Option D) (r:Env):zf (i+1) (o::r)=zf i r:=rfl
theorem ix0 (a b c:D):ixD (.tup [a,b,c]) (.int 0)=some a:=rfl
theorem ix1 (a b c:D):ixD (.tup [a,b,c]) (.int 1)=some b:=rfl
theorem ix2 (a b c:D):ixD (.tup [a,b,c]) (.int 2)=some c:=rfl
theorem qcK (i j:Int):neB (.int i) (.int j)=some (.bl (!decide (i=j))):=rfl
theorem qbd (i j:Int):eqB (.int i) (.int j)=some (.bl (decide (i=j))):=rfl
theorem wS (ds:List D):qcw (tyD (.tup ds)) "tuple"=true:=rfl
theorem jR (ds:List D):qat [.tup ds]=some (.int ds.length):=rfl
theorem qfZ (d:D):isN d .non=some (.bl (y8 d)):=rfl
theorem qcL (d:D):qgO d .non=some (.bl (!y8 d)):=rfl
theorem vG (i j:Int):gtD (.int i) (.int j)=some (.bl (decide (j<i))):=rfl
theorem qf0 (i j:Int):ltD (.int i) (.int j)=some (.bl (decide (i<j))):=rfl
theorem qcM (i j:Int):leD (.int i) (.int j)=some (.bl (decide (i<=j))):=rfl
local macro_rules | `(tactic| push_cast [$xs,*]) => `(tactic| simp only [jJ, qbW, qnG, yy, wJ, qfp, qid, qm1, qm2, wK, u5, qie, qjA, vT, qbX, qfq, qfr, qif, qjB, qig, qlz, qg8, qaA, wL, qfs, uK, qii, qij, qik, jQ, qaB, qft, qfu, qbY, qfv, qfw, qfx, qfy, qfz, qil, u6, qlA, wM, lC_, lN_, mC_, List.map_nil, List.replicate, List.nil_append, List.cons_append, List.append_nil, List.getElem?_cons_zero, List.getElem?_cons_succ, List.set_cons_zero, List.set_cons_succ, Nat.reduceAdd, Nat.reduceSub, Nat.sub_self, Nat.zero_add, reduceIte, Bool.not_true, Bool.not_false, Bool.false_eq_true, if_true, if_false, ite_true, ite_false, cond_true, cond_false, decide_true, decide_false, ix0, ix1, ix2, wS, jR, qcK, qbd, qfZ, qcL, vG, qf0, qcM, qiA, qiB, va, qdp, qdq, qit, qfK, qfA, $xs,*])
theorem v6 {n p:Nat} {body:MS} {ds:List D} {d:D} (h:ds.length=p) (e:∃ U,body (jJ n ds) = .ok (.rt d U)):dfn n p body ds = .ok d:=by
 obtain ⟨U,e⟩:=e
 exact qjC h e
def qjV:D->Bool
 | .int _=>true
 | _=>false
def yJ:D->Bool
 | .int i=>decide (0<=i)
 | _=>false
def qf1:D->Bool
 | .int i=>decide (0<i)
 | _=>false
def uB:D->Bool
 | .tup [a,b,c]=>qf1 a&&yJ b&&(y8 c||yJ c)
 | _=>false
theorem qoo {ds:List D} (h:ds.length=3):∃ a b c,ds=[a,b,c]:=by
 match ds,h with
 | [a,b,c],_=>exact ⟨a,b,c,rfl⟩
theorem qem {ds:List D} (h:ds.length≠3):uB (.tup ds)=false:=by
 match ds,h with
 | [],_=>rfl
 | [_],_=>rfl
 | [_,_],_=>rfl
 | [a,b,c],h=>exact absurd rfl h
 | _::_::_::_::_,_=>rfl
theorem qu {p q:MS} {U U':Env} (h:p U = .ok (.nx U')):qZ p q U=q U':=by rw [qih,h]
theorem qb8 {p q:MS} {U U':Env} {d:D} (h:p U = .ok (.rt d U')):qZ p q U = .ok (.rt d U'):=by rw [qih,h]
theorem qlY {e:M D} {f:D->D}:∀ (ds acc:List D) (o:Option D),(∀ d∈ds,e [some d] = .ok (f d,[some d]))->acc.length+ds.length<=1000->∃ U',zR (ql 0) (ret true) e ds acc [o] = .ok (acc++ds.map f,U')
 | [],acc,o,_,_=>⟨[o],by simp [zR]⟩
 | d::ds,acc,o,h,hl=>by
  have hl':acc.length+(ds.length+1)<=1000:=hl
  obtain ⟨U',q⟩:=qlY ds (acc++[f d]) (some d) (fun x hx=>h x (mM _ hx)) (by rw [lA_,List.length_singleton];omega)
  refine ⟨U',?_⟩
  unfold zR
  simp only [ql,List.set_cons_zero,ret,h d mS_,zt (show acc.length+1<=1000000 by omega),if_true,q]
  simp
theorem qb9 (f:D->Bool):∀ ds:List D,yd (ds.map fun d=>D.bl (f d))=some (ds.map f)
 | []=>rfl
 | d::ds=>by simp [yd,qb9 f ds]
theorem all_map {ds:List D} {f:D->Bool}:qex [.lst (ds.map fun d=>D.bl (f d))]=some (.bl (ds.all f)):=by
 simp only [qex,qb9,Option.map_some]
 congr 2
 rw [List.all_map]
 rfl
theorem qjW {F:List D->R D} {f:D->Bool} {xs:M (List D)} {ds:List D} {U:Env} (hx:xs U = .ok (ds,U)) (hF:∀ d∈ds,F [d] = .ok (.bl (f d))) (hl:ds.length<=1000) :
  qJ qex (qa (zX 1 [] none xs (ql 0) (ret true) (qp F (qa (dv 0) (ret [])))) (ret [])) U = .ok (.bl (ds.all f),U):=by
 obtain ⟨U',q⟩:=qlY (e:=qp F (qa (dv 0) (ret []))) (f:=fun d=>D.bl (f d)) ds [] none (fun x hm=>by push_cast [];rw [hF x hm]) (by simpa using hl)
 have q':zR (ql 0) (ret true) (qp F (qa (dv 0) (ret []))) ds [] (jP 1 [] U) = .ok ([]++ds.map fun d=>D.bl (f d),U'):=q
 simp only [wK,yy,qcA,hx,q',qbW,List.nil_append,all_map]
 rfl
def yK:D->Bool
 | .tup ds=>decide (ds.length<=12)&&ds.all uB
 | _=>false
def leI:D->D->Bool
 | .int i,.int j=>decide (i<=j)
 | _,_=>false
def qnf (k x:D):Bool:=match k with
 | .tup [_,_,m]=>yJ x&&(y8 m||leI x m)
 | _=>false
def qdA:List D->List D->Bool
 | k::ks,x::xs=>qnf k x&&qdA ks xs
 | _,_=>true
def qnS:D->D->Bool
 | .tup xs,.tup ks=>decide (xs.length=ks.length)&&qdA ks xs
 | _,_=>false
theorem qdB:∀ bs:List Bool,yd (bs.map D.bl)=some bs
 | []=>rfl
 | b::bs=>by simp [yd,qdB bs]
theorem qiC {ds:List D} {i:Nat} {d:D} (h:ds[i]? = some d):ixD (.tup ds) (.int (i:Nat))=some d:=by
 have hi:i<ds.length:=(gI_.mp h).1
 show atI ds (i:Int)=some d
 unfold atI ixN
 rw [if_pos (by omega),if_pos (by omega)]
 simpa using h
theorem yL {l:M (List D)} {U U1:Env} {j:Int} (e:l U = .ok ([.int j],U1)) (h0:0<=j) (h:j<=1000000):js l U = .ok (qa3 0 j.toNat,U1):=by
 have h1:(-(2 ^ 62)<=j):=by omega
 have h2:(j<2 ^ 62):=by omega
 have e2:qh5 [.int j]=some (qa3 0 j.toNat):=by
  simp only [qh5,h1,h2,decide_true,Bool.and_self,if_true]
 have e3:js l U=lift (qh5 [.int j]) U1:=by
  show bnd l (fun ds=>lift (qh5 ds)) U=_
  rw [qm0,e]
 rw [e3,e2]
 rfl
theorem qf2 {n m:Int} (h0:0<m) (h1:m<1606938044258990275541962092341162602522202993782792835301376):wA [.int n,.int m]=some (.tup [.int (n/m),.int (n%m)]):=by
 simp only [wA,qd6,h0,h1,decide_true,Bool.and_self,if_true]
theorem at0 (d:D) (r:List D):atI (d::r) 0=some d:=by
 unfold atI ixN
 rw [if_pos (by omega),if_pos (by simp)]
 rfl
theorem qop:ixN 1 0=some 0:=by decide
theorem jk (i j:Int):zB (.int i) (.int j)=some (.int (i+j)):=rfl
theorem qhw (i j:Int):qgM (.int i) (.int j)=some (.int (i-j)):=rfl
theorem qf3 {ds:List D} {k:Int} (h0:0<=k) (h1:k<ds.length):∃ d∈ds,ixD (.lst ds) (.int k)=some d:=by
 obtain ⟨i,rfl⟩:=Int.eq_ofNat_of_zero_le h0
 have hi:i<ds.length:=by omega
 refine ⟨ds[i],List.getElem_mem hi,?_⟩
 show atI ds (i:Int)=_
 unfold atI ixN
 rw [if_pos (by omega),if_pos (by omega)]
 show ds[(i:Int).toNat]? = _
 rw [Int.toNat_natCast,gG hi]
theorem qoq (i:Int):y9 (.int 2) (.int i)=some (.int (2*i)):=by
 have h:qcu 2 i=true:=by
  unfold qcu
  have:yc 2=true:=by decide
  rw [this];rfl
 simp only [y9,h,if_true]
def qhx (c m:D):Prop:=m=c\/∃ j,m = .int j/\0<=j/\j<=5
def yM (k:D):Prop:=∃ a b m,k = .tup [.int a,.int b,m]/\1<=a/\a<=25/\0<=b/\b<=39/\qhx .non m
theorem yM.imm {k:D} (h:yM k):imm k=true:=by
 obtain ⟨a,b,m,rfl,_,_,_,_,hm⟩:=h
 rcases hm with rfl | ⟨j,rfl,_⟩<;>rfl
theorem yM.lay {k:D} (h:yM k):(zG k).canLay0=true/\(zG k).depth=1:=by
 obtain ⟨a,b,m,rfl,_,_,_,_,hm⟩:=h
 rcases hm with rfl | ⟨j,rfl,_⟩<;>exact ⟨rfl,rfl⟩
theorem qiD:∀ ks:List D,(∀ k∈ks,yM k)->PyData.canLayAll0 (toPDs ks)=true/\PyData.depthAll (toPDs ks)<=1
 | [],_=>⟨rfl,Nat.zero_le _⟩
 | k::ks,h=>by
  obtain ⟨h1,h2⟩:=qiD ks fun x hx=>h x (mM _ hx)
  obtain ⟨g1,g2⟩:=(h k mS_).lay
  unfold toPDs
  simp only [PyData.canLayAll0,PyData.depthAll,h1,g1,g2,Bool.and_self,true_and]
  omega
theorem qcN {ks:List D} (h:∀ k∈ks,yM k):∃ b,neA (.lst ks) (.lst [])=some (.bl b)/\(b=true->ks≠[]):=by
 obtain ⟨h1,h2⟩:=qiD ks h
 have e1:u3 (.lst ks)=true:=by
  have e:u3 (.lst ks)=(PyData.canLayAll0 (toPDs ks)&&decide (PyData.depthAll (toPDs ks)+1<=50)):=by
   simp only [u3,zG,PyData.canLay0,PyData.depth]
  rw [e,h1,Bool.true_and,decide_eq_true_eq]
  omega
 have e2:u3 (.lst [])=true:=rfl
 refine ⟨!PyData.eqv (zG (.lst ks)) (zG (.lst [])),by simp only [neA,e1,e2,Bool.and_self,if_true],fun hb hn => ?_⟩
 subst hn
 exact absurd hb (by decide)
theorem qlZ {ds:List D} {k:Int} (h0:0<=k) (h1:k<ds.length):∃ d∈ds,atI ds k=some d:=by
 obtain ⟨d,hd,e⟩:=qf3 h0 h1
 exact ⟨d,hd,e⟩
theorem qhy (j:Nat):(qa3 0 j).length=j:=by simp [qa3]
theorem uw {i j:Int} (h:0<j):qhZ (.int i) (.int j)=some (.int (i%j)):=by
 simp only [qhZ,qgL,h,decide_true,if_true]
theorem yh {i j:Int} (h:0<j) (h1:j<1606938044258990275541962092341162602522202993782792835301376):yn (.int i) (.int j)=some (.int (i/j)):=by
 simp only [yn,qgL,qd6,h,h1,decide_true,Bool.and_self,if_true]
theorem qcO {i j:Int} (h:yc i=true):y9 (.int i) (.int j)=some (.int (i*j)):=by
 simp only [y9,qcu,h,Bool.true_or,if_true]
theorem qhz {i j:Int} (h:yc j=true):y9 (.int i) (.int j)=some (.int (i*j)):=by
 simp only [y9,qcu,h,Bool.or_true,if_true]
theorem vH {i:Int} (h0:0<=i) (h1:i<2000000000):yc i=true:=by
 unfold yc
 rw [Bool.and_eq_true,decide_eq_true_eq,decide_eq_true_eq]
 constructor<;>omega
def facts:List Int:=[48271,69621,16807,39373,30269,40014,40692,50021,61687,71993,83869,95561,30307]
structure qby (w e:Nat) (d:D):Prop where
 lv:(zG d).leavesShort 40=true
 sh:(zG d).showable=true
 wt:(zG d).weight<=w
 dp:(zG d).depth<=e
theorem qby.mono {w e w' e':Nat} {d:D} (h:qby w e d) (h1:w<=w') (h2:e<=e'):qby w' e' d:=⟨h.lv,h.sh,Nat.le_trans h.wt h1,Nat.le_trans h.dp h2⟩
theorem qbe {w e:Nat}:∀ ds:List D,(∀ d∈ds,qby w e d)->PyData.leavesShortAll 40 (toPDs ds)=true/\PyData.showableAll (toPDs ds)=true/\PyData.weightAll (toPDs ds)<=ds.length*(w+1)/\PyData.depthAll (toPDs ds)<=e
 | [],_=>⟨rfl,rfl,Nat.zero_le _,Nat.zero_le _⟩
 | d::ds,h=>by
  obtain ⟨h1,h2,h3,h4⟩:=qbe ds fun x hx=>h x (mM _ hx)
  have g:=h d mS_
  have g3:=g.wt
  have g4:=g.dp
  simp only [toPDs,PyData.leavesShortAll,PyData.showableAll,PyData.weightAll,PyData.depthAll,h1,h2,g.lv,g.sh,Bool.and_self,true_and,lC_,Nat.succ_mul]
  omega
theorem qbf {w e n:Nat} {ds:List D} (h:∀ d∈ds,qby w e d) (hl:ds.length<=n):qby (n*(w+1)) (e+1) (.tup ds):=by
 obtain ⟨h1,h2,h3,h4⟩:=qbe ds h
 refine ⟨?_,?_,?_,?_⟩
 ·simp only [zG,PyData.leavesShort,h1]
 ·simp only [zG,PyData.showable,h2]
 ·simp only [zG,PyData.weight]
  exact Nat.le_trans h3 (Nat.mul_le_mul_right _ hl)
 ·simp only [zG,PyData.depth]
  omega
theorem qhA {w e n:Nat} {ds:List D} (h:∀ d∈ds,qby w e d) (hl:ds.length<=n):qby (n*(w+1)) (e+1) (.lst ds):=by
 obtain ⟨h1,h2,h3,h4⟩:=qbe ds h
 refine ⟨?_,?_,?_,?_⟩
 ·simp only [zG,PyData.leavesShort,h1]
 ·simp only [zG,PyData.showable,h2]
 ·simp only [zG,PyData.weight]
  exact Nat.le_trans h3 (Nat.mul_le_mul_right _ hl)
 ·simp only [zG,PyData.depth]
  omega
def dl (d:D):Bool := !(zG d).hasDict||noL d
def plain (d:D):Bool := !(zG d).hasDict&&noL d
def dlL (ds:List D):Bool := !PyData.hasDictAll (toPDs ds)||noLs ds
theorem qjX {w e:Nat} {d:D} (h:qby w e d) (hw:w<=100000) (he:e<=50) (hd:dl d=true):qaw d=true:=by
 have h1:=PyData.shown_le 40 (by omega) _ h.lv
 have h2:(40+2)*(zG d).weight<=42*100000:=Nat.mul_le_mul_left _ (Nat.le_trans h.wt hw)
 have h3:=h.dp
 have e1:(zG d).shown.length<=sizeLine:=by rw [PySem.sizeLine_eq];omega
 have e2:(zG d).depth<=50:=by omega
 unfold dl at hd
 simp only [qaw,h.sh,e1,e2,decide_true,Bool.true_and,hd]
theorem wT:∀ xs:List D,(∀ d∈xs,plain d=true)->PyData.hasDictAll (toPDs xs)=false/\noLs xs=true
 | [],_=>⟨rfl,rfl⟩
 | x::xs,h=>by
  obtain ⟨h1,h2⟩:=wT xs fun y hy=>h y (mM _ hy)
  have g:=h x mS_
  unfold plain at g
  rw [Bool.and_eq_true,Bool.not_eq_true'] at g
  simp [toPDs,PyData.hasDictAll,noLs,h1,h2,g.1,g.2]
theorem ql0 (ds:List D):dl (.tup ds)=dlL ds:=by
 simp only [dl,dlL,zG,PyData.hasDict,noL]
theorem qen {i:Int} (h0:0<=i) (h1:i<=39):qby 7 0 (.int i):=by
 have h:(List.range 40).all (fun i=>(zG (.int (i:Nat))).leavesShort 40&&(zG (.int (i:Nat))).showable&&decide ((zG (.int (i:Nat))).weight<=7))=true:=by decide +kernel
 obtain ⟨k,rfl⟩:=Int.eq_ofNat_of_zero_le h0
 have hk:=List.all_eq_true.mp h k (mR_.mpr (by omega))
 simp only [Bool.and_eq_true,decide_eq_true_eq] at hk
 exact ⟨hk.1.1,hk.1.2,hk.2,Nat.zero_le _⟩
theorem neg_int (i:Int):qeA (.int i)=some (.int (-i)):=rfl
theorem qdC {xs ys:List D} (h:xs.length+ys.length<=1000000):zB (.lst xs) (.lst ys)=some (.lst (xs++ys)):=by
 simp only [zB,zt h,if_true]
theorem v7 {xs ys:List D} (h:xs.length+ys.length<=1000000):zB (.tup xs) (.tup ys)=some (.tup (xs++ys)):=by
 simp only [zB,zt h,if_true]
def pt (p:Int):D->Int
 | .tup [.int a,.int b,_]=>if p=0 then a else b
 | _=>0
def num:D->Int
 | .int x=>x
 | _=>0
def qng (p:Int):List D->List D->List Int
 | k::ks,x::xs=>(pt p k*num x)::qng p ks xs
 | _,_=>[]
theorem vf:∀ ns:List Int,uf (ns.map D.int)=some ns
 | []=>rfl
 | n::ns=>by simp [uf,vf ns]
theorem qdD {i:Int} (h:i.natAbs<10 ^ 39):qby 130 0 (.int i):=by
 have hl:i.natAbs.log2<130:=by
  by_cases h0:i.natAbs=0
  ·rw [h0];decide
  ·refine (Nat.log2_lt h0).mpr (Nat.lt_of_lt_of_le h (by decide +kernel))
 refine ⟨?_,?_,?_,Nat.le_refl _⟩
 ·show decide ((PyData.shown (.int i)).length<=40)=true
  refine decide_eq_true ?_
  have e:=int_text_length_le10 (k:=39) (by decide) h
  show (Str.ofString (toString i)).length<=40
  rw [PySem.ofString_length]
  exact e
 ·show decide (i.natAbs.log2<1920)=true
  exact decide_eq_true (by omega)
 ·show (if (i==0)=true then 0 else i.natAbs.log2+1)<=130
  split<;>omega
theorem qeo (xs:List D):wB [.lst xs]=some (.tup xs):=rfl
theorem qcP (x:Str):neB (.str x) (.str x)=some (.bl false):=by
 show some (D.bl (!decide (x=x)))=_
 rw [decide_eq_true rfl];rfl
theorem qnh {F:List D->R D} {f g h:M D} {U:Env} {a b c d:D} (hf:f U = .ok (a,U)) (hg:g U = .ok (b,U)) (hh:h U = .ok (c,U)) (e:F [a,b,c] = .ok d):qp F (qa f (qa g (qa h (ret [])))) U = .ok (d,U):=by
 have e1:qa h (ret []) U = .ok ([c],U):=by rw [yy,hh];rfl
 have e2:qa g (qa h (ret [])) U = .ok ([b,c],U):=by rw [yy,hg];dsimp only;rw [e1]
 have e3:qa f (qa g (qa h (ret []))) U = .ok ([a,b,c],U):=by rw [yy,hf];dsimp only;rw [e2]
 rw [u5,e3]
 dsimp only
 rw [e]
theorem vg {F:List D->Option D} {f:M D} {U:Env} {a d:D} (hf:f U = .ok (a,U)) (e:F [a]=some d):qJ F (qa f (ret [])) U = .ok (d,U):=by
 have e0:qa f (ret []) U = .ok ([a],U):=by rw [yy,hf];rfl
 rw [wK,e0]
 dsimp only
 rw [e]
theorem qdE (i j:Int):uG [.int i,.int j]=some (.int (if j<i then j else i)):=rfl
theorem sl_tup (xs:List D) (a b:Option Int):slD (.tup xs) a b=some (.tup (qey xs a b)):=rfl
theorem qni:qfj (.int 10) (.int 20)=some (.int 100000000000000000000):=by
 have h:qg7 10 20=true:=by decide +kernel
 have e:(10:Int) ^ (20:Int).toNat=100000000000000000000:=by decide +kernel
 simp only [qfj,qgL,h,if_true,e]
theorem qjY {α:Type} {e:M D} {t:M Bool} {k f:α->D} {p:α->Bool} {r:Env}:∀ (as:List α) (acc:List D) (o:Option D),(∀ a∈as,t (some (k a)::r) = .ok (p a,some (k a)::r))->(∀ a∈as,p a=true->e (some (k a)::r) = .ok (f a,some (k a)::r))->acc.length+as.length<=1000000 ->
  ∃ o',zR (ql 0) t e (as.map k) acc (o::r) = .ok (acc++(as.filter p).map f,o'::r)
 | [],acc,o,_,_,_=>⟨o,by simp [zR]⟩
 | a::as,acc,o,ht,he,hl=>by
  have hl':acc.length+(as.length+1)<=1000000:=hl
  have h1:=ht a mS_
  rw [mC_]
  unfold zR
  simp only [ql,List.set_cons_zero,h1]
  cases hp:p a with
  | false =>
   obtain ⟨o',q⟩:=qjY as acc (some (k a)) (fun x hx=>ht x (mM _ hx)) (fun x hx=>he x (mM _ hx)) (by omega)
   refine ⟨o',?_⟩
   simp only [q,ft_,hp,Bool.false_eq_true,if_false]
  | true =>
   obtain ⟨o',q⟩:=qjY as (acc++[f a]) (some (k a)) (fun x hx=>ht x (mM _ hx)) (fun x hx=>he x (mM _ hx)) (by rw [lA_,List.length_singleton];omega)
   refine ⟨o',?_⟩
   simp only [he a mS_ hp,zt (show acc.length+1<=1000000 by omega),if_true,q,ft_,hp,mC_,aA_,List.singleton_append]
theorem ql1 {α:Type} {e:M D} {t:M Bool} {k:α->D} {xs:M (List D)} {U r:Env} {fr:List Nat} (as:List α) (p:α->Bool) (f:α->D) (hx:xs U = .ok (as.map k,U)) (hr:jP 1 fr U=none::r) (hl:as.length<=1000000)
  (ht:∀ a∈as,t (some (k a)::r) = .ok (p a,some (k a)::r)) (he:∀ a∈as,p a=true->e (some (k a)::r) = .ok (f a,some (k a)::r)):zX 1 fr none xs (ql 0) t e U = .ok (.lst ((as.filter p).map f),U):=by
 obtain ⟨o',q⟩:=qjY as [] none ht he (by simpa using hl)
 rw [qcA,hx]
 simp only [hr,q,List.nil_append]
 rfl
theorem uL {α:Type} (as:List α):as.filter (fun _=>true)=as:=by simp
theorem qaI {α:Type} {e:M D} {k:α->D} {xs:M (List D)} {U r:Env} {fr:List Nat} (as:List α) (f:α->D) (hx:xs U = .ok (as.map k,U)) (hr:jP 1 fr U=none::r) (hl:as.length<=1000000)
  (he:∀ a∈as,e (some (k a)::r) = .ok (f a,some (k a)::r)):zX 1 fr none xs (ql 0) (ret true) e U = .ok (.lst (as.map f),U):=by
 rw [ql1 as (fun _=>true) f hx hr hl (fun _ _=>rfl) fun a ha _=>he a ha,uL]
theorem jm {α β:Type} {G:D->Env->Option Env} {b:MS} {k:α->D} {step:β->α->β} {Inv:Nat->β->Env->Prop}:∀ (as:List α) (n:Nat) (s:β) (U:Env),Inv n s U ->
  (∀ a∈as,∀ m s U,n<=m->m<n+as.length->Inv m s U->∃ U1 U2,G (k a) U=some U1/\b U1 = .ok (.nx U2)/\Inv (m+1) (step s a) U2) ->
  ∃ U',yx G b (as.map k) U = .ok (.nx U')/\Inv (n+as.length) (as.foldl step s) U'
 | [],n,s,U,h,_=>⟨U,rfl,h⟩
 | a::as,n,s,U,h,H=>by
  obtain ⟨U1,U2,h1,h2,h3⟩:=H a mS_ n s U (Nat.le_refl _) (by rw [lC_];omega) h
  obtain ⟨U',q,w⟩:=jm as (n+1) (step s a) U2 h3 fun x hx m s U m1 m2=>H x (mM _ hx) m s U (by omega) (by rw [lC_];omega)
  refine ⟨U',?_,?_⟩
  ·rw [mC_]
   unfold yx
   simp only [h1,h2]
   exact q
  ·rw [lC_,show n+(as.length+1)=n+1+as.length by omega]
   exact w
theorem uM {f:M D} {U:Env} {a:D} (hf:f U = .ok (a,U)):qa f (ret []) U = .ok ([a],U):=by rw [yy,hf];rfl
theorem qf4 {f g:M D} {U:Env} {a b:D} (hf:f U = .ok (a,U)) (hg:g U = .ok (b,U)):qa f (qa g (ret [])) U = .ok ([a,b],U):=by rw [yy,hf];simp only [uM hg]
theorem qnj {f g h:M D} {U:Env} {a b c:D} (hf:f U = .ok (a,U)) (hg:g U = .ok (b,U)) (hh:h U = .ok (c,U)):qa f (qa g (qa h (ret []))) U = .ok ([a,b,c],U):=by rw [yy,hf];simp only [qf4 hg hh]
theorem qmy {f g:M D} {U:Env} {a b:D} (hf:f U = .ok (a,U)) (hg:g U = .ok (b,U)):zL (qa f (qa g (ret []))) U = .ok (.tup [a,b],U):=by rw [wJ,qf4 hf hg];simp only [lC_,lN_,zt (show 0+1+1<=1000000 by omega),if_true]
theorem qmz {f g h:M D} {U:Env} {a b c:D} (hf:f U = .ok (a,U)) (hg:g U = .ok (b,U)) (hh:h U = .ok (c,U)):zL (qa f (qa g (qa h (ret [])))) U = .ok (.tup [a,b,c],U):=by rw [wJ,qnj hf hg hh];simp only [lC_,lN_,zt (show 0+1+1+1<=1000000 by omega),if_true]
theorem uj {F:List D->R D} {f:M D} {U:Env} {a d:D} (hf:f U = .ok (a,U)) (e:F [a] = .ok d):qp F (qa f (ret [])) U = .ok (d,U):=by rw [u5,uM hf];simp only [e]
theorem ql2 {F:List D->R D} {f g:M D} {U:Env} {a b d:D} (hf:f U = .ok (a,U)) (hg:g U = .ok (b,U)) (e:F [a,b] = .ok d):qp F (qa f (qa g (ret []))) U = .ok (d,U):=by rw [u5,qf4 hf hg];simp only [e]
theorem qC {F:D->D->Option D} {f g:M D} {U:Env} {a b d:D} (hf:f U = .ok (a,U)) (hg:g U = .ok (b,U)) (e:F a b=some d):d2 F f g U = .ok (d,U):=by rw [qm1,hf];simp only [hg,e]
theorem uk {f:M D} {U:Env} {b:Bool} (hf:f U = .ok (.bl b,U)):tst f U = .ok (b,U):=by rw [qjA,hf];rfl
theorem qki {t:M Bool} {p q:MS} {U:Env} (h:t U = .ok (true,U)):sif t p q U=p U:=by rw [qg8,h];rfl
theorem ql3 {t:M Bool} {p q:MS} {U:Env} (h:t U = .ok (false,U)):sif t p q U=q U:=by rw [qg8,h];rfl
theorem qca {i:Nat} {f:M D} {U:Env} {ds:List D} {d:D} (h:zf i U=some ds) (hf:f U = .ok (d,U)) (hi:imm d=true) (hl:ds.length<1000000):jI (zS i f) U = .ok (.nx (U.set i (some (.lst (ds++[d]))))):=by
 simp only [uK,u6,h,hf,hi,zt (show ds.length+1<=1000000 by omega),Bool.and_self,if_true]
theorem wU {G:D->Env->Option Env} {b:MS} {d:D} {ds:List D} {U U1 U2:Env} (h1:G d U=some U1) (h2:b U1 = .ok (.nx U2)):yx G b (d::ds) U=yx G b ds U2:=by
 show (match G d U with | none=>R.bad | some U1=>_)=_
 rw [h1]
 simp only [h2]
def mD:Option Int->D
 | none => .non
 | some j => .int j
abbrev Kd:=Int×Int×Option Int
def kD (x:Kd):D := .tup [.int x.1,.int x.2.1,mD x.2.2]
theorem qbg {α:Type} {f:α->D}:∀ {as:List α},(∀ a∈as,imm (f a)=true)->immL (as.map f)=true
 | [],_=>rfl
 | a::as,h=>by simp only [mC_,immL,h a mS_,qbg fun x hx=>h x (mM _ hx),Bool.and_self]
def okK (x:Kd):Prop:=0<x.1/\0<=x.2.1/\(∀ j,x.2.2=some j->0<=j)
theorem qf5 {x:Kd} (h:okK x):uB (kD x)=true:=by
 obtain ⟨a,b,m⟩:=x
 obtain ⟨h1,h2,h3⟩:=h
 have e1:qf1 (.int a)=true:=decide_eq_true h1
 have e2:yJ (.int b)=true:=decide_eq_true h2
 cases m with
 | none=>simp only [kD,mD,uB,e1,e2,y8,Bool.true_and,Bool.true_or]
 | some j =>
  have e3:yJ (.int j)=true:=decide_eq_true (h3 j rfl)
  simp only [kD,mD,uB,e1,e2,e3,Bool.true_and,Bool.or_true]
theorem qep {ks:List Kd} (h:∀ x∈ks,okK x) (hl:ks.length<=12):yK (.tup (ks.map kD))=true:=by
 have:(ks.map kD).all uB=true:=by
  rw [List.all_map]
  exact List.all_eq_true.mpr fun x hx=>qf5 (h x hx)
 simp only [yK,lM_,hl,decide_true,this,Bool.true_and]
theorem qhB (m:Option Int):y8 (mD m)=m.isNone:=by cases m<;>rfl
theorem qhC {α:Type} {as:List α} {f:α->Bool}:qex [.lst (as.map fun a=>D.bl (f a))]=some (.bl (as.all f)):=by
 have:yd (as.map fun a=>D.bl (f a))=some (as.map f):=by
  have:=qdB (as.map f)
  rw [mm_] at this
  exact this
 simp only [qex,this,Option.map_some]
 congr 2
 rw [List.all_map]
 rfl
theorem qhD {α:Type} {as:List α} {f:α->Int}:qlb [.lst (as.map fun a=>D.int (f a))]=some (.int (as.map f).sum):=by
 have:uf (as.map fun a=>D.int (f a))=some (as.map f):=by
  have:=vf (as.map f)
  rw [mm_] at this
  exact this
 simp only [qlb,this,Option.map_some]
theorem wV {ns:List Int}:u3 (.tup (ns.map D.int))=true:=by
 have h:∀ ns:List Int,PyData.canLayAll0 (toPDs (ns.map D.int))=true/\PyData.depthAll (toPDs (ns.map D.int))=0:=fun ns=>by
  induction ns with
  | nil=>exact ⟨rfl,rfl⟩
  | cons n ns ih=>exact ⟨by simp only [mC_,toPDs,zG,PyData.canLayAll0,PyData.canLay0,ih.1,Bool.and_self],by simp only [mC_,toPDs,zG,PyData.depthAll,PyData.depth,ih.2];rfl⟩
 obtain ⟨h1,h2⟩:=h ns
 simp only [u3,zG,PyData.canLay0,PyData.depth,h1,h2]
 rfl
theorem qhE:∀ ns ms:List Int,PyData.eqv (.tuple (toPDs (ns.map D.int))) (.tuple (toPDs (ms.map D.int)))=decide (ns=ms):=by
 have h:∀ ns ms:List Int,PyData.eqvAll (toPDs (ns.map D.int)) (toPDs (ms.map D.int))=decide (ns=ms):=fun ns=>by
  induction ns with
  | nil=>intro ms;cases ms<;>rfl
  | cons n ns ih =>
   intro ms
   cases ms with
   | nil=>rfl
   | cons m ms =>
    simp only [mC_,toPDs,zG,PyData.eqvAll,PyData.eqv,ih ms,List.cons.injEq,Bool.decide_and]
    rfl
 intro ns ms
 simp only [PyData.eqv,h]
theorem qf6 {α:Type} {e:M D} {t:M Bool} {u v f:α->D} {p:α->Bool} {r:Env}:∀ (as:List α) (acc:List D) (o o':Option D),(∀ a∈as,t (some (u a)::some (v a)::r) = .ok (p a,some (u a)::some (v a)::r))->(∀ a∈as,p a=true->e (some (u a)::some (v a)::r) = .ok (f a,some (u a)::some (v a)::r))->acc.length+as.length<=1000000 ->
  ∃ o1 o2,zR (qaY 2 (zo (ql 0) (zo (ql 1) qaX))) t e (as.map fun a => .tup [u a,v a]) acc (o::o'::r) = .ok (acc++(as.filter p).map f,o1::o2::r)
 | [],acc,o,o',_,_,_=>⟨o,o',by simp [zR]⟩
 | a::as,acc,o,o',ht,he,hl=>by
  have hl':acc.length+(as.length+1)<=1000000:=hl
  have h1:=ht a mS_
  rw [mC_]
  unfold zR
  have hg:qaY 2 (zo (ql 0) (zo (ql 1) qaX)) (.tup [u a,v a]) (o::o'::r)=some (some (u a)::some (v a)::r):=rfl
  simp only [hg,h1]
  cases hp:p a with
  | false =>
   obtain ⟨o1,o2,q⟩:=qf6 as acc (some (u a)) (some (v a)) (fun x hx=>ht x (mM _ hx)) (fun x hx=>he x (mM _ hx)) (by omega)
   refine ⟨o1,o2,?_⟩
   simp only [q,ft_,hp,Bool.false_eq_true,if_false]
  | true =>
   obtain ⟨o1,o2,q⟩:=qf6 as (acc++[f a]) (some (u a)) (some (v a)) (fun x hx=>ht x (mM _ hx)) (fun x hx=>he x (mM _ hx)) (by rw [lA_,List.length_singleton];omega)
   refine ⟨o1,o2,?_⟩
   simp only [he a mS_ hp,zt (show acc.length+1<=1000000 by omega),if_true,q,ft_,hp,mC_,aA_,List.singleton_append]
theorem qf7 {α:Type} {e:M D} {t:M Bool} {u v:α->D} {xs:M (List D)} {U r:Env} {fr:List Nat} (as:List α) (p:α->Bool) (f:α->D) (hx:xs U = .ok (as.map fun a => .tup [u a,v a],U)) (hr:jP 2 fr U=none::none::r) (hl:as.length<=1000000)
  (ht:∀ a∈as,t (some (u a)::some (v a)::r) = .ok (p a,some (u a)::some (v a)::r)) (he:∀ a∈as,p a=true->e (some (u a)::some (v a)::r) = .ok (f a,some (u a)::some (v a)::r)):zX 2 fr none xs (qaY 2 (zo (ql 0) (zo (ql 1) qaX))) t e U = .ok (.lst ((as.filter p).map f),U):=by
 obtain ⟨o1,o2,q⟩:=qf6 as [] none none ht he (by simpa using hl)
 rw [qcA,hx]
 simp only [hr,q,List.nil_append]
 rfl
theorem qnk (n:Nat):qa3 0 n=(List.range n).map fun i=>D.int (i:Nat):=by
 unfold qa3
 refine List.map_congr_left fun i _ => ?_
 rw [Int.zero_add]
end Law
end L2.Sk
namespace L2.Sk.Law
def qor:Nat->(Nat->Nat)->Nat
 | 0,_=>0
 | n+1,f=>qor n f+f n
structure Kw where
 w:Int
 v:Int
 m:Option Int
def okT (k:Kw) (t:Nat) (r:Int):Bool:=decide ((t:Int)*k.w<=r)&&(match k.m with | none=>true | some j=>decide ((t:Int)<=j))
def ofn (k:Kw) (r:Int):Nat:=(match k.m with | none=>r/k.w | some j=>if j<r/k.w then j else r/k.w).toNat
theorem qf8 {k:Kw} (hw:1<=k.w) (hm:∀ j,k.m=some j->0<=j) {r:Int} (hr:0<=r) (t:Nat):okT k t r=decide (t<=ofn k r):=by
 have hd:0<=r/k.w:=Int.ediv_nonneg hr (by omega)
 have he:((t:Int)*k.w<=r) ↔ ((t:Int)<=r/k.w):=(Int.le_ediv_iff_mul_le (by omega)).symm
 unfold okT ofn
 cases hk:k.m with
 | none =>
  dsimp only
  rw [Bool.and_true,Bool.eq_iff_iff,decide_eq_true_eq,decide_eq_true_eq,he]
  omega
 | some j =>
  have hj:=hm j hk
  dsimp only
  rw [Bool.eq_iff_iff,Bool.and_eq_true,decide_eq_true_eq,decide_eq_true_eq,decide_eq_true_eq,he]
  split<;>omega
theorem qiE {k:Kw} (hw:1<=k.w) (hm:∀ j,k.m=some j->0<=j) {r:Int} (hr:0<=r) {t:Nat} (h:t<=ofn k r):(t:Int)*k.w<=r/\(t:Int)<=r:=by
 have h1:okT k t r=true:=by rw [qf8 hw hm hr];exact decide_eq_true h
 unfold okT at h1
 rw [Bool.and_eq_true,decide_eq_true_eq] at h1
 refine ⟨h1.1,Int.le_trans ?_ h1.1⟩
 have:=Int.mul_le_mul_of_nonneg_left hw (show (0:Int)<=t by omega)
 omega
def vh (k:Kw) (found:List (List Int×Int)):List (List Int×Int):=found.flatMap fun p=>(List.range (ofn k p.2+1)).map fun (t:Nat)=>(p.1++[(t:Int)],p.2-(t:Int)*k.w)
def jF:List Kw->List Int->Int
 | k::ks,t::ts=>t*k.v+jF ks ts
 | _,_=>0
def ql4 (k:Kw):Prop:=1<=k.w/\∀ j,k.m=some j->0<=j
end L2.Sk.Law
namespace L2.Sk.Law
def ul:List Kw->Int->List (List Int)
 | [],_=>[[]]
 | k::ks,r=>(List.range (ofn k r+1)).flatMap fun t:Nat=>(ul ks (r-(t:Int)*k.w)).map fun l=>(t:Int)::l
theorem qaJ:∀ (ks:List Kw) (found:List (List Int×Int)),(ks.foldl (fun f k=>vh k f) found).map (·.1)=found.flatMap fun p=>(ul ks p.2).map fun l=>p.1++l
 | [],found=>by
  simp only [List.foldl_nil,ul,mC_,List.map_nil,List.append_nil]
  induction found with
  | nil=>rfl
  | cons p found ih=>rw [mC_,fC_,ih];rfl
 | k::ks,found=>by
  rw [fo_,qaJ ks (vh k found)]
  unfold vh
  rw [List.flatMap_assoc]
  congr 1
  funext p
  simp only [ul]
  rw [List.flatMap_map,List.map_flatMap]
  congr 1
  funext t
  rw [mm_]
  congr 1
  funext l
  simp
theorem qcQ (ks:List Kw) (r:Int):(ks.foldl (fun f k=>vh k f) [([],r)]).map (·.1)=ul ks r:=by
 rw [qaJ]
 simp
end L2.Sk.Law
namespace L2.Srt
open PySem PySem.W PyProof.Rows
section
variable (ks:List Int)
abbrev kk (i:Nat):Int:=ks.getD i 0
abbrev cm (i j:Nat):Bool:=decide (ks.getD i 0<ks.getD j 0)
def Lx (i j:Nat):Prop:=kk ks i<kk ks j\/(kk ks i=kk ks j/\i<j)
theorem Lx.le {i j:Nat} (h:Lx ks i j):kk ks i<=kk ks j:=by rcases h with h | h<;>omega
structure qdF (n m:Nat) (p:Array Nat):Prop where
 sz:p.size=n
 mn:m<=n
 id:∀ k,m<=k->k<n->p.getD k 0=k
 lo:∀ k,k<m->p.getD k 0<m
 so:∀ i j,i<j->j<m->Lx ks (p.getD i 0) (p.getD j 0)
end
theorem vI {p q:Array Nat} {k j:Nat} (h:p[k]? = q[j]?):p.getD k 0=q.getD j 0:=by
 rw [Array.getD_eq_getD_getElem?,Array.getD_eq_getD_getElem?,h]
theorem qbh {p:Array Nat} {i j:Nat} (hj:j<=p.size) (hij:i<=j) (k:Nat):(kas_rev p i j).getD k 0=if i<=k/\k<j then p.getD (i+j-1-k) 0 else p.getD k 0:=by
 have h:=getElem?_mirror (xs:=p) (i:=i) (j:=j) hj ((j-i)/2) (by omega) k
 unfold kas_rev
 by_cases hk:i<=k/\k<j
 ·rw [if_pos hk]
  by_cases hm:(i<=k/\k<i+(j-i)/2)\/(j-(j-i)/2<=k/\k<j)
  ·rw [if_pos hm] at h
   exact vI h
  ·rw [if_neg hm] at h
   have e:i+j-1-k=k:=by omega
   rw [e]
   exact vI h
 ·rw [if_neg hk]
  rw [if_neg (by omega)] at h
  exact vI h
theorem qbi (p:Array Nat) (i j:Nat):(kas_rev p i j).size=p.size:=mirror_size _ _ _ _
theorem qjZ {p:Array Nat} {k l:Nat} (hk:k<p.size) (hl:l<=k) (j:Nat):(bubble p k (k-l)).getD j 0=if j=l then p.getD k 0 else if l<j/\j<=k then p.getD (j-1) 0 else p.getD j 0:=by
 have h:=getElem?_bubble (xs:=p) (src:=k) hk (k-l) (by omega) j
 rw [show k-(k-l)=l by omega] at h
 by_cases h1:j=l
 ·rw [if_pos h1] at h |-
  exact vI h
 ·rw [if_neg h1] at h |-
  by_cases h2:l<j/\j<=k
  ·rw [if_pos h2] at h |-
   exact vI h
  ·rw [if_neg h2] at h |-
   exact vI h
section
variable {ks:List Int}
theorem qf9 {n:Nat} {p:Array Nat}:∀ (f m:Nat),f=n-m->1<=m->qdF ks n m p->∃ m',runK (cm ks) (kas_asc p f m)=m'/\m<=m'/\qdF ks n m' p/\(m'<n->kk ks (p.getD m' 0)<kk ks (p.getD (m'-1) 0))
 | 0,m,hf,h1,S=>⟨m,rfl,Nat.le_refl _,S,fun h=>by omega⟩
 | f + 1,m,hf,h1,S=>by
  show ∃ m',runK (cm ks) (if cm ks (p.getD m 0) (p.getD (m-1) 0)=true then KasT.ret m else kas_asc p f (m+1))=m'/\_
  by_cases c:kk ks (p.getD m 0)<kk ks (p.getD (m-1) 0)
  ·rw [if_pos (decide_eq_true c)]
   exact ⟨m,rfl,Nat.le_refl _,S,fun _=>c⟩
  ·rw [if_neg (by simpa using c)]
   have hid:p.getD m 0=m:=S.id m (Nat.le_refl _) (by omega)
   have S':qdF ks n (m+1) p:=by
    refine ⟨S.sz,by omega,fun k a b=>S.id k (by omega) b,fun k a => ?_,fun i j a b => ?_⟩
    ·by_cases e:k<m
     ·have:=S.lo k e;omega
     ·have:k=m:=by omega
      rw [this,hid];omega
    ·by_cases e:j<m
     ·exact S.so i j a e
     ·have ej:j=m:=by omega
      subst ej
      have l1:=S.lo i a
      have k1:kk ks (p.getD i 0)<=kk ks (p.getD (j-1) 0):=by
       by_cases e2:i=j-1
       ·rw [e2];exact Int.le_refl _
       ·exact (S.so i (j-1) (by omega) (by omega)).le
      have c':kk ks (p.getD (j-1) 0)<=kk ks (p.getD j 0):=Int.not_lt.mp c
      unfold Lx
      rw [hid] at c' |-
      omega
   obtain ⟨m',e1,e2,e3,e4⟩:=qf9 f (m+1) (by omega) (by omega) S'
   exact ⟨m',e1,by omega,e3,e4⟩
structure Dwn (ks:List Int) (n m q:Nat) (p:Array Nat):Prop where
 sz:p.size=n
 mn:m<=n
 qm:q+1<=m
 id:∀ k,m<=k->k<n->p.getD k 0=k
 lo:∀ k,k<m->p.getD k 0<m
 a1:∀ i j,i<m-(q+1)->m-(q+1)<=j->j<m->kk ks (p.getD j 0)<kk ks (p.getD i 0)
 a2:∀ i j,i<j->j<m-(q+1)->Lx ks (p.getD j 0) (p.getD i 0)
 bl:∀ i j,m-(q+1)<=i->i<j->j<m->kk ks (p.getD i 0)=kk ks (p.getD j 0)/\p.getD i 0<p.getD j 0
theorem Dwn.turned {n m q:Nat} {p:Array Nat} (d:Dwn ks n m q p):(kas_rev p (m-(q+1)) m).size=n/\(∀ k,m<=k->k<n->(kas_rev p (m-(q+1)) m).getD k 0=k)/\(∀ k,k<m->(kas_rev p (m-(q+1)) m).getD k 0<m) /\
  (∀ i j,i<j->j<m->Lx ks ((kas_rev p (m-(q+1)) m).getD j 0) ((kas_rev p (m-(q+1)) m).getD i 0))/\(∀ i,i<m->kk ks (p.getD (m-1) 0)<=kk ks ((kas_rev p (m-(q+1)) m).getD i 0)):=by
 have hqm:=d.qm
 have hs:m<=p.size:=by rw [d.sz];exact d.mn
 have g:=fun k=>qbh (p:=p) (i:=m-(q+1)) (j:=m) hs (by omega) k
 refine ⟨by rw [qbi,d.sz],fun k a b => ?_,fun k a => ?_,fun i j a b => ?_,fun i a => ?_⟩
 ·rw [g,if_neg (by omega)];exact d.id k a b
 ·rw [g]
  split
  ·exact d.lo _ (by omega)
  ·exact d.lo k a
 ·rw [g i,g j]
  by_cases hi:m-(q+1)<=i
  ·rw [if_pos ⟨by omega,b⟩,if_pos ⟨hi,by omega⟩]
   have:=d.bl (m-(q+1)+m-1-j) (m-(q+1)+m-1-i) (by omega) (by omega) (by omega)
   exact .inr ⟨this.1,this.2⟩
  ·rw [if_neg (show ¬ (m-(q+1)<=i/\i<m) by omega)]
   by_cases hj:m-(q+1)<=j
   ·rw [if_pos ⟨hj,b⟩]
    exact .inl (d.a1 i _ (by omega) (by omega) (by omega))
   ·rw [if_neg (by omega)]
    exact d.a2 i j a (by omega)
 ·have key:∀ j,m-(q+1)<=j->j<m->kk ks (p.getD (m-1) 0)=kk ks (p.getD j 0):=fun j h1 h2=>by
   by_cases e:j=m-1
   ·rw [e]
   ·exact (d.bl j (m-1) h1 (by omega) (by omega)).1.symm
  rw [g i]
  by_cases hi:m-(q+1)<=i
  ·rw [if_pos ⟨hi,a⟩]
   exact Int.le_of_eq (key _ (by omega) (by omega))
  ·rw [if_neg (by omega)]
   exact Int.le_of_lt (d.a1 i (m-1) (by omega) (by omega) (by omega))
theorem Dwn.next {n m:Nat} {p:Array Nat} (hsz:p.size=n) (hm:1<=m) (hmn:m<n) (hid:∀ k,m<=k->k<n->p.getD k 0=k) (hlo:∀ k,k<m->p.getD k 0<m) (ho:∀ i j,i<j->j<m->Lx ks (p.getD j 0) (p.getD i 0))
  (hk:∀ i,i<m->kk ks (p.getD m 0)<kk ks (p.getD i 0)):Dwn ks n (m+1) 0 p:=by
 refine ⟨hsz,hmn,by omega,fun k a b=>hid k (by omega) b,fun k a => ?_,fun i j a b c => ?_,fun i j a b=>ho i j a (by omega),fun i j a b c=>by omega⟩
 ·by_cases e:k<m
  ·have:=hlo k e;omega
  ·have:k=m:=by omega
   rw [this,hid m (Nat.le_refl _) hmn];omega
 ·have:j=m:=by omega
  subst this
  exact hk i (by omega)
theorem qnT {n m:Nat} {p:Array Nat} (d:Dwn ks n m 0 p):∀ k,(kas_rev p (m-(0+1)) m).getD k 0=p.getD k 0:=fun k=>by
 have hqm:=d.qm
 rw [qbh (by rw [d.sz];exact d.mn) (by omega)]
 split
 ·congr 1;omega
 ·rfl
theorem qbj {n:Nat}:∀ (f m q:Nat) {p:Array Nat},f=n-m->Dwn ks n m q p->∃ r,runK (cm ks) (kas_desc f p m q)=r/\Dwn ks n r.2.1 r.2.2 r.1
 | 0,m,q,p,hf,d=>⟨(p,m,q),rfl,d⟩
 | f + 1,m,q,p,hf,d=>by
  show ∃ r,runK (cm ks) (if cm ks (p.getD m 0) (p.getD (m-1) 0)=true then (if q>0 then kas_desc f (kas_rev p (m-(q+1)) m) (m+1) 0 else kas_desc f p (m+1) 0)
   else .ask (p.getD (m-1) 0) (p.getD m 0) fun c=>if c=true then .ret (p,m,q) else kas_desc f p (m+1) (q+1))=r/\_
  have hmn:m<n:=by have:=d.mn;omega
  have hqm:=d.qm
  have hid:=d.id m (Nat.le_refl _) hmn
  obtain ⟨t1,t2,t3,t4,t5⟩:=d.turned
  by_cases c:kk ks (p.getD m 0)<kk ks (p.getD (m-1) 0)
  ·rw [if_pos (decide_eq_true c)]
   by_cases hq:q>0
   ·rw [if_pos hq]
    have hm':(kas_rev p (m-(q+1)) m).getD m 0=p.getD m 0:=by rw [t2 m (Nat.le_refl _) hmn,hid]
    exact qbj f (m+1) 0 (by omega) (Dwn.next t1 (by omega) hmn t2 t3 t4 fun i hi=>by rw [hm'];exact Int.lt_of_lt_of_le c (t5 i hi))
   ·rw [if_neg hq]
    have e:q=0:=by omega
    subst e
    have g:=qnT d
    refine qbj f (m+1) 0 (by omega) (Dwn.next d.sz (by omega) hmn d.id d.lo (fun i j a b => ?_) fun i hi => ?_)
    ·have:=t4 i j a b
     rw [g,g] at this
     exact this
    ·have:=t5 i hi
     rw [g] at this
     exact Int.lt_of_lt_of_le c this
  ·rw [if_neg (by simpa using c)]
   show ∃ r,runK (cm ks) (if cm ks (p.getD (m-1) 0) (p.getD m 0)=true then .ret (p,m,q) else kas_desc f p (m+1) (q+1))=r/\_
   by_cases c2:kk ks (p.getD (m-1) 0)<kk ks (p.getD m 0)
   ·rw [if_pos (decide_eq_true c2)]
    exact ⟨(p,m,q),rfl,d⟩
   ·rw [if_neg (by simpa using c2)]
    have ek:kk ks (p.getD (m-1) 0)=kk ks (p.getD m 0):=by
     have a1:kk ks (p.getD (m-1) 0)<=kk ks (p.getD m 0):=Int.not_lt.mp c
     have a2:kk ks (p.getD m 0)<=kk ks (p.getD (m-1) 0):=Int.not_lt.mp c2
     omega
    refine qbj f (m+1) (q+1) (by omega) ⟨d.sz,hmn,by omega,fun k a b=>d.id k (by omega) b,fun k a => ?_,fun i j a b c => ?_,fun i j a b=>d.a2 i j a (by omega),fun i j a b c => ?_⟩
    ·by_cases e:k<m
     ·have:=d.lo k e;omega
     ·have:k=m:=by omega
      rw [this,hid];omega
    ·by_cases e:j<m
     ·exact d.a1 i j (by omega) (by omega) e
     ·have:j=m:=by omega
      subst this
      rw [<- ek]
      exact d.a1 i (j-1) (by omega) (by omega) (by omega)
    ·by_cases e:j<m
     ·exact d.bl i j (by omega) b e
     ·have:j=m:=by omega
      subst this
      have l1:=d.lo i b
      refine ⟨?_,by rw [hid];exact l1⟩
      rw [<- ek]
      by_cases e2:i=j-1
      ·rw [e2]
      ·exact (d.bl i (j-1) (by omega) (by omega) (by omega)).1
theorem qdG {n m:Nat} {p:Array Nat} (hsz:p.size=n) (hm:1<=m) (hmn:m<=n) (hid:∀ k,m<=k->k<n->p.getD k 0=k) (hlo:∀ k,k<m->p.getD k 0<m) (ho:∀ i j,i<j->j<m->Lx ks (p.getD j 0) (p.getD i 0)) :
  qdF ks n (runK (cm ks) (kas_tail3 m n p)).1 (runK (cm ks) (kas_tail3 m n p)).2/\1<=(runK (cm ks) (kas_tail3 m n p)).1:=by
 have g:=fun k=>qbh (p:=p) (i:=0) (j:=m) (by rw [hsz];exact hmn) (Nat.zero_le _) k
 have S:qdF ks n m (kas_rev p 0 m):=by
  refine ⟨by rw [qbi,hsz],hmn,fun k a b => ?_,fun k a => ?_,fun i j a b => ?_⟩
  ·rw [g,if_neg (by omega)];exact hid k a b
  ·rw [g,if_pos ⟨Nat.zero_le _,a⟩];exact hlo _ (by omega)
  ·rw [g,g,if_pos ⟨Nat.zero_le _,by omega⟩,if_pos ⟨Nat.zero_le _,b⟩]
   exact ho _ _ (by omega) (by omega)
 obtain ⟨m',e1,e2,e3,_⟩:=qf9 (n-m) m rfl hm S
 have e:runK (cm ks) (kas_tail3 m n p)=(m',kas_rev p 0 m):=by
  unfold kas_tail3
  rw [yD,e1]
  rfl
 rw [e]
 exact ⟨e3,by show 1<=m';omega⟩
theorem wW {n m:Nat} {p:Array Nat} (d:Dwn ks n (m+1) 0 p):qdF ks n (runK (cm ks) (kas_descPart m n p)).1 (runK (cm ks) (kas_descPart m n p)).2/\1<=(runK (cm ks) (kas_descPart m n p)).1:=by
 obtain ⟨r,e1,e2⟩:=qbj (n-(m+1)) (m+1) 0 rfl d
 obtain ⟨t1,t2,t3,t4,_⟩:=e2.turned
 have hqm:=e2.qm
 unfold kas_descPart
 rw [yD,e1]
 by_cases hq:r.2.2>0
 ·rw [if_pos hq]
  exact qdG t1 (by omega) e2.mn t2 t3 t4
 ·rw [if_neg hq]
  obtain ⟨p',m',q'⟩:=r
  have e:q'=0:=by show q'=0;have:¬ q'>0:=hq;omega
  subst e
  have g:=qnT e2
  refine qdG e2.sz (by omega) e2.mn e2.id e2.lo fun i j a b => ?_
  have:=t4 i j a b
  rw [g,g] at this
  exact this
theorem qhF {n:Nat} (hn:1<=n):qdF ks n (runK (cm ks) (kas_count n (List.toArray (List.range n)))).1 (runK (cm ks) (kas_count n (List.toArray (List.range n)))).2/\1<=(runK (cm ks) (kas_count n (List.toArray (List.range n)))).1:=by
 have hr:∀ k,k<n->(List.toArray (List.range n)).getD k 0=k:=fun k hk=>by simp [Array.getD,hk]
 have S1:qdF ks n 1 (List.toArray (List.range n)):=⟨by simp,hn,fun k _ b=>hr k b,fun k a=>by rw [hr k (by omega)];exact a,fun i j a b=>by omega⟩
 obtain ⟨m,e1,e2,e3,e4⟩:=qf9 (n-1) 1 rfl (Nat.le_refl _) S1
 unfold kas_count
 rw [yD,e1]
 by_cases h1:m=n
 ·rw [if_pos (by rw [h1];simp)]
  exact ⟨e3,e2⟩
 ·rw [if_neg (by simpa using h1)]
  have hmn:m<n:=by have:=e3.mn;omega
  have hk:=e4 hmn
  by_cases h2:m>1
  ·rw [if_pos h2]
   show qdF ks n (runK (cm ks) (if cm ks ((List.toArray (List.range n)).getD 0 0) ((List.toArray (List.range n)).getD (m-1) 0)=true then .ret (m,List.toArray (List.range n)) else kas_descPart m n (kas_rev (List.toArray (List.range n)) 0 m))).1 _/\_
   by_cases c:kk ks ((List.toArray (List.range n)).getD 0 0)<kk ks ((List.toArray (List.range n)).getD (m-1) 0)
   ·rw [show runK (cm ks) (KasT.ask ((List.toArray (List.range n)).getD 0 0) ((List.toArray (List.range n)).getD (m-1) 0) fun c=>if c=true then .ret (m,List.toArray (List.range n)) else kas_descPart m n (kas_rev (List.toArray (List.range n)) 0 m))=runK (cm ks) (if cm ks ((List.toArray (List.range n)).getD 0 0) ((List.toArray (List.range n)).getD (m-1) 0)=true then .ret (m,List.toArray (List.range n)) else kas_descPart m n (kas_rev (List.toArray (List.range n)) 0 m)) from rfl,if_pos (decide_eq_true c)]
    exact ⟨e3,e2⟩
   ·rw [show runK (cm ks) (KasT.ask ((List.toArray (List.range n)).getD 0 0) ((List.toArray (List.range n)).getD (m-1) 0) fun c=>if c=true then .ret (m,List.toArray (List.range n)) else kas_descPart m n (kas_rev (List.toArray (List.range n)) 0 m))=runK (cm ks) (if cm ks ((List.toArray (List.range n)).getD 0 0) ((List.toArray (List.range n)).getD (m-1) 0)=true then .ret (m,List.toArray (List.range n)) else kas_descPart m n (kas_rev (List.toArray (List.range n)) 0 m)) from rfl,if_neg (by simpa using c)]
    generalize hp:List.toArray (List.range n)=p at *
    have g:=fun k=>qbh (p:=p) (i:=0) (j:=m) (by rw [e3.sz];omega) (Nat.zero_le _) k
    have al:∀ i,i<m->kk ks (p.getD i 0)=kk ks (p.getD 0 0):=fun i hi=>by
     have c':kk ks (p.getD (m-1) 0)<=kk ks (p.getD 0 0):=Int.not_lt.mp c
     have a1:kk ks (p.getD 0 0)<=kk ks (p.getD i 0):=by
      by_cases e:i=0
      ·rw [e];exact Int.le_refl _
      ·exact (e3.so 0 i (by omega) hi).le
     have a2:kk ks (p.getD i 0)<=kk ks (p.getD (m-1) 0):=by
      by_cases e:i=m-1
      ·rw [e];exact Int.le_refl _
      ·exact (e3.so i (m-1) (by omega) (by omega)).le
     omega
    refine wW (Dwn.next (by rw [qbi,e3.sz]) (by omega) hmn (fun k a b=>by rw [g,if_neg (by omega)];exact e3.id k a b) (fun k a=>by rw [g,if_pos ⟨Nat.zero_le _,a⟩];exact e3.lo _ (by omega)) (fun i j a b => ?_) fun i hi => ?_)
    ·rw [g,g,if_pos ⟨Nat.zero_le _,b⟩,if_pos ⟨Nat.zero_le _,by omega⟩]
     exact e3.so _ _ (by omega) (by omega)
    ·have h9:=al (m-1) (by omega)
     rw [g m,g i,if_neg (by omega),if_pos ⟨Nat.zero_le _,hi⟩,al (0+m-1-i) (by omega),<- h9]
     exact hk
  ·rw [if_neg h2]
   have em:m=1:=by omega
   subst em
   exact wW (Dwn.next e3.sz (Nat.le_refl _) hmn e3.id e3.lo (fun i j a b=>by omega) fun i hi=>by
    have:i=0:=by omega
    subst this
    exact hk)
theorem qbk {n k:Nat} {p:Array Nat} (S:qdF ks n k p):∀ (f l r:Nat),r-l<=f->l<=r->r<=k->(∀ i,i<l->kk ks (p.getD i 0)<=kk ks (p.getD k 0))->(∀ i,r<=i->i<k->kk ks (p.getD k 0)<kk ks (p.getD i 0)) ->
  ∃ l',runK (cm ks) (kas_place p k f l r)=l'/\l'<=k/\(∀ i,i<l'->kk ks (p.getD i 0)<=kk ks (p.getD k 0))/\(∀ i,l'<=i->i<k->kk ks (p.getD k 0)<kk ks (p.getD i 0))
 | 0,l,r,hf,h1,h2,a,b=>⟨l,rfl,by omega,a,fun i c d=>b i (by omega) d⟩
 | f + 1,l,r,hf,h1,h2,a,b=>by
  have mono:∀ i j,i<=j->j<k->kk ks (p.getD i 0)<=kk ks (p.getD j 0):=fun i j hij hj=>by
   by_cases e:i=j
   ·rw [e];exact Int.le_refl _
   ·exact (S.so i j (by omega) hj).le
  unfold kas_place
  by_cases hge:l >= r
  ·rw [if_pos hge]
   exact ⟨l,rfl,by omega,a,fun i c d=>b i (by omega) d⟩
  ·rw [if_neg hge]
   show ∃ l',runK (cm ks) (if cm ks (p.getD k 0) (p.getD ((l+r)/2) 0)=true then kas_place p k f l ((l+r)/2) else kas_place p k f ((l+r)/2+1) r)=l'/\_
   by_cases c:kk ks (p.getD k 0)<kk ks (p.getD ((l+r)/2) 0)
   ·rw [if_pos (decide_eq_true c)]
    exact qbk S f l ((l+r)/2) (by omega) (by omega) (by omega) a fun i x y=>Int.lt_of_lt_of_le c (mono _ _ x y)
   ·rw [if_neg (by simpa using c)]
    exact qbk S f ((l+r)/2+1) r (by omega) (by omega) h2 (fun i x=>Int.le_trans (mono i ((l+r)/2) (by omega) (by omega)) (Int.not_lt.mp c)) b
theorem qiF {n:Nat}:∀ (f k:Nat) {p:Array Nat},f=n-k->qdF ks n k p->qdF ks n n (runK (cm ks) (kas_bin f p k))
 | 0,k,p,hf,S=>by
  have:k=n:=by have:=S.mn;omega
  subst this
  exact S
 | f + 1,k,p,hf,S=>by
  have hkn:k<n:=by omega
  have hid:=S.id k (Nat.le_refl _) hkn
  obtain ⟨l,e1,e2,e3,e4⟩:=qbk S k 0 k (by omega) (Nat.zero_le _) (Nat.le_refl _) (fun i h=>by omega) (fun i h1 h2=>by omega)
  show qdF ks n n (runK (cm ks) ((kas_place p k k 0 k).bind fun l=>kas_bin f (bubble p k (k-l)) (k+1)))
  rw [yD,e1]
  have g:=fun j=>qjZ (p:=p) (k:=k) (l:=l) (by rw [S.sz];exact hkn) e2 j
  refine qiF f (k+1) (by omega) ⟨by rw [bubble_size,S.sz],hkn,fun j a b => ?_,fun j a => ?_,fun i j a b => ?_⟩
  ·rw [g,if_neg (by omega),if_neg (by omega)];exact S.id j (by omega) b
  ·rw [g]
   split
   ·rw [hid];omega
   ·split
    ·have:=S.lo (j-1) (by omega);omega
    ·have:=S.lo j (by omega);omega
  ·rw [g i,g j]
   have lk:∀ z,z<k->z<l->Lx ks (p.getD z 0) (p.getD k 0):=fun z hz hl=>by
    have h1:=e3 z hl
    have h2:=S.lo z hz
    unfold Lx
    rw [hid] at h1 |-
    omega
   have gk:∀ z,l<=z->z<k->Lx ks (p.getD k 0) (p.getD z 0):=fun z hl hz => .inl (e4 z hl hz)
   by_cases hi:i=l
   ·rw [if_pos hi,if_neg (by omega),if_pos ⟨by omega,by omega⟩]
    exact gk _ (by omega) (by omega)
   ·rw [if_neg hi]
    by_cases hj:j=l
    ·rw [if_pos hj,if_neg (by omega)]
     exact lk i (by omega) (by omega)
    ·rw [if_neg hj]
     by_cases hi2:l<i/\i<=k
     ·rw [if_pos hi2,if_pos ⟨by omega,by omega⟩]
      exact S.so _ _ (by omega) (by omega)
     ·rw [if_neg hi2]
      by_cases hj2:l<j/\j<=k
      ·rw [if_pos hj2]
       exact S.so _ _ (by omega) (by omega)
      ·rw [if_neg hj2]
       exact S.so _ _ a (by omega)
theorem qj0 {n:Nat} (hn:1<=n):qdF ks n n (runK (cm ks) (kas_sort n)):=by
 obtain ⟨S,h1⟩:=qhF (ks:=ks) hn
 unfold kas_sort
 rw [yD]
 by_cases h:(runK (cm ks) (kas_count n (List.toArray (List.range n)))).1<n
 ·rw [if_pos h]
  have e:max (runK (cm ks) (kas_count n (List.toArray (List.range n)))).1 1=(runK (cm ks) (kas_count n (List.toArray (List.range n)))).1:=by omega
  rw [e]
  exact qiF _ _ rfl S
 ·rw [if_neg h]
  have e:(runK (cm ks) (kas_count n (List.toArray (List.range n)))).1=n:=by have:=S.mn;omega
  rw [e] at S
  exact S
end
theorem ord_sorted (ks:List Int):(ord ks).Pairwise (Lx ks):=by
 unfold ord
 split
 ·rename_i h
  match hk:ks.length,h with
  | 0,_=>exact List.Pairwise.nil
  | 1,_=>exact List.pairwise_singleton _ _
 ·have S:=qj0 (ks:=ks) (n:=ks.length) (by omega)
  rw [List.pairwise_iff_getElem]
  intro i j hi hj hij
  have hz:=S.sz
  rw [Array.length_toList] at hi hj
  have:=S.so i j hij (by rw [<- hz];exact hj)
  have e1:(runK (cm ks) (kas_sort ks.length)).getD i 0=(runK (cm ks) (kas_sort ks.length)).toList[i]'(by rw [Array.length_toList];exact hi):=by simp [Array.getD,hi]
  have e2:(runK (cm ks) (kas_sort ks.length)).getD j 0=(runK (cm ks) (kas_sort ks.length)).toList[j]'(by rw [Array.length_toList];exact hj):=by simp [Array.getD,hj]
  rw [e1,e2] at this
  exact this
end L2.Srt
namespace L2.Sk.Law
def sgK (k:Kw):Prop:=1<=k.w/\0<=k.v/\(k.m=some 0\/k.m=some 1)
theorem sgK.kd {k:Kw} (h:sgK k):ql4 k:=⟨h.1,fun j e=>by rcases h.2.2 with q | q<;>rw [q] at e<;>cases e<;>decide⟩
def tm (k:Kw):Nat:=(k.m.getD 0).toNat
theorem qhG {k:Kw} (h:sgK k):tm k<=1:=by unfold tm;rcases h.2.2 with q | q<;>rw [q]<;>decide
def qcR (L:List (List Int)) (k:Kw):List (List Int):=L.flatMap fun l=>(List.range (tm k+1)).map fun t:Nat=>l++[(t:Int)]
def z6:List Kw->List (List Int)
 | []=>[[]]
 | k::ks=>(List.range (tm k+1)).flatMap fun t:Nat=>(z6 ks).map fun l=>(t:Int)::l
theorem qcb:∀ (ks:List Kw) (F:List (List Int)),ks.foldl qcR F=F.flatMap fun p=>(z6 ks).map fun l=>p++l
 | [],F=>by simp [z6]
 | k::ks,F=>by
  rw [fo_,qcb ks]
  unfold qcR
  rw [List.flatMap_assoc]
  congr 1
  funext p
  simp only [z6]
  rw [List.flatMap_map,List.map_flatMap]
  congr 1
  funext t
  rw [mm_]
  congr 1
  funext l
  simp
theorem qhH (ks:List Kw):ks.foldl qcR [[]]=z6 ks:=by rw [qcb];simp
def qX:List Kw->List Int->Int
 | k::ks,t::ts=>t*k.w+qX ks ts
 | _,_=>0
theorem v8:∀ {ks:List Kw} {l:List Int},l∈z6 ks->l.length=ks.length
 | [],l,h=>by rw [ms_.mp h];rfl
 | k::ks,l,h=>by
  obtain ⟨t,_,h2⟩:=List.mem_flatMap.mp h
  obtain ⟨l',hl',rfl⟩:=mP_.mp h2
  rw [lC_,lC_,v8 hl']
theorem uN:∀ {ks:List Kw} {l:List Int},(∀ k∈ks,sgK k)->l∈z6 ks->∀ t∈l,t=0\/t=1
 | [],l,_,h=>by rw [ms_.mp h];intro t ht;cases ht
 | k::ks,l,hk,h=>by
  obtain ⟨t,ht,h2⟩:=List.mem_flatMap.mp h
  obtain ⟨l',hl',rfl⟩:=mP_.mp h2
  intro x hx
  have:=qhG (hk k mS_)
  have h3:=mR_.mp ht
  rcases List.mem_cons.mp hx with rfl | hx
  ·omega
  ·exact uN (fun k hk'=>hk k (mM _ hk')) hl' x hx
theorem qcc:∀ {ks:List Kw} {l:List Int},(∀ k∈ks,sgK k)->(∀ t∈l,t=0\/t=1)->0<=qX ks l/\0<=jF ks l
 | [],_,_,_=>⟨by simp [qX],by simp [jF]⟩
 | k::ks,[],_,_=>⟨by simp [qX],by simp [jF]⟩
 | k::ks,t::l,hk,hl=>by
  obtain ⟨h1,h2⟩:=qcc (fun k hk'=>hk k (mM _ hk')) (fun x hx=>hl x (mM _ hx)) (ks:=ks) (l:=l)
  obtain ⟨g1,g2,_⟩:=hk k mS_
  have ht:0<=t:=by rcases hl t mS_ with e | e<;>omega
  have a1:0<=t*k.w:=Int.mul_nonneg ht (by omega)
  have a2:0<=t*k.v:=Int.mul_nonneg ht g2
  exact ⟨by show 0<=t*k.w+qX ks l;omega,by show 0<=t*k.v+jF ks l;omega⟩
theorem qga {ks:List Kw} {l:List Int} (hk:∀ k∈ks,sgK k) (h:l∈z6 ks):0<=qX ks l/\0<=jF ks l:=qcc hk (uN hk h)
theorem qdH {α:Type} {f:Nat->List α} {m:Nat}:∀ n,m<=n->(∀ t,m<t->t<=n->f t=[])->(List.range (n+1)).flatMap f=(List.range (m+1)).flatMap f
 | 0,h,_=>by
  have:m=0:=by omega
  rw [this]
 | n+1,h,hf=>by
  by_cases c:m=n+1
  ·rw [c]
  ·rw [List.range_succ,List.flatMap_append,qdH n (by omega) fun t h1 h2=>hf t h1 (by omega)]
   simp [hf (n+1) (by omega) (Nat.le_refl _)]
theorem qaK {α β:Type} {f g:α->List β}:∀ {l:List α},(∀ a∈l,f a=g a)->l.flatMap f=l.flatMap g
 | [],_=>rfl
 | a::l,h=>by rw [fC_,fC_,h a mS_,qaK fun x hx=>h x (mM _ hx)]
theorem wX {α β:Type} {f:α->List β} {p:β->Bool}:∀ l:List α,(l.flatMap f).filter p=l.flatMap fun a=>(f a).filter p
 | []=>rfl
 | a::l=>by rw [fC_,List.filter_append,wX l,fC_]
theorem qcS {α β:Type} {f:α->β} {p:β->Bool} (l:List α):(l.map f).filter p=(l.filter fun a=>p (f a)).map f:=by
 rw [List.filter_map]
 rfl
theorem qaL:∀ {ks:List Kw} {r:Int},(∀ k∈ks,sgK k)->0<=r->ul ks r=(z6 ks).filter fun l=>decide (qX ks l<=r)
 | [],r,_,hr=>by simp [ul,z6,qX,hr]
 | k :: ks,r,hk,hr=>by
  have gk:=hk k mS_
  have hk':∀ k∈ks,sgK k:=fun x hx=>hk x (mM _ hx)
  simp only [ul,z6]
  rw [wX]
  have hw:=gk.1
  have hle:ofn k r<=tm k:=by
   unfold ofn tm
   rcases gk.2.2 with q | q<;>rw [q]<;>simp only [Option.getD_some]<;>split<;>omega
  rw [qdH (m:=ofn k r) (tm k) hle fun t h1 h2 => ?_]
  ·have e:∀ t∈List.range (ofn k r+1),((ul ks (r-(t:Int)*k.w)).map fun l=>(t:Int)::l)=((z6 ks).map fun l=>(t:Int)::l).filter fun l=>decide (qX (k::ks) l<=r):=fun t ht=>by
    have h1:=mR_.mp ht
    obtain ⟨g1,_⟩:=qiE gk.kd.1 gk.kd.2 hr (show t<=ofn k r by omega)
    rw [qaL hk' (show 0<=r-(t:Int)*k.w by omega),qcS]
    congr 1
    refine List.filter_congr fun l _ => ?_
    have:qX (k::ks) ((t:Int)::l)=(t:Int)*k.w+qX ks l:=rfl
    rw [this]
    apply decide_eq_decide.mpr
    omega
   rw [qaK fun t ht=>e t ht]
  ·rw [List.filter_eq_nil_iff]
   intro l hl
   obtain ⟨l',hl',rfl⟩:=mP_.mp hl
   have:=(qga hk' hl').1
   have hx:¬ okT k t r=true:=by
    rw [qf8 gk.kd.1 gk.kd.2 hr,decide_eq_true_eq]
    omega
   have hx:¬ (t:Int)*k.w<=r:=fun hw'=>hx (by
    unfold okT
    unfold tm at h2
    rw [decide_eq_true hw',Bool.true_and]
    rcases gk.2.2 with q | q<;>rw [q] at h2 |- <;> simp only [Option.getD_some] at h2<;>exact decide_eq_true (by omega))
   have e:qX (k::ks) ((t:Int)::l')=(t:Int)*k.w+qX ks l':=rfl
   rw [e,decide_eq_true_eq]
   omega
abbrev T3:=Int×Int×List Int
def wg (ks:List Kw) (l:List Int):T3:=(qX ks l,jF ks l,l)
def jt (ks:List Kw):List T3:=(z6 ks).map (wg ks)
def kyT (x:T3):jp:=(x.1,-x.2.1,x.2.2)
def vi (kept:List T3) (x:T3):List T3:=match kept.getLast? with
 | none=>[x]
 | some y=>if y.2.1<x.2.1 then kept++[x] else kept
def Bo (x y:T3):Prop:=lt3 (kyT y) (kyT x)=false
def srt (L:List T3):List T3:=(Srt.ord (qw (L.map kyT))).map fun i=>L.getD i (0,0,[])
def nbL (ks:List Kw):List T3:=(srt (jt ks)).foldl vi []
theorem vj (L:List T3):(srt L).Perm L:=by
 have h:=(Srt.ord_perm (qw (L.map kyT))).map fun i=>L.getD i ((0,0,[]):T3)
 rw [qL,lM_] at h
 have e:(List.range L.length).map (fun i=>L.getD i ((0,0,[]):T3))=L:=Srt.map_getD_range _ L
 rw [e] at h
 exact h
theorem qaM (L:List T3):(srt L).Pairwise Bo:=by
 unfold srt
 rw [List.pairwise_map]
 have hp:=Srt.ord_perm (qw (L.map kyT))
 have hs:=Srt.ord_sorted (qw (L.map kyT))
 refine (List.pairwise_iff_forall_sublist.mpr fun {i j} hij => ?_)
 have hij':=(List.pairwise_iff_forall_sublist.mp hs) hij
 have hi:i<L.length:=by
  have:=hp.mem_iff.mp (hij.subset (mS_))
  rw [mR_,qL,lM_] at this
  exact this
 have hj:j<L.length:=by
  have:=hp.mem_iff.mp (hij.subset (mM _ mS_))
  rw [mR_,qL,lM_] at this
  exact this
 have hle:=hij'.le
 unfold Bo
 have e1:Srt.kk (qw (L.map kyT)) i=wQ (L.map kyT) (kyT (L.getD i (0,0,[]))):=by unfold Srt.kk qw;simp [hi]
 have e2:Srt.kk (qw (L.map kyT)) j=wQ (L.map kyT) (kyT (L.getD j (0,0,[]))):=by unfold Srt.kk qw;simp [hj]
 rw [e1,e2] at hle
 have hm:kyT (L.getD j (0,0,[]))∈L.map kyT:=mP_.mpr ⟨_,by simp [hj],rfl⟩
 rw [<- qcG hm]
 exact decide_eq_false (by omega)
theorem Bo.wle {x y:T3} (h:Bo x y):x.1<=y.1/\(x.1=y.1->y.2.1<=x.2.1):=by
 unfold Bo lt3 kyT at h
 dsimp only at h
 by_cases c:y.1=x.1
 ·refine ⟨by omega,fun _ => ?_⟩
  rw [if_pos c] at h
  by_cases d : -y.2.1 = -x.2.1
  ·omega
  ·rw [if_neg d] at h
   have:=of_decide_eq_false h
   omega
 ·rw [if_neg c] at h
  have:=of_decide_eq_false h
  exact ⟨by omega,fun e=>by omega⟩
structure Kp (P kept:List T3):Prop where
 sub:∀ x∈kept,x∈P
 dom:∀ x∈P,∃ y∈kept,y.1<=x.1/\x.2.1<=y.2.1
 top:∀ y,kept.getLast? = some y->∀ x∈P,x.2.1<=y.2.1
 rise:kept.Pairwise fun x y=>x.1<y.1/\x.2.1<y.2.1
theorem Kp.step {P kept:List T3} {x:T3} (h:Kp P kept) (hs:∀ y∈P,Bo y x):Kp (P++[x]) (vi kept x):=by
 unfold vi
 cases e:kept.getLast? with
 | none =>
  have hk:kept=[]:=List.getLast?_eq_none_iff.mp e
  have hP:P=[]:=by
   cases P with
   | nil=>rfl
   | cons p P =>
    obtain ⟨y,hy,_⟩:=h.dom p mS_
    rw [hk] at hy;cases hy
  subst hP
  refine ⟨fun y hy=>by simpa using hy,fun y hy=>⟨x,by simp,?_⟩,fun y hy z hz => ?_,by simp⟩
  ·have:y=x:=by simpa using hy
   subst this
   exact ⟨Int.le_refl _,Int.le_refl _⟩
  ·have a:x=y:=by simpa using hy
   have b:z=x:=by simpa using hz
   subst a b
   exact Int.le_refl _
 | some l =>
  have hl:l∈kept:=List.mem_of_getLast? e
  have hlP:=h.sub l hl
  have hb:=(hs l hlP).wle
  dsimp only
  by_cases c:l.2.1<x.2.1
  ·rw [if_pos c]
   refine ⟨fun y hy => ?_,fun y hy => ?_,fun y hy z hz => ?_,?_⟩
   ·rcases mA_.mp hy with hy | hy
    ·exact List.mem_append_left _ (h.sub y hy)
    ·exact mr_ _ hy
   ·rcases mA_.mp hy with hy | hy
    ·obtain ⟨z,hz,h1,h2⟩:=h.dom y hy
     exact ⟨z,List.mem_append_left _ hz,h1,h2⟩
    ·have:y=x:=by simpa using hy
     subst this
     exact ⟨y,by simp,Int.le_refl _,Int.le_refl _⟩
   ·have a:x=y:=by simpa using hy
    subst a
    rcases mA_.mp hz with hz | hz
    ·have:=h.top l e z hz
     omega
    ·have:z=x:=by simpa using hz
     subst this
     exact Int.le_refl _
   ·rw [List.pairwise_append]
    refine ⟨h.rise,by simp,fun y hy z hz => ?_⟩
    have a:z=x:=by simpa using hz
    subst a
    have h1:=h.top l e y (h.sub y hy)
    have h2:=(hs y (h.sub y hy)).wle
    have h3:y.2.1<z.2.1:=by omega
    refine ⟨?_,h3⟩
    rcases Int.lt_or_eq_of_le h2.1 with g | g
    ·exact g
    ·have:=h2.2 g
     omega
  ·rw [if_neg c]
   refine ⟨fun y hy=>List.mem_append_left _ (h.sub y hy),fun y hy => ?_,fun y hy z hz => ?_,h.rise⟩
   ·rcases mA_.mp hy with hy | hy
    ·exact h.dom y hy
    ·have:y=x:=by simpa using hy
     subst this
     exact ⟨l,hl,hb.1,by omega⟩
   ·rw [e] at hy
    cases hy
    rcases mA_.mp hz with hz | hz
    ·exact h.top _ e z hz
    ·have:z=x:=by simpa using hz
     subst this
     omega
theorem qgb:∀ (L P kept:List T3),(P++L).Pairwise Bo->Kp P kept->Kp (P++L) (L.foldl vi kept)
 | [],P,kept,_,h=>by rw [List.append_nil];exact h
 | x::L,P,kept,hs,h=>by
  rw [fo_]
  have e:P++x::L=(P++[x])++L:=by simp
  rw [e] at hs |-
  refine qgb L (P++[x]) _ hs (h.step fun y hy => ?_)
  have:=(List.pairwise_append.mp (List.pairwise_append.mp hs).1).2.2 y hy x (by simp)
  exact this
theorem qj1 (ks:List Kw):Kp (srt (jt ks)) (nbL ks):=by
 have:=qgb (srt (jt ks)) [] [] (by simpa using qaM (jt ks)) ⟨(fun x hx=>absurd hx nN_),(fun x hx=>absurd hx nN_),(fun y hy=>by simp at hy),List.Pairwise.nil⟩
 simpa [nbL] using this
theorem qgc {ks:List Kw} {x:T3} (h:x∈nbL ks):x∈jt ks:=(vj _).mem_iff.mp ((qj1 ks).sub x h)
theorem qiG {ks:List Kw} {x:T3} (h:x∈jt ks):∃ y∈nbL ks,y.1<=x.1/\x.2.1<=y.2.1:=(qj1 ks).dom x ((vj _).mem_iff.mpr h)
theorem qcT (ks:List Kw):(nbL ks).Pairwise fun x y=>x.1<y.1/\x.2.1<y.2.1:=(qj1 ks).rise
theorem qbl {ks:List Kw} {x:T3}:x∈jt ks ↔ ∃ l∈z6 ks,wg ks l=x:=mP_
def bb (one:T3) (S:List T3) (r:Int):Int:=one.2.1+qmu ((S.filter fun o=>decide (o.1<=r-one.1)).map fun o=>o.2.1)
section
variable {a b:List Kw} (ha:∀ k∈a,sgK k) (hb:∀ k∈b,sgK k) {r:Int} (hr:0<=r)
include ha hb hr
end
section
variable {a b:List Kw} (ha:∀ k∈a,sgK k) (hb:∀ k∈b,sgK k) {r:Int} (hr:0<=r)
include ha hb hr
end
end L2.Sk.Law
namespace L2.Sk.Law
theorem wY:∀ a b:List Int,HT.lexLt a b=false->HT.lexLt b a=false->a=b
 | [],[],_,_=>rfl
 | [],_::_,h,_=>by cases h
 | _::_,[],_,h=>by cases h
 | x::a,y::b,h1,h2=>by
  rw [HT.lexLt_cons] at h1 h2
  by_cases c:x=y
  ·subst c
   rw [if_pos rfl] at h1 h2
   rw [wY a b h1 h2]
  ·rw [if_neg c] at h1
   rw [if_neg fun z=>c z.symm] at h2
   have:=of_decide_eq_false h1
   have:=of_decide_eq_false h2
   omega
theorem qgd {x y:jp} (h1:lt3 x y=false) (h2:lt3 y x=false):x=y:=by
 obtain ⟨x1,x2,x3⟩:=x
 obtain ⟨y1,y2,y3⟩:=y
 unfold lt3 at h1 h2
 dsimp only at h1 h2
 by_cases c:x1=y1
 ·subst c
  rw [if_pos rfl] at h1 h2
  by_cases d:x2=y2
  ·subst d
   rw [if_pos rfl] at h1 h2
   rw [wY _ _ h1 h2]
  ·rw [if_neg d] at h1
   rw [if_neg fun z=>d z.symm] at h2
   have:=of_decide_eq_false h1
   have:=of_decide_eq_false h2
   omega
 ·rw [if_neg c] at h1
  rw [if_neg fun z=>c z.symm] at h2
  have:=of_decide_eq_false h1
  have:=of_decide_eq_false h2
  omega
theorem qcd:∀ {l m:List jp},l.Perm m->(l.Pairwise fun x y=>lt3 y x=false)->(m.Pairwise fun x y=>lt3 y x=false)->l=m
 | [],m,p,_,_=>by rw [List.nil_perm.mp p]
 | x::l,[],p,_,_=>by have:=p.length_eq;simp at this
 | x :: l,y::m,p,h1,h2=>by
  rw [List.pairwise_cons] at h1 h2
  have e:x=y:=by
   have hx:x∈y::m:=p.mem_iff.mp mS_
   have hy:y∈x::l:=p.mem_iff.mpr mS_
   rcases List.mem_cons.mp hx with e | hx
   ·exact e
   ·rcases List.mem_cons.mp hy with e | hy
    ·exact e.symm
    ·exact qgd (h2.1 x hx) (h1.1 y hy)
  subst e
  rw [qcd (List.perm_cons x |>.mp p) h1.2 h2.2]
def qkj (L:List T3):List T3:=(Srt.ord (qw L)).map fun i=>L.getD i (0,0,[])
theorem qge (L:List T3):(qkj L).Perm L:=by
 have h:=(Srt.ord_perm (qw L)).map fun i=>L.getD i ((0,0,[]):T3)
 rw [qL] at h
 have e:(List.range L.length).map (fun i=>L.getD i ((0,0,[]):T3))=L:=Srt.map_getD_range _ L
 rw [e] at h
 exact h
theorem qcU (L:List T3):(qkj L).Pairwise fun x y=>lt3 y x=false:=by
 unfold qkj
 rw [List.pairwise_map]
 have hp:=Srt.ord_perm (qw L)
 have hs:=Srt.ord_sorted (qw L)
 refine (List.pairwise_iff_forall_sublist.mpr fun {i j} hij => ?_)
 have hij':=(List.pairwise_iff_forall_sublist.mp hs) hij
 have hi:i<L.length:=by
  have:=hp.mem_iff.mp (hij.subset (mS_))
  rw [mR_,qL] at this
  exact this
 have hj:j<L.length:=by
  have:=hp.mem_iff.mp (hij.subset (mM _ mS_))
  rw [mR_,qL] at this
  exact this
 have hle:=hij'.le
 have e1:Srt.kk (qw L) i=wQ L (L.getD i (0,0,[])):=by unfold Srt.kk qw;simp [hi]
 have e2:Srt.kk (qw L) j=wQ L (L.getD j (0,0,[])):=by unfold Srt.kk qw;simp [hj]
 rw [e1,e2] at hle
 have hm:L.getD j (0,0,[])∈L:=by simp [hj]
 rw [<- qcG hm]
 exact decide_eq_false (by omega)
theorem qce:∀ ks:List Kw,(z6 ks).Pairwise fun l m=>HT.lexLt l m=true
 | []=>by simp [z6]
 | k::ks=>by
  simp only [z6]
  rw [List.pairwise_flatMap]
  refine ⟨fun t _ => ?_,?_⟩
  ·rw [List.pairwise_map]
   refine (qce ks).imp fun {l m} h => ?_
   rw [HT.lexLt_cons,if_pos rfl]
   exact h
  ·refine List.pairwise_lt_range.imp fun {t u} htu x hx y hy => ?_
   obtain ⟨l,_,rfl⟩:=mP_.mp hx
   obtain ⟨m,_,rfl⟩:=mP_.mp hy
   rw [HT.lexLt_cons,if_neg (by omega)]
   exact decide_eq_true (by omega)
theorem qeq (ks:List Kw):(jt ks).Nodup:=by
 unfold jt List.Nodup
 rw [List.pairwise_map]
 refine (qce ks).imp fun {l m} h e => ?_
 have:l=m:=(Prod.mk.inj (Prod.mk.inj e).2).2
 rw [this,qbc] at h
 cases h
def wrs (x y:T3):Bool:=decide (y.1<=x.1)&&(decide (x.2.1<=y.2.1)&&decide (y.2.2≠x.2.2))&&(decide (y.1<x.1)||(decide (x.2.1<y.2.1)||HT.lexLt y.2.2 x.2.2))
def uc (L:List T3) (x:T3):Bool:=L.any (wrs x)
theorem qaN:∀ (L P kept:List T3),(P++L).Pairwise Bo->Kp P kept->(∀ x∈kept,∀ y∈P,lt3 (kyT y) (kyT x)=true->y.2.1<x.2.1)->∀ x∈L.foldl vi kept,∀ y∈P++L,lt3 (kyT y) (kyT x)=true->y.2.1<x.2.1
 | [],P,kept,_,_,h=>by rw [List.append_nil];exact h
 | z :: L,P,kept,hs,hk,h=>by
  rw [fo_]
  have e:P++z::L=(P++[z])++L:=by simp
  rw [e] at hs |-
  have hb:∀ y∈P,Bo y z:=fun y hy=>(List.pairwise_append.mp (List.pairwise_append.mp hs).1).2.2 y hy z (by simp)
  refine qaN L (P++[z]) _ hs (hk.step hb) fun x hx y hy hlt => ?_
  have old:x∈kept->y.2.1<x.2.1:=fun hxk=>by
   rcases mA_.mp hy with hy | hy
   ·exact h x hxk y hy hlt
   ·have:y=z:=by simpa using hy
    subst this
    have:=hb x (hk.sub x hxk)
    unfold Bo at this
    rw [this] at hlt
    cases hlt
  unfold vi at hx
  cases el:kept.getLast? with
  | none =>
   rw [el] at hx
   have hx':x=z:=by simpa using hx
   have hk0:kept=[]:=List.getLast?_eq_none_iff.mp el
   have hP:P=[]:=by
    cases P with
    | nil=>rfl
    | cons p P =>
     obtain ⟨w,hw,_⟩:=hk.dom p mS_
     rw [hk0] at hw;cases hw
   subst hP
   have hy':y=z:=by simpa using hy
   rw [hx',hy',qcF] at hlt
   cases hlt
  | some l =>
   rw [el] at hx
   dsimp only at hx
   by_cases c:l.2.1<z.2.1
   ·rw [if_pos c] at hx
    rcases mA_.mp hx with hx | hx
    ·exact old hx
    ·have hx':x=z:=by simpa using hx
     subst hx'
     rcases mA_.mp hy with hy | hy
     ·have:=hk.top l el y hy
      omega
     ·have:y=x:=by simpa using hy
      rw [this,qcF] at hlt
      cases hlt
   ·rw [if_neg c] at hx
    exact old hx
theorem qdI {ks:List Kw} {x y:T3} (hx:x∈nbL ks) (hy:y∈jt ks) (h:lt3 (kyT y) (kyT x)=true):y.2.1<x.2.1:=by
 have:=qaN (srt (jt ks)) [] [] (by simpa using qaM (jt ks)) ⟨(fun x hx=>absurd hx nN_),(fun x hx=>absurd hx nN_),(fun y hy=>by simp at hy),List.Pairwise.nil⟩ (fun x hx=>absurd hx nN_) x hx y (by simpa using (vj _).mem_iff.mpr hy) h
 exact this
theorem ql5 {ks:List Kw} {x z:T3} (hx:x∈nbL ks) (hz:z∈nbL ks) (h1:z.1<=x.1) (h2:x.2.1<=z.2.1):z=x:=by
 obtain ⟨i,hi,rfl⟩:=List.getElem_of_mem hx
 obtain ⟨j,hj,rfl⟩:=List.getElem_of_mem hz
 have hr:=List.pairwise_iff_getElem.mp (qcT ks)
 rcases Nat.lt_trichotomy i j with h | h | h
 ·have:=hr i j hi hj h
  omega
 ·subst h;rfl
 ·have:=hr j i hj hi h
  omega
theorem qj2 {ks:List Kw} {x y:T3} (hx:x∈jt ks) (hy:y∈jt ks) (h:x.2.2=y.2.2):x=y:=by
 obtain ⟨l,_,rfl⟩:=qbl.mp hx
 obtain ⟨m,_,rfl⟩:=qbl.mp hy
 have:l=m:=h
 rw [this]
theorem ql6 {ks:List Kw} (x:T3):x∈nbL ks ↔ x∈(jt ks).filter fun x => !uc (jt ks) x:=by
 rw [List.mem_filter,Bool.not_eq_true']
 constructor
 ·intro hx
  refine ⟨qgc hx,?_⟩
  unfold uc
  rw [List.any_eq_false]
  intro y hy hw
  unfold wrs at hw
  simp only [Bool.and_eq_true,Bool.or_eq_true,decide_eq_true_eq] at hw
  obtain ⟨⟨w1,w2,w3⟩,w4⟩:=hw
  obtain ⟨z,hz,z1,z2⟩:=qiG hy
  have:=ql5 hx hz (by omega) (by omega)
  subst this
  have e1:y.1=z.1:=by omega
  have e2:y.2.1=z.2.1:=by omega
  have hl:HT.lexLt y.2.2 z.2.2=true:=by
   rcases w4 with w | w | w
   ·omega
   ·omega
   ·exact w
  have:=qdI hz hy (by
   unfold lt3 kyT
   dsimp only
   rw [if_pos e1,if_pos (by omega)]
   exact hl)
  omega
 ·rintro ⟨hx,hw⟩
  obtain ⟨z,hz,z1,z2⟩:=qiG hx
  by_cases c:z=x
  ·rw [<- c];exact hz
  ·exfalso
   have hzA:=qgc hz
   have nl:z.2.2≠x.2.2:=fun e=>c (qj2 hzA hx e)
   unfold uc at hw
   rw [List.any_eq_false] at hw
   have nw:=hw z hzA
   unfold wrs at nw
   simp only [Bool.and_eq_true,Bool.or_eq_true,decide_eq_true_eq,not_and,not_or] at nw
   obtain ⟨n1,n2,n3⟩:=nw ⟨z1,z2,nl⟩
   have e1:x.1=z.1:=by omega
   have e2:x.2.1=z.2.1:=by omega
   have hl:HT.lexLt x.2.2 z.2.2=true:=by
    cases q:HT.lexLt x.2.2 z.2.2 with
    | true=>rfl
    | false=>exact absurd (wY _ _ (by simpa using n3) q) nl
   have:=qdI hz hx (by
    unfold lt3 kyT
    dsimp only
    rw [if_pos e1,if_pos (by omega)]
    exact hl)
   omega
theorem ql7 (ks:List Kw):qkj ((jt ks).filter fun x => !uc (jt ks) x)=nbL ks:=by
 have nd:(nbL ks).Nodup:=(qcT ks).imp fun {x y} h e=>by rw [e] at h;omega
 have nf:((jt ks).filter fun x => !uc (jt ks) x).Nodup:=(qeq ks).sublist List.filter_sublist
 have p:(nbL ks).Perm ((jt ks).filter fun x => !uc (jt ks) x):=(List.perm_ext_iff_of_nodup nd nf).mpr fun x=>ql6 x
 refine qcd ((qge _).trans p.symm) (qcU _) ((qcT ks).imp fun {x y} h => ?_)
 unfold lt3
 rw [if_neg (by omega)]
 exact decide_eq_false (by omega)
end L2.Sk.Law
namespace L2.Sk
namespace Law
open PySem PySem.Spec PyProof.Rows
set_option maxHeartbeats 4000000
theorem qnU {t u:M Bool} {U:Env} (h1:t U = .ok (false,U)) (h2:u U = .ok (false,U)):tor t u U = .ok (false,U):=by rw [qfr,h1];exact h2
theorem qos {t u:M Bool} {U:Env} (h1:t U = .ok (true,U)):tor t u U = .ok (true,U):=by rw [qfr,h1];rfl
theorem qdJ {F:List D->R D} {f g h:M D} {U:Env} {a b c d:D} (hf:f U = .ok (a,U)) (hg:g U = .ok (b,U)) (hh:h U = .ok (c,U)) (e:F [a,b,c] = .ok d):qp F (qa f (qa g (qa h (ret [])))) U = .ok (d,U):=qnh hf hg hh e
theorem qdK (xs:List D) (j:Nat) (h:j<=xs.length):qey xs none (some (j:Int))=xs.take j:=by
 unfold qey
 rw [HT.sIx_none,HT.sIx_nat,Nat.min_eq_left h]
 simp
theorem qdL (xs:List D) (j:Nat) (h:j<=xs.length):qey xs (some (j:Int)) none=xs.drop j:=by
 unfold qey
 rw [HT.sIx_none,HT.sIx_nat,Nat.min_eq_left h]
 exact List.take_of_length_le (by simp)
theorem qdM {i:Nat} {f:M D} {U U1:Env} {d:D} (h:f U = .ok (d,U1)):zM i f U = .ok (.nx (U1.set i (some d))):=by rw [wL,h]
theorem vm {f:M D} {U U1:Env} {d:D} (h:f U = .ok (d,U1)):yz f U = .ok (.rt d U1):=by rw [qaA,h]
theorem qcf {b:MS} {i:Nat} {U:Env} (hi:i<U.length):∀ (ds:List D) (o:Option D),(∀ d∈ds,b (U.set i (some d)) = .ok (.nx (U.set i (some d))))->∃ o',yx (ql i) b ds (U.set i o) = .ok (.nx (U.set i o'))
 | [],o,_=>⟨o,rfl⟩
 | d::ds,o,h=>by
  obtain ⟨o',q⟩:=qcf hi ds (some d) fun x hx=>h x (mM _ hx)
  refine ⟨o',?_⟩
  unfold yx
  have e:ql i d (U.set i o)=some (U.set i (some d)):=by
   show some ((U.set i o).set i (some d))=_
   rw [List.set_set]
  rw [e]
  simp only [h d mS_]
  exact q
def top (i:Nat):Stmt:=PySem.Challenge.pw_sackloads_k16_loads_not_beaten.main.body.getD i (.Pass ⟨0,0,0,0⟩)
abbrev zT:Stmt:=top 41
abbrev zv:Stmt:=top 26
abbrev ja:Stmt:=top 24
abbrev qQ:Stmt:=top 18
abbrev zy:Stmt:=top 25
abbrev jc:Stmt:=top 27
abbrev zY:Stmt:=top 23
abbrev jd:Stmt:=top 22
abbrev zg:Stmt:=top 21
abbrev jW:Stmt:=top 13
abbrev jX:Stmt:=top 14
abbrev yE:Stmt:=top 15
abbrev ju:Stmt:=top 16
abbrev zU:Stmt:=top 17
abbrev zV:Stmt:=top 28
abbrev jv:Stmt:=top 42
abbrev zZ:Stmt:=top 39
abbrev qK:Stmt:=top 38
abbrev jY:Stmt:=top 37
abbrev qN:Stmt:=top 40
abbrev jw:Stmt:=top 33
abbrev zJ:Stmt:=top 34
abbrev zK:Stmt:=top 35
abbrev qP:Stmt:=top 36
abbrev jZ:Stmt:=top 31
abbrev jx:Stmt:=top 30
abbrev j4:Stmt:=top 32
abbrev qah:Stmt:=top 43
structure Txt (K:PySem.W.Frag) (mg:Str->Option Value):Prop where
 b_ValueError:mg "ValueError"=none
 b_abs:mg "abs"=none
 b_all:mg "all"=none
 b_bool:mg "bool"=none
 b_divmod:mg "divmod"=none
 b_int:mg "int"=none
 b_isinstance:mg "isinstance"=none
 b_len:mg "len"=none
 b_max:mg "max"=none
 b_min:mg "min"=none
 b_range:mg "range"=none
 b_repr:mg "repr"=none
 b_sorted:mg "sorted"=none
 b_sum:mg "sum"=none
 b_tuple:mg "tuple"=none
 b_zip:mg "zip"=none
 c_KINDS_AT_MOST:∃ t,mg "KINDS_AT_MOST"=some (.int 12 t)
 c_LOAD:∃ t,mg "LOAD"=some (.int 2 t)
 c_MOST:∃ t,mg "MOST"=some (.int 2 t)
 c_WEIGHT:∃ t,mg "WEIGHT"=some (.int 0 t)
 c_WORTH:∃ t,mg "WORTH"=some (.int 1 t)
def RN:List Str:=["NotSingle","NoStore"]
def TN:List Str:=["SackError","NoText","NotSingle","TooMany","NoLoad","NoNumber","NoStore"]
noncomputable def yq:MS :=
  (qZ (sif (tor (qd3 (tst (qei RN "SackError" (dv 0)))) (qd3 (tst (qei RN "ValueError" (dv 0))))) (yz (ret (.str "other"))) yC)
  (qZ (zM 1 (y7 (qa (qei RN "NoStore" (dv 0)) (qa (qei RN "NoNumber" (dv 0)) (qa (qei RN "NoLoad" (dv 0)) (qa (qei RN "TooMany" (dv 0)) (ret [])))))))
  (qZ (zM 1 (d2 zB (dv 1) (y7 (qa (qei RN "NotSingle" (dv 0)) (qa (qei RN "NoText" (dv 0)) (ret []))))))
  (qZ (sif (tst (d2 neS (qfD qdl (dv 1) (qa (ret (.bl true)) (ret []))) (ret (.int 1)))) (yz (ret (.str "other"))) yC)
  (yz (d2 ixD (y7 (qa (ret (.str "store")) (qa (ret (.str "number")) (qa (ret (.str "load")) (qa (ret (.str "many")) (qa (ret (.str "single")) (qa (ret (.str "text")) (ret [])))))))) (qfD qdm (dv 1) (qa (ret (.bl true)) (ret [])))))))))
noncomputable def yr:List D->R D:=dfn 2 1 yq
noncomputable def yi:MS :=
  (yz (zL (qa (d2 ixD (dv 0) (ret (.int 0))) (qa (d1 qeA (d2 ixD (dv 0) (ret (.int 1)))) (qa (d2 ixD (dv 0) (ret (.int 2))) (ret []))))))
noncomputable def zw:List D->R D:=dfn 1 1 yi
noncomputable def uO:MS :=
  (qZ (zM 1 (y7 (qa (zL (ret [])) (ret []))))
  (qZ (vw (yF (dv 0)) (ql 2) (qZ (uX 3 (qg1 (ret [])))
  (qZ (vw (yF (dv 1)) (ql 4) (jI (ui 3 (zX 1 [4] none (js (qa (d2 zB (d2 ixD (dv 2) (ret (.int 2))) (ret (.int 1))) (ret []))) (ql 0) (ret true) (d2 zB (dv 1) (zL (qa (dv 0) (ret []))))))))
  (qho 1 3))))
  (yz (dv 1))))
noncomputable def yj:List D->R D:=dfn 5 1 uO
noncomputable def jM:MS :=
  (yz (qJ qlb (qa (zX 2 [2] none (qlq (qa (dv 0) (qa (dv 1) (ret [])))) (qaY 2 (zo (ql 0) (zo (ql 1) qaX))) (ret true) (d2 y9 (d2 ixD (dv 0) (dv 2)) (dv 1))) (ret []))))
noncomputable def qR:List D->R D:=dfn 3 3 jM
noncomputable def yN:MS :=
  (yz (zX 1 [0] none (yF (qp yj (qa (dv 0) (ret [])))) (ql 0) (ret true) (zL (qa (qp qR (qa (dv 1) (qa (dv 0) (qa (ret (.int 0)) (ret []))))) (qa (qp qR (qa (dv 1) (qa (dv 0) (qa (ret (.int 1)) (ret []))))) (qa (dv 0) (ret [])))))))
noncomputable def jn:List D->R D:=dfn 1 1 yN
noncomputable def uo:MS :=
  (qZ (uX 1 (qg1 (ret [])))
  (qZ (vw (yF (qb3 zw (qp jn (qa (dv 0) (ret []))))) (ql 2) (sif (tor (qa8 (tst (d2 eqB (dv 1) (y7 (ret []))))) (tst (d2 gtD (d2 ixD (dv 2) (ret (.int 1))) (d2 ixD (qcy 1 (d1 qeA (ret (.int 1)))) (ret (.int 1)))))) (jI (zS 1 (dv 2))) yC))
  (qjk 1)))
noncomputable def jG:List D->R D:=dfn 3 1 uo
noncomputable def yO:MS :=
  (yz (qfL (dv 0) (uI (d2 yn (qJ qat (qa (dv 0) (ret []))) (ret (.int 2)))) (ret none)))
noncomputable def jS:List D->R D:=dfn 1 1 yO
noncomputable def uq:MS :=
  (yz (qfL (dv 0) (ret none) (uI (d2 yn (qJ qat (qa (dv 0) (ret []))) (ret (.int 2))))))
noncomputable def yt:List D->R D:=dfn 1 1 uq
noncomputable def zA:MS :=
  (sif (qd3 (tst (qJ qex (qa (zX 1 [] none (yF (dv 0)) (ql 0) (ret true) (d2 inB (d2 ixD (dv 0) (ret (.int 2))) (zL (qa (ret (.int 0)) (qa (ret (.int 1)) (ret [])))))) (ret []))))) (qb0 "NotSingle" (qa (ret (.str "some kind is there more often than once")) (ret []))) yC)
noncomputable def jo:List D->R D:=qcC 1 1 zA
noncomputable def vJ:MS :=
  (yz (qke (qje "int" (dv 0)) (qmr (qje "bool" (dv 0)))))
noncomputable def ux:List D->R D:=dfn 1 1 vJ
noncomputable def vK:MS :=
  (yz (qke (qp ux (qa (dv 0) (ret []))) (d2 geD (dv 0) (ret (.int 0)))))
noncomputable def j6:List D->R D:=dfn 1 1 vK
noncomputable def wZ:MS :=
  (qZ (sif (tor (qd3 (tst (qje "tuple" (dv 0)))) (tst (d2 neB (qJ qat (qa (dv 0) (ret []))) (ret (.int 3))))) (yz (ret (.bl false))) yC)
  (qZ (sif (tor (qd3 (tst (qp j6 (qa (d2 ixD (dv 0) (ret (.int 0))) (ret []))))) (tst (d2 eqB (d2 ixD (dv 0) (ret (.int 0))) (ret (.int 0))))) (yz (ret (.bl false))) yC)
  (yz (qke (qp j6 (qa (d2 ixD (dv 0) (ret (.int 1))) (ret []))) (dor (d2 isN (d2 ixD (dv 0) (ret (.int 2))) (ret .non)) (qp j6 (qa (d2 ixD (dv 0) (ret (.int 2))) (ret []))))))))
noncomputable def ur:List D->R D:=dfn 1 1 wZ
noncomputable def vL:MS :=
  (qZ (sif (tor (qd3 (tst (qje "tuple" (dv 0)))) (tst (d2 gtD (qJ qat (qa (dv 0) (ret []))) (ret (.int 12))))) (yz (ret (.bl false))) yC)
  (yz (qJ qex (qa (zX 1 [] none (yF (dv 0)) (ql 0) (ret true) (qp ur (qa (dv 0) (ret [])))) (ret [])))))
noncomputable def uy:List D->R D:=dfn 1 1 vL
noncomputable def yu:MS :=
  (sif (qd3 (tst (qp uy (qa (dv 0) (ret []))))) (qb0 "NoStore" (qa (ret (.str "this is no store")) (ret []))) yC)
noncomputable def yw:List D->R D:=qcC 1 1 yu
noncomputable def jH:MS :=
  (qZ (jI (u7 RN yw (qa (dv 0) (ret []))))
  (qZ (jI (u7 RN jo (qa (dv 0) (ret []))))
  (yz (zL (qa (qp jG (qa (qp yt (qa (dv 0) (ret []))) (ret []))) (qa (qp jG (qa (qp jS (qa (dv 0) (ret []))) (ret []))) (ret [])))))))
noncomputable def je:List D->R D:=qcC 1 1 jH
noncomputable def yP:MS :=
  (qfH RN (yz (u7 RN je (qa (dv 0) (ret [])))) yr)
noncomputable def qq:List D->R D:=dfn 2 1 yP
noncomputable def yQ:MS :=
  (qZ (zM 1 (d2 yn (qJ qat (qa (dv 0) (ret []))) (ret (.int 2))))
  (yz (zL (qa (qfL (dv 0) (ret none) (uI (dv 1))) (qa (qfL (dv 0) (uI (dv 1)) (ret none)) (ret []))))))
noncomputable def zh:List D->R D:=dfn 2 1 yQ
noncomputable def jN:MS :=
  (qZ (zM 2 (y7 (qa (zL (qa (zL (ret [])) (qa (dv 1) (ret [])))) (ret []))))
  (qZ (vw (yF (dv 0)) (qaY 3 (zo (ql 3) (zo (ql 4) (zo (ql 5) qaX)))) (qZ (zM 6 (y7 (ret [])))
  (qZ (vw (yF (dv 2)) (qaY 2 (zo (ql 7) (zo (ql 8) qaX))) (qZ (zM 9 (d2 yn (dv 8) (dv 3)))
  (qZ (sif (tst (d2 qgO (dv 5) (ret .non))) (zM 9 (qJ uG (qa (dv 9) (qa (dv 5) (ret []))))) yC)
  (zM 6 (d2 zB (dv 6) (zX 1 [7,8,3] none (js (qa (d2 zB (dv 9) (ret (.int 1))) (ret []))) (ql 0) (ret true) (zL (qa (d2 zB (dv 1) (zL (qa (dv 0) (ret [])))) (qa (d2 qgM (dv 2) (d2 y9 (dv 0) (dv 3))) (ret []))))))))))
  (zM 2 (dv 6)))))
  (yz (zX 2 [] none (yF (dv 2)) (qaY 2 (zo (ql 0) (zo (ql 1) qaX))) (ret true) (dv 0)))))
noncomputable def zH:List D->R D:=dfn 10 2 jN
noncomputable def vM:MS :=
  (qZ (zM 3 (ret (.int 0)))
  (qZ (vw (js (qa (qJ qat (qa (dv 0) (ret []))) (ret []))) (ql 4) (zM 3 (d2 zB (dv 3) (d2 y9 (d2 ixD (d2 ixD (dv 0) (dv 4)) (dv 2)) (d2 ixD (dv 1) (dv 4))))))
  (yz (dv 3))))
noncomputable def z5:List D->R D:=dfn 5 3 vM
noncomputable def yk:MS :=
  (qZ (zM 1 (zX 1 [0] none (yF (qp zH (qa (dv 0) (qa (d2 qfj (ret (.int 10)) (ret (.int 60))) (ret []))))) (ql 0) (ret true) (zL (qa (qp z5 (qa (dv 1) (qa (dv 0) (qa (ret (.int 0)) (ret []))))) (qa (qp z5 (qa (dv 1) (qa (dv 0) (qa (ret (.int 1)) (ret []))))) (qa (dv 0) (ret [])))))))
  (qZ (uX 2 (qg1 (ret [])))
  (qZ (vw (yF (dv 1)) (qaY 3 (zo (ql 3) (zo (ql 4) (zo (ql 5) qaX)))) (qZ (zM 6 (ret (.bl false)))
  (qZ (vw (yF (dv 1)) (ql 7) (sif (qar (tst (d2 leD (d2 ixD (dv 7) (ret (.int 0))) (dv 3))) (qar (tst (d2 geD (d2 ixD (dv 7) (ret (.int 1))) (dv 4))) (tst (d2 neB (d2 ixD (dv 7) (ret (.int 2))) (dv 5))))) (zM 6 (dor (dv 6) (dor (d2 ltB (d2 ixD (dv 7) (ret (.int 0))) (dv 3)) (dor (d2 gtD (d2 ixD (dv 7) (ret (.int 1))) (dv 4)) (d2 ltB (d2 ixD (dv 7) (ret (.int 2))) (dv 5)))))) yC))
  (sif (qd3 (tst (dv 6))) (jI (zS 2 (zL (qa (dv 3) (qa (dv 4) (qa (dv 5) (ret []))))))) yC))))
  (yz (qkh (qb7 2))))))
noncomputable def qO:List D->R D:=dfn 8 1 yk
noncomputable def yR:MS :=
  (qZ (qms (qJ wA (qa (qcy 0 (ret (.int 0))) (qa (dv 1) (ret [])))) (qaY 2 (zo (ql 2) (zo (ql 3) qaX))))
  (qZ (qgZ 0 (ret (.int 0)) (dv 2))
  (yz (dv 3))))
noncomputable def qf:List D->List D->R (D×List D):=vA 4 2 yR
noncomputable def jB:MS :=
  (qZ (zM 2 (qo qf 0 (qa (ret (.int 6)) (ret []))))
  (qZ (qjv 3 4 (qa (d2 zB (ret (.int 1)) (qo qf 0 (qa (ret (.int 7)) (ret [])))) (qa (qo qf 0 (qa (ret (.int 10)) (ret []))) (ret []))))
  (qZ (sif (tst (d2 eqB (dv 2) (ret (.int 1)))) (zM 4 (d2 y9 (ret (.int 2)) (dv 3))) yC)
  (qZ (sif (tst (d2 eqB (dv 2) (ret (.int 2)))) (zM 4 (d2 zB (dv 3) (qo qf 0 (qa (ret (.int 3)) (ret []))))) yC)
  (qZ (sif (tst (d2 eqB (dv 2) (ret (.int 3)))) (qjv 3 4 (qa (d2 zB (ret (.int 1)) (qo qf 0 (qa (ret (.int 25)) (ret [])))) (qa (qo qf 0 (qa (ret (.int 40)) (ret []))) (ret [])))) yC)
  (qZ (zM 5 (d2 ixD (y7 (qa (ret (.int 1)) (qa (ret (.int 1)) (qa (ret (.int 1)) (qa (ret (.int 2)) (qa (ret (.int 3)) (qa (ret (.int 0)) (qa (ret (.int 5)) (qa (dv 1) (ret [])))))))))) (qo qf 0 (qa (ret (.int 8)) (ret [])))))
  (yz (zL (qa (dv 3) (qa (dv 4) (qa (dv 5) (ret []))))))))))))
noncomputable def zj:List D->List D->R (D×List D):=vA 6 2 jB
noncomputable def jC:MS :=
  (qZ (uX 3 (qg1 (ret [])))
  (qZ (vw (js (qa (qo qf 0 (qa (d2 zB (dv 1) (ret (.int 1))) (ret []))) (ret []))) (ql 4) (qZ (zM 5 (qo zj 0 (qa (dv 2) (ret []))))
  (qZ (sif (qar (tst (qh9 3 (y7 (ret [])))) (tst (d2 eqB (qo qf 0 (qa (ret (.int 7)) (ret []))) (ret (.int 6))))) (zM 5 (qcy 3 (qo qf 0 (qa (qbR 3) (ret []))))) yC)
  (jI (zS 3 (dv 5))))))
  (yz (qd9 3))))
noncomputable def z7:List D->List D->R (D×List D):=vA 6 3 jC
noncomputable def zN:MS :=
  (qZ (uX 3 (qg1 (ret [])))
  (qZ (vw (yF (qo z7 0 (qa (dv 1) (qa (ret (.int 1)) (ret []))))) (qaY 3 (zo (ql 4) (zo (ql 5) (zo (ql 6) qaX)))) (jI (zS 3 (zL (qa (d2 zB (d2 y9 (dv 4) (dv 2)) (qo qf 0 (qa (dv 2) (ret [])))) (qa (d2 zB (d2 y9 (dv 5) (dv 2)) (qo qf 0 (qa (dv 2) (ret [])))) (qa (qJ uG (qa (dv 6) (qa (ret (.int 1)) (ret [])))) (ret []))))))))
  (yz (qd9 3))))
noncomputable def qI:List D->List D->R (D×List D):=vA 7 3 zN
noncomputable def vN:MS :=
  (qZ (zM 2 (y7 (qa (ret (.int 48271)) (qa (ret (.int 69621)) (qa (ret (.int 16807)) (qa (ret (.int 39373)) (qa (ret (.int 30269)) (qa (ret (.int 40014)) (qa (ret (.int 40692)) (qa (ret (.int 50021)) (qa (ret (.int 61687)) (qa (ret (.int 71993)) (qa (ret (.int 83869)) (qa (ret (.int 95561)) (qa (ret (.int 30307)) (ret []))))))))))))))))
  (qZ (zM 3 (d2 zB (d2 zB (d2 y9 (d2 zB (d2 qhZ (dv 0) (ret (.int 2147483647))) (ret (.int 12345))) (d2 ixD (dv 2) (d2 qhZ (dv 1) (ret (.int 13))))) (d2 y9 (ret (.int 977)) (dv 1))) (d2 y9 (ret (.int 7919)) (d2 yn (dv 1) (ret (.int 13))))))
  (qZ (zM 3 (d2 qhZ (dv 3) (ret (.int 1000000007))))
  (yz (d2 yn (d2 qhZ (d2 zB (d2 y9 (dv 3) (dv 3)) (d2 y9 (ret (.int 48271)) (dv 1))) (ret (.int 1000000007))) (ret (.int 7)))))))
noncomputable def j7:List D->R D:=dfn 4 2 vN
noncomputable def yS:MS :=
  (qZ (sif (tst (d2 ltD (dv 1) (qJ qat (qa (dv 0) (ret []))))) (yz (d2 ixD (dv 0) (dv 1))) yC)
  (yz (ret (.int 0))))
noncomputable def jy:List D->R D:=dfn 2 2 yS
noncomputable def uz:MS :=
  (qZ (zM 2 (qp jy (qa (dv 0) (qa (dv 1) (ret [])))))
  (qZ (sif (tst (d2 eqB (d2 qhZ (dv 2) (ret (.int 2))) (ret (.int 0)))) (yz (y7 (qa (d2 yn (qJ qmt (qa (dv 2) (ret []))) (ret (.int 2))) (ret [])))) yC)
  (qZ (zM 3 (ret (.int 0)))
  (qZ (vw (js (qa (ret (.int 40)) (ret []))) (ql 4) (zM 3 (d2 zB (d2 y9 (dv 3) (ret (.int 142857143))) (qp j7 (qa (dv 2) (qa (dv 4) (ret [])))))))
  (yz (y7 (qa (dv 3) (ret []))))))))
noncomputable def jf:List D->R D:=dfn 5 2 uz
noncomputable def qj3:MS :=
  (qZ (vw (js (qa (qJ qja (qa (ret (.int 1)) (qa (qJ uG (qa (qJ qat (qa (dv 0) (ret []))) (qa (ret (.int 4)) (ret [])))) (ret [])))) (ret []))) (ql 1) (qZ (uX 2 (qbU jf (qa (dv 0) (qa (dv 1) (ret [])))))
  (qZ (zM 3 (qo qI 2 (qa (d2 ixD (y7 (qa (ret (.int 10)) (qa (ret (.int 7)) (qa (ret (.int 7)) (qa (ret (.int 7)) (ret [])))))) (dv 1)) (qa (d2 ixD (y7 (qa (ret (.int 1)) (qa (ret (.int 1)) (qa (d2 qfj (ret (.int 10)) (ret (.int 20))) (ret []))))) (qo qf 2 (qa (ret (.int 3)) (ret [])))) (ret [])))))
  (qZ (zM 4 (qJ wB (qa (zX 1 [] none (yF (qp zh (qa (dv 3) (ret [])))) (ql 0) (ret true) (qp qO (qa (dv 0) (ret [])))) (ret []))))
  (qZ (vw (js (qa (ret (.int 2)) (ret []))) (ql 5) (ve 6 [2] qq (qa (dv 3) (ret [])) (tst (d2 neB (qJ uA (qa (dv 6) (ret []))) (qJ uA (qa (dv 4) (ret [])))))))
  (vw (yF (y7 (qa (zL (qa (ret (.int 1)) (qa (ret (.int 1)) (qa (ret (.int 2)) (ret []))))) (qa (zL (qa (ret (.int 1)) (qa (ret (.int 1)) (qa (ret .non) (ret []))))) (qa (zL (qa (ret (.int 1)) (qa (ret (.int 0)) (qa (ret (.int 3)) (ret []))))) (ret [])))))) (ql 7) (sif (tor (tst (d2 neB (qp qq (qa (d2 zB (dv 3) (zL (qa (dv 7) (ret [])))) (ret []))) (ret (.str "single")))) (tst (d2 neB (qp qq (qa (d2 zB (zL (qa (dv 7) (ret []))) (dv 3)) (ret []))) (ret (.str "single"))))) (yz (ret (.bl false))) yC)))))))
  (yz (ret (.bl true))))
noncomputable def qcV:List D->R D:=dfn 8 1 qj3
local macro_rules | `(tactic| push_cast [$xs,*]) => `(tactic| simp only [jJ, qbW, qnG, yy, wJ, qfp, qid, qm1, qm2, wK, u5, qie, qjA, vT, qbX, qfq, qfr, qif, qjB, qig, qlz, qg8, qaA, wL, qfs, uK, qii, qij, qik, jQ, qaB, qft, qfu, qbY, qfv, qfw, qfx, qfy, qfz, qil, u6, qlA, wM, lC_, lN_, mC_, List.map_nil, List.replicate, List.nil_append, List.cons_append, List.append_nil, List.getElem?_cons_zero, List.getElem?_cons_succ, List.set_cons_zero, List.set_cons_succ, Nat.reduceAdd, Nat.reduceSub, Nat.sub_self, Nat.zero_add, reduceIte, Bool.not_true, Bool.not_false, Bool.false_eq_true, if_true, if_false, ite_true, ite_false, cond_true, cond_false, decide_true, decide_false, ix0, ix1, ix2, wS, jR, qcK, qbd, qfZ, qcL, vG, qf0, qcM, qiA, qiB, va, qdp, qdq, qit, qfK, qfA, $xs,*])
theorem qbm (d:D):ux [d] = .ok (.bl (qjV d)):=by
 unfold ux vJ
 refine v6 rfl ⟨[some d],?_⟩
 push_cast []
 cases d<;>rfl
theorem yT (d:D):j6 [d] = .ok (.bl (yJ d)):=by
 unfold j6 vK
 refine v6 rfl ⟨[some d],?_⟩
 push_cast []
 rw [qbm]
 cases d<;>rfl
theorem qcg (d:D):ur [d] = .ok (.bl (uB d)):=by
 unfold ur wZ
 refine v6 rfl ⟨[some d],?_⟩
 cases d with
 | tup ds =>
  by_cases h:ds.length=3
  ·obtain ⟨a,b,c,rfl⟩:=qoo h
   refine (qu (U':=[some (.tup [a,b,c])]) rfl).trans ?_
   by_cases hp:qf1 a=true
   ·refine (qu (U':=[some (.tup [a,b,c])]) ?_).trans ?_
    ·cases a with
     | int i =>
      have h2:0<i:=of_decide_eq_true hp
      have h0:0<=i:=by omega
      have h1:¬ i=0:=by omega
      push_cast [ix0,yT,yJ,qbd,vT,h0,h1,decide_true,decide_false]
     | _=>exact absurd hp (by simp [qf1])
    ·push_cast [ix1,ix2,yT,qfZ,uB,hp,vT,Bool.true_and]
     cases hb:yJ b<;>cases hc:y8 c<;>rfl
   ·refine (qb8 (d := .bl false) (U':=[some (.tup [a,b,c])]) ?_).trans ?_
    ·cases a with
     | int i =>
      have h2:¬ 0<i:=fun z=>hp (decide_eq_true z)
      push_cast [ix0,yT,yJ,qbd,vT]
      by_cases h0:0<=i
      ·have h1:i=0:=by omega
       subst h1;rfl
      ·simp only [h0,decide_false]
       rfl
     | _=>rfl
    ·have hp':qf1 a=false:=by simpa using hp
     simp only [uB,hp',Bool.false_and]
  ·refine (qb8 (d := .bl false) (U':=[some (.tup ds)]) ?_).trans ?_
   ·push_cast []
    have h3:¬ ((ds.length:Int)=3):=by omega
    simp only [wS,jR,qcK,h3,decide_false,vT]
    rfl
   ·rw [qem h]
 | _=>rfl
theorem qbn (d:D):uy [d] = .ok (.bl (yK d)):=by
 unfold uy vL
 refine v6 rfl ⟨[some d],?_⟩
 cases d with
 | tup ds =>
  by_cases h:ds.length<=12
  ·have h2:¬ ((12:Int)<(ds.length:Int)):=by omega
   refine (qu (U':=[some (.tup ds)]) ?_).trans ?_
   ·push_cast [wS,jR,vG,h2,decide_false,vT]
   ·rw [qaA,qjW (F:=ur) (f:=uB) (xs:=yF (dv 0)) (ds:=ds) (U:=[some (.tup ds)]) rfl (fun d _=>qcg d) (by omega)]
    simp only [yK,h,decide_true,Bool.true_and]
  ·have h2:((12:Int)<(ds.length:Int)):=by omega
   refine (qb8 (d := .bl false) (U':=[some (.tup ds)]) ?_).trans ?_
   ·push_cast [wS,jR,vG,h2,decide_true,vT]
   ·simp only [yK,h,decide_false,Bool.false_and]
 | _=>rfl
theorem sm1:qM 1=true:=zt (by omega)
theorem vn (d:D) (h:yK d=true):yw [d] = .ok .non:=by
 unfold yw
 refine qiu rfl ⟨[some d],?_⟩
 unfold yu
 push_cast [qbn,h]
theorem ql8 {p:MS} {F:List D->R D} {U U':Env} {d:D} (h:p U = .ok (.rt d U')):qfH RN p F U = .ok (.rt d U'):=by rw [qis,h]
theorem qnl {p:MS} {F:List D->R D} {U U':Env} {d v:D} {n:Str} (h:p U = .exc ⟨n,v⟩ U') (hn:RN.contains n=true) (hF:F [.exc n] = .ok d):qfH RN p F U = .ok (.rt d U'):=by
 rw [qis,h]
 simp only [hn,if_true,hF]
theorem jz {n m:Int} (h0:0<m) (h1:m<1606938044258990275541962092341162602522202993782792835301376):qf [.int n] [.int m] = .ok (.int (n%m),[.int (n/m)]):=by
 unfold qf
 refine qde (U:=[some (.lst [.int (n/m)]),some (.int m),some (.int (n/m)),some (.int (n%m))]) rfl ?_ rfl
 unfold yR
 refine (qu (U':=[some (.lst [.int n]),some (.int m),some (.int (n/m)),some (.int (n%m))]) ?_).trans ?_
 ·push_cast [at0,qf2 h0 h1,qaY,zo,ql,qaX,Option.bind_some]
 ·refine (qu (U':=[some (.lst [.int (n/m)]),some (.int m),some (.int (n/m)),some (.int (n%m))]) ?_).trans rfl
  push_cast [qop,imm]
theorem qer (n:Int) (c:D):∃ a b m n',zj [.int n] [c] = .ok (.tup [.int a,.int b,m],[.int n'])/\1<=a/\a<=25/\0<=b/\b<=39/\qhx c m:=by
 have s2:∀ n k:Int,∃ n' a b,(qjv 3 4 (qa (d2 zB (ret (.int 1)) (qo qf 0 (qa (ret (.int 7)) (ret [])))) (qa (qo qf 0 (qa (ret (.int 10)) (ret []))) (ret [])))) [some (.lst [.int n]),some c,some (.int k),none,none,none] = .ok (.nx [some (.lst [.int n']),some c,some (.int k),some (.int a),some (.int b),none])/\1<=a/\a<=7/\0<=b/\b<=9:=by
  intro n k
  refine ⟨n/7/10,1+n%7,n/7%10,?_,by omega,by omega,by omega,by omega⟩
  push_cast [jz (m:=7) (by decide) (by decide),jz (m:=10) (by decide) (by decide),jk]
 have s3:∀ n k a b:Int,1<=a->a<=7->0<=b->b<=9->∃ b',(sif (tst (d2 eqB (dv 2) (ret (.int 1)))) (zM 4 (d2 y9 (ret (.int 2)) (dv 3))) yC) [some (.lst [.int n]),some c,some (.int k),some (.int a),some (.int b),none] = .ok (.nx [some (.lst [.int n]),some c,some (.int k),some (.int a),some (.int b'),none])/\0<=b'/\b'<=14:=by
  intro n k a b h1 h2 h3 h4
  by_cases hk:k=1
  ·refine ⟨2*a,?_,by omega,by omega⟩
   push_cast [hk,qoq]
  ·refine ⟨b,?_,by omega,by omega⟩
   push_cast [hk]
 have s4:∀ n k a b:Int,1<=a->a<=7->0<=b->b<=14->∃ n' b',(sif (tst (d2 eqB (dv 2) (ret (.int 2)))) (zM 4 (d2 zB (dv 3) (qo qf 0 (qa (ret (.int 3)) (ret []))))) yC) [some (.lst [.int n]),some c,some (.int k),some (.int a),some (.int b),none] = .ok (.nx [some (.lst [.int n']),some c,some (.int k),some (.int a),some (.int b'),none])/\0<=b'/\b'<=14:=by
  intro n k a b h1 h2 h3 h4
  by_cases hk:k=2
  ·refine ⟨n/3,a+n%3,?_,by omega,by omega⟩
   push_cast [hk,jk,jz (m:=3) (by decide) (by decide)]
  ·refine ⟨n,b,?_,by omega,by omega⟩
   push_cast [hk]
 have s5:∀ n k a b:Int,1<=a->a<=7->0<=b->b<=14->∃ n' a' b',(sif (tst (d2 eqB (dv 2) (ret (.int 3)))) (qjv 3 4 (qa (d2 zB (ret (.int 1)) (qo qf 0 (qa (ret (.int 25)) (ret [])))) (qa (qo qf 0 (qa (ret (.int 40)) (ret []))) (ret [])))) yC) [some (.lst [.int n]),some c,some (.int k),some (.int a),some (.int b),none] = .ok (.nx [some (.lst [.int n']),some c,some (.int k),some (.int a'),some (.int b'),none])/\1<=a'/\a'<=25/\0<=b'/\b'<=39:=by
  intro n k a b h1 h2 h3 h4
  by_cases hk:k=3
  ·refine ⟨n/25/40,1+n%25,n/25%40,?_,by omega,by omega,by omega,by omega⟩
   push_cast [hk,jk,jz (m:=25) (by decide) (by decide),jz (m:=40) (by decide) (by decide)]
  ·refine ⟨n,a,b,?_,by omega,by omega,by omega,by omega⟩
   push_cast [hk]
 have s6:∀ n k a b:Int,∃ n' m,(zM 5 (d2 ixD (y7 (qa (ret (.int 1)) (qa (ret (.int 1)) (qa (ret (.int 1)) (qa (ret (.int 2)) (qa (ret (.int 3)) (qa (ret (.int 0)) (qa (ret (.int 5)) (qa (dv 1) (ret [])))))))))) (qo qf 0 (qa (ret (.int 8)) (ret []))))) [some (.lst [.int n]),some c,some (.int k),some (.int a),some (.int b),none] = .ok (.nx [some (.lst [.int n']),some c,some (.int k),some (.int a),some (.int b),some m])/\qhx c m:=by
  intro n k a b
  obtain ⟨m,hm,e⟩:=qf3 (ds:=[.int 1,.int 1,.int 1,.int 2,.int 3,.int 0,.int 5,c]) (k:=n%8) (by omega) (by simp;omega)
  refine ⟨n/8,m,?_,?_⟩
  ·push_cast [jz (m:=8) (by decide) (by decide),zt (show 8<=1000000 by omega),e]
  ·simp only [List.mem_cons,nN_,or_false] at hm
   rcases hm with h | h | h | h | h | h | h | h
   ·exact .inr ⟨_,h,by omega,by omega⟩
   ·exact .inr ⟨_,h,by omega,by omega⟩
   ·exact .inr ⟨_,h,by omega,by omega⟩
   ·exact .inr ⟨_,h,by omega,by omega⟩
   ·exact .inr ⟨_,h,by omega,by omega⟩
   ·exact .inr ⟨_,h,by omega,by omega⟩
   ·exact .inr ⟨_,h,by omega,by omega⟩
   ·exact .inl h
 obtain ⟨n2,a2,b2,e2,p2,q2,r2,t2⟩:=s2 (n/6) (n%6)
 obtain ⟨b3,e3,r3,t3⟩:=s3 n2 (n%6) a2 b2 p2 q2 r2 t2
 obtain ⟨n4,b4,e4,r4,t4⟩:=s4 n2 (n%6) a2 b3 p2 q2 r3 t3
 obtain ⟨n5,a5,b5,e5,p5,q5,r5,t5⟩:=s5 n4 (n%6) a2 b4 p2 q2 r4 t4
 obtain ⟨n6,m,e6,g6⟩:=s6 n5 (n%6) a5 b5
 refine ⟨a5,b5,m,n6,?_,p5,q5,r5,t5,g6⟩
 unfold zj
 refine qde (U:=[some (.lst [.int n6]),some c,some (.int (n%6)),some (.int a5),some (.int b5),some m]) rfl ?_ rfl
 unfold jB
 refine (qu (U':=[some (.lst [.int (n/6)]),some c,some (.int (n%6)),none,none,none]) ?_).trans ?_
 ·push_cast [jz (m:=6) (by decide) (by decide)]
 refine (qu e2).trans ?_
 refine (qu e3).trans ?_
 refine (qu e4).trans ?_
 refine (qu e5).trans ?_
 refine (qu e6).trans ?_
 push_cast [zt (show 3<=1000000 by omega)]
theorem qj4 (ns:List Int) (i:Int) (h0:0<=i):∃ x,jy [.fz ns,.int i] = .ok (.int x):=by
 by_cases h:i<ns.length
 ·obtain ⟨j,rfl⟩:=Int.eq_ofNat_of_zero_le h0
  have hj:j<ns.length:=by omega
  have e:ixD (.fz ns) (.int (j:Int))=some (.int ns[j]):=by
   show (atI ns (j:Int)).map D.int=_
   unfold atI ixN
   rw [if_pos (by omega),if_pos (by omega)]
   show (ns[(j:Int).toNat]?).map D.int=_
   rw [Int.toNat_natCast,gG hj];rfl
  refine ⟨ns[j],?_⟩
  unfold jy yS
  refine v6 rfl ⟨[some (.fz ns),some (.int (j:Int))],?_⟩
  refine (qb8 (d := .int ns[j]) (U':=[some (.fz ns),some (.int (j:Int))]) ?_)
  push_cast [e,qat,h]
 ·refine ⟨0,?_⟩
  unfold jy yS
  refine v6 rfl ⟨[some (.fz ns),some (.int i)],?_⟩
  refine (qu (U':=[some (.fz ns),some (.int i)]) ?_).trans rfl
  push_cast [qat,h]
theorem ql9 (x j:Int) (h0:0<=j) (h1:j<40):∃ v,j7 [.int x,.int j] = .ok (.int v):=by
 obtain ⟨m,hm,e⟩:=qf3 (ds:=[.int 48271,.int 69621,.int 16807,.int 39373,.int 30269,.int 40014,.int 40692,.int 50021,.int 61687,.int 71993,.int 83869,.int 95561,.int 30307]) (k:=j%13) (by omega) (by simp;omega)
 have hm2:∃ c,m = .int c/\yc c=true:=by
  have:m∈facts.map D.int:=hm
  obtain ⟨c,hc,rfl⟩:=mP_.mp this
  exact ⟨c,rfl,List.all_eq_true.mp (show facts.all yc=true by decide) c hc⟩
 obtain ⟨c,rfl,hc⟩:=hm2
 have f3:∀ s:Int,yc (s%1000000007)=true:=fun s=>vH (by omega) (by omega)
 have f977:yc 977=true:=by decide
 have f79:yc 7919=true:=by decide
 have f48:yc 48271=true:=by decide
 let L:D := .lst [.int 48271,.int 69621,.int 16807,.int 39373,.int 30269,.int 40014,.int 40692,.int 50021,.int 61687,.int 71993,.int 83869,.int 95561,.int 30307]
 let s1:Int:=(x%2147483647+12345)*c+977*j+7919*(j/13)
 let s2:Int:=s1%1000000007
 refine ⟨(s2*s2+48271*j)%1000000007/7,?_⟩
 unfold j7 vN
 refine v6 rfl ⟨[some (.int x),some (.int j),some L,some (.int s2)],?_⟩
 refine (qu (U':=[some (.int x),some (.int j),some L,none]) ?_).trans ?_
 ·push_cast [zt (show 13<=1000000 by omega)]
  rfl
 refine (qu (U':=[some (.int x),some (.int j),some L,some (.int s1)]) ?_).trans ?_
 ·push_cast [L,uw (j:=2147483647) (by decide),uw (j:=13) (by decide),jk,e,qhz hc,qcO f977,qcO f79,yh (j:=13) (by decide) (by decide)]
  rfl
 refine (qu (U':=[some (.int x),some (.int j),some L,some (.int s2)]) ?_).trans ?_
 ·push_cast [uw (j:=1000000007) (by decide),s2]
 ·push_cast [uw (j:=1000000007) (by decide),s2,jk,qcO (f3 _),qcO f48,yh (j:=7) (by decide) (by decide)]
theorem qdN (A B:Option D) (x:Int):∀ (ds:List D) (s:Int) (o:Option D),(∀ d∈ds,∃ j:Int,d = .int j/\0<=j/\j<40)->∃ s' o',yx (ql 4) (zM 3 (d2 zB (d2 y9 (dv 3) (ret (.int 142857143))) (qp j7 (qa (dv 2) (qa (dv 4) (ret [])))))) ds [A,B,some (.int x),some (.int s),o] = .ok (.nx [A,B,some (.int x),some (.int s'),o'])
 | [],s,o,_=>⟨s,o,rfl⟩
 | d::ds,s,o,h=>by
  obtain ⟨j,rfl,h0,h1⟩:=h d mS_
  obtain ⟨v,e⟩:=ql9 x j h0 h1
  obtain ⟨s',o',q⟩:=qdN A B x ds (s*142857143+v) (some (.int j)) fun y hy=>h y (mM _ hy)
  refine ⟨s',o',?_⟩
  have st:(zM 3 (d2 zB (d2 y9 (dv 3) (ret (.int 142857143))) (qp j7 (qa (dv 2) (qa (dv 4) (ret [])))))) [A,B,some (.int x),some (.int s),some (.int j)] = .ok (.nx [A,B,some (.int x),some (.int (s*142857143+v)),some (.int j)]):=by
   push_cast [e,qhz (j:=142857143) (by decide),jk]
  unfold yx
  simp only [ql,List.set_cons_zero,List.set_cons_succ,st]
  exact q
theorem qma (ns:List Int) (i:Int) (h0:0<=i):∃ n,jf [.fz ns,.int i] = .ok (.lst [.int n]):=by
 obtain ⟨x,e⟩:=qj4 ns i h0
 have s1:(zM 2 (qp jy (qa (dv 0) (qa (dv 1) (ret []))))) [some (.fz ns),some (.int i),none,none,none] = .ok (.nx [some (.fz ns),some (.int i),some (.int x),none,none]):=by
  push_cast [e]
 by_cases hx:x%2=0
 ·refine ⟨(if x<0 then -x else x)/2,?_⟩
  unfold jf uz
  refine v6 rfl ⟨[some (.fz ns),some (.int i),some (.int x),none,none],?_⟩
  refine (qu s1).trans (qb8 ?_)
  push_cast [uw (j:=2) (by decide),hx,qmt,yh (j:=2) (by decide) (by decide),zt (show 1<=1000000 by omega)]
 ·obtain ⟨s',o',q⟩:=qdN (some (.fz ns)) (some (.int i)) x (qa3 0 40) 0 none fun d hd=>by
   unfold qa3 at hd
   obtain ⟨k,hk,rfl⟩:=mP_.mp hd
   have hk':=mR_.mp hk
   exact ⟨_,rfl,by omega,by omega⟩
  refine ⟨s',?_⟩
  unfold jf uz
  refine v6 rfl ⟨[some (.fz ns),some (.int i),some (.int x),some (.int s'),o'],?_⟩
  refine (qu s1).trans ?_
  refine (qu (U':=[some (.fz ns),some (.int i),some (.int x),none,none]) ?_).trans ?_
  ·push_cast [uw (j:=2) (by decide),hx]
  refine (qu (U':=[some (.fz ns),some (.int i),some (.int x),some (.int 0),none]) ?_).trans ?_
  ·push_cast []
  refine (qu (U':=[some (.fz ns),some (.int i),some (.int x),some (.int s'),o']) ?_).trans ?_
  ·rw [jQ,yL (j:=40) (U1:=[some (.fz ns),some (.int i),some (.int x),some (.int 0),none]) rfl (by omega) (by omega)]
   exact q
  ·push_cast [zt (show 1<=1000000 by omega)]
def gdH (k:D):Prop:=yM k/\∃ a b j,k = .tup [.int a,.int b,.int j]
theorem qmb {a b:Int} {m:D} (h1:1<=a) (h2:a<=25) (h3:0<=b) (h4:b<=39) (g:qhx (.int 1) m):gdH (.tup [.int a,.int b,m]):=by
 rcases g with rfl | ⟨j,rfl,j0,j1⟩
 ·exact ⟨⟨a,b,_,rfl,h1,h2,h3,h4,.inr ⟨1,rfl,by omega,by omega⟩⟩,a,b,1,rfl⟩
 ·exact ⟨⟨a,b,_,rfl,h1,h2,h3,h4,.inr ⟨j,rfl,j0,j1⟩⟩,a,b,j,rfl⟩
theorem qcW (M:Int) (n:Int) (ks:List D) (o4 o5:Option D) (h:∀ k∈ks,gdH k) (hl:ks.length<=12):∃ n' k',gdH k'/\(qZ (zM 5 (qo zj 0 (qa (dv 2) (ret [])))) (qZ (sif (qar (tst (qh9 3 (y7 (ret [])))) (tst (d2 eqB (qo qf 0 (qa (ret (.int 7)) (ret []))) (ret (.int 6))))) (zM 5 (qcy 3 (qo qf 0 (qa (qbR 3) (ret []))))) yC) (jI (zS 3 (dv 5))))) [some (.lst [.int n]),some (.int M),some (.int 1),some (.lst ks),o4,o5] = .ok (.nx [some (.lst [.int n']),some (.int M),some (.int 1),some (.lst (ks++[k'])),o4,some k']):=by
 obtain ⟨a,b,m,n1,e1,p1,p2,p3,p4,p5⟩:=qer n (.int 1)
 have gk:gdH (.tup [.int a,.int b,m]):=qmb p1 p2 p3 p4 p5
 obtain ⟨b0,eb,hb⟩:=qcN fun k hk=>(h k hk).1
 have s1:(zM 5 (qo zj 0 (qa (dv 2) (ret [])))) [some (.lst [.int n]),some (.int M),some (.int 1),some (.lst ks),o4,o5] = .ok (.nx [some (.lst [.int n1]),some (.int M),some (.int 1),some (.lst ks),o4,some (.tup [.int a,.int b,m])]):=by
  push_cast [e1]
 have s2:∃ n' k',gdH k'/\(sif (qar (tst (qh9 3 (y7 (ret [])))) (tst (d2 eqB (qo qf 0 (qa (ret (.int 7)) (ret []))) (ret (.int 6))))) (zM 5 (qcy 3 (qo qf 0 (qa (qbR 3) (ret []))))) yC) [some (.lst [.int n1]),some (.int M),some (.int 1),some (.lst ks),o4,some (.tup [.int a,.int b,m])] = .ok (.nx [some (.lst [.int n']),some (.int M),some (.int 1),some (.lst ks),o4,some k']):=by
  cases b0 with
  | false =>
   refine ⟨n1,_,gk,?_⟩
   push_cast [eb,zt (show 0<=1000000 by omega)]
  | true =>
   have hne:=hb rfl
   have hpos:0<ks.length:=List.length_pos_iff.mpr hne
   by_cases h6:n1%7=6
   ·obtain ⟨k',hk',e⟩:=qlZ (ds:=ks) (k:=n1/7%(ks.length:Int)) (Int.emod_nonneg _ (by omega)) (Int.emod_lt_of_pos _ (by omega))
    refine ⟨n1/7/(ks.length:Int),k',h k' hk',?_⟩
    push_cast [eb,zt (show 0<=1000000 by omega),jz (m:=7) (by decide) (by decide),h6,jz (m:=(ks.length:Int)) (by omega) (by omega),e]
   ·refine ⟨n1/7,_,gk,?_⟩
    push_cast [eb,zt (show 0<=1000000 by omega),jz (m:=7) (by decide) (by decide),h6]
 obtain ⟨n2,k',gk',e2⟩:=s2
 refine ⟨n2,k',gk',?_⟩
 refine (qu s1).trans ((qu e2).trans ?_)
 push_cast [gk'.1.imm,zt (show ks.length+1<=1000000 by omega),Bool.and_self]
theorem w5 (M:Nat) (hM:M<=12):∀ (ds:List D) (n:Int) (ks:List D) (o4 o5:Option D),(∀ k∈ks,gdH k)->ks.length+ds.length<=M ->
  ∃ n' ks' o4' o5',yx (ql 4) (qZ (zM 5 (qo zj 0 (qa (dv 2) (ret [])))) (qZ (sif (qar (tst (qh9 3 (y7 (ret [])))) (tst (d2 eqB (qo qf 0 (qa (ret (.int 7)) (ret []))) (ret (.int 6))))) (zM 5 (qcy 3 (qo qf 0 (qa (qbR 3) (ret []))))) yC) (jI (zS 3 (dv 5))))) ds [some (.lst [.int n]),some (.int M),some (.int 1),some (.lst ks),o4,o5] = .ok (.nx [some (.lst [.int n']),some (.int M),some (.int 1),some (.lst ks'),o4',o5'])/\(∀ k∈ks',gdH k)/\ks'.length<=M
 | [],n,ks,o4,o5,h,hl=>⟨n,ks,o4,o5,rfl,h,by simpa using hl⟩
 | d::ds,n,ks,o4,o5,h,hl=>by
  have hl':ks.length+(ds.length+1)<=M:=hl
  obtain ⟨n1,k',gk,e⟩:=qcW M n ks (some d) o5 h (by omega)
  obtain ⟨n',ks',o4',o5',q,g,l⟩:=w5 M hM ds n1 (ks++[k']) (some d) (some k') (fun x hx=>(mA_.mp hx).elim (h x) fun hx=>by
   rw [ms_] at hx;subst hx;exact gk) (by rw [lA_,List.length_singleton];omega)
  exact ⟨n',ks',o4',o5',(wU rfl e).trans q,g,l⟩
theorem qgf (M:Nat) (hM:M<=12) (n:Int):∃ ks n',z7 [.int n] [.int M,.int 1] = .ok (.tup ks,[.int n'])/\(∀ k∈ks,gdH k)/\ks.length<=M:=by
 have hm0:0<=n%((M:Int)+1):=Int.emod_nonneg _ (by omega)
 have hm1:n%((M:Int)+1)<(M:Int)+1:=Int.emod_lt_of_pos _ (by omega)
 obtain ⟨n',ks',o4',o5',q,g,l⟩:=w5 M hM (qa3 0 (n%((M:Int)+1)).toNat) (n/((M:Int)+1)) [] none none (fun _ h=>by cases h) (by rw [qhy];simp;omega)
 refine ⟨ks',n',?_,g,l⟩
 unfold z7
 refine qde (U:=[some (.lst [.int n']),some (.int M),some (.int 1),some (.lst ks'),o4',o5']) rfl ?_ rfl
 unfold jC
 refine (qu (U':=[some (.lst [.int n]),some (.int M),some (.int 1),some (.lst []),none,none]) ?_).trans ?_
 ·push_cast [immL,zt (show 0<=1000000 by omega),Bool.and_self]
 refine (qu (U':=[some (.lst [.int n']),some (.int M),some (.int 1),some (.lst ks'),o4',o5']) ?_).trans ?_
 ·rw [jQ,yL (j:=n%((M:Int)+1)) (U1:=[some (.lst [.int (n/((M:Int)+1))]),some (.int M),some (.int 1),some (.lst []),none,none]) ?_ hm0 (by omega)]
  ·exact q
  ·push_cast [jk,jz (m:=(M:Int)+1) (by omega) (by omega)]
 ·push_cast []
def kw (k:Kw):D := .tup [.int k.w,.int k.v,mD k.m]
def sgB (G:Int) (k:Kw):Prop:=sgK k/\k.w<=26*G/\k.v<=40*G
theorem qmc (k:Kw):ixD (kw k) (.int 0)=some (.int k.w):=rfl
theorem qmd (k:Kw):ixD (kw k) (.int 1)=some (.int k.v):=rfl
theorem qme (k:Kw):ixD (kw k) (.int 2)=some (mD k.m):=rfl
theorem qmf (k:Kw):imm (kw k)=true:=by
 obtain ⟨w,v,m⟩:=k
 cases m<;>rfl
theorem w6 {M:D} {G:Int} (g0:1<=G) (g1:G<=100000000000000000000):∀ (ds:List D) (n:Int) (ks:List Kw) (o4 o5 o6:Option D),(∀ d∈ds,gdH d)->(∀ k∈ks,sgB G k)->ks.length+ds.length<=12 ->
  ∃ (n':Int) (ks':List Kw) (o4' o5' o6':Option D),yx (qaY 3 (zo (ql 4) (zo (ql 5) (zo (ql 6) qaX)))) (jI (zS 3 (zL (qa (d2 zB (d2 y9 (dv 4) (dv 2)) (qo qf 0 (qa (dv 2) (ret [])))) (qa (d2 zB (d2 y9 (dv 5) (dv 2)) (qo qf 0 (qa (dv 2) (ret [])))) (qa (qJ uG (qa (dv 6) (qa (ret (.int 1)) (ret [])))) (ret []))))))) ds [some (.lst [.int n]),some M,some (.int G),some (.lst (ks.map kw)),o4,o5,o6] = .ok (.nx [some (.lst [.int n']),some M,some (.int G),some (.lst (ks'.map kw)),o4',o5',o6'])/\(∀ k∈ks',sgB G k)/\ks'.length=ks.length+ds.length
 | [],n,ks,o4,o5,o6,_,h,_=>⟨n,ks,o4,o5,o6,rfl,h,rfl⟩
 | d :: ds,n,ks,o4,o5,o6,hd,h,hl=>by
  have hl':ks.length+(ds.length+1)<=12:=hl
  obtain ⟨⟨a,b,m,e0,a1,a2,b1,b2,gm⟩,a',b',j,e1⟩:=hd d mS_
  rw [e1] at e0
  injection e0 with e0
  injection e0 with q1 e0
  injection e0 with q2 e0
  injection e0 with q3 e0
  injection q1 with q1
  injection q2 with q2
  subst q1 q2 q3
  subst e1
  have hj:0<=j:=by
   rcases gm with g | ⟨i,g,i0,_⟩
   ·cases g
   ·cases g;exact i0
  have gb:G<1606938044258990275541962092341162602522202993782792835301376:=by omega
  have r0:0<=n%G:=Int.emod_nonneg _ (by omega)
  have r1:n%G<G:=Int.emod_lt_of_pos _ (by omega)
  have s0:0<=n/G%G:=Int.emod_nonneg _ (by omega)
  have s1:n/G%G<G:=Int.emod_lt_of_pos _ (by omega)
  have aG:1*G<=a'*G:=Int.mul_le_mul_of_nonneg_right a1 (by omega)
  have aG2:a'*G<=25*G:=Int.mul_le_mul_of_nonneg_right a2 (by omega)
  have bG:0<=b'*G:=Int.mul_nonneg b1 (by omega)
  have bG2:b'*G<=39*G:=Int.mul_le_mul_of_nonneg_right b2 (by omega)
  let k:Kw:=⟨a'*G+n%G,b'*G+n/G%G,some (if 1<j then 1 else j)⟩
  have hk:sgB G k:=by
   refine ⟨⟨by show 1<=a'*G+n%G;omega,by show 0<=b'*G+n/G%G;omega,?_⟩,by show a'*G+n%G<=26*G;omega,by show b'*G+n/G%G<=40*G;omega⟩
   by_cases c:j=0
   ·left
    show some (if 1<j then 1 else j)=some 0
    rw [if_neg (by omega),c]
   ·right
    show some (if 1<j then 1 else j)=some 1
    congr 1
    split<;>omega
  have st:(jI (zS 3 (zL (qa (d2 zB (d2 y9 (dv 4) (dv 2)) (qo qf 0 (qa (dv 2) (ret [])))) (qa (d2 zB (d2 y9 (dv 5) (dv 2)) (qo qf 0 (qa (dv 2) (ret [])))) (qa (qJ uG (qa (dv 6) (qa (ret (.int 1)) (ret [])))) (ret []))))))) [some (.lst [.int n]),some M,some (.int G),some (.lst (ks.map kw)),some (.int a'),some (.int b'),some (.int j)] = .ok (.nx [some (.lst [.int (n/G/G)]),some M,some (.int G),some (.lst ((ks++[k]).map kw)),some (.int a'),some (.int b'),some (.int j)]):=by
   have c1:zL (qa (d2 zB (d2 y9 (dv 4) (dv 2)) (qo qf 0 (qa (dv 2) (ret [])))) (qa (d2 zB (d2 y9 (dv 5) (dv 2)) (qo qf 0 (qa (dv 2) (ret [])))) (qa (qJ uG (qa (dv 6) (qa (ret (.int 1)) (ret [])))) (ret [])))) [some (.lst [.int n]),some M,some (.int G),some (.lst (ks.map kw)),some (.int a'),some (.int b'),some (.int j)] = .ok (kw k,[some (.lst [.int (n/G/G)]),some M,some (.int G),some (.lst (ks.map kw)),some (.int a'),some (.int b'),some (.int j)]):=by
    push_cast [qcO (vH (show 0<=a' by omega) (by omega)),qcO (vH (show 0<=b' by omega) (by omega)),jz (m:=G) (by omega) gb,jk,qdE,zt (show 3<=1000000 by omega)]
    rfl
   rw [uK,u6]
   simp only [zf,List.getElem?_cons_zero,List.getElem?_cons_succ,c1]
   simp only [zf,List.getElem?_cons_zero,List.getElem?_cons_succ,qmf,lM_,zt (show ks.length+1<=1000000 by omega),Bool.and_self,if_true,List.map_append,mC_,List.map_nil,List.set_cons_zero,List.set_cons_succ]
  obtain ⟨n',ks',o4',o5',o6',q,g,l⟩:=w6 g0 g1 ds (n/G/G) (ks++[k]) (some (.int a')) (some (.int b')) (some (.int j)) (fun x hx=>hd x (mM _ hx)) (fun x hx=>(mA_.mp hx).elim (h x) fun hx=>by
   rw [ms_] at hx;subst hx;exact hk) (by rw [lA_,List.length_singleton];omega)
  refine ⟨n',ks',o4',o5',o6',(wU rfl st).trans q,g,?_⟩
  rw [l,lA_,List.length_singleton,lC_]
  omega
theorem qgg (M:Nat) (hM:M<=12) {G:Int} (g0:1<=G) (g1:G<=100000000000000000000) (n:Int):∃ (ks:List Kw) (n':Int),qI [.int n] [.int M,.int G] = .ok (.tup (ks.map kw),[.int n'])/\(∀ k∈ks,sgB G k)/\ks.length<=M:=by
 obtain ⟨ds,n1,e1,hd,hl⟩:=qgf M hM n
 obtain ⟨n',ks,o4,o5,o6,q,g,l⟩:=w6 (M := .int M) g0 g1 ds n1 [] none none none hd (fun k hk=>by cases hk) (by simp;omega)
 refine ⟨ks,n',?_,g,by rw [l];simpa using hl⟩
 unfold qI
 refine qde (U:=[some (.lst [.int n']),some (.int M),some (.int G),some (.lst (ks.map kw)),o4,o5,o6]) rfl ?_ rfl
 unfold zN
 refine (qu (U':=[some (.lst [.int n]),some (.int M),some (.int G),some (.lst []),none,none,none]) ?_).trans ?_
 ·push_cast [immL,zt (show 0<=1000000 by omega),Bool.and_self]
 refine (qu (U':=[some (.lst [.int n']),some (.int M),some (.int G),some (.lst (ks.map kw)),o4,o5,o6]) ?_).trans ?_
 ·have c:yF (qo z7 0 (qa (dv 1) (qa (ret (.int 1)) (ret [])))) [some (.lst [.int n]),some (.int M),some (.int G),some (.lst []),none,none,none] = .ok (ds,[some (.lst [.int n1]),some (.int M),some (.int G),some (.lst []),none,none,none]):=by
   push_cast [e1]
   rfl
  rw [jQ,c]
  exact q
 ·push_cast []
def ldD (l:List Int):D := .tup (l.map D.int)
def t3D (x:T3):D := .tup [.int x.1,.int x.2.1,ldD x.2.2]
theorem qiH (l:List Int):imm (ldD l)=true:=by
 unfold ldD
 simp only [imm]
 exact qbg fun _ _=>rfl
theorem qiI (x:T3):imm (t3D x)=true:=by
 unfold t3D
 simp only [imm,immL,qiH,Bool.and_self]
theorem qmg (x:T3):ixD (t3D x) (.int 0)=some (.int x.1):=rfl
theorem qhI (x:T3):ixD (t3D x) (.int 1)=some (.int x.2.1):=rfl
theorem qmh (x:T3):ixD (t3D x) (.int 2)=some (ldD x.2.2):=rfl
theorem qbo {α β:Type} (g:α->List β):∀ (l:List α) (acc:List β),l.foldl (fun acc a=>acc++g a) acc=acc++l.flatMap g
 | [],acc=>by simp
 | a::l,acc=>by rw [fo_,qbo g l,fC_,aA_]
theorem qhJ (L:List (List Int)) (k:Kw):qcR L k=L.flatMap fun l=>(List.range (tm k+1)).map fun t:Nat=>l++[(t:Int)]:=rfl
theorem qot {k:Kw} (h:sgK k):k.m=some ((tm k:Nat):Int):=by
 unfold tm
 rcases h.2.2 with q | q<;>rw [q]<;>rfl
theorem qou {k:Kw} (h:sgK k):ixD (kw k) (.int 2)=some (.int (tm k:Nat)):=by rw [qme,qot h];rfl
theorem vo:∀ {ks:List Kw},(∀ k∈ks,sgK k)->(z6 ks).length<=2 ^ ks.length
 | [],_=>Nat.le_refl _
 | k::ks,h=>by
  have ih:=vo fun x hx=>h x (mM _ hx)
  have ht:=qhG (h k mS_)
  simp only [z6]
  have:∀ n,((List.range n).flatMap fun t:Nat=>(z6 ks).map fun l=>(t:Int)::l).length=n*(z6 ks).length:=fun n=>by
   induction n with
   | zero=>simp
   | succ n ihn=>rw [List.range_succ,List.flatMap_append,lA_,ihn,Nat.succ_mul];simp
  rw [this,lC_,Nat.pow_succ]
  have h2:(tm k+1)*(z6 ks).length<=2*2 ^ ks.length:=Nat.mul_le_mul (by omega) ih
  omega
theorem qhK {k:Kw} (h:sgK k) (T Ls:Option D) {acc:List (List Int)} {l:List Int} (ha:acc.length<=1000) (hl:l.length<=20) :
  (jI (ui 3 (zX 1 [4] none (js (qa (d2 zB (d2 ixD (dv 2) (ret (.int 2))) (ret (.int 1))) (ret []))) (ql 0) (ret true) (d2 zB (dv 1) (zL (qa (dv 0) (ret []))))))) [T,Ls,some (kw k),some (.lst (acc.map ldD)),some (ldD l)] = .ok (.nx [T,Ls,some (kw k),some (.lst ((acc++(List.range (tm k+1)).map fun t:Nat=>l++[(t:Int)]).map ldD)),some (ldD l)]):=by
 have ht:=qhG h
 let U:Env:=[T,Ls,some (kw k),some (.lst (acc.map ldD)),some (ldD l)]
 have rg:js (qa (d2 zB (d2 ixD (dv 2) (ret (.int 2))) (ret (.int 1))) (ret [])) U = .ok ((List.range (tm k+1)).map fun t:Nat=>D.int (t:Nat),U):=by
  have e:qa (d2 zB (d2 ixD (dv 2) (ret (.int 2))) (ret (.int 1))) (ret []) U = .ok ([.int ((tm k:Nat)+1)],U):=uM (qC (qC rfl rfl (qou h)) rfl (jk _ _))
  rw [yL e (by omega) (by omega)]
  have:((tm k:Nat)+1:Int).toNat=tm k+1:=by omega
  rw [this,qnk]
 have c:=qaI (e:=d2 zB (dv 1) (zL (qa (dv 0) (ret [])))) (fr:=[4]) (r:=[some (ldD l)]) (k:=fun t:Nat=>D.int (t:Nat)) (List.range (tm k+1)) (fun t=>ldD (l++[(t:Int)])) rg rfl (by rw [lR_];omega) fun t _=>by
  have t1:zL (qa (dv 0) (ret [])) [some (.int (t:Nat)),some (ldD l)] = .ok (.tup [.int (t:Nat)],[some (.int (t:Nat)),some (ldD l)]):=by
   rw [wJ,uM rfl]
   simp only [lC_,lN_,Nat.zero_add,zt (show 1<=1000000 by omega),if_true]
  exact qC rfl t1 (by unfold ldD;rw [v7 (by rw [lM_];simp;omega),List.map_append];rfl)
 have gl:zf 3 U=some (acc.map ldD):=rfl
 have im:immL ((List.range (tm k+1)).map fun t:Nat=>ldD (l++[(t:Int)]))=true:=qbg fun _ _=>qiH _
 show jI _ U=_
 rw [uK,qfN]
 simp only [gl,c,im,Bool.true_and]
 rw [zt (by rw [lM_,lM_,lR_];omega),if_pos rfl,List.map_append,mm_]
 rfl
theorem qch {ks:List Kw} (h:∀ k∈ks,sgK k) (hl:ks.length<=6):yj [.tup (ks.map kw)] = .ok (.lst ((z6 ks).map ldD)):=by
 let T:Option D:=some (.tup (ks.map kw))
 have p2:∀ n,n<=6->2 ^ n<=64:=fun n hn=>Nat.le_trans (Nat.pow_le_pow_right (by decide) hn) (by decide)
 obtain ⟨U',q,o2,o4,_,_,rfl⟩:=jm (G:=ql 2) (b:=(qZ (uX 3 (qg1 (ret []))) (qZ (vw (yF (dv 1)) (ql 4) (jI (ui 3 (zX 1 [4] none (js (qa (d2 zB (d2 ixD (dv 2) (ret (.int 2))) (ret (.int 1))) (ret []))) (ql 0) (ret true) (d2 zB (dv 1) (zL (qa (dv 0) (ret [])))))))) (qho 1 3)))) (k:=kw) (step:=qcR)
  (Inv:=fun n L U=>∃ o2 o4,L.length<=2 ^ n/\(∀ l∈L,l.length=n)/\U=[T,some (.lst (L.map ldD)),o2,none,o4]) ks 0 [[]] [T,some (.lst (([[]]:List (List Int)).map ldD)),none,none,none] ⟨none,none,Nat.le_refl _,fun l hl=>by rw [ms_.mp hl];rfl,rfl⟩ (fun k hk n L U _ hn=>by
  rintro ⟨o2,o4,hL,hLl,rfl⟩
  have gk:=h k hk
  have ht:=qhG gk
  have hn6:n<6:=by omega
  have hL2:=p2 n (by omega)
  let Ls:Option D:=some (.lst (L.map ldD))
  obtain ⟨U2,q2,o4',hacc,hal,rfl⟩:=jm (G:=ql 4) (b:=(jI (ui 3 (zX 1 [4] none (js (qa (d2 zB (d2 ixD (dv 2) (ret (.int 2))) (ret (.int 1))) (ret []))) (ql 0) (ret true) (d2 zB (dv 1) (zL (qa (dv 0) (ret [])))))))) (k:=ldD) (step:=fun (acc:List (List Int)) (l:List Int)=>acc++(List.range (tm k+1)).map fun t:Nat=>l++[(t:Int)])
   (Inv:=fun m acc U=>∃ o4,acc.length<=2*m/\(∀ l∈acc,l.length=n+1)/\U=[T,Ls,some (kw k),some (.lst (acc.map ldD)),o4]) L 0 [] [T,Ls,some (kw k),some (.lst []),o4] ⟨o4,Nat.le_refl _,fun l hl=>absurd hl nN_,rfl⟩ (fun l hl m acc U _ hm=>by
   rintro ⟨o4,ha,hal,rfl⟩
   have hll:=hLl l hl
   refine ⟨[T,Ls,some (kw k),some (.lst (acc.map ldD)),some (ldD l)],_,rfl,qhK gk T Ls (by omega) (by omega),some (ldD l),?_,fun x hx => ?_,rfl⟩
   ·rw [lA_,lM_,lR_]
    omega
   ·rcases mA_.mp hx with hx | hx
    ·exact hal x hx
    ·obtain ⟨t,_,rfl⟩:=mP_.mp hx
     rw [lA_,List.length_singleton,hll])
  rw [qbo,List.nil_append,<- qhJ] at q2 hacc hal
  refine ⟨[T,Ls,some (kw k),none,o4],[T,some (.lst ((qcR L k).map ldD)),some (kw k),none,o4'],rfl,?_,some (kw k),o4',?_,hal,rfl⟩
  ·refine (qu (U':=[T,Ls,some (kw k),some (.lst []),o4]) ?_).trans ?_
   ·push_cast [immL,zt (show 0<=1000000 by omega),Bool.and_self]
   refine (qu (U':=[T,Ls,some (kw k),some (.lst ((qcR L k).map ldD)),o4']) ?_).trans rfl
   rw [jQ]
   exact q2
  ·rw [Nat.pow_succ]
   omega)
 rw [qhH] at q
 unfold yj uO
 refine v6 rfl ⟨[T,some (.lst ((z6 ks).map ldD)),o2,none,o4],?_⟩
 refine (qu (U':=[T,some (.lst (([[]]:List (List Int)).map ldD)),none,none,none]) ?_).trans ?_
 ·push_cast [zt (show 0<=1000000 by omega),zt (show 1<=1000000 by omega),T]
  rfl
 refine (qu (U':=[T,some (.lst ((z6 ks).map ldD)),o2,none,o4]) ?_).trans rfl
 rw [jQ]
 exact q
theorem qiJ:∀ (ks:List Kw) (l:List Int),qcn (ks.map kw) (l.map D.int)=(ks.zip l).map fun z=>D.tup [kw z.1,.int z.2]
 | [],_=>by simp [qcn]
 | _::_,[]=>by simp [qcn]
 | k::ks,x::l=>by
  rw [mC_,mC_,List.zip_cons_cons,mC_,<- qiJ ks l]
  rfl
theorem qj5:∀ (ks:List Kw) (l:List Int),((ks.zip l).map fun z=>z.1.w*z.2).sum=qX ks l
 | [],_=>by simp [qX]
 | _::_,[]=>by simp [qX]
 | k::ks,x::l=>by
  rw [List.zip_cons_cons,mC_,List.sum_cons,qj5 ks l]
  show k.w*x+_=x*k.w+_
  rw [Int.mul_comm]
theorem qj6:∀ (ks:List Kw) (l:List Int),((ks.zip l).map fun z=>z.1.v*z.2).sum=jF ks l
 | [],_=>by simp [jF]
 | _::_,[]=>by simp [jF]
 | k::ks,x::l=>by
  rw [List.zip_cons_cons,mC_,List.sum_cons,qj6 ks l]
  show k.v*x+_=x*k.v+_
  rw [Int.mul_comm]
theorem qdO {ks:List Kw} {l:List Int} (h01:∀ t∈l,t=0\/t=1) (hl:ks.length<=12) (c:Int) (f:Kw->Int) (hf:∀ k,ixD (kw k) (.int c)=some (.int (f k))):qR [.tup (ks.map kw),ldD l,.int c] = .ok (.int ((ks.zip l).map fun z=>f z.1*z.2).sum):=by
 let U:Env:=[some (.tup (ks.map kw)),some (ldD l),some (.int c)]
 unfold qR jM
 refine v6 rfl ⟨U,vm ?_⟩
 have c1:=qf7 (e:=d2 y9 (d2 ixD (dv 0) (dv 2)) (dv 1)) (t:=ret true) (xs:=qlq (qa (dv 0) (qa (dv 1) (ret [])))) (fr:=[2]) (U:=U) (r:=[some (.int c)]) (u:=fun a:Kw×Int=>kw a.1) (v:=fun a=>D.int a.2) (ks.zip l) (fun _=>true) (fun a=>D.int (f a.1*a.2)) (by
  rw [qfu,qf4 (a := .tup (ks.map kw)) (b := .tup (l.map D.int)) rfl rfl]
  simp only [qlp,qiJ]) rfl (by rw [List.length_zip];omega) (fun _ _=>rfl) (fun a ha _=>by
   have h1:=h01 _ (List.of_mem_zip (show (a.1,a.2)∈ks.zip l from ha)).2
   exact qC (qC rfl rfl (hf _)) rfl (qhz (vH (by rcases h1 with e | e<;>omega) (by rcases h1 with e | e<;>omega))))
 rw [uL] at c1
 refine vg c1 ?_
 rw [qhD]
theorem qai {ks:List Kw} (h:∀ k∈ks,sgK k) (hl:ks.length<=6):jn [.tup (ks.map kw)] = .ok (.lst ((jt ks).map t3D)):=by
 let U:Env:=[some (.tup (ks.map kw))]
 unfold jn yN
 refine v6 rfl ⟨U,vm ?_⟩
 have p2:(z6 ks).length<=64:=Nat.le_trans (vo h) (Nat.le_trans (Nat.pow_le_pow_right (by decide) hl) (by decide))
 have c:=qaI (e:=zL (qa (qp qR (qa (dv 1) (qa (dv 0) (qa (ret (.int 0)) (ret []))))) (qa (qp qR (qa (dv 1) (qa (dv 0) (qa (ret (.int 1)) (ret []))))) (qa (dv 0) (ret []))))) (fr:=[0]) (U:=U) (r:=[some (.tup (ks.map kw))]) (xs:=yF (qp yj (qa (dv 0) (ret [])))) (k:=ldD) (z6 ks) (fun l=>t3D (wg ks l)) (by
  rw [qaB,uj rfl (qch h hl)]
  rfl) rfl (by omega) fun l hl'=>by
   have h01:=uN h hl'
   refine qmz (qdJ rfl rfl rfl ((qdO h01 (by omega) 0 (·.w) qmc).trans ?_)) (qdJ rfl rfl rfl ((qdO h01 (by omega) 1 (·.v) qmd).trans ?_)) rfl
   ·rw [qj5];rfl
   ·rw [qj6];rfl
 have e:(jt ks).map t3D=(z6 ks).map fun l=>t3D (wg ks l):=by
  unfold jt
  rw [mm_]
  rfl
 rw [e]
 exact c
theorem qhL (x:T3):zw [t3D x] = .ok (.tup [.int x.1,.int (-x.2.1),ldD x.2.2]):=by
 unfold zw yi
 let U:Env:=[some (t3D x)]
 have n1:d1 qeA (d2 ixD (dv 0) (ret (.int 1))) U = .ok (.int (-x.2.1),U):=by
  rw [qm2,qC rfl rfl (qhI x)]
  rfl
 exact v6 rfl ⟨U,vm (qmz (qC rfl rfl (qmg x)) n1 (qC rfl rfl (qmh x)))⟩
theorem qgh:∀ L:List T3,wR zw (L.map t3D)=some (L.map kyT)
 | []=>rfl
 | x::L=>by
  have e:qgt (.tup [.int x.1,.int (-x.2.1),ldD x.2.2])=some (kyT x):=by
   unfold qgt ldD
   simp only [vf]
   rfl
  rw [mC_]
  unfold wR
  rw [qhL,qgh L]
  simp only [e,mC_]
theorem qhM (L:List T3):qag (Srt.ord (qw (L.map kyT))) (L.map t3D)=(srt L).map t3D:=by
 unfold qag srt
 rw [mm_]
 refine List.map_congr_left fun i hi => ?_
 have hi':=(Srt.ord_perm (qw (L.map kyT))).mem_iff.mp hi
 rw [mR_,qL,lM_] at hi'
 show (L.map t3D).getD i D.non=t3D (L.getD i (0,0,[]))
 simp [hi']
theorem qnm (l:List T3):eqB (.lst (l.map t3D)) (.lst [])=some (.bl l.isEmpty):=by
 have hx:∀ F:List T3,PyData.canLayAll0 (toPDs (F.map t3D))=true/\PyData.depthAll (toPDs (F.map t3D))<=2:=fun F=>by
  induction F with
  | nil=>exact ⟨rfl,Nat.zero_le _⟩
  | cons x F ih =>
   have o:=wV (ns:=x.2.2)
   have e:u3 (.tup (x.2.2.map D.int))=(PyData.canLayAll0 (toPDs (x.2.2.map D.int))&&decide (PyData.depthAll (toPDs (x.2.2.map D.int))+1<=50)):=by
    simp only [u3,zG,PyData.canLay0,PyData.depth]
   have dp:∀ l:List Int,PyData.depthAll (toPDs (l.map D.int))=0:=fun l=>by
    induction l with
    | nil=>rfl
    | cons a l ih=>simp only [mC_,toPDs,zG,PyData.depthAll,PyData.depth,ih];rfl
   rw [e,Bool.and_eq_true] at o
   refine ⟨?_,?_⟩
   ·simp only [mC_,t3D,ldD,toPDs,zG,PyData.canLayAll0,PyData.canLay0,o.1,ih.1,Bool.and_self]
   ·simp only [mC_,t3D,ldD,toPDs,zG,PyData.depthAll,PyData.depth,dp]
    have:=ih.2
    omega
 obtain ⟨h1,h2⟩:=hx l
 have o1:u3 (.lst (l.map t3D))=true:=by
  have e:u3 (.lst (l.map t3D))=(PyData.canLayAll0 (toPDs (l.map t3D))&&decide (PyData.depthAll (toPDs (l.map t3D))+1<=50)):=by
   simp only [u3,zG,PyData.canLay0,PyData.depth]
  rw [e,h1,decide_eq_true (by omega)]
  rfl
 have e:eqB (.lst (l.map t3D)) (.lst [])=eqA (.lst (l.map t3D)) (.lst []):=rfl
 rw [e]
 unfold eqA
 rw [o1]
 cases l with
 | nil=>rfl
 | cons n l=>rfl
theorem qj7 {l:List T3} {y:T3} (h:l.getLast? = some y):atI (l.map t3D) (-1)=some (t3D y):=by
 have hne:l≠[]:=fun e=>by rw [e] at h;cases h
 have hl:0<l.length:=List.length_pos_iff.mpr hne
 have e:l[l.length-1]? = some y:=by rw [<- List.getLast?_eq_getElem?];exact h
 unfold atI ixN
 rw [if_neg (by omega),lM_]
 split
 ·have e2:((-1:Int)+(l.length:Int)).toNat=l.length-1:=by omega
  show (l.map t3D)[((-1:Int)+(l.length:Int)).toNat]? = _
  rw [e2,gM_,e]
  rfl
 ·omega
theorem qgi (T:Option D) (kept:List T3) (x:T3) (hl:kept.length<=1000):(sif (tor (qa8 (tst (d2 eqB (dv 1) (y7 (ret []))))) (tst (d2 gtD (d2 ixD (dv 2) (ret (.int 1))) (d2 ixD (qcy 1 (d1 qeA (ret (.int 1)))) (ret (.int 1)))))) (jI (zS 1 (dv 2))) yC) [T,some (.lst (kept.map t3D)),some (t3D x)] = .ok (.nx [T,some (.lst ((vi kept x).map t3D)),some (t3D x)]):=by
 let U:Env:=[T,some (.lst (kept.map t3D)),some (t3D x)]
 have ap:jI (zS 1 (dv 2)) U = .ok (.nx [T,some (.lst ((kept++[x]).map t3D)),some (t3D x)]):=by
  rw [qca (ds:=kept.map t3D) (d:=t3D x) rfl rfl (qiI x) (by rw [lM_];omega),List.map_append]
  rfl
 have t1:qa8 (tst (d2 eqB (dv 1) (y7 (ret [])))) U = .ok (kept.isEmpty,U):=by
  refine qm6 (uk (qC rfl (b := .lst []) ?_ (qnm kept)))
  rw [qfp]
  simp only [qbW,lN_,zt (show 0<=1000000 by omega),if_true]
 show sif _ _ _ U=_
 unfold vi
 cases e:kept.getLast? with
 | none =>
  have hk:kept=[]:=List.getLast?_eq_none_iff.mp e
  rw [hk] at t1 ap
  subst hk
  rw [qki (qos t1),ap]
  rfl
 | some y =>
  have hne:kept.isEmpty=false:=by
   cases kept with
   | nil=>cases e
   | cons a l=>rfl
  rw [hne] at t1
  have ix:d2 ixD (qcy 1 (d1 qeA (ret (.int 1)))) (ret (.int 1)) U = .ok (.int y.2.1,U):=by
   refine qC (a:=t3D y) ?_ rfl (qhI y)
   have n1:d1 qeA (ret (.int 1)) U = .ok (.int (-1),U):=rfl
   have gl:zf 1 U=some (kept.map t3D):=rfl
   rw [qfw]
   simp only [gl,n1,qj7 e]
  have t2:tst (d2 gtD (d2 ixD (dv 2) (ret (.int 1))) (d2 ixD (qcy 1 (d1 qeA (ret (.int 1)))) (ret (.int 1)))) U = .ok (decide (y.2.1<x.2.1),U):=uk (qC (qC rfl rfl (qhI x)) ix (vG _ _))
  dsimp only
  by_cases c:y.2.1<x.2.1
  ·rw [decide_eq_true c] at t2
   rw [if_pos c]
   have:tor (qa8 (tst (d2 eqB (dv 1) (y7 (ret []))))) (tst (d2 gtD (d2 ixD (dv 2) (ret (.int 1))) (d2 ixD (qcy 1 (d1 qeA (ret (.int 1)))) (ret (.int 1))))) U = .ok (true,U):=by rw [qfr,t1];exact t2
   rw [qki this,ap]
  ·rw [decide_eq_false c] at t2
   rw [if_neg c,ql3 (qnU t1 t2)]
   rfl
theorem qbp:∀ (L kept:List T3),(L.foldl vi kept).length<=kept.length+L.length
 | [],kept=>Nat.le_refl _
 | x :: L,kept=>by
  rw [fo_,lC_]
  have:=qbp L (vi kept x)
  have h2:(vi kept x).length<=kept.length+1:=by
   unfold vi
   cases e:kept.getLast? with
   | none=>simp
   | some y =>
    dsimp only
    split<;>simp
  omega
theorem qbq {ks:List Kw} (h:∀ k∈ks,sgK k) (hl:ks.length<=5):(jt ks).length<=32:=by
 unfold jt
 rw [lM_]
 exact Nat.le_trans (vo h) (Nat.le_trans (Nat.pow_le_pow_right (by decide) hl) (by decide))
theorem qcX {ks:List Kw} (h:∀ k∈ks,sgK k) (hl:ks.length<=5):(nbL ks).length<=32:=by
 have h1:=qbp (srt (jt ks)) []
 have h2:=(vj (jt ks)).length_eq
 have h3:=qbq h hl
 have:(nbL ks).length=((srt (jt ks)).foldl vi []).length:=rfl
 simp only [lN_] at h1
 omega
theorem vp {ks:List Kw} (h:∀ k∈ks,sgK k) (hl:ks.length<=5):jG [.tup (ks.map kw)] = .ok (.lst ((nbL ks).map t3D)):=by
 let T:Option D:=some (.tup (ks.map kw))
 have h32:=qbq h hl
 have hsl:=(vj (jt ks)).length_eq
 obtain ⟨U',q,o2,hk,rfl⟩:=jm (G:=ql 2) (b:=(sif (tor (qa8 (tst (d2 eqB (dv 1) (y7 (ret []))))) (tst (d2 gtD (d2 ixD (dv 2) (ret (.int 1))) (d2 ixD (qcy 1 (d1 qeA (ret (.int 1)))) (ret (.int 1)))))) (jI (zS 1 (dv 2))) yC)) (k:=t3D) (step:=vi) (Inv:=fun n kept U=>∃ o2,kept.length<=n/\U=[T,some (.lst (kept.map t3D)),o2]) (srt (jt ks)) 0 [] [T,some (.lst []),none] ⟨none,Nat.le_refl _,rfl⟩ (fun x _ n kept U _ hn=>by
  rintro ⟨o2,hk,rfl⟩
  refine ⟨[T,some (.lst (kept.map t3D)),some (t3D x)],_,rfl,qgi T kept x (by omega),some (t3D x),?_,rfl⟩
  have:=qbp [x] kept
  simp only [fo_,List.foldl_nil,List.length_singleton] at this
  omega)
 unfold jG uo
 refine v6 rfl ⟨[T,some (.lst ((nbL ks).map t3D)),o2],?_⟩
 refine (qu (U':=[T,some (.lst []),none]) ?_).trans ?_
 ·push_cast [immL,zt (show 0<=1000000 by omega),Bool.and_self,T]
 refine (qu (U':=[T,some (.lst ((nbL ks).map t3D)),o2]) ?_).trans ?_
 ·have c:qb3 zw (qp jn (qa (dv 0) (ret []))) [T,some (.lst []),none] = .ok (.lst ((srt (jt ks)).map t3D),[T,some (.lst []),none]):=by
   rw [qht (uj rfl (qai h (by omega))) (by rw [lM_];omega) (qgh (jt ks)),qhM]
  rw [jQ,qaB,c]
  exact q
 ·rfl
theorem qhN (ks:List Kw) (hl:ks.length<=12):yt [.tup (ks.map kw)] = .ok (.tup ((ks.take (ks.length/2)).map kw)):=by
 unfold yt uq
 let U:Env:=[some (.tup (ks.map kw))]
 refine v6 rfl ⟨U,vm ?_⟩
 have n2:d2 yn (qJ qat (qa (dv 0) (ret []))) (ret (.int 2)) U = .ok (.int ((ks.length/2:Nat):Int),U):=qC (vg rfl (by rw [jR,lM_])) rfl (by rw [yh (by decide) (by decide)];rfl)
 have p:uI (d2 yn (qJ qat (qa (dv 0) (ret []))) (ret (.int 2))) U = .ok (some ((ks.length/2:Nat):Int),U):=by rw [wM,n2]
 have v:dv 0 U = .ok (.tup (ks.map kw),U):=rfl
 have c:=qdK (ks.map kw) (ks.length/2) (by rw [lM_];omega)
 have z:qfL (dv 0) (ret none) (uI (d2 yn (qJ qat (qa (dv 0) (ret []))) (ret (.int 2)))) U = .ok (.tup ((ks.map kw).take (ks.length/2)),U):=by
  rw [qdr]
  simp only [v,qbW,p,slB,c]
 rw [List.map_take]
 exact z
theorem qgj (ks:List Kw) (hl:ks.length<=12):jS [.tup (ks.map kw)] = .ok (.tup ((ks.drop (ks.length/2)).map kw)):=by
 unfold jS yO
 let U:Env:=[some (.tup (ks.map kw))]
 refine v6 rfl ⟨U,vm ?_⟩
 have n2:d2 yn (qJ qat (qa (dv 0) (ret []))) (ret (.int 2)) U = .ok (.int ((ks.length/2:Nat):Int),U):=qC (vg rfl (by rw [jR,lM_])) rfl (by rw [yh (by decide) (by decide)];rfl)
 have p:uI (d2 yn (qJ qat (qa (dv 0) (ret []))) (ret (.int 2))) U = .ok (some ((ks.length/2:Nat):Int),U):=by rw [wM,n2]
 have v:dv 0 U = .ok (.tup (ks.map kw),U):=rfl
 have c:=qdL (ks.map kw) (ks.length/2) (by rw [lM_];omega)
 have z:qfL (dv 0) (uI (d2 yn (qJ qat (qa (dv 0) (ret []))) (ret (.int 2)))) (ret none) U = .ok (.tup ((ks.map kw).drop (ks.length/2)),U):=by
  rw [qdr]
  simp only [v,qbW,p,slB,c]
 rw [List.map_drop]
 exact z
theorem xx1 {F:List D->R D} {l:M (List D)} {U:Env} {ds:List D} {d:D} (hl:l U = .ok (ds,U)) (h:F ds = .ok d):jI (u7 RN F l) U = .ok (.nx U):=by
 rw [uK,va,hl]
 simp only [h]
theorem qdP {ks:List Kw} (h:∀ k∈ks,1<=k.w/\0<=k.v/\∀ j,k.m=some j->0<=j) (hl:ks.length<=12):yK (.tup (ks.map kw))=true:=by
 have e:ks.map kw=(ks.map fun k=>(k.w,k.v,k.m)).map kD:=by rw [mm_];rfl
 rw [e]
 refine qep (fun x hx => ?_) (by rw [lM_];exact hl)
 obtain ⟨k,hk,rfl⟩:=mP_.mp hx
 obtain ⟨h1,h2,h3⟩:=h k hk
 exact ⟨by show 0<k.w;omega,h2,h3⟩
theorem qhO {ks:List Kw} (h:∀ k∈ks,sgK k) (hl:ks.length<=12):yK (.tup (ks.map kw))=true:=qdP (fun k hk=>⟨(h k hk).1,(h k hk).2.1,(h k hk).kd.2⟩) hl
def qiK (k:Kw):Bool:=decide (k.m=some 0)||decide (k.m=some 1)
theorem w8 {ks:List Kw} (h:∀ k∈ks,k.m=some 0\/k.m=some 1\/k.m=some 2\/k.m=none\/k.m=some 3) (hl:ks.length<=12) (U:Env) (hρ:U=[some (.tup (ks.map kw))]):tst (qJ qex (qa (zX 1 [] none (yF (dv 0)) (ql 0) (ret true) (d2 inB (d2 ixD (dv 0) (ret (.int 2))) (zL (qa (ret (.int 0)) (qa (ret (.int 1)) (ret [])))))) (ret []))) U = .ok (ks.all qiK,U):=by
 subst hρ
 have c:=qaI (e:=d2 inB (d2 ixD (dv 0) (ret (.int 2))) (zL (qa (ret (.int 0)) (qa (ret (.int 1)) (ret []))))) (fr:=[]) (U:=[some (.tup (ks.map kw))]) (r:=[]) (xs:=yF (dv 0)) (k:=kw) ks (fun k=>D.bl (qiK k)) rfl rfl (by omega) fun k hk=>by
  refine qC (qC rfl rfl (qme k)) (qmy rfl rfl) ?_
  unfold qiK
  rcases h k hk with e | e | e | e | e<;>rw [e]<;>rfl
 exact uk (vg c qhC)
theorem qmi {ks:List Kw} (h:∀ k∈ks,sgK k):ks.all qiK=true:=by
 rw [List.all_eq_true]
 intro k hk
 unfold qiK
 rcases (h k hk).2.2 with e | e<;>rw [e]<;>rfl
theorem qdQ {ks:List Kw} (h:∀ k∈ks,sgK k):∀ k∈ks,k.m=some 0\/k.m=some 1\/k.m=some 2\/k.m=none\/k.m=some 3:=fun k hk=>by
 rcases (h k hk).2.2 with e | e
 ·exact .inl e
 ·exact .inr (.inl e)
theorem qaj {ks:List Kw} (h:∀ k∈ks,sgK k) (hl:ks.length<=12):jo [.tup (ks.map kw)] = .ok .non:=by
 have c:=w8 (qdQ h) hl _ rfl
 rw [qmi h] at c
 have e:zA [some (.tup (ks.map kw))] = .ok (.nx [some (.tup (ks.map kw))]):=by
  unfold zA
  have tn:=(qbX (t:=tst (qJ qex (qa (zX 1 [] none (yF (dv 0)) (ql 0) (ret true) (d2 inB (d2 ixD (dv 0) (ret (.int 2))) (zL (qa (ret (.int 0)) (qa (ret (.int 1)) (ret [])))))) (ret [])))) (U:=[some (.tup (ks.map kw))]))
  rw [c] at tn
  exact ql3 tn
 first
 | exact qiu rfl ⟨_,e⟩
 | (show (match zA [some (.tup (ks.map kw))] with | .ok (.rt d _)=>R.ok d | .ok (.nx _) => .ok .non | _ => .bad)=_;rw [e])
section
variable {ks:List Kw} (h:∀ k∈ks,sgK k) (hl:ks.length<=10)
include h hl
theorem w9:(∀ k∈ks.take (ks.length/2),sgK k)/\(∀ k∈ks.drop (ks.length/2),sgK k)/\(ks.take (ks.length/2)).length<=5/\(ks.drop (ks.length/2)).length<=5:=by
 refine ⟨fun k hk=>h k (List.mem_of_mem_take hk),fun k hk=>h k (List.mem_of_mem_drop hk),?_,?_⟩
 ·rw [List.length_take];omega
 ·rw [List.length_drop];omega
theorem qbr:je [.tup (ks.map kw)] = .ok (.tup [.lst ((nbL (ks.take (ks.length/2))).map t3D),.lst ((nbL (ks.drop (ks.length/2))).map t3D)]):=by
 obtain ⟨h1,h2,l1,l2⟩:=w9 h hl
 unfold je jH
 let U:Env:=[some (.tup (ks.map kw))]
 have g0:qa (dv 0) (ret []) U = .ok ([.tup (ks.map kw)],U):=uM rfl
 refine qm4 rfl ⟨U,?_⟩
 refine (qu (U':=U) (xx1 g0 (vn _ (qhO h (by omega))))).trans ?_
 refine (qu (U':=U) (xx1 g0 (qaj h (by omega)))).trans ?_
 exact vm (qmy (uj (uj rfl (qhN ks (by omega))) (vp h1 l1)) (uj (uj rfl (qgj ks (by omega))) (vp h2 l2)))
end
def qD (p:List Int×Int):D := .tup [ldD p.1,.int p.2]
def yU (k:Kw) (p:List Int×Int):List (List Int×Int):=(List.range (ofn k p.2+1)).map fun (t:Nat)=>(p.1++[(t:Int)],p.2-(t:Int)*k.w)
theorem qbs (k:Kw) (F:List (List Int×Int)):vh k F=F.flatMap (yU k):=rfl
def qhP (k:Kw):Prop:=sgK k/\k.w<=10000000000000000000000
theorem qhQ {G:Int} (g:G<=100000000000000000000) {k:Kw} (h:sgB G k):qhP k:=⟨h.1,by have:=h.2.1;omega⟩
theorem qmj {k:Kw} (h:sgK k) (s:Int):ofn k s<=1:=by
 unfold ofn
 rcases h.2.2 with q | q<;>rw [q]<;>simp only<;>split<;>omega
structure okF (n:Nat) (F:List (List Int×Int)):Prop where
 bd:∀ p∈F,0<=p.2/\p.1.length=n/\∀ t∈p.1,t=0\/t=1
 len:F.length<=2 ^ n
theorem vO {k:Kw} (hk:sgK k) {n:Nat} {p:List Int×Int} (h:0<=p.2/\p.1.length=n/\∀ t∈p.1,t=0\/t=1):(yU k p).length<=2/\∀ q∈yU k p,0<=q.2/\q.1.length=n+1/\∀ t∈q.1,t=0\/t=1:=by
 have hn:=qmj hk p.2
 refine ⟨by unfold yU;rw [lM_,lR_];omega,fun q hq => ?_⟩
 obtain ⟨t,ht,rfl⟩:=mP_.mp hq
 have ht':t<=ofn k p.2:=by have:=mR_.mp ht;omega
 obtain ⟨g1,_⟩:=qiE hk.kd.1 hk.kd.2 h.1 ht'
 refine ⟨by show 0<=p.2-(t:Int)*k.w;omega,by rw [lA_,List.length_singleton,h.2.1],fun x hx => ?_⟩
 rcases mA_.mp hx with hx | hx
 ·exact h.2.2 x hx
 ·have:x=(t:Int):=by simpa using hx
  omega
theorem qdR {α β:Type} {f:α->List β}:∀ l:List α,(∀ a∈l,(f a).length<=2)->(l.flatMap f).length<=l.length*2
 | [],_=>by simp
 | a::l,h=>by
  have h1:=h a mS_
  have h2:=qdR l fun x hx=>h x (mM _ hx)
  rw [fC_,lA_,lC_,Nat.succ_mul]
  omega
theorem okF.step {k:Kw} (hk:sgK k) {n:Nat} {F:List (List Int×Int)} (h:okF n F):okF (n+1) (vh k F):=by
 refine ⟨fun q hq => ?_,?_⟩
 ·rw [qbs] at hq
  obtain ⟨p,hp,hq⟩:=List.mem_flatMap.mp hq
  exact (vO hk (h.bd p hp)).2 q hq
 ·rw [qbs,Nat.pow_succ]
  exact Nat.le_trans (qdR F fun p hp=>(vO hk (h.bd p hp)).1) (Nat.mul_le_mul_right _ h.len)
theorem qj8 (m:Option Int):qgO (mD m) .non=some (.bl (!m.isNone)):=by rw [qcL,qhB]
theorem qj9 (T Rm:Option D) {k:Kw} (hk:qhP k) {n:Nat} (hn:n<=11) {F:List (List Int×Int)} (h:okF n F) (o6 o7 o8 o9:Option D) :
  ∃ q7 q8 q9,(qZ (zM 6 (y7 (ret []))) (qZ (vw (yF (dv 2)) (qaY 2 (zo (ql 7) (zo (ql 8) qaX))) (qZ (zM 9 (d2 yn (dv 8) (dv 3))) (qZ (sif (tst (d2 qgO (dv 5) (ret .non))) (zM 9 (qJ uG (qa (dv 9) (qa (dv 5) (ret []))))) yC) (zM 6 (d2 zB (dv 6) (zX 1 [7,8,3] none (js (qa (d2 zB (dv 9) (ret (.int 1))) (ret []))) (ql 0) (ret true) (zL (qa (d2 zB (dv 1) (zL (qa (dv 0) (ret [])))) (qa (d2 qgM (dv 2) (d2 y9 (dv 0) (dv 3))) (ret [])))))))))) (zM 2 (dv 6)))) [T,Rm,some (.lst (F.map qD)),some (.int k.w),some (.int k.v),some (mD k.m),o6,o7,o8,o9] = .ok (.nx [T,Rm,some (.lst ((vh k F).map qD)),some (.int k.w),some (.int k.v),some (mD k.m),some (.lst ((vh k F).map qD)),q7,q8,q9]):=by
 have hF:F.length<=2048:=Nat.le_trans h.len (Nat.le_trans (Nat.pow_le_pow_right (by omega) hn) (by decide))
 have hw1:=hk.1.1
 have hw2:=hk.2
 let Fd:Option D:=some (.lst (F.map qD))
 let A:Option D:=some (.int k.w)
 let B:Option D:=some (.int k.v)
 let Mo:Option D:=some (mD k.m)
 obtain ⟨U',q,o7',o8',o9',hlen,rfl⟩:=jm (G:=qaY 2 (zo (ql 7) (zo (ql 8) qaX))) (b:=(qZ (zM 9 (d2 yn (dv 8) (dv 3))) (qZ (sif (tst (d2 qgO (dv 5) (ret .non))) (zM 9 (qJ uG (qa (dv 9) (qa (dv 5) (ret []))))) yC) (zM 6 (d2 zB (dv 6) (zX 1 [7,8,3] none (js (qa (d2 zB (dv 9) (ret (.int 1))) (ret []))) (ql 0) (ret true) (zL (qa (d2 zB (dv 1) (zL (qa (dv 0) (ret [])))) (qa (d2 qgM (dv 2) (d2 y9 (dv 0) (dv 3))) (ret [])))))))))) (k:=qD) (step:=fun acc p=>acc++yU k p) (Inv:=fun m acc U=>∃ o7 o8 o9,acc.length<=m*2/\U=[T,Rm,Fd,A,B,Mo,some (.lst (acc.map qD)),o7,o8,o9]) F 0 [] [T,Rm,Fd,A,B,Mo,some (.lst []),o7,o8,o9] ⟨o7,o8,o9,Nat.le_refl _,rfl⟩ (fun p hp m acc U _ hm=>by
  rintro ⟨o7,o8,o9,hacc,rfl⟩
  obtain ⟨b0,b2,_⟩:=h.bd p hp
  have hof:=qmj hk.1 p.2
  have so:=vO hk.1 (h.bd p hp)
  have hd:0<=p.2/k.w:=Int.ediv_nonneg b0 (by omega)
  let Ac:Option D:=some (.lst (acc.map qD))
  let Ld:Option D:=some (ldD p.1)
  let Lf:Option D:=some (.int p.2)
  let U1:Env:=[T,Rm,Fd,A,B,Mo,Ac,Ld,Lf,o9]
  let U2:Env:=[T,Rm,Fd,A,B,Mo,Ac,Ld,Lf,some (.int (p.2/k.w))]
  let U3:Env:=[T,Rm,Fd,A,B,Mo,Ac,Ld,Lf,some (.int (ofn k p.2:Nat))]
  have e1:(zM 9 (d2 yn (dv 8) (dv 3))) U1 = .ok (.nx U2):=by
   have c:d2 yn (dv 8) (dv 3) U1 = .ok (.int (p.2/k.w),U1):=qC rfl rfl (yh (by omega) (by omega))
   rw [wL,c]
   rfl
  have e2:(sif (tst (d2 qgO (dv 5) (ret .non))) (zM 9 (qJ uG (qa (dv 9) (qa (dv 5) (ret []))))) yC) U2 = .ok (.nx U3):=by
   obtain ⟨j,em,hj⟩:∃ j,k.m=some j/\0<=j:=by rcases hk.1.2.2 with q | q<;>exact ⟨_,q,by decide⟩
   have c1:d2 qgO (dv 5) (ret .non) U2 = .ok (.bl (!k.m.isNone),U2):=qC rfl rfl (qj8 k.m)
   have e:((ofn k p.2:Nat):Int)=if j<p.2/k.w then j else p.2/k.w:=by
    unfold ofn
    rw [em]
    show ((if j<p.2/k.w then j else p.2/k.w).toNat:Int)=_
    split<;>omega
   rw [em] at c1
   rw [qki (uk c1)]
   have c2:qJ uG (qa (dv 9) (qa (dv 5) (ret []))) U2 = .ok (.int (ofn k p.2:Nat),U2):=by
    have hv:dv 5 U2 = .ok (.int j,U2):=by
     show R.ok (mD k.m,U2)=_
     rw [em]
     rfl
    rw [wK,qf4 rfl hv]
    show (match uG [.int (p.2/k.w),.int j] with | some d=>R.ok (d,U2) | none => .bad)=_
    rw [qdE,e]
   rw [wL,c2]
   rfl
  have e3:(zM 6 (d2 zB (dv 6) (zX 1 [7,8,3] none (js (qa (d2 zB (dv 9) (ret (.int 1))) (ret []))) (ql 0) (ret true) (zL (qa (d2 zB (dv 1) (zL (qa (dv 0) (ret [])))) (qa (d2 qgM (dv 2) (d2 y9 (dv 0) (dv 3))) (ret []))))))) U3 = .ok (.nx [T,Rm,Fd,A,B,Mo,some (.lst ((acc++yU k p).map qD)),Ld,Lf,some (.int (ofn k p.2:Nat))]):=by
   have rg:js (qa (d2 zB (dv 9) (ret (.int 1))) (ret [])) U3 = .ok ((List.range (ofn k p.2+1)).map fun t:Nat=>D.int (t:Nat),U3):=by
    rw [yL (uM (qC rfl rfl (jk _ _))) (by omega) (by omega)]
    have:((ofn k p.2:Nat)+1:Int).toNat=ofn k p.2+1:=by omega
    rw [this,qnk]
   have c:zX 1 [7,8,3] none (js (qa (d2 zB (dv 9) (ret (.int 1))) (ret []))) (ql 0) (ret true) (zL (qa (d2 zB (dv 1) (zL (qa (dv 0) (ret [])))) (qa (d2 qgM (dv 2) (d2 y9 (dv 0) (dv 3))) (ret [])))) U3 = .ok (.lst ((List.range (ofn k p.2+1)).map fun (t:Nat)=>qD (p.1++[(t:Int)],p.2-(t:Int)*k.w)),U3):=by
    refine qaI (r:=[Ld,Lf,A]) (k:=fun t:Nat=>D.int (t:Nat)) _ _ rg rfl (by rw [lR_];omega) fun t ht => ?_
    have ht':t<=ofn k p.2:=by have:=mR_.mp ht;omega
    have ad:zB (ldD p.1) (.tup [.int (t:Nat)])=some (ldD (p.1++[(t:Int)])):=by
     unfold ldD
     rw [v7 (by rw [lM_,b2];simp;omega),List.map_append]
     rfl
    have t1:zL (qa (dv 0) (ret [])) [some (.int (t:Nat)),Ld,Lf,A] = .ok (.tup [.int (t:Nat)],[some (.int (t:Nat)),Ld,Lf,A]):=by
     rw [wJ,uM rfl]
     simp only [lC_,lN_,Nat.zero_add,zt (show 1<=1000000 by omega),if_true]
    exact qmy (qC rfl t1 ad) (qC rfl (qC rfl rfl (qcO (vH (by omega) (by omega)))) (qhw _ _))
   have ml:(yU k p).map qD=(List.range (ofn k p.2+1)).map fun (t:Nat)=>qD (p.1++[(t:Int)],p.2-(t:Int)*k.w):=by
    unfold yU
    rw [mm_]
    rfl
   rw [<- ml] at c
   have c2:(d2 zB (dv 6) (zX 1 [7,8,3] none (js (qa (d2 zB (dv 9) (ret (.int 1))) (ret []))) (ql 0) (ret true) (zL (qa (d2 zB (dv 1) (zL (qa (dv 0) (ret [])))) (qa (d2 qgM (dv 2) (d2 y9 (dv 0) (dv 3))) (ret [])))))) U3 = .ok (.lst ((acc++yU k p).map qD),U3):=qC rfl c (by rw [qdC (by rw [lM_,lM_];have:=so.1;omega),List.map_append])
   rw [wL,c2]
   rfl
  refine ⟨U1,_,rfl,(qu e1).trans ((qu e2).trans e3),Ld,Lf,some (.int (ofn k p.2:Nat)),?_,rfl⟩
  rw [lA_]
  have:=so.1
  omega)
 rw [qbo,List.nil_append,<- qbs] at q
 refine ⟨o7',o8',o9',?_⟩
 refine (qu (U':=[T,Rm,Fd,A,B,Mo,some (.lst []),o7,o8,o9]) ?_).trans ?_
 ·push_cast [zt (show 0<=1000000 by omega),Fd,A,B,Mo]
 refine (qu (U':=[T,Rm,Fd,A,B,Mo,some (.lst ((vh k F).map qD)),o7',o8',o9']) ?_).trans ?_
 ·rw [jQ]
  exact q
 ·rfl
def qaa (ks:List Kw) (r:Int):List (List Int×Int):=ks.foldl (fun f k=>vh k f) [([],r)]
theorem uP {ks:List Kw} (h:∀ k∈ks,qhP k) (hl:ks.length<=12) {r:Int} (hr:0<=r):zH [.tup (ks.map kw),.int r] = .ok (.lst ((qaa ks r).map fun p=>ldD p.1))/\okF ks.length (qaa ks r):=by
 let T:Option D:=some (.tup (ks.map kw))
 let Rm:Option D:=some (.int r)
 have loop:∀ (b:List Kw) (n:Nat) (F:List (List Int×Int)) (o3 o4 o5 o6 o7 o8 o9:Option D),(∀ k∈b,qhP k)->okF n F->n+b.length<=12->∃ o3' o4' o5' o6' o7' o8' o9',yx (qaY 3 (zo (ql 3) (zo (ql 4) (zo (ql 5) qaX)))) (qZ (zM 6 (y7 (ret []))) (qZ (vw (yF (dv 2)) (qaY 2 (zo (ql 7) (zo (ql 8) qaX))) (qZ (zM 9 (d2 yn (dv 8) (dv 3))) (qZ (sif (tst (d2 qgO (dv 5) (ret .non))) (zM 9 (qJ uG (qa (dv 9) (qa (dv 5) (ret []))))) yC) (zM 6 (d2 zB (dv 6) (zX 1 [7,8,3] none (js (qa (d2 zB (dv 9) (ret (.int 1))) (ret []))) (ql 0) (ret true) (zL (qa (d2 zB (dv 1) (zL (qa (dv 0) (ret [])))) (qa (d2 qgM (dv 2) (d2 y9 (dv 0) (dv 3))) (ret [])))))))))) (zM 2 (dv 6)))) (b.map kw) [T,Rm,some (.lst (F.map qD)),o3,o4,o5,o6,o7,o8,o9] = .ok (.nx [T,Rm,some (.lst ((b.foldl (fun f k=>vh k f) F).map qD)),o3',o4',o5',o6',o7',o8',o9'])/\okF (n+b.length) (b.foldl (fun f k=>vh k f) F):=fun b=>by
  induction b with
  | nil=>intro n F o3 o4 o5 o6 o7 o8 o9 _ hF _;exact ⟨o3,o4,o5,o6,o7,o8,o9,rfl,hF⟩
  | cons k b ih =>
   intro n F o3 o4 o5 o6 o7 o8 o9 hb hF hn
   have hn':n+(b.length+1)<=12:=hn
   have hk:=hb k mS_
   obtain ⟨q7,q8,q9,e⟩:=qj9 T Rm hk (by omega) hF o6 o7 o8 o9
   obtain ⟨p3,p4,p5,p6,p7,p8,p9,q,g⟩:=ih (n+1) (vh k F) (some (.int k.w)) (some (.int k.v)) (some (mD k.m)) (some (.lst ((vh k F).map qD))) q7 q8 q9 (fun x hx=>hb x (mM _ hx)) (hF.step hk.1) (by omega)
   refine ⟨p3,p4,p5,p6,p7,p8,p9,?_,?_⟩
   ·rw [mC_,wU rfl e,q]
    rfl
   ·rw [fo_,lC_,show n+(b.length+1)=n+1+b.length by omega]
    exact g
 have h0:okF 0 [([],r)]:=⟨fun p hp=>by
  rw [ms_] at hp
  subst hp
  exact ⟨hr,rfl,fun t ht=>absurd ht nN_⟩,Nat.le_refl _⟩
 obtain ⟨p3,p4,p5,p6,p7,p8,p9,q,g⟩:=loop ks 0 [([],r)] none none none none none none none h h0 (by omega)
 rw [Nat.zero_add] at g
 refine ⟨?_,g⟩
 have hln:(qaa ks r).length<=4096:=Nat.le_trans g.len (Nat.le_trans (Nat.pow_le_pow_right (by omega) hl) (by decide))
 unfold zH jN
 let U':Env:=[T,Rm,some (.lst ((qaa ks r).map qD)),p3,p4,p5,p6,p7,p8,p9]
 refine v6 rfl ⟨U',?_⟩
 refine (qu (U':=[T,Rm,some (.lst (([([],r)]:List (List Int×Int)).map qD)),none,none,none,none,none,none,none]) ?_).trans ?_
 ·push_cast [zt (show 0<=1000000 by omega),zt (show 1<=1000000 by omega),zt (show 2<=1000000 by omega),T,Rm]
  rfl
 refine (qu (U':=U') ?_).trans ?_
 ·rw [jQ]
  exact q
 ·have c:zX 2 [] none (yF (dv 2)) (qaY 2 (zo (ql 0) (zo (ql 1) qaX))) (ret true) (dv 0) U' = .ok (.lst ((qaa ks r).map fun p=>ldD p.1),U'):=by
   have:=qf7 (e:=dv 0) (t:=ret true) (xs:=yF (dv 2)) (fr:=[]) (U:=U') (r:=[]) (u:=fun p:List Int×Int=>ldD p.1) (v:=fun p=>D.int p.2) (qaa ks r) (fun _=>true) (fun p=>ldD p.1) rfl rfl (by omega) (fun _ _=>rfl) (fun _ _ _=>rfl)
   rw [uL] at this
   exact this
  rw [qaA,c]
def qiL (ks:List Kw) (i:Nat):Kw:=(ks[i]?).getD ⟨1,0,none⟩
def lAt (l:List Int) (i:Nat):Int:=(l[i]?).getD 0
theorem qdS (f:Kw->Int) {ks:List Kw} {l:List Int} (hl:ks.length=l.length):∀ n,n<=ks.length->(List.range n).foldl (fun s i=>s+f (qiL ks i)*lAt l i) 0=(((ks.take n).zip (l.take n)).map fun z=>f z.1*z.2).sum
 | 0,_=>rfl
 | n+1,h=>by
  rw [List.range_succ,List.foldl_append,qdS f hl n (by omega)]
  have h1:n<ks.length:=by omega
  have h2:n<l.length:=by omega
  rw [List.take_succ_eq_append_getElem h1,List.take_succ_eq_append_getElem h2,List.zip_append (by rw [List.length_take,List.length_take];omega),List.map_append,List.sum_append]
  have e1:qiL ks n=ks[n]:=by unfold qiL;rw [gG h1];rfl
  have e2:lAt l n=l[n]:=by unfold lAt;rw [gG h2];rfl
  simp only [fo_,List.foldl_nil,e1,e2]
  simp
theorem vq {ks:List Kw} (hl:ks.length<=12) {l:List Int} (hn:l.length=ks.length) (h01:∀ t∈l,t=0\/t=1) (c:Int) (f:Kw->Int) (hf:∀ k,ixD (kw k) (.int c)=some (.int (f k))):z5 [.tup (ks.map kw),ldD l,.int c] = .ok (.int ((ks.zip l).map fun z=>f z.1*z.2).sum):=by
 let T:Option D:=some (.tup (ks.map kw))
 let Ld:Option D:=some (ldD l)
 let O:Option D:=some (.int c)
 obtain ⟨U',q,o4,rfl⟩:=jm (G:=ql 4) (b:=(zM 3 (d2 zB (dv 3) (d2 y9 (d2 ixD (d2 ixD (dv 0) (dv 4)) (dv 2)) (d2 ixD (dv 1) (dv 4)))))) (k:=fun i:Nat=>D.int (i:Nat)) (step:=fun (s:Int) (i:Nat)=>s+f (qiL ks i)*lAt l i) (Inv:=fun n s U=>∃ o4,U=[T,Ld,O,some (.int s),o4]) (List.range ks.length) 0 0 [T,Ld,O,some (.int 0),none] ⟨none,rfl⟩ (fun i hi n s U _ _=>by
  rintro ⟨o4,rfl⟩
  have hi':=mR_.mp hi
  have k1:ks[i]? = some (qiL ks i):=by unfold qiL;rw [gG hi'];rfl
  have l1:l[i]? = some (lAt l i):=by unfold lAt;rw [gG (by omega)];rfl
  have g:=h01 _ (List.mem_of_getElem? l1)
  let U1:Env:=[T,Ld,O,some (.int s),some (.int (i:Nat))]
  have cc:(d2 zB (dv 3) (d2 y9 (d2 ixD (d2 ixD (dv 0) (dv 4)) (dv 2)) (d2 ixD (dv 1) (dv 4)))) U1 = .ok (.int (s+f (qiL ks i)*lAt l i),U1):=qC rfl (qC (qC (qC rfl rfl (qiC (by rw [gM_,k1];rfl))) rfl (hf _)) (qC rfl rfl (qiC (by rw [gM_,l1];rfl))) (qhz (vH (by rcases g with e | e<;>omega) (by rcases g with e | e<;>omega)))) (jk _ _)
  refine ⟨U1,[T,Ld,O,some (.int (s+f (qiL ks i)*lAt l i)),some (.int (i:Nat))],rfl,?_,_,rfl⟩
  rw [wL,cc]
  rfl)
 rw [qdS f hn.symm _ (Nat.le_refl _),List.take_length,<- hn,List.take_length] at q
 unfold z5 vM
 refine v6 rfl ⟨[T,Ld,O,some (.int ((ks.zip l).map fun z=>f z.1*z.2).sum),o4],?_⟩
 refine (qu (U':=[T,Ld,O,some (.int 0),none]) rfl).trans ?_
 refine (qu (U':=[T,Ld,O,some (.int ((ks.zip l).map fun z=>f z.1*z.2).sum),o4]) ?_).trans rfl
 rw [jQ,yL (j:=(ks.length:Nat)) (U1:=[T,Ld,O,some (.int 0),none]) (uM (vg (a := .tup (ks.map kw)) rfl (by rw [jR,lM_]))) (by omega) (by omega),Int.toNat_natCast,qnk,<- hn]
 exact q
theorem qes {ks:List Kw} (hl:ks.length<=12) {l:List Int} (hn:l.length=ks.length) (h01:∀ t∈l,t=0\/t=1):z5 [.tup (ks.map kw),ldD l,.int 0] = .ok (.int (qX ks l)):=by rw [vq hl hn h01 0 (·.w) qmc,qj5]
theorem qgk {ks:List Kw} (hl:ks.length<=12) {l:List Int} (hn:l.length=ks.length) (h01:∀ t∈l,t=0\/t=1):z5 [.tup (ks.map kw),ldD l,.int 1] = .ok (.int (jF ks l)):=by rw [vq hl hn h01 1 (·.v) qmd,qj6]
theorem qgl {β:Type} (ks:List Kw) (r:Int) (g:List Int->β):(qaa ks r).map (fun p=>g p.1)=(ul ks r).map g:=by
 rw [<- qcQ,mm_]
 rfl
theorem jg:RN.contains "NotSingle"=true:=by decide
theorem qab:yr [.exc "NotSingle"] = .ok (.str "single"):=by
 have f0:(("SackError":Str)=="ValueError"||u9 "NotSingle" "SackError")=true:=by decide
 have f1:(("ValueError":Str)=="ValueError"||u9 "NotSingle" "ValueError")=true:=by decide
 have f2:(("NoStore":Str)=="ValueError"||u9 "NotSingle" "NoStore")=false:=by decide
 have f3:(("NoNumber":Str)=="ValueError"||u9 "NotSingle" "NoNumber")=false:=by decide
 have f4:(("NoLoad":Str)=="ValueError"||u9 "NotSingle" "NoLoad")=false:=by decide
 have f5:(("TooMany":Str)=="ValueError"||u9 "NotSingle" "TooMany")=false:=by decide
 have f6:(("NotSingle":Str)=="ValueError"||u9 "NotSingle" "NotSingle")=true:=by decide
 have f7:(("NoText":Str)=="ValueError"||u9 "NotSingle" "NoText")=false:=by decide
 unfold yr
 refine v6 rfl ⟨[some (.exc "NotSingle"),some (.lst [.bl false,.bl false,.bl false,.bl false,.bl true,.bl false])],?_⟩
 unfold yq
 refine (qu (U':=[some (.exc "NotSingle"),none]) ?_).trans ?_
 ·push_cast [f0,f1,jg]
 refine (qu (U':=[some (.exc "NotSingle"),some (.lst [.bl false,.bl false,.bl false,.bl false])]) ?_).trans ?_
 ·push_cast [f2,f3,f4,f5,jg,zt (show 4<=1000000 by omega)]
 refine (qu (U':=[some (.exc "NotSingle"),some (.lst [.bl false,.bl false,.bl false,.bl false,.bl true,.bl false])]) ?_).trans ?_
 ·push_cast [f6,f7,jg,zt (show 2<=1000000 by omega),qdC (xs:=[.bl false,.bl false,.bl false,.bl false]) (ys:=[.bl true,.bl false]) (by simp)]
 have c1:qdl (.lst [.bl false,.bl false,.bl false,.bl false,.bl true,.bl false]) [.bl true]=some (.int 1):=rfl
 have c2:neS (.int 1) (.int 1)=some (.bl false):=rfl
 have c3:qdm (.lst [.bl false,.bl false,.bl false,.bl false,.bl true,.bl false]) [.bl true]=some (.int 4):=rfl
 have c4:ixD (.lst [.str "store",.str "number",.str "load",.str "many",.str "single",.str "text"]) (.int 4)=some (.str "single"):=rfl
 refine (qu (U':=[some (.exc "NotSingle"),some (.lst [.bl false,.bl false,.bl false,.bl false,.bl true,.bl false])]) ?_).trans ?_
 ·push_cast [c1,c2]
 ·push_cast [c3,c4,zt (show 6<=1000000 by omega)]
theorem qka (i j:Int):geD (.int i) (.int j)=some (.bl (decide (j<=i))):=rfl
theorem qnn (i j:Int):ltB (.int i) (.int j)=some (.bl (decide (i<j))):=rfl
theorem qno (a b:List Int):ltB (ldD a) (ldD b)=some (.bl (HT.lexLt a b)):=by
 unfold ldD ltB
 simp only [vf]
theorem qmk (a b:List Int):neB (ldD a) (ldD b)=some (.bl (decide (a≠b))):=by
 have e:neB (ldD a) (ldD b)=neA (ldD a) (ldD b):=rfl
 rw [e]
 unfold neA ldD
 rw [wV,wV]
 show some (D.bl (!PyData.eqv (.tuple (toPDs (a.map D.int))) (.tuple (toPDs (b.map D.int)))))=_
 rw [qhE,decide_not]
theorem qnV {t u:M Bool} {U:Env} {a b:Bool} (h1:t U = .ok (a,U)) (h2:u U = .ok (b,U)):qar t u U = .ok (a&&b,U):=by
 rw [qfq,h1]
 cases a
 ·rfl
 ·exact h2
theorem qnp {f g:M D} {U:Env} {a b:Bool} (h1:f U = .ok (.bl a,U)) (h2:g U = .ok (.bl b,U)):dor f g U = .ok (.bl (a||b),U):=by
 rw [qjB,h1]
 cases a
 ·exact h2
 ·rfl
theorem qdT {α:Type} (p:α->Bool):∀ (l:List α) (b:Bool),l.foldl (fun b y=>b||p y) b=(b||l.any p)
 | [],b=>by simp
 | a::l,b=>by rw [fo_,qdT p l,List.any_cons,Bool.or_assoc]
theorem qci {α:Type} (p:α->Bool):∀ (l acc:List α),l.foldl (fun acc x=>if p x=true then acc else acc++[x]) acc=acc++l.filter fun x => !p x
 | [],acc=>by simp
 | a::l,acc=>by
  rw [fo_,qci p l,ft_]
  cases p a<;>simp
theorem qcj {G:Int} (g0:0<=G):∀ {ks:List Kw} {l:List Int},(∀ k∈ks,sgB G k)->(∀ t∈l,t=0\/t=1)->jF ks l<=40*G*(ks.length:Int)/\qX ks l<=40*G*(ks.length:Int)
 | [],_,_,_=>by simp [jF,qX]
 | k::ks,[],_,_=>by
  have:0<=40*G*(((k::ks).length:Nat):Int):=Int.mul_nonneg (by omega) (by omega)
  exact ⟨this,this⟩
 | k::ks,t::l,hk,hl=>by
  obtain ⟨i1,i2⟩:=qcj g0 (ks:=ks) (l:=l) (fun k hk'=>hk k (mM _ hk')) fun x hx=>hl x (mM _ hx)
  obtain ⟨⟨a1,a2,_⟩,b1,b2⟩:=hk k mS_
  have e:40*G*(((k::ks).length:Nat):Int)=40*G*(ks.length:Int)+40*G:=by
   rw [lC_,Int.natCast_succ,Int.mul_add,Int.mul_one]
  rw [e]
  have m1:t*k.v<=40*G:=by rcases hl t mS_ with q | q<;>rw [q]<;>omega
  have m2:t*k.w<=40*G:=by rcases hl t mS_ with q | q<;>rw [q]<;>omega
  refine ⟨?_,?_⟩
  ·show t*k.v+jF ks l<=_
   omega
  ·show t*k.w+qX ks l<=_
   omega
def r60:Int:=1000000000000000000000000000000000000000000000000000000000000
theorem qnq:qfj (.int 10) (.int 60)=some (.int r60):=by
 have h:qg7 10 60=true:=by decide +kernel
 have e:(10:Int) ^ (60:Int).toNat=r60:=by decide +kernel
 simp only [qfj,qgL,h,if_true,e]
section
variable {ks:List Kw} {G:Int} (g0:1<=G) (g1:G<=100000000000000000000) (h:∀ k∈ks,sgB G k) (hl:ks.length<=5)
include g0 g1 h hl
theorem qdU {l:List Int} (hb:l∈z6 ks):0<=qX ks l/\0<=jF ks l/\qX ks l<=20000000000000000000000/\jF ks l<=20000000000000000000000:=by
 have hs:∀ k∈ks,sgK k:=fun k hk=>(h k hk).1
 obtain ⟨t1,t2⟩:=qcj (by omega) h (uN hs hb)
 obtain ⟨n1,n2⟩:=qga hs hb
 have tl:40*G*(ks.length:Int)<=40*100000000000000000000*5:=Int.mul_le_mul (by omega) (by omega) (by omega) (by omega)
 refine ⟨n1,n2,by omega,by omega⟩
theorem qgm:ul ks r60=z6 ks:=by
 have hs:∀ k∈ks,sgK k:=fun k hk=>(h k hk).1
 rw [qaL hs (by unfold r60;omega)]
 refine List.filter_eq_self.mpr fun l hb=>decide_eq_true ?_
 have:=(qdU g0 g1 h hl hb).2.2.1
 unfold r60
 omega
theorem qcY (U:Env) (hρ:U=[some (.tup (ks.map kw)),none,none,none,none,none,none,none]):(zX 1 [0] none (yF (qp zH (qa (dv 0) (qa (d2 qfj (ret (.int 10)) (ret (.int 60))) (ret []))))) (ql 0) (ret true) (zL (qa (qp z5 (qa (dv 1) (qa (dv 0) (qa (ret (.int 0)) (ret []))))) (qa (qp z5 (qa (dv 1) (qa (dv 0) (qa (ret (.int 1)) (ret []))))) (qa (dv 0) (ret [])))))) U = .ok (.lst ((jt ks).map t3D),U):=by
 subst hρ
 have hs:∀ k∈ks,sgK k:=fun k hk=>(h k hk).1
 obtain ⟨e1,_⟩:=uP (fun k hk=>qhQ g1 (h k hk)) (by omega) (r:=r60) (by unfold r60;omega)
 rw [qgl ks _ ldD,qgm g0 g1 h hl] at e1
 have p2:(z6 ks).length<=64:=Nat.le_trans (vo hs) (Nat.le_trans (Nat.pow_le_pow_right (by decide) hl) (by decide))
 have e:(jt ks).map t3D=(z6 ks).map fun l=>t3D (wg ks l):=by
  unfold jt
  rw [mm_]
  rfl
 rw [e]
 refine qaI (r:=[some (.tup (ks.map kw))]) (k:=ldD) (z6 ks) (fun l=>t3D (wg ks l)) ?_ rfl (by omega) fun l hb => ?_
 ·rw [qaB,ql2 rfl (qC rfl rfl qnq) e1]
  rfl
 ·exact qmz (qdJ rfl rfl rfl (qes (by omega) (v8 hb) (uN hs hb))) (qdJ rfl rfl rfl (qgk (by omega) (v8 hb) (uN hs hb))) rfl
end
theorem qet (T Ls Fo:Option D) (x y:T3) (b:Bool):(sif (qar (tst (d2 leD (d2 ixD (dv 7) (ret (.int 0))) (dv 3))) (qar (tst (d2 geD (d2 ixD (dv 7) (ret (.int 1))) (dv 4))) (tst (d2 neB (d2 ixD (dv 7) (ret (.int 2))) (dv 5))))) (zM 6 (dor (dv 6) (dor (d2 ltB (d2 ixD (dv 7) (ret (.int 0))) (dv 3)) (dor (d2 gtD (d2 ixD (dv 7) (ret (.int 1))) (dv 4)) (d2 ltB (d2 ixD (dv 7) (ret (.int 2))) (dv 5)))))) yC) [T,Ls,Fo,some (.int x.1),some (.int x.2.1),some (ldD x.2.2),some (.bl b),some (t3D y)] = .ok (.nx [T,Ls,Fo,some (.int x.1),some (.int x.2.1),some (ldD x.2.2),some (.bl (b||wrs x y)),some (t3D y)]):=by
 let U:Env:=[T,Ls,Fo,some (.int x.1),some (.int x.2.1),some (ldD x.2.2),some (.bl b),some (t3D y)]
 have y0:d2 ixD (dv 7) (ret (.int 0)) U = .ok (.int y.1,U):=qC rfl rfl (qmg y)
 have y1:d2 ixD (dv 7) (ret (.int 1)) U = .ok (.int y.2.1,U):=qC rfl rfl (qhI y)
 have y2:d2 ixD (dv 7) (ret (.int 2)) U = .ok (ldD y.2.2,U):=qC rfl rfl (qmh y)
 have t:(qar (tst (d2 leD (d2 ixD (dv 7) (ret (.int 0))) (dv 3))) (qar (tst (d2 geD (d2 ixD (dv 7) (ret (.int 1))) (dv 4))) (tst (d2 neB (d2 ixD (dv 7) (ret (.int 2))) (dv 5))))) U = .ok (decide (y.1<=x.1)&&(decide (x.2.1<=y.2.1)&&decide (y.2.2≠x.2.2)),U):=qnV (uk (qC y0 rfl (qcM _ _))) (qnV (uk (qC y1 rfl (qka _ _))) (uk (qC y2 rfl (qmk _ _))))
 have s:(dor (dv 6) (dor (d2 ltB (d2 ixD (dv 7) (ret (.int 0))) (dv 3)) (dor (d2 gtD (d2 ixD (dv 7) (ret (.int 1))) (dv 4)) (d2 ltB (d2 ixD (dv 7) (ret (.int 2))) (dv 5))))) U = .ok (.bl (b||(decide (y.1<x.1)||(decide (x.2.1<y.2.1)||HT.lexLt y.2.2 x.2.2))),U):=qnp rfl (qnp (qC y0 rfl (qnn _ _)) (qnp (qC y1 rfl (vG _ _)) (qC y2 rfl (qno _ _))))
 show sif _ _ _ U=_
 unfold wrs
 cases c:decide (y.1<=x.1)&&(decide (x.2.1<=y.2.1)&&decide (y.2.2≠x.2.2)) with
 | true =>
  rw [c] at t
  rw [qki t,qdM s]
  rfl
 | false =>
  rw [c] at t
  rw [ql3 t,Bool.false_and,Bool.or_false]
  rfl
theorem qdV:∀ L:List T3,qb6 (L.map t3D)=some L
 | []=>rfl
 | x::L=>by
  have e:qgt (t3D x)=some x:=by
   unfold qgt t3D ldD
   simp only [vf]
  rw [mC_]
  unfold qb6
  rw [e,qdV L]
theorem qgn (L:List T3):qag (Srt.ord (qw L)) (L.map t3D)=(qkj L).map t3D:=by
 unfold qag qkj
 rw [mm_]
 refine List.map_congr_left fun i hi => ?_
 have hi':=(Srt.ord_perm (qw L)).mem_iff.mp hi
 rw [mR_,qL] at hi'
 show (L.map t3D).getD i D.non=t3D (L.getD i (0,0,[]))
 simp [hi']
theorem qac {ks:List Kw} {G:Int} (g0:1<=G) (g1:G<=100000000000000000000) (h:∀ k∈ks,sgB G k) (hl:ks.length<=5):qO [.tup (ks.map kw)] = .ok (.lst ((nbL ks).map t3D)):=by
 have hs:∀ k∈ks,sgK k:=fun k hk=>(h k hk).1
 have h32:=qbq hs hl
 let T:Option D:=some (.tup (ks.map kw))
 let Ls:Option D:=some (.lst ((jt ks).map t3D))
 obtain ⟨U',q,o3,o4,o5,o6,o7,_,rfl⟩:=jm (G:=qaY 3 (zo (ql 3) (zo (ql 4) (zo (ql 5) qaX)))) (b:=(qZ (zM 6 (ret (.bl false))) (qZ (vw (yF (dv 1)) (ql 7) (sif (qar (tst (d2 leD (d2 ixD (dv 7) (ret (.int 0))) (dv 3))) (qar (tst (d2 geD (d2 ixD (dv 7) (ret (.int 1))) (dv 4))) (tst (d2 neB (d2 ixD (dv 7) (ret (.int 2))) (dv 5))))) (zM 6 (dor (dv 6) (dor (d2 ltB (d2 ixD (dv 7) (ret (.int 0))) (dv 3)) (dor (d2 gtD (d2 ixD (dv 7) (ret (.int 1))) (dv 4)) (d2 ltB (d2 ixD (dv 7) (ret (.int 2))) (dv 5)))))) yC)) (sif (qd3 (tst (dv 6))) (jI (zS 2 (zL (qa (dv 3) (qa (dv 4) (qa (dv 5) (ret []))))))) yC)))) (k:=t3D) (step:=fun (acc:List T3) (x:T3)=>if uc (jt ks) x=true then acc else acc++[x])
  (Inv:=fun n acc U=>∃ o3 o4 o5 o6 o7,acc.length<=n/\U=[T,Ls,some (.lst (acc.map t3D)),o3,o4,o5,o6,o7]) (jt ks) 0 [] [T,Ls,some (.lst []),none,none,none,none,none] ⟨none,none,none,none,none,Nat.le_refl _,rfl⟩ (fun x hx n acc U _ hn=>by
  rintro ⟨o3,o4,o5,o6,o7,ha,rfl⟩
  let Fo:Option D:=some (.lst (acc.map t3D))
  let A:Option D:=some (.int x.1)
  let B:Option D:=some (.int x.2.1)
  let C:Option D:=some (ldD x.2.2)
  obtain ⟨U2,q2,p7,rfl⟩:=jm (G:=ql 7) (b:=(sif (qar (tst (d2 leD (d2 ixD (dv 7) (ret (.int 0))) (dv 3))) (qar (tst (d2 geD (d2 ixD (dv 7) (ret (.int 1))) (dv 4))) (tst (d2 neB (d2 ixD (dv 7) (ret (.int 2))) (dv 5))))) (zM 6 (dor (dv 6) (dor (d2 ltB (d2 ixD (dv 7) (ret (.int 0))) (dv 3)) (dor (d2 gtD (d2 ixD (dv 7) (ret (.int 1))) (dv 4)) (d2 ltB (d2 ixD (dv 7) (ret (.int 2))) (dv 5)))))) yC)) (k:=t3D) (step:=fun (b:Bool) (y:T3)=>b||wrs x y) (Inv:=fun _ b U=>∃ o7,U=[T,Ls,Fo,A,B,C,some (.bl b),o7]) (jt ks) 0 false [T,Ls,Fo,A,B,C,some (.bl false),o7] ⟨o7,rfl⟩ (fun y _ m b U _ _=>by
   rintro ⟨o7,rfl⟩
   exact ⟨[T,Ls,Fo,A,B,C,some (.bl b),some (t3D y)],_,rfl,qet T Ls Fo x y b,some (t3D y),rfl⟩)
  rw [qdT,Bool.false_or] at q2
  have q2':yx (ql 7) (sif (qar (tst (d2 leD (d2 ixD (dv 7) (ret (.int 0))) (dv 3))) (qar (tst (d2 geD (d2 ixD (dv 7) (ret (.int 1))) (dv 4))) (tst (d2 neB (d2 ixD (dv 7) (ret (.int 2))) (dv 5))))) (zM 6 (dor (dv 6) (dor (d2 ltB (d2 ixD (dv 7) (ret (.int 0))) (dv 3)) (dor (d2 gtD (d2 ixD (dv 7) (ret (.int 1))) (dv 4)) (d2 ltB (d2 ixD (dv 7) (ret (.int 2))) (dv 5)))))) yC) ((jt ks).map t3D) [T,Ls,Fo,A,B,C,some (.bl false),o7] = .ok (.nx [T,Ls,Fo,A,B,C,some (.bl (uc (jt ks) x)),p7]):=q2
  let U3:Env:=[T,Ls,Fo,A,B,C,some (.bl (uc (jt ks) x)),p7]
  refine ⟨[T,Ls,Fo,A,B,C,o6,o7],[T,Ls,some (.lst ((if uc (jt ks) x=true then acc else acc++[x]).map t3D)),A,B,C,some (.bl (uc (jt ks) x)),p7],rfl,?_,A,B,C,some (.bl (uc (jt ks) x)),p7,?_,rfl⟩
  ·refine (qu (U':=[T,Ls,Fo,A,B,C,some (.bl false),o7]) rfl).trans ((qu (U':=U3) ?_).trans ?_)
   ·rw [jQ]
    exact q2'
   ·have tn:qd3 (tst (dv 6)) U3 = .ok (!uc (jt ks) x,U3):=by rw [qbX,uk (b:=uc (jt ks) x) rfl]
    cases c:uc (jt ks) x with
    | true =>
     rw [c] at tn
     rw [if_pos rfl]
     show sif _ _ _ U3=_
     rw [ql3 tn]
     show R.ok (Fl.nx [T,Ls,Fo,A,B,C,some (.bl (uc (jt ks) x)),p7])=_
     rw [c]
    | false =>
     rw [c] at tn
     rw [if_neg (by simp)]
     show sif _ _ _ U3=_
     rw [qki tn,qca (U:=U3) (ds:=acc.map t3D) (d:=t3D x) rfl (qmz rfl rfl rfl) (qiI x) (by rw [lM_];omega),List.map_append]
     show R.ok (Fl.nx [T,Ls,_,A,B,C,some (.bl (uc (jt ks) x)),p7])=_
     rw [c]
     rfl
  ·split
   ·omega
   ·rw [lA_,List.length_singleton]
    omega)
 rw [qci,List.nil_append] at q
 let Un:List T3:=(jt ks).filter fun x => !uc (jt ks) x
 have hU:Un.length<64:=Nat.lt_of_le_of_lt (List.length_filter_le _ _) (by omega)
 let U0:Env:=[T,none,none,none,none,none,none,none]
 let U1:Env:=[T,Ls,none,none,none,none,none,none]
 let U2:Env:=[T,Ls,some (.lst []),none,none,none,none,none]
 let U3:Env:=[T,Ls,some (.lst (Un.map t3D)),o3,o4,o5,o6,o7]
 unfold qO yk
 refine v6 rfl ⟨U3,?_⟩
 refine (qu (U':=U1) (qdM (U1:=U0) (qcY g0 g1 h hl U0 rfl))).trans ?_
 refine (qu (U':=U2) ?_).trans ?_
 ·push_cast [immL,zt (show 0<=1000000 by omega),Bool.and_self,T,Ls,U1]
  rfl
 refine (qu (U':=U3) ?_).trans (vm ?_)
 ·rw [jQ]
  exact q
 ·rw [qlL,qhv (U:=U3) (ds:=Un.map t3D) (ks:=Un) rfl (by rw [lM_];exact hU) (qdV Un),qgn,ql7]
theorem qbt (ks:List Kw) (hl:ks.length<=12):zh [.tup (ks.map kw)] = .ok (.tup [.tup ((ks.take (ks.length/2)).map kw),.tup ((ks.drop (ks.length/2)).map kw)]):=by
 unfold zh yQ
 let T:Option D:=some (.tup (ks.map kw))
 let U0:Env:=[T,none]
 let U:Env:=[T,some (.int ((ks.length/2:Nat):Int))]
 have n2:d2 yn (qJ qat (qa (dv 0) (ret []))) (ret (.int 2)) U0 = .ok (.int ((ks.length/2:Nat):Int),U0):=qC (vg (a := .tup (ks.map kw)) rfl (by rw [jR,lM_])) rfl (by rw [yh (by decide) (by decide)];rfl)
 have p:uI (dv 1) U = .ok (some ((ks.length/2:Nat):Int),U):=by rw [wM];rfl
 have v:dv 0 U = .ok (.tup (ks.map kw),U):=rfl
 have c1:=qdK (ks.map kw) (ks.length/2) (by rw [lM_];omega)
 have c2:=qdL (ks.map kw) (ks.length/2) (by rw [lM_];omega)
 have z1:qfL (dv 0) (ret none) (uI (dv 1)) U = .ok (.tup ((ks.map kw).take (ks.length/2)),U):=by
  rw [qdr]
  simp only [v,qbW,p,slB,c1]
 have z2:qfL (dv 0) (uI (dv 1)) (ret none) U = .ok (.tup ((ks.map kw).drop (ks.length/2)),U):=by
  rw [qdr]
  simp only [v,qbW,p,slB,c2]
 rw [List.map_take,List.map_drop]
 refine v6 rfl ⟨U,(qu (U':=U) (qdM (U1:=U0) n2)).trans (vm (qmy z1 z2))⟩
theorem qiM {F:List D->R D} {l:M (List D)} {U U':Env} {ds:List D} {n:Str} (hl:l U = .ok (ds,U)) (h:F ds = .exc ⟨n,.non⟩ U') (hn:RN.contains n=true):u7 RN F l U = .exc ⟨n,.non⟩ U:=by
 rw [va,hl]
 simp only [h,hn,if_true]
theorem qml {f:M D} {U U':Env} {x:Exn} (h:f U = .exc x U'):jI f U = .exc x U':=by rw [uK,h]
theorem qnr {f:M D} {U U':Env} {x:Exn} (h:f U = .exc x U'):yz f U = .exc x U':=by rw [qaA,h]
theorem qhR {qs:List Kw} (h:∀ k∈qs,k.m=some 0\/k.m=some 1\/k.m=some 2\/k.m=none\/k.m=some 3) (hl:qs.length<=12) (hx:qs.all qiK=false):jo [.tup (qs.map kw)] = .exc ⟨"NotSingle",.non⟩ [some (.tup (qs.map kw))]:=by
 have c:=w8 h hl _ rfl
 rw [hx] at c
 unfold jo
 refine qiv rfl ?_
 unfold zA
 have tn:=(qbX (t:=tst (qJ qex (qa (zX 1 [] none (yF (dv 0)) (ql 0) (ret true) (d2 inB (d2 ixD (dv 0) (ret (.int 2))) (zL (qa (ret (.int 0)) (qa (ret (.int 1)) (ret [])))))) (ret [])))) (U:=[some (.tup (qs.map kw))]))
 rw [c] at tn
 show sif _ _ _ [some (.tup (qs.map kw))]=_
 rw [qki tn]
 push_cast [sm1]
theorem qcZ {qs:List Kw} (h:∀ k∈qs,k.m=some 0\/k.m=some 1\/k.m=some 2\/k.m=none\/k.m=some 3) (hl:qs.length<=12) (hx:qs.all qiK=false) (hs:yK (.tup (qs.map kw))=true):qq [.tup (qs.map kw)] = .ok (.str "single"):=by
 have e:je [.tup (qs.map kw)] = .exc ⟨"NotSingle",.non⟩ [some (.tup (qs.map kw))]:=by
  unfold je
  refine qiv rfl ?_
  unfold jH
  let U:Env:=[some (.tup (qs.map kw))]
  refine (qu (U':=U) (xx1 (uM rfl) (vn _ hs))).trans (qlK (qml (qiM (U:=U) (uM rfl) (qhR h hl hx) jg)))
 unfold qq yP
 let U:Env:=[some (.tup (qs.map kw)),none]
 exact v6 rfl ⟨U,qnl (n:="NotSingle") (v := .non) (qnr (qiM (U:=U) (uM rfl) e jg)) jg qab⟩
def qeB (ks:List Kw):D := .tup [.lst ((nbL (ks.take (ks.length/2))).map t3D),.lst ((nbL (ks.drop (ks.length/2))).map t3D)]
theorem qkb {ks:List Kw} (h:∀ k∈ks,sgK k) (hl:ks.length<=10):qq [.tup (ks.map kw)] = .ok (qeB ks):=by
 unfold qq yP
 let U:Env:=[some (.tup (ks.map kw)),none]
 refine v6 rfl ⟨U,ql8 (vm ?_)⟩
 rw [va,uM rfl]
 simp only [qbr h hl]
 rfl
theorem qkc {ks:List Kw} {G:Int} (g0:1<=G) (g1:G<=100000000000000000000) (h:∀ k∈ks,sgB G k) (hl:ks.length<=5) {x:T3} (hx:x∈jt ks):qby 393 2 (t3D x)/\plain (t3D x)=true:=by
 have hs:∀ k∈ks,sgK k:=fun k hk=>(h k hk).1
 obtain ⟨l,hb,rfl⟩:=qbl.mp hx
 obtain ⟨t1,t2,t3,t4⟩:=qdU g0 g1 h hl hb
 have n1:qby 130 0 (.int (qX ks l)):=qdD (by omega)
 have n2:qby 130 0 (.int (jF ks l)):=qdD (by omega)
 have n3:qby (5*8) 1 (ldD l):=qbf (w:=7) (e:=0) (fun d hd=>by
  obtain ⟨v,hv,rfl⟩:=mP_.mp hd
  rcases uN hs hb v hv with e | e<;>rw [e]<;>exact qen (by omega) (by omega)) (by rw [lM_,v8 hb];exact hl)
 have hp:=wT (l.map D.int) fun d hd=>by
  obtain ⟨v,hv,rfl⟩:=mP_.mp hd
  rfl
 refine ⟨qbf (w:=130) (e:=1) (n:=3) (fun d hd => ?_) (by simp),?_⟩
 ·simp only [List.mem_cons,nN_,or_false] at hd
  rcases hd with rfl | rfl | rfl
  ·exact n1.mono (by omega) (by omega)
  ·exact n2.mono (by omega) (by omega)
  ·exact n3.mono (by omega) (by omega)
 ·unfold plain t3D wg ldD
  simp only [zG,toPDs,PyData.hasDict,PyData.hasDictAll,noL,noLs,hp.1,hp.2]
  rfl
theorem qgo {ks:List Kw} {G:Int} (g0:1<=G) (g1:G<=100000000000000000000) (h:∀ k∈ks,sgB G k) (hl:ks.length<=5):qby (32*394) 3 (.lst ((nbL ks).map t3D))/\(zG (.lst ((nbL ks).map t3D))).hasDict=false:=by
 have na:∀ d∈(nbL ks).map t3D,qby 393 2 d/\plain d=true:=fun d hd=>by
  obtain ⟨x,hx,rfl⟩:=mP_.mp hd
  exact qkc g0 g1 h hl (qgc hx)
 refine ⟨qhA (fun d hd=>(na d hd).1) (by rw [lM_];exact qcX (fun k hk=>(h k hk).1) hl),?_⟩
 have hp:=wT _ fun d hd=>(na d hd).2
 simp only [zG,PyData.hasDict,hp.1]
theorem qgp {ks:List Kw} {G:Int} (g0:1<=G) (g1:G<=100000000000000000000) (h:∀ k∈ks,sgB G k) (hl:ks.length<=10):uA [qeB ks]=some (.str (zG (qeB ks)).shown):=by
 obtain ⟨h1,h2,l1,l2⟩:=w9 (fun k hk=>(h k hk).1) hl
 obtain ⟨a1,a2⟩:=qgo g0 g1 (fun k hk=>h k (List.mem_of_mem_take hk)) l1
 obtain ⟨b1,b2⟩:=qgo g0 g1 (fun k hk=>h k (List.mem_of_mem_drop hk)) l2
 have nn:qby (2*(32*394+1)) 4 (qeB ks):=qbf (fun d hd=>by
  simp only [List.mem_cons,nN_,or_false] at hd
  rcases hd with rfl | rfl
  ·exact a1
  ·exact b1) (by simp)
 have:qaw (qeB ks)=true:=qjX nn (by omega) (by omega) (by
  unfold qeB
  rw [ql0]
  unfold dlL
  simp only [toPDs,PyData.hasDictAll,a2,b2]
  rfl)
 simp only [uA,this,if_true]
theorem qkd (k:Kw):immF (kw k)=true:=by
 obtain ⟨w,v,m⟩:=k
 cases m<;>rfl
theorem qck {α:Type} {f:α->D} (h:∀ a,immF (f a)=true):∀ as:List α,immFs (as.map f)=true
 | []=>rfl
 | a::as=>by rw [mC_,immFs,h a,qck h as];rfl
theorem qhS (ns:List Int) (i:Int) (h0:0<=i) (h3:i<4) (r:Env) (hr:r.length=6):∃ r',r'.length=6/\(qZ (uX 2 (qbU jf (qa (dv 0) (qa (dv 1) (ret []))))) (qZ (zM 3 (qo qI 2 (qa (d2 ixD (y7 (qa (ret (.int 10)) (qa (ret (.int 7)) (qa (ret (.int 7)) (qa (ret (.int 7)) (ret [])))))) (dv 1)) (qa (d2 ixD (y7 (qa (ret (.int 1)) (qa (ret (.int 1)) (qa (d2 qfj (ret (.int 10)) (ret (.int 20))) (ret []))))) (qo qf 2 (qa (ret (.int 3)) (ret [])))) (ret []))))) (qZ (zM 4 (qJ wB (qa (zX 1 [] none (yF (qp zh (qa (dv 3) (ret [])))) (ql 0) (ret true) (qp qO (qa (dv 0) (ret [])))) (ret [])))) (qZ (vw (js (qa (ret (.int 2)) (ret []))) (ql 5) (ve 6 [2] qq (qa (dv 3) (ret [])) (tst (d2 neB (qJ uA (qa (dv 6) (ret []))) (qJ uA (qa (dv 4) (ret []))))))) (vw (yF (y7 (qa (zL (qa (ret (.int 1)) (qa (ret (.int 1)) (qa (ret (.int 2)) (ret []))))) (qa (zL (qa (ret (.int 1)) (qa (ret (.int 1)) (qa (ret .non) (ret []))))) (qa (zL (qa (ret (.int 1)) (qa (ret (.int 0)) (qa (ret (.int 3)) (ret []))))) (ret [])))))) (ql 7) (sif (tor (tst (d2 neB (qp qq (qa (d2 zB (dv 3) (zL (qa (dv 7) (ret [])))) (ret []))) (ret (.str "single")))) (tst (d2 neB (qp qq (qa (d2 zB (zL (qa (dv 7) (ret []))) (dv 3)) (ret []))) (ret (.str "single"))))) (yz (ret (.bl false))) yC)))))) ([some (.fz ns),some (.int i)]++r) = .ok (.nx ([some (.fz ns),some (.int i)]++r')):=by
 match r,hr with
 | [o2,o3,o4,o5,o6,o7],_ =>
  obtain ⟨n,eb⟩:=qma ns i h0
  obtain ⟨M,hM,eM⟩:∃ M:Nat,M<=10/\ixD (.lst [.int 10,.int 7,.int 7,.int 7]) (.int i)=some (.int (M:Nat)):=by
   have:i=0\/i=1\/i=2\/i=3:=by omega
   rcases this with e | e | e | e<;>subst e
   ·exact ⟨10,by omega,rfl⟩
   ·exact ⟨7,by omega,rfl⟩
   ·exact ⟨7,by omega,rfl⟩
   ·exact ⟨7,by omega,rfl⟩
  obtain ⟨G,g0,g1,eG⟩:∃ G:Int,1<=G/\G<=100000000000000000000/\ixD (.lst [.int 1,.int 1,.int 100000000000000000000]) (.int (n%3))=some (.int G):=by
   have:n%3=0\/n%3=1\/n%3=2:=by omega
   rcases this with e | e | e<;>rw [e]
   ·exact ⟨1,by omega,by omega,rfl⟩
   ·exact ⟨1,by omega,by omega,rfl⟩
   ·exact ⟨100000000000000000000,by omega,by omega,rfl⟩
  obtain ⟨ks,n1,es,hkB,hkM⟩:=qgg M (by omega) g0 g1 (n/3)
  have hk:∀ k∈ks,sgK k:=fun k hk=>(hkB k hk).1
  have hl:ks.length<=10:=by omega
  obtain ⟨_,_,l1,l2⟩:=w9 hk hl
  let S:Option D:=some (.fz ns)
  let I:Option D:=some (.int i)
  let B:Option D:=some (.lst [.int n1])
  let K:Option D:=some (.tup (ks.map kw))
  let Du:Option D:=some (qeB ks)
  have rd:=qgp g0 g1 hkB hl
  obtain ⟨Ur,qr,o5',o6',rfl⟩:=jm (G:=ql 5) (b:=(ve 6 [2] qq (qa (dv 3) (ret [])) (tst (d2 neB (qJ uA (qa (dv 6) (ret []))) (qJ uA (qa (dv 4) (ret []))))))) (k:=fun t:Nat=>D.int (t:Nat)) (step:=fun (s:Unit) (_:Nat)=>s) (Inv:=fun _ _ U=>∃ o5 o6,U=[S,I,B,K,Du,o5,o6,o7]) (List.range 2) 0 () [S,I,B,K,Du,o5,o6,o7] ⟨o5,o6,rfl⟩ (fun x _ m s U _ _=>by
   rintro ⟨o5,o6,rfl⟩
   let U1:Env:=[S,I,B,K,Du,some (.int (x:Nat)),o6,o7]
   refine ⟨U1,[S,I,B,K,Du,some (.int (x:Nat)),none,o7],rfl,?_,some (.int (x:Nat)),none,rfl⟩
   have ea:qa (dv 3) (ret []) U1 = .ok ([.tup (ks.map kw)],U1):=uM rfl
   have im:immFs [.tup (ks.map kw)]=true:=by
    simp only [immFs,immF,qck qkd,Bool.and_self]
   have tt:(tst (d2 neB (qJ uA (qa (dv 6) (ret []))) (qJ uA (qa (dv 4) (ret []))))) (U1.set 6 (some (qeB ks))) = .ok (false,U1.set 6 (some (qeB ks))):=uk (qC (vg (a:=qeB ks) rfl rd) (vg (a:=qeB ks) rfl rd) (qcP _))
   have sz:(nbL (ks.take (ks.length/2))).length<=32:=qcX (fun k h=>hk k (List.mem_of_mem_take h)) l1
   have sz2:(nbL (ks.drop (ks.length/2))).length<=32:=qcX (fun k h=>hk k (List.mem_of_mem_drop h)) l2
   show ve 6 [2] qq (qa (dv 3) (ret [])) _ U1=_
   unfold ve
   rw [ea]
   dsimp only
   rw [if_pos ⟨im,rfl,of_decide_eq_true rfl⟩,qkb hk hl]
   unfold qeB at tt |-
   dsimp only
   rw [tt]
   dsimp only
   rw [if_neg (by simp),if_pos ⟨rfl,by rw [lM_,lM_];omega⟩]
   rfl)
  have more:∀ q:Kw,(q=⟨1,1,some 2⟩\/q=⟨1,1,none⟩\/q=⟨1,0,some 3⟩)->∀ qs:List Kw,(∀ k∈qs,k∈ks\/k=q)->q∈qs->qs.length<=12->qq [.tup (qs.map kw)] = .ok (.str "single"):=fun q hq qs hqs hm hql=>by
   refine qcZ (fun k hk' => ?_) hql ?_ (qdP (fun k hk' => ?_) hql)
   ·rcases hqs k hk' with hk' | rfl
    ·exact qdQ hk k hk'
    ·rcases hq with rfl | rfl | rfl
     ·exact .inr (.inr (.inl rfl))
     ·exact .inr (.inr (.inr (.inl rfl)))
     ·exact .inr (.inr (.inr (.inr rfl)))
   ·refine List.all_eq_false.mpr ⟨q,hm,?_⟩
    rcases hq with rfl | rfl | rfl<;>simp [qiK]
   ·rcases hqs k hk' with hk' | rfl
    ·exact ⟨(hk k hk').1,(hk k hk').2.1,(hk k hk').kd.2⟩
    ·rcases hq with rfl | rfl | rfl
     ·exact ⟨by decide,by decide,fun j e=>by cases e;decide⟩
     ·exact ⟨by decide,by decide,fun j e=>by cases e⟩
     ·exact ⟨by decide,by decide,fun j e=>by cases e;decide⟩
  obtain ⟨p7,k7⟩:=qcf (b:=(sif (tor (tst (d2 neB (qp qq (qa (d2 zB (dv 3) (zL (qa (dv 7) (ret [])))) (ret []))) (ret (.str "single")))) (tst (d2 neB (qp qq (qa (d2 zB (zL (qa (dv 7) (ret []))) (dv 3)) (ret []))) (ret (.str "single"))))) (yz (ret (.bl false))) yC)) (i:=7) (U:=[S,I,B,K,Du,o5',o6',o7]) (of_decide_eq_true rfl) [kw ⟨1,1,some 2⟩,kw ⟨1,1,none⟩,kw ⟨1,0,some 3⟩] o7 (fun d hd=>by
   obtain ⟨q,hq,rfl⟩:∃ q:Kw,(q=⟨1,1,some 2⟩\/q=⟨1,1,none⟩\/q=⟨1,0,some 3⟩)/\d=kw q:=by
    simp only [List.mem_cons,nN_,or_false] at hd
    rcases hd with e | e | e
    ·exact ⟨_,.inl rfl,e⟩
    ·exact ⟨_,.inr (.inl rfl),e⟩
    ·exact ⟨_,.inr (.inr rfl),e⟩
   let U1:Env:=[S,I,B,K,Du,o5',o6',some (kw q)]
   have t1:zL (qa (dv 7) (ret [])) U1 = .ok (.tup [kw q],U1):=by
    rw [wJ,uM (a:=kw q) rfl]
    simp only [lC_,lN_,Nat.zero_add,sm1,if_true]
   have a1:zB (.tup (ks.map kw)) (.tup [kw q])=some (.tup ((ks++[q]).map kw)):=by
    rw [v7 (by rw [lM_,List.length_singleton];omega),List.map_append]
    rfl
   have a2:zB (.tup [kw q]) (.tup (ks.map kw))=some (.tup ((q::ks).map kw)):=by
    rw [v7 (by rw [lM_,List.length_singleton];omega)]
    rfl
   have m1:=more q hq (ks++[q]) (fun k hk'=>by
    rcases mA_.mp hk' with hk' | hk'
    ·exact .inl hk'
    ·exact .inr (ms_.mp hk')) (by simp) (by rw [lA_,List.length_singleton];omega)
   have m2:=more q hq (q::ks) (fun k hk'=>by
    rcases List.mem_cons.mp hk' with hk' | hk'
    ·exact .inr hk'
    ·exact .inl hk') mS_ (by rw [lC_];omega)
   exact ql3 (U:=U1) (qnU (uk (qC (uj (qC rfl t1 a1) m1) rfl (qcP _))) (uk (qC (uj (qC t1 rfl a2) m2) rfl (qcP _)))))
  refine ⟨[B,K,Du,o5',o6',p7],rfl,?_⟩
  show (qZ (uX 2 (qbU jf (qa (dv 0) (qa (dv 1) (ret []))))) (qZ (zM 3 (qo qI 2 (qa (d2 ixD (y7 (qa (ret (.int 10)) (qa (ret (.int 7)) (qa (ret (.int 7)) (qa (ret (.int 7)) (ret [])))))) (dv 1)) (qa (d2 ixD (y7 (qa (ret (.int 1)) (qa (ret (.int 1)) (qa (d2 qfj (ret (.int 10)) (ret (.int 20))) (ret []))))) (qo qf 2 (qa (ret (.int 3)) (ret [])))) (ret []))))) (qZ (zM 4 (qJ wB (qa (zX 1 [] none (yF (qp zh (qa (dv 3) (ret [])))) (ql 0) (ret true) (qp qO (qa (dv 0) (ret [])))) (ret [])))) (qZ (vw (js (qa (ret (.int 2)) (ret []))) (ql 5) (ve 6 [2] qq (qa (dv 3) (ret [])) (tst (d2 neB (qJ uA (qa (dv 6) (ret []))) (qJ uA (qa (dv 4) (ret []))))))) (vw (yF (y7 (qa (zL (qa (ret (.int 1)) (qa (ret (.int 1)) (qa (ret (.int 2)) (ret []))))) (qa (zL (qa (ret (.int 1)) (qa (ret (.int 1)) (qa (ret .non) (ret []))))) (qa (zL (qa (ret (.int 1)) (qa (ret (.int 0)) (qa (ret (.int 3)) (ret []))))) (ret [])))))) (ql 7) (sif (tor (tst (d2 neB (qp qq (qa (d2 zB (dv 3) (zL (qa (dv 7) (ret [])))) (ret []))) (ret (.str "single")))) (tst (d2 neB (qp qq (qa (d2 zB (zL (qa (dv 7) (ret []))) (dv 3)) (ret []))) (ret (.str "single"))))) (yz (ret (.bl false))) yC)))))) [S,I,o2,o3,o4,o5,o6,o7]=_
  refine (qu (U':=[S,I,some (.lst [.int n]),o3,o4,o5,o6,o7]) ?_).trans ?_
  ·push_cast [S,I,eb,immFs,immF,immL,imm,Bool.and_self]
  refine (qu (U':=[S,I,B,K,o4,o5,o6,o7]) ?_).trans ?_
  ·push_cast [I,zt (show 3<=1000000 by omega),zt (show 4<=1000000 by omega),eM,qni,jz (m:=3) (by decide) (by decide),eG,es]
   rfl
  refine (qu (U':=[S,I,B,K,Du,o5,o6,o7]) ?_).trans ?_
  ·let U1:Env:=[S,I,B,K,o4,o5,o6,o7]
   have c:=qaI (e:=qp qO (qa (dv 0) (ret []))) (xs:=yF (qp zh (qa (dv 3) (ret [])))) (fr:=[]) (U:=U1) (r:=[]) (k:=fun q:List Kw=>D.tup (q.map kw)) [ks.take (ks.length/2),ks.drop (ks.length/2)] (fun q=>D.lst ((nbL q).map t3D)) (by
    rw [qaB,uj rfl (qbt ks (by omega))]
    rfl) rfl (by simp) fun q hq=>by
     simp only [List.mem_cons,nN_,or_false] at hq
     rcases hq with rfl | rfl
     ·exact uj rfl (qac g0 g1 (fun k h=>hkB k (List.mem_of_mem_take h)) l1)
     ·exact uj rfl (qac g0 g1 (fun k h=>hkB k (List.mem_of_mem_drop h)) l2)
   exact qdM (U1:=U1) (vg c (qeo _))
  refine (qu (U':=[S,I,B,K,Du,o5',o6',o7]) ?_).trans ?_
  ·have c:(js (qa (ret (.int 2)) (ret []))) [S,I,B,K,Du,o5,o6,o7] = .ok ((List.range 2).map fun t:Nat=>D.int (t:Nat),[S,I,B,K,Du,o5,o6,o7]):=by
    rw [yL (uM rfl) (by omega) (by omega)]
    rfl
   rw [jQ,c]
   exact qr
  ·have c:(yF (y7 (qa (zL (qa (ret (.int 1)) (qa (ret (.int 1)) (qa (ret (.int 2)) (ret []))))) (qa (zL (qa (ret (.int 1)) (qa (ret (.int 1)) (qa (ret .non) (ret []))))) (qa (zL (qa (ret (.int 1)) (qa (ret (.int 0)) (qa (ret (.int 3)) (ret []))))) (ret [])))))) [S,I,B,K,Du,o5',o6',o7] = .ok ([kw ⟨1,1,some 2⟩,kw ⟨1,1,none⟩,kw ⟨1,0,some 3⟩],[S,I,B,K,Du,o5',o6',o7]):=by
    push_cast [qlg,zt (show 3<=1000000 by omega)]
    rfl
   rw [jQ,c]
   exact k7
theorem qdW (ns:List Int):∀ (ds:List D) (o1:Option D) (r:Env),r.length=6->(∀ d∈ds,∃ i:Int,d = .int i/\0<=i/\i<4)->∃ U,yx (ql 1) (qZ (uX 2 (qbU jf (qa (dv 0) (qa (dv 1) (ret []))))) (qZ (zM 3 (qo qI 2 (qa (d2 ixD (y7 (qa (ret (.int 10)) (qa (ret (.int 7)) (qa (ret (.int 7)) (qa (ret (.int 7)) (ret [])))))) (dv 1)) (qa (d2 ixD (y7 (qa (ret (.int 1)) (qa (ret (.int 1)) (qa (d2 qfj (ret (.int 10)) (ret (.int 20))) (ret []))))) (qo qf 2 (qa (ret (.int 3)) (ret [])))) (ret []))))) (qZ (zM 4 (qJ wB (qa (zX 1 [] none (yF (qp zh (qa (dv 3) (ret [])))) (ql 0) (ret true) (qp qO (qa (dv 0) (ret [])))) (ret [])))) (qZ (vw (js (qa (ret (.int 2)) (ret []))) (ql 5) (ve 6 [2] qq (qa (dv 3) (ret [])) (tst (d2 neB (qJ uA (qa (dv 6) (ret []))) (qJ uA (qa (dv 4) (ret []))))))) (vw (yF (y7 (qa (zL (qa (ret (.int 1)) (qa (ret (.int 1)) (qa (ret (.int 2)) (ret []))))) (qa (zL (qa (ret (.int 1)) (qa (ret (.int 1)) (qa (ret .non) (ret []))))) (qa (zL (qa (ret (.int 1)) (qa (ret (.int 0)) (qa (ret (.int 3)) (ret []))))) (ret [])))))) (ql 7) (sif (tor (tst (d2 neB (qp qq (qa (d2 zB (dv 3) (zL (qa (dv 7) (ret [])))) (ret []))) (ret (.str "single")))) (tst (d2 neB (qp qq (qa (d2 zB (zL (qa (dv 7) (ret []))) (dv 3)) (ret []))) (ret (.str "single"))))) (yz (ret (.bl false))) yC)))))) ds ([some (.fz ns),o1]++r) = .ok (.nx U)
 | [],o1,r,_,_=>⟨_,rfl⟩
 | d::ds,o1,r,hr,h=>by
  obtain ⟨i,rfl,h0,h1⟩:=h d mS_
  obtain ⟨r',hr',e⟩:=qhS ns i h0 h1 r hr
  obtain ⟨U,q⟩:=qdW ns ds (some (.int i)) r' hr' fun y hy=>h y (mM _ hy)
  refine ⟨U,?_⟩
  unfold yx
  simp only [ql,List.cons_append,List.nil_append,List.set_cons_zero,List.set_cons_succ] at e |-
  simp only [e]
  exact q
theorem law_true (ns:List Int) (hn:ns.length<=63):qcV [.fz ns] = .ok (.bl true):=by
 let j:Int:=if (if (4:Int)<(ns.length:Int) then (4:Int) else (ns.length:Int))>1 then (if (4:Int)<(ns.length:Int) then (4:Int) else (ns.length:Int)) else 1
 have hj0:0<=j:=by simp only [j];split<;>split<;>omega
 have hj2:j<=4:=by simp only [j];split<;>split<;>omega
 have hj1:j<=6:=by simp only [j];split<;>split<;>omega
 obtain ⟨U,q⟩:=qdW ns (qa3 0 j.toNat) none [none,none,none,none,none,none] rfl fun d hd=>by
  unfold qa3 at hd
  obtain ⟨k,hk,rfl⟩:=mP_.mp hd
  have hk2:=mR_.mp hk
  exact ⟨_,rfl,by omega,by omega⟩
 unfold qcV
 refine v6 rfl ⟨U,?_⟩
 unfold qj3
 refine (qu (U':=U) ?_).trans rfl
 rw [jQ,yL (j:=j) (U1:=[some (.fz ns),none,none,none,none,none,none,none]) ?_ hj0 (by omega)]
 ·exact q
 ·rfl
section
variable {P:Program} {w:World} {K:PySem.W.Frag} {mg:Str->Option Value} {base:Heap}
variable {f:Addr} {fd:FuncData}
set_option maxHeartbeats 4000000
theorem yV:qy ["e","found"] ["e"] (qd zT):=⟨rfl,rfl,rfl,by decide +kernel,rfl,by decide +kernel,by decide +kernel⟩
section
variable (P:Program) (w:World) (K:Fr0) (mg:Str->Option Value) (base:Heap)
abbrev Q0:Prop:=qfJ P w K mg base 1 "_law_marks" ["e"] (spD K yr)
abbrev Q1:Prop:=zn P w K mg base 1 "beating_order" ["weighed"] (spD K zw)
abbrev Q2:Prop:=zn P w K mg base 1 "all_loads" ["kinds"] (spD K yj)
abbrev Q3:Prop:=zn P w K mg base 1 "taken_together" ["store","load","part"] (spD K qR)
abbrev Q4:Prop:=zn P w K mg base 2 "all_weighed" ["kinds"] (spD K jn)
abbrev Q5:Prop:=zn P w K mg base 4 "not_beaten" ["kinds"] (spD K jG)
abbrev Q6:Prop:=zn P w K mg base 1 "second_half" ["store"] (spD K jS)
abbrev Q7:Prop:=zn P w K mg base 1 "first_half" ["store"] (spD K yt)
abbrev Q8:Prop:=wN P w K mg base 1 "need_single" ["store"] (spX K (clR K RN) jo)
abbrev Q9:Prop:=zn P w K mg base 1 "is_whole" ["thing"] (spD K ux)
abbrev Q10:Prop:=zn P w K mg base 2 "is_count" ["thing"] (spD K j6)
abbrev Q11:Prop:=zn P w K mg base 3 "is_kind" ["thing"] (spD K ur)
abbrev Q12:Prop:=zn P w K mg base 4 "is_store" ["thing"] (spD K uy)
abbrev Q13:Prop:=wN P w K mg base 5 "need_store" ["thing"] (spX K (clR K RN) yw)
abbrev Q14:Prop:=wN P w K mg base 6 "half_loads" ["store"] (spX K (clR K RN) je)
abbrev Q15:Prop:=zn P w K mg base 7 "_law_said" ["store"] (spD K qq)
abbrev Q16:Prop:=zn P w K mg base 1 "_law_halves" ["store"] (spD K zh)
abbrev Q17:Prop:=zn P w K mg base 1 "_law_all_loads" ["store","room"] (spD K zH)
abbrev Q18:Prop:=zn P w K mg base 1 "_law_sum" ["store","load","place"] (spD K z5)
abbrev Q19:Prop:=zn P w K mg base 4 "_law_unbeaten" ["store"] (spD K qO)
abbrev Q20:Prop:=zn P w K mg base 1 "_law_take" ["box","many"] (qez K qf)
abbrev Q21:Prop:=zn P w K mg base 2 "_law_kind_of" ["box","ends"] (qez K zj)
abbrev Q22:Prop:=zn P w K mg base 3 "_law_stocked" ["box","most","ends"] (qez K z7)
abbrev Q23:Prop:=zn P w K mg base 4 "_law_single_ones" ["box","most","great"] (qez K qI)
abbrev Q24:Prop:=zn P w K mg base 1 "_law_mix" ["cell","k"] (spD K j7)
abbrev Q25:Prop:=zn P w K mg base 1 "_law_cell" ["script","k"] (spD K jy)
abbrev Q26:Prop:=zn P w K mg base 2 "_law_box" ["script","k"] (spD K jf)
end
theorem q0 (F:Fun K "_law_marks" "_law_marks" zT f fd) (m:mg "_law_marks"=some (.ref f)) (T:Txt K mg) (XTt:XT K mg RN TN) (hB:K.In base):Q0 P w K mg base:=by
 have rn0:RN.contains "NotSingle"=true:=by decide
 refine ⟨f,fd,?_,m,F.kp,F.binds fun _ _ _ _ _ _ us hl=>match us,hl with | [_],_=>rfl⟩
 show qb1 P w K mg base CX0 1 f fd ["e"] (spD K (dfn (["e","found"]:List Str).length (["e"]:List Str).length yq))
 refine qhl (N:=["e","found"]) (ps:=["e"]) (k:=0) (O:=[]) (body:=yq) F yV ?a ?b
 case a=>decide
 intro cdv A outer s H E B hr al
 have hal:∀ U Z H',Rep K (cfn [] [] B H (fun _=>False) (fun _ _=>False) fun _=>none) U Z H'->AloneA (A.deeper (envOfC "_law_marks" (qd zT) s.heap.objs.size f cdv)) H':=Sk.AloneA.rep al (fun _ z=>z)
 exact (qh (ub (DW.dt (qd4 (vR (vQ (wO (RN:=RN) (m:="SackError") (mgl:=mg) XTt (by decide) (by decide) rfl T.b_isinstance rfl (qc 0) (XTt.ask rn0 (by decide)) qF))) (qas (vR (vQ (qjO XTt rfl T.b_isinstance rfl T.b_ValueError (qc 0) qF)))))) (qi (qU yZ)) zc)
   (qh (zl (i:=1) yV.nd (yb (qb (wO (RN:=RN) (m:="NoStore") (mgl:=mg) XTt (by decide) (by decide) rfl T.b_isinstance rfl (qc 0) (XTt.ask rn0 (by decide)) qF) (qb (wO (RN:=RN) (m:="NoNumber") (mgl:=mg) XTt (by decide) (by decide) rfl T.b_isinstance rfl (qc 0) (XTt.ask rn0 (by decide)) qF) (qb (wO (RN:=RN) (m:="NoLoad") (mgl:=mg) XTt (by decide) (by decide) rfl T.b_isinstance rfl (qc 0) (XTt.ask rn0 (by decide)) qF) (qb (wO (RN:=RN) (m:="TooMany") (mgl:=mg) XTt (by decide) (by decide) rfl T.b_isinstance rfl (qc 0) (XTt.ask rn0 (by decide)) qF) qe))))))
   (qh (zl (i:=1) yV.nd (qz zp zq (qc 1) (yb (qb (wO (RN:=RN) (m:="NotSingle") (mgl:=mg) XTt (by decide) (by decide) rfl T.b_isinstance rfl (qc 0) (XTt.ask rn0 (by decide)) qF) (qb (wO (RN:=RN) (m:="NoText") (mgl:=mg) XTt (by decide) (by decide) rfl T.b_isinstance rfl (qc 0) (XTt.ask rn0 (by decide)) qF) qe)))))
   (qh (ub (ji qkM qe9 (qfE PySem.F.slot_list_count qhj qhe qcD (qc 1) (qb qbK qe)) qg (zC _)) (qi (qU yZ)) zc)
   (qi (qU (jq zd zm (yb (qb yZ (qb yZ (qb yZ (qb yZ (qb yZ (qb yZ qe))))))) (qfE PySem.F.slot_list_index qhk qhf qcE (qc 1) (qb qbK qe)))))))))
theorem vY:qy ["weighed"] ["weighed"] (qd zv):=⟨rfl,rfl,rfl,by decide +kernel,rfl,by decide +kernel,by decide +kernel⟩
theorem q1 (F:Fun K "beating_order" "beating_order" zv f fd) (m:mg "beating_order"=some (.ref f)) (T:Txt K mg) (XTt:XT K mg RN TN) (hB:K.In base):Q1 P w K mg base:=by
 refine ⟨f,fd,?_,m,F.kp,F.binds fun _ _ _ _ _ _ us hl=>match us,hl with | [_],_=>rfl⟩
 exact zr (N:=["weighed"]) (O:=[]) (body:=yi) F vY (by decide) fun cdv A outer s H E B hr=>(qi (qU (jb (qb (jq zd zm (qc 0) (gI T.c_WEIGHT)) (qb (qia (jq zd zm (qc 0) (gI T.c_WORTH))) (qb (jq zd zm (qc 0) (gI T.c_LOAD)) qe))))))
theorem jh:qy ["kinds","loads","kind","longer","load"] ["kinds"] (qd ja):=⟨rfl,rfl,rfl,by decide +kernel,rfl,by decide +kernel,by decide +kernel⟩
theorem q2 (F:Fun K "all_loads" "all_loads" ja f fd) (m:mg "all_loads"=some (.ref f)) (T:Txt K mg) (XTt:XT K mg RN TN) (hB:K.In base):Q2 P w K mg base:=by
 refine ⟨f,fd,?_,m,F.kp,F.binds fun _ _ _ _ _ _ us hl=>match us,hl with | [_],_=>rfl⟩
 exact zr (N:=["kinds","loads","kind","longer","load"]) (O:=[3]) (body:=uO) F jh (by decide) fun cdv A outer s H E B hr=>(qh (zl (i:=1) jh.nd (yb (qb (jb qe) qe)))
   (qh (yo PassesOwn.never rfl (yf (qc 0)) (qA (i:=2) jh.nd) (qh (vz (i:=3) jh.nd (qbQ qe))
   (qh (yo PassesOwn.never rfl (yf (qc 1)) (qA (i:=4) jh.nd) (qi (uE (qfM (i:=3) (ug (fo:=none) rfl (yg rfl T.b_range (qb (qz zp zq (jq zd zm (qc 2) (gI T.c_MOST)) qg) qe)) (cs ["kinds","loads","kind","longer","load"] ["times","load"] 1 [4] (qd ja)) (f0 [4] [3]) (fun _ _ _ _ _ _ _ _ _ _ _=>⟨(qA (i:=0) (nd ["times","load"])),uV,(qz zp zq (qc 1) (jb (qb (qc 0) qe)))⟩))))))
   (qi (qjU (i:=1) (j:=3) jh.nd)))))
   (qi (qU (qc 1)))))
theorem vP:qy ["store","load","part"] ["store","load","part"] (qd qQ):=⟨rfl,rfl,rfl,by decide +kernel,rfl,by decide +kernel,by decide +kernel⟩
theorem q3 (F:Fun K "taken_together" "taken_together" qQ f fd) (m:mg "taken_together"=some (.ref f)) (T:Txt K mg) (XTt:XT K mg RN TN) (hB:K.In base):Q3 P w K mg base:=by
 refine ⟨f,fd,?_,m,F.kp,F.binds fun _ _ _ _ _ _ us hl=>match us,hl with | [_,_,_],_=>rfl⟩
 exact zr (N:=["store","load","part"]) (O:=[]) (body:=jM) F vP (by decide) fun cdv A outer s H E B hr=>(qi (qU (qV (qgW rfl) qfc rfl T.b_sum qlx (qb (ug (fo:=none) rfl (qlr rfl T.b_zip (qb (qc 0) (qb (qc 1) qe))) (cs ["store","load","part"] ["kind","times","part"] 2 [2] (qd qQ)) (f0 [2] []) (fun _ _ _ _ _ _ _ _ _ _ _=>⟨(wp (n:=2) rfl (ze (qA (i:=0) (nd ["kind","times","part"])) (ze (qA (i:=1) (nd ["kind","times","part"])) uF))),uV,(qz jL z8 (jq zd zm (qc 0) (qc 2)) (qc 1))⟩)) qe))))
theorem qak:qy ["kinds"] ["kinds"] (qd zy):=⟨rfl,rfl,rfl,by decide +kernel,rfl,by decide +kernel,by decide +kernel⟩
theorem q4 (F:Fun K "all_weighed" "all_weighed" zy f fd) (m:mg "all_weighed"=some (.ref f)) (T:Txt K mg) (XTt:XT K mg RN TN) (hB:K.In base) (C_all_loads:Q2 P w K mg base) (C_taken_together:Q3 P w K mg base):Q4 P w K mg base:=by
 refine ⟨f,fd,?_,m,F.kp,F.binds fun _ _ _ _ _ _ us hl=>match us,hl with | [_],_=>rfl⟩
 exact zr (N:=["kinds"]) (O:=[]) (body:=yN) F qak (by decide) fun cdv A outer s H E B hr=>(qi (qU (ug (fo:=none) rfl (yf (dC C_all_loads hr (qb (qc 0) qe))) (cs ["kinds"] ["load","kinds"] 1 [0] (qd zy)) (f0 [0] []) (fun _ _ _ _ _ _ _ _ _ _ _=>⟨(qA (i:=0) (nd ["load","kinds"])),uV,(jb (qb (dC C_taken_together hr (qb (qc 1) (qb (qc 0) (qb (gI T.c_WEIGHT) qe)))) (qb (dC C_taken_together hr (qb (qc 1) (qb (qc 0) (qb (gI T.c_WORTH) qe)))) (qb (qc 0) qe))))⟩))))
theorem yW:qy ["kinds","kept","weighed"] ["kinds"] (qd jc):=⟨rfl,rfl,rfl,by decide +kernel,rfl,by decide +kernel,by decide +kernel⟩
theorem q5 (F:Fun K "not_beaten" "not_beaten" jc f fd) (m:mg "not_beaten"=some (.ref f)) (T:Txt K mg) (XTt:XT K mg RN TN) (hB:K.In base) (C_beating_order:Q1 P w K mg base) (C_all_weighed:Q4 P w K mg base):Q5 P w K mg base:=by
 refine ⟨f,fd,?_,m,F.kp,F.binds fun _ _ _ _ _ _ us hl=>match us,hl with | [_],_=>rfl⟩
 exact zr (N:=["kinds","kept","weighed"]) (O:=[1]) (body:=uo) F yW (by decide) fun cdv A outer s H E B hr=>(qh (vz (i:=1) yW.nd (qbQ qe))
   (qh (yo PassesOwn.never rfl (yf (qhs (dC C_all_weighed hr (qb (qc 0) qe)) C_beating_order hr rfl T.b_sorted)) (qA (i:=2) yW.nd) (qi (ub (DW.dt (qd4 (qjP (i:=1) (ji (wG hr) uJ (qc 1) (yb qe) (zC _))) (qas (ji qiT qe8 (jq zd zm (qc 2) (gI T.c_WORTH)) (jq zd zm (qfg (i:=1) (qia qg)) (gI T.c_WORTH)) (zC _))))) (qi (uE (uW (i:=1) (qc 2)))) zc)))
   (qi (qjl (i:=1)))))
theorem qal:qy ["store"] ["store"] (qd zY):=⟨rfl,rfl,rfl,by decide +kernel,rfl,by decide +kernel,by decide +kernel⟩
theorem q6 (F:Fun K "second_half" "second_half" zY f fd) (m:mg "second_half"=some (.ref f)) (T:Txt K mg) (XTt:XT K mg RN TN) (hB:K.In base):Q6 P w K mg base:=by
 refine ⟨f,fd,?_,m,F.kp,F.binds fun _ _ _ _ _ _ us hl=>match us,hl with | [_],_=>rfl⟩
 exact zr (N:=["store"]) (O:=[]) (body:=yO) F qal (by decide) fun cdv A outer s H E B hr=>(qi (qU (vb (qc 0) (qa0 (qz uD yG (qV jj jD rfl T.b_len vS (qb (qc 0) qe)) qg)) qaZ)))
theorem qbu:qy ["store"] ["store"] (qd jd):=⟨rfl,rfl,rfl,by decide +kernel,rfl,by decide +kernel,by decide +kernel⟩
theorem q7 (F:Fun K "first_half" "first_half" jd f fd) (m:mg "first_half"=some (.ref f)) (T:Txt K mg) (XTt:XT K mg RN TN) (hB:K.In base):Q7 P w K mg base:=by
 refine ⟨f,fd,?_,m,F.kp,F.binds fun _ _ _ _ _ _ us hl=>match us,hl with | [_],_=>rfl⟩
 exact zr (N:=["store"]) (O:=[]) (body:=uq) F qbu (by decide) fun cdv A outer s H E B hr=>(qi (qU (vb (qc 0) qaZ (qa0 (qz uD yG (qV jj jD rfl T.b_len vS (qb (qc 0) qe)) qg)))))
theorem qam:qy ["store"] ["store"] (qd zg):=⟨rfl,rfl,rfl,by decide +kernel,rfl,by decide +kernel,by decide +kernel⟩
theorem q8 (F:Fun K "need_single" "need_single" zg f fd) (m:mg "need_single"=some (.ref f)) (T:Txt K mg) (XTt:XT K mg RN TN) (hB:K.In base):Q8 P w K mg base:=by
 obtain ⟨S,mS,xS⟩:=XTt.xcls hB
 obtain ⟨C_NotSingle,hc_NotSingle⟩:=XTt.has (n:="NotSingle") (by decide)
 have mc_NotSingle:=XTt.mgc _ _ (XTt.cls hc_NotSingle).1
 obtain ⟨bm_NotSingle,xc_NotSingle,_⟩:=xS.own _ _ hc_NotSingle
 refine ⟨f,fd,?_,m,F.kp,F.binds fun _ _ _ _ _ _ us hl=>match us,hl with | [_],_=>rfl⟩
 show uQ P w K mg base (CX1 P w) 1 f fd ["store"] (spX K (clR K RN) (qcC (["store"]:List Str).length (["store"]:List Str).length zA))
 refine qfC (N:=["store"]) (ps:=["store"]) (k:=0) (O:=[]) (body:=zA) (cl:=clR K RN) F qam ?a ?b
 case a=>decide
 intro cdv A outer s H E B hr
 have L:=qfB (P:=P) (w:=w) (K:=K) (mg:=mg) (base:=base) (N:=["store"]) (qual:="need_single") (scope:=qd zg) (f:=f) (cdv:=cdv) (A:=A) (outer:=outer) (s:=s) (H:=H) (E:=E) (c:=cfn [] [] B H (fun _=>False) (fun x H'=>∀ C,clR K RN x.cls=some C->E (.ref C) none H') fun _=>none) (cl:=clR K RN) rfl (fun x C H' h1 h2=>h2 C h1)
 exact (qi (ub (vR (vQ (qV (qdb rfl) qbP rfl T.b_all qic (qb (ug (fo:=none) rfl (yf (qc 0)) (cs ["store"] ["kind"] 1 [] (qd zg)) (f0 [] []) (fun _ _ _ _ _ _ _ _ _ _ _=>⟨(qA (i:=0) (nd ["kind"])),uV,(qaq (qlN hr) qjT (jq zd zm (qc 0) (gI T.c_MOST)) (jb (qb qg (qb qg qe))) rfl)⟩)) qe)))) (qi (qdi rfl L hc_NotSingle rfl mc_NotSingle xc_NotSingle (qb yZ qe))) zc))
theorem qc0:qy ["thing"] ["thing"] (qd jW):=⟨rfl,rfl,rfl,by decide +kernel,rfl,by decide +kernel,by decide +kernel⟩
theorem q9 (F:Fun K "is_whole" "is_whole" jW f fd) (m:mg "is_whole"=some (.ref f)) (T:Txt K mg) (XTt:XT K mg RN TN) (hB:K.In base):Q9 P w K mg base:=by
 refine ⟨f,fd,?_,m,F.kp,F.binds fun _ _ _ _ _ _ us hl=>match us,hl with | [_],_=>rfl⟩
 exact zr (N:=["thing"]) (O:=[]) (body:=vJ) F qc0 (by decide) fun cdv A outer s H E B hr=>(qi (qU (qe5 (qda qjd rfl T.b_isinstance rfl T.b_int qly (qc 0) qF) (qbL (qk4 (qda qgT rfl T.b_isinstance rfl T.b_bool qjy (qc 0) qF))))))
theorem qc1:qy ["thing"] ["thing"] (qd jX):=⟨rfl,rfl,rfl,by decide +kernel,rfl,by decide +kernel,by decide +kernel⟩
theorem q10 (F:Fun K "is_count" "is_count" jX f fd) (m:mg "is_count"=some (.ref f)) (T:Txt K mg) (XTt:XT K mg RN TN) (hB:K.In base) (C_is_whole:Q9 P w K mg base):Q10 P w K mg base:=by
 refine ⟨f,fd,?_,m,F.kp,F.binds fun _ _ _ _ _ _ us hl=>match us,hl with | [_],_=>rfl⟩
 exact zr (N:=["thing"]) (O:=[]) (body:=vK) F qc1 (by decide) fun cdv A outer s H E B hr=>(qi (qU (qe5 (dC C_is_whole hr (qb (qc 0) qe)) (qbL (qaq qkO qh0 (qc 0) qg (zC _))))))
theorem qeu:qy ["thing"] ["thing"] (qd yE):=⟨rfl,rfl,rfl,by decide +kernel,rfl,by decide +kernel,by decide +kernel⟩
theorem q11 (F:Fun K "is_kind" "is_kind" yE f fd) (m:mg "is_kind"=some (.ref f)) (T:Txt K mg) (XTt:XT K mg RN TN) (hB:K.In base) (C_is_count:Q10 P w K mg base):Q11 P w K mg base:=by
 refine ⟨f,fd,?_,m,F.kp,F.binds fun _ _ _ _ _ _ us hl=>match us,hl with | [_],_=>rfl⟩
 exact zr (N:=["thing"]) (O:=[]) (body:=wZ) F qeu (by decide) fun cdv A outer s H E B hr=>(qh (ub (DW.dt (qd4 (vR (vQ (qda qbO rfl T.b_isinstance rfl T.b_tuple u4 (qc 0) qF))) (qas (ji (qbV hr) wH (qV jj jD rfl T.b_len vS (qb (qc 0) qe)) qg (zC _))))) (qi (qU qbK)) zc)
   (qh (ub (DW.dt (qd4 (vR (vQ (dC C_is_count hr (qb (jq zd zm (qc 0) (gI T.c_WEIGHT)) qe)))) (qas (ji (wG hr) uJ (jq zd zm (qc 0) (gI T.c_WEIGHT)) qg (zC _))))) (qi (qU qbK)) zc)
   (qi (qU (qe5 (dC C_is_count hr (qb (jq zd zm (qc 0) (gI T.c_WORTH)) qe)) (qbL (qgK (qaq qkP qi9 (jq zd zm (qc 0) (gI T.c_MOST)) qe0 (zC _)) (qbL (dC C_is_count hr (qb (jq zd zm (qc 0) (gI T.c_MOST)) qe))))))))))
theorem qc2:qy ["thing"] ["thing"] (qd ju):=⟨rfl,rfl,rfl,by decide +kernel,rfl,by decide +kernel,by decide +kernel⟩
theorem q12 (F:Fun K "is_store" "is_store" ju f fd) (m:mg "is_store"=some (.ref f)) (T:Txt K mg) (XTt:XT K mg RN TN) (hB:K.In base) (C_is_kind:Q11 P w K mg base):Q12 P w K mg base:=by
 refine ⟨f,fd,?_,m,F.kp,F.binds fun _ _ _ _ _ _ us hl=>match us,hl with | [_],_=>rfl⟩
 exact zr (N:=["thing"]) (O:=[]) (body:=vL) F qc2 (by decide) fun cdv A outer s H E B hr=>(qh (ub (DW.dt (qd4 (vR (vQ (qda qbO rfl T.b_isinstance rfl T.b_tuple u4 (qc 0) qF))) (qas (ji qiT qe8 (qV jj jD rfl T.b_len vS (qb (qc 0) qe)) (gI T.c_KINDS_AT_MOST) (zC _))))) (qi (qU qbK)) zc)
   (qi (qU (qV (qdb rfl) qbP rfl T.b_all qic (qb (ug (fo:=none) rfl (yf (qc 0)) (cs ["thing"] ["part"] 1 [] (qd ju)) (f0 [] []) (fun _ _ _ _ _ _ _ _ _ _ _=>⟨(qA (i:=0) (nd ["part"])),uV,(dC C_is_kind hr (qb (qc 0) qe))⟩)) qe)))))
theorem qbv:qy ["thing"] ["thing"] (qd zU):=⟨rfl,rfl,rfl,by decide +kernel,rfl,by decide +kernel,by decide +kernel⟩
theorem q13 (F:Fun K "need_store" "need_store" zU f fd) (m:mg "need_store"=some (.ref f)) (T:Txt K mg) (XTt:XT K mg RN TN) (hB:K.In base) (C_is_store:Q12 P w K mg base):Q13 P w K mg base:=by
 obtain ⟨S,mS,xS⟩:=XTt.xcls hB
 obtain ⟨C_NoStore,hc_NoStore⟩:=XTt.has (n:="NoStore") (by decide)
 have mc_NoStore:=XTt.mgc _ _ (XTt.cls hc_NoStore).1
 obtain ⟨bm_NoStore,xc_NoStore,_⟩:=xS.own _ _ hc_NoStore
 refine ⟨f,fd,?_,m,F.kp,F.binds fun _ _ _ _ _ _ us hl=>match us,hl with | [_],_=>rfl⟩
 show uQ P w K mg base (CX1 P w) 5 f fd ["thing"] (spX K (clR K RN) (qcC (["thing"]:List Str).length (["thing"]:List Str).length yu))
 refine qfC (N:=["thing"]) (ps:=["thing"]) (k:=4) (O:=[]) (body:=yu) (cl:=clR K RN) F qbv ?a ?b
 case a=>decide
 intro cdv A outer s H E B hr
 have L:=qfB (P:=P) (w:=w) (K:=K) (mg:=mg) (base:=base) (N:=["thing"]) (qual:="need_store") (scope:=qd zU) (f:=f) (cdv:=cdv) (A:=A) (outer:=outer) (s:=s) (H:=H) (E:=E) (c:=cfn [] [] B H (fun _=>False) (fun x H'=>∀ C,clR K RN x.cls=some C->E (.ref C) none H') fun _=>none) (cl:=clR K RN) rfl (fun x C H' h1 h2=>h2 C h1)
 exact (qi (ub (vR (vQ (dC C_is_store hr (qb (qc 0) qe)))) (qi (qdi rfl L hc_NoStore rfl mc_NoStore xc_NoStore (qb yZ qe))) zc))
theorem qbw:qy ["store"] ["store"] (qd zV):=⟨rfl,rfl,rfl,by decide +kernel,rfl,by decide +kernel,by decide +kernel⟩
theorem q14 (F:Fun K "half_loads" "half_loads" zV f fd) (m:mg "half_loads"=some (.ref f)) (T:Txt K mg) (XTt:XT K mg RN TN) (hB:K.In base) (C_not_beaten:Q5 P w K mg base) (C_second_half:Q6 P w K mg base) (C_first_half:Q7 P w K mg base) (C_need_single:Q8 P w K mg base) (C_need_store:Q13 P w K mg base):Q14 P w K mg base:=by
 have hcl:∀ n,RN.contains n=true->(clR K RN n).isSome=true:=fun n hn=>Option.isSome_iff_exists.mpr (XTt.has hn)
 refine ⟨f,fd,?_,m,F.kp,F.binds fun _ _ _ _ _ _ us hl=>match us,hl with | [_],_=>rfl⟩
 show uQ P w K mg base (CX1 P w) 6 f fd ["store"] (spX K (clR K RN) (qcC (["store"]:List Str).length (["store"]:List Str).length jH))
 refine qfC (N:=["store"]) (ps:=["store"]) (k:=5) (O:=[]) (body:=jH) (cl:=clR K RN) F qbw ?a ?b
 case a=>decide
 intro cdv A outer s H E B hr
 have L:=qfB (P:=P) (w:=w) (K:=K) (mg:=mg) (base:=base) (N:=["store"]) (qual:="half_loads") (scope:=qd zV) (f:=f) (cdv:=cdv) (A:=A) (outer:=outer) (s:=s) (H:=H) (E:=E) (c:=cfn [] [] B H (fun _=>False) (fun x H'=>∀ C,clR K RN x.cls=some C->E (.ref C) none H') fun _=>none) (cl:=clR K RN) rfl (fun x C H' h1 h2=>h2 C h1)
 exact (qh (uE (xC L.two hcl C_need_store hr (qb (qc 0) qe)))
   (qh (uE (xC L.two hcl C_need_single hr (qb (qc 0) qe)))
   (qi (qU (jb (qb (dC C_not_beaten hr (qb (dC C_first_half hr (qb (qc 0) qe)) qe)) (qb (dC C_not_beaten hr (qb (dC C_second_half hr (qb (qc 0) qe)) qe)) qe)))))))
theorem vU:qy ["store","e"] ["store"] (qd jv):=⟨rfl,rfl,rfl,by decide +kernel,rfl,by decide +kernel,by decide +kernel⟩
theorem q15 (F:Fun K "_law_said" "_law_said" jv f fd) (m:mg "_law_said"=some (.ref f)) (T:Txt K mg) (XTt:XT K mg RN TN) (hB:K.In base) (C__law_marks:Q0 P w K mg base) (C_half_loads:Q14 P w K mg base):Q15 P w K mg base:=by
 obtain ⟨f__law_marks,fd__law_marks,G__law_marks,m__law_marks,k__law_marks,b__law_marks⟩:=C__law_marks.ex
 have hcl:∀ n,RN.contains n=true->(clR K RN n).isSome=true:=fun n hn=>Option.isSome_iff_exists.mpr (XTt.has hn)
 obtain ⟨S,mS,xS⟩:=XTt.xcls hB
 refine ⟨f,fd,?_,m,F.kp,F.binds fun _ _ _ _ _ _ us hl=>match us,hl with | [_],_=>rfl⟩
 exact zr (N:=["store","e"]) (O:=[]) (body:=yP) F vU (by decide) fun cdv A outer s H E B hr=>(qi (qlH (i:=1) vU.nd rfl rfl xS rfl mS G__law_marks (hr.mono (by decide)) rfl m__law_marks k__law_marks b__law_marks (fun xe pn E2 cE L=>(qi (qU (xC L hcl C_half_loads hr (qb (qc 0) qe)))))))
theorem uC:qy ["store","half"] ["store"] (qd zZ):=⟨rfl,rfl,rfl,by decide +kernel,rfl,by decide +kernel,by decide +kernel⟩
theorem q16 (F:Fun K "_law_halves" "_law_halves" zZ f fd) (m:mg "_law_halves"=some (.ref f)) (T:Txt K mg) (XTt:XT K mg RN TN) (hB:K.In base):Q16 P w K mg base:=by
 refine ⟨f,fd,?_,m,F.kp,F.binds fun _ _ _ _ _ _ us hl=>match us,hl with | [_],_=>rfl⟩
 exact zr (N:=["store","half"]) (O:=[]) (body:=yQ) F uC (by decide) fun cdv A outer s H E B hr=>(qh (zl (i:=1) uC.nd (qz uD yG (qV jj jD rfl T.b_len vS (qb (qc 0) qe)) qg))
   (qi (qU (jb (qb (vb (qc 0) qaZ (qa0 (qc 1))) (qb (vb (qc 0) (qa0 (qc 1)) qaZ) qe))))))
theorem qt:qy ["store","room","found","heavy","dear","most","later","load","left","often"] ["store","room"] (qd qK):=⟨rfl,rfl,rfl,by decide +kernel,rfl,by decide +kernel,by decide +kernel⟩
theorem q17 (F:Fun K "_law_all_loads" "_law_all_loads" qK f fd) (m:mg "_law_all_loads"=some (.ref f)) (T:Txt K mg) (XTt:XT K mg RN TN) (hB:K.In base):Q17 P w K mg base:=by
 refine ⟨f,fd,?_,m,F.kp,F.binds fun _ _ _ _ _ _ us hl=>match us,hl with | [_,_],_=>rfl⟩
 exact zr (N:=["store","room","found","heavy","dear","most","later","load","left","often"]) (O:=[]) (body:=jN) F qt (by decide) fun cdv A outer s H E B hr=>(qh (zl (i:=2) qt.nd (yb (qb (jb (qb (jb qe) (qb (qc 1) qe))) qe)))
   (qh (yo PassesOwn.never rfl (yf (qc 0)) (wp (n:=3) rfl (ze (qA (i:=3) qt.nd) (ze (qA (i:=4) qt.nd) (ze (qA (i:=5) qt.nd) uF)))) (qh (zl (i:=6) qt.nd (yb qe))
   (qh (yo PassesOwn.never rfl (yf (qc 2)) (wp (n:=2) rfl (ze (qA (i:=7) qt.nd) (ze (qA (i:=8) qt.nd) uF))) (qh (zl (i:=9) qt.nd (qz uD yG (qc 8) (qc 3)))
   (qh (ub (ji qiU qgP (qc 5) qe0 (zC _)) (qi (zl (i:=9) qt.nd (qV (v9 rfl) wy rfl T.b_min qfl (qb (qc 9) (qb (qc 5) qe))))) zc)
   (qi (zl (i:=6) qt.nd (qz zp zq (qc 6) (ug (fo:=none) rfl (yg rfl T.b_range (qb (qz zp zq (qc 9) qg) qe)) (cs ["store","room","found","heavy","dear","most","later","load","left","often"] ["k","load","left","heavy"] 1 [7,8,3] (qd qK)) (f0 [7,8,3] []) (fun _ _ _ _ _ _ _ _ _ _ _=>⟨(qA (i:=0) (nd ["k","load","left","heavy"])),uV,(jb (qb (qz zp zq (qc 1) (jb (qb (qc 0) qe))) (qb (qz qkJ qi7 (qc 2) (qz jL z8 (qc 0) (qc 3))) qe)))⟩))))))))
   (qi (zl (i:=2) qt.nd (qc 6))))))
   (qi (qU (ug (fo:=none) rfl (yf (qc 2)) (cs ["store","room","found","heavy","dear","most","later","load","left","often"] ["load","left"] 2 [] (qd qK)) (f0 [] []) (fun _ _ _ _ _ _ _ _ _ _ _=>⟨(wp (n:=2) rfl (ze (qA (i:=0) (nd ["load","left"])) (ze (qA (i:=1) (nd ["load","left"])) uF))),uV,(qc 0)⟩))))))
theorem yX:qy ["store","load","place","found","at"] ["store","load","place"] (qd jY):=⟨rfl,rfl,rfl,by decide +kernel,rfl,by decide +kernel,by decide +kernel⟩
theorem q18 (F:Fun K "_law_sum" "_law_sum" jY f fd) (m:mg "_law_sum"=some (.ref f)) (T:Txt K mg) (XTt:XT K mg RN TN) (hB:K.In base):Q18 P w K mg base:=by
 refine ⟨f,fd,?_,m,F.kp,F.binds fun _ _ _ _ _ _ us hl=>match us,hl with | [_,_,_],_=>rfl⟩
 exact zr (N:=["store","load","place","found","at"]) (O:=[]) (body:=vM) F yX (by decide) fun cdv A outer s H E B hr=>(qh (zl (i:=3) yX.nd qg)
   (qh (yo PassesOwn.never rfl (yg rfl T.b_range (qb (qV jj jD rfl T.b_len vS (qb (qc 0) qe)) qe)) (qA (i:=4) yX.nd) (qi (zl (i:=3) yX.nd (qz zp zq (qc 3) (qz jL z8 (jq zd zm (jq zd zm (qc 0) (qc 4)) (qc 2)) (jq zd zm (qc 1) (qc 4)))))))
   (qi (qU (qc 3)))))
theorem qG:qy ["store","loads","found","heavy","dear","load","worse","other"] ["store"] (qd qN):=⟨rfl,rfl,rfl,by decide +kernel,rfl,by decide +kernel,by decide +kernel⟩
theorem q19 (F:Fun K "_law_unbeaten" "_law_unbeaten" qN f fd) (m:mg "_law_unbeaten"=some (.ref f)) (T:Txt K mg) (XTt:XT K mg RN TN) (hB:K.In base) (C__law_all_loads:Q17 P w K mg base) (C__law_sum:Q18 P w K mg base):Q19 P w K mg base:=by
 refine ⟨f,fd,?_,m,F.kp,F.binds fun _ _ _ _ _ _ us hl=>match us,hl with | [_],_=>rfl⟩
 exact zr (N:=["store","loads","found","heavy","dear","load","worse","other"]) (O:=[2]) (body:=yk) F qG (by decide) fun cdv A outer s H E B hr=>(qh (qjI (i:=1) qG.nd (qjH (fo:=none) rfl (yf (dC C__law_all_loads hr (qb (qc 0) (qb (qz qhU qfk qg qg) qe)))) (cs ["store","loads","found","heavy","dear","load","worse","other"] ["load","store"] 1 [0] (qd qN)) (f0 [0] [2]) (fun _ _ _ _ _ _ _ _ _ _ _=>⟨(qA (i:=0) (nd ["load","store"])),uV,(jb (qb (dC C__law_sum hr (qb (qc 1) (qb (qc 0) (qb qg qe)))) (qb (dC C__law_sum hr (qb (qc 1) (qb (qc 0) (qb qg qe)))) (qb (qc 0) qe))))⟩)) rfl (cs ["store","loads","found","heavy","dear","load","worse","other"] ["load","store"] 1 [0] (qd qN)))
   (qh (vz (i:=2) qG.nd (qbQ qe))
   (qh (yo PassesOwn.never rfl (yf (qc 1)) (wp (n:=3) rfl (ze (qA (i:=3) qG.nd) (ze (qA (i:=4) qG.nd) (ze (qA (i:=5) qG.nd) uF)))) (qh (zl (i:=6) qG.nd qbK)
   (qh (yo PassesOwn.never rfl (yf (qc 1)) (qA (i:=7) qG.nd) (qi (ub (DW.dt (qe3 (ji qmP qk8 (jq zd zm (qc 7) qg) (qc 3) (zC _)) (qe3 (ji qkO qh0 (jq zd zm (qc 7) qg) (qc 4) (zC _)) (qe2 (ji (qbV hr) wH (jq zd zm (qc 7) qg) (qc 5) (zC _)))))) (qi (zl (i:=6) qG.nd (qgK (qc 6) (qgK (qaq (qiz hr) qfW (jq zd zm (qc 7) qg) (qc 3) (zC _)) (qgK (qaq qiT qe8 (jq zd zm (qc 7) qg) (qc 4) (zC _)) (qbL (qaq (qiz hr) qfW (jq zd zm (qc 7) qg) (qc 5) (zC _)))))))) zc)))
   (qi (ub (vR (vQ (qc 6))) (qi (uE (uW (i:=2) (jb (qb (qc 3) (qb (qc 4) (qb (qc 5) qe))))))) zc)))))
   (qi (qU (qm5 (qhu (i:=2) hr rfl T.b_sorted)))))))
theorem ut:qy ["box","many","left","digit"] ["box","many"] (qd jw):=⟨rfl,rfl,rfl,by decide +kernel,rfl,by decide +kernel,by decide +kernel⟩
theorem q20 (F:Fun K "_law_take" "_law_take" jw f fd) (m:mg "_law_take"=some (.ref f)) (T:Txt K mg) (XTt:XT K mg RN TN) (hB:K.In base):Q20 P w K mg base:=by
 refine ⟨f,fd,?_,m,F.kp,F.binds fun _ _ _ _ _ _ us hl=>match us,hl with | [_,_],_=>rfl⟩
 show uQ P w K mg base CX0 1 f fd ["box","many"] (qez K (vA (["box","many","left","digit"]:List Str).length (["box","many"]:List Str).length yR))
 refine qg2 (N:=["box","many","left","digit"]) (ps:=["box","many"]) (k:=0) (O:=[0]) (body:=yR) F ut ?a ?a0 ?b
 case a=>decide
 case a0=>decide
 intro cdv A outer s H E B Io S hr
 exact (qh (qk6 (qV qcq qbN rfl T.b_divmod qfm (qb (qfg (i:=0) qg) (qb (qc 1) qe))) (wp (n:=2) rfl (ze (qA (i:=2) ut.nd) (ze (qA (i:=3) ut.nd) uF))))
   (qh (qji (i:=0) (qc 2) qg)
   (qi (qU (qc 3)))))
theorem za:qy ["box","ends","way","heavy","dear","often"] ["box","ends"] (qd zJ):=⟨rfl,rfl,rfl,by decide +kernel,rfl,by decide +kernel,by decide +kernel⟩
theorem q21 (F:Fun K "_law_kind_of" "_law_kind_of" zJ f fd) (m:mg "_law_kind_of"=some (.ref f)) (T:Txt K mg) (XTt:XT K mg RN TN) (hB:K.In base) (C__law_take:Q20 P w K mg base):Q21 P w K mg base:=by
 refine ⟨f,fd,?_,m,F.kp,F.binds fun _ _ _ _ _ _ us hl=>match us,hl with | [_,_],_=>rfl⟩
 show uQ P w K mg base CX0 2 f fd ["box","ends"] (qez K (vA (["box","ends","way","heavy","dear","often"]:List Str).length (["box","ends"]:List Str).length jB))
 refine qg2 (N:=["box","ends","way","heavy","dear","often"]) (ps:=["box","ends"]) (k:=1) (O:=[0]) (body:=jB) F za ?a ?a0 ?b
 case a=>decide
 case a0=>decide
 intro cdv A outer s H E B Io S hr
 exact (qh (zl (i:=2) za.nd (iC (i:=0) C__law_take hr (qb qg qe)))
   (qh (qib (i:=3) (j:=4) za.nd (qb (qz zp zq qg (iC (i:=0) C__law_take hr (qb qg qe))) (qb (iC (i:=0) C__law_take hr (qb qg qe)) qe)) rfl)
   (qh (ub (ji (wG hr) uJ (qc 2) qg (zC _)) (qi (zl (i:=4) za.nd (qz jL z8 qg (qc 3)))) zc)
   (qh (ub (ji (wG hr) uJ (qc 2) qg (zC _)) (qi (zl (i:=4) za.nd (qz zp zq (qc 3) (iC (i:=0) C__law_take hr (qb qg qe))))) zc)
   (qh (ub (ji (wG hr) uJ (qc 2) qg (zC _)) (qi (qib (i:=3) (j:=4) za.nd (qb (qz zp zq qg (iC (i:=0) C__law_take hr (qb qg qe))) (qb (iC (i:=0) C__law_take hr (qb qg qe)) qe)) rfl)) zc)
   (qh (zl (i:=5) za.nd (jq zd zm (yb (qb qg (qb qg (qb qg (qb qg (qb qg (qb qg (qb qg (qb (qc 1) qe))))))))) (iC (i:=0) C__law_take hr (qb qg qe))))
   (qi (qU (jb (qb (qc 3) (qb (qc 4) (qb (qc 5) qe))))))))))))
theorem zW:qy ["box","most","ends","found","k","kind"] ["box","most","ends"] (qd zK):=⟨rfl,rfl,rfl,by decide +kernel,rfl,by decide +kernel,by decide +kernel⟩
theorem q22 (F:Fun K "_law_stocked" "_law_stocked" zK f fd) (m:mg "_law_stocked"=some (.ref f)) (T:Txt K mg) (XTt:XT K mg RN TN) (hB:K.In base) (C__law_take:Q20 P w K mg base) (C__law_kind_of:Q21 P w K mg base):Q22 P w K mg base:=by
 refine ⟨f,fd,?_,m,F.kp,F.binds fun _ _ _ _ _ _ us hl=>match us,hl with | [_,_,_],_=>rfl⟩
 show uQ P w K mg base CX0 3 f fd ["box","most","ends"] (qez K (vA (["box","most","ends","found","k","kind"]:List Str).length (["box","most","ends"]:List Str).length jC))
 refine qg2 (N:=["box","most","ends","found","k","kind"]) (ps:=["box","most","ends"]) (k:=2) (O:=[0,3]) (body:=jC) F zW ?a ?a0 ?b
 case a=>decide
 case a0=>decide
 intro cdv A outer s H E B Io S hr
 exact (qh (vz (i:=3) zW.nd (qbQ qe))
   (qh (yo PassesOwn.never rfl (yg rfl T.b_range (qb (iC (i:=0) C__law_take hr (qb (qz zp zq (qc 1) qg) qe)) qe)) (qA (i:=4) zW.nd) (qh (zl (i:=5) zW.nd (iC (i:=0) C__law_kind_of hr (qb (qc 2) qe)))
   (qh (ub (DW.dt (qe3 (qll (i:=3) hr (yb qe)) (qe2 (ji (wG hr) uJ (iC (i:=0) C__law_take hr (qb qg qe)) qg (zC _))))) (qi (zl (i:=5) zW.nd (qfg (i:=3) (iC (i:=0) C__law_take hr (qb (qjj (i:=3) rfl T.b_len) qe))))) zc)
   (qi (uE (uW (i:=3) (qc 5)))))))
   (qi (qU (qff (i:=3) rfl T.b_tuple u4)))))
theorem zb:qy ["box","most","great","found","heavy","dear","often"] ["box","most","great"] (qd qP):=⟨rfl,rfl,rfl,by decide +kernel,rfl,by decide +kernel,by decide +kernel⟩
theorem q23 (F:Fun K "_law_single_ones" "_law_single_ones" qP f fd) (m:mg "_law_single_ones"=some (.ref f)) (T:Txt K mg) (XTt:XT K mg RN TN) (hB:K.In base) (C__law_stocked:Q22 P w K mg base) (C__law_take:Q20 P w K mg base):Q23 P w K mg base:=by
 refine ⟨f,fd,?_,m,F.kp,F.binds fun _ _ _ _ _ _ us hl=>match us,hl with | [_,_,_],_=>rfl⟩
 show uQ P w K mg base CX0 4 f fd ["box","most","great"] (qez K (vA (["box","most","great","found","heavy","dear","often"]:List Str).length (["box","most","great"]:List Str).length zN))
 refine qg2 (N:=["box","most","great","found","heavy","dear","often"]) (ps:=["box","most","great"]) (k:=3) (O:=[0,3]) (body:=zN) F zb ?a ?a0 ?b
 case a=>decide
 case a0=>decide
 intro cdv A outer s H E B Io S hr
 exact (qh (vz (i:=3) zb.nd (qbQ qe))
   (qh (yo PassesOwn.never rfl (yf (iC (i:=0) C__law_stocked hr (qb (qc 1) (qb qg qe)))) (wp (n:=3) rfl (ze (qA (i:=4) zb.nd) (ze (qA (i:=5) zb.nd) (ze (qA (i:=6) zb.nd) uF)))) (qi (uE (uW (i:=3) (jb (qb (qz zp zq (qz jL z8 (qc 4) (qc 2)) (iC (i:=0) C__law_take hr (qb (qc 2) qe))) (qb (qz zp zq (qz jL z8 (qc 5) (qc 2)) (iC (i:=0) C__law_take hr (qb (qc 2) qe))) (qb (qV (v9 rfl) wy rfl T.b_min qfl (qb (qc 6) (qb qg qe))) qe))))))))
   (qi (qU (qff (i:=3) rfl T.b_tuple u4)))))
theorem yY:qy ["cell","k","some","stir"] ["cell","k"] (qd jZ):=⟨rfl,rfl,rfl,by decide +kernel,rfl,by decide +kernel,by decide +kernel⟩
theorem q24 (F:Fun K "_law_mix" "_law_mix" jZ f fd) (m:mg "_law_mix"=some (.ref f)) (T:Txt K mg) (XTt:XT K mg RN TN) (hB:K.In base):Q24 P w K mg base:=by
 refine ⟨f,fd,?_,m,F.kp,F.binds fun _ _ _ _ _ _ us hl=>match us,hl with | [_,_],_=>rfl⟩
 exact zr (N:=["cell","k","some","stir"]) (O:=[]) (body:=vN) F yY (by decide) fun cdv A outer s H E B hr=>(qh (zl (i:=2) yY.nd (yb (qb qg (qb qg (qb qg (qb qg (qb qg (qb qg (qb qg (qb qg (qb qg (qb qg (qb qg (qb qg (qb qg qe)))))))))))))))
   (qh (zl (i:=3) yY.nd (qz zp zq (qz zp zq (qz jL z8 (qz zp zq (qz qbA wx (qc 0) qg) qg) (jq zd zm (qc 2) (qz qbA wx (qc 1) qg))) (qz jL z8 qg (qc 1))) (qz jL z8 qg (qz uD yG (qc 1) qg))))
   (qh (zl (i:=3) yY.nd (qz qbA wx (qc 3) qg))
   (qi (qU (qz uD yG (qz qbA wx (qz zp zq (qz jL z8 (qc 3) (qc 3)) (qz jL z8 qg (qc 1))) qg) qg))))))
theorem qcl:qy ["script","k"] ["script","k"] (qd jx):=⟨rfl,rfl,rfl,by decide +kernel,rfl,by decide +kernel,by decide +kernel⟩
theorem q25 (F:Fun K "_law_cell" "_law_cell" jx f fd) (m:mg "_law_cell"=some (.ref f)) (T:Txt K mg) (XTt:XT K mg RN TN) (hB:K.In base):Q25 P w K mg base:=by
 refine ⟨f,fd,?_,m,F.kp,F.binds fun _ _ _ _ _ _ us hl=>match us,hl with | [_,_],_=>rfl⟩
 exact zr (N:=["script","k"]) (O:=[]) (body:=yS) F qcl (by decide) fun cdv A outer s H E B hr=>(qh (ub (ji qkN qk7 (qc 1) (qV jj jD rfl T.b_len vS (qb (qc 0) qe)) (zC _)) (qi (qU (jq zd zm (qc 0) (qc 1)))) zc)
   (qi (qU qg)))
theorem ym:qy ["script","k","cell","number","j"] ["script","k"] (qd j4):=⟨rfl,rfl,rfl,by decide +kernel,rfl,by decide +kernel,by decide +kernel⟩
theorem q26 (F:Fun K "_law_box" "_law_box" j4 f fd) (m:mg "_law_box"=some (.ref f)) (T:Txt K mg) (XTt:XT K mg RN TN) (hB:K.In base) (C__law_mix:Q24 P w K mg base) (C__law_cell:Q25 P w K mg base):Q26 P w K mg base:=by
 refine ⟨f,fd,?_,m,F.kp,F.binds fun _ _ _ _ _ _ us hl=>match us,hl with | [_,_],_=>rfl⟩
 exact zr (N:=["script","k","cell","number","j"]) (O:=[]) (body:=uz) F ym (by decide) fun cdv A outer s H E B hr=>(qh (zl (i:=2) ym.nd (dC C__law_cell hr (qb (qc 0) (qb (qc 1) qe))))
   (qh (ub (ji (wG hr) uJ (qz qbA wx (qc 2) qg) qg (zC _)) (qi (qU (yb (qb (qz uD yG (qV qgA qfa rfl T.b_abs qlv (qb (qc 2) qe)) qg) qe)))) zc)
   (qh (zl (i:=3) ym.nd qg)
   (qh (yo PassesOwn.never rfl (yg rfl T.b_range (qb qg qe)) (qA (i:=4) ym.nd) (qi (zl (i:=3) ym.nd (qz zp zq (qz jL z8 (qc 3) qg) (dC C__law_mix hr (qb (qc 2) (qb (qc 4) qe)))))))
   (qi (qU (yb (qb (qc 3) qe))))))))
theorem vV:qy ["script","k","box","store","due","lap","found","kind"] ["script"] (qd qah):=⟨rfl,rfl,rfl,by decide +kernel,rfl,by decide +kernel,by decide +kernel⟩
theorem qmm (F:Fun K "law" "law" qah f fd) (T:Txt K mg) (XTt:XT K mg RN TN) (hB:K.In base) (C__law_said:Q15 P w K mg base) (C__law_halves:Q16 P w K mg base) (C__law_unbeaten:Q19 P w K mg base) (C__law_single_ones:Q23 P w K mg base) (C__law_take:Q20 P w K mg base) (C__law_box:Q26 P w K mg base):uQ P w K mg base CX0 8 f fd ["script"] (spD K qcV):=by
 exact zr (N:=["script","k","box","store","due","lap","found","kind"]) (O:=[2]) (body:=qj3) F vV (by decide) fun cdv A outer s H E B hr=>(qh (yo PassesOwn.never rfl (yg rfl T.b_range (qb (qV (qeN rfl) qfb rfl T.b_max qlw (qb qg (qb (qV (v9 rfl) wy rfl T.b_min qfl (qb (qV jj jD rfl T.b_len vS (qb (qc 0) qe)) (qb qg qe))) qe))) qe)) (qA (i:=1) vV.nd) (qh (vz (i:=2) vV.nd (nC C__law_box hr (qb (qc 0) (qb (qc 1) qe))))
   (qh (zl (i:=3) vV.nd (iC (i:=2) C__law_single_ones hr (qb (jq zd zm (yb (qb qg (qb qg (qb qg (qb qg qe))))) (qc 1)) (qb (jq zd zm (yb (qb qg (qb qg (qb (qz qhU qfk qg qg) qe)))) (iC (i:=2) C__law_take hr (qb qg qe))) qe))))
   (qh (zl (i:=4) vV.nd (qe6 uT qcv rfl T.b_tuple u4 (qb (ug (fo:=none) rfl (yf (dC C__law_halves hr (qb (qc 3) qe))) (cs ["script","k","box","store","due","lap","found","kind"] ["half"] 1 [] (qd qah)) (f0 [] [2]) (fun _ _ _ _ _ _ _ _ _ _ _=>⟨(qA (i:=0) (nd ["half"])),uV,(dC C__law_unbeaten hr (qb (qc 0) qe))⟩)) qe)))
   (qh (yo PassesOwn.never rfl (yg rfl T.b_range (qb qg qe)) (qA (i:=5) vV.nd) (qfY (i:=6) C__law_said hr (qb (qc 3) qe) (ji (qbV hr) wH (qV (qax hr) qay rfl T.b_repr qfn (qb (qc 6) qe)) (qV (qax hr) qay rfl T.b_repr qfn (qb (qc 4) qe)) (zC _)) vV.nd))
   (qi (yo PassesOwn.never rfl (yf (yb (qb (jb (qb qg (qb qg (qb qg qe)))) (qb (jb (qb qg (qb qg (qb qe0 qe)))) (qb (jb (qb qg (qb qg (qb qg qe)))) qe))))) (qA (i:=7) vV.nd) (qi (ub (DW.dt (qd4 (ji (qbV hr) wH (dC C__law_said hr (qb (qz zp zq (qc 3) (jb (qb (qc 7) qe))) qe)) yZ (zC _)) (qas (ji (qbV hr) wH (dC C__law_said hr (qb (qz zp zq (jb (qb (qc 7) qe)) (qc 3)) qe)) yZ (zC _))))) (qi (qU qbK)) zc)))))))))
   (qi (qU qbK)))
end
theorem all_mk {l:PySem.W.OpenLaw} {w:World} {K:PySem.W.Frag} {h:Heap} {mg:Str->Option Value} {fa f0 f1 f2 f3 f4 f5 f6 f7 f8 f9 f10 f11 f12 f13 f14 f15 f16 f17 f18 f19 f20 f21 f22 f23 f24 f25 f26 f27:Addr} (X:K.In h) (G:h.Ns mainGlobals mg) (hfa:mg "law"=some (.ref fa))
  {od0 an0 od1 an1 od2 an2 od3 an3 od4 an4 od5 an5 od6 an6 od7 an7 od8 an8 od9 an9 od10 an10 od11 an11 od12 an12 od13 an13 od14 an14 od15 an15 od16 an16 od17 an17 od18 an18 od19 an19 od20 an20 od21 an21 od22 an22 od23 an23 od24 an24 od25 an25 od26 an26 od27 an27:Option Addr} {sl0 sl1 sl2 sl3 sl4 sl5 sl6 sl7 sl8 sl9 sl10 sl11 sl12 sl13 sl14 sl15 sl16 sl17 sl18 sl19 sl20 sl21 sl22 sl23 sl24 sl25 sl26 sl27:Array (Option Value)} {oc0 kV0 dc0 pm0 cd0 ct0 oc1 kV1 dc1 pm1 cd1 ct1 oc2 kV2 dc2 pm2 cd2 ct2 oc3 kV3 dc3 pm3 cd3 ct3 oc4 kV4 dc4 pm4 cd4 ct4 oc5 kV5 dc5 pm5 cd5 ct5 oc6 kV6 dc6 pm6 cd6 ct6 oc7 kV7 dc7 pm7 cd7 ct7 oc8 kV8 dc8 pm8 cd8 ct8 oc9 kV9 dc9 pm9 cd9 ct9 oc10 kV10 dc10 pm10 cd10 ct10 oc11 kV11 dc11 pm11 cd11 ct11 oc12 kV12 dc12 pm12 cd12 ct12 oc13 kV13 dc13 pm13 cd13 ct13 oc14 kV14 dc14 pm14 cd14 ct14 oc15 kV15 dc15 pm15 cd15 ct15 oc16 kV16 dc16 pm16 cd16 ct16 oc17 kV17 dc17 pm17 cd17 ct17 oc18 kV18 dc18 pm18 cd18 ct18 oc19 kV19 dc19 pm19 cd19 ct19 oc20 kV20 dc20 pm20 cd20 ct20 oc21 kV21 dc21 pm21 cd21 ct21 oc22 kV22 dc22 pm22 cd22 ct22 oc23 kV23 dc23 pm23 cd23 ct23 oc24 kV24 dc24 pm24 cd24 ct24 oc25 kV25 dc25 pm25 cd25 ct25 oc26 kV26 dc26 pm26 cd26 ct26 oc27 kV27 dc27 pm27 cd27 ct27:Value} {tk_KINDS_AT_MOST:Tok} {tk_LOAD:Tok} {tk_MOST:Tok} {tk_WEIGHT:Tok} {tk_WORTH:Tok}
  (a0:PySem.W.nsIn K mainGlobals "_law_marks"=some (some (.ref f0))) (l0:K.lookup f0=some ⟨oc0,od0,.func (PySem.W.fnOf "_law_marks" "_law_marks" (qB zT) (qx zT) (qd zT) .none kV0 dc0 pm0 an0 cd0 ct0),sl0⟩) (c0:PySem.W.codeIn K cd0 "_law_marks"=true) (k0:PySem.W.keepIn K (.ref f0)=true)
  (a1:PySem.W.nsIn K mainGlobals "beating_order"=some (some (.ref f1))) (l1:K.lookup f1=some ⟨oc1,od1,.func (PySem.W.fnOf "beating_order" "beating_order" (qB zv) (qx zv) (qd zv) .none kV1 dc1 pm1 an1 cd1 ct1),sl1⟩) (c1:PySem.W.codeIn K cd1 "beating_order"=true) (k1:PySem.W.keepIn K (.ref f1)=true)
  (a2:PySem.W.nsIn K mainGlobals "all_loads"=some (some (.ref f2))) (l2:K.lookup f2=some ⟨oc2,od2,.func (PySem.W.fnOf "all_loads" "all_loads" (qB ja) (qx ja) (qd ja) .none kV2 dc2 pm2 an2 cd2 ct2),sl2⟩) (c2:PySem.W.codeIn K cd2 "all_loads"=true) (k2:PySem.W.keepIn K (.ref f2)=true)
  (a3:PySem.W.nsIn K mainGlobals "taken_together"=some (some (.ref f3))) (l3:K.lookup f3=some ⟨oc3,od3,.func (PySem.W.fnOf "taken_together" "taken_together" (qB qQ) (qx qQ) (qd qQ) .none kV3 dc3 pm3 an3 cd3 ct3),sl3⟩) (c3:PySem.W.codeIn K cd3 "taken_together"=true) (k3:PySem.W.keepIn K (.ref f3)=true)
  (a4:PySem.W.nsIn K mainGlobals "all_weighed"=some (some (.ref f4))) (l4:K.lookup f4=some ⟨oc4,od4,.func (PySem.W.fnOf "all_weighed" "all_weighed" (qB zy) (qx zy) (qd zy) .none kV4 dc4 pm4 an4 cd4 ct4),sl4⟩) (c4:PySem.W.codeIn K cd4 "all_weighed"=true) (k4:PySem.W.keepIn K (.ref f4)=true)
  (a5:PySem.W.nsIn K mainGlobals "not_beaten"=some (some (.ref f5))) (l5:K.lookup f5=some ⟨oc5,od5,.func (PySem.W.fnOf "not_beaten" "not_beaten" (qB jc) (qx jc) (qd jc) .none kV5 dc5 pm5 an5 cd5 ct5),sl5⟩) (c5:PySem.W.codeIn K cd5 "not_beaten"=true) (k5:PySem.W.keepIn K (.ref f5)=true)
  (a6:PySem.W.nsIn K mainGlobals "second_half"=some (some (.ref f6))) (l6:K.lookup f6=some ⟨oc6,od6,.func (PySem.W.fnOf "second_half" "second_half" (qB zY) (qx zY) (qd zY) .none kV6 dc6 pm6 an6 cd6 ct6),sl6⟩) (c6:PySem.W.codeIn K cd6 "second_half"=true) (k6:PySem.W.keepIn K (.ref f6)=true)
  (a7:PySem.W.nsIn K mainGlobals "first_half"=some (some (.ref f7))) (l7:K.lookup f7=some ⟨oc7,od7,.func (PySem.W.fnOf "first_half" "first_half" (qB jd) (qx jd) (qd jd) .none kV7 dc7 pm7 an7 cd7 ct7),sl7⟩) (c7:PySem.W.codeIn K cd7 "first_half"=true) (k7:PySem.W.keepIn K (.ref f7)=true)
  (a8:PySem.W.nsIn K mainGlobals "need_single"=some (some (.ref f8))) (l8:K.lookup f8=some ⟨oc8,od8,.func (PySem.W.fnOf "need_single" "need_single" (qB zg) (qx zg) (qd zg) .none kV8 dc8 pm8 an8 cd8 ct8),sl8⟩) (c8:PySem.W.codeIn K cd8 "need_single"=true) (k8:PySem.W.keepIn K (.ref f8)=true)
  (a9:PySem.W.nsIn K mainGlobals "is_whole"=some (some (.ref f9))) (l9:K.lookup f9=some ⟨oc9,od9,.func (PySem.W.fnOf "is_whole" "is_whole" (qB jW) (qx jW) (qd jW) .none kV9 dc9 pm9 an9 cd9 ct9),sl9⟩) (c9:PySem.W.codeIn K cd9 "is_whole"=true) (k9:PySem.W.keepIn K (.ref f9)=true)
  (a10:PySem.W.nsIn K mainGlobals "is_count"=some (some (.ref f10))) (l10:K.lookup f10=some ⟨oc10,od10,.func (PySem.W.fnOf "is_count" "is_count" (qB jX) (qx jX) (qd jX) .none kV10 dc10 pm10 an10 cd10 ct10),sl10⟩) (c10:PySem.W.codeIn K cd10 "is_count"=true) (k10:PySem.W.keepIn K (.ref f10)=true)
  (a11:PySem.W.nsIn K mainGlobals "is_kind"=some (some (.ref f11))) (l11:K.lookup f11=some ⟨oc11,od11,.func (PySem.W.fnOf "is_kind" "is_kind" (qB yE) (qx yE) (qd yE) .none kV11 dc11 pm11 an11 cd11 ct11),sl11⟩) (c11:PySem.W.codeIn K cd11 "is_kind"=true) (k11:PySem.W.keepIn K (.ref f11)=true)
  (a12:PySem.W.nsIn K mainGlobals "is_store"=some (some (.ref f12))) (l12:K.lookup f12=some ⟨oc12,od12,.func (PySem.W.fnOf "is_store" "is_store" (qB ju) (qx ju) (qd ju) .none kV12 dc12 pm12 an12 cd12 ct12),sl12⟩) (c12:PySem.W.codeIn K cd12 "is_store"=true) (k12:PySem.W.keepIn K (.ref f12)=true)
  (a13:PySem.W.nsIn K mainGlobals "need_store"=some (some (.ref f13))) (l13:K.lookup f13=some ⟨oc13,od13,.func (PySem.W.fnOf "need_store" "need_store" (qB zU) (qx zU) (qd zU) .none kV13 dc13 pm13 an13 cd13 ct13),sl13⟩) (c13:PySem.W.codeIn K cd13 "need_store"=true) (k13:PySem.W.keepIn K (.ref f13)=true)
  (a14:PySem.W.nsIn K mainGlobals "half_loads"=some (some (.ref f14))) (l14:K.lookup f14=some ⟨oc14,od14,.func (PySem.W.fnOf "half_loads" "half_loads" (qB zV) (qx zV) (qd zV) .none kV14 dc14 pm14 an14 cd14 ct14),sl14⟩) (c14:PySem.W.codeIn K cd14 "half_loads"=true) (k14:PySem.W.keepIn K (.ref f14)=true)
  (a15:PySem.W.nsIn K mainGlobals "_law_said"=some (some (.ref f15))) (l15:K.lookup f15=some ⟨oc15,od15,.func (PySem.W.fnOf "_law_said" "_law_said" (qB jv) (qx jv) (qd jv) .none kV15 dc15 pm15 an15 cd15 ct15),sl15⟩) (c15:PySem.W.codeIn K cd15 "_law_said"=true) (k15:PySem.W.keepIn K (.ref f15)=true)
  (a16:PySem.W.nsIn K mainGlobals "_law_halves"=some (some (.ref f16))) (l16:K.lookup f16=some ⟨oc16,od16,.func (PySem.W.fnOf "_law_halves" "_law_halves" (qB zZ) (qx zZ) (qd zZ) .none kV16 dc16 pm16 an16 cd16 ct16),sl16⟩) (c16:PySem.W.codeIn K cd16 "_law_halves"=true) (k16:PySem.W.keepIn K (.ref f16)=true)
  (a17:PySem.W.nsIn K mainGlobals "_law_all_loads"=some (some (.ref f17))) (l17:K.lookup f17=some ⟨oc17,od17,.func (PySem.W.fnOf "_law_all_loads" "_law_all_loads" (qB qK) (qx qK) (qd qK) .none kV17 dc17 pm17 an17 cd17 ct17),sl17⟩) (c17:PySem.W.codeIn K cd17 "_law_all_loads"=true) (k17:PySem.W.keepIn K (.ref f17)=true)
  (a18:PySem.W.nsIn K mainGlobals "_law_sum"=some (some (.ref f18))) (l18:K.lookup f18=some ⟨oc18,od18,.func (PySem.W.fnOf "_law_sum" "_law_sum" (qB jY) (qx jY) (qd jY) .none kV18 dc18 pm18 an18 cd18 ct18),sl18⟩) (c18:PySem.W.codeIn K cd18 "_law_sum"=true) (k18:PySem.W.keepIn K (.ref f18)=true)
  (a19:PySem.W.nsIn K mainGlobals "_law_unbeaten"=some (some (.ref f19))) (l19:K.lookup f19=some ⟨oc19,od19,.func (PySem.W.fnOf "_law_unbeaten" "_law_unbeaten" (qB qN) (qx qN) (qd qN) .none kV19 dc19 pm19 an19 cd19 ct19),sl19⟩) (c19:PySem.W.codeIn K cd19 "_law_unbeaten"=true) (k19:PySem.W.keepIn K (.ref f19)=true)
  (a20:PySem.W.nsIn K mainGlobals "_law_take"=some (some (.ref f20))) (l20:K.lookup f20=some ⟨oc20,od20,.func (PySem.W.fnOf "_law_take" "_law_take" (qB jw) (qx jw) (qd jw) .none kV20 dc20 pm20 an20 cd20 ct20),sl20⟩) (c20:PySem.W.codeIn K cd20 "_law_take"=true) (k20:PySem.W.keepIn K (.ref f20)=true)
  (a21:PySem.W.nsIn K mainGlobals "_law_kind_of"=some (some (.ref f21))) (l21:K.lookup f21=some ⟨oc21,od21,.func (PySem.W.fnOf "_law_kind_of" "_law_kind_of" (qB zJ) (qx zJ) (qd zJ) .none kV21 dc21 pm21 an21 cd21 ct21),sl21⟩) (c21:PySem.W.codeIn K cd21 "_law_kind_of"=true) (k21:PySem.W.keepIn K (.ref f21)=true)
  (a22:PySem.W.nsIn K mainGlobals "_law_stocked"=some (some (.ref f22))) (l22:K.lookup f22=some ⟨oc22,od22,.func (PySem.W.fnOf "_law_stocked" "_law_stocked" (qB zK) (qx zK) (qd zK) .none kV22 dc22 pm22 an22 cd22 ct22),sl22⟩) (c22:PySem.W.codeIn K cd22 "_law_stocked"=true) (k22:PySem.W.keepIn K (.ref f22)=true)
  (a23:PySem.W.nsIn K mainGlobals "_law_single_ones"=some (some (.ref f23))) (l23:K.lookup f23=some ⟨oc23,od23,.func (PySem.W.fnOf "_law_single_ones" "_law_single_ones" (qB qP) (qx qP) (qd qP) .none kV23 dc23 pm23 an23 cd23 ct23),sl23⟩) (c23:PySem.W.codeIn K cd23 "_law_single_ones"=true) (k23:PySem.W.keepIn K (.ref f23)=true)
  (a24:PySem.W.nsIn K mainGlobals "_law_mix"=some (some (.ref f24))) (l24:K.lookup f24=some ⟨oc24,od24,.func (PySem.W.fnOf "_law_mix" "_law_mix" (qB jZ) (qx jZ) (qd jZ) .none kV24 dc24 pm24 an24 cd24 ct24),sl24⟩) (c24:PySem.W.codeIn K cd24 "_law_mix"=true) (k24:PySem.W.keepIn K (.ref f24)=true)
  (a25:PySem.W.nsIn K mainGlobals "_law_cell"=some (some (.ref f25))) (l25:K.lookup f25=some ⟨oc25,od25,.func (PySem.W.fnOf "_law_cell" "_law_cell" (qB jx) (qx jx) (qd jx) .none kV25 dc25 pm25 an25 cd25 ct25),sl25⟩) (c25:PySem.W.codeIn K cd25 "_law_cell"=true) (k25:PySem.W.keepIn K (.ref f25)=true)
  (a26:PySem.W.nsIn K mainGlobals "_law_box"=some (some (.ref f26))) (l26:K.lookup f26=some ⟨oc26,od26,.func (PySem.W.fnOf "_law_box" "_law_box" (qB j4) (qx j4) (qd j4) .none kV26 dc26 pm26 an26 cd26 ct26),sl26⟩) (c26:PySem.W.codeIn K cd26 "_law_box"=true) (k26:PySem.W.keepIn K (.ref f26)=true)
  (a27:PySem.W.nsIn K mainGlobals "law"=some (some (.ref f27))) (l27:K.lookup f27=some ⟨oc27,od27,.func (PySem.W.fnOf "law" "law" (qB qah) (qx qah) (qd qah) .none kV27 dc27 pm27 an27 cd27 ct27),sl27⟩) (c27:PySem.W.codeIn K cd27 "law"=true) (k27:PySem.W.keepIn K (.ref f27)=true)
  (zb_ValueError:PySem.W.nsIn K mainGlobals "ValueError"=some none)
  (zb_abs:PySem.W.nsIn K mainGlobals "abs"=some none)
  (zb_all:PySem.W.nsIn K mainGlobals "all"=some none)
  (zb_bool:PySem.W.nsIn K mainGlobals "bool"=some none)
  (zb_divmod:PySem.W.nsIn K mainGlobals "divmod"=some none)
  (zb_int:PySem.W.nsIn K mainGlobals "int"=some none)
  (zb_isinstance:PySem.W.nsIn K mainGlobals "isinstance"=some none)
  (zb_len:PySem.W.nsIn K mainGlobals "len"=some none)
  (zb_max:PySem.W.nsIn K mainGlobals "max"=some none)
  (zb_min:PySem.W.nsIn K mainGlobals "min"=some none)
  (zb_range:PySem.W.nsIn K mainGlobals "range"=some none)
  (zb_repr:PySem.W.nsIn K mainGlobals "repr"=some none)
  (zb_sorted:PySem.W.nsIn K mainGlobals "sorted"=some none)
  (zb_sum:PySem.W.nsIn K mainGlobals "sum"=some none)
  (zb_tuple:PySem.W.nsIn K mainGlobals "tuple"=some none)
  (zb_zip:PySem.W.nsIn K mainGlobals "zip"=some none)
  (xz:qm3 K RN TN=true)
  (zg_KINDS_AT_MOST:PySem.W.nsIn K mainGlobals "KINDS_AT_MOST"=some (some (.int 12 tk_KINDS_AT_MOST)))
  (zg_LOAD:PySem.W.nsIn K mainGlobals "LOAD"=some (some (.int 2 tk_LOAD)))
  (zg_MOST:PySem.W.nsIn K mainGlobals "MOST"=some (some (.int 2 tk_MOST)))
  (zg_WEIGHT:PySem.W.nsIn K mainGlobals "WEIGHT"=some (some (.int 0 tk_WEIGHT)))
  (zg_WORTH:PySem.W.nsIn K mainGlobals "WORTH"=some (some (.int 1 tk_WORTH))) :
  ∃ fd:FuncData,(∀ (s:Shared) (v:Value),BindsTo s fd ⟨[v],[]⟩ [("script",v)])/\∀ base:Heap,K.In base->base.Ns mainGlobals mg->uQ l.prog w K mg base CX0 8 fa fd ["script"] (spD K qcV):=by
 have e:=hfa.symm.trans (PySem.W.mg_of X G a27)
 cases e
 have T:Txt K mg:=⟨PySem.W.mg_none_of X G zb_ValueError,PySem.W.mg_none_of X G zb_abs,PySem.W.mg_none_of X G zb_all,PySem.W.mg_none_of X G zb_bool,PySem.W.mg_none_of X G zb_divmod,PySem.W.mg_none_of X G zb_int,PySem.W.mg_none_of X G zb_isinstance,PySem.W.mg_none_of X G zb_len,PySem.W.mg_none_of X G zb_max,PySem.W.mg_none_of X G zb_min,PySem.W.mg_none_of X G zb_range,PySem.W.mg_none_of X G zb_repr,PySem.W.mg_none_of X G zb_sorted,PySem.W.mg_none_of X G zb_sum,PySem.W.mg_none_of X G zb_tuple,PySem.W.mg_none_of X G zb_zip,⟨_,PySem.W.mg_of X G zg_KINDS_AT_MOST⟩,⟨_,PySem.W.mg_of X G zg_LOAD⟩,⟨_,PySem.W.mg_of X G zg_MOST⟩,⟨_,PySem.W.mg_of X G zg_WEIGHT⟩,⟨_,PySem.W.mg_of X G zg_WORTH⟩⟩
 refine ⟨PySem.W.fnOf "law" "law" (qB qah) (qx qah) (qd qah) .none kV27 dc27 pm27 an27 cd27 ct27,fun s v => .of_eq rfl,fun base hB _ => ?_⟩
 have XTt:XT K mg RN TN:=⟨xz,qhi X G⟩
 have C__law_marks:=q0 (P:=l.prog) (w:=w) (base:=base) (zk (st:=zT) l0 c0 k0) (PySem.W.mg_of X G a0) T XTt hB
 have C_beating_order:=q1 (P:=l.prog) (w:=w) (base:=base) (zk (st:=zv) l1 c1 k1) (PySem.W.mg_of X G a1) T XTt hB
 have C_all_loads:=q2 (P:=l.prog) (w:=w) (base:=base) (zk (st:=ja) l2 c2 k2) (PySem.W.mg_of X G a2) T XTt hB
 have C_taken_together:=q3 (P:=l.prog) (w:=w) (base:=base) (zk (st:=qQ) l3 c3 k3) (PySem.W.mg_of X G a3) T XTt hB
 have C_all_weighed:=q4 (P:=l.prog) (w:=w) (base:=base) (zk (st:=zy) l4 c4 k4) (PySem.W.mg_of X G a4) T XTt hB C_all_loads C_taken_together
 have C_not_beaten:=q5 (P:=l.prog) (w:=w) (base:=base) (zk (st:=jc) l5 c5 k5) (PySem.W.mg_of X G a5) T XTt hB C_beating_order C_all_weighed
 have C_second_half:=q6 (P:=l.prog) (w:=w) (base:=base) (zk (st:=zY) l6 c6 k6) (PySem.W.mg_of X G a6) T XTt hB
 have C_first_half:=q7 (P:=l.prog) (w:=w) (base:=base) (zk (st:=jd) l7 c7 k7) (PySem.W.mg_of X G a7) T XTt hB
 have C_need_single:=q8 (P:=l.prog) (w:=w) (base:=base) (zk (st:=zg) l8 c8 k8) (PySem.W.mg_of X G a8) T XTt hB
 have C_is_whole:=q9 (P:=l.prog) (w:=w) (base:=base) (zk (st:=jW) l9 c9 k9) (PySem.W.mg_of X G a9) T XTt hB
 have C_is_count:=q10 (P:=l.prog) (w:=w) (base:=base) (zk (st:=jX) l10 c10 k10) (PySem.W.mg_of X G a10) T XTt hB C_is_whole
 have C_is_kind:=q11 (P:=l.prog) (w:=w) (base:=base) (zk (st:=yE) l11 c11 k11) (PySem.W.mg_of X G a11) T XTt hB C_is_count
 have C_is_store:=q12 (P:=l.prog) (w:=w) (base:=base) (zk (st:=ju) l12 c12 k12) (PySem.W.mg_of X G a12) T XTt hB C_is_kind
 have C_need_store:=q13 (P:=l.prog) (w:=w) (base:=base) (zk (st:=zU) l13 c13 k13) (PySem.W.mg_of X G a13) T XTt hB C_is_store
 have C_half_loads:=q14 (P:=l.prog) (w:=w) (base:=base) (zk (st:=zV) l14 c14 k14) (PySem.W.mg_of X G a14) T XTt hB C_not_beaten C_second_half C_first_half C_need_single C_need_store
 have C__law_said:=q15 (P:=l.prog) (w:=w) (base:=base) (zk (st:=jv) l15 c15 k15) (PySem.W.mg_of X G a15) T XTt hB C__law_marks C_half_loads
 have C__law_halves:=q16 (P:=l.prog) (w:=w) (base:=base) (zk (st:=zZ) l16 c16 k16) (PySem.W.mg_of X G a16) T XTt hB
 have C__law_all_loads:=q17 (P:=l.prog) (w:=w) (base:=base) (zk (st:=qK) l17 c17 k17) (PySem.W.mg_of X G a17) T XTt hB
 have C__law_sum:=q18 (P:=l.prog) (w:=w) (base:=base) (zk (st:=jY) l18 c18 k18) (PySem.W.mg_of X G a18) T XTt hB
 have C__law_unbeaten:=q19 (P:=l.prog) (w:=w) (base:=base) (zk (st:=qN) l19 c19 k19) (PySem.W.mg_of X G a19) T XTt hB C__law_all_loads C__law_sum
 have C__law_take:=q20 (P:=l.prog) (w:=w) (base:=base) (zk (st:=jw) l20 c20 k20) (PySem.W.mg_of X G a20) T XTt hB
 have C__law_kind_of:=q21 (P:=l.prog) (w:=w) (base:=base) (zk (st:=zJ) l21 c21 k21) (PySem.W.mg_of X G a21) T XTt hB C__law_take
 have C__law_stocked:=q22 (P:=l.prog) (w:=w) (base:=base) (zk (st:=zK) l22 c22 k22) (PySem.W.mg_of X G a22) T XTt hB C__law_take C__law_kind_of
 have C__law_single_ones:=q23 (P:=l.prog) (w:=w) (base:=base) (zk (st:=qP) l23 c23 k23) (PySem.W.mg_of X G a23) T XTt hB C__law_stocked C__law_take
 have C__law_mix:=q24 (P:=l.prog) (w:=w) (base:=base) (zk (st:=jZ) l24 c24 k24) (PySem.W.mg_of X G a24) T XTt hB
 have C__law_cell:=q25 (P:=l.prog) (w:=w) (base:=base) (zk (st:=jx) l25 c25 k25) (PySem.W.mg_of X G a25) T XTt hB
 have C__law_box:=q26 (P:=l.prog) (w:=w) (base:=base) (zk (st:=j4) l26 c26 k26) (PySem.W.mg_of X G a26) T XTt hB C__law_mix C__law_cell
 exact qmm (P:=l.prog) (w:=w) (base:=base) (zk (st:=qah) l27 c27 k27) T XTt hB C__law_said C__law_halves C__law_unbeaten C__law_single_ones C__law_take C__law_box
theorem qns {K:Fr0} {H:Hp} {a:Addr} {ns:List Int} (hO:qmp H) (hS:SqL K H a (ns.map V.int)):qk3 K H a (ns.map V.int):=by
 rcases hS with (h | h) | h
 ·rcases hO a with z | z
  ·rw [h] at z;cases z
  ·rcases z with ⟨_,_,z⟩ | ⟨_,_,z⟩<;>(rw [h] at z;cases z)
 ·exact .inl h
 ·exact .inr h
theorem walk {l:PySem.W.OpenLaw} {q:Program} {loose:List Str} {XP:(Str->Option Value)->Heap->Prop} {YP:World->Heap->Prop} {d:DefRec} {K:Params->PySem.W.Frag} (hn:l.most=some 63) (hdf:d.params.defaults=[])
  (hY:∀ (w:World) (h:Heap),YP w h->(K w.params).In h) (hlm:∀ (w:World) (mean:ExcName->Option Value) (mg mb:Str->Option Value) (h:Heap) (c Pt:Addr) (pos:Pos),Top q (PySem.W.looseW q loose) mean mg mb h->(K w.params).In h->lamOf (K w.params)=some (c,Pt,pos)->PySem.W.CodeHd h c Pt/\h.get? Pt=some (PySem.W.tabObj #[])/\(K w.params).lookup Pt=none) (hlaw:∀ ns:List Int,ns.length<=63->qcV [.fz ns] = .ok (.bl true))
  (F:∀ (w:World) (mg:Str->Option Value) (fa:Addr) (h:Heap),(K w.params).In h->h.Ns mainGlobals mg->mg d.name=some (.ref fa) ->
   ∃ fd:FuncData,(∀ (s:Shared) (u:Value),BindsTo s fd ⟨[u],[]⟩ [("script",u)])/\∀ base:Heap,(K w.params).In base->base.Ns mainGlobals mg->uQ l.prog w (K w.params) mg base CX0 8 fa fd ["script"] (spD (K w.params) qcV)) :
  PySem.W.WalkO q loose XP YP l.row.toRowW d [] (fun f vs=>PySem.call f vs) :=
 L2.walk_lam (n:=63) (k:=8) (x:="script") (CX:=fun _=>CX0) (sp:=fun w=>spD (K w.params) qcV) (lm:=fun w=>(lamOf (K w.params)).map fun z=>(z.1,z.2.1,z.2.2,qmY)) hn (by decide) hdf ⟨rfl,by decide,by decide,rfl⟩ hY (fun w mean mg mb h c Pt pos z T X e=>by
  cases el:lamOf (K w.params) with
  | none=>rw [el] at e;cases e
  | some p=>obtain ⟨c',P',pos'⟩:=p;rw [el] at e;cases e;exact hlm w mean mg mb h _ _ _ T X el) F (fun w H a ns hl hO hT hS=>by
  refine ⟨[.fz ns],fun _=>False,⟨.ref a,[],rfl,⟨a,rfl,qns hO hS⟩,rfl⟩,fun c P pos e=>⟨hT c P pos qmY (by rw [e];rfl),fun z=>z⟩,?_⟩
  rw [hlaw ns hl]
  exact fun v H' _ h=>h) fun _ _ _ _ _ z=>z
end Law
end L2.Sk
open PySem PySem.W PyProof.Rows
set_option maxRecDepth 100000 in
set_option maxHeartbeats 0 in
theorem PySem.Challenge.cw_sackloads_k16_loads_not_beaten_holds : PySem.Challenge.rw_sackloads_k16_loads_not_beaten.Holds := by
 w_on;o_law;k_head;(case hw=>w_witness2)
 k_fill
 refine L2.Sk.Law.walk (l:=PySem.Challenge.rw_sackloads_k16_loads_not_beaten) rfl rfl (fun w h Y=>by first | exact PySem.W.kIn_of Y | exact PySem.W.km_in_of Y) ?hlm0 L2.Sk.Law.law_true ?F
 case hlm0 =>
  intro w mean mg mb h c Pt pos T X e
  exact absurd ((show L2.Sk.lamOf _=none by kernel_rfl).symm.trans e) (by simp)
 case F =>
  intro w mg fa h KX G hmg
  refine' L2.Sk.Law.all_mk KX G hmg ?a0 ?l0 ?c0 ?k0 ?a1 ?l1 ?c1 ?k1 ?a2 ?l2 ?c2 ?k2 ?a3 ?l3 ?c3 ?k3 ?a4 ?l4 ?c4 ?k4 ?a5 ?l5 ?c5 ?k5 ?a6 ?l6 ?c6 ?k6 ?a7 ?l7 ?c7 ?k7 ?a8 ?l8 ?c8 ?k8 ?a9 ?l9 ?c9 ?k9 ?a10 ?l10 ?c10 ?k10 ?a11 ?l11 ?c11 ?k11 ?a12 ?l12 ?c12 ?k12 ?a13 ?l13 ?c13 ?k13 ?a14 ?l14 ?c14 ?k14 ?a15 ?l15 ?c15 ?k15 ?a16 ?l16 ?c16 ?k16 ?a17 ?l17 ?c17 ?k17 ?a18 ?l18 ?c18 ?k18 ?a19 ?l19 ?c19 ?k19 ?a20 ?l20 ?c20 ?k20 ?a21 ?l21 ?c21 ?k21 ?a22 ?l22 ?c22 ?k22 ?a23 ?l23 ?c23 ?k23 ?a24 ?l24 ?c24 ?k24 ?a25 ?l25 ?c25 ?k25 ?a26 ?l26 ?c26 ?k26 ?a27 ?l27 ?c27 ?k27 ?zb_ValueError ?zb_abs ?zb_all ?zb_bool ?zb_divmod ?zb_int ?zb_isinstance ?zb_len ?zb_max ?zb_min ?zb_range ?zb_repr ?zb_sorted ?zb_sum ?zb_tuple ?zb_zip ?xz ?zg_KINDS_AT_MOST ?zg_LOAD ?zg_MOST ?zg_WEIGHT ?zg_WORTH
  (case a0=>k_is)
  (case l0=>k_is)
  (case c0=>k_is)
  (case k0=>k_is)
  (case a1=>k_is)
  (case l1=>k_is)
  (case c1=>k_is)
  (case k1=>k_is)
  (case a2=>k_is)
  (case l2=>k_is)
  (case c2=>k_is)
  (case k2=>k_is)
  (case a3=>k_is)
  (case l3=>k_is)
  (case c3=>k_is)
  (case k3=>k_is)
  (case a4=>k_is)
  (case l4=>k_is)
  (case c4=>k_is)
  (case k4=>k_is)
  (case a5=>k_is)
  (case l5=>k_is)
  (case c5=>k_is)
  (case k5=>k_is)
  (case a6=>k_is)
  (case l6=>k_is)
  (case c6=>k_is)
  (case k6=>k_is)
  (case a7=>k_is)
  (case l7=>k_is)
  (case c7=>k_is)
  (case k7=>k_is)
  (case a8=>k_is)
  (case l8=>k_is)
  (case c8=>k_is)
  (case k8=>k_is)
  (case a9=>k_is)
  (case l9=>k_is)
  (case c9=>k_is)
  (case k9=>k_is)
  (case a10=>k_is)
  (case l10=>k_is)
  (case c10=>k_is)
  (case k10=>k_is)
  (case a11=>k_is)
  (case l11=>k_is)
  (case c11=>k_is)
  (case k11=>k_is)
  (case a12=>k_is)
  (case l12=>k_is)
  (case c12=>k_is)
  (case k12=>k_is)
  (case a13=>k_is)
  (case l13=>k_is)
  (case c13=>k_is)
  (case k13=>k_is)
  (case a14=>k_is)
  (case l14=>k_is)
  (case c14=>k_is)
  (case k14=>k_is)
  (case a15=>k_is)
  (case l15=>k_is)
  (case c15=>k_is)
  (case k15=>k_is)
  (case a16=>k_is)
  (case l16=>k_is)
  (case c16=>k_is)
  (case k16=>k_is)
  (case a17=>k_is)
  (case l17=>k_is)
  (case c17=>k_is)
  (case k17=>k_is)
  (case a18=>k_is)
  (case l18=>k_is)
  (case c18=>k_is)
  (case k18=>k_is)
  (case a19=>k_is)
  (case l19=>k_is)
  (case c19=>k_is)
  (case k19=>k_is)
  (case a20=>k_is)
  (case l20=>k_is)
  (case c20=>k_is)
  (case k20=>k_is)
  (case a21=>k_is)
  (case l21=>k_is)
  (case c21=>k_is)
  (case k21=>k_is)
  (case a22=>k_is)
  (case l22=>k_is)
  (case c22=>k_is)
  (case k22=>k_is)
  (case a23=>k_is)
  (case l23=>k_is)
  (case c23=>k_is)
  (case k23=>k_is)
  (case a24=>k_is)
  (case l24=>k_is)
  (case c24=>k_is)
  (case k24=>k_is)
  (case a25=>k_is)
  (case l25=>k_is)
  (case c25=>k_is)
  (case k25=>k_is)
  (case a26=>k_is)
  (case l26=>k_is)
  (case c26=>k_is)
  (case k26=>k_is)
  (case a27=>k_is)
  (case l27=>k_is)
  (case c27=>k_is)
  (case k27=>k_is)
  (case zb_ValueError=>k_is)
  (case zb_abs=>k_is)
  (case zb_all=>k_is)
  (case zb_bool=>k_is)
  (case zb_divmod=>k_is)
  (case zb_int=>k_is)
  (case zb_isinstance=>k_is)
  (case zb_len=>k_is)
  (case zb_max=>k_is)
  (case zb_min=>k_is)
  (case zb_range=>k_is)
  (case zb_repr=>k_is)
  (case zb_sorted=>k_is)
  (case zb_sum=>k_is)
  (case zb_tuple=>k_is)
  (case zb_zip=>k_is)
  (case xz=>kernel_rfl)
  (case zg_KINDS_AT_MOST=>k_is)
  (case zg_LOAD=>k_is)
  (case zg_MOST=>k_is)
  (case zg_WEIGHT=>k_is)
  (case zg_WORTH=>k_is)
