import PyProof.Rows.All
import Wide.All
import OpenK.AllK
import Wide.FinOn
import Lean
import PyProof.EqAt
import PyProof.EqKinds
import PyProof.TupleCall
import KE.KUnpack
import PySem.Challenge.RW_sackloads_k17_met_in_the_middle
def PySem.W.Fast.tw145484507752064669 : Nat := 0
def PySem.W.Fast.tw2967939328997025054 : Nat := 0
def PySem.W.Fast.tw11600050290696061913 : Nat := 0
def PySem.W.Fast.tw16838619455709883637 : Nat := 0
def PySem.W.Fast.tw10401993250043761569 : Nat := 0
def PySem.W.Fast.tw5075910646557260084 : Nat := 0
set_option linter.all false
set_option Elab.async false
set_option maxRecDepth 100000
open List renaming mem_cons_of_mem → mM, mem_cons_self → mS_, getElem?_eq_getElem → gG, length_cons → lC_, length_map → lM_, length_append → lA_, getElem?_map → gM_, map_cons → mC_, mem_append → mA_, length_range → lR_, length_nil → lN_, size_toArray → sT_, mem_range → mR_, mem_map → mP_, map_map → mm_, replicate_succ → rS_, length_set → lS_, not_mem_nil → nN_, append_assoc → aA_, getElem?_eq_some_iff → gI_, flatMap_cons → fC_, foldl_cons → fo_, mem_singleton → ms_, mem_append_right → mr_, filter_cons → ft_
namespace L2
open PySem PySem.Spec PyProof.Rows
abbrev Key:=Sum Int Str
def qkU:Key->Value->Bool
 | .inl k,v=>Value.isInt k v
 | .inr x,v=>Value.isStrOf x v
def qop (w:World):Key->Int
 | .inl k=>hashInt k
 | .inr x=>hashStr w x
theorem zr:∀ {k:Key} {v:Value},qkU k v=true->(∃ i t,k=Sum.inl i/\v=Value.int i t)\/(∃ x t,k=Sum.inr x/\v=Value.str x t)
 | .inl i,v,h=>by
  obtain ⟨t,e⟩:=Value.isInt_shape (k:=i) (v:=v) h
  exact .inl ⟨i,t,rfl,e⟩
 | .inr x,v,h=>by
  obtain ⟨t,e⟩:=Value.isStrOf_shape (x:=x) (v:=v) h
  exact .inr ⟨x,t,rfl,e⟩
theorem qkV (a b:Int):decide ((Sum.inl a:Key)=Sum.inl b)=(a==b):=by
 by_cases e:a=b
 ·subst e;simp
 ·have h:¬ (Sum.inl a:Key)=Sum.inl b:=fun q=>e (Sum.inl.inj q)
  rw [decide_eq_false h]
  exact (beq_eq_false_iff_ne.mpr e).symm
theorem qkW (a b:Str):decide ((Sum.inr a:Key)=Sum.inr b)=decide (a=b):=by
 by_cases e:a=b
 ·subst e;simp
 ·have h:¬ (Sum.inr a:Key)=Sum.inr b:=fun q=>e (Sum.inr.inj q)
  rw [decide_eq_false h,decide_eq_false e]
theorem qkX (a:Int) (b:Str):decide ((Sum.inl a:Key)=Sum.inr b)=false:=decide_eq_false (fun q=>nomatch q)
theorem qkY (a:Str) (b:Int):decide ((Sum.inr a:Key)=Sum.inl b)=false:=decide_eq_false (fun q=>nomatch q)
def qbo (prog:Program) (w:World):PySem.KeyKind prog w Key where
 is:=qkU
 hash:=qop w
 inj:=fun v a b ha hb=>by
  rcases zr ha with ⟨i,t,rfl,rfl⟩ | ⟨x,t,rfl,rfl⟩
  ·rcases zr hb with ⟨j,u,rfl,e⟩ | ⟨y,u,rfl,e⟩
   ·injection e with e1 _;rw [e1]
   ·exact nomatch e
  ·rcases zr hb with ⟨j,u,rfl,e⟩ | ⟨y,u,rfl,e⟩
   ·exact nomatch e
   ·injection e with e1 _;rw [e1]
 byValue:=fun k v h=>by
  rcases zr h with ⟨i,t,rfl,rfl⟩ | ⟨x,t,rfl,rfl⟩<;>rfl
 pyHash:=fun hv h=>by
  rcases zr hv with ⟨i,t,rfl,rfl⟩ | ⟨x,t,rfl,rfl⟩
  ·exact wpAny_pyHash_int h
  ·exact wpAny_pyHash_str h
 eqBool:=fun hu hv h=>by
  rcases zr hu with ⟨i,t,rfl,rfl⟩ | ⟨x,t,rfl,rfl⟩
  ·rcases zr hv with ⟨j,u,rfl,rfl⟩ | ⟨y,u,rfl,rfl⟩
   ·rw [qkV] at h;exact wpAny_eqBool_int h
   ·rw [qkX] at h;exact SeqAt.EqAt.int_str i t y u _ _ _ _ h
  ·rcases zr hv with ⟨j,u,rfl,rfl⟩ | ⟨y,u,rfl,rfl⟩
   ·rw [qkY] at h;exact SeqAt.EqAt.str_int x t j u _ _ _ _ h
   ·rw [qkW] at h;exact wpAny_eqBool_str h
 «strs»:=fun k x t v h=>by
  rcases zr h with ⟨i,u,rfl,e⟩ | ⟨y,u,rfl,e⟩
  ·exact nomatch e
  ·injection e with e1 _
   subst e1
   cases v<;>rfl
end L2
namespace L2
open PySem PySem.Spec PyProof.Rows
inductive V where
 | non | bl (b:Bool) | int (i:Int) | str (x:Str) | byt (b:Array UInt8) | flt (b:UInt64) | ref (a:Addr) | ty (n:String)
 deriving DecidableEq
def ji:V->Value->Prop
 | .non,u=>u=Value.none
 | .bl b,u=>u=Value.bool b
 | .int i,u=>∃ t,u=Value.int i t
 | .str x,u=>∃ t,u=Value.str x t
 | .byt b,u=>∃ t,u=Value.bytes b t
 | .flt b,u=>∃ t,u=Value.float b t
 | .ref a,u=>u=Value.ref a
 | .ty n,u=>u=Value.type n
abbrev qW:List V->List Value->Prop:=Paired ji
theorem qW.length {xs:List V} {us:List Value} (r:qW xs us):xs.length=us.length:=Paired.length r
theorem qW.get:∀ {xs:List V} {us:List Value} {i:Nat} {x:V},qW xs us->xs[i]? = some x->∃ u,us[i]? = some u/\ji x u
 | _,_,_,_,.nil,e=>by simp at e
 | _,_,0,_,.cons r _,e=>by simp at e;subst e;exact ⟨_,rfl,r⟩
 | _,_,i+1,x,.cons _ t,e=>by
  obtain ⟨u,h1,h2⟩:=qW.get (i:=i) (x:=x) t (by simpa using e)
  exact ⟨u,by simpa using h1,h2⟩
theorem qW.set {x:V} {u:Value} (r:ji x u):∀ {xs:List V} {us:List Value} (i:Nat),qW xs us->qW (xs.set i x) (us.set i u)
 | _,_,_,.nil => .nil
 | _,_,0,.cons _ t => .cons r t
 | _,_,i+1,.cons q t => .cons q (qW.set r i t)
theorem qW.append:∀ {xs ys:List V} {us ws:List Value},qW xs us->qW ys ws->qW (xs++ys) (us++ws)
 | _,_,_,_,.nil,s=>s
 | _,_,_,_,.cons r t,s => .cons r (qW.append t s)
theorem qW.take:∀ {xs:List V} {us:List Value} (n:Nat),qW xs us->qW (xs.take n) (us.take n)
 | _,_,0,_ => .nil
 | _,_,_+1,.nil => .nil
 | _,_,n+1,.cons r t => .cons r (qW.take n t)
theorem qW.drop:∀ {xs:List V} {us:List Value} (n:Nat),qW xs us->qW (xs.drop n) (us.drop n)
 | _,_,0,r=>r
 | _,_,_+1,.nil => .nil
 | _,_,n+1,.cons _ t=>qW.drop n t
def qm0:Option V->Option Value->Prop
 | some v,some u=>ji v u
 | none,none=>True
 | _,_=>False
def KV {κ:Type}:List (κ×V)->List (κ×Value)->Prop:=Paired fun (p:κ×V) (q:κ×Value)=>p.1=q.1/\ji p.2 q.2
def kV:Key->V
 | .inl i => .int i
 | .inr x => .str x
inductive HO where
 /-- a list -/
 | lst (xs:List V)
 /-- a tuple (never changes) -/
 | tup (xs:List V)
 /-- a dict whose keys are ints and texts;one whose keys are tuples of ints and texts (the empty one is both) -/
 | dK (kvs:List (Key×V)) | dT (kvs:List (List Key×V))
 /-- a set of ints: its members,its size -/
 | set (S:Int->Bool) (n:Nat)
 /-- an instance of the class at C,its dict at dx,its attributes -/
 | ins (C dx:Addr) (fs:List (Str×V))
 /-- the dict of the instance at x -/
 | own (x:Addr)
 /-- the dict of an exception -/
 | xd (fs:List (Str×V))
 /-- a bound method,f of x -/
 | met (f x:Addr)
 /-- a range object lo,lo+1,.. below hi -/
 | rng (lo hi:Int)
 /-- a thing that is known to the object (the script;a dict while a loop walks it): read,never written while it is so -/
 | frz (o:Obj) (u:HO)
 /-- a code object's table -/
 | tbl (ps:Array Value)
 /-- any other thing,by what is true of its one object (a def of one's own: SetO a S n:=HO.ext fun h => ..) -/
 | ext (φ:Heap->Prop)
 /-- the table of a code object in which at most one lambda's code stands -/
 | lam (pos:Pos) (q:Str)
abbrev Hp:=Addr->Option HO
def upd (H:Hp) (a:Addr) (o:HO):Hp:=fun b=>if b=a then some o else H b
theorem qv {H:Hp} {a:Addr} {o:HO}:upd H a o a=some o:=by unfold upd;rw [if_pos rfl]
theorem qt {H:Hp} {a b:Addr} {o:HO} (h:b≠a):upd H a o b=H b:=by unfold upd;rw [if_neg h]
theorem vt {H:Hp} {a b:Addr} {o u:HO} (h:H a=some o) (h':H b=some u) (d:o≠u):a≠b:=by
 intro e;subst e;rw [h] at h';exact d (Option.some.inj h')
theorem qH {H:Hp} {a b:Addr} {o:HO} (h:H a=some o) (h':H b=none):a≠b:=by
 intro e;subst e;rw [h] at h';cases h'
section
variable (P:Program) (w:World)
def yz (H:Hp) (h:Heap) (a:Addr):HO->Prop
 | .lst xs=>xs.length<=sizeLine/\∃ (its:List Value) (n:Nat),qW xs its/\h.get? a=some { cls := .type "list",data := .seq its.toArray n }
 | .tup xs=>xs.length<=sizeLine/\∃ its:List Value,qW xs its/\IsTup h a its.toArray
 | .dK kvs=>kvs.length<=sizeLine/\(a==sysModules)=false/\∃ vs,KV kvs vs/\h.DictOf (qbo P w) a vs
 | .dT kvs=>kvs.length<=sizeLine/\(a==sysModules)=false/\∃ xs:List (List Key×Addr×Value),
   Paired (fun (p:List Key×V) (q:List Key×Addr×Value)=>p.1=q.1/\H q.2.1=some (.tup (p.1.map kV))/\ji p.2 q.2.2) kvs xs /\
   ∃ o es ep,h.get? a=some o/\o.ExactDict/\o.data = .dict es ep/\es.toList=xs.map (entryOfKey (tupleKind (qbo P w)))/\(xs.map (·.1)).Nodup
 | .set S n=>h.SetOf (intKind P w) a S n
 | .ins C dx fs=>H dx=some (.own a)/\fs.length<=1000/\dx≠a/\h.get? a=some (PySem.W.instObj C dx) /\
   ∃ mA,h.Ns1 dx mA/\(∀ f,qm0 (fs.lookup f) (mA f))/\PySem.Within mA (fs.map (·.1))
 | .own _=>∃ o,h.get? a=some o
 | .xd fs=>∃ mA,h.Ns1 a mA/\∀ f,qm0 (fs.lookup f) (mA f)
 | .rng lo hi=>∃ t u v,h.get? a=some { cls := .type "range",data := .fields #[.int lo t,.int hi u,.int 1 v] }
 | .frz o u=>h.get? a=some o/\yz H h a u
 | .tbl ps=>h.get? a=some { cls := .none,data := .fields ps }
 | .met f x=>h.get? a=some (PySem.W.methodObj (.ref f) (.ref x))
 | .lam pos q=>h.get? a=some { cls := .none,data := .fields #[] }\/∃ (c:Addr) (oc:Obj) (vs:Array Value) (t:Tok),H c=some (.frz oc (.own c))/\oc.data = .fields vs/\vs[1]? = some (.str q t) /\
   h.get? a=some { cls := .none,data := .fields #[rawInt pos.line,rawInt pos.col,.ref c] }
 | .ext φ=>φ h/\(∃ o,h.get? a=some o)/\∀ h1 h2:Heap,φ h1->(∀ o,h1.get? a=some o->h2.get? a=some o)->φ h2
def HOk (H:Hp) (h:Heap):Prop:=∀ a o,H a=some o->yz P w H h a o
end
section
variable {P:Program} {w:World} {H H':Hp} {h h':Heap} {a:Addr} {o:HO}
theorem yz.lt (x:yz P w H h a o):a<h.objs.size:=by
 cases o with
 | lst xs=>obtain ⟨_,_,_,_,e⟩:=x;exact Heap.lt_size e
 | tup xs=>obtain ⟨_,_,_,p⟩:=x;exact p.lt
 | dK kvs=>obtain ⟨_,_,_,_,o,_,_,e,_⟩:=x;exact Heap.lt_size e
 | dT kvs=>obtain ⟨_,_,_,_,o,_,_,e,_⟩:=x;exact Heap.lt_size e
 | set S n=>obtain ⟨o,_,_,_,e,_⟩:=x;exact Heap.lt_size e
 | ins C dx fs=>obtain ⟨_,_,_,e,_⟩:=x;exact Heap.lt_size e
 | own y=>obtain ⟨_,e⟩:=x;exact Heap.lt_size e
 | xd fs=>obtain ⟨_,⟨_,_,_,e,_⟩,_⟩:=x;exact Heap.lt_size e
 | rng lo hi=>obtain ⟨_,_,_,e⟩:=x;exact Heap.lt_size e
 | frz ob u=>obtain ⟨e,_⟩:=x;exact Heap.lt_size e
 | tbl ps=>exact Heap.lt_size (show h.get? a=some _ from x)
 | met f y=>exact Heap.lt_size (show h.get? a=some _ from x)
 | ext φ=>obtain ⟨_,⟨_,e⟩,_⟩:=x;exact Heap.lt_size e
 | lam pos q =>
  rcases x with e | ⟨_,_,_,_,_,_,_,e⟩
  ·exact Heap.lt_size e
  ·exact Heap.lt_size e
theorem Paired.mapP {α β:Type} {F G:α->β->Prop}:∀ {lK:List α} {lQ:List β},Paired F lK lQ->(∀ a b,F a b->G a b)->Paired G lK lQ
 | _,_,.nil,_ => .nil
 | _,_,.cons r t,f => .cons (f _ _ r) (Paired.mapP t f)
theorem yz.stay (x:yz P w H h a o) (k:∀ b u,(b=a\/H b=some (.own a))->h.get? b=some u->h'.get? b=some u)
  (ho:∀ b,H b=some (.own a)->H' b=some (.own a)) (ht:∀ b xs,H b=some (.tup xs)->H' b=some (.tup xs)) (hz:∀ b ob u,H b=some (.frz ob u)->H' b=some (.frz ob u):=by exact fun _ _ _ q=>q):yz P w H' h' a o:=by
 induction o with
 | lst xs=>obtain ⟨z,its,n,r,e⟩:=x;exact ⟨z,its,n,r,k _ _ (.inl rfl) e⟩
 | tup xs=>obtain ⟨z,its,r,ob,e,c⟩:=x;exact ⟨z,its,r,ob,k _ _ (.inl rfl) e,c⟩
 | dK kvs=>obtain ⟨z,y,vs,r,ob,es,ep,e,c⟩:=x;exact ⟨z,y,vs,r,ob,es,ep,k _ _ (.inl rfl) e,c⟩
 | dT kvs =>
  obtain ⟨z,y,xs,r,ob,es,ep,e,c⟩:=x
  exact ⟨z,y,xs,Paired.mapP r fun p q z=>⟨z.1,ht _ _ z.2.1,z.2.2⟩,ob,es,ep,k _ _ (.inl rfl) e,c⟩
 | set S n=>obtain ⟨ob,es,ep,t,e,c⟩:=x;exact ⟨ob,es,ep,t,k _ _ (.inl rfl) e,c⟩
 | ins C dx fs =>
  obtain ⟨d,z,ne,e,mA,⟨od,es,ep,e2,c⟩,r⟩:=x
  exact ⟨ho _ d,z,ne,k _ _ (.inl rfl) e,mA,⟨od,es,ep,k _ _ (.inr d) e2,c⟩,r⟩
 | own y=>obtain ⟨ob,e⟩:=x;exact ⟨ob,k _ _ (.inl rfl) e⟩
 | xd fs=>obtain ⟨mA,⟨od,es,ep,e,c⟩,r⟩:=x;exact ⟨mA,⟨od,es,ep,k _ _ (.inl rfl) e,c⟩,r⟩
 | rng lo hi=>obtain ⟨t,u,v,e⟩:=x;exact ⟨t,u,v,k _ _ (.inl rfl) e⟩
 | frz ob u ih=>obtain ⟨e,q⟩:=x;exact ⟨k _ _ (.inl rfl) e,ih q⟩
 | tbl ps =>
  have e:h.get? a=some { cls := .none,data := .fields ps }:=x
  show h'.get? a=some { cls := .none,data := .fields ps }
  exact k a _ (.inl rfl) e
 | met f y =>
  have e:h.get? a=some (PySem.W.methodObj (.ref f) (.ref y)):=x
  show h'.get? a=some (PySem.W.methodObj (.ref f) (.ref y))
  exact k a _ (.inl rfl) e
 | ext φ=>obtain ⟨p,⟨o,e⟩,st⟩:=x;exact ⟨st _ _ p fun o q=>k _ _ (.inl rfl) q,⟨o,k _ _ (.inl rfl) e⟩,st⟩
 | lam pos q =>
  rcases x with e | ⟨c,oc,vs,t,h1,h2,h3,e⟩
  ·exact .inl (k _ _ (.inl rfl) e)
  ·exact .inr ⟨c,oc,vs,t,hz _ _ _ h1,h2,h3,k _ _ (.inl rfl) e⟩
theorem HOk.lt (x:HOk P w H h) (e:H a=some o):a<h.objs.size:=(x a o e).lt
theorem HOk.fresh (x:HOk P w H h) (e:h.objs.size<=a):H a=none:=by
 cases q:H a with
 | none=>rfl
 | some u=>exact absurd (Nat.lt_of_lt_of_le (x.lt q) e) (Nat.lt_irrefl _)
theorem HOk.kept (x:HOk P w H h) (k:∀ b u,h.get? b=some u->h'.get? b=some u):HOk P w H h':=fun a o e =>
 (x a o e).stay (fun b u _ q=>k b u q) (fun _ q=>q) fun _ _ q=>q
theorem HOk.laid (x:HOk P w H h) (k:∀ b u,h.get? b=some u->h'.get? b=some u) (hp:h.objs.size<=a) (new:yz P w (upd H a o) h' a o):HOk P w (upd H a o) h':=fun b u e=>by
 have hn:=x.fresh hp
 by_cases hb:b=a
 ·subst hb;rw [qv] at e;cases e;exact new
 ·rw [qt hb] at e
  exact (x b u e).stay (fun c v _ q=>k c v q) (fun c q=>by rw [qt (qH q hn)];exact q) (fun c xs q=>by rw [qt (qH q hn)];exact q) fun c ob z q=>by rw [qt (qH q hn)];exact q
end
def Rd (H:Hp) (a:Addr) (u:HO):Prop:=H a=some u\/∃ o,H a=some (.frz o u)
theorem Rd.ok {P:Program} {w:World} {H:Hp} {h:Heap} {a:Addr} {u:HO} (r:Rd H a u) (x:HOk P w H h):yz P w H h a u:=by
 rcases r with r | ⟨o,r⟩
 ·exact x a u r
 ·obtain ⟨_,q⟩:=x a _ r
  exact q
def Mut:Option HO->Prop
 | some (.lst _)=>True
 | some (.dK _)=>True
 | some (.dT _)=>True
 | some (.set _ _)=>True
 | some (.ins _ _ _)=>True
 | some (.ext _)=>True
 | _=>False
section
variable {P:Program} {w:World} {H:Hp} {h h':Heap} {x e:Addr} {o':HO}
theorem HOk.write (ok:HOk P w H h) (mu:Mut (H x)) (he:e=x\/H e=some (.own x)) (k:∀ b u,b≠e->h.get? b=some u->h'.get? b=some u) (heo:∃ u,h'.get? e=some u)
  (new:yz P w (upd H x o') h' x o'):HOk P w (upd H x o') h':=fun b u q=>by
 have nown:∀ c y,H c=some (.own y)->c≠x:=fun c y r z=>by subst z;rw [r] at mu;exact mu
 have ntup:∀ c xs,H c=some (.tup xs)->c≠x:=fun c xs r z=>by subst z;rw [r] at mu;exact mu
 have nfrz:∀ c ob y,H c=some (.frz ob y)->c≠x:=fun c ob y r z=>by subst z;rw [r] at mu;exact mu
 by_cases hb:b=x
 ·subst hb;rw [qv] at q;cases q;exact new
 ·rw [qt hb] at q
  by_cases hbe:b=e
  ·have q':H b=some (.own x):=by
    rcases he with z | z
    ·exact absurd (hbe.trans z) hb
    ·rw [hbe];exact z
   rw [q] at q';cases q'
   obtain ⟨v,hv⟩:=heo
   exact ⟨v,by rw [hbe];exact hv⟩
  ·refine (ok b u q).stay (fun c v hc r=>k c v ?_ r) (fun c r=>by rw [qt (nown c b r)];exact r) (fun c xs r=>by rw [qt (ntup c xs r)];exact r) fun c ob z r=>by rw [qt (nfrz c ob z r)];exact r
   rcases hc with rfl | hc
   ·exact hbe
   ·rintro rfl
    rcases he with z | z
    ·exact nown c b hc z
    ·rw [hc] at z;cases z;exact hb rfl
end
structure Un (fs ex:List Addr) (H H':Hp) (h h':Heap):Prop where
 keep:∀ b o,h.get? b=some o->H b=none->b ∉ fs->b ∉ ex->h'.get? b=some o
 slot:∀ b o,h.get? b=some o->H b=none->b∈fs->b ∉ ex->∃ sl,h'.get? b=some { o with slots:=sl }
 free:∀ b o,h.get? b=some o->H b=none->b ∉ ex->H' b=none
 there:∀ b o,h.get? b=some o->b ∉ ex->∃ o',h'.get? b=some o'
 tups:∀ b xs,H b=some (.tup xs)->H' b=some (.tup xs)
 frzs:∀ b o u,H b=some (.frz o u)->H' b=some (.frz o u)
 tbls:∀ b pos q,H b=some (.lam pos q)->H' b=some (.lam pos q)
section
variable {fs fs' ex ex':List Addr} {H H1 H2:Hp} {h h1 h2 h':Heap} {a x e:Addr} {o:HO}
theorem Un.any (u:Un fs ex H H1 h h1) {b:Addr} {ob:Obj} (q:h.get? b=some ob) (n:H b=none) (hx:b ∉ ex):∃ sl,h1.get? b=some { ob with slots:=sl }:=by
 by_cases hb:b∈fs
 ·exact u.slot b ob q n hb hx
 ·exact ⟨ob.slots,u.keep b ob q n hb hx⟩
theorem Un.trans (a:Un fs ex H H1 h h1) (b:Un fs ex H1 H2 h1 h2):Un fs ex H H2 h h2 where
 keep:=fun c ob q n hc hx=>b.keep c ob (a.keep c ob q n hc hx) (a.free c ob q n hx) hc hx
 slot:=fun c ob q n hc hx=>by
  obtain ⟨sl,e1⟩:=a.slot c ob q n hc hx
  obtain ⟨sl',e2⟩:=b.slot c _ e1 (a.free c ob q n hx) hc hx
  exact ⟨sl',e2⟩
 free:=fun c ob q n hx=>by
  obtain ⟨o',e1⟩:=a.there c ob q hx
  exact b.free c o' e1 (a.free c ob q n hx) hx
 there:=fun c ob q hx=>by
  obtain ⟨o',e1⟩:=a.there c ob q hx
  exact b.there c o' e1 hx
 tups:=fun c xs q=>b.tups c xs (a.tups c xs q)
 frzs:=fun c ob xs q=>b.frzs c ob xs (a.frzs c ob xs q)
 tbls:=fun c ps x q=>b.tbls c ps x (a.tbls c ps x q)
theorem Un.kept (k:∀ b u,h.get? b=some u->h'.get? b=some u):Un fs ex H H h h' :=
 ⟨fun b ob q _ _ _=>k b ob q,fun b ob q _ _ _=>⟨ob.slots,k b ob q⟩,fun _ _ _ n _=>n,fun b ob q _=>⟨ob,k b ob q⟩,fun _ _ q=>q,fun _ _ _ q=>q,fun _ _ _ q=>q⟩
theorem Un.refl:Un fs ex H H h h:=Un.kept fun _ _ q=>q
theorem Un.laid (k:∀ b u,h.get? b=some u->h'.get? b=some u) (hp:h.objs.size<=a) (hn:H a=none):Un fs ex H (upd H a o) h h' where
 keep:=fun b u q _ _ _=>k b u q
 slot:=fun b u q _ _ _=>⟨u.slots,k b u q⟩
 free:=fun b u q n _=>by rw [qt (Nat.ne_of_lt (Nat.lt_of_lt_of_le (Heap.lt_size q) hp))];exact n
 there:=fun b u q _=>⟨u,k b u q⟩
 tups:=fun b xs q=>by rw [qt (qH q hn)];exact q
 frzs:=fun b u xs q=>by rw [qt (qH q hn)];exact q
 tbls:=fun b ps x q=>by rw [qt (qH q hn)];exact q
theorem Un.write (mu:Mut (H x)) (he:e=x\/H e=some (.own x)) (k:∀ b u,b≠e->h.get? b=some u->h'.get? b=some u) (heo:∃ u,h'.get? e=some u):Un fs ex H (upd H x o) h h':=by
 have hx:∀ b,H b=none->b≠x:=fun b n z=>by subst z;rw [n] at mu;exact mu
 have hb:∀ b,H b=none->b≠e:=fun b n z=>by
  subst z
  rcases he with r | r
  ·exact hx b n r
  ·rw [n] at r;cases r
 have hm:∀ b u,H b=some u->¬ Mut (some u)->b≠x:=fun b u q nm z=>by subst z;rw [q] at mu;exact nm mu
 refine ⟨fun b u q n _ _=>k b u (hb b n) q,fun b u q n _ _=>⟨u.slots,k b u (hb b n) q⟩,fun b u q n _=>by rw [qt (hx b n)];exact n,fun b u q _ => ?_,
  fun b xs q=>by rw [qt (hm b _ q fun z=>z)];exact q,fun b u xs q=>by rw [qt (hm b _ q fun z=>z)];exact q,fun b ps x q=>by rw [qt (hm b _ q fun z=>z)];exact q⟩
 by_cases hbe:b=e
 ·subst hbe;exact heo
 ·exact ⟨u,k b u hbe q⟩
end
def trk (h:Heap) (H:Hp):List Addr:=(List.range h.objs.size).filter fun a=>(H a).isSome
def qgZ (h:Heap) (H:Hp):Heap:=PySem.W.hideAll h (trk h H)
theorem qe8 (h:Heap) (H:Hp):(qgZ h H).objs.size=h.objs.size:=PySem.W.hideAll_size _ _
theorem qg0 {h:Heap} {H:Hp} {b:Addr} {o:Obj} (e:h.get? b=some o) (n:H b=none):(qgZ h H).get? b=some o :=
 PySem.W.hideAll_get _ e fun hm=>by
  have q:(H b).isSome=true:=(List.mem_filter.mp hm).2
  rw [n] at q;simp at q
theorem qji {h:Heap} {H:Hp} {b:Addr} {o:Obj} (e:(qgZ h H).get? b=some o):h.get? b=some o/\H b=none:=by
 have e':h.get? b=some o:=PySem.W.of_hideAll (trk h H) e
 refine ⟨e',?_⟩
 cases q:H b with
 | none=>rfl
 | some x =>
  have hm:b∈trk h H:=List.mem_filter.mpr ⟨mR_.mpr (Heap.lt_size e'),by simp [q]⟩
  have z:(qgZ h H).get? b=none:=PySem.W.hideAll_none (trk h H) hm
  rw [z] at e;cases e
def qjj (g h:Heap) (L:Addr):List (Addr×Obj):=(List.range h.objs.size).filterMap fun a=>if a=L\/(g.get? a).isSome=true then none else (h.get? a).map fun o=>(a,o)
def uJ (g h:Heap) (L d:Addr):List (Addr×Obj):=(qjj g h L).filter fun p=>decide (p.1≠d)
end L2
namespace L2
open PySem PySem.Spec PyProof.Rows
structure Mod (K:PySem.W.Frag) (mg:Str->Option Value) (base:Heap):Prop where
 kin:K.In base
 glob:base.Ns mainGlobals mg
 blt:∃ mb,base.Ns builtinsNs mb/\∀ x:Str,x≠"__name__"->mb x=bootBuiltins x
 nolimit:base.NoLimit
 bm:∃ bm ob,mg "__builtins__"=some (.ref bm)/\bm≠builtinsNs/\base.get? bm=some ob/\ob.cls = .type "module"/\ob.dict=some builtinsNs/\ob.data = .plain
structure Cx where
 prog:Program
 w:World
 K:PySem.W.Frag
 mg:Str->Option Value
 base:Heap
 A:Around
 N:List Str
 s₀:Shared
 H₀:Hp
 env:Env
 outer:List Env
 stack:List Env
 ex:List Addr
 fn:Str->Bool
 calm:Bool
 pn:List (Addr×Obj)
 xe:Value->Shared->Prop
def frs (l:List Env):List Addr:=l.filterMap (·.frame)
abbrev Cx.fs (X:Cx):List Addr:=frs X.outer
def Vis (sc:Scope) (x:Str):Prop:=sc.names.lookup x=some .local\/sc.names.lookup x=some .cell\/sc.names.lookup x=some .free
def Loc (sc:Scope) (x:Str):Prop:=sc.names.lookup x=some .local\/sc.names.lookup x=some .cell
def qoq (env:Env) (h:Heap) (m:Str->Option Value) (x:Str) (u:Value):Prop :=
 (env.kindOf x=some .local/\m x=some u)\/((env.kindOf x=some .cell\/env.kindOf x=some .free)/\∃ c,env.cells.lookup x=some c/\h.IsCell c (some u))
structure Cx.Ok (X:Cx):Prop where
 mod:Mod X.K X.mg X.base
 kind:X.env.scope.kind = .function
 glob:X.env.globals=mainGlobals
 blt:X.env.builtins=builtinsNs
 above:X.s₀.heap.objs.size<=X.env.locals
 inj:∀ x y c,X.env.cells.lookup x=some c->X.env.cells.lookup y=some c->x=y
 has:∀ x,(X.env.kindOf x=some .cell\/X.env.kindOf x=some .free)->∃ c,X.env.cells.lookup x=some c
 cab:∀ x c,X.fn x=true->X.env.cells.lookup x=some c->X.s₀.heap.objs.size<=c
 hd:X.calm=true->X.A.handled=none
 frames:X.A.frames=some X.stack
 stk:X.stack=X.outer\/(X.stack=X.env::X.outer/\X.env.frame=some X.env.locals)
 exf:∀ b∈X.ex,b≠X.env.locals/\∀ x c,X.env.cells.lookup x=some c->c≠b
 bs:∀ b o,X.base.get? b=some o->X.s₀.heap.get? b=some o/\X.H₀ b=none
 bsz:X.base.objs.size<=X.s₀.heap.objs.size
 noex:∀ b o,X.base.get? b=some o->b ∉ X.ex
 exfs:∀ b∈X.ex,b ∉ X.fs
 funs:X.s₀.heap.FunFrames X.base X.outer
 frf:∀ b∈X.fs,X.H₀ b=none
structure Inv (X:Cx) (pins:List (Addr×Obj)) (Z:List (Option V)) (H:Hp) (s:Shared):Prop where
 ok:X.Ok
 os:s.os=X.s₀.os
 bare:AllBare s.gens
 base:Un X.fs X.ex X.H₀ H X.s₀.heap s.heap
 loc:∃ m,s.heap.Ns X.env.locals m/\∀ (i:Nat) (x:Str) (v:V),X.N[i]? = some x->Z[i]? = some (some v)->Vis X.env.scope x->∃ u,ji v u/\qoq X.env s.heap m x u
 cell:∀ x c,X.env.cells.lookup x=some c->∃ v,s.heap.IsCell c v
 free:H X.env.locals=none
 freeC:∀ x c,X.env.cells.lookup x=some c->H c=none
 pin:∀ p∈X.pn++pins,s.heap.get? p.1=some p.2/\H p.1=none/\p.1≠X.env.locals/\p.1 ∉ X.fs/\∀ v,p.2.data ≠ .cell v
 hok:HOk X.prog X.w H s.heap
 len:Z.length=X.N.length
section
variable {X:Cx} {pins:List (Addr×Obj)} {Z:List (Option V)} {H H':Hp} {s:Shared} {h':Heap}
theorem Cx.Ok.nofr (ok:X.Ok) {b:Addr} {o:Obj} (e:X.base.get? b=some o):b ∉ X.fs:=fun hb=>by
 have:=(ok.funs.mem hb).1
 rw [e] at this;cases this
theorem Inv.bs (I:Inv X pins Z H s):∀ b o,X.base.get? b=some o->s.heap.get? b=some o/\H b=none:=fun b o e =>
 ⟨I.base.keep b o (I.ok.bs b o e).1 (I.ok.bs b o e).2 (I.ok.nofr e) (I.ok.noex b o e),I.base.free b o (I.ok.bs b o e).1 (I.ok.bs b o e).2 (I.ok.noex b o e)⟩
theorem Inv.bk (I:Inv X pins Z H s):∀ b o,X.base.get? b=some o->s.heap.get? b=some o:=fun b o e=>(I.bs b o e).1
theorem Inv.mod (I:Inv X pins Z H s):Mod X.K X.mg X.base:=I.ok.mod
theorem Inv.kIn (I:Inv X pins Z H s):X.K.In s.heap:=I.ok.mod.kin.keeps I.bk
theorem Inv.lt (I:Inv X pins Z H s):X.env.locals<s.heap.objs.size:=let ⟨_,hn,_⟩:=I.loc;hn.lt
theorem Inv.sz (I:Inv X pins Z H s):X.s₀.heap.objs.size<=s.heap.objs.size:=Nat.le_trans I.ok.above (Nat.le_of_lt I.lt)
theorem Inv.nofs (I:Inv X pins Z H s) {a:Addr} (h:s.heap.objs.size<=a):a ∉ X.fs:=fun hb=>by
 obtain ⟨_,o,ho,_⟩:=I.ok.funs.mem hb
 exact absurd (Nat.lt_of_lt_of_le (Heap.lt_size ho) (Nat.le_trans I.sz h)) (Nat.lt_irrefl _)
theorem Inv.cne (I:Inv X pins Z H s):∀ x c,X.env.cells.lookup x=some c->c≠X.env.locals:=fun x c e z=>by
 obtain ⟨v,o,ho,hd⟩:=I.cell x c e
 obtain ⟨m,⟨o',es,ep,ho',hd',_⟩,_⟩:=I.loc
 rw [z,ho'] at ho;cases ho;rw [hd'] at hd;cases hd
theorem Inv.funs (I:Inv X pins Z H s):s.heap.FunFrames X.base X.outer:=by
 have all:∀ (l:List Env),(∀ b∈frs l,b∈X.fs)->X.s₀.heap.FunFrames X.base l->s.heap.FunFrames X.base l:=by
  intro l
  induction l with
  | nil=>intro _ _;trivial
  | cons env r ih =>
   intro hs hl
   obtain ⟨hk,⟨L,o,hf,hn,ho,hd⟩,hr⟩:=hl
   have hL:L∈X.fs:=hs L (by unfold frs;rw [List.filterMap_cons,hf];exact mS_)
   obtain ⟨sl,e⟩:=I.base.slot L o ho (I.ok.frf L hL) hL fun z=>I.ok.exfs L z hL
   exact ⟨hk,⟨L,_,hf,hn,e,hd⟩,ih (fun b hb=>hs b (by unfold frs;rw [List.filterMap_cons,hf];exact mM _ hb)) hr⟩
 exact all X.outer (fun _ hb=>hb) I.ok.funs
theorem Inv.stack (I:Inv X pins Z H s):s.heap.FunFrames X.base X.stack:=by
 rcases I.ok.stk with e | ⟨e,hf⟩
 ·rw [e];exact I.funs
 ·rw [e]
  obtain ⟨m,hn,_⟩:=I.loc
  refine .cons (by rw [I.ok.kind];decide) hf hn ?_ I.funs
  exact Heap.get?_none_of_le (Nat.le_trans I.ok.bsz I.ok.above)
theorem Inv.stkSub (I:Inv X pins Z H s):∀ b∈frs X.stack,b∈X.env.locals::X.fs:=fun b hb=>by
 rcases I.ok.stk with e | ⟨e,hf⟩
 ·rw [e] at hb;exact mM _ hb
 ·rw [e] at hb
  unfold frs at hb
  rw [List.filterMap_cons,hf] at hb
  exact hb
theorem Inv.stkFree (I:Inv X pins Z H s):∀ b∈frs X.stack,H b=none:=fun b hb=>by
 rcases List.mem_cons.mp (I.stkSub b hb) with e | hb
 ·rw [e];exact I.free
 ·obtain ⟨_,o,ho,_⟩:=I.ok.funs.mem hb
  exact I.base.free b o ho (I.ok.frf b hb) fun z=>I.ok.exfs b z hb
theorem Inv.step {g':Array GenState} {t':Nat} {d':Drawn} {ch:List Addr} (I:Inv X pins Z H s)
  (hch:∀ b∈ch,(b∈X.ex\/X.s₀.heap.objs.size<=b)/\b≠X.env.locals/\(∀ x c,X.env.cells.lookup x=some c->c≠b)/\∀ p∈X.pn++pins,p.1≠b)
  (keep:∀ b o,b≠X.env.locals->b ∉ X.fs->b ∉ ch->s.heap.get? b=some o->H b=none->h'.get? b=some o)
  (slot:∀ b o,b≠X.env.locals->b∈X.fs->b ∉ ch->s.heap.get? b=some o->H b=none->∃ sl,h'.get? b=some { o with slots:=sl }) (free:∀ b o,b ∉ ch->s.heap.get? b=some o->H b=none->H' b=none)
  (there:∀ b o,b ∉ ch->s.heap.get? b=some o->∃ o',h'.get? b=some o')
  (tups:∀ b xs,H b=some (.tup xs)->H' b=some (.tup xs)) (frzs:∀ b o u,H b=some (.frz o u)->H' b=some (.frz o u)) (tbls:∀ b pos q,H b=some (.lam pos q)->H' b=some (.lam pos q))
  (ns:∀ m,s.heap.Ns X.env.locals m->h'.Ns X.env.locals m) (hok:HOk X.prog X.w H' h') (hg:AllBare g') :
  Inv X pins Z H' { s with heap:=h',gens:=g',drawn:=d',toks:=t' }:=by
 have neL:∀ b o,X.s₀.heap.get? b=some o->b≠X.env.locals:=fun b o e=>Nat.ne_of_lt (Nat.lt_of_lt_of_le (Heap.lt_size e) I.ok.above)
 have neC:∀ b o,X.s₀.heap.get? b=some o->b ∉ X.ex->b ∉ ch:=fun b o e hx hb=>by
  rcases (hch b hb).1 with z | z
  ·exact hx z
  ·exact absurd (Nat.lt_of_lt_of_le (Heap.lt_size e) z) (Nat.lt_irrefl _)
 have cellK:∀ x c,X.env.cells.lookup x=some c->∀ v,s.heap.IsCell c v->h'.IsCell c v:=fun x c e v ⟨o,ho,hd⟩=>by
  have nch:c ∉ ch:=fun z=>(hch c z).2.2.1 x c e rfl
  by_cases hc:c∈X.fs
  ·obtain ⟨sl,q⟩:=slot c o (I.cne x c e) hc nch ho (I.freeC x c e)
   exact ⟨_,q,hd⟩
  ·exact ⟨o,keep c o (I.cne x c e) hc nch ho (I.freeC x c e),hd⟩
 refine ⟨I.ok,I.os,hg,⟨fun b o e n hb hx => ?_,fun b o e n hb hx => ?_,fun b o e n hx => ?_,fun b o e hx => ?_,fun b xs e=>tups b xs (I.base.tups b xs e),fun b o xs e=>frzs b o xs (I.base.frzs b o xs e),fun b ps x e=>tbls b ps x (I.base.tbls b ps x e)⟩,?_,fun x c e => ?_,?_,fun x c e => ?_,fun p hp => ?_,hok,I.len⟩
 ·exact keep b o (neL b o e) hb (neC b o e hx) (I.base.keep b o e n hb hx) (I.base.free b o e n hx)
 ·obtain ⟨sl,e1⟩:=I.base.slot b o e n hb hx
  obtain ⟨sl',e2⟩:=slot b _ (neL b o e) hb (neC b o e hx) e1 (I.base.free b o e n hx)
  exact ⟨sl',e2⟩
 ·obtain ⟨o',e1⟩:=I.base.there b o e hx
  exact free b o' (neC b o e hx) e1 (I.base.free b o e n hx)
 ·obtain ⟨o',e1⟩:=I.base.there b o e hx
  exact there b o' (neC b o e hx) e1
 ·obtain ⟨m,hn,hl⟩:=I.loc
  refine ⟨m,ns m hn,fun i x v e1 e2 e3 => ?_⟩
  obtain ⟨u,r,l⟩:=hl i x v e1 e2 e3
  refine ⟨u,r,?_⟩
  rcases l with l | ⟨k,c,e,z⟩
  ·exact .inl l
  ·exact .inr ⟨k,c,e,cellK x c e _ z⟩
 ·obtain ⟨v,z⟩:=I.cell x c e
  exact ⟨v,cellK x c e v z⟩
 ·obtain ⟨m,⟨o,_,_,ho,_⟩,_⟩:=I.loc
  exact free _ o (fun z=>(hch _ z).2.1 rfl) ho I.free
 ·obtain ⟨v,o,ho,hd⟩:=I.cell x c e
  exact free c o (fun z=>(hch c z).2.2.1 x c e rfl) ho (I.freeC x c e)
 ·obtain ⟨e,n,ne,nf,d⟩:=I.pin p hp
  have nch:p.1 ∉ ch:=fun z=>(hch p.1 z).2.2.2 p hp rfl
  exact ⟨keep p.1 p.2 ne nf nch e n,free p.1 p.2 nch e n,ne,nf,d⟩
theorem Inv.un {t':Nat} (I:Inv X pins Z H s) (u:Un X.fs [] H H' s.heap h') (hok:HOk X.prog X.w H' h'):Inv X pins Z H' { s with heap:=h',toks:=t' }:=by
 obtain ⟨m,⟨o,es,ep,ho,r⟩,_⟩:=id I.loc
 obtain ⟨sl,hL⟩:=u.any ho I.free (by simp)
 exact I.step (g':=s.gens) (d':=s.drawn) (ch:=[]) (fun _ z=>nomatch z) (fun b o _ hb _ e n=>u.keep b o e n hb (by simp)) (fun b o _ hb _ e n=>u.slot b o e n hb (by simp)) (fun b o _ e n=>u.free b o e n (by simp)) (fun b o _ e=>u.there b o e (by simp)) u.tups u.frzs u.tbls (fun m' hm=>by
  obtain ⟨o',es',ep',ho',r'⟩:=hm
  rw [ho] at ho';cases ho'
  exact ⟨_,es',ep',hL,r'⟩) hok I.bare
theorem Inv.call {g':Array GenState} {t':Nat} {d':Drawn} {ch:List Addr} (I:Inv X pins Z H s) (u:Un (frs X.stack) ch H H' s.heap h') (hok:HOk X.prog X.w H' h') (hg:AllBare g')
  (hch:∀ b∈ch,(b∈X.ex\/X.s₀.heap.objs.size<=b)/\b≠X.env.locals/\(∀ x c,X.env.cells.lookup x=some c->c≠b)/\∀ p∈X.pn++pins,p.1≠b) :
  Inv X pins Z H' { s with heap:=h',gens:=g',drawn:=d',toks:=t' }:=by
 obtain ⟨m,⟨o,es,ep,ho,r⟩,_⟩:=id I.loc
 obtain ⟨sl,hL⟩:=u.any ho I.free fun z=>(hch _ z).2.1 rfl
 exact I.step (ch:=ch) hch (fun b o hL hb hc e n=>u.keep b o e n (fun z=>(List.mem_cons.mp (I.stkSub b z)).elim hL hb) hc) (fun b o _ _ hc e n=>u.any e n hc) (fun b o hc e n=>u.free b o e n hc) (fun b o hc e=>u.there b o e hc) u.tups u.frzs u.tbls (fun m' hm=>by
  obtain ⟨o',es',ep',ho',r'⟩:=hm
  rw [ho] at ho';cases ho'
  exact ⟨_,es',ep',hL,r'⟩) hok hg
theorem Inv.turned {t':Nat} {it:Addr} (I:Inv X pins Z H s) (k:∀ b o,b≠it->s.heap.get? b=some o->h'.get? b=some o) (hn:H it=none) (hL:it≠X.env.locals)
  (h1:it∈X.ex\/X.s₀.heap.objs.size<=it) (h2:∀ x c,X.env.cells.lookup x=some c->c≠it) (h3:∀ p∈X.pn++pins,p.1≠it):Inv X pins Z H { s with heap:=h',toks:=t' }:=by
 have nit:∀ b u,H b=some u->b≠it:=fun b u e z=>by rw [z,hn] at e;cases e
 refine I.step (g':=s.gens) (d':=s.drawn) (ch:=[it]) (fun b hb => ?_) (fun b o _ _ hc e _=>k b o (fun z=>hc (by simp [z])) e) (fun b o _ _ hc e _=>⟨o.slots,k b o (fun z=>hc (by simp [z])) e⟩) (fun _ _ _ _ n=>n)
  (fun b o hc e=>⟨o,k b o (fun z=>hc (by simp [z])) e⟩) (fun _ _ e=>e) (fun _ _ _ e=>e) (fun _ _ _ e=>e) (fun m hm => ?_) (fun b u e => ?_) I.bare
 ·have e:b=it:=by simpa using hb
  subst e
  exact ⟨h1,hL,h2,h3⟩
 ·obtain ⟨o,es,ep,ho,r⟩:=hm
  exact ⟨o,es,ep,k _ o (Ne.symm hL) ho,r⟩
 ·refine (I.hok b u e).stay (fun c v hc q=>k c v ?_ q) (fun _ q=>q) fun _ _ q=>q
  rcases hc with z | z
  ·rw [z];exact nit b u e
  ·exact nit c _ z
theorem Inv.tok (I:Inv X pins Z H s) (t:Nat):Inv X pins Z H { s with toks:=t }:=I.un (h':=s.heap) (t':=t) Un.refl I.hok
theorem Inv.kept {t':Nat} (I:Inv X pins Z H s) (k:∀ b u,s.heap.get? b=some u->h'.get? b=some u):Inv X pins Z H { s with heap:=h',toks:=t' }:=I.un (Un.kept k) (I.hok.kept k)
theorem Inv.laid {a:Addr} {o:HO} {t':Nat} (I:Inv X pins Z H s) (k:∀ b u,s.heap.get? b=some u->h'.get? b=some u) (hp:s.heap.objs.size<=a) (new:yz X.prog X.w (upd H a o) h' a o) :
  Inv X pins Z (upd H a o) { s with heap:=h',toks:=t' }:=I.un (Un.laid k hp (I.hok.fresh hp)) (I.hok.laid k hp new)
theorem Inv.write {x e:Addr} {o:HO} {t':Nat} (I:Inv X pins Z H s) (mu:Mut (H x)) (he:e=x\/H e=some (.own x)) (k:∀ b u,b≠e->s.heap.get? b=some u->h'.get? b=some u) (heo:∃ u,h'.get? e=some u)
  (new:yz X.prog X.w (upd H x o) h' x o):Inv X pins Z (upd H x o) { s with heap:=h',toks:=t' }:=I.un (Un.write mu he k heo) (I.hok.write mu he k heo new)
theorem Inv.pins_of {pins':List (Addr×Obj)} (I:Inv X pins Z H s) (h:∀ p∈pins',s.heap.get? p.1=some p.2/\H p.1=none/\p.1≠X.env.locals/\p.1 ∉ X.fs/\∀ v,p.2.data ≠ .cell v):Inv X pins' Z H s :=
 ⟨I.ok,I.os,I.bare,I.base,I.loc,I.cell,I.free,I.freeC,fun p hp=>(mA_.mp hp).elim (fun z=>I.pin p (List.mem_append_left _ z)) (h p),I.hok,I.len⟩
theorem qdE {N:List Str} (hN:N.Nodup) {i j:Nat} {x:Str} (a:N[i]? = some x) (b:N[j]? = some x):i=j:=by
 obtain ⟨h1,e1⟩:=gI_.mp a
 obtain ⟨h2,e2⟩:=gI_.mp b
 exact (List.getElem_inj hN).mp (e1.trans e2.symm)
theorem qcb {M:Model} {A:Around} {E:Value->Shared->Prop} {i:Nat} {x:Str} {v:V} {u:Value} {Q:Unit->Shared->Prop} (I:Inv X pins Z H s) (hN:X.N.Nodup) (hi:X.N[i]? = some x) (hx:Loc X.env.scope x) (r:ji v u)
  (h:∀ s',Inv X pins (Z.set i (some v)) H s'->(∃ a,Heap.SameBut a s.heap s'.heap/\(a=X.env.locals\/X.env.cells.lookup x=some a))->Q () s') (hf:X.fn x=true\/X.env.scope.names.lookup x=some .local:=by first | exact .inl rfl | exact .inr rfl | assumption):wpAny M A (storeName X.env x u) Q E s:=by
 obtain ⟨m,hn,hl⟩:=id I.loc
 have hcls:(X.env.scope.kind == .class||(X.env.scope.kind == .module&&X.env.locals != X.env.globals))=false:=by rw [I.ok.kind];rfl
 have hiσ:i<Z.length:=by rw [I.len];exact (gI_.mp hi).1
 have cne:=I.cne
 have tracked:∀ {a:Addr} {h':Heap},(∃ o,s.heap.get? a=some o/\H a=none)->Heap.SameBut a s.heap h'->HOk X.prog X.w H h':=fun {a h'} ha hs b ob e=>by
  obtain ⟨_,_,hfree⟩:=ha
  refine (I.hok b ob e).stay (fun c w' hc q=>(hs.2 c ?_).trans q) (fun _ q=>q) fun _ _ q=>q
  rintro rfl
  rcases hc with rfl | hc
  ·rw [hfree] at e;cases e
  ·rw [hfree] at hc;cases hc
 rcases hx with hk | hk
 ·refine wpAny_storeName_local hk hn (fun h' hn' hs => ?_) hcls
  obtain ⟨oL,_,_,hoL,_⟩:=id hn
  refine h _ ⟨I.ok,I.os,I.bare,⟨fun b o e n hb hx => ?_,fun b o e n hb hx => ?_,I.base.free,fun b o e hx => ?_,I.base.tups,I.base.frzs,I.base.tbls⟩,⟨_,hn',fun j y v' e1 e2 e3 => ?_⟩,fun y c e => ?_,I.free,I.freeC,fun p hp => ?_,tracked ⟨oL,hoL,I.free⟩ hs,by simpa using I.len⟩ ⟨_,hs,.inl rfl⟩
  ·exact (hs.2 b (Nat.ne_of_lt (Nat.lt_of_lt_of_le (Heap.lt_size e) I.ok.above))).trans (I.base.keep b o e n hb hx)
  ·obtain ⟨sl,e1⟩:=I.base.slot b o e n hb hx
   exact ⟨sl,(hs.2 b (Nat.ne_of_lt (Nat.lt_of_lt_of_le (Heap.lt_size e) I.ok.above))).trans e1⟩
  ·obtain ⟨o',e1⟩:=I.base.there b o e hx
   exact ⟨o',(hs.2 b (Nat.ne_of_lt (Nat.lt_of_lt_of_le (Heap.lt_size e) I.ok.above))).trans e1⟩
  ·by_cases hj:j=i
   ·subst hj
    rw [hi] at e1;cases e1
    rw [List.getElem?_set_self hiσ] at e2
    cases e2
    exact ⟨u,r,.inl ⟨hk,by simp⟩⟩
   ·rw [List.getElem?_set_ne (Ne.symm hj)] at e2
    obtain ⟨u',r',q⟩:=hl j y v' e1 e2 e3
    refine ⟨u',r',?_⟩
    rcases q with ⟨k,e⟩ | ⟨k,c,e,z⟩
    ·refine .inl ⟨k,?_⟩
     have:y≠x:=fun e=>hj (qdE hN e1 (e▸hi))
     simp [this,e]
    ·exact .inr ⟨k,c,e,z.sameBut hs (cne y c e)⟩
  ·obtain ⟨w',z⟩:=I.cell y c e
   exact ⟨w',z.sameBut hs (cne y c e)⟩
  ·obtain ⟨e,n,ne,nf,d⟩:=I.pin p hp
   exact ⟨(hs.2 p.1 ne).trans e,n,ne,nf,d⟩
 ·have hfn:X.fn x=true:=by
   rcases hf with z | z
   ·exact z
   ·rw [z] at hk;cases hk
  obtain ⟨c,hc⟩:=I.ok.has x (.inl hk)
  obtain ⟨w',z⟩:=I.cell x c hc
  refine wpAny_storeName_cell I.ok.kind hk hc z (fun h' hc' hs => ?_)
  obtain ⟨oc,hoc,hocd⟩:=id z
  refine h { s with heap:=h' } ⟨I.ok,I.os,I.bare,⟨fun b o e n hb hx => ?_,fun b o e n hb hx => ?_,I.base.free,fun b o e hx => ?_,I.base.tups,I.base.frzs,I.base.tbls⟩,⟨m,hn.sameBut hs (Ne.symm (cne x c hc)),fun j y v' e1 e2 e3 => ?_⟩,fun y c' e => ?_,I.free,I.freeC,fun p hp => ?_,tracked ⟨oc,hoc,I.freeC x c hc⟩ hs,by simpa using I.len⟩ ⟨c,hs,.inr hc⟩
  ·exact (hs.2 b (Nat.ne_of_lt (Nat.lt_of_lt_of_le (Heap.lt_size e) (I.ok.cab x c hfn hc)))).trans (I.base.keep b o e n hb hx)
  ·obtain ⟨sl,e1⟩:=I.base.slot b o e n hb hx
   exact ⟨sl,(hs.2 b (Nat.ne_of_lt (Nat.lt_of_lt_of_le (Heap.lt_size e) (I.ok.cab x c hfn hc)))).trans e1⟩
  ·obtain ⟨o',e1⟩:=I.base.there b o e hx
   exact ⟨o',(hs.2 b (Nat.ne_of_lt (Nat.lt_of_lt_of_le (Heap.lt_size e) (I.ok.cab x c hfn hc)))).trans e1⟩
  ·by_cases hj:j=i
   ·subst hj
    rw [hi] at e1;cases e1
    rw [List.getElem?_set_self hiσ] at e2
    cases e2
    exact ⟨u,r,.inr ⟨.inl hk,c,hc,hc'⟩⟩
   ·rw [List.getElem?_set_ne (Ne.symm hj)] at e2
    obtain ⟨u',r',q⟩:=hl j y v' e1 e2 e3
    refine ⟨u',r',?_⟩
    rcases q with q | ⟨k,c',e,z'⟩
    ·exact .inl q
    ·refine .inr ⟨k,c',e,z'.sameBut hs ?_⟩
     rintro rfl
     exact hj (qdE hN e1 (I.ok.inj _ _ _ e hc▸hi))
  ·by_cases hcc:c'=c
   ·subst hcc;exact ⟨_,hc'⟩
   ·obtain ⟨w2,z2⟩:=I.cell y c' e
    exact ⟨w2,z2.sameBut hs hcc⟩
  ·obtain ⟨e,n,ne,nf,d⟩:=I.pin p hp
   refine ⟨(hs.2 p.1 ?_).trans e,n,ne,nf,d⟩
   intro q
   rw [q,hoc] at e
   have q':oc=p.2:=Option.some.inj e
   exact d w' (by rw [<- q'];exact hocd)
theorem vv {M:Model} {A:Around} {E:Value->Shared->Prop} {i:Nat} {x:Str} {v:V} {u:Value} {Q:Unit->Shared->Prop} (I:Inv X pins Z H s) (hN:X.N.Nodup) (hi:X.N[i]? = some x) (hx:Loc X.env.scope x) (r:ji v u)
  (h:∀ s',Inv X pins (Z.set i (some v)) H s'->Q () s') (hf:X.fn x=true\/X.env.scope.names.lookup x=some .local:=by first | exact .inl rfl | exact .inr rfl | assumption):wpAny M A (storeName X.env x u) Q E s :=
 qcb I hN hi hx r (fun s' I' _=>h s' I') hf
theorem Inv.call' {s':Shared} {ch:List Addr} (I:Inv X pins Z H s) (ho:s'.os=s.os) (u:Un (frs X.stack) ch H H' s.heap s'.heap) (hok:HOk X.prog X.w H' s'.heap) (hg:AllBare s'.gens)
  (hch:∀ b∈ch,(b∈X.ex\/X.s₀.heap.objs.size<=b)/\b≠X.env.locals/\(∀ x c,X.env.cells.lookup x=some c->c≠b)/\∀ p∈X.pn++pins,p.1≠b):Inv X pins Z H' s':=by
 obtain ⟨h',g',d',t',o'⟩:=s'
 have e:o'=s.os:=ho
 subst e
 exact I.call (g':=g') (t':=t') (d':=d') u hok hg hch
end
abbrev XK:=Value->Option Addr->Hp->Prop
abbrev St:=List (Option V)
abbrev VK:=V->Hp->Prop
abbrev TE:=St->Hp->VK->Prop
abbrev TT:=St->Hp->(Bool->Hp->Prop)->Prop
abbrev TA:=St->Hp->(List V->Hp->Prop)->Prop
structure qe3 where
 nx:St->Hp->Prop
 rt:VK
 bk:St->Hp->Prop:=fun _ _=>False
 ct:St->Hp->Prop:=fun _ _=>False
abbrev TS:=qe3->St->Hp->Prop
def EP (X:Cx) (pins:List (Addr×Obj)) (Z:St) (Q:VK) (u:Value) (s':Shared):Prop:=∃ v H',Inv X pins Z H' s'/\ji v u/\Q v H'
def TP (X:Cx) (pins:List (Addr×Obj)) (Z:St) (Q:Bool->Hp->Prop) (b:Bool) (s':Shared):Prop:=∃ H',Inv X pins Z H' s'/\Q b H'
def AP (X:Cx) (pins:List (Addr×Obj)) (Z:St) (Q:List V->Hp->Prop) (us:List Value) (s':Shared):Prop:=∃ vs H',Inv X pins Z H' s'/\qW vs us/\Q vs H'
def SP (X:Cx) (pins:List (Addr×Obj)) (D:qe3) (f:Flow) (s':Shared):Prop :=
 match f with
 | .next=>∃ Z' H',Inv X pins Z' H' s'/\D.nx Z' H'
 | .brk=>∃ Z' H',Inv X pins Z' H' s'/\D.bk Z' H'
 | .cont=>∃ Z' H',Inv X pins Z' H' s'/\D.ct Z' H'
 | .ret u=>∃ v Z' H',Inv X pins Z' H' s'/\ji v u/\D.rt v H'
def PE (X:Cx) (e:Expr) (t:TE):Prop :=
 ∀ (pins:List (Addr×Obj)) (s:Shared) (Z:St) (H:Hp) (Q:VK),Inv X pins Z H s->t Z H Q->wpAny (model X.prog X.w) X.A (eval e X.env) (EP X pins Z Q) X.xe s
def PT (X:Cx) (e:Expr) (t:TT):Prop :=
 ∀ (pins:List (Addr×Obj)) (s:Shared) (Z:St) (H:Hp) (Q:Bool->Hp->Prop),Inv X pins Z H s->t Z H Q->wpAny (model X.prog X.w) X.A (isTrue e X.env (eval e X.env)) (TP X pins Z Q) X.xe s
def PW (X:Cx) (e:Expr) (t:TT):Prop :=
 ∀ (whole:Sem Value) (pins:List (Addr×Obj)) (s:Shared) (Z:St) (H:Hp) (Q:Bool->Hp->Prop),Inv X pins Z H s->t Z H Q->wpAny (model X.prog X.w) X.A (isTrue e X.env whole) (TP X pins Z Q) X.xe s
theorem PW.pt {X:Cx} {e:Expr} {t:TT} (h:PW X e t):PT X e t:=h _
def PA (X:Cx) (es:List Expr) (t:TA):Prop :=
 ∀ (pos:Pos) (pins:List (Addr×Obj)) (s:Shared) (Z:St) (H:Hp) (Q:List V->Hp->Prop),Inv X pins Z H s->t Z H Q->wpAny (model X.prog X.w) X.A (spliced (backTo pos (starEach es X.env))) (AP X pins Z Q) X.xe s
def PS (X:Cx) (st:Stmt) (t:TS):Prop :=
 ∀ (pins:List (Addr×Obj)) (s:Shared) (Z:St) (H:Hp) (D:qe3),Inv X pins Z H s->t D Z H->wpAny (model X.prog X.w) X.A (exec st X.env) (SP X pins D) X.xe s
def PSs (X:Cx) (st:List Stmt) (t:TS):Prop :=
 ∀ (pins:List (Addr×Obj)) (s:Shared) (Z:St) (H:Hp) (D:qe3),Inv X pins Z H s->t D Z H->wpAny (model X.prog X.w) X.A (execs st X.env) (SP X pins D) X.xe s
theorem thn {α:Type} {t:Sem α} {Q Q':α->Shared->Prop} {M:Model} {A:Around} {E:Value->Shared->Prop} {s:Shared} (h:wpAny M A t Q E s) (hQ:∀ a s,Q a s->Q' a s):wpAny M A t Q' E s:=wpAny_mono h hQ fun _ _ x=>x
end L2
namespace L2
open PySem PySem.Spec PyProof.Rows
section
variable {X:Cx}
theorem bin {a b:Expr} {ta tb:TE} (ha:PE X a ta) (hb:PE X b tb) {pins:List (Addr×Obj)} {s:Shared} {Z:St} {H:Hp} {R:V->V->Hp->Prop} (I:Inv X pins Z H s) (h:ta Z H fun x H1=>tb Z H1 fun y H2=>R x y H2)
  {α:Type} {Q:α->Shared->Prop} {f:Value->Value->Sem α}
  (hf:∀ v u s2 x y H2,Inv X pins Z H2 s2->ji x v->ji y u->R x y H2->wpAny (model X.prog X.w) X.A (f v u) Q X.xe s2) :
  wpAny (model X.prog X.w) X.A (eval a X.env) (fun v sK=>wpAny (model X.prog X.w) X.A (eval b X.env) (fun u sQ=>wpAny (model X.prog X.w) X.A (f v u) Q X.xe sQ) X.xe sK) X.xe s:=by
 refine thn (ha pins s Z H _ I h) fun v s1 ⟨x,H1,I1,r1,q1⟩ => ?_
 refine thn (hb pins s1 Z H1 _ I1 q1) fun u s2 ⟨y,H2,I2,r2,q2⟩ => ?_
 exact hf v u s2 x y H2 I2 r1 r2 q2
def qor (i:Nat):TE:=fun Z H Q=>∃ v,Z[i]? = some (some v)/\Q v H
def tC (v:V):TE:=fun _ H Q=>Q v H
theorem uE {i:Nat} {x:Str} {pos:Pos} (hN:X.N[i]? = some x) (hv:Vis X.env.scope x) (hd:(x==("__debug__":Str))=false:=by decide) (hcd:(x==("__classdict__":Str))=false:=by decide):PE X (.Name x pos) (qor i):=by
 intro pins s Z H Q I h
 obtain ⟨v,e,h⟩:=h
 obtain ⟨m,hn,hl⟩:=I.loc
 obtain ⟨u,r,l⟩:=hl i x v hN e hv
 have fin:EP X pins Z Q u s:=⟨v,H,I,r,h⟩
 rcases l with ⟨hk,hm⟩ | ⟨hk,c,hc,hcell⟩
 ·exact wpAny_Name (wpAny_loadName_local I.ok.kind hk hn hm fin) hd
 ·rcases hk with hk | hk
  ·exact wpAny_Name (wpAny_loadName_cell I.ok.kind hk hc hcell fin) hd
  ·exact wpAny_Name (wpAny_loadName_free I.ok.kind hk hc hcell fin hcd) hd
theorem qkZ {i j pos}:PE X (.Constant (.int i) j pos) (tC (.int i)):=fun _ _ _ H _ I h=>wpAny_Constant_int ⟨.int i,H,I.tok _,⟨_,rfl⟩,h⟩
theorem qm1 {b j pos}:PE X (.Constant (.bool b) j pos) (tC (.bl b)):=fun _ _ _ H _ I h=>Constant_bool ⟨.bl b,H,I,rfl,h⟩
theorem qk0 {j pos}:PE X (.Constant .none j pos) (tC .non):=fun _ _ _ H _ I h=>Constant_none ⟨.non,H,I,rfl,h⟩
theorem qk1 {x j pos}:PE X (.Constant (.str x) j pos) (tC (.str x)):=fun _ _ _ H _ I h=>Calls.Constant_str ⟨.str x,H,I.tok _,⟨_,rfl⟩,h⟩
def Gl (X:Cx) (x:Str):Prop:=X.env.kindOf x=some .globalImplicit
theorem qbp {E:Value->Shared->Prop} {pins:List (Addr×Obj)} {s:Shared} {Z:St} {H:Hp} {x:Str} {u:Value} {pos:Pos} {Q:Value->Shared->Prop} (I:Inv X pins Z H s) (hg:Gl X x) (hm:X.mg x=some u) (h:Q u s)
  (hd:(x==("__debug__":Str))=false:=by decide):wpAny (model X.prog X.w) X.A (eval (.Name x pos) X.env) Q E s :=
 Calls.Name_function_global I.ok.kind hg (Calls.loadGlobal_global (by rw [I.ok.glob];exact I.mod.glob.keeps I.bk) hm h) hd
theorem qa0 {E:Value->Shared->Prop} {pins:List (Addr×Obj)} {s:Shared} {Z:St} {H:Hp} {x:Str} {u:Value} {pos:Pos} {Q:Value->Shared->Prop} (I:Inv X pins Z H s) (hg:Gl X x) (hm:X.mg x=none) (hv:bootBuiltins x=some u) (h:Q u s)
  (hn:x≠"__name__":=by decide) (hd:(x==("__debug__":Str))=false:=by decide):wpAny (model X.prog X.w) X.A (eval (.Name x pos) X.env) Q E s:=by
 obtain ⟨mb,h1,h2⟩:=I.mod.blt
 exact Calls.Name_function_global I.ok.kind hg (Calls.loadGlobal_builtin (by rw [I.ok.glob];exact I.mod.glob.keeps I.bk) hm (by rw [I.ok.blt];exact h1.keeps I.bk) ((h2 x hn).trans hv) h) hd
theorem qbq {x:Str} {v:V} {u:Value} {pos:Pos} (hg:Gl X x) (hm:X.mg x=some u) (r:ji v u) (hd:(x==("__debug__":Str))=false:=by decide):PE X (.Name x pos) (tC v) :=
 fun _ _ _ H _ I h=>qbp I hg hm ⟨v,H,I,r,h⟩ hd
theorem qe9 {x:Str} {v:V} {u:Value} {pos:Pos} (hg:Gl X x) (hm:X.mg x=none) (hv:bootBuiltins x=some u) (r:ji v u) (hn:x≠"__name__":=by decide) (hd:(x==("__debug__":Str))=false:=by decide):PE X (.Name x pos) (tC v) :=
 fun _ _ _ H _ I h=>qa0 I hg hm hv ⟨v,H,I,r,h⟩ hn hd
variable {a b:Expr} {ta tb:TE} {pos:Pos}
def PC (X:Cx) (op:CmpOp) (a b:Expr) (t:TE):Prop :=
 ∀ (pins:List (Addr×Obj)) (s:Shared) (Z:St) (H:Hp) (Q:VK),Inv X pins Z H s->t Z H Q ->
  wpAny (model X.prog X.w) X.A (eval a X.env) (fun v sK=>wpAny (model X.prog X.w) X.A (eval b X.env) (fun u sQ=>wpAny (model X.prog X.w) X.A (compareOp op v u) (EP X pins Z Q) X.xe sQ) X.xe sK) X.xe s
theorem qg1 (b:Expr) {op:CmpOp} (h:op ≠ .In) (h2:op ≠ .NotIn):behindInMarks op b=false:=by
 have e1:(op==CmpOp.In)=false:=by cases op<;>first | rfl | exact absurd rfl h
 have e2:(op==CmpOp.NotIn)=false:=by cases op<;>first | rfl | exact absurd rfl h2
 cases b<;>simp [behindInMarks,e1,e2]
def tB (t:TE):TT:=fun Z H Q=>t Z H fun x H1=>∃ c,x = .bl c/\Q c H1
theorem qnY {op:CmpOp} {t:TE} (h:PC X op a b t) (h1:behindInMarks op b=false:=by first | exact qg1 _ (by decide) (by decide) | rfl):PT X (.Compare a [op] [b] pos) (tB t):=by
 intro pins s Z H Q I hw
 refine wpAny_isTrue_Compare1 (thn (h pins s Z H _ I hw) fun v s1 h1=>thn h1 fun u s2 h2=>thn h2 fun c s3 ⟨x,H1,I1,r1,q1⟩ => ?_) h1
 obtain ⟨d,rfl,q⟩:=q1
 cases r1
 exact wpAny_truthy_bool ⟨H1,I1,q⟩
theorem qk2 {e:Expr} {t:TE} (h:PE X e t) (he:∀ whole,isTrue e X.env whole=(do let v <- whole;standAt e.pos;holding [v] (truthy v)):=by intro _;rfl):PT X e (tB t):=by
 intro pins s Z H Q I hw
 refine isTrue_plain (thn (h pins s Z H _ I hw) fun v s1 ⟨x,H1,I1,r1,q1⟩ => ?_) (he _)
 obtain ⟨d,rfl,q⟩:=q1
 cases r1
 exact wpAny_truthy_bool ⟨H1,I1,q⟩
variable {tA tB':TT} {uJ:List Expr}
def qos (t u:TT):TT:=fun Z H Q=>t Z H fun c H1=>if c=true then u Z H1 Q else Q false H1
def tOr (t u:TT):TT:=fun Z H Q=>t Z H fun c H1=>if c=true then Q true H1 else u Z H1 Q
def qot (t:TT):TT:=fun Z H Q=>t Z H fun c H1=>Q (!c) H1
theorem qjk (ha:PT X a tA):PW X (.BoolOp .And [a] pos) tA:=by
 intro wh pins s Z H Q I h
 refine isTrue_and (thn (ha pins s Z H Q I h) fun c s1 e => ?_)
 cases c with
 | true=>exact isTrue_and_nil e
 | false=>exact e
theorem qk3 (ha:PT X a tA):PW X (.BoolOp .Or [a] pos) tA:=by
 intro wh pins s Z H Q I h
 refine isTrue_or (thn (ha pins s Z H Q I h) fun c s1 e => ?_)
 cases c with
 | false=>exact isTrue_or_nil e
 | true=>exact e
theorem qk4 (ha:PT X a tA) (hb:PW X (.BoolOp .And (b::uJ) pos) tB'):PW X (.BoolOp .And (a::b::uJ) pos) (qos tA tB'):=by
 intro wh pins s Z H Q I h
 refine isTrue_and (thn (ha pins s Z H _ I h) fun c s1 ⟨H1,I1,q1⟩ => ?_)
 cases c with
 | true=>exact hb wh pins s1 Z H1 Q I1 q1
 | false=>exact ⟨H1,I1,q1⟩
theorem qm2 (ha:PT X a tA) (hb:PW X (.BoolOp .Or (b::uJ) pos) tB'):PW X (.BoolOp .Or (a::b::uJ) pos) (tOr tA tB'):=by
 intro wh pins s Z H Q I h
 refine isTrue_or (thn (ha pins s Z H _ I h) fun c s1 ⟨H1,I1,q1⟩ => ?_)
 cases c with
 | true=>exact ⟨H1,I1,q1⟩
 | false=>exact hb wh pins s1 Z H1 Q I1 q1
theorem qk5 (ha:PT X a tA):PT X (.UnaryOp .Not a pos) (qot tA):=by
 intro pins s Z H Q I h
 exact isTrue_not (ha pins s Z H (fun c H1=>Q (!c) H1) I h)
def qm3 (ta tb:TE):TE:=fun Z H Q=>ta Z H fun x H1=>∃ c,x = .bl c/\if c=true then tb Z H1 Q else Q (.bl false) H1
def qou (ta tb:TE):TE:=fun Z H Q=>ta Z H fun x H1=>∃ c,x = .bl c/\if c=true then Q (.bl true) H1 else tb Z H1 Q
def qm4 (ta:TE):TE:=fun Z H Q=>ta Z H fun x H1=>∃ c,x = .bl c/\Q (.bl (!c)) H1
theorem qk6 {op} {t:TE} (h:PE X a t):PE X (.BoolOp op [a] pos) t:=fun pins s Z H Q I hw=>BoolOp_one (h pins s Z H Q I hw)
theorem qk7 (ha:PE X a ta) (hb:PE X (.BoolOp .And (b::uJ) pos) tb):PE X (.BoolOp .And (a::b::uJ) pos) (qm3 ta tb):=by
 intro pins s Z H Q I h
 refine BoolOp_and (thn (ha pins s Z H _ I h) fun v s1 ⟨x,H1,I1,r1,q1⟩ => ?_)
 obtain ⟨c,rfl,q1⟩:=q1
 cases r1
 refine wpAny_truthy_bool ?_
 cases c with
 | true=>exact hb pins s1 Z H1 Q I1 q1
 | false=>exact ⟨.bl false,H1,I1,rfl,q1⟩
theorem qm5 (ha:PE X a ta) (hb:PE X (.BoolOp .Or (b::uJ) pos) tb):PE X (.BoolOp .Or (a::b::uJ) pos) (qou ta tb):=by
 intro pins s Z H Q I h
 refine BoolOp_or (thn (ha pins s Z H _ I h) fun v s1 ⟨x,H1,I1,r1,q1⟩ => ?_)
 obtain ⟨c,rfl,q1⟩:=q1
 cases r1
 refine wpAny_truthy_bool ?_
 cases c with
 | false=>exact hb pins s1 Z H1 Q I1 q1
 | true=>exact ⟨.bl true,H1,I1,rfl,q1⟩
theorem qk8 (ha:PE X a ta):PE X (.UnaryOp .Not a pos) (qm4 ta):=by
 intro pins s Z H Q I h
 refine UnaryOp_ (thn (ha pins s Z H _ I h) fun v s1 ⟨x,H1,I1,r1,q1⟩ => ?_)
 obtain ⟨c,rfl,q1⟩:=q1
 cases r1
 exact not_of (wpAny_truthy_bool ⟨.bl (!c),H1,I1,rfl,q1⟩)
end
end L2
namespace L2
open PySem PySem.Spec PyProof.Rows
def SqL (K:PySem.W.Frag) (H:Hp) (a:Addr) (xs:List V):Prop :=
 Rd H a (.lst xs) \/
  ∃ (o:Obj) (its:Array Value) (n:Nat),K.lookup a=some o/\o.cls = .type "list"/\o.dict=none/\o.data = .seq its n/\its.size<=sizeLine/\qW xs its.toList
def SqT (K:PySem.W.Frag) (H:Hp) (a:Addr) (xs:List V):Prop :=
 Rd H a (.tup xs) \/
  ∃ (o:Obj) (its:Array Value) (n:Nat),K.lookup a=some o/\o.cls = .type "tuple"/\o.data = .seq its n/\its.size<=sizeLine/\qW xs its.toList
def qov:Value->Option V
 | .none=>some .non
 | .bool b=>some (.bl b)
 | .int i _=>some (.int i)
 | .str x _=>some (.str x)
 | .bytes b _=>some (.byt b)
 | .float b _=>some (.flt b)
 | .ref a=>some (.ref a)
 | .type n=>some (.ty n)
 | _=>none
theorem ji.abs {x:V} {u:Value} (r:ji x u):qov u=some x:=by
 cases x with
 | non=>cases r;rfl
 | bl _=>cases r;rfl
 | int _=>obtain ⟨t,rfl⟩:=r;rfl
 | str _=>obtain ⟨t,rfl⟩:=r;rfl
 | byt _=>obtain ⟨t,rfl⟩:=r;rfl
 | flt _=>obtain ⟨t,rfl⟩:=r;rfl
 | ref _=>cases r;rfl
 | ty _=>cases r;rfl
theorem ji.inj {x y:V} {u:Value} (r:ji x u) (q:ji y u):x=y:=Option.some.inj (r.abs.symm.trans q.abs)
theorem qW.inj:∀ {xs ys:List V} {us:List Value},qW xs us->qW ys us->xs=ys
 | _,_,_,.nil,.nil=>rfl
 | _,_,_,.cons r t,.cons r' t'=>by rw [r.inj r',qW.inj t t']
section
variable {X:Cx} {pins:List (Addr×Obj)} {Z:St} {H:Hp} {s:Shared} {a:Addr} {xs ys:List V}
theorem SqL.of {K:PySem.W.Frag} (h:H a=some (.lst xs)):SqL K H a xs := .inl (.inl h)
theorem Inv.list (I:Inv X pins Z H s) (h:SqL X.K H a xs):∃ its:List Value,qW xs its/\PlainL s.heap a its.toArray/\xs.length<=sizeLine:=by
 rcases h with h | ⟨o,its,n,hk,hc,hd,hs,hz,r⟩
 ·obtain ⟨z,its,n,r,e⟩:=h.ok I.hok
  exact ⟨its,r,⟨_,n,e,rfl,rfl,rfl⟩,z⟩
 ·refine ⟨its.toList,r,⟨o,n,I.kIn a o hk,hc,hd,by simpa using hs⟩,?_⟩
  have e:=r.length
  simp only [Array.length_toList] at e
  omega
theorem Inv.tuple (I:Inv X pins Z H s) (h:SqT X.K H a xs):∃ its:List Value,qW xs its/\IsTup s.heap a its.toArray/\xs.length<=sizeLine:=by
 rcases h with h | ⟨o,its,n,hk,hc,hs,hz,r⟩
 ·obtain ⟨z,its,r,p⟩:=h.ok I.hok
  exact ⟨its,r,p,z⟩
 ·refine ⟨its.toList,r,⟨o,I.kIn a o hk,hc,n,by simpa using hs⟩,?_⟩
  have e:=r.length
  simp only [Array.length_toList] at e
  omega
theorem Inv.list_inj (I:Inv X pins Z H s) (h:SqL X.K H a xs) (h':SqL X.K H a ys):xs=ys:=by
 obtain ⟨its,r,⟨o,n,e,_,_,d⟩,_⟩:=I.list h
 obtain ⟨its',r',⟨o',n',e',_,_,d'⟩,_⟩:=I.list h'
 rw [e] at e';cases e'
 rw [d] at d'
 injection d' with d1 _
 have:its=its':=by simpa using congrArg Array.toList d1
 subst this
 exact r.inj r'
theorem Inv.tuple_inj (I:Inv X pins Z H s) (h:SqT X.K H a xs) (h':SqT X.K H a ys):xs=ys:=by
 obtain ⟨its,r,⟨o,e,_,n,d⟩,_⟩:=I.tuple h
 obtain ⟨its',r',⟨o',e',_,n',d'⟩,_⟩:=I.tuple h'
 rw [e] at e';cases e'
 rw [d] at d'
 injection d' with d1 _
 have:its=its':=by simpa using congrArg Array.toList d1
 subst this
 exact r.inj r'
end
abbrev Cx.wish (X:Cx) (E:Value->Shared->Prop):Cx:={ X with xe:=E }
abbrev Cx.nox (X:Cx):Cx:=X.wish fun _ _=>False
theorem Cx.Ok.wish {X:Cx} (ok:X.Ok) (E:Value->Shared->Prop):(X.wish E).Ok :=
 ⟨ok.mod,ok.kind,ok.glob,ok.blt,ok.above,ok.inj,ok.has,ok.cab,ok.hd,ok.frames,ok.stk,ok.exf,ok.bs,ok.bsz,ok.noex,ok.exfs,ok.funs,ok.frf⟩
theorem Cx.Ok.unwish {X:Cx} {E:Value->Shared->Prop} (ok:(X.wish E).Ok):X.Ok :=
 ⟨ok.mod,ok.kind,ok.glob,ok.blt,ok.above,ok.inj,ok.has,ok.cab,ok.hd,ok.frames,ok.stk,ok.exf,ok.bs,ok.bsz,ok.noex,ok.exfs,ok.funs,ok.frf⟩
section
variable {X:Cx} {pins:List (Addr×Obj)} {Z:St} {H:Hp} {s:Shared} {E:Value->Shared->Prop}
theorem Inv.wish (I:Inv X pins Z H s) (E:Value->Shared->Prop):Inv (X.wish E) pins Z H s:=⟨I.ok.wish E,I.os,I.bare,I.base,I.loc,I.cell,I.free,I.freeC,I.pin,I.hok,I.len⟩
theorem Inv.unwish (I:Inv (X.wish E) pins Z H s):Inv X pins Z H s:=⟨I.ok.unwish,I.os,I.bare,I.base,I.loc,I.cell,I.free,I.freeC,I.pin,I.hok,I.len⟩
theorem SP.unwish {D:qe3} {f:Flow} {s':Shared} (h:SP (X.wish E) pins D f s'):SP X pins D f s':=by
 cases f with
 | next=>obtain ⟨Z',H',I,q⟩:=h;exact ⟨Z',H',I.unwish,q⟩
 | brk=>obtain ⟨Z',H',I,q⟩:=h;exact ⟨Z',H',I.unwish,q⟩
 | cont=>obtain ⟨Z',H',I,q⟩:=h;exact ⟨Z',H',I.unwish,q⟩
 | ret u=>obtain ⟨v,Z',H',I,r,q⟩:=h;exact ⟨v,Z',H',I.unwish,r,q⟩
theorem PE.nox {e:Expr} {t:TE} (h:PE X.nox e t):PE X e t:=fun pins s Z H Q I hw =>
 wpAny_mono (h pins s Z H Q (I.wish _) hw) (fun _ _ ⟨v,H',I',r,q⟩=>⟨v,H',I'.unwish,r,q⟩) fun _ _ z=>False.elim z
theorem PT.nox {e:Expr} {t:TT} (h:PT X.nox e t):PT X e t:=fun pins s Z H Q I hw =>
 wpAny_mono (h pins s Z H Q (I.wish _) hw) (fun _ _ ⟨H',I',q⟩=>⟨H',I'.unwish,q⟩) fun _ _ z=>False.elim z
theorem PSs.nox {st:List Stmt} {t:TS} (h:PSs X.nox st t):PSs X st t:=fun pins s Z H D I hw =>
 wpAny_mono (h pins s Z H D (I.wish _) hw) (fun _ _ q=>q.unwish) fun _ _ z=>False.elim z
end
section
variable {X:Cx} {st:Stmt} {uJ:List Stmt} {t u:TS} {e:Expr} {te:TE} {pos:Pos}
def qm6:TS:=fun D Z H=>D.nx Z H
def qow (t u:TS):TS:=fun D Z H=>t { D with nx:=u D } Z H
theorem qjl:PSs X [] qm6:=fun _ _ Z H _ I h=>wpAny_execs_nil ⟨Z,H,I,h⟩
theorem qg2 (h1:PS X st t) (h2:PSs X uJ u):PSs X (st::uJ) (qow t u):=by
 intro pins s Z H D I h
 refine wpAny_execs_cons (thn (h1 pins s Z H { D with nx:=u D } I h) fun f s1 q => ?_)
 cases f with
 | next =>
  obtain ⟨Z',H',I',q⟩:=q
  exact h2 pins s1 Z' H' D I' q
 | ret v=>exact q
 | brk=>exact q
 | cont=>exact q
theorem qfa (h1:PS X st t):PSs X [st] t:=by
 intro pins s Z H D I h
 refine wpAny_execs_cons (thn (h1 pins s Z H D I h) fun f s1 q => ?_)
 cases f with
 | next=>exact wpAny_execs_nil q
 | ret v=>exact q
 | brk=>exact q
 | cont=>exact q
theorem Inv.quiet {pins:List (Addr×Obj)} {Z:St} {H:Hp} {s:Shared} (I:Inv X pins Z H s):interactive X.env=false:=by simp [interactive,I.ok.kind]
def qm7 (te:TE):TS:=fun D Z H=>te Z H fun _ H1=>D.nx Z H1
theorem qjm (he:PE X e te) (hs:swapsWith e none pos.line X.env=pure false:=by rfl):PS X (.Expr e pos) (qm7 te):=by
 intro pins s Z H D I h
 exact wpAny_Expr_any (thn (he pins s Z H _ I h) fun v s1 ⟨x,H1,I1,r1,q1⟩=>⟨Z,H1,I1,q1⟩) I.quiet hs
def qox (te:TE):TS:=fun D Z H=>te Z H D.rt
theorem qfb (he:PE X e te):PS X (.Return (some e) pos) (qox te):=by
 intro pins s Z H D I h
 exact wpAny_Return_some (thn (he pins s Z H _ I h) fun v s1 ⟨x,H1,I1,r1,q1⟩=>⟨x,Z,H1,I1,r1,q1⟩)
def qoy (c:TT) (t u:TS):TS:=fun D Z H=>c Z H fun b H1=>if b=true then t D Z H1 else u D Z H1
theorem qm8 {c:Expr} {a b:List Stmt} {tc:TT} (hc:PT X c tc) (ha:PSs X a t) (hb:PSs X b u):PS X (.If c a b pos) (qoy tc t u):=by
 intro pins s Z H D I h
 refine wpAny_If (thn (hc pins s Z H _ I h) fun d s1 ⟨H1,I1,q1⟩ => ?_)
 cases d with
 | true=>exact ha pins s1 Z H1 D I1 q1
 | false=>exact hb pins s1 Z H1 D I1 q1
end
abbrev TG:=V->St->Hp->(St->Hp->Prop)->Prop
abbrev TGs:=List V->St->Hp->(St->Hp->Prop)->Prop
def PG (X:Cx) (target:Expr) (t:TG):Prop :=
 ∀ (pins:List (Addr×Obj)) (s:Shared) (Z:St) (H:Hp) (v:V) (u:Value) (Q:St->Hp->Prop),Inv X pins Z H s->ji v u->t v Z H Q ->
  wpAny (model X.prog X.w) X.A (assign target X.env u) (fun _ s'=>∃ Z' H',Inv X pins Z' H' s'/\Q Z' H') X.xe s
def PGs (X:Cx) (ts:List Expr) (t:TGs):Prop :=
 ∀ (pins:List (Addr×Obj)) (s:Shared) (Z:St) (H:Hp) (vs:List V) (us:List Value) (Q:St->Hp->Prop),Inv X pins Z H s->qW vs us->t vs Z H Q ->
  wpAny (model X.prog X.w) X.A (assignInOrder ((assignEach ts X.env).map (·.2)) us) (fun _ s'=>∃ Z' H',Inv X pins Z' H' s'/\Q Z' H') X.xe s
abbrev qm9:=V->V->V->Hp->(Hp->Prop)->Prop
def qnZ (X:Cx) (t:qm9):Prop :=
 ∀ (pins:List (Addr×Obj)) (s:Shared) (Z:St) (H:Hp) (o i v:V) (ov iv u:Value) (Q:Hp->Prop),Inv X pins Z H s->ji o ov->ji i iv->ji v u->t o i v H Q ->
  wpAny (model X.prog X.w) X.A (setItem ov iv u) (fun _ s'=>∃ H',Inv X pins Z H' s'/\Q H') X.xe s
section
variable {X:Cx} {pos:Pos}
def qk9 (i:Nat):TG:=fun v Z H Q=>Q (Z.set i (some v)) H
theorem qjn {i:Nat} {x:Str} (hN:X.N.Nodup) (hi:X.N[i]? = some x) (hx:Loc X.env.scope x) (hf:X.fn x=true\/X.env.scope.names.lookup x=some .local:=by first | exact .inl rfl | exact .inr rfl | assumption):PG X (.Name x pos) (qk9 i):=by
 intro pins s Z H v u Q I r h
 exact wpAny_assign_Name (vv I hN hi hx r (fun s' I'=>⟨_,H,I',h⟩) hf)
def qoz:TGs:=fun vs Z H Q=>vs=[]/\Q Z H
def qna (t:TG) (u:TGs):TGs:=fun vs Z H Q=>∃ v r,vs=v::r/\t v Z H fun Z' H'=>u r Z' H' Q
theorem qjo:PGs X [] qoz:=by
 intro pins s Z H vs us Q I r h
 obtain ⟨e,h⟩:=h
 subst e
 cases r
 exact assignInOrder_nil ⟨Z,H,I,h⟩
theorem qg3 {e:Expr} {es:List Expr} {t:TG} {u:TGs} (h1:PG X e t) (h2:PGs X es u)
  (hs:(assignEach (e::es) X.env).map (·.2)=assign e X.env::(assignEach es X.env).map (·.2):=by rfl):PGs X (e::es) (qna t u):=by
 intro pins s Z H vs us Q I r h
 obtain ⟨v,vr,e1,h⟩:=h
 subst e1
 cases r with
 | cons r rr =>
  rw [hs]
  refine assignInOrder_cons (thn (h1 pins s Z H _ _ _ I r h) fun _ s1 ⟨Z1,H1,I1,q1⟩ => ?_)
  exact h2 pins s1 Z1 H1 _ _ Q I1 rr q1
def qoA (K:PySem.W.Frag) (n:Nat) (t:TGs):TG:=fun v Z H Q=>∃ a xs,v = .ref a/\SqT K H a xs/\xs.length=n/\t xs Z H Q
theorem qla {es:List Expr} {k:Nat} {t:TGs} {n:Nat} (hc:X.calm=true) (h:PGs X es t)
  (hn:(assignEach es X.env).length=n:=by rfl) (hst:(assignEach es X.env).findIdx? (·.1)=none:=by rfl):PG X (.Tuple es k pos) (qoA X.K n t):=by
 intro pins s Z H v u Q I r hw
 obtain ⟨a,xs,e1,hq,hl,hw⟩:=hw
 subst e1
 cases r
 obtain ⟨its,rv,ht,hz⟩:=I.tuple hq
 refine assign_Tuple_tuple (I.ok.hd hc) ht (by simp [hn,<- hl,rv.length]) hst fun h' hx => ?_
 have I1:Inv X pins Z H { s with heap:=h' }:=I.kept (t':=s.toks) fun b o e=>hx b o (Nat.ne_of_lt (Heap.lt_size e)) e
 exact h pins _ Z H xs _ Q I1 (by simpa using rv) hw
def qoB (to ti:TE) (t:qm9):TG:=fun v Z H Q=>to Z H fun o H1=>ti Z H1 fun i H2=>t o i v H2 fun H3=>Q Z H3
theorem qlb {o i:Expr} {to ti:TE} {t:qm9} (ho:PE X o to) (hi:PE X i ti) (hs:qnZ X t)
  (ha:∀ v,assign (.Subscript o i pos) X.env v=(do
   let ov <- holding [v] (eval o X.env)
   let iv <- holding [v,ov] (eval i X.env)
   standAt pos
   holding [v,ov,iv] (setItem ov iv v)
   release [v,ov,iv] []):=by intro _;rfl):PG X (.Subscript o i pos) (qoB to ti t):=by
 intro pins s Z H v u Q I r h
 rw [ha]
 refine wpAny_bind (wpAny_holding (thn (ho pins s Z H _ I h) fun ov s1 ⟨x,H1,I1,r1,q1⟩ => ?_))
 refine wpAny_bind (wpAny_holding (thn (hi pins s1 Z H1 _ I1 q1) fun iv s2 ⟨y,H2,I2,r2,q2⟩ => ?_))
 refine wpAny_bind (wpAny_standAt (wpAny_bind (wpAny_holding (thn (hs pins s2 Z H2 x y v ov iv u _ I2 r1 r2 r q2) fun _ s3 ⟨H3,I3,q3⟩ => ?_))))
 exact wpAny_release ⟨Z,H3,I3,q3⟩
def qn0 (te:TE) (g:TG):TS:=fun D Z H=>te Z H fun x H1=>g x Z H1 D.nx
theorem qil {tg e:Expr} {te:TE} {g:TG} (he:PE X e te) (hg:PG X tg g) (hs:swapsWithSole [tg] e pos.line X.env=pure false:=by rfl) (hw:swappedStores [tg] e X.env=pure none:=by rfl)
  (h1:(assignEach [tg] X.env).map (·.2)=[assign tg X.env]:=by rfl):PS X (.Assign [tg] e pos) (qn0 te g):=by
 intro pins s Z H D I h
 refine wpAny_Assign_stores (thn (he pins s Z H _ I h) fun v s1 ⟨x,H1,I1,r1,q1⟩ => ?_) hs hw
 rw [h1]
 exact thn (hg pins s1 Z H1 x v _ I1 r1 q1) fun _ s2 q=>q
theorem qfc {i:Nat} {x:Str} {e:Expr} {te:TE} {pos':Pos} (hN:X.N.Nodup) (hi:X.N[i]? = some x) (hx:Loc X.env.scope x) (he:PE X e te) (hs:swapsWith e (some (.Name x pos')) pos.line X.env=pure false:=by rfl) (hf:X.fn x=true\/X.env.scope.names.lookup x=some .local:=by first | exact .inl rfl | exact .inr rfl | assumption) :
  PS X (.Assign [.Name x pos'] e pos) (qn0 te (qk9 i)):=by
 intro pins s Z H D I h
 refine wpAny_Assign_Name (thn (he pins s Z H _ I h) fun v s1 ⟨y,H1,I1,r1,q1⟩ => ?_) hs
 exact vv I1 hN hi hx r1 (fun s2 I2=>⟨_,H1,I2,q1⟩) hf
def qoC (i j:Nat) (ta:TA):TS:=fun D Z H=>ta Z H fun vs H1=>∃ v w,vs=[v,w]/\D.nx ((Z.set i (some v)).set j (some w)) H1
theorem qlc {i j:Nat} {x y:Str} {a b:Expr} {ta:TA} {px py pt:Pos} {kt k2 pt2} (hc:X.calm=true) (hN:X.N.Nodup) (hi:X.N[i]? = some x) (hj:X.N[j]? = some y) (hij:i≠j)
  (hx:X.env.scope.names.lookup x=some .local) (hy:X.env.scope.names.lookup y=some .local) (ha:PA X [a,b] ta)
  (hw:swappedStores [.Tuple [.Name x px,.Name y py] kt pt] (.Tuple [a,b] k2 pt2) X.env=pure (some [x,y]))
  (hs:swapsWithSole [.Tuple [.Name x px,.Name y py] kt pt] (.Tuple [a,b] k2 pt2) pos.line X.env=pure false:=by rfl) :
  PS X (.Assign [.Tuple [.Name x px,.Name y py] kt pt] (.Tuple [a,b] k2 pt2) pos) (qoC i j ta):=by
 intro pins s Z H D I h
 rw [exec_Assign_arm]
 refine wpAny_bind (wpAny_standAt ?_)
 rw [hs]
 refine wpAny_bind (wpAny_pure ?_)
 rw [if_neg (by decide)]
 refine wpAny_bind (Tuple_ (thn (ha _ pins s Z H _ I h) fun us s1 ⟨vs,H1,I1,r1,q1⟩ => ?_))
 obtain ⟨v,w,e1,q1⟩:=q1
 subst e1
 obtain ⟨u1,u2,rfl,rv,rw'⟩:∃ u1 u2,us=[u1,u2]/\ji v u1/\ji w u2:=by
  cases r1 with
  | cons p q =>
   cases q with
   | cons p' q' =>
    cases q'
    exact ⟨_,_,rfl,p,p'⟩
 refine wpAny_newObj_type ?_ (by show 2<=sizeLine;decide)
 have I2:Inv X pins Z H1 { s1 with heap:=s1.heap.push { cls := .type "tuple",data := .seq [u1,u2].toArray } }:=I1.kept (t':=s1.toks) fun b o e=>Heap.get?_push_of_some _ e
 rw [hw]
 refine wpAny_bind (wpAny_pure ?_)
 show wpAny (model X.prog X.w) X.A (do rule "assign.swapped-stores";let items <- unpackItems (.ref s1.heap.objs.size) 2 none;assignInOrder [fun v=>bindName X.env y v,fun v=>bindName X.env x v] items.reverse;pure Flow.next) _ _ _
 refine wpAny_bind (wpAny_rule (wpAny_bind (unpackItems_tuple (items := #[u1,u2]) (I.ok.hd hc) (IsTup.new s1.heap _) fun h' hx' => ?_)))
 have I3:=I2.kept (h':=h') (t':=s1.toks) fun b o e=>hx' b o (Nat.ne_of_lt (Heap.lt_size e)) e
 show wpAny _ _ (assignInOrder [fun v=>bindName X.env y v,fun v=>bindName X.env x v] [u2,u1] >>= fun _=>pure Flow.next) _ _ _
 refine wpAny_bind (assignInOrder_cons (wpAny_bindName (vv I3 hN hj (.inl hy) rw' (fun s2 I4 => ?_) (.inr hy))))
 refine assignInOrder_cons (wpAny_bindName (vv I4 hN hi (.inl hx) rv (fun s3 I5=>assignInOrder_nil (wpAny_pure ?_)) (.inr hx)))
 rw [List.set_comm _ _ (Ne.symm hij)] at I5
 exact ⟨_,H1,I5,q1⟩
end
section
variable {X:Cx} {pos:Pos}
end
structure It where
 go:Nat->Hp->Prop
 yld:Nat->Hp->V->Hp->Prop
 stop:Nat->Hp->Prop
def qcZ (X:Cx) (pins:List (Addr×Obj)) (H:Hp) (b:Addr):Prop :=
 H b=none/\b≠X.env.locals/\b ∉ X.fs/\(b∈X.ex\/X.s₀.heap.objs.size<=b)/\(∀ x c,X.env.cells.lookup x=some c->c≠b)/\∀ p∈X.pn++pins,p.1≠b
theorem Inv.fpOk {X:Cx} {pins:List (Addr×Obj)} {Z:St} {H H':Hp} {s:Shared} {b:Addr} (I:Inv X pins Z H s) (hb:s.heap.objs.size<=b) (hn:H' b=none):qcZ X pins H' b:=by
 refine ⟨hn,Nat.ne_of_gt (Nat.lt_of_lt_of_le I.lt hb),I.nofs hb,.inr (Nat.le_trans I.sz hb),fun x c e z => ?_,fun p hp z => ?_⟩
 ·obtain ⟨v,q⟩:=I.cell x c e
  exact absurd (Nat.lt_of_lt_of_le q.lt (by rw [z];exact hb)) (Nat.lt_irrefl _)
 ·exact absurd (Nat.lt_of_lt_of_le (Heap.lt_size (I.pin p hp).1) (by rw [z];exact hb)) (Nat.lt_irrefl _)
structure qld (P:Program) (w:World) (K:PySem.W.Frag) (tg:Expr) (J:It) (fp:List Addr) (it:Addr) (tn:Nat->Heap->Prop):Prop where
 mem:it∈fp
 obj:∀ i h,tn i h->∀ b∈fp,∃ o,h.get? b=some o/\∀ v,o.data ≠ .cell v
 keep:∀ i h h',tn i h->(∀ b∈fp,∀ o,h.get? b=some o->h'.get? b=some o)->tn i h'
 item:∀ (X:Cx),X.prog=P->X.w=w->X.K=K->X.calm=true->∀ (i:Nat) (pins:List (Addr×Obj)) (s:Shared) (Z:St) (H:Hp) (E:Value->Shared->Prop),Inv X pins Z H s->(∀ b∈fp,qcZ X pins H b)->tn i s.heap->J.go i H ->
  wpAny (model P w) X.A (pyNext (.ref it)) (fun r s1=>∃ u,r=some u /\
   wpAny (model P w) X.A (letOwnedTupleGo tg (.ref it) u) (fun _ s2=>∃ x H',Inv X pins Z H' s2/\ji x u/\J.yld i H x H'/\tn (i+1) s2.heap/\∀ b∈fp,H' b=none) E s1) E s
 done:∀ (X:Cx),X.prog=P->X.w=w->X.K=K->X.calm=true->∀ (i:Nat) (pins:List (Addr×Obj)) (s:Shared) (Z:St) (H:Hp) (E:Value->Shared->Prop),Inv X pins Z H s->(∀ b∈fp,qcZ X pins H b)->tn i s.heap->J.stop i H ->
  wpAny (model P w) X.A (pyNext (.ref it)) (fun r s1=>r=none/\Inv X pins Z H s1) E s
 self:∀ (A:Around) (i:Nat) (s:Shared) (Q:Value->Shared->Prop) (E:Value->Shared->Prop),tn i s.heap->Q (.ref it) s->wpAny (model P w) A (pyIter (.ref it)) Q E s
abbrev TI:=St->Hp->(It->Hp->Prop)->Prop
def PIE (X:Cx) (pins:List (Addr×Obj)) (Z:St) (tg:Expr) (R:It->Hp->Prop) (itv:Value) (s2:Shared):Prop :=
 ∃ (it:Addr) (fp:List Addr) (tn:Nat->Heap->Prop) (J:It) (H':Hp),itv = .ref it/\Inv X pins Z H' s2/\qld X.prog X.w X.K tg J fp it tn/\tn 0 s2.heap/\(∀ b∈fp,qcZ X pins H' b)/\R J H'
def PI (X:Cx) (tg iter:Expr) (wi:TI):Prop :=
 ∀ (pins:List (Addr×Obj)) (s:Shared) (Z:St) (H:Hp) (R:It->Hp->Prop),Inv X pins Z H s->wi Z H R ->
  wpAny (model X.prog X.w) X.A (eval iter X.env) (fun v s1=>wpAny (model X.prog X.w) X.A (pyIter v) (PIE X pins Z tg R) X.xe s1) X.xe s
theorem qjp {M:Model} {A:Around} {E:Value->Shared->Prop} {s:Shared} {tg:Expr} {it:Addr} {u:Value} {o:Obj} {n:String} {vs:Array Value} {Q:Unit->Shared->Prop} (ho:s.heap.get? it=some o) (hc:o.cls = .type n) (hd:o.data = .fields vs)
  (hn:["enumerate","zip","dict_itemiterator","dict_reverseitemiterator","odict_iterator","itertools.zip_longest","itertools.pairwise"].contains n=false) (hQ:Q () s):wpAny M A (letOwnedTupleGo tg (.ref it) u) Q E s:=by
 unfold letOwnedTupleGo
 cases tg<;>first
  | exact wpAny_pure hQ
  | (cases u<;>first
    | exact wpAny_pure hQ
    | (refine wpAny_bind (wpAny_load ho ?_)
       rw [hc,hd]
       show wpAny M A (if (["enumerate","zip","dict_itemiterator","dict_reverseitemiterator","odict_iterator","itertools.zip_longest","itertools.pairwise"].contains n&&vs[0]? == some (rawInt _))=true then _ else _) Q E s
       rw [if_neg (by intro h;rw [hn,Bool.false_and] at h;cases h)]
       exact wpAny_pure hQ))
def Itl (K:PySem.W.Frag) (a:Addr):It :=
 ⟨fun i H=>∃ xs x,SqL K H a xs/\xs[i]? = some x,fun i H x H'=>H'=H/\∀ xs,SqL K H a xs->xs[i]? = some x,fun i H=>∃ xs,SqL K H a xs/\xs.length<=i⟩
def Itt (K:PySem.W.Frag) (a:Addr):It :=
 ⟨fun i H=>∃ xs x,SqT K H a xs/\xs[i]? = some x,fun i H x H'=>H'=H/\∀ xs,SqT K H a xs->xs[i]? = some x,fun i H=>∃ xs,SqT K H a xs/\xs.length<=i⟩
def Itr (lo:Int) (n:Nat):It:=⟨fun i _=>i<n,fun i H x H'=>H'=H/\x = .int (lo+i),fun i _=>n<=i⟩
theorem qfd {P:Program} {w:World} {K:PySem.W.Frag} {tg:Expr} (a it:Addr):qld P w K tg (Itl K a) [it] it (fun i h=>h.IsListIter it a i) where
 mem:=by simp
 obj:=fun i h st b hb=>by
  have e:b=it:=by simpa using hb
  subst e
  obtain ⟨o,e,c,d⟩:=st
  exact ⟨o,e,fun v z=>by rw [d] at z;cases z⟩
 keep:=fun i h h' st k=>st.at fun o e=>k it (by simp) o e
 item:=by
  intro X hP hw hK hc i pins s Z H E I hf st hg
  subst hP hw hK
  obtain ⟨xs,x,hq,hx⟩:=hg
  obtain ⟨its,rv,p,hz⟩:=I.list hq
  obtain ⟨u,hu,ru⟩:=rv.get hx
  obtain ⟨f0,f1,f2,f3,f4,f5⟩:=hf it (by simp)
  refine wpAny_pyNext_list_item st p.isList (x:=u) (by simpa using hu) fun h' st' sb => ?_
  have I1:Inv X pins Z H { s with heap:=h' }:=I.turned (t':=s.toks) (fun b o hb e=>(sb.2 b hb).trans e) f0 f1 f3 f4 f5
  obtain ⟨o,e,c,d⟩:=id st'
  exact ⟨u,rfl,qjp (s:={ s with heap:=h' }) e c d (by decide) ⟨x,H,I1,ru,⟨rfl,fun ys hy=>by rw [I.list_inj hy hq];exact hx⟩,st',fun b hb=>(hf b hb).1⟩⟩
 done:=by
  intro X hP hw hK hc i pins s Z H E I hf st hg
  subst hP hw hK
  obtain ⟨xs,hq,hx⟩:=hg
  obtain ⟨its,rv,p,hz⟩:=I.list hq
  obtain ⟨f0,f1,f2,f3,f4,f5⟩:=hf it (by simp)
  have hl:=rv.length
  exact wpAny_pyNext_list_end (I.ok.hd hc) st p.isList (by simp;omega) fun h' eb=>⟨rfl,I.turned (t':=s.toks) (fun b o hb e=>eb b o hb e) f0 f1 f3 f4 f5⟩
 self:=fun _ _ _ _ _ st h=>wpAny_pyIter_listiter st h
theorem qeu {P:Program} {w:World} {K:PySem.W.Frag} {tg:Expr} (a it:Addr):qld P w K tg (Itt K a) [it] it (fun i h=>h.IsTupleIter it a i) where
 mem:=by simp
 obj:=fun i h st b hb=>by
  have e:b=it:=by simpa using hb
  subst e
  obtain ⟨o,e,c,d⟩:=st
  exact ⟨o,e,fun v z=>by rw [d] at z;cases z⟩
 keep:=fun i h h' st k=>st.at fun o e=>k it (by simp) o e
 item:=by
  intro X hP hw hK hc i pins s Z H E I hf st hg
  subst hP hw hK
  obtain ⟨xs,x,hq,hx⟩:=hg
  obtain ⟨its,rv,p,hz⟩:=I.tuple hq
  obtain ⟨u,hu,ru⟩:=rv.get hx
  obtain ⟨f0,f1,f2,f3,f4,f5⟩:=hf it (by simp)
  refine wpAny_pyNext_tuple_item st (show s.heap.IsTuple a its.toArray from p) (x:=u) (by simpa using hu) fun h' st' sb => ?_
  have I1:Inv X pins Z H { s with heap:=h' }:=I.turned (t':=s.toks) (fun b o hb e=>(sb.2 b hb).trans e) f0 f1 f3 f4 f5
  obtain ⟨o,e,c,d⟩:=id st'
  exact ⟨u,rfl,qjp (s:={ s with heap:=h' }) e c d (by decide) ⟨x,H,I1,ru,⟨rfl,fun ys hy=>by rw [I.tuple_inj hy hq];exact hx⟩,st',fun b hb=>(hf b hb).1⟩⟩
 done:=by
  intro X hP hw hK hc i pins s Z H E I hf st hg
  subst hP hw hK
  obtain ⟨xs,hq,hx⟩:=hg
  obtain ⟨its,rv,p,hz⟩:=I.tuple hq
  obtain ⟨f0,f1,f2,f3,f4,f5⟩:=hf it (by simp)
  have hl:=rv.length
  exact wpAny_pyNext_tuple_end (I.ok.hd hc) st (show s.heap.IsTuple a its.toArray from p) (by simp;omega) fun h' eb=>⟨rfl,I.turned (t':=s.toks) (fun b o hb e=>eb b o hb e) f0 f1 f3 f4 f5⟩
 self:=fun _ _ _ _ _ st h=>wpAny_pyIter_tupleiter st h
theorem qev {P:Program} {w:World} {K:PySem.W.Frag} {tg:Expr} (it:Addr) (lo:Int) (n:Nat):qld P w K tg (Itr lo n) [it] it (fun i h=>IsRangeIter h it (lo+(i:Nat)*1) ((n:Int)-(i:Nat)) 1) where
 mem:=by simp
 obj:=fun i h st b hb=>by
  have e:b=it:=by simpa using hb
  subst e
  exact ⟨_,st,fun v z=>by
   have z':Data.fields _=Data.cell v:=z
   cases z'⟩
 keep:=fun i h h' st k=>k it (by simp) _ st
 item:=by
  intro X hP hw hK hc i pins s Z H E I hf st hg
  subst hP hw hK
  obtain ⟨f0,f1,f2,f3,f4,f5⟩:=hf it (by simp)
  have W:=Walks.range (prog:=X.prog) (w:=X.w) (I.ok.hd hc) it lo 1 n
  refine W.item i s _ _ hg st fun v h' tk hv st' kk => ?_
  obtain ⟨t,rfl⟩:=hv
  have I1:Inv X pins Z H { s with heap:=h',toks:=tk }:=I.turned (fun b o hb e=>kk b o (by simpa using hb) e) f0 f1 f3 f4 f5
  refine ⟨_,rfl,qjp (s:={ s with heap:=h',toks:=tk }) (n:="range_iterator") st' rfl rfl (by decide) ⟨.int (lo+i),H,I1,⟨t,?_⟩,⟨rfl,rfl⟩,st',fun b hb=>(hf b hb).1⟩⟩
  rw [Int.mul_one]
 done:=by
  intro X hP hw hK hc i pins s Z H E I hf st hg
  subst hP hw hK
  obtain ⟨f0,f1,f2,f3,f4,f5⟩:=hf it (by simp)
  exact wpAny_pyNext_range_end (I.ok.hd hc) st (by have:n<=i:=hg;omega) fun h' eb=>⟨rfl,I.turned (t':=s.toks) (fun b o hb e=>eb b o hb e) f0 f1 f3 f4 f5⟩
 self:=fun _ _ _ _ _ st h=>wpAny_pyIter_rangeiter st h
end L2
namespace L2
open PySem PySem.Spec PyProof.Rows
section
variable {X:Cx} {tg:Expr}
theorem qg4 {pins:List (Addr×Obj)} {Z:St} {H:Hp} {s:Shared} {R:It->Hp->Prop} {E:Value->Shared->Prop} {lo hi:Int} {t u v:Tok} {tk:Nat} (I:Inv X pins Z H s) (h1 : -(2 ^ 62)<=lo) (h2:lo<2 ^ 62) (h3 : -(2 ^ 62)<=hi) (h4:hi<2 ^ 62)
  (q:R (Itr lo (hi-lo).toNat) H):wpAny (model X.prog X.w) X.A (pyIter (.ref s.heap.objs.size)) (PIE X pins Z tg R) E { s with heap:=s.heap.push { cls := .type "range",data := .fields #[.int lo t,.int hi u,.int 1 v] },toks:=tk }:=by
 refine wpAny_pyIter_range (IsRange.new ..) (small_one h1 h2 h3 h4) ?_
 have I1:Inv X pins Z H { s with heap:=s.heap.push { cls := .type "range",data := .fields #[.int lo t,.int hi u,.int 1 v] },toks:=tk }:=I.kept fun b o e=>Heap.get?_push_of_some _ e
 refine ⟨(s.heap.push { cls := .type "range",data := .fields #[.int lo t,.int hi u,.int 1 v] }).objs.size,[(s.heap.push { cls := .type "range",data := .fields #[.int lo t,.int hi u,.int 1 v] }).objs.size],_,_,H,rfl,
  I1.kept (t':=tk) fun b o e=>Heap.get?_push_of_some _ e,qev _ lo (hi-lo).toNat,?_,fun b hb => ?_,q⟩
 ·have e1:lo+((0:Nat):Int)*1=lo:=by simp
  have e2:(((hi-lo).toNat:Nat):Int)-((0:Nat):Int)=Builtin.Range.rangeSize lo hi 1:=by rw [rangeSize_one];split<;>omega
  show IsRangeIter _ _ (lo+((0:Nat):Int)*1) ((((hi-lo).toNat:Nat):Int)-((0:Nat):Int)) 1
  rw [e1,e2]
  exact Heap.get?_push_size _ rfl
 ·have e:b=(s.heap.push { cls := .type "range",data := .fields #[.int lo t,.int hi u,.int 1 v] }).objs.size:=by simpa using hb
  subst e
  exact I1.fpOk (Nat.le_refl _) (I1.hok.fresh (Nat.le_refl _))
def qnb (ta:TA):TI:=fun Z H R=>ta Z H fun vs H1=>∃ j:Int,vs=[.int j] /\ -(2 ^ 62)<=j/\j<2 ^ 62/\R (Itr 0 j.toNat) H1
theorem qfe {a:Expr} {ta:TA} {p pos:Pos} (hg:Gl X "range") (hm:X.mg "range"=none) (ha:PA X [a] ta) (hs:starEach [a] X.env=[(false,eval a X.env)]:=by rfl):PI X tg (.Call (.Name "range" p) [a] [] pos) (qnb ta):=by
 intro pins s Z H R I h
 refine Call_ (qa0 I hg hm boot_range (PyProof.Rows.callWith_type1 (thn (ha pos pins s Z H _ I h) fun us s1 ⟨vs,H1,I1,r1,q1⟩ => ?_) hs rfl))
 obtain ⟨j,e,q1,q2,q⟩:=q1
 subst e
 cases r1 with
 | cons r rr =>
  cases rr
  obtain ⟨t,rfl⟩:=r
  exact call_range_1 (qg4 I1 (by omega) (by omega) q1 q2 (by simpa using q))
def qoD (wi:TI) (g:TG) (tb:TS):TS:=fun D Z H=>wi Z H fun J H1=>∃ W:Nat->Nat->St->Hp->Prop,(∃ m,W 0 m Z H1)/\∀ i m Z H,W i m Z H ->
 (J.stop i H/\D.nx Z H)\/(J.go i H/\∃ N:St->Hp->Prop,(∀ Z' H',N Z' H'->∃ m',m'<m/\W (i+1) m' Z' H')/\∀ x H',J.yld i H x H'->g x Z H' fun Z2 H2=>tb { D with nx:=N,ct:=N,bk:=D.nx } Z2 H2)
def qa1 (fp:List Addr) (h:Heap):List (Addr×Obj):=fp.filterMap fun b=>(h.get? b).map fun o=>(b,o)
theorem ym {fp:List Addr} {h:Heap} {b:Addr} {o:Obj} (hb:b∈fp) (e:h.get? b=some o):(b,o)∈qa1 fp h:=List.mem_filterMap.mpr ⟨b,hb,by rw [e];rfl⟩
theorem qff {fp:List Addr} {h:Heap} {p:Addr×Obj} (hp:p∈qa1 fp h):p.1∈fp/\h.get? p.1=some p.2:=by
 obtain ⟨b,hb,e⟩:=List.mem_filterMap.mp hp
 cases q:h.get? b with
 | none=>rw [q] at e;cases e
 | some o =>
  rw [q] at e
  have e':(b,o)=p:=Option.some.inj e
  subst e'
  exact ⟨hb,q⟩
theorem Inv.pinned {pins:List (Addr×Obj)} {Z:St} {H:Hp} {s:Shared} {fp:List Addr} (I:Inv X pins Z H s) (hf:∀ b∈fp,qcZ X pins H b) (ho:∀ b∈fp,∃ o,s.heap.get? b=some o/\∀ v,o.data ≠ .cell v):Inv X (pins++qa1 fp s.heap) Z H s :=
 I.pins_of fun p hp=>(mA_.mp hp).elim (fun z=>I.pin p (mr_ _ z)) fun z=>by
  obtain ⟨hb,e⟩:=qff z
  obtain ⟨f0,f1,f2,_⟩:=hf p.1 hb
  obtain ⟨o,e',d⟩:=ho p.1 hb
  rw [e] at e';cases e'
  exact ⟨e,f0,f1,f2,d⟩
theorem Inv.unpinned {pins pl:List (Addr×Obj)} {Z:St} {H:Hp} {s:Shared} (I:Inv X (pins++pl) Z H s):Inv X pins Z H s:=I.pins_of fun p hp=>I.pin p (mr_ _ (List.mem_append_left _ hp))
theorem qle {iter:Expr} {body:List Stmt} {wi:TI} {g:TG} {tb:TS} {pos:Pos} (hp:PassesOwn (model X.prog X.w) X.A X.env X.xe) (hc:X.calm=true) (hi:PI X tg iter wi) (hg:PG X tg g) (hb:PSs X body tb)
  (hs:∀ x,foldedSetIterable iter X.env x=pure x:=by intro _;rfl):PS X (.For tg iter body [] pos) (qoD wi g tb):=by
 intro pins s Z H D I h
 refine wpAny_For (thn (hi pins s Z H _ I h) fun v s1 h1=>thn h1 fun itv s2 h2 => ?_) hs
 obtain ⟨it,fp,tn,J,H2,e,I2,T,st2,f2,W,⟨m0,w0⟩,turn⟩:=h2
 subst e
 have stat:∀ {H':Hp},(∀ b∈fp,H' b=none)->∀ b∈fp,qcZ X pins H' b:=fun hn b hb=>⟨hn b hb,(f2 b hb).2⟩
 refine codeAny_forLoop_any (fun n s'=>∃ i Z' H',Inv X pins Z' H' s'/\tn i s'.heap/\(∀ b∈fp,H' b=none)/\W i n Z' H') ?_ m0 ⟨0,Z,H2,I2,st2,fun b hb=>(f2 b hb).1,w0⟩
 rintro n s3 ⟨i,Z3,H3,I3,st3,fr3,w3⟩
 rcases turn i n Z3 H3 w3 with ⟨stop,qn⟩ | ⟨go,N,hN,step⟩
 ·refine wpAny_passesOwn hp (thn (T.done X rfl rfl rfl hc i pins s3 Z3 H3 X.xe I3 (stat fr3) st3 stop) fun r s4 ⟨hr,I4⟩ => ?_)
  subst hr
  exact wpAny_execs_nil ⟨Z3,H3,I4,qn⟩
 ·refine wpAny_passesOwn hp (thn (T.item X rfl rfl rfl hc i pins s3 Z3 H3 X.xe I3 (stat fr3) st3 go) fun r s4 ⟨u,hr,h4⟩ => ?_)
  subst hr
  refine wpAny_passesOwn hp (thn h4 fun _ s5 ⟨x,H5,I5,r5,y5,st5,fr5⟩ => ?_)
  have I5':=I5.pinned (stat fr5) (T.obj _ _ st5)
  refine wpAny_passesOwn hp (thn (hg _ s5 Z3 H5 x u _ I5' r5 (step x H5 y5)) fun _ s6 ⟨Z6,H6,I6,q6⟩ => ?_)
  refine wpAny_passesOwn hp (thn (hb _ s6 Z6 H6 _ I6 q6) fun f s7 q7 => ?_)
  have again:∀ {Z7:St} {H7:Hp},Inv X (pins++qa1 fp s5.heap) Z7 H7 s7->N Z7 H7->∃ m,m<n/\∃ i Z' H',Inv X pins Z' H' s7/\tn i s7.heap/\(∀ b∈fp,H' b=none)/\W i m Z' H':=fun {Z7 H7} I7 n7=>by
   obtain ⟨m',hm,w7⟩:=hN Z7 H7 n7
   refine ⟨m',hm,i+1,Z7,H7,I7.unpinned,T.keep _ _ _ st5 fun b hb o e=>(I7.pin (b,o) (mr_ _ (mr_ _ (ym hb e)))).1,fun b hb => ?_,w7⟩
   obtain ⟨o,e,d⟩:=T.obj _ _ st5 b hb
   exact (I7.pin (b,o) (mr_ _ (mr_ _ (ym hb e)))).2.1
  cases f with
  | next=>obtain ⟨Z7,H7,I7,n7⟩:=q7;exact again I7 n7
  | cont=>obtain ⟨Z7,H7,I7,n7⟩:=q7;exact again I7 n7
  | brk=>obtain ⟨Z7,H7,I7,q7⟩:=q7;exact ⟨Z7,H7,I7.unpinned,q7⟩
  | ret v=>obtain ⟨x7,Z7,H7,I7,r7,q7⟩:=q7;exact ⟨x7,Z7,H7,I7.unpinned,r7,q7⟩
end
end L2
namespace L2
open PySem PySem.Spec PyProof.Rows
abbrev R2:=V->V->Hp->VK->Prop
def OpR (X:Cx) (f:Value->Value->Sem Value) (r:R2):Prop :=
 ∀ (pins:List (Addr×Obj)) (s:Shared) (Z:St) (H:Hp) (x y:V) (v u:Value) (Q:VK),Inv X pins Z H s->ji x v->ji y u->r x y H Q ->
  wpAny (model X.prog X.w) X.A (f v u) (EP X pins Z Q) X.xe s
def UnR (X:Cx) (f:Value->Sem Value) (r:V->Hp->VK->Prop):Prop :=
 ∀ (pins:List (Addr×Obj)) (s:Shared) (Z:St) (H:Hp) (x:V) (v:Value) (Q:VK),Inv X pins Z H s->ji x v->r x H Q ->
  wpAny (model X.prog X.w) X.A (f v) (EP X pins Z Q) X.xe s
def yA (X:Cx) (f:Value) (r:List V->Hp->VK->Prop):Prop :=
 ∀ (pins:List (Addr×Obj)) (s:Shared) (Z:St) (H:Hp) (xs:List V) (us:List Value) (Q:VK),Inv X pins Z H s->qW xs us->r xs H Q ->
  wpAny (model X.prog X.w) X.A (call f us) (EP X pins Z Q) X.xe s
def tOp (r:R2) (ta tb:TE):TE:=fun Z H Q=>ta Z H fun x H1=>tb Z H1 fun y H2=>r x y H2 Q
def tUn (r:V->Hp->VK->Prop) (ta:TE):TE:=fun Z H Q=>ta Z H fun x H1=>r x H1 Q
def rI (C:Int->Int->Prop) (g:Int->Int->V):R2:=fun x y H Q=>∃ i j,x = .int i/\y = .int j/\C i j/\Q (g i j) H
def rI0 (g:Int->Int->V):R2:=fun x y H Q=>∃ i j,x = .int i/\y = .int j/\Q (g i j) H
def rU (g:Int->V):V->Hp->VK->Prop:=fun x H Q=>∃ i,x = .int i/\Q (g i) H
section
variable {X:Cx} {a b c:Expr} {ta tb tc:TE} {pos:Pos}
theorem qnc (ha:PE X a ta) (hb:PE X b tb) {pins:List (Addr×Obj)} {s:Shared} {Z:St} {H:Hp} {R:V->V->Hp->Prop} (I:Inv X pins Z H s)
  (h:ta Z H fun x H1=>tb Z H1 fun y H2=>R x y H2) {Q:Value->Shared->Prop} {f:Value->Value->Sem Value}
  (hf:∀ v u s2 x y H2,Inv X pins Z H2 s2->ji x v->ji y u->R x y H2->wpAny (model X.prog X.w) X.A (f v u) Q X.xe s2) :
  wpAny (model X.prog X.w) X.A (eval a X.env) (fun v sK=>wpAny (model X.prog X.w) X.A (eval b X.env) (fun u sQ=>wpAny (model X.prog X.w) X.A (f v u) Q X.xe sQ) X.xe sK) X.xe s:=by
 refine thn (ha pins s Z H _ I h) fun v s1 ⟨x,H1,I1,r1,q1⟩ => ?_
 refine thn (hb pins s1 Z H1 _ I1 q1) fun u s2 ⟨y,H2,I2,r2,q2⟩ => ?_
 exact hf v u s2 x y H2 I2 r1 r2 q2
theorem qnd {op:Operator} {r:R2} (ho:OpR X (binaryOp op) r) (ha:PE X a ta) (hb:PE X b tb):PE X (.BinOp a op b pos) (tOp r ta tb):=by
 intro pins s Z H Q I h
 exact wpAny_BinOp (qnc ha hb I h fun v u s2 x y H2 I2 rx ry q=>ho pins s2 Z H2 x y v u Q I2 rx ry q)
theorem qne {op:UnaryOp} {r:V->Hp->VK->Prop} (ho:UnR X (unaryOp op) r) (ha:PE X a ta):PE X (.UnaryOp op a pos) (tUn r ta):=by
 intro pins s Z H Q I h
 exact UnaryOp_ (thn (ha pins s Z H _ I h) fun v s1 ⟨x,H1,I1,r1,q1⟩=>ho pins s1 Z H1 x v Q I1 r1 q1)
theorem opI {f:Value->Value->Sem Value} {C:Int->Int->Prop} {g:Int->Int->Int}
  (rule:∀ (i j:Int) (t u:Tok) (s:Shared) (Q:Value->Shared->Prop) (E:Value->Shared->Prop),C i j->Q (.int (g i j) s.toks) { s with toks:=s.toks+1 }->wpAny (model X.prog X.w) X.A (f (.int i t) (.int j u)) Q E s) :
  OpR X f (rI C fun i j => .int (g i j)):=by
 intro pins s Z H x y v u Q I rx ry h
 obtain ⟨i,j,rfl,rfl,hc,q⟩:=h
 obtain ⟨t,rfl⟩:=rx
 obtain ⟨t',rfl⟩:=ry
 exact rule i j t t' s _ _ hc ⟨.int (g i j),H,I.tok _,⟨_,rfl⟩,q⟩
theorem qn1 {f:Value->Value->Sem Value} {g:Int->Int->Int}
  (rule:∀ (i j:Int) (t u:Tok) (s:Shared) (Q:Value->Shared->Prop) (E:Value->Shared->Prop),Q (.int (g i j) s.toks) { s with toks:=s.toks+1 }->wpAny (model X.prog X.w) X.A (f (.int i t) (.int j u)) Q E s) :
  OpR X f (rI0 fun i j => .int (g i j)):=by
 intro pins s Z H x y v u Q I rx ry h
 obtain ⟨i,j,rfl,rfl,q⟩:=h
 obtain ⟨t,rfl⟩:=rx
 obtain ⟨t',rfl⟩:=ry
 exact rule i j t t' s _ _ ⟨.int (g i j),H,I.tok _,⟨_,rfl⟩,q⟩
theorem qmQ {f:Value->Value->Sem Value} {g:Int->Int->Bool}
  (rule:∀ (i j:Int) (t u:Tok) (s:Shared) (Q:Value->Shared->Prop) (E:Value->Shared->Prop),Q (.bool (g i j)) s->wpAny (model X.prog X.w) X.A (f (.int i t) (.int j u)) Q E s) :
  OpR X f (rI0 fun i j => .bl (g i j)):=by
 intro pins s Z H x y v u Q I rx ry h
 obtain ⟨i,j,rfl,rfl,q⟩:=h
 obtain ⟨t,rfl⟩:=rx
 obtain ⟨t',rfl⟩:=ry
 exact rule i j t t' s _ _ ⟨.bl (g i j),H,I,rfl,q⟩
def qlf (i j:Int):Prop:=0<j/\j<1606938044258990275541962092341162602522202993782792835301376
theorem qn2 {i j:Int} (h1:0<j) (h2:j<1606938044258990275541962092341162602522202993782792835301376):Builtin.divisionGoesByPylong i j=false:=by
 refine PyProof.noPylong_of_log2 ?_
 have h0:j.natAbs≠0:=by omega
 have h3:j.natAbs<2 ^ 200:=by
   have:(2:Nat) ^ 200=1606938044258990275541962092341162602522202993782792835301376:=by decide +kernel
   omega
 have:=(Nat.log2_lt h0).mpr h3
 omega
def qn3 (i j:Int):Prop:=0<=j/\j<=1000000/\i.natAbs<2 ^ 64
def qlg (i j:Int):Prop:=(-(2 ^ 64)<i/\i<2 ^ 64)\/(-(2 ^ 64)<j/\j<2 ^ 64)
theorem qlg.ok {i j:Int} (h:qlg i j):IntMulOk i j:=by
 rcases h with ⟨h1,h2⟩ | ⟨h1,h2⟩
 ·exact .of_left (intBits_le_64 h1 h2)
 ·exact .of_right (intBits_le_64 h1 h2)
theorem qlh:OpR X (binaryOp .Add) (rI0 fun i j => .int (i+j)):=qn1 fun _ _ _ _ _ _ _ q=>add_int q
theorem qfg:OpR X (binaryOp .Sub) (rI0 fun i j => .int (i-j)):=qn1 fun _ _ _ _ _ _ _ q=>sub_int q
theorem qli:OpR X (binaryOp .Mult) (rI qlg fun i j => .int (i*j)):=opI fun _ _ _ _ _ _ _ hc q=>mul_int q hc.ok
theorem vS:OpR X (binaryOp .FloorDiv) (rI qlf fun i j => .int (i/j)):=opI fun i j _ _ _ _ _ hc q=>by
 have h1:(0:Int)<j:=hc.1
 have h2:j<1606938044258990275541962092341162602522202993782792835301376:=hc.2
 exact floordiv_int (by omega) (by rw [Int.fdiv_eq_ediv_of_nonneg i (by omega)];exact q) (.inl (qn2 h1 h2))
theorem qcc:OpR X (binaryOp .Mod) (rI (fun _ j=>0<j) fun i j => .int (i%j)):=opI fun i j _ _ _ _ _ hc q=>by
 have h1:(0:Int)<j:=hc
 exact mod_int' (by omega) (by rw [Int.fmod_eq_emod_of_nonneg i (by omega)];exact q)
theorem qim:OpR X (binaryOp .Pow) (rI qn3 fun i j => .int (i ^ j.toNat)):=opI fun _ _ _ _ _ _ _ hc q=>pow_int_small hc.1 hc.2.1 hc.2.2 q
theorem unI {f:Value->Sem Value} {g:Int->Int}
  (rule:∀ (i:Int) (t:Tok) (s:Shared) (Q:Value->Shared->Prop) (E:Value->Shared->Prop),Q (.int (g i) s.toks) { s with toks:=s.toks+1 }->wpAny (model X.prog X.w) X.A (f (.int i t)) Q E s) :
  UnR X f (rU fun i => .int (g i)):=by
 intro pins s Z H x v Q I rx h
 obtain ⟨i,rfl,q⟩:=h
 obtain ⟨t,rfl⟩:=rx
 exact rule i t s _ _ ⟨.int (g i),H,I.tok _,⟨_,rfl⟩,q⟩
theorem qlj:UnR X (unaryOp .USub) (rU fun i => .int (-i)):=unI fun _ _ _ _ _ q=>neg_int q
end
def qnf:V->V->Bool
 | .non,.non=>true | .non,.int _=>true | .int _,.non=>true | .non,.bl _=>true | .bl _,.non=>true | .non,.str _=>true | .str _,.non=>true
 | .int _,.int _=>true | .bl _,.bl _=>true | .str _,.str _=>true | .byt _,.byt _=>true
 | .int _,.str _=>true | .str _,.int _=>true | .bl _,.str _=>true | .str _,.bl _=>true
 | _,_=>false
def rEq:R2:=fun x y H Q=>qnf x y=true/\Q (.bl (decide (x=y))) H
def rNe:R2:=fun x y H Q=>qnf x y=true/\Q (.bl (!decide (x=y))) H
theorem qfh {i j:Int}:decide (V.int i=V.int j)=(i==j):=by
 rw [Bool.eq_iff_iff]
 simp
theorem qin {i j:Bool}:decide (V.bl i=V.bl j)=(i==j):=by
 rw [Bool.eq_iff_iff]
 simp
theorem qfi {i j:Str}:decide (V.str i=V.str j)=(i==j):=by
 rw [Bool.eq_iff_iff]
 simp
theorem qfj {i j:Array UInt8}:decide (V.byt i=V.byt j)=(i.toList==j.toList):=by
 rw [Bool.eq_iff_iff]
 cases i
 cases j
 simp
section
variable {X:Cx} {a b c:Expr} {ta tb tc:TE} {pos:Pos}
theorem zd {pins:List (Addr×Obj)} {Z:St} {H:Hp} {s:Shared} {Q:VK} {k k':Bool} (I:Inv X pins Z H s) (q:Q (.bl k) H) (e:k=k'):EP X pins Z Q (.bool k') s:=by
 subst e
 exact ⟨.bl k,H,I,rfl,q⟩
theorem qng:OpR X (compareOp .Eq) rEq:=by
 intro pins s Z H x y v u Q I rx ry h
 obtain ⟨hs,q⟩:=h
 cases x with
 | non =>
  cases rx
  cases y with
  | non=>cases ry;exact PySem.EqNone.eq_none_none (zd I q (by simp))
  | bl j=>cases ry;exact PySem.EqNone.eq_none_bool (zd I q (by simp))
  | int j=>obtain ⟨t',rfl⟩:=ry;exact PySem.EqNone.eq_none_int (zd I q (by simp))
  | str j=>obtain ⟨t',rfl⟩:=ry;exact PySem.EqNone.eq_none_str (zd I q (by simp))
  | _=>exact absurd (show false=true from hs) Bool.false_ne_true
 | bl i =>
  cases rx
  cases y with
  | non=>cases ry;exact PySem.EqNone.eq_bool_none (zd I q (by simp))
  | bl j=>cases ry;exact eq_bool (zd I q qin)
  | str j=>obtain ⟨t',rfl⟩:=ry;exact PySem.EqMixed.eq_bool_str (zd I q (by simp))
  | _=>exact absurd (show false=true from hs) Bool.false_ne_true
 | int i =>
  obtain ⟨t,rfl⟩:=rx
  cases y with
  | non=>cases ry;exact PySem.EqNone.eq_int_none (zd I q (by simp))
  | int j=>obtain ⟨t',rfl⟩:=ry;exact eq_int (zd I q qfh)
  | str j=>obtain ⟨t',rfl⟩:=ry;exact PySem.EqMixed.eq_int_str (zd I q (by simp))
  | _=>exact absurd (show false=true from hs) Bool.false_ne_true
 | str i =>
  obtain ⟨t,rfl⟩:=rx
  cases y with
  | non=>cases ry;exact PySem.EqNone.eq_str_none (zd I q (by simp))
  | bl j=>cases ry;exact PySem.EqMixed.eq_str_bool (zd I q (by simp))
  | int j=>obtain ⟨t',rfl⟩:=ry;exact PySem.EqMixed.eq_str_int (zd I q (by simp))
  | str j=>obtain ⟨t',rfl⟩:=ry;exact eq_str (zd I q qfi)
  | _=>exact absurd (show false=true from hs) Bool.false_ne_true
 | byt i =>
  obtain ⟨t,rfl⟩:=rx
  cases y with
  | byt j=>obtain ⟨t',rfl⟩:=ry;exact PySem.W.eq_bytes (zd I q qfj)
  | _=>exact absurd (show false=true from hs) Bool.false_ne_true
 | _=>cases y<;>exact absurd (show false=true from hs) Bool.false_ne_true
theorem qlk:OpR X (compareOp .NotEq) rNe:=by
 intro pins s Z H x y v u Q I rx ry h
 obtain ⟨hs,q⟩:=h
 cases x with
 | non =>
  cases rx
  cases y with
  | non=>cases ry;exact PySem.EqNone.ne_none_none (zd I q (by simp))
  | bl j=>cases ry;exact PySem.EqNone.ne_none_bool (zd I q (by simp))
  | int j=>obtain ⟨t',rfl⟩:=ry;exact PySem.EqNone.ne_none_int (zd I q (by simp))
  | str j=>obtain ⟨t',rfl⟩:=ry;exact PySem.EqNone.ne_none_str (zd I q (by simp))
  | _=>exact absurd (show false=true from hs) Bool.false_ne_true
 | bl i =>
  cases rx
  cases y with
  | non=>cases ry;exact PySem.EqNone.ne_bool_none (zd I q (by simp))
  | bl j=>cases ry;exact ne_bool (zd I q (congrArg not qin))
  | str j=>obtain ⟨t',rfl⟩:=ry;exact PySem.EqMixed.ne_bool_str (zd I q (by simp))
  | _=>exact absurd (show false=true from hs) Bool.false_ne_true
 | int i =>
  obtain ⟨t,rfl⟩:=rx
  cases y with
  | non=>cases ry;exact PySem.EqNone.ne_int_none (zd I q (by simp))
  | int j=>obtain ⟨t',rfl⟩:=ry;exact ne_int (zd I q (congrArg not qfh))
  | str j=>obtain ⟨t',rfl⟩:=ry;exact PySem.EqMixed.ne_int_str (zd I q (by simp))
  | _=>exact absurd (show false=true from hs) Bool.false_ne_true
 | str i =>
  obtain ⟨t,rfl⟩:=rx
  cases y with
  | non=>cases ry;exact PySem.EqNone.ne_str_none (zd I q (by simp))
  | bl j=>cases ry;exact PySem.EqMixed.ne_str_bool (zd I q (by simp))
  | int j=>obtain ⟨t',rfl⟩:=ry;exact PySem.EqMixed.ne_str_int (zd I q (by simp))
  | str j=>obtain ⟨t',rfl⟩:=ry;exact ne_str (zd I q (congrArg not qfi))
  | _=>exact absurd (show false=true from hs) Bool.false_ne_true
 | byt i =>
  obtain ⟨t,rfl⟩:=rx
  cases y with
  | byt j=>obtain ⟨t',rfl⟩:=ry;exact PySem.W.ne_bytes (zd I q (congrArg not qfj))
  | _=>exact absurd (show false=true from hs) Bool.false_ne_true
 | _=>cases y<;>exact absurd (show false=true from hs) Bool.false_ne_true
theorem qnh:OpR X (compareOp .Lt) (rI0 fun i j => .bl (decide (i<j))):=qmQ fun _ _ _ _ _ _ _ q=>lt_int q
theorem qg5:OpR X (compareOp .LtE) (rI0 fun i j => .bl (decide (i<=j))):=qmQ fun _ _ _ _ _ _ _ q=>le_int q
theorem qll:OpR X (compareOp .Gt) (rI0 fun i j => .bl (decide (j<i))):=qmQ fun _ _ _ _ _ _ _ q=>gt_int q
theorem qni:OpR X (compareOp .GtE) (rI0 fun i j => .bl (decide (j<=i))):=qmQ fun _ _ _ _ _ _ _ q=>ge_int q
theorem qlm:OpR X (compareOp .Is) (fun x y H Q=>y = .non/\Q (.bl (decide (x = .non))) H):=by
 intro pins s Z H x y v u Q I rx ry h
 obtain ⟨rfl,q⟩:=h
 cases ry
 refine is_none_gen (zd I q ?_)
 cases x<;>first
  | (cases rx;rfl)
  | (obtain ⟨t,rfl⟩:=rx;rfl)
theorem qjq:OpR X (compareOp .IsNot) (fun x y H Q=>y = .non/\Q (.bl (!decide (x = .non))) H):=by
 intro pins s Z H x y v u Q I rx ry h
 obtain ⟨rfl,q⟩:=h
 cases ry
 refine isnot_none_gen (zd I q ?_)
 cases x<;>first
  | (cases rx;rfl)
  | (obtain ⟨t,rfl⟩:=rx;rfl)
theorem OpR.or {f:Value->Value->Sem Value} {r r':R2} (h:OpR X f r) (h':OpR X f r'):OpR X f (fun x y H Q=>r x y H Q\/r' x y H Q):=by
 intro pins s Z H x y v u Q I rx ry q
 rcases q with q | q
 ·exact h pins s Z H x y v u Q I rx ry q
 ·exact h' pins s Z H x y v u Q I rx ry q
theorem zy (b:Expr) {op:CmpOp} (h:op ≠ .In:=by decide) (h2:op ≠ .NotIn:=by decide):behindInMarks op b=false:=by
 have e1:(op==CmpOp.In)=false:=by cases op<;>first | rfl | exact absurd rfl h
 have e2:(op==CmpOp.NotIn)=false:=by cases op<;>first | rfl | exact absurd rfl h2
 cases b<;>simp [behindInMarks,e1,e2]
theorem qjr {op:CmpOp} {r:R2} (ho:OpR X (compareOp op) r) (ha:PE X a ta) (hb:PE X b tb) (hm:behindInMarks op b=false):PE X (.Compare a [op] [b] pos) (tOp r ta tb):=by
 intro pins s Z H Q I h
 exact wpAny_Compare1 (qnc ha hb I h fun v u s2 x y H2 I2 rx ry q=>ho pins s2 Z H2 x y v u Q I2 rx ry q) hm
def qnj (t:TE):TT:=fun Z H Q=>t Z H fun x H'=>∃ k,x = .bl k/\Q k H'
theorem qfk {op:CmpOp} {r:R2} (ho:OpR X (compareOp op) r) (ha:PE X a ta) (hb:PE X b tb) (hm:behindInMarks op b=false):PT X (.Compare a [op] [b] pos) (qnj (tOp r ta tb)):=by
 intro pins s Z H Q I h
 refine wpAny_isTrue_Compare1 (thn (ha pins s Z H _ I h) fun v s1 ⟨x,H1,I1,r1,q1⟩=>thn (hb pins s1 Z H1 _ I1 q1) fun u s2 ⟨y,H2,I2,r2,q2⟩ =>
  thn (ho pins s2 Z H2 x y v u _ I2 r1 r2 q2) fun c s3 ⟨z,H3,I3,r3,k,e,q3⟩ => ?_) hm
 subst e
 cases r3
 exact wpAny_truthy_bool ⟨H3,I3,q3⟩
theorem qcd:(sizeLine:Nat)<2 ^ 63:=by rw [sizeLine_eq];decide
theorem qew:OpR X (binaryOp .Add) (fun x y H Q=>∃ i j,x = .str i/\y = .str j/\i.length+j.length<=sizeLine/\Q (.str (i++j)) H):=by
 intro pins s Z H x y v u Q I rx ry h
 obtain ⟨i,j,rfl,rfl,hz,q⟩:=h
 obtain ⟨t,rfl⟩:=rx
 obtain ⟨t',rfl⟩:=ry
 exact add_str (fun t' tk=>⟨.str (i++j),H,I.tok _,⟨_,rfl⟩,q⟩) hz
theorem qg6 {x:V} {us:List Value} (r:qW [x] us):∃ u,us=[u]/\ji x u:=by
 cases r with
 | cons r1 r2=>cases r2;exact ⟨_,rfl,r1⟩
theorem qjs {x y:V} {us:List Value} (r:qW [x,y] us):∃ u w',us=[u,w']/\ji x u/\ji y w':=by
 cases r with
 | cons r1 r2 =>
  cases r2 with
  | cons r3 r4=>cases r4;exact ⟨_,_,rfl,r1,r3⟩
theorem qg7:yA X (.builtin "abs") (fun xs H Q=>∃ i,xs=[.int i]/\Q (.int (if i<0 then -i else i)) H):=by
 intro pins s Z H xs us Q I r h
 obtain ⟨i,rfl,q⟩:=h
 obtain ⟨u,rfl,t,rfl⟩:=qg6 r
 exact call_abs_int fun u tk=>⟨.int (if i<0 then -i else i),H,I.tok _,⟨_,rfl⟩,q⟩
theorem qce (hc:X.calm=true):yA X (.builtin "max") (fun xs H Q=>∃ i j,xs=[.int i,.int j]/\Q (.int (if j>i then j else i)) H):=by
 intro pins s Z H xs us Q I r h
 obtain ⟨i,j,rfl,q⟩:=h
 obtain ⟨u,w',rfl,⟨t,rfl⟩,⟨t',rfl⟩⟩:=qjs r
 refine max_two_ints (I.ok.hd hc) fun h' tk k=>⟨_,H,I.kept k,?_,q⟩
 by_cases hj:j>i
 ·rw [if_pos hj,if_pos hj];exact ⟨_,rfl⟩
 ·rw [if_neg hj,if_neg hj];exact ⟨_,rfl⟩
theorem wV (hc:X.calm=true):yA X (.builtin "min") (fun xs H Q=>∃ i j,xs=[.int i,.int j]/\Q (.int (if j<i then j else i)) H):=by
 intro pins s Z H xs us Q I r h
 obtain ⟨i,j,rfl,q⟩:=h
 obtain ⟨u,w',rfl,⟨t,rfl⟩,⟨t',rfl⟩⟩:=qjs r
 refine min_two_ints (I.ok.hd hc) fun h' tk k=>⟨_,H,I.kept k,?_,q⟩
 by_cases hj:j<i
 ·rw [if_pos hj,if_pos hj];exact ⟨_,rfl⟩
 ·rw [if_neg hj,if_neg hj];exact ⟨_,rfl⟩
theorem qc1:yA X (.builtin "divmod") (fun xs H Q=>∃ i j,xs=[.int i,.int j]/\qlf i j/\∀ p,H p=none->Q (.ref p) (upd H p (.tup [.int (i/j),.int (i%j)]))):=by
 intro pins s Z H xs us Q I r h
 obtain ⟨i,j,rfl,⟨h1,h2⟩,q⟩:=h
 obtain ⟨u,w',rfl,⟨t,rfl⟩,⟨t',rfl⟩⟩:=qjs r
 refine divmod_int (by omega) ?_ (.inl (qn2 h1 h2))
 rw [Int.fdiv_eq_ediv_of_nonneg i (by omega),Int.fmod_eq_emod_of_nonneg i (by omega)]
 have hn:H s.heap.objs.size=none:=I.hok.fresh (Nat.le_refl _)
 refine ⟨.ref s.heap.objs.size,_,?_,rfl,q _ hn⟩
 refine I.laid (fun b o e=>Heap.get?_push_of_some _ e) (Nat.le_refl _) ⟨by simp only [lC_,lN_];rw [sizeLine_eq];decide,[.int (i/j) s.toks,.int (i%j) (s.toks+1)],.cons ⟨_,rfl⟩ (.cons ⟨_,rfl⟩ .nil),?_⟩
 exact ⟨_,Heap.get?_push_size s.heap rfl,rfl,0,rfl⟩
end
end L2
namespace L2
open PySem PySem.Spec PyProof.Rows
structure qnk (h:Heap) (x dx C:Addr) (mA:Str->Option Value):Prop where
 obj:h.get? x=some (PySem.W.instObj C dx)
 ns:h.Ns1 dx mA
 ne:dx≠x
theorem qfl {h:Heap} {dx:Addr} {mA:Str->Option Value} (n:h.Ns1 dx mA):∃ od,h.get? dx=some od/\∀ name,PySem.W.lookIn name od=some (mA name):=by
 obtain ⟨o,es,ep,ho,hd,hk,_,hm⟩:=n
 refine ⟨o,ho,fun name => ?_⟩
 have e:=hm name
 unfold nsFind findBy at e
 rw [<- Array.find?_toList] at e
 unfold PySem.W.lookIn
 rw [hd]
 dsimp only
 split
 ·rename_i y q
  rw [q] at e
  exact congrArg some e
 ·rename_i q
  rw [q] at e
  have a:es.toList.any (·.refKey)=false:=by
   rw [List.any_eq_false]
   intro y hy
   obtain ⟨z,t,hkey⟩:=hk y (Array.mem_toList_iff.mp hy)
   simp [DictEntry.refKey,hkey]
  have a':¬ es.toList.any (·.refKey)=true:=by rw [a];exact Bool.false_ne_true
  rw [if_neg a']
  exact congrArg some e
theorem qnk.look {h:Heap} {x dx C:Addr} {mA:Str->Option Value} (I:qnk h x dx C mA):∃ od,PySem.W.InstAt h x (PySem.W.instObj C dx) C (some od)/\∀ name,PySem.W.lookIn name od=some (mA name) :=
 let ⟨od,ho,hl⟩:=qfl I.ns
 ⟨od,⟨I.obj,rfl,rfl,ho⟩,hl⟩
section
variable {prog:Program} {w:World} {A:Around} {E:Value->Shared->Prop} {s:Shared} {K:PySem.W.Frag} {x dx C f:Addr} {mA:Str->Option Value} {name:Str} {v:Value}
end
def qoE (f:Str) (v:V):List (Str×V)->List (Str×V)
 | []=>[(f,v)]
 | (g,x)::r=>if g=f then (g,v)::r else (g,x)::qoE f v r
section
variable {P:Program} {w:World} {H H':Hp} {h h':Heap} {a C dx:Addr} {fs fs':List (Str×V)}
theorem qjt (hok:HOk P w H h) (e:H a=some (.ins C dx fs)):∃ mA,qnk h a dx C mA/\(∀ f,qm0 (fs.lookup f) (mA f))/\PySem.Within mA (fs.map (·.1))/\fs.length<=1000/\H dx=some (.own a):=by
 obtain ⟨d,z,ne,ob,mA,n,r,q⟩:=(show yz P w H h a (.ins C dx fs) from hok a _ e)
 exact ⟨mA,⟨ob,n,ne⟩,r,q,z,d⟩
end
structure Cls (K:PySem.W.Frag) (C:Addr):Prop where
 pg:PySem.W.plainGet K C Str.empty=true
 hd:PySem.W.hasDictIn K C=true
 po:PySem.W.plainOver K C=true
 sa:PySem.W.findIn K (.ref C) "__setattr__"=some (some (.builtin "object.__setattr__"))
theorem Cls.get {K:PySem.W.Frag} {C:Addr} (c:Cls K C) (f:Str):PySem.W.plainGet K C f=true:=c.pg
structure Con (K:PySem.W.Frag) (C:Addr) (f:Str) (v:V) (u:Value):Prop where
 at_:PySem.W.findIn K (.ref C) f=some (some u)
 rel:ji v u
 get:PySem.W.specialIn K u "__get__"=some none
 cp:PySem.W.copiedNames.contains f=false
structure qoX (K:PySem.W.Frag) (C:Addr) (m:Str) (f:Addr):Prop where
 at_:PySem.W.findIn K (.ref C) m=some (some (.ref f))
 fn:PySem.W.isFn K (.ref f)=true
 kp:PySem.W.keepIn K (.ref f)=true
section
variable {X:Cx} {pins:List (Addr×Obj)} {Z:St} {H:Hp} {s:Shared} {a C dx:Addr} {fs:List (Str×V)} {f:Str} {v:V} {A:Around} {E:Value->Shared->Prop}
end
section
variable {X:Cx} {o e value:Expr} {f:Str} {pos pos' tpos:Pos} {ta tv:TE}
end
section
variable {X:Cx} {pins:List (Addr×Obj)} {Z:St} {H:Hp} {s:Shared} {A:Around} {E:Value->Shared->Prop} {Q:Value->Shared->Prop} {c:Value} {b:Bool}
inductive qe4 (K:PySem.W.Frag) (H:Hp):V->Value->Prop where
 | non:qe4 K H .non (.type "NoneType")
 | bl (x:Bool):qe4 K H (.bl x) (.type "bool")
 | int (i:Int):qe4 K H (.int i) (.type "int")
 | str (x:Str):qe4 K H (.str x) (.type "str")
 | flt (x:UInt64):qe4 K H (.flt x) (.type "float")
 | lst {a:Addr} {xs:List V} (e:H a=some (.lst xs)):qe4 K H (.ref a) (.type "list")
 | frz {a:Addr} {o:Obj} {xs:List V} (e:H a=some (.frz o (.lst xs))):qe4 K H (.ref a) (.type "list")
 | tup {a:Addr} {xs:List V} (e:H a=some (.tup xs)):qe4 K H (.ref a) (.type "tuple")
 | dK {a:Addr} {kvs:List (Key×V)} (e:H a=some (.dK kvs)):qe4 K H (.ref a) (.type "dict")
 | dT {a:Addr} {kvs:List (List Key×V)} (e:H a=some (.dT kvs)):qe4 K H (.ref a) (.type "dict")
 | ins {a C dx:Addr} {fs:List (Str×V)} (e:H a=some (.ins C dx fs)) (cl:Cls K C) (ha:PySem.W.findIn K (.ref C) "__class__"=some (some (.builtin "object.__class__")))
   (hn:PySem.W.specialIn K (.builtin "object.__class__") "__get__"=some (some (.builtin "getset_descriptor.__get__"))) (htk:PySem.W.takesIn K (.builtin "object.__class__")=some true)
   (hm:PySem.W.mroIn K C (.type "object")=some true):qe4 K H (.ref a) (.ref C)
theorem yZ {x:V} {u t:Value} (I:Inv X pins Z H s) (rx:ji x u) (ty:qe4 X.K H x t) (e:PySem.W.kitOne X.K t c=some b) (h:∀ tk,Q (.bool b) { s with toks:=tk }) :
  wpAny (model X.prog X.w) A (call (.builtin "isinstance") [u,c]) Q E s:=by
 cases ty with
 | non=>cases (show u=Value.none from rx);exact PySem.W.kia_one PySem.W.kitx_none I.kIn True.intro e (fun z=>nomatch z) h
 | bl y=>cases (show u=Value.bool y from rx);exact PySem.W.kia_one PySem.W.kitx_bool I.kIn True.intro e (fun z=>nomatch z) h
 | int i=>obtain ⟨t,q⟩:=(show ∃ t,u=Value.int i t from rx);cases q;exact PySem.W.kia_one PySem.W.kitx_int I.kIn True.intro e (fun z=>nomatch z) h
 | str y=>obtain ⟨t,q⟩:=(show ∃ t,u=Value.str y t from rx);cases q;exact PySem.W.kia_one PySem.W.kitx_str I.kIn True.intro e (fun z=>nomatch z) h
 | flt y=>obtain ⟨t,q⟩:=(show ∃ t,u=Value.float y t from rx);cases q;exact PySem.W.kia_one PySem.W.kitx_float I.kIn True.intro e (fun z=>nomatch z) h
 | @lst a xs ea =>
  cases (show u=Value.ref a from rx)
  obtain ⟨_,_,n,_,h1⟩:=(show yz X.prog X.w H s.heap a (.lst xs) from I.hok a _ ea)
  exact PySem.W.kia_one PySem.W.kitx_list I.kIn ⟨_,h1,rfl⟩ e (fun z=>nomatch z) h
 | @frz a ob xs ea =>
  cases (show u=Value.ref a from rx)
  obtain ⟨_,_,_,n,_,h1⟩:=(show yz X.prog X.w H s.heap a (.frz ob (.lst xs)) from I.hok a _ ea)
  exact PySem.W.kia_one PySem.W.kitx_list I.kIn ⟨_,h1,rfl⟩ e (fun z=>nomatch z) h
 | @tup a xs ea =>
  cases (show u=Value.ref a from rx)
  obtain ⟨_,_,_,p⟩:=(show yz X.prog X.w H s.heap a (.tup xs) from I.hok a _ ea)
  obtain ⟨o,h1,h2,_⟩:=p
  exact PySem.W.kia_one PySem.W.kitx_tuple I.kIn ⟨o,h1,h2⟩ e (fun z=>nomatch z) h
 | @dK a kvs ea =>
  cases (show u=Value.ref a from rx)
  obtain ⟨_,_,vs,_,p⟩:=(show yz X.prog X.w H s.heap a (.dK kvs) from I.hok a _ ea)
  obtain ⟨o,es,ep,h1,h2,_⟩:=p
  exact PySem.W.kia_one PySem.W.kitx_dict I.kIn ⟨o,h1,h2.1⟩ e (fun z=>nomatch z) h
 | @dT a kvs ea =>
  cases (show u=Value.ref a from rx)
  obtain ⟨_,_,xs,_,o,es,ep,h1,h2,_⟩:=(show yz X.prog X.w H s.heap a (.dT kvs) from I.hok a _ ea)
  exact PySem.W.kia_one PySem.W.kitx_dict I.kIn ⟨o,h1,h2.1⟩ e (fun z=>nomatch z) h
 | @ins a C dx fs ea cl ha hn htk hm =>
  cases (show u=Value.ref a from rx)
  obtain ⟨mA,O,_⟩:=qjt I.hok ea
  obtain ⟨od,J,_⟩:=O.look
  exact PySem.W.kia_one (PySem.W.kitx_own (cl.get _) cl.hd ha hn htk hm) I.kIn J e (fun z=>nomatch z) h
end
end L2
namespace L2
open PySem PySem.Spec PyProof.Rows
structure yo (k:Nat) (A:Around):Prop where
 hd:A.handled=none
 dp:A.depth+3*k+5<recursionLimit
 un:A.units+16*k+200<cLine
 gd:A.guards=some []
theorem yo.mono {j k:Nat} {A:Around} (r:yo k A) (h:j<=k):yo j A:=⟨r.hd,by have:=r.dp;omega,by have:=r.un;omega,r.gd⟩
theorem yo.deeper {k:Nat} {A:Around} (r:yo (k+1) A) (env:Env):yo k (A.deeper env) :=
 ⟨r.hd,by have:=r.dp;show A.depth+1+3*k+5<_;omega,by have:=r.un;show A.units+3+16*k+200<_;omega,r.gd⟩
theorem yo.in1 {k:Nat} {A:Around} (r:yo (k+1) A):yo k A.in1 :=
 ⟨r.hd,by have:=r.dp;show A.depth+3*k+5<_;omega,by have:=r.un;show A.units+1+16*k+200<_;omega,r.gd⟩
theorem yo.depth {k:Nat} {A:Around} (r:yo k A):A.depth<recursionLimit:=by have:=r.dp;omega
theorem yo.units {k:Nat} {A:Around} (r:yo k A):A.units+64<cLine:=by have:=r.un;omega
theorem yo.units0 {k:Nat} {A:Around} (r:yo k A):A.units<cLine:=by have:=r.un;omega
def qnl:TA:=fun _ H Q=>Q [] H
def qg8 (ta:TE) (tr:TA):TA:=fun Z H Q=>ta Z H fun x H1=>tr Z H1 fun xs H2=>Q (x::xs) H2
section
variable {X:Cx} {e:Expr} {es:List Expr} {te:TE} {t:TA} {pos:Pos}
theorem vb:PA X [] qnl:=fun _ _ _ _ H Q I h=>Calls.spliced_nil ⟨[],H,I,.nil,h⟩
theorem jz (ha:PE X e te) (hr:PA X es t) (hs:starEach (e::es) X.env=(false,eval e X.env)::starEach es X.env:=by rfl):PA X (e::es) (qg8 te t):=by
 intro pos pins s Z H Q I h
 rw [hs]
 show wpAny _ _ (spliced ((false,eval e X.env)::backTo pos (starEach es X.env))) _ _ s
 refine Calls.spliced_cons (thn (ha pins s Z H _ I h) fun u s1 ⟨x,H1,I1,r1,q1⟩ => ?_)
 exact thn (hr pos pins s1 Z H1 _ I1 q1) fun us s2 ⟨xs,H2,I2,r2,q2⟩=>⟨x::xs,H2,I2,.cons r1 r2,q2⟩
def qoF (t:TA):TE:=fun Z H Q=>t Z H fun xs H1=>xs.length<=sizeLine/\∀ p,H1 p=none->Q (.ref p) (upd H1 p (.tup xs))
def qoG (t:TA):TE:=fun Z H Q=>t Z H fun xs H1=>xs.length<=sizeLine/\∀ p,H1 p=none->Q (.ref p) (upd H1 p (.lst xs))
theorem qln {x1} (h:PA X es t):PE X (.Tuple es x1 pos) (qoF t):=by
 intro pins s Z H Q I hq
 refine wpAny_Tuple_spliced (thn (h pos pins s Z H _ I hq) fun us s1 ⟨xs,H1,I1,r,z,q⟩=>⟨by rw [<- r.length];exact z,?_⟩)
 have hf:H1 s1.heap.objs.size=none:=I1.hok.fresh (Nat.le_refl _)
 refine ⟨.ref s1.heap.objs.size,upd H1 s1.heap.objs.size (.tup xs),I1.laid (t':=s1.toks) (fun b u e=>Heap.get?_push_of_some _ e) (Nat.le_refl _) ?_,rfl,q _ hf⟩
 exact ⟨z,us,r,⟨_,Heap.get?_push_size _ rfl,rfl,_,rfl⟩⟩
theorem qio (h:PA X es t):PE X (.List es pos) (qoG t):=by
 intro pins s Z H Q I hq
 refine wpAny_List_spliced (thn (h pos pins s Z H _ I hq) fun us s1 ⟨xs,H1,I1,r,z,q⟩=>⟨by rw [<- r.length];exact z,?_⟩)
 have hf:H1 s1.heap.objs.size=none:=I1.hok.fresh (Nat.le_refl _)
 refine ⟨.ref s1.heap.objs.size,upd H1 s1.heap.objs.size (.lst xs),I1.laid (t':=s1.toks) (fun b u e=>Heap.get?_push_of_some _ e) (Nat.le_refl _) ?_,rfl,q _ hf⟩
 exact ⟨z,us,0,r,Heap.get?_push_size _ rfl⟩
end
abbrev Sp:=List V->Hp->VK->XK->Prop
abbrev CXT:=List Env->Hp->Shared->XK->Value->Shared->Prop
structure qgV (P:Program) (w:World) (K:PySem.W.Frag) (mg:Str->Option Value) (base:Heap) (A:Around) (outer:List Env) (s:Shared) (H:Hp):Prop where
 frames:A.frames=some outer
 mod:Mod K mg base
 bs:∀ b o,base.get? b=some o->s.heap.get? b=some o/\H b=none
 bsz:base.objs.size<=s.heap.objs.size
 funs:s.heap.FunFrames base outer
 frf:∀ b∈frs outer,H b=none
 hok:HOk P w H s.heap
 bare:AllBare s.gens
def CE (outer:List Env) (P:Program) (w:World) (H:Hp) (s:Shared) (Q:VK) (u:Value) (s':Shared):Prop :=
 ∃ v H',s'.os=s.os/\AllBare s'.gens/\Un (frs outer) [] H H' s.heap s'.heap/\HOk P w H' s'.heap/\ji v u/\Q v H'
def CR (CX:CXT) (outer:List Env) (P:Program) (w:World) (H:Hp) (s:Shared) (Q:VK) (E:XK) (r:Result) (s':Shared):Prop :=
 match r with
 | .ok (.ret u)=>CE outer P w H s Q u s'
 | .ok _=>False
 | .error e=>CX outer H s E e s'
structure u7 (P:Program) (w:World) (K:PySem.W.Frag) (mg:Str->Option Value) (base:Heap) (CX:CXT) (k:Nat) (f:Addr) (fd:FuncData) (ps:List Str) (sp:Sp):Prop where
 len:∀ vs H Q E,sp vs H Q E->vs.length=ps.length
 run:∀ (A:Around) (outer:List Env) (s:Shared) (H:Hp) (args:Args) (us:List Value) (vs:List V) (Q:VK) (E:XK),yo k A->qgV P w K mg base A outer s H->BindsTo s fd args (ps.zip us)->qW vs us->sp vs H Q E ->
  codeAny (model P w) A (.call (.ref f) args) (CR CX outer P w H s Q E) s
theorem u7.mono {P:Program} {w:World} {K:PySem.W.Frag} {mg:Str->Option Value} {base:Heap} {CX:CXT} {j k:Nat} {f:Addr} {fd:FuncData} {ps:List Str} {sp:Sp} (F:u7 P w K mg base CX j f fd ps sp) (h:j<=k) :
  u7 P w K mg base CX k f fd ps sp:=⟨F.len,fun A outer s H args us vs Q E hr=>F.run A outer s H args us vs Q E (hr.mono h)⟩
theorem qgV.in1 {P:Program} {w:World} {K:PySem.W.Frag} {mg:Str->Option Value} {base:Heap} {A:Around} {outer:List Env} {s:Shared} {H:Hp} (e:qgV P w K mg base A outer s H) :
  qgV P w K mg base A.in1 outer s H:=⟨e.frames,e.mod,e.bs,e.bsz,e.funs,e.frf,e.hok,e.bare⟩
section
variable {X:Cx} {pins:List (Addr×Obj)} {Z:St} {H:Hp} {s s':Shared}
theorem Inv.env0 (I:Inv X pins Z H s):qgV X.prog X.w X.K X.mg X.base X.A X.stack s H :=
 ⟨I.ok.frames,I.ok.mod,I.bs,Nat.le_trans I.ok.bsz I.sz,I.stack,I.stkFree,I.hok,I.bare⟩
theorem Inv.after {Q:VK} {u:Value} (I:Inv X pins Z H s) (h:CE X.stack X.prog X.w H s Q u s'):EP X pins Z Q u s':=by
 obtain ⟨v,H',os,bare,un,hok,r,q⟩:=h
 obtain ⟨hh,g,d,t,os'⟩:=s'
 obtain rfl:os'=s.os:=os
 exact ⟨v,H',I.call (h':=hh) (g':=g) (d':=d) (t':=t) (ch:=[]) un hok bare (fun b z=>absurd z (by simp)),r,q⟩
end
def qnm (sp:Sp) (dvs:List V) (E:XK) (t:TA):TE:=fun Z H Q=>t Z H fun vs H1=>sp (vs++dvs) H1 Q E
def uK (K:PySem.W.Frag) (fd:FuncData) (ps:List Str) (ds:List Value):Prop :=
 ∀ (s:Shared) (us:List Value),K.In s.heap->(us++ds).length=ps.length->BindsTo s fd ⟨us,[]⟩ (ps.zip (us++ds))
theorem uK.all {K:PySem.W.Frag} {fd:FuncData} {ps:List Str} (h:∀ us:List Value,us.length=ps.length->bindArgs fd ⟨us,[]⟩=pure (ps.zip us)):uK K fd ps []:=fun s us _ hl=>by
 rw [List.append_nil] at hl |-
 exact .of_eq (h us hl)
def wW (CX:CXT) (X:Cx) (E:XK):Prop:=∀ (pins:List (Addr×Obj)) (Z:St) (H:Hp) (s:Shared) (e:Value) (s':Shared),Inv X pins Z H s->CX X.stack H s E e s'->X.xe e s'
section
variable {X:Cx} {CX:CXT} {k:Nat} {f C:Addr} {fd:FuncData} {ps:List Str} {sp:Sp} {dvs:List V} {ds:List Value} {E:XK} {x m:Str} {p pos apos:Pos} {e o:Expr} {es:List Expr} {ta:TE} {t:TA}
theorem qlo {pins:List (Addr×Obj)} {Z:St} {H:Hp} {s:Shared} {Q:VK} {us:List Value} {vs:List V} (F:u7 X.prog X.w X.K X.mg X.base CX k f fd ps sp) (hr:yo k X.A) (hb:uK X.K fd ps ds) (hd:qW dvs ds) (hx:wW CX X E)
  (I:Inv X pins Z H s) (r:qW vs us) (h:sp (vs++dvs) H Q E):wpAny (model X.prog X.w) X.A (call (.ref f) us) (EP X pins Z Q) X.xe s:=by
 have r2:qW (vs++dvs) (us++ds):=r.append hd
 have hl:(us++ds).length=ps.length:=by rw [<- r2.length];exact F.len _ _ _ _ h
 refine wpAny_call (codeAny_mono (F.run X.A X.stack s H ⟨us,[]⟩ (us++ds) (vs++dvs) Q E hr I.env0 (hb s us I.kIn hl) r2 h) fun r s' hq => ?_)
 cases r with
 | error e=>exact hx pins Z H s e s' I hq
 | ok fl =>
  cases fl with
  | ret u=>exact I.after hq
  | next=>exact False.elim hq
  | brk=>exact False.elim hq
  | cont=>exact False.elim hq
theorem wX (F:u7 X.prog X.w X.K X.mg X.base CX k f fd ps sp) (hr:yo k X.A) (hg:Gl X x) (hm:X.mg x=some (.ref f)) (hk:PySem.W.keepIn X.K (.ref f)=true) (hb:uK X.K fd ps ds) (hd:qW dvs ds) (hx:wW CX X E)
  (ha:PA X (e::es) t) (hdb:(x==("__debug__":Str))=false:=by decide) (he:starEach (e::es) X.env=(false,eval e X.env)::starEach es X.env:=by rfl) (hpl:(backTo pos (starEach es X.env)).any (·.1)=false:=by rfl) :
  PE X (.Call (.Name x p) (e::es) [] pos) (qnm sp dvs E t):=by
 intro pins s Z H Q I h
 refine wpAny_Call_Name_kw (qbp I hg hm ?_ hdb)
 refine PySem.W.callWith_K (h₀:=X.base) I.ok.mod.kin hk (thn (ha pos pins s Z H _ I h) fun us s1 ⟨vs,H1,I1,r,q⟩=>⟨I1.kIn,?_⟩) he hpl
 exact qlo F hr hb hd hx I1 r q
structure Mk (K:PySem.W.Frag) (C f:Addr):Prop where
 makes:PySem.W.makesIn K C=true
 init:PySem.W.findIn K (.ref C) "__init__"=some (some (.ref f))
 fn:PySem.W.isFn K (.ref f)=true
 kp:PySem.W.keepIn K (.ref C)=true
end
def PK (X:Cx) (kws:List Keyword) (t:TA):Prop :=
 ∀ (pos:Pos) (pins:List (Addr×Obj)) (s:Shared) (Z:St) (H:Hp) (Q:List V->Hp->Prop),Inv X pins Z H s->t Z H Q->wpAny (model X.prog X.w) X.A (evalAll ((backToKw pos (keywordEach kws X.env)).map (·.2))) (AP X pins Z Q) X.xe s
section
variable {X:Cx} {CX:CXT} {k:Nat} {f C:Addr} {fd:FuncData} {ps ks:List Str} {sp:Sp} {E:XK} {x m:Str} {p pos apos kpos:Pos} {e o:Expr} {es:List Expr} {kws:List Keyword} {te ta:TE} {t tk:TA} {nm:Option Str}
theorem qlp:PK X [] qnl:=fun _ _ _ _ H Q I h=>wpAny_evalAll_nil ⟨[],H,I,.nil,h⟩
theorem qju (ha:PE X e te) (hr:PK X kws t):PK X (⟨nm,e,kpos⟩::kws) (qg8 te t):=by
 intro pos pins s Z H Q I h
 show wpAny _ _ (evalAll ((do let v <- eval e X.env;standAt pos;pure v)::(backToKw pos (keywordEach kws X.env)).map (·.2))) _ _ s
 refine wpAny_evalAll_cons (wpAny_bind (thn (ha pins s Z H _ I h) fun u s1 ⟨x,H1,I1,r1,q1⟩=>wpAny_bind (wpAny_standAt (wpAny_pure ?_))))
 exact thn (hr pos pins s1 Z H1 _ I1 q1) fun us s2 ⟨xs,H2,I2,r2,q2⟩=>⟨x::xs,H2,I2,.cons r1 r2,q2⟩
variable {g:List Value->List Value->List Value} {gV:List V->List V->List V}
end
structure qC (N P:List Str) (sc:Scope):Prop where
 kind:sc.kind = .function
 co:sc.isCoroutine=false
 gen:sc.isGenerator=false
 nd:N.Nodup
 pre:N.take P.length=P
 par:∀ x∈P,sc.names.lookup x=some .local\/sc.names.lookup x=some .cell
 nofree:∀ y∈sc.names,y.2 ≠ .free
theorem qcf {kindOf:Str->Option NameKind} {x:Str}:∀ {binds:List (Str×Value)} {m:Str->Option Value},(∀ v,(x,v) ∉ binds)->bindL kindOf binds m x=m x
 | [],_,_=>rfl
 | (n,v)::r,m,h=>by
  unfold bindL
  rw [qcf fun w hw=>h w (mM _ hw)]
  split
  ·have:x≠n:=by rintro rfl;exact h v mS_
   simp [this]
  ·rfl
theorem qcg {kindOf:Str->Option NameKind} {x:Str}:∀ {binds:List (Str×Value)} {m:Str->Option Value},(∀ v,(x,v) ∉ binds)->bindC kindOf binds m x=m x
 | [],_,_=>rfl
 | (n,v)::r,m,h=>by
  unfold bindC
  rw [qcg fun w hw=>h w (mM _ hw)]
  split
  ·rfl
  ·have:x≠n:=by rintro rfl;exact h v mS_
   simp [this]
theorem wY {kindOf:Str->Option NameKind} {x:Str} {v:Value}:∀ {P:List Str} {vs:List Value} {i:Nat} {m:Str->Option Value},P.Nodup->P[i]? = some x->vs[i]? = some v->kindOf x=some .local ->
  bindL kindOf (P.zip vs) m x=some v
 | [],_,_,_,_,h,_,_=>by simp at h
 | _::_,[],_,_,_,_,h,_=>by simp at h
 | p::P,w::vs,0,m,nd,h1,h2,hk=>by
  simp at h1 h2;subst h1;subst h2
  show bindL kindOf ((p,w)::P.zip vs) m p=_
  unfold bindL
  rw [qcf fun v hv=>(List.nodup_cons.mp nd).1 (List.of_mem_zip hv).1,if_pos hk]
  simp
 | p::P,w::vs,i+1,m,nd,h1,h2,hk=>by
  show bindL kindOf ((p,w)::P.zip vs) m x=_
  unfold bindL
  exact wY (i:=i) (List.nodup_cons.mp nd).2 (by simpa using h1) (by simpa using h2) hk
theorem wZ {kindOf:Str->Option NameKind} {x:Str} {v:Value}:∀ {P:List Str} {vs:List Value} {i:Nat} {m:Str->Option Value},P.Nodup->P[i]? = some x->vs[i]? = some v->kindOf x≠some .local ->
  bindC kindOf (P.zip vs) m x=some v
 | [],_,_,_,_,h,_,_=>by simp at h
 | _::_,[],_,_,_,_,h,_=>by simp at h
 | p::P,w::vs,0,m,nd,h1,h2,hk=>by
  simp at h1 h2;subst h1;subst h2
  show bindC kindOf ((p,w)::P.zip vs) m p=_
  unfold bindC
  rw [qcg fun v hv=>(List.nodup_cons.mp nd).1 (List.of_mem_zip hv).1,if_neg hk]
  simp
 | p::P,w::vs,i+1,m,nd,h1,h2,hk=>by
  show bindC kindOf ((p,w)::P.zip vs) m x=_
  unfold bindC
  exact wZ (i:=i) (List.nodup_cons.mp nd).2 (by simpa using h1) (by simpa using h2) hk
def z4 (N:List Str) (vs:List V):St:=vs.map some++List.replicate (N.length-vs.length) none
def qgW (CX:CXT) (P:Program) (w:World) (K:PySem.W.Frag) (mg:Str->Option Value) (base:Heap) (N:List Str) (qual:Str) (scope:Scope) (f:Addr) (cd:Value) (A:Around) (outer:List Env) (s:Shared) (H:Hp) (E:XK):Cx where
 prog:=P
 w:=w
 K:=K
 mg:=mg
 base:=base
 A:=A.deeper (envOfC qual scope s.heap.objs.size f cd)
 N:=N
 s₀:=s
 H₀:=H
 env:=envOfC qual scope s.heap.objs.size f cd
 outer:=outer
 stack:=envOfC qual scope s.heap.objs.size f cd::outer
 ex:=[]
 calm:=true
 fn:=fun _=>true
 pn:=[]
 xe:=fun e s'=>wpAny (model P w) (A.deeper (envOfC qual scope s.heap.objs.size f cd)) (leaving (envOfC qual scope s.heap.objs.size f cd) e) (fun _ s''=>CX outer H s E e s'') (fun e' s''=>CX outer H s E e' s'') s'
theorem wL {sc:Scope} {n:Nat} {x:Str} (h:sc.names.lookup x=some .cell):∃ c,(cellsFrom n sc.names []).lookup x=some c:=by
 have q:=PySem.W.cellsFrom_some sc.names n [] (.inl h)
 exact Option.isSome_iff_exists.mp q
theorem qfm {CX:CXT} {P:Program} {w:World} {K:PySem.W.Frag} {mg:Str->Option Value} {base:Heap} {N ps:List Str} {qual:Str} {scope:Scope} {f:Addr} {cd:Value} {A:Around} {outer:List Env} {s s1:Shared} {H:Hp} {E:XK} {us:List Value} {vs:List V}
  (S:qC N ps scope) (hd:A.handled=none) (e0:qgV P w K mg base A outer s H) (hl:vs.length=ps.length) (r:qW vs us)
  (x:InCallC s s.heap.objs.size (bindL (envOfC qual scope s.heap.objs.size f cd).kindOf (ps.zip us) fun _=>none) (cellsFrom (s.heap.objs.size+1) scope.names []) (bindC (envOfC qual scope s.heap.objs.size f cd).kindOf (ps.zip us) fun _=>none) s1) :
  Inv (qgW CX P w K mg base N qual scope f cd A outer s H E) [] (z4 N vs) H s1:=by
 have hpl:ps.length<=N.length:=by have:=congrArg List.length S.pre;rw [List.length_take] at this;omega
 obtain ⟨h1,tk,rfl,hk⟩:=x.done
 have noA:∀ b:Addr,b ∉ (qgW CX P w K mg base N qual scope f cd A outer s H E).ex:=fun b z=>absurd (show b∈([]:List Addr) from z) (by simp)
 refine ⟨⟨e0.mod,S.kind,rfl,rfl,Nat.le_refl _,fun y z c h1 h2 => ?_,fun y hy => ?_,fun y c _ h => ?_,fun _=>hd,Around.frames_deeper e0.frames,.inr ⟨rfl,rfl⟩,fun b z=>absurd z (noA b),e0.bs,e0.bsz,fun b _ _=>noA b,fun b z=>absurd z (noA b),e0.funs,e0.frf⟩,
  rfl,e0.bare,Un.kept hk,⟨_,x.toInCall.ns,fun i y v h1 h2 h3 => ?_⟩,fun y c h=>⟨_,x.cell y c h⟩,e0.hok.fresh (Nat.le_refl _),fun y c h => ?_,fun p hp=>absurd (show p∈([]:List (Addr×Obj)) from hp) (by simp),e0.hok.kept hk,?_⟩
 ·exact name_of_addr x.apart (PySem.mem_of_lookup h1) (PySem.mem_of_lookup h2)
 ·have hy:scope.names.lookup y=some .cell\/scope.names.lookup y=some .free:=hy
  rcases hy with hy | hy
  ·exact wL hy
  ·exact absurd rfl (S.nofree _ (PySem.mem_of_lookup hy))
 ·exact Nat.le_of_lt (x.above y c (PySem.mem_of_lookup h))
 ·have hi:i<vs.length:=by
   unfold z4 at h2
   by_cases hi:i<vs.length
   ·exact hi
   ·rw [List.getElem?_append_right (by simpa using hi)] at h2
    rw [List.getElem?_replicate] at h2
    split at h2<;>cases h2
  have ha:vs[i]? = some v:=by
   unfold z4 at h2
   rw [List.getElem?_append_left (by simpa using hi),gM_] at h2
   cases e:vs[i]? with
   | none=>rw [e] at h2;cases h2
   | some a=>rw [e] at h2;cases h2;rfl
  obtain ⟨u,hu,rv⟩:=r.get ha
  have hp:ps[i]? = some y:=by
   rw [<- S.pre,List.getElem?_take_of_lt (by omega)];exact h1
  have ndP:ps.Nodup:=by rw [<- S.pre];exact S.nd.sublist (List.take_sublist _ _)
  refine ⟨u,rv,?_⟩
  rcases S.par y (List.mem_of_getElem? hp) with k | k
  ·exact .inl ⟨k,wY ndP hp hu k⟩
  ·obtain ⟨c,e⟩:=wL (n:=s.heap.objs.size+1) k
   refine .inr ⟨.inl k,c,e,?_⟩
   have q:=x.cell y c e
   rw [wZ ndP hp hu (by show scope.names.lookup y≠_;rw [k];decide)] at q
   exact q
 ·exact e0.hok.fresh (Nat.le_of_lt (x.above y c (PySem.mem_of_lookup h)))
 ·unfold z4
  show _=N.length
  rw [lA_,lM_,List.length_replicate]
  omega
theorem qlq {CX:CXT} {P:Program} {w:World} {K:PySem.W.Frag} {mg:Str->Option Value} {base:Heap} {k:Nat} {f:Addr} {name qual:Str} {params:Arguments} {body:List Stmt} {scope:Scope} {dV kV doc pm cdv ct oc:Value} {an od:Option Addr}
  {osl:Array (Option Value)} {N ps:List Str} {sp:Sp} (lk:K.lookup f=some ⟨oc,od,.func (PySem.W.fnOf name qual params body scope dV kV doc pm an cdv ct),osl⟩) (hcd:PySem.W.codeIn K cdv qual=true) (S:qC N ps scope)
  (len:∀ vs H Q E,sp vs H Q E->vs.length=ps.length)
  (hbody:∀ (A:Around) (outer:List Env) (s:Shared) (H:Hp) (vs:List V) (Q:VK) (E:XK),yo k (A.deeper (envOfC qual scope s.heap.objs.size f cdv))->sp vs H Q E ->
   ∃ t,PSs (qgW CX P w K mg base N qual scope f cdv A outer s H E) body t/\t { nx:=fun _ H'=>Q .non H',rt:=Q } (z4 N vs) H) :
  u7 P w K mg base CX (k+1) f (PySem.W.fnOf name qual params body scope dV kV doc pm an cdv ct) ps sp:=by
 refine ⟨len,fun A outer s H args us vs Q E hr e0 hb r hsp => ?_⟩
 have hl:=len _ _ _ _ hsp
 have KX:K.In s.heap:=e0.mod.kin.keeps fun b o e=>(e0.bs b o e).1
 have lim:s.heap.NoLimit:=e0.mod.nolimit.keeps fun b o e=>(e0.bs b o e).1
 have hkind:∀ y∈ps.zip us,scope.names.lookup y.1=some .local\/(scope.names.lookup y.1=some .cell/\((cellsFrom (s.heap.objs.size+1) scope.names []).lookup y.1).isSome=true):=fun ⟨n,v⟩ hy=>by
  rcases S.par n (List.of_mem_zip hy).1 with q | q
  ·exact .inl q
  ·exact .inr ⟨q,PySem.W.cellsFrom_some _ _ _ (.inl q)⟩
 refine codeAny_call_function hr.depth (KX _ _ lk) rfl S.co S.gen rfl (PySem.W.codeRec_of KX hcd) (hb _ _ _ _ ?_)
 refine wpAny_newFunctionEnv_cells S.kind hkind fun env he s1 x => ?_
 subst he
 refine ⟨lim.keeps x.toInCall.keep,codeAny_func ?_⟩
 obtain ⟨t,ht,hq⟩:=hbody A outer s H vs Q E (hr.deeper _) hsp
 have I:Inv (qgW CX P w K mg base N qual scope f cdv A outer s H E) [] (z4 N vs) H s1:=qfm S hr.hd e0 hl r x
 refine wpAny_mono (ht [] s1 (z4 N vs) H _ I hq) (fun fl s' hs => ?_) fun e s' hs=>hs
 have fin:∀ {Z':St} {H':Hp} {v:V} {u:Value},Inv (qgW CX P w K mg base N qual scope f cdv A outer s H E) [] Z' H' s'->ji v u->Q v H'->CE outer P w H s Q u s' :=
  fun {Z' H' v u} J rv q=>⟨v,H',J.os,J.bare,J.base,J.hok,rv,q⟩
 cases fl with
 | ret u =>
  obtain ⟨v,Z',H',J,rv,q⟩:=hs
  exact fin J rv q
 | next =>
  obtain ⟨Z',H',J,q⟩:=hs
  exact fin (v:=V.non) (u:=Value.none) J rfl q
 | brk =>
  obtain ⟨_,_,_,q⟩:=hs
  exact False.elim q
 | cont =>
  obtain ⟨_,_,_,q⟩:=hs
  exact False.elim q
end L2
namespace L2
open PySem PySem.Spec PyProof.Rows
section
variable {X:Cx} {x:Str} {p pos:Pos} {e:Expr} {es:List Expr} {t:TA} {id T:String} {r:List V->Hp->VK->Prop}
def tCB (r:List V->Hp->VK->Prop) (t:TA):TE:=fun Z H Q=>t Z H fun vs H1=>r vs H1 Q
theorem vw (hc:yA X (.builtin id) r) (hg:Gl X x) (hm:X.mg x=none) (hv:bootBuiltins x=some (.builtin id)) (ha:PA X (e::es) t) (hn:x≠"__name__":=by decide) (hdb:(x==("__debug__":Str))=false:=by decide)
  (he:starEach (e::es) X.env=(false,eval e X.env)::starEach es X.env:=by rfl) (hpl:(backTo pos (starEach es X.env)).any (·.1)=false:=by rfl):PE X (.Call (.Name x p) (e::es) [] pos) (tCB r t):=by
 intro pins s Z H Q I h
 refine wpAny_Call_Name_kw (qa0 I hg hm hv ?_ hn hdb)
 exact PyProof.Rows.callWith_builtin1 (thn (ha pos pins s Z H _ I h) fun us s1 ⟨vs,H1,I1,r1,q1⟩=>hc pins s1 Z H1 vs us Q I1 r1 q1) he hpl
theorem qch (hc:yA X (.type T) r) (hg:Gl X x) (hm:X.mg x=none) (hv:bootBuiltins x=some (.type T)) (ha:PA X (e::es) t) (hn:x≠"__name__":=by decide) (hdb:(x==("__debug__":Str))=false:=by decide)
  (he:starEach (e::es) X.env=(false,eval e X.env)::starEach es X.env:=by rfl) (hpl:(backTo pos (starEach es X.env)).any (·.1)=false:=by rfl):PE X (.Call (.Name x p) (e::es) [] pos) (tCB r t):=by
 intro pins s Z H Q I h
 refine wpAny_Call_Name_kw (qa0 I hg hm hv ?_ hn hdb)
 exact PyProof.Rows.callWith_type1 (thn (ha pos pins s Z H _ I h) fun us s1 ⟨vs,H1,I1,r1,q1⟩=>hc pins s1 Z H1 vs us Q I1 r1 q1) he hpl
end
end L2
namespace HT
open PySem PyProof.Rows
def lexLt:List Int->List Int->Bool
 | [],[]=>false
 | [],_::_=>true
 | _::_,[]=>false
 | x::xs,y::ys=>if x=y then lexLt xs ys else decide (x<y)
theorem lexLt_cons (x y:Int) (xs ys:List Int):lexLt (x::xs) (y::ys)=if x=y then lexLt xs ys else decide (x<y):=rfl
theorem qbr:lexLt [] []=false:=rfl
theorem qaO (y:Int) (ys:List Int):lexLt [] (y::ys)=true:=rfl
theorem qaP (x:Int) (xs:List Int):lexLt (x::xs) []=false:=rfl
theorem qg9 (A:Around) (s:Shared) (a:Int) (t:Tok) (c:Int) (u:Tok):∃ e,SeqAt.EqAt A s (.int a t) (.int c u) e/\(e=true ↔ a=c) :=
 ⟨(a==c),SeqAt.EqAt.int_int a t c u,by simp⟩
theorem qha (A:Around) (s:Shared) (a:Int) (t:Tok) (c:Int) (u:Tok) (prog:Program) (w:World) (E:Value->Shared->Prop) (Q:Value->Shared->Prop) (h:Q (.bool (decide (a<c))) s) :
  wpAny (model prog w) A (richCompare .Lt (.int a t) (.int c u)) Q E s :=
 (PyProof.Rows.lt_int h:wpAny (model prog w) A (compareOp .Lt (.int a t) (.int c u)) Q E s)
section
open PySem.SeqAt
open PySem.AutoSeq1 (wpAny_loadPart')
open PySem.MeetsSeq PySem.MeetsSeq2 PySem.MeetsSeq3
theorem qbs (l b:Addr) (items items2:Array Value) (n n2:Nat) (dd dd2:Option Addr) (sl sl2:Array (Option Value)) (ns ms:List Int) (hi:IntsAre items.toList ns) (hj:IntsAre items2.toList ms) :
  Meets (Builtin.«tuple.__lt__» ⟨[.ref l,.ref b],[]⟩)
   (fun _ R s=>s.heap.get? l=some { cls := .type "tuple",dict:=dd,data := .seq items n,slots:=sl }/\s.heap.get? b=some { cls := .type "tuple",dict:=dd2,data := .seq items2 n2,slots:=sl2 } /\
    R (.ok (.ret (.bool (lexLt ns ms)))) s) :=
 .of_wp fun prog w A R s h=>by
  obtain ⟨hp,g,d,tk,os⟩:=s;obtain ⟨hl,hb,h⟩:=h
  have f2:=AutoSeq1.sub_tuple_tuple
  have z1:items.size=ns.length:=by rw [<- hi.length];simp
  have z2:items2.size=ms.length:=by rw [<- hj.length];simp
  wp_walk using wpAny_loadPart' hl,wpAny_loadPart' hb,wpAny_forIn_list _ (fun uJ b s'=>b.1=none/\s'=⟨hp,g,d,tk,os⟩/\∃ (vs ws:List Value) (ns' ms':List Int),uJ=vs.zip ws /\
   IntsAre vs ns'/\IntsAre ws ms'/\ns'.length+items2.size=ms'.length+items.size/\R (.ok (.ret (.bool (lexLt ns' ms')))) ⟨hp,g,d,tk,os⟩) _
  case turn =>
   rintro ⟨y,x⟩ uJ b s' ⟨hb',rfl,vs,ws,ns',ms',hz,hvi,hwi,hlen,hR⟩
   cases hvi with
   | nil=>rw [List.zip_nil_left] at hz;cases hz
   | cons a t hvi' =>
    cases hwi with
    | nil=>rw [List.zip_nil_right] at hz;cases hz
    | cons c u hwi' =>
     rw [List.zip_cons_cons] at hz
     injection hz with hyx hrest
     injection hyx with hy hx
     subst hy hx
     rw [lexLt_cons] at hR
     simp only [lC_] at hlen
     obtain ⟨e,he,hiff⟩:=qg9 A.in1 ⟨hp,g,d,tk,os⟩ a t c u
     refine wpAny_bind (he prog w _ _ ?_)
     cases e with
     | true =>
      rw [if_pos (hiff.mp rfl)] at hR
      wp_walk
      exact ⟨rfl,rfl,_,_,_,_,hrest,hvi',hwi',by omega,hR⟩
     | false =>
      rw [if_neg (fun q=>absurd (hiff.mpr q) Bool.false_ne_true)] at hR
      have hri:=qha A.in1 ⟨hp,g,d,tk,os⟩ a t c u prog w
      wp_walk using hri
      exact ⟨_,rfl,by simpa using hR⟩
  case fin =>
   rintro ⟨b1,b2⟩ s' ⟨hb',rfl,vs,ws,ns',ms',hz,hvi,hwi,hlen,hR⟩
   simp only at hb'
   subst hb'
   have hv:lexLt ns' ms'=decide (items.size<items2.size):=by
    cases hvi with
    | nil =>
     cases hwi with
     | nil =>
      simp only [lN_] at hlen
      rw [qbr]
      exact (decide_eq_false (by omega)).symm
     | cons c u hw =>
      simp only [lN_,lC_] at hlen
      rw [qaO]
      exact (decide_eq_true (by omega)).symm
    | cons a t hv =>
     cases hwi with
     | nil =>
      simp only [lN_,lC_] at hlen
      rw [qaP]
      exact (decide_eq_false (by omega)).symm
     | cons c u hw =>
      rw [List.zip_cons_cons] at hz
      cases hz
   rw [hv] at hR
   wp_walk
   exact ⟨_,rfl,by simpa [Builtin.Tuple.tupleCompareSizes] using hR⟩
  case h =>
   exact ⟨rfl,rfl,items.toList,items2.toList,ns,ms,rfl,hi,hj,by omega,h⟩
end
section
variable {prog:Program} {w:World} {A:Around} {E:Value->Shared->Prop} {s:Shared}
theorem lt_tupInts {l b:Addr} {items items2:Array Value} {ns ms:List Int} {Q:Value->Shared->Prop} (hl:IsTup s.heap l items) (hb:IsTup s.heap b items2) (hi:IntsAre items.toList ns) (hj:IntsAre items2.toList ms)
  (hu:A.units<cLine) (h:Q (.bool (lexLt ns ms)) s):wpAny (model prog w) A (compareOp .Lt (.ref l) (.ref b)) Q E s:=by
 obtain ⟨⟨cls,dd,data,sl⟩,ho,hc,n,hd⟩:=id hl
 obtain ⟨⟨cls2,dd2,data2,sl2⟩,ho2,hc2,n2,hd2⟩:=id hb
 simp only at hc hd hc2 hd2
 subst hc hd hc2 hd2
 exact richCompare_meets_room (op := .Lt) ⟨_,ho,rfl⟩ ⟨_,ho2,rfl⟩ PySem.F.slot_tuple_lt PySem.F.entry_tuple_lt (PySem.F.args_tuple_lt_2 _ _) (qbs l b items items2 n n2 dd dd2 sl sl2 ns ms hi hj)
  ⟨ho,ho2,show Value.bool (lexLt ns ms)≠Value.notImplemented/\Q (.bool (lexLt ns ms)) s from ⟨(fun x=>nomatch x),h⟩⟩ hu
theorem cat_tup {t b:Addr} {vs ws:List Value} {Q:Value->Shared->Prop} (ht:IsTup s.heap t vs.toArray) (hb:IsTup s.heap b ws.toArray) (hv:vs≠[])
  (h1:ws=[]->Q (.ref t) s) (h2:ws≠[]->Q (.ref s.heap.objs.size) { s with heap:=s.heap.push { cls := .type "tuple",data := .seq (vs++ws).toArray } })
  (hsz:vs.length+ws.length<=sizeLine):wpAny (model prog w) A (binaryOp .Add (.ref t) (.ref b)) Q E s:=by
 obtain ⟨⟨cls,dd,data,sl⟩,ho,hc,n,hd⟩:=id ht
 obtain ⟨⟨cls2,dd2,data2,sl2⟩,ho2,hc2,n2,hd2⟩:=id hb
 simp only at hc hd hc2 hd2
 subst hc hd hc2 hd2
 have e:vs.toArray++ws.toArray=(vs++ws).toArray:=by simp
 by_cases hw:ws=[]
 ·exact concat_meets ⟨_,ho,rfl⟩ ⟨_,ho2,rfl⟩ noFill_tuple_add seq_tuple_add PySem.F.slot_tuple_add PySem.F.entry_tuple_add (PySem.F.args_tuple_add_2 _ _)
   (tuple_addW1 t b vs.toArray ws.toArray n n2 dd dd2 sl sl2 (by simpa using hv) (by simp [hw])) ⟨ho,ho2,h1 hw⟩
 ·refine concat_meets ⟨_,ho,rfl⟩ ⟨_,ho2,rfl⟩ noFill_tuple_add seq_tuple_add PySem.F.slot_tuple_add PySem.F.entry_tuple_add (PySem.F.args_tuple_add_2 _ _)
   (tuple_addW2 t b vs.toArray ws.toArray n n2 dd dd2 sl sl2 (by simpa using hv) (by simpa using hw) (by rw [sT_,sT_];exact hsz)) ⟨ho,ho2,?_⟩
  rw [e]
  exact h2 hw
def sIx (n d:Nat):Option Int->Nat
 | none=>d
 | some v=>if v<0 then (v+(n:Int)).toNat else min v.toNat n
theorem sIx_none (n d:Nat):sIx n d none=d:=rfl
theorem sIx_nat (n d k:Nat):sIx n d (some (k:Int))=min k n:=by
 show (if (k:Int)<0 then ((k:Int)+(n:Int)).toNat else min (k:Int).toNat n)=min k n
 rw [if_neg (by omega),Int.toNat_natCast]
theorem qlr (n d:Nat) (hd:d<=n) (o:Option Int):sIx n d o<=n:=by
 cases o with
 | none=>exact hd
 | some v =>
  show (if v<0 then (v+(n:Int)).toNat else min v.toNat n)<=n
  by_cases hv:v<0
  ·rw [if_pos hv];omega
  ·rw [if_neg hv];exact Nat.min_le_right _ _
theorem qfn (v:Int) (n d:Nat):(if v<0 then max (v+(n:Int)) 0 else min v (n:Int))=((sIx n d (some v):Nat):Int):=by
 show (if v<0 then max (v+(n:Int)) 0 else min v (n:Int))=(((if v<0 then (v+(n:Int)).toNat else min v.toNat n):Nat):Int)
 by_cases hv:v<0
 ·simp only [if_pos hv];omega
 ·simp only [if_neg hv];omega
theorem qex (lo hi:Option Int) (n:Nat):Builtin.Slice.sliceAdjust lo hi 1 (n:Int)=(((sIx n 0 lo:Nat):Int),((sIx n n hi:Nat):Int)):=by
 have h1:¬ ((1:Int)<0):=by omega
 unfold Builtin.Slice.sliceAdjust
 simp only [h1,if_false]
 refine Prod.ext ?_ ?_
 ·cases lo with
  | none=>rfl
  | some v=>exact qfn v n 0
 ·cases hi with
  | none=>rfl
  | some v=>exact qfn v n n
theorem qey (i j:Nat):Builtin.Slice.slicePlaces (i:Int) (j:Int) 1=j-i:=by
 unfold Builtin.Slice.slicePlaces
 have h1:(1:Int)>0:=by omega
 simp only [h1,if_true,Int.ediv_one]
 split<;>omega
theorem qa2 {v:Value} {o:Option Int} {Q:Option Int->Shared->Prop} (p:IsPart v o) (h:Q o s):wpAny (model prog w) A (Builtin.Slice.slicePartIndex v) Q E s:=by
 cases p with
 | none=>exact slicePart_none h
 | int i t=>exact slicePart_int h
theorem sliceApplied_gen {sl:Addr} {vl vu:Value} {lo hi:Option Int} {n:Nat} {Q:Int×Int×Nat->Shared->Prop} (hs:s.heap.IsSliceOf sl vl vu .none) (pl:IsPart vl lo) (pu:IsPart vu hi)
  (h:Q (((sIx n 0 lo:Nat):Int),1,sIx n n hi-sIx n 0 lo) s):wpAny (model prog w) A (Builtin.Slice.sliceApplied (.ref sl) (pure (n:Int))) Q E s:=by
 obtain ⟨os,hos,hcs,hds⟩:=id hs
 unfold Builtin.Slice.sliceApplied Builtin.Slice.sliceFields
 refine wpAny_bind (wpAny_bind (wpAny_field hos hds (x:=vl) rfl (wpAny_bind (wpAny_field hos hds (x:=vu) rfl (wpAny_bind (wpAny_field hos hds (x := .none) rfl (wpAny_pure ?_)))))))
 refine wpAny_bind (slicePart_none ?_)
 show wpAny _ _ (if ((1:Int)==0)=true then _ else _) _ _ s
 rw [if_neg (by decide)]
 refine wpAny_bind (qa2 pl (wpAny_bind (qa2 pu (wpAny_bind (wpAny_pure ?_)))))
 show wpAny _ _ (match Builtin.Slice.sliceAdjust lo hi 1 (n:Int) with | (lo,hi)=>pure (lo,(1:Int),Builtin.Slice.slicePlaces lo hi 1)) _ _ s
 rw [qex lo hi n]
 show wpAny _ _ (pure (((sIx n 0 lo:Nat):Int),(1:Int),Builtin.Slice.slicePlaces ((sIx n 0 lo:Nat):Int) ((sIx n n hi:Nat):Int) 1)) _ _ s
 rw [qey]
 exact wpAny_pure h
theorem qhb (xs:Array Value) (i k:Nat):((List.range k).filterMap fun (m:Nat)=>xs[((i:Int)+(m:Int)*1).toNat]?).toArray=((xs.toList.drop i).take k).toArray:=by
 have e:(fun (m:Nat)=>xs[((i:Int)+(m:Int)*1).toNat]?)=fun m=>xs[i+m]? := by
  funext m
  have:((i:Int)+(m:Int)*1).toNat=i+m:=by omega
  rw [this]
 rw [e]
 have:=pick_run xs i k
 rw [List.filterMap_map] at this
 have e2:((fun x=>xs[x]?)∘fun x=>i+x)=fun m=>xs[i+m]? := rfl
 rw [e2] at this
 rw [this]
theorem getItem_tuple_cut {t sl:Addr} {items:Array Value} {vl vu:Value} {lo hi:Option Int} {Q:Value->Shared->Prop} (ht:IsTup s.heap t items) (hs:s.heap.IsSliceOf sl vl vu .none) (pl:IsPart vl lo) (pu:IsPart vu hi)
  (hw:¬ (sIx items.size 0 lo=0/\sIx items.size items.size hi=items.size))
  (h:Q (.ref s.heap.objs.size) { s with heap:=s.heap.push { cls := .type "tuple",data := .seq ((items.toList.drop (sIx items.size 0 lo)).take (sIx items.size items.size hi-sIx items.size 0 lo)).toArray } })
  (hsz:items.size<=sizeLine):wpAny (model prog w) A (getItem (.ref t) (.ref sl)) Q E s:=by
 have htake:sizeOk (.seq ((items.toList.drop (sIx items.size 0 lo)).take (sIx items.size items.size hi-sIx items.size 0 lo)).toArray):=by
  show ((items.toList.drop (sIx items.size 0 lo)).take (sIx items.size items.size hi-sIx items.size 0 lo)).toArray.size<=sizeLine
  rw [sT_,List.length_take,List.length_drop,Array.length_toList]
  omega
 have hj:sIx items.size items.size hi<=items.size:=qlr _ _ (Nat.le_refl _) hi
 obtain ⟨os,hos,hcs,hds⟩:=id hs
 have hTs:s.TypeIs (.ref sl) "slice":=⟨os,hos,hcs⟩
 unfold getItem
 try with_reducible refine wpAny_holding ?_
 first | refine wpAny_bind (wpAny_pure ?_) | skip
 refine wpAny_bind (wpAny_sequenceKey ht.typeIs (by decide) ?_)
 refine wpAny_bind (wpAny_callSpecial?_slot (name:=Str.ofString "__getitem__") ht.typeIs PyProof.Rows.slot_tuple_getitem
  (wpAny_call_entry PyProof.Rows.slot_tuple_getitem ht.typeIs entry_tuple_getitem ?_ (args_tuple_getitem _ _)))
 show wpAny _ _ (Builtin.Tuple.tupleItemsOf (.ref t) >>= _) _ _ s
 refine wpAny_bind (tupleItemsOf_ ht ?_)
 refine wpAny_bind (wpAny_typeOf hTs ?_)
 rw [if_pos (by decide)]
 refine wpAny_bind (sliceApplied_gen hs pl pu ?_)
 have hno:¬ ((((sIx items.size 0 lo:Nat):Int)==0&&(1:Int)==1&&(sIx items.size items.size hi-sIx items.size 0 lo)==items.size)=true):=by
  intro q
  rw [Bool.and_eq_true,Bool.and_eq_true] at q
  have q1:((sIx items.size 0 lo:Nat):Int)=0:=eq_of_beq q.1.1
  have q2:sIx items.size items.size hi-sIx items.size 0 lo=items.size:=eq_of_beq q.2
  exact hw ⟨by omega,by omega⟩
 show wpAny _ _ (if (((sIx items.size 0 lo:Nat):Int)==0&&(1:Int)==1&&(sIx items.size items.size hi-sIx items.size 0 lo)==items.size)=true then _ else _) _ _ s
 rw [if_neg hno,qhb]
 first
  | exact wpAny_bind (m:=Builtin.Tuple.tupleExact _) (wpAny_newObj_type (wpAny_pure ⟨_,rfl,wpAny_pure h⟩) htake)
  | exact wpAny_bind (m:=Builtin.Tuple.tupleExact _) (wpAny_newObj_type (wpAny_bind (wpAny_pure (wpAny_pure ⟨_,rfl,wpAny_pure h⟩))) htake)
  | exact wpAny_bind (wpAny_bind (m:=Builtin.Tuple.tupleExact _) (wpAny_newObj_type (wpAny_pure (wpAny_pure ⟨_,rfl,wpAny_pure h⟩)) htake))
  | exact wpAny_bind (wpAny_bind (m:=Builtin.Tuple.tupleExact _) (wpAny_newObj_type (wpAny_pure ⟨_,rfl,wpAny_pure h⟩) htake))
end
end HT
namespace L2
open PySem PySem.Spec PyProof.Rows
abbrev TO:=St->Hp->(Option Int->Hp->Prop)->Prop
def PO (X:Cx) (e:Option Expr) (t:TO):Prop :=
 ∀ (pins:List (Addr×Obj)) (s:Shared) (Z:St) (H:Hp) (Q:Option Int->Hp->Prop),Inv X pins Z H s->t Z H Q ->
  wpAny (model X.prog X.w) X.A (evalPart e X.env) (fun u s'=>∃ o H',Inv X pins Z H' s'/\IsPart u o/\Q o H') X.xe s
def qjv:TO:=fun _ H Q=>Q none H
def qnn (t:TE):TO:=fun Z H Q=>t Z H fun x H1=>∃ i,x = .int i/\Q (some i) H1
theorem vT {ns:List Int}:∀ {us:List Value},qW (ns.map V.int) us->IntsAre us ns:=by
 induction ns with
 | nil=>intro us r;rw [List.map_nil] at r;cases r;exact .nil
 | cons n ns ih =>
  intro us r
  rw [mC_] at r
  cases r with
  | cons r1 r2 =>
   obtain ⟨t,e⟩:=r1
   subst e
   exact .cons n t (ih r2)
section
variable {X:Cx} {e:Expr} {te:TE} {lo hi:Option Expr} {tl th:TO} {pos p2:Pos}
theorem qjw:PO X none qjv:=by
 intro pins s Z H Q I h
 rw [evalPart_none]
 exact wpAny_pure ⟨none,H,I,.none,h⟩
theorem qjx (h:PE X e te):PO X (some e) (qnn te):=by
 intro pins s Z H Q I hw
 rw [evalPart_some]
 refine thn (h pins s Z H _ I hw) fun u s1 ⟨x,H1,I1,r1,q1⟩ => ?_
 obtain ⟨i,rfl,q⟩:=q1
 obtain ⟨t,rfl⟩:=r1
 exact ⟨some i,H1,I1,.int i t,q⟩
def SlR (X:Cx) (r:V->Option Int->Option Int->Hp->VK->Prop):Prop :=
 ∀ (pins:List (Addr×Obj)) (s:Shared) (Z:St) (H:Hp) (x:V) (v vl vu:Value) (lo hi:Option Int) (sl:Addr) (Q:VK),Inv X pins Z H s->ji x v->s.heap.IsSliceOf sl vl vu .none->IsPart vl lo->IsPart vu hi->r x lo hi H Q ->
  ∃ T id,typeLookup (.type T) "__getitem__"=pure (some (.builtin id))/\s.TypeIs v T/\wpAny (model X.prog X.w) X.A (getItem v (.ref sl)) (EP X pins Z Q) X.xe s
theorem SlR.or {r r':V->Option Int->Option Int->Hp->VK->Prop} (h:SlR X r) (h':SlR X r'):SlR X (fun x lo hi H Q=>r x lo hi H Q\/r' x lo hi H Q):=by
 intro pins s Z H x v vl vu lo hi sl Q I rx hs pl pu q
 rcases q with q | q
 ·exact h pins s Z H x v vl vu lo hi sl Q I rx hs pl pu q
 ·exact h' pins s Z H x v vl vu lo hi sl Q I rx hs pl pu q
def tSl (r:V->Option Int->Option Int->Hp->VK->Prop) (te:TE) (tl th:TO):TE:=fun Z H Q=>te Z H fun x H1=>tl Z H1 fun l H2=>th Z H2 fun u H3=>r x l u H3 Q
theorem qhc {r:V->Option Int->Option Int->Hp->VK->Prop} (hr:SlR X r) (he:PE X e te) (hl:PO X lo tl) (hu:PO X hi th):PE X (.Subscript e (.Slice lo hi none p2) pos) (tSl r te tl th):=by
 intro pins s Z H Q I h
 refine Subscript_ (thn (he pins s Z H _ I h) fun v s1 ⟨x,H1,I1,r1,q1⟩ => ?_)
 refine wpAny_Slice (thn (hl pins s1 Z H1 _ I1 q1) fun vl s2 ⟨l,H2,I2,pl,q2⟩=>thn (hu pins s2 Z H2 _ I2 q2) fun vu s3 ⟨u,H3,I3,pu,q3⟩ => ?_)
 rw [evalPart_none]
 refine wpAny_pure ?_
 have I4:Inv X pins Z H3 { s3 with heap:=s3.heap.push { cls := .type "slice",data := .fields #[vl,vu,.none] } }:=I3.kept (t':=s3.toks) fun b ob q=>Heap.get?_push_of_some _ q
 obtain ⟨T,id,hT,ht,hg⟩:=hr pins { s3 with heap:=s3.heap.push { cls := .type "slice",data := .fields #[vl,vu,.none] } } Z H3 x v vl vu l u s3.heap.objs.size Q I4 r1 (Heap.IsSliceOf.new ..) pl pu q3
 show wpAny (model X.prog X.w) X.A (subscriptTail e (.Slice lo hi none p2) v (.ref s3.heap.objs.size)) (EP X pins Z Q) X.xe { s3 with heap:=s3.heap.push { cls := .type "slice",data := .fields #[vl,vu,.none] } }
 exact tail_any (ops:=[.ref s3.heap.objs.size,v]) ht hT hg (by with_unfolding_all rfl)
def qgX (xs:List V) (lo hi:Option Int):List V:=(xs.drop (HT.sIx xs.length 0 lo)).take (HT.sIx xs.length xs.length hi-HT.sIx xs.length 0 lo)
theorem w5 (xs:List V) (lo hi:Option Int):(qgX xs lo hi).length<=xs.length:=by
 unfold qgX
 rw [List.length_take,List.length_drop]
 omega
def qn4 (K:PySem.W.Frag):V->Option Int->Option Int->Hp->VK->Prop:=fun x lo hi H Q=>∃ a xs,x = .ref a/\SqT K H a xs /\
 ¬ (HT.sIx xs.length 0 lo=0/\HT.sIx xs.length xs.length hi=xs.length)/\∀ p,H p=none->Q (.ref p) (upd H p (.tup (qgX xs lo hi)))
theorem sl_tup:SlR X (qn4 X.K):=by
 intro pins s Z H x v vl vu lo hi sl Q I rx hs pl pu h
 obtain ⟨a,xs,rfl,hx,hw,q⟩:=h
 cases rx
 obtain ⟨its,r,ht,hz⟩:=I.tuple hx
 have hlen:its.toArray.size=xs.length:=by rw [sT_];exact r.length.symm
 refine ⟨"tuple",_,PyProof.Rows.slot_tuple_getitem.lookup,ht.typeIs,?_⟩
 refine HT.getItem_tuple_cut ht hs pl pu (by rw [hlen];exact hw) ?_ (by rw [hlen];exact hz)
 rw [hlen]
 refine ⟨.ref s.heap.objs.size,_,I.laid (t':=s.toks) (o := .tup (qgX xs lo hi)) (fun b ob q=>Heap.get?_push_of_some _ q) (Nat.le_refl _) ?_,rfl,q _ (I.hok.fresh (Nat.le_refl _))⟩
 exact ⟨Nat.le_trans (w5 xs lo hi) hz,_,(r.drop (HT.sIx xs.length 0 lo)).take (HT.sIx xs.length xs.length hi-HT.sIx xs.length 0 lo),IsTup.new _ _⟩
def qls (K:PySem.W.Frag):R2:=fun x y H Q=>∃ a b xs ys,x = .ref a/\y = .ref b/\SqT K H a xs/\SqT K H b ys/\xs≠[]/\xs.length+ys.length<=sizeLine /\
 (ys=[]->Q (.ref a) H)/\(ys≠[]->∀ p,H p=none->Q (.ref p) (upd H p (.tup (xs++ys))))
theorem qW.nil_iff {xs:List V} {us:List Value} (r:qW xs us):us=[] ↔ xs=[]:=by
 cases r with
 | nil=>simp
 | cons _ _=>simp
theorem qjy:OpR X (binaryOp .Add) (qls X.K):=by
 intro pins s Z H x y v u Q I rx ry h
 obtain ⟨a,b,xs,ys,rfl,rfl,ha,hb,hx,hz,q1,q2⟩:=h
 cases rx
 cases ry
 obtain ⟨its,r1,p1,_⟩:=I.tuple ha
 obtain ⟨its2,r2,p2,_⟩:=I.tuple hb
 refine HT.cat_tup p1 p2 (fun z=>hx (r1.nil_iff.mp z)) (fun z=>⟨.ref a,H,I,rfl,q1 (r2.nil_iff.mp z)⟩) (fun z => ?_) (by rw [<- r1.length,<- r2.length];exact hz)
 refine ⟨.ref s.heap.objs.size,_,I.laid (t':=s.toks) (o := .tup (xs++ys)) (fun b ob q=>Heap.get?_push_of_some _ q) (Nat.le_refl _) ?_,rfl,q2 (fun w=>z (r2.nil_iff.mpr w)) _ (I.hok.fresh (Nat.le_refl _))⟩
 exact ⟨by rw [lA_];exact hz,_,r1.append r2,IsTup.new _ _⟩
end
end L2
namespace L2
open PySem PySem.Spec PyProof.Rows
def ixN (n:Nat) (i:Int):Option Nat:=if 0<=i then (if i<n then some i.toNat else none) else if -(n:Int)<=i then some (i+n).toNat else none
def atI {α:Type} (xs:List α) (i:Int):Option α:=(ixN xs.length i).bind fun j=>xs[j]?
theorem qfo {n:Nat} {i:Int} {j:Nat} (h:ixN n i=some j):seqIndex? i n=some j/\j<n /\ -(n:Int)<=i/\i<n:=by
 unfold ixN at h
 by_cases h0:0<=i
 ·rw [if_pos h0] at h
  by_cases h1:i<n
  ·rw [if_pos h1] at h
   have e:i.toNat=j:=Option.some.inj h
   exact ⟨by rw [seqIndex_of h0 h1,e],by omega,by omega,h1⟩
  ·rw [if_neg h1] at h;cases h
 ·rw [if_neg h0] at h
  by_cases h1 : -(n:Int)<=i
  ·rw [if_pos h1] at h
   have e:(i+n).toNat=j:=Option.some.inj h
   exact ⟨by rw [seqIndex_neg (by omega) h1,e],by omega,h1,by omega⟩
  ·rw [if_neg h1] at h;cases h
theorem qfp {α:Type} {xs:List α} {i:Int} {v:α} (h:atI xs i=some v):∃ j,seqIndex? i xs.length=some j/\xs[j]? = some v/\j<xs.length /\ -(xs.length:Int)<=i/\i<xs.length:=by
 unfold atI at h
 cases e:ixN xs.length i with
 | none=>rw [e] at h;cases h
 | some j =>
  rw [e] at h
  obtain ⟨h1,h2,h3,h4⟩:=qfo e
  exact ⟨j,h1,h,h2,h3,h4⟩
def qc2 (b:Expr):Prop:=∀ o i,subscripted b false o i=operate [o,i] (getItem o i)
def IxR (X:Cx) (r:R2):Prop :=
 ∀ (value slice:Expr) (pins:List (Addr×Obj)) (s:Shared) (Z:St) (H:Hp) (x y:V) (v u:Value) (Q:VK),Inv X pins Z H s->ji x v->ji y u->r x y H Q ->
  subscripted slice false v u=operate [v,u] (getItem v u)->wpAny (model X.prog X.w) X.A (subscriptTail value slice v u) (EP X pins Z Q) X.xe s
def MtR (X:Cx) (id:String) (r:V->List V->Hp->VK->Prop):Prop :=
 ∀ (pins:List (Addr×Obj)) (s:Shared) (Z:St) (H:Hp) (x:V) (xs:List V) (v:Value) (us:List Value) (Q:VK),Inv X pins Z H s->ji x v->qW xs us->r x xs H Q ->
  wpAny (model X.prog X.w) X.A (call (.builtin id) (v::us)) (EP X pins Z Q) X.xe s
section
variable {X:Cx} {a b:Expr} {ta tb:TE} {pos:Pos}
theorem IxR.or {r r':R2} (h:IxR X r) (h':IxR X r'):IxR X (fun x y H Q=>r x y H Q\/r' x y H Q):=by
 intro value slice pins s Z H x y v u Q I rx ry q hs
 rcases q with q | q
 ·exact h value slice pins s Z H x y v u Q I rx ry q hs
 ·exact h' value slice pins s Z H x y v u Q I rx ry q hs
theorem MtR.or {id:String} {r r':V->List V->Hp->VK->Prop} (h:MtR X id r) (h':MtR X id r'):MtR X id (fun x xs H Q=>r x xs H Q\/r' x xs H Q):=by
 intro pins s Z H x xs v us Q I rx rs q
 rcases q with q | q
 ·exact h pins s Z H x xs v us Q I rx rs q
 ·exact h' pins s Z H x xs v us Q I rx rs q
theorem qlt {r:R2} (hr:IxR X r) (ha:PE X a ta) (hb:PE X b tb) (hs:qc2 b):PE X (.Subscript a b pos) (tOp r ta tb):=by
 intro pins s Z H Q I h
 exact Subscript_ (qnc ha hb I h fun v u s2 x y H2 I2 rx ry q=>hr a b pins s2 Z H2 x y v u Q I2 rx ry q (hs _ _))
def qno (K:PySem.W.Frag):R2:=fun x y H Q=>∃ p xs i v,x = .ref p/\y = .int i/\SqL K H p xs/\atI xs i=some v/\Q v H
def qnp (K:PySem.W.Frag):R2:=fun x y H Q=>∃ p xs i v,x = .ref p/\y = .int i/\SqT K H p xs/\atI xs i=some v/\Q v H
theorem qfq:IxR X (qno X.K):=by
 intro value slice pins s Z H x y v u Q I rx ry h hs
 obtain ⟨p,xs,i,z,rfl,rfl,hq,he,q⟩:=h
 cases rx
 obtain ⟨t,rfl⟩:=ry
 obtain ⟨its,r,pl,hz⟩:=I.list hq
 obtain ⟨j,h1,h2,h3,h4,h5⟩:=qfp he
 obtain ⟨w,ew,rw'⟩:=r.get h2
 have hl:=r.length
 have hn:=qcd
 have fin:EP X pins Z Q w s:=⟨z,H,I,rw',q⟩
 by_cases h0:0<=i
 ·have hj:i.toNat=j:=by
   rw [seqIndex_of h0 h5] at h1
   exact Option.some.inj h1
  exact item_listR pl.isList h0 (by omega) (by rw [hj];simpa using ew) fin hs
 ·have hj:(i+(its.toArray.size:Int)).toNat=j:=by
   rw [seqIndex_neg (by omega) h4] at h1
   rw [sT_,<- hl]
   exact Option.some.inj h1
  exact subscriptTail_builtinR (x:=w) pl.isList.typeIs slot_list_getitem.lookup
   (wpAny_getItem_list_neg (Q:=fun r s'=>r=w/\EP X pins Z Q r s') pl.isList (by omega) (by rw [sT_]<;>omega) (by omega) (by rw [hj];simpa using ew) ⟨rfl,fin⟩) hs
theorem qlu:IxR X (qnp X.K):=by
 intro value slice pins s Z H x y v u Q I rx ry h hs
 obtain ⟨p,xs,i,z,rfl,rfl,hq,he,q⟩:=h
 cases rx
 obtain ⟨t,rfl⟩:=ry
 obtain ⟨its,r,pl,hz⟩:=I.tuple hq
 obtain ⟨j,h1,h2,h3,h4,h5⟩:=qfp he
 obtain ⟨w,ew,rw'⟩:=r.get h2
 have hl:=r.length
 have hn:=qcd
 have fin:EP X pins Z Q w s:=⟨z,H,I,rw',q⟩
 exact subscriptTail_builtinR (x:=w) pl.typeIs slot_tuple_getitem.lookup
  (getItem_tuple (j:=j) (Q:=fun r s'=>r=w/\EP X pins Z Q r s') pl (by omega) (by omega) (by rw [sT_,<- hl];exact h1) (by simpa using ew) ⟨rfl,fin⟩) hs
theorem qez (its:List Value) (n j:Nat) (u:Value):Obj.mapSeq (·.setIfInBounds j u) { cls := .type "list",data := .seq its.toArray n }={ cls := .type "list",data := .seq (its.set j u).toArray n }:=by
 simp [Obj.mapSeq]
theorem Inv.lst {pins:List (Addr×Obj)} {Z:St} {H:Hp} {s:Shared} {p:Addr} {xs:List V} (I:Inv X pins Z H s) (h:H p=some (.lst xs)) :
  ∃ (its:List Value) (n:Nat),qW xs its/\s.heap.get? p=some { cls := .type "list",data := .seq its.toArray n }/\xs.length<=sizeLine:=by
 obtain ⟨z,its,n,r,e⟩:=I.hok p _ h
 exact ⟨its,n,r,e,z⟩
theorem Inv.lstUpd {pins:List (Addr×Obj)} {Z:St} {H:Hp} {s:Shared} {p:Addr} {xs ys:List V} {its its':List Value} {n n':Nat} {f:Obj->Obj} (I:Inv X pins Z H s) (h:H p=some (.lst xs))
  (ho:s.heap.get? p=some { cls := .type "list",data := .seq its.toArray n }) (hf:f { cls := .type "list",data := .seq its.toArray n }={ cls := .type "list",data := .seq its'.toArray n' }) (r:qW ys its') (hz:ys.length<=sizeLine) (t:Nat) :
  Inv X pins Z (upd H p (.lst ys)) { s with heap:=s.heap.update p f,toks:=t }:=by
 have e:(s.heap.update p f).get? p=some { cls := .type "list",data := .seq its'.toArray n' }:=by
  rw [Heap.get?_update_self f ho (by rw [hf]<;>rfl),hf]
 refine I.write (x:=p) (e:=p) (by rw [h];trivial) (.inl rfl) (fun b u hb q=>(Heap.get?_update_other _ _ (Ne.symm hb)).trans q) ⟨_,e⟩ ?_
 exact ⟨hz,its',n',r,e⟩
def qnq:V->V->V->Hp->(Hp->Prop)->Prop:=fun o i v H Q=>∃ p xs k j,o = .ref p/\i = .int k/\H p=some (.lst xs)/\ixN xs.length k=some j/\Q (upd H p (.lst (xs.set j v)))
theorem qhd:qnZ X qnq:=by
 intro pins s Z H o i v ov iv u Q I ro ri rv h
 obtain ⟨p,xs,k,j,rfl,rfl,hp,hj,q⟩:=h
 cases ro
 obtain ⟨t,rfl⟩:=ri
 obtain ⟨its,n,r,ho,hz⟩:=I.lst hp
 obtain ⟨h1,h2,h3,h4⟩:=qfo hj
 have hl:=r.length
 have hn:=qcd
 have I':Inv X pins Z (upd H p (.lst (xs.set j v))) { s with heap:=s.heap.update p (Obj.mapSeq (·.setIfInBounds j u)) } :=
  I.lstUpd hp ho (qez its n j u) (r.set rv j) (by rw [lS_];exact hz) s.toks
 by_cases h0:0<=k
 ·have hk:k.toNat=j:=by
   rw [seqIndex_of h0 h4] at h1
   exact Option.some.inj h1
  exact PySem.W.ki_setAt ho h0 (by omega) (by rw [sT_,<- hl];exact h4) (by rw [hk];exact ⟨_,I',q⟩)
 ·have hk:(k+(its.toArray.size:Int)).toNat=j:=by
   rw [seqIndex_neg (by omega) h3] at h1
   rw [sT_,<- hl]
   exact Option.some.inj h1
  exact PySem.W.ki_setBack ho (by omega) (by rw [sT_,<- hl];exact h3) (by omega) (by rw [hk];exact ⟨_,I',q⟩)
theorem qci (lo hi:Option Int) (n:Nat):(sliceBounds lo hi none n).1=((HT.sIx n 0 lo:Nat):Int)/\(sliceBounds lo hi none n).2.1=((HT.sIx n n hi:Nat):Int)/\(sliceBounds lo hi none n).2.2=1:=by
 refine ⟨?_,?_,rfl⟩
 ·cases lo with
  | none=>simp [sliceBounds,HT.sIx]
  | some i =>
   simp only [sliceBounds,HT.sIx,Option.getD_none,show (1:Int)>0 by decide,if_true]
   by_cases h:i<0
   ·simp only [h,if_true]<;>omega
   ·simp only [h,if_false]<;>omega
 ·cases hi with
  | none=>simp [sliceBounds,HT.sIx]
  | some i =>
   simp only [sliceBounds,HT.sIx,Option.getD_none,show (1:Int)>0 by decide,if_true]
   by_cases h:i<0
   ·simp only [h,if_true]<;>omega
   ·simp only [h,if_false]<;>omega
theorem qbt (its:List Value) (lo hi:Option Int):slicePick its.toArray lo hi none=((its.drop (HT.sIx its.length 0 lo)).take (HT.sIx its.length its.length hi-HT.sIx its.length 0 lo)).toArray:=by
 obtain ⟨h1,h2,h3⟩:=qci lo hi its.toArray.size
 unfold slicePick
 rw [h1,h2,h3]
 simp only [sliceRange_one,pick_run,sT_]<;>rfl
def qoH (K:PySem.W.Frag):V->Option Int->Option Int->Hp->VK->Prop:=fun x lo hi H Q=>∃ a xs,x = .ref a/\SqL K H a xs/\∀ p,H p=none->Q (.ref p) (upd H p (.lst (qgX xs lo hi)))
theorem qjz:SlR X (qoH X.K):=by
 intro pins s Z H x v vl vu lo hi sl Q I rx hs pl pu h
 obtain ⟨a,xs,rfl,hx,q⟩:=h
 cases rx
 obtain ⟨its,r,ht,hz⟩:=I.list hx
 have hlen:=r.length
 refine ⟨"list",_,slot_list_getitem.lookup,ht.isList.typeIs,?_⟩
 refine wpAny_getItem_list_slice ht.isList hs pl pu .none (by simp) ?_ (by rw [sT_]<;>omega)
 rw [qbt,<- hlen]
 refine ⟨.ref s.heap.objs.size,_,I.laid (t':=s.toks) (o := .lst (qgX xs lo hi)) (fun b ob q=>Heap.get?_push_of_some _ q) (Nat.le_refl _) ?_,rfl,q _ (I.hok.fresh (Nat.le_refl _))⟩
 exact ⟨Nat.le_trans (w5 xs lo hi) hz,_,0,(r.drop (HT.sIx xs.length 0 lo)).take (HT.sIx xs.length xs.length hi-HT.sIx xs.length 0 lo),Heap.get?_push_size _ rfl⟩
def wF:V->Bool
 | .non=>true
 | .bl _=>true
 | .int _=>true
 | .str _=>true
 | _=>false
def eqV:V->V->Bool
 | .non,.non=>true
 | .bl a,.bl b=>a==b
 | .bl a,.int b=>(if a then 1 else 0)==b
 | .int a,.bl b=>a==(if b then 1 else 0)
 | .int a,.int b=>a==b
 | .str a,.str b=>a==b
 | _,_=>false
theorem qlv {A:Around} {s:Shared} {y x:V} {u v:Value} (ry:ji y u) (rx:ji x v) (fy:wF y=true) (fx:wF x=true):SeqAt.EqAt A s u v (eqV y x):=by
 cases y with
 | non =>
  cases ry
  cases x with
  | non=>cases rx;exact SeqAt.EqAt.same _
  | bl b=>cases rx;exact SeqAt.EqAt.none_bool b
  | int b=>obtain ⟨t,rfl⟩:=rx;exact SeqAt.EqAt.none_int b t
  | str b=>obtain ⟨t,rfl⟩:=rx;exact SeqAt.EqAt.none_str b t
  | _=>exact absurd (show false=true from fx) Bool.false_ne_true
 | bl a =>
  cases ry
  cases x with
  | non=>cases rx;exact SeqAt.EqAt.bool_none a
  | bl b=>cases rx;exact SeqAt.EqAt.bool_bool a b
  | int b=>obtain ⟨t,rfl⟩:=rx;exact SeqAt.EqAt.bool_int a b t
  | str b=>obtain ⟨t,rfl⟩:=rx;exact SeqAt.EqAt.bool_str a b t
  | _=>exact absurd (show false=true from fx) Bool.false_ne_true
 | int a =>
  obtain ⟨t',rfl⟩:=ry
  cases x with
  | non=>cases rx;exact SeqAt.EqAt.int_none a t'
  | bl b=>cases rx;exact SeqAt.EqAt.int_bool a t' b
  | int b=>obtain ⟨t,rfl⟩:=rx;exact SeqAt.EqAt.int_int a t' b t
  | str b=>obtain ⟨t,rfl⟩:=rx;exact SeqAt.EqAt.int_str a t' b t
  | _=>exact absurd (show false=true from fx) Bool.false_ne_true
 | str a =>
  obtain ⟨t',rfl⟩:=ry
  cases x with
  | non=>cases rx;exact SeqAt.EqAt.str_none a t'
  | bl b=>cases rx;exact SeqAt.EqAt.str_bool a t' b
  | int b=>obtain ⟨t,rfl⟩:=rx;exact SeqAt.EqAt.str_int a t' b t
  | str b=>obtain ⟨t,rfl⟩:=rx;exact SeqAt.EqAt.str_str a t' b t
  | _=>exact absurd (show false=true from fx) Bool.false_ne_true
 | _=>exact absurd (show false=true from fy) Bool.false_ne_true
def eqU (x:V) (u:Value):Bool:=match u with
 | .none=>eqV .non x
 | .bool b=>eqV (.bl b) x
 | .int i _=>eqV (.int i) x
 | .str z _=>eqV (.str z) x
 | _=>false
theorem qip {x y:V} {u:Value} (r:ji y u) (f:wF y=true):eqU x u=eqV y x:=by
 cases y with
 | non=>cases r;rfl
 | bl b=>cases r;rfl
 | int i=>obtain ⟨t,rfl⟩:=r;rfl
 | str z=>obtain ⟨t,rfl⟩:=r;rfl
 | _=>exact absurd (show false=true from f) Bool.false_ne_true
theorem qc3 {x:V}:∀ {xs:List V} {us:List Value},qW xs us->xs.all wF=true->us.any (eqU x)=xs.any fun y=>eqV y x
 | _,_,.nil,_=>rfl
 | y::xs,u::us,.cons r t,f=>by
  rw [List.all_cons,Bool.and_eq_true] at f
  rw [List.any_cons,List.any_cons,qip r f.1,qc3 t f.2]
theorem qbu {A:Around} {s:Shared} {x:V} {v:Value} (rx:ji x v) (fx:wF x=true):∀ {xs:List V} {us:List Value},qW xs us->xs.all wF=true->∀ u∈us,SeqAt.EqAt A s u v (eqU x u)
 | _,_,.nil,_=>fun u hu=>by cases hu
 | y::xs,u::us,.cons r t,f=>fun u' hu=>by
  rw [List.all_cons,Bool.and_eq_true] at f
  rcases List.mem_cons.mp hu with rfl | hu
  ·rw [qip r f.1];exact qlv r rx f.1 fx
  ·exact qbu rx fx t f.2 u' hu
def inV (x:V) (xs:List V):Bool:=xs.any fun y=>eqV y x
def rIn (K:PySem.W.Frag) (neg:Bool):R2:=fun x y H Q=>∃ p xs,y = .ref p/\(SqL K H p xs\/SqT K H p xs)/\wF x=true/\xs.all wF=true/\Q (.bl (if neg then !inV x xs else inV x xs)) H
theorem qfr:OpR X (compareOp .In) (rIn X.K false):=by
 intro pins s Z H x y v u Q I rx ry h
 obtain ⟨p,xs,rfl,hq,fx,fs,q⟩:=h
 cases ry
 rcases hq with hq | hq
 ·obtain ⟨its,r,pl,hz⟩:=I.list hq
  refine SeqAt.in_listAt (eqU x) pl.isList (fun w hw=>qbu rx fx r fs w (by simpa using hw)) ⟨.bl _,H,I,rfl,?_⟩
  rw [show its.toArray.any (eqU x)=its.any (eqU x) by simp,qc3 r fs]
  exact q
 ·obtain ⟨its,r,pl,hz⟩:=I.tuple hq
  refine SeqAt.in_tupleAt (eqU x) pl (fun w hw=>qbu rx fx r fs w (by simpa using hw)) ⟨.bl _,H,I,rfl,?_⟩
  rw [show its.toArray.any (eqU x)=its.any (eqU x) by simp,qc3 r fs]
  exact q
theorem qcj:yA X (.builtin "len") (fun xs H Q=>∃ p ys,xs=[.ref p]/\(SqL X.K H p ys\/SqT X.K H p ys)/\Q (.int ys.length) H):=by
 intro pins s Z H xs us Q I r h
 obtain ⟨p,ys,rfl,hq,q⟩:=h
 obtain ⟨u,rfl,rx⟩:=qg6 r
 cases rx
 have hn:=qcd
 rcases hq with hq | hq
 ·obtain ⟨its,r',pl,hz⟩:=I.list hq
  have hlen:=r'.length
  exact Calls.call_len_list pl.isList (by simp only [sT_]<;>omega) ⟨.int ys.length,H,I.tok _,⟨s.toks+1,by rw [sT_,hlen]⟩,q⟩
 ·obtain ⟨its,r',pl,hz⟩:=I.tuple hq
  have hlen:=r'.length
  exact len_tuple pl (by simp only [sT_]<;>omega) ⟨.int ys.length,H,I.tok _,⟨s.toks+1,by rw [sT_,hlen]⟩,q⟩
theorem qck:yA X (.builtin "len") (fun xs H Q=>∃ z,xs=[.str z]/\z.length<=sizeLine/\Q (.int z.length) H):=by
 intro pins s Z H xs us Q I r h
 obtain ⟨z,rfl,hz,q⟩:=h
 obtain ⟨u,rfl,t,rfl⟩:=qg6 r
 have hn:=qcd
 exact len_str (by omega) ⟨.int z.length,H,I.tok _,⟨_,rfl⟩,q⟩
theorem yA.or {f:Value} {r r':List V->Hp->VK->Prop} (h:yA X f r) (h':yA X f r'):yA X f (fun xs H Q=>r xs H Q\/r' xs H Q):=by
 intro pins s Z H xs us Q I rs q
 rcases q with q | q
 ·exact h pins s Z H xs us Q I rs q
 ·exact h' pins s Z H xs us Q I rs q
theorem vx:yA X (.type "tuple") (fun xs H Q=>∃ p ys,xs=[.ref p]/\((SqL X.K H p ys/\∀ l,H l=none->Q (.ref l) (upd H l (.tup ys)))\/(SqT X.K H p ys/\Q (.ref p) H))):=by
 intro pins s Z H xs us Q I r h
 obtain ⟨p,ys,rfl,h⟩:=h
 obtain ⟨u,rfl,rx⟩:=qg6 r
 cases rx
 rcases h with ⟨hq,q⟩ | ⟨hq,q⟩
 ·obtain ⟨its,r',pl,hz⟩:=I.list hq
  have hlen:=r'.length
  refine call_tuple_list pl.isList (fun h' kp => ?_) (by simp only [sT_]<;>omega)
  have I1:Inv X pins Z H { s with heap:=h' }:=I.kept (t':=s.toks) kp
  have I2:Inv X pins Z (upd H h'.objs.size (.tup ys)) { s with heap:=h'.push { cls := .type "tuple",data := .seq its.toArray } } :=
   I1.laid (t':=s.toks) (fun b o e=>Heap.get?_push_of_some _ e) (Nat.le_refl _) (show yz X.prog X.w _ _ _ (.tup ys) from ⟨hz,its,r',IsTup.new _ _⟩)
  exact ⟨.ref h'.objs.size,_,I2,rfl,q _ (I1.hok.fresh (Nat.le_refl _))⟩
 ·obtain ⟨its,r',pl,hz⟩:=I.tuple hq
  exact call_tuple_same pl ⟨.ref p,H,I,rfl,q⟩
def tyV (K:PySem.W.Frag) (T:String) (x:V) (H:Hp):Prop:=match x with
 | .str _=>T="str"
 | .int _=>T="int"
 | .ref p=>(T="list"/\∃ xs,SqL K H p xs)\/(T="tuple"/\∃ o,K.lookup p=some o/\o.cls = .type "tuple"/\o.dict=none) \/
   (T="dict"/\((∃ kvs,H p=some (.dK kvs))\/∃ kvs,H p=some (.dT kvs)))\/(T="set"/\∃ S n,H p=some (.set S n))
 | _=>False
theorem qlw {pins:List (Addr×Obj)} {Z:St} {H:Hp} {s:Shared} {T:String} {x:V} {v:Value} (I:Inv X pins Z H s) (r:ji x v) (ty:tyV X.K T x H) :
  s.TypeIs v T/\∀ a,v = .ref a->∃ ob,s.heap.get? a=some ob/\ob.dict=none:=by
 cases x with
 | str z =>
  obtain ⟨t,rfl⟩:=r
  cases (show T="str" from ty)
  exact ⟨typeIs_str s z t,fun _ e=>nomatch e⟩
 | int i =>
  obtain ⟨t,rfl⟩:=r
  cases (show T="int" from ty)
  exact ⟨typeIs_int s i t,fun _ e=>nomatch e⟩
 | ref p =>
  cases r
  rcases ty with ⟨rfl,xs,hq⟩ | ⟨rfl,o,hk,hc,hd⟩ | ⟨rfl,hk⟩ | ⟨rfl,S,n,hk⟩
  ·obtain ⟨its,_,pl,_⟩:=I.list hq
   refine ⟨pl.isList.typeIs,fun a e => ?_⟩
   cases e
   obtain ⟨o,n,e,c,hd,_⟩:=pl
   exact ⟨o,e,hd⟩
  ·refine ⟨⟨o,I.kIn p o hk,hc⟩,fun a e => ?_⟩
   cases e
   exact ⟨o,I.kIn _ o hk,hd⟩
  ·have z:∃ o,s.heap.get? p=some o/\o.ExactDict:=by
    rcases hk with ⟨kvs,hk⟩ | ⟨kvs,hk⟩
    ·obtain ⟨_,_,_,_,o,_,_,e,ex,_⟩:=I.hok p _ hk
     exact ⟨o,e,ex⟩
    ·obtain ⟨_,_,_,_,o,_,_,e,ex,_⟩:=I.hok p _ hk
     exact ⟨o,e,ex⟩
   obtain ⟨o,e,ex⟩:=z
   refine ⟨⟨o,e,ex.1⟩,fun a e2 => ?_⟩
   cases e2
   exact ⟨o,e,ex.2.1⟩
  ·obtain ⟨o,_,_,_,e,ex,_⟩:=I.hok p _ hk
   refine ⟨⟨o,e,ex.1⟩,fun a e2 => ?_⟩
   cases e2
   exact ⟨o,e,ex.2.1⟩
 | _=>exact False.elim ty
def tBM (K:PySem.W.Frag) (T:String) (r:V->List V->Hp->VK->Prop) (to:TE) (t:TA):TE:=fun Z H Q=>to Z H fun x H1=>tyV K T x H1/\t Z H1 fun xs H2=>r x xs H2 Q
variable {o e:Expr} {es:List Expr} {to:TE} {t:TA} {name:Str} {apos cpos:Pos} {T id:String} {r:V->List V->Hp->VK->Prop}
theorem qjA (pa:PlainAttrs T) (slot:Slot T name id) (hty:typeOf (.builtin id)=pure (.type "method_descriptor")) (hm:MtR X id r) (ho:PE X o to) (ha:PA X (e::es) t)
  (hbase:attributeBase o name X.env (eval o X.env)=eval o X.env:=by rfl)
  (hfew:((backTo cpos (starEach (e::es) X.env)).all (fun x => !x.1)&&(backToKw cpos (keywordEach [] X.env)).all (fun x=>x.1.isSome)
   && decide ((e::es).length+([]:List Keyword).length+(if ([]:List Keyword).isEmpty then 0 else 1)<30))=true:=by rfl)
  (hline:(apos.endLine==cpos.line)=true:=by rfl) (hs:starEach (e::es) X.env=(false,eval e X.env)::starEach es X.env:=by rfl) (hplain:(backTo cpos (starEach es X.env)).any (·.1)=false:=by rfl) :
  PE X (.Call (.Attribute o name apos) (e::es) [] cpos) (tBM X.K T r to t):=by
 intro pins s Z H Q I h
 refine wpAny_Call_method_late hbase hfew hline rfl (thn (ho pins s Z H _ I h) fun v s1 ⟨x,H1,I1,r1,ty,q1⟩ => ?_)
 obtain ⟨h1,h2⟩:=qlw I1 r1 ty
 refine ⟨T,id,pa,slot,hty,h1,h2,?_⟩
 have hA:=ha cpos pins s1 Z H1 _ I1 q1
 rw [hs] at hA |-
 refine Calls.callWith_builtin (by show (false||(backTo cpos (starEach es X.env)).any (·.1))=false;rw [hplain]<;>rfl) (Calls.evalArgs_plain ?_)
 exact thn hA fun us s2 ⟨vs,H2,I2,r2,q2⟩=>hm pins s2 Z H2 x vs v us Q I2 r1 r2 q2
/- xs.append(e),list.index on a module's tuple .. are MtR facts of 06m -/
end
end L2
namespace L2
open PySem PySem.Spec PyProof.Rows
def MtM (X:Cx) (id:String) (r:V->List V->Hp->VK->Prop):Prop :=
 ∀ (pins:List (Addr×Obj)) (s:Shared) (Z:St) (H:Hp) (x:V) (xs:List V) (v:Value) (us:List Value) (Q:VK),Inv X pins Z H s->ji x v->qW xs us->r x xs H Q ->
  wpAny (model X.prog X.w) X.A (call (.builtin id) (v::us)) (EP X pins Z Q) X.xe s
theorem qW.one:∀ {x:V} {us:List Value},qW [x] us->∃ u,us=[u]/\ji x u
 | _,_,.cons r .nil=>⟨_,rfl,r⟩
theorem qW.two:∀ {x y:V} {us:List Value},qW [x,y] us->∃ u v,us=[u,v]/\ji x u/\ji y v
 | _,_,_,.cons r (.cons q .nil)=>⟨_,_,rfl,r,q⟩
theorem qW.eraseIdx:∀ {xs:List V} {us:List Value} (i:Nat),qW xs us->qW (xs.eraseIdx i) (us.eraseIdx i)
 | _,_,_,.nil => .nil
 | _,_,0,.cons _ t=>t
 | _,_,i+1,.cons r t => .cons r (qW.eraseIdx i t)
theorem qW.reverse {xs:List V} {us:List Value} (h:qW xs us):qW xs.reverse us.reverse:=by
 induction h with
 | nil=>exact .nil
 | cons r t ih=>rw [List.reverse_cons,List.reverse_cons];exact qW.append ih (.cons r .nil)
theorem qW.rep {xs:List V} {us:List Value} (h:qW xs us):∀ k:Nat,qW (List.replicate k xs).flatten (List.replicate k us).flatten
 | 0 => .nil
 | k+1=>by
  rw [rS_,rS_,List.flatten_cons,List.flatten_cons]
  exact qW.append h (qW.rep h k)
theorem w6 (its:List Value):∀ (k:Nat) (acc:List Value),
  List.foldl (fun x1 x2=>x1++x2) acc.toArray (List.replicate k its.toArray)=(acc++(List.replicate k its).flatten).toArray
 | 0,acc=>by simp
 | k+1,acc=>by
  have e:acc.toArray++its.toArray=(acc++its).toArray:=by simp
  have e2:(acc++its)++(List.replicate k its).flatten=acc++(List.replicate (k+1) its).flatten:=by
   rw [rS_,List.flatten_cons,aA_]
  rw [<- e2,<- w6 its k (acc++its),<- e,rS_,fo_]
section
variable {X:Cx} {pins:List (Addr×Obj)} {Z:St} {H:Hp} {s:Shared} {l b:Addr} {xs ys zs:List V}
theorem Inv.lset {its its':List Value} {n:Nat} {f:Array Value->Array Value} {t':Nat} (I:Inv X pins Z H s) (hH:H l=some (.lst xs))
  (e:s.heap.get? l=some { cls := .type "list",data := .seq its.toArray n }) (hf:f its.toArray=its'.toArray) (hv:qW ys its') (hz:ys.length<=sizeLine) :
  Inv X pins Z (upd H l (.lst ys)) { s with heap:=s.heap.update l (Obj.mapSeq f),toks:=t' }:=by
 have q:=PySem.IsL.update e f
 rw [hf] at q
 refine I.write (x:=l) (e:=l) (by rw [hH];exact trivial) (.inl rfl) (fun b' u hb hu=>(Heap.get?_update_other s.heap (Obj.mapSeq f) (Ne.symm hb)).trans hu) ⟨_,q⟩ ?_
 exact ⟨hz,its',_,hv,q⟩
theorem Inv.lnew {its:List Value} {t':Nat} (I:Inv X pins Z H s) (hv:qW ys its) (hz:ys.length<=sizeLine) :
  Inv X pins Z (upd H s.heap.objs.size (.lst ys)) { s with heap:=s.heap.push { cls := .type "list",data := .seq its.toArray },toks:=t' } :=
 I.laid (fun _ _ q=>Heap.get?_push_of_some _ q) (Nat.le_refl _) ⟨hz,its,0,hv,Heap.get?_push_size _ rfl⟩
theorem Inv.fresh (I:Inv X pins Z H s):H s.heap.objs.size=none:=I.hok.fresh (Nat.le_refl _)
theorem Inv.lstM (I:Inv X pins Z H s) (hH:H l=some (.lst xs)):xs.length<=sizeLine/\∃ (its:List Value) (n:Nat),qW xs its/\xs.length=its.length/\s.heap.get? l=some { cls := .type "list",data := .seq its.toArray n }:=by
 obtain ⟨z,its,n,r,e⟩:=I.hok l _ hH
 exact ⟨z,its,n,r,r.length,e⟩
theorem qdF {n:Nat} (h:n<=sizeLine):Builtin.List.listTooLong n=false:=by
 unfold Builtin.List.listTooLong
 exact decide_eq_false (by omega)
end
section
variable {X:Cx}
def qjB:V->List V->Hp->VK->Prop:=fun x vs H Q=>∃ l xs y,x = .ref l/\vs=[y]/\H l=some (.lst xs)/\xs.length<sizeLine/\Q .non (upd H l (.lst (xs++[y])))
theorem w8:MtM X "list.append" qjB:=by
 intro pins s Z H x vs v us Q I rx rv h
 obtain ⟨l,xs,y,rfl,rfl,hH,hz,q⟩:=h
 cases rx
 obtain ⟨u,rfl,ru⟩:=rv.one
 obtain ⟨z,its,n,r,hl,e⟩:=I.lstM hH
 refine call_meets F.slot_list_append ⟨_,e,rfl⟩ F.entry_list_append (F.args_list_append_2 _ _) (PySem.list_append l its.toArray n u (by rw [sT_];omega)) ⟨e,?_⟩
 refine ⟨.non,_,I.lset (its':=its++[u]) hH e (by simp) (r.append (.cons ru .nil)) ?_,rfl,q⟩
 rw [lA_,List.length_singleton]
 omega
def qjC:V->List V->Hp->VK->Prop:=fun x vs H Q=>∃ l b xs zs,x = .ref l/\vs=[.ref b]/\H l=some (.lst xs)/\H b=some (.lst zs)/\xs.length+zs.length<=sizeLine/\Q .non (upd H l (.lst (xs++zs)))
theorem qfs:MtM X "list.extend" qjC:=by
 intro pins s Z H x vs v us Q I rx rv h
 obtain ⟨l,b,xs,zs,rfl,rfl,hH,hB,hz,q⟩:=h
 cases rx
 obtain ⟨u,rfl,ru⟩:=rv.one
 cases ru
 obtain ⟨z,its,n,r,hl,e⟩:=I.lstM hH
 obtain ⟨z2,its2,n2,r2,hl2,e2⟩:=I.lstM hB
 have hsz:its.toArray.size+its2.toArray.size<=sizeLine:=by rw [sT_,sT_];omega
 have hlong:¬ (!its.toArray.isEmpty&&Builtin.List.listTooLong (its.toArray.size+its2.toArray.size))=true:=by
  rw [qdF hsz,Bool.and_false]
  exact Bool.false_ne_true
 refine call_meets F.slot_list_extend ⟨_,e,rfl⟩ F.entry_list_extend (F.args_list_extend_2 _ _)
  (AutoSeq1.list_extend_list_list_0 l its.toArray n b its2.toArray n2 hlong (by rw [sT_];omega) (by omega)) ⟨e,e2,?_⟩
 refine ⟨.non,_,I.lset (its':=its++its2) hH e (by simp) (r.append r2) ?_,rfl,q⟩
 rw [lA_]
 omega
def qn5:R2:=fun x y H Q=>∃ l b xs zs,x = .ref l/\y = .ref b/\H l=some (.lst xs)/\H b=some (.lst zs)/\xs.length+zs.length<=sizeLine/\∀ p,H p=none->Q (.ref p) (upd H p (.lst (xs++zs)))
theorem qlx:OpR X (binaryOp .Add) qn5:=by
 intro pins s Z H x y v u Q I rx ry h
 obtain ⟨l,b,xs,zs,rfl,rfl,hH,hB,hz,q⟩:=h
 cases rx
 cases ry
 obtain ⟨z,its,n,r,hl,e⟩:=I.lstM hH
 obtain ⟨z2,its2,n2,r2,hl2,e2⟩:=I.lstM hB
 refine PySem.P.add_list e e2 ?_ (by rw [sT_,sT_];omega)
 have ea:its.toArray++its2.toArray=(its++its2).toArray:=by simp
 rw [ea]
 exact ⟨.ref _,_,I.lnew (t':=s.toks) (r.append r2) (by rw [lA_];omega),rfl,q _ I.fresh⟩
def qn6:R2:=fun x y H Q=>∃ l k xs,x = .ref l/\y = .int k/\H l=some (.lst xs) /\ -(2 ^ 63)<=k/\k<2 ^ 63/\xs.length*k.toNat<=sizeLine /\
 ∀ p,H p=none->Q (.ref p) (upd H p (.lst (List.replicate k.toNat xs).flatten))
theorem qc4 {α:Type} (xs:List α) (k:Nat):(List.replicate k xs).flatten.length=k*xs.length:=by
 induction k with
 | zero=>simp
 | succ k ih=>rw [rS_,List.flatten_cons,lA_,ih,Nat.succ_mul,Nat.add_comm]
theorem qly:OpR X (binaryOp .Mult) qn6:=by
 intro pins s Z H x y v u Q I rx ry h
 obtain ⟨l,k,xs,rfl,rfl,hH,h1,h2,hz,q⟩:=h
 cases rx
 obtain ⟨t,rfl⟩:=ry
 obtain ⟨z,its,n,r,hl,e⟩:=I.lstM hH
 have hlen:its.toArray.size*k.toNat<=sizeLine:=by rw [sT_,<- hl];exact hz
 have hcap:¬ its.toArray.size*k.toNat>(2 ^ 63-1)/8:=by
  have:(sizeLine:Nat)<=(2 ^ 63-1)/8:=by decide
  omega
 have hfit:¬ (!Builtin.List.listFitsIndex k)=true:=by
  rw [fitsIndex_both h1 h2]
  exact Bool.false_ne_true
 have hlong:¬ Builtin.List.listTooLong (its.toArray.size*k.toNat)=true:=by
  rw [qdF hlen]
  exact Bool.false_ne_true
 have hnew:List.foldl (fun x1 x2=>x1++x2) #[] (List.replicate (if its.toArray.isEmpty=true then 0 else k.toNat) its.toArray)=(List.replicate k.toNat its).flatten.toArray:=by
  have f0:∀ m:Nat,List.foldl (fun x1 x2=>x1++x2) #[] (List.replicate m its.toArray)=(List.replicate m its).flatten.toArray:=fun m=>by
   have:=w6 its m []
   rw [List.nil_append] at this
   exact this
  rw [f0]
  cases its with
  | nil=>simp
  | cons a r'=>rw [if_neg (by simp)]
 refine wpAny_binaryOp_repeat_ref (T:="list") (U:="int") (by decide) ⟨_,e,rfl⟩ (fun s'=>typeIs_int s' k t) noFill_list_mul F.fills_int_mul F.slot_int_rmul repeat_list F.slot_int_index.lookup
  (call_meets F.slot_int_rmul (typeIs_int s k t) F.entry_int_rmul (F.args_int_rmul_2 _ _) (int___rmul___int_list k t l its.toArray n)
   ⟨e,rfl,⟨_,e,rfl⟩,call_meets F.slot_list_mul ⟨_,e,rfl⟩ F.entry_list_mul (F.args_list_mul_2 _ _) (AutoListH.list___mul___list_int_3 l its.toArray n k t hfit hcap hlong) ⟨e,?_⟩⟩)
 rw [hnew]
 exact ⟨.ref _,_,I.lnew (t':=s.toks) (r.rep k.toNat) (by rw [qc4,Nat.mul_comm];exact hz),rfl,q _ I.fresh⟩
end
section
variable {prog:Program} {w:World} {A:Around} {E:Value->Shared->Prop} {s:Shared}
set_option maxRecDepth 100000 in
end
section
variable {X:Cx}
end
end L2
namespace Att
open PySem PySem.W PySem.Calls PyProof.Rows
theorem w9 {P:Params} {h:Heap}:∀ (ns:List Int) (vs:List Value),WellAll P h vs (ns.map WData.int)->IntsAre vs ns:=by
 intro ns
 induction ns with
 | nil =>
  intro vs w
  rw [List.map_nil] at w
  cases w
  exact .nil
 | cons n ns ih =>
  intro vs w
  rw [mC_] at w
  cases w with
  | cons a b =>
   cases a
   exact .cons _ _ (ih _ b)
theorem qft {l:OpenLaw} {n:Nat} (hn:l.most=some n) {P:Params} {h:Heap} {args:List WData} {vals:List Value}
  (hpre:l.row.toRowW.claim.pre args=true) (hwl:WellAll P h vals args) :
  ∃ a vs ns,vals=[Value.ref a]/\args=[WData.list (ns.map WData.int)]/\h.get? a=some { cls := .type "list",data := .seq vs.toArray }/\IntsAre vs ns/\ns.length<=n:=by
 have hsh:WShape.hasAll [] args [.list .int]=true:=(pre_splitW hpre).1
 have hc:l.pre.holds [] { args:=args }=true:=(pre_splitW hpre).2
 obtain ⟨d,r,rfl,h1,h2⟩:=hasAllW_cons hsh
 obtain rfl:=hasAllW_nil h2
 obtain ⟨xs,rfl,h3⟩:=hasW_list h1
 obtain ⟨ns,rfl⟩:=items_int h3
 have hlen:ns.length<=n:=by
  unfold OpenLaw.pre at hc
  have h4:(WTm.not (.lt (.lit (.int (n:Int))) (.len (.arg 0)))).holds [] { args:=[.list (ns.map .int)] }=true:=by
   have h4:=(holds_andW hc).1
   rw [hn] at h4
   exact h4
  have h5:=condW_of h4 (w_not (w_lt w_lit (w_len_list (w_arg rfl))))
  rw [lM_] at h5
  refine Nat.le_of_not_lt fun q => ?_
  have q':(n:Int)<((ns.length:Nat):Int):=by omega
  first
   | (rw [decide_eq_true q'] at h5;exact absurd h5 (by decide))
   | (simp at h5;omega)
 cases hwl with
 | cons w1 w2 =>
  cases w2
  cases w1 with
  | list ho hall=>exact ⟨_,_,ns,rfl,rfl,ho,w9 ns _ hall,hlen⟩
theorem qfu (l:OpenLaw) (args:List WData):l.row.toRowW.claim.post args (.bool true) args=true :=
 postW_of (r:=l.row.toRowW) (X:=(true==true))
  (show WShape.has [] (.bool true) .bool=true by first | rfl | decide | simp [WShape.has,WShape.arms,WShape.armsAll])
  (show (WTm.eq .res (.lit (.bool true))).value [] { args:=args,res:=some (.bool true),after:=args }=some (.bool (true==true)) from w_eq_bool (w_res rfl) w_lit) rfl
theorem attach_call {l:OpenLaw} {n:Nat} {q:Program} {loose:List Str} {XP:(Str->Option Value)->Heap->Prop} {YP:World->Heap->Prop} {d:DefRec}
  (hn:l.most=some n) (hdf:d.params.defaults=[])
  (call:∀ (w:World) (s₀ sK:Shared) (mg mb:Str->Option Value) (fa:Addr) (o:Obj) (pm cd doc:Value) (a:Addr) (vs:List Value) (ns:List Int),
   Ground q loose [] XP w s₀ mg mb sK.heap->YP w sK.heap ->
   sK.heap.get? fa=some o->o.data = .func (docDef d.name d.params d.body d.scope pm cd doc)->sK.heap.CodeRec cd d.name->mg d.name=some (.ref fa) ->
   sK.heap.get? a=some { cls := .type "list",data := .seq vs.toArray }->IntsAre vs ns->ns.length<=n->sK.gens = #[] ->
   codeAny (model l.prog w) callerA (.call (.ref fa) ⟨[.ref a],[]⟩) (fun r s'=>r = .ok (.ret (.bool true))/\OldK sK.heap s'.heap/\s'.os=sK.os/\AllBare s'.gens) sK) :
  WalkO q loose XP YP l.row.toRowW d [] (fun f vs=>PySem.call f vs):=by
 intro w s₀ sK mg mb G Y fa o pm cd doc dV kV ho hd hcd hD hmg hg args vals as hpre hlay hrd hwl hlo
 obtain rfl:dV = .none:=Dflts.none hD hdf
 obtain rfl:kV = .none:=Dflts.noKw hD
 obtain ⟨a,vs,ns,rfl,rfl,hobj,hints,hlen⟩:=qft hn hpre hwl
 refine enter_call (codeAny_mono (call w s₀ sK mg mb fa o pm cd doc a vs ns G Y ho (fd_plain hd) hcd hmg hobj hints hlen hg) fun r s' hq => ?_)
 obtain ⟨rfl,h2,h3,h4⟩:=hq
 exact ⟨.inl ⟨.bool true,.bool true,[],rfl,fun _=>rfl,.bool true,qfu l _,fun _=>⟨List.Pairwise.nil,fun _ hm=>(nomatch hm)⟩⟩,h2,h3,h4⟩
section
variable {prog:Program} {w:World} {A:Around} {E:Value->Shared->Prop} {s:Shared} {K:Frag}
end
end Att
namespace L2
open PySem PySem.Spec PyProof.Rows
theorem qcl:∀ {vs:List Value} {ns:List Int},IntsAre vs ns->qW (ns.map V.int) vs
 | _,_,.nil => .nil
 | _,_,.cons n t h => .cons ⟨t,rfl⟩ (qcl h)
def qmR (H:Hp):Prop:=∀ b,H b=none\/(∃ o xs,H b=some (.frz o (.lst xs)))\/∃ pos q,H b=some (.lam pos q)
def qmS:Option (Addr×Addr×Pos×Str)->Hp
 | some (_,Pt,pos,q)=>fun b=>if b=Pt then some (.lam pos q) else none
 | none=>fun _=>none
theorem qhe {P:Program} {w:World} {K:PySem.W.Frag} {mg mb:Str->Option Value} {CX:CXT} {k:Nat} {fa a:Addr} {fd:FuncData} {x:Str} {sp:Sp} {sK:Shared} {vs:List Value} {ns:List Int} {lm:Option (Addr×Addr×Pos×Str)}
  (KX:K.In sK.heap) (hns:sK.heap.Ns mainGlobals mg) (hb:sK.heap.Ns builtinsNs mb) (hbb:∀ x:Str,x≠"__name__"->mb x=bootBuiltins x) (hlim:sK.heap.NoLimit)
  (hbm:∃ bm ob,mg "__builtins__"=some (.ref bm)/\bm≠builtinsNs/\sK.heap.get? bm=some ob/\ob.cls = .type "module"/\ob.dict=some builtinsNs/\ob.data = .plain)
  (hlm:∀ c Pt pos q,lm=some (c,Pt,pos,q)->PySem.W.CodeHd sK.heap c Pt/\sK.heap.get? Pt=some (PySem.W.tabObj #[])/\K.lookup Pt=none)
  (hg:sK.gens = #[])
  (ha:sK.heap.get? a=some { cls := .type "list",data := .seq vs.toArray }) (hi:IntsAre vs ns) (hl:ns.length<=sizeLine) (hr:yo k callerA)
  (F:∀ base:Heap,K.In base->base.Ns mainGlobals mg->u7 P w K mg base CX k fa fd [x] sp) (hbind:∀ (s:Shared) (u:Value),BindsTo s fd ⟨[u],[]⟩ [(x,u)])
  (hsp:∀ H:Hp,qmR H->(∀ c Pt pos q,lm=some (c,Pt,pos,q)->H Pt=some (.lam pos q))->SqL K H a (ns.map V.int)->sp [.ref a] H (fun v _=>v = .bl true) fun _ _ _=>False)
  (hCX:∀ H e s',CX [] H sK (fun _ _ _=>False) e s'->False) :
  codeAny (model P w) callerA (.call (.ref fa) ⟨[.ref a],[]⟩) (fun r s'=>r = .ok (.ret (.bool true))/\OldK sK.heap s'.heap/\s'.os=sK.os/\AllBare s'.gens) sK:=by
 have rv:=qcl hi
 have lenV:=hi.length
 have core:∀ H:Hp,qmR H->(∀ c Pt pos q,lm=some (c,Pt,pos,q)->H Pt=some (.lam pos q))->SqL K H a (ns.map V.int)->HOk P w H sK.heap ->
   (∀ b u,H b=some u->K.lookup b=none/\((∃ o xs,u = .frz o (.lst xs))\/∃ c pos q,lm=some (c,b,pos,q)/\u = .lam pos q)) ->
   codeAny (model P w) callerA (.call (.ref fa) ⟨[.ref a],[]⟩) (fun r s'=>r = .ok (.ret (.bool true))/\OldK sK.heap s'.heap/\s'.os=sK.os/\AllBare s'.gens) sK:=by
  intro H hO hT hS hok hA
  have base_of:∀ {b:Addr} {o:Obj},sK.heap.get? b=some o->H b=none->(qgZ sK.heap H).get? b=some o:=fun e n=>qg0 e n
  have noD:∀ {b:Addr} {o:Obj},sK.heap.get? b=some o->(∀ its n,o.data ≠ .seq its n)->(∀ f,o.data ≠ .fields f)->H b=none:=fun {b o} e d1 d2=>by
   cases q:H b with
   | none=>rfl
   | some u =>
    rcases (hA b u q).2 with ⟨ob,xs,rfl⟩ | ⟨c,pos,q',hl2,rfl⟩
    ·obtain ⟨e1,_,its,n,_,e2⟩:=hok b _ q
     rw [e] at e2;cases e2
     exact (d1 _ _ rfl).elim
    ·have e2:=(hlm _ _ _ _ hl2).2.1
     rw [e] at e2;cases e2
     exact (d2 _ rfl).elim
  have nsK:∀ {b:Addr} {m:Str->Option Value},sK.heap.Ns b m->(qgZ sK.heap H).Ns b m:=fun {b m} ⟨o,es,ep,e,d,r⟩=>⟨o,es,ep,base_of e (noD e (fun _ _ z=>by rw [d] at z;cases z) fun _ z=>by rw [d] at z;cases z),d,r⟩
  have hKb:K.In (qgZ sK.heap H):=fun b o e=>base_of (KX b o e) (by
   cases q:H b with
   | none=>rfl
   | some u=>rw [(hA b u q).1] at e;cases e)
  have hM:Mod K mg (qgZ sK.heap H):=⟨hKb,nsK hns,⟨mb,nsK hb,hbb⟩,let ⟨mc,h1,h2⟩:=hlim;⟨mc,nsK h1,h2⟩,
   let ⟨bm,ob,b1,b2,b3,b4,b5,b6⟩:=hbm;⟨bm,ob,b1,b2,base_of b3 (noD b3 (fun _ _ z=>by rw [b6] at z;cases z) fun _ z=>by rw [b6] at z;cases z),b4,b5,b6⟩⟩
  have e0:qgV P w K mg (qgZ sK.heap H) callerA [] sK H:=⟨rfl,hM,fun b o e=>qji e,Nat.le_of_eq (qe8 _ _),trivial,fun b hb=>absurd (show b∈([]:List Addr) from hb) (by simp),hok,.of_eq hg⟩
  refine codeAny_mono ((F _ hKb (nsK hns)).run callerA [] sK H ⟨[.ref a],[]⟩ [.ref a] [.ref a] _ _ hr e0 (hbind sK (.ref a)) (.cons rfl .nil) (hsp H hO hT hS)) fun r s' h => ?_
  cases r with
  | error e=>exact (hCX H e s' h).elim
  | ok fl =>
   cases fl with
   | next=>exact False.elim h
   | brk=>exact False.elim h
   | cont=>exact False.elim h
   | ret u =>
    obtain ⟨v,H',os,bare,un,hok',r',q⟩:=h
    have q':v = .bl true:=q
    subst q'
    obtain rfl:u=Value.bool true:=r'
    have asIt:∀ b o,sK.heap.get? b=some o->asItWas sK.heap s'.heap b o:=fun b o e=>by
     cases q:H b with
     | none=>exact .inl (un.keep b o e q (by intro z;exact absurd (show b∈([]:List Addr) from z) (by simp)) (by simp))
     | some u =>
      rcases (hA b u q).2 with ⟨ob,xs,rfl⟩ | ⟨c,pos,q2,hl2,rfl⟩
      ·have z2:=un.frzs b ob _ q
       obtain ⟨e1,_⟩:=hok b _ q
       obtain ⟨e2,_⟩:=hok' b _ z2
       rw [e] at e1;cases e1
       exact .inl e2
      ·obtain ⟨hc,e2,_⟩:=hlm _ _ _ _ hl2
       rw [e] at e2;cases e2
       rcases hok' b _ (un.tbls b pos q2 q) with z | ⟨c',oc,vs',t,_,_,_,z⟩
       ·exact .inl z
       ·exact .inr (.inl ⟨(hc.tab e).isCodeTable,rfl,#[],_,rfl,by rw [Array.empty_append];exact z⟩)
    exact ⟨rfl,⟨asIt,fun b o e=>un.there b o e (by simp)⟩,os,bare⟩
 let T:Hp:=qmS lm
 have hTb:∀ b u,T b=some u->∃ c pos q,lm=some (c,b,pos,q)/\u = .lam pos q:=fun b u z=>by
  cases hq:lm with
  | none=>simp only [T,hq,qmS] at z;cases z
  | some p =>
   obtain ⟨c,Pt,pos,q⟩:=p
   simp only [T,hq,qmS] at z
   by_cases hbp:b=Pt
   ·rw [if_pos hbp] at z;cases z
    exact ⟨c,pos,q,by rw [hbp],rfl⟩
   ·rw [if_neg hbp] at z;cases z
 have hTa:T a=none:=by
  cases q:T a with
  | none=>rfl
  | some u =>
   obtain ⟨c,pos,q2,hl2,_⟩:=hTb a u q
   have:=(hlm _ _ _ _ hl2).2.1
   rw [ha] at this;cases this
 have hTt:∀ c Pt pos q,lm=some (c,Pt,pos,q)->T Pt=some (.lam pos q):=fun c Pt pos q e=>by
  simp only [T,e,qmS,if_true]
 cases hk:K.lookup a with
 | some o =>
  have e:=KX a o hk
  rw [ha] at e
  cases e
  refine core T (fun b => ?_) hTt (.inr ⟨_,vs.toArray,_,hk,rfl,rfl,rfl,by rw [sT_,lenV];exact hl,by simpa using rv⟩) (fun b u z => ?_) (fun b u z => ?_)
  ·cases q:T b with
   | none=>exact .inl rfl
   | some u=>obtain ⟨_,pos,q2,_,rfl⟩:=hTb b u q;exact .inr (.inr ⟨pos,q2,rfl⟩)
  ·obtain ⟨c,pos,q2,hl2,rfl⟩:=hTb b u z
   exact .inl (hlm _ _ _ _ hl2).2.1
  ·obtain ⟨c,pos,q2,hl2,rfl⟩:=hTb b u z
   exact ⟨(hlm _ _ _ _ hl2).2.2,.inr ⟨c,pos,q2,hl2,rfl⟩⟩
 | none =>
  refine core (upd T a (.frz { cls := .type "list",data := .seq vs.toArray } (.lst (ns.map V.int)))) (fun b => ?_) (fun c Pt pos q e => ?_) (.inl (.inr ⟨{ cls := .type "list",data := .seq vs.toArray },qv⟩)) (fun b u z => ?_) (fun b u z => ?_)
  ·by_cases hb:b=a
   ·subst hb;exact .inr (.inl ⟨_,_,qv⟩)
   ·rw [qt hb]
    cases q:T b with
    | none=>exact .inl rfl
    | some u=>obtain ⟨_,pos,q2,_,rfl⟩:=hTb b u q;exact .inr (.inr ⟨pos,q2,rfl⟩)
  ·have h1:=hTt c Pt pos q e
   rw [qt (qH h1 hTa)]
   exact h1
  ·by_cases hb:b=a
   ·subst hb
    rw [qv] at z;cases z
    exact ⟨ha,by rw [lM_];exact hl,vs,_,rv,ha⟩
   ·rw [qt hb] at z
    obtain ⟨c,pos,q2,hl2,rfl⟩:=hTb b u z
    exact .inl (hlm _ _ _ _ hl2).2.1
  ·by_cases hb:b=a
   ·subst hb
    rw [qv] at z;cases z
    exact ⟨hk,.inl ⟨_,_,rfl⟩⟩
   ·rw [qt hb] at z
    obtain ⟨c,pos,q2,hl2,rfl⟩:=hTb b u z
    exact ⟨(hlm _ _ _ _ hl2).2.2,.inr ⟨c,pos,q2,hl2,rfl⟩⟩
end L2
namespace L2
open PySem PySem.Spec PyProof.Rows
end L2
/- THE LAST THEOREM (shape;LID,My.* are yours):
   My.Adr: a structure of the addresses that your layer names (classes,functions);My.Txt K t: a structure (Prop) of the equations over K;
   My.txt_mk:{K} {implicit addresses ..} (e1:nsIn K mainGlobals "law"=some (some (.ref f))) (e2:K.lookup f=some ⟨oc,od,.func (fnOf "law" "law" params body scope dV kV doc pm an cdv ct),sl⟩) (e3:codeIn K cdv "law"=true) .. : ∃ t,My.Txt K t
set_option maxRecDepth 100000 in
set_option maxHeartbeats 0 in
theorem PySem.Challenge.cw_LID_holds : PySem.Challenge.rw_LID.Holds := by
 w_on;o_law;k_head;(case hw=>w_witness2)
 k_fill
 refine L2.walk_of (l:=PySem.Challenge.rw_LID) (n:=63) (k:=40) (x:="script") (CX:=fun w => ..) (sp:=fun _=>My.sp_law) rfl (by decide) rfl ⟨rfl,by decide,by decide⟩ (fun w h Y=>PySem.W.kIn_of Y) ?F ?S ?C
 case F =>
  intro w mg fa h KX G hmg
  have T:∃ t,My.Txt (L2.KOf KX) t:=by
   dsimp only [L2.KOf]                          -- K must stand as «<heap const> w.params» for k_is
   refine' My.txt_mk ?e1 ?e2 ?e3 ..
   (case e1=>PySem.W.k_is)                    -- in the order: a name->its address->its object->its parts
   (case e2=>PySem.W.k_is)
   ..
  obtain ⟨t,T⟩:=T
  have e0:=hmg.symm.trans (PySem.W.mg_of KX G T.law)
  cases e0                                       -- fa is the law's own address
  exact ⟨_,fun s u => .of_eq rfl,fun base kb nb=>My.law_fn T kb nb⟩     -- if «.of_eq rfl» comes too early: refine' ⟨_,?b,fun base kb nb=>My.law_fn T kb nb⟩;exact fun s u => .of_eq rfl
 case S=>exact fun w H a ns hl hO hS => ..
 case C=>exact ..
(the tactic k_is has no namespace: write k_is) -/
namespace L2
open PySem PySem.Spec PyProof.Rows
def qF (s:Stmt):Arguments:=match s with
 | .FunctionDef _ a _ _ _ _ _ _ _ _=>a
 | _=>{ posonlyargs:=[],args:=[],vararg:=none,kwonlyargs:=[],kw_defaults:=[],kwarg:=none,defaults:=[] }
def qz (s:Stmt):List Stmt:=match s with
 | .FunctionDef _ _ b _ _ _ _ _ _ _=>b
 | _=>[]
def qd (s:Stmt):Scope:=match s with
 | .FunctionDef _ _ _ _ _ _ sc _ _ _=>sc
 | _=>{ kind := .function,names:=[],isGenerator:=false,isCoroutine:=false }
abbrev CX0:CXT:=fun _ _ _ _ _ _=>False
abbrev E0:XK:=fun _ _ _=>False
theorem qjD {X:Cx}:wW CX0 X E0:=fun _ _ _ _ _ _ _ h=>h.elim
structure Fun (K:PySem.W.Frag) (x qual:Str) (st:Stmt) (f:Addr) (fd:FuncData):Prop where
 ex:∃ (oc:Value) (od:Option Addr) (kV doc pm:Value) (an:Option Addr) (cdv ct:Value) (osl:Array (Option Value)),
  fd=PySem.W.fnOf x qual (qF st) (qz st) (qd st) .none kV doc pm an cdv ct/\K.lookup f=some ⟨oc,od,.func fd,osl⟩/\PySem.W.codeIn K cdv qual=true
 kp:PySem.W.keepIn K (.ref f)=true
section
variable {P:Program} {w:World} {K:PySem.W.Frag} {mg:Str->Option Value} {base:Heap}
theorem Fun.ok {x qual:Str} {st:Stmt} {f:Addr} {fd:FuncData} {N ps:List Str} {k:Nat} {sp:Sp} (F:Fun K x qual st f fd) (S:qC N ps (qd st)) (len:∀ vs H Q E,sp vs H Q E->vs.length=ps.length)
  (hbody:∀ (cdv:Value) (A:Around) (outer:List Env) (s:Shared) (H:Hp) (vs:List V) (Q:VK) (E:XK),yo k (A.deeper (envOfC qual (qd st) s.heap.objs.size f cdv))->sp vs H Q E ->
   ∃ t,PSs (qgW CX0 P w K mg base N qual (qd st) f cdv A outer s H E).nox (qz st) t/\t { nx:=fun _ H'=>Q .non H',rt:=Q } (z4 N vs) H):u7 P w K mg base CX0 (k+1) f fd ps sp:=by
 obtain ⟨oc,od,kV,doc,pm,an,cdv,ct,osl,rfl,lk,hcd⟩:=F.ex
 refine qlq lk hcd S len fun A outer s H vs Q E hr hsp => ?_
 obtain ⟨t,h,q⟩:=hbody cdv A outer s H vs Q E hr hsp
 exact ⟨t,h.nox,q⟩
theorem Fun.binds {x qual:Str} {st:Stmt} {f:Addr} {fd:FuncData} {ps:List Str} (F:Fun K x qual st f fd)
  (h:∀ (kV doc pm:Value) (an:Option Addr) (cdv ct:Value) (us:List Value),us.length=ps.length->bindArgs (PySem.W.fnOf x qual (qF st) (qz st) (qd st) .none kV doc pm an cdv ct) ⟨us,[]⟩=pure (ps.zip us)):uK K fd ps []:=by
 obtain ⟨oc,od,kV,doc,pm,an,cdv,ct,osl,rfl,lk,hcd⟩:=F.ex
 exact .all (h kV doc pm an cdv ct)
theorem zj {x qual:Str} {st:Stmt} {f:Addr} {oc:Value} {od an:Option Addr} {osl:Array (Option Value)} {kV doc pm cdv ct:Value} (l:K.lookup f=some ⟨oc,od,.func (PySem.W.fnOf x qual (qF st) (qz st) (qd st) .none kV doc pm an cdv ct),osl⟩)
  (c:PySem.W.codeIn K cdv qual=true) (k:PySem.W.keepIn K (.ref f)=true):Fun K x qual st f (PySem.W.fnOf x qual (qF st) (qz st) (qd st) .none kV doc pm an cdv ct):=⟨⟨oc,od,kV,doc,pm,an,cdv,ct,osl,rfl,l,c⟩,k⟩
end
section
variable {X:Cx}
end
theorem qlz {A B:Prop} (h:B):if false=true then A else B:=by
 rw [if_neg Bool.false_ne_true]
 exact h
theorem qlA {A B:Prop} (h:A):if true=true then A else B:=by
 rw [if_pos rfl]
 exact h
def zQ (H H':Hp):Prop:=∀ b o,H b=some o->H' b=some o
theorem zQ.refl (H:Hp):zQ H H:=fun _ _ h=>h
theorem zQ.trans {H H1 H2:Hp} (a:zQ H H1) (b:zQ H1 H2):zQ H H2:=fun c o h=>b c o (a c o h)
theorem zQ.free {H H':Hp} (e:zQ H H') {l:Addr} (h:H' l=Option.none):H l=Option.none:=by
 cases q:H l with
 | none=>rfl
 | some o =>
  rw [e l o q] at h
  cases h
end L2
namespace L2.Sk
open PySem PySem.Spec PyProof.Rows
inductive D where
 | non | bl (b:Bool) | int (i:Int) | str (x:Str) | tup (xs:List D) | lst (xs:List D) | dic (kvs:List (Key×Int)) | fz (ns:List Int)
 | exc (n:Str)
abbrev Fr0:=PySem.W.Frag
def qlB:FuncBody->Option Pos
 | .stmts [_,_,.Return (some (.Call _ _ [⟨_,.Lambda _ _ _ pos,_⟩] _)) _]=>some pos
 | _=>none
def lamOf (K:Fr0):Option (Addr×Addr×Pos):=match PySem.W.tabIn K "dearest_first",PySem.W.nsIn K mainGlobals "dearest_first" with
 | some (c,P),some (some (.ref f))=>(match K.lookup f with
  | some ⟨_,_,.func fd,_⟩=>(qlB fd.body).map fun pos=>(c,P,pos)
  | _=>none)
 | _,_=>none
abbrev qnr:Str:="dearest_first.<locals>.<lambda>"
def qn7 (K:Fr0) (H:Hp) (Io:Addr->Prop):Prop:=∀ c P pos,lamOf K=some (c,P,pos)->H P=some (.lam pos qnr)/\¬ Io P
abbrev qcm (K:Fr0) (H:Hp):Prop:=qn7 K H fun _=>False
theorem qcm.same {K:Fr0} {H H':Hp} (h:qcm K H) (s:zQ H H'):qcm K H':=fun c P pos e=>⟨s _ _ (h c P pos e).1,fun z=>z⟩
structure XK6 (K:Fr0) (D:Addr):Prop where
 ga:PySem.W.findIn K (.ref D) "__getattribute__"=some (some (.builtin "BaseException.__getattribute__"))
 gt:PySem.W.findIn K (.ref D) "__getattr__"=some none
 cl:PySem.W.findIn K (.ref D) "__class__"=some (some (.builtin "object.__class__"))
 ob:PySem.W.mroIn K D (.type "object")=some true
 be:PySem.W.subIn K (.ref D) (.type "BaseException")=some true
 is:(PySem.W.clsIn K D).isSome=true
 no:∀ T∈["int","bool","str","tuple","list","dict"],PySem.W.kitOne K (.ref D) (.type T)=some false
def uL (K:Fr0) (n:Str):Option Addr:=match PySem.W.nsIn K mainGlobals n with
 | some (some (.ref C))=>some C
 | _=>none
def clR (K:Fr0) (RN:List Str) (n:Str):Option Addr:=if RN.contains n then uL K n else none
theorem qdG {K:Fr0} {RN:List Str} {n:Str} {C:Addr} (h:clR K RN n=some C):RN.contains n=true/\uL K n=some C:=by
 unfold clR at h
 split at h
 ·rename_i hn;exact ⟨hn,h⟩
 ·cases h
def qoI (K:Fr0) (H:Hp) (a:Addr) (n:Str):Prop:=∃ C,uL K n=some C/\XK6 K C/\∃ o vs,H a=some (.frz o (.own a))/\o.cls = .ref C/\o.data = .fields vs
def TupAt (K:Fr0) (H:Hp) (a:Addr) (xs:List V):Prop :=
 H a=some (.tup xs)\/∃ (o:Obj) (its:Array Value) (n:Nat),K.lookup a=some o/\o.cls = .type "tuple"/\o.data = .seq its n/\its.size<=sizeLine/\qW xs its.toList
def qlC (K:Fr0) (H:Hp) (a:Addr) (xs:List V):Prop :=
 (∃ o,H a=some (.frz o (.lst xs)))\/∃ (o:Obj) (its:Array Value) (n:Nat),K.lookup a=some o/\o.cls = .type "list"/\o.dict=none/\o.data = .seq its n/\its.size<=sizeLine/\qW xs its.toList
theorem TupAt.sq {K:Fr0} {H:Hp} {a:Addr} {xs:List V} (h:TupAt K H a xs):SqT K H a xs:=by
 rcases h with h | h
 ·exact .inl (.inl h)
 ·exact .inr h
theorem qlC.sq {K:Fr0} {H:Hp} {a:Addr} {xs:List V} (h:qlC K H a xs):SqL K H a xs:=by
 rcases h with h | h
 ·exact .inl (.inr h)
 ·exact .inr h
mutual
def Is (K:Fr0) (A:Addr->Prop) (H:Hp):D->V->Prop
 | .non,v=>v = .non
 | .bl b,v=>v = .bl b
 | .int i,v=>v = .int i
 | .str x,v=>v = .str x
 | .tup ds,v=>∃ a xs,v = .ref a/\TupAt K H a xs/\IsL K A H ds xs
 | .lst ds,v=>∃ a xs,v = .ref a/\A a/\H a=some (.lst xs)/\IsL K A H ds xs
 | .dic kvs,v=>∃ a,v = .ref a/\A a/\H a=some (.dK (kvs.map fun p=>(p.1,V.int p.2)))
 | .fz ns,v=>∃ a,v = .ref a/\qlC K H a (ns.map V.int)
 | .exc n,v=>∃ a,v = .ref a/\qoI K H a n
def IsL (K:Fr0) (A:Addr->Prop) (H:Hp):List D->List V->Prop
 | [],xs=>xs=[]
 | d::ds,xs=>∃ x ys,xs=x::ys/\Is K A H d x/\IsL K A H ds ys
end
mutual
def imm:D->Bool
 | .tup ds=>immL ds
 | .lst _=>false
 | .dic _=>false
 | .fz _=>false
 | _=>true
def immL:List D->Bool
 | []=>true
 | d::ds=>imm d&&immL ds
end
structure Ext (A:Addr->Prop) (H H':Hp):Prop where
 tup:∀ b xs,H b=some (.tup xs)->H' b=some (.tup xs)
 frz:∀ b o u,H b=some (.frz o u)->H' b=some (.frz o u)
 at_:∀ b o,A b->H b=some o->H' b=some o
theorem Ext.refl {A:Addr->Prop} {H:Hp}:Ext A H H:=⟨fun _ _ h=>h,fun _ _ _ h=>h,fun _ _ _ h=>h⟩
theorem Ext.of_same {A:Addr->Prop} {H H':Hp} (s:zQ H H'):Ext A H H':=⟨fun b xs h=>s b _ h,fun b o u h=>s b _ h,fun b o _ h=>s b o h⟩
mutual
theorem Is.ext {K:Fr0} {A B:Addr->Prop} {H H':Hp} (e:Ext A H H') (hAB:∀ a,A a->(H a).isSome=true->B a):∀ {d:D} {v:V},Is K A H d v->Is K B H' d v
 | .non,_,h=>h
 | .bl _,_,h=>h
 | .int _,_,h=>h
 | .str _,_,h=>h
 | .tup ds,_,⟨a,xs,hv,h,r⟩=>⟨a,xs,hv,h.elim (fun h => .inl (e.tup _ _ h)) .inr,IsL.ext e hAB r⟩
 | .lst ds,_,⟨a,xs,hv,hA,h,r⟩=>⟨a,xs,hv,hAB a hA (by rw [h];rfl),e.at_ _ _ hA h,IsL.ext e hAB r⟩
 | .dic kvs,_,⟨a,hv,hA,h⟩=>⟨a,hv,hAB a hA (by rw [h];rfl),e.at_ _ _ hA h⟩
 | .fz ns,_,⟨a,hv,h⟩=>⟨a,hv,h.elim (fun ⟨o,h⟩ => .inl ⟨o,e.frz _ _ _ h⟩) .inr⟩
 | .exc n,_,⟨a,hv,C,hc,hk,o,vs,h,r⟩=>⟨a,hv,C,hc,hk,o,vs,e.frz _ _ _ h,r⟩
theorem IsL.ext {K:Fr0} {A B:Addr->Prop} {H H':Hp} (e:Ext A H H') (hAB:∀ a,A a->(H a).isSome=true->B a):∀ {ds:List D} {xs:List V},IsL K A H ds xs->IsL K B H' ds xs
 | [],_,h=>h
 | _::_,_,⟨x,ys,hx,h,r⟩=>⟨x,ys,hx,Is.ext e hAB h,IsL.ext e hAB r⟩
end
mutual
theorem Is.imm {K:Fr0} {A B:Addr->Prop} {H:Hp}:∀ {d:D} {v:V},imm d=true->Is K A H d v->Is K B H d v
 | .non,_,_,h=>h
 | .bl _,_,_,h=>h
 | .int _,_,_,h=>h
 | .str _,_,_,h=>h
 | .tup ds,_,i,⟨a,xs,hv,h,r⟩=>⟨a,xs,hv,h,IsL.imm (by simpa [Sk.imm] using i) r⟩
 | .lst _,_,i,_=>by simp [Sk.imm] at i
 | .dic _,_,i,_=>by simp [Sk.imm] at i
 | .fz _,_,i,_=>by simp [Sk.imm] at i
 | .exc _,_,_,h=>h
theorem IsL.imm {K:Fr0} {A B:Addr->Prop} {H:Hp}:∀ {ds:List D} {xs:List V},immL ds=true->IsL K A H ds xs->IsL K B H ds xs
 | [],_,_,h=>h
 | d::ds,_,i,⟨x,ys,hx,h,r⟩=>by
  have i':Sk.imm d=true/\immL ds=true:=by simpa [immL] using i
  exact ⟨x,ys,hx,Is.imm i'.1 h,IsL.imm i'.2 r⟩
end
theorem IsL.length {K:Fr0} {A:Addr->Prop} {H:Hp}:∀ {ds:List D} {xs:List V},IsL K A H ds xs->xs.length=ds.length
 | [],_,h=>by rw [h];rfl
 | _::_,_,⟨x,ys,hx,_,r⟩=>by rw [hx,lC_,lC_,IsL.length r]
theorem IsL.get {K:Fr0} {A:Addr->Prop} {H:Hp}:∀ {ds:List D} {xs:List V} {i:Nat} {d:D},IsL K A H ds xs->ds[i]? = some d->∃ x,xs[i]? = some x/\Is K A H d x
 | [],_,_,_,_,h=>by simp at h
 | e::_,_,0,d,⟨x,ys,hx,h,r⟩,hd=>by
  have e1:e=d:=by simpa using hd
  subst e1
  exact ⟨x,by rw [hx];rfl,h⟩
 | _::ds,_,i+1,d,⟨x,ys,hx,h,r⟩,hd=>by
  obtain ⟨y,h1,h2⟩:=IsL.get (i:=i) (d:=d) r (by simpa using hd)
  exact ⟨y,by rw [hx];simpa using h1,h2⟩
theorem IsL.append {K:Fr0} {A:Addr->Prop} {H:Hp}:∀ {ds es:List D} {xs ys:List V},IsL K A H ds xs->IsL K A H es ys->IsL K A H (ds++es) (xs++ys)
 | [],_,_,_,h,g=>by rw [h];exact g
 | _::_,_,_,_,⟨x,zs,hx,h,r⟩,g=>⟨x,zs++_,by rw [hx];rfl,h,IsL.append r g⟩
theorem IsL.take {K:Fr0} {A:Addr->Prop} {H:Hp}:∀ {ds:List D} {xs:List V} (n:Nat),IsL K A H ds xs->IsL K A H (ds.take n) (xs.take n)
 | _,_,0,_=>by simp [IsL]
 | [],_,_+1,h=>by rw [h];simp [IsL]
 | _::_,_,n+1,⟨x,ys,hx,h,r⟩=>by rw [hx];exact ⟨x,ys.take n,rfl,h,IsL.take n r⟩
theorem IsL.drop {K:Fr0} {A:Addr->Prop} {H:Hp}:∀ {ds:List D} {xs:List V} (n:Nat),IsL K A H ds xs->IsL K A H (ds.drop n) (xs.drop n)
 | _,_,0,h=>h
 | [],_,_+1,h=>by rw [h];simp [IsL]
 | _::_,_,n+1,⟨x,ys,hx,h,r⟩=>by rw [hx];exact IsL.drop n r
theorem IsL.one {K:Fr0} {A:Addr->Prop} {H:Hp} {d:D} {v:V} (h:Is K A H d v):IsL K A H [d] [v]:=⟨v,[],rfl,h,rfl⟩
theorem IsL.set {K:Fr0} {A:Addr->Prop} {H:Hp} {d:D} {v:V} (hd:Is K A H d v):∀ {ds:List D} {xs:List V} (n:Nat),IsL K A H ds xs->IsL K A H (ds.set n d) (xs.set n v)
 | [],_,_,h=>by rw [h];simp [IsL]
 | _::_,_,0,⟨x,ys,hx,h,r⟩=>by rw [hx];exact ⟨v,ys,rfl,hd,r⟩
 | _::_,_,n+1,⟨x,ys,hx,h,r⟩=>by rw [hx];exact ⟨x,ys.set n v,rfl,h,IsL.set hd n r⟩
abbrev Env:=List (Option D)
structure Exn where
 cls:Str
 val:D
inductive R (α:Type) where
 | ok (a:α) | exc (x:Exn) (U:Env) | bad
structure Fc where
 O:List Nat
 P:List Nat
 B:Addr->Prop
 H0:Hp
 Io:Addr->Prop
 E:Exn->Hp->Prop
 S:Nat->Option (Option V)
def Cl (O:List Nat) (Z:St) (a:Addr):Prop:=∀ j∈O,Z[j]? ≠ some (some (.ref a))
def Cn (c:Fc) (Z:St) (a:Addr):Prop:=c.B a/\Cl c.O Z a
structure Rep (K:Fr0) (c:Fc) (U:Env) (Z:St) (H:Hp):Prop where
 len:U.length=Z.length
 val:∀ i d,U[i]? = some (some d)->∃ v,Z[i]? = some (some v) /\
  ((i∈c.O/\∃ ds a xs,d = .lst ds/\v = .ref a/\H a=some (.lst xs)/\IsL K (Cn c Z) H ds xs)\/(i ∉ c.O/\Is K (Cn c Z) H d v))
 own:∀ j∈c.O,∀ v,Z[j]? = some (some v)->∃ a xs,v = .ref a/\H a=some (.lst xs)/\(c.H0 a=none\/(j∈c.P/\c.Io a))
 inj:∀ i j a,i∈c.O->j∈c.O->Z[i]? = some (some (.ref a))->Z[j]? = some (some (.ref a))->i=j
 b0:(∀ a,c.H0 a=none->c.B a)/\qn7 K c.H0 c.Io
 kp:∀ b o,c.H0 b=some o->¬ c.Io b->H b=some o
 dm:∀ b,H b=none->c.H0 b=none
 pO:∀ j∈c.P,j∈c.O
 ps:∀ j∈c.P,Z[j]? = c.S j
theorem Rep.tb {K:Fr0} {c:Fc} {U:Env} {Z:St} {H:Hp} (r:Rep K c U Z H):qcm K H:=fun q P pos e=>⟨r.kp P _ (r.b0.2 q P pos e).1 (r.b0.2 q P pos e).2,fun z=>z⟩
structure Gr (O:List Nat) (Z:St) (H H':Hp):Prop where
 ext:Ext (Cl O Z) H H'
 dom:∀ b,H' b=none->H b=none
theorem Gr.refl {O:List Nat} {Z:St} {H:Hp}:Gr O Z H H:=⟨Ext.refl,fun _ h=>h⟩
theorem Gr.of_same {O:List Nat} {Z:St} {H H':Hp} (s:zQ H H'):Gr O Z H H':=⟨Ext.of_same s,fun _ h=>s.free h⟩
theorem Gr.trans {O:List Nat} {Z:St} {H H1 H2:Hp} (a:Gr O Z H H1) (b:Gr O Z H1 H2):Gr O Z H H2 :=
 ⟨⟨fun c xs h=>b.ext.tup c xs (a.ext.tup c xs h),fun c o u h=>b.ext.frz c o u (a.ext.frz c o u h),fun c o hc h=>b.ext.at_ c o hc (a.ext.at_ c o hc h)⟩,fun c h=>a.dom c (b.dom c h)⟩
theorem Gr.cn {c:Fc} {Z:St} {H H':Hp} (g:Gr c.O Z H H'):Ext (Cn c Z) H H':=⟨g.ext.tup,g.ext.frz,fun b o hb h=>g.ext.at_ b o hb.2 h⟩
theorem Gr.is {K:Fr0} {c:Fc} {Z:St} {H H':Hp} {d:D} {v:V} (g:Gr c.O Z H H') (h:Is K (Cn c Z) H d v):Is K (Cn c Z) H' d v:=Is.ext g.cn (fun _ h _=>h) h
theorem Gr.isL {K:Fr0} {c:Fc} {Z:St} {H H':Hp} {d:List D} {v:List V} (g:Gr c.O Z H H') (h:IsL K (Cn c Z) H d v):IsL K (Cn c Z) H' d v:=IsL.ext g.cn (fun _ h _=>h) h
theorem Rep.new {K:Fr0} {c:Fc} {U:Env} {Z:St} {H:Hp} (r:Rep K c U Z H) {a:Addr} (h:H a=none):Cn c Z a :=
 ⟨r.b0.1 a (r.dm a h),fun j hj e=>by obtain ⟨b,xs,e1,e2,_⟩:=r.own j hj _ e;cases e1;rw [h] at e2;cases e2⟩
theorem Rep.same {K:Fr0} {c:Fc} {U:Env} {Z:St} {H H':Hp} (r:Rep K c U Z H) (s:zQ H H'):Rep K c U Z H' where
 len:=r.len
 val:=fun i d h=>by
  obtain ⟨v,h1,h2⟩:=r.val i d h
  refine ⟨v,h1,?_⟩
  rcases h2 with ⟨hi,ds,a,xs,h3,h5,h6,h7⟩ | ⟨hi,h3⟩
  ·exact .inl ⟨hi,ds,a,xs,h3,h5,s _ _ h6,IsL.ext (Ext.of_same s) (fun _ h _=>h) h7⟩
  ·exact .inr ⟨hi,Is.ext (Ext.of_same s) (fun _ h _=>h) h3⟩
 own:=fun j hj v h=>by
  obtain ⟨a,xs,h1,h2,h3⟩:=r.own j hj v h
  exact ⟨a,xs,h1,s _ _ h2,h3⟩
 inj:=r.inj
 b0:=r.b0
 kp:=fun b o h1 h2=>s _ _ (r.kp b o h1 h2)
 dm:=fun b h=>r.dm b (s.free h)
 pO:=r.pO
 ps:=r.ps
theorem Rep.get {K:Fr0} {c:Fc} {U:Env} {Z:St} {H:Hp} (r:Rep K c U Z H) {i:Nat} {d:D} (hi:i ∉ c.O) (h:U[i]? = some (some d)):∃ v,Z[i]? = some (some v)/\Is K (Cn c Z) H d v:=by
 obtain ⟨v,h1,h2⟩:=r.val i d h
 rcases h2 with ⟨h3,_⟩ | ⟨_,h3⟩
 ·exact absurd h3 hi
 ·exact ⟨v,h1,h3⟩
theorem Rep.getO {K:Fr0} {c:Fc} {U:Env} {Z:St} {H:Hp} (r:Rep K c U Z H) {i:Nat} {d:D} (hi:i∈c.O) (h:U[i]? = some (some d)) :
  ∃ ds a xs,d = .lst ds/\Z[i]? = some (some (.ref a))/\H a=some (.lst xs)/\IsL K (Cn c Z) H ds xs:=by
 obtain ⟨v,h1,h2⟩:=r.val i d h
 rcases h2 with ⟨_,ds,a,xs,h3,h5,h6,h7⟩ | ⟨h3,_⟩
 ·subst h5;exact ⟨ds,a,xs,h3,h1,h6,h7⟩
 ·exact absurd hi h3
abbrev M (α:Type):=Env->R (α×Env)
def Wp (K:Fr0) (c:Fc) (Z:St) (H:Hp) (Q:VK):R (D×Env)->Prop
 | .ok (d,U)=>∀ v H',Rep K c U Z H'->Is K (Cn c Z) H' d v->Gr c.O Z H H'->Q v H'
 | .exc x U=>∀ H',Rep K c U Z H'->Gr c.O Z H H'->c.E x H'
 | .bad=>False
def WpB (K:Fr0) (c:Fc) (Z:St) (H:Hp) (Q:Bool->Hp->Prop):R (Bool×Env)->Prop
 | .ok (b,U)=>∀ H',Rep K c U Z H'->Gr c.O Z H H'->Q b H'
 | .exc x U=>∀ H',Rep K c U Z H'->Gr c.O Z H H'->c.E x H'
 | .bad=>False
def WpL (K:Fr0) (c:Fc) (Z:St) (H:Hp) (Q:List V->Hp->Prop):R (List D×Env)->Prop
 | .ok (ds,U)=>∀ vs H',Rep K c U Z H'->IsL K (Cn c Z) H' ds vs->Gr c.O Z H H'->Q vs H'
 | .exc x U=>∀ H',Rep K c U Z H'->Gr c.O Z H H'->c.E x H'
 | .bad=>False
def DE (X:Cx) (c:Fc) (e:Expr) (f:M D):Prop:=∃ t,PE X e t/\∀ U Z H Q,Rep X.K c U Z H->Wp X.K c Z H Q (f U)->t Z H Q
def DT (X:Cx) (c:Fc) (e:Expr) (f:M Bool):Prop:=∃ t,PT X e t/\∀ U Z H Q,Rep X.K c U Z H->WpB X.K c Z H Q (f U)->t Z H Q
def DA (X:Cx) (c:Fc) (es:List Expr) (f:M (List D)):Prop:=∃ t,PA X es t/\∀ U Z H Q,Rep X.K c U Z H->WpL X.K c Z H Q (f U)->t Z H Q
def ret {α:Type} (a:α):M α:=fun U => .ok (a,U)
def bnd {α β:Type} (f:M α) (k:α->M β):M β:=fun U=>match f U with
 | .ok (a,U')=>k a U'
 | .exc x U' => .exc x U'
 | .bad => .bad
def lift {α:Type}:Option α->M α
 | some a=>ret a
 | none=>fun _ => .bad
theorem qiq {α β:Type} {f:M α} {k:α->M β} {U U':Env} {a:α} (h:f U = .ok (a,U')):bnd f k U=k a U':=by unfold bnd;rw [h]
section
variable {K:Fr0} {c:Fc} {Z:St} {H H1:Hp} {Q:VK} {QB:Bool->Hp->Prop} {QL:List V->Hp->Prop} {r:R (D×Env)}
theorem Wp.gr:∀ {r:R (D×Env)},Wp K c Z H Q r->Gr c.O Z H H1->Wp K c Z H1 Q r
 | .ok (d,U),h,g=>fun v H' hr hi hg=>h v H' hr hi (g.trans hg)
 | .exc x U,h,g=>fun H' hr hg=>h H' hr (g.trans hg)
 | .bad,h,_=>h
theorem WpB.gr:∀ {r:R (Bool×Env)},WpB K c Z H QB r->Gr c.O Z H H1->WpB K c Z H1 QB r
 | .ok (d,U),h,g=>fun H' hr hg=>h H' hr (g.trans hg)
 | .exc x U,h,g=>fun H' hr hg=>h H' hr (g.trans hg)
 | .bad,h,_=>h
theorem WpL.gr:∀ {r:R (List D×Env)},WpL K c Z H QL r->Gr c.O Z H H1->WpL K c Z H1 QL r
 | .ok (d,U),h,g=>fun v H' hr hi hg=>h v H' hr hi (g.trans hg)
 | .exc x U,h,g=>fun H' hr hg=>h H' hr (g.trans hg)
 | .bad,h,_=>h
theorem Wp.bnd {f:M D} {k:D->M D} {U:Env} {Q':VK} (h:Wp K c Z H Q (bnd f k U)) (hQ:∀ d U' v H',Rep K c U' Z H'->Is K (Cn c Z) H' d v->Gr c.O Z H H'->Wp K c Z H' Q (k d U')->Q' v H'):Wp K c Z H Q' (f U):=by
 unfold Sk.bnd at h
 cases e:f U with
 | ok p=>rw [e] at h;exact fun v H' hr hi hg=>hQ p.1 p.2 v H' hr hi hg (h.gr hg)
 | exc x U'=>rw [e] at h;exact h
 | bad=>rw [e] at h;exact h
theorem Wp.bndB {f:M D} {k:D->M Bool} {U:Env} {Q':VK} (h:WpB K c Z H QB (Sk.bnd f k U)) (hQ:∀ d U' v H',Rep K c U' Z H'->Is K (Cn c Z) H' d v->Gr c.O Z H H'->WpB K c Z H' QB (k d U')->Q' v H'):Wp K c Z H Q' (f U):=by
 unfold Sk.bnd at h
 cases e:f U with
 | ok p=>rw [e] at h;exact fun v H' hr hi hg=>hQ p.1 p.2 v H' hr hi hg (h.gr hg)
 | exc x U'=>rw [e] at h;exact h
 | bad=>rw [e] at h;exact h
theorem Wp.bndL {f:M D} {k:D->M (List D)} {U:Env} {Q':VK} (h:WpL K c Z H QL (Sk.bnd f k U)) (hQ:∀ d U' v H',Rep K c U' Z H'->Is K (Cn c Z) H' d v->Gr c.O Z H H'->WpL K c Z H' QL (k d U')->Q' v H'):Wp K c Z H Q' (f U):=by
 unfold Sk.bnd at h
 cases e:f U with
 | ok p=>rw [e] at h;exact fun v H' hr hi hg=>hQ p.1 p.2 v H' hr hi hg (h.gr hg)
 | exc x U'=>rw [e] at h;exact h
 | bad=>rw [e] at h;exact h
theorem WpB.bndB {f:M Bool} {k:Bool->M Bool} {U:Env} {Q':Bool->Hp->Prop} (h:WpB K c Z H QB (Sk.bnd f k U)) (hQ:∀ d U' H',Rep K c U' Z H'->Gr c.O Z H H'->WpB K c Z H' QB (k d U')->Q' d H'):WpB K c Z H Q' (f U):=by
 unfold Sk.bnd at h
 cases e:f U with
 | ok p=>rw [e] at h;exact fun H' hr hg=>hQ p.1 p.2 H' hr hg (h.gr hg)
 | exc x U'=>rw [e] at h;exact h
 | bad=>rw [e] at h;exact h
theorem WpL.bnd {f:M (List D)} {k:List D->M D} {U:Env} {Q':List V->Hp->Prop} (h:Wp K c Z H Q (Sk.bnd f k U)) (hQ:∀ d U' v H',Rep K c U' Z H'->IsL K (Cn c Z) H' d v->Gr c.O Z H H'->Wp K c Z H' Q (k d U')->Q' v H'):WpL K c Z H Q' (f U):=by
 unfold Sk.bnd at h
 cases e:f U with
 | ok p=>rw [e] at h;exact fun v H' hr hi hg=>hQ p.1 p.2 v H' hr hi hg (h.gr hg)
 | exc x U'=>rw [e] at h;exact h
 | bad=>rw [e] at h;exact h
theorem WpL.bndL {f:M (List D)} {k:List D->M (List D)} {U:Env} {Q':List V->Hp->Prop} (h:WpL K c Z H QL (Sk.bnd f k U)) (hQ:∀ d U' v H',Rep K c U' Z H'->IsL K (Cn c Z) H' d v->Gr c.O Z H H'->WpL K c Z H' QL (k d U')->Q' v H'):WpL K c Z H Q' (f U):=by
 unfold Sk.bnd at h
 cases e:f U with
 | ok p=>rw [e] at h;exact fun v H' hr hi hg=>hQ p.1 p.2 v H' hr hi hg (h.gr hg)
 | exc x U'=>rw [e] at h;exact h
 | bad=>rw [e] at h;exact h
theorem Wp.lift {o:Option D} {U:Env} (h:Wp K c Z H Q (Sk.lift o U)):∃ d,o=some d/\∀ v H',Rep K c U Z H'->Is K (Cn c Z) H' d v->Gr c.O Z H H'->Q v H':=by
 cases o with
 | none=>exact h.elim
 | some d=>exact ⟨d,rfl,h⟩
end
section
variable {X:Cx} {c:Fc} {a b e:Expr} {pos:Pos}
theorem qh {i j pos}:DE X c (.Constant (.int i) j pos) (ret (.int i)):=⟨_,qkZ,fun _ _ H Q r h=>h _ H r rfl .refl⟩
theorem qaQ {i j pos}:DE X c (.Constant (.bool i) j pos) (ret (.bl i)):=⟨_,qm1,fun _ _ H Q r h=>h _ H r rfl .refl⟩
theorem qdH {j pos}:DE X c (.Constant .none j pos) (ret .non):=⟨_,qk0,fun _ _ H Q r h=>h _ H r rfl .refl⟩
theorem yR {x j pos}:DE X c (.Constant (.str x) j pos) (ret (.str x)):=⟨_,qk1,fun _ _ H Q r h=>h _ H r rfl .refl⟩
def dv (i:Nat):M D:=fun U=>match U[i]? with
 | some (some d) => .ok (d,U)
 | _ => .bad
theorem qc (i:Nat) {x:Str} (ho:i ∉ c.O:=by exact of_decide_eq_false rfl) (hN:X.N[i]? = some x:=by rfl) (hv:Vis X.env.scope x:=by first | exact Or.inl rfl | exact Or.inr (Or.inl rfl) | exact Or.inr (Or.inr rfl)) (hd:(x==("__debug__":Str))=false:=by decide)
  (hcd:(x==("__classdict__":Str))=false:=by decide):DE X c (.Name x pos) (dv i):=by
 refine ⟨_,uE hN hv hd hcd,fun U Z H Q r h => ?_⟩
 unfold dv at h
 split at h
 ·rename_i d e
  obtain ⟨v,h1,h2⟩:=r.get ho e
  exact ⟨v,h1,h v H r h2 .refl⟩
 ·exact h.elim
theorem qfv {x:Str} {v:V} {u:Value} {d:D} (hg:Gl X x) (hm:X.mg x=some u) (rv:ji v u) (hd:∀ H A,Is X.K A H d v) (hdb:(x==("__debug__":Str))=false:=by decide):DE X c (.Name x pos) (ret d) :=
 ⟨_,qbq hg hm rv hdb,fun _ _ H Q r h=>h _ H r (hd _ _) .refl⟩
theorem qe:DA X c [] (ret []):=⟨_,vb,fun _ _ H Q r h=>h _ H r rfl .refl⟩
def qa (f:M D) (g:M (List D)):M (List D):=bnd f fun d=>bnd g fun ds=>ret (d::ds)
theorem qb {es:List Expr} {f:M D} {g:M (List D)} (ha:DE X c e f) (hr:DA X c es g) (hs:starEach (e::es) X.env=(false,eval e X.env)::starEach es X.env:=by rfl):DA X c (e::es) (qa f g):=by
 obtain ⟨ta,pa,wa⟩:=ha
 obtain ⟨tr,pr,wr⟩:=hr
 refine ⟨_,jz pa pr hs,fun U Z H Q r h=>wa U Z H _ r (Wp.bndL h fun d U1 v H1 r1 i1 g1 h1=>wr U1 Z H1 _ r1 (WpL.bndL h1 fun ds U2 vs H2 r2 i2 g2 h2 => ?_))⟩
 exact h2 _ H2 r2 ⟨v,vs,rfl,g2.is i1,i2⟩ .refl
def qQ (n:Nat):Bool:=decide (n<=sizeLine)
def zW (f:M (List D)):M D:=bnd f fun ds=>lift (if qQ ds.length then some (.tup ds) else none)
def jA (f:M (List D)):M D:=bnd f fun ds=>lift (if qQ ds.length then some (.lst ds) else none)
theorem qB {H:Hp} {p:Addr} (h:H p=none) (o:HO):zQ H (upd H p o):=fun b u q=>by rw [qt (qH q h)];exact q
theorem Rep.laid {K:Fr0} {U:Env} {Z:St} {H:Hp} (r:Rep K c U Z H) {p:Addr} (h:H p=none) (o:HO):Rep K c U Z (upd H p o):=r.same (qB h o)
theorem zL {p:Bool} {d e:D} (h:(if p then some d else none)=some e):p=true/\d=e:=by
 cases p with
 | true=>exact ⟨rfl,by simpa using h⟩
 | false=>simp at h
theorem jB {es:List Expr} {x1} {f:M (List D)} (h:DA X c es f):DE X c (.Tuple es x1 pos) (zW f):=by
 obtain ⟨t,p,w⟩:=h
 refine ⟨_,qln p,fun U Z H Q r h=>w U Z H _ r (WpL.bnd h fun ds U1 vs H1 r1 i1 g1 h1 => ?_)⟩
 obtain ⟨d,e,h2⟩:=h1.lift
 obtain ⟨e1,e2⟩:=zL e
 subst e2
 refine ⟨by rw [i1.length];exact of_decide_eq_true e1,fun p hp=>h2 _ _ (r1.laid hp _) ⟨p,vs,rfl,.inl qv,IsL.ext (Ext.of_same (qB hp _)) (fun _ h _=>h) i1⟩ (.of_same (qB hp _))⟩
theorem jC {es:List Expr} {f:M (List D)} (h:DA X c es f):DE X c (.List es pos) (jA f):=by
 obtain ⟨t,p,w⟩:=h
 refine ⟨_,qio p,fun U Z H Q r h=>w U Z H _ r (WpL.bnd h fun ds U1 vs H1 r1 i1 g1 h1 => ?_)⟩
 obtain ⟨d,e,h2⟩:=h1.lift
 obtain ⟨e1,e2⟩:=zL e
 subst e2
 refine ⟨by rw [i1.length];exact of_decide_eq_true e1,fun p hp=>h2 _ _ (r1.laid hp _) ⟨p,vs,rfl,r1.new hp,qv,IsL.ext (Ext.of_same (qB hp _)) (fun _ h _=>h) i1⟩ (.of_same (qB hp _))⟩
def OpS (K:Fr0) (F:D->D->Option D) (r:R2):Prop:=∀ (A:Addr->Prop) (H:Hp) (x y d:D) (v u:V) (Q:VK),(∀ a,H a=none->A a)->Is K A H x v->Is K A H y u->F x y=some d ->
 (∀ w H',zQ H H'->Is K A H' d w->Q w H')->r v u H Q
def d2 (F:D->D->Option D) (f g:M D):M D:=bnd f fun x=>bnd g fun y=>lift (F x y)
theorem op2 {r:R2} {F:D->D->Option D} {f g:M D} {ta tb:TE} (hF:OpS X.K F r) (wa:∀ U Z H Q,Rep X.K c U Z H->Wp X.K c Z H Q (f U)->ta Z H Q) (wb:∀ U Z H Q,Rep X.K c U Z H->Wp X.K c Z H Q (g U)->tb Z H Q) :
  ∀ U Z H Q,Rep X.K c U Z H->Wp X.K c Z H Q (d2 F f g U)->tOp r ta tb Z H Q:=fun U Z H Q rp h=>wa U Z H _ rp (Wp.bnd h fun x U1 v H1 r1 i1 g1 h1=>wb U1 Z H1 _ r1 (Wp.bnd h1 fun y U2 u H2 r2 i2 g2 h2=>by
 obtain ⟨d,e,h3⟩:=h2.lift
 exact hF _ H2 x y d v u Q (fun a ha=>r2.new ha) (g2.is i1) i2 e fun w H' s i=>h3 w H' (r2.same s) i (.of_same s)))
theorem qx {op:Operator} {r:R2} {F:D->D->Option D} {f g:M D} (ho:OpR X (binaryOp op) r) (hF:OpS X.K F r) (ha:DE X c a f) (hb:DE X c b g):DE X c (.BinOp a op b pos) (d2 F f g):=by
 obtain ⟨ta,pa,wa⟩:=ha
 obtain ⟨tb,pb,wb⟩:=hb
 exact ⟨_,qnd ho pa pb,op2 hF wa wb⟩
theorem qfw {op:CmpOp} {r:R2} {F:D->D->Option D} {f g:M D} (ho:OpR X (compareOp op) r) (hF:OpS X.K F r) (ha:DE X c a f) (hb:DE X c b g) (hm:behindInMarks op b=false):DE X c (.Compare a [op] [b] pos) (d2 F f g):=by
 obtain ⟨ta,pa,wa⟩:=ha
 obtain ⟨tb,pb,wb⟩:=hb
 exact ⟨_,qjr ho pa pb hm,op2 hF wa wb⟩
def asB:D->Option Bool
 | .bl b=>some b
 | _=>none
def tst (f:M D):M Bool:=bnd f fun d=>lift (asB d)
theorem qdI {K:Fr0} {Z:St} {H:Hp} {QB:Bool->Hp->Prop} {o:Option Bool} {U:Env} (h:WpB K c Z H QB (lift o U)):∃ b,o=some b/\∀ H',Rep K c U Z H'->Gr c.O Z H H'->QB b H':=by
 cases o with
 | none=>exact h.elim
 | some d=>exact ⟨d,rfl,h⟩
theorem qbv {d:D} {b:Bool} (h:asB d=some b):d = .bl b:=by
 cases d<;>simp [asB] at h
 subst h;rfl
theorem zX {op:CmpOp} {r:R2} {F:D->D->Option D} {f g:M D} (ho:OpR X (compareOp op) r) (hF:OpS X.K F r) (ha:DE X c a f) (hb:DE X c b g) (hm:behindInMarks op b=false):DT X c (.Compare a [op] [b] pos) (tst (d2 F f g)):=by
 obtain ⟨ta,pa,wa⟩:=ha
 obtain ⟨tb,pb,wb⟩:=hb
 refine ⟨_,qfk ho pa pb hm,fun U Z H Q rp h=>op2 hF wa wb U Z H _ rp (Wp.bndB h fun d U1 v H1 r1 i1 g1 h1 => ?_)⟩
 obtain ⟨b,e,h2⟩:=qdI h1
 have:=qbv e
 subst this
 exact ⟨b,i1,h2 H1 r1 .refl⟩
theorem ww {f:M D} (h:DE X c e f) (he:∀ whole,isTrue e X.env whole=(do let v <- whole;standAt e.pos;holding [v] (truthy v)):=by intro _;rfl):DT X c e (tst f):=by
 obtain ⟨t,p,w⟩:=h
 refine ⟨_,qk2 p he,fun U Z H Q rp h=>w U Z H _ rp (Wp.bndB h fun d U1 v H1 r1 i1 g1 h1 => ?_)⟩
 obtain ⟨b,e,h2⟩:=qdI h1
 have:=qbv e
 subst this
 exact ⟨b,i1,h2 H1 r1 .refl⟩
def qfx (f:M Bool):M Bool:=bnd f fun b=>ret (!b)
theorem wx {f:M Bool} (h:DT X c a f):DT X c (.UnaryOp .Not a pos) (qfx f):=by
 obtain ⟨t,p,w⟩:=h
 exact ⟨_,qk5 p,fun U Z H Q rp h=>w U Z H _ rp (WpB.bndB h fun d U1 H1 r1 g1 h1=>h1 H1 r1 .refl)⟩
def DW (X:Cx) (c:Fc) (e:Expr) (f:M Bool):Prop:=∃ t,PW X e t/\∀ U Z H Q,Rep X.K c U Z H->WpB X.K c Z H Q (f U)->t Z H Q
theorem DW.dt {f:M Bool} (h:DW X c e f):DT X c e f:=by
 obtain ⟨t,p,w⟩:=h
 exact ⟨t,p.pt,w⟩
def qjE (f g:M Bool):M Bool:=bnd f fun b=>if b then g else ret false
def tor (f g:M Bool):M Bool:=bnd f fun b=>if b then ret true else g
variable {uJ:List Expr}
theorem qjF {f:M Bool} (h:DT X c a f):DW X c (.BoolOp .And [a] pos) f:=by
 obtain ⟨t,p,w⟩:=h
 exact ⟨t,qjk p,w⟩
theorem qa3 {f:M Bool} (h:DT X c a f):DW X c (.BoolOp .Or [a] pos) f:=by
 obtain ⟨t,p,w⟩:=h
 exact ⟨t,qk3 p,w⟩
theorem qlD {f g:M Bool} (ha:DT X c a f) (hb:DW X c (.BoolOp .And (b::uJ) pos) g):DW X c (.BoolOp .And (a::b::uJ) pos) (qjE f g):=by
 obtain ⟨ta,pa,wa⟩:=ha
 obtain ⟨tb,pb,wb⟩:=hb
 refine ⟨_,qk4 pa pb,fun U Z H Q rp h=>wa U Z H _ rp (WpB.bndB h fun d U1 H1 r1 g1 h1 => ?_)⟩
 cases d with
 | true=>exact qlA (wb U1 Z H1 Q r1 (by simpa using h1))
 | false=>exact qlz ((by simpa using h1:WpB X.K c Z H1 Q (ret false U1)) H1 r1 .refl)
theorem qeA {f g:M Bool} (ha:DT X c a f) (hb:DW X c (.BoolOp .Or (b::uJ) pos) g):DW X c (.BoolOp .Or (a::b::uJ) pos) (tor f g):=by
 obtain ⟨ta,pa,wa⟩:=ha
 obtain ⟨tb,pb,wb⟩:=hb
 refine ⟨_,qm2 pa pb,fun U Z H Q rp h=>wa U Z H _ rp (WpB.bndB h fun d U1 H1 r1 g1 h1 => ?_)⟩
 cases d with
 | true=>exact qlA ((by simpa using h1:WpB X.K c Z H1 Q (ret true U1)) H1 r1 .refl)
 | false=>exact qlz (wb U1 Z H1 Q r1 (by simpa using h1))
def qmT (f:M D):M D:=bnd f fun d=>bnd (lift (asB d)) fun b=>ret (.bl (!b))
def qkP (f g:M D):M D:=bnd f fun d=>bnd (lift (asB d)) fun b=>if b then g else ret (.bl false)
def dor (f g:M D):M D:=bnd f fun d=>bnd (lift (asB d)) fun b=>if b then ret (.bl true) else g
theorem qfy {K:Fr0} {Z:St} {H:Hp} {Q:VK} {d:D} {k:Bool->M D} {U:Env} (h:Wp K c Z H Q (bnd (lift (asB d)) k U)):∃ b,d = .bl b/\Wp K c Z H Q (k b U):=by
 unfold bnd at h
 cases e:asB d with
 | none=>rw [e] at h;exact h.elim
 | some b=>rw [e] at h;exact ⟨b,qbv e,h⟩
theorem qdJ {op} {f:M D} (h:DE X c a f):DE X c (.BoolOp op [a] pos) f:=by
 obtain ⟨t,p,w⟩:=h
 exact ⟨t,qk6 p,w⟩
theorem qlE {f:M D} (h:DE X c a f):DE X c (.UnaryOp .Not a pos) (qmT f):=by
 obtain ⟨t,p,w⟩:=h
 refine ⟨_,qk8 p,fun U Z H Q rp h=>w U Z H _ rp (Wp.bnd h fun d U1 v H1 r1 i1 g1 h1 => ?_)⟩
 obtain ⟨b,e,h2⟩:=qfy h1
 subst e
 exact ⟨b,i1,h2 _ H1 r1 rfl .refl⟩
theorem qfz {f g:M D} (ha:DE X c a f) (hb:DE X c (.BoolOp .And (b::uJ) pos) g):DE X c (.BoolOp .And (a::b::uJ) pos) (qkP f g):=by
 obtain ⟨ta,pa,wa⟩:=ha
 obtain ⟨tb,pb,wb⟩:=hb
 refine ⟨_,qk7 pa pb,fun U Z H Q rp h=>wa U Z H _ rp (Wp.bnd h fun d U1 v H1 r1 i1 g1 h1 => ?_)⟩
 obtain ⟨k,e,h2⟩:=qfy h1
 subst e
 refine ⟨k,i1,?_⟩
 cases k with
 | true=>exact qlA (wb U1 Z H1 Q r1 (by simpa using h2))
 | false=>exact qlz ((by simpa using h2:Wp X.K c Z H1 Q (ret (.bl false) U1)) _ H1 r1 rfl .refl)
theorem qns {f g:M D} (ha:DE X c a f) (hb:DE X c (.BoolOp .Or (b::uJ) pos) g):DE X c (.BoolOp .Or (a::b::uJ) pos) (dor f g):=by
 obtain ⟨ta,pa,wa⟩:=ha
 obtain ⟨tb,pb,wb⟩:=hb
 refine ⟨_,qm5 pa pb,fun U Z H Q rp h=>wa U Z H _ rp (Wp.bnd h fun d U1 v H1 r1 i1 g1 h1 => ?_)⟩
 obtain ⟨k,e,h2⟩:=qfy h1
 subst e
 refine ⟨k,i1,?_⟩
 cases k with
 | true=>exact qlA ((by simpa using h2:Wp X.K c Z H1 Q (ret (.bl true) U1)) _ H1 r1 rfl .refl)
 | false=>exact qlz (wb U1 Z H1 Q r1 (by simpa using h2))
def dif (f:M Bool) (g k:M D):M D:=bnd f fun b=>if b then g else k
def vU (K:Fr0) (F:List D->Option D) (r:List V->Hp->VK->Prop):Prop:=∀ (A:Addr->Prop) (H:Hp) (xs:List D) (d:D) (vs:List V) (Q:VK),(∀ a,H a=none->A a)->IsL K A H xs vs->F xs=some d ->
 (∀ w H',zQ H H'->Is K A H' d w->Q w H')->r vs H Q
def qE (F:List D->Option D) (f:M (List D)):M D:=bnd f fun ds=>lift (F ds)
theorem qlF {r:List V->Hp->VK->Prop} {F:List D->Option D} {f:M (List D)} {t:TA} (hF:vU X.K F r) (w:∀ U Z H Q,Rep X.K c U Z H->WpL X.K c Z H Q (f U)->t Z H Q) :
  ∀ U Z H Q,Rep X.K c U Z H->Wp X.K c Z H Q (qE F f U)->tCB r t Z H Q:=fun U Z H Q rp h=>w U Z H _ rp (WpL.bnd h fun ds U1 vs H1 r1 i1 g1 h1=>by
 obtain ⟨d,e,h3⟩:=h1.lift
 exact hF _ H1 ds d vs Q (fun a ha=>r1.new ha) i1 e fun w H' s i=>h3 w H' (r1.same s) i (.of_same s))
theorem qG {id:String} {x:Str} {p:Pos} {es:List Expr} {r:List V->Hp->VK->Prop} {F:List D->Option D} {f:M (List D)} (hc:yA X (.builtin id) r) (hF:vU X.K F r) (hg:Gl X x) (hm:X.mg x=none) (hv:bootBuiltins x=some (.builtin id)) (ha:DA X c (e::es) f) (hn:x≠"__name__":=by decide) (hdb:(x==("__debug__":Str))=false:=by decide)
  (he:starEach (e::es) X.env=(false,eval e X.env)::starEach es X.env:=by rfl) (hpl:(backTo pos (starEach es X.env)).any (·.1)=false:=by rfl):DE X c (.Call (.Name x p) (e::es) [] pos) (qE F f):=by
 obtain ⟨t,pa,w⟩:=ha
 exact ⟨_,vw hc hg hm hv pa hn hdb he hpl,qlF hF w⟩
theorem qfA {T:String} {x:Str} {p:Pos} {es:List Expr} {r:List V->Hp->VK->Prop} {F:List D->Option D} {f:M (List D)} (hc:yA X (.type T) r) (hF:vU X.K F r) (hg:Gl X x) (hm:X.mg x=none) (hv:bootBuiltins x=some (.type T)) (ha:DA X c (e::es) f) (hn:x≠"__name__":=by decide) (hdb:(x==("__debug__":Str))=false:=by decide)
  (he:starEach (e::es) X.env=(false,eval e X.env)::starEach es X.env:=by rfl) (hpl:(backTo pos (starEach es X.env)).any (·.1)=false:=by rfl):DE X c (.Call (.Name x p) (e::es) [] pos) (qE F f):=by
 obtain ⟨t,pa,w⟩:=ha
 exact ⟨_,qch hc hg hm hv pa hn hdb he hpl,qlF hF w⟩
theorem zK {r:R2} {F:D->D->Option D} {f g:M D} (hr:IxR X r) (hF:OpS X.K F r) (ha:DE X c a f) (hb:DE X c b g) (hs:qc2 b:=by intro _ _;rfl):DE X c (.Subscript a b pos) (d2 F f g):=by
 obtain ⟨ta,pa,wa⟩:=ha
 obtain ⟨tb,pb,wb⟩:=hb
 exact ⟨_,qlt hr pa pb hs,op2 hF wa wb⟩
end
inductive Fl where
 | nx (U:Env) | rt (d:D) (U:Env) | bk (U:Env) | ct (U:Env)
structure GrS (O:List Nat) (Z:St) (H:Hp) (Z':St) (H':Hp):Prop where
 ext:Ext (Cl O Z) H H'
 cl:∀ b,Cl O Z b->(H b).isSome=true->Cl O Z' b
 dom:∀ b,H' b=none->H b=none
theorem qeB {H H':Hp} {b:Addr} (dom:H' b=none->H b=none) (h:(H b).isSome=true):(H' b).isSome=true:=by
 cases e:H' b with
 | none=>rw [dom e] at h;cases h
 | some o=>rfl
theorem GrS.refl {O:List Nat} {Z:St} {H:Hp}:GrS O Z H Z H:=⟨Ext.refl,fun _ h _=>h,fun _ h=>h⟩
theorem Gr.s {O:List Nat} {Z:St} {H H':Hp} (g:Gr O Z H H'):GrS O Z H Z H':=⟨g.ext,fun _ h _=>h,g.dom⟩
theorem GrS.trans {O:List Nat} {Z Z1 Z2:St} {H H1 H2:Hp} (a:GrS O Z H Z1 H1) (b:GrS O Z1 H1 Z2 H2):GrS O Z H Z2 H2 :=
 ⟨⟨fun c xs h=>b.ext.tup c xs (a.ext.tup c xs h),fun c o u h=>b.ext.frz c o u (a.ext.frz c o u h),fun c o hc h=>b.ext.at_ c o (a.cl c hc (by rw [h];rfl)) (a.ext.at_ c o hc h)⟩,
  fun c hc h=>b.cl c (a.cl c hc h) (qeB (a.dom c) h),fun c h=>a.dom c (b.dom c h)⟩
theorem GrS.is {K:Fr0} {c:Fc} {Z Z':St} {H H':Hp} {d:D} {v:V} (g:GrS c.O Z H Z' H') (h:Is K (Cn c Z) H d v):Is K (Cn c Z') H' d v :=
 Is.ext ⟨g.ext.tup,g.ext.frz,fun b o hb h=>g.ext.at_ b o hb.2 h⟩ (fun a ha hs=>⟨ha.1,g.cl a ha.2 hs⟩) h
theorem GrS.isL {K:Fr0} {c:Fc} {Z Z':St} {H H':Hp} {d:List D} {v:List V} (g:GrS c.O Z H Z' H') (h:IsL K (Cn c Z) H d v):IsL K (Cn c Z') H' d v :=
 IsL.ext ⟨g.ext.tup,g.ext.frz,fun b o hb h=>g.ext.at_ b o hb.2 h⟩ (fun a ha hs=>⟨ha.1,g.cl a ha.2 hs⟩) h
def WpS (K:Fr0) (c:Fc) (Z:St) (H:Hp) (D:qe3):R Fl->Prop
 | .ok (.nx U)=>∀ Z' H',Rep K c U Z' H'->GrS c.O Z H Z' H'->D.nx Z' H'
 | .ok (.rt d U)=>∀ v Z' H',Rep K c U Z' H'->Is K c.B H' d v->GrS c.O Z H Z' H'->D.rt v H'
 | .ok (.bk U)=>∀ Z' H',Rep K c U Z' H'->GrS c.O Z H Z' H'->D.bk Z' H'
 | .ok (.ct U)=>∀ Z' H',Rep K c U Z' H'->GrS c.O Z H Z' H'->D.ct Z' H'
 | .exc x U=>∀ Z' H',Rep K c U Z' H'->GrS c.O Z H Z' H'->c.E x H'
 | .bad=>False
abbrev MS:=Env->R Fl
def DS (X:Cx) (c:Fc) (st:Stmt) (f:MS):Prop:=∃ t,PS X st t/\∀ U Z H D,Rep X.K c U Z H->WpS X.K c Z H D (f U)->t D Z H
def DSs (X:Cx) (c:Fc) (st:List Stmt) (f:MS):Prop:=∃ t,PSs X st t/\∀ U Z H D,Rep X.K c U Z H->WpS X.K c Z H D (f U)->t D Z H
theorem WpS.gr {K:Fr0} {c:Fc} {Z Z1:St} {H H1:Hp} {D:qe3}:∀ {r:R Fl},WpS K c Z H D r->GrS c.O Z H Z1 H1->WpS K c Z1 H1 D r
 | .ok (.nx U),h,g=>fun Z' H' hr hg=>h Z' H' hr (g.trans hg)
 | .ok (.rt d U),h,g=>fun v Z' H' hr hi hg=>h v Z' H' hr hi (g.trans hg)
 | .ok (.bk U),h,g=>fun Z' H' hr hg=>h Z' H' hr (g.trans hg)
 | .ok (.ct U),h,g=>fun Z' H' hr hg=>h Z' H' hr (g.trans hg)
 | .exc x U,h,g=>fun Z' H' hr hg=>h Z' H' hr (g.trans hg)
 | .bad,h,_=>h
def sbnd {α:Type} (f:M α) (k:α->MS):MS:=fun U=>match f U with
 | .ok (a,U')=>k a U'
 | .exc x U' => .exc x U'
 | .bad => .bad
section
variable {K:Fr0} {c:Fc} {Z:St} {H:Hp} {D:qe3}
theorem Wp.sbnd {f:M Sk.D} {k:Sk.D->MS} {U:Env} {Q':VK} (h:WpS K c Z H D (sbnd f k U)) (hQ:∀ d U' v H',Rep K c U' Z H'->Is K (Cn c Z) H' d v->Gr c.O Z H H'->WpS K c Z H' D (k d U')->Q' v H'):Wp K c Z H Q' (f U):=by
 unfold Sk.sbnd at h
 cases e:f U with
 | ok p=>rw [e] at h;exact fun v H' hr hi hg=>hQ p.1 p.2 v H' hr hi hg (h.gr hg.s)
 | exc x U'=>rw [e] at h;exact fun H' hr hg=>h Z H' hr hg.s
 | bad=>rw [e] at h;exact h
theorem WpB.sbnd {f:M Bool} {k:Bool->MS} {U:Env} {Q':Bool->Hp->Prop} (h:WpS K c Z H D (sbnd f k U)) (hQ:∀ d U' H',Rep K c U' Z H'->Gr c.O Z H H'->WpS K c Z H' D (k d U')->Q' d H'):WpB K c Z H Q' (f U):=by
 unfold Sk.sbnd at h
 cases e:f U with
 | ok p=>rw [e] at h;exact fun H' hr hg=>hQ p.1 p.2 H' hr hg (h.gr hg.s)
 | exc x U'=>rw [e] at h;exact fun H' hr hg=>h Z H' hr hg.s
 | bad=>rw [e] at h;exact h
theorem WpL.sbnd {f:M (List Sk.D)} {k:List Sk.D->MS} {U:Env} {Q':List V->Hp->Prop} (h:WpS K c Z H D (sbnd f k U)) (hQ:∀ d U' v H',Rep K c U' Z H'->IsL K (Cn c Z) H' d v->Gr c.O Z H H'->WpS K c Z H' D (k d U')->Q' v H'):WpL K c Z H Q' (f U):=by
 unfold Sk.sbnd at h
 cases e:f U with
 | ok p=>rw [e] at h;exact fun v H' hr hi hg=>hQ p.1 p.2 v H' hr hi hg (h.gr hg.s)
 | exc x U'=>rw [e] at h;exact fun H' hr hg=>h Z H' hr hg.s
 | bad=>rw [e] at h;exact h
end
def qR (f g:MS):MS:=fun U=>match f U with
 | .ok (.nx U')=>g U'
 | r=>r
theorem WpS.mono_nx {K:Fr0} {c:Fc} {Z:St} {H:Hp} {D:qe3} {f g:MS} {U:Env} {N:St->Hp->Prop} (h:WpS K c Z H D (qR f g U)) (hN:∀ U' Z' H',Rep K c U' Z' H'->GrS c.O Z H Z' H'->WpS K c Z' H' D (g U')->N Z' H') :
  WpS K c Z H { D with nx:=N } (f U):=by
 unfold qR at h
 cases e:f U with
 | ok fl =>
  rw [e] at h
  cases fl with
  | nx U'=>exact fun Z' H' hr hg=>hN U' Z' H' hr hg (h.gr hg)
  | rt d U'=>exact h
  | bk U'=>exact h
  | ct U'=>exact h
 | exc x U'=>rw [e] at h;exact h
 | bad=>rw [e] at h;exact h
section
variable {X:Cx} {c:Fc} {a b e:Expr} {pos:Pos} {st:Stmt} {sts:List Stmt}
theorem qjG:DSs X c [] (fun U => .ok (.nx U)):=⟨_,qjl,fun U Z H D r h=>h Z H r .refl⟩
theorem qj {f:MS} (h:DS X c st f):DSs X c [st] f:=by
 obtain ⟨t,p,w⟩:=h
 exact ⟨t,qfa p,w⟩
theorem qg {f g:MS} (h:DS X c st f) (hr:DSs X c sts g):DSs X c (st::sts) (qR f g):=by
 obtain ⟨t,p,w⟩:=h
 obtain ⟨t2,p2,w2⟩:=hr
 exact ⟨_,qg2 p p2,fun U Z H D r h=>w U Z H _ r (h.mono_nx fun U' Z' H' r' g' h'=>w2 U' Z' H' D r' h')⟩
def jN (f:M D):MS:=sbnd f fun d U => .ok (.rt d U)
theorem Is.cn {K:Fr0} {Z:St} {H:Hp} {d:D} {v:V} (h:Is K (Cn c Z) H d v):Is K c.B H d v:=Is.ext Ext.refl (fun _ h _=>h.1) h
theorem qN {f:M D} (h:DE X c e f):DS X c (.Return (some e) pos) (jN f):=by
 obtain ⟨t,p,w⟩:=h
 exact ⟨_,qfb p,fun U Z H D r h=>w U Z H _ r (Wp.sbnd h fun d U1 v H1 r1 i1 g1 h1=>h1 v Z H1 r1 i1.cn .refl)⟩
def ye (f:M D):MS:=sbnd f fun _ U => .ok (.nx U)
theorem uM {f:M D} (h:DE X c e f) (hs:swapsWith e none pos.line X.env=pure false:=by rfl):DS X c (.Expr e pos) (ye f):=by
 obtain ⟨t,p,w⟩:=h
 exact ⟨_,qjm p hs,fun U Z H D r h=>w U Z H _ r (Wp.sbnd h fun d U1 v H1 r1 i1 g1 h1=>h1 Z H1 r1 .refl)⟩
def sif (f:M Bool) (g k:MS):MS:=sbnd f fun b=>if b then g else k
theorem y7 {t:Expr} {s1 s2:List Stmt} {f:M Bool} {g k:MS} (ht:DT X c t f) (ha:DSs X c s1 g) (hb:DSs X c s2 k):DS X c (.If t s1 s2 pos) (sif f g k):=by
 obtain ⟨tt,pt,wt⟩:=ht
 obtain ⟨ta,pa,wa⟩:=ha
 obtain ⟨tb,pb,wb⟩:=hb
 refine ⟨_,qm8 pt pa pb,fun U Z H D rp h=>wt U Z H _ rp (WpB.sbnd h fun d U1 H1 r1 g1 h1 => ?_)⟩
 cases d with
 | true=>exact qlA (wa U1 Z H1 D r1 (by simpa using h1))
 | false=>exact qlz (wb U1 Z H1 D r1 (by simpa using h1))
theorem zA {α:Type} {l:List α} {i j:Nat} {v:α} (h:j≠i):(l.set i v)[j]? = l[j]? := List.getElem?_set_ne (Ne.symm h)
theorem Cl.set {O:List Nat} {Z:St} {i:Nat} {v:Option V} (hi:i ∉ O) (a:Addr):Cl O (Z.set i v) a ↔ Cl O Z a:=by
 constructor
 ·intro h j hj
  have e:j≠i:=fun e=>hi (e▸hj)
  have:=h j hj
  rw [zA e] at this
  exact this
 ·intro h j hj
  have e:j≠i:=fun e=>hi (e▸hj)
  rw [zA e]
  exact h j hj
theorem Rep.set {K:Fr0} {U:Env} {Z:St} {H:Hp} {i:Nat} {d:D} {v:V} (r:Rep K c U Z H) (hi:i ∉ c.O) (h:Is K (Cn c Z) H d v):Rep K c (U.set i (some d)) (Z.set i (some v)) H where
 len:=by rw [lS_,lS_];exact r.len
 val := fun j e hj=>by
  have up:∀ {d':D} {v':V},Is K (Cn c Z) H d' v'->Is K (Cn c (Z.set i (some v))) H d' v':=fun h=>Is.ext Ext.refl (fun a ha _=>⟨ha.1,(Cl.set hi a).mpr ha.2⟩) h
  by_cases e1:j=i
  ·subst e1
   have hl:j<U.length:=by
    have:=(gI_.mp hj).1
    rwa [lS_] at this
   rw [List.getElem?_set_self hl] at hj
   cases hj
   refine ⟨v,List.getElem?_set_self (by rw [<- r.len];exact hl),.inr ⟨hi,up h⟩⟩
  ·rw [zA e1] at hj
   obtain ⟨w,h1,h2⟩:=r.val j e hj
   refine ⟨w,by rw [zA e1];exact h1,?_⟩
   rcases h2 with ⟨hj2,ds,a,xs,h3,h5,h6,h7⟩ | ⟨h3,h4⟩
   ·exact .inl ⟨hj2,ds,a,xs,h3,h5,h6,IsL.ext Ext.refl (fun a ha _=>⟨ha.1,(Cl.set hi a).mpr ha.2⟩) h7⟩
   ·exact .inr ⟨h3,up h4⟩
 own:=fun j hj w h=>by
  have e1:j≠i:=fun e=>hi (e▸hj)
  rw [zA e1] at h
  exact r.own j hj w h
 inj:=fun j k a hj hk h1 h2=>by
  have e1:j≠i:=fun e=>hi (e▸hj)
  have e2:k≠i:=fun e=>hi (e▸hk)
  rw [zA e1] at h1
  rw [zA e2] at h2
  exact r.inj j k a hj hk h1 h2
 b0:=r.b0
 kp:=r.kp
 dm:=r.dm
 pO:=r.pO
 ps:=fun j hj=>by
  have e:j≠i:=fun e=>hi (e▸r.pO j hj)
  rw [zA e];exact r.ps j hj
theorem GrS.set {O:List Nat} {Z:St} {H:Hp} {i:Nat} {v:Option V} (hi:i ∉ O):GrS O Z H (Z.set i v) H:=⟨Ext.refl,fun b h _=>(Cl.set hi b).mpr h,fun _ h=>h⟩
def zJ (i:Nat) (f:M D):MS:=sbnd f fun d U => .ok (.nx (U.set i (some d)))
theorem zc {i:Nat} {x:Str} {pos':Pos} {f:M D} (hN:X.N.Nodup) (he:DE X c e f) (ho:i ∉ c.O:=by exact of_decide_eq_false rfl) (hi:X.N[i]? = some x:=by rfl) (hx:Loc X.env.scope x:=by first | exact Or.inl rfl | exact Or.inr rfl) (hs:swapsWith e (some (.Name x pos')) pos.line X.env=pure false:=by rfl) (hf:X.fn x=true\/X.env.scope.names.lookup x=some .local:=by first | exact .inl rfl | exact .inr rfl | assumption) :
  DS X c (.Assign [.Name x pos'] e pos) (zJ i f):=by
 obtain ⟨t,p,w⟩:=he
 refine ⟨_,qfc hN hi hx p hs hf,fun U Z H D r h=>w U Z H _ r (Wp.sbnd h fun d U1 v H1 r1 i1 g1 h1 => ?_)⟩
 exact h1 _ H1 (r1.set ho i1) (.set ho)
def DG (X:Cx) (c:Fc) (tg:Expr) (f:D->Env->Option Env):Prop:=∃ g,PG X tg g/\∀ U Z H d v U' (N:St->Hp->Prop),Rep X.K c U Z H->Is X.K (Cn c Z) H d v->f d U=some U' ->
 (∀ Z',Rep X.K c U' Z' H->GrS c.O Z H Z' H->(∀ j∈c.O,Z'[j]? = Z[j]?)->N Z' H)->g v Z H N
def qi (i:Nat):D->Env->Option Env:=fun d U=>some (U.set i (some d))
theorem qw {i:Nat} {x:Str} (hN:X.N.Nodup) (ho:i ∉ c.O:=by exact of_decide_eq_false rfl) (hi:X.N[i]? = some x:=by rfl) (hx:Loc X.env.scope x:=by first | exact Or.inl rfl | exact Or.inr rfl) (hf:X.fn x=true\/X.env.scope.names.lookup x=some .local:=by first | exact .inl rfl | exact .inr rfl | assumption) {p:Pos}:DG X c (.Name x p) (qi i):=by
 refine ⟨_,qjn hN hi hx hf,fun U Z H d v U' N r h e k => ?_⟩
 cases e
 exact k _ (r.set ho h) (.set ho) fun j hj=>zA fun e=>ho (e▸hj)
def DGs (X:Cx) (c:Fc) (tgs:List Expr) (f:List D->Env->Option Env):Prop:=∃ g,PGs X tgs g/\∀ U Z H ds vs U' (N:St->Hp->Prop),Rep X.K c U Z H->IsL X.K (Cn c Z) H ds vs->f ds U=some U' ->
 (∀ Z',Rep X.K c U' Z' H->GrS c.O Z H Z' H->(∀ j∈c.O,Z'[j]? = Z[j]?)->N Z' H)->g vs Z H N
def qaM:List D->Env->Option Env
 | [],U=>some U
 | _,_=>none
def qZ (f:D->Env->Option Env) (g:List D->Env->Option Env):List D->Env->Option Env
 | d::ds,U=>(f d U).bind (g ds)
 | _,_=>none
theorem vh:DGs X c [] qaM:=by
 refine ⟨_,qjo,fun U Z H ds vs U' N r h e k => ?_⟩
 cases ds with
 | nil =>
  cases e
  exact ⟨h,k Z r .refl fun _ _=>rfl⟩
 | cons d ds=>cases e
theorem zo {tg:Expr} {tgs:List Expr} {f:D->Env->Option Env} {g:List D->Env->Option Env} (h1:DG X c tg f) (h2:DGs X c tgs g)
  (hs:(assignEach (tg::tgs) X.env).map (·.2)=assign tg X.env::(assignEach tgs X.env).map (·.2):=by rfl):DGs X c (tg::tgs) (qZ f g):=by
 obtain ⟨t1,p1,w1⟩:=h1
 obtain ⟨t2,p2,w2⟩:=h2
 refine ⟨_,qg3 p1 p2 hs,fun U Z H ds vs U' N r h e k => ?_⟩
 cases ds with
 | nil=>cases e
 | cons d ds =>
  obtain ⟨v,ws,rfl,i1,i2⟩:=h
  have e':(f d U).bind (g ds)=some U':=e
  cases e1:f d U with
  | none=>rw [e1] at e';cases e'
  | some U1 =>
   rw [e1] at e'
   exact ⟨v,ws,rfl,w1 U Z H d v U1 _ r i1 e1 fun Z1 r1 g1 o1=>w2 U1 Z1 H ds ws U' N r1 (g1.isL i2) e' fun Z2 r2 g2 o2=>k Z2 r2 (g1.trans g2) fun j hj=>(o2 j hj).trans (o1 j hj)⟩
def qaN (n:Nat) (g:List D->Env->Option Env):D->Env->Option Env
 | .tup ds,U=>if ds.length=n then g ds U else none
 | _,_=>none
theorem qaa {es:List Expr} {k n:Nat} {p:Pos} {g:List D->Env->Option Env} (hc:X.calm=true) (h:DGs X c es g) (hn:(assignEach es X.env).length=n:=by rfl) (hst:(assignEach es X.env).findIdx? (·.1)=none:=by rfl):DG X c (.Tuple es k p) (qaN n g):=by
 obtain ⟨t,p,w⟩:=h
 refine ⟨_,qla (n:=n) hc p hn hst,fun U Z H d v U' N r h e q => ?_⟩
 cases d with
 | tup ds =>
  obtain ⟨a,xs,rfl,ta,il⟩:=h
  have e':(if ds.length=n then g ds U else none)=some U':=e
  by_cases hl:ds.length=n
  ·rw [if_pos hl] at e'
   exact ⟨a,xs,rfl,ta.sq,by rw [il.length];exact hl,w U Z H ds xs U' N r il e' q⟩
  ·rw [if_neg hl] at e';cases e'
 | _=>cases e
def qhf (f:M D) (g:D->Env->Option Env):MS:=sbnd f fun d U=>match g d U with
 | some U' => .ok (.nx U')
 | none => .bad
theorem qir {tg:Expr} {f:M D} {g:D->Env->Option Env} (he:DE X c e f) (hg:DG X c tg g) (hs:swapsWithSole [tg] e pos.line X.env=pure false:=by rfl) (hw:swappedStores [tg] e X.env=pure none:=by rfl) (h1:(assignEach [tg] X.env).map (·.2)=[assign tg X.env]:=by rfl):DS X c (.Assign [tg] e pos) (qhf f g):=by
 obtain ⟨t,p,w⟩:=he
 obtain ⟨t2,p2,w2⟩:=hg
 refine ⟨_,qil p p2 hs hw h1,fun U Z H D r h=>w U Z H _ r (Wp.sbnd h fun d U1 v H1 r1 i1 g1 h1 => ?_)⟩
 cases e:g d U1 with
 | none=>rw [e] at h1;exact h1.elim
 | some U2 =>
  rw [e] at h1
  exact w2 U1 Z H1 d v U2 _ r1 i1 e fun Z' r2 g2 _=>h1 Z' H1 r2 g2
end
section
variable {K:Fr0}
def iiD (g:Int->Int->D):D->D->Option D
 | .int i,.int j=>some (g i j)
 | _,_=>none
def qhg (C:Int->Int->Bool) (g:Int->Int->D):D->D->Option D
 | .int i,.int j=>if C i j then some (g i j) else none
 | _,_=>none
theorem qab {g:Int->Int->V} {gD:Int->Int->D} (hg:∀ A H i j,Is K A H (gD i j) (g i j)):OpS K (iiD gD) (rI0 g):=by
 intro A H x y d v u Q hn ix iy e k
 cases x<;>cases y<;>simp only [iiD] at e<;>try (cases e;done)
 rename_i i j
 cases (Option.some.inj e)
 cases (show v = .int i from ix)
 cases (show u = .int j from iy)
 exact ⟨i,j,rfl,rfl,k _ H (zQ.refl H) (hg _ _ _ _)⟩
theorem qfB {C:Int->Int->Prop} {CB:Int->Int->Bool} {g:Int->Int->V} {gD:Int->Int->D} (hC:∀ i j,CB i j=true->C i j) (hg:∀ A H i j,Is K A H (gD i j) (g i j)):OpS K (qhg CB gD) (rI C g):=by
 intro A H x y d v u Q hn ix iy e k
 cases x<;>cases y<;>simp only [qhg] at e<;>try (cases e;done)
 rename_i i j
 obtain ⟨e1,e2⟩:=zL e
 subst e2
 cases (show v = .int i from ix)
 cases (show u = .int j from iy)
 exact ⟨i,j,rfl,rfl,hC i j e1,k _ H (zQ.refl H) (hg _ _ _ _)⟩
def qc5:D->D->Option D:=iiD fun i j => .int (i-j)
theorem qc6:OpS K qc5 (rI0 fun i j => .int (i-j)):=qab fun _ _ _ _=>rfl
def yB (i:Int):Bool:=decide (-(2 ^ 64)<i)&&decide (i<2 ^ 64)
theorem qcn {i:Int} (h:yB i=true) : -(2 ^ 64)<i/\i<2 ^ 64:=by
 unfold yB at h
 rw [Bool.and_eq_true] at h
 exact ⟨of_decide_eq_true h.1,of_decide_eq_true h.2⟩
def qc7 (i j:Int):Bool:=yB i||yB j
theorem qhh {i j:Int} (h:qc7 i j=true):qlg i j:=by
 unfold qc7 at h
 rw [Bool.or_eq_true] at h
 rcases h with h | h
 ·exact .inl (qcn h)
 ·exact .inr (qcn h)
def qeC (i j:Int):Bool:=decide (0<j)&&decide (j<1606938044258990275541962092341162602522202993782792835301376)
theorem qdK {i j:Int} (h:qeC i j=true):qlf i j:=by
 unfold qeC at h
 rw [Bool.and_eq_true] at h
 exact ⟨of_decide_eq_true h.1,of_decide_eq_true h.2⟩
def y8:D->D->Option D:=qhg qeC fun i j => .int (i/j)
theorem uW:OpS K y8 (rI qlf fun i j => .int (i/j)):=qfB (fun _ _=>qdK) fun _ _ _ _=>rfl
def qis:D->D->Option D:=qhg (fun _ j=>decide (0<j)) fun i j => .int (i%j)
theorem qac:OpS K qis (rI (fun _ j=>0<j) fun i j => .int (i%j)):=qfB (fun _ _ h=>of_decide_eq_true h) fun _ _ _ _=>rfl
def ltD:D->D->Option D:=iiD fun i j => .bl (decide (i<j))
def leD:D->D->Option D:=iiD fun i j => .bl (decide (i<=j))
def gtD:D->D->Option D:=iiD fun i j => .bl (decide (j<i))
def geD:D->D->Option D:=iiD fun i j => .bl (decide (j<=i))
theorem qlG:OpS K ltD (rI0 fun i j => .bl (decide (i<j))):=qab fun _ _ _ _=>rfl
theorem qdL:OpS K leD (rI0 fun i j => .bl (decide (i<=j))):=qab fun _ _ _ _=>rfl
theorem qit:OpS K gtD (rI0 fun i j => .bl (decide (j<i))):=qab fun _ _ _ _=>rfl
theorem qlH:OpS K geD (rI0 fun i j => .bl (decide (j<=i))):=qab fun _ _ _ _=>rfl
def sc2:D->D->Option Bool
 | .non,.non=>some true | .non,.int _=>some false | .int _,.non=>some false | .non,.bl _=>some false | .bl _,.non=>some false | .non,.str _=>some false | .str _,.non=>some false
 | .int i,.int j=>some (decide (i=j)) | .bl i,.bl j=>some (decide (i=j)) | .str i,.str j=>some (decide (i=j))
 | .int _,.str _=>some false | .str _,.int _=>some false | .bl _,.str _=>some false | .str _,.bl _=>some false
 | _,_=>none
def eqS (x y:D):Option D:=(sc2 x y).map D.bl
def neS (x y:D):Option D:=(sc2 x y).map fun b=>D.bl (!b)
theorem qiu {A:Addr->Prop} {H:Hp} {x y:D} {v u:V} {b:Bool} (ix:Is K A H x v) (iy:Is K A H y u) (e:sc2 x y=some b):qnf v u=true/\decide (v=u)=b:=by
 cases x<;>cases y<;>simp only [sc2] at e<;>first
  | (cases e;done)
  | (cases ix;cases iy;cases e;exact ⟨rfl,rfl⟩)
  | (cases ix;cases iy;cases e;exact ⟨rfl,by simp⟩)
  | (cases ix;cases iy;cases e;exact ⟨rfl,by rw [Bool.eq_iff_iff];simp⟩)
theorem qjH:OpS K eqS rEq:=by
 intro A H x y d v u Q hn ix iy e k
 unfold eqS at e
 cases e1:sc2 x y with
 | none=>rw [e1] at e;cases e
 | some b =>
  rw [e1] at e
  cases e
  obtain ⟨h1,h2⟩:=qiu ix iy e1
  exact ⟨h1,by rw [h2];exact k _ H (zQ.refl H) rfl⟩
theorem qfC:OpS K neS rNe:=by
 intro A H x y d v u Q hn ix iy e k
 unfold neS at e
 cases e1:sc2 x y with
 | none=>rw [e1] at e;cases e
 | some b =>
  rw [e1] at e
  cases e
  obtain ⟨h1,h2⟩:=qiu ix iy e1
  exact ⟨h1,by rw [h2];exact k _ H (zQ.refl H) rfl⟩
def uF:D->Bool
 | .non=>true
 | _=>false
theorem wM {A:Addr->Prop} {H:Hp} {x:D} {v:V} (ix:Is K A H x v):decide (v=V.non)=uF x:=by
 cases x with
 | non=>cases ix;rfl
 | bl b=>cases ix;rfl
 | int i=>cases ix;rfl
 | str s=>cases ix;rfl
 | tup ds=>obtain ⟨a,xs,rfl,_⟩:=ix;rfl
 | lst ds=>obtain ⟨a,xs,rfl,_⟩:=ix;rfl
 | dic ds=>obtain ⟨a,rfl,_⟩:=ix;rfl
 | fz ds=>obtain ⟨a,rfl,_⟩:=ix;rfl
 | exc ds=>obtain ⟨a,rfl,_⟩:=ix;rfl
def isN (x y:D):Option D:=if uF y then some (.bl (uF x)) else none
def qhi (x y:D):Option D:=if uF y then some (.bl (!uF x)) else none
theorem qjI:OpS K isN (fun x y H Q=>y = .non/\Q (.bl (decide (x = .non))) H):=by
 intro A H x y d v u Q hn ix iy e k
 obtain ⟨e1,e2⟩:=zL e
 subst e2
 have h:=wM iy
 rw [e1] at h
 refine ⟨of_decide_eq_true h,?_⟩
 rw [wM ix]
 exact k _ H (zQ.refl H) rfl
theorem qhj:OpS K qhi (fun x y H Q=>y = .non/\Q (.bl (!decide (x = .non))) H):=by
 intro A H x y d v u Q hn ix iy e k
 obtain ⟨e1,e2⟩:=zL e
 subst e2
 have h:=wM iy
 rw [e1] at h
 refine ⟨of_decide_eq_true h,?_⟩
 rw [wM ix]
 exact k _ H (zQ.refl H) rfl
def ixD:D->D->Option D
 | .tup ds,.int i=>atI ds i
 | .lst ds,.int i=>atI ds i
 | .fz ns,.int i=>(atI ns i).map D.int
 | _,_=>none
theorem IsL.atI {A:Addr->Prop} {H:Hp} {ds:List D} {xs:List V} {i:Int} {d:D} (h:IsL K A H ds xs) (e:L2.atI ds i=some d):∃ v,L2.atI xs i=some v/\Is K A H d v:=by
 unfold L2.atI at e |-
 rw [h.length]
 cases e1:ixN ds.length i with
 | none=>rw [e1] at e;cases e
 | some j =>
  rw [e1] at e
  exact h.get e
theorem qK:OpS K ixD (fun x y H Q=>qno K x y H Q\/qnp K x y H Q):=by
 intro A H x y d v u Q hn ix iy e k
 cases x<;>cases y<;>simp only [ixD] at e<;>try (cases e;done)
 ·rename_i ds i
  cases iy
  obtain ⟨a,xs,rfl,ta,il⟩:=ix
  obtain ⟨w,h1,h2⟩:=il.atI e
  exact .inr ⟨a,xs,i,w,rfl,rfl,ta.sq,h1,k w H (zQ.refl H) h2⟩
 ·rename_i ds i
  cases iy
  obtain ⟨a,xs,rfl,_,ta,il⟩:=ix
  obtain ⟨w,h1,h2⟩:=il.atI e
  exact .inl ⟨a,xs,i,w,rfl,rfl,.inl (.inl ta),h1,k w H (zQ.refl H) h2⟩
 ·rename_i ns i
  cases iy
  obtain ⟨a,rfl,ta⟩:=ix
  cases e1:L2.atI ns i with
  | none=>rw [e1] at e;cases e
  | some m =>
   rw [e1] at e
   cases e
   have h1:L2.atI (ns.map V.int) i=some (V.int m):=by
    unfold L2.atI at e1 |-
    rw [lM_]
    cases e2:ixN ns.length i with
    | none=>rw [e2] at e1;cases e1
    | some j =>
     rw [e2] at e1
     have e3:ns[j]? = some m:=e1
     show (ns.map V.int)[j]? = some (V.int m)
     rw [gM_,e3];rfl
   exact .inl ⟨a,_,i,.int m,rfl,rfl,ta.sq,h1,k _ H (zQ.refl H) rfl⟩
theorem IsL.inv1 {A:Addr->Prop} {H:Hp} {d:D} {vs:List V} (h:IsL K A H [d] vs):∃ v,vs=[v]/\Is K A H d v:=by
 obtain ⟨x,ys,e1,e2,e3⟩:=h
 have e3':ys=[]:=e3
 exact ⟨x,by rw [e1,e3'],e2⟩
theorem IsL.inv2 {A:Addr->Prop} {H:Hp} {d d':D} {vs:List V} (h:IsL K A H [d,d'] vs):∃ v w,vs=[v,w]/\Is K A H d v/\Is K A H d' w:=by
 obtain ⟨x,ys,e1,e2,e3⟩:=h
 obtain ⟨w,e4,e5⟩:=IsL.inv1 e3
 exact ⟨x,w,by rw [e1,e4],e2,e5⟩
def qmU:List D->Option D
 | [.int i]=>some (.int (if i<0 then -i else i))
 | _=>none
theorem qfD:vU K qmU (fun xs H Q=>∃ i,xs=[.int i]/\Q (.int (if i<0 then -i else i)) H):=by
 intro A H xs d vs Q hn h e k
 unfold qmU at e
 split at e
 ·rename_i i
  obtain ⟨v,rfl,e2⟩:=IsL.inv1 h
  cases e2;cases e
  exact ⟨i,rfl,k _ H (zQ.refl H) rfl⟩
 ·cases e
def qbw:List D->Option D
 | [.int i,.int j]=>some (.int (if j>i then j else i))
 | _=>none
def vi:List D->Option D
 | [.int i,.int j]=>some (.int (if j<i then j else i))
 | _=>none
theorem qco:vU K qbw (fun xs H Q=>∃ i j,xs=[.int i,.int j]/\Q (.int (if j>i then j else i)) H):=by
 intro A H xs d vs Q hn h e k
 unfold qbw at e
 split at e
 ·rename_i i j
  obtain ⟨v,w,rfl,e2,e3⟩:=IsL.inv2 h
  cases e2;cases e3;cases e
  exact ⟨i,j,rfl,k _ H (zQ.refl H) rfl⟩
 ·cases e
theorem qad:vU K vi (fun xs H Q=>∃ i j,xs=[.int i,.int j]/\Q (.int (if j<i then j else i)) H):=by
 intro A H xs d vs Q hn h e k
 unfold vi at e
 split at e
 ·rename_i i j
  obtain ⟨v,w,rfl,e2,e3⟩:=IsL.inv2 h
  cases e2;cases e3;cases e
  exact ⟨i,j,rfl,k _ H (zQ.refl H) rfl⟩
 ·cases e
def qae:List D->Option D
 | [.int i,.int j]=>if qeC i j then some (.tup [.int (i/j),.int (i%j)]) else none
 | _=>none
theorem qcp:vU K qae (fun xs H Q=>∃ i j,xs=[.int i,.int j]/\qlf i j/\∀ p,H p=none->Q (.ref p) (upd H p (.tup [.int (i/j),.int (i%j)]))):=by
 intro A H xs d vs Q hn h e k
 unfold qae at e
 split at e
 ·rename_i i j
  obtain ⟨v,w,rfl,e2,e3⟩:=IsL.inv2 h
  cases e2;cases e3
  obtain ⟨e6,e7⟩:=zL e
  subst e7
  exact ⟨i,j,rfl,qdK e6,fun p hp=>k _ _ (qB hp _) ⟨p,_,rfl,.inl qv,_,_,rfl,rfl,_,_,rfl,rfl,rfl⟩⟩
 ·cases e
def qoJ:List D->Option D
 | [.int i]=>some (.int i)
 | [.bl b]=>some (.int (if b then 1 else 0))
 | _=>none
def qb9:List D->Option D
 | [.tup ds]=>some (.int ds.length)
 | [.lst ds]=>some (.int ds.length)
 | [.fz ns]=>some (.int ns.length)
 | [.str x]=>if qQ x.length then some (.int x.length) else none
 | _=>none
def qn8 (K:Fr0):List V->Hp->VK->Prop:=fun xs H Q=>(∃ p ys,xs=[.ref p]/\(SqL K H p ys\/SqT K H p ys)/\Q (.int ys.length) H)\/(∃ z,xs=[.str z]/\z.length<=sizeLine/\Q (.int z.length) H)
theorem j4 {X:Cx}:yA X (.builtin "len") (qn8 X.K):=yA.or qcj qck
theorem yC:vU K qb9 (qn8 K):=by
 intro A H xs d vs Q hn h e k
 unfold qb9 at e
 split at e
 ·obtain ⟨v,rfl,a,zs,rfl,ta,il⟩:=IsL.inv1 h
  cases e
  exact .inl ⟨a,zs,rfl,.inr ta.sq,by rw [il.length];exact k _ H (zQ.refl H) rfl⟩
 ·obtain ⟨v,rfl,a,zs,rfl,_,ta,il⟩:=IsL.inv1 h
  cases e
  exact .inl ⟨a,zs,rfl,.inl (.inl (.inl ta)),by rw [il.length];exact k _ H (zQ.refl H) rfl⟩
 ·obtain ⟨v,rfl,a,rfl,ta⟩:=IsL.inv1 h
  cases e
  exact .inl ⟨a,_,rfl,.inl ta.sq,by rw [lM_];exact k _ H (zQ.refl H) rfl⟩
 ·rename_i z
  obtain ⟨v,rfl,e2⟩:=IsL.inv1 h
  cases e2
  obtain ⟨e4,e5⟩:=zL e
  subst e5
  exact .inr ⟨z,rfl,of_decide_eq_true e4,k _ H (zQ.refl H) rfl⟩
 ·cases e
def qaf:List D->Option D
 | [.tup ds]=>some (.tup ds)
 | [.lst ds]=>some (.tup ds)
 | _=>none
theorem qc8:vU K qaf (fun xs H Q=>∃ p ys,xs=[.ref p]/\((SqL K H p ys/\∀ l,H l=none->Q (.ref l) (upd H l (.tup ys)))\/(SqT K H p ys/\Q (.ref p) H))):=by
 intro A H xs d vs Q hn h e k
 unfold qaf at e
 split at e
 ·obtain ⟨v,rfl,a,zs,rfl,ta,il⟩:=IsL.inv1 h
  cases e
  exact ⟨a,zs,rfl,.inr ⟨ta.sq,k _ H (zQ.refl H) ⟨a,zs,rfl,ta,il⟩⟩⟩
 ·obtain ⟨v,rfl,a,zs,rfl,_,ta,il⟩:=IsL.inv1 h
  cases e
  exact ⟨a,zs,rfl,.inl ⟨.inl (.inl ta),fun l hl=>k _ _ (qB hl _) ⟨l,zs,rfl,.inl qv,IsL.ext (Ext.of_same (qB hl _)) (fun _ h _=>h) il⟩⟩⟩
 ·cases e
end
end L2.Sk
namespace L2.Sk
open PySem PySem.Spec PySem.Calls PyProof.Rows PySem.W
def qiv (h:Heap) (a D:Addr):Prop:=∃ o,h.get? a=some o/\o.cls = .ref D
theorem qiv.looks {M:Model} {h:Heap} {a D:Addr} (I:qiv h a D):Looks M h (typeOf (.ref a)) (.ref D):=by
 obtain ⟨o,h1,h2⟩:=I
 rw [<- h2]
 exact (Looks.ld h1).andThen .now
section
variable {prog:Program} {w:World} {A:Around} {E:Value->Shared->Prop} {K:Frag} {h:Heap} {g:Array GenState} {d:Drawn} {t:Nat} {os:OsState} {a D:Addr}
theorem qlI (hm:mroIn K D (.type "object")=some true) {tp:Value} {R:Result->Shared->Prop} (X:K.In h) (I:qiv h a D) (hq:R (.ok (.ret (.ref D))) ⟨h,g,d,t,os⟩) :
  codeAny (model prog w) A (.call (.builtin "getset_descriptor.__get__") ⟨[.builtin "object.__class__",.ref a,tp],[]⟩) R ⟨h,g,d,t,os⟩:=by
 have L0:=I.looks (M:=model prog w)
 have L1:=looks_mroIn (M:=model prog w) X hm
 have hT5:(⟨h,g,d,t,os⟩:Shared).TypeIs (.builtin "object.__class__") "getset_descriptor":=F.typeOf_object_class
 refine codeAny_call_builtin F.slot_gs_get.plain F.entry_gs_get (F.slot_gs_get.check _ _ _ _ _ _ _ _ hT5 (F.args_gs_get _ _ _) ?_)
 have eo:".".intercalate ("object.__class__".cutAt '.').dropLast="object":=by decide +kernel
 repeat (any_goals (first | assumption | with_reducible refine L0.at ?_ | with_reducible refine L1.at ?_ | wp_step))
 rw [eo]
 refine L1.at ?_
 repeat (any_goals (first | assumption | with_reducible refine L0.at ?_ | wp_step))
 refine ⟨Code.quiet_builtin _ (by decide +kernel),codeAny_builtin F.entry_object_class ?_⟩
 repeat (any_goals (first | assumption | with_reducible refine L0.at ?_ | wp_step))
theorem qhk (ha:findIn K (.ref D) "__class__"=some (some (.builtin "object.__class__"))) (hm:mroIn K D (.type "object")=some true) {tk:Tok} {Q:Fin->Shared->Prop} (X:K.In h) (I:qiv h a D) (hq:Q (.done (.ret (.ref D))) ⟨h,g,d,t,os⟩) :
  wpAny (model prog w) A (Builtin.«object.__getattribute__» ⟨[.ref a,.str "__class__" tk],[]⟩) Q E ⟨h,g,d,t,os⟩:=by
 have L0:=I.looks (M:=model prog w)
 have L1:=looks_findIn (M:=model prog w) X ha
 have hT5:(⟨h,g,d,t,os⟩:Shared).TypeIs (.builtin "object.__class__") "getset_descriptor":=F.typeOf_object_class
 have f5:=F.typeOf_object_class
 have f6:=F.slot_gs_get.lookup
 have f7:=F.slot_gs_set.lookup
 repeat (any_goals (first | assumption | with_reducible refine L0.at ?_ | with_reducible refine L1.at ?_ | wp_step))
 refine qlI hm X I ?_
 repeat (any_goals (first | assumption | wp_step))
theorem qhl (hb:Looks (model prog w) h (isSubtype (.ref D) (.type "BaseException")) true) {nameV:Value} {Q:Unit->Shared->Prop} (I:qiv h a D) (hq:Q () ⟨h,g,d,t,os⟩):wpAny (model prog w) A (checkBuiltinCall "BaseException.__getattribute__" ⟨[.ref a,nameV],[]⟩) Q E ⟨h,g,d,t,os⟩:=by
 have hk:builtinKind "BaseException.__getattribute__"=some .slot:=by decide +kernel
 have hsplit:splitId "BaseException.__getattribute__"=some ("BaseException","__getattribute__"):=by decide +kernel
 have L0:=I.looks (M:=model prog w)
 have ha:=F.args_bexc_ga (.ref a) nameV
 simp only [checkBuiltinCall,hk,hsplit]
 refine wpAny_bind ?_
 ·unfold isInstance
  repeat (first | with_reducible refine L0.at ?_ | with_reducible refine hb.at ?_ | wp_step)
  exact hq
theorem qnt (FA:ExcAttrFacts "ValueError") (hga:findIn K (.ref D) "__getattribute__"=some (some (.builtin "BaseException.__getattribute__"))) (hgt:findIn K (.ref D) "__getattr__"=some none) (ha:findIn K (.ref D) "__class__"=some (some (.builtin "object.__class__"))) (hm:mroIn K D (.type "object")=some true)
  (hb:Looks (model prog w) h (isSubtype (.ref D) (.type "BaseException")) true) {tk:Tok} {fill expr:Bool} {Q:Value->Shared->Prop} (X:K.In h) (I:qiv h a D) (hq:Q (.ref D) ⟨h,g,d,t,os⟩) :
  wpAny (model prog w) A (getAttrBy (.ref a) (.str "__class__" tk) fill expr) Q E ⟨h,g,d,t,os⟩:=by
 have L0:=I.looks (M:=model prog w)
 have L1:=looks_findIn (M:=model prog w) X hga
 have L2:=looks_findIn (M:=model prog w) X hgt
 have f3:=FA.ga.bind (.ref a)
 have hx0:(expr&&onTheHeap (Value.builtin "BaseException.__getattribute__"))=false:=by cases expr<;>rfl
 have hx2:(Value.builtin "BaseException.__getattribute__"==Value.builtin "object.__getattribute__")=false:=by decide +kernel
 have hx1:(onTheHeap (Value.ref D)&&Value.builtin "BaseException.__getattribute__"==Value.builtin "object.__getattribute__")=false:=by rw [hx2];rfl
 repeat (any_goals (first | assumption | with_reducible refine L0.at ?_ | with_reducible refine L1.at ?_ | with_reducible refine L2.at ?_ | wp_step))
 refine codeAny_call_builtin FA.ga.plain F.entry_bexc_ga (qhl hb I (qhk ha hm X I ?_))
 repeat (any_goals (first | assumption | wp_step))
theorem qjJ (FA:ExcAttrFacts "ValueError") (hga:findIn K (.ref D) "__getattribute__"=some (some (.builtin "BaseException.__getattribute__"))) (hgt:findIn K (.ref D) "__getattr__"=some none) (ha:findIn K (.ref D) "__class__"=some (some (.builtin "object.__class__"))) (hm:mroIn K D (.type "object")=some true)
  (hb:Looks (model prog w) h (isSubtype (.ref D) (.type "BaseException")) true) {Q:Option Value->Shared->Prop} (X:K.In h) (I:qiv h a D) (hq:Q (some (.ref D)) ⟨h,g,d,t+1,os⟩) :
  wpAny (model prog w) A (getAttr? (.ref a) "__class__") Q E ⟨h,g,d,t,os⟩:=by
 unfold getAttr? getAttrBy?
 repeat (any_goals (first | assumption | with_reducible apply qnt FA hga hgt ha hm hb X I | wp_step))
end
theorem qhm {K:Frag} {a D:Addr} (c:XK6 K D):KitX K (.ref a) (.ref D) (fun h=>qiv h a D) where
 ty:=fun _ _ _ I=>I.looks
 it := fun _ _ X _=>by
  obtain ⟨cdD,hcD⟩:=Option.isSome_iff_exists.mp c.is
  unfold clsIn at hcD
  split at hcD
  ·rename_i c' d' cd' sl' ho
   intro A' Q' E' s' k q
   unfold isType loadHead
   exact wpAny_bind (wpAny_loadPart (k _ _ (X _ _ ho)) (wpAny_pure q))
  ·cases hcD
 ne := fun h tp dd its n sl X htp=>by
  obtain ⟨cdD,hcD⟩:=Option.isSome_iff_exists.mp c.is
  refine Bool.eq_false_iff.mpr fun q => ?_
  have e:D=tp:=Value.ref.inj (beq_iff_eq.mp q)
  subst e
  unfold clsIn at hcD
  split at hcD
  ·rename_i c' d' cd' sl' ho
   have z:=(X _ _ ho).symm.trans htp
   cases z
  ·cases hcD
 ca:=fun {prog w A E Q s} X p k=>by
  have I:=p
  obtain ⟨h,g,d,t,os⟩:=s
  exact qjJ PySem.F.attrBase_ValueError.toExcAttrFacts c.ga c.gt c.cl c.ob (looks_subIn X c.be) X I k
theorem qa4 {X:Cx} {pins:List (Addr×Obj)} {Z:St} {H:Hp} {s:Shared} {A:Around} {E:Value->Shared->Prop} {Q:Value->Shared->Prop} {a C:Addr} {c:Value} {b:Bool} (I:Inv X pins Z H s) (xc:XK6 X.K C) (hH:∃ o vs,H a=some (.frz o (.own a))/\o.cls = .ref C/\o.data = .fields vs)
  (e:kitOne X.K (.ref C) c=some b) (h:∀ tk,Q (.bool b) { s with toks:=tk }):wpAny (model X.prog X.w) A (call (.builtin "isinstance") [.ref a,c]) Q E s:=by
 obtain ⟨o,vs,h1,h2,_⟩:=hH
 obtain ⟨p,_⟩:=(show yz X.prog X.w H s.heap a (.frz o (.own a)) from I.hok a _ h1)
 exact kia_one (qhm xc) I.kIn ⟨o,p,h2⟩ e (fun z=>nomatch z) h
end L2.Sk
namespace L2.Sk
open PySem PySem.Spec PyProof.Rows
def tyD:D->String
 | .non=>"NoneType"
 | .bl _=>"bool"
 | .int _=>"int"
 | .str _=>"str"
 | .tup _=>"tuple"
 | .lst _=>"list"
 | .dic _=>"dict"
 | .fz _=>"list"
 | .exc _=>"exc"
def qc9 (t T:String):Bool:=t==T||(t=="bool"&&T=="int")
def qeD:List String:=["NoneType","bool","int","str","tuple","list","dict"]
theorem qjK (d:D) (h:∀ C,d ≠ .exc C):tyD d∈qeD:=by
 cases d<;>first | (simp [tyD,qeD];done) | exact absurd rfl (h _)
structure qkQ (K:Fr0) (T:String):Prop where
 ok:∀ t∈qeD,PySem.W.kitOne K (.type t) (.type T)=some (qc9 t T)
 ex:T∈["int","bool","str","tuple","list","dict"]
 nx:qc9 "exc" T=false
theorem qjL {K:Fr0}:qkQ K "int":=⟨fun t ht=>by
 simp only [qeD,List.mem_cons,nN_,or_false] at ht
 rcases ht with rfl | rfl | rfl | rfl | rfl | rfl | rfl<;>kernel_rfl,by decide,by decide⟩
theorem qhn {K:Fr0}:qkQ K "bool":=⟨fun t ht=>by
 simp only [qeD,List.mem_cons,nN_,or_false] at ht
 rcases ht with rfl | rfl | rfl | rfl | rfl | rfl | rfl<;>kernel_rfl,by decide,by decide⟩
theorem qcq {K:Fr0}:qkQ K "tuple":=⟨fun t ht=>by
 simp only [qeD,List.mem_cons,nN_,or_false] at ht
 rcases ht with rfl | rfl | rfl | rfl | rfl | rfl | rfl<;>kernel_rfl,by decide,by decide⟩
section
variable {X:Cx} {pins:List (Addr×Obj)} {Z:St} {H:Hp} {s:Shared} {A:Addr->Prop} {E:Value->Shared->Prop} {Q:Value->Shared->Prop}
theorem qlJ {d:D} {v:V} {u:Value} {T:String} (I:Inv X pins Z H s) (h:Is X.K A H d v) (rv:ji v u) (kt:qkQ X.K T) (hQ:∀ tk,Q (.bool (qc9 (tyD d) T)) { s with toks:=tk }) :
  wpAny (model X.prog X.w) X.A (call (.builtin "isinstance") [u,.type T]) Q E s:=by
 by_cases hx:∃ C,d = .exc C
 ·obtain ⟨C,rfl⟩:=hx
  obtain ⟨a,rfl,xa⟩:=h
  cases (show u=Value.ref a from rv)
  have q:∀ tk,Q (.bool false) { s with toks:=tk }:=fun tk=>by
   have:=hQ tk
   rw [show tyD (.exc C)="exc" from rfl,kt.nx] at this
   exact this
  obtain ⟨D0,h0,h1,h2⟩:=xa
  exact qa4 I h1 h2 (h1.no T kt.ex) q
 have e:=kt.ok (tyD d) (qjK d fun C hC=>hx ⟨C,hC⟩)
 cases d with
 | exc C=>exact absurd ⟨C,rfl⟩ hx
 | non=>cases h;exact yZ I rv .non e hQ
 | bl b=>cases h;exact yZ I rv (.bl b) e hQ
 | int i=>cases h;exact yZ I rv (.int i) e hQ
 | str x=>cases h;exact yZ I rv (.str x) e hQ
 | tup ds =>
  obtain ⟨a,xs,rfl,ta,il⟩:=h
  cases (show u=Value.ref a from rv)
  obtain ⟨its,r,p,z⟩:=I.tuple ta.sq
  obtain ⟨o,h1,h2,_⟩:=p
  exact PySem.W.kia_one PySem.W.kitx_tuple I.kIn ⟨o,h1,h2⟩ e (fun z=>nomatch z) hQ
 | lst ds =>
  obtain ⟨a,xs,rfl,hA,ta,il⟩:=h
  exact yZ I rv (.lst ta) e hQ
 | dic kvs =>
  obtain ⟨a,rfl,hA,ta⟩:=h
  exact yZ I rv (.dK ta) e hQ
 | fz ns =>
  obtain ⟨a,rfl,ta⟩:=h
  cases (show u=Value.ref a from rv)
  obtain ⟨its,r,p,z⟩:=I.list ta.sq
  obtain ⟨o,h1,h2,_⟩:=p.isList
  exact PySem.W.kia_one PySem.W.kitx_list I.kIn ⟨o,h1,h2⟩ e (fun z=>nomatch z) hQ
end
def qjM (T:String) (f:M D):M D:=bnd f fun d=>ret (.bl (qc9 (tyD d) T))
section
variable {X:Cx} {c:Fc} {a b e:Expr} {pos:Pos}
def qoK (K:Fr0) (T:String):List V->Hp->VK->Prop:=fun xs H Q=>∃ v d A,xs=[v,.ty T]/\Is K A H d v/\Q (.bl (qc9 (tyD d) T)) H
theorem qho {T:String} (kt:qkQ X.K T):yA X (.builtin "isinstance") (qoK X.K T):=by
 intro pins s Z H xs us Q I r h
 obtain ⟨v,d,A,rfl,hi,q⟩:=h
 obtain ⟨u,w,rfl,r1,r2⟩:=qW.two r
 cases (show w=Value.type T from r2)
 exact qlJ I hi r1 kt fun tk=>⟨.bl _,H,I.tok tk,rfl,q⟩
theorem qdM {T:String} {x:Str} {p p2:Pos} {f:M D} (kt:qkQ X.K T) (hg:Gl X "isinstance") (hm:X.mg "isinstance"=none) (hg2:Gl X x) (hm2:X.mg x=none) (hv2:bootBuiltins x=some (.type T)) (ha:DE X c a f)
  (hv:bootBuiltins "isinstance"=some (.builtin "isinstance"):=by first | rfl | exact PySem.boot_isinstance) (hn2:x≠"__name__":=by decide) (hdb2:(x==("__debug__":Str))=false:=by decide)
  (he:starEach [a,.Name x p2] X.env=(false,eval a X.env)::starEach [.Name x p2] X.env:=by rfl) (hpl:(backTo pos (starEach [.Name x p2] X.env)).any (·.1)=false:=by rfl):DE X c (.Call (.Name "isinstance" p) [a,.Name x p2] [] pos) (qjM T f):=by
 obtain ⟨t,pa,w⟩:=ha
 refine ⟨_,vw (qho kt) hg hm hv (jz pa (jz (qe9 (v := .ty T) hg2 hm2 hv2 rfl hn2 hdb2) vb (by rfl)) he) (by decide) (by decide) he hpl,fun U Z H Q r h=>w U Z H _ r (Wp.bnd h fun d U1 v H1 r1 i1 g1 h1 => ?_)⟩
 exact ⟨v,d,_,rfl,i1,h1 _ H1 r1 rfl .refl⟩
end
def yD:List D->Option (List Bool)
 | []=>some []
 | .bl b::r=>(yD r).map (b::·)
 | _=>none
def u8:List D->Option (List Int)
 | []=>some []
 | .int i::r=>(u8 r).map (i::·)
 | _=>none
theorem uj {K:Fr0} {A:Addr->Prop} {H:Hp}:∀ {ds:List D} {xs:List V} {bs:List Bool},IsL K A H ds xs->yD ds=some bs->xs=bs.map V.bl
 | [],_,_,h,e=>by cases e;exact h
 | .bl b::r,_,bs,⟨x,ys,hx,h1,h2⟩,e=>by
  cases h1
  cases e1:yD r with
  | none=>simp [yD,e1] at e
  | some l =>
   simp [yD,e1] at e
   subst e
   rw [hx,uj h2 e1];rfl
 | .non::_,_,_,_,e=>by cases e
 | .int _::_,_,_,_,e=>by cases e
 | .str _::_,_,_,_,e=>by cases e
 | .tup _::_,_,_,_,e=>by cases e
 | .lst _::_,_,_,_,e=>by cases e
 | .dic _::_,_,_,_,e=>by cases e
 | .fz _::_,_,_,_,e=>by cases e
 | .exc _::_,_,_,_,e=>by cases e
theorem y9 {K:Fr0} {A:Addr->Prop} {H:Hp}:∀ {ds:List D} {xs:List V} {bs:List Int},IsL K A H ds xs->u8 ds=some bs->xs=bs.map V.int
 | [],_,_,h,e=>by cases e;exact h
 | .int b::r,_,bs,⟨x,ys,hx,h1,h2⟩,e=>by
  cases h1
  cases e1:u8 r with
  | none=>simp [u8,e1] at e
  | some l =>
   simp [u8,e1] at e
   subst e
   rw [hx,y9 h2 e1];rfl
 | .non::_,_,_,_,e=>by cases e
 | .bl _::_,_,_,_,e=>by cases e
 | .str _::_,_,_,_,e=>by cases e
 | .tup _::_,_,_,_,e=>by cases e
 | .lst _::_,_,_,_,e=>by cases e
 | .dic _::_,_,_,_,e=>by cases e
 | .fz _::_,_,_,_,e=>by cases e
 | .exc _::_,_,_,_,e=>by cases e
theorem qhp {bs:List Bool}:∀ {us:List Value},qW (bs.map V.bl) us->LSm.BoolsAre us bs:=by
 induction bs with
 | nil=>intro us r;rw [List.map_nil] at r;cases r;exact .nil
 | cons b bs ih =>
  intro us r
  rw [mC_] at r
  cases r with
  | cons r1 r2 =>
   cases (show _=Value.bool b from r1)
   exact .cons b (ih r2)
section
variable {X:Cx}
theorem qdN (hc:X.calm=true):yA X (.builtin "all") (fun xs H Q=>∃ (p:Addr) (bs:List Bool),xs=[.ref p]/\H p=some (.lst (bs.map V.bl))/\Q (.bl (bs.all id)) H):=by
 intro pins s Z H xs us Q I r h
 obtain ⟨p,bs,rfl,hp,q⟩:=h
 obtain ⟨u,rfl,ru⟩:=qW.one r
 cases ru
 obtain ⟨its,rv,pl,hz⟩:=I.list (SqL.of hp)
 have hl:=pl.isList
 have hb:=qhp rv
 have hlt:p<s.heap.objs.size:=by obtain ⟨_,e,_⟩:=hl;exact Heap.lt_size e
 refine call_all_walk (wpAny_pyIter_list hl ?_)
 refine ⟨s.heap.objs.size,[s.heap.objs.size,p],[s.heap.objs.size],its.toArray.size,_,_,fun i=>(bs[i]?).getD true,rfl,Walks.list (A:=X.A.in1) (I.ok.hd hc) _ p (Nat.ne_of_lt hlt) its.toArray,
  ⟨⟨_,Heap.get?_push_size _ rfl,rfl,rfl⟩,hl.push _⟩,fun i v s' Q' E' hP hQ => ?_,fun h' tk hk => ?_⟩
 ·obtain ⟨b,e,rfl⟩:=hb.get i v (by simpa using hP)
  simp only [e,Option.getD_some] at hQ
  exact wpAny_truthy_bool hQ
 ·have e:((List.range its.toArray.size).all fun i=>(bs[i]?).getD true)=bs.all id:=by
   rw [sT_,hb.length];exact LSm.range_all bs
  rw [e]
  exact ⟨.bl _,H,I.kept (LSm.kept_iter hk),rfl,q⟩
theorem qhq (hc:X.calm=true):yA X (.builtin "sum") (fun xs H Q=>∃ (p:Addr) (ns:List Int),xs=[.ref p]/\H p=some (.lst (ns.map V.int))/\Q (.int ns.sum) H):=by
 intro pins s Z H xs us Q I r h
 obtain ⟨p,ns,rfl,hp,q⟩:=h
 obtain ⟨u,rfl,ru⟩:=qW.one r
 cases ru
 obtain ⟨its,rv,pl,hz⟩:=I.list (SqL.of hp)
 have hl:=pl.isList
 have hi:IntsAre its ns:=vT rv
 obtain ⟨zs,hx⟩:=hi.allInts.items
 have hl':s.heap.IsList p (intItems zs):=hx▸hl
 refine sum_intListG (I.ok.hd hc) hl' fun h' tk t' hk => ?_
 have e1:ns=zs.toList.map (·.1):=by
  rw [<- nums_intItems,<- hx]
  exact (show numsOf its.toArray.toList=ns from hi.numsOf).symm
 have e2:preSum (numAt zs) zs.size=ns.sum:=by
  rw [preSum_eq,List.take_of_length_le (by simp),e1]
 rw [e2]
 exact ⟨.int _,H,I.kept hk,⟨_,rfl⟩,q⟩
end
def qe5:List D->Option D
 | [.lst ds]=>(yD ds).map fun bs => .bl (bs.all id)
 | _=>none
def qlK:List D->Option D
 | [.lst ds]=>(u8 ds).map fun bs => .int bs.sum
 | _=>none
section
variable {K:Fr0}
theorem qcr:vU K qe5 (fun xs H Q=>∃ (p:Addr) (bs:List Bool),xs=[.ref p]/\H p=some (.lst (bs.map V.bl))/\Q (.bl (bs.all id)) H):=by
 intro A H xs d vs Q hn h e k
 unfold qe5 at e
 split at e
 ·obtain ⟨v,rfl,a,zs,rfl,_,ta,il⟩:=IsL.inv1 h
  obtain ⟨bs,h1,h2⟩:=Option.map_eq_some_iff.mp e
  subst h2
  rw [uj il h1] at ta
  exact ⟨a,bs,rfl,ta,k _ H (zQ.refl H) rfl⟩
 ·cases e
theorem qfE:vU K qlK (fun xs H Q=>∃ (p:Addr) (ns:List Int),xs=[.ref p]/\H p=some (.lst (ns.map V.int))/\Q (.int ns.sum) H):=by
 intro A H xs d vs Q hn h e k
 unfold qlK at e
 split at e
 ·obtain ⟨v,rfl,a,zs,rfl,_,ta,il⟩:=IsL.inv1 h
  obtain ⟨bs,h1,h2⟩:=Option.map_eq_some_iff.mp e
  subst h2
  rw [y9 il h1] at ta
  exact ⟨a,bs,rfl,ta,k _ H (zQ.refl H) rfl⟩
 ·cases e
end
section
variable {X:Cx}
def qiw (K:Fr0):R2:=fun x y H Q=>∃ a b ys,x = .ref a/\y = .ref b/\SqT K H a []/\SqT K H b ys/\Q (.ref b) H
theorem qhr:OpR X (binaryOp .Add) (qiw X.K):=by
 intro pins s Z H x y v u Q I rx ry h
 obtain ⟨a,b,ys,rfl,rfl,ha,hb,q⟩:=h
 cases rx
 cases ry
 obtain ⟨its,r1,p1,_⟩:=I.tuple ha
 obtain ⟨its2,r2,p2,_⟩:=I.tuple hb
 cases r1
 obtain ⟨⟨cls,dd,data,sl⟩,ho,hc,n,hd⟩:=id p1
 obtain ⟨⟨cls2,dd2,data2,sl2⟩,ho2,hc2,n2,hd2⟩:=id p2
 simp only at hc hd hc2 hd2
 subst hc hd hc2 hd2
 exact concat_meets ⟨_,ho,rfl⟩ ⟨_,ho2,rfl⟩ noFill_tuple_add seq_tuple_add PySem.F.slot_tuple_add PySem.F.entry_tuple_add (PySem.F.args_tuple_add_2 _ _)
   (tuple_addW0 a b [].toArray its2.toArray n n2 dd dd2 sl sl2 (by simp)) ⟨ho,ho2,⟨.ref b,H,I,rfl,q⟩⟩
def qlL (K:Fr0):R2:=fun x y H Q=>(∃ i j,x = .int i/\y = .int j/\Q (.int (i+j)) H)\/((∃ i j,x = .str i/\y = .str j/\i.length+j.length<=sizeLine/\Q (.str (i++j)) H)\/(qiw K x y H Q\/(qls K x y H Q\/qn5 x y H Q)))
theorem qT:OpR X (binaryOp .Add) (qlL X.K):=OpR.or qlh (OpR.or qew (OpR.or qhr (OpR.or qjy qlx)))
end
def ze:D->D->Option D
 | .int i,.int j=>some (.int (i+j))
 | .str x,.str y=>if qQ (x.length+y.length) then some (.str (x++y)) else none
 | .tup xs,.tup ys=>if qQ (xs.length+ys.length) then some (.tup (xs++ys)) else none
 | .lst xs,.lst ys=>if qQ (xs.length+ys.length) then some (.lst (xs++ys)) else none
 | _,_=>none
theorem qU {K:Fr0}:OpS K ze (qlL K):=by
 intro A H x y d v u Q hn ix iy e k
 cases x<;>cases y<;>simp only [ze] at e<;>try (cases e;done)
 ·rename_i i j
  cases ix;cases iy;cases e
  exact .inl ⟨i,j,rfl,rfl,k _ H (zQ.refl H) rfl⟩
 ·rename_i i j
  cases ix;cases iy
  obtain ⟨e1,e2⟩:=zL e
  subst e2
  exact .inr (.inl ⟨i,j,rfl,rfl,of_decide_eq_true e1,k _ H (zQ.refl H) rfl⟩)
 ·rename_i ds es
  obtain ⟨a,xs,rfl,ta,il⟩:=ix
  obtain ⟨b,ys,rfl,tb,jl⟩:=iy
  obtain ⟨e1,e2⟩:=zL e
  subst e2
  have hs:xs.length+ys.length<=sizeLine:=by rw [il.length,jl.length];exact of_decide_eq_true e1
  refine .inr (.inr ?_)
  cases ds with
  | nil =>
   have hx:xs=[]:=il
   subst hx
   exact .inl ⟨a,b,ys,rfl,rfl,ta.sq,tb.sq,k _ H (zQ.refl H) ⟨b,ys,rfl,tb,jl⟩⟩
  | cons d0 ds =>
   refine .inr (.inl ⟨a,b,xs,ys,rfl,rfl,ta.sq,tb.sq,?_,hs,fun hy => ?_,fun hy p hp => ?_⟩)
   ·obtain ⟨x,zs,hx,_⟩:=il
    rw [hx];simp
   ·subst hy
    cases es with
    | nil=>rw [List.append_nil] at k;exact k _ H (zQ.refl H) ⟨a,xs,rfl,ta,il⟩
    | cons e0 es=>obtain ⟨_,_,hx,_⟩:=jl;cases hx
   ·exact k _ _ (qB hp _) ⟨p,xs++ys,rfl,.inl qv,IsL.ext (Ext.of_same (qB hp _)) (fun _ h _=>h) (IsL.append il jl)⟩
 ·rename_i ds es
  obtain ⟨a,xs,rfl,hA,ta,il⟩:=ix
  obtain ⟨b,ys,rfl,hB,tb,jl⟩:=iy
  obtain ⟨e1,e2⟩:=zL e
  subst e2
  have hs:xs.length+ys.length<=sizeLine:=by rw [il.length,jl.length];exact of_decide_eq_true e1
  exact .inr (.inr (.inr (.inr ⟨a,b,xs,ys,rfl,rfl,ta,tb,hs,fun p hp=>k _ _ (qB hp _) ⟨p,xs++ys,rfl,hn p hp,qv,IsL.ext (Ext.of_same (qB hp _)) (fun _ h _=>h) (IsL.append il jl)⟩⟩)))
section
variable {X:Cx}
def qn9 (K:Fr0):V->Option Int->Option Int->Hp->VK->Prop:=fun x lo hi H Q=>∃ a xs,x = .ref a/\SqT K H a xs/\(HT.sIx xs.length 0 lo=0/\HT.sIx xs.length xs.length hi=xs.length)/\Q (.ref a) H
theorem vj {prog:Program} {w:World} {A:Around} {E:Value->Shared->Prop} {s:Shared} {t sl:Addr} {items:Array Value} {vl vu:Value} {lo hi:Option Int} {Q:Value->Shared->Prop} (ht:IsTup s.heap t items) (hs:s.heap.IsSliceOf sl vl vu .none) (pl:IsPart vl lo) (pu:IsPart vu hi)
  (hw:HT.sIx items.size 0 lo=0/\HT.sIx items.size items.size hi=items.size) (h:Q (.ref t) s):wpAny (model prog w) A (getItem (.ref t) (.ref sl)) Q E s:=by
 obtain ⟨os,hos,hcs,hds⟩:=id hs
 have hTs:s.TypeIs (.ref sl) "slice":=⟨os,hos,hcs⟩
 unfold getItem
 try with_reducible refine wpAny_holding ?_
 first | refine wpAny_bind (wpAny_pure ?_) | skip
 refine wpAny_bind (wpAny_sequenceKey ht.typeIs (by decide) ?_)
 refine wpAny_bind (wpAny_callSpecial?_slot (name:=Str.ofString "__getitem__") ht.typeIs PyProof.Rows.slot_tuple_getitem
  (wpAny_call_entry PyProof.Rows.slot_tuple_getitem ht.typeIs entry_tuple_getitem ?_ (args_tuple_getitem _ _)))
 show wpAny _ _ (Builtin.Tuple.tupleItemsOf (.ref t) >>= _) _ _ s
 refine wpAny_bind (tupleItemsOf_ ht ?_)
 refine wpAny_bind (wpAny_typeOf hTs ?_)
 rw [if_pos (by decide)]
 refine wpAny_bind (HT.sliceApplied_gen hs pl pu ?_)
 have hyes:(((HT.sIx items.size 0 lo:Nat):Int)==0&&(1:Int)==1&&(HT.sIx items.size items.size hi-HT.sIx items.size 0 lo)==items.size)=true:=by
  rw [hw.1,hw.2];simp
 show wpAny _ _ (if (((HT.sIx items.size 0 lo:Nat):Int)==0&&(1:Int)==1&&(HT.sIx items.size items.size hi-HT.sIx items.size 0 lo)==items.size)=true then _ else _) _ _ s
 rw [if_pos hyes]
 refine wpAny_bind (m:=Builtin.Tuple.tupleIsExact (.ref t)) ?_
 unfold Builtin.Tuple.tupleIsExact
 refine wpAny_bind (wpAny_typeOf ht.typeIs ?_)
 refine wpAny_pure ?_
 rw [if_pos (by decide)]
 exact wpAny_bind (wpAny_rule (wpAny_pure ⟨_,rfl,wpAny_pure h⟩))
theorem qhs:SlR X (qn9 X.K):=by
 intro pins s Z H x v vl vu lo hi sl Q I rx hs pl pu h
 obtain ⟨a,xs,rfl,hx,hw,q⟩:=h
 cases rx
 obtain ⟨its,r,ht,hz⟩:=I.tuple hx
 have hlen:its.toArray.size=xs.length:=by rw [sT_];exact r.length.symm
 refine ⟨"tuple",_,PyProof.Rows.slot_tuple_getitem.lookup,ht.typeIs,?_⟩
 exact vj ht hs pl pu (by rw [hlen];exact hw) ⟨.ref a,H,I,rfl,q⟩
theorem qlM:SlR X (fun x lo hi H Q=>qn9 X.K x lo hi H Q\/qn4 X.K x lo hi H Q):=SlR.or qhs sl_tup
end
def qe6 (xs:List D) (lo hi:Option Int):List D:=(xs.drop (HT.sIx xs.length 0 lo)).take (HT.sIx xs.length xs.length hi-HT.sIx xs.length 0 lo)
def slD (x:D) (lo hi:Option Int):Option D:=match x with
 | .tup ds=>some (.tup (qe6 ds lo hi))
 | _=>none
section
variable {X:Cx} {c:Fc} {a b e:Expr} {pos p2:Pos}
def DO (X:Cx) (c:Fc) (e:Option Expr) (f:M (Option Int)):Prop:=∃ t,PO X e t/\∀ U Z H Q,Rep X.K c U Z H->(∀ o U',f U = .ok (o,U')->∀ H',Rep X.K c U' Z H'->Gr c.O Z H H'->Q o H')->(∀ x U',f U = .exc x U'->∀ H',Rep X.K c U' Z H'->Gr c.O Z H H'->c.E x H')->f U ≠ .bad->t Z H Q
theorem qfF:DO X c none (ret none):=⟨_,qjw,fun U Z H Q r h _ _=>h none U rfl H r .refl⟩
def asI:D->Option Int
 | .int i=>some i
 | _=>none
def qaR (f:M D):M (Option Int):=bnd f fun d=>match d with
 | .int i=>ret (some i)
 | _=>fun _ => .bad
theorem qfG {f:M D} (h:DE X c e f):DO X c (some e) (qaR f):=by
 obtain ⟨t,p,w⟩:=h
 refine ⟨_,qjx p,fun U Z H Q r h1 h2 h3=>w U Z H _ r ?_⟩
 unfold qaR bnd at h1 h2 h3
 cases e1:f U with
 | ok q =>
  obtain ⟨d,U'⟩:=q
  rw [e1] at h1 h2 h3
  intro v H' r' i' g'
  cases d<;>simp only [ret] at h1 h2 h3<;>try (exact absurd rfl h3)
  rename_i i
  exact ⟨i,i',h1 (some i) U' rfl H' r' g'⟩
 | exc x U'=>rw [e1] at h2;exact fun H' r' g'=>h2 x U' rfl H' r' g'
 | bad=>rw [e1] at h3;exact absurd rfl h3
def dsl (f:M D) (g k:M (Option Int)):M D:=bnd f fun d=>bnd g fun l=>bnd k fun u=>lift (slD d l u)
end
def zR (X:Cx) (scope:Scope) (N':List Str) (fp:List Addr) (cl:List (Str×Addr)) (C:Addr) (s₀:Shared) (H₀:Hp) (pn:List (Addr×Obj)):Cx where
 prog:=X.prog
 w:=X.w
 K:=X.K
 mg:=X.mg
 base:=X.base
 A:=X.A
 N:=N'
 s₀:=s₀
 H₀:=H₀
 env:=compEnvC scope cl C X.env
 outer:=X.stack
 stack:=X.stack
 ex:=fp
 fn:=fun _=>false
 calm:=X.calm
 pn:=pn
 xe:=fun _ _=>False
def PF (X:Cx) (ifs:List Expr) (t:TT):Prop:=∀ (pins:List (Addr×Obj)) (s:Shared) (Z:St) (H:Hp) (Q:Bool->Hp->Prop),Inv X pins Z H s->t Z H Q ->
 wpAny (model X.prog X.w) X.A (forIn ifs true fun c r=>if r=true then do let ok <- isTrue c X.env (eval c X.env);pure (ForInStep.yield ok) else pure (ForInStep.yield r)) (TP X pins Z Q) X.xe s
theorem qlN {X:Cx}:PF X [] (fun _ H Q=>Q true H):=fun pins s Z H Q I h=>wpAny_tests_nil ⟨H,I,h⟩
theorem qlO {X:Cx} {e:Expr} {t:TT} (h:PT X e t):PF X [e] t:=fun pins s Z H Q I hw=>wpAny_tests_one (h pins s Z H Q I hw)
structure j6 (X:Cx) (scope:Scope) (N':List Str) (nt:Nat) (fr:List Nat):Prop where
 kind:scope.kind = .function
 nocell:∀ y∈scope.names,y.2 ≠ .cell
 names:∀ y∈scope.names,y.2 = .local->scope.names.lookup y.1=some .local
 frees:∀ y∈scope.names,y.2 = .free->X.env.kindOf y.1=some .cell
 len:N'.length=nt+fr.length
 slot:∀ i j,fr[i]? = some j->∃ x,N'[nt+i]? = some x/\X.N[j]? = some x/\scope.names.lookup x=some .free
theorem vV {env:PySem.Env}:∀ (names:List (Str×NameKind)) (cs:List (Str×Addr)),(∀ y∈names,y.2 = .free->∃ a,env.cells.lookup y.1=some a)->(∀ n a,cs.lookup n=some a->env.cells.lookup n=some a) ->
  ∃ cl,(forIn names cs fun x r=>match x with | (name,kind)=>if (kind==NameKind.free)=true then do let a <- cellOf env name;pure (ForInStep.yield ((name,a)::r)) else pure (ForInStep.yield r):Sem (List (Str×Addr)))=pure cl /\
   (∀ n a,cl.lookup n=some a->env.cells.lookup n=some a)/\(∀ n,(∃ a,cs.lookup n=some a)->∃ a,cl.lookup n=some a)/\∀ y∈names,y.2 = .free->∃ a,cl.lookup y.1=some a
 | [],cs,_,h=>⟨cs,rfl,h,fun _ h=>h,fun y hy=>by cases hy⟩
 | (n,k)::r,cs,hf,h=>by
  have hr:∀ y∈r,y.2 = .free->∃ a,env.cells.lookup y.1=some a:=fun y hy=>hf y (mM _ hy)
  rw [List.forIn_cons]
  by_cases hk:k = .free
  ·subst hk
   obtain ⟨a,ha⟩:=hf (n,.free) mS_ rfl
   have ha':env.cells.lookup n=some a:=ha
   have hcell:cellOf env n=pure a:=by unfold cellOf;rw [ha']
   obtain ⟨cl,e1,e2,e3,e4⟩:=vV r ((n,a)::cs) hr (fun m b hm=>by
    rw [List.lookup_cons] at hm
    cases e:m==n with
    | true=>rw [e] at hm;cases hm;rw [eq_of_beq e];exact ha'
    | false=>rw [e] at hm;exact h m b hm)
   refine ⟨cl,?_,e2,fun m ⟨b,hm⟩=>e3 m ?_,fun y hy hyf => ?_⟩
   ·show ((if (NameKind.free==NameKind.free)=true then _ else _) >>= _)=_
    rw [if_pos (by rfl),hcell]
    exact e1
   ·rw [List.lookup_cons]
    cases e:m==n with
    | true=>exact ⟨a,rfl⟩
    | false=>exact ⟨b,hm⟩
   ·rcases List.mem_cons.mp hy with rfl | hy
    ·exact e3 n ⟨a,by rw [List.lookup_cons];simp⟩
    ·exact e4 y hy hyf
  ·have hb:(k==NameKind.free)=false:=by simpa using hk
   obtain ⟨cl,e1,e2,e3,e4⟩:=vV r cs hr h
   refine ⟨cl,?_,e2,e3,fun y hy hyf => ?_⟩
   ·show ((if (k==NameKind.free)=true then _ else _) >>= _)=_
    rw [hb,if_neg Bool.false_ne_true]
    exact e1
   ·rcases List.mem_cons.mp hy with rfl | hy
    ·exact absurd hyf hk
    ·exact e4 y hy hyf
theorem vy {env:PySem.Env} {scope:Scope} (hf:∀ y∈scope.names,y.2 = .free->∃ a,env.cells.lookup y.1=some a) :
  ∃ cl,closureFor scope env=pure cl/\(∀ n a,cl.lookup n=some a->env.cells.lookup n=some a)/\∀ y∈scope.names,y.2 = .free->∃ a,cl.lookup y.1=some a:=by
 obtain ⟨cl,e1,e2,_,e4⟩:=vV scope.names [] hf (fun n a h=>by cases h)
 refine ⟨cl,?_,e2,e4⟩
 unfold closureFor
 show (forIn scope.names [] _ >>= _)=_
 have e5:(forIn scope.names [] fun x r=>match x with | (name,kind)=>if (kind==NameKind.free)=true then do let a <- cellOf env name;pure (ForInStep.yield ((name,a)::r)) else pure (ForInStep.yield r):Sem (List (Str×Addr)))=pure cl:=e1
 first
  | (rw [e5];rfl)
  | (simp only [bind_pure_comp,e5];rfl)
theorem yE {env:PySem.Env}:∀ {names:List (Str×NameKind)} {x:Str},names.lookup x=some .free->env.scope.kind = .function->env.kindOf x=some .cell ->
  (names.map fun (n,k)=>if (k==NameKind.free&&env.scope.kind == .function&&env.kindOf n==some .cell) then (n,NameKind.cell) else (n,k)).lookup x=some .cell
 | [],_,h,_,_=>by simp at h
 | (n,k)::r,x,h,hk,hx=>by
  have ih := @yE env r x
  show List.lookup x ((if (k==NameKind.free&&env.scope.kind == .function&&env.kindOf n==some .cell)=true then (n,NameKind.cell) else (n,k))::_)=_
  cases hxn:x==n with
  | true =>
   have e:x=n:=eq_of_beq hxn
   subst e
   simp only [List.lookup_cons,hxn] at h
   cases h
   rw [if_pos (by rw [hk,hx];rfl)]
   simp only [List.lookup_cons,hxn]
  | false =>
   simp only [List.lookup_cons,hxn] at h
   by_cases hc:(k==NameKind.free&&env.scope.kind == .function&&env.kindOf n==some .cell)=true
   ·rw [if_pos hc];simp only [List.lookup_cons,hxn];exact ih h hk hx
   ·rw [if_neg hc];simp only [List.lookup_cons,hxn];exact ih h hk hx
theorem jO {env:PySem.Env}:∀ {names:List (Str×NameKind)} {x:Str} {q:NameKind},(names.map fun (n,k)=>if (k==NameKind.free&&env.scope.kind == .function&&env.kindOf n==some .cell) then (n,NameKind.cell) else (n,k)).lookup x=some q ->
  q = .cell\/q = .free->(∀ y∈names,y.2 ≠ .cell)->∃ k,(x,k)∈names/\k = .free
 | [],_,_,h,_,_=>by simp at h
 | (n,k)::r,x,q,h,hq,hc=>by
  have ih := @jO env r x q
  have h':List.lookup x ((if (k==NameKind.free&&env.scope.kind == .function&&env.kindOf n==some .cell)=true then (n,NameKind.cell) else (n,k))::(r.map fun (n,k)=>if (k==NameKind.free&&env.scope.kind == .function&&env.kindOf n==some .cell) then (n,NameKind.cell) else (n,k)))=some q:=h
  have hr:∀ y∈r,y.2 ≠ .cell:=fun y hy=>hc y (mM _ hy)
  by_cases hcd:(k==NameKind.free&&env.scope.kind == .function&&env.kindOf n==some .cell)=true
  ·rw [if_pos hcd] at h'
   cases hxn:x==n with
   | true =>
    have e:x=n:=eq_of_beq hxn
    subst e
    refine ⟨k,mS_,?_⟩
    rw [Bool.and_eq_true,Bool.and_eq_true] at hcd
    exact eq_of_beq hcd.1.1
   | false =>
    simp only [List.lookup_cons,hxn] at h'
    obtain ⟨k',m,e⟩:=ih h' hq hr
    exact ⟨k',mM _ m,e⟩
  ·rw [if_neg hcd] at h'
   cases hxn:x==n with
   | true =>
    have e:x=n:=eq_of_beq hxn
    subst e
    simp only [List.lookup_cons,hxn] at h'
    cases h'
    rcases hq with rfl | rfl
    ·exact absurd rfl (hc (x,.cell) mS_)
    ·exact ⟨.free,mS_,rfl⟩
   | false =>
    simp only [List.lookup_cons,hxn] at h'
    obtain ⟨k',m,e⟩:=ih h' hq hr
    exact ⟨k',mM _ m,e⟩
def qJ (nt:Nat) (fr:List Nat) (Z:St):St:=List.replicate nt none++fr.map fun j=>(Z[j]?).join
def qjN (X:Cx) (tg:Expr) (ifs:List Expr) (elt:Expr) (scope:Scope) (N':List Str) (wi:TI) (nt:Nat) (fr:List Nat):TE:=fun Z H Q=>wi Z H fun J H1=>∀ acc fp cl C s₀ H₀ pn,H1 acc=none ->
 ∃ (g:TG) (tt:TT) (te:TE),PG (zR X scope N' fp cl C s₀ H₀ pn) tg g/\PF (zR X scope N' fp cl C s₀ H₀ pn) ifs tt/\PE (zR X scope N' fp cl C s₀ H₀ pn) elt te /\
 ∃ W:Nat->Nat->St->Hp->Prop,(∃ m,W 0 m (qJ nt fr Z) (upd H1 acc (.lst []))) /\
 ∀ i m Z' H',W i m Z' H'->(J.stop i H'/\Q (.ref acc) H')\/(J.go i H'/\∀ x H'',J.yld i H' x H''->g x Z' H'' fun Z2 H2=>tt Z2 H2 fun b H3 =>
  if b=true then te Z2 H3 fun y H4=>∃ ys,H4 acc=some (.lst ys)/\ys.length<sizeLine/\∃ m',m'<m/\W (i+1) m' Z2 (upd H4 acc (.lst (ys++[y]))) else ∃ m',m'<m/\W (i+1) m' Z2 H3)
section
variable {X:Cx} {tg iter elt:Expr} {ifs:List Expr} {scope:Scope} {pos:Pos} {wi:TI} {N':List Str} {nt:Nat} {fr:List Nat}
theorem qag {prog:Program} {w:World} {A:Around} {R:Result->Shared->Prop} {s:Shared} {it acc:Value} {env:PySem.Env} (I:Nat->Shared->Prop)
  (turn : ∀ n s,I n s->wpAny (model prog w) A (pyNext it) (fun r sK=>match r with
   | none=>R (.ok .next) sK
   | some v=>wpAny (model prog w) A (letOwnedTupleGo tg it v) (fun _ s1'=>wpAny (model prog w) A (assign tg env v) (fun _ sQ =>
     wpAny (model prog w) A (forIn ifs true fun c r=>if r=true then do let ok <- isTrue c env (eval c env);pure (ForInStep.yield ok) else pure (ForInStep.yield r)) (fun ok sV =>
      if ok=true then wpAny (model prog w) A (eval elt env) (fun x sJ =>
       wpAny (model prog w) A (call (.builtin "list.append") [acc,x]) (fun _ sY=>∃ m,m<n/\I m sY) (fun _ _=>False) sJ) (fun _ _=>False) sV
      else ∃ m,m<n/\I m sV) (fun _ _=>False) sQ) (fun _ _=>False) s1') (fun _ _=>False) sK) (fun _ _=>False) s)
  (n:Nat) (h:I n s):codeAny (model prog w) A (.compLoop (.ListComp elt [⟨tg,iter,ifs,0⟩] scope pos) 0 it acc env) R s:=by
 refine codeAny_loop rfl I (fun n s hI => ?_) n h
 show wpAny _ A ((compTurn (.ListComp elt [⟨tg,iter,ifs,0⟩] scope pos) 0 it acc env).onRaise (fun x=>do noteFrame x env;theTreesLotGoes x)) _ _ s
 refine wpAny_noted ?_
 rw [compTurn_list]
 refine wpAny_bind (wpAny_standAt (wpAny_bind (wpAny_mono (turn n s hI) (fun r sK hV => ?_) fun _ _ h'=>h'.elim)))
 cases r with
 | none=>exact wpAny_pure hV
 | some v =>
  refine wpAny_bind (wpAny_mono hV (fun _ s1' hK' => ?_) fun _ _ h'=>h'.elim)
  refine wpAny_bind (wpAny_mono hK' (fun _ sQ hJ=>wpAny_bind (wpAny_mono hJ (fun ok sV hX => ?_) fun _ _ h'=>h'.elim)) fun _ _ h'=>h'.elim)
  cases ok with
  | false=>exact wpAny_pure ⟨rfl,hX⟩
  | true =>
   exact wpAny_bind (wpAny_bind (wpAny_mono hX (fun x sJ h₄=>wpAny_bind (wpAny_mono h₄ (fun _ sY hG=>wpAny_pure (wpAny_pure ⟨rfl,hG⟩)) fun _ _ h'=>h'.elim)) fun _ _ h'=>h'.elim))
theorem qa5 {pins:List (Addr×Obj)} {Z:St} {H:Hp} {s:Shared} {hV:Heap} {tk:Nat} {fp:List Addr} {cl:List (Str×Addr)} (S:j6 X scope N' nt fr) (I:Inv X pins Z H s) (hfp:∀ b∈fp,qcZ X pins H b)
  (hex:∀ b∈fp,∃ o,s.heap.get? b=some o) (cl1:∀ n a,cl.lookup n=some a->X.env.cells.lookup n=some a) (cl2:∀ y∈scope.names,y.2 = .free->∃ a,cl.lookup y.1=some a)
  (hns:∃ m,hV.Ns s.heap.objs.size m) (old:∀ b o,s.heap.get? b=some o->hV.get? b=some o) :
  Inv (zR X scope N' fp cl s.heap.objs.size s H (X.pn++pins)) [] (qJ nt fr Z) H { s with heap:=hV,toks:=tk }:=by
 have stkB:∀ b∈frs X.stack,b=X.env.locals\/b∈X.fs:=fun b hb=>List.mem_cons.mp (I.stkSub b hb)
 have hC:∀ b o,s.heap.get? b=some o->b≠s.heap.objs.size:=fun b o e=>Nat.ne_of_lt (Heap.lt_size e)
 obtain ⟨m,hn⟩:=hns
 refine ⟨⟨I.ok.mod,S.kind,I.ok.glob,I.ok.blt,Nat.le_refl _,fun x y c h1 h2=>I.ok.inj x y c (cl1 x c h1) (cl1 y c h2),fun x hx => ?_,fun x c hx => ?_,I.ok.hd,I.ok.frames,.inl rfl,fun b hb=>⟨?_,fun x c hx=>(hfp b hb).2.2.2.2.1 x c (cl1 x c hx)⟩,I.bs,Nat.le_trans I.ok.bsz I.sz,fun b o e hb => ?_,fun b hb hb2 => ?_,I.stack,I.stkFree⟩,
  rfl,I.bare,Un.kept old,⟨m,hn,fun i x v h1 h2 h3 => ?_⟩,fun x c hx => ?_,I.hok.fresh (Nat.le_refl _),fun x c hx=>I.freeC x c (cl1 x c hx),fun p hp => ?_,I.hok.kept old,?_⟩
 ·have hx':∃ k,(x,k)∈scope.names/\k = .free:=by
   rcases hx with hx | hx
   ·exact jO (env:=X.env) (q := .cell) hx (.inl rfl) S.nocell
   ·exact jO (env:=X.env) (q := .free) hx (.inr rfl) S.nocell
  obtain ⟨k,m,rfl⟩:=hx'
  exact cl2 (x,.free) m rfl
 ·have hx':false=true:=hx
  cases hx'
 ·obtain ⟨o,e⟩:=hex b hb
  exact hC b o e
 ·obtain ⟨f0,f1,f2,f3,f4,f5⟩:=hfp b hb
  rcases f3 with z | z
  ·exact I.ok.noex b o e z
  ·exact absurd (Nat.lt_of_lt_of_le (Heap.lt_size e) (Nat.le_trans I.ok.bsz z)) (Nat.lt_irrefl _)
 ·obtain ⟨f0,f1,f2,f3,f4,f5⟩:=hfp b hb
  rcases stkB b hb2 with z | z
  ·exact f1 z
  ·exact f2 z
 ·-- names
  have hi:nt<=i:=by
   apply Nat.le_of_not_lt
   intro hlt
   unfold qJ at h2
   rw [List.getElem?_append_left (by simpa using hlt),List.getElem?_replicate] at h2
   split at h2<;>cases h2
  have h2':(fr.map fun j=>(Z[j]?).join)[i-nt]? = some (some v):=by
   unfold qJ at h2
   rw [List.getElem?_append_right (by simpa using hi),List.length_replicate] at h2
   exact h2
  rw [gM_] at h2'
  cases ej:fr[i-nt]? with
  | none=>rw [ej] at h2';cases h2'
  | some j =>
   rw [ej] at h2'
   have hσ:(Z[j]?).join=some v:=by simpa using h2'
   have hσ':Z[j]? = some (some v):=by
    cases e:Z[j]? with
    | none=>rw [e] at hσ;cases hσ
    | some o =>
     rw [e] at hσ
     have:o=some v:=hσ
     rw [this]
   obtain ⟨y,hy1,hy2,hy3⟩:=S.slot (i-nt) j ej
   have hii:nt+(i-nt)=i:=by omega
   rw [hii] at hy1
   have exy:y=x:=by
    have h1':N'[i]? = some x:=h1
    rw [h1'] at hy1
    exact (Option.some.inj hy1).symm
   subst exy
   have hmem:(y,NameKind.free)∈scope.names:=PySem.mem_of_lookup hy3
   have hcellk:X.env.kindOf y=some .cell:=S.frees (y,.free) hmem rfl
   obtain ⟨m0,hn0,hl0⟩:=I.loc
   obtain ⟨u,ru,lk⟩:=hl0 j y v hy2 hσ' (.inr (.inl hcellk))
   refine ⟨u,ru,.inr ⟨.inl (yE hy3 I.ok.kind hcellk),?_⟩⟩
   rcases lk with ⟨k1,_⟩ | ⟨_,c,e,z⟩
   ·rw [hcellk] at k1;cases k1
   ·obtain ⟨a,ea⟩:=cl2 (y,.free) hmem rfl
    have ea':=cl1 y a ea
    rw [e] at ea'
    cases ea'
    obtain ⟨o,ho,hd⟩:=z
    exact ⟨c,ea,o,old _ _ ho,hd⟩
 ·obtain ⟨v,o,ho,hd⟩:=I.cell x c (cl1 x c hx)
  exact ⟨v,o,old _ _ ho,hd⟩
 ·have hp':p∈X.pn++pins:=by
   rcases mA_.mp (show p∈(X.pn++pins)++[] from hp) with z | z
   ·exact z
   ·cases z
  obtain ⟨e,n,ne,nf,d⟩:=I.pin p hp'
  refine ⟨old _ _ e,n,hC _ _ e,fun z => ?_,d⟩
  rcases stkB p.1 z with z | z
  ·exact ne z
  ·exact nf z
 ·show (qJ nt fr Z).length=N'.length
  unfold qJ
  rw [lA_,List.length_replicate,lM_,S.len]
theorem qdO {pins:List (Addr×Obj)} {Z Z':St} {H H':Hp} {s s':Shared} {h':Heap} {fp:List Addr} {cl:List (Str×Addr)} (I:Inv X pins Z H s) (hfp:∀ b∈fp,qcZ X pins H b)
  (J:Inv (zR X scope N' fp cl s.heap.objs.size s H (X.pn++pins)) [] Z' H' s') (sb:Heap.SameBut s.heap.objs.size s'.heap h'):Inv X pins Z H' { s' with heap:=h' }:=by
 have hC:H' s.heap.objs.size=none:=J.free
 have u:=J.base
 have big:∀ b o,s.heap.get? b=some o->b≠s.heap.objs.size:=fun b o e=>Nat.ne_of_lt (Heap.lt_size e)
 have get':∀ b,b≠s.heap.objs.size->h'.get? b=s'.heap.get? b:=fun b hb=>sb.2 b hb
 have u2:Un (frs X.stack) fp H H' s.heap h' :=
  ⟨fun b o e n hb hx=>(get' b (big b o e)).trans (u.keep b o e n hb hx),fun b o e n hb hx=>by
   obtain ⟨sl,q⟩:=u.slot b o e n hb hx
   exact ⟨sl,(get' b (big b o e)).trans q⟩,u.free,fun b o e hx=>by
   obtain ⟨o',q⟩:=u.there b o e hx
   exact ⟨o',(get' b (big b o e)).trans q⟩,u.tups,u.frzs,u.tbls⟩
 refine I.call' (s':={ s' with heap:=h' }) (ch:=fp) J.os u2 (fun b o e => ?_) J.bare (fun b hb => ?_)
 ·refine (J.hok b o e).stay (fun c v hc q => ?_) (fun _ q=>q) fun _ _ q=>q
  refine (get' c ?_).trans q
  rintro rfl
  rcases hc with hc | hc
  ·rw [<- hc,hC] at e;cases e
  ·rw [hC] at hc;cases hc
 ·obtain ⟨f0,f1,f2,f3,f4,f5⟩:=hfp b hb
  exact ⟨f3,f1,f4,f5⟩
theorem qjO (hc:X.calm=true) (hi:PI X tg iter wi) (S:j6 X scope N' nt fr)
  (hs:∀ x,foldedSetIterable iter X.env x=pure x:=by intro _;rfl):PE X (.ListComp elt [⟨tg,iter,ifs,0⟩] scope pos) (qjN X tg ifs elt scope N' wi nt fr):=by
 intro pins s Z H Q I hw
 obtain ⟨cl,hcl,cl1,cl2⟩:=vy (env:=X.env) (scope:=scope) (fun y hy hf=>I.ok.has y.1 (.inl (S.frees y hy hf)))
 rw [eval_ListComp]
 refine wpAny_comprehension_free (use:=none) rfl hs hcl S.kind S.names (thn (hi pins s Z H _ I hw) fun v s1 h1=>thn h1 fun itv s2 h2 => ?_)
 obtain ⟨it,fp,tn,J,H2,e,I2,T,st2,f2,hR⟩:=h2
 subst e
 have hacc:H2 s2.heap.objs.size=none:=I2.hok.fresh (Nat.le_refl _)
 refine wpAny_newObj_type (wpAny_newFunctionEnv S.nocell (by intro y hy;simp at hy) (fun hV hns1 hsb1 => ?_) S.kind)
 dsimp only at hns1 hsb1 |-
 have I3:Inv X pins Z (upd H2 s2.heap.objs.size (.lst [])) { s2 with heap:=s2.heap.push { cls := .type "list",dict:=none,data := .seq ([]:List Value).toArray } } :=
  I2.lnew (t':=s2.toks) (its:=[]) .nil (Nat.zero_le _)
 generalize hs3:({ s2 with heap:=s2.heap.push { cls := .type "list",dict:=none,data := .seq ([]:List Value).toArray } }:Shared)=s3 at I3
 have hh3:s2.heap.push { cls := .type "list",dict:=none,data := .seq ([]:List Value).toArray }=s3.heap:=by rw [<- hs3]
 rw [hh3] at hns1 hsb1
 have old:∀ b o,s3.heap.get? b=some o->hV.get? b=some o:=fun b o q=>hsb1.extBut b o (Nat.ne_of_lt (Heap.lt_size q)) (Heap.get?_push_of_some _ q)
 have objs2:∀ b∈fp,∃ o,s2.heap.get? b=some o:=fun b hb=>by
  obtain ⟨o,q,_⟩:=T.obj 0 _ st2 b hb
  exact ⟨o,q⟩
 have keep23:∀ b o,s2.heap.get? b=some o->s3.heap.get? b=some o:=fun b o q=>by rw [<- hh3];exact Heap.get?_push_of_some _ q
 have fpne:∀ b∈fp,b≠s2.heap.objs.size:=fun b hb=>by
  obtain ⟨o,q⟩:=objs2 b hb
  exact Nat.ne_of_lt (Heap.lt_size q)
 have f3:∀ b∈fp,qcZ X pins (upd H2 s2.heap.objs.size (.lst [])) b:=fun b hb=>⟨by rw [qt (fpne b hb)];exact (f2 b hb).1,(f2 b hb).2⟩
 have J0:Inv (zR X scope N' fp cl s3.heap.objs.size s3 (upd H2 s2.heap.objs.size (.lst [])) (X.pn++pins)) [] (qJ nt fr Z) (upd H2 s2.heap.objs.size (.lst [])) { s3 with heap:=hV,toks:=s3.toks } :=
  qa5 S I3 f3 (fun b hb=>(objs2 b hb).imp fun o q=>keep23 b o q) cl1 cl2 ⟨_,hns1⟩ old
 obtain ⟨g,tt,te,hg,hf,he,W,⟨m0,w0⟩,turn⟩:=hR s2.heap.objs.size fp cl s3.heap.objs.size s3 (upd H2 s2.heap.objs.size (.lst [])) (X.pn++pins) hacc
 have T0:tn 0 hV:=T.keep 0 _ _ st2 fun b hb o q=>old b o (keep23 b o q)
 have s3e:∀ tk:Nat,({ s2 with heap:=hV,toks:=tk }:Shared)={ s3 with heap:=hV,toks:=tk }:=fun tk=>by rw [<- hs3]
 have loop:∀ tk:Nat,codeAny (model X.prog X.w) X.A (.compLoop (.ListComp elt [⟨tg,iter,ifs,0⟩] scope pos) 0 (.ref it) (.ref s2.heap.objs.size) (compEnvC scope cl s3.heap.objs.size X.env))
   (compPost (model X.prog X.w) X.A X.xe none (EP X pins Z Q) (.ref s2.heap.objs.size) s3.heap.objs.size) { s3 with heap:=hV,toks:=tk }:=fun tk=>by
  have stat:∀ {H':Hp},(∀ b∈fp,H' b=none)->∀ b∈fp,qcZ (zR X scope N' fp cl s3.heap.objs.size s3 (upd H2 s2.heap.objs.size (.lst [])) (X.pn++pins)) [] H' b:=fun {H'} hn b hb=>by
   obtain ⟨o,q⟩:=objs2 b hb
   have hbC:b≠s3.heap.objs.size:=Nat.ne_of_lt (Heap.lt_size (keep23 b o q))
   refine ⟨hn b hb,hbC,fun z => ?_,.inl hb,fun x c hx=>(f2 b hb).2.2.2.2.1 x c (cl1 x c hx),fun p hp => ?_⟩
   ·rcases List.mem_cons.mp (I2.stkSub b z) with z | z
    ·exact (f2 b hb).2.1 z
    ·exact (f2 b hb).2.2.1 z
   ·have hp':p∈X.pn++pins:=by
     rcases mA_.mp (show p∈(X.pn++pins)++[] from hp) with z | z
     ·exact z
     ·cases z
    exact (f2 b hb).2.2.2.2.2 p hp'
  have fr0:∀ b∈fp,upd H2 s2.heap.objs.size (.lst []) b=none:=fun b hb=>(f3 b hb).1
  refine qag (fun n s'=>∃ i Z' H',Inv (zR X scope N' fp cl s3.heap.objs.size s3 (upd H2 s2.heap.objs.size (.lst [])) (X.pn++pins)) [] Z' H' s'/\tn i s'.heap/\(∀ b∈fp,H' b=none)/\W i n Z' H') ?_ m0
   ⟨0,qJ nt fr Z,_,J0.tok tk,T0,fr0,w0⟩
  rintro n s4 ⟨i,Z4,H4,J4,st4,fr4,w4⟩
  rcases turn i n Z4 H4 w4 with ⟨stop,qn⟩ | ⟨go,step⟩
  ·refine thn (T.done (zR X scope N' fp cl s3.heap.objs.size s3 (upd H2 s2.heap.objs.size (.lst [])) (X.pn++pins)) rfl rfl rfl hc i [] s4 Z4 H4 _ J4 (stat fr4) st4 stop) fun r s5 ⟨hr,J5⟩ => ?_
   subst hr
   obtain ⟨m5,n5,_⟩:=J5.loc
   refine ⟨m5,n5,fun h' sb=>⟨.ref s2.heap.objs.size,H4,qdO I3 f3 J5 sb,rfl,qn⟩⟩
  ·refine thn (T.item (zR X scope N' fp cl s3.heap.objs.size s3 (upd H2 s2.heap.objs.size (.lst [])) (X.pn++pins)) rfl rfl rfl hc i [] s4 Z4 H4 _ J4 (stat fr4) st4 go) fun r s5 ⟨u,hr,h5⟩ => ?_
   subst hr
   refine thn h5 fun _ s6 ⟨x,H6,J6,r6,y6,st6,fr6⟩ => ?_
   have J6':=J6.pinned (stat fr6) (T.obj _ _ st6)
   have again:∀ {Z7:St} {H7:Hp} {s7:Shared},Inv (zR X scope N' fp cl s3.heap.objs.size s3 (upd H2 s2.heap.objs.size (.lst [])) (X.pn++pins)) ([]++qa1 fp s6.heap) Z7 H7 s7->(∃ m',m'<n/\W (i+1) m' Z7 H7) ->
     ∃ m,m<n/\∃ i Z' H',Inv (zR X scope N' fp cl s3.heap.objs.size s3 (upd H2 s2.heap.objs.size (.lst [])) (X.pn++pins)) [] Z' H' s7/\tn i s7.heap/\(∀ b∈fp,H' b=none)/\W i m Z' H':=fun {Z7 H7 s7} I7 hm=>by
    obtain ⟨m',hm,w7⟩:=hm
    refine ⟨m',hm,i+1,Z7,H7,I7.unpinned,T.keep _ _ _ st6 fun b hb o q=>(I7.pin (b,o) (mr_ _ (mr_ _ (ym hb q)))).1,fun b hb => ?_,w7⟩
    obtain ⟨o,q,d⟩:=T.obj _ _ st6 b hb
    exact (I7.pin (b,o) (mr_ _ (mr_ _ (ym hb q)))).2.1
   refine thn (hg _ s6 Z4 H6 x u _ J6' r6 (step x H6 y6)) fun _ s7 ⟨Z7,H7,J7,q7⟩ => ?_
   refine thn (hf _ s7 Z7 H7 _ J7 q7) fun ok s8 ⟨H8,J8,q8⟩ => ?_
   cases ok with
   | false =>
    rw [if_neg Bool.false_ne_true] at q8 |-
    exact again J8 q8
   | true =>
    rw [if_pos rfl] at q8 |-
    refine thn (he _ s8 Z7 H8 _ J8 q8) fun z s9 ⟨y,H9,J9,r9,ys,hys,hz,hm⟩ => ?_
    refine thn (w8 _ s9 Z7 H9 (.ref s2.heap.objs.size) [y] (.ref s2.heap.objs.size) [z] (fun _ H'=>H'=upd H9 s2.heap.objs.size (.lst (ys++[y]))) J9 rfl (.cons r9 .nil) ⟨_,ys,y,rfl,rfl,hys,hz,rfl⟩) fun _ s10 ⟨_,H10,J10,_,e10⟩ => ?_
    subst e10
    exact again J10 hm
 have z4:∀ tk:Nat,codeAny (model X.prog X.w) X.A (.compStart (.ListComp elt [⟨tg,iter,ifs,0⟩] scope pos) 0 (.ref it) (.ref s2.heap.objs.size) (compEnvC scope cl s3.heap.objs.size X.env))
   (compPost (model X.prog X.w) X.A X.xe none (EP X pins Z Q) (.ref s2.heap.objs.size) s3.heap.objs.size) { s3 with heap:=hV,toks:=tk }:=fun tk =>
  codeAny_compStart_list (loop tk) (T.self X.A 0 _ _ _ T0 (loop tk))
 have fin:=z4 (s2.toks+([]:List (Str×Value)).length)
 rw [<- s3e] at fin
 rw [<- hh3] at fin
 rw [hh3] at fin |-
 exact fin
end
structure qix (K:Fr0) (A:Addr->Prop) (H:Hp) (ds:List D) (J:It):Prop where
 go:∀ H' i d,Ext A H H'->ds[i]? = some d->J.go i H'
 yl:∀ H' i d x H'',Ext A H H'->ds[i]? = some d->J.yld i H' x H''->zQ H' H''/\Is K A H'' d x
 stop:∀ H',Ext A H H'->J.stop ds.length H'
def CnT (c:Fc) (Z:St) (H:Hp) (a:Addr):Prop:=Cn c Z a/\(H a).isSome=true
def WpI (K:Fr0) (c:Fc) (Z:St) (H:Hp) (Q:It->Hp->Prop):R (List D×Env)->Prop
 | .ok (ds,U)=>∀ J H',Rep K c U Z H'->qix K (CnT c Z H') H' ds J->Gr c.O Z H H'->Q J H'
 | .exc x U=>∀ H',Rep K c U Z H'->Gr c.O Z H H'->c.E x H'
 | .bad=>False
def DI (X:Cx) (c:Fc) (tg it:Expr) (f:M (List D)):Prop:=∃ w,PI X tg it w/\∀ U Z H Q,Rep X.K c U Z H->WpI X.K c Z H Q (f U)->w Z H Q
section
variable {X:Cx} {c:Fc} {tg a b e:Expr} {pos:Pos}
def qoL (K:Fr0) (tl:TE):TI:=fun Z H R=>tl Z H fun x H1=>(∃ a,x = .ref a/\(∃ xs,SqL K H1 a xs)/\R (Itl K a) H1)\/(∃ a,x = .ref a/\(∃ xs,SqT K H1 a xs)/\R (Itt K a) H1)
theorem qlP {tl:TE} (hl:PE X e tl):PI X tg e (qoL X.K tl):=by
 intro pins s Z H R I h
 refine thn (hl pins s Z H _ I h) fun v s1 ⟨x,H1,I1,r1,q1⟩ => ?_
 rcases q1 with ⟨a,e,⟨xs,hq⟩,q⟩ | ⟨a,e,⟨xs,hq⟩,q⟩
 ·subst e
  cases r1
  obtain ⟨its,rv,p,hz⟩:=I1.list hq
  refine wpAny_pyIter_list p.isList ?_
  refine ⟨s1.heap.objs.size,[s1.heap.objs.size],_,_,H1,rfl,I1.kept (t':=s1.toks) fun b o e=>Heap.get?_push_of_some _ e,qfd a _,⟨_,Heap.get?_push_size _ rfl,rfl,rfl⟩,fun b hb => ?_,q⟩
  have e:b=s1.heap.objs.size:=by simpa using hb
  subst e
  exact I1.fpOk (Nat.le_refl _) (I1.hok.fresh (Nat.le_refl _))
 ·subst e
  cases r1
  obtain ⟨its,rv,p,hz⟩:=I1.tuple hq
  refine wpAny_pyIter_tuple (show s1.heap.IsTuple a its.toArray from p) ?_
  refine ⟨s1.heap.objs.size,[s1.heap.objs.size],_,_,H1,rfl,I1.kept (t':=s1.toks) fun b o e=>Heap.get?_push_of_some _ e,qeu a _,⟨_,Heap.get?_push_size _ rfl,rfl,rfl⟩,fun b hb => ?_,q⟩
  have e:b=s1.heap.objs.size:=by simpa using hb
  subst e
  exact I1.fpOk (Nat.le_refl _) (I1.hok.fresh (Nat.le_refl _))
def qjP:D->Option (List D)
 | .tup ds=>some ds
 | .lst ds=>some ds
 | .fz ns=>some (ns.map .int)
 | _=>none
theorem SqL.inj {K:Fr0} {H:Hp} {a:Addr} {xs ys:List V} (h:H a=some (.lst xs)) (q:SqL K H a ys) (hk:∀ o,K.lookup a=some o->False):ys=xs:=by
 rcases q with (q | ⟨o,q⟩) | ⟨o,_,_,q,_⟩
 ·rw [h] at q;cases q;rfl
 ·rw [h] at q;cases q
 ·exact (hk o q).elim
theorem qbx {K:Fr0} {A:Addr->Prop} {H:Hp}:∀ ns:List Int,IsL K A H (ns.map .int) (ns.map V.int)
 | []=>rfl
 | n::ns=>⟨.int n,ns.map V.int,rfl,rfl,qbx ns⟩
theorem qfH {K:Fr0} {A:Addr->Prop} {H:Hp} {ds:List D} {xs:List V} {a:Addr} (hs:∀ H',Ext A H H'->SqL K H' a xs) (il:IsL K A H ds xs):qix K A H ds (Itl K a) where
 go:=fun H' i d ex hd=>by
  obtain ⟨x,h1,h2⟩:=il.get hd
  exact ⟨xs,x,hs H' ex,h1⟩
 yl:=fun H' i d x H'' ex hd y=>by
  obtain ⟨e,y⟩:=y
  subst e
  obtain ⟨x',h1,h2⟩:=il.get hd
  have h3:=y xs (hs _ ex)
  rw [h1] at h3
  cases h3
  exact ⟨zQ.refl _,Is.ext ex (fun _ h _=>h) h2⟩
 stop:=fun H' ex=>⟨xs,hs H' ex,by rw [il.length];exact Nat.le_refl _⟩
theorem qlQ {K:Fr0} {A:Addr->Prop} {H:Hp} {ds:List D} {xs:List V} {a:Addr} (hs:TupAt K H a xs) (il:IsL K A H ds xs):qix K A H ds (Itt K a) where
 go:=fun H' i d ex hd=>by
  obtain ⟨x,h1,h2⟩:=il.get hd
  exact ⟨xs,x,(hs.elim (fun h => .inl (ex.tup _ _ h)) .inr:TupAt K H' a xs).sq,h1⟩
 yl:=fun H' i d x H'' ex hd y=>by
  obtain ⟨e,y⟩:=y
  subst e
  obtain ⟨x',h1,h2⟩:=il.get hd
  have h3:=y xs (hs.elim (fun h => .inl (ex.tup _ _ h)) .inr:TupAt K _ a xs).sq
  rw [h1] at h3
  cases h3
  exact ⟨zQ.refl _,Is.ext ex (fun _ h _=>h) h2⟩
 stop:=fun H' ex=>⟨xs,(hs.elim (fun h => .inl (ex.tup _ _ h)) .inr:TupAt K H' a xs).sq,by rw [il.length];exact Nat.le_refl _⟩
def jD (f:M D):M (List D):=bnd f fun d=>lift (qjP d)
theorem qby {K:Fr0} {Z:St} {H:Hp} {Q:It->Hp->Prop} {o:Option (List D)} {U:Env} (h:WpI K c Z H Q (lift o U)):∃ ds,o=some ds/\∀ J H',Rep K c U Z H'->qix K (CnT c Z H') H' ds J->Gr c.O Z H H'->Q J H':=by
 cases o with
 | none=>exact h.elim
 | some d=>exact ⟨d,rfl,h⟩
theorem WpI.gr {K:Fr0} {Z:St} {H H1:Hp} {Q:It->Hp->Prop}:∀ {r:R (List D×Env)},WpI K c Z H Q r->Gr c.O Z H H1->WpI K c Z H1 Q r
 | .ok (d,U),h,g=>fun v H' hr hi hg=>h v H' hr hi (g.trans hg)
 | .exc x U,h,g=>fun H' hr hg=>h H' hr (g.trans hg)
 | .bad,h,_=>h
theorem Wp.bndI {K:Fr0} {Z:St} {H:Hp} {Q:It->Hp->Prop} {f:M D} {k:D->M (List D)} {U:Env} {Q':VK} (h:WpI K c Z H Q (Sk.bnd f k U)) (hQ:∀ d U' v H',Rep K c U' Z H'->Is K (Cn c Z) H' d v->Gr c.O Z H H'->WpI K c Z H' Q (k d U')->Q' v H'):Wp K c Z H Q' (f U):=by
 unfold Sk.bnd at h
 cases e:f U with
 | ok p=>rw [e] at h;exact fun v H' hr hi hg=>hQ p.1 p.2 v H' hr hi hg (h.gr hg)
 | exc x U'=>rw [e] at h;exact h
 | bad=>rw [e] at h;exact h
theorem WpL.bndI {K:Fr0} {Z:St} {H:Hp} {Q:It->Hp->Prop} {f:M (List D)} {k:List D->M (List D)} {U:Env} {Q':List V->Hp->Prop} (h:WpI K c Z H Q (Sk.bnd f k U)) (hQ:∀ d U' v H',Rep K c U' Z H'->IsL K (Cn c Z) H' d v->Gr c.O Z H H'->WpI K c Z H' Q (k d U')->Q' v H'):WpL K c Z H Q' (f U):=by
 unfold Sk.bnd at h
 cases e:f U with
 | ok p=>rw [e] at h;exact fun v H' hr hi hg=>hQ p.1 p.2 v H' hr hi hg (h.gr hg)
 | exc x U'=>rw [e] at h;exact h
 | bad=>rw [e] at h;exact h
theorem Is.tr {K:Fr0} {A:Addr->Prop} {H:Hp} {d:D} {v:V} (h:Is K A H d v):Is K (fun a=>A a/\(H a).isSome=true) H d v:=Is.ext Ext.refl (fun a h1 h2=>⟨h1,h2⟩) h
theorem jg {f:M D} (h:DE X c e f):DI X c tg e (jD f):=by
 obtain ⟨t,p,w⟩:=h
 refine ⟨_,qlP p,fun U Z H Q r h=>w U Z H _ r (Wp.bndI h fun d U1 v H1 r1 i1 g1 h1 => ?_)⟩
 obtain ⟨ds,e,h2⟩:=qby h1
 have i2:Is X.K (CnT c Z H1) H1 d v:=i1.tr
 cases d<;>simp only [qjP] at e<;>try (cases e;done)
 ·cases e
  obtain ⟨a,xs,rfl,ta,il⟩:=i2
  exact .inr ⟨a,rfl,⟨xs,ta.sq⟩,h2 _ H1 r1 (qlQ ta il) .refl⟩
 ·cases e
  obtain ⟨a,xs,rfl,hA,ta,il⟩:=i2
  exact .inl ⟨a,rfl,⟨xs,.inl (.inl ta)⟩,h2 _ H1 r1 (qfH (fun H' ex => .inl (.inl (ex.at_ _ _ hA ta))) il) .refl⟩
 ·cases e
  obtain ⟨a,rfl,ta⟩:=i2
  exact .inl ⟨a,rfl,⟨_,ta.sq⟩,h2 _ H1 r1 (qfH (fun H' ex=>(ta.elim (fun ⟨o,h⟩ => .inl ⟨o,ex.frz _ _ _ h⟩) .inr:qlC X.K H' a _).sq) (qbx _)) .refl⟩
def qaS (lo:Int) (n:Nat):List D:=(List.range n).map fun i => .int (lo+(i:Nat))
theorem qlR {K:Fr0} {A:Addr->Prop} {H:Hp} (lo:Int) (n:Nat):qix K A H (qaS lo n) (Itr lo n) where
 go:=fun H' i d ex hd=>by
  have:i<(qaS lo n).length:=(gI_.mp hd).1
  show i<n
  simpa [qaS] using this
 yl := fun H' i d x H'' ex hd y=>by
  obtain ⟨e,y⟩:=y
  subst e
  subst y
  refine ⟨zQ.refl _,?_⟩
  unfold qaS at hd
  rw [gM_] at hd
  cases e2:(List.range n)[i]? with
  | none=>rw [e2] at hd;cases hd
  | some j =>
   rw [e2] at hd
   have hj:j=i:=by
    have:=(gI_.mp e2).2
    simpa using this.symm
   subst hj
   cases hd
   rfl
 stop:=fun H' ex=>by show n<=(qaS lo n).length;simp [qaS]
def qiy:List D->Option (List D)
 | [.int j]=>if decide (-(2 ^ 62)<=j)&&decide (j<2 ^ 62) then some (qaS 0 j.toNat) else none
 | _=>none
def z5 (f:M (List D)):M (List D):=bnd f fun ds=>lift (qiy ds)
theorem j7 {f:M (List D)} {p:Pos} (hg:Gl X "range") (hm:X.mg "range"=none) (ha:DA X c [a] f) (hs:starEach [a] X.env=[(false,eval a X.env)]:=by rfl):DI X c tg (.Call (.Name "range" p) [a] [] pos) (z5 f):=by
 obtain ⟨t,p,w⟩:=ha
 refine ⟨_,qfe hg hm p hs,fun U Z H Q r h=>w U Z H _ r (WpL.bndI h fun ds U1 vs H1 r1 i1 g1 h1 => ?_)⟩
 obtain ⟨es,e,h2⟩:=qby h1
 unfold qiy at e
 split at e
 ·rename_i j
  obtain ⟨v,rfl,e2⟩:=IsL.inv1 i1
  cases e2
  by_cases hb:(decide (-(2 ^ 62)<=j)&&decide (j<2 ^ 62))=true
  ·rw [if_pos hb] at e
   cases e
   rw [Bool.and_eq_true] at hb
   exact ⟨j,rfl,of_decide_eq_true hb.1,of_decide_eq_true hb.2,h2 _ H1 r1 (qlR 0 _) .refl⟩
  ·rw [if_neg hb] at e
   cases e
 ·cases e
def ua (g:D->Env->Option Env) (b:MS):List D->MS
 | [],U => .ok (.nx U)
 | d::ds,U=>match g d U with
  | none => .bad
  | some U1=>match b U1 with
   | .ok (.nx U2)=>ua g b ds U2
   | .ok (.ct U2)=>ua g b ds U2
   | .ok (.bk U2) => .ok (.nx U2)
   | .ok (.rt r U2) => .ok (.rt r U2)
   | .exc x U2 => .exc x U2
   | .bad => .bad
def vR (f:M (List D)) (g:D->Env->Option Env) (b:MS):MS:=sbnd f fun ds=>ua g b ds
theorem WpI.sbnd {K:Fr0} {Z:St} {H:Hp} {D':qe3} {f:M (List D)} {k:List D->MS} {U:Env} {Q':It->Hp->Prop} (h:WpS K c Z H D' (Sk.sbnd f k U))
  (hQ:∀ ds U' J H',Rep K c U' Z H'->qix K (CnT c Z H') H' ds J->Gr c.O Z H H'->WpS K c Z H' D' (k ds U')->Q' J H'):WpI K c Z H Q' (f U):=by
 unfold Sk.sbnd at h
 cases e:f U with
 | ok p=>rw [e] at h;exact fun v H' hr hi hg=>hQ p.1 p.2 v H' hr hi hg (h.gr hg.s)
 | exc x U'=>rw [e] at h;exact fun H' hr hg=>h Z H' hr hg.s
 | bad=>rw [e] at h;exact h
theorem GrS.extT {Z Z':St} {H H':Hp} (g:GrS c.O Z H Z' H'):Ext (CnT c Z H) H H':=⟨g.ext.tup,g.ext.frz,fun b o hb h=>g.ext.at_ b o hb.1.2 h⟩
theorem GrS.cnT {Z Z':St} {H H':Hp} (g:GrS c.O Z H Z' H') {a:Addr} (h:CnT c Z H a):Cn c Z' a:=⟨h.1.1,g.cl a h.1.2 h.2⟩
theorem vW {α:Type} {l:List α} {i:Nat} (h:i<l.length):l.drop i=l[i]::l.drop (i+1):=List.drop_eq_getElem_cons h
theorem ub {it:Expr} {body:List Stmt} {f:M (List D)} {g:D->Env->Option Env} {b:MS} (hp:PassesOwn (model X.prog X.w) X.A X.env X.xe) (hc:X.calm=true) (hi:DI X c tg it f) (hg:DG X c tg g) (hb:DSs X c body b)
  (hs:∀ x,foldedSetIterable it X.env x=pure x:=by intro _;rfl):DS X c (.For tg it body [] pos) (vR f g b):=by
 obtain ⟨wi,pi,wI⟩:=hi
 obtain ⟨tg',pg,wg⟩:=hg
 obtain ⟨tb,pb,wb⟩:=hb
 refine ⟨_,qle hp hc pi pg pb hs,fun U Z H D' r h=>wI U Z H _ r (WpI.sbnd h fun ds U1 J H1 r1 iok g1 h1 => ?_)⟩
 refine ⟨fun i m Z' H'=>m=ds.length-i/\i<=ds.length/\∃ U',Rep X.K c U' Z' H'/\GrS c.O Z H1 Z' H'/\WpS X.K c Z' H' D' (ua g b (ds.drop i) U'),⟨ds.length,by simp,Nat.zero_le _,U1,r1,.refl,by simpa using h1⟩,?_⟩
 rintro i m Z' H' ⟨rfl,hi,U',r',gs,w⟩
 by_cases hlt:i<ds.length
 ·refine .inr ⟨iok.go H' i ds[i] gs.extT (by simp [hlt]),fun Z2 H2=>∃ U2,Rep X.K c U2 Z2 H2/\GrS c.O Z H1 Z2 H2/\WpS X.K c Z2 H2 D' (ua g b (ds.drop (i+1)) U2),fun Z2 H2 n=>⟨ds.length-(i+1),by omega,rfl,hlt,n⟩,fun x H'' y => ?_⟩
  obtain ⟨sm,ix⟩:=iok.yl H' i ds[i] x H'' gs.extT (by simp [hlt]) y
  rw [vW hlt] at w
  unfold ua at w
  have gs2:GrS c.O Z H1 Z' H'':=gs.trans (Gr.of_same sm).s
  have ix2:Is X.K (Cn c Z') H'' ds[i] x:=Is.ext Ext.refl (fun a ha _=>gs2.cnT ha) ix
  cases e1:g ds[i] U' with
  | none=>simp only [e1] at w;exact w.elim
  | some U2 =>
   simp only [e1] at w
   refine wg U' Z' H'' ds[i] x U2 _ (r'.same sm) ix2 e1 fun Z2 r2 g2 _=>wb U2 Z2 H'' _ r2 ?_
   have w2:=w.gr ((Gr.of_same sm).s.trans g2)
   have gs3:GrS c.O Z H1 Z2 H'':=gs2.trans g2
   cases e2:b U2 with
   | ok fl =>
    cases fl with
    | nx U3=>simp only [e2] at w2;exact fun Z3 H3 r3 g3=>⟨U3,r3,gs3.trans g3,w2.gr g3⟩
    | ct U3=>simp only [e2] at w2;exact fun Z3 H3 r3 g3=>⟨U3,r3,gs3.trans g3,w2.gr g3⟩
    | bk U3=>simp only [e2] at w2;exact w2
    | rt d U3=>simp only [e2] at w2;exact w2
   | exc x U3=>simp only [e2] at w2;exact w2
   | bad=>simp only [e2] at w2;exact w2
 ·have hie:i=ds.length:=by omega
  subst hie
  rw [List.drop_of_length_le (Nat.le_refl _)] at w
  exact .inl ⟨iok.stop H' gs.extT,w Z' H' r' .refl⟩
end
def cin (B0:Addr->Prop) (H1:Hp) (O':List Nat) (Io':Addr->Prop) (acc:Addr) (S':Nat->Option (Option V)):Fc where
 O:=O'
 P:=O'
 B:=fun a=>B0 a/\a≠acc
 H0:=upd H1 acc (.lst [])
 Io:=fun a=>Io' a\/a=acc
 E:=fun _ _=>False
 S:=S'
def zB (g:D->Env->Option Env) (t:M Bool) (e:M D):List D->List D->Env->R (List D×Env)
 | [],acc,U => .ok (acc,U)
 | d :: ds,acc,U=>match g d U with
  | none => .bad
  | some U1=>match t U1 with
   | .ok (true,U2)=>match e U2 with
    | .ok (y,U3)=>if qQ (acc.length+1) then zB g t e ds (acc++[y]) U3 else .bad
    | _ => .bad
   | .ok (false,U2)=>zB g t e ds acc U2
   | _ => .bad
def jM (nt:Nat) (fr:List Nat) (U:Env):Env:=List.replicate nt none++fr.map fun j=>(U[j]?).join
def qjQ (fo:Option (Nat×Nat)) (Ue U:Env):Env:=match fo with
 | none=>U
 | some (i,j)=>U.set j (Ue[i]?).join
def qV (nt:Nat) (fr:List Nat) (fo:Option (Nat×Nat)) (f:M (List D)) (g:D->Env->Option Env) (t:M Bool) (e:M D):M D:=bnd f fun ds U=>match zB g t e ds [] (jM nt fr U) with
 | .ok (ys,Ue) => .ok (.lst ys,qjQ fo Ue U)
 | _ => .bad
def DF (X:Cx) (c:Fc) (ifs:List Expr) (f:M Bool):Prop:=∃ t,PF X ifs t/\∀ U Z H Q,Rep X.K c U Z H->WpB X.K c Z H Q (f U)->t Z H Q
def foO (fo:Option (Nat×Nat)):List Nat:=match fo with
 | none=>[]
 | some (i,_)=>[i]
section
variable {X:Cx} {c:Fc} {tg a b e:Expr} {pos:Pos}
theorem uN:DF X c [] (ret true):=⟨_,qlN,fun U Z H Q r h=>h H r .refl⟩
theorem qa6 {f:M Bool} (h:DT X c e f):DF X c [e] f:=by
 obtain ⟨t,p,w⟩:=h
 exact ⟨_,qlO p,w⟩
theorem WpI.bnd {K:Fr0} {Z:St} {H:Hp} {Q:VK} {f:M (List D)} {k:List D->M D} {U:Env} {Q':It->Hp->Prop} (h:Wp K c Z H Q (Sk.bnd f k U))
  (hQ:∀ ds U' J H',Rep K c U' Z H'->qix K (CnT c Z H') H' ds J->Gr c.O Z H H'->Wp K c Z H' Q (k ds U')->Q' J H'):WpI K c Z H Q' (f U):=by
 unfold Sk.bnd at h
 cases e:f U with
 | ok p=>rw [e] at h;exact fun v H' hr hi hg=>hQ p.1 p.2 v H' hr hi hg (h.gr hg)
 | exc x U'=>rw [e] at h;exact h
 | bad=>rw [e] at h;exact h
theorem Rep.grow {K:Fr0} {B0:Addr->Prop} {H1:Hp} {O':List Nat} {Io':Addr->Prop} {acc:Addr} {S':Nat->Option (Option V)} {U:Env} {Z:St} {H:Hp} {xs ys:List V} (r:Rep K (cin B0 H1 O' Io' acc S') U Z H) (h:H acc=some (.lst xs)) (ho:∀ j∈O',Z[j]? ≠ some (some (.ref acc))) :
  Rep K (cin B0 H1 O' Io' acc S') U Z (upd H acc (.lst ys)):=by
 have ext:Ext (fun a=>a≠acc) H (upd H acc (.lst ys)):=⟨fun b zs hb=>by rw [qt (vt hb h (by intro z;cases z))];exact hb,fun b o u hb=>by rw [qt (vt hb h (by intro z;cases z))];exact hb,fun b o hb hq=>by rw [qt hb];exact hq⟩
 have cnext:Ext (Cn (cin B0 H1 O' Io' acc S') Z) H (upd H acc (.lst ys)):=⟨ext.tup,ext.frz,fun b o hb hq=>ext.at_ b o hb.1.2 hq⟩
 refine ⟨r.len,fun i d hd => ?_,fun j hj v hv => ?_,r.inj,r.b0,fun b o hb hio => ?_,fun b hb => ?_,r.pO,r.ps⟩
 ·obtain ⟨v,h1,h2⟩:=r.val i d hd
  refine ⟨v,h1,?_⟩
  rcases h2 with ⟨hi,ds,a,zs,h3,h5,h6,h7⟩ | ⟨hi,h3⟩
  ·subst h5
   have ne:a≠acc:=fun e=>ho i hi (by rw [h1,e])
   exact .inl ⟨hi,ds,a,zs,h3,rfl,by rw [qt ne];exact h6,IsL.ext cnext (fun _ h _=>h) h7⟩
  ·exact .inr ⟨hi,Is.ext cnext (fun _ h _=>h) h3⟩
 ·obtain ⟨a,zs,h1,h2,h3⟩:=r.own j hj v hv
  subst h1
  have ne:a≠acc:=fun e=>ho j hj (by rw [hv,e])
  exact ⟨a,zs,rfl,by rw [qt ne];exact h2,h3⟩
 ·have ne:b≠acc:=fun e=>hio (.inr e)
  rw [qt ne]
  exact r.kp b o hb hio
 ·by_cases e:b=acc
  ·subst e;rw [qv] at hb;cases hb
  ·rw [qt e] at hb;exact r.dm b hb
theorem qah {α:Type} {o:Option (Option α)} {a:α} (h:o.join=some a):o=some (some a):=by
 cases o with
 | none=>cases h
 | some x=>have:x=some a:=h;rw [this]
def qjR (c:Fc) (nt:Nat) (fr:List Nat) (fo:Option (Nat×Nat)):Prop:=match fo with
 | none=>∀ j∈fr,j ∉ c.O
 | some (i,j)=>j∈c.O/\nt<=i/\fr[i-nt]? = some j/\∀ k j',fr[k]? = some j'->nt+k≠i->j' ∉ c.O
def qca (Z:St) (fo:Option (Nat×Nat)) (a:Addr):Prop:=match fo with
 | none=>False
 | some (_,j)=>Z[j]? = some (some (.ref a))
theorem vX {nt:Nat} {fr:List Nat} {Z:St} {k j:Nat} (h:fr[k]? = some j):(qJ nt fr Z)[nt+k]? = some (Z[j]?).join:=by
 unfold qJ
 rw [List.getElem?_append_right (by simp),List.length_replicate,gM_,show nt+k-nt=k by omega,h]
 rfl
theorem qeE {nt:Nat} {fr:List Nat} {U:Env} {i:Nat} {d:D} (hd:(jM nt fr U)[i]? = some (some d)):∃ k j,i=nt+k/\fr[k]? = some j/\U[j]? = some (some d):=by
 have hi:nt<=i:=by
  apply Nat.le_of_not_lt
  intro hlt
  unfold jM at hd
  rw [List.getElem?_append_left (by simpa using hlt),List.getElem?_replicate] at hd
  split at hd<;>cases hd
 unfold jM at hd
 rw [List.getElem?_append_right (by simpa using hi),List.length_replicate,gM_] at hd
 cases ej:fr[i-nt]? with
 | none=>rw [ej] at hd;cases hd
 | some j =>
  rw [ej] at hd
  exact ⟨i-nt,j,by omega,ej,qah (by simpa using hd)⟩
theorem yp {nt:Nat} {fr:List Nat} {Z:St} {i:Nat} {d:V} (hd:(qJ nt fr Z)[i]? = some (some d)):∃ k j,i=nt+k/\fr[k]? = some j/\Z[j]? = some (some d):=by
 have hi:nt<=i:=by
  apply Nat.le_of_not_lt
  intro hlt
  unfold qJ at hd
  rw [List.getElem?_append_left (by simpa using hlt),List.getElem?_replicate] at hd
  split at hd<;>cases hd
 unfold qJ at hd
 rw [List.getElem?_append_right (by simpa using hi),List.length_replicate,gM_] at hd
 cases ej:fr[i-nt]? with
 | none=>rw [ej] at hd;cases hd
 | some j =>
  rw [ej] at hd
  exact ⟨i-nt,j,by omega,ej,qah (by simpa using hd)⟩
theorem Rep.entry {K:Fr0} {nt:Nat} {fr:List Nat} {fo:Option (Nat×Nat)} {acc:Addr} {U:Env} {Z:St} {H:Hp} (r:Rep K c U Z H) (hn:H acc=none) (hfo:qjR c nt fr fo) :
  Rep K (cin (Cn c Z) H (foO fo) (qca Z fo) acc fun j=>(qJ nt fr Z)[j]?) (jM nt fr U) (qJ nt fr Z) (upd H acc (.lst [])):=by
 have sm:zQ H (upd H acc (.lst [])):=qB hn _
 have ownI:∀ i∈foO fo,∀ v,(qJ nt fr Z)[i]? = some (some v)->∃ j,fo=some (i,j)/\j∈c.O/\Z[j]? = some (some v):=fun i hi v hv=>by
  cases fo with
  | none=>cases hi
  | some p =>
   obtain ⟨i',j'⟩:=p
   have e:i=i':=by simpa [foO] using hi
   subst e
   obtain ⟨h1,h2,h3,h4⟩:=hfo
   obtain ⟨k,j,e1,e2,e3⟩:=yp hv
   have hk:k=i-nt:=by omega
   subst hk
   rw [h3] at e2
   cases e2
   exact ⟨j',rfl,h1,e3⟩
 have clI:∀ a,Cl c.O Z a->Cl (foO fo) (qJ nt fr Z) a:=fun a ha i hi e=>by
  obtain ⟨j,_,hj,e2⟩:=ownI i hi _ e
  exact ha j hj e2
 refine ⟨by simp [jM,qJ],fun i d hd => ?_,fun i hi v hv => ?_,fun i j a hi hj h1 h2 => ?_,⟨fun a ha => ?_,fun q P pos eP => ?_⟩,fun b o hb hio => ?_,fun b hb => ?_,fun _ h=>h,fun _ _=>rfl⟩
 ·obtain ⟨k,j,e1,e2,e3⟩:=qeE hd
  subst e1
  by_cases hO:nt+k∈foO fo
  ·obtain ⟨v,hv⟩:∃ v,Z[j]? = some (some v):=by
    obtain ⟨v,h1,_⟩:=r.val j d e3
    exact ⟨v,h1⟩
   have hc:(qJ nt fr Z)[nt+k]? = some (some v):=by rw [vX e2,hv];rfl
   obtain ⟨j',f1,f2,f3⟩:=ownI _ hO v hc
   subst f1
   obtain ⟨g1,g2,g3,g4⟩:=hfo
   rw [show nt+k-nt=k by omega,e2] at g3
   cases g3
   obtain ⟨ds,a,xs,h1,h3,h4,h5⟩:=r.getO g1 e3
   rw [hv] at h3
   cases h3
   exact ⟨.ref a,hc,.inl ⟨hO,ds,a,xs,h1,rfl,sm _ _ h4,IsL.ext (Ext.of_same sm) (fun b hb hs=>⟨⟨hb,fun e=>by subst e;rw [hn] at hs;cases hs⟩,clI b hb.2⟩) h5⟩⟩
  ·have hj:j ∉ c.O:=by
    cases fo with
    | none=>exact hfo j (List.mem_of_getElem? e2)
    | some p =>
     obtain ⟨i',j'⟩:=p
     exact hfo.2.2.2 k j e2 (fun e=>hO (by simp [foO,e]))
   obtain ⟨v,h1,h2⟩:=r.get hj e3
   refine ⟨v,by rw [vX e2,h1];rfl,.inr ⟨hO,?_⟩⟩
   refine Is.ext (Ext.of_same sm) (fun a ha hs=>⟨⟨ha,fun e => ?_⟩,clI a ha.2⟩) h2
   subst e;rw [hn] at hs;cases hs
 ·obtain ⟨j,f1,f2,f3⟩:=ownI i hi v hv
  obtain ⟨a,xs,h1,h2,h3⟩:=r.own j f2 v f3
  subst h1 f1
  exact ⟨a,xs,rfl,sm _ _ h2,.inr ⟨hi,.inl f3⟩⟩
 ·cases fo with
  | none=>cases hi
  | some p =>
   obtain ⟨i',j'⟩:=p
   have e:i=i':=by simpa [foO,cin] using hi
   have e2:j=i':=by simpa [foO,cin] using hj
   rw [e,e2]
 ·have ha':upd H acc (.lst []) a=none:=ha
  by_cases e:a=acc
  ·subst e;rw [qv] at ha';cases ha'
  ·rw [qt e] at ha';exact ⟨r.new ha',e⟩
 ·have hP:=(r.tb q P pos eP).1
  refine ⟨sm _ _ hP,fun z => ?_⟩
  rcases z with z | z
  ·cases fo with
   | none=>exact z
   | some p =>
    obtain ⟨b,xs,e1,e2,_⟩:=r.own _ hfo.1 _ z
    cases e1
    rw [hP] at e2;cases e2
  ·rw [z,hn] at hP;cases hP
 ·exact hb
 ·exact hb
theorem Rep.leave {K:Fr0} {nt:Nat} {fr:List Nat} {fo:Option (Nat×Nat)} {acc:Addr} {U Ue:Env} {Z Ze:St} {H H':Hp} (r:Rep K c U Z H) (hn:H acc=none) (hfo:qjR c nt fr fo) (hf:∀ i j,fo=some (i,j)->Ze[i]? = (qJ nt fr Z)[i]?)
  (q:Rep K (cin (Cn c Z) H (foO fo) (qca Z fo) acc fun j=>(qJ nt fr Z)[j]?) Ue Ze H'):Rep K c (qjQ fo Ue U) Z H'/\Gr c.O Z H H':=by
 have kp:∀ b o,H b=some o->¬ qca Z fo b->H' b=some o:=fun b o hb hio=>q.kp b o (by show upd H acc (.lst []) b=some o;rw [qt (qH hb hn)];exact hb) fun z=>z.elim hio fun e=>absurd e (qH hb hn)
 have clean:∀ b,Cl c.O Z b->¬ qca Z fo b:=fun b hb hio=>by
  cases fo with
  | none=>exact hio
  | some p=>exact hb p.2 hfo.1 hio
 have dom:∀ b,H' b=none->H b=none:=fun b hb=>by
  have:=q.dm b hb
  by_cases e:b=acc
  ·subst e;exact hn
  ·have this:upd H acc (.lst []) b=none:=this
   rw [qt e] at this;exact this
 have notT:∀ b xs,H b=some (.tup xs)->¬ qca Z fo b:=fun b xs hb hio=>by
  cases fo with
  | none=>exact hio
  | some p =>
   obtain ⟨a,ys,e1,e2,_⟩:=r.own p.2 hfo.1 _ hio
   cases e1;rw [hb] at e2;cases e2
 have notF:∀ b o u,H b=some (.frz o u)->¬ qca Z fo b:=fun b o u hb hio=>by
  cases fo with
  | none=>exact hio
  | some p =>
   obtain ⟨a,ys,e1,e2,_⟩:=r.own p.2 hfo.1 _ hio
   cases e1;rw [hb] at e2;cases e2
 have gr:Gr c.O Z H H':=⟨⟨fun b xs hb=>kp b _ hb (notT b xs hb),fun b o u hb=>kp b _ hb (notF b o u hb),fun b o hc hb=>kp b o hb (clean b hc)⟩,dom⟩
 refine ⟨⟨?_,fun k d hd => ?_,fun j hj v hv => ?_,r.inj,r.b0,fun b o hb hio => ?_,fun b hb=>r.dm b (dom b hb),r.pO,r.ps⟩,gr⟩
 ·cases fo with
  | none=>exact r.len
  | some p=>show (U.set _ _).length=_;rw [lS_];exact r.len
 ·-- an old slot,or the one that came qjQ
  have oldSlot:U[k]? = some (some d)->(∀ i,fo≠some (i,k))->∃ v,Z[k]? = some (some v)/\((k∈c.O/\∃ ds a xs,d = .lst ds/\v = .ref a/\H' a=some (.lst xs)/\IsL K (Cn c Z) H' ds xs)\/(k ∉ c.O/\Is K (Cn c Z) H' d v)):=fun hk hne=>by
   obtain ⟨v,h1,h2⟩:=r.val k d hk
   refine ⟨v,h1,?_⟩
   rcases h2 with ⟨hi,ds,a,xs,h3,h5,h6,h7⟩ | ⟨hi,h3⟩
   ·subst h5
    refine .inl ⟨hi,ds,a,xs,h3,rfl,kp a _ h6 (fun hio => ?_),gr.isL h7⟩
    cases fo with
    | none=>exact hio
    | some p =>
     obtain ⟨i',j'⟩:=p
     have e:=r.inj k j' a hi hfo.1 h1 hio
     exact hne i' (by rw [e])
   ·exact .inr ⟨hi,gr.is h3⟩
  cases fo with
  | none=>exact oldSlot hd (fun i e=>by cases e)
  | some p =>
   obtain ⟨i',j'⟩:=p
   have hd':(U.set j' (Ue[i']?).join)[k]? = some (some d):=hd
   by_cases e:k=j'
   ·subst e
    have hl:k<U.length:=by
     have:=(gI_.mp hd').1
     rwa [lS_] at this
    rw [List.getElem?_set_self hl] at hd'
    have he:Ue[i']? = some (some d):=qah (Option.some.inj hd')
    obtain ⟨ds,a,xs,h1,h3,h4,h5⟩:=q.getO (show i'∈foO (some (i',k)) by simp [foO]) he
    have h3':=hf i' k rfl
    rw [h3] at h3'
    obtain ⟨k2,j2,e1,e2,e3⟩:=yp h3'.symm
    have hk2:k2=i'-nt:=by omega
    subst hk2
    rw [hfo.2.2.1] at e2
    cases e2
    exact ⟨.ref a,e3,.inl ⟨hfo.1,ds,a,xs,h1,rfl,h4,IsL.ext Ext.refl (fun b hb _=>hb.1.1) h5⟩⟩
   ·rw [zA e] at hd'
    exact oldSlot hd' (fun i e2=>e (by cases e2;rfl))
 ·obtain ⟨a,xs,h1,h2,h3⟩:=r.own j hj v hv
  subst h1
  by_cases hio:qca Z fo a
  ·cases fo with
   | none=>exact hio.elim
   | some p =>
    obtain ⟨i',j'⟩:=p
    have hc:(qJ nt fr Z)[i']? = some (some (.ref a)):=by
     have:=vX (Z:=Z) (nt:=nt) hfo.2.2.1
     rw [show nt+(i'-nt)=i' by have:=hfo.2.1;omega] at this
     rw [this]
     have hio':Z[j']? = some (some (.ref a)):=hio
     rw [hio'];rfl
    have h3':=hf i' j' rfl
    rw [hc] at h3'
    obtain ⟨a',ys,e1,e2,_⟩:=q.own i' (by simp [foO,cin]) _ h3'
    cases e1
    exact ⟨a,ys,rfl,e2,h3⟩
  ·exact ⟨a,xs,rfl,kp a _ h2 hio,h3⟩
 ·by_cases hio2:qca Z fo b
  ·cases fo with
   | none=>exact hio2.elim
   | some p =>
    obtain ⟨a,ys,e1,e2,e3⟩:=r.own p.2 hfo.1 _ hio2
    cases e1
    rcases e3 with e3 | e3
    ·rw [hb] at e3;cases e3
    ·exact absurd e3.2 hio
  ·exact kp b o (r.kp b o hb hio) hio2
theorem jE {it elt:Expr} {ifs:List Expr} {scope:Scope} {N':List Str} {nt:Nat} {fr:List Nat} {fo:Option (Nat×Nat)} {f:M (List D)} {g:D->Env->Option Env} {t:M Bool} {k:M D} (hc:X.calm=true) (hi:DI X c tg it f) (S:j6 X scope N' nt fr)
  (hfo:qjR c nt fr fo)
  (hb:∀ fp cl C s₀ H₀ pn B0 H1 Io' acc S',DG (zR X scope N' fp cl C s₀ H₀ pn) (cin B0 H1 (foO fo) Io' acc S') tg g/\DF (zR X scope N' fp cl C s₀ H₀ pn) (cin B0 H1 (foO fo) Io' acc S') ifs t/\DE (zR X scope N' fp cl C s₀ H₀ pn) (cin B0 H1 (foO fo) Io' acc S') elt k)
  (hs:∀ x,foldedSetIterable it X.env x=pure x:=by intro _;rfl):DE X c (.ListComp elt [⟨tg,it,ifs,0⟩] scope pos) (qV nt fr fo f g t k):=by
 obtain ⟨wi,pi,wI⟩:=hi
 refine ⟨_,qjO hc pi S hs,fun U Z H Q r h=>wI U Z H _ r (WpI.bnd h fun ds U1 J H1 r1 iok g1 h1 => ?_)⟩
 intro acc fp cl C s₀ H₀ pn hn
 obtain ⟨⟨tg',pg,wg⟩,⟨tt,pt,wt⟩,⟨te,pe,we⟩⟩:=hb fp cl C s₀ H₀ pn (Cn c Z) H1 (qca Z fo) acc fun j=>(qJ nt fr Z)[j]?
 refine ⟨tg',tt,te,pg,pt,pe,?_⟩
 cases ew:zB g t k ds [] (jM nt fr U1) with
 | exc x U'=>rw [ew] at h1;exact h1.elim
 | bad=>rw [ew] at h1;exact h1.elim
 | ok p =>
  rw [ew] at h1
  obtain ⟨ys,Ue⟩:=p
  have h1:∀ v H',Rep X.K c (qjQ fo Ue U1) Z H'->Is X.K (Cn c Z) H' (.lst ys) v->Gr c.O Z H1 H'->Q v H':=h1
  have accO:∀ j∈foO fo,(qJ nt fr Z)[j]? ≠ some (some (.ref acc)):=fun j hj e=>by
   have r0:=r1.entry (acc:=acc) hn hfo
   cases fo with
   | none=>cases hj
   | some p =>
    obtain ⟨i',j'⟩:=p
    have e2:j=i':=by simpa [foO] using hj
    subst e2
    obtain ⟨k2,j2,e1,e2,e3⟩:=yp e
    have hk2:k2=j-nt:=by omega
    subst hk2
    rw [hfo.2.2.1] at e2
    cases e2
    obtain ⟨a,us,e4,e5,_⟩:=r1.own j' hfo.1 _ e3
    cases e4;rw [hn] at e5;cases e5
  refine ⟨fun i m Z' H'=>m=ds.length-i/\i<=ds.length/\∃ U' zs xs,Rep X.K (cin (Cn c Z) H1 (foO fo) (qca Z fo) acc fun j=>(qJ nt fr Z)[j]?) U' Z' H'/\(∀ j∈foO fo,Z'[j]? = (qJ nt fr Z)[j]?)/\H' acc=some (.lst xs)/\IsL X.K (Cn (cin (Cn c Z) H1 (foO fo) (qca Z fo) acc fun j=>(qJ nt fr Z)[j]?) Z') H' zs xs/\zB g t k (ds.drop i) zs U' = .ok (ys,Ue),
   ⟨ds.length,by simp,Nat.zero_le _,jM nt fr U1,[],[],r1.entry hn hfo,fun _ _=>rfl,qv,rfl,by simpa using ew⟩,?_⟩
  rintro i m Z' H' ⟨rfl,hi,U',zs,xs,r',so,ha,iz,w⟩
  obtain ⟨_,gr⟩:=r1.leave hn hfo (fun i j e=>so i (by rw [e];simp [foO])) r'
  have ex:Ext (CnT c Z H1) H1 H':=⟨gr.ext.tup,gr.ext.frz,fun b o hb hq=>gr.ext.at_ b o hb.1.2 hq⟩
  have accC:∀ τ:St,(∀ j∈foO fo,τ[j]? = (qJ nt fr Z)[j]?)->Cl (foO fo) τ acc:=fun τ hτ j hj e=>accO j hj (by rw [<- hτ j hj];exact e)
  by_cases hlt:i<ds.length
  ·refine .inr ⟨iok.go H' i ds[i] ex (by simp [hlt]),fun x H'' y => ?_⟩
   obtain ⟨sm,ix⟩:=iok.yl H' i ds[i] x H'' ex (by simp [hlt]) y
   rw [vW hlt] at w
   unfold zB at w
   have ix2:Is X.K (Cn (cin (Cn c Z) H1 (foO fo) (qca Z fo) acc fun j=>(qJ nt fr Z)[j]?) Z') H'' ds[i] x:=Is.ext Ext.refl (fun a ha _=>⟨⟨ha.1,fun e=>by
    have:=ha.2
    rw [e,hn] at this;cases this⟩,fun j hj e=>by
     rw [so j hj] at e
     cases fo with
     | none=>cases hj
     | some p =>
      obtain ⟨i',j'⟩:=p
      have e2:j=i':=by simpa [foO,cin] using hj
      subst e2
      obtain ⟨k2,j2,e1,e2,e3⟩:=yp e
      have hk2:k2=j-nt:=by omega
      subst hk2
      rw [hfo.2.2.1] at e2
      cases e2
      exact ha.1.2 j' hfo.1 e3⟩) ix
   cases e1:g ds[i] U' with
   | none=>simp only [e1] at w;cases w
   | some U2 =>
    simp only [e1] at w
    refine wg U' Z' H'' ds[i] x U2 _ (r'.same sm) ix2 e1 fun Z2 r2 g2 o2 => ?_
    have so2:∀ j∈foO fo,Z2[j]? = (qJ nt fr Z)[j]? := fun j hj=>(o2 j hj).trans (so j hj)
    have ha2:H'' acc=some (.lst xs):=sm _ _ ha
    have iz2:=g2.isL (IsL.ext (Ext.of_same sm) (fun _ h _=>h) iz)
    cases e2:t U2 with
    | exc x U3=>simp only [e2] at w;cases w
    | bad=>simp only [e2] at w;cases w
    | ok p2 =>
     obtain ⟨bb,U3⟩:=p2
     refine wt U2 Z2 H'' _ r2 ?_
     rw [e2]
     intro H3 r3 g3
     have ha3:H3 acc=some (.lst xs):=g3.ext.at_ _ _ (accC Z2 so2) ha2
     have iz3:=g3.isL iz2
     cases bb with
     | false =>
      rw [if_neg Bool.false_ne_true]
      simp only [e2] at w
      exact ⟨ds.length-(i+1),by omega,rfl,hlt,U3,zs,xs,r3,so2,ha3,iz3,w⟩
     | true =>
      rw [if_pos rfl]
      simp only [e2] at w
      cases e3:k U3 with
      | exc x U4=>simp only [e3] at w;cases w
      | bad=>simp only [e3] at w;cases w
      | ok p3 =>
       obtain ⟨d4,U4⟩:=p3
       simp only [e3] at w
       refine we U3 Z2 H3 _ r3 ?_
       rw [e3]
       intro y4 H4 r4 i4 g4
       have ha4:H4 acc=some (.lst xs):=g4.ext.at_ _ _ (accC Z2 so2) ha3
       have hsz:qQ (zs.length+1)=true:=by
        cases e5:qQ (zs.length+1) with
        | true=>rfl
        | false=>rw [e5] at w;simp at w
       rw [if_pos hsz] at w
       have hsz':zs.length+1<=sizeLine:=of_decide_eq_true hsz
       have r5:=r4.grow (ys:=xs++[y4]) ha4 (fun j hj e=>accC Z2 so2 j hj e)
       have ext5:Ext (Cn (cin (Cn c Z) H1 (foO fo) (qca Z fo) acc fun j=>(qJ nt fr Z)[j]?) Z2) H4 (upd H4 acc (.lst (xs++[y4]))):=⟨fun b us hb=>by rw [qt (vt hb ha4 (by intro z;cases z))];exact hb,fun b o u hb=>by rw [qt (vt hb ha4 (by intro z;cases z))];exact hb,fun b o hb hq=>by rw [qt hb.1.2];exact hq⟩
       refine ⟨xs,ha4,by rw [iz3.length];omega,ds.length-(i+1),by omega,rfl,hlt,U4,zs++[d4],xs++[y4],r5,so2,qv,?_,w⟩
       exact IsL.append (IsL.ext ext5 (fun _ h _=>h) (g4.isL iz3)) (IsL.one (Is.ext ext5 (fun _ h _=>h) i4))
  ·have hie:i=ds.length:=by omega
   subst hie
   rw [List.drop_of_length_le (Nat.le_refl _)] at w
   unfold zB at w
   cases w
   obtain ⟨r6,g6⟩:=r1.leave hn hfo (fun i j e=>so i (by rw [e];simp [foO])) r'
   exact .inl ⟨iok.stop H' ex,h1 _ H' r6 ⟨acc,xs,rfl,r1.new hn,ha,IsL.ext Ext.refl (fun a ha hs=>ha.1.1) iz⟩ g6⟩
end
theorem Rep.io {K:Fr0} {c:Fc} {U:Env} {Z:St} {H H':Hp} {i:Nat} {a:Addr} {bs:List D} {xs:List V} (r:Rep K c U Z H) (hi:i∈c.O) (hs:Z[i]? = some (some (.ref a))) (kp:∀ b o,b≠a->H b=some o->H' b=some o)
  (ha:H' a=some (.lst xs)) (him:True) (il:IsL K (Cn c Z) H' bs xs) (dm:∀ b,H' b=none->H b=none):Rep K c (U.set i (some (.lst bs))) Z H'/\Gr c.O Z H H':=by
 obtain ⟨a',xs0,e0,h0,hown⟩:=r.own i hi _ hs
 cases e0
 have gr:Gr c.O Z H H':=⟨⟨fun b us hb=>kp b _ (vt hb h0 (by intro z;cases z)) hb,fun b o u hb=>kp b _ (vt hb h0 (by intro z;cases z)) hb,fun b o hc hb=>kp b o (fun e=>hc i hi (by rw [hs,e])) hb⟩,dm⟩
 refine ⟨⟨by rw [lS_];exact r.len,fun k d hk => ?_,fun j hj v hv => ?_,r.inj,r.b0,fun b o hb hio => ?_,fun b hb=>r.dm b (dm b hb),r.pO,r.ps⟩,gr⟩
 ·by_cases e:k=i
  ·subst e
   have hl:k<U.length:=by
    have:=(gI_.mp hk).1
    rwa [lS_] at this
   rw [List.getElem?_set_self hl] at hk
   cases hk
   exact ⟨.ref a,hs,.inl ⟨hi,bs,a,xs,rfl,rfl,ha,il⟩⟩
  ·rw [zA e] at hk
   obtain ⟨v,h1,h2⟩:=r.val k d hk
   refine ⟨v,h1,?_⟩
   rcases h2 with ⟨hk2,ds,b,ys,h3,h5,h6,h7⟩ | ⟨hk2,h3⟩
   ·subst h5
    have ne:b≠a:=fun e2=>e (r.inj k i a hk2 hi (by rw [h1,e2]) hs)
    exact .inl ⟨hk2,ds,b,ys,h3,rfl,kp b _ ne h6,gr.isL h7⟩
   ·exact .inr ⟨hk2,gr.is h3⟩
 ·obtain ⟨b,ys,h1,h2,h3⟩:=r.own j hj v hv
  subst h1
  by_cases e:b=a
  ·subst e;exact ⟨b,xs,rfl,ha,h3⟩
  ·exact ⟨b,ys,rfl,kp b _ e h2,h3⟩
 ·have ne:b≠a:=fun e=>by
   subst e
   rcases hown with z | z
   ·rw [hb] at z;cases z
   ·exact hio z.2
  exact kp b o ne (r.kp b o hb hio)
def zt (i:Nat) (U:Env):Option (List D):=match U[i]? with
 | some (some (.lst ds))=>some ds
 | _=>none
theorem qfI {i:Nat} {U:Env} {ds:List D} (h:zt i U=some ds):U[i]? = some (some (.lst ds)):=by
 unfold zt at h
 split at h
 ·rename_i e;cases h;exact e
 ·cases h
theorem Rep.getLO {K:Fr0} {c:Fc} {U:Env} {Z:St} {H:Hp} (r:Rep K c U Z H) {i:Nat} {ds:List D} (hi:i∈c.O) (h:zt i U=some ds) :
  ∃ a xs,True/\Z[i]? = some (some (.ref a))/\H a=some (.lst xs)/\IsL K (Cn c Z) H ds xs:=by
 obtain ⟨ds',a,xs,h1,h3,h4,h5⟩:=r.getO hi (qfI h)
 cases h1
 exact ⟨a,xs,trivial,h3,h4,h5⟩
theorem zS {H:Hp} {a b:Addr} {o u:HO} (h:b≠a) (hb:H b=some o):upd H a u b=some o:=by rw [qt h];exact hb
theorem qda {H:Hp} {a b:Addr} {u:HO} (h:upd H a u b=none):H b=none:=by
 by_cases e:b=a
 ·subst e;rw [qv] at h;cases h
 ·rw [qt e] at h;exact h
section
variable {X:Cx} {c:Fc} {a b e:Expr} {pos:Pos}
def jj (i:Nat) (f:M D):M D:=fun U=>match zt i U with
 | none => .bad
 | some _=>(bnd f fun d U=>match zt i U with
  | some ds=>if imm d&&qQ (ds.length+1) then .ok (.non,U.set i (some (.lst (ds++[d])))) else .bad
  | none => .bad) U
theorem qai {i:Nat} {x:Str} {p1 apos:Pos} {f:M D} (he:DE X c e f) (ho:i∈c.O:=by exact of_decide_eq_true rfl) (hN:X.N[i]? = some x:=by rfl) (hv:Vis X.env.scope x:=by first | exact Or.inl rfl | exact Or.inr (Or.inl rfl) | exact Or.inr (Or.inr rfl)) (hd:(x==("__debug__":Str))=false:=by decide) (hcd:(x==("__classdict__":Str))=false:=by decide)
  (hbase:attributeBase (.Name x p1) "append" X.env (eval (.Name x p1) X.env)=eval (.Name x p1) X.env:=by rfl)
  (hfew:((backTo pos (starEach [e] X.env)).all (fun x => !x.1)&&(backToKw pos (keywordEach [] X.env)).all (fun x=>x.1.isSome)
   && decide ([e].length+([]:List Keyword).length+(if ([]:List Keyword).isEmpty then 0 else 1)<30))=true:=by rfl)
  (hline:(apos.endLine==pos.line)=true:=by rfl) (hs:starEach [e] X.env=(false,eval e X.env)::starEach [] X.env:=by rfl) (hplain:(backTo pos (starEach [] X.env)).any (·.1)=false:=by rfl) :
  DE X c (.Call (.Attribute (.Name x p1) "append" apos) [e] [] pos) (jj i f):=by
 obtain ⟨t,p,w⟩:=he
 refine ⟨_,qjA PySem.F.plainAttrs_list PySem.F.slot_list_append PySem.F.type_list_append w8 (uE hN hv hd hcd) (jz p vb hs) hbase hfew hline hs hplain,fun U Z H Q r h => ?_⟩
 unfold jj at h
 cases e0:zt i U with
 | none=>rw [e0] at h;exact h.elim
 | some ds0 =>
  simp only [e0] at h
  obtain ⟨l,xs0,_,hl,hH,_⟩:=r.getLO ho e0
  refine ⟨.ref l,hl,.inl ⟨rfl,xs0,.inl (.inl hH)⟩,w U Z H _ r (Wp.bnd h fun d U1 v H1 r1 i1 g1 h1 => ?_)⟩
  cases e1:zt i U1 with
  | none=>simp only [e1] at h1;exact h1.elim
  | some ds =>
   simp only [e1] at h1
   by_cases hb:(imm d&&qQ (ds.length+1))=true
   ·rw [if_pos hb] at h1
    rw [Bool.and_eq_true] at hb
    obtain ⟨l',xs,him,hl',hH',il⟩:=r1.getLO ho e1
    rw [hl] at hl'
    cases hl'
    have hsz:ds.length+1<=sizeLine:=of_decide_eq_true hb.2
    have ext:Ext (Cn c Z) H1 (upd H1 l (.lst (xs++[v]))):=⟨fun b us hb=>zS (vt hb hH' (by intro z;cases z)) hb,fun b o u hb=>zS (vt hb hH' (by intro z;cases z)) hb,fun b o hb hq=>zS (fun e=>hb.2 i ho (by rw [hl,e])) hq⟩
    obtain ⟨r2,g2⟩:=r1.io (H':=upd H1 l (.lst (xs++[v]))) (bs:=ds++[d]) ho hl (fun b o hb ho=>zS hb ho) qv trivial
     (IsL.append (IsL.ext ext (fun _ h _=>h) il) (IsL.one (Is.ext ext (fun _ h _=>h) i1))) (fun b hb=>qda hb)
    exact ⟨l,xs,v,rfl,rfl,hH',by rw [il.length];omega,h1 _ _ r2 rfl g2⟩
   ·rw [if_neg hb] at h1;exact h1.elim
def qht (i:Nat) (k f:M D):MS:=sbnd f fun d U=>match zt i U with
 | none => .bad
 | some _=>(sbnd k fun j U=>match j,zt i U with
  | .int n,some ds=>match ixN ds.length n with
   | some q=>if imm d then .ok (.nx (U.set i (some (.lst (ds.set q d))))) else .bad
   | none => .bad
  | _,_ => .bad) U
theorem qjS {i:Nat} {x:Str} {p1 p2:Pos} {ke:Expr} {f k:M D} (he:DE X c e f) (hk:DE X c ke k) (ho:i∈c.O:=by exact of_decide_eq_true rfl) (hN:X.N[i]? = some x:=by rfl) (hv:Vis X.env.scope x:=by first | exact Or.inl rfl | exact Or.inr (Or.inl rfl) | exact Or.inr (Or.inr rfl)) (hd:(x==("__debug__":Str))=false:=by decide) (hcd:(x==("__classdict__":Str))=false:=by decide)
  (ha:∀ v,assign (.Subscript (.Name x p1) ke p2) X.env v=(do
   let ov <- holding [v] (eval (.Name x p1) X.env)
   let iv <- holding [v,ov] (eval ke X.env)
   standAt p2
   holding [v,ov,iv] (setItem ov iv v)
   release [v,ov,iv] []):=by intro _;rfl)
  (hs:swapsWithSole [.Subscript (.Name x p1) ke p2] e pos.line X.env=pure false:=by rfl) (hw:swappedStores [.Subscript (.Name x p1) ke p2] e X.env=pure none:=by rfl) (h1:(assignEach [.Subscript (.Name x p1) ke p2] X.env).map (·.2)=[assign (.Subscript (.Name x p1) ke p2) X.env]:=by rfl) :
  DS X c (.Assign [.Subscript (.Name x p1) ke p2] e pos) (qht i k f):=by
 obtain ⟨t,p,w⟩:=he
 obtain ⟨tk,pk,wk⟩:=hk
 refine ⟨_,qil p (qlb (uE hN hv hd hcd) pk qhd ha) hs hw h1,fun U Z H D r h=>w U Z H _ r (Wp.sbnd h fun d U1 v H1 r1 i1 g1 h1 => ?_)⟩
 cases e0:zt i U1 with
 | none=>simp only [e0] at h1;exact h1.elim
 | some ds0 =>
  simp only [e0] at h1
  obtain ⟨l,xs0,_,hl,hH,_⟩:=r1.getLO ho e0
  refine ⟨.ref l,hl,wk U1 Z H1 _ r1 (Wp.sbnd h1 fun j U2 u H2 r2 i2 g2 h2 => ?_)⟩
  cases j with
  | int n =>
   cases e1:zt i U2 with
   | none=>simp only [e1] at h2;exact h2.elim
   | some ds =>
    simp only [e1] at h2
    cases e2:ixN ds.length n with
    | none=>simp only [e2] at h2;exact h2.elim
    | some q =>
     simp only [e2] at h2
     by_cases hb:imm d=true
     ·rw [if_pos hb] at h2
      obtain ⟨l',xs,him,hl',hH',il⟩:=r2.getLO ho e1
      rw [hl] at hl'
      cases hl'
      cases i2
      have i3:=g2.is i1
      have ext:Ext (Cn c Z) H2 (upd H2 l (.lst (xs.set q v))):=⟨fun b us hb=>zS (vt hb hH' (by intro z;cases z)) hb,fun b o u hb=>zS (vt hb hH' (by intro z;cases z)) hb,fun b o hb hq=>zS (fun e=>hb.2 i ho (by rw [hl,e])) hq⟩
      obtain ⟨r3,g3⟩:=r2.io (H':=upd H2 l (.lst (xs.set q v))) (bs:=ds.set q d) ho hl (fun b o hb ho=>zS hb ho) qv trivial
       (IsL.set (Is.ext ext (fun _ h _=>h) i3) q (IsL.ext ext (fun _ h _=>h) il)) (fun b hb=>qda hb)
      exact ⟨l,xs,n,q,rfl,rfl,hH',by rw [il.length];exact e2,h2 Z _ r3 g3.s⟩
     ·rw [if_neg hb] at h2;exact h2.elim
  | _=>exact h2.elim
structure qhu (K:Fr0) (c:Fc) (U:Env) (Z:St) (H:Hp) (a:Addr):Prop where
 val:∀ i d v,U[i]? = some (some d)->i ∉ c.O->Z[i]? = some (some v)->Is K (fun b=>Cn c Z b/\b≠a) H d v
 cont:∀ i ds b xs,U[i]? = some (some (.lst ds))->i∈c.O->Z[i]? = some (some (.ref b))->H b=some (.lst xs)->IsL K (Cn c Z) H ds xs->IsL K (fun b=>Cn c Z b/\b≠a) H ds xs
 own:∀ j∈c.O,Z[j]? ≠ some (some (.ref a))
 new:c.H0 a=none
theorem Is.fresh {K:Fr0} {A:Addr->Prop} {H:Hp} {d:D} {v:V} {a:Addr} (h:Is K A H d v) (hn:H a=none):Is K (fun b=>A b/\b≠a) H d v:=Is.ext Ext.refl (fun b h1 h2=>⟨h1,fun e=>by rw [e,hn] at h2;cases h2⟩) h
theorem Rep.apart {K:Fr0} {U:Env} {Z:St} {H:Hp} {a:Addr} {o:HO} (r:Rep K c U Z H) (hn:H a=none):qhu K c U Z (upd H a o) a where
 val:=fun i d v h1 h2 h3=>by
  obtain ⟨w,h4,h5⟩:=r.get h2 h1
  rw [h3] at h4
  cases h4
  exact Is.ext (Ext.of_same (qB hn _)) (fun _ h _=>h) (h5.fresh hn)
 cont:=fun i ds b xs h1 h2 h3 h4 _=>by
  obtain ⟨ds',a',ys,e1,e2,e3,e4⟩:=r.getO h2 h1
  cases e1
  rw [h3] at e2
  cases e2
  have:=qB hn o _ _ e3
  rw [h4] at this
  cases this
  exact IsL.ext (Ext.of_same (qB hn _)) (fun b hb hs=>⟨hb,fun e=>by rw [e,hn] at hs;cases hs⟩) e4
 own:=fun j hj e=>(r.new hn).2 j hj e
 new:=r.dm a hn
theorem Rep.apart_same {K:Fr0} {U:Env} {Z:St} {H H':Hp} {a:Addr} (r:Rep K c U Z H) (hn:H a=none) (sm:zQ H H'):qhu K c U Z H' a where
 val:=fun i d v h1 h2 h3=>by
  obtain ⟨w,h4,h5⟩:=r.get h2 h1
  rw [h3] at h4
  cases h4
  exact Is.ext (Ext.of_same sm) (fun _ h _=>h) (h5.fresh hn)
 cont:=fun i ds b xs h1 h2 h3 h4 _=>by
  obtain ⟨ds',a',ys,e1,e2,e3,e4⟩:=r.getO h2 h1
  cases e1
  rw [h3] at e2
  cases e2
  have:=sm _ _ e3
  rw [h4] at this
  cases this
  exact IsL.ext (Ext.of_same sm) (fun b hb hs=>⟨hb,fun e=>by rw [e,hn] at hs;cases hs⟩) e4
 own:=fun j hj e=>(r.new hn).2 j hj e
 new:=r.dm a hn
def WpN (K:Fr0) (c:Fc) (Z:St) (H:Hp) (Q:VK):R (List D×Env)->Prop
 | .ok (ds,U)=>∀ a xs H',H a=none->Rep K c U Z H'->qhu K c U Z H' a->H' a=some (.lst xs)->True->IsL K (fun b=>Cn c Z b/\b≠a) H' ds xs->Gr c.O Z H H'->Q (.ref a) H'
 | .exc x U=>∀ H',Rep K c U Z H'->Gr c.O Z H H'->c.E x H'
 | .bad=>False
def DN (X:Cx) (c:Fc) (e:Expr) (f:M (List D)):Prop:=∃ t,PE X e t/\∀ U Z H Q,Rep X.K c U Z H->WpN X.K c Z H Q (f U)->t Z H Q
theorem WpN.gr {K:Fr0} {Z:St} {H H1:Hp} {Q:VK}:∀ {r:R (List D×Env)},WpN K c Z H Q r->Gr c.O Z H H1->WpN K c Z H1 Q r
 | .ok (d,U),h,g=>fun a xs H' hn h1 h2 h3 h4 h5 hg=>h a xs H' (g.dom a hn) h1 h2 h3 h4 h5 (g.trans hg)
 | .exc x U,h,g=>fun H' hr hg=>h H' hr (g.trans hg)
 | .bad,h,_=>h
theorem WpL.bndN {K:Fr0} {Z:St} {H:Hp} {Q:VK} {f:M (List D)} {k:List D->M (List D)} {U:Env} {Q':List V->Hp->Prop} (h:WpN K c Z H Q (Sk.bnd f k U)) (hQ:∀ d U' v H',Rep K c U' Z H'->IsL K (Cn c Z) H' d v->Gr c.O Z H H'->WpN K c Z H' Q (k d U')->Q' v H'):WpL K c Z H Q' (f U):=by
 unfold Sk.bnd at h
 cases e:f U with
 | ok p=>rw [e] at h;exact fun v H' hr hi hg=>hQ p.1 p.2 v H' hr hi hg (h.gr hg)
 | exc x U'=>rw [e] at h;exact h
 | bad=>rw [e] at h;exact h
def qiz (f:M (List D)):M (List D):=bnd f fun ds=>lift (if immL ds&&qQ ds.length then some ds else none)
theorem qdP {es:List Expr} {f:M (List D)} (h:DA X c es f):DN X c (.List es pos) (qiz f):=by
 obtain ⟨t,p,w⟩:=h
 refine ⟨_,qio p,fun U Z H Q r h=>w U Z H _ r (WpL.bndN h fun ds U1 vs H1 r1 i1 g1 h1 => ?_)⟩
 by_cases hb:(immL ds&&qQ ds.length)=true
 ·rw [if_pos hb] at h1
  rw [Bool.and_eq_true] at hb
  refine ⟨by rw [i1.length];exact of_decide_eq_true hb.2,fun p hp => ?_⟩
  exact h1 p vs _ hp (r1.laid hp _) (r1.apart hp) qv trivial (IsL.ext (Ext.of_same (qB hp _)) (fun b h hs=>⟨h,fun e=>by rw [e,hp] at hs;cases hs⟩) i1) (.of_same (qB hp _))
 ·rw [if_neg hb] at h1;exact h1.elim
theorem Cl.setO {O:List Nat} {Z:St} {i:Nat} {a b:Addr} (h:Cl O Z b) (hb:b≠a):Cl O (Z.set i (some (.ref a))) b:=fun j hj e=>by
 by_cases hji:j=i
 ·subst hji
  have hl:j<Z.length:=by
   have:=(gI_.mp e).1
   rwa [lS_] at this
  rw [List.getElem?_set_self hl] at e
  cases e
  exact hb rfl
 ·rw [zA hji] at e
  exact h j hj e
theorem Rep.setO {K:Fr0} {U:Env} {Z:St} {H:Hp} {i:Nat} {a:Addr} {ds:List D} {xs:List V} (r:Rep K c U Z H) (hi:i∈c.O) (hP:i ∉ c.P) (ap:qhu K c U Z H a) (ha:H a=some (.lst xs)) (him:True) (il:IsL K (fun b=>Cn c Z b/\b≠a) H ds xs) :
  Rep K c (U.set i (some (.lst ds))) (Z.set i (some (.ref a))) H where
 len:=by rw [lS_,lS_];exact r.len
 val := fun j e hj=>by
  by_cases e1:j=i
  ·subst e1
   have hl:j<U.length:=by
    have:=(gI_.mp hj).1
    rwa [lS_] at this
   rw [List.getElem?_set_self hl] at hj
   cases hj
   exact ⟨.ref a,List.getElem?_set_self (by rw [<- r.len];exact hl),.inl ⟨hi,ds,a,xs,rfl,rfl,ha,IsL.ext Ext.refl (fun b hb _=>⟨hb.1.1,hb.1.2.setO hb.2⟩) il⟩⟩
  ·rw [zA e1] at hj
   obtain ⟨w,h1,h2⟩:=r.val j e hj
   refine ⟨w,by rw [zA e1];exact h1,?_⟩
   rcases h2 with ⟨g1,ds',b',xs',g3,g5,g6,g7⟩ | ⟨h3,h4⟩
   ·subst g3 g5
    exact .inl ⟨g1,ds',b',xs',rfl,rfl,g6,IsL.ext Ext.refl (fun b hb _=>⟨hb.1.1,hb.1.2.setO hb.2⟩) (ap.cont j ds' b' xs' hj g1 h1 g6 g7)⟩
   ·exact .inr ⟨h3,Is.ext Ext.refl (fun b hb _=>⟨hb.1.1,hb.1.2.setO hb.2⟩) (ap.val j e w hj h3 h1)⟩
 own := fun j hj w h=>by
  by_cases e1:j=i
  ·subst e1
   have hl:j<Z.length:=by
    have:=(gI_.mp h).1
    rwa [lS_] at this
   rw [List.getElem?_set_self hl] at h
   cases h
   exact ⟨a,xs,rfl,ha,.inl ap.new⟩
  ·rw [zA e1] at h
   exact r.own j hj w h
 inj := fun j k b hj hk h1 h2=>by
  by_cases e1:j=i
  ·by_cases e2:k=i
   ·rw [e1,e2]
   ·subst e1
    have hl:j<Z.length:=by
     have:=(gI_.mp h1).1
     rwa [lS_] at this
    rw [List.getElem?_set_self hl] at h1
    cases h1
    rw [zA e2] at h2
    exact absurd h2 (ap.own k hk)
  ·by_cases e2:k=i
   ·subst e2
    have hl:k<Z.length:=by
     have:=(gI_.mp h2).1
     rwa [lS_] at this
    rw [List.getElem?_set_self hl] at h2
    cases h2
    rw [zA e1] at h1
    exact absurd h1 (ap.own j hj)
   ·rw [zA e1] at h1
    rw [zA e2] at h2
    exact r.inj j k b hj hk h1 h2
 b0:=r.b0
 kp:=r.kp
 dm:=r.dm
 pO:=r.pO
 ps:=fun j hj=>by
  have e:j≠i:=fun e=>hP (e▸hj)
  rw [zA e];exact r.ps j hj
def vY (i:Nat) (f:M (List D)):MS:=sbnd f fun ds U => .ok (.nx (U.set i (some (.lst ds))))
theorem qaj {i:Nat} {x:Str} {pos':Pos} {f:M (List D)} (hN:X.N.Nodup) (he:DN X c e f) (ho:i∈c.O:=by exact of_decide_eq_true rfl) (hP:i ∉ c.P:=by exact of_decide_eq_false rfl) (hi:X.N[i]? = some x:=by rfl) (hx:Loc X.env.scope x:=by first | exact Or.inl rfl | exact Or.inr rfl) (hs:swapsWith e (some (.Name x pos')) pos.line X.env=pure false:=by rfl) (hf:X.fn x=true\/X.env.scope.names.lookup x=some .local:=by first | exact .inl rfl | exact .inr rfl | assumption) :
  DS X c (.Assign [.Name x pos'] e pos) (vY i f):=by
 obtain ⟨t,p,w⟩:=he
 refine ⟨_,qfc hN hi hx p hs hf,fun U Z H D r h=>w U Z H _ r ?_⟩
 unfold vY sbnd at h
 cases ef:f U with
 | bad=>rw [ef] at h;exact h
 | exc z U'=>rw [ef] at h;exact fun H' hr hg=>h Z H' hr hg.s
 | ok q =>
  rw [ef] at h
  intro a xs H' hn r' ap ha him il g'
  exact h _ H' (r'.setO ho hP ap ha him il) ⟨g'.ext,fun b hb hs=>hb.setO (fun e=>by rw [e,hn] at hs;exact absurd hs (by simp)),g'.dom⟩
def qcs (i:Nat):M D:=fun U=>match zt i U with
 | some ds => .ok (.int ds.length,U)
 | none => .bad
theorem qjT {i:Nat} {x:Str} {p p1:Pos} (hg:Gl X "len") (hm:X.mg "len"=none) (ho:i∈c.O:=by exact of_decide_eq_true rfl) (hN:X.N[i]? = some x:=by rfl) (hv:Vis X.env.scope x:=by first | exact Or.inl rfl | exact Or.inr (Or.inl rfl) | exact Or.inr (Or.inr rfl)) (hd:(x==("__debug__":Str))=false:=by decide) (hcd:(x==("__classdict__":Str))=false:=by decide) :
  DE X c (.Call (.Name "len" p) [.Name x p1] [] pos) (qcs i):=by
 refine ⟨_,vw j4 hg hm PySem.boot_len (jz (uE hN hv hd hcd) vb),fun U Z H Q r h => ?_⟩
 unfold qcs at h
 cases e0:zt i U with
 | none=>simp only [e0] at h;exact h.elim
 | some ds =>
  simp only [e0] at h
  obtain ⟨l,xs,him,hl,hH,il⟩:=r.getLO ho e0
  exact ⟨.ref l,hl,.inl ⟨l,xs,rfl,.inl (.inl (.inl hH)),by rw [il.length];exact h _ H r rfl .refl⟩⟩
def qeF (i:Nat):M D:=fun U=>match zt i U with
 | some ds => .ok (.tup ds,U)
 | none => .bad
theorem qfJ {i:Nat} {x:Str} {p p1:Pos} (hg:Gl X "tuple") (hm:X.mg "tuple"=none) (hb:bootBuiltins "tuple"=some (.type "tuple"):=by first | rfl | exact PySem.boot_tuple) (ho:i∈c.O:=by exact of_decide_eq_true rfl) (hN:X.N[i]? = some x:=by rfl) (hv:Vis X.env.scope x:=by first | exact Or.inl rfl | exact Or.inr (Or.inl rfl) | exact Or.inr (Or.inr rfl)) (hd:(x==("__debug__":Str))=false:=by decide) (hcd:(x==("__classdict__":Str))=false:=by decide) :
  DE X c (.Call (.Name "tuple" p) [.Name x p1] [] pos) (qeF i):=by
 refine ⟨_,qch vx hg hm hb (jz (uE hN hv hd hcd) vb),fun U Z H Q r h => ?_⟩
 unfold qeF at h
 cases e0:zt i U with
 | none=>simp only [e0] at h;exact h.elim
 | some ds =>
  simp only [e0] at h
  obtain ⟨l,xs,him,hl,hH,il⟩:=r.getLO ho e0
  refine ⟨.ref l,hl,l,xs,rfl,.inl ⟨.inl (.inl hH),fun p hp=>h _ _ (r.laid hp _) ⟨p,xs,rfl,.inl qv,?_⟩ (.of_same (qB hp _))⟩⟩
  exact IsL.ext (Ext.of_same (qB hp _)) (fun _ h _=>h) il
def qdb (i:Nat) (g:M D):M D:=fun U=>match zt i U with
 | none => .bad
 | some _=>(bnd g fun k U=>match k,zt i U with
  | .int n,some ds=>match atI ds n with
   | some d => .ok (d,U)
   | none => .bad
  | _,_ => .bad) U
theorem qfK {i:Nat} {x:Str} {p1:Pos} {g:M D} (hb:DE X c b g) (hs:qc2 b:=by intro _ _;rfl) (ho:i∈c.O:=by exact of_decide_eq_true rfl) (hN:X.N[i]? = some x:=by rfl) (hv:Vis X.env.scope x:=by first | exact Or.inl rfl | exact Or.inr (Or.inl rfl) | exact Or.inr (Or.inr rfl)) (hd:(x==("__debug__":Str))=false:=by decide) (hcd:(x==("__classdict__":Str))=false:=by decide) :
  DE X c (.Subscript (.Name x p1) b pos) (qdb i g):=by
 obtain ⟨tb,pb,wb⟩:=hb
 refine ⟨_,qlt qfq (uE hN hv hd hcd) pb hs,fun U Z H Q r h => ?_⟩
 unfold qdb at h
 cases e0:zt i U with
 | none=>simp only [e0] at h;exact h.elim
 | some ds0 =>
  simp only [e0] at h
  obtain ⟨l,xs0,_,hl,hH,_⟩:=r.getLO ho e0
  refine ⟨.ref l,hl,wb U Z H _ r (Wp.bnd h fun k U1 v H1 r1 i1 g1 h1 => ?_)⟩
  cases k with
  | int n =>
   cases e1:zt i U1 with
   | none=>simp only [e1] at h1;exact h1.elim
   | some ds =>
    simp only [e1] at h1
    cases e2:atI ds n with
    | none=>simp only [e2] at h1;exact h1.elim
    | some d =>
     simp only [e2] at h1
     obtain ⟨l',xs,him,hl',hH',il⟩:=r1.getLO ho e1
     rw [hl] at hl'
     cases hl'
     cases i1
     obtain ⟨w,h3,h4⟩:=il.atI e2
     exact ⟨l,xs,n,w,rfl,rfl,.inl (.inl hH'),h3,h1 w H1 r1 h4 .refl⟩
  | _=>exact h1.elim
def qjU (i:Nat):MS:=fun U=>match zt i U with
 | some ds => .ok (.rt (.lst ds) U)
 | none => .bad
theorem qjV {i:Nat} {x:Str} {p1:Pos} (ho:i∈c.O:=by exact of_decide_eq_true rfl) (hP:i ∉ c.P:=by exact of_decide_eq_false rfl) (hN:X.N[i]? = some x:=by rfl) (hv:Vis X.env.scope x:=by first | exact Or.inl rfl | exact Or.inr (Or.inl rfl) | exact Or.inr (Or.inr rfl)) (hd:(x==("__debug__":Str))=false:=by decide) (hcd:(x==("__classdict__":Str))=false:=by decide) :
  DS X c (.Return (some (.Name x p1)) pos) (qjU i):=by
 refine ⟨_,qfb (uE hN hv hd hcd),fun U Z H D r h => ?_⟩
 unfold qjU at h
 cases e0:zt i U with
 | none=>simp only [e0] at h;exact h.elim
 | some ds =>
  simp only [e0] at h
  obtain ⟨l,xs,him,hl,hH,il⟩:=r.getLO ho e0
  obtain ⟨a,ys,e1,e2,e3⟩:=r.own i ho _ hl
  cases e1
  have hB:c.B l:=by
   rcases e3 with z | z
   ·exact r.b0.1 l z
   ·exact absurd z.1 hP
  exact ⟨.ref l,hl,h (.ref l) Z H r ⟨l,xs,rfl,hB,hH,IsL.ext Ext.refl (fun _ h _=>h.1) il⟩ .refl⟩
end
def cfn (O P:List Nat) (A:Addr->Prop) (H:Hp) (Io:Addr->Prop) (E:Exn->Hp->Prop) (S:Nat->Option (Option V)):Fc where
 O:=O
 P:=P
 B:=fun a=>A a\/H a=none
 H0:=H
 Io:=Io
 E:=E
 S:=S
def yf (n:Nat) (ds:List D):Env:=ds.map some++List.replicate (n-ds.length) none
def spD (K:Fr0) (F:List D->R D):Sp:=fun vs H Q _=>∃ ds A,IsL K A H ds vs/\qcm K H/\match F ds with
 | .ok d=>∀ v H',zQ H H'->Is K (fun a=>A a\/H a=none) H' d v->Q v H'
 | _=>False
def qe7 (K:Fr0) (F:List D->List D->R (D×List D)):Sp:=fun vs H Q _=>∃ (bs ds:List D) (A:Addr->Prop) (a:Addr) (xs vs':List V),vs = .ref a::vs'/\H a=some (.lst xs)/\qcm K H/\IsL K A H bs xs/\¬ A a/\IsL K A H ds vs'/\match F bs ds with
 | .ok (d,bs')=>∀ v H' xs',(∀ b o,b≠a->H b=some o->H' b=some o)->(∀ b,H' b=none->H b=none)->H' a=some (.lst xs')->True->IsL K (fun b=>A b\/H b=none) H' bs' xs'->Is K (fun b=>A b\/H b=none) H' d v->Q v H'
 | _=>False
def dfn (n p:Nat) (body:MS) (ds:List D):R D:=if ds.length=p then match body (yf n ds) with
 | .ok (.rt d _) => .ok d
 | .ok (.nx _) => .ok .non
 | _ => .bad else .bad
def vZ (n p:Nat) (body:MS) (bs ds:List D):R (D×List D):=if ds.length+1=p then match body (yf n (.lst bs::ds)) with
 | .ok (.rt d U)=>match zt 0 U with
  | some bs' => .ok (d,bs')
  | none => .bad
 | .ok (.nx U)=>match zt 0 U with
  | some bs' => .ok (.non,bs')
  | none => .bad
 | _ => .bad else .bad
theorem vz {N:List Str} {vs:List V} {i:Nat} {v:V} (h:(z4 N vs)[i]? = some (some v)):vs[i]? = some v:=by
 unfold z4 at h
 by_cases hi:i<vs.length
 ·rw [List.getElem?_append_left (by simpa using hi),gM_] at h
  cases e:vs[i]? with
  | none=>rw [e] at h;cases h
  | some w=>rw [e] at h;cases h;rfl
 ·rw [List.getElem?_append_right (by simpa using hi),List.getElem?_replicate] at h
  split at h<;>cases h
theorem wN {N:List Str} {vs:List V} {i:Nat} {v:V} (h:vs[i]? = some v):(z4 N vs)[i]? = some (some v):=by
 unfold z4
 have hi:i<vs.length:=(gI_.mp h).1
 rw [List.getElem?_append_left (by simpa using hi),gM_,h];rfl
theorem qct {n:Nat} {ds:List D} {i:Nat} {d:D} (h:(yf n ds)[i]? = some (some d)):ds[i]? = some d:=by
 unfold yf at h
 by_cases hi:i<ds.length
 ·rw [List.getElem?_append_left (by simpa using hi),gM_] at h
  cases e:ds[i]? with
  | none=>rw [e] at h;cases h
  | some w=>rw [e] at h;cases h;rfl
 ·rw [List.getElem?_append_right (by simpa using hi),List.getElem?_replicate] at h
  split at h<;>cases h
theorem qak {K:Fr0} {N:List Str} {O:List Nat} {A:Addr->Prop} {H:Hp} {E:Exn->Hp->Prop} {ds:List D} {vs:List V} (il:IsL K A H ds vs) (tb:qcm K H) (hO:∀ i∈O,ds.length<=i) :
  Rep K (cfn O [] A H (fun _=>False) E fun _=>none) (yf N.length ds) (z4 N vs) H where
 len:=by unfold yf z4;simp [il.length]
 val:=fun i d h=>by
  have h1:=qct h
  obtain ⟨v,h2,h3⟩:=il.get h1
  have hi:i ∉ O:=fun z=>by
   have:=(gI_.mp h1).1
   have:=hO i z
   omega
  refine ⟨v,wN h2,.inr ⟨hi,Is.ext Ext.refl (fun a ha _=>⟨.inl ha,fun j hj e => ?_⟩) h3⟩⟩
  have:=(gI_.mp (vz e)).1
  have:=hO j hj
  rw [il.length] at *
  omega
 own:=fun j hj v h=>by
  have:=(gI_.mp (vz h)).1
  have:=hO j hj
  rw [il.length] at *
  omega
 inj:=fun i j a hi hj h1 h2=>by
  have:=(gI_.mp (vz h1)).1
  have:=hO i hi
  rw [il.length] at *
  omega
 b0:=⟨fun a h => .inr h,tb⟩
 kp:=fun b o h _=>h
 dm:=fun b h=>h
 pO:=fun j hj=>by cases hj
 ps:=fun j hj=>by cases hj
section
variable {P:Program} {w:World} {K:PySem.W.Frag} {mg:Str->Option Value} {base:Heap}
theorem zC {x qual:Str} {st:Stmt} {f:Addr} {fd:FuncData} {N ps:List Str} {k:Nat} {O:List Nat} {body:MS} (F:Fun K x qual st f fd) (S:qC N ps (qd st)) (hO:∀ i∈O,ps.length<=i)
  (hb:∀ (cdv:Value) (A:Around) (outer:List PySem.Env) (s:Shared) (H:Hp) (E:XK) (B:Addr->Prop),yo k (A.deeper (envOfC qual (qd st) s.heap.objs.size f cdv)) ->
   DSs (qgW CX0 P w K mg base N qual (qd st) f cdv A outer s H E).nox (cfn O [] B H (fun _=>False) (fun _ _=>False) fun _=>none) (qz st) body) :
  u7 P w K mg base CX0 (k+1) f fd ps (spD K (dfn N.length ps.length body)):=by
 refine F.ok S (fun vs H Q E h => ?_) (fun cdv A outer s H vs Q E hr h => ?_)
 ·obtain ⟨ds,B,il,_,h⟩:=h
  unfold dfn at h
  by_cases e:ds.length=ps.length
  ·rw [il.length];exact e
  ·rw [if_neg e] at h;exact h.elim
 ·obtain ⟨ds,B,il,tb,h⟩:=h
  obtain ⟨t,p,wt⟩:=hb cdv A outer s H E B hr
  refine ⟨t,p,?_⟩
  unfold dfn at h
  by_cases e:ds.length=ps.length
  ·rw [if_pos e] at h
   refine wt (yf N.length ds) (z4 N vs) H _ (qak il tb (fun i hi=>by rw [e];exact hO i hi)) ?_
   have same:∀ {U:Env} {Z:St} {H':Hp},Rep K (cfn O [] B H (fun _=>False) (fun _ _=>False) fun _=>none) U Z H'->zQ H H':=fun r b o hb=>r.kp b o hb fun z=>z
   cases eb:body (yf N.length ds) with
   | bad=>rw [eb] at h;exact h.elim
   | exc z U=>rw [eb] at h;exact h.elim
   | ok fl =>
    rw [eb] at h
    cases fl with
    | nx U=>exact fun Z' H' r' _=>h .non H' (same r') rfl
    | rt d U=>exact fun v Z' H' r' i' _=>h v H' (same r') i'
    | bk U=>exact h.elim
    | ct U=>exact h.elim
  ·rw [if_neg e] at h;exact h.elim
theorem qhv {x qual:Str} {st:Stmt} {f:Addr} {fd:FuncData} {N ps:List Str} {k:Nat} {O:List Nat} {body:MS} (F:Fun K x qual st f fd) (S:qC N ps (qd st)) (hO:∀ i∈O,i=0\/ps.length<=i) (h0:0∈O)
  (hb:∀ (cdv:Value) (A:Around) (outer:List PySem.Env) (s:Shared) (H:Hp) (E:XK) (B Io:Addr->Prop) (S:Nat->Option (Option V)),yo k (A.deeper (envOfC qual (qd st) s.heap.objs.size f cdv)) ->
   DSs (qgW CX0 P w K mg base N qual (qd st) f cdv A outer s H E).nox (cfn O [0] B H Io (fun _ _=>False) S) (qz st) body) :
  u7 P w K mg base CX0 (k+1) f fd ps (qe7 K (vZ N.length ps.length body)):=by
 refine F.ok S (fun vs H Q E h => ?_) (fun cdv A outer s H vs Q E hr h => ?_)
 ·obtain ⟨bs,ds,B,a,xs,vs',rfl,ha,him,ib,nA,il,h⟩:=h
  unfold vZ at h
  by_cases e:ds.length+1=ps.length
  ·rw [lC_,il.length];exact e
  ·rw [if_neg e] at h;exact h.elim
 ·obtain ⟨bs,ds,B,a,xs,vs',rfl,ha,him,ib,nA,il,h⟩:=h
  obtain ⟨t,p,wt⟩:=hb cdv A outer s H E B (fun b=>b=a) (fun j=>(z4 N (.ref a::vs'))[j]?) hr
  refine ⟨t,p,?_⟩
  unfold vZ at h
  by_cases e:ds.length+1=ps.length
  ·rw [if_pos e] at h
   have only:∀ j∈O,∀ v,(z4 N (.ref a::vs'))[j]? = some (some v)->j=0/\v = .ref a:=fun j hj v hv=>by
    have h1:=vz hv
    rcases hO j hj with z | z
    ·subst z;cases h1;exact ⟨rfl,rfl⟩
    ·have:=(gI_.mp h1).1
     rw [lC_,il.length] at this
     omega
   have r0:Rep K (cfn O [0] B H (fun b=>b=a) (fun _ _=>False) fun j=>(z4 N (.ref a::vs'))[j]?) (yf N.length (.lst bs::ds)) (z4 N (.ref a::vs')) H:=by
    refine ⟨by unfold yf z4;simp [il.length],fun i d hd => ?_,fun j hj v hv => ?_,fun i j b hi hj h1 h2 => ?_,⟨fun b hb => .inr hb,fun q P pos eP=>⟨(him q P pos eP).1,fun z=>by have:=(him q P pos eP).1;rw [z,ha] at this;cases this⟩⟩,fun b o hb _=>hb,fun b hb=>hb,fun j hj => ?_,fun _ _=>rfl⟩
    ·have h1:=qct hd
     cases i with
     | zero =>
      cases h1
      exact ⟨.ref a,wN rfl,.inl ⟨h0,bs,a,xs,rfl,rfl,ha,IsL.ext Ext.refl (fun b hb _=>⟨.inl hb,fun j hj e2=>by obtain ⟨_,e3⟩:=only j hj _ e2;cases e3;exact nA hb⟩) ib⟩⟩
     | succ i =>
      have h1':ds[i]? = some d:=by simpa using h1
      obtain ⟨v,h2,h3⟩:=il.get h1'
      have hi:i+1 ∉ O:=fun z=>by
       have h4:=(gI_.mp h1').1
       rcases hO _ z with q | q
       ·cases q
       ·omega
      refine ⟨v,wN (by simpa using h2),.inr ⟨hi,Is.ext Ext.refl (fun b hb _=>⟨.inl hb,fun j hj e2 => ?_⟩) h3⟩⟩
      obtain ⟨_,e3⟩:=only j hj _ e2
      cases e3
      exact nA hb
    ·obtain ⟨rfl,rfl⟩:=only j hj v hv
     exact ⟨a,xs,rfl,ha,.inr ⟨by simp [cfn],rfl⟩⟩
    ·rw [(only i hi _ h1).1,(only j hj _ h2).1]
    ·have:j=0:=by simpa [cfn] using hj
     rw [this];exact h0
   refine wt _ _ H _ r0 ?_
   have fin:∀ {U:Env} {Z:St} {H':Hp} {bs':List D},Rep K (cfn O [0] B H (fun b=>b=a) (fun _ _=>False) fun j=>(z4 N (.ref a::vs'))[j]?) U Z H'->zt 0 U=some bs' ->
     ∃ xs',H' a=some (.lst xs')/\True/\IsL K (fun b=>B b\/H b=none) H' bs' xs':=fun {U Z H' bs'} r e1=>by
    obtain ⟨l,ys,h1,h2,h3,h4⟩:=r.getLO h0 e1
    have h5:=r.ps 0 (by simp [cfn])
    have h6:(cfn O [0] B H (fun b=>b=a) (fun _ _=>False) fun j=>(z4 N (.ref a::vs'))[j]?).S 0=some (some (.ref a)):=wN rfl
    rw [h2,h6] at h5
    cases h5
    exact ⟨ys,h3,h1,IsL.ext Ext.refl (fun b hb _=>hb.1) h4⟩
   have kps:∀ {U:Env} {Z:St} {H':Hp},Rep K (cfn O [0] B H (fun b=>b=a) (fun _ _=>False) fun j=>(z4 N (.ref a::vs'))[j]?) U Z H'->∀ b o,b≠a->H b=some o->H' b=some o:=fun r b o hb ho=>r.kp b o ho hb
   cases eb:body (yf N.length (.lst bs::ds)) with
   | bad=>rw [eb] at h;exact h.elim
   | exc z U=>rw [eb] at h;exact h.elim
   | ok fl =>
    rw [eb] at h
    cases fl with
    | nx U =>
     cases eg:zt 0 U with
     | none=>simp only [eg] at h
     | some bs' =>
      simp only [eg] at h
      exact fun Z' H' r' _=>by
       obtain ⟨xs',h1,h2,h3⟩:=fin r' eg
       exact h .non H' xs' (kps r') (fun b hb=>r'.dm b hb) h1 h2 h3 rfl
    | rt d U =>
     cases eg:zt 0 U with
     | none=>simp only [eg] at h
     | some bs' =>
      simp only [eg] at h
      exact fun v Z' H' r' i' _=>by
       obtain ⟨xs',h1,h2,h3⟩:=fin r' eg
       exact h v H' xs' (kps r') (fun b hb=>r'.dm b hb) h1 h2 h3 i'
    | bk U=>exact h.elim
    | ct U=>exact h.elim
  ·rw [if_neg e] at h;exact h.elim
end
section
variable {X:Cx} {c:Fc} {a b e:Expr} {pos:Pos}
def qo (F:List D->R D) (g:M (List D)):M D:=bnd g fun ds U=>match F ds with
 | .ok d => .ok (d,U)
 | _ => .bad
theorem qjW {k:Nat} {f:Addr} {fd:FuncData} {ps:List Str} {F:List D->R D} {x:Str} {p:Pos} {es:List Expr} {g:M (List D)} (G:u7 X.prog X.w X.K X.mg X.base CX0 k f fd ps (spD X.K F)) (hr:yo k X.A) (hg:Gl X x) (hm:X.mg x=some (.ref f)) (hk:PySem.W.keepIn X.K (.ref f)=true) (hb:uK X.K fd ps [])
  (ha:DA X c (e::es) g) (hd:(x==("__debug__":Str))=false:=by decide) (he:starEach (e::es) X.env=(false,eval e X.env)::starEach es X.env:=by rfl) (hpl:(backTo pos (starEach es X.env)).any (·.1)=false:=by rfl):DE X c (.Call (.Name x p) (e::es) [] pos) (qo F g):=by
 obtain ⟨t,pa,w⟩:=ha
 refine ⟨_,wX G hr hg hm hk hb .nil qjD pa hd he hpl,fun U Z H Q r h=>w U Z H _ r (WpL.bnd h fun ds U1 vs H1 r1 i1 g1 h1 => ?_)⟩
 rw [List.append_nil]
 refine ⟨ds,Cn c Z,i1,r1.tb,?_⟩
 cases ef:F ds with
 | bad=>simp only [ef] at h1;exact h1.elim
 | exc z U'=>simp only [ef] at h1;exact h1.elim
 | ok d =>
  simp only [ef] at h1
  exact fun v H' sm i=>h1 v H' (r1.same sm) (Is.ext Ext.refl (fun a ha _=>ha.elim id r1.new) i) (.of_same sm)
def qk (F:List D->List D->R (D×List D)) (i:Nat) (g:M (List D)):M D:=fun U=>match zt i U with
 | none => .bad
 | some _=>(bnd g fun ds U=>match zt i U with
  | none => .bad
  | some bs=>match F bs ds with
   | .ok (d,bs') => .ok (d,U.set i (some (.lst bs')))
   | _ => .bad) U
theorem qfL {k i:Nat} {f:Addr} {fd:FuncData} {ps:List Str} {F:List D->List D->R (D×List D)} {x y:Str} {p p1:Pos} {es:List Expr} {g:M (List D)} (G:u7 X.prog X.w X.K X.mg X.base CX0 k f fd ps (qe7 X.K F)) (hr:yo k X.A) (hg:Gl X x) (hm:X.mg x=some (.ref f)) (hk:PySem.W.keepIn X.K (.ref f)=true) (hb:uK X.K fd ps [])
  (ha:DA X c es g) (ho:i∈c.O:=by exact of_decide_eq_true rfl) (hN:X.N[i]? = some y:=by rfl) (hv:Vis X.env.scope y:=by first | exact Or.inl rfl | exact Or.inr (Or.inl rfl) | exact Or.inr (Or.inr rfl)) (hdy:(y==("__debug__":Str))=false:=by decide) (hcd:(y==("__classdict__":Str))=false:=by decide)
  (hd:(x==("__debug__":Str))=false:=by decide) (he:starEach (.Name y p1::es) X.env=(false,eval (.Name y p1) X.env)::starEach es X.env:=by rfl) (hpl:(backTo pos (starEach es X.env)).any (·.1)=false:=by rfl):DE X c (.Call (.Name x p) (.Name y p1::es) [] pos) (qk F i g):=by
 obtain ⟨t,pa,w⟩:=ha
 refine ⟨_,wX G hr hg hm hk hb .nil qjD (jz (uE hN hv hdy hcd) pa he) hd he hpl,fun U Z H Q r h => ?_⟩
 unfold qk at h
 cases e0:zt i U with
 | none=>simp only [e0] at h;exact h.elim
 | some ds0 =>
  simp only [e0] at h
  obtain ⟨l,xs0,_,hl,hH,_⟩:=r.getLO ho e0
  refine ⟨.ref l,hl,w U Z H _ r (WpL.bnd h fun ds U1 vs H1 r1 i1 g1 h1 => ?_)⟩
  show qe7 X.K F (.ref l::vs++[]) H1 Q E0
  rw [List.append_nil]
  cases e1:zt i U1 with
  | none=>simp only [e1] at h1;exact h1.elim
  | some bs =>
   simp only [e1] at h1
   obtain ⟨l',xs,him,hl',hH',il⟩:=r1.getLO ho e1
   rw [hl] at hl'
   cases hl'
   refine ⟨bs,ds,Cn c Z,l,xs,vs,rfl,hH',r1.tb,il,fun hc=>hc.2 i ho hl,i1,?_⟩
   cases ef:F bs ds with
   | bad=>simp only [ef] at h1;exact h1.elim
   | exc z U'=>simp only [ef] at h1;exact h1.elim
   | ok q =>
    obtain ⟨d,bs'⟩:=q
    simp only [ef] at h1
    intro v H' xs' kp dm ha2 him2 il2 i2
    obtain ⟨r2,g2⟩:=r1.io (bs:=bs') ho hl kp ha2 him2 (IsL.ext Ext.refl (fun a ha _=>ha.elim id r1.new) il2) dm
    exact h1 v H' r2 (Is.ext Ext.refl (fun a ha _=>ha.elim id r1.new) i2) g2
end
def qhw:Key->PyData
 | .inl i => .int i
 | .inr x => .str x
mutual
def zw:D->PyData
 | .non => .none
 | .bl b => .bool b
 | .int i => .int i
 | .str x => .str x
 | .tup ds => .tuple (toPDs ds)
 | .lst ds => .list (toPDs ds)
 | .dic kvs => .dict (kvs.map fun p=>(qhw p.1,.int p.2))
 | .fz ns => .list (ns.map .int)
 | .exc _ => .dict [(.int (2 ^ 2000),.none)]
def toPDs:List D->List PyData
 | []=>[]
 | d::ds=>zw d::toPDs ds
end
mutual
def noL:D->Bool
 | .tup ds=>noLs ds
 | .lst _=>false
 | .fz _=>false
 | _=>true
def noLs:List D->Bool
 | []=>true
 | d::ds=>noL d&&noLs ds
end
mutual
def noX:D->Bool
 | .tup ds=>noXs ds
 | .lst ds=>noXs ds
 | .exc _=>false
 | _=>true
def noXs:List D->Bool
 | []=>true
 | d::ds=>noX d&&noXs ds
end
mutual
theorem qiA:∀ {d:D},(zw d).showable=true->noX d=true
 | .non,_=>rfl
 | .bl _,_=>rfl
 | .int _,_=>rfl
 | .str _,_=>rfl
 | .tup ds,h=>by unfold noX;exact noXs_sh (by simpa [zw,PyData.showable] using h)
 | .lst ds,h=>by unfold noX;exact noXs_sh (by simpa [zw,PyData.showable] using h)
 | .dic _,_=>rfl
 | .fz _,_=>rfl
 | .exc _,h=>by
  have e:(PyData.dict [(.int (2 ^ 2000),.none)]).showable=false:=by decide +kernel
  rw [show zw (.exc _)=PyData.dict [(.int (2 ^ 2000),.none)] from rfl,e] at h
  cases h
theorem noXs_sh:∀ {ds:List D},PyData.showableAll (toPDs ds)=true->noXs ds=true
 | [],_=>rfl
 | d::ds,h=>by
  have h':(zw d).showable=true/\PyData.showableAll (toPDs ds)=true:=by simpa [toPDs,PyData.showableAll] using h
  unfold noXs
  rw [qiA h'.1,noXs_sh h'.2];rfl
end
mutual
theorem qfM:∀ {d:D},(zw d).canLay0=true->noX d=true
 | .non,_=>rfl
 | .bl _,_=>rfl
 | .int _,_=>rfl
 | .str _,_=>rfl
 | .tup ds,h=>by unfold noX;exact noXs_lay (by simpa [zw,PyData.canLay0] using h)
 | .lst ds,h=>by unfold noX;exact noXs_lay (by simpa [zw,PyData.canLay0] using h)
 | .dic _,_=>rfl
 | .fz _,_=>rfl
 | .exc _,h=>by simp [zw,PyData.canLay0] at h
theorem noXs_lay:∀ {ds:List D},PyData.canLayAll0 (toPDs ds)=true->noXs ds=true
 | [],_=>rfl
 | d::ds,h=>by
  have h':(zw d).canLay0=true/\PyData.canLayAll0 (toPDs ds)=true:=by simpa [toPDs,PyData.canLayAll0] using h
  unfold noXs
  rw [qfM h'.1,noXs_lay h'.2];rfl
end
theorem vA {h:Heap}:∀ {ns:List Int} {us:List Value},qW (ns.map V.int) us->∃ as,ReadsAll h us (ns.map .int) as
 | [],us,r=>by
  rw [List.map_nil] at r;cases r;exact ⟨[],.nil⟩
 | n::ns,us,r=>by
  rw [mC_] at r
  cases r with
  | cons r1 r2 =>
   obtain ⟨t,e⟩:=r1
   subst e
   obtain ⟨as,q⟩:=vA (ns:=ns) r2
   exact ⟨[]++as,.cons (.int n t) q⟩
theorem qdc {α:Type} {x:α} {l l':List α} (h1:x ∉ l) (h2:x ∉ l'):x ∉ l++l':=fun h=>(mA_.mp h).elim h1 h2
theorem qal {P:Program} {w:World} {h:Heap}:∀ {kvs:List (Key×Int)} {es:List DictEntry} {vs:List (Key×Value)},KV (kvs.map fun p=>(p.1,V.int p.2)) vs->Pairs (qbo P w) es vs ->
  ReadsAll h (es.map (·.key)) ((kvs.map fun p=>(qhw p.1,PyData.int p.2)).map (·.1)) []/\ReadsAll h (es.map (·.val)) ((kvs.map fun p=>(qhw p.1,PyData.int p.2)).map (·.2)) []
 | [],es,vs,r,p=>by
  have r':KV ([]:List (Key×V)) vs:=r
  unfold KV at r'
  cases r'
  cases p
  exact ⟨.nil,.nil⟩
 | (k,i)::kvs,es,vs,r,p=>by
  have r':KV ((k,V.int i)::kvs.map fun p=>(p.1,V.int p.2)) vs:=r
  unfold KV at r'
  cases r' with
  | cons r1 r2 =>
   cases p with
   | cons p1 p2 p3 =>
    obtain ⟨q1,q2⟩:=qal (h:=h) (kvs:=kvs) r2 p3
    obtain ⟨e1,t,e2⟩:=r1
    have hk:∀ {e:DictEntry} {kv:Key×Value},k=kv.1->(qbo P w).is kv.1 e.key=true->Reads h e.key (qhw k) []:=fun {e kv} hk hi=>by
     subst hk
     rcases zr hi with ⟨i,t,e1,e2⟩ | ⟨x,t,e1,e2⟩
     ·rw [e1,e2];exact .int i t
     ·rw [e1,e2];exact .str x t
    refine ⟨.cons (as:=[]) (bs:=[]) (hk e1 p1) q1,.cons (as:=[]) (bs:=[]) ?_ q2⟩
    show Reads h _ (.int i) []
    dsimp only
    rw [p2,e2]
    exact .int i t
section
variable {X:Cx} {pins:List (Addr×Obj)} {Z:St} {H:Hp} {s:Shared} {A:Addr->Prop}
mutual
theorem jX (I:Inv X pins Z H s):∀ {d:D} {v:V} {u:Value},noX d=true->Is X.K A H d v->ji v u->∃ as,Reads s.heap u (zw d) as/\(noL d=true->sysModules ∉ as)
 | .non,_,_,_,h,r=>by cases h;cases r;exact ⟨[],.none,by simp⟩
 | .bl b,_,_,_,h,r=>by cases h;cases r;exact ⟨[],.bool b,by simp⟩
 | .int i,_,_,_,h,r=>by cases h;obtain ⟨t,rfl⟩:=r;exact ⟨[],.int i t,by simp⟩
 | .str x,_,_,_,h,r=>by cases h;obtain ⟨t,rfl⟩:=r;exact ⟨[],.str x t,by simp⟩
 | .tup ds,_,_,nx,⟨a,xs,hv,ta,il⟩,r=>by
  subst hv
  cases r
  obtain ⟨its,rv,p,_⟩:=I.tuple ta.sq
  obtain ⟨o,h1,h2,n,h3⟩:=p
  obtain ⟨as,q,nl⟩:=readsL_of I (by simpa [noX] using nx) il rv
  exact ⟨as,.tuple h1 h2 h3 (by simpa using q),fun z=>nl (by simpa [noL] using z)⟩
 | .lst ds,_,_,nx,⟨a,xs,hv,_,ta,il⟩,r=>by
  subst hv
  cases r
  obtain ⟨its,rv,p,_⟩:=I.list (SqL.of ta)
  obtain ⟨o,h1,h2,n,h3⟩:=p.isList
  obtain ⟨as,q,nl⟩:=readsL_of I (by simpa [noX] using nx) il rv
  exact ⟨a::as,.list h1 h2 h3 (by simpa using q),fun z=>by simp [noL] at z⟩
 | .dic kvs,_,_,_,⟨a,hv,_,ta⟩,r=>by
  subst hv
  cases r
  obtain ⟨hz,hS,vs,rk,o,es,ep,h1,h2,h3,h4,h5,h6⟩:=(show yz X.prog X.w H s.heap a (.dK _) from I.hok a _ ta)
  obtain ⟨q1,q2⟩:=qal (h:=s.heap) rk h5
  refine ⟨_,Reads.dict (as:=[]) (bs:=[]) h1 h2.1 h3 q1 q2,fun _ hm => ?_⟩
  have:sysModules=a:=by simpa using hm
  rw [<- this] at hS
  simp at hS
 | .exc _,_,_,nx,_,_=>by simp [noX] at nx
 | .fz ns,_,_,_,⟨a,hv,ta⟩,r=>by
  subst hv
  cases r
  obtain ⟨its,rv,p,_⟩:=I.list ta.sq
  obtain ⟨o,h1,h2,n,h3⟩:=p.isList
  obtain ⟨as,q⟩:=vA rv
  exact ⟨a::as,.list h1 h2 h3 (by simpa using q),fun z=>by simp [noL] at z⟩
theorem readsL_of (I:Inv X pins Z H s):∀ {ds:List D} {xs:List V} {us:List Value},noXs ds=true->IsL X.K A H ds xs->qW xs us->∃ as,ReadsAll s.heap us (toPDs ds) as/\(noLs ds=true->sysModules ∉ as)
 | [],_,_,_,h,r=>by cases h;cases r;exact ⟨[],.nil,by simp⟩
 | d :: ds,_,_,nx,⟨x,ys,hx,h1,h2⟩,r=>by
  subst hx
  cases r with
  | cons r1 r2 =>
   have nx':noX d=true/\noXs ds=true:=by simpa [noXs] using nx
   obtain ⟨as,q1,n1⟩:=jX I nx'.1 h1 r1
   obtain ⟨bs,q2,n2⟩:=readsL_of I nx'.2 h2 r2
   exact ⟨as++bs,.cons q1 q2,fun z=>by
    have z':noL d=true/\noLs ds=true:=by simpa [noLs] using z
    exact qdc (n1 z'.1) (n2 z'.2)⟩
end
end
def qam (d:D):Bool:=(zw d).showable&&decide ((zw d).shown.length<=sizeLine)&&decide ((zw d).depth<=50)&&(!(zw d).hasDict||noL d)
def qlS (K:Fr0):List V->Hp->VK->Prop:=fun xs H Q=>∃ v d A,xs=[v]/\Is K A H d v/\qam d=true/\Q (.str (zw d).shown) H
section
variable {X:Cx}
theorem uX {k:Nat} (hr:yo k X.A):yA X (.builtin "repr") (qlS X.K):=by
 intro pins s Z H xs us Q I r h
 obtain ⟨v,d,A,rfl,hi,ok,q⟩:=h
 obtain ⟨u,rfl,ru⟩:=qW.one r
 unfold qam at ok
 simp only [Bool.and_eq_true,decide_eq_true_eq] at ok
 obtain ⟨⟨⟨o1,o2⟩,o3⟩,o4⟩:=ok
 obtain ⟨as,rd,nl⟩:=jX I (qiA o1) hi ru
 have hun:=hr.un
 have big:∀ a,u = .ref a->wpAny (model X.prog X.w) X.A (call (.builtin "repr") [u]) (EP X pins Z Q) X.xe s:=fun a e=>by
  subst e
  refine repr_of_reads' rd o1 (fun hd=>nl ?_) hr.gd (by omega) (fun _ _ e=>e) (fun h' u tk hk=>⟨.str _,H,I.kept hk,⟨_,rfl⟩,q⟩) o2
  rw [hd] at o4
  simpa using o4
 cases d with
 | non=>cases hi;cases ru;exact PySem.P.repr_of_none ⟨.str _,H,I.tok _,⟨_,rfl⟩,q⟩
 | bl b=>cases hi;cases ru;exact PySem.P.repr_of_bool ⟨.str _,H,I.tok _,⟨s.toks,by cases b<;>rfl⟩,q⟩
 | int i =>
  cases hi;obtain ⟨t,rfl⟩:=ru
  exact PySem.P.repr_of_int (of_decide_eq_true o1) ⟨.str _,H,I.tok _,⟨_,rfl⟩,q⟩
 | str x=>cases hi;obtain ⟨t,rfl⟩:=ru;exact PySem.P.repr_of_str ⟨.str _,H,I.tok _,⟨_,rfl⟩,q⟩ o2
 | tup ds=>obtain ⟨a,zs,rfl,_⟩:=hi;exact big a ru
 | lst ds=>obtain ⟨a,zs,rfl,_⟩:=hi;exact big a ru
 | dic kvs=>obtain ⟨a,rfl,_⟩:=hi;exact big a ru
 | fz ns=>obtain ⟨a,rfl,_⟩:=hi;exact big a ru
 | exc C=>obtain ⟨a,rfl,_⟩:=hi;exact big a ru
end
def jL:List D->Option D
 | [d]=>if qam d then some (.str (zw d).shown) else none
 | _=>none
theorem uY {K:Fr0}:vU K jL (qlS K):=by
 intro A H xs d vs Q hn h e k
 unfold jL at e
 split at e
 ·rename_i d0
  obtain ⟨v,rfl,e2⟩:=IsL.inv1 h
  obtain ⟨e6,e7⟩:=zL e
  subst e7
  exact ⟨v,d0,A,rfl,e2,e6,k _ H (zQ.refl H) rfl⟩
 ·cases e
def u9 (d:D):Bool:=(zw d).canLay0&&decide ((zw d).depth<=50)
def qiB (K:Fr0) (neg:Bool):R2:=fun x y H Q=>∃ d e A,Is K A H d x/\Is K A H e y/\u9 d=true/\u9 e=true/\Q (.bl (if neg then !PyData.eqv (zw d) (zw e) else PyData.eqv (zw d) (zw e))) H
section
variable {X:Cx}
theorem qbz {d:D} (h:u9 d=true):SeqAt.shaped (zw d)=true:=by
 unfold u9 at h
 unfold SeqAt.shaped
 simp only [Bool.and_eq_true,decide_eq_true_eq] at h |-
 exact ⟨h.1,by omega⟩
theorem wy {d:D} (h:u9 d=true):noX d=true:=by
 unfold u9 at h
 rw [Bool.and_eq_true] at h
 exact qfM h.1
theorem qlT {k:Nat} (hr:yo k X.A):OpR X (compareOp .Eq) (qiB X.K false):=by
 intro pins s Z H x y v u Q I rx ry h
 obtain ⟨d,e,A,h1,h2,o1,o2,q⟩:=h
 obtain ⟨as,r1,_⟩:=jX I (wy o1) h1 rx
 obtain ⟨bs,r2,_⟩:=jX I (wy o2) h2 ry
 exact SeqAt.compareEq_shaped r1 r2 (qbz o1) (qbz o2) hr.units ⟨.bl _,H,I,rfl,by simpa using q⟩
theorem qiC {k:Nat} (hr:yo k X.A):OpR X (compareOp .NotEq) (qiB X.K true):=by
 intro pins s Z H x y v u Q I rx ry h
 obtain ⟨d,e,A,h1,h2,o1,o2,q⟩:=h
 obtain ⟨as,r1,_⟩:=jX I (wy o1) h1 rx
 obtain ⟨bs,r2,_⟩:=jX I (wy o2) h2 ry
 exact SeqAt.compareNe_shaped r1 r2 (qbz o1) (qbz o2) hr.units ⟨.bl _,H,I,rfl,by simpa using q⟩
end
def eqA (x y:D):Option D:=if u9 x&&u9 y then some (.bl (PyData.eqv (zw x) (zw y))) else none
def neA (x y:D):Option D:=if u9 x&&u9 y then some (.bl (!PyData.eqv (zw x) (zw y))) else none
theorem qjX {K:Fr0}:OpS K eqA (qiB K false):=by
 intro A H x y d v u Q hn ix iy e k
 obtain ⟨e1,e2⟩:=zL e
 rw [Bool.and_eq_true] at e1
 subst e2
 exact ⟨x,y,A,ix,iy,e1.1,e1.2,k _ H (zQ.refl H) rfl⟩
theorem qjY {K:Fr0}:OpS K neA (qiB K true):=by
 intro A H x y d v u Q hn ix iy e k
 obtain ⟨e1,e2⟩:=zL e
 rw [Bool.and_eq_true] at e1
 subst e2
 exact ⟨x,y,A,ix,iy,e1.1,e1.2,k _ H (zQ.refl H) rfl⟩
section
variable {X:Cx} {c:Fc} {a b e:Expr} {pos:Pos}
def qiD (i:Nat) (g:M D):M D:=fun U=>match zt i U with
 | none => .bad
 | some _=>(bnd g fun y U=>match zt i U with
  | none => .bad
  | some ds=>lift (neA (.lst ds) y) U) U
theorem qlU {i k:Nat} {x:Str} {p1:Pos} {g:M D} (hr:yo k X.A) (hb:DE X c b g) (ho:i∈c.O:=by exact of_decide_eq_true rfl) (hN:X.N[i]? = some x:=by rfl) (hv:Vis X.env.scope x:=by first | exact Or.inl rfl | exact Or.inr (Or.inl rfl) | exact Or.inr (Or.inr rfl)) (hd:(x==("__debug__":Str))=false:=by decide) (hcd:(x==("__classdict__":Str))=false:=by decide) :
  DT X c (.Compare (.Name x p1) [.NotEq] [b] pos) (tst (qiD i g)):=by
 obtain ⟨tb,pb,wb⟩:=hb
 refine ⟨_,qfk (qiC hr) (uE hN hv hd hcd) pb (zy _),fun U Z H Q r h => ?_⟩
 unfold tst qiD bnd at h
 cases e0:zt i U with
 | none=>simp only [e0] at h;exact h.elim
 | some ds0 =>
  simp only [e0] at h
  obtain ⟨l,xs0,_,hl,hH,_⟩:=r.getLO ho e0
  refine ⟨.ref l,hl,wb U Z H _ r ?_⟩
  cases eg:g U with
  | bad=>simp only [eg] at h;exact h
  | exc z U'=>simp only [eg] at h;exact h
  | ok q =>
   obtain ⟨y,U1⟩:=q
   simp only [eg] at h
   intro u H1 r1 i1 g1
   cases e1:zt i U1 with
   | none=>simp only [e1] at h;exact h.elim
   | some ds =>
    simp only [e1] at h
    cases en:neA (.lst ds) y with
    | none=>simp only [en,lift] at h;exact h.elim
    | some d =>
     simp only [en,lift,ret] at h
     obtain ⟨e3,e4⟩:=zL en
     rw [Bool.and_eq_true] at e3
     subst e4
     obtain ⟨l',xs,him,hl',hH',il⟩:=r1.getLO ho e1
     rw [hl] at hl'
     cases hl'
     refine ⟨.lst ds,y,fun _=>True,⟨l,xs,rfl,trivial,hH',IsL.ext Ext.refl (fun _ h _=>trivial) il⟩,Is.ext Ext.refl (fun _ _ _=>trivial) i1,e3.1,e3.2,_,rfl,?_⟩
     exact h H1 r1 g1
end
section
variable {prog:Program} {w:World} {A:Around} {E:Value->Shared->Prop} {s:Shared}
theorem qjZ {it tu:Addr} {k:Nat} {arr:Array Value} {x:Value} {Q:Value->Shared->Prop} (hI:s.heap.IsTupleIter it tu k) (hT:s.heap.IsTuple tu arr) (hx:arr[k]? = some x)
  (q:∀ h',h'.IsTupleIter it tu (k+1)->Heap.SameBut it s.heap h'->Q x { s with heap:=h' }):wpAny (model prog w) A (Builtin.SmallTypes.nextOf (.ref it)) Q E s:=by
 obtain ⟨ob,e1,e2,e3⟩:=id hI
 obtain ⟨ot,f1,_,m,f2⟩:=hT
 unfold Builtin.SmallTypes.nextOf
 refine wpAny_bind (wpAny_callSpecial?_slot (name:=Str.ofString "__next__") hI.typeIs F.slot_tuple_iterator_next (wpAny_call_entry F.slot_tuple_iterator_next hI.typeIs F.entry_tuple_iterator_next ?_ (F.args_tuple_iterator_next_1 _)))
 show wpAny (model prog w) _ (field (Value.ref it) 0 >>= _) _ _ s
 refine wpAny_bind (wpAny_field e1 e3 (x:=Value.ref tu) rfl ?_)
 show wpAny (model prog w) _ (if (Value.ref tu==Value.none)=true then _ else _) _ _ s
 rw [if_neg (show ¬ ((Value.ref tu==Value.none)=true) from Bool.false_ne_true)]
 show wpAny (model prog w) _ (field (Value.ref it) 1 >>= _) _ _ s
 refine wpAny_bind (wpAny_field e1 e3 (x:=Value.int k 0) rfl ?_)
 show wpAny (model prog w) _ (seqItems? (Value.ref tu) >>= _) _ _ s
 refine wpAny_bind (wpAny_seqItems f1 f2 ?_)
 simp only [Int.toNat_natCast,hx]
 refine wpAny_bind (wpAny_setField e1 e3 (by simp) (wpAny_pure ⟨x,rfl,wpAny_pure (q _ ?_ (Heap.SameBut.update ..))⟩))
 exact ⟨_,Heap.get?_update_self _ e1 (Obj.isFreed_of_fields (Obj.data_mapFields e3 _)),(Obj.cls_mapFields ..).trans e2,by rw [Obj.data_mapFields e3];simp [rawInt]⟩
theorem qj0 {it tu:Addr} {k:Nat} {arr:Array Value} {Q:Value->Shared->Prop} (hh:A.handled=none) (hI:s.heap.IsTupleIter it tu k) (hT:s.heap.IsTuple tu arr) (hx:arr[k]? = none)
  (q:∀ h' e,Heap.ExtBut it s.heap h'->(∃ o,h'.get? e=some o/\o.cls = .type "StopIteration")->E (.ref e) { s with heap:=h' }):wpAny (model prog w) A (Builtin.SmallTypes.nextOf (.ref it)) Q E s:=by
 obtain ⟨ob,e1,e2,e3⟩:=id hI
 obtain ⟨ot,f1,_,m,f2⟩:=hT
 unfold Builtin.SmallTypes.nextOf
 refine wpAny_bind (wpAny_callSpecial?_slot (name:=Str.ofString "__next__") hI.typeIs F.slot_tuple_iterator_next (wpAny_call_entry F.slot_tuple_iterator_next hI.typeIs F.entry_tuple_iterator_next ?_ (F.args_tuple_iterator_next_1 _)))
 show wpAny (model prog w) _ (field (Value.ref it) 0 >>= _) _ _ s
 refine wpAny_bind (wpAny_field e1 e3 (x:=Value.ref tu) rfl ?_)
 show wpAny (model prog w) _ (if (Value.ref tu==Value.none)=true then _ else _) _ _ s
 rw [if_neg (show ¬ ((Value.ref tu==Value.none)=true) from Bool.false_ne_true)]
 show wpAny (model prog w) _ (field (Value.ref it) 1 >>= _) _ _ s
 refine wpAny_bind (wpAny_field e1 e3 (x:=Value.int k 0) rfl ?_)
 show wpAny (model prog w) _ (seqItems? (Value.ref tu) >>= _) _ _ s
 refine wpAny_bind (wpAny_seqItems f1 f2 ?_)
 simp only [Int.toNat_natCast,hx]
 refine wpAny_bind (wpAny_rule (wpAny_bind (wpAny_setField e1 e3 (by simp) ?_)))
 show wpAny (model prog w) _ (newExc (Value.type "StopIteration") [] >>= _) _ _ _
 refine wpAny_bind ?_
 simp only [newExc,newTuple]
 refine wpAny_bind (wpAny_newObj_type ?_ (by size_fits))
 refine wpAny_bind (m:=firstArgMember _ _) (wpAny_of_eq (a:=Value.none) (by first | rfl | (simp only [firstArgMember];rfl)) ?_)
 refine wpAny_newObj_type ?_ (by size_fits)
 simp only [raiseNew]
 refine wpAny_bind (wpAny_handled ?_)
 first | rw [show A.in1.handled=none from hh] | rw [hh]
 exact wpAny_bind (wpAny_pure (wpAny_throw (q _ _ (((Heap.SameBut.update ..).extBut.push _).push _) ⟨_,Heap.get?_push_size _ rfl,rfl⟩)))
end
theorem wO {prog:Program} {w:World} {A:Around} (hh:A.handled=none) (it tu:Addr) (hne:tu≠it) (arr:Array Value) :
  Draws prog w A it [it,tu] arr.size (fun i x=>arr[i]? = some x) (fun i h=>h.IsTupleIter it tu i/\h.IsTuple tu arr) where
 live:=fun i h st=>by obtain ⟨⟨o,e,_⟩,_⟩:=st;exact ⟨o,e⟩
 frame:=fun i h h' st k=>by
  obtain ⟨h1,o,e,r⟩:=st
  exact ⟨h1.at fun o q=>k it (by simp) o q,o,k tu (by simp) o e,r⟩
 item:=fun i s Q E hi st q=>qjZ st.1 st.2 (Array.getElem?_eq_getElem hi) fun h' h1 sb=>q _ h' s.toks (Array.getElem?_eq_getElem hi) ⟨h1,by
  obtain ⟨o,e,r⟩:=st.2
  exact ⟨o,sb.extBut _ _ hne e,r⟩⟩ sb
 done:=fun s Q E st q=>qj0 hh st.1 st.2 (Array.getElem?_eq_none (Nat.le_refl _)) q
structure ZAp (z TI TO i1 i2:Addr) (fp1 fp2:List Addr):Prop where
 zTI:z≠TI
 zTO:z≠TO
 zi1:z≠i1
 zi2:z≠i2
 IO:TI≠TO
 Ii1:TI≠i1
 Ii2:TI≠i2
 Oi1:TO≠i1
 Oi2:TO≠i2
 ii:i1≠i2
 z1:z ∉ fp1
 z2:z ∉ fp2
 O1:TO ∉ fp1
 O2:TO ∉ fp2
 i21:i2 ∉ fp1
 i12:i1 ∉ fp2
section
variable {prog:Program} {w:World} {A:Around} {E:Value->Shared->Prop} {s:Shared} {z TI TO i1 i2:Addr} {fp1 fp2:List Addr} {n1 n2 k:Nat} {P1 P2:Nat->Value->Prop} {S1 S2:Nat->Heap->Prop}
theorem yg {fp:List Addr} {a:Addr} {h h':Heap} (sb:Heap.SameBut a h h') (ha:a ∉ fp):∀ b∈fp,∀ o,h.get? b=some o->h'.get? b=some o:=fun b hb o e=>sb.extBut _ _ (fun q=>ha (q▸hb)) e
theorem qlV (D1:Draws prog w A i1 fp1 n1 P1 S1) (D2:Draws prog w A i2 fp2 n2 P2 S2) (ap:ZAp z TI TO i1 i2 fp1 fp2) {p q:Value} (zz:IsZip s.heap z TI TO .none) (zI:IsPair s.heap TI (.ref i1) (.ref i2)) (zO:IsPair s.heap TO p q)
  (t1:S1 k s.heap) (t2:S2 k s.heap) (l1:k<n1) (l2:k<n2) {Q:Value->Shared->Prop}
  (fin:∀ x y h' tk,P1 k x->P2 k y->IsZip h' z TI TO (rawInt s.heap.objs.size)->IsPair h' TO x y->S1 (k+1) h'->S2 (k+1) h'->IsPair h' s.heap.objs.size x y ->
   (∀ c o,c≠z->c≠TO->c≠i1->c≠i2->s.heap.get? c=some o->h'.get? c=some o)->Q (.ref s.heap.objs.size) { s with heap:=h',toks:=tk }) :
  wpAny (model prog w) A (Builtin.«zip.__next__» ⟨[.ref z],[]⟩) (fun r s'=>∃ v,r = .done (.ret v)/\Q v s') E s:=by
 show wpAny (model prog w) A (field (Value.ref z) 2 >>= _) _ _ _
 refine wpAny_bind (wpAny_field zz rfl (x:=Value.bool false) rfl ?_)
 show wpAny (model prog w) A (field (Value.ref z) 3 >>= _) _ _ _
 refine wpAny_bind (wpAny_field zz rfl (x:=Value.ref TI) rfl (wpAny_bind (wpAny_seqItems zI rfl ?_)))
 show wpAny (model prog w) A (Builtin.SmallTypes.ownedTupleIsFree (Value.ref z) >>= _) _ _ _
 refine wpAny_bind ?_
 unfold Builtin.SmallTypes.ownedTupleIsFree
 refine wpAny_bind (wpAny_field zz rfl (x:=Value.none) rfl (wpAny_pure ?_))
 simp only [if_true]
 refine wpAny_bind (wpAny_rule (wpAny_bind (wpAny_field zz rfl (x:=Value.ref TO) rfl (wpAny_bind (wpAny_setField_rec zz (by simp) fun h1 zz1 b1 => ?_)))))
 replace zz1:IsZip h1 z TI TO .ellipsis:=zz1
 refine wpAny_bind ?_
 simp only [List.zipIdx_cons,List.zipIdx_nil,List.forIn_cons,List.forIn_nil]
 refine wpAny_bind (wpAny_bind (wpAny_onRaise ?_))
 show wpAny (model prog w) A (Builtin.SmallTypes.nextOf (Value.ref i1) >>= _) _ _ _
 refine wpAny_bind (D1.item k _ _ _ l1 (D1.frame _ _ _ t1 (yg b1 ap.z1)) fun x h2 tk2 px u1 b2=>wpAny_pure ?_)
 have zO2:IsPair h2 TO p q:=b2.extBut _ _ ap.Oi1 (b1.extBut _ _ ap.zTO.symm zO)
 refine wpAny_bind (wpAny_seqItems zO2 rfl (wpAny_bind (wpAny_updateSeq_pair zO2 fun h3 zO3 b3 => ?_)))
 replace zO3:IsPair h3 TO x q:=zO3
 refine wpAny_bind (wpAny_letGo (wpAny_pure (wpAny_bind (wpAny_bind (wpAny_onRaise ?_)))))
 show wpAny (model prog w) A (Builtin.SmallTypes.nextOf (Value.ref i2) >>= _) _ _ _
 have t2':S2 k h3:=D2.frame _ _ _ (D2.frame _ _ _ (D2.frame _ _ _ t2 (yg b1 ap.z2)) (yg b2 ap.i12)) (yg b3 ap.O2)
 refine wpAny_bind (D2.item k _ _ _ l2 t2' fun y h4 tk4 py u2 b4=>wpAny_pure ?_)
 have zO4:IsPair h4 TO x q:=b4.extBut _ _ ap.Oi2 zO3
 refine wpAny_bind (wpAny_seqItems zO4 rfl (wpAny_bind (wpAny_updateSeq_pair zO4 fun h5 zO5 b5 => ?_)))
 replace zO5:IsPair h5 TO x y:=zO5
 refine wpAny_bind (wpAny_letGo (wpAny_pure (wpAny_pure (wpAny_bind (wpAny_seqItems zO5 rfl (wpAny_bind (wpAny_newTuple ?_)))))))
 have sz:h5.objs.size=s.heap.objs.size:=by rw [b5.1,b4.1,b3.1,b2.1,b1.1]
 have zz5:IsZip h5 z TI TO .ellipsis:=b5.extBut _ _ ap.zTO (b4.extBut _ _ ap.zi2 (b3.extBut _ _ ap.zTO (b2.extBut _ _ ap.zi1 zz1)))
 have keep5:∀ c o,c≠z->c≠TO->c≠i1->c≠i2->s.heap.get? c=some o->h5.get? c=some o:=fun c o c1 c2 c3 c4 e=>b5.extBut _ _ c2 (b4.extBut _ _ c4 (b3.extBut _ _ c2 (b2.extBut _ _ c3 (b1.extBut _ _ c1 e))))
 have v1:S1 (k+1) h5:=D1.frame _ _ _ (D1.frame _ _ _ (D1.frame _ _ _ u1 (yg b3 ap.O1)) (yg b4 ap.i21)) (yg b5 ap.O1)
 have v2:S2 (k+1) h5:=D2.frame _ _ _ u2 (yg b5 ap.O2)
 have lz:z<h5.objs.size:=Heap.lt_size zz5
 show wpAny (model prog w) A (Builtin.SmallTypes.ownedTupleHandOut (Value.ref z) (Value.ref h5.objs.size) >>= _) _ _ _
 refine wpAny_bind ?_
 unfold Builtin.SmallTypes.ownedTupleHandOut
 have zz6:IsZip (h5.push { cls := .type "tuple",data := .seq #[x,y] }) z TI TO .ellipsis:=Heap.get?_push_of_some _ zz5
 refine wpAny_bind (wpAny_setField_rec zz6 (by simp) fun h7 zz7 b7 => ?_)
 replace zz7:IsZip h7 z TI TO (rawInt h5.objs.size):=zz7
 refine wpAny_setField_rec zz7 (by simp) fun h8 zz8 b8 => ?_
 replace zz8:IsZip h8 z TI TO (rawInt h5.objs.size):=zz8
 have up:∀ c o,c≠z->h5.get? c=some o->h8.get? c=some o:=fun c o c1 e=>b8.extBut _ _ c1 (b7.extBut _ _ c1 (Heap.get?_push_of_some _ e))
 have new8:IsPair h8 h5.objs.size x y:=b8.extBut _ _ (Nat.ne_of_gt lz) (b7.extBut _ _ (Nat.ne_of_gt lz) (Heap.get?_push_size _ rfl))
 rw [sz] at zz8 new8
 refine wpAny_pure ⟨_,rfl,?_⟩
 show Q (Value.ref h5.objs.size) _
 rw [sz]
 exact fin x y h8 tk4 px py zz8 (up _ _ ap.zTO.symm zO5) (D1.frame _ _ _ v1 fun b hb o e=>up b o (fun q=>ap.z1 (q▸hb)) e) (D2.frame _ _ _ v2 fun b hb o e=>up b o (fun q=>ap.z2 (q▸hb)) e) new8 fun c o c1 c2 c3 c4 e=>up c o c1 (keep5 c o c1 c2 c3 c4 e)
theorem qhx (hh:A.handled=none) (D1:Draws prog w A i1 fp1 n1 P1 S1) (D2:Draws prog w A i2 fp2 n2 P2 S2) (ap:ZAp z TI TO i1 i2 fp1 fp2) {p q:Value} (zz:IsZip s.heap z TI TO .none) (zI:IsPair s.heap TI (.ref i1) (.ref i2)) (zO:IsPair s.heap TO p q)
  (t1:S1 k s.heap) (t2:S2 k s.heap) (hk:k=min n1 n2) {Q:Fin->Shared->Prop}
  (fin:∀ h' tk e,(∀ c o,c≠z->c≠TO->c≠i1->c≠i2->s.heap.get? c=some o->h'.get? c=some o)->(∃ o,h'.get? e=some o/\o.cls = .type "StopIteration")->E (.ref e) { s with heap:=h',toks:=tk }) :
  wpAny (model prog w) A (Builtin.«zip.__next__» ⟨[.ref z],[]⟩) Q E s:=by
 show wpAny (model prog w) A (field (Value.ref z) 2 >>= _) _ _ _
 refine wpAny_bind (wpAny_field zz rfl (x:=Value.bool false) rfl ?_)
 show wpAny (model prog w) A (field (Value.ref z) 3 >>= _) _ _ _
 refine wpAny_bind (wpAny_field zz rfl (x:=Value.ref TI) rfl (wpAny_bind (wpAny_seqItems zI rfl ?_)))
 show wpAny (model prog w) A (Builtin.SmallTypes.ownedTupleIsFree (Value.ref z) >>= _) _ _ _
 refine wpAny_bind ?_
 unfold Builtin.SmallTypes.ownedTupleIsFree
 refine wpAny_bind (wpAny_field zz rfl (x:=Value.none) rfl (wpAny_pure ?_))
 simp only [if_true]
 refine wpAny_bind (wpAny_rule (wpAny_bind (wpAny_field zz rfl (x:=Value.ref TO) rfl (wpAny_bind (wpAny_setField_rec zz (by simp) fun h1 zz1 b1 => ?_)))))
 replace zz1:IsZip h1 z TI TO .ellipsis:=zz1
 refine wpAny_bind ?_
 simp only [List.zipIdx_cons,List.zipIdx_nil,List.forIn_cons,List.forIn_nil]
 refine wpAny_bind (wpAny_bind (wpAny_onRaise ?_))
 show wpAny (model prog w) A (Builtin.SmallTypes.nextOf (Value.ref i1) >>= _) _ _ _
 have t1':S1 k h1:=D1.frame _ _ _ t1 (yg b1 ap.z1)
 by_cases h12:n1<=n2
 ·have e1:k=n1:=by rw [hk];exact Nat.min_eq_left h12
  rw [e1] at t1'
  refine wpAny_bind (D1.done _ _ _ t1' fun h2 e b2 he => ?_)
  obtain ⟨oe,f1,f2⟩:=he
  have zz2:IsZip h2 z TI TO .ellipsis:=b2 _ _ ap.zi1 zz1
  have ez:e≠z:=fun x=>by subst x;rw [zz2] at f1;cases f1;simp at f2
  refine wpAny_setField_rec zz2 (by simp) fun h3 _ b3 => ?_
  exact fin h3 s.toks e (fun c o c1 _ c3 _ x=>b3.extBut _ _ c1 (b2 _ _ c3 (b1.extBut _ _ c1 x))) ⟨oe,b3.extBut _ _ ez f1,f2⟩
 ·have e1:k=n2:=by rw [hk];exact Nat.min_eq_right (by omega)
  refine wpAny_bind (D1.item k _ _ _ (by omega) t1' fun x h2 tk2 px u1 b2=>wpAny_pure ?_)
  have zO2:IsPair h2 TO p q:=b2.extBut _ _ ap.Oi1 (b1.extBut _ _ ap.zTO.symm zO)
  refine wpAny_bind (wpAny_seqItems zO2 rfl (wpAny_bind (wpAny_updateSeq_pair zO2 fun h3 zO3 b3 => ?_)))
  refine wpAny_bind (wpAny_letGo (wpAny_pure (wpAny_bind (wpAny_bind (wpAny_onRaise ?_)))))
  show wpAny (model prog w) A (Builtin.SmallTypes.nextOf (Value.ref i2) >>= _) _ _ _
  have t2':S2 k h3:=D2.frame _ _ _ (D2.frame _ _ _ (D2.frame _ _ _ t2 (yg b1 ap.z2)) (yg b2 ap.i12)) (yg b3 ap.O2)
  rw [e1] at t2'
  refine wpAny_bind (D2.done _ _ _ t2' fun h4 e b4 he => ?_)
  obtain ⟨oe,f1,f2⟩:=he
  have zz4:IsZip h4 z TI TO .ellipsis:=b4 _ _ ap.zi2 (b3.extBut _ _ ap.zTO (b2.extBut _ _ ap.zi1 zz1))
  have ez:e≠z:=fun x=>by subst x;rw [zz4] at f1;cases f1;simp at f2
  refine wpAny_setField_rec zz4 (by simp) fun h5 _ b5 => ?_
  exact fin h5 tk2 e (fun c o c1 c2 c3 c4 x=>b5.extBut _ _ c1 (b4 _ _ c4 (b3.extBut _ _ c2 (b2.extBut _ _ c3 (b1.extBut _ _ c1 x))))) ⟨oe,b5.extBut _ _ ez f1,f2⟩
theorem qhy {l1 l2:Addr} {xs ys:Array Value} {Q:Value->Shared->Prop} (t1:s.heap.IsTuple l1 xs) (t2:s.heap.IsTuple l2 ys)
  (fin:∀ h',IsZip h' (s.heap.objs.size+4) (s.heap.objs.size+2) (s.heap.objs.size+3) .none->IsPair h' (s.heap.objs.size+2) (.ref s.heap.objs.size) (.ref (s.heap.objs.size+1))->IsPair h' (s.heap.objs.size+3) .none .none ->
   h'.IsTupleIter s.heap.objs.size l1 0->h'.IsTupleIter (s.heap.objs.size+1) l2 0->(∀ c o,s.heap.get? c=some o->h'.get? c=some o)->Q (.ref (s.heap.objs.size+4)) { s with heap:=h' }) :
  wpAny (model prog w) A (call (.type "zip") [.ref l1,.ref l2]) Q E s:=by
 have meets:Meets (Builtin.«zip.__new__» ⟨[.type "zip",.ref l1,.ref l2],[]⟩) (fun _ R s=>s.heap.IsTuple l1 xs/\s.heap.IsTuple l2 ys /\
   R (.ok (.ret (.ref (s.heap.objs.size+4)))) { s with heap:=((((s.heap.push { cls := .type "tuple_iterator",data := .fields #[.ref l1,.int 0 0] }).push { cls := .type "tuple_iterator",data := .fields #[.ref l2,.int 0 0] }).push { cls := .type "tuple",data := .seq #[.ref s.heap.objs.size,.ref (s.heap.objs.size+1)] }).push { cls := .type "tuple",data := .seq #[.none,.none] }).push { cls := .type "zip",data := .fields #[.none,.bool false,.bool false,.ref (s.heap.objs.size+2),.ref (s.heap.objs.size+3)] } }) :=
  .of_wp fun prog w A R s h=>by
   obtain ⟨hp,g,d,tk,os⟩:=s
   obtain ⟨ha,hb,h⟩:=h
   have hsub:=sub_zip
   have hA:Heap.IsTuple (Shared.heap ⟨hp,g,d,tk,os⟩) l1 xs:=ha
   have hB:Heap.IsTuple (Shared.heap ⟨hp.push { cls := .type "tuple_iterator",data := .fields #[.ref l1,.int 0 0] },g,d,tk,os⟩) l2 ys:=by
    obtain ⟨o,e,r⟩:=hb
    exact ⟨o,Heap.get?_push_of_some _ e,r⟩
   wp_walk using wpAny_pyIter_tuple hA,wpAny_pyIter_tuple hB
   simp only [Heap.size_push] at *
   exact ⟨_,rfl,h⟩
 refine callType_new F.called_zip (by decide) (F.typeCall_zip_2 _ _) (F.newCall_zip_2 _ _) (fun obj=>F.args_object_init_3 obj _ _) F.entry_zip_new meets ⟨t1,t2,?_⟩
 generalize e1:s.heap.push { cls := .type "tuple_iterator",data := .fields #[.ref l1,.int 0 0] }=m1
 have s1:m1.objs.size=s.heap.objs.size+1:=by rw [<- e1,Heap.size_push]
 have q1:m1.get? s.heap.objs.size=some { cls := .type "tuple_iterator",data := .fields #[.ref l1,.int 0 0] }:=by rw [<- e1];exact Heap.get?_push_size _ rfl
 have k1:∀ c o,s.heap.get? c=some o->m1.get? c=some o:=fun c o x=>by rw [<- e1];exact Heap.get?_push_of_some _ x
 generalize e2:m1.push { cls := .type "tuple_iterator",data := .fields #[.ref l2,.int 0 0] }=m2
 have s2:m2.objs.size=s.heap.objs.size+2:=by rw [<- e2,Heap.size_push,s1]
 have q2:m2.get? (s.heap.objs.size+1)=some { cls := .type "tuple_iterator",data := .fields #[.ref l2,.int 0 0] }:=by rw [<- e2,<- s1];exact Heap.get?_push_size _ rfl
 have k2:∀ c o,m1.get? c=some o->m2.get? c=some o:=fun c o x=>by rw [<- e2];exact Heap.get?_push_of_some _ x
 generalize e3:m2.push { cls := .type "tuple",data := .seq #[.ref s.heap.objs.size,.ref (s.heap.objs.size+1)] }=m3
 have s3:m3.objs.size=s.heap.objs.size+3:=by rw [<- e3,Heap.size_push,s2]
 have q3:m3.get? (s.heap.objs.size+2)=some { cls := .type "tuple",data := .seq #[.ref s.heap.objs.size,.ref (s.heap.objs.size+1)] }:=by rw [<- e3,<- s2];exact Heap.get?_push_size _ rfl
 have k3:∀ c o,m2.get? c=some o->m3.get? c=some o:=fun c o x=>by rw [<- e3];exact Heap.get?_push_of_some _ x
 generalize e4:m3.push { cls := .type "tuple",data := .seq #[.none,.none] }=m4
 have s4:m4.objs.size=s.heap.objs.size+4:=by rw [<- e4,Heap.size_push,s3]
 have q4:m4.get? (s.heap.objs.size+3)=some { cls := .type "tuple",data := .seq #[.none,.none] }:=by rw [<- e4,<- s3];exact Heap.get?_push_size _ rfl
 have k4:∀ c o,m3.get? c=some o->m4.get? c=some o:=fun c o x=>by rw [<- e4];exact Heap.get?_push_of_some _ x
 generalize e5:m4.push { cls := .type "zip",data := .fields #[.none,.bool false,.bool false,.ref (s.heap.objs.size+2),.ref (s.heap.objs.size+3)] }=m5
 have q5:m5.get? (s.heap.objs.size+4)=some { cls := .type "zip",data := .fields #[.none,.bool false,.bool false,.ref (s.heap.objs.size+2),.ref (s.heap.objs.size+3)] }:=by rw [<- e5,<- s4];exact Heap.get?_push_size _ rfl
 have k5:∀ c o,m4.get? c=some o->m5.get? c=some o:=fun c o x=>by rw [<- e5];exact Heap.get?_push_of_some _ x
 show _/\_
 exact ⟨⟨_,q5,rfl⟩,fin m5 q5 (k5 _ _ (k4 _ _ q3)) (k5 _ _ q4) ⟨_,k5 _ _ (k4 _ _ (k3 _ _ (k2 _ _ q1))),rfl,rfl⟩ ⟨_,k5 _ _ (k4 _ _ (k3 _ _ q2)),rfl,rfl⟩ fun c o x=>k5 _ _ (k4 _ _ (k3 _ _ (k2 _ _ (k1 _ _ x))))⟩
end
section
variable {X:Cx} {pins:List (Addr×Obj)} {Z:St} {H:Hp} {s:Shared} {h':Heap}
theorem qj1 {ch:List Addr} {T:Addr} {o:HO} {t':Nat} (I:Inv X pins Z H s) (k:∀ b u,b ∉ ch->s.heap.get? b=some u->h'.get? b=some u) (hf:∀ b∈ch,qcZ X pins H b) (hT:s.heap.objs.size<=T) (new:yz X.prog X.w (upd H T o) h' T o) :
  Inv X pins Z (upd H T o) { s with heap:=h',toks:=t' }:=by
 have hn:H T=none:=I.hok.fresh hT
 have nch:∀ b u,H b=some u->b ∉ ch:=fun b u e z=>by rw [(hf b z).1] at e;cases e
 refine I.step (g':=s.gens) (d':=s.drawn) (ch:=ch) (fun b hb=>⟨(hf b hb).2.2.2.1,(hf b hb).2.1,(hf b hb).2.2.2.2.1,(hf b hb).2.2.2.2.2⟩) (fun b u _ _ hc e _=>k b u hc e) (fun b u _ _ hc e _=>⟨u.slots,k b u hc e⟩) (fun b u hc e n => ?_)
  (fun b u hc e=>⟨u,k b u hc e⟩) (fun b xs e=>by rw [qt (qH e hn)];exact e) (fun b u xs e=>by rw [qt (qH e hn)];exact e) (fun b ps y e=>by rw [qt (qH e hn)];exact e) (fun m hm => ?_) (fun b u e => ?_) I.bare
 ·rw [qt (Nat.ne_of_lt (Nat.lt_of_lt_of_le (Heap.lt_size e) hT))];exact n
 ·obtain ⟨ob,es,ep,ho,r⟩:=hm
  exact ⟨ob,es,ep,k _ ob (fun z=>(hf _ z).2.1 rfl) ho,r⟩
 ·by_cases hb:b=T
  ·subst hb;rw [qv] at e;cases e;exact new
  ·rw [qt hb] at e
   refine (I.hok b u e).stay (fun c v hc q=>k c v ?_ q) (fun c q=>by rw [qt (qH q hn)];exact q) (fun c xs q=>by rw [qt (qH q hn)];exact q) fun c ob y q=>by rw [qt (qH q hn)];exact q
   rcases hc with z | z
   ·rw [z];exact nch b u e
   ·exact nch c _ z
theorem qj2 {ch:List Addr} {t':Nat} (I:Inv X pins Z H s) (k:∀ b u,b ∉ ch->s.heap.get? b=some u->h'.get? b=some u) (hf:∀ b∈ch,qcZ X pins H b):Inv X pins Z H { s with heap:=h',toks:=t' }:=by
 have nch:∀ b u,H b=some u->b ∉ ch:=fun b u e z=>by rw [(hf b z).1] at e;cases e
 refine I.step (g':=s.gens) (d':=s.drawn) (ch:=ch) (fun b hb=>⟨(hf b hb).2.2.2.1,(hf b hb).2.1,(hf b hb).2.2.2.2.1,(hf b hb).2.2.2.2.2⟩) (fun b u _ _ hc e _=>k b u hc e) (fun b u _ _ hc e _=>⟨u.slots,k b u hc e⟩) (fun b u hc e n=>n)
  (fun b u hc e=>⟨u,k b u hc e⟩) (fun b xs e=>e) (fun b u xs e=>e) (fun _ _ _ e=>e) (fun m hm => ?_) (fun b u e => ?_) I.bare
 ·obtain ⟨ob,es,ep,ho,r⟩:=hm
  exact ⟨ob,es,ep,k _ ob (fun z=>(hf _ z).2.1 rfl) ho,r⟩
 ·refine (I.hok b u e).stay (fun c v hc q=>k c v ?_ q) (fun c q=>q) fun c xs q=>q
  rcases hc with z | z
  ·rw [z];exact nch b u e
  ·exact nch c _ z
end
def Itz (K:Fr0) (a1 a2:Addr) (xs ys:List V):It :=
 ⟨fun i H=>i<min xs.length ys.length/\SqT K H a1 xs/\SqT K H a2 ys,fun i H x H'=>∃ p u v,H p=none/\xs[i]? = some u/\ys[i]? = some v/\x = .ref p/\H'=upd H p (.tup [u,v]),fun i H=>i=min xs.length ys.length/\SqT K H a1 xs/\SqT K H a2 ys⟩
def ZSt (z TI TO i1 i2 a1 a2:Addr) (i:Nat) (h:Heap):Prop:=IsZip h z TI TO .none/\IsPair h TI (.ref i1) (.ref i2)/\(∃ p q,IsPair h TO p q)/\h.IsTupleIter i1 a1 i/\h.IsTupleIter i2 a2 i
theorem qhz {P:Program} {w:World} {K:Fr0} {es:List Expr} {kk:Nat} {pos:Pos} {z TI TO i1 i2 a1 a2:Addr} {xs ys:List V} (ap:ZAp z TI TO i1 i2 [i1,a1] [i2,a2]) (n1:a1≠i1) (n2:a2≠i2) :
  qld P w K (.Tuple es kk pos) (Itz K a1 a2 xs ys) [z,TI,TO,i1,i2] z (ZSt z TI TO i1 i2 a1 a2) where
 mem:=by simp
 obj:=fun i h st b hb=>by
  obtain ⟨h1,h2,⟨p,q,h3⟩,⟨o4,h4,c4,d4⟩,⟨o5,h5,c5,d5⟩⟩:=st
  simp only [List.mem_cons,nN_,or_false] at hb
  rcases hb with rfl | rfl | rfl | rfl | rfl
  ·exact ⟨_,h1,fun v e=>by cases (show Data.fields _=Data.cell v from e)⟩
  ·exact ⟨_,h2,fun v e=>by cases (show Data.seq _ _=Data.cell v from e)⟩
  ·exact ⟨_,h3,fun v e=>by cases (show Data.seq _ _=Data.cell v from e)⟩
  ·exact ⟨_,h4,fun v e=>by rw [d4] at e;cases e⟩
  ·exact ⟨_,h5,fun v e=>by rw [d5] at e;cases e⟩
 keep:=fun i h h' st k=>by
  obtain ⟨h1,h2,⟨p,q,h3⟩,h4,h5⟩:=st
  exact ⟨k z (by simp) _ h1,k TI (by simp) _ h2,⟨p,q,k TO (by simp) _ h3⟩,h4.at fun o e=>k i1 (by simp) o e,h5.at fun o e=>k i2 (by simp) o e⟩
 item:=by
  intro X hP hw hK hc i pins s Z H E I hf st hg
  subst hP hw hK
  obtain ⟨hlt,hx,hy⟩:=hg
  obtain ⟨h1,h2,⟨p,q,h3⟩,h4,h5⟩:=st
  obtain ⟨it1,r1,p1,z1⟩:=I.tuple hx
  obtain ⟨it2,r2,p2,z2⟩:=I.tuple hy
  have l1:i<it1.toArray.size:=by rw [sT_,<- r1.length];omega
  have l2:i<it2.toArray.size:=by rw [sT_,<- r2.length];omega
  have hT:s.TypeIs (.ref z) "zip":=⟨_,h1,rfl⟩
  have hh:X.A.in1.handled=none:=I.ok.hd hc
  unfold pyNext
  refine wpAny_bind (wpAny_attempt (wpAny_callSpecial?_slot (name:=Str.ofString "__next__") hT F.slot_zip_next (wpAny_call_entry F.slot_zip_next hT F.entry_zip_next
   (qlV (wO hh i1 a1 n1 it1.toArray) (wO hh i2 a2 n2 it2.toArray) ap h1 h2 h3 ⟨h4,p1⟩ ⟨h5,p2⟩ l1 l2 fun x y h' tk px py zz zO u1 u2 new kp=>wpAny_pure ?_) (F.args_zip_next_1 _))))
  refine ⟨.ref s.heap.objs.size,rfl,wpAny_letOwnedTupleGo_zip zz fun h2' zz2 sb => ?_⟩
  obtain ⟨xv,hxv⟩:∃ v,xs[i]? = some v:=⟨xs[i]'(by omega),gG (by omega)⟩
  obtain ⟨yv,hyv⟩:∃ v,ys[i]? = some v:=⟨ys[i]'(by omega),gG (by omega)⟩
  obtain ⟨x',ex,rx⟩:=r1.get hxv
  obtain ⟨y',ey,ry⟩:=r2.get hyv
  have exx:x'=x:=by
   have:it1.toArray[i]? = some x:=px
   rw [List.getElem?_toArray,ex] at this
   exact Option.some.inj this
  have eyy:y'=y:=by
   have:it2.toArray[i]? = some y:=py
   rw [List.getElem?_toArray,ey] at this
   exact Option.some.inj this
  subst exx eyy
  have lz:z<s.heap.objs.size:=Heap.lt_size h1
  have keep:∀ b u,b ∉ [z,TI,TO,i1,i2]->s.heap.get? b=some u->h2'.get? b=some u:=fun b u hb e=>by
   simp only [List.mem_cons,nN_,or_false,not_or] at hb
   exact sb.extBut _ _ hb.1 (kp b u hb.1 hb.2.2.1 hb.2.2.2.1 hb.2.2.2.2 e)
  have I2:Inv X pins Z (upd H s.heap.objs.size (.tup [xv,yv])) { s with heap:=h2',toks:=tk } :=
   qj1 I keep hf (Nat.le_refl _) ⟨by show 2<=sizeLine;decide,[x',y'],.cons rx (.cons ry .nil),⟨_,sb.extBut _ _ (Nat.ne_of_gt lz) new,rfl,_,rfl⟩⟩
  refine ⟨.ref s.heap.objs.size,upd H s.heap.objs.size (.tup [xv,yv]),I2,rfl,⟨s.heap.objs.size,xv,yv,I.hok.fresh (Nat.le_refl _),hxv,hyv,rfl,rfl⟩,?_,fun b hb => ?_⟩
  ·exact ⟨zz2,sb.extBut _ _ ap.zTI.symm (kp _ _ ap.zTI.symm ap.IO ap.Ii1 ap.Ii2 h2),⟨_,_,sb.extBut _ _ ap.zTO.symm zO⟩,u1.1.at fun o e=>sb.extBut _ _ ap.zi1.symm e,u2.1.at fun o e=>sb.extBut _ _ ap.zi2.symm e⟩
  ·have hb1:b≠s.heap.objs.size:=by
    simp only [List.mem_cons,nN_,or_false] at hb
    obtain ⟨o4,g4,_⟩:=h4
    obtain ⟨o5,g5,_⟩:=h5
    rcases hb with rfl | rfl | rfl | rfl | rfl
    ·exact Nat.ne_of_lt (Heap.lt_size h1)
    ·exact Nat.ne_of_lt (Heap.lt_size h2)
    ·exact Nat.ne_of_lt (Heap.lt_size h3)
    ·exact Nat.ne_of_lt (Heap.lt_size g4)
    ·exact Nat.ne_of_lt (Heap.lt_size g5)
   rw [qt hb1]
   exact (hf b hb).1
 done:=by
  intro X hP hw hK hc i pins s Z H E I hf st hg
  subst hP hw hK
  obtain ⟨hlt,hx,hy⟩:=hg
  obtain ⟨h1,h2,⟨p,q,h3⟩,h4,h5⟩:=st
  obtain ⟨it1,r1,p1,z1⟩:=I.tuple hx
  obtain ⟨it2,r2,p2,z2⟩:=I.tuple hy
  have hT:s.TypeIs (.ref z) "zip":=⟨_,h1,rfl⟩
  have hh:X.A.in1.handled=none:=I.ok.hd hc
  unfold pyNext
  refine wpAny_bind (wpAny_attempt (wpAny_callSpecial?_slot (name:=Str.ofString "__next__") hT F.slot_zip_next (wpAny_call_entry F.slot_zip_next hT F.entry_zip_next
   (qhx hh (wO hh i1 a1 n1 it1.toArray) (wO hh i2 a2 n2 it2.toArray) ap h1 h2 h3 ⟨h4,p1⟩ ⟨h5,p2⟩ (by rw [sT_,sT_,<- r1.length,<- r2.length];exact hlt) fun h' tk e kp he => ?_) (F.args_zip_next_1 _))))
  obtain ⟨o,ho,hcl⟩:=he
  refine wpAny_bind (wpAny_isInstance (T:="StopIteration") (b:=true) ⟨o,ho,hcl⟩ isSubtype_stop (wpAny_pure ⟨rfl,qj2 I (fun b u hb e => ?_) hf⟩))
  simp only [List.mem_cons,nN_,or_false,not_or] at hb
  exact kp b u hb.1 hb.2.2.1 hb.2.2.2.1 hb.2.2.2.2 e
 self:=fun A i s Q E st h=>wpAny_pyIter_zip st.1 h
section
variable {X:Cx} {c:Fc} {a b e:Expr} {pos:Pos} {es:List Expr} {kk:Nat} {tp:Pos}
theorem qj3 (n l1 l2:Nat) (h1:l1<n) (h2:l2<n):ZAp (n+4) (n+2) (n+3) n (n+1) [n,l1] [n+1,l2]:=by
 refine ⟨?_,?_,?_,?_,?_,?_,?_,?_,?_,?_,?_,?_,?_,?_,?_,?_⟩<;>simp only [List.mem_cons,nN_,or_false,not_or,ne_eq]<;>(unfold Addr at *)<;>omega
def qoM (K:Fr0) (ta:TA):TI:=fun Z H R=>ta Z H fun vs H1=>∃ a1 a2 xs ys,vs=[.ref a1,.ref a2]/\SqT K H1 a1 xs/\SqT K H1 a2 ys/\R (Itz K a1 a2 xs ys) H1
theorem qlW {ta:TA} {p:Pos} (hg:Gl X "zip") (hm:X.mg "zip"=none) (ha:PA X [a,b] ta) (hs:starEach [a,b] X.env=[(false,eval a X.env),(false,eval b X.env)]:=by rfl) (hs2:starEach [b] X.env=[(false,eval b X.env)]:=by rfl) :
  PI X (.Tuple es kk tp) (.Call (.Name "zip" p) [a,b] [] pos) (qoM X.K ta):=by
 intro pins s Z H R I h
 refine Call_ (qa0 I hg hm PyProof.Rows.boot_zip (PyProof.Rows.callWith_type1 (thn (ha pos pins s Z H _ I h) fun us s1 ⟨vs,H1,I1,r1,q1⟩ => ?_) (by rw [hs,hs2]) (by rw [hs2];rfl)))
 obtain ⟨a1,a2,xs,ys,e1,hx,hy,q⟩:=q1
 subst e1
 obtain ⟨u1,u2,rfl,ru1,ru2⟩:=qW.two r1
 cases (show u1=Value.ref a1 from ru1)
 cases (show u2=Value.ref a2 from ru2)
 obtain ⟨it1,v1,p1,z1⟩:=I1.tuple hx
 obtain ⟨it2,v2,p2,z2⟩:=I1.tuple hy
 refine qhy (show s1.heap.IsTuple a1 it1.toArray from p1) (show s1.heap.IsTuple a2 it2.toArray from p2) fun h' zz zI zO g1 g2 kp => ?_
 refine wpAny_pyIter_zip zz ?_
 have la1:a1<s1.heap.objs.size:=by obtain ⟨o,e,_⟩:=p1;exact Heap.lt_size e
 have la2:a2<s1.heap.objs.size:=by obtain ⟨o,e,_⟩:=p2;exact Heap.lt_size e
 have ap:ZAp (s1.heap.objs.size+4) (s1.heap.objs.size+2) (s1.heap.objs.size+3) s1.heap.objs.size (s1.heap.objs.size+1) [s1.heap.objs.size,a1] [s1.heap.objs.size+1,a2]:=by
  exact qj3 _ _ _ la1 la2
 refine ⟨s1.heap.objs.size+4,[s1.heap.objs.size+4,s1.heap.objs.size+2,s1.heap.objs.size+3,s1.heap.objs.size,s1.heap.objs.size+1],_,_,H1,rfl,I1.kept (t':=s1.toks) kp,qhz (xs:=xs) (ys:=ys) ap (Nat.ne_of_lt la1) (Nat.ne_of_lt (Nat.lt_succ_of_lt la2)),⟨zz,zI,⟨_,_,zO⟩,g1,g2⟩,fun b hb => ?_,q⟩
 simp only [List.mem_cons,nN_,or_false] at hb
 have hb2:s1.heap.objs.size<=b:=by
  rcases hb with e | e | e | e | e<;>rw [e]
  ·exact Nat.le_add_right _ _
  ·exact Nat.le_add_right _ _
  ·exact Nat.le_add_right _ _
  ·exact Nat.le_refl _
  ·exact Nat.le_add_right _ _
 exact I1.fpOk hb2 (I1.hok.fresh hb2)
def qc0:List D->List D->List D
 | x::xs,y::ys => .tup [x,y]::qc0 xs ys
 | _,_=>[]
theorem qdQ:∀ {xs ys:List D} {i:Nat} {d:D},(qc0 xs ys)[i]? = some d->∃ x y,xs[i]? = some x/\ys[i]? = some y/\d = .tup [x,y]
 | [],_,_,_,h=>by simp [qc0] at h
 | _::_,[],_,_,h=>by simp [qc0] at h
 | x::xs,y::ys,0,d,h=>by
  have:D.tup [x,y]=d:=by simpa [qc0] using h
  exact ⟨x,y,rfl,rfl,this.symm⟩
 | x::xs,y::ys,i+1,d,h=>by
  obtain ⟨u,v,h1,h2,h3⟩:=qdQ (xs:=xs) (ys:=ys) (i:=i) (d:=d) (by simpa [qc0] using h)
  exact ⟨u,v,by simpa using h1,by simpa using h2,h3⟩
theorem qbA:∀ (xs ys:List D),(qc0 xs ys).length=min xs.length ys.length
 | [],ys=>by simp [qc0]
 | _::_,[]=>by simp [qc0]
 | x::xs,y::ys=>by simp [qc0,qbA xs ys]
theorem qlX {K:Fr0} {A:Addr->Prop} {H:Hp} {ds es:List D} {xs ys:List V} {a1 a2:Addr} (t1:TupAt K H a1 xs) (t2:TupAt K H a2 ys) (i1:IsL K A H ds xs) (i2:IsL K A H es ys):qix K A H (qc0 ds es) (Itz K a1 a2 xs ys) where
 go:=fun H' i d ex hd=>by
  have hl:i<(qc0 ds es).length:=(gI_.mp hd).1
  rw [qbA,<- i1.length,<- i2.length] at hl
  exact ⟨hl,(t1.elim (fun h => .inl (ex.tup _ _ h)) .inr:TupAt K H' a1 xs).sq,(t2.elim (fun h => .inl (ex.tup _ _ h)) .inr:TupAt K H' a2 ys).sq⟩
 yl:=fun H' i d x H'' ex hd y=>by
  obtain ⟨p,u,v,hp,hu,hv,rfl,rfl⟩:=y
  obtain ⟨dx,dy,h1,h2,rfl⟩:=qdQ hd
  obtain ⟨u',g1,g2⟩:=i1.get h1
  obtain ⟨v',g3,g4⟩:=i2.get h2
  rw [hu] at g1
  rw [hv] at g3
  cases g1
  cases g3
  have sm:=qB hp (.tup [u,v])
  exact ⟨sm,p,[u,v],rfl,.inl qv,u,[v],rfl,Is.ext (Ext.of_same sm) (fun _ h _=>h) (Is.ext ex (fun _ h _=>h) g2),v,[],rfl,Is.ext (Ext.of_same sm) (fun _ h _=>h) (Is.ext ex (fun _ h _=>h) g4),rfl⟩
 stop:=fun H' ex=>⟨by rw [qbA,i1.length,i2.length],(t1.elim (fun h => .inl (ex.tup _ _ h)) .inr:TupAt K H' a1 xs).sq,(t2.elim (fun h => .inl (ex.tup _ _ h)) .inr:TupAt K H' a2 ys).sq⟩
def qlY:List D->Option (List D)
 | [.tup xs,.tup ys]=>some (qc0 xs ys)
 | _=>none
def qlZ (f:M (List D)):M (List D):=bnd f fun ds=>lift (qlY ds)
theorem ql0 {f:M (List D)} {p:Pos} (hg:Gl X "zip") (hm:X.mg "zip"=none) (ha:DA X c [a,b] f) (hs:starEach [a,b] X.env=[(false,eval a X.env),(false,eval b X.env)]:=by rfl) (hs2:starEach [b] X.env=[(false,eval b X.env)]:=by rfl) :
  DI X c (.Tuple es kk tp) (.Call (.Name "zip" p) [a,b] [] pos) (qlZ f):=by
 obtain ⟨t,pa,w⟩:=ha
 refine ⟨_,qlW hg hm pa hs hs2,fun U Z H Q r h=>w U Z H _ r (WpL.bndI h fun ds U1 vs H1 r1 i1 g1 h1 => ?_)⟩
 obtain ⟨es',e,h2⟩:=qby h1
 unfold qlY at e
 split at e
 ·obtain ⟨v,u,rfl,j1,j2⟩:=IsL.inv2 i1
  cases e
  obtain ⟨a1,xs,rfl,t1,il1⟩:=Is.tr j1
  obtain ⟨a2,ys,rfl,t2,il2⟩:=Is.tr j2
  exact ⟨a1,a2,xs,ys,rfl,t1.sq,t2.sq,h2 _ H1 r1 (qlX t1 t2 il1 il2) .refl⟩
 ·cases e
end
theorem qbB:fillsNumberSlot (.type "tuple") "mul"=pure false:=by
 first | kernel_rfl | (unfold fillsNumberSlot;kernel_rfl) | decide +kernel
theorem qeG:seqRepeat? (.type "tuple")=pure (some (.builtin "tuple.__mul__")):=by
 first | kernel_rfl | (unfold seqRepeat?;kernel_rfl) | decide +kernel
theorem qcu (a:Int) (t:Tok) (l:Addr) (dd:Option Addr) (items:Array Value) (n:Nat) (sl:Array (Option Value)) :
  Meets (Builtin.«int.__rmul__» ⟨[.int a t,.ref l],[]⟩) (fun _ R s=>s.heap.get? l=some { cls := .type "tuple",dict:=dd,data := .seq items n,slots:=sl }/\R (.ok (.ret .notImplemented)) s) :=
 .of_wp fun prog w A R s h=>by
  obtain ⟨hp,g,d,tk,os⟩:=s
  obtain ⟨hl,h⟩:=h
  wp_walk using wpAny_loadPart' hl
  exact ⟨_,rfl,h⟩
theorem ql1 (l:Addr) (dd:Option Addr) (items:Array Value) (n:Nat) (sl:Array (Option Value)) (k:Int) (t:Tok) (h0:¬ items.isEmpty=true) (h1:¬ (k==1)=true) (h2:¬ k<=0) (h3:¬ (decide (k < -(2 ^ 63))||decide (k >= 2 ^ 63))=true)
  (h4:¬ (items.size:Int)*k>(2 ^ 63-1)/8) (h5:¬ Builtin.Tuple.tupleTooMany ((items.size:Int)*k)=true) (h6:((List.replicate k.toNat items).foldl (·++·) #[]).size<=sizeLine) :
  Meets (Builtin.«tuple.__mul__» ⟨[.ref l,.int k t],[]⟩) (fun _ R s=>s.heap.get? l=some { cls := .type "tuple",dict:=dd,data := .seq items n,slots:=sl } /\
   R (.ok (.ret (.ref s.heap.objs.size))) { s with heap:=s.heap.push { cls := .type "tuple",data := .seq ((List.replicate k.toNat items).foldl (·++·) #[]) } }) :=
 .of_wp fun prog w A R s h=>by
  obtain ⟨hp,g,d,tk,os⟩:=s
  obtain ⟨hl,h⟩:=h
  have f1:=AutoSeq1.idx_int
  have f2:=AutoSeq1.sub_tuple_tuple
  have h01:¬ (items.isEmpty||k==1)=true:=by simp only [Bool.or_eq_true,not_or];exact ⟨h0,h1⟩
  have h02:¬ (decide (k<=0)||items.isEmpty)=true:=by simp only [Bool.or_eq_true,decide_eq_true_eq,not_or];exact ⟨h2,h0⟩
  wp_walk using wpAny_loadPart' hl
  rw [if_neg h3]
  wp_walk using wpAny_loadPart' hl
  rw [if_neg h4]
  wp_walk using wpAny_loadPart' hl
  exact ⟨_,rfl,h⟩
section
variable {X:Cx}
def ql2 (K:Fr0):R2:=fun x y H Q=>∃ a xs k,x = .ref a/\y = .int k/\SqT K H a xs/\xs≠[]/\2<=k/\xs.length*k.toNat<=sizeLine/\∀ p,H p=none->Q (.ref p) (upd H p (.tup (List.replicate k.toNat xs).flatten))
theorem qj4:OpR X (binaryOp .Mult) (ql2 X.K):=by
 intro pins s Z H x y v u Q I rx ry h
 obtain ⟨a,xs,k,rfl,rfl,hx,hne,hk,hz,q⟩:=h
 cases rx
 obtain ⟨t,rfl⟩:=ry
 obtain ⟨its,r,p1,_⟩:=I.tuple hx
 obtain ⟨⟨cls,dd,data,sl⟩,ho,hc,n,hd⟩:=id p1
 simp only at hc hd
 subst hc hd
 have hl:=r.length
 have hnew:List.foldl (fun x1 x2=>x1++x2) #[] (List.replicate k.toNat its.toArray)=(List.replicate k.toNat its).flatten.toArray:=by
  have:=w6 its k.toNat []
  rw [List.nil_append] at this
  exact this
 have hlen:(List.replicate k.toNat its).flatten.length=k.toNat*its.length:=qc4 its k.toNat
 have hsl:(sizeLine:Nat)=16777216:=sizeLine_eq
 have e0:¬ its.toArray.isEmpty=true:=by
  intro e
  have:its=[]:=by simpa using e
  rw [this] at hl
  exact hne (List.length_eq_zero_iff.mp hl)
 have pos1:1<=its.length:=by
  cases its with
  | nil=>simp at e0
  | cons z zs=>simp
 have kk:((k.toNat:Nat):Int)=k:=Int.toNat_of_nonneg (by omega)
 have mm:(its.toArray.size:Int)*k=((its.length*k.toNat:Nat):Int):=by rw [sT_,Int.natCast_mul,kk]
 have zz:its.length*k.toNat<=sizeLine:=by rw [<- hl];exact hz
 have kle:k.toNat<=its.length*k.toNat:=Nat.le_mul_of_pos_left _ pos1
 have T1:s.TypeIs (.ref a) "tuple":=⟨_,ho,rfl⟩
 refine wpAny_binaryOp_repeat_ref (T:="tuple") (U:="int") (by decide) T1 (fun s'=>typeIs_int s' k t) qbB F.fills_int_mul F.slot_int_rmul qeG F.slot_int_index.lookup
  (call_meets F.slot_int_rmul (typeIs_int s k t) F.entry_int_rmul (F.args_int_rmul_2 _ _) (qcu k t a dd its.toArray n sl)
   ⟨ho,rfl,T1,call_meets F.slot_tuple_mul T1 F.entry_tuple_mul (F.args_tuple_mul_2 _ _) (ql1 a dd its.toArray n sl k t e0 (by simp;omega) (by omega) (by simp;omega) (by rw [mm];omega) ?_ (by rw [hnew,sT_,hlen,Nat.mul_comm];exact zz)) ⟨ho,?_⟩⟩)
 ·rw [mm]
  show ¬ decide (((its.length*k.toNat:Nat):Int)>(sizeLine:Int))=true
  rw [decide_eq_true_eq]
  omega
 ·rw [hnew]
  refine ⟨.ref s.heap.objs.size,_,I.laid (t':=s.toks) (o := .tup (List.replicate k.toNat xs).flatten) (fun b ob q=>Heap.get?_push_of_some _ q) (Nat.le_refl _) ?_,rfl,q _ (I.hok.fresh (Nat.le_refl _))⟩
  exact ⟨by rw [qc4,Nat.mul_comm];exact hz,_,r.rep k.toNat,IsTup.new _ _⟩
def ql3 (K:Fr0):R2:=fun x y H Q=>(rI qlg (fun i j => .int (i*j))) x y H Q\/(ql2 K x y H Q\/qn6 x y H Q)
theorem jF:OpR X (binaryOp .Mult) (ql3 X.K):=OpR.or qli (OpR.or qj4 qly)
end
def yj:D->D->Option D
 | .int i,.int j=>if qc7 i j then some (.int (i*j)) else none
 | .tup ds,.int k=>if (!ds.isEmpty&&decide (2<=k))&&qQ (ds.length*k.toNat) then some (.tup (List.replicate k.toNat ds).flatten) else none
 | .lst ds,.int k=>if (decide (-(2 ^ 62)<=k)&&decide (k<2 ^ 62))&&qQ (ds.length*k.toNat) then some (.lst (List.replicate k.toNat ds).flatten) else none
 | _,_=>none
theorem IsL.rep {K:Fr0} {A:Addr->Prop} {H:Hp} {ds:List D} {xs:List V} (h:IsL K A H ds xs):∀ k:Nat,IsL K A H (List.replicate k ds).flatten (List.replicate k xs).flatten
 | 0=>by simp [IsL]
 | k+1=>by
  rw [rS_,rS_,List.flatten_cons,List.flatten_cons]
  exact IsL.append h (IsL.rep h k)
theorem zY {K:Fr0}:OpS K yj (ql3 K):=by
 intro A H x y d v u Q hn ix iy e k
 cases x<;>cases y<;>simp only [yj] at e<;>try (cases e;done)
 ·rename_i i j
  obtain ⟨e1,e2⟩:=zL e
  subst e2
  cases ix;cases iy
  exact .inl ⟨i,j,rfl,rfl,qhh e1,k _ H (zQ.refl H) rfl⟩
 ·rename_i ds j
  obtain ⟨a,xs,rfl,ta,il⟩:=ix
  cases iy
  obtain ⟨e1,e2⟩:=zL e
  subst e2
  rw [Bool.and_eq_true,Bool.and_eq_true] at e1
  obtain ⟨⟨e3,e4⟩,e5⟩:=e1
  refine .inr (.inl ⟨a,xs,j,rfl,rfl,ta.sq,fun z => ?_,of_decide_eq_true e4,by rw [il.length];exact of_decide_eq_true e5,fun p hp=>k _ _ (qB hp _) ⟨p,_,rfl,.inl qv,IsL.ext (Ext.of_same (qB hp _)) (fun _ h _=>h) (IsL.rep il _)⟩⟩)
  have:=il.length
  rw [z] at this
  have:ds=[]:=List.length_eq_zero_iff.mp this.symm
  rw [this] at e3
  simp at e3
 ·rename_i ds j
  obtain ⟨a,xs,rfl,_,ta,il⟩:=ix
  cases iy
  obtain ⟨e1,e2⟩:=zL e
  subst e2
  rw [Bool.and_eq_true,Bool.and_eq_true] at e1
  obtain ⟨⟨e3,e4⟩,e5⟩:=e1
  have e3':=of_decide_eq_true e3
  have e4':=of_decide_eq_true e4
  refine .inr (.inr ⟨a,j,xs,rfl,rfl,ta,by omega,by omega,by rw [il.length];exact of_decide_eq_true e5,fun p hp=>k _ _ (qB hp _) ⟨p,_,rfl,hn p hp,qv,IsL.ext (Ext.of_same (qB hp _)) (fun _ h _=>h) (IsL.rep il _)⟩⟩)
def qcv:D->Option D
 | .int i=>some (.int (-i))
 | _=>none
def d1 (F:D->Option D) (f:M D):M D:=bnd f fun x=>lift (F x)
def qhA (i j:Int):Bool:=decide (0<=j)&&decide (j<=1000000)&&decide (i.natAbs<2 ^ 64)
def qdR:D->D->Option D:=qhg qhA fun i j => .int (i ^ j.toNat)
theorem qfN {K:Fr0}:OpS K qdR (rI qn3 fun i j => .int (i ^ j.toNat)):=qfB (fun i j h=>by
 unfold qhA at h
 rw [Bool.and_eq_true,Bool.and_eq_true] at h
 exact ⟨of_decide_eq_true h.1.1,of_decide_eq_true h.1.2,of_decide_eq_true h.2⟩) fun _ _ _ _=>rfl
section
variable {X:Cx} {c:Fc} {a b e:Expr} {pos:Pos}
theorem qfO {f:M D} (h:DE X c a f):DE X c (.UnaryOp .USub a pos) (d1 qcv f):=by
 obtain ⟨t,p,w⟩:=h
 refine ⟨_,qne qlj p,fun U Z H Q r h=>w U Z H _ r (Wp.bnd h fun d U1 v H1 r1 i1 g1 h1 => ?_)⟩
 obtain ⟨d',e,h2⟩:=h1.lift
 cases d<;>simp only [qcv] at e<;>try (cases e;done)
 rename_i i
 cases e
 cases i1
 exact ⟨i,rfl,h2 _ H1 r1 rfl .refl⟩
def qj5 (i j:Nat) (f:M (List D)):MS:=sbnd f fun ds U=>match ds with
 | [d,e] => .ok (.nx ((U.set i (some d)).set j (some e)))
 | _ => .bad
theorem qiE {i j:Nat} {x y:Str} {f:M (List D)} {px py pt:Pos} {kt k2 pt2} (hN:X.N.Nodup) (ha:DA X c [a,b] f) (hw:swappedStores [.Tuple [.Name x px,.Name y py] kt pt] (.Tuple [a,b] k2 pt2) X.env=pure (some [x,y])) (hc:X.calm=true:=by rfl) (hi:X.N[i]? = some x:=by rfl) (hj:X.N[j]? = some y:=by rfl) (hij:i≠j:=by decide)
  (hx:X.env.scope.names.lookup x=some .local:=by rfl) (hy:X.env.scope.names.lookup y=some .local:=by rfl) (ho:i ∉ c.O:=by exact of_decide_eq_false rfl) (hp:j ∉ c.O:=by exact of_decide_eq_false rfl)
  (hs:swapsWithSole [.Tuple [.Name x px,.Name y py] kt pt] (.Tuple [a,b] k2 pt2) pos.line X.env=pure false:=by rfl) :
  DS X c (.Assign [.Tuple [.Name x px,.Name y py] kt pt] (.Tuple [a,b] k2 pt2) pos) (qj5 i j f):=by
 obtain ⟨t,p,w⟩:=ha
 refine ⟨_,qlc hc hN hi hj hij hx hy p hw hs,fun U Z H D r h=>w U Z H _ r (WpL.sbnd h fun ds U1 vs H1 r1 i1 g1 h1 => ?_)⟩
 match ds,i1,h1 with
 | [],_,h1=>exact h1.elim
 | [_],_,h1=>exact h1.elim
 | [d,e],i1,h1 =>
  obtain ⟨v,u,rfl,j1,j2⟩:=IsL.inv2 i1
  refine ⟨v,u,rfl,h1 _ H1 ((r1.set ho j1).set hp ?_) ((GrS.set ho).trans (GrS.set hp))⟩
  exact (GrS.set (H:=H1) ho).is j2
 | _::_::_::_,_,h1=>exact h1.elim
mutual
def immF:D->Bool
 | .tup ds=>immFs ds
 | .lst _=>false
 | .dic _=>false
 | _=>true
def immFs:List D->Bool
 | []=>true
 | d::ds=>immF d&&immFs ds
end
mutual
theorem Is.immF {K:Fr0} {A B:Addr->Prop} {H:Hp}:∀ {d:D} {v:V},immF d=true->Is K A H d v->Is K B H d v
 | .non,_,_,h=>h
 | .bl _,_,_,h=>h
 | .int _,_,_,h=>h
 | .str _,_,_,h=>h
 | .tup ds,_,i,⟨a,xs,hv,h,r⟩=>⟨a,xs,hv,h,IsL.immF (by simpa [Sk.immF] using i) r⟩
 | .lst _,_,i,_=>by simp [Sk.immF] at i
 | .dic _,_,i,_=>by simp [Sk.immF] at i
 | .fz _,_,_,h=>h
 | .exc _,_,_,h=>h
theorem IsL.immF {K:Fr0} {A B:Addr->Prop} {H:Hp}:∀ {ds:List D} {xs:List V},immFs ds=true->IsL K A H ds xs->IsL K B H ds xs
 | [],_,_,h=>h
 | d::ds,_,i,⟨x,ys,hx,h,r⟩=>by
  have i':Sk.immF d=true/\immFs ds=true:=by simpa [immFs] using i
  exact ⟨x,ys,hx,Is.immF i'.1 h,IsL.immF i'.2 r⟩
end
def qcw (F:List D->R D) (g:M (List D)):M (List D):=bnd g fun ds U=>if immFs ds then match F ds with
 | .ok (.lst bs)=>if immL bs then .ok (bs,U) else .bad
 | _ => .bad else .bad
theorem qj6 {k:Nat} {f:Addr} {fd:FuncData} {ps:List Str} {F:List D->R D} {x:Str} {p:Pos} {es:List Expr} {g:M (List D)} (G:u7 X.prog X.w X.K X.mg X.base CX0 k f fd ps (spD X.K F)) (hr:yo k X.A) (hg:Gl X x) (hm:X.mg x=some (.ref f)) (hk:PySem.W.keepIn X.K (.ref f)=true) (hb:uK X.K fd ps [])
  (ha:DA X c (e::es) g) (hd:(x==("__debug__":Str))=false:=by decide) (he:starEach (e::es) X.env=(false,eval e X.env)::starEach es X.env:=by rfl) (hpl:(backTo pos (starEach es X.env)).any (·.1)=false:=by rfl):DN X c (.Call (.Name x p) (e::es) [] pos) (qcw F g):=by
 obtain ⟨t,pa,w⟩:=ha
 refine ⟨_,wX G hr hg hm hk hb .nil qjD pa hd he hpl,fun U Z H Q r h=>w U Z H _ r (WpL.bndN h fun ds U1 vs H1 r1 i1 g1 h1 => ?_)⟩
 rw [List.append_nil]
 by_cases him:immFs ds=true
 ·rw [if_pos him] at h1
  refine ⟨ds,fun _=>False,IsL.immF him i1,r1.tb,?_⟩
  cases ef:F ds with
  | bad=>simp only [ef] at h1;exact h1.elim
  | exc z U'=>simp only [ef] at h1;exact h1.elim
  | ok d =>
   cases d with
   | lst bs =>
    simp only [ef] at h1
    by_cases hb2:immL bs=true
    ·rw [if_pos hb2] at h1
     intro v H' sm i
     obtain ⟨a,xs,rfl,hA,ha2,il⟩:=i
     have hn:H1 a=none:=hA.elim False.elim id
     exact h1 a xs H' hn (r1.same sm) (r1.apart_same hn sm) ha2 trivial (IsL.imm hb2 il) (.of_same sm)
    ·rw [if_neg hb2] at h1;exact h1.elim
   | _=>simp only [ef] at h1;exact h1.elim
 ·rw [if_neg him] at h1;exact h1.elim
end
structure qj7 (outer:Scope) (N:List Str) (scope:Scope) (N':List Str) (nt:Nat) (fr:List Nat):Prop where
 kind:scope.kind = .function
 nocell:∀ y∈scope.names,y.2 ≠ .cell
 names:∀ y∈scope.names,y.2 = .local->scope.names.lookup y.1=some .local
 frees:∀ y∈scope.names,y.2 = .free->outer.names.lookup y.1=some .cell
 len:N'.length=nt+fr.length
 slots:∀ p∈fr.zipIdx,N'[nt+p.2]? = N[p.1]? /\ ((N[p.1]?).bind fun x=>scope.names.lookup x)=some .free
theorem qj7.ok {X:Cx} {outer:Scope} {N:List Str} {scope:Scope} {N':List Str} {nt:Nat} {fr:List Nat} (S:qj7 outer N scope N' nt fr) (h1:X.env.scope=outer) (h2:X.N=N):j6 X scope N' nt fr:=by
 subst h1 h2
 refine ⟨S.kind,S.nocell,S.names,S.frees,S.len,fun i j h => ?_⟩
 have hm:(j,i)∈fr.zipIdx:=by
  rw [List.mem_iff_getElem?]
  refine ⟨i,?_⟩
  rw [List.getElem?_zipIdx,h]
  simp
 obtain ⟨h3,h4⟩:=S.slots (j,i) hm
 cases e:X.N[j]? with
 | none =>
  have h4':((X.N[j]?).bind fun x=>scope.names.lookup x)=some .free:=h4
  rw [e] at h4';cases h4'
 | some x =>
  have h4':((X.N[j]?).bind fun x=>scope.names.lookup x)=some .free:=h4
  rw [e] at h4'
  exact ⟨x,by
    have h3':N'[nt+i]? = X.N[j]? := h3
    rw [h3',e],rfl,h4'⟩
structure zD (P:Program) (w:World) (K:PySem.W.Frag) (mg:Str->Option Value) (base:Heap) (k:Nat) (x:Str) (ps:List Str) (sp:Sp):Prop where
 ex:∃ f fd,u7 P w K mg base CX0 k f fd ps sp/\mg x=some (.ref f)/\PySem.W.keepIn K (.ref f)=true/\uK K fd ps []
theorem qan:bootBuiltins "len"=some (.builtin "len"):=by decide +kernel
theorem ql4:bootBuiltins "abs"=some (.builtin "abs"):=by decide +kernel
theorem qao:bootBuiltins "max"=some (.builtin "max"):=by decide +kernel
theorem qfP:bootBuiltins "min"=some (.builtin "min"):=by decide +kernel
theorem qiF:bootBuiltins "all"=some (.builtin "all"):=by decide +kernel
theorem ql5:bootBuiltins "sum"=some (.builtin "sum"):=by decide +kernel
theorem qfQ:bootBuiltins "divmod"=some (.builtin "divmod"):=by decide +kernel
theorem qbC:bootBuiltins "repr"=some (.builtin "repr"):=by decide +kernel
theorem ql6:bootBuiltins "int"=some (.type "int"):=by decide +kernel
theorem qj8:bootBuiltins "bool"=some (.type "bool"):=by decide +kernel
theorem vB:bootBuiltins "tuple"=some (.type "tuple"):=by decide +kernel
theorem qI:bootBuiltins "isinstance"=some (.builtin "isinstance"):=by decide +kernel
def yF:MS:=fun U => .ok (.nx U)
theorem qX {X:Cx} {c:Fc}:DSs X c [] yF:=qjG
theorem qL {X:Cx}:IxR X (fun x y H Q=>qno X.K x y H Q\/qnp X.K x y H Q):=qfq.or qlu
theorem qj9 {c:Fc} {nt:Nat} {fr:List Nat} {i j:Nat} (h1:j∈c.O) (h2:nt<=i) (h3:fr[i-nt]? = some j) (h4:∀ p∈fr.zipIdx,nt+p.2≠i->p.1 ∉ c.O):qjR c nt fr (some (i,j)) :=
 ⟨h1,h2,h3,fun k j' h hk=>h4 (j',k) (by rw [List.mem_iff_getElem?];exact ⟨k,by rw [List.getElem?_zipIdx,h];simp⟩) hk⟩
def eqB (x y:D):Option D:=match sc2 x y with
 | some b=>some (.bl b)
 | none=>eqA x y
def neB (x y:D):Option D:=match sc2 x y with
 | some b=>some (.bl (!b))
 | none=>neA x y
theorem vc {X:Cx} {k:Nat} (hr:yo k X.A):OpR X (compareOp .Eq) (fun x y H Q=>rEq x y H Q\/qiB X.K false x y H Q):=OpR.or qng (qlT hr)
theorem qcx {X:Cx} {k:Nat} (hr:yo k X.A):OpR X (compareOp .NotEq) (fun x y H Q=>rNe x y H Q\/qiB X.K true x y H Q):=OpR.or qlk (qiC hr)
theorem yU {K:Fr0}:OpS K eqB (fun x y H Q=>rEq x y H Q\/qiB K false x y H Q):=by
 intro A H x y d v u Q hn ix iy e k
 unfold eqB at e
 cases e1:sc2 x y with
 | some b=>simp only [e1] at e;exact .inl (qjH A H x y d v u Q hn ix iy (by unfold eqS;rw [e1];exact e) k)
 | none=>simp only [e1] at e;exact .inr (qjX A H x y d v u Q hn ix iy e k)
theorem qap {K:Fr0}:OpS K neB (fun x y H Q=>rNe x y H Q\/qiB K true x y H Q):=by
 intro A H x y d v u Q hn ix iy e k
 unfold neB at e
 cases e1:sc2 x y with
 | some b=>simp only [e1] at e;exact .inl (qfC A H x y d v u Q hn ix iy (by unfold neS;rw [e1];exact e) k)
 | none=>simp only [e1] at e;exact .inr (qjY A H x y d v u Q hn ix iy e k)
end L2.Sk
namespace L2.Sk
section
variable {α β:Type} {U:Env} {f g k:M D} {t u:M Bool} {l m:M (List D)} {p q r:MS}
theorem qdd (a:α):ret a U = .ok (a,U):=rfl
theorem qfR (o:Option α):lift o U=match o with | some a => .ok (a,U) | none => .bad:=by cases o<;>rfl
theorem qnu {f:M α} {k:α->M β}:bnd f k U=match f U with | .ok (a,U')=>k a U' | .exc x U' => .exc x U' | .bad => .bad:=rfl
theorem qoa (i:Nat):dv i U=match U[i]? with | some (some d) => .ok (d,U) | _ => .bad:=rfl
theorem yV:qa f l U=match f U with | .ok (d,U1)=>(match l U1 with | .ok (ds,U2) => .ok (d::ds,U2) | .exc x U' => .exc x U' | .bad => .bad) | .exc x U' => .exc x U' | .bad => .bad:=by
 simp only [qa,bnd,sbnd]
 cases f U with
 | ok z =>
  obtain ⟨z1,U1⟩:=z
  simp only [ret]
  cases l U1 with
  | ok z=>obtain ⟨z2,U2⟩:=z;rfl
  | exc x U'=>rfl
  | bad=>rfl
 | exc x U'=>rfl
 | bad=>rfl
theorem qaq:zW l U=match l U with | .ok (ds,U1)=>(if qQ ds.length then .ok (.tup ds,U1) else .bad) | .exc x U' => .exc x U' | .bad => .bad:=by
 simp only [zW,bnd,sbnd]
 cases l U with
 | ok z =>
  obtain ⟨z1,U1⟩:=z
  cases h:qQ z1.length<;>simp [h,lift,ret]
 | exc x U'=>rfl
 | bad=>rfl
theorem qdS:jA l U=match l U with | .ok (ds,U1)=>(if qQ ds.length then .ok (.lst ds,U1) else .bad) | .exc x U' => .exc x U' | .bad => .bad:=by
 simp only [jA,bnd,sbnd]
 cases l U with
 | ok z =>
  obtain ⟨z1,U1⟩:=z
  cases h:qQ z1.length<;>simp [h,lift,ret]
 | exc x U'=>rfl
 | bad=>rfl
theorem qiG:qiz l U=match l U with | .ok (ds,U1)=>(if immL ds&&qQ ds.length then .ok (ds,U1) else .bad) | .exc x U' => .exc x U' | .bad => .bad:=by
 simp only [qiz,bnd,sbnd]
 cases l U with
 | ok z =>
  obtain ⟨z1,U1⟩:=z
  cases h:(immL z1&&qQ z1.length)<;>simp [h,lift,ret]
 | exc x U'=>rfl
 | bad=>rfl
theorem qnv (F:D->D->Option D):d2 F f g U=match f U with | .ok (x,U1)=>(match g U1 with | .ok (y,U2)=>(match F x y with | some d => .ok (d,U2) | none => .bad) | .exc x U' => .exc x U' | .bad => .bad) | .exc x U' => .exc x U' | .bad => .bad:=by
 simp only [d2,bnd,sbnd]
 cases f U with
 | ok z =>
  obtain ⟨z1,U1⟩:=z
  dsimp only <;>
  cases g U1 with
  | ok z=>obtain ⟨z2,U2⟩:=z;(dsimp only;cases F z1 z2<;>rfl)
  | exc x U'=>rfl
  | bad=>rfl
 | exc x U'=>rfl
 | bad=>rfl
theorem qnw (F:D->Option D):d1 F f U=match f U with | .ok (x,U1)=>(match F x with | some d => .ok (d,U1) | none => .bad) | .exc x U' => .exc x U' | .bad => .bad:=by
 simp only [d1,bnd,sbnd]
 cases f U with
 | ok z =>
  obtain ⟨z1,U1⟩:=z
  (dsimp only;cases F z1<;>rfl)
 | exc x U'=>rfl
 | bad=>rfl
theorem qar (F:List D->Option D):qE F l U=match l U with | .ok (xs,U1)=>(match F xs with | some d => .ok (d,U1) | none => .bad) | .exc x U' => .exc x U' | .bad => .bad:=by
 simp only [qE,bnd,sbnd]
 cases l U with
 | ok z =>
  obtain ⟨z1,U1⟩:=z
  (dsimp only;cases F z1<;>rfl)
 | exc x U'=>rfl
 | bad=>rfl
theorem vC (F:List D->R D):qo F l U=match l U with | .ok (xs,U1)=>(match F xs with | .ok d => .ok (d,U1) | _ => .bad) | .exc x U' => .exc x U' | .bad => .bad:=by
 simp only [qo,bnd,sbnd]
 cases l U with
 | ok z =>
  obtain ⟨z1,U1⟩:=z
  cases F z1<;>rfl
 | exc x U'=>rfl
 | bad=>rfl
theorem qiH (T:String):qjM T f U=match f U with | .ok (d,U1) => .ok (.bl (qc9 (tyD d) T),U1) | .exc x U' => .exc x U' | .bad => .bad:=by
 simp only [qjM,bnd,sbnd]
 cases f U with
 | ok z =>
  obtain ⟨z1,U1⟩:=z
  rfl
 | exc x U'=>rfl
 | bad=>rfl
theorem qka:tst f U=match f U with | .ok (d,U1)=>(match asB d with | some b => .ok (b,U1) | none => .bad) | .exc x U' => .exc x U' | .bad => .bad:=by
 simp only [tst,bnd,sbnd]
 cases f U with
 | ok z =>
  obtain ⟨z1,U1⟩:=z
  (dsimp only;cases asB z1<;>rfl)
 | exc x U'=>rfl
 | bad=>rfl
theorem wA (b:Bool):asB (.bl b)=some b:=rfl
theorem qdT:qfx t U=match t U with | .ok (b,U1) => .ok (!b,U1) | .exc x U' => .exc x U' | .bad => .bad:=by
 simp only [qfx,bnd,sbnd]
 cases t U with
 | ok z =>
  obtain ⟨z1,U1⟩:=z
  rfl
 | exc x U'=>rfl
 | bad=>rfl
theorem qiI:qjE t u U=match t U with | .ok (b,U1)=>(bif b then u U1 else .ok (false,U1)) | .exc x U' => .exc x U' | .bad => .bad:=by
 simp only [qjE,bnd,sbnd]
 cases t U with
 | ok z =>
  obtain ⟨z1,U1⟩:=z
  cases z1<;>rfl
 | exc x U'=>rfl
 | bad=>rfl
theorem qfS:tor t u U=match t U with | .ok (b,U1)=>(bif b then .ok (true,U1) else u U1) | .exc x U' => .exc x U' | .bad => .bad:=by
 simp only [tor,bnd,sbnd]
 cases t U with
 | ok z =>
  obtain ⟨z1,U1⟩:=z
  cases z1<;>rfl
 | exc x U'=>rfl
 | bad=>rfl
theorem qiJ:qkP f g U=match f U with | .ok (d,U1)=>(match asB d with | some b=>(bif b then g U1 else .ok (.bl false,U1)) | none => .bad) | .exc x U' => .exc x U' | .bad => .bad:=by
 simp only [qkP,bnd,sbnd]
 cases f U with
 | ok z =>
  obtain ⟨z1,U1⟩:=z
  simp only [qfR]
  cases asB z1 with
  | none=>rfl
  | some b=>cases b<;>rfl
 | exc x U'=>rfl
 | bad=>rfl
theorem ql7:dor f g U=match f U with | .ok (d,U1)=>(match asB d with | some b=>(bif b then .ok (.bl true,U1) else g U1) | none => .bad) | .exc x U' => .exc x U' | .bad => .bad:=by
 simp only [dor,bnd,sbnd]
 cases f U with
 | ok z =>
  obtain ⟨z1,U1⟩:=z
  simp only [qfR]
  cases asB z1 with
  | none=>rfl
  | some b=>cases b<;>rfl
 | exc x U'=>rfl
 | bad=>rfl
theorem qiK:qmT f U=match f U with | .ok (d,U1)=>(match asB d with | some b => .ok (.bl (!b),U1) | none => .bad) | .exc x U' => .exc x U' | .bad => .bad:=by
 simp only [qmT,bnd,sbnd]
 cases f U with
 | ok z =>
  obtain ⟨z1,U1⟩:=z
  simp only [qfR]
  cases asB z1 with
  | none=>rfl
  | some b=>cases b<;>rfl
 | exc x U'=>rfl
 | bad=>rfl
theorem ql8:dif t f g U=match t U with | .ok (b,U1)=>(bif b then f U1 else g U1) | .exc x U' => .exc x U' | .bad => .bad:=by
 simp only [dif,bnd,sbnd]
 cases t U with
 | ok z =>
  obtain ⟨z1,U1⟩:=z
  cases z1<;>rfl
 | exc x U'=>rfl
 | bad=>rfl
theorem qhB:sif t p q U=match t U with | .ok (b,U1)=>(bif b then p U1 else q U1) | .exc x U' => .exc x U' | .bad => .bad:=by
 simp only [sif,bnd,sbnd]
 cases t U with
 | ok z =>
  obtain ⟨z1,U1⟩:=z
  cases z1<;>rfl
 | exc x U'=>rfl
 | bad=>rfl
theorem qiL:qR p q U=match p U with | .ok (.nx U')=>q U' | z=>z:=by
 unfold qR
 cases p U with
 | ok z=>cases z<;>rfl
 | exc x U'=>rfl
 | bad=>rfl
theorem qa7:jN f U=match f U with | .ok (d,U1) => .ok (.rt d U1) | .exc x U' => .exc x U' | .bad => .bad:=by
 simp only [jN,bnd,sbnd]
 cases f U with
 | ok z =>
  obtain ⟨z1,U1⟩:=z
  rfl
 | exc x U'=>rfl
 | bad=>rfl
theorem vE (i:Nat):zJ i f U=match f U with | .ok (d,U1) => .ok (.nx (U1.set i (some d))) | .exc x U' => .exc x U' | .bad => .bad:=by
 simp only [zJ,bnd,sbnd]
 cases f U with
 | ok z =>
  obtain ⟨z1,U1⟩:=z
  rfl
 | exc x U'=>rfl
 | bad=>rfl
theorem qfT (i:Nat):vY i l U=match l U with | .ok (ds,U1) => .ok (.nx (U1.set i (some (.lst ds)))) | .exc x U' => .exc x U' | .bad => .bad:=by
 simp only [vY,bnd,sbnd]
 cases l U with
 | ok z =>
  obtain ⟨z1,U1⟩:=z
  rfl
 | exc x U'=>rfl
 | bad=>rfl
theorem vm:ye f U=match f U with | .ok (_,U1) => .ok (.nx U1) | .exc x U' => .exc x U' | .bad => .bad:=by
 simp only [ye,bnd,sbnd]
 cases f U with
 | ok z =>
  obtain ⟨z1,U1⟩:=z
  rfl
 | exc x U'=>rfl
 | bad=>rfl
theorem qiM:yF U = .ok (.nx U):=rfl
theorem qiN (i j:Nat):qj5 i j l U=match l U with | .ok ([d,e],U1) => .ok (.nx ((U1.set i (some d)).set j (some e))) | .ok _ => .bad | .exc x U' => .exc x U' | .bad => .bad:=by
 simp only [qj5,bnd,sbnd]
 cases l U with
 | ok z =>
  obtain ⟨z1,U1⟩:=z
  match z1 with
  | []=>rfl
  | [_]=>rfl
  | [_,_]=>rfl
  | _::_::_::_=>rfl
 | exc x U'=>rfl
 | bad=>rfl
theorem qfU (G:D->Env->Option Env):qhf f G U=match f U with | .ok (d,U1)=>(match G d U1 with | some U2 => .ok (.nx U2) | none => .bad) | .exc x U' => .exc x U' | .bad => .bad:=by
 simp only [qhf,bnd,sbnd]
 cases f U with
 | ok z =>
  obtain ⟨z1,U1⟩:=z
  dsimp only <;>
  cases G z1 U1<;>rfl
 | exc x U'=>rfl
 | bad=>rfl
theorem yG (G:D->Env->Option Env) (b:MS):vR l G b U=match l U with | .ok (ds,U1)=>ua G b ds U1 | .exc x U' => .exc x U' | .bad => .bad:=by
 simp only [vR,bnd,sbnd]
 cases l U with
 | ok z =>
  obtain ⟨z1,U1⟩:=z
  rfl
 | exc x U'=>rfl
 | bad=>rfl
theorem qcy:jD f U=match f U with | .ok (d,U1)=>(match qjP d with | some ds => .ok (ds,U1) | none => .bad) | .exc x U' => .exc x U' | .bad => .bad:=by
 simp only [jD,bnd,sbnd]
 cases f U with
 | ok z =>
  obtain ⟨z1,U1⟩:=z
  (dsimp only;cases qjP z1<;>rfl)
 | exc x U'=>rfl
 | bad=>rfl
theorem qfV:z5 l U=match l U with | .ok (d,U1)=>(match qiy d with | some ds => .ok (ds,U1) | none => .bad) | .exc x U' => .exc x U' | .bad => .bad:=by
 simp only [z5,bnd,sbnd]
 cases l U with
 | ok z =>
  obtain ⟨z1,U1⟩:=z
  (dsimp only;cases qiy z1<;>rfl)
 | exc x U'=>rfl
 | bad=>rfl
theorem qfW:qlZ l U=match l U with | .ok (d,U1)=>(match qlY d with | some ds => .ok (ds,U1) | none => .bad) | .exc x U' => .exc x U' | .bad => .bad:=by
 simp only [qlZ,bnd,sbnd]
 cases l U with
 | ok z =>
  obtain ⟨z1,U1⟩:=z
  (dsimp only;cases qlY z1<;>rfl)
 | exc x U'=>rfl
 | bad=>rfl
theorem qbD {nt:Nat} {fr:List Nat} {fo:Option (Nat×Nat)} {G:D->Env->Option Env} {e:M D}:qV nt fr fo l G t e U=match l U with
  | .ok (ds,U1)=>(match zB G t e ds [] (jM nt fr U1) with | .ok (ys,Ue) => .ok (.lst ys,qjQ fo Ue U1) | _ => .bad) | .exc x U' => .exc x U' | .bad => .bad:=by
 simp only [qV,bnd,sbnd]
 cases l U with
 | ok z =>
  obtain ⟨z1,U1⟩:=z
  dsimp only <;>
  cases zB G t e z1 [] (jM nt fr U1) with
  | ok z=>obtain ⟨z2,U2⟩:=z;rfl
  | exc x U'=>rfl
  | bad=>rfl
 | exc x U'=>rfl
 | bad=>rfl
theorem qas (F:List D->List D->R (D×List D)) (i:Nat):qk F i l U=match zt i U with
  | none => .bad
  | some _=>(match l U with
   | .ok (ds,U1)=>(match zt i U1 with
    | none => .bad
    | some bs=>(match F bs ds with | .ok (d,bs') => .ok (d,U1.set i (some (.lst bs'))) | _ => .bad))
   | .exc x U' => .exc x U' | .bad => .bad):=by
 simp only [qk,bnd]
 cases zt i U with
 | none=>rfl
 | some _ =>
  dsimp only <;>
  cases l U with
  | ok z =>
   obtain ⟨z1,U1⟩:=z
   dsimp only <;>
   cases zt i U1 with
   | none=>rfl
   | some bs =>
    dsimp only <;>
    cases F bs z1 with
    | ok z=>obtain ⟨z2,z3⟩:=z;rfl
    | exc x U'=>rfl
    | bad=>rfl
  | exc x U'=>rfl
  | bad=>rfl
theorem qfX (F:List D->R D):qcw F l U=match l U with
  | .ok (ds,U1)=>(if immFs ds then (match F ds with | .ok (.lst bs)=>(if immL bs then .ok (bs,U1) else .bad) | _ => .bad) else .bad) | .exc x U' => .exc x U' | .bad => .bad:=by
 simp only [qcw,bnd,sbnd]
 cases l U with
 | ok z =>
  obtain ⟨z1,U1⟩:=z
  dsimp only <;>
  cases immFs z1 with
  | false=>rfl
  | true =>
   simp only [if_true]
   cases F z1 with
   | ok z=>cases z<;>rfl
   | exc x U'=>rfl
   | bad=>rfl
 | exc x U'=>rfl
 | bad=>rfl
theorem qfY (i:Nat):qdb i f U=match zt i U with
  | none => .bad
  | some _=>(match f U with
   | .ok (k,U1)=>(match k,zt i U1 with
    | .int n,some ds=>(match atI ds n with | some d => .ok (d,U1) | none => .bad)
    | _,_ => .bad)
   | .exc x U' => .exc x U' | .bad => .bad):=by
 simp only [qdb,bnd]
 cases zt i U with
 | none=>rfl
 | some _ =>
  dsimp only <;>
  cases f U with
  | ok z =>
   obtain ⟨z1,U1⟩:=z
   dsimp only <;>
   cases z1<;>cases zt i U1<;>try rfl
  | exc x U'=>rfl
  | bad=>rfl
theorem qfZ (i:Nat):qht i k f U=match f U with
  | .ok (d,U1)=>(match zt i U1 with
   | none => .bad
   | some _=>(match k U1 with
    | .ok (j,U2)=>(match j,zt i U2 with
     | .int n,some ds=>(match ixN ds.length n with
      | some q=>if imm d then .ok (.nx (U2.set i (some (.lst (ds.set q d))))) else .bad
      | none => .bad)
     | _,_ => .bad)
    | .exc x U' => .exc x U' | .bad => .bad))
  | .exc x U' => .exc x U' | .bad => .bad:=by
 simp only [qht,bnd,sbnd]
 cases f U with
 | ok z =>
  obtain ⟨z1,U1⟩:=z
  dsimp only <;>
  cases zt i U1 with
  | none=>rfl
  | some _ =>
   dsimp only <;>
   cases k U1 with
   | ok z =>
    obtain ⟨z2,U2⟩:=z
    dsimp only <;>
    cases z2<;>cases zt i U2<;>try rfl
   | exc x U'=>rfl
   | bad=>rfl
 | exc x U'=>rfl
 | bad=>rfl
theorem qf0 (i:Nat):qcs i U=match zt i U with | some ds => .ok (.int ds.length,U) | none => .bad:=by
 unfold qcs
 cases zt i U<;>rfl
theorem qf1 (i:Nat):qeF i U=match zt i U with | some ds => .ok (.tup ds,U) | none => .bad:=by
 unfold qeF
 cases zt i U<;>rfl
theorem qiO (i:Nat):qiD i f U=match zt i U with
  | none => .bad
  | some _=>(match f U with
   | .ok (y,U1)=>(match zt i U1 with
    | none => .bad
    | some ds=>(match neA (.lst ds) y with | some d => .ok (d,U1) | none => .bad))
   | .exc x U' => .exc x U' | .bad => .bad):=by
 simp only [qiD,bnd]
 cases zt i U with
 | none=>rfl
 | some _ =>
  dsimp only <;>
  cases f U with
  | ok z =>
   obtain ⟨z1,U1⟩:=z
   dsimp only <;>
   cases zt i U1 with
   | none=>rfl
   | some ds=>(dsimp only;cases neA (.lst ds) z1<;>rfl)
  | exc x U'=>rfl
  | bad=>rfl
theorem vF (i:Nat):jj i f U=match zt i U with
  | none => .bad
  | some _=>(match f U with
   | .ok (d,U1)=>(match zt i U1 with
    | some ds=>if imm d&&qQ (ds.length+1) then .ok (.non,U1.set i (some (.lst (ds++[d])))) else .bad
    | none => .bad)
   | .exc x U' => .exc x U' | .bad => .bad):=by
 simp only [jj,bnd]
 cases zt i U with
 | none=>rfl
 | some _ =>
  dsimp only <;>
  cases f U with
  | ok z =>
   obtain ⟨z1,U1⟩:=z
   dsimp only <;>
   cases zt i U1<;>rfl
  | exc x U'=>rfl
  | bad=>rfl
theorem ql9 {g k:M (Option Int)}:dsl f g k U=match f U with
  | .ok (d,U1)=>(match g U1 with
   | .ok (lo,U2)=>(match k U2 with
    | .ok (hi,U3)=>(match slD d lo hi with | some x => .ok (x,U3) | none => .bad)
    | .exc x U' => .exc x U' | .bad => .bad)
   | .exc x U' => .exc x U' | .bad => .bad)
  | .exc x U' => .exc x U' | .bad => .bad:=by
 simp only [dsl,bnd,sbnd]
 cases f U with
 | ok z =>
  obtain ⟨z1,U1⟩:=z
  dsimp only <;>
  cases g U1 with
  | ok z =>
   obtain ⟨z2,U2⟩:=z
   dsimp only <;>
   cases k U2 with
   | ok z=>obtain ⟨z3,U3⟩:=z;(dsimp only;cases slD z1 z2 z3<;>rfl)
   | exc x U'=>rfl
   | bad=>rfl
  | exc x U'=>rfl
  | bad=>rfl
 | exc x U'=>rfl
 | bad=>rfl
theorem qbE:qaR f U=match f U with | .ok (.int i,U1) => .ok (some i,U1) | .ok _ => .bad | .exc x U' => .exc x U' | .bad => .bad:=by
 simp only [qaR,bnd,sbnd]
 cases f U with
 | ok z =>
  obtain ⟨z1,U1⟩:=z
  cases z1<;>rfl
 | exc x U'=>rfl
 | bad=>rfl
end
theorem zh {n:Nat} (h:n<=1000000):qQ n=true:=by
 unfold qQ
 exact decide_eq_true (Nat.le_trans h (by rw [PySem.sizeLine_eq];decide))
theorem qkb {n p:Nat} {body:MS} {ds:List D} {d:D} {U:Env} (h:ds.length=p) (e:body (yf n ds) = .ok (.rt d U)):dfn n p body ds = .ok d:=by
 unfold dfn;rw [if_pos h,e]
theorem qdU {n p:Nat} {body:MS} {bs ds bs':List D} {d:D} {U:Env} (h:ds.length+1=p) (e:body (yf n (.lst bs::ds)) = .ok (.rt d U)) (g:zt 0 U=some bs'):vZ n p body bs ds = .ok (d,bs'):=by
 unfold vZ;rw [if_pos h,e];simp only [g]
end L2.Sk
namespace L2.Sk
open PySem PySem.Spec PyProof.Rows
section
variable {prog:Program} {w:World} {A:Around} {E:Value->Shared->Prop} {s:Shared}
end
section
variable {X:Cx} {c:Fc} {a b e:Expr} {pos:Pos} {es:List Expr} {kk:Nat} {tp:Pos}
def qkc (k:Nat):List D->List D
 | []=>[]
 | x::xs => .tup [.int (k:Nat),x]::qkc (k+1) xs
def qkd:List D->Option (List D)
 | [.tup xs]=>some (qkc 0 xs)
 | _=>none
def qke (f:M (List D)):M (List D):=bnd f fun ds=>lift (qkd ds)
end
def vD:D->V
 | .bl b => .bl b
 | .int i => .int i
 | .str x => .str x
 | _ => .non
def flD:D->Bool
 | .non=>true
 | .bl _=>true
 | .int _=>true
 | .str _=>true
 | _=>false
def sqD:D->Option (List D)
 | .tup ds=>some ds
 | .lst ds=>some ds
 | _=>none
def inD (x y:D):Option D:=match sqD y with
 | some ds=>if flD x&&ds.all flD then some (.bl (ds.any fun d=>eqV (vD d) (vD x))) else none
 | none=>none
theorem qiP {K:Fr0} {A:Addr->Prop} {H:Hp} {d:D} {v:V} (h:Is K A H d v) (f:flD d=true):v=vD d/\wF v=true:=by
 cases d<;>first | (cases h;exact ⟨rfl,rfl⟩) | cases f
theorem qde {K:Fr0} {A:Addr->Prop} {H:Hp}:∀ {ds:List D} {vs:List V},IsL K A H ds vs->ds.all flD=true->vs=ds.map vD/\vs.all wF=true
 | [],_,h,_=>by cases h;exact ⟨rfl,rfl⟩
 | d::ds,_,⟨x,ys,hx,h1,h2⟩,f=>by
  rw [List.all_cons,Bool.and_eq_true] at f
  obtain ⟨e1,e2⟩:=qiP h1 f.1
  obtain ⟨e3,e4⟩:=qde h2 f.2
  subst hx
  rw [mC_,<- e1,<- e3,List.all_cons,e2,e4]
  exact ⟨rfl,rfl⟩
theorem qma {K:Fr0} {A:Addr->Prop} {H:Hp} {x y:D} {ds:List D} {v u:V} (ix:Is K A H x v) (iy:Is K A H y u) (e:sqD y=some ds) (f:(flD x&&ds.all flD)=true) :
  ∃ p xs,u = .ref p/\(SqL K H p xs\/SqT K H p xs)/\wF v=true/\xs.all wF=true/\inV v xs=ds.any fun d=>eqV (vD d) (vD x):=by
 rw [Bool.and_eq_true] at f
 obtain ⟨e1,e2⟩:=qiP ix f.1
 cases y<;>simp only [sqD] at e<;>try (cases e;done)
 ·cases e
  obtain ⟨a,zs,rfl,ta,il⟩:=iy
  obtain ⟨e3,e4⟩:=qde il f.2
  exact ⟨a,zs,rfl,.inr ta.sq,e2,e4,by rw [e3,e1];unfold inV;rw [List.any_map];rfl⟩
 ·cases e
  obtain ⟨a,zs,rfl,_,ta,il⟩:=iy
  obtain ⟨e3,e4⟩:=qde il f.2
  exact ⟨a,zs,rfl,.inl (SqL.of ta),e2,e4,by rw [e3,e1];unfold inV;rw [List.any_map];rfl⟩
theorem qmb {K:Fr0}:OpS K inD (rIn K false):=by
 intro A H x y d v u Q hn ix iy e k
 unfold inD at e
 split at e
 ·rename_i ds es
  obtain ⟨e1,e2⟩:=zL e
  subst e2
  obtain ⟨p,xs,h1,h2,h3,h4,h5⟩:=qma ix iy es e1
  exact ⟨p,xs,h1,h2,h3,h4,by rw [<- h5] at k;exact k _ H (zQ.refl H) rfl⟩
 ·cases e
theorem qf2 {l:M (List D)} {U:Env}:qke l U=match l U with | .ok (d,U1)=>(match qkd d with | some ds => .ok (ds,U1) | none => .bad) | .exc x U' => .exc x U' | .bad => .bad:=by
 simp only [qke,bnd]
 cases l U with
 | ok z=>obtain ⟨z1,U1⟩:=z;(dsimp only;cases qkd z1<;>rfl)
 | exc x U'=>rfl
 | bad=>rfl
section
variable {X:Cx} {tg iter elt:Expr} {ifs:List Expr} {scope:Scope} {pos:Pos} {wi:TI} {N':List Str} {nt:Nat} {fr:List Nat}
theorem qkf {i:Nat} {x:Str} {pos' spos:Pos} (hN:X.N.Nodup) (hix:X.N[i]? = some x) (hx:Loc X.env.scope x) (hfx:X.fn x=true\/X.env.scope.names.lookup x=some .local) (hc:X.calm=true) (hi:PI X tg iter wi) (S:j6 X scope N' nt fr)
  (hsw:swapsWith (.ListComp elt [⟨tg,iter,ifs,0⟩] scope pos) (some (.Name x pos')) spos.line X.env=pure true)
  (hs:∀ x,foldedSetIterable iter X.env x=pure x:=by intro _;rfl):PS X (.Assign [.Name x pos'] (.ListComp elt [⟨tg,iter,ifs,0⟩] scope pos) spos) (fun D Z H=>qjN X tg ifs elt scope N' wi nt fr Z H fun v H'=>D.nx (Z.set i (some v)) H'):=by
 intro pins s Z H D I hw
 obtain ⟨cl,hcl,cl1,cl2⟩:=vy (env:=X.env) (scope:=scope) (fun y hy hf=>I.ok.has y.1 (.inl (S.frees y hy hf)))
 rw [exec_Assign_Name_used _ _ _ _ hsw]
 refine wpAny_bind (wpAny_standAt (wpAny_bind ?_))
 show wpAny (model X.prog X.w) X.A (comprehension (.ListComp elt [⟨tg,iter,ifs,0⟩] scope pos) scope X.env _ (newList []) false (eval iter X.env) (some (assign (.Name x pos') X.env)) >>= fun _=>pure ()) _ _ s
 refine wpAny_bind (thn (Q:=fun _ s'=>SP X pins D .next s') ?_ fun _ s' q=>wpAny_pure (wpAny_pure q))
 refine wpAny_comprehension_free (use:=some (assign (.Name x pos') X.env)) rfl hs hcl S.kind S.names (thn (hi pins s Z H _ I hw) fun v s1 h1=>thn h1 fun itv s2 h2 => ?_)
 obtain ⟨it,fp,tn,J,H2,e,I2,T,st2,f2,hR⟩:=h2
 subst e
 have hacc:H2 s2.heap.objs.size=none:=I2.hok.fresh (Nat.le_refl _)
 refine wpAny_newObj_type (wpAny_newFunctionEnv S.nocell (by intro y hy;simp at hy) (fun hV hns1 hsb1 => ?_) S.kind)
 dsimp only at hns1 hsb1 |-
 have I3:Inv X pins Z (upd H2 s2.heap.objs.size (.lst [])) { s2 with heap:=s2.heap.push { cls := .type "list",dict:=none,data := .seq ([]:List Value).toArray } } :=
  I2.lnew (t':=s2.toks) (its:=[]) .nil (Nat.zero_le _)
 generalize hs3:({ s2 with heap:=s2.heap.push { cls := .type "list",dict:=none,data := .seq ([]:List Value).toArray } }:Shared)=s3 at I3
 have hh3:s2.heap.push { cls := .type "list",dict:=none,data := .seq ([]:List Value).toArray }=s3.heap:=by rw [<- hs3]
 rw [hh3] at hns1 hsb1
 have old:∀ b o,s3.heap.get? b=some o->hV.get? b=some o:=fun b o q=>hsb1.extBut b o (Nat.ne_of_lt (Heap.lt_size q)) (Heap.get?_push_of_some _ q)
 have objs2:∀ b∈fp,∃ o,s2.heap.get? b=some o:=fun b hb=>by
  obtain ⟨o,q,_⟩:=T.obj 0 _ st2 b hb
  exact ⟨o,q⟩
 have keep23:∀ b o,s2.heap.get? b=some o->s3.heap.get? b=some o:=fun b o q=>by rw [<- hh3];exact Heap.get?_push_of_some _ q
 have fpne:∀ b∈fp,b≠s2.heap.objs.size:=fun b hb=>by
  obtain ⟨o,q⟩:=objs2 b hb
  exact Nat.ne_of_lt (Heap.lt_size q)
 have f3:∀ b∈fp,qcZ X pins (upd H2 s2.heap.objs.size (.lst [])) b:=fun b hb=>⟨by rw [qt (fpne b hb)];exact (f2 b hb).1,(f2 b hb).2⟩
 have J0:Inv (zR X scope N' fp cl s3.heap.objs.size s3 (upd H2 s2.heap.objs.size (.lst [])) (X.pn++pins)) [] (qJ nt fr Z) (upd H2 s2.heap.objs.size (.lst [])) { s3 with heap:=hV,toks:=s3.toks } :=
  qa5 S I3 f3 (fun b hb=>(objs2 b hb).imp fun o q=>keep23 b o q) cl1 cl2 ⟨_,hns1⟩ old
 obtain ⟨g,tt,te,hg,hf,he,W,⟨m0,w0⟩,turn⟩:=hR s2.heap.objs.size fp cl s3.heap.objs.size s3 (upd H2 s2.heap.objs.size (.lst [])) (X.pn++pins) hacc
 have T0:tn 0 hV:=T.keep 0 _ _ st2 fun b hb o q=>old b o (keep23 b o q)
 have s3e:∀ tk:Nat,({ s2 with heap:=hV,toks:=tk }:Shared)={ s3 with heap:=hV,toks:=tk }:=fun tk=>by rw [<- hs3]
 have loop:∀ tk:Nat,codeAny (model X.prog X.w) X.A (.compLoop (.ListComp elt [⟨tg,iter,ifs,0⟩] scope pos) 0 (.ref it) (.ref s2.heap.objs.size) (compEnvC scope cl s3.heap.objs.size X.env))
   (compPost (model X.prog X.w) X.A X.xe (some (assign (.Name x pos') X.env)) (fun _ s'=>SP X pins D .next s') (.ref s2.heap.objs.size) s3.heap.objs.size) { s3 with heap:=hV,toks:=tk }:=fun tk=>by
  have stat:∀ {H':Hp},(∀ b∈fp,H' b=none)->∀ b∈fp,qcZ (zR X scope N' fp cl s3.heap.objs.size s3 (upd H2 s2.heap.objs.size (.lst [])) (X.pn++pins)) [] H' b:=fun {H'} hn b hb=>by
   obtain ⟨o,q⟩:=objs2 b hb
   have hbC:b≠s3.heap.objs.size:=Nat.ne_of_lt (Heap.lt_size (keep23 b o q))
   refine ⟨hn b hb,hbC,fun z => ?_,.inl hb,fun x c hx=>(f2 b hb).2.2.2.2.1 x c (cl1 x c hx),fun p hp => ?_⟩
   ·rcases List.mem_cons.mp (I2.stkSub b z) with z | z
    ·exact (f2 b hb).2.1 z
    ·exact (f2 b hb).2.2.1 z
   ·have hp':p∈X.pn++pins:=by
     rcases mA_.mp (show p∈(X.pn++pins)++[] from hp) with z | z
     ·exact z
     ·cases z
    exact (f2 b hb).2.2.2.2.2 p hp'
  have fr0:∀ b∈fp,upd H2 s2.heap.objs.size (.lst []) b=none:=fun b hb=>(f3 b hb).1
  refine qag (fun n s'=>∃ i Z' H',Inv (zR X scope N' fp cl s3.heap.objs.size s3 (upd H2 s2.heap.objs.size (.lst [])) (X.pn++pins)) [] Z' H' s'/\tn i s'.heap/\(∀ b∈fp,H' b=none)/\W i n Z' H') ?_ m0
   ⟨0,qJ nt fr Z,_,J0.tok tk,T0,fr0,w0⟩
  rintro n s4 ⟨i,Z4,H4,J4,st4,fr4,w4⟩
  rcases turn i n Z4 H4 w4 with ⟨stop,qn⟩ | ⟨go,step⟩
  ·refine thn (T.done (zR X scope N' fp cl s3.heap.objs.size s3 (upd H2 s2.heap.objs.size (.lst [])) (X.pn++pins)) rfl rfl rfl hc i [] s4 Z4 H4 _ J4 (stat fr4) st4 stop) fun r s5 ⟨hr,J5⟩ => ?_
   subst hr
   obtain ⟨m5,n5,_⟩:=J5.loc
   have I5:Inv X pins Z H4 s5:=qdO I3 f3 J5 (Heap.SameBut.refl ..)
   have lC:X.env.locals≠s3.heap.objs.size:=Nat.ne_of_lt I3.lt
   have cC:∀ y c,X.env.cells.lookup y=some c->c≠s3.heap.objs.size:=fun y c hy=>by
    obtain ⟨v,o,ho,_⟩:=I3.cell y c hy
    exact Nat.ne_of_lt (Heap.lt_size ho)
   have pC:∀ p∈X.pn++pins,p.1≠s3.heap.objs.size:=fun p hp=>Nat.ne_of_lt (Heap.lt_size (I3.pin p hp).1)
   refine wpAny_assign_Name (qcb (v := .ref s2.heap.objs.size) I5 hN hix hx rfl (fun s'' I6 ⟨a,sb,ha⟩ => ?_) hfx)
   have aC:s3.heap.objs.size≠a:=by
    rcases ha with rfl | ha
    ·exact lC.symm
    ·exact (cC _ _ ha).symm
   exact ⟨m5,n5.sameBut sb aC,fun h' sb'=>⟨_,H4,I6.turned (t':=s''.toks) (fun b o hb q=>(sb'.2 b hb).trans q) J5.free lC.symm (.inr I3.sz) cC pC,qn⟩⟩
  ·refine thn (T.item (zR X scope N' fp cl s3.heap.objs.size s3 (upd H2 s2.heap.objs.size (.lst [])) (X.pn++pins)) rfl rfl rfl hc i [] s4 Z4 H4 _ J4 (stat fr4) st4 go) fun r s5 ⟨u,hr,h5⟩ => ?_
   subst hr
   refine thn h5 fun _ s6 ⟨x,H6,J6,r6,y6,st6,fr6⟩ => ?_
   have J6':=J6.pinned (stat fr6) (T.obj _ _ st6)
   have again:∀ {Z7:St} {H7:Hp} {s7:Shared},Inv (zR X scope N' fp cl s3.heap.objs.size s3 (upd H2 s2.heap.objs.size (.lst [])) (X.pn++pins)) ([]++qa1 fp s6.heap) Z7 H7 s7->(∃ m',m'<n/\W (i+1) m' Z7 H7) ->
     ∃ m,m<n/\∃ i Z' H',Inv (zR X scope N' fp cl s3.heap.objs.size s3 (upd H2 s2.heap.objs.size (.lst [])) (X.pn++pins)) [] Z' H' s7/\tn i s7.heap/\(∀ b∈fp,H' b=none)/\W i m Z' H':=fun {Z7 H7 s7} I7 hm=>by
    obtain ⟨m',hm,w7⟩:=hm
    refine ⟨m',hm,i+1,Z7,H7,I7.unpinned,T.keep _ _ _ st6 fun b hb o q=>(I7.pin (b,o) (mr_ _ (mr_ _ (ym hb q)))).1,fun b hb => ?_,w7⟩
    obtain ⟨o,q,d⟩:=T.obj _ _ st6 b hb
    exact (I7.pin (b,o) (mr_ _ (mr_ _ (ym hb q)))).2.1
   refine thn (hg _ s6 Z4 H6 x u _ J6' r6 (step x H6 y6)) fun _ s7 ⟨Z7,H7,J7,q7⟩ => ?_
   refine thn (hf _ s7 Z7 H7 _ J7 q7) fun ok s8 ⟨H8,J8,q8⟩ => ?_
   cases ok with
   | false =>
    rw [if_neg Bool.false_ne_true] at q8 |-
    exact again J8 q8
   | true =>
    rw [if_pos rfl] at q8 |-
    refine thn (he _ s8 Z7 H8 _ J8 q8) fun z s9 ⟨y,H9,J9,r9,ys,hys,hz,hm⟩ => ?_
    refine thn (w8 _ s9 Z7 H9 (.ref s2.heap.objs.size) [y] (.ref s2.heap.objs.size) [z] (fun _ H'=>H'=upd H9 s2.heap.objs.size (.lst (ys++[y]))) J9 rfl (.cons r9 .nil) ⟨_,ys,y,rfl,rfl,hys,hz,rfl⟩) fun _ s10 ⟨_,H10,J10,_,e10⟩ => ?_
    subst e10
    exact again J10 hm
 have z4:∀ tk:Nat,codeAny (model X.prog X.w) X.A (.compStart (.ListComp elt [⟨tg,iter,ifs,0⟩] scope pos) 0 (.ref it) (.ref s2.heap.objs.size) (compEnvC scope cl s3.heap.objs.size X.env))
   (compPost (model X.prog X.w) X.A X.xe (some (assign (.Name x pos') X.env)) (fun _ s'=>SP X pins D .next s') (.ref s2.heap.objs.size) s3.heap.objs.size) { s3 with heap:=hV,toks:=tk }:=fun tk =>
  codeAny_compStart_list (loop tk) (T.self X.A 0 _ _ _ T0 (loop tk))
 have fin:=z4 (s2.toks+([]:List (Str×Value)).length)
 rw [<- s3e] at fin
 rw [<- hh3] at fin
 rw [hh3] at fin |-
 exact fin
end
section
variable {X:Cx} {c:Fc}
def DC (X:Cx) (c:Fc) (tg it elt:Expr) (ifs:List Expr) (scope:Scope) (N':List Str) (nt:Nat) (fr:List Nat) (f:M D):Prop:=∃ wi,PI X tg it wi/\∀ U Z H Q,Rep X.K c U Z H->Wp X.K c Z H Q (f U)->qjN X tg ifs elt scope N' wi nt fr Z H Q
theorem qdf {it elt tg:Expr} {ifs:List Expr} {scope:Scope} {N':List Str} {nt:Nat} {fr:List Nat} {fo:Option (Nat×Nat)} {f:M (List D)} {g:D->Env->Option Env} {t:M Bool} {k:M D} (hc:X.calm=true) (hi:DI X c tg it f) (S:j6 X scope N' nt fr)
  (hfo:qjR c nt fr fo)
  (hb:∀ fp cl C s₀ H₀ pn B0 H1 Io' acc S',DG (zR X scope N' fp cl C s₀ H₀ pn) (cin B0 H1 (foO fo) Io' acc S') tg g/\DF (zR X scope N' fp cl C s₀ H₀ pn) (cin B0 H1 (foO fo) Io' acc S') ifs t/\DE (zR X scope N' fp cl C s₀ H₀ pn) (cin B0 H1 (foO fo) Io' acc S') elt k)
  : DC X c tg it elt ifs scope N' nt fr (qV nt fr fo f g t k):=by
 obtain ⟨wi,pi,wI⟩:=hi
 refine ⟨wi,pi,fun U Z H Q r h=>wI U Z H _ r (WpI.bnd h fun ds U1 J H1 r1 iok g1 h1 => ?_)⟩
 intro acc fp cl C s₀ H₀ pn hn
 obtain ⟨⟨tg',pg,wg⟩,⟨tt,pt,wt⟩,⟨te,pe,we⟩⟩:=hb fp cl C s₀ H₀ pn (Cn c Z) H1 (qca Z fo) acc fun j=>(qJ nt fr Z)[j]?
 refine ⟨tg',tt,te,pg,pt,pe,?_⟩
 cases ew:zB g t k ds [] (jM nt fr U1) with
 | exc x U'=>rw [ew] at h1;exact h1.elim
 | bad=>rw [ew] at h1;exact h1.elim
 | ok p =>
  rw [ew] at h1
  obtain ⟨ys,Ue⟩:=p
  have h1:∀ v H',Rep X.K c (qjQ fo Ue U1) Z H'->Is X.K (Cn c Z) H' (.lst ys) v->Gr c.O Z H1 H'->Q v H':=h1
  have accO:∀ j∈foO fo,(qJ nt fr Z)[j]? ≠ some (some (.ref acc)):=fun j hj e=>by
   have r0:=r1.entry (acc:=acc) hn hfo
   cases fo with
   | none=>cases hj
   | some p =>
    obtain ⟨i',j'⟩:=p
    have e2:j=i':=by simpa [foO] using hj
    subst e2
    obtain ⟨k2,j2,e1,e2,e3⟩:=yp e
    have hk2:k2=j-nt:=by omega
    subst hk2
    rw [hfo.2.2.1] at e2
    cases e2
    obtain ⟨a,us,e4,e5,_⟩:=r1.own j' hfo.1 _ e3
    cases e4;rw [hn] at e5;cases e5
  refine ⟨fun i m Z' H'=>m=ds.length-i/\i<=ds.length/\∃ U' zs xs,Rep X.K (cin (Cn c Z) H1 (foO fo) (qca Z fo) acc fun j=>(qJ nt fr Z)[j]?) U' Z' H'/\(∀ j∈foO fo,Z'[j]? = (qJ nt fr Z)[j]?)/\H' acc=some (.lst xs)/\IsL X.K (Cn (cin (Cn c Z) H1 (foO fo) (qca Z fo) acc fun j=>(qJ nt fr Z)[j]?) Z') H' zs xs/\zB g t k (ds.drop i) zs U' = .ok (ys,Ue),
   ⟨ds.length,by simp,Nat.zero_le _,jM nt fr U1,[],[],r1.entry hn hfo,fun _ _=>rfl,qv,rfl,by simpa using ew⟩,?_⟩
  rintro i m Z' H' ⟨rfl,hi,U',zs,xs,r',so,ha,iz,w⟩
  obtain ⟨_,gr⟩:=r1.leave hn hfo (fun i j e=>so i (by rw [e];simp [foO])) r'
  have ex:Ext (CnT c Z H1) H1 H':=⟨gr.ext.tup,gr.ext.frz,fun b o hb hq=>gr.ext.at_ b o hb.1.2 hq⟩
  have accC:∀ τ:St,(∀ j∈foO fo,τ[j]? = (qJ nt fr Z)[j]?)->Cl (foO fo) τ acc:=fun τ hτ j hj e=>accO j hj (by rw [<- hτ j hj];exact e)
  by_cases hlt:i<ds.length
  ·refine .inr ⟨iok.go H' i ds[i] ex (by simp [hlt]),fun x H'' y => ?_⟩
   obtain ⟨sm,ix⟩:=iok.yl H' i ds[i] x H'' ex (by simp [hlt]) y
   rw [vW hlt] at w
   unfold zB at w
   have ix2:Is X.K (Cn (cin (Cn c Z) H1 (foO fo) (qca Z fo) acc fun j=>(qJ nt fr Z)[j]?) Z') H'' ds[i] x:=Is.ext Ext.refl (fun a ha _=>⟨⟨ha.1,fun e=>by
    have:=ha.2
    rw [e,hn] at this;cases this⟩,fun j hj e=>by
     rw [so j hj] at e
     cases fo with
     | none=>cases hj
     | some p =>
      obtain ⟨i',j'⟩:=p
      have e2:j=i':=by simpa [foO,cin] using hj
      subst e2
      obtain ⟨k2,j2,e1,e2,e3⟩:=yp e
      have hk2:k2=j-nt:=by omega
      subst hk2
      rw [hfo.2.2.1] at e2
      cases e2
      exact ha.1.2 j' hfo.1 e3⟩) ix
   cases e1:g ds[i] U' with
   | none=>simp only [e1] at w;cases w
   | some U2 =>
    simp only [e1] at w
    refine wg U' Z' H'' ds[i] x U2 _ (r'.same sm) ix2 e1 fun Z2 r2 g2 o2 => ?_
    have so2:∀ j∈foO fo,Z2[j]? = (qJ nt fr Z)[j]? := fun j hj=>(o2 j hj).trans (so j hj)
    have ha2:H'' acc=some (.lst xs):=sm _ _ ha
    have iz2:=g2.isL (IsL.ext (Ext.of_same sm) (fun _ h _=>h) iz)
    cases e2:t U2 with
    | exc x U3=>simp only [e2] at w;cases w
    | bad=>simp only [e2] at w;cases w
    | ok p2 =>
     obtain ⟨bb,U3⟩:=p2
     refine wt U2 Z2 H'' _ r2 ?_
     rw [e2]
     intro H3 r3 g3
     have ha3:H3 acc=some (.lst xs):=g3.ext.at_ _ _ (accC Z2 so2) ha2
     have iz3:=g3.isL iz2
     cases bb with
     | false =>
      rw [if_neg Bool.false_ne_true]
      simp only [e2] at w
      exact ⟨ds.length-(i+1),by omega,rfl,hlt,U3,zs,xs,r3,so2,ha3,iz3,w⟩
     | true =>
      rw [if_pos rfl]
      simp only [e2] at w
      cases e3:k U3 with
      | exc x U4=>simp only [e3] at w;cases w
      | bad=>simp only [e3] at w;cases w
      | ok p3 =>
       obtain ⟨d4,U4⟩:=p3
       simp only [e3] at w
       refine we U3 Z2 H3 _ r3 ?_
       rw [e3]
       intro y4 H4 r4 i4 g4
       have ha4:H4 acc=some (.lst xs):=g4.ext.at_ _ _ (accC Z2 so2) ha3
       have hsz:qQ (zs.length+1)=true:=by
        cases e5:qQ (zs.length+1) with
        | true=>rfl
        | false=>rw [e5] at w;simp at w
       rw [if_pos hsz] at w
       have hsz':zs.length+1<=sizeLine:=of_decide_eq_true hsz
       have r5:=r4.grow (ys:=xs++[y4]) ha4 (fun j hj e=>accC Z2 so2 j hj e)
       have ext5:Ext (Cn (cin (Cn c Z) H1 (foO fo) (qca Z fo) acc fun j=>(qJ nt fr Z)[j]?) Z2) H4 (upd H4 acc (.lst (xs++[y4]))):=⟨fun b us hb=>by rw [qt (vt hb ha4 (by intro z;cases z))];exact hb,fun b o u hb=>by rw [qt (vt hb ha4 (by intro z;cases z))];exact hb,fun b o hb hq=>by rw [qt hb.1.2];exact hq⟩
       refine ⟨xs,ha4,by rw [iz3.length];omega,ds.length-(i+1),by omega,rfl,hlt,U4,zs++[d4],xs++[y4],r5,so2,qv,?_,w⟩
       exact IsL.append (IsL.ext ext5 (fun _ h _=>h) (g4.isL iz3)) (IsL.one (Is.ext ext5 (fun _ h _=>h) i4))
  ·have hie:i=ds.length:=by omega
   subst hie
   rw [List.drop_of_length_le (Nat.le_refl _)] at w
   unfold zB at w
   cases w
   obtain ⟨r6,g6⟩:=r1.leave hn hfo (fun i j e=>so i (by rw [e];simp [foO])) r'
   exact .inl ⟨iok.stop H' ex,h1 _ H' r6 ⟨acc,xs,rfl,r1.new hn,ha,IsL.ext Ext.refl (fun a ha hs=>ha.1.1) iz⟩ g6⟩
theorem qdg {i:Nat} {x:Str} {pos' spos pos:Pos} {tg it elt:Expr} {ifs:List Expr} {scope:Scope} {N':List Str} {nt:Nat} {fr:List Nat} {f:M D} (hN:X.N.Nodup) (h:DC X c tg it elt ifs scope N' nt fr f) (hc:X.calm=true) (S:j6 X scope N' nt fr)
  (ho:i ∉ c.O:=by exact of_decide_eq_false rfl) (hix:X.N[i]? = some x:=by rfl) (hx:Loc X.env.scope x:=by first | exact Or.inl rfl | exact Or.inr rfl) (hfx:X.fn x=true\/X.env.scope.names.lookup x=some .local:=by first | exact .inl rfl | exact .inr rfl | assumption)
  (hsw:swapsWith (.ListComp elt [⟨tg,it,ifs,0⟩] scope pos) (some (.Name x pos')) spos.line X.env=pure true:=by rfl) (hs:∀ x,foldedSetIterable it X.env x=pure x:=by intro _;rfl) :
  DS X c (.Assign [.Name x pos'] (.ListComp elt [⟨tg,it,ifs,0⟩] scope pos) spos) (zJ i f):=by
 obtain ⟨wi,pi,w⟩:=h
 refine ⟨_,qkf hN hix hx hfx hc pi S hsw hs,fun U Z H D r h=>w U Z H _ r (Wp.sbnd h fun d U1 v H1 r1 i1 g1 h1 => ?_)⟩
 exact h1 _ H1 (r1.set ho i1) (.set ho)
end
def qbF:List Int->Int
 | []=>0
 | [n]=>n
 | n::m::ns=>max n (qbF (m::ns))
theorem qbG:∀ (n:Int) (ns:List Int),qbF (n::ns)∈n::ns
 | n,[]=>mS_
 | n,m::ns=>by
  have h:=qbG m ns
  show max n (qbF (m::ns))∈_
  rw [Int.max_def]
  split
  ·exact mM _ h
  ·exact mS_
theorem qdh:∀ (n:Int) (ns:List Int),∀ k∈n::ns,k<=qbF (n::ns)
 | n,[]=>fun k hk=>by
  have:k=n:=by simpa using hk
  rw [this];exact Int.le_refl _
 | n,m::ns=>fun k hk=>by
  have h:=qdh m ns
  show k<=max n (qbF (m::ns))
  rcases List.mem_cons.mp hk with rfl | hk
  ·exact Int.le_max_left ..
  ·exact Int.le_trans (h k hk) (Int.le_max_right ..)
theorem qkg {ns:List Int} {z:Int} (h1:z∈ns) (h2:∀ n∈ns,n<=z):qbF ns=z:=by
 cases ns with
 | nil=>cases h1
 | cons n ns=>exact Int.le_antisymm (h2 _ (qbG n ns)) (qdh n ns z h1)
theorem qcz {zs:Array (Int×Tok)} {i:Nat} (h:i<zs.size):(zs.toList.map (·.1))[i]? = some (numAt zs i):=by
 have h':i<zs.toList.length:=by simpa using h
 rw [gM_,gG h']
 simp [numAt,h]
section
variable {X:Cx}
theorem uO (hc:X.calm=true):yA X (.builtin "max") (fun xs H Q=>∃ (p:Addr) (ns:List Int),xs=[.ref p]/\H p=some (.lst (ns.map V.int))/\ns≠[]/\Q (.int (qbF ns)) H):=by
 intro pins s Z H xs us Q I r h
 obtain ⟨p,ns,rfl,hp,hne,q⟩:=h
 obtain ⟨u,rfl,ru⟩:=qW.one r
 cases ru
 obtain ⟨its,rv,pl,hz⟩:=I.list (SqL.of hp)
 have hl:=pl.isList
 have hi:IntsAre its ns:=vT rv
 obtain ⟨zs,hx⟩:=hi.allInts.items
 have hl':s.heap.IsList p (intItems zs):=hx▸hl
 have e1:ns=zs.toList.map (·.1):=by
  rw [<- nums_intItems,<- hx]
  exact (show numsOf its.toArray.toList=ns from hi.numsOf).symm
 have hsz:0<zs.size:=by
  cases hzz:zs.toList with
  | nil=>rw [hzz] at e1;exact absurd e1 hne
  | cons a b =>
   have:zs.size=zs.toList.length:=by simp
   rw [this,hzz];simp
 refine max_intList (I.ok.hd hc) hl' hsz fun v h' tk hv hk => ?_
 obtain ⟨t,rfl⟩:=intItems_at hv
 obtain ⟨b1,b2⟩:=argBest_gt (numAt zs) (zs.size-1)
 have e2:qbF ns=numAt zs (argBest (fun i j=>decide (numAt zs i>numAt zs j)) (zs.size-1)):=by
  refine qkg ?_ fun n hn => ?_
  ·rw [e1]
   exact List.mem_of_getElem? (qcz (by omega))
  ·rw [e1] at hn
   obtain ⟨j,hj⟩:=List.mem_iff_getElem?.mp hn
   have hj2:j<zs.size:=by
    have:=(gI_.mp hj).1
    simpa using this
   rw [qcz hj2] at hj
   cases hj
   exact b2 j (by omega)
 rw [<- e2]
 exact ⟨.int _,H,I.kept hk,⟨_,rfl⟩,q⟩
end
def wG:List D->Option D
 | [.lst ds]=>match u8 ds with
  | some (n::ns)=>some (.int (qbF (n::ns)))
  | _=>none
 | _=>none
theorem uc {K:Fr0}:vU K wG (fun xs H Q=>∃ (p:Addr) (ns:List Int),xs=[.ref p]/\H p=some (.lst (ns.map V.int))/\ns≠[]/\Q (.int (qbF ns)) H):=by
 intro A H xs d vs Q hn h e k
 unfold wG at e
 split at e
 ·obtain ⟨v,rfl,a,zs,rfl,_,ta,il⟩:=IsL.inv1 h
  split at e
  ·rename_i n ns hi
   cases e
   rw [y9 il hi] at ta
   exact ⟨a,n::ns,rfl,ta,by simp,k _ H (zQ.refl H) rfl⟩
  ·cases e
 ·cases e
def qmc (t:M Bool) (b:MS):Nat->MS
 | 0,_ => .bad
 | n+1,U=>match t U with
  | .ok (true,U1)=>match b U1 with
   | .ok (.nx U2)=>qmc t b n U2
   | .ok (.ct U2)=>qmc t b n U2
   | .ok (.bk U2) => .ok (.nx U2)
   | .ok (.rt d U2) => .ok (.rt d U2)
   | .exc x U2 => .exc x U2
   | .bad => .bad
  | .ok (false,U1) => .ok (.nx U1)
  | .exc x U1 => .exc x U1
  | .bad => .bad
open Classical in
section
variable {X:Cx} {c:Fc} {pos:Pos}
end
def qmV (K:Fr0) (a:Addr) (ns:List Int):Prop:=∃ (o:Obj) (its:Array Value) (n:Nat),K.lookup a=some o/\o.cls = .type "tuple"/\o.data = .seq its n/\its.size<=sizeLine/\qW (ns.map V.int) its.toList
theorem qmV.is {K:Fr0} {a:Addr} {ns:List Int} (h:qmV K a ns) (H:Hp) (A:Addr->Prop):Is K A H (.tup (ns.map .int)) (.ref a):=⟨a,_,rfl,.inr h,qbx ns⟩
theorem qhC {X:Cx} {c:Fc} {x:Str} {a:Addr} {ns:List Int} {pos:Pos} (hg:Gl X x) (hm:X.mg x=some (.ref a)) (ht:qmV X.K a ns) (hdb:(x==("__debug__":Str))=false:=by decide):DE X c (.Name x pos) (ret (.tup (ns.map .int))) :=
 qfv (v := .ref a) hg hm rfl (fun H A=>ht.is H A) hdb
def qbH (h:Heap) (e T:Addr) (cls:Value):Prop :=
 ∃ oe vs oT ts a0,h.get? e=some oe/\(oe.cls=cls/\vs[2]? = some .none/\vs[0]? = some a0)/\oe.data = .fields vs/\vs[1]? = some (.ref T)/\T≠e/\h.get? T=some oT/\oT.data = .fields ts/\ts[3]? = some .none
def CX1 (P:Program) (w:World):CXT:=fun outer H s E u s'=>∃ e T C H',u = .ref e/\s'.os=s.os/\AllBare s'.gens/\Un (frs outer) [] H H' s.heap s'.heap/\HOk P w H' s'.heap /\
 s.heap.get? e=none/\s.heap.get? T=none/\H' e=none/\H' T=none/\qbH s'.heap e T (.ref C)/\E (.ref C) none H'
structure Lft (h h':Heap) (ch fs:List Addr):Prop where
 keep:∀ b o,b ∉ ch->b ∉ fs->h.get? b=some o->h'.get? b=some o
 slot:∀ b o,b∈fs->h.get? b=some o->∃ sl,h'.get? b=some { o with slots:=sl }
section
variable {M:Model} {A:Around} {E:Value->Shared->Prop} {s:Shared}
abbrev v0:Obj->Obj:=Obj.mapFields (·.setIfInBounds 3 Value.none)
theorem qkh {base:Heap} {l:List PySem.Env} {h:Heap} {b:Addr} {o:Obj} {vs:Array Value} (hl:h.FunFrames base l) (hb:h.get? b=some o) (hd:o.data = .fields vs):b ∉ frs l:=fun z=>by
 obtain ⟨_,o',ho',hn⟩:=hl.mem z
 rw [hb] at ho'
 cases ho'
 exact hn vs hd
theorem qdV {e T:Addr} {oe oT:Obj} {vs ts:Array Value} {Q:Unit->Shared->Prop} (he:s.heap.get? e=some oe) (hd:oe.data = .fields vs) (h1:vs[1]? = some (.ref T)) (hT:s.heap.get? T=some oT) (hdT:oT.data = .fields ts) (h3:3<ts.size)
  (k:Q () { s with heap:=s.heap.update T v0 }):wpAny M A (setFlight (.ref e) none) Q E s:=by
 unfold setFlight
 refine wpAny_bind (wpAny_field he hd h1 ?_)
 have t:(Value.ref T != Value.none)=true:=by simp
 rw [if_pos t]
 exact wpAny_setField hT hdT h3 k
theorem v3 {h:Heap} {T:Addr} {oT:Obj} {ts:Array Value} (hT:h.get? T=some oT) (hdT:oT.data = .fields ts) (h3:3<ts.size):∃ o2 t2,(h.update T v0).get? T=some o2/\o2.data = .fields t2/\t2[3]? = some .none :=
 ⟨_,_,Heap.get?_update_self _ hT (Obj.isFreed_of_fields (Obj.data_mapFields hdT _)),Obj.data_mapFields hdT _,by simp [h3]⟩
theorem zE {h:Heap} {T b:Addr} (n:b≠T):(h.update T v0).get? b=h.get? b:=Heap.get?_update_other _ _ (Ne.symm n)
theorem qhD {base:Heap} {env:PySem.Env} {outer:List PySem.Env} {L e:Addr} {oe:Obj} {vs:Array Value} {head:Value} {had:Bool} {Q:Unit->Shared->Prop} (hfr:A.frames=some (env::outer)) (hl:s.heap.FunFrames base (env::outer)) (hf:env.frame=some L)
  (he:s.heap.get? e=some oe) (hd:oe.data = .fields vs) (h1:1<vs.size)
  (k:∀ h' T,s.heap.get? T=none->T≠e->(∀ b o,b≠e->b ∉ frs (env::outer)->s.heap.get? b=some o->h'.get? b=some o)->(∀ b o,b∈frs (env::outer)->s.heap.get? b=some o->∃ sl,h'.get? b=some { o with slots:=sl }) ->
   h'.get? e=some (Obj.mapFields (·.setIfInBounds 1 (Value.ref T)) oe)->(∃ oT ts,h'.get? T=some oT/\oT.data = .fields ts/\3<ts.size)->h'.FunFrames base (env::outer)->Q () { s with heap:=h' }) :
  wpAny M A (do let a <- frameOf env;let pl <- entryPlaceOf L had;let b <- EntryCells.newEntry head a .none (rawInt L) .none pl;setField (.ref e) 1 b) Q E s:=by
 have hene:=qkh hl he hd
 refine wpAny_bind (wpAny_frameOf_fun hfr hl hf fun hV hs1=>wpAny_bind (wpAny_entryPlaceOf fun pl hpl => ?_))
 unfold EntryCells.newEntry newFields
 have he1:hV.get? e=some oe:=(hs1.2.1 e hene).trans he
 refine wpAny_bind (wpAny_newObj_type ?_ (hpl.sizeOk5 _ _ _ _ _))
 generalize hob:({ cls:=Value.type "traceback",dict:=none,data:=Data.fields ([head,Value.ref L,Value.none,rawInt L,Value.none]++(if pl.isEmpty then List.replicate 6 Value.none else pl)).toArray }:Obj)=ob
 have nT:hV.objs.size≠e:=Nat.ne_of_gt (Heap.lt_size he1)
 have hnT:s.heap.get? hV.objs.size=none:=by
  cases q:s.heap.get? hV.objs.size with
  | none=>rfl
  | some o =>
   obtain ⟨sl,q'⟩:=hs1.2.2 _ o q
   exact absurd (Heap.lt_size q') (Nat.lt_irrefl _)
 refine wpAny_setField (Heap.get?_push_of_some _ he1) hd h1 ?_
 have keep:∀ b o,b≠e->hV.get? b=some o->((hV.push ob).update e (Obj.mapFields (·.setIfInBounds 1 (Value.ref hV.objs.size)))).get? b=some o:=fun b o hb q=>(Heap.get?_update_other _ _ (Ne.symm hb)).trans (Heap.get?_push_of_some _ q)
 refine k _ hV.objs.size hnT nT (fun b o hb hf q=>keep b o hb ((hs1.2.1 b hf).trans q)) (fun b o hb q => ?_) (Heap.get?_update_self _ (Heap.get?_push_of_some _ he1) (Obj.isFreed_of_fields (Obj.data_mapFields hd _))) ⟨ob,([head,Value.ref L,Value.none,rawInt L,Value.none]++(if pl.isEmpty then List.replicate 6 Value.none else pl)).toArray,?_,by rw [<- hob],by simp⟩ (hl.of_keeps fun b o q hn => ?_)
 ·obtain ⟨sl,q'⟩:=hs1.2.2 b o q
  exact ⟨sl,keep b _ (fun z=>hene (z▸hb)) q'⟩
 ·exact (Heap.get?_update_other _ _ (Ne.symm nT)).trans (Heap.get?_push_size _ (by rw [<- hob];rfl))
 ·obtain ⟨sl,q'⟩:=hs1.2.2 b o q
  exact ⟨_,keep b _ (fun z=>by subst z;rw [he] at q;cases q;exact hn vs hd) q',rfl⟩
theorem qdW {base:Heap} {env:PySem.Env} {outer:List PySem.Env} {L e:Addr} {oe:Obj} {vs:Array Value} {a0 head:Value} {had:Bool} {Q:Unit->Shared->Prop} (hfr:A.frames=some (env::outer)) (hl:s.heap.FunFrames base (env::outer)) (hf:env.frame=some L)
  (he:s.heap.get? e=some oe) (hd:oe.data = .fields vs) (h1:1<vs.size) (h2:vs[2]? = some .none) (h0:vs[0]? = some a0)
  (k:∀ h' T',Lft s.heap h' [e] (frs (env::outer))->qbH h' e T' oe.cls->s.heap.get? T'=none->Q () { s with heap:=h' }) :
  wpAny M A (do let a <- frameOf env;let pl <- entryPlaceOf L had;let b <- EntryCells.newEntry head a .none (rawInt L) .none pl;setField (.ref e) 1 b) (fun _ s'=>wpAny M A (setFlight (.ref e) none) Q E s') E s:=by
 refine qhD hfr hl hf he hd h1 fun h' T nT ne kp sl ee eT _ => ?_
 obtain ⟨oT,ts,gT,dT,sT⟩:=eT
 have dd:=Obj.data_mapFields hd (·.setIfInBounds 1 (Value.ref T))
 refine qdV (s:={ s with heap:=h' }) ee dd (by simp [h1]) gT dT sT ?_
 obtain ⟨o2,t2,q1,q2,q3⟩:=v3 gT dT sT
 have nf:∀ b o,s.heap.get? b=some o->b≠T:=fun b o q z=>by rw [z,nT] at q;cases q
 refine k _ T ⟨fun b o hb hf q=>(zE (nf b o q)).trans (kp b o (by simpa using hb) hf q),fun b o hb q => ?_⟩ ⟨_,_,o2,t2,a0,(zE (Ne.symm ne)).trans ee,⟨Obj.cls_mapFields _ _,?_,?_⟩,dd,by simp [h1],ne,q1,q2,q3⟩ nT
 ·obtain ⟨sl,q'⟩:=sl b o hb q
  exact ⟨sl,(zE (nf b o q)).trans q'⟩
 ·rw [Array.getElem?_setIfInBounds_ne (by decide)];exact h2
 ·rw [Array.getElem?_setIfInBounds_ne (by decide)];exact h0
theorem qcA {base:Heap} {env:PySem.Env} {outer:List PySem.Env} {L e T:Addr} {cls:Value} {Q:Unit->Shared->Prop} (hfr:A.frames=some (env::outer)) (hl:s.heap.FunFrames base (env::outer)) (hf:env.frame=some L) (F:qbH s.heap e T cls)
  (k:∀ h' T',Lft s.heap h' [e,T] (frs (env::outer))->qbH h' e T' cls->(T'=T\/s.heap.get? T'=none)->Q () { s with heap:=h' }) :
  wpAny M A (noteFrame (.ref e) env) (fun _ sQ=>wpAny M A (setFlight (.ref e) none) Q E sQ) E s:=by
 obtain ⟨oe,vs,oT,ts,a0,he,⟨hc,h2,h0⟩,hd,h1,hne,hT,hdT,h3⟩:=F
 subst hc
 have z3:3<ts.size:=(Array.getElem?_eq_some_iff.mp h3).1
 have z1:1<vs.size:=(Array.getElem?_eq_some_iff.mp h1).1
 have tT:(Value.ref T != Value.none)=true:=by simp
 have tL:¬ ((Value.none==rawInt L)=true):=by simp [rawInt]
 have nf:=qkh hl hT hdT
 unfold noteFrame
 simp only [hf]
 refine wpAny_bind (wpAny_field he hd h1 ?_)
 rw [if_pos tT]
 refine wpAny_bind (wpAny_field hT hdT h3 ?_)
 rw [if_neg tL]
 refine wpAny_bind (wpAny_setField hT hdT z3 ?_)
 have hl1:(s.heap.update T v0).FunFrames base (env::outer):=hl.of_keeps fun b o q hn=>⟨o,(zE fun z=>by subst z;rw [hT] at q;cases q;exact hn ts hdT).trans q,rfl⟩
 refine qdW (s:={ s with heap:=s.heap.update T v0 }) hfr hl1 hf ((zE (Ne.symm hne)).trans he) hd z1 h2 h0 fun h' T' x y z => ?_
 refine k h' T' ⟨fun b o hb hf q => ?_,fun b o hb q => ?_⟩ y (.inr ?_)
 ·simp only [List.mem_cons,nN_,or_false,not_or] at hb
  exact x.keep b o (by simpa using hb.1) hf ((zE hb.2).trans q)
 ·exact x.slot b o hb ((zE fun (z:b=T)=>nf (z▸hb)).trans q)
 ·by_cases e2:T'=T
  ·subst e2
   obtain ⟨_,_,q,_⟩:=v3 hT hdT z3
   have z':(s.heap.update T' v0).get? T'=none:=z
   rw [q] at z';cases z'
  ·exact (zE e2).symm.trans z
theorem qeH {base:Heap} {env:PySem.Env} {outer:List PySem.Env} {L e T:Addr} {cls:Value} {Q:Unit->Shared->Prop} (hfr:A.frames=some (env::outer)) (hl:s.heap.FunFrames base (env::outer)) (hf:env.frame=some L) (F:qbH s.heap e T cls)
  (k:∀ h' T',Lft s.heap h' [e,T] (frs (env::outer))->qbH h' e T' cls->(T'=T\/s.heap.get? T'=none)->Q () { s with heap:=h' }):wpAny M A (leaving env (.ref e)) Q E s:=by
 unfold leaving
 exact wpAny_bind (qcA hfr hl hf F k)
theorem qeI {base h:Heap} {env:PySem.Env} {outer:List PySem.Env} {L e:Addr} {cls:Value} {args:List Value} {Q:Unit->Shared->Prop} (hfr:A.frames=some (env::outer)) (hl:h.FunFrames base (env::outer)) (hf:env.frame=some L) (hx:Heap.MadeExcOf h s.heap e cls args)
  (k:∀ h' T',Lft s.heap h' [e] (frs (env::outer))->qbH h' e T' cls->s.heap.get? T'=none->Q () { s with heap:=h' }):wpAny M A (leaving env (.ref e)) Q E s:=by
 obtain ⟨t,he,htn,ht⟩:=hx.there
 have hl1:s.heap.FunFrames base (env::outer):=hl.of_keeps fun b o q _=>⟨o,hx.keeps b o q,rfl⟩
 unfold leaving noteFrame
 simp only [hf]
 refine wpAny_bind (wpAny_bind (wpAny_field he rfl (x := .none) rfl ?_))
 rw [if_neg (by decide)]
 exact qdW hfr hl1 hf he rfl (of_decide_eq_true rfl) rfl rfl k
theorem qeJ {base:Heap} {l:List PySem.Env} {e T:Addr} {cls:Value} {Q:Unit->Shared->Prop} (hl:s.heap.FunFrames base l) (F:qbH s.heap e T cls)
  (k:∀ h' T',Lft s.heap h' [e,T] (frs l)->qbH h' e T' cls->(T'=T\/s.heap.get? T'=none)->Q () { s with heap:=h' }) :
  wpAny M A (setFlight (.ref e) none) Q E s:=by
 obtain ⟨oe,vs,oT,ts,a0,he,hc,hd,h1,hne,hT,hdT,h3⟩:=F
 have z3:3<ts.size:=(Array.getElem?_eq_some_iff.mp h3).1
 have nf:=qkh hl hT hdT
 refine qdV he hd h1 hT hdT z3 ?_
 obtain ⟨o2,t2,q1,q2,q3⟩:=v3 hT hdT z3
 refine k _ T ⟨fun b o hb _ q => ?_,fun b o hb q=>⟨o.slots,(zE fun (z:b=T)=>nf (z▸hb)).trans q⟩⟩ ⟨oe,vs,o2,t2,a0,(zE (Ne.symm hne)).trans he,hc,hd,h1,hne,q1,q2,q3⟩ (.inl rfl)
 simp only [List.mem_cons,nN_,or_false,not_or] at hb
 exact (zE hb.2).trans q
end
theorem qiQ {P:Program} {w:World} {H:Hp} {h h':Heap} (x:HOk P w H h) (k:∀ b o,(H b).isSome=true->h.get? b=some o->h'.get? b=some o):HOk P w H h':=fun a o e =>
 (x a o e).stay (fun b u hb q=>k b u (by
   rcases hb with rfl | hb;· rw [e];rfl
   ·rw [hb];rfl) q) (fun _ z=>z) fun _ _ z=>z
theorem uk {P:Program} {w:World} {H:Hp} {h:Heap} {a:Addr} {o:HO} (x:yz P w H h a o):∃ u,h.get? a=some u:=by
 cases o with
 | lst xs=>obtain ⟨_,_,_,_,e⟩:=x;exact ⟨_,e⟩
 | tup xs=>obtain ⟨_,_,_,ob,e,_⟩:=x;exact ⟨_,e⟩
 | dK kvs=>obtain ⟨_,_,_,_,o,_,_,e,_⟩:=x;exact ⟨_,e⟩
 | dT kvs=>obtain ⟨_,_,_,_,o,_,_,e,_⟩:=x;exact ⟨_,e⟩
 | set S n=>obtain ⟨o,_,_,_,e,_⟩:=x;exact ⟨_,e⟩
 | ins C dx fs=>obtain ⟨_,_,_,e,_⟩:=x;exact ⟨_,e⟩
 | own y=>obtain ⟨_,e⟩:=x;exact ⟨_,e⟩
 | xd fs=>obtain ⟨_,⟨_,_,_,e,_⟩,_⟩:=x;exact ⟨_,e⟩
 | rng lo hi=>obtain ⟨_,_,_,e⟩:=x;exact ⟨_,e⟩
 | frz ob u=>obtain ⟨e,_⟩:=x;exact ⟨_,e⟩
 | tbl ps=>exact ⟨_,(show h.get? a=some _ from x)⟩
 | met f y=>exact ⟨_,(show h.get? a=some _ from x)⟩
 | ext φ=>obtain ⟨_,e,_⟩:=x;exact e
 | lam pos q=>rcases x with e | ⟨_,_,_,_,_,_,_,e⟩<;>exact ⟨_,e⟩
section
variable {X:Cx} {pins:List (Addr×Obj)} {Z:St} {H:Hp} {s:Shared}
theorem qdX {H':Hp} {s':Shared} {h':Heap} {ch:List Addr} (I:Inv X pins Z H s) (hs:X.stack=X.env::X.outer) (hf:X.env.frame=some X.env.locals) (hex:X.ex=[])
  (u:Un (frs X.stack) [] H H' s.heap s'.heap) (hok:HOk X.prog X.w H' s'.heap) (hch:∀ b∈ch,H' b=none) (hchn:∀ b∈ch,s.heap.get? b=none) (x:Lft s'.heap h' ch (frs X.stack)) :
  Un (frs X.outer) [] X.H₀ H' X.s₀.heap h'/\HOk X.prog X.w H' h':=by
 have hfs:frs X.stack=X.env.locals::frs X.outer:=by rw [hs];unfold frs;rw [List.filterMap_cons,hf]
 have hb:=I.base
 rw [hex] at hb
 have nL:∀ b o,X.s₀.heap.get? b=some o->b≠X.env.locals:=fun b o q z=>absurd (Nat.lt_of_lt_of_le (Heap.lt_size q) (z▸I.ok.above)) (Nat.lt_irrefl _)
 have nch:∀ b o,X.s₀.heap.get? b=some o->b ∉ ch:=fun b o q z=>by
  obtain ⟨o',q'⟩:=hb.there b o q (by simp)
  rw [hchn b z] at q';cases q'
 have nfs:∀ b o,X.s₀.heap.get? b=some o->b ∉ frs X.outer->b ∉ frs X.stack:=fun b o q z y=>by
  rw [hfs] at y
  exact (List.mem_cons.mp y).elim (nL b o q) z
 have yfs:∀ b,b∈frs X.outer->b∈frs X.stack:=fun b z=>by rw [hfs];exact mM _ z
 refine ⟨⟨fun b o q n hb1 _ => ?_,fun b o q n hb1 _ => ?_,fun b o q n _ => ?_,fun b o q _ => ?_,fun b xs q=>u.tups b xs (hb.tups b xs q),fun b o v q=>u.frzs b o v (hb.frzs b o v q),fun b ps y q=>u.tbls b ps y (hb.tbls b ps y q)⟩,?_⟩
 ·exact x.keep b o (nch b o q) (nfs b o q hb1) (u.keep b o (hb.keep b o q n hb1 (by simp)) (hb.free b o q n (by simp)) (nfs b o q hb1) (by simp))
 ·obtain ⟨sl,q1⟩:=hb.slot b o q n hb1 (by simp)
  obtain ⟨sl2,q2⟩:=u.slot b _ q1 (hb.free b o q n (by simp)) (yfs b hb1) (by simp)
  obtain ⟨sl3,q3⟩:=x.slot b _ (yfs b hb1) q2
  exact ⟨sl3,q3⟩
 ·obtain ⟨o',q'⟩:=hb.there b o q (by simp)
  exact u.free b o' q' (hb.free b o q n (by simp)) (by simp)
 ·obtain ⟨o1,q1⟩:=hb.there b o q (by simp)
  obtain ⟨o2,q2⟩:=u.there b o1 q1 (by simp)
  by_cases hb1:b∈frs X.stack
  ·obtain ⟨sl,q3⟩:=x.slot b o2 hb1 q2
   exact ⟨_,q3⟩
  ·exact ⟨o2,x.keep b o2 (nch b o q) hb1 q2⟩
 ·refine qiQ hok fun b o hb1 q=>x.keep b o (fun z => ?_) (fun z => ?_) q
  ·rw [hch b z] at hb1;cases hb1
  ·obtain ⟨_,o1,ho1,_⟩:=I.stack.mem z
   rw [u.free b o1 ho1 (I.stkFree b z) (by simp)] at hb1
   cases hb1
theorem qki {s':Shared} {E:XK} {u:Value} {A:Around} (I:Inv X pins Z H s) (hs:X.stack=X.env::X.outer) (hf:X.env.frame=some X.env.locals) (hex:X.ex=[]) (hA:A.frames=some X.stack) (x:CX1 X.prog X.w X.stack H s E u s') {E':Value->Shared->Prop} :
  wpAny (model X.prog X.w) A (leaving X.env u) (fun _ s''=>CX1 X.prog X.w X.outer X.H₀ X.s₀ E u s'') E' s':=by
 obtain ⟨e,T,C,H',rfl,os,bare,un,hok,he,hT,hHe,hHT,F,q⟩:=x
 have hl:s'.heap.FunFrames X.base X.stack:=by
  have h0:=I.stack
  have all:∀ (l:List PySem.Env),(∀ b∈frs l,b∈frs X.stack)->s.heap.FunFrames X.base l->s'.heap.FunFrames X.base l:=by
   intro l
   induction l with
   | nil=>intro _ _;trivial
   | cons env r ih =>
    intro hss hl
    obtain ⟨hk,⟨L,o,hf',hn,ho,hd⟩,hr⟩:=hl
    have hfr:frs (env::r)=L::frs r:=by unfold frs;rw [List.filterMap_cons,hf']
    rw [hfr] at hss
    have hL:=hss L mS_
    obtain ⟨sl,e⟩:=un.slot L o ho (I.stkFree L hL) hL (by simp)
    exact ⟨hk,⟨L,_,hf',hn,e,hd⟩,ih (fun b hb=>hss b (mM _ hb)) hr⟩
  exact all X.stack (fun _ z=>z) h0
 rw [hs] at hl hA
 refine qeH hA hl hf F fun h' T' y1 y2 y3 => ?_
 rw [<- hs] at y1
 have hz:∀ b∈[e,T],H' b=none:=fun b hb=>by
  simp only [List.mem_cons,nN_,or_false] at hb
  rcases hb with rfl | rfl
  ·exact hHe
  ·exact hHT
 have hzn:∀ b∈[e,T],s.heap.get? b=none:=fun b hb=>by
  simp only [List.mem_cons,nN_,or_false] at hb
  rcases hb with rfl | rfl
  ·exact he
  ·exact hT
 obtain ⟨z1,z2⟩:=qdX I hs hf hex un hok hz hzn y1
 have up:∀ b,s.heap.get? b=none->X.s₀.heap.get? b=none:=fun b hb=>by
  cases q:X.s₀.heap.get? b with
  | none=>rfl
  | some o =>
   obtain ⟨o',q'⟩:=I.base.there b o q (by rw [hex];simp)
   rw [hb] at q';cases q'
 have up':∀ b,s'.heap.get? b=none->s.heap.get? b=none:=fun b hb=>by
  cases q:s.heap.get? b with
  | none=>rfl
  | some o =>
   obtain ⟨o',q'⟩:=un.there b o q (by simp)
   rw [hb] at q';cases q'
 have hT2:s.heap.get? T'=none:=y3.elim (fun z=>z▸hT) (up' T')
 have hHT2:H' T'=none:=y3.elim (fun z=>z▸hHT) fun z=>by
  cases q:H' T' with
  | none=>rfl
  | some o =>
   obtain ⟨o',q'⟩:=uk (hok _ _ q)
   rw [z] at q';cases q'
 exact ⟨e,T',C,H',rfl,os.trans I.os,bare,z1,z2,up e he,up T' hT2,hHe,hHT2,y2,q⟩
end
structure XC (base:Heap) (C:Addr) (bm:List Value):Prop where
 hasBase:bm.contains (.type "BaseException")=true
 ex:∃ nm q N bs hdct sn sub ab col dd k0 k1 k2 k3 k5 newId initId B bmB mN,base.get? C=some (excClassObj nm q C N bs bm hdct sn sub ab col dd k0 k1 k2 k3 k5 newId)/\base.Ns N mN/\mN "__init__"=none/\OwnTail base bmB bm/\ExcBaseFacts B newId initId bmB
def qaT (n p:Nat) (body:MS) (ds:List D):R D:=if ds.length=p then match body (yf n ds) with
 | .ok (.rt d _) => .ok d
 | .ok (.nx _) => .ok .non
 | .exc x U => .exc x U
 | _ => .bad else .bad
section
variable {X:Cx} {c:Fc} {e:Expr} {es:List Expr} {pos cpos np:Pos}
theorem qhE {x:Str} {C:Addr} {bm:List Value} {t:TA} {E:XK} (hc:X.calm=true) (hg:Gl X x) (hm:X.mg x=some (.ref C)) (xc:XC X.base C bm) (ha:PA X (e::es) t)
  (made:∀ pins Z H s h' a us,Inv X pins Z H s->Heap.MadeExcOf s.heap h' a (.ref C) us->E (.ref C) none H->X.xe (.ref a) { s with heap:=h' })
  (hd:(x==("__debug__":Str))=false:=by decide) (he:starEach (e::es) X.env=(false,eval e X.env)::starEach es X.env:=by rfl) (hpl:(backTo cpos (starEach es X.env)).any (·.1)=false:=by rfl) :
  PS X (.Raise (some (.Call (.Name x np) (e::es) [] cpos)) none pos) (fun _ Z H=>t Z H fun vs H1=>vs.length<=sizeLine/\E (.ref C) none H1):=by
 intro pins s Z H D I h
 obtain ⟨nm,q,N,bs,hdct,sn,sub,ab,col,dd,k0,k1,k2,k3,k5,newId,initId,B,bmB,mN,hC,hN,hni,T,FB⟩:=xc.ex
 refine wpAny_Raise_call_subT (C:=C) (nm:=nm) (q:=q) (N:=N) (bs:=bs) (bm:=bm) (hdct:=hdct) (sn:=sn) (sub:=sub) (ab:=ab) (col:=col) (dd:=dd) (k0:=k0) (k1:=k1) (k2:=k2) (k3:=k3) (k5:=k5)
  FB (mN:=mN) xc.hasBase (I.ok.hd hc) (by rw [he];show (false||(backTo cpos (starEach es X.env)).any (·.1))=false;rw [hpl];rfl) hni ?_
 have hn:PE X (.Name x np) (fun _ H Q=>Q (.ref C) H):=qbq hg hm rfl hd
 refine thn (hn pins s Z H (fun v H1=>v = .ref C/\H1=H) I ⟨rfl,rfl⟩) fun f s1 h1 => ?_
 obtain ⟨v,H1,I1,rv,rfl,rfl⟩:=h1
 refine ⟨rv,?_⟩
 have h2:=ha cpos pins s1 Z _ _ I1 h
 rw [he] at h2 |-
 refine Calls.evalArgs_plain (thn h2 fun vs s2 h3 => ?_)
 obtain ⟨ws,H2,I2,r2,hl,hE⟩:=h3
 refine ⟨rfl,by rw [<- r2.length];exact hl,I2.bk _ _ hC,hN.keeps I2.bk,T.keeps I2.bk,fun h' a hx=>made pins Z H2 s2 h' a vs I2 hx hE⟩
structure XL (X:Cx) (c:Fc) (cl:Str->Option Addr) (E:XK):Prop where
 made:∀ C pins Z H s h' a us,Inv X pins Z H s->Heap.MadeExcOf s.heap h' a (.ref C) us->E (.ref C) none H->X.xe (.ref a) { s with heap:=h' }
 pass:wW (CX1 X.prog X.w) X E
 wish:∀ x C H',cl x.cls=some C->c.E x H'->E (.ref C) none H'
structure XL2 (X:Cx) (c:Fc) (cl:Str->Option Addr) (E:XK):Prop where
 pass:wW (CX1 X.prog X.w) X E
 wish:∀ x C H',cl x.cls=some C->c.E x H'->E (.ref C) none H'
theorem XL.two {X:Cx} {c:Fc} {cl:Str->Option Addr} {E:XK} (L:XL X c cl E):XL2 X c cl E:=⟨L.pass,L.wish⟩
def qa8 (x:Str) (f:M (List D)):MS:=fun U=>match f U with
 | .ok (ds,U')=>if qQ ds.length then .exc ⟨x,.non⟩ U' else .bad
 | .exc z U' => .exc z U'
 | .bad => .bad
theorem qbI {x:Str} {C:Addr} {bm:List Value} {f:M (List D)} {E:XK} {cl:Str->Option Addr} (hc:X.calm=true) (L:XL X c cl E) (hcl:cl x=some C) (hg:Gl X x) (hm:X.mg x=some (.ref C)) (xc:XC X.base C bm) (ha:DA X c (e::es) f)
  (hd:(x==("__debug__":Str))=false:=by decide) (he:starEach (e::es) X.env=(false,eval e X.env)::starEach es X.env:=by rfl) (hpl:(backTo cpos (starEach es X.env)).any (·.1)=false:=by rfl) :
  DS X c (.Raise (some (.Call (.Name x np) (e::es) [] cpos)) none pos) (qa8 x f):=by
 obtain ⟨t,pa,w⟩:=ha
 refine ⟨_,qhE (E:=E) hc hg hm xc pa (L.made C) hd he hpl,fun U Z H D r h=>w U Z H _ r ?_⟩
 unfold qa8 at h
 cases ef:f U with
 | bad=>rw [ef] at h;exact h
 | exc z U'=>rw [ef] at h;exact fun H' r' g'=>h Z H' r' g'.s
 | ok p =>
  obtain ⟨ds,U'⟩:=p
  rw [ef] at h
  intro vs H' r' i' g'
  by_cases hs:qQ ds.length=true
  ·simp only [hs,if_true] at h
   exact ⟨by rw [i'.length];exact of_decide_eq_true hs,L.wish ⟨x,.non⟩ C H' hcl (h Z H' r' g'.s)⟩
  ·simp only [hs] at h
   exact h.elim
def spX (K:Fr0) (cl:Str->Option Addr) (F:List D->R D):Sp:=fun vs H Q E=>∃ ds A,IsL K A H ds vs/\qcm K H/\match F ds with
 | .ok d=>∀ v H',zQ H H'->Is K (fun a=>A a\/H a=none) H' d v->Q v H'
 | .exc x _=>∃ C,cl x.cls=some C/\∀ H',zQ H H'->E (.ref C) none H'
 | .bad=>False
def yH (RN:List Str) (F:List D->R D) (g:M (List D)):M D:=bnd g fun ds U=>match F ds with
 | .ok d => .ok (d,U)
 | .exc x _=>if RN.contains x.cls then .exc x U else .bad
 | .bad => .bad
theorem qhF {k:Nat} {f:Addr} {fd:FuncData} {ps:List Str} {F:List D->R D} {x:Str} {p:Pos} {g:M (List D)} {E:XK} {cl:Str->Option Addr} (L:XL2 X c cl E) {RN:List Str} (hcl:∀ n,RN.contains n=true->(cl n).isSome=true)
  (G:u7 X.prog X.w X.K X.mg X.base (CX1 X.prog X.w) k f fd ps (spX X.K cl F)) (hr:yo k X.A) (hg:Gl X x) (hm:X.mg x=some (.ref f)) (hk:PySem.W.keepIn X.K (.ref f)=true) (hb:uK X.K fd ps [])
  (ha:DA X c (e::es) g) (hd:(x==("__debug__":Str))=false:=by decide) (he:starEach (e::es) X.env=(false,eval e X.env)::starEach es X.env:=by rfl) (hpl:(backTo pos (starEach es X.env)).any (·.1)=false:=by rfl):DE X c (.Call (.Name x p) (e::es) [] pos) (yH RN F g):=by
 obtain ⟨t,pa,w⟩:=ha
 refine ⟨_,wX G hr hg hm hk hb .nil L.pass pa hd he hpl,fun U Z H Q r h=>w U Z H _ r (WpL.bnd h fun ds U1 vs H1 r1 i1 g1 h1 => ?_)⟩
 rw [List.append_nil]
 refine ⟨ds,Cn c Z,i1,r1.tb,?_⟩
 cases ef:F ds with
 | bad=>simp only [ef] at h1;exact h1.elim
 | exc z U' =>
  simp only [ef] at h1
  by_cases hz:RN.contains z.cls=true
  case neg=>rw [if_neg hz] at h1;exact h1.elim
  rw [if_pos hz] at h1
  obtain ⟨C,hC⟩:=Option.isSome_iff_exists.mp (hcl z.cls hz)
  exact ⟨C,hC,fun H' sm=>L.wish z C H' hC (h1 H' (r1.same sm) (.of_same sm))⟩
 | ok d =>
  simp only [ef] at h1
  exact fun v H' sm i=>h1 v H' (r1.same sm) (Is.ext Ext.refl (fun a ha _=>ha.elim id r1.new) i) (.of_same sm)
def qdY (F:List D->R D) (g:M (List D)):M D:=bnd g fun ds U=>match F ds with
 | .ok d => .ok (d,U)
 | _ => .bad
theorem qhG {k:Nat} {f:Addr} {fd:FuncData} {ps:List Str} {F:List D->R D} {x:Str} {p:Pos} {g:M (List D)} {cl:Str->Option Addr}
  (G:u7 X.prog X.w X.K X.mg X.base (CX1 X.prog X.w) k f fd ps (spX X.K cl F)) (hr:yo k X.A) (hg:Gl X x) (hm:X.mg x=some (.ref f)) (hk:PySem.W.keepIn X.K (.ref f)=true) (hb:uK X.K fd ps [])
  (ha:DA X c (e::es) g) (hd:(x==("__debug__":Str))=false:=by decide) (he:starEach (e::es) X.env=(false,eval e X.env)::starEach es X.env:=by rfl) (hpl:(backTo pos (starEach es X.env)).any (·.1)=false:=by rfl):DE X c (.Call (.Name x p) (e::es) [] pos) (qdY F g):=by
 obtain ⟨t,pa,w⟩:=ha
 refine ⟨_,wX (E:=fun _ _ _=>False) G hr hg hm hk hb .nil (fun _ _ _ _ _ _ _ ⟨_,_,_,_,_,_,_,_,_,_,_,_,_,_,z⟩=>z.elim) pa hd he hpl,fun U Z H Q r h=>w U Z H _ r (WpL.bnd h fun ds U1 vs H1 r1 i1 g1 h1 => ?_)⟩
 rw [List.append_nil]
 refine ⟨ds,Cn c Z,i1,r1.tb,?_⟩
 cases ef:F ds with
 | bad=>simp only [ef] at h1;exact h1.elim
 | exc z U'=>simp only [ef] at h1;exact h1.elim
 | ok d =>
  simp only [ef] at h1
  exact fun v H' sm i=>h1 v H' (r1.same sm) (Is.ext Ext.refl (fun a ha _=>ha.elim id r1.new) i) (.of_same sm)
end
section
variable {P:Program} {w:World} {K:PySem.W.Frag} {mg:Str->Option Value} {base:Heap}
theorem qa9 {N:List Str} {qual:Str} {scope:Scope} {f:Addr} {cdv:Value} {A:Around} {outer:List PySem.Env} {s:Shared} {H:Hp} {E:XK} {c:Fc} {cl:Str->Option Addr} (hf:(envOfC qual scope s.heap.objs.size f cdv).frame=some s.heap.objs.size)
  (hw:∀ x C H',cl x.cls=some C->c.E x H'->E (.ref C) none H'):XL (qgW (CX1 P w) P w K mg base N qual scope f cdv A outer s H E) c cl E where
 made:=fun C pins Z H1 s1 h' a us I hx hE=>by
  show wpAny (model P w) _ (leaving _ (.ref a)) _ _ _
  refine qeI (s:={ s1 with heap:=h' }) (h:=s1.heap) (base:=base) I.ok.frames I.stack hf hx fun h2 T' y1 y2 y3 => ?_
  have hn:H1 a=none:=by
   cases q:H1 a with
   | none=>rfl
   | some o =>
    obtain ⟨o',q'⟩:=uk (I.hok _ _ q)
    rw [hx.new] at q';cases q'
  have hT:s1.heap.get? T'=none:=by
   cases q:s1.heap.get? T' with
   | none=>rfl
   | some o=>rw [show ({ s1 with heap:=h' }:Shared).heap.get? T'=some o from hx.keeps _ _ q] at y3;cases y3
  have hHT:H1 T'=none:=by
   cases q:H1 T' with
   | none=>rfl
   | some o =>
    obtain ⟨o',q'⟩:=uk (I.hok _ _ q)
    rw [hT] at q';cases q'
  have up:∀ b,s1.heap.get? b=none->s.heap.get? b=none:=fun b hb=>by
   cases q:s.heap.get? b with
   | none=>rfl
   | some o =>
    obtain ⟨o',q'⟩:=I.base.there b o q (by show b ∉ ([]:List Addr);simp)
    rw [hb] at q';cases q'
  obtain ⟨z1,z2⟩:=qdX (s':={ s1 with heap:=h' }) I rfl hf rfl (Un.kept hx.keeps) (I.hok.kept hx.keeps) (fun b hb=>by rw [ms_] at hb;subst hb;exact hn) (fun b hb=>by rw [ms_] at hb;subst hb;exact hx.new) y1
  exact ⟨a,T',C,H1,rfl,I.os,I.bare,z1,z2,up a hx.new,up T' hT,hn,hHT,y2,hE⟩
 pass:=fun pins Z H1 s1 u s' I x=>qki I rfl hf rfl I.ok.frames x
 wish:=hw
theorem qba {x qual:Str} {st:Stmt} {f:Addr} {fd:FuncData} {N ps:List Str} {k:Nat} {O:List Nat} {body:MS} {cl:Str->Option Addr} (F:Fun K x qual st f fd) (S:qC N ps (qd st)) (hO:∀ i∈O,ps.length<=i)
  (hb:∀ (cdv:Value) (A:Around) (outer:List PySem.Env) (s:Shared) (H:Hp) (E:XK) (B:Addr->Prop),yo k (A.deeper (envOfC qual (qd st) s.heap.objs.size f cdv)) ->
   DSs (qgW (CX1 P w) P w K mg base N qual (qd st) f cdv A outer s H E) (cfn O [] B H (fun _=>False) (fun x H'=>∀ C,cl x.cls=some C->E (.ref C) none H') fun _=>none) (qz st) body) :
  u7 P w K mg base (CX1 P w) (k+1) f fd ps (spX K cl (qaT N.length ps.length body)):=by
 obtain ⟨oc,od,kV,doc,pm,an,cdv,ct,osl,rfl,lk,hcd⟩:=F.ex
 refine qlq lk hcd S (fun vs H Q E h => ?_) fun A outer s H vs Q E hr h => ?_
 ·obtain ⟨ds,B,il,_,h⟩:=h
  unfold qaT at h
  by_cases e:ds.length=ps.length
  ·rw [il.length];exact e
  ·rw [if_neg e] at h;exact h.elim
 ·obtain ⟨ds,B,il,tb,h⟩:=h
  obtain ⟨t,p,wt⟩:=hb cdv A outer s H E B hr
  refine ⟨t,p,?_⟩
  unfold qaT at h
  by_cases e:ds.length=ps.length
  ·rw [if_pos e] at h
   refine wt (yf N.length ds) (z4 N vs) H _ (qak il tb (fun i hi=>by rw [e];exact hO i hi)) ?_
   have same:∀ {U:Env} {Z:St} {H':Hp},Rep K (cfn O [] B H (fun _=>False) (fun x H'=>∀ C,cl x.cls=some C->E (.ref C) none H') fun _=>none) U Z H'->zQ H H':=fun r b o hb=>r.kp b o hb fun z=>z
   cases eb:body (yf N.length ds) with
   | bad=>rw [eb] at h;exact h.elim
   | exc z U =>
    rw [eb] at h
    obtain ⟨C,hC,h⟩:=h
    exact fun Z' H' r' _ C' hC'=>by
     rw [hC] at hC';cases hC'
     exact h H' (same r')
   | ok fl =>
    rw [eb] at h
    cases fl with
    | nx U=>exact fun Z' H' r' _=>h .non H' (same r') rfl
    | rt d U=>exact fun v Z' H' r' i' _=>h v H' (same r') i'
    | bk U=>exact h.elim
    | ct U=>exact h.elim
  ·rw [if_neg e] at h;exact h.elim
structure uP (P:Program) (w:World) (K:PySem.W.Frag) (mg:Str->Option Value) (base:Heap) (k:Nat) (x:Str) (ps:List Str) (sp:Sp):Prop where
 ex:∃ f fd,u7 P w K mg base (CX1 P w) k f fd ps sp/\mg x=some (.ref f)/\PySem.W.keepIn K (.ref f)=true/\uK K fd ps []
end
section
variable {M:Model} {A:Around} {E:Value->Shared->Prop}
variable {nm q nm' q':Str} {C S N N':Addr} {bs bm bs' bm':List Value} {hdct hdct':Bool} {sn sn':List Str} {sub sub':List Value} {ab ab':Bool} {col col':Option Bool} {dd dd':Option Addr} {k0 k1 k2 k3 k5 j0 j1 j2 j3 j5:Option Value} {newId newId':String}
theorem qaU {h:Heap} {g:Array GenState} {d:Drawn} {t:Nat} {os:OsState} {e:Addr} {oe:Obj} {Q:Bool->Shared->Prop}
  (hC:h.get? C=some (excClassObj nm q C N bs bm hdct sn sub ab col dd k0 k1 k2 k3 k5 newId)) (hS:h.get? S=some (excClassObj nm' q' S N' bs' bm' hdct' sn' sub' ab' col' dd' j0 j1 j2 j3 j5 newId'))
  (he:h.get? e=some oe) (hcls:oe.cls = .ref C) (hbase:bm'.contains (.type "BaseException")=true)
  (hq:Q ((Value.ref C::bm).contains (.ref S)) ⟨h,g,d,t,os⟩):wpAny M A (excMatches (.ref e) (.ref S)) Q E ⟨h,g,d,t,os⟩:=by
 have hcB:(Value.ref S::bm').contains (.type "BaseException")=true:=by rw [List.contains_cons,hbase,Bool.or_true]
 have f:=tc_notTuple
 unfold excMatches
 repeat (first | (with_reducible refine wpAny_loadPart_at he ?_;rw [hcls]) | with_reducible refine wpAny_loadPart_at hS ?_ | (with_reducible refine wpAny_isSubtype_exc hS ?_;rw [hcB]) | with_reducible refine wpAny_isSubtype_exc hC ?_ | wp_step)
 all_goals (first | exact hq | (cases hb:(Value.ref C::bm).contains (.ref S)<;>(rw [hb] at hq;wp_walk;exact hq)))
end
end L2.Sk
namespace L2
open PySem PySem.Spec PyProof.Rows
def AloneA (A:Around) (H:Hp):Prop:=∃ e oe u vs,A.handled=some (.ref e)/\H e=some (.frz oe u)/\oe.data = .fields vs/\vs[2]? = some .none
def qmd (A:Around) (sp:Sp) (dvs:List V) (E:XK) (t:TA):TE:=fun Z H Q=>t Z H fun vs H1=>AloneA A H1/\sp (vs++dvs) H1 Q E
structure uQ (k:Nat) (A:Around):Prop where
 dp:A.depth+3*k+5<recursionLimit
 un:A.units+16*k+200<cLine
 gd:A.guards=some []
theorem uQ.mono {j k:Nat} {A:Around} (r:uQ k A) (h:j<=k):uQ j A:=⟨by have:=r.dp;omega,by have:=r.un;omega,r.gd⟩
theorem uQ.deeper {k:Nat} {A:Around} (r:uQ (k+1) A) (env:Env):uQ k (A.deeper env) :=
 ⟨by have:=r.dp;show A.depth+1+3*k+5<_;omega,by have:=r.un;show A.units+3+16*k+200<_;omega,r.gd⟩
theorem uQ.depth {k:Nat} {A:Around} (r:uQ k A):A.depth<recursionLimit:=by have:=r.dp;omega
structure qcB (P:Program) (w:World) (K:PySem.W.Frag) (mg:Str->Option Value) (base:Heap) (CX:CXT) (k:Nat) (f:Addr) (fd:FuncData) (ps:List Str) (sp:Sp):Prop where
 len:∀ vs H Q E,sp vs H Q E->vs.length=ps.length
 run:∀ (A:Around) (outer:List Env) (s:Shared) (H:Hp) (args:Args) (us:List Value) (vs:List V) (Q:VK) (E:XK),uQ k A->AloneA A H->qgV P w K mg base A outer s H->BindsTo s fd args (ps.zip us)->qW vs us->sp vs H Q E ->
  codeAny (model P w) A (.call (.ref f) args) (CR CX outer P w H s Q E) s
def qeK (CX:CXT) (P:Program) (w:World) (K:PySem.W.Frag) (mg:Str->Option Value) (base:Heap) (N:List Str) (qual:Str) (scope:Scope) (f:Addr) (cd:Value) (A:Around) (outer:List Env) (s:Shared) (H:Hp) (E:XK):Cx where
 prog:=P
 w:=w
 K:=K
 mg:=mg
 base:=base
 A:=A.deeper (envOfC qual scope s.heap.objs.size f cd)
 N:=N
 s₀:=s
 H₀:=H
 env:=envOfC qual scope s.heap.objs.size f cd
 outer:=outer
 stack:=envOfC qual scope s.heap.objs.size f cd::outer
 ex:=[]
 calm:=false
 fn:=fun _=>true
 pn:=[]
 xe:=fun e s'=>wpAny (model P w) (A.deeper (envOfC qual scope s.heap.objs.size f cd)) (leaving (envOfC qual scope s.heap.objs.size f cd) e) (fun _ s''=>CX outer H s E e s'') (fun e' s''=>CX outer H s E e' s'') s'
theorem qeL {CX:CXT} {P:Program} {w:World} {K:PySem.W.Frag} {mg:Str->Option Value} {base:Heap} {N ps:List Str} {qual:Str} {scope:Scope} {f:Addr} {cd:Value} {A:Around} {outer:List Env} {s s1:Shared} {H:Hp} {E:XK} {us:List Value} {vs:List V}
  (S:qC N ps scope) (e0:qgV P w K mg base A outer s H) (hl:vs.length=ps.length) (r:qW vs us)
  (x:InCallC s s.heap.objs.size (bindL (envOfC qual scope s.heap.objs.size f cd).kindOf (ps.zip us) fun _=>none) (cellsFrom (s.heap.objs.size+1) scope.names []) (bindC (envOfC qual scope s.heap.objs.size f cd).kindOf (ps.zip us) fun _=>none) s1) :
  Inv (qeK CX P w K mg base N qual scope f cd A outer s H E) [] (z4 N vs) H s1:=by
 have hpl:ps.length<=N.length:=by have:=congrArg List.length S.pre;rw [List.length_take] at this;omega
 obtain ⟨h1,tk,rfl,hk⟩:=x.done
 have noA:∀ b:Addr,b ∉ (qeK CX P w K mg base N qual scope f cd A outer s H E).ex:=fun b z=>absurd (show b∈([]:List Addr) from z) (by simp)
 refine ⟨⟨e0.mod,S.kind,rfl,rfl,Nat.le_refl _,fun y z c h1 h2 => ?_,fun y hy => ?_,fun y c _ h => ?_,(fun z=>Bool.noConfusion z),Around.frames_deeper e0.frames,.inr ⟨rfl,rfl⟩,fun b z=>absurd z (noA b),e0.bs,e0.bsz,fun b _ _=>noA b,fun b z=>absurd z (noA b),e0.funs,e0.frf⟩,
  rfl,e0.bare,Un.kept hk,⟨_,x.toInCall.ns,fun i y v h1 h2 h3 => ?_⟩,fun y c h=>⟨_,x.cell y c h⟩,e0.hok.fresh (Nat.le_refl _),fun y c h => ?_,fun p hp=>absurd (show p∈([]:List (Addr×Obj)) from hp) (by simp),e0.hok.kept hk,?_⟩
 ·exact name_of_addr x.apart (PySem.mem_of_lookup h1) (PySem.mem_of_lookup h2)
 ·have hy:scope.names.lookup y=some .cell\/scope.names.lookup y=some .free:=hy
  rcases hy with hy | hy
  ·exact wL hy
  ·exact absurd rfl (S.nofree _ (PySem.mem_of_lookup hy))
 ·exact Nat.le_of_lt (x.above y c (PySem.mem_of_lookup h))
 ·have hi:i<vs.length:=by
   unfold z4 at h2
   by_cases hi:i<vs.length
   ·exact hi
   ·rw [List.getElem?_append_right (by simpa using hi)] at h2
    rw [List.getElem?_replicate] at h2
    split at h2<;>cases h2
  have ha:vs[i]? = some v:=by
   unfold z4 at h2
   rw [List.getElem?_append_left (by simpa using hi),gM_] at h2
   cases e:vs[i]? with
   | none=>rw [e] at h2;cases h2
   | some a=>rw [e] at h2;cases h2;rfl
  obtain ⟨u,hu,rv⟩:=r.get ha
  have hp:ps[i]? = some y:=by
   rw [<- S.pre,List.getElem?_take_of_lt (by omega)];exact h1
  have ndP:ps.Nodup:=by rw [<- S.pre];exact S.nd.sublist (List.take_sublist _ _)
  refine ⟨u,rv,?_⟩
  rcases S.par y (List.mem_of_getElem? hp) with k | k
  ·exact .inl ⟨k,wY ndP hp hu k⟩
  ·obtain ⟨c,e⟩:=wL (n:=s.heap.objs.size+1) k
   refine .inr ⟨.inl k,c,e,?_⟩
   have q:=x.cell y c e
   rw [wZ ndP hp hu (by show scope.names.lookup y≠_;rw [k];decide)] at q
   exact q
 ·exact e0.hok.fresh (Nat.le_of_lt (x.above y c (PySem.mem_of_lookup h)))
 ·unfold z4
  show _=N.length
  rw [lA_,lM_,List.length_replicate]
  omega
theorem qme {CX:CXT} {P:Program} {w:World} {K:PySem.W.Frag} {mg:Str->Option Value} {base:Heap} {k:Nat} {f:Addr} {name qual:Str} {params:Arguments} {body:List Stmt} {scope:Scope} {dV kV doc pm cdv ct oc:Value} {an od:Option Addr}
  {osl:Array (Option Value)} {N ps:List Str} {sp:Sp} (lk:K.lookup f=some ⟨oc,od,.func (PySem.W.fnOf name qual params body scope dV kV doc pm an cdv ct),osl⟩) (hcd:PySem.W.codeIn K cdv qual=true) (S:qC N ps scope)
  (len:∀ vs H Q E,sp vs H Q E->vs.length=ps.length)
  (hbody:∀ (A:Around) (outer:List Env) (s:Shared) (H:Hp) (vs:List V) (Q:VK) (E:XK),uQ k (A.deeper (envOfC qual scope s.heap.objs.size f cdv))->AloneA (A.deeper (envOfC qual scope s.heap.objs.size f cdv)) H->sp vs H Q E ->
   ∃ t,PSs (qeK CX P w K mg base N qual scope f cdv A outer s H E) body t/\t { nx:=fun _ H'=>Q .non H',rt:=Q } (z4 N vs) H) :
  qcB P w K mg base CX (k+1) f (PySem.W.fnOf name qual params body scope dV kV doc pm an cdv ct) ps sp:=by
 refine ⟨len,fun A outer s H args us vs Q E hr al e0 hb r hsp => ?_⟩
 have hl:=len _ _ _ _ hsp
 have KX:K.In s.heap:=e0.mod.kin.keeps fun b o e=>(e0.bs b o e).1
 have lim:s.heap.NoLimit:=e0.mod.nolimit.keeps fun b o e=>(e0.bs b o e).1
 have hkind:∀ y∈ps.zip us,scope.names.lookup y.1=some .local\/(scope.names.lookup y.1=some .cell/\((cellsFrom (s.heap.objs.size+1) scope.names []).lookup y.1).isSome=true):=fun ⟨n,v⟩ hy=>by
  rcases S.par n (List.of_mem_zip hy).1 with q | q
  ·exact .inl q
  ·exact .inr ⟨q,PySem.W.cellsFrom_some _ _ _ (.inl q)⟩
 refine codeAny_call_function hr.depth (KX _ _ lk) rfl S.co S.gen rfl (PySem.W.codeRec_of KX hcd) (hb _ _ _ _ ?_)
 refine wpAny_newFunctionEnv_cells S.kind hkind fun env he s1 x => ?_
 subst he
 refine ⟨lim.keeps x.toInCall.keep,codeAny_func ?_⟩
 obtain ⟨t,ht,hq⟩:=hbody A outer s H vs Q E (hr.deeper _) al hsp
 have I:Inv (qeK CX P w K mg base N qual scope f cdv A outer s H E) [] (z4 N vs) H s1:=qeL S e0 hl r x
 refine wpAny_mono (ht [] s1 (z4 N vs) H _ I hq) (fun fl s' hs => ?_) fun e s' hs=>hs
 have fin:∀ {Z':St} {H':Hp} {v:V} {u:Value},Inv (qeK CX P w K mg base N qual scope f cdv A outer s H E) [] Z' H' s'->ji v u->Q v H'->CE outer P w H s Q u s' :=
  fun {Z' H' v u} J rv q=>⟨v,H',J.os,J.bare,J.base,J.hok,rv,q⟩
 cases fl with
 | ret u =>
  obtain ⟨v,Z',H',J,rv,q⟩:=hs
  exact fin J rv q
 | next =>
  obtain ⟨Z',H',J,q⟩:=hs
  exact fin (v:=V.non) (u:=Value.none) J rfl q
 | brk =>
  obtain ⟨_,_,_,q⟩:=hs
  exact False.elim q
 | cont =>
  obtain ⟨_,_,_,q⟩:=hs
  exact False.elim q
section
variable {X:Cx} {CX:CXT} {k:Nat} {f C:Addr} {fd:FuncData} {ps:List Str} {sp:Sp} {dvs:List V} {ds:List Value} {E:XK} {x m:Str} {p pos apos:Pos} {e o:Expr} {es:List Expr} {ta:TE} {t:TA}
theorem qkj {pins:List (Addr×Obj)} {Z:St} {H:Hp} {s:Shared} {Q:VK} {us:List Value} {vs:List V} (F:qcB X.prog X.w X.K X.mg X.base CX k f fd ps sp) (hr:uQ k X.A) (hb:uK X.K fd ps ds) (hd:qW dvs ds) (hx:wW CX X E)
  (I:Inv X pins Z H s) (r:qW vs us) (al:AloneA X.A H) (h:sp (vs++dvs) H Q E):wpAny (model X.prog X.w) X.A (call (.ref f) us) (EP X pins Z Q) X.xe s:=by
 have r2:qW (vs++dvs) (us++ds):=r.append hd
 have hl:(us++ds).length=ps.length:=by rw [<- r2.length];exact F.len _ _ _ _ h
 refine wpAny_call (codeAny_mono (F.run X.A X.stack s H ⟨us,[]⟩ (us++ds) (vs++dvs) Q E hr al I.env0 (hb s us I.kIn hl) r2 h) fun r s' hq => ?_)
 cases r with
 | error e=>exact hx pins Z H s e s' I hq
 | ok fl =>
  cases fl with
  | ret u=>exact I.after hq
  | next=>exact False.elim hq
  | brk=>exact False.elim hq
  | cont=>exact False.elim hq
theorem qdZ (F:qcB X.prog X.w X.K X.mg X.base CX k f fd ps sp) (hr:uQ k X.A) (hg:Gl X x) (hm:X.mg x=some (.ref f)) (hk:PySem.W.keepIn X.K (.ref f)=true) (hb:uK X.K fd ps ds) (hd:qW dvs ds) (hx:wW CX X E)
  (ha:PA X (e::es) t) (hdb:(x==("__debug__":Str))=false:=by decide) (he:starEach (e::es) X.env=(false,eval e X.env)::starEach es X.env:=by rfl) (hpl:(backTo pos (starEach es X.env)).any (·.1)=false:=by rfl) :
  PE X (.Call (.Name x p) (e::es) [] pos) (qmd X.A sp dvs E t):=by
 intro pins s Z H Q I h
 refine wpAny_Call_Name_kw (qbp I hg hm ?_ hdb)
 refine PySem.W.callWith_K (h₀:=X.base) I.ok.mod.kin hk (thn (ha pos pins s Z H _ I h) fun us s1 ⟨vs,H1,I1,r,q⟩=>⟨I1.kIn,?_⟩) he hpl
 exact qkj F hr hb hd hx I1 r q.1 q.2
end
end L2
namespace L2.Sk
open PySem PySem.Spec PyProof.Rows
def isT (b:Bool):Value->Bool
 | .bool a=>a==b
 | _=>false
theorem v4:∀ {bs:List Bool} {us:List Value},qW (bs.map V.bl) us->us=bs.map Value.bool
 | [],_,r=>by rw [List.map_nil] at r;cases r;rfl
 | b::bs,_,r=>by
  rw [mC_] at r
  cases r with
  | cons r1 r2 =>
   have e:_=Value.bool b:=r1
   rw [e,v4 r2];rfl
theorem qbb (b:Bool):∀ bs:List Bool,List.countP (isT b) (bs.map Value.bool)=bs.countP (·==b)
 | []=>rfl
 | a::bs=>by simp [List.countP_cons,qbb b bs,isT]
def qiR:V->List V->Hp->VK->Prop:=fun x vs H Q=>∃ (l:Addr) (bs:List Bool) (b:Bool),x = .ref l/\vs=[.bl b]/\H l=some (.lst (bs.map V.bl))/\Q (.int (bs.countP (·==b))) H
def qiS:V->List V->Hp->VK->Prop:=fun x vs H Q=>∃ (l:Addr) (bs:List Bool) (b:Bool) (j:Nat),x = .ref l/\vs=[.bl b]/\H l=some (.lst (bs.map V.bl))/\bs.findIdx? (·==b)=some j/\Q (.int j) H
section
variable {X:Cx}
theorem qhH:MtR X "list.count" qiR:=by
 intro pins s Z H x vs v us Q I rx rv h
 obtain ⟨l,bs,b,rfl,rfl,hH,q⟩:=h
 cases rx
 obtain ⟨u,rfl,ru⟩:=qW.one rv
 have ru':u=Value.bool b:=ru
 subst ru'
 obtain ⟨z,its,n,r,hl,e⟩:=I.lstM hH
 have hi:=v4 r
 subst hi
 refine call_meets F.slot_list_count ⟨_,e,rfl⟩ F.entry_list_count (F.args_list_count_2 _ _) (SeqAt.list_countAt l (bs.map Value.bool).toArray n none #[] (.bool b) (isT b)) ⟨e,fun y hy => ?_,?_⟩
 ·have hy':y∈bs.map Value.bool:=by simpa using hy
  obtain ⟨a,_,rfl⟩:=mP_.mp hy'
  exact SeqAt.EqAt.bool_bool a b
 ·refine ⟨.int _,H,I.tok _,⟨s.toks,?_⟩,q⟩
  show Value.int _ _=Value.int _ _
  rw [List.toList_toArray,qbb]
theorem qhI:MtR X "list.index" qiS:=by
 intro pins s Z H x vs v us Q I rx rv h
 obtain ⟨l,bs,b,j,rfl,rfl,hH,hj,q⟩:=h
 cases rx
 obtain ⟨u,rfl,ru⟩:=qW.one rv
 have ru':u=Value.bool b:=ru
 subst ru'
 obtain ⟨z,its,n,r,hl,e⟩:=I.lstM hH
 have hi:=v4 r
 subst hi
 rw [List.findIdx?_eq_some_iff_getElem] at hj
 obtain ⟨h1,h2,h3⟩:=hj
 have hz:bs.length<=sizeLine:=by simpa using z
 rw [sizeLine_eq] at hz
 refine call_meets F.slot_list_index ⟨_,e,rfl⟩ F.entry_list_index (F.args_list_index_2 _ _) (SeqAt.list_indexAt l (bs.map Value.bool).toArray n none #[] (.bool b) (isT b) j (by simpa using h1) (by omega) ?_ ?_) ⟨e,fun y hy => ?_,?_⟩
 ·simpa [isT] using h2
 ·intro m hm hmj
  have:=h3 m hmj
  simpa [isT] using this
 ·have hy':y∈bs.map Value.bool:=by simpa using hy
  obtain ⟨a,_,rfl⟩:=mP_.mp hy'
  exact SeqAt.EqAt.bool_bool a b
 ·exact ⟨.int _,H,I.tok _,⟨s.toks,rfl⟩,q⟩
end
def qcC (x:D) (ys:List D):Option D:=match x,ys with
 | .lst ds,[.bl b]=>(yD ds).map fun bs => .int (bs.countP (·==b))
 | _,_=>none
def qcD (x:D) (ys:List D):Option D:=match x,ys with
 | .lst ds,[.bl b]=>(yD ds).bind fun bs=>(bs.findIdx? (·==b)).map fun j => .int j
 | _,_=>none
def qbJ (F:D->List D->Option D) (f:M D) (g:M (List D)):M D:=bnd f fun x=>match x with
 | .lst ds=>bnd g fun ys=>lift (F (.lst ds) ys)
 | _=>fun _ => .bad
def qf3 (K:Fr0) (F:D->List D->Option D) (r:V->List V->Hp->VK->Prop):Prop:=∀ A H x ys d v vs (Q:VK),(∀ a,H a=none->A a)->Is K A H x v->IsL K A H ys vs->F x ys=some d->(∀ u H',zQ H H'->Is K A H' d u->Q u H')->r v vs H Q
theorem qdi {K:Fr0}:qf3 K qcC qiR:=by
 intro A H x ys d v vs Q hn ix iy e k
 unfold qcC at e
 split at e
 ·rename_i ds b
  obtain ⟨u,rfl,e2⟩:=IsL.inv1 iy
  cases e2
  obtain ⟨a,xs,rfl,_,ta,il⟩:=ix
  cases eb:yD ds with
  | none=>rw [eb] at e;cases e
  | some bs =>
   rw [eb] at e
   cases e
   rw [uj il eb] at ta
   exact ⟨a,bs,b,rfl,rfl,ta,k _ H (zQ.refl H) rfl⟩
 ·cases e
theorem qdj {K:Fr0}:qf3 K qcD qiS:=by
 intro A H x ys d v vs Q hn ix iy e k
 unfold qcD at e
 split at e
 ·rename_i ds b
  obtain ⟨u,rfl,e2⟩:=IsL.inv1 iy
  cases e2
  obtain ⟨a,xs,rfl,_,ta,il⟩:=ix
  cases eb:yD ds with
  | none=>rw [eb] at e;cases e
  | some bs =>
   rw [eb] at e
   cases ej:bs.findIdx? (·==b) with
   | none=>simp only [Option.bind_some,ej] at e;cases e
   | some j =>
    simp only [Option.bind_some,ej,Option.map_some] at e
    cases e
    rw [uj il eb] at ta
    exact ⟨a,bs,b,j,rfl,rfl,ta,ej,k _ H (zQ.refl H) rfl⟩
 ·cases e
section
variable {X:Cx} {c:Fc} {o e:Expr} {es:List Expr} {apos cpos:Pos}
theorem qbK {id:String} {name:Str} {r:V->List V->Hp->VK->Prop} {F:D->List D->Option D} {f:M D} {g:M (List D)} (slot:Slot "list" name id) (hty:typeOf (.builtin id)=pure (.type "method_descriptor")) (hm:MtR X id r) (hF:qf3 X.K F r)
  (ho:DE X c o f) (ha:DA X c (e::es) g)
  (hbase:attributeBase o name X.env (eval o X.env)=eval o X.env:=by rfl)
  (hfew:((backTo cpos (starEach (e::es) X.env)).all (fun x => !x.1)&&(backToKw cpos (keywordEach [] X.env)).all (fun x=>x.1.isSome)
   && decide ((e::es).length+([]:List Keyword).length+(if ([]:List Keyword).isEmpty then 0 else 1)<30))=true:=by rfl)
  (hline:(apos.endLine==cpos.line)=true:=by rfl) (hs:starEach (e::es) X.env=(false,eval e X.env)::starEach es X.env:=by rfl) (hplain:(backTo cpos (starEach es X.env)).any (·.1)=false:=by rfl) :
  DE X c (.Call (.Attribute o name apos) (e::es) [] cpos) (qbJ F f g):=by
 obtain ⟨to,po,wo⟩:=ho
 obtain ⟨t,pa,wa⟩:=ha
 refine ⟨_,qjA PySem.F.plainAttrs_list slot hty hm po pa hbase hfew hline hs hplain,fun U Z H Q r0 h=>wo U Z H _ r0 (Wp.bnd h fun x U1 v H1 r1 i1 g1 h1 => ?_)⟩
 cases x with
 | lst ds =>
  obtain ⟨a,xs,rfl,ha,hH,il⟩:=i1
  refine ⟨.inl ⟨rfl,xs,.inl (.inl hH)⟩,wa U1 Z H1 _ r1 (WpL.bnd h1 fun ys U2 vs H2 r2 i2 g2 h2 => ?_)⟩
  obtain ⟨d,ed,h3⟩:=h2.lift
  exact hF (Cn c Z) H2 (.lst ds) ys d (.ref a) vs Q (fun a ha=>r2.new ha) (g2.is ⟨a,xs,rfl,ha,hH,il⟩) i2 ed fun u H' sm i=>h3 u H' (r2.same sm) i (.of_same sm)
 | _=>exact h1.elim
end
def isI (b:Int):Value->Bool
 | .int a _=>a==b
 | _=>false
theorem qiT {b:Int}:∀ {ns:List Int} {us:List Value} {i:Nat} {u:Value},qW (ns.map V.int) us->us[i]? = some u->∃ n t,ns[i]? = some n/\u = .int n t
 | [],us,i,u,r,h=>by
  rw [List.map_nil] at r;cases r;simp at h
 | n :: ns,us,i,u,r,h=>by
  rw [mC_] at r
  cases r with
  | cons r1 r2 =>
   obtain ⟨t,rfl⟩:=r1
   cases i with
   | zero =>
    have:Value.int n t=u:=by simpa using h
    exact ⟨n,t,rfl,this.symm⟩
   | succ i =>
    obtain ⟨m,t',h1,h2⟩:=qiT (b:=b) (i:=i) r2 (by simpa using h)
    exact ⟨m,t',by simpa using h1,h2⟩
theorem qbc (b:Int):∀ {ns:List Int} {us:List Value},qW (ns.map V.int) us->us.countP (isI b)=ns.countP (·==b)
 | [],us,r=>by rw [List.map_nil] at r;cases r;rfl
 | n::ns,us,r=>by
  rw [mC_] at r
  cases r with
  | cons r1 r2 =>
   obtain ⟨t,rfl⟩:=r1
   rw [List.countP_cons,List.countP_cons,qbc b r2]
   rfl
def qf4:V->List V->Hp->VK->Prop:=fun x vs H Q=>∃ (l:Addr) (ns:List Int) (b:Int),x = .ref l/\vs=[.int b]/\H l=some (.lst (ns.map V.int))/\Q (.int (ns.countP (·==b))) H
section
variable {X:Cx}
theorem qf5:MtR X "list.count" qf4:=by
 intro pins s Z H x vs v us Q I rx rv h
 obtain ⟨l,ns,b,rfl,rfl,hH,q⟩:=h
 cases rx
 obtain ⟨u,rfl,ru⟩:=qW.one rv
 obtain ⟨t,rfl⟩:=ru
 obtain ⟨z,its,n,r,hl,e⟩:=I.lstM hH
 refine call_meets F.slot_list_count ⟨_,e,rfl⟩ F.entry_list_count (F.args_list_count_2 _ _) (SeqAt.list_countAt l its.toArray n none #[] (.int b t) (isI b)) ⟨e,fun y hy => ?_,?_⟩
 ·have hy':y∈its:=by simpa using hy
  obtain ⟨i,hi⟩:=List.mem_iff_getElem?.mp hy'
  obtain ⟨m,t',_,rfl⟩:=qiT (b:=b) r hi
  exact SeqAt.EqAt.int_int m t' b t
 ·refine ⟨.int _,H,I.tok _,⟨s.toks,?_⟩,q⟩
  show Value.int _ _=Value.int _ _
  rw [List.toList_toArray,qbc b r]
end
def qbd (x:D) (ys:List D):Option D:=match x,ys with
 | .lst ds,[.int b]=>(u8 ds).map fun ns => .int (ns.countP (·==b))
 | _,_=>none
theorem qcE {K:Fr0}:qf3 K qbd qf4:=by
 intro A H x ys d v vs Q hn ix iy e k
 unfold qbd at e
 split at e
 ·rename_i ds b
  obtain ⟨u,rfl,e2⟩:=IsL.inv1 iy
  cases e2
  obtain ⟨a,xs,rfl,_,ta,il⟩:=ix
  cases eb:u8 ds with
  | none=>rw [eb] at e;cases e
  | some bs =>
   rw [eb] at e
   cases e
   rw [y9 il eb] at ta
   exact ⟨a,bs,b,rfl,rfl,ta,k _ H (zQ.refl H) rfl⟩
 ·cases e
@[reducible] def toX (X:Cx) (xe:Value->Shared->Prop) (pn:List (Addr×Obj)):Cx:={ X with xe:=xe,pn:=pn }
@[reducible] def hdX (X:Cx) (e:Addr):Cx:={ X with A:=X.A.mark (some (.ref e)),calm:=false,xe:=fun _ _=>False }
section
variable {X:Cx} {pins:List (Addr×Obj)} {Z:St} {H:Hp} {s:Shared} {xe:Value->Shared->Prop}
theorem qmf (I:Inv X pins Z H s):Inv (toX X xe (X.pn++pins)) [] Z H s :=
 let k:=I.ok
 ⟨⟨k.mod,k.kind,k.glob,k.blt,k.above,k.inj,k.has,k.cab,k.hd,k.frames,k.stk,k.exf,k.bs,k.bsz,k.noex,k.exfs,k.funs,k.frf⟩,I.os,I.bare,I.base,I.loc,I.cell,I.free,I.freeC,
  fun p hp=>I.pin p (by rw [List.append_nil] at hp;exact hp),I.hok,I.len⟩
theorem vG {pins2:List (Addr×Obj)} (I:Inv (toX X xe (X.pn++pins)) pins2 Z H s):Inv X pins Z H s :=
 let k:=I.ok
 ⟨⟨k.mod,k.kind,k.glob,k.blt,k.above,k.inj,k.has,k.cab,k.hd,k.frames,k.stk,k.exf,k.bs,k.bsz,k.noex,k.exfs,k.funs,k.frf⟩,I.os,I.bare,I.base,I.loc,I.cell,I.free,I.freeC,
  fun p hp=>I.pin p (List.mem_append_left _ hp),I.hok,I.len⟩
theorem qiU (e:Addr) (I:Inv X pins Z H s):Inv (hdX X e) pins Z H s :=
 let k:=I.ok
 ⟨⟨k.mod,k.kind,k.glob,k.blt,k.above,k.inj,k.has,k.cab,fun z=>(nomatch z),k.frames,k.stk,k.exf,k.bs,k.bsz,k.noex,k.exfs,k.funs,k.frf⟩,I.os,I.bare,I.base,I.loc,I.cell,I.free,I.freeC,I.pin,I.hok,I.len⟩
theorem qhJ {e:Addr} {Z':St} {H':Hp} {s':Shared} (k:X.Ok) (I:Inv (hdX X e) pins Z' H' s'):Inv X pins Z' H' s' :=
 ⟨k,I.os,I.bare,I.base,I.loc,I.cell,I.free,I.freeC,I.pin,I.hok,I.len⟩
theorem qeM {h':Heap} {m':Str->Option Value} {tk:Nat} (I:Inv X pins Z H s) (hn:h'.Ns X.env.locals m') (hs:Heap.SameBut X.env.locals s.heap h') :
  Inv X pins (List.replicate X.N.length none) H { s with heap:=h',toks:=tk }:=by
 obtain ⟨m,hn0,_⟩:=id I.loc
 obtain ⟨oL,_,_,hoL,_⟩:=id hn0
 have ne:∀ b o,X.s₀.heap.get? b=some o->b≠X.env.locals:=fun b o q=>Nat.ne_of_lt (Nat.lt_of_lt_of_le (Heap.lt_size q) I.ok.above)
 refine ⟨I.ok,I.os,I.bare,⟨fun b o e n hb hx=>(hs.2 b (ne b o e)).trans (I.base.keep b o e n hb hx),fun b o e n hb hx => ?_,I.base.free,fun b o e hx => ?_,I.base.tups,I.base.frzs,I.base.tbls⟩,⟨m',hn,fun j y v e1 e2 e3 => ?_⟩,fun y c e => ?_,I.free,I.freeC,fun p hp => ?_,fun b ob e => ?_,by simp⟩
 ·obtain ⟨sl,q⟩:=I.base.slot b o e n hb hx
  exact ⟨sl,(hs.2 b (ne b o e)).trans q⟩
 ·obtain ⟨o',q⟩:=I.base.there b o e hx
  exact ⟨o',(hs.2 b (ne b o e)).trans q⟩
 ·rw [List.getElem?_replicate] at e2
  split at e2<;>cases e2
 ·obtain ⟨w',z⟩:=I.cell y c e
  exact ⟨w',z.sameBut hs (I.cne y c e)⟩
 ·obtain ⟨e,n,nl,nf,d⟩:=I.pin p hp
  exact ⟨(hs.2 p.1 nl).trans e,n,nl,nf,d⟩
 ·refine (I.hok b ob e).stay (fun c w' hc q=>(hs.2 c ?_).trans q) (fun _ q=>q) fun _ _ q=>q
  rintro rfl
  rcases hc with rfl | hc
  ·rw [I.free] at e;cases e
  ·rw [I.free] at hc;cases hc
theorem qf6 {H':Hp} {h':Heap} (I:Inv X pins Z H s) (u:Un (frs X.stack) [] H H' s.heap h'):h'.FunFrames X.base X.stack:=by
 have all:∀ (l:List PySem.Env),(∀ b∈frs l,b∈frs X.stack)->s.heap.FunFrames X.base l->h'.FunFrames X.base l:=by
  intro l
  induction l with
  | nil=>intro _ _;trivial
  | cons env r ih =>
   intro hss hl
   obtain ⟨hk,⟨L,o,hf',hn,ho,hd⟩,hr⟩:=hl
   have hfr:frs (env::r)=L::frs r:=by unfold frs;rw [List.filterMap_cons,hf']
   rw [hfr] at hss
   have hL:=hss L mS_
   obtain ⟨sl,e⟩:=u.slot L o ho (I.stkFree L hL) hL (by simp)
   exact ⟨hk,⟨L,_,hf',hn,e,hd⟩,ih (fun b hb=>hss b (mM _ hb)) hr⟩
 exact all X.stack (fun _ z=>z) I.stack
theorem qiV {H':Hp} {h1 h':Heap} {ch:List Addr} (u:Un (frs X.stack) [] H H' s.heap h1) (hchn:∀ b∈ch,s.heap.get? b=none) (x:Lft h1 h' ch (frs X.stack)):Un (frs X.stack) [] H H' s.heap h':=by
 have nch:∀ b o,s.heap.get? b=some o->b ∉ ch:=fun b o q z=>by rw [hchn b z] at q;cases q
 refine ⟨fun b o q n hb hx=>x.keep b o (nch b o q) hb (u.keep b o q n hb hx),fun b o q n hb hx => ?_,u.free,fun b o q hx => ?_,u.tups,u.frzs,u.tbls⟩
 ·obtain ⟨sl,q1⟩:=u.slot b o q n hb hx
  obtain ⟨sl2,q2⟩:=x.slot b _ hb q1
  exact ⟨sl2,q2⟩
 ·obtain ⟨o2,q2⟩:=u.there b o q hx
  by_cases hb:b∈frs X.stack
  ·obtain ⟨sl,q3⟩:=x.slot b o2 hb q2
   exact ⟨_,q3⟩
  ·exact ⟨o2,x.keep b o2 (nch b o q) hb q2⟩
theorem qf7 {H':Hp} {h1 h':Heap} {ch:List Addr} (I:Inv X pins Z H s) (u:Un (frs X.stack) [] H H' s.heap h1) (hok:HOk X.prog X.w H' h1) (hch:∀ b∈ch,H' b=none) (x:Lft h1 h' ch (frs X.stack)):HOk X.prog X.w H' h' :=
 qiQ hok fun b o hb1 q=>x.keep b o (fun z=>by rw [hch b z] at hb1;cases hb1) (fun z=>by
  obtain ⟨_,o1,ho1,_⟩:=I.stack.mem z
  rw [u.free b o1 ho1 (I.stkFree b z) (by simp)] at hb1
  cases hb1) q
theorem un_held {H':Hp} {h':Heap} {e:Addr} {o:HO} (u:Un (frs X.stack) [] H H' s.heap h') (he:s.heap.get? e=none) (hHe:H' e=none):Un (frs X.stack) [] H (upd H' e o) s.heap h':=by
 have ne:∀ b ob,s.heap.get? b=some ob->b≠e:=fun b ob q z=>by rw [z,he] at q;cases q
 have ne':∀ b u,H' b=some u->b≠e:=fun b u q z=>by rw [z,hHe] at q;cases q
 refine ⟨u.keep,u.slot,fun b ob q n hx=>by rw [qt (ne b ob q)];exact u.free b ob q n hx,u.there,fun b xs q => ?_,fun b ob w q => ?_,fun b ps y q => ?_⟩
 ·have:=u.tups b xs q
  rw [qt (ne' b _ this)];exact this
 ·have:=u.frzs b ob w q
  rw [qt (ne' b _ this)];exact this
 ·have:=u.tbls b ps y q
  rw [qt (ne' b _ this)];exact this
theorem qhK {P:Program} {w:World} {H':Hp} {h':Heap} {e:Addr} {oe:Obj} (hok:HOk P w H' h') (hHe:H' e=none) (he:h'.get? e=some oe):HOk P w (upd H' e (.frz oe (.own e))) h':=fun b ob q=>by
 by_cases hb:b=e
 ·subst hb
  rw [qv] at q
  cases q
  exact ⟨he,oe,he⟩
 ·rw [qt hb] at q
  have ne':∀ c u,H' c=some u->c≠e:=fun c u q z=>by rw [z,hHe] at q;cases q
  exact (hok b ob q).stay (fun _ _ _ q=>q) (fun c q=>by rw [qt (ne' c _ q)];exact q) (fun c xs q=>by rw [qt (ne' c _ q)];exact q) fun c ob y q=>by rw [qt (ne' c _ q)];exact q
end
def qf8 (RN:List Str) (f:MS) (F:List D->R D):MS:=fun U=>match f U with
 | .exc x U'=>if RN.contains x.cls then match F [.exc x.cls] with
   | .ok d => .ok (.rt d U')
   | _ => .bad
  else .bad
 | r=>r
def reE (c:Fc) (E:Exn->Hp->Prop):Fc:={ c with E:=E }
theorem Rep.reE {K:Fr0} {c:Fc} {E:Exn->Hp->Prop} {U:Env} {Z:St} {H:Hp} (r:Rep K c U Z H):Rep K (Sk.reE c E) U Z H:=⟨r.len,r.val,r.own,r.inj,r.b0,r.kp,r.dm,r.pO,r.ps⟩
theorem Rep.unE {K:Fr0} {c:Fc} {E:Exn->Hp->Prop} {U:Env} {Z:St} {H:Hp} (r:Rep K (Sk.reE c E) U Z H):Rep K c U Z H:=⟨r.len,r.val,r.own,r.inj,r.b0,r.kp,r.dm,r.pO,r.ps⟩
structure qob (K:Fr0) (base:Heap) (RN:List Str) (S:Addr):Prop where
 sup:∃ bm,XC base S bm
 own:∀ n C,clR K RN n=some C->∃ bm,XC base C bm/\(Value.ref C::bm).contains (.ref S)=true
 ki:∀ n C,clR K RN n=some C->XK6 K C
def ch (H6:Hp):Fc:=⟨[],[],fun a=>H6 a=none,H6,fun _=>False,fun _ _=>False,fun _=>none⟩
section
variable {X:Cx} {c:Fc} {pos np hpos p1 p2 p3 p4:Pos} {body:List Stmt}
theorem qmg {x n m:Str} {i:Nat} {S fm:Addr} {fd:FuncData} {ps:List Str} {k:Nat} {F:List D->R D} {f:MS} {RN:List Str} (hN:X.N.Nodup) (hcx:X.stack=X.env::X.outer) (hf:X.env.frame=some X.env.locals)
  (hcl:qob X.K X.base RN S) (hgS:Gl X x) (hmS:X.mg x=some (.ref S))
  (G:qcB X.prog X.w X.K X.mg X.base CX0 k fm fd ps (spD X.K F)) (hr:yo k X.A) (hgm:Gl X m) (hmm:X.mg m=some (.ref fm)) (hkm:PySem.W.keepIn X.K (.ref fm)=true) (hbm:uK X.K fd ps [])
  (hb:∀ (xe:Value->Shared->Prop) (pn:List (Addr×Obj)) (E:XK) (cE:Exn->Hp->Prop),XL2 (toX X xe pn) (reE c cE) (clR X.K RN) E->DSs (toX X xe pn) (reE c cE) body f)
  (hi:X.N[i]? = some n:=by rfl) (hx:X.env.scope.names.lookup n=some .local:=by rfl) (hkn:X.env.kindOf n=some .local:=by rfl)
  (hdx:(x==("__debug__":Str))=false:=by decide) (hdm:(m==("__debug__":Str))=false:=by decide) (hdn:(n==("__debug__":Str))=false:=by decide) (hcn:(n==("__classdict__":Str))=false:=by decide)
  (hst:starEach [.Name n p2] X.env=(false,eval (.Name n p2) X.env)::starEach [] X.env:=by rfl) (hpl:(backTo p3 (starEach [] X.env)).any (·.1)=false:=by rfl) :
  DS X c (.Try body [.ExceptHandler (some (.Name x np)) (some n) [.Return (some (.Call (.Name m p1) [.Name n p2] [] p3)) p4] hpos] [] [] pos) (qf8 RN f F):=by
 refine ⟨fun D Z H=>∃ U,Rep X.K c U Z H/\WpS X.K c Z H D (qf8 RN f F U),?_,fun U Z H D r h=>⟨U,r,h⟩⟩
 rintro pins s Z H D I ⟨U,r,w⟩
 refine wpAny_Try_except ?_
 have hk:=I.ok
 let xe:Value->Shared->Prop:=fun e sK=>wpAny (model X.prog X.w) X.A (noteFrame e X.env) (fun _ sQ=>wpAny (model X.prog X.w) X.A (setFlight e none) (fun _ sV=>wpAny (model X.prog X.w) X.A (handleBy e X.env [.ExceptHandler (some (.Name x np)) (some n) [.Return (some (.Call (.Name m p1) [.Name n p2] [] p3)) p4] hpos]) (SP X pins D) X.xe sV) X.xe sQ) X.xe sK
 let cE:Exn->Hp->Prop:=fun z H'=>∃ U' Z',f U = .exc z U'/\Rep X.K c U' Z' H'/\GrS c.O Z H Z' H'
 let E:XK:=fun cv _ H'=>∃ C z,cv = .ref C/\clR X.K RN z.cls=some C/\cE z H'
 have L:XL2 (toX X xe (X.pn++pins)) (reE c cE) (clR X.K RN) E:=by
  refine ⟨?_,fun z C H' h1 h2=>⟨C,z,rfl,h1,h2⟩⟩
  intro pins2 Z2 H2 s2 u s' I2 hx2
  obtain ⟨e,T,C,H',rfl,os,bare,un,hok,he,hT,hHe,hHT,Fl,C',z,hC',hz,U',Z',ef,r',g'⟩:=hx2
  have eC:C=C':=Value.ref.inj hC'
  subst eC
  have I3:Inv X pins Z2 H2 s2:=vG I2
  have hz2:∀ b∈[e,T],H' b=none:=fun b hb=>by
   simp only [List.mem_cons,nN_,or_false] at hb
   rcases hb with rfl | rfl
   ·exact hHe
   ·exact hHT
  have hz3:∀ b∈[e,T],s2.heap.get? b=none:=fun b hb=>by
   simp only [List.mem_cons,nN_,or_false] at hb
   rcases hb with rfl | rfl
   ·exact he
   ·exact hT
  have hl:s'.heap.FunFrames X.base X.stack:=qf6 I3 un
  have hA:X.A.frames=some (X.env::X.outer):=by rw [<- hcx];exact hk.frames
  show wpAny _ _ _ _ _ _
  rw [hcx] at hl
  refine qcA hA hl hf Fl fun h3 T3 y1 y2 y3 => ?_
  rw [<- hcx] at y1
  have un3:Un (frs X.stack) [] H2 H' s2.heap h3:=qiV un hz3 y1
  have hok3:HOk X.prog X.w H' h3:=qf7 I3 un hok hz2 y1
  have I4:Inv X pins Z2 H' { s' with heap:=h3 }:=I3.call' (s':={ s' with heap:=h3 }) (ch:=[]) os un3 hok3 bare (fun b hb=>nomatch hb)
  have up:∀ b,s'.heap.get? b=none->s2.heap.get? b=none:=fun b hb=>by
   cases q:s2.heap.get? b with
   | none=>rfl
   | some o =>
    obtain ⟨o',q'⟩:=un.there b o q (by simp)
    rw [hb] at q';cases q'
  have hT3:s2.heap.get? T3=none:=y3.elim (fun z=>z▸hT) (up T3)
  have hHT3:H' T3=none:=y3.elim (fun z=>z▸hHT) fun z=>by
   cases q:H' T3 with
   | none=>rfl
   | some o =>
    obtain ⟨o',q'⟩:=uk (hok _ _ q)
    rw [z] at q';cases q'
  refine wpAny_handleBy_cons (codeAny_handlers_test ?_) (by intro q;cases q)
  refine qbp (X:=hdX X e) (qiU e I4) hgS hmS ?_ hdx
  obtain ⟨bmS,xS⟩:=hcl.sup
  obtain ⟨bm,xC,hin⟩:=hcl.own _ _ hz
  obtain ⟨nmS,qS,NS,bsS,hdctS,snS,subS,abS,colS,ddS,j0,j1,j2,j3,j5,newIdS,_,_,_,_,hS,_⟩:=xS.ex
  obtain ⟨nm,q,N,bs,hdct,sn,sub,ab,col,dd,k0,k1,k2,k3,k5,newId,_,_,_,_,hC,_⟩:=xC.ex
  obtain ⟨oe,vs,oT,ts,a0,hoe,hoc,hod,_⟩:=id y2
  refine qaU (M:=model X.prog X.w) (A:=X.A.mark (some (.ref e))) (h:=h3) (g:=s'.gens) (d:=s'.drawn) (t:=s'.toks) (os:=s'.os) (I4.bk _ _ hC) (I4.bk _ _ hS) hoe hoc.1 xS.hasBase ?_
  rw [hin]
  show codeAny _ _ _ _ _
  refine codeAny_handlers_suite_as ?_
  have hl3:h3.FunFrames X.base X.stack:=qf6 I3 un3
  refine qeJ (s:={ s' with heap:=h3 }) hl3 y2 fun h4 T4 z1 z2 z3 => ?_
  have hz4:∀ b∈[e,T3],H' b=none:=fun b hb=>by
   simp only [List.mem_cons,nN_,or_false] at hb
   rcases hb with rfl | rfl
   ·exact hHe
   ·exact hHT3
  have hz5:∀ b∈[e,T3],s2.heap.get? b=none:=fun b hb=>by
   simp only [List.mem_cons,nN_,or_false] at hb
   rcases hb with rfl | rfl
   ·exact he
   ·exact hT3
  have un4:Un (frs X.stack) [] H2 H' s2.heap h4:=qiV un3 hz5 z1
  have hok4:HOk X.prog X.w H' h4:=qf7 I3 un3 hok3 hz4 z1
  obtain ⟨oe4,vs4,oT4,ts4,a04,hoe4,hoc4,hod4,_⟩:=id z2
  have I5:Inv X pins Z2 (upd H' e (.frz oe4 (.own e))) { s' with heap:=h4 }:=I3.call' (s':={ s' with heap:=h4 }) (ch:=[]) os (un_held un4 he hHe) (qhK hok4 hHe hoe4) bare (fun b hb=>nomatch hb)
  refine vv (v := .ref e) I5 hN hi (.inl hx) rfl (fun s5 I6 => ?_) (.inr hx)
  have sm:zQ H' (upd H' e (.frz oe4 (.own e))):=qB hHe _
  have hil:IsL X.K (fun _=>False) (upd H' e (.frz oe4 (.own e))) [.exc z.cls] [.ref e]:=⟨.ref e,[],rfl,⟨e,rfl,C,(qdG hz).2,hcl.ki _ _ hz,oe4,vs4,qv,hoc4.1,hod4⟩,rfl⟩
  cases em:F [.exc z.cls] with
  | bad=>simp only [qf8,ef,(qdG hz).1,em,if_true] at w;exact w.elim
  | exc z' U''=>simp only [qf8,ef,(qdG hz).1,em,if_true] at w;exact w.elim
  | ok d =>
   simp only [qf8,ef,(qdG hz).1,em,if_true] at w
   have hσl:i<Z2.length:=by rw [I5.len];exact (gI_.mp hi).1
   have call:=qfa (qfb (pos:=p4) (qdZ (X:=hdX X e) (E:=fun _ _ _=>False) (pos:=p3) (p:=p1) G ⟨hr.dp,hr.un,hr.gd⟩ hgm hmm hkm hbm .nil (fun _ _ _ _ _ _ _ z=>z.elim) (jz (uE (X:=hdX X e) (pos:=p2) hi (.inl hx) hdn hcn) vb hst) hdm hst hpl))
   have run:=call pins s5 _ _ ({ nx:=fun _ _=>False,rt:=D.rt }:qe3) (qiU e I6) ⟨.ref e,List.getElem?_set_self hσl,⟨e,oe4,.own e,vs4,rfl,qv,hod4,hoc4.2.1⟩,[.exc z.cls],fun _=>False,hil,r'.tb.same sm,by
    rw [em]
    exact fun v H6 sm6 i6=>w v Z' H6 (r'.same (fun b o q=>sm6 b o (sm b o q))) (Is.ext Ext.refl (fun a ha _=>ha.elim (fun z=>z.elim) fun hn=>r'.b0.1 a (r'.dm a (sm.free hn))) i6) (g'.trans (Gr.of_same (fun b o q=>sm6 b o (sm b o q))).s)⟩
   refine wpAny_mono run (fun fl s6 h6 => ?_) (fun _ _ z=>z.elim)
   cases fl with
   | next=>obtain ⟨_,_,_,z⟩:=h6;exact z.elim
   | brk=>obtain ⟨_,_,_,z⟩:=h6;exact z.elim
   | cont=>obtain ⟨_,_,_,z⟩:=h6;exact z.elim
   | ret u =>
    obtain ⟨v,Z7,H7,I7,rv,q7⟩:=h6
    have I8:=qhJ hk I7
    obtain ⟨m8,hn8,_⟩:=id I8.loc
    exact wpAny_nameGoes hkn hn8 (by rw [hk.kind];rfl) fun h9 m9 hn9 hs9=>⟨v,_,H7,qeM I8 hn9 hs9,rv,q7⟩
 obtain ⟨t,p,wt⟩:=hb xe (X.pn++pins) E cE L
 have w':WpS X.K (reE c cE) Z H D (f U):=by
  cases ef:f U with
  | bad=>simp only [qf8,ef] at w;exact w
  | exc z U'=>exact fun Z' H' r' g'=>⟨U',Z',ef,r'.unE,g'⟩
  | ok fl =>
   simp only [qf8,ef] at w
   cases fl with
   | nx U'=>exact fun Z' H' r' g'=>w Z' H' r'.unE g'
   | rt d U'=>exact fun v Z' H' r' i' g'=>w v Z' H' r'.unE i' g'
   | bk U'=>exact fun Z' H' r' g'=>w Z' H' r'.unE g'
   | ct U'=>exact fun Z' H' r' g'=>w Z' H' r'.unE g'
 have run:=p [] s Z H D (qmf I) (wt U Z H D r.reE w')
 refine wpAny_mono run (fun fl s1 h1 => ?_) (fun _ _ z=>z)
 cases fl with
 | next =>
  obtain ⟨Z1,H1,I1,q1⟩:=h1
  exact wpAny_execs_nil ⟨Z1,H1,vG I1,q1⟩
 | brk=>obtain ⟨Z1,H1,I1,q1⟩:=h1;exact ⟨Z1,H1,vG I1,q1⟩
 | cont=>obtain ⟨Z1,H1,I1,q1⟩:=h1;exact ⟨Z1,H1,vG I1,q1⟩
 | ret u=>obtain ⟨v,Z1,H1,I1,rv,q1⟩:=h1;exact ⟨v,Z1,H1,vG I1,rv,q1⟩
end
end L2.Sk
namespace L2.Sk
open PySem PySem.Spec PyProof.Rows PySem.W
def bmV:List Value:=[.type "ValueError",.type "Exception",.type "BaseException",.type "object"]
def qeN (K:Fr0) (C S:Addr):Bool:=match K.lookup C with
 | some ⟨_,_,.cls cd,_⟩=>cd.mro.contains (.ref S)
 | _=>false
theorem qd0 {K:Fr0} {h:Heap} {C S:Addr} (X:K.In h) (q:excIn K C bmV "ValueError.__new__"=true) (hs:qeN K C S=true):∃ bm,XC h C bm/\(Value.ref C::bm).contains (.ref S)=true:=by
 unfold excIn at q
 split at q
 ·rename_i dd cd sl ho
  split at q
  ·rename_i C' bm k0 k1 k2 k3 n k5 hm hl
   simp only [Bool.and_eq_true,beq_iff_eq,Bool.not_eq_true'] at q
   obtain ⟨⟨⟨⟨⟨e1,e2⟩,hdel⟩,ht⟩,hok⟩,hni⟩:=q
   subst e1 e2
   unfold qeN at hs
   rw [ho] at hs
   dsimp only at hs
   rw [hm] at hs
   obtain ⟨nm,bs,mro,ns,qn,hd,sn,sub,ab,col,del⟩:=cd
   dsimp only at hm hdel hok hni
   subst hm hdel
   have hz:sl = #[k0,k1,k2,k3,some (.builtin _),k5]:=Array.toList_inj.mp hl
   subst hz
   have hT:=tail_of_in X ht
   refine ⟨bm,⟨hT.hasType (by decide +kernel),nm,qn,ns,bs,hd,sn,sub,ab,col,dd,k0,k1,k2,k3,k5,_,"ValueError.__init__","ValueError",bmV,_,X _ _ ho,.of_isNs (isNs_of_in X hok),nsMap_none_of_in X hok hni,hT,PySem.F.excBase_ValueError⟩,hs⟩
  ·cases q
 ·cases q
def qkk (K:Fr0) (D:Addr):Bool :=
 findIn K (.ref D) "__getattribute__"==some (some (.builtin "BaseException.__getattribute__"))&&findIn K (.ref D) "__getattr__"==some none &&
 findIn K (.ref D) "__class__"==some (some (.builtin "object.__class__"))&&mroIn K D (.type "object")==some true&&subIn K (.ref D) (.type "BaseException")==some true&&(clsIn K D).isSome &&
 (["int","bool","str","tuple","list","dict"].all fun T=>kitOne K (.ref D) (.type T)==some false)
theorem qmh {K:Fr0} {D:Addr} (h:qkk K D=true):XK6 K D:=by
 unfold qkk at h
 simp only [Bool.and_eq_true,beq_iff_eq] at h
 obtain ⟨⟨⟨⟨⟨⟨h1,h2⟩,h3⟩,h4⟩,h5⟩,h6⟩,h7⟩:=h
 exact ⟨h1,h2,h3,h4,h5,h6,fun T hT=>by simpa using List.all_eq_true.mp h7 T hT⟩
def yP (n m:Str):Bool:=n==m||m=="SackError"
def qmi (K:Fr0) (S:Addr) (TN:List Str) (n:Str):Bool:=match uL K n with
 | some C=>excIn K C bmV "ValueError.__new__"&&qeN K C S&&qkk K C&&kitOne K (.ref C) (.type "ValueError")==some true &&
  TN.all fun m=>match uL K m with
   | some Cm=>kitOne K (.ref C) (.ref Cm)==some (yP n m)
   | none=>false
 | none=>false
def qnx (K:Fr0) (RN TN:List Str):Bool:=match uL K "SackError" with
 | some S=>excIn K S bmV "ValueError.__new__"&&qeN K S S&&RN.all (qmi K S TN)
 | none=>false
structure XT (K:Fr0) (mg:Str->Option Value) (RN TN:List Str):Prop where
 all:qnx K RN TN=true
 mgc:∀ n C,uL K n=some C->mg n=some (.ref C)
theorem qhL {K:Fr0} {h:Heap} {mg:Str->Option Value} (X:K.In h) (G:h.Ns mainGlobals mg) (n:Str) (C:Addr) (e:uL K n=some C):mg n=some (.ref C):=by
 unfold uL at e
 split at e
 ·rename_i C' q
  cases e
  exact mg_of X G q
 ·cases e
section
variable {K:Fr0} {mg:Str->Option Value} {RN TN:List Str}
theorem XT.sup (t:XT K mg RN TN):∃ S,uL K "SackError"=some S/\excIn K S bmV "ValueError.__new__"=true/\qeN K S S=true/\RN.all (qmi K S TN)=true:=by
 have h:=t.all
 unfold qnx at h
 split at h
 ·rename_i S e
  simp only [Bool.and_eq_true] at h
  exact ⟨S,e,h.1.1,h.1.2,h.2⟩
 ·cases h
theorem XT.row (t:XT K mg RN TN) {S:Addr} (hS:uL K "SackError"=some S) {n:Str} (hn:RN.contains n=true):qmi K S TN n=true:=by
 obtain ⟨S',e,_,_,h⟩:=t.sup
 rw [hS] at e
 cases e
 exact List.all_eq_true.mp h n (by simpa using hn)
theorem XT.cls (t:XT K mg RN TN) {n:Str} {C:Addr} (h:clR K RN n=some C):uL K n=some C/\∃ S,uL K "SackError"=some S/\excIn K C bmV "ValueError.__new__"=true/\qeN K C S=true/\XK6 K C/\kitOne K (.ref C) (.type "ValueError")=some true /\
  ∀ m∈TN,∃ Cm,uL K m=some Cm/\kitOne K (.ref C) (.ref Cm)=some (yP n m):=by
 unfold clR at h
 split at h
 ·rename_i hn
  obtain ⟨S,hS,_⟩:=t.sup
  have r:=t.row hS hn
  unfold qmi at r
  rw [h] at r
  simp only [Bool.and_eq_true,beq_iff_eq] at r
  obtain ⟨⟨⟨⟨r1,r2⟩,r3⟩,r4⟩,r5⟩:=r
  refine ⟨h,S,hS,r1,r2,qmh r3,r4,fun m hm => ?_⟩
  have:=List.all_eq_true.mp r5 m hm
  split at this
  ·rename_i Cm e
   exact ⟨Cm,e,by simpa using this⟩
  ·cases this
 ·cases h
theorem XT.has (t:XT K mg RN TN) {n:Str} (hn:RN.contains n=true):∃ C,clR K RN n=some C:=by
 obtain ⟨S,hS,_⟩:=t.sup
 have r:=t.row hS hn
 unfold qmi at r
 split at r
 ·rename_i C e
  exact ⟨C,by unfold clR;rw [if_pos hn];exact e⟩
 ·cases r
theorem XT.ask (t:XT K mg RN TN) {n m:Str} (hn:RN.contains n=true) (hm:m∈TN):∃ Cm,uL K m=some Cm:=by
 obtain ⟨C,hC⟩:=t.has hn
 obtain ⟨_,_,_,_,_,_,_,h⟩:=t.cls hC
 obtain ⟨Cm,e,_⟩:=h m hm
 exact ⟨Cm,e⟩
theorem XT.xcls (t:XT K mg RN TN) {base:Heap} (X:K.In base):∃ S,mg "SackError"=some (.ref S)/\qob K base RN S:=by
 obtain ⟨S,hS,h1,h2,_⟩:=t.sup
 refine ⟨S,t.mgc _ _ hS,⟨(qd0 X h1 h2).imp fun bm h=>h.1,fun n C h => ?_,fun n C h => ?_⟩⟩
 ·obtain ⟨_,S',hS',r1,r2,_⟩:=t.cls h
  rw [hS] at hS'
  cases hS'
  exact qd0 X r1 r2
 ·obtain ⟨_,_,_,_,_,r,_⟩:=t.cls h
  exact r
end
theorem qd1:typeOf (.builtin "list.count")=pure (.type "method_descriptor"):=by kernel_rfl
theorem qd2:typeOf (.builtin "list.index")=pure (.type "method_descriptor"):=by kernel_rfl
def qeO (RN:List Str) (m:Str) (f:M D):M D:=bnd f fun d=>match d with
 | .exc n=>if RN.contains n then ret (.bl (m=="ValueError"||yP n m)) else fun _ => .bad
 | _=>fun _ => .bad
section
variable {X:Cx} {c:Fc} {a b e:Expr} {pos:Pos} {RN TN:List Str}
def qoc (K:Fr0) (RN:List Str) (m:Str) (Cm:V):List V->Hp->VK->Prop:=fun xs H Q=>∃ v n A,xs=[v,Cm]/\RN.contains n=true/\Is K A H (.exc n) v/\Q (.bl (m=="ValueError"||yP n m)) H
theorem qd3 {m:Str} {Cm:V} {um:Value} (hr:ji Cm um) (hu:∀ u,ji Cm u->u=um) (hk:∀ n C,uL X.K n=some C->RN.contains n=true->kitOne X.K (.ref C) um=some (m=="ValueError"||yP n m)):yA X (.builtin "isinstance") (qoc X.K RN m Cm):=by
 intro pins s Z H xs us Q I r h
 obtain ⟨v,n,A,rfl,hn,hi,q⟩:=h
 obtain ⟨u,w,rfl,r1,r2⟩:=qW.two r
 rw [hu w r2]
 obtain ⟨z,rfl,C,hC,h1,h2⟩:=hi
 cases (show u=Value.ref z from r1)
 exact qa4 I h1 h2 (hk n C hC hn) fun tk=>⟨.bl _,H,I.tok tk,rfl,q⟩
theorem qf9 {m:Str} {f:M D} {t:TE} {Cm:V} (w:∀ U Z H Q,Rep X.K c U Z H->Wp X.K c Z H Q (f U)->t Z H Q):∀ U Z H Q,Rep X.K c U Z H->Wp X.K c Z H Q (qeO RN m f U)->tCB (qoc X.K RN m Cm) (qg8 t (qg8 (tC Cm) qnl)) Z H Q:=fun U Z H Q r h=>w U Z H _ r (Wp.bnd h fun d U1 v H1 r1 i1 g1 h1=>by
 cases d with
 | exc n =>
  dsimp only at h1
  by_cases hn:RN.contains n=true
  ·rw [if_pos hn] at h1
   exact ⟨v,n,_,rfl,hn,i1,h1 _ H1 r1 rfl .refl⟩
  ·rw [if_neg hn] at h1
   exact h1.elim
 | _=>exact h1.elim)
theorem qat {m:Str} {mgl:Str->Option Value} {p p2:Pos} {f:M D} (t:XT X.K X.mg RN TN) (hm:m∈TN) (hne:(m=="ValueError")=false) (hg:Gl X "isinstance") (hmi:X.mg "isinstance"=none) (hg2:Gl X m) (ha:DE X c a f)
  (hs:∃ Cm,uL X.K m=some Cm)
  (hv:bootBuiltins "isinstance"=some (.builtin "isinstance"):=by first | rfl | exact PySem.boot_isinstance) (hdb2:(m==("__debug__":Str))=false:=by decide)
  (he:starEach [a,.Name m p2] X.env=(false,eval a X.env)::starEach [.Name m p2] X.env:=by rfl) (hpl:(backTo pos (starEach [.Name m p2] X.env)).any (·.1)=false:=by rfl):DE X c (.Call (.Name "isinstance" p) [a,.Name m p2] [] pos) (qeO RN m f):=by
 obtain ⟨ta,pa,w⟩:=ha
 obtain ⟨Cm,hCm⟩:=hs
 refine ⟨_,vw (qd3 (RN:=RN) (m:=m) (Cm := .ref Cm) (um := .ref Cm) rfl (fun u h=>h) fun n C hC hn => ?_) hg hmi hv (jz pa (jz (qbq (v := .ref Cm) hg2 (t.mgc m Cm hCm) rfl hdb2) vb (by rfl)) he) (by decide) (by decide) he hpl,qf9 w⟩
 have hcl:clR X.K RN n=some C:=by unfold clR;rw [if_pos hn];exact hC
 obtain ⟨_,_,_,_,_,_,_,h⟩:=t.cls hcl
 obtain ⟨Cm',e1,e2⟩:=h m hm
 rw [hCm] at e1
 cases e1
 rw [e2,hne];rfl
theorem qkl {p p2:Pos} {f:M D} (t:XT X.K X.mg RN TN) (hg:Gl X "isinstance") (hmi:X.mg "isinstance"=none) (hg2:Gl X "ValueError") (hm2:X.mg "ValueError"=none) (ha:DE X c a f)
  (hv:bootBuiltins "isinstance"=some (.builtin "isinstance"):=by first | rfl | exact PySem.boot_isinstance) (hv2:bootBuiltins "ValueError"=some (.type "ValueError"):=by rfl)
  (he:starEach [a,.Name "ValueError" p2] X.env=(false,eval a X.env)::starEach [.Name "ValueError" p2] X.env:=by rfl) (hpl:(backTo pos (starEach [.Name "ValueError" p2] X.env)).any (·.1)=false:=by rfl):DE X c (.Call (.Name "isinstance" p) [a,.Name "ValueError" p2] [] pos) (qeO RN "ValueError" f):=by
 obtain ⟨ta,pa,w⟩:=ha
 refine ⟨_,vw (qd3 (RN:=RN) (m:="ValueError") (Cm := .ty "ValueError") (um := .type "ValueError") rfl (fun u h=>h) fun n C hC hn => ?_) hg hmi hv (jz pa (jz (qe9 (v := .ty "ValueError") hg2 hm2 hv2 rfl (by decide) (by decide)) vb (by rfl)) he) (by decide) (by decide) he hpl,qf9 w⟩
 have hcl:clR X.K RN n=some C:=by unfold clR;rw [if_pos hn];exact hC
 obtain ⟨_,_,_,_,_,_,h,_⟩:=t.cls hcl
 rw [h];rfl
end
section
variable {P:Program} {w:World} {K:PySem.W.Frag} {mg:Str->Option Value} {base:Heap}
theorem qhM {x qual:Str} {st:Stmt} {f:Addr} {fd:FuncData} {N ps:List Str} {k:Nat} {O:List Nat} {body:MS} (F:Fun K x qual st f fd) (S:qC N ps (qd st)) (hO:∀ i∈O,ps.length<=i)
  (hb:∀ (cdv:Value) (A:Around) (outer:List PySem.Env) (s:Shared) (H:Hp) (E:XK) (B:Addr->Prop),uQ k (A.deeper (envOfC qual (qd st) s.heap.objs.size f cdv))->AloneA (A.deeper (envOfC qual (qd st) s.heap.objs.size f cdv)) H ->
   DSs (qeK CX0 P w K mg base N qual (qd st) f cdv A outer s H E).nox (cfn O [] B H (fun _=>False) (fun _ _=>False) fun _=>none) (qz st) body) :
  qcB P w K mg base CX0 (k+1) f fd ps (spD K (dfn N.length ps.length body)):=by
 obtain ⟨oc,od,kV,doc,pm,an,cdv,ct,osl,rfl,lk,hcd⟩:=F.ex
 refine qme lk hcd S (fun vs H Q E h => ?_) (fun A outer s H vs Q E hr al h => ?_)
 ·obtain ⟨ds,B,il,_,h⟩:=h
  unfold dfn at h
  by_cases e:ds.length=ps.length
  ·rw [il.length];exact e
  ·rw [if_neg e] at h;exact h.elim
 ·obtain ⟨ds,B,il,tb,h⟩:=h
  obtain ⟨t,p,wt⟩:=hb cdv A outer s H E B hr al
  refine ⟨t,p.nox,?_⟩
  unfold dfn at h
  by_cases e:ds.length=ps.length
  ·rw [if_pos e] at h
   refine wt (yf N.length ds) (z4 N vs) H _ (qak il tb (fun i hi=>by rw [e];exact hO i hi)) ?_
   have same:∀ {U:Env} {Z:St} {H':Hp},Rep K (cfn O [] B H (fun _=>False) (fun _ _=>False) fun _=>none) U Z H'->zQ H H':=fun r b o hb=>r.kp b o hb fun z=>z
   cases eb:body (yf N.length ds) with
   | bad=>rw [eb] at h;exact h.elim
   | exc z U=>rw [eb] at h;exact h.elim
   | ok fl =>
    rw [eb] at h
    cases fl with
    | nx U=>exact fun Z' H' r' _=>h .non H' (same r') rfl
    | rt d U=>exact fun v Z' H' r' i' _=>h v H' (same r') i'
    | bk U=>exact h.elim
    | ct U=>exact h.elim
  ·rw [if_neg e] at h;exact h.elim
structure qga (P:Program) (w:World) (K:PySem.W.Frag) (mg:Str->Option Value) (base:Heap) (k:Nat) (x:Str) (ps:List Str) (sp:Sp):Prop where
 ex:∃ f fd,qcB P w K mg base CX0 k f fd ps sp/\mg x=some (.ref f)/\PySem.W.keepIn K (.ref f)=true/\uK K fd ps []
end
end L2.Sk
namespace L2.Sk
open PySem PySem.Spec PyProof.Rows
section
variable {U:Env} {f g:M D} {l:M (List D)} {p q:MS} {RN:List Str}
theorem ul (F:List D->R D):yH RN F l U=match l U with | .ok (xs,U1)=>(match F xs with | .ok d => .ok (d,U1) | .exc x _=>(if RN.contains x.cls then .exc x U1 else .bad) | .bad => .bad) | .exc x U' => .exc x U' | .bad => .bad:=by
 simp only [yH,bnd]
 cases l U with
 | ok z=>obtain ⟨z1,U1⟩:=z;cases F z1<;>rfl
 | exc x U'=>rfl
 | bad=>rfl
theorem qd4 (F:List D->R D):qdY F l U=match l U with | .ok (xs,U1)=>(match F xs with | .ok d => .ok (d,U1) | _ => .bad) | .exc x U' => .exc x U' | .bad => .bad:=by
 simp only [qdY,bnd]
 cases l U with
 | ok z=>obtain ⟨z1,U1⟩:=z;cases F z1<;>rfl
 | exc x U'=>rfl
 | bad=>rfl
theorem qd5 (x:Str):qa8 x l U=match l U with | .ok (ds,U')=>(if qQ ds.length then .exc ⟨x,.non⟩ U' else .bad) | .exc z U' => .exc z U' | .bad => .bad:=rfl
theorem qiW (F:List D->R D):qf8 RN p F U=match p U with | .exc x U'=>(if RN.contains x.cls then (match F [.exc x.cls] with | .ok d => .ok (.rt d U') | _ => .bad) else .bad) | r=>r:=rfl
theorem qiX (m:Str):qeO RN m f U=match f U with | .ok (.exc n,U1)=>(if RN.contains n then .ok (.bl (m=="ValueError"||yP n m),U1) else .bad) | .ok _ => .bad | .exc x U' => .exc x U' | .bad => .bad:=by
 simp only [qeO,bnd]
 cases f U with
 | ok z =>
  obtain ⟨z1,U1⟩:=z
  cases z1<;>first | rfl | (dsimp only;split<;>rfl)
 | exc x U'=>rfl
 | bad=>rfl
theorem qbL (F:D->List D->Option D):qbJ F f l U=match f U with
  | .ok (.lst ds,U1)=>(match l U1 with | .ok (ys,U2)=>(match F (.lst ds) ys with | some d => .ok (d,U2) | none => .bad) | .exc x U' => .exc x U' | .bad => .bad)
  | .ok _ => .bad | .exc x U' => .exc x U' | .bad => .bad:=by
 simp only [qbJ,bnd]
 cases f U with
 | ok z =>
  obtain ⟨z1,U1⟩:=z
  cases z1 with
  | lst ds =>
   show bnd l (fun ys=>lift (F (D.lst ds) ys)) U1=(match l U1 with | .ok (ys,U2)=>(match F (.lst ds) ys with | some d => .ok (d,U2) | none => .bad) | .exc x U' => .exc x U' | .bad => .bad)
   unfold bnd
   cases l U1 with
   | ok z=>obtain ⟨z2,U2⟩:=z;(dsimp only;cases F (.lst ds) z2<;>rfl)
   | exc x U'=>rfl
   | bad=>rfl
  | _=>rfl
 | exc x U'=>rfl
 | bad=>rfl
end
theorem qkm {n p:Nat} {body:MS} {ds:List D} {d:D} (h:ds.length=p) (e:∃ U,body (yf n ds) = .ok (.rt d U)):qaT n p body ds = .ok d:=by
 obtain ⟨U,e⟩:=e
 unfold qaT;rw [if_pos h,e]
theorem qgb {n p:Nat} {body:MS} {ds:List D} (h:ds.length=p) (e:∃ U,body (yf n ds) = .ok (.nx U)):qaT n p body ds = .ok .non:=by
 obtain ⟨U,e⟩:=e
 unfold qaT;rw [if_pos h,e]
theorem qbe {n p:Nat} {body:MS} {ds:List D} {x:Exn} {U:Env} (h:ds.length=p) (e:body (yf n ds) = .exc x U):qaT n p body ds = .exc x U:=by
 unfold qaT;rw [if_pos h,e]
theorem qcF {p q:MS} {U U':Env} {x:Exn} (h:p U = .exc x U'):qR p q U = .exc x U':=by unfold qR;rw [h]
def unO (_:Nat) (c:Fc):Fc:={ c with O:=[],P:=[],B:=fun _=>True }
theorem Gr.unSame {c:Fc} {Z:St} {H H':Hp} {i:Nat} (g:Gr (unO i c).O Z H H'):zQ H H':=fun b o h=>g.ext.at_ b o (fun j hj=>by cases hj) h
theorem Rep.un {K:Fr0} {c:Fc} {U:Env} {Z:St} {H:Hp} {i:Nat} (r:Rep K c U Z H) (_:i∈c.O):Rep K (unO i c) U Z H:=by
 have all:∀ b:Addr,Cn (unO i c) Z b:=fun b=>⟨trivial,fun j hj=>by cases hj⟩
 refine ⟨r.len,fun k d hk => ?_,fun j hj=>(by cases hj),fun k j a hk=>(by cases hk),⟨fun _ _=>trivial,r.b0.2⟩,r.kp,r.dm,fun j hj=>(by cases hj),fun j hj=>(by cases hj)⟩
 obtain ⟨v,h1,h2⟩:=r.val k d hk
 refine ⟨v,h1,.inr ⟨fun z=>(by cases z),?_⟩⟩
 rcases h2 with ⟨hk2,ds,a,xs,h3,h5,h6,h7⟩ | ⟨hk2,h3⟩
 ·subst h3 h5
  exact ⟨a,xs,rfl,all a,h6,IsL.ext Ext.refl (fun b _ _=>all b) h7⟩
 ·exact Is.ext Ext.refl (fun b _ _=>all b) h3
theorem Gr.un {c:Fc} {Z:St} {H H':Hp} {i:Nat} (g:Gr (unO i c).O Z H H'):Gr c.O Z H H' := .of_same g.unSame
theorem Rep.re {K:Fr0} {c:Fc} {U:Env} {Z:St} {H H':Hp} {i:Nat} (r:Rep K c U Z H) (_:i∈c.O) (_:Rep K (unO i c) U Z H') (g:Gr (unO i c).O Z H H'):Rep K c U Z H':=r.same g.unSame
open Classical in
open Classical in
noncomputable def qbM (f:M Bool):M Bool:=fun U=>match f U with
 | .ok (d,U')=>if U'=U then .ok (d,U) else .bad
 | .exc x U'=>if U'=U then .exc x U else .bad
 | .bad => .bad
open Classical in
section
variable {X:Cx} {c:Fc} {e:Expr} {pos:Pos}
theorem qkn {i:Nat} {f:M Bool} (h:DT X (unO i c) e f) (ho:i∈c.O:=by exact of_decide_eq_true rfl):DT X c e (qbM f):=by
 obtain ⟨t,p,w⟩:=h
 refine ⟨t,p,fun U Z H Q r h=>w U Z H Q (r.un ho) ?_⟩
 unfold qbM at h
 cases ef:f U with
 | bad=>rw [ef] at h;exact h.elim
 | exc x U' =>
  rw [ef] at h
  simp only at h
  split at h
  ·rename_i e1
   subst e1
   exact fun H' r' g'=>h H' (r.re ho r' g') g'.un
  ·exact h.elim
 | ok q =>
  obtain ⟨d,U'⟩:=q
  rw [ef] at h
  simp only at h
  split at h
  ·rename_i e2
   subst e2
   exact fun H' r' g'=>h H' (r.re ho r' g') g'.un
  ·exact h.elim
def qoY:List D->Option (List D)
 | [.int i,.int j]=>if decide (-(2 ^ 62)<=i)&&decide (i<2 ^ 62)&&decide (-(2 ^ 62)<=j)&&decide (j<2 ^ 62) then some (qaS i (j-i).toNat) else none
 | _=>none
theorem XL2.un {i:Nat} {cl:Str->Option Addr} {E:XK} (L:XL2 X c cl E):XL2 X (unO i c) cl E:=⟨L.pass,L.wish⟩
def qiY (i n:Nat) (g:D->Env->Option Env) (b:MS):Nat->MS
 | 0,U=>match zt i U with
  | some ds=>if ds.length<=n then .ok (.nx U) else .bad
  | none => .bad
 | m + 1,U=>match zt i U with
  | some ds=>match ds[n-(m+1)]? with
   | none => .bad
   | some d=>match g d U with
    | none => .bad
    | some U1=>match b U1 with
     | .ok (.nx U2)=>qiY i n g b m U2
     | .ok (.ct U2)=>qiY i n g b m U2
     | .ok (.bk U2) => .ok (.nx U2)
     | .ok (.rt r U2) => .ok (.rt r U2)
     | .exc x U2 => .exc x U2
     | .bad => .bad
  | none => .bad
end
section
variable {U:Env} {f:M D} {t:M Bool} {n:M (List D)}
open Classical in
open Classical in
theorem qko:qbM t U=match t U with | .ok (d,U')=>(if U'=U then .ok (d,U) else .bad) | .exc x U'=>(if U'=U then .exc x U else .bad) | .bad => .bad:=rfl
open Classical in
end
theorem qny {f:M Bool} {U:Env} {b:Bool} (h:f U = .ok (b,U)):qbM f U = .ok (b,U):=by
 rw [qko,h]
 exact if_pos rfl
def qmW (K:Fr0) (neg:Bool):R2:=fun x y H Q=>∃ d e ds A,Is K A H d x/\Is K A H e y/\sqD e=some ds/\u9 d=true/\u9 e=true/\Q (.bl (if neg then !((toPDs ds).any fun y=>PyData.eqv y (zw d)) else (toPDs ds).any fun y=>PyData.eqv y (zw d))) H
def inA (x y:D):Option D:=match sqD y with
 | some ds=>if u9 x&&u9 y then some (.bl ((toPDs ds).any fun y=>PyData.eqv y (zw x))) else none
 | none=>none
section
variable {X:Cx}
theorem vH {d:D} (h:u9 d=true):(zw d).canLay0=true/\(zw d).depth<=50:=by
 unfold u9 at h
 rw [Bool.and_eq_true,decide_eq_true_eq] at h
 exact h
theorem qmj {k:Nat} (hr:yo k X.A):OpR X (compareOp .In) (qmW X.K false):=by
 intro pins s Z H x y v u Q I rx ry h
 obtain ⟨d,e,ds,A,h1,h2,es,o1,o2,q⟩:=h
 obtain ⟨as,r1,_⟩:=jX I (wy o1) h1 rx
 obtain ⟨bs,r2,_⟩:=jX I (wy o2) h2 ry
 have c1:=(vH o1).1
 have c2:=(vH o2).1
 have u1:=(vH o1).2
 have u:=hr.units
 cases e<;>simp only [sqD] at es<;>try (cases es;done)
 ·cases es
  exact SeqAt.in_tuple_reads r2 r1 (by simpa [zw,PyData.canLay0] using c2) c1 (by omega) ⟨.bl _,H,I,rfl,by simpa using q⟩
 ·cases es
  exact SeqAt.in_list_reads r2 r1 (by simpa [zw,PyData.canLay0] using c2) c1 (by omega) ⟨.bl _,H,I,rfl,by simpa using q⟩
end
theorem qkp {K:Fr0}:OpS K inA (qmW K false):=by
 intro A H x y d v u Q hn ix iy e k
 unfold inA at e
 split at e
 ·rename_i ds es
  obtain ⟨e1,e2⟩:=zL e
  subst e2
  rw [Bool.and_eq_true] at e1
  exact ⟨x,y,ds,A,ix,iy,es,e1.1,e1.2,k _ H (zQ.refl H) rfl⟩
 ·cases e
def inB (x y:D):Option D:=(inD x y).or (inA x y)
theorem qmk {X:Cx} {k:Nat} (hr:yo k X.A):OpR X (compareOp .In) (fun x y H Q=>rIn X.K false x y H Q\/qmW X.K false x y H Q):=OpR.or qfr (qmj hr)
theorem qkq {K:Fr0}:OpS K inB (fun x y H Q=>rIn K false x y H Q\/qmW K false x y H Q):=by
 intro A H x y d v u Q hn ix iy e k
 unfold inB at e
 cases e1:inD x y with
 | some b=>rw [e1] at e;exact .inl (qmb A H x y d v u Q hn ix iy (by rw [e1];exact e) k)
 | none=>rw [e1] at e;exact .inr (qkp A H x y d v u Q hn ix iy e k)
section
variable {prog:Program} {w:World} {A:Around} {R:Result->Shared->Prop} {I:Addr} {fp wr:List Addr} {n:Nat} {P:Nat->Value->Prop} {St:Nat->Heap->Prop}
end
section
variable {prog:Program} {w:World} {A:Around} {E:Value->Shared->Prop} {s:Shared}
end
def qml:List D->Option (List (List Int))
 | []=>some []
 | .tup ts::r=>match u8 ts,qml r with
  | some n,some ns=>some (n::ns)
  | _,_=>none
 | _=>none
def qnz (ns:List (List Int)) (i:Nat):List Int:=(ns[i]?).getD []
def qnA (ns:List (List Int)):Nat:=argBest (fun i j=>HT.lexLt (qnz ns i) (qnz ns j)) (ns.length-1)
def qoN:List D->Option D
 | [.lst ds]=>match qml ds with
  | some (n::ns)=>some (.tup ((qnz (n::ns) (qnA (n::ns))).map .int))
  | _=>none
 | _=>none
section
variable {X:Cx}
end
def qgc (K:Fr0):V->List V->Hp->VK->Prop:=fun x vs H Q=>∃ (l:Addr) (xs:List V) (ds:List D) (d:D) (y:V) (A:Addr->Prop) (j:Nat),x = .ref l/\vs=[y]/\H l=some (.lst xs)/\IsL K A H ds xs/\Is K A H d y/\ds.all u9=true/\u9 d=true/\ds.findIdx? (fun e=>PyData.eqv (zw e) (zw d))=some j/\Q (.int j) H
theorem qgd {X:Cx} {k:Nat} (hr:yo k X.A):MtR X "list.index" (qgc X.K):=by
 intro pins s Z H x vs v us Q I rx rv h
 obtain ⟨l,xs,ds,d,y,A,j,rfl,rfl,hH,il,id',ok1,ok2,hj,q⟩:=h
 cases rx
 obtain ⟨u,rfl,ru⟩:=qW.one rv
 obtain ⟨z,its,n,r,hl,e⟩:=I.lstM hH
 obtain ⟨bs,rd,_⟩:=jX I (wy ok2) id' ru
 have c2:=vH ok2
 have hlen:its.length=ds.length:=by rw [<- r.length];exact il.length
 have rds:∀ m (hm:m<ds.length),∃ as,Reads s.heap (its[m]'(by omega)) (zw ds[m]) as/\(zw ds[m]).canLay0=true/\(zw ds[m]).depth<=50:=fun m hm=>by
  obtain ⟨x1,h1,h2⟩:=il.get (gG hm)
  obtain ⟨u1,h3,h4⟩:=r.get h1
  rw [gG (show m<its.length by omega)] at h3
  cases h3
  have ok:=List.all_eq_true.mp ok1 ds[m] (List.getElem_mem hm)
  obtain ⟨as,ra,_⟩:=jX I (wy ok) h2 h4
  exact ⟨as,ra,vH ok⟩
 rw [List.findIdx?_eq_some_iff_getElem] at hj
 obtain ⟨h1,h2,h3⟩:=hj
 have hz:ds.length<=sizeLine:=by rw [<- il.length];exact z
 rw [sizeLine_eq] at hz
 have hu:=hr.units
 have val:∀ m (hm:m<ds.length),PyData.eqv (SeqAt.readOf s.heap (its[m]'(by omega))) (zw d)=PyData.eqv (zw ds[m]) (zw d):=fun m hm=>by
  obtain ⟨as,ra,c1,_⟩:=rds m hm
  rw [SeqAt.readOf_eq c1 ra]
 refine call_meets PySem.F.slot_list_index ⟨_,e,rfl⟩ PySem.F.entry_list_index (PySem.F.args_list_index_2 _ _) (SeqAt.list_indexAt l its.toArray n none #[] u (fun y=>PyData.eqv (SeqAt.readOf s.heap y) (zw d)) j (by simpa [hlen] using h1) (by omega) ?_ ?_) ⟨e,fun y hy => ?_,?_⟩
 ·simp only [List.getElem_toArray]
  rw [val j h1]
  exact h2
 ·intro m hm hmj
  have hm':m<ds.length:=by omega
  simp only [List.getElem_toArray]
  rw [val m hm']
  have:=h3 m hmj
  simpa using this
 ·have hy':y∈its:=by simpa using hy
  obtain ⟨i,hi⟩:=List.mem_iff_getElem?.mp hy'
  obtain ⟨hi1,hi2⟩:=gI_.mp hi
  subst hi2
  obtain ⟨as,ra,c1,d1⟩:=rds i (by omega)
  show SeqAt.EqAt _ _ _ _ (PyData.eqv (SeqAt.readOf s.heap its[i]) (zw d))
  rw [SeqAt.readOf_eq c1 ra]
  exact SeqAt.eqAt_reads _ _ _ _ _ _ _ _ ra rd c1 c2.1 (by show X.A.units+1+min _ _<cLine;omega)
 ·exact ⟨.int _,H,I.tok _,⟨s.toks,rfl⟩,q⟩
def qbf (x:D) (ys:List D):Option D:=match x,ys with
 | .lst ds,[d]=>if ds.all u9&&u9 d then (ds.findIdx? fun e=>PyData.eqv (zw e) (zw d)).map fun j => .int j else none
 | _,_=>none
theorem qcG {K:Fr0}:qf3 K qbf (qgc K):=by
 intro A H x ys d v vs Q hn ix iy e k
 unfold qbf at e
 split at e
 ·rename_i ds y
  obtain ⟨u,rfl,e2⟩:=IsL.inv1 iy
  obtain ⟨a,xs,rfl,_,ta,il⟩:=ix
  split at e
  ·rename_i hok
   rw [Bool.and_eq_true] at hok
   cases ej:ds.findIdx? (fun e=>PyData.eqv (zw e) (zw y)) with
   | none=>rw [ej] at e;cases e
   | some j =>
    rw [ej] at e
    cases e
    exact ⟨a,xs,ds,y,u,A,j,rfl,rfl,ta,il,e2,hok.1,hok.2,ej,k _ H (zQ.refl H) rfl⟩
  ·cases e
 ·cases e
section
variable {prog:Program} {w:World} {A:Around} {E:Value->Shared->Prop} {s:Shared}
end
section
variable {X:Cx} {c:Fc} {a b e:Expr} {pos:Pos} {es:List Expr} {kk:Nat} {tp:Pos}
end
section
variable {X:Cx} {c:Fc} {a b e:Expr} {pos:Pos} {es:List Expr} {kk:Nat} {tp:Pos}
def qmm:List D->Option (List D)
 | [.lst xs]=>some (qkc 0 xs)
 | _=>none
def qmn (f:M (List D)):M (List D):=bnd f fun ds=>lift (qmm ds)
end
section
variable {X:Cx} {c:Fc} {pos:Pos}
end
section
variable {prog:Program} {w:World} {A:Around} {E:Value->Shared->Prop} {s:Shared}
end
theorem AloneA.laid {A:Around} {H:Hp} {p:Addr} {o:HO} (x:AloneA A H) (h:H p=none):AloneA A (upd H p o):=by
 obtain ⟨e,oe,u,vs,h1,h2,h3⟩:=x
 exact ⟨e,oe,u,vs,h1,by rw [qt (qH h2 h)];exact h2,h3⟩
theorem AloneA.rep {K:Fr0} {c:Fc} {A:Around} (x:AloneA A c.H0) (hio:∀ a,¬ c.Io a) (U:Env) (Z:St) (H:Hp) (r:Rep K c U Z H):AloneA A H:=by
 obtain ⟨e,oe,u,vs,h1,h2,h3⟩:=x
 exact ⟨e,oe,u,vs,h1,r.kp _ _ h2 (hio e),h3⟩
end L2.Sk
namespace L2
open PySem PySem.Spec PyProof.Rows L2.Sk
structure qoO (P:Program) (w:World) (K:PySem.W.Frag) (tg:Expr) (J:It) (fp:List Addr) (it:Addr) (tn:Nat->Heap->Prop):Prop where
 mem:it∈fp
 obj:∀ i h,tn i h->∀ b∈fp,∃ o,h.get? b=some o/\∀ v,o.data ≠ .cell v
 keep:∀ i h h',tn i h->(∀ b∈fp,∀ o,h.get? b=some o->h'.get? b=some o)->tn i h'
 item:∀ (X:Cx),X.prog=P->X.w=w->X.K=K->AloneA X.A X.H₀->∀ (i:Nat) (pins:List (Addr×Obj)) (s:Shared) (Z:St) (H:Hp) (E:Value->Shared->Prop),Inv X pins Z H s->(∀ b∈fp,qcZ X pins H b)->tn i s.heap->J.go i H ->
  wpAny (model P w) X.A (pyNext (.ref it)) (fun r s1=>∃ u,r=some u /\
   wpAny (model P w) X.A (letOwnedTupleGo tg (.ref it) u) (fun _ s2=>∃ x H',Inv X pins Z H' s2/\ji x u/\J.yld i H x H'/\tn (i+1) s2.heap/\∀ b∈fp,H' b=none) E s1) E s
 done:∀ (X:Cx),X.prog=P->X.w=w->X.K=K->AloneA X.A X.H₀->∀ (i:Nat) (pins:List (Addr×Obj)) (s:Shared) (Z:St) (H:Hp) (E:Value->Shared->Prop),Inv X pins Z H s->(∀ b∈fp,qcZ X pins H b)->tn i s.heap->J.stop i H ->
  wpAny (model P w) X.A (pyNext (.ref it)) (fun r s1=>r=none/\Inv X pins Z H s1) E s
 self:∀ (A:Around) (i:Nat) (s:Shared) (Q:Value->Shared->Prop) (E:Value->Shared->Prop),tn i s.heap->Q (.ref it) s->wpAny (model P w) A (pyIter (.ref it)) Q E s
section
variable {X:Cx} {tg:Expr}
end
end L2
namespace L2.Sk
open PySem PySem.Spec PyProof.Rows
section
variable {X:Cx} {tg iter elt:Expr} {ifs:List Expr} {scope:Scope} {pos:Pos} {wi:TI} {N':List Str} {nt:Nat} {fr:List Nat}
end
section
variable {X:Cx} {c:Fc} {tg a b e:Expr} {pos:Pos}
end
theorem uQ.units {k:Nat} {A:Around} (r:uQ k A):A.units+64<cLine:=by have:=r.un;omega
section
variable {X:Cx} {c:Fc} {e:Expr} {es:List Expr} {pos:Pos}
theorem qhN {k:Nat} {f:Addr} {fd:FuncData} {ps:List Str} {F:List D->R D} {x:Str} {p:Pos} {g:M (List D)} (hal:∀ U Z H,Rep X.K c U Z H->AloneA X.A H)
  (G:qcB X.prog X.w X.K X.mg X.base CX0 k f fd ps (spD X.K F)) (hr:uQ k X.A) (hg:Gl X x) (hm:X.mg x=some (.ref f)) (hk:PySem.W.keepIn X.K (.ref f)=true) (hb:uK X.K fd ps [])
  (ha:DA X c (e::es) g) (hd:(x==("__debug__":Str))=false:=by decide) (he:starEach (e::es) X.env=(false,eval e X.env)::starEach es X.env:=by rfl) (hpl:(backTo pos (starEach es X.env)).any (·.1)=false:=by rfl):DE X c (.Call (.Name x p) (e::es) [] pos) (qo F g):=by
 obtain ⟨t,pa,w⟩:=ha
 refine ⟨_,qdZ (E:=fun _ _ _=>False) G hr hg hm hk hb .nil (fun _ _ _ _ _ _ _ z=>z.elim) pa hd he hpl,fun U Z H Q r h=>w U Z H _ r (WpL.bnd h fun ds U1 vs H1 r1 i1 g1 h1=>⟨hal _ _ _ r1,?_⟩)⟩
 rw [List.append_nil]
 refine ⟨ds,Cn c Z,i1,r1.tb,?_⟩
 cases ef:F ds with
 | bad=>simp only [ef] at h1;exact h1.elim
 | exc z U'=>simp only [ef] at h1;exact h1.elim
 | ok d =>
  simp only [ef] at h1
  exact fun v H' sm i=>h1 v H' (r1.same sm) (Is.ext Ext.refl (fun a ha _=>ha.elim id r1.new) i) (.of_same sm)
end
section
variable {prog:Program} {w:World} {A:Around} {R:Result->Shared->Prop} {I:Addr} {fp wr:List Addr} {n:Nat} {P:Nat->Value->Prop} {St:Nat->Heap->Prop} {dv:Value}
end
section
variable {prog:Program} {w:World} {A:Around} {E:Value->Shared->Prop} {s:Shared}
end
section
variable {prog:Program} {w:World} {A:Around} {R:Result->Shared->Prop} {I:Addr} {fp wr:List Addr} {n:Nat} {P:Nat->Value->Prop} {St:Nat->Heap->Prop} {dv:Value}
end
section
variable {prog:Program} {w:World} {A:Around} {E:Value->Shared->Prop} {s:Shared}
end
section
variable {prog:Program} {w:World} {A:Around} {E:Value->Shared->Prop} {s:Shared}
end
section
variable {X:Cx}
end
section
variable {X:Cx} {c:Fc} {a b e:Expr} {pos:Pos}
def qiZ (F:List D->List D->Option D) (f g:M (List D)):M D:=bnd f fun xs=>bnd g fun zs=>lift (F xs zs)
def CallKS (K:Fr0) (F:List D->List D->Option D) (r:List V->List V->Hp->VK->Prop):Prop:=∀ A H xs zs d vs ws (Q:VK),(∀ a,H a=none->A a)->IsL K A H xs vs->IsL K A H zs ws->F xs zs=some d->(∀ u H',zQ H H'->Is K A H' d u->Q u H')->r vs ws H Q
end
def qoP (xs zs:List D):Option D:=match xs,zs with
 | [.lst ds],[z]=>(u8 ds).map fun ns=>if ns=[] then z else .int (qbF ns)
 | _,_=>none
def slB (x:D) (lo hi:Option Int):Option D:=match x with
 | .tup ds=>some (.tup (qe6 ds lo hi))
 | .lst ds=>some (.lst (qe6 ds lo hi))
 | _=>none
def qkr (f:M D) (g k:M (Option Int)):M D:=bnd f fun d=>bnd g fun l=>bnd k fun u=>lift (slB d l u)
section
variable {X:Cx} {c:Fc} {a b e:Expr} {pos p2:Pos}
theorem qcH {lo hi:Option Expr} {f:M D} {g k:M (Option Int)} (ha:DE X c a f) (hl:DO X c lo g) (hu:DO X c hi k):DE X c (.Subscript a (.Slice lo hi none p2) pos) (qkr f g k):=by
 obtain ⟨ta,pa,wa⟩:=ha
 obtain ⟨tl,pl,wl⟩:=hl
 obtain ⟨tu,pu,wu⟩:=hu
 refine ⟨_,qhc (SlR.or qlM qjz) pa pl pu,fun U Z H Q r h=>wa U Z H _ r (Wp.bnd h fun d U1 v H1 r1 i1 g1 h1 => ?_)⟩
 refine wl U1 Z H1 _ r1 (fun l U2 e2 H2 r2 g2 => ?_) (fun x U2 e2 H2 r2 g2 => ?_) (fun e2 => ?_)
 ·rw [qiq e2] at h1
  have h1:=h1.gr g2
  refine wu U2 Z H2 _ r2 (fun u U3 e3 H3 r3 g3 => ?_) (fun x U3 e3 H3 r3 g3 => ?_) (fun e3 => ?_)
  ·rw [qiq e3] at h1
   obtain ⟨d',e4,h4⟩:=h1.lift
   have i3:=g3.is (g2.is i1)
   clear h1
   cases d<;>simp only [slB] at e4<;>try (cases e4;done)
   ·rename_i ds
    cases e4
    obtain ⟨a,xs,rfl,ta,il⟩:=i3
    refine .inl ?_
    by_cases hw:HT.sIx xs.length 0 l=0/\HT.sIx xs.length xs.length u=xs.length
    ·refine .inl ⟨a,xs,rfl,ta.sq,hw,h4 _ H3 r3 ⟨a,xs,rfl,ta,?_⟩ g3⟩
     have e5:qe6 ds l u=ds:=by
      unfold qe6
      rw [<- il.length,hw.1,hw.2]
      simp [il.length]
     rw [e5];exact il
    ·refine .inr ⟨a,xs,rfl,ta.sq,hw,fun p hp=>h4 _ _ (r3.laid hp _) ⟨p,qgX xs l u,rfl,.inl qv,?_⟩ (g3.trans (.of_same (qB hp _)))⟩
     refine IsL.ext (Ext.of_same (qB hp _)) (fun _ h _=>h) ?_
     unfold qe6 qgX
     rw [<- il.length]
     exact IsL.take _ (IsL.drop _ il)
   ·rename_i ds
    cases e4
    obtain ⟨a,xs,rfl,hA,ta,il⟩:=i3
    refine .inr ⟨a,xs,rfl,.inl (.inl ta),fun p hp=>h4 _ _ (r3.laid hp _) ⟨p,qgX xs l u,rfl,r3.new hp,qv,?_⟩ (g3.trans (.of_same (qB hp _)))⟩
    refine IsL.ext (Ext.of_same (qB hp _)) (fun _ h _=>h) ?_
    unfold qe6 qgX
    rw [<- il.length]
    exact IsL.take _ (IsL.drop _ il)
  ·unfold bnd at h1;rw [e3] at h1;exact h1 H3 r3 g3
  ·unfold bnd at h1;rw [e3] at h1;exact h1
 ·unfold bnd at h1;rw [e2] at h1;exact h1 H2 r2 g2
 ·unfold bnd at h1;rw [e2] at h1;exact h1
def qnB (x y:D):Option (List D):=match x,y with
 | .lst ds,.int k=>if (decide (-(2 ^ 62)<=k)&&decide (k<2 ^ 62))&&(qQ (ds.length*k.toNat)&&immL ds) then some (List.replicate k.toNat ds).flatten else none
 | _,_=>none
def qod (f g:M D):M (List D):=bnd f fun x=>bnd g fun y=>lift (qnB x y)
def qoQ (f:M D):M (List D):=bnd f fun x=>lift (match x with
 | .lst ds=>if immL ds then some ds else none
 | .tup ds=>if immL ds then some ds else none
 | _=>none)
def uR (i:Nat) (f:M D):M D:=fun U=>match zt i U with
 | none => .bad
 | some _=>(bnd f fun d U=>match d,zt i U with
  | .lst es,some ds=>if immL es&&qQ (ds.length+es.length) then .ok (.non,U.set i (some (.lst (ds++es)))) else .bad
  | _,_ => .bad) U
theorem qge {i:Nat} {x:Str} {p1 apos:Pos} {f:M D} (he:DE X c e f) (ho:i∈c.O:=by exact of_decide_eq_true rfl) (hN:X.N[i]? = some x:=by rfl) (hv:Vis X.env.scope x:=by first | exact Or.inl rfl | exact Or.inr (Or.inl rfl) | exact Or.inr (Or.inr rfl)) (hd:(x==("__debug__":Str))=false:=by decide) (hcd:(x==("__classdict__":Str))=false:=by decide)
  (hbase:attributeBase (.Name x p1) "extend" X.env (eval (.Name x p1) X.env)=eval (.Name x p1) X.env:=by rfl)
  (hfew:((backTo pos (starEach [e] X.env)).all (fun x => !x.1)&&(backToKw pos (keywordEach [] X.env)).all (fun x=>x.1.isSome)
   && decide ([e].length+([]:List Keyword).length+(if ([]:List Keyword).isEmpty then 0 else 1)<30))=true:=by rfl)
  (hline:(apos.endLine==pos.line)=true:=by rfl) (hs:starEach [e] X.env=(false,eval e X.env)::starEach [] X.env:=by rfl) (hplain:(backTo pos (starEach [] X.env)).any (·.1)=false:=by rfl) :
  DE X c (.Call (.Attribute (.Name x p1) "extend" apos) [e] [] pos) (uR i f):=by
 obtain ⟨t,p,w⟩:=he
 refine ⟨_,qjA PySem.F.plainAttrs_list PySem.F.slot_list_extend PySem.F.type_list_extend qfs (uE hN hv hd hcd) (jz p vb hs) hbase hfew hline hs hplain,fun U Z H Q r h => ?_⟩
 unfold uR at h
 cases e0:zt i U with
 | none=>rw [e0] at h;exact h.elim
 | some ds0 =>
  simp only [e0] at h
  obtain ⟨l,xs0,_,hl,hH,_⟩:=r.getLO ho e0
  refine ⟨.ref l,hl,.inl ⟨rfl,xs0,.inl (.inl hH)⟩,w U Z H _ r (Wp.bnd h fun d U1 v H1 r1 i1 g1 h1 => ?_)⟩
  cases e1:zt i U1 with
  | none=>cases d<;>simp only [e1] at h1<;>exact h1.elim
  | some ds =>
   cases d with
   | lst es =>
    simp only [e1] at h1
    by_cases hb:(immL es&&qQ (ds.length+es.length))=true
    ·rw [if_pos hb] at h1
     rw [Bool.and_eq_true] at hb
     obtain ⟨l',xs,him,hl',hH',il⟩:=r1.getLO ho e1
     rw [hl] at hl'
     cases hl'
     obtain ⟨b,zs,rfl,hA,hB,iz⟩:=i1
     have hsz:ds.length+es.length<=sizeLine:=of_decide_eq_true hb.2
     have ext:Ext (Cn c Z) H1 (upd H1 l (.lst (xs++zs))):=⟨fun b us hb=>zS (vt hb hH' (by intro z;cases z)) hb,fun b o u hb=>zS (vt hb hH' (by intro z;cases z)) hb,fun b o hb hq=>zS (fun e=>hb.2 i ho (by rw [hl,e])) hq⟩
     obtain ⟨r2,g2⟩:=r1.io (H':=upd H1 l (.lst (xs++zs))) (bs:=ds++es) ho hl (fun b o hb ho=>zS hb ho) qv trivial
      (IsL.append (IsL.ext ext (fun _ h _=>h) il) (IsL.ext ext (fun _ h _=>h) iz)) (fun b hb=>qda hb)
     exact ⟨l,b,xs,zs,rfl,rfl,hH',hB,by rw [il.length,iz.length];exact hsz,h1 _ _ r2 rfl g2⟩
    ·rw [if_neg hb] at h1;exact h1.elim
   | _=>simp only [e1] at h1;exact h1.elim
theorem qhO {pins:List (Addr×Obj)} {Z:St} {H:Hp} {s:Shared} (I:Inv X pins Z H s) (j:Nat):Inv X pins (Z.set j none) H s:=by
 refine ⟨I.ok,I.os,I.bare,I.base,?_,I.cell,I.free,I.freeC,I.pin,I.hok,by rw [lS_];exact I.len⟩
 obtain ⟨m,hn,hl⟩:=I.loc
 refine ⟨m,hn,fun i x v e1 e2 e3 => ?_⟩
 by_cases hij:j=i
 ·subst hij
  rw [List.getElem?_set] at e2
  simp only [if_true] at e2
  split at e2<;>cases e2
 ·rw [List.getElem?_set_ne hij] at e2
  exact hl i x v e1 e2 e3
def qhP (i j:Nat):MS:=fun U=>match zt j U with
 | some ds => .ok (.nx ((U.set i (some (.lst ds))).set j none))
 | none => .bad
theorem Rep.moved {K:Fr0} {U:Env} {Z:St} {H:Hp} {i j:Nat} {ds:List D} (r:Rep K c U Z H) (hj:j∈c.O) (hP:j ∉ c.P) (hi:i ∉ c.O) (hd:U[j]? = some (some (.lst ds))) (hil:i<Z.length):∃ a,Z[j]? = some (some (.ref a)) /\
  Rep K c ((U.set i (some (.lst ds))).set j none) ((Z.set i (some (.ref a))).set j none) H/\GrS c.O Z H ((Z.set i (some (.ref a))).set j none) H:=by
 obtain ⟨ds',a,xs,e1,hσ,hH,il⟩:=r.getO hj hd
 cases e1
 have hij:i≠j:=fun e=>hi (e▸hj)
 have hB:c.B a:=by
  obtain ⟨a',_,e2,_,e3⟩:=r.own j hj _ hσ
  cases e2
  exact r.b0.1 a (e3.resolve_right fun z=>hP z.1)
 have get:∀ k,k≠i->k≠j->((Z.set i (some (.ref a))).set j none)[k]? = Z[k]? := fun k h1 h2=>by
  rw [List.getElem?_set_ne (Ne.symm h2),List.getElem?_set_ne (Ne.symm h1)]
 have getj:∀ {v:V},((Z.set i (some (.ref a))).set j none)[j]? ≠ some (some v):=fun {v} e=>by
  rw [List.getElem?_set] at e
  simp only [if_true] at e
  split at e<;>cases e
 have cl:∀ b,Cl c.O Z b->Cl c.O ((Z.set i (some (.ref a))).set j none) b:=fun b hb k hk e=>by
  by_cases h2:k=j
  ·subst h2;exact getj e
  ·exact hb k hk (by rw [<- get k (fun e=>hi (e▸hk)) h2];exact e)
 have cla:Cl c.O ((Z.set i (some (.ref a))).set j none) a:=fun k hk e=>by
  by_cases h2:k=j
  ·subst h2;exact getj e
  ·rw [get k (fun e=>hi (e▸hk)) h2] at e
   exact h2 (r.inj k j a hk hj e hσ)
 refine ⟨a,hσ,⟨?_,fun k d hk => ?_,fun k hk v hv => ?_,fun k l b hk hl h1 h2 => ?_,r.b0,r.kp,r.dm,r.pO,fun k hk => ?_⟩,⟨Ext.refl,fun b hb _=>cl b hb,fun _ h=>h⟩⟩
 ·simp only [lS_];exact r.len
 ·have kj:k≠j:=fun e=>by
   subst e
   rw [List.getElem?_set] at hk
   simp only [if_true] at hk
   split at hk<;>cases hk
  rw [List.getElem?_set_ne (Ne.symm kj)] at hk
  by_cases ki:k=i
  ·subst ki
   rw [List.getElem?_set_self (by rw [r.len];exact hil)] at hk
   cases hk
   refine ⟨.ref a,by rw [List.getElem?_set_ne (Ne.symm kj),List.getElem?_set_self hil],.inr ⟨hi,a,xs,rfl,⟨hB,cla⟩,hH,IsL.ext Ext.refl (fun b hb _=>⟨hb.1,cl b hb.2⟩) il⟩⟩
  ·rw [List.getElem?_set_ne (Ne.symm ki)] at hk
   obtain ⟨v,h1,h2⟩:=r.val k d hk
   refine ⟨v,by rw [get k ki kj];exact h1,?_⟩
   rcases h2 with ⟨g1,ds2,b2,xs2,g3,g5,g6,g7⟩ | ⟨h3,h4⟩
   ·exact .inl ⟨g1,ds2,b2,xs2,g3,g5,g6,IsL.ext Ext.refl (fun b hb _=>⟨hb.1,cl b hb.2⟩) g7⟩
   ·exact .inr ⟨h3,Is.ext Ext.refl (fun b hb _=>⟨hb.1,cl b hb.2⟩) h4⟩
 ·have kj:k≠j:=fun e=>by subst e;exact getj hv
  rw [get k (fun e=>hi (e▸hk)) kj] at hv
  exact r.own k hk v hv
 ·have kj:k≠j:=fun e=>by subst e;exact getj h1
  have lj:l≠j:=fun e=>by subst e;exact getj h2
  rw [get k (fun e=>hi (e▸hk)) kj] at h1
  rw [get l (fun e=>hi (e▸hl)) lj] at h2
  exact r.inj k l b hk hl h1 h2
 ·have kO:=r.pO k hk
  rw [get k (fun e=>hi (e▸kO)) (fun e=>hP (e▸hk))]
  exact r.ps k hk
theorem qks {i j:Nat} {x y:Str} {pos' p1:Pos} (hN:X.N.Nodup) (hj:j∈c.O:=by exact of_decide_eq_true rfl) (hP:j ∉ c.P:=by exact of_decide_eq_false rfl) (ho:i ∉ c.O:=by exact of_decide_eq_false rfl) (hi:X.N[i]? = some x:=by rfl) (hjN:X.N[j]? = some y:=by rfl) (hx:Loc X.env.scope x:=by first | exact Or.inl rfl | exact Or.inr rfl)
  (hv:Vis X.env.scope y:=by first | exact Or.inl rfl | exact Or.inr (Or.inl rfl) | exact Or.inr (Or.inr rfl)) (hd:(y==("__debug__":Str))=false:=by decide) (hcd:(y==("__classdict__":Str))=false:=by decide)
  (hs:swapsWith (.Name y p1) (some (.Name x pos')) pos.line X.env=pure false:=by rfl) (hf:X.fn x=true\/X.env.scope.names.lookup x=some .local:=by first | exact .inl rfl | exact .inr rfl | assumption) :
  DS X c (.Assign [.Name x pos'] (.Name y p1) pos) (qhP i j):=by
 refine ⟨fun D Z H=>Z.length=X.N.length->∃ v,Z[j]? = some (some v)/\D.nx ((Z.set i (some v)).set j none) H,?_,fun U Z H D r h hl => ?_⟩
 ·intro pins s Z H D I hq
  obtain ⟨v,hσ,q⟩:=hq I.len
  have p:=qfc (pos:=pos) (pos':=pos') hN hi hx (uE (pos:=p1) hjN hv hd hcd) hs hf pins s Z H ({ D with nx:=fun Z' H'=>Z'=Z.set i (some v)/\H'=H }:qe3) I ⟨v,hσ,rfl,rfl⟩
  refine wpAny_mono p (fun fl s1 h1 => ?_) (fun _ _ z=>z)
  cases fl with
  | next =>
   obtain ⟨Z1,H1,I1,rfl,rfl⟩:=h1
   exact ⟨_,_,qhO I1 j,q⟩
  | brk=>exact h1
  | cont=>exact h1
  | ret u=>exact h1
 ·unfold qhP at h
  cases e0:zt j U with
  | none=>rw [e0] at h;exact h.elim
  | some ds =>
   rw [e0] at h
   have hd:U[j]? = some (some (.lst ds)):=by
    unfold zt at e0
    split at e0
    ·rename_i z e;cases e0;exact e
    ·cases e0
   have hil:i<Z.length:=by rw [hl];exact (gI_.mp hi).1
   obtain ⟨a,hσ,r2,g2⟩:=r.moved hj hP ho hd hil
   exact ⟨.ref a,hσ,h _ H r2 g2⟩
def qoe (f:M (List D)):M (List D):=fun U=>match f U with
 | .ok ([.tup _],_)=>qke f U
 | _=>qmn f U
end
section
variable {U:Env} {f g:M D} {l k:M (List D)}
theorem qmX (F:List D->List D->Option D):qiZ F l k U=match l U with | .ok (xs,U1)=>(match k U1 with | .ok (zs,U2)=>(match F xs zs with | some d => .ok (d,U2) | none => .bad) | .exc x U' => .exc x U' | .bad => .bad) | .exc x U' => .exc x U' | .bad => .bad:=by
 simp only [qiZ,bnd]
 cases l U with
 | ok z =>
  obtain ⟨z1,U1⟩:=z
  dsimp only
  cases k U1 with
  | ok z=>obtain ⟨z2,U2⟩:=z;(dsimp only;cases F z1 z2<;>rfl)
  | exc x U'=>rfl
  | bad=>rfl
 | exc x U'=>rfl
 | bad=>rfl
theorem qof:qod f g U=match f U with | .ok (x,U1)=>(match g U1 with | .ok (y,U2)=>(match qnB x y with | some ds => .ok (ds,U2) | none => .bad) | .exc x U' => .exc x U' | .bad => .bad) | .exc x U' => .exc x U' | .bad => .bad:=by
 simp only [qod,bnd]
 cases f U with
 | ok z =>
  obtain ⟨z1,U1⟩:=z
  dsimp only
  cases g U1 with
  | ok z=>obtain ⟨z2,U2⟩:=z;(dsimp only;cases qnB z1 z2<;>rfl)
  | exc x U'=>rfl
  | bad=>rfl
 | exc x U'=>rfl
 | bad=>rfl
theorem qgf (i:Nat):uR i f U=match zt i U with
  | none => .bad
  | some _=>(match f U with | .ok (d,U1)=>(match d,zt i U1 with | .lst es,some ds=>(if immL es&&qQ (ds.length+es.length) then .ok (.non,U1.set i (some (.lst (ds++es)))) else .bad) | _,_ => .bad) | .exc x U' => .exc x U' | .bad => .bad):=by
 unfold uR
 cases zt i U with
 | none=>rfl
 | some z =>
  simp only [bnd]
  cases f U with
  | ok z=>obtain ⟨z1,U1⟩:=z;rfl
  | exc x U'=>rfl
  | bad=>rfl
theorem qi0 (p q:M (Option Int)):qkr f p q U=match f U with | .ok (d,U1)=>(match p U1 with | .ok (l,U2)=>(match q U2 with | .ok (u,U3)=>(match slB d l u with | some r => .ok (r,U3) | none => .bad) | .exc x U' => .exc x U' | .bad => .bad) | .exc x U' => .exc x U' | .bad => .bad) | .exc x U' => .exc x U' | .bad => .bad:=by
 simp only [qkr,bnd]
 cases f U with
 | ok z =>
  obtain ⟨z1,U1⟩:=z
  dsimp only
  cases p U1 with
  | ok z =>
   obtain ⟨z2,U2⟩:=z
   dsimp only
   cases q U2 with
   | ok z=>obtain ⟨z3,U3⟩:=z;(dsimp only;cases slB z1 z2 z3<;>rfl)
   | exc x U'=>rfl
   | bad=>rfl
  | exc x U'=>rfl
  | bad=>rfl
 | exc x U'=>rfl
 | bad=>rfl
end
section
variable {X:Cx} {c:Fc} {e:Expr} {es:List Expr} {pos:Pos}
theorem dC {k j:Nat} {ps:List Str} {F:List D->R D} {x:Str} {p:Pos} {g:M (List D)} (C:zD X.prog X.w X.K X.mg X.base k x ps (spD X.K F)) (hr:yo j X.A) (ha:DA X c (e::es) g)
  (hk:k<=j:=by decide) (hg:Gl X x:=by rfl) (hd:(x==("__debug__":Str))=false:=by decide) (he:starEach (e::es) X.env=(false,eval e X.env)::starEach es X.env:=by rfl) (hpl:(backTo pos (starEach es X.env)).any (·.1)=false:=by rfl):DE X c (.Call (.Name x p) (e::es) [] pos) (qo F g):=by
 obtain ⟨f,fd,G,m,kk,b⟩:=C.ex
 exact qjW G (hr.mono hk) hg m kk b ha hd he hpl
theorem nC {k j:Nat} {ps:List Str} {F:List D->R D} {x:Str} {p:Pos} {g:M (List D)} (C:zD X.prog X.w X.K X.mg X.base k x ps (spD X.K F)) (hr:yo j X.A) (ha:DA X c (e::es) g)
  (hk:k<=j:=by decide) (hg:Gl X x:=by rfl) (hd:(x==("__debug__":Str))=false:=by decide) (he:starEach (e::es) X.env=(false,eval e X.env)::starEach es X.env:=by rfl) (hpl:(backTo pos (starEach es X.env)).any (·.1)=false:=by rfl):DN X c (.Call (.Name x p) (e::es) [] pos) (qcw F g):=by
 obtain ⟨f,fd,G,m,kk,b⟩:=C.ex
 exact qj6 G (hr.mono hk) hg m kk b ha hd he hpl
theorem iC {k j i:Nat} {ps:List Str} {F:List D->List D->R (D×List D)} {x y:Str} {p p1:Pos} {g:M (List D)} (C:zD X.prog X.w X.K X.mg X.base k x ps (qe7 X.K F)) (hr:yo j X.A) (ha:DA X c es g)
  (hk:k<=j:=by decide) (hg:Gl X x:=by rfl) (ho:i∈c.O:=by exact of_decide_eq_true rfl) (hN:X.N[i]? = some y:=by rfl) (hv:Vis X.env.scope y:=by first | exact Or.inl rfl | exact Or.inr (Or.inl rfl) | exact Or.inr (Or.inr rfl)) (hdy:(y==("__debug__":Str))=false:=by decide) (hcd:(y==("__classdict__":Str))=false:=by decide)
  (hd:(x==("__debug__":Str))=false:=by decide) (he:starEach (.Name y p1::es) X.env=(false,eval (.Name y p1) X.env)::starEach es X.env:=by rfl) (hpl:(backTo pos (starEach es X.env)).any (·.1)=false:=by rfl):DE X c (.Call (.Name x p) (.Name y p1::es) [] pos) (qk F i g):=by
 obtain ⟨f,fd,G,m,kk,b⟩:=C.ex
 exact qfL G (hr.mono hk) hg m kk b ha ho hN hv hdy hcd hd he hpl
theorem xC {k j:Nat} {ps:List Str} {F:List D->R D} {x:Str} {p:Pos} {g:M (List D)} {E:XK} {cl:Str->Option Addr} {RN:List Str} (L:XL2 X c cl E) (hcl:∀ n,RN.contains n=true->(cl n).isSome=true) (C:uP X.prog X.w X.K X.mg X.base k x ps (spX X.K cl F)) (hr:yo j X.A) (ha:DA X c (e::es) g)
  (hk:k<=j:=by decide) (hg:Gl X x:=by rfl) (hd:(x==("__debug__":Str))=false:=by decide) (he:starEach (e::es) X.env=(false,eval e X.env)::starEach es X.env:=by rfl) (hpl:(backTo pos (starEach es X.env)).any (·.1)=false:=by rfl):DE X c (.Call (.Name x p) (e::es) [] pos) (yH RN F g):=by
 obtain ⟨f,fd,G,m,kk,b⟩:=C.ex
 exact qhF L hcl G (hr.mono hk) hg m kk b ha hd he hpl
theorem pC {k j:Nat} {ps:List Str} {F:List D->R D} {x:Str} {p:Pos} {g:M (List D)} {cl:Str->Option Addr} (C:uP X.prog X.w X.K X.mg X.base k x ps (spX X.K cl F)) (hr:yo j X.A) (ha:DA X c (e::es) g)
  (hk:k<=j:=by decide) (hg:Gl X x:=by rfl) (hd:(x==("__debug__":Str))=false:=by decide) (he:starEach (e::es) X.env=(false,eval e X.env)::starEach es X.env:=by rfl) (hpl:(backTo pos (starEach es X.env)).any (·.1)=false:=by rfl):DE X c (.Call (.Name x p) (e::es) [] pos) (qdY F g):=by
 obtain ⟨f,fd,G,m,kk,b⟩:=C.ex
 exact qhG G (hr.mono hk) hg m kk b ha hd he hpl
theorem lC {k j:Nat} {ps:List Str} {F:List D->R D} {x:Str} {p:Pos} {g:M (List D)} (hal:∀ U Z H,Rep X.K c U Z H->AloneA X.A H) (C:qga X.prog X.w X.K X.mg X.base k x ps (spD X.K F)) (hr:uQ j X.A) (ha:DA X c (e::es) g)
  (hk:k<=j:=by decide) (hg:Gl X x:=by rfl) (hd:(x==("__debug__":Str))=false:=by decide) (he:starEach (e::es) X.env=(false,eval e X.env)::starEach es X.env:=by rfl) (hpl:(backTo pos (starEach es X.env)).any (·.1)=false:=by rfl):DE X c (.Call (.Name x p) (e::es) [] pos) (qo F g):=by
 obtain ⟨f,fd,G,m,kk,b⟩:=C.ex
 exact qhN hal G (hr.mono hk) hg m kk b ha hd he hpl
theorem gI {x:Str} {i:Int} (h:∃ t,X.mg x=some (.int i t)) (hg:Gl X x:=by rfl) (hd:(x==("__debug__":Str))=false:=by decide):DE X c (.Name x pos) (ret (.int i)):=by
 obtain ⟨t,h⟩:=h
 exact qfv (v := .int i) (d := .int i) hg h ⟨_,rfl⟩ (fun _ _=>rfl) hd
theorem gT {x:Str} {ns:List Int} (h:∃ a,X.mg x=some (.ref a)/\qmV X.K a ns) (hg:Gl X x:=by rfl) (hd:(x==("__debug__":Str))=false:=by decide):DE X c (.Name x pos) (ret (.tup (ns.map .int))):=by
 obtain ⟨a,h1,h2⟩:=h
 exact qhC hg h1 h2 hd
end
theorem nd (N:List Str) (h:N.Nodup:=by decide +kernel):N.Nodup:=h
theorem cs {X:Cx} (N N':List Str) (nt:Nat) (fr:List Nat) (outer:Scope) {scope:Scope} (h0:scope.kind = .function:=by rfl) (h1:∀ y∈scope.names,y.2 ≠ .cell:=by decide +kernel) (h2:∀ y∈scope.names,y.2 = .local->scope.names.lookup y.1=some .local:=by decide +kernel)
  (h3:∀ y∈scope.names,y.2 = .free->outer.names.lookup y.1=some .cell:=by decide +kernel) (h4:N'.length=nt+fr.length:=by rfl) (h5:∀ p∈fr.zipIdx,N'[nt+p.2]? = N[p.1]? /\ ((N[p.1]?).bind fun x=>scope.names.lookup x)=some .free:=by decide +kernel)
  (h6:X.env.scope=outer:=by rfl) (h7:X.N=N:=by rfl):j6 X scope N' nt fr:=qj7.ok (outer:=outer) (N:=N) ⟨h0,h1,h2,h3,h4,h5⟩ h6 h7
theorem f0 {c:Fc} {nt:Nat} (fr O:List Nat) (e:c.O=O:=by rfl) (h:∀ j∈fr,j ∉ O:=by decide):qjR c nt fr none:=fun j hj=>by rw [e];exact h j hj
theorem f1 {c:Fc} (nt:Nat) (fr O:List Nat) (i j:Nat) (e:c.O=O:=by rfl) (h1:j∈O:=by decide) (h2:nt<=i:=by decide) (h3:fr[i-nt]? = some j:=by rfl) (h4:∀ p∈fr.zipIdx,nt+p.2≠i->p.1 ∉ O:=by decide):qjR c nt fr (some (i,j)) :=
 qj9 (by rw [e];exact h1) h2 h3 (by rw [e];exact h4)
section
variable {X:Cx} {c:Fc}
end
end L2.Sk
namespace L2.Sk
open PySem PySem.Spec PyProof.Rows
section
variable {X:Cx} {c:Fc} {a b e:Expr} {pos:Pos}
def qgg (i:Nat) (f:M D):M D:=fun U=>match zt i U with
 | none => .bad
 | some _=>(bnd f fun d U=>match zt i U with
  | some ds=>if qQ (ds.length+1) then .ok (.non,U.set i (some (.lst (d::ds)))) else .bad
  | none => .bad) U
end
section
variable {prog:Program} {w:World} {A:Around} {E:Value->Shared->Prop} {s:Shared}
end
section
variable {X:Cx} {c:Fc} {a e:Expr} {pos:Pos} {tg:Expr}
def qnC:List D->Option (List D)
 | [.tup xs]=>some xs.reverse
 | _=>none
def qog (f:M (List D)):M (List D):=bnd f fun ds=>lift (qnC ds)
theorem qoh {l:M (List D)} {U:Env}:qog l U=match l U with | .ok (d,U1)=>(match qnC d with | some ds => .ok (ds,U1) | none => .bad) | .exc x U' => .exc x U' | .bad => .bad:=by
 simp only [qog,bnd]
 cases l U with
 | ok z=>obtain ⟨z1,U1⟩:=z;(dsimp only;cases qnC z1<;>rfl)
 | exc x U'=>rfl
 | bad=>rfl
theorem qmo {f:M D} {U:Env} (i:Nat):qgg i f U=match zt i U with
  | none => .bad
  | some _=>(match f U with
   | .ok (d,U1)=>(match zt i U1 with | some ds=>(if qQ (ds.length+1) then .ok (.non,U1.set i (some (.lst (d::ds)))) else .bad) | none => .bad)
   | .exc x U' => .exc x U' | .bad => .bad):=by
 unfold qgg
 cases zt i U with
 | none=>rfl
 | some z =>
  simp only [bnd]
  cases f U with
  | ok z=>obtain ⟨z1,U1⟩:=z;rfl
  | exc x U'=>rfl
  | bad=>rfl
end
end L2.Sk
namespace HT
open PySem PySem.Spec PyProof.Rows
section
variable {prog:Program} {w:World} {A:Around} {E:Value->Shared->Prop} {s:Shared}
end
end HT
namespace L2
open PySem PySem.Spec PyProof.Rows
section
variable {X:Cx} {e:Expr} {te:TE} {ste:Expr} {ts:TO} {pos p2:Pos}
end
end L2
namespace L2.Sk
open PySem PySem.Spec PyProof.Rows
theorem IsL.rev {K:Fr0} {A:Addr->Prop} {H:Hp}:∀ {ds:List D} {xs:List V},IsL K A H ds xs->IsL K A H ds.reverse xs.reverse:=by
 intro ds
 induction ds with
 | nil =>
  intro xs h
  cases xs with
  | nil=>exact h
  | cons x xs=>exact absurd h.length (by simp)
 | cons d ds ih =>
  intro xs h
  obtain ⟨x,ys,rfl,h1,h2⟩:=h
  rw [List.reverse_cons,List.reverse_cons]
  have one:IsL K A H [d] [x]:=⟨x,[],rfl,h1,IsL.take 0 h2⟩
  exact IsL.append (ih h2) one
def qnD:D->Option D
 | .tup ds=>some (.tup ds.reverse)
 | .lst ds=>some (.lst ds.reverse)
 | _=>none
def qmp (f:M D):M D:=bnd f fun d=>lift (qnD d)
section
variable {X:Cx} {c:Fc} {a:Expr} {pos p2 p3 p4:Pos} {cj:Nat}
theorem qnE {f:M D} {U:Env}:qmp f U=match f U with | .ok (d,U1)=>(match qnD d with | some x => .ok (x,U1) | none => .bad) | .exc x U' => .exc x U' | .bad => .bad:=by
 simp only [qmp,bnd]
 cases f U with
 | ok z=>obtain ⟨z1,U1⟩:=z;(dsimp only;cases qnD z1<;>rfl)
 | exc x U'=>rfl
 | bad=>rfl
end
section
variable {X:Cx} {c:Fc}
end
end L2.Sk
namespace L2
open PySem PySem.Spec PyProof.Rows
section
variable {X:Cx} {pins:List (Addr×Obj)} {Z:St} {H:Hp} {s:Shared}
theorem qhQ {H:Hp} {a:Addr} {o:HO} (h:H a=none):zQ H (upd H a o):=fun b u q=>by rw [qt (qH q h)];exact q
end
end L2
namespace L2.Srt
open PySem PySem.W PyProof.Rows
def runK {α:Type} (cmp:Nat->Nat->Bool):KasT α->α
 | .ret a=>a
 | .ask i j k=>runK cmp (k (cmp i j))
theorem ud {α β:Type} {cmp:Nat->Nat->Bool} {f:α->KasT β}:∀ t:KasT α,runK cmp (t.bind f)=runK cmp (f (runK cmp t))
 | .ret _=>rfl
 | .ask i j k=>ud (k (cmp i j))
def Fits {α:Type} (n:Nat) (R:α->Prop):KasT α->Prop
 | .ret a=>R a
 | .ask i j k=>i<n/\j<n/\∀ b,Fits n R (k b)
theorem Fits.bind {α β:Type} {n:Nat} {R:α->Prop} {R':β->Prop} {f:α->KasT β} (hf:∀ a,R a->Fits n R' (f a)):∀ {t:KasT α},Fits n R t->Fits n R' (t.bind f)
 | .ret _,h=>hf _ h
 | .ask _ _ _,⟨h1,h2,h3⟩=>⟨h1,h2,fun b=>Fits.bind hf (h3 b)⟩
theorem Fits.run {α:Type} {n:Nat} {R:α->Prop} {cmp:Nat->Nat->Bool}:∀ {t:KasT α},Fits n R t->R (runK cmp t)
 | .ret _,h=>h
 | .ask i j k,h=>Fits.run (t:=k (cmp i j)) (h.2.2 (cmp i j))
def Pl (n:Nat) (p:Array Nat):Prop:=p.size=n/\p.toList.Perm (List.range n)
theorem Pl.of_perm {n:Nat} {p q:Array Nat} (h:Pl n p) (hq:q.Perm p):Pl n q:=⟨hq.size_eq.trans h.1,(Array.perm_iff_toList_perm.mp hq).trans h.2⟩
theorem Pl.lt {n:Nat} {p:Array Nat} (h:Pl n p) (hn:0<n) (k:Nat):p.getD k 0<n:=by
 by_cases hk:k<p.size
 ·have e:p.getD k 0=p[k]:=by simp [Array.getD,hk]
  rw [e]
  have hm:p[k]∈p.toList:=by simp
  exact mR_.mp (h.2.mem_iff.mp hm)
 ·have e:p.getD k 0=0:=by simp [Array.getD,hk]
  rw [e];exact hn
theorem Pl.rev {n:Nat} {p:Array Nat} (h:Pl n p) (i j:Nat):Pl n (kas_rev p i j):=h.of_perm (mirror_perm _ _ _ _)
theorem qbN {n:Nat} (hn:0<n) {p:Array Nat} (h:Pl n p):∀ f m,Fits n (fun _=>True) (kas_asc p f m)
 | 0,_=>True.intro
 | f+1,m=>⟨h.lt hn _,h.lt hn _,fun c=>by
  dsimp only
  split
  ·exact True.intro
  ·exact qbN hn h f (m+1)⟩
theorem vI {n:Nat} (hn:0<n):∀ f {p:Array Nat} (_:Pl n p) m q,Fits n (fun r=>Pl n r.1) (kas_desc f p m q)
 | 0,_,h,_,_=>h
 | f+1,p,h,m,q=>⟨h.lt hn _,h.lt hn _,fun c=>by
  dsimp only
  split
  ·split
   ·exact vI hn f (h.rev _ _) _ _
   ·exact vI hn f h _ _
  ·refine ⟨h.lt hn _,h.lt hn _,fun d => ?_⟩
   dsimp only
   split
   ·exact h
   ·exact vI hn f h _ _⟩
theorem qbg {n:Nat} (hn:0<n) {p:Array Nat} (h:Pl n p) (m nrem:Nat):Fits n (fun r=>Pl n r.2) (kas_tail3 m nrem p) :=
 Fits.bind (R:=fun _=>True) (n:=n) (R':=fun r:Nat×Array Nat=>Pl n r.2) (f:=fun k => .ret (k,kas_rev p 0 m)) (fun _ _=>h.rev 0 m) (qbN hn (h.rev _ _) _ _)
theorem vJ {n:Nat} (hn:0<n) {p:Array Nat} (h:Pl n p) (m nrem:Nat):Fits n (fun r=>Pl n r.2) (kas_descPart m nrem p) :=
 Fits.bind (R:=fun r=>Pl n r.1) (fun r hr=>by
  split
  ·exact qbg hn (hr.rev _ _) _ _
  ·exact qbg hn hr _ _) (vI hn _ h _ _)
theorem qeP {n:Nat} (hn:0<n) {p:Array Nat} (h:Pl n p) (nrem:Nat):Fits n (fun r=>Pl n r.2) (kas_count nrem p) :=
 Fits.bind (R:=fun _=>True) (fun m _=>by
  split
  ·exact h
  ·split
   ·refine ⟨h.lt hn _,h.lt hn _,fun c => ?_⟩
    dsimp only
    split
    ·exact h
    ·exact vJ hn (h.rev _ _) _ _
   ·exact vJ hn h _ _) (qbN hn h _ _)
theorem v5 {n:Nat} (hn:0<n) {p:Array Nat} (h:Pl n p) (k:Nat):∀ f l r,Fits n (fun _=>True) (kas_place p k f l r)
 | 0,_,_=>True.intro
 | f+1,l,r=>by
  unfold kas_place
  split
  ·exact True.intro
  ·refine ⟨h.lt hn _,h.lt hn _,fun c => ?_⟩
   dsimp only
   split
   ·exact v5 hn h k f _ _
   ·exact v5 hn h k f _ _
theorem qd6 {n:Nat} (hn:0<n):∀ f {p:Array Nat} (_:Pl n p) k,Fits n (Pl n) (kas_bin f p k)
 | 0,_,h,_=>h
 | f+1,p,h,k=>Fits.bind (R:=fun _=>True) (fun l _=>qd6 hn f (h.of_perm (bubble_perm _ _ _)) _) (v5 hn h k _ _ _)
theorem fits_sort {n:Nat} (hn:0<n):Fits n (Pl n) (kas_sort n) :=
 Fits.bind (R:=fun r=>Pl n r.2) (fun r hr=>by
  split
  ·exact qd6 hn _ hr _
  ·exact hr) (qeP hn ⟨by simp,by simp⟩ _)
def ord (ks:List Int):List Nat:=if ks.length<2 then List.range ks.length else (runK (fun i j=>decide (ks.getD i 0<ks.getD j 0)) (kas_sort ks.length)).toList
theorem ord_perm (ks:List Int):(ord ks).Perm (List.range ks.length):=by
 unfold ord
 split
 ·exact .refl _
 ·exact (Fits.run (fits_sort (by omega))).2
theorem map_getD_range {α:Type} (d:α) (xs:List α):(List.range xs.length).map (fun i=>xs.getD i d)=xs:=by
 refine List.ext_getElem (by simp) fun i h1 h2 => ?_
 simp at h1 |-
 simp [h1]
section
variable {prog:Program} {w:World} {A:Around} {s:Shared}
end
end L2.Srt
set_option maxHeartbeats 1000000
namespace L2
open PySem PySem.Spec PyProof.Rows
structure SS (X:Cx) (H0:Hp) (s0:Shared) (H:Hp) (s:Shared):Prop where
 os:s.os=s0.os
 bare:AllBare s.gens
 un:Un (frs X.stack) [] H0 H s0.heap s.heap
 hok:HOk X.prog X.w H s.heap
 same:zQ H0 H
section
variable {X:Cx} {pins:List (Addr×Obj)} {Z:St} {H0 H:Hp} {s0 s:Shared} {h':Heap} {b a kS:Addr}
theorem SS.inv (z:SS X H0 s0 H s) (I:Inv X pins Z H0 s0):Inv X pins Z H s:=by
 obtain ⟨hh,g,d,t,os'⟩:=s
 obtain rfl:os'=s0.os:=z.os
 exact I.call (h':=hh) (g':=g) (d':=d) (t':=t) (ch:=[]) z.un z.hok z.bare (fun b z=>absurd z (by simp))
theorem SS.of (I:Inv X pins Z H s):SS X H s H s:=⟨rfl,I.bare,.refl,I.hok,fun _ _ h=>h⟩
theorem SS.kept (z:SS X H0 s0 H s) (k:∀ b u,s.heap.get? b=some u->h'.get? b=some u) (tk:Nat):SS X H0 s0 H { s with heap:=h',toks:=tk } :=
 ⟨z.os,z.bare,z.un.trans (Un.kept k),z.hok.kept k,z.same⟩
theorem SS.poke (z:SS X H0 s0 H s) (hb:H b=none) (hb0:s0.heap.objs.size<=b) (sb:Heap.SameBut b s.heap h') (tk:Nat):SS X H0 s0 H { s with heap:=h',toks:=tk }:=by
 have ne:∀ c o,s0.heap.get? c=some o->c≠b:=fun c o e=>Nat.ne_of_lt (Nat.lt_of_lt_of_le (Heap.lt_size e) hb0)
 refine ⟨z.os,z.bare,⟨fun c o e n f x=>(sb.2 c (ne c o e)).trans (z.un.keep c o e n f x),fun c o e n f x => ?_,z.un.free,fun c o e x => ?_,z.un.tups,z.un.frzs,z.un.tbls⟩,fun c u q => ?_,z.same⟩
 ·obtain ⟨sl,q⟩:=z.un.slot c o e n f x
  exact ⟨sl,(sb.2 c (ne c o e)).trans q⟩
 ·obtain ⟨o',q⟩:=z.un.there c o e x
  exact ⟨o',(sb.2 c (ne c o e)).trans q⟩
 ·refine (z.hok c u q).stay (fun d v hd r=>(sb.2 d ?_).trans r) (fun _ q=>q) fun _ _ q=>q
  rintro rfl
  rcases hd with rfl | hd
  ·rw [hb] at q;cases q
  ·rw [hb] at hd;cases hd
theorem SS.call {Q:VK} {u:Value} {s':Shared} (z:SS X H0 s0 H s) (h:CE X.stack X.prog X.w H s Q u s') (hq:∀ v H',Q v H'->zQ H H'):∃ v H',ji v u/\Q v H'/\SS X H0 s0 H' s'/\Un (frs X.stack) [] H H' s.heap s'.heap:=by
 obtain ⟨v,H',os,bare,un,hok,r,q⟩:=h
 exact ⟨v,H',r,q,⟨os.trans z.os,bare,z.un.trans un,hok,fun b o e=>hq v H' q b o (z.same b o e)⟩,un⟩
end
section
variable {X:Cx} {H0 H:Hp} {s0 s:Shared} {a kS:Addr} {A:Around} {E:Value->Shared->Prop} {f:Value} {vs:List Value} {ks:List Int} {e1:Nat} {P:PySem.Fin->Shared->Prop}
abbrev qkt (ks:List Int) (vs:List Value):List Value:=(Srt.ord ks).map fun i=>vs.getD i Value.none
theorem qd7 (h:ks.length=vs.length):(qkt ks vs).length=vs.length:=by
 rw [lM_,(Srt.ord_perm ks).length_eq,lR_,h]
abbrev qd8 (X:Cx) (H0:Hp) (s0:Shared) (a:Addr) (out:List Value) (P:PySem.Fin->Shared->Prop):Prop :=
 ∀ H' s' c,SS X H0 s0 H' s'->H' a=none->s'.heap.get? a=some (seqObj "list" out.toArray c)->P (.done (.ret .none)) s'
theorem qd9 {st:SortSt} {out:List Value} {kA:Array Value} {e:Nat} (z:SS X H0 s0 H s) (gk:s.heap.get? kS=some (seqObj "list" kA e)) (ga:s.heap.get? a=some (seqObj "list" #[] e1)) (nk:H kS=none) (na:H a=none)
  (lk:s0.heap.objs.size<=kS) (la:s0.heap.objs.size<=a) (hka:kS≠a) (hkz:kA.size<64) (hoz:out.length<64) (ho:(arrOf st).map (·.2)=out.toArray) (hf:failedOf st=none) (fin:qd8 X H0 s0 a out P) :
  wpAny (model X.prog X.w) A (ksk_tail a false e1 (.ref kS) st) P E s:=by
 have sb1:=Heap.SameBut.update s.heap kS (Obj.mapSeq fun _=>(#[]:Array Value))
 have ga1:=(sb1.2 a hka.symm).trans ga
 have z1:=z.poke nk lk sb1 s.toks
 have sb2:=Heap.SameBut.update (s.heap.update kS (Obj.mapSeq fun _=>(#[]:Array Value))) a (Obj.mapSeq fun _=>out.toArray)
 have z2:=z1.poke na la sb2 s.toks
 unfold ksk_tail
 dsimp only
 rw [ho]
 refine wpAny_bind (listUpdate_at gk rfl ?_ (by rw [sizeLine_eq];omega) (Nat.zero_le _))
 refine wpAny_bind (wpAny_letGo (wpAny_bind (seqEpoch_at ga1 rfl ?_)))
 refine wpAny_bind (listUpdate_at ga1 rfl ?_ (Nat.zero_le _) (by show (out.toArray).size<=_;rw [sT_,sizeLine_eq];omega))
 rw [hf]
 simp only [bne_self_eq_false,Bool.false_eq_true,if_false]
 exact wpAny_pure (fin H _ _ z2 na (get?_update_seq ga1 fun _=>out.toArray))
end
section
variable {X:Cx} {pins:List (Addr×Obj)} {Z:St} {H:Hp} {s:Shared} {l f:Addr} {vs:List Value} {ks:List Int} {Q:Value->Shared->Prop} {E:Value->Shared->Prop}
end
end L2
set_option maxHeartbeats 1000000
namespace L2
open PySem PySem.Spec PyProof.Rows
def CallKS (X:Cx) (f:Value) (ks:List Str) (r:St->List V->List V->Hp->VK->Prop):Prop:=∀ (pins:List (Addr×Obj)) (s:Shared) (Z:St) (H:Hp) (xs:List V) (us:List Value) (zs:List V) (ws:List Value) (Q:VK),
 Inv X pins Z H s->qW xs us->qW zs ws->r Z xs zs H Q->wpAny (model X.prog X.w) X.A (call f us (ks.zip ws)) (EP X pins Z Q) X.xe s
theorem qgh {X:Cx} {x:Str} {p pos:Pos} {e:Expr} {es:List Expr} {kws:List Keyword} {t tk:TA} {id:String} {ks:List Str} {r:St->List V->List V->Hp->VK->Prop} (hc:CallKS X (.builtin id) ks r) (hg:Gl X x) (hm:X.mg x=none) (hv:bootBuiltins x=some (.builtin id)) (ha:PA X (e::es) t) (hkw:PK X kws tk)
  (hall:(backToKw pos (keywordEach kws X.env)).all (·.1.isSome)=true:=by rfl) (hks:(backToKw pos (keywordEach kws X.env)).filterMap (·.1)=ks:=by rfl) (hn:x≠"__name__":=by decide) (hdb:(x==("__debug__":Str))=false:=by decide)
  (he:starEach (e::es) X.env=(false,eval e X.env)::starEach es X.env:=by rfl) (hpl:((backTo pos (starEach (e::es) X.env)).any (·.1)||(backToKw pos (keywordEach kws X.env)).any (·.1.isNone))=false:=by rfl) :
  PE X (.Call (.Name x p) (e::es) kws pos) (fun Z H Q=>t Z H fun vs H1=>tk Z H1 fun zs H2=>r Z vs zs H2 Q):=by
 intro pins s Z H Q I h
 refine wpAny_Call_Name_kw (qa0 I hg hm hv ?_ hn hdb)
 refine PySem.W.callWith_of (P:=fun _=>True) hpl (fun _ _=>⟨.machine,.inr (.inl rfl),.now⟩) (evalArgs_kw2 hall (thn (ha pos pins s Z H _ I h) fun us s1 ⟨vs,H1,I1,r1,q1⟩ => ?_) he)
 refine thn (hkw pos pins s1 Z H1 _ I1 q1) fun ws s2 ⟨zs,H2,I2,rz,q2⟩=>⟨trivial,?_⟩
 rw [hks,List.nil_append]
 exact hc pins s2 Z H2 vs us zs ws Q I2 r1 rz q2
theorem qcI {ys:List V} {its:List Value} (r:qW ys its):∀ l:List Nat,(∀ i∈l,i<ys.length)->qW (l.map fun i=>ys.getD i .non) (l.map fun i=>its.getD i Value.none)
 | [],_ => .nil
 | i::l,h=>by
  refine .cons ?_ (qcI r l fun j hj=>h j (mM _ hj))
  have hi:=h i mS_
  obtain ⟨u,hu,rv⟩:=r.get (gG hi)
  have e1:ys.getD i V.non=ys[i]:=by simp [hi]
  have e2:its.getD i Value.none=u:=by simp [List.getD,hu]
  show ji (ys.getD i V.non) (its.getD i Value.none)
  rw [e1,e2]
  exact rv
section
variable {X:Cx} {N':List Str} {fr:List Nat} {q x:Str} {params:Arguments} {body:Expr} {scope:Scope} {k:Nat}
end
end L2
namespace L2.Sk
open PySem PySem.Spec PyProof.Rows
def qoi (U:Env):List Nat->Option (List D)
 | []=>some []
 | j::fr=>match U[j]?,qoi U fr with
  | some (some d),some ds=>some (d::ds)
  | _,_=>none
def qmq (g:M D) (n:Nat) (cs:List D):List D->Option (List Int)
 | []=>some []
 | d::ds=>match g (yf n (d::cs)),qmq g n cs ds with
  | .ok (.int k,_),some ks=>some (k::ks)
  | _,_=>none
def qeQ (l:List Nat) (ds:List D):List D:=l.map fun i=>ds.getD i .non
def qoj (n:Nat) (fr:List Nat) (f g:M D):M D:=bnd f fun d U=>match d with
 | .lst ds=>if ds.length<64 then match qoi U fr with
   | some cs=>match qmq g n cs ds with
    | some ks => .ok (.lst (qeQ (Srt.ord ks) ds),U)
    | none => .bad
   | none => .bad
  else .bad
 | _ => .bad
theorem IsL.pick {K:Fr0} {A:Addr->Prop} {H:Hp} {ds:List D} {xs:List V} (il:IsL K A H ds xs):∀ l:List Nat,(∀ i∈l,i<ds.length)->IsL K A H (qeQ l ds) (l.map fun i=>xs.getD i .non)
 | [],_=>rfl
 | i::l,h=>by
  have hi:=h i mS_
  obtain ⟨y,hy,iy⟩:=il.get (gG hi)
  refine ⟨xs.getD i .non,_,rfl,?_,IsL.pick il l fun j hj=>h j (mM _ hj)⟩
  have e1:ds.getD i D.non=ds[i]:=by simp [hi]
  have e2:xs.getD i V.non=y:=by simp [List.getD,hy]
  rw [e2]
  show Is K A H (ds.getD i D.non) y
  rw [e1]
  exact iy
section
variable {X:Cx} {c:Fc} {e:Expr} {p pos kpos lpos:Pos} {N':List Str} {fr:List Nat} {x:Str} {params:Arguments} {body:Expr} {scope:Scope} {k:Nat} {c0 Pt:Addr}
end
end L2.Sk
namespace L2
open PySem PySem.Spec PyProof.Rows
theorem walk_lam {l:PySem.W.OpenLaw} {n k:Nat} {q:Program} {loose:List Str} {XP:(Str->Option Value)->Heap->Prop} {YP:World->Heap->Prop} {d:DefRec} {K:Params->PySem.W.Frag} {CX:World->CXT} {sp:World->Sp} {x:Str}
  (hn:l.most=some n) (hn2:n<=sizeLine) (hdf:d.params.defaults=[]) (hr:yo k callerA)
  (hY:∀ (w:World) (h:Heap),YP w h->(K w.params).In h) {lm:World->Option (Addr×Addr×Pos×Str)}
  (hlm:∀ (w:World) (mean:ExcName->Option Value) (mg mb:Str->Option Value) (h:Heap) (c Pt:Addr) (pos:Pos) (z:Str),Top q (PySem.W.looseW q loose) mean mg mb h->(K w.params).In h->lm w=some (c,Pt,pos,z) ->
   PySem.W.CodeHd h c Pt/\h.get? Pt=some (PySem.W.tabObj #[])/\(K w.params).lookup Pt=none)
  (F : ∀ (w:World) (mg:Str->Option Value) (fa:Addr) (h:Heap),(K w.params).In h->h.Ns mainGlobals mg->mg d.name=some (.ref fa) ->
   ∃ fd:FuncData,(∀ (s:Shared) (u:Value),BindsTo s fd ⟨[u],[]⟩ [(x,u)]) /\
    ∀ base:Heap,(K w.params).In base->base.Ns mainGlobals mg->u7 l.prog w (K w.params) mg base (CX w) k fa fd [x] (sp w))
  (hsp:∀ (w:World) (H:Hp) (a:Addr) (ns:List Int),ns.length<=n->qmR H->(∀ c Pt pos z,lm w=some (c,Pt,pos,z)->H Pt=some (.lam pos z))->SqL (K w.params) H a (ns.map V.int)->sp w [.ref a] H (fun v _=>v = .bl true) fun _ _ _=>False)
  (hCX:∀ (w:World) (H:Hp) (s:Shared) (e:Value) (s':Shared),CX w [] H s (fun _ _ _=>False) e s'->False) :
  PySem.W.WalkO q loose XP YP l.row.toRowW d [] (fun f vs=>PySem.call f vs):=by
 refine Att.attach_call hn hdf fun w s₀ sK mg mb fa o pm cd doc a vs ns G Y ho hd hcd hmg hobj hints hlen hg => ?_
 have KX:=hY w _ Y
 obtain ⟨fd,hb,hF⟩:=F w mg fa _ KX G.T.g hmg
 exact qhe (lm:=lm w) KX G.T.g G.T.b G.T.builtins G.T.nolimit G.T.bmain (fun c Pt pos z=>hlm w _ mg mb _ c Pt pos z G.T KX) hg hobj hints (Nat.le_trans hlen hn2) hr hF hb (fun H hO hT hS=>hsp w H a ns hlen hO hT hS) fun H e s'=>hCX w H sK e s'
end L2
namespace L2.Sk
open PySem PySem.Spec PyProof.Rows
section
variable {P:Program} {w:World} {K:PySem.W.Frag} {mg:Str->Option Value} {base:Heap}
end
section
variable {X:Cx} {c:Fc} {a b e:Expr} {pos:Pos}
def qnF (i:Nat) (f:M D):M D:=fun U=>match zt i U with
 | none => .bad
 | some _=>(bnd f fun d U=>match d,(zt i U).bind u8 with
  | .int b,some ns=>match ns.findIdx? (·==b) with
   | some j => .ok (.non,U.set i (some (.lst ((ns.eraseIdx j).map D.int))))
   | none => .bad
  | _,_ => .bad) U
end
end L2.Sk
namespace L2.Sk
open PySem PySem.Spec PyProof.Rows
section
variable {X:Cx}
end
def qoZ:D->D->Option D
 | .bl a,.bl b=>some (.bl (a==b))
 | _,_=>none
end L2.Sk
namespace L2
open PySem PySem.Spec PyProof.Rows
section
variable {X:Cx} {pos:Pos}
end
end L2
namespace L2.Sk
open PySem PySem.Spec PyProof.Rows
section
variable {X:Cx} {c:Fc}
end
end L2.Sk
set_option maxHeartbeats 1000000
namespace L2
open PySem PySem.Spec PyProof.Rows
abbrev yk:=Int×Int×List Int
def lt3 (x y:yk):Bool:=if x.1=y.1 then if x.2.1=y.2.1 then HT.lexLt x.2.2 y.2.2 else decide (x.2.1<y.2.1) else decide (x.1<y.1)
theorem qdk:∀ a:List Int,HT.lexLt a a=false
 | []=>rfl
 | x::a=>by rw [HT.lexLt_cons,if_pos rfl];exact qdk a
theorem qea:∀ a b:List Int,HT.lexLt a b=true->HT.lexLt b a=false
 | [],[],_=>rfl
 | [],_::_,_=>rfl
 | _::_,[],h=>by cases h
 | x::a,y::b,h=>by
  rw [HT.lexLt_cons] at h |-
  by_cases c:x=y
  ·subst c
   rw [if_pos rfl] at h |-
   exact qea a b h
  ·rw [if_neg c] at h
   rw [if_neg fun z=>c z.symm]
   have:=of_decide_eq_true h
   exact decide_eq_false (by omega)
theorem qgi:∀ a b c:List Int,HT.lexLt a c=true->HT.lexLt a b=true\/HT.lexLt b c=true
 | a,[],[],h=>by cases a<;>cases h
 | _,[],_::_,_ => .inr rfl
 | [],_::_,_,_ => .inl rfl
 | _::_,_::_,[],h=>by cases h
 | x :: a,y::b,z::c,h=>by
  rw [HT.lexLt_cons] at h
  rw [HT.lexLt_cons,HT.lexLt_cons]
  by_cases e1:x=y
  ·subst e1
   by_cases e2:x=z
   ·rw [if_pos e2] at h |-
    rw [if_pos rfl]
    exact qgi a b c h
   ·rw [if_neg e2] at h |-
    exact .inr h
  ·by_cases e2:y=z
   ·subst e2
    rw [if_neg e1] at h |-
    exact .inl h
   ·rw [if_neg e1,if_neg e2]
    by_cases e3:x=z
    ·subst e3
     simp only [decide_eq_true_eq]
     omega
    ·rw [if_neg e3] at h
     simp only [decide_eq_true_eq] at h |-
     omega
theorem qku (x:yk):lt3 x x=false:=by unfold lt3;rw [if_pos rfl,if_pos rfl];exact qdk _
theorem qhR (x y:yk) (h:lt3 x y=true):lt3 y x=false:=by
 unfold lt3 at h |-
 by_cases c:x.1=y.1
 ·rw [if_pos c] at h;rw [if_pos c.symm]
  by_cases d:x.2.1=y.2.1
  ·rw [if_pos d] at h;rw [if_pos d.symm];exact qea _ _ h
  ·rw [if_neg d] at h;rw [if_neg fun z=>d z.symm]
   have:=of_decide_eq_true h
   exact decide_eq_false (by omega)
 ·rw [if_neg c] at h;rw [if_neg fun z=>c z.symm]
  have:=of_decide_eq_true h
  exact decide_eq_false (by omega)
theorem qgj (x y z:yk) (h:lt3 x z=true):lt3 x y=true\/lt3 y z=true:=by
 obtain ⟨x1,x2,x3⟩:=x
 obtain ⟨y1,y2,y3⟩:=y
 obtain ⟨z1,z2,z3⟩:=z
 unfold lt3 at h |-
 dsimp only at h |-
 by_cases e1:x1=y1
 ·subst e1
  by_cases e2:x1=z1
  ·rw [if_pos e2] at h |-
   rw [if_pos rfl]
   by_cases f1:x2=y2
   ·subst f1
    by_cases f2:x2=z2
    ·rw [if_pos f2] at h |-
     rw [if_pos rfl]
     exact qgi _ _ _ h
    ·rw [if_neg f2] at h |-
     exact .inr h
   ·by_cases f2:y2=z2
    ·subst f2
     rw [if_neg f1] at h |-
     exact .inl h
    ·rw [if_neg f1,if_neg f2]
     by_cases f3:x2=z2
     ·subst f3
      simp only [decide_eq_true_eq]
      omega
     ·rw [if_neg f3] at h
      simp only [decide_eq_true_eq] at h |-
      omega
  ·rw [if_neg e2] at h |-
   exact .inr h
 ·by_cases e2:y1=z1
  ·subst e2
   rw [if_neg e1] at h |-
   exact .inl h
  ·rw [if_neg e1,if_neg e2]
   by_cases e3:x1=z1
   ·subst e3
    simp only [decide_eq_true_eq]
    omega
   ·rw [if_neg e3] at h
    simp only [decide_eq_true_eq] at h |-
    omega
def qbO (ks:List yk) (k:yk):Int:=((ks.countP fun y=>lt3 y k:Nat):Int)
def zn (ks:List yk):List Int:=ks.map (qbO ks)
theorem qgk {ks:List yk} {x y:yk} (hx:x∈ks):decide (qbO ks x<qbO ks y)=lt3 x y:=by
 have mono:∀ (p q:yk->Bool) (l:List yk),(∀ z,p z=true->q z=true)->l.countP p<=l.countP q:=fun p q l h=>List.countP_mono_left fun z _=>h z
 cases c:lt3 x y with
 | true =>
  apply decide_eq_true
  have sub:∀ z,lt3 z x=true->lt3 z y=true:=fun z hz=>by
   rcases qgj z y x hz with h | h
   ·exact h
   ·rw [qhR x y c] at h;cases h
  have strict:∀ l:List yk,x∈l->l.countP (fun z=>lt3 z x)<l.countP (fun z=>lt3 z y):=fun l=>by
   induction l with
   | nil=>intro h;cases h
   | cons a l ih =>
    intro h
    rw [List.countP_cons,List.countP_cons]
    rcases List.mem_cons.mp h with rfl | h
    ·rw [qku,c]
     have:=mono (fun z=>lt3 z x) (fun z=>lt3 z y) l sub
     simp only [Bool.false_eq_true,if_false,if_true]
     omega
    ·have:=ih h
     cases d:lt3 a x with
     | true=>rw [sub a d];simp only [if_true];omega
     | false=>simp only [Bool.false_eq_true,if_false];split<;>omega
  have:=strict ks hx
  unfold qbO
  omega
 | false =>
  apply decide_eq_false
  have sub:∀ z,lt3 z y=true->lt3 z x=true:=fun z hz=>by
   rcases qgj z x y hz with h | h
   ·exact h
   ·rw [c] at h;cases h
  have:=mono (fun z=>lt3 z y) (fun z=>lt3 z x) ks sub
  unfold qbO
  omega
theorem jG (ks:List yk):(zn ks).length=ks.length:=lM_ _
def KAt (K:PySem.W.Frag) (H:Hp) (k:yk) (v:V):Prop:=∃ p q,v = .ref p/\Sk.TupAt K H p [.int k.1,.int k.2.1,.ref q]/\Sk.TupAt K H q (k.2.2.map V.int)
inductive qeR (K:PySem.W.Frag) (H:Hp):List yk->List V->Prop
 | nil:qeR K H [] []
 | cons {k:yk} {v:V} {ks:List yk} {vs:List V}:KAt K H k v->qeR K H ks vs->qeR K H (k::ks) (v::vs)
theorem qbh {K:PySem.W.Frag} {H H':Hp} {a:Addr} {xs:List V} (sm:zQ H H') (h:Sk.TupAt K H a xs):Sk.TupAt K H' a xs:=by
 rcases h with h | h
 ·exact .inl (sm _ _ h)
 ·exact .inr h
theorem KAt.same {K:PySem.W.Frag} {H H':Hp} {k:yk} {v:V} (sm:zQ H H') (h:KAt K H k v):KAt K H' k v:=by
 obtain ⟨p,q,e,h1,h2⟩:=h
 exact ⟨p,q,e,qbh sm h1,qbh sm h2⟩
theorem qeR.same {K:PySem.W.Frag} {H H':Hp} {ks:List yk} {vs:List V} (sm:zQ H H') (h:qeR K H ks vs):qeR K H' ks vs:=by
 induction h with
 | nil=>exact .nil
 | cons a _ ih=>exact .cons (a.same sm) ih
theorem qeR.snoc {K:PySem.W.Frag} {H:Hp} {k:yk} {v:V} {ks:List yk} {vs:List V} (h:qeR K H ks vs) (a:KAt K H k v):qeR K H (ks++[k]) (vs++[v]):=by
 induction h with
 | nil=>exact .cons a .nil
 | cons b _ ih=>exact .cons b ih
def K3V (h:Heap) (k:yk) (u:Value):Prop:=∃ p q t1 t2 its,u = .ref p/\IsTup h p #[.int k.1 t1,.int k.2.1 t2,.ref q]/\IsTup h q its/\IntsAre its.toList k.2.2
inductive qgY (h:Heap):List yk->List Value->Prop
 | nil:qgY h [] []
 | cons {k:yk} {v:Value} {ks:List yk} {vs:List Value}:K3V h k v->qgY h ks vs->qgY h (k::ks) (v::vs)
theorem qgY.length {h:Heap} {ks:List yk} {vs:List Value} (x:qgY h ks vs):ks.length=vs.length:=by
 induction x with
 | nil=>rfl
 | cons _ _ ih=>rw [lC_,lC_,ih]
theorem qgY.get {h:Heap} {ks:List yk} {vs:List Value} (x:qgY h ks vs):∀ {i:Nat},i<ks.length->K3V h (ks.getD i (0,0,[])) (vs.getD i Value.none):=by
 induction x with
 | nil=>intro i hi;exact absurd hi (Nat.not_lt_zero _)
 | cons a _ ih =>
  intro i hi
  cases i with
  | zero=>exact a
  | succ i=>exact ih (by simpa using hi)
section
variable {X:Cx} {pins:List (Addr×Obj)} {Z:St} {H:Hp} {s:Shared}
theorem qnG (I:Inv X pins Z H s) {k:yk} {v:V} {u:Value} (r:ji v u) (h:KAt X.K H k v):K3V s.heap k u:=by
 obtain ⟨p,q,rfl,h1,h2⟩:=h
 cases r
 obtain ⟨its,r1,t1,_⟩:=I.tuple h1.sq
 obtain ⟨its2,r2,t2,_⟩:=I.tuple h2.sq
 cases r1 with
 | cons ra rr =>
 cases rr with
 | cons rb rr =>
 cases rr with
 | cons rc rr =>
 cases rr
 obtain ⟨ta,rfl⟩:=ra
 obtain ⟨tb,rfl⟩:=rb
 cases rc
 exact ⟨p,q,ta,tb,its2.toArray,rfl,t1,t2,by simpa using vT r2⟩
theorem qmr (I:Inv X pins Z H s) {ks:List yk} {vs:List V} (h:qeR X.K H ks vs):∀ {us:List Value},qW vs us->qgY s.heap ks us:=by
 induction h with
 | nil=>intro us r;cases r;exact .nil
 | cons a _ ih=>intro us r;cases r with | cons ra rr=>exact .cons (qnG I ra a) (ih rr)
end
theorem qbi {prog:Program} {w:World} {vs:List Value} {ns:List Int} (h:IntsAre vs ns):ItemsAre (intKind prog w) ns vs:=by
 induction h with
 | nil=>exact .nil
 | cons n t _ ih=>exact .cons (by simp [intKind,Value.isInt]) ih
section
variable {prog:Program} {w:World} {A:Around} {E:Value->Shared->Prop} {s:Shared}
theorem qms {kx ky:yk} {u v:Value} {Q:Bool->Shared->Prop} (hu:A.units<cLine) (hx:K3V s.heap kx u) (hy:K3V s.heap ky v) (h:Q (lt3 kx ky) s) :
  wpAny (model prog w) A (PyProof.Rows.keyLt' (PyProof.Rows.tuples' true) u v) Q E s:=by
 obtain ⟨p,q,t1,t2,its,rfl,hp,hq,hi⟩:=hx
 obtain ⟨p',q',t1',t2',its',rfl,hp',hq',hi'⟩:=hy
 obtain ⟨o,ho,hc,n,hd⟩:=id hp
 obtain ⟨o',ho',hc',n',hd'⟩:=id hp'
 refine PySem.W.kat_lt ho hd ho' hd' ?_
 show PySem.W.KatLex prog w A true (decide (3<3)) Q [(.int kx.1 t1,.int ky.1 t1'),(.int kx.2.1 t2,.int ky.2.1 t2'),(.ref q,.ref q')] 0 s
 unfold lt3 at h
 refine PySem.W.kat_cons (wpAny_eqBool_int ?_)
 by_cases c:kx.1=ky.1
 ·rw [if_pos c] at h
  rw [show (kx.1==ky.1)=true by simp [c]]
  refine PySem.W.kat_yes (PySem.W.kat_cons (wpAny_eqBool_int ?_))
  by_cases d:kx.2.1=ky.2.1
  ·rw [if_pos d] at h
   rw [show (kx.2.1==ky.2.1)=true by simp [d]]
   refine PySem.W.kat_yes (PySem.W.kat_cons ?_)
   have kq:IsTupleKey (intKind prog w) s.heap kx.2.2 q:=by
    obtain ⟨o2,a1,a2,n2,a3⟩:=hq
    exact ⟨o2,its,n2,a1,a2,a3,qbi hi⟩
   have kq':IsTupleKey (intKind prog w) s.heap ky.2.2 q':=by
    obtain ⟨o2,a1,a2,n2,a3⟩:=hq'
    exact ⟨o2,its',n2,a1,a2,a3,qbi hi'⟩
   refine wpAny_eqBool_tuple hu kq kq' ?_
   by_cases e:kx.2.2=ky.2.2
   ·rw [decide_eq_true e]
    rw [e,qdk] at h
    exact PySem.W.kat_yes (PySem.W.kat_nil h)
   ·rw [decide_eq_false e]
    exact PySem.W.kat_no (PySem.W.kat_one _ _ (HT.lt_tupInts hq hq' hi hi' hu h))
  ·rw [if_neg d] at h
   rw [show (kx.2.1==ky.2.1)=false by simp [d]]
   exact PySem.W.kat_no (PySem.W.kat_one _ _ (lt_int h))
 ·rw [if_neg c] at h
  rw [show (kx.1==ky.1)=false by simp [c]]
  exact PySem.W.kat_no (oneLt_int h)
theorem qhS {ks:List yk} {vs:List Value} (x:qgY s.heap ks vs):∃ fs:List Value,PySem.W.KatTups s.heap vs fs/\fs.length=ks.length/\∀ v∈fs,∃ i t,v=Value.int i t:=by
 induction x with
 | nil=>exact ⟨[],.nil,rfl,fun v hv=>by cases hv⟩
 | @cons k v ks vs a _ ih =>
  obtain ⟨fs,h1,h2,h3⟩:=ih
  obtain ⟨p,q,t1,t2,its,rfl,⟨o,ho,hc,n,hd⟩,_,_⟩:=a
  refine ⟨.int k.1 t1::fs,.cons ho hc hd rfl h1,by rw [lC_,lC_,h2],fun v hv => ?_⟩
  rcases List.mem_cons.mp hv with rfl | hv
  ·exact ⟨_,_,rfl⟩
  ·exact h3 v hv
theorem qgl {α:Type} {vs:List Value} {ks:List yk} {R:α->Prop} {G:α->Shared->Prop} (hu:A.units<cLine) (hk:qgY s.heap ks vs):∀ {t:PySem.W.KasT α},Srt.Fits ks.length R t ->
  G (Srt.runK (fun i j=>decide ((zn ks).getD i 0<(zn ks).getD j 0)) t) s->t.kasWp (PySem.W.kas_ask prog w A (PyProof.Rows.tuples' true) vs) G s
 | .ret _,_,h=>h
 | .ask i j k,⟨h1,h2,h3⟩,h=>by
  have e1:(zn ks).getD i 0=qbO ks (ks.getD i (0,0,[])):=by unfold zn;simp [h1]
  have e2:(zn ks).getD j 0=qbO ks (ks.getD j (0,0,[])):=by unfold zn;simp [h2]
  have hm:ks.getD i (0,0,[])∈ks:=by simp [h1]
  have h':G (Srt.runK (fun i j=>decide ((zn ks).getD i 0<(zn ks).getD j 0)) (k (decide ((zn ks).getD i 0<(zn ks).getD j 0)))) s:=h
  rw [e1,e2,qgk hm] at h'
  show wpAny (model prog w) A (PyProof.Rows.keyLt' (PyProof.Rows.tuples' true) (vs.getD i Value.none) (vs.getD j Value.none)) _ _ s
  exact qms hu (hk.get h1) (hk.get h2) (qgl hu hk (h3 _) h')
end
section
variable {X:Cx} {pins:List (Addr×Obj)} {Z:St} {H0 H:Hp} {s0 s:Shared} {a kS:Addr} {A:Around} {E:Value->Shared->Prop} {f:Value} {vs:List Value} {ks:List yk} {e1:Nat} {P:PySem.Fin->Shared->Prop}
theorem qhT {kA:Array Value} {e:Nat} {vk:List V} (I0:Inv X pins Z H0 s0) (hu:A.units<cLine) (z:SS X H0 s0 H s) (gk:s.heap.get? kS=some (seqObj "list" kA e)) (ga:s.heap.get? a=some (seqObj "list" #[] e1)) (nk:H kS=none) (na:H a=none)
  (lk:s0.heap.objs.size<=kS) (la:s0.heap.objs.size<=a) (hka:kS≠a) (hkv:qW vk kA.toList) (hk:qeR X.K H ks vk) (hlen:ks.length=vs.length) (h64:vs.length<64) (fin:qd8 X H0 s0 a (qkt (zn ks) vs) P) :
  wpAny (model X.prog X.w) A (ksk_end a false vs.toArray e1 (.ref kS) kA) P E s:=by
 have kv:=qmr (z.inv I0) hk hkv
 have hrl:(zn ks).length=vs.length:=(jG ks).trans hlen
 have hkz:kA.size=vs.length:=by
  have h1:=kv.length
  rw [<- Array.length_toList,<- h1,hlen]
 unfold ksk_end
 dsimp only
 rw [if_neg (by decide)]
 by_cases h2:vs.length<2
 ·have h2':vs.toArray.size<2:=by rw [sT_];exact h2
  rw [if_pos h2',if_pos h2']
  refine wpAny_bind (wpAny_pure ?_)
  rw [StateT.run_pure]
  refine wpAny_bind (wpAny_pure ?_)
  dsimp only
  refine qd9 z gk ga nk na lk la hka (by omega) (by rw [qd7 hrl];exact h64) ?_ rfl fin
  have e0:qkt (zn ks) vs=vs:=by
   show (Srt.ord (zn ks)).map _=vs
   unfold Srt.ord
   rw [if_pos (by omega),hrl]
   exact Srt.map_getD_range _ vs
  rw [e0]
  apply Array.toList_inj.mp
  show ((kA.zip vs.toArray).map (·.2)).toList=vs.toArray.toList
  rw [Array.toList_map,ksk_zip,List.map_snd_zip (Nat.le_of_eq (by rw [Array.length_toList];exact hkz.symm))]
 ·have h2':¬ vs.toArray.size<2:=by rw [sT_];exact h2
  rw [if_neg h2',if_neg h2']
  have ekA:kA=kA.toList.toArray:=by simp
  obtain ⟨fs,t1,t2,t3⟩:=qhS kv
  refine wpAny_bind ?_
  rw [ekA]
  refine PySem.W.kat_kind (T := .type "int") t1 (by omega) (fun v hv => ?_) rfl ?_
  ·obtain ⟨i,t,rfl⟩:=t3 v hv
   exact .now
  have hl:kA.toList.length=vs.length:=by rw [Array.length_toList];exact hkz
  show wpAny _ _ _ _ _ _
  refine wpAny_bind (wpAny_mono (PySem.W.kat_run (κ:=PyProof.Rows.tuples' true) (Q:=fun st' s'=>s'=s/\(arrOf st').map (·.2)=(qkt (zn ks) vs).toArray/\failedOf st'=none) (G:=fun p s'=>s'=s/\p.toList=Srt.ord (zn ks)) hl (by omega) h64 (fun p st' s' a1 a2 a3 a4 => ?_) ?_) ?_ fun _ _ x=>x)
  ·refine ⟨a4.1,?_,a3⟩
   rw [PySem.W.kat_snds hl a2,a4.2]
  ·have ft:=Srt.fits_sort (n:=ks.length) (by omega)
   rw [<- hlen]
   refine qgl hu kv ft ⟨rfl,?_⟩
   unfold Srt.ord
   rw [if_neg (by omega),jG]
  ·rintro ⟨⟨⟩,st'⟩ s' ⟨rfl,h3,h4⟩
   dsimp only
   exact qd9 z gk ga nk na lk la hka (by omega) (by rw [qd7 hrl];exact h64) h3 h4 fin
abbrev qgm (X:Cx) (H0:Hp) (s0:Shared) (A:Around) (f v:Value) (k:yk):Prop:=∀ s' H',SS X H0 s0 H' s' ->
 wpAny (model X.prog X.w) A (call f [v]) (fun u s2=>∃ x H2,ji x u/\KAt X.K H2 k x/\SS X H0 s0 H2 s2/\Un (frs X.stack) [] H' H2 s'.heap s2.heap/\zQ H' H2) (fun _ _=>False) s'
theorem qgn (I0:Inv X pins Z H0 s0) (hu:A.units<cLine) (z:SS X H0 s0 H s) (gk:s.heap.get? kS=some (seqObj "list" #[] 0)) (ga:s.heap.get? a=some (seqObj "list" #[] e1)) (nk:H kS=none) (na:H a=none)
  (lk:s0.heap.objs.size<=kS) (la:s0.heap.objs.size<=a) (hka:kS≠a) (hlen:ks.length=vs.length) (h64:vs.length<64) (hfr:∀ b∈frs X.stack,b<s0.heap.objs.size)
  (turn:∀ (i:Nat) (v:Value) (k:yk),vs[i]? = some v->ks[i]? = some k->qgm X H0 s0 A f v k) (fin:qd8 X H0 s0 a (qkt (zn ks) vs) P):wpAny (model X.prog X.w) A (ksk_rest a f false vs.toArray e1 (.ref kS)) P E s:=by
 have nf:∀ c,s0.heap.objs.size<=c->c ∉ frs X.stack:=fun c hc hm=>absurd (Nat.lt_of_lt_of_le (hfr c hm) hc) (Nat.lt_irrefl _)
 unfold ksk_rest
 refine wpAny_bind (wpAny_rule ?_)
 rw [List.forIn_toArray]
 refine wpAny_bind (ksk_fold (fun i s'=>∃ H' kA e vk,SS X H0 s0 H' s'/\H' kS=none/\H' a=none/\s'.heap.get? kS=some (seqObj "list" kA e)/\s'.heap.get? a=some (seqObj "list" #[] e1)/\qW vk kA.toList/\qeR X.K H' (ks.take i) vk/\kA.size=min i vs.length) vs 0 s
  ⟨H,#[],0,[],z,nk,na,gk,ga,.nil,by simpa using qeR.nil,by simp⟩ ?step ?done)
 case step =>
  rintro j x s' hx ⟨H',kA,e,vk,z',k1,a1,g1,g2,hi,hki,hz0⟩
  rw [Nat.zero_add] at hki hz0 |-
  have hj:j<vs.length:=(gI_.mp hx).1
  obtain ⟨k,hkj⟩:∃ k,ks[j]? = some k:=⟨_,gG (by omega)⟩
  have hz:kA.size<=vs.length:=by omega
  refine wpAny_bind (wpAny_attempt (wpAny_mono (turn j x k hx hkj s' H' z') (fun v s2 hv => ?_) fun _ _ hF=>hF.elim))
  obtain ⟨y,H2,ry,ky,z2,u2,sm2⟩:=hv
  dsimp only
  have gk2:=u2.keep kS _ g1 k1 (nf kS lk) (by simp)
  have ga2:=u2.keep a _ g2 a1 (nf a la) (by simp)
  have nk2:=u2.free kS _ g1 k1 (by simp)
  have na2:=u2.free a _ g2 a1 (by simp)
  have sb:=Heap.SameBut.update s2.heap kS (Obj.mapSeq (·.push v))
  refine wpAny_bind (listUpdate_at gk2 rfl ?_ (by rw [sizeLine_eq];omega) (by show (kA.push _).size<=_;rw [Array.size_push,sizeLine_eq];omega))
  refine wpAny_pure ⟨rfl,H2,kA.push v,_,vk++[y],z2.poke nk2 lk sb s2.toks,nk2,na2,get?_update_seq gk2 (·.push v),(sb.2 a hka.symm).trans ga2,?_,?_,?_⟩
  ·have ea:(kA.push v).toList=kA.toList++[v]:=by simp
   rw [ea]
   exact hi.append (.cons ry .nil)
  ·have ek:ks.take (j+1)=ks.take j++[k]:=by rw [List.take_add_one,hkj];simp
   rw [ek]
   exact (hki.same sm2).snoc ky
  ·rw [Array.size_push];omega
 case done =>
  rintro s' ⟨H',kA,e,vk,z',k1,a1,g1,g2,hi,hki,hz0⟩
  have e3:ks.take (0+vs.length)=ks:=List.take_of_length_le (by omega)
  rw [e3] at hki
  refine wpAny_bind (listItems_at g1 rfl ?_)
  exact qhT I0 hu z' g1 g2 k1 a1 lk la hka hi hki hlen h64 fin
theorem qgo {n:Nat} (I0:Inv X pins Z H0 s0) (hu:A.units<cLine) (z:SS X H0 s0 H s) (ho:s.heap.get? a=some (seqObj "list" vs.toArray n)) (na:H a=none) (la:s0.heap.objs.size<=a) (hs0:s0.heap.objs.size<=s.heap.objs.size) (hlen:ks.length=vs.length) (h64:vs.length<64) (hfr:∀ b∈frs X.stack,b<s0.heap.objs.size)
  (turn:∀ (i:Nat) (v:Value) (k:yk),vs[i]? = some v->ks[i]? = some k->qgm X H0 s0 A f v k) (fin:qd8 X H0 s0 a (qkt (zn ks) vs) P):wpAny (model X.prog X.w) A (ksk_tree a f false) P E s:=by
 have hlt:a<s.heap.objs.size:=Heap.lt_size ho
 have sb:=Heap.SameBut.update s.heap a (Obj.mapSeq fun _=>(#[]:Array Value))
 obtain ⟨e1,ho1⟩:∃ e1,(s.heap.update a (Obj.mapSeq fun _=>(#[]:Array Value))).get? a=some (seqObj "list" #[] e1):=⟨_,get?_update_seq ho fun _ => #[]⟩
 have z1:=z.poke na la sb s.toks
 have hsz:((s.heap.update a (Obj.mapSeq fun _=>(#[]:Array Value))).push (seqObj "tuple" vs.toArray 0)).objs.size=s.heap.objs.size+1:=by rw [size_push',Heap.size_update]
 unfold ksk_tree
 refine wpAny_bind (listItems_at ho rfl (wpAny_bind (listUpdate_at ho rfl ?_ (by rw [sT_,sizeLine_eq];omega) (Nat.zero_le _))))
 refine wpAny_bind (seqEpoch_at ho1 rfl (wpAny_bind (wpAny_newTuple ?_ (by show vs.length<=_;rw [sizeLine_eq];omega))))
 refine wpAny_bind (wpAny_newList (wpAny_holding ?_) (Nat.zero_le _))
 have kp:∀ b u,(s.heap.update a (Obj.mapSeq fun _=>(#[]:Array Value))).get? b=some u->(((s.heap.update a (Obj.mapSeq fun _=>(#[]:Array Value))).push (seqObj "tuple" vs.toArray 0)).push (seqObj "list" #[] 0)).get? b=some u :=
  fun b u q=>Heap.get?_push_of_some _ (Heap.get?_push_of_some _ q)
 have z3:=z1.kept kp s.toks
 refine qgn I0 hu (kS:=((s.heap.update a (Obj.mapSeq fun _=>(#[]:Array Value))).push (seqObj "tuple" vs.toArray 0)).objs.size) z3 (Heap.get?_push_size _ rfl) (kp _ _ ho1) ?_ na (by rw [hsz];omega) la (by rw [hsz];exact Nat.ne_of_gt (Nat.lt_succ_of_lt hlt)) hlen h64 hfr turn fin
 cases q:H ((s.heap.update a (Obj.mapSeq fun _=>(#[]:Array Value))).push (seqObj "tuple" vs.toArray 0)).objs.size with
 | none=>rfl
 | some u =>
  have:=z.hok.lt q
  rw [hsz] at this
  exact absurd (Nat.lt_of_succ_lt this) (Nat.lt_irrefl _)
end
section
variable {X:Cx} {pins:List (Addr×Obj)} {Z:St} {H:Hp} {s:Shared} {l f:Addr} {vs:List Value} {ks:List yk} {Q:Value->Shared->Prop} {E:Value->Shared->Prop}
theorem qdl (hu:X.A.in1.in1.units<cLine) (I:Inv X pins Z H s) (hl:s.heap.IsList l vs.toArray) (hlen:ks.length=vs.length) (h64:vs.length<64) (turn:∀ (i:Nat) (v:Value) (k:yk),vs[i]? = some v->ks[i]? = some k->qgm X H s X.A.in1.in1 (.ref f) v k)
  (fin:∀ D H' s' c,s.heap.objs.size<=D->SS X H s H' s'->H' D=none->s'.heap.get? D=some (seqObj "list" (qkt (zn ks) vs).toArray c)->Q (.ref D) s'):wpAny (model X.prog X.w) X.A (call (.builtin "sorted") [.ref l] [(Str.ofString "key",.ref f)]) Q E s:=by
 refine call_function_entry_kw kind_sorted plain_sorted entry_sorted (ksk_s1 _ _) ?_
 unfold Builtin.«sorted»
 refine wpAny_bind (m:=checkCount "sorted" 1 1 _) (wpAny_pure (wpAny_bind (collect_list hl ?_ (by rw [sizeLine_eq];omega))))
 refine wpAny_bind (wpAny_newList ?_ (by rw [sizeLine_eq];omega))
 have hsz:((s.heap.push (seqObj "list" #[] 0)).update s.heap.objs.size (Obj.mapSeq (·++vs.toArray))).objs.size=s.heap.objs.size+1:=by rw [Heap.size_update,size_push']
 have hD:(((s.heap.push (seqObj "list" #[] 0)).update s.heap.objs.size (Obj.mapSeq (·++vs.toArray))).push (seqObj "list" vs.toArray 0)).get? (s.heap.objs.size+1)=some (seqObj "list" vs.toArray 0):=by rw [<- hsz];exact Heap.get?_push_size _ rfl
 have keep:∀ b o,s.heap.get? b=some o->(((s.heap.push (seqObj "list" #[] 0)).update s.heap.objs.size (Obj.mapSeq (·++vs.toArray))).push (seqObj "list" vs.toArray 0)).get? b=some o:=fun b o q=>by
  have hb:=Heap.lt_size q
  rw [Heap.get?_push_ne _ _ _ (by rw [hsz];exact Nat.ne_of_lt (Nat.lt_succ_of_lt hb)),Heap.get?_update_ne _ _ _ _ (Nat.ne_of_lt hb),Heap.get?_push_ne _ _ _ (Nat.ne_of_lt hb)]
  exact q
 have z:=(SS.of I).kept keep s.toks
 have hfr:∀ b∈frs X.stack,b<s.heap.objs.size:=fun b hb=>by
  obtain ⟨_,o,ho,_⟩:=I.stack.mem hb
  exact Heap.lt_size ho
 have hszs:s.heap.objs.size<=(((s.heap.push (seqObj "list" #[] 0)).update s.heap.objs.size (Obj.mapSeq (·++vs.toArray))).push (seqObj "list" vs.toArray 0)).objs.size:=by rw [size_push',hsz];omega
 show wpAny _ _ _ _ _ { s with heap:=((s.heap.push (seqObj "list" #[] 0)).update s.heap.objs.size (Obj.mapSeq (·++vs.toArray))).push (seqObj "list" vs.toArray 0) }
 rw [hsz]
 refine wpAny_bind (wpAny_holding (wpAny_call_entry_kw slot_list_sort ⟨_,hD,rfl⟩ entry_list_sort ?body (ksk_l1 _ _)))
 case body =>
  show wpAny (model X.prog X.w) X.A.in1.in1 (Builtin.«list.sort» ⟨[.ref (s.heap.objs.size+1)],[(Str.ofString "key",.ref f)]⟩) _ _ _
  rw [ksk_t1]
  refine qgo I hu (X:=X) (H0:=H) (s0:=s) (H:=H) z hD (I.hok.fresh (Nat.le_succ _)) (Nat.le_succ _) hszs hlen h64 hfr turn fun H' s' c z' n' g'=>⟨_,rfl,?_⟩
  exact wpAny_pure ⟨_,rfl,fin _ H' s' c (Nat.le_succ _) z' n' g'⟩
end
end L2
namespace L2
open PySem PySem.Spec PyProof.Rows
def qmt (X:Cx) (f:Addr) (F:List Sk.D->Sk.R Sk.D):St->List V->List V->Hp->VK->Prop:=fun Z xs zs H Q =>
 ∃ (a:Addr) (ys:List V) (ks:List yk),xs=[.ref a]/\zs=[.ref f]/\SqL X.K H a ys/\ys.length<64/\ks.length=ys.length /\
  (∀ (i:Nat) (y:V) (k:yk),ys[i]? = some y->ks[i]? = some k->∀ H',zQ H H'->Sk.spD X.K F [y] H' (fun v H2=>KAt X.K H2 k v/\zQ H' H2) E0) /\
  ∀ H' p,zQ H H'->H' p=none->Q (.ref p) (upd H' p (.lst ((Srt.ord (zn ks)).map fun i=>ys.getD i .non)))
section
variable {X:Cx} {k:Nat} {f:Addr} {fd:FuncData} {x:Str} {F:List Sk.D->Sk.R Sk.D}
theorem qeS (G:u7 X.prog X.w X.K X.mg X.base CX0 k f fd [x] (Sk.spD X.K F)) (hb:uK X.K fd [x] []) (hr:yo (k+2) X.A):CallKS X (.builtin "sorted") [Str.ofString "key"] (qmt X f F):=by
 intro pins s Z H xs us zs wz Q I rx rz h
 obtain ⟨a,ys,ks,rfl,rfl,hs,h64,hlen,key,hq⟩:=h
 cases rx with
 | cons ra rr =>
 cases rr
 cases rz with
 | cons rf rr =>
 cases rr
 cases ra
 cases rf
 obtain ⟨its,r,ht,hz⟩:=I.list hs
 have hl:=r.length
 have hr2:yo k X.A.in1.in1:=hr.in1.in1
 refine qdl (ks:=ks) hr2.units0 I ht.isList (by omega) (by omega) (fun i v k' hvi hki s' H' z => ?_) fun D H' s' c hD z' n' g' => ?_
 ·have hi:i<ys.length:=by rw [hl];exact (gI_.mp hvi).1
  obtain ⟨u,hu,ry⟩:=r.get (gG hi)
  rw [hvi] at hu;cases hu
  have sp:=key i ys[i] k' (gG hi) hki H' z.same
  have I':=z.inv I
  have e0:qgV X.prog X.w X.K X.mg X.base X.A.in1.in1 X.stack s' H':=by
   obtain ⟨a1,a2,a3,a4,a5,a6,a7,a8⟩:=I'.env0
   exact ⟨a1,a2,a3,a4,a5,a6,a7,a8⟩
  refine wpAny_call (codeAny_mono (G.run X.A.in1.in1 X.stack s' H' ⟨[v],[]⟩ [v] [ys[i]] (fun v H2=>KAt X.K H2 k' v/\zQ H' H2) E0 hr2 e0 (by
   have:=hb s' [v] I'.kIn rfl
   simpa using this) (.cons ry .nil) sp) fun r' s2 hq' => ?_)
  cases r' with
  | error e=>exact hq'.elim
  | ok fl =>
   cases fl with
   | ret u =>
    obtain ⟨v',H2,r2,⟨ka,sm⟩,z2,u2⟩:=z.call hq' fun v H' q=>q.2
    exact ⟨v',H2,r2,ka,z2,u2,sm⟩
   | next=>exact False.elim hq'
   | brk=>exact False.elim hq'
   | cont=>exact False.elim hq'
 ·have hpl:∀ i∈Srt.ord (zn ks),i<ys.length:=fun i hi=>by
   have:=(Srt.ord_perm (zn ks)).mem_iff.mp hi
   rw [jG] at this
   rw [<- hlen];exact mR_.mp this
  have hnone:s.heap.get? D=none:=Heap.get?_none_of_le hD
  have rp:=qcI r (Srt.ord (zn ks)) hpl
  have ol:((Srt.ord (zn ks)).map fun i=>ys.getD i V.non).length<=sizeLine:=by
   rw [lM_,(Srt.ord_perm (zn ks)).length_eq,lR_,jG,sizeLine_eq];omega
  have ne':∀ c u,H' c=some u->c≠D:=fun c u q z=>by rw [z,n'] at q;cases q
  have hok:HOk X.prog X.w (upd H' D (.lst ((Srt.ord (zn ks)).map fun i=>ys.getD i .non))) s'.heap:=fun b u e=>by
   by_cases hbD:b=D
   ·subst hbD
    rw [qv] at e;cases e
    exact ⟨ol,_,_,rp,g'⟩
   ·rw [qt hbD] at e
    exact (z'.hok b u e).stay (fun _ _ _ q=>q) (fun c q=>by rw [qt (ne' c _ q)];exact q) (fun c xs q=>by rw [qt (ne' c _ q)];exact q) fun c ob y q=>by rw [qt (ne' c _ q)];exact q
  have un:=Sk.un_held (o := .lst ((Srt.ord (zn ks)).map fun i=>ys.getD i .non)) z'.un hnone n'
  have zz:SS X H s (upd H' D (.lst ((Srt.ord (zn ks)).map fun i=>ys.getD i .non))) s':=⟨z'.os,z'.bare,un,hok,fun b o e=>qhQ n' b o (z'.same b o e)⟩
  exact ⟨.ref D,_,zz.inv I,rfl,hq H' D z'.same n'⟩
end
end L2
namespace L2.Sk
open PySem PySem.Spec PyProof.Rows
def qkv:D->Option yk
 | .tup [.int a,.int b,.tup ts]=>match u8 ts with
  | some ns=>some (a,b,ns)
  | none=>none
 | _=>none
def qau (F:List D->R D):List D->Option (List yk)
 | []=>some []
 | d::ds=>match F [d],qau F ds with
  | .ok k,some ks=>match qkv k with
   | some k=>some (k::ks)
   | none=>none
  | _,_=>none
def qcJ (F:List D->R D) (f:M D):M D:=bnd f fun d U=>match d with
 | .lst ds=>if ds.length<64 then match qau F ds with
   | some ks => .ok (.lst (qeQ (Srt.ord (zn ks)) ds),U)
   | none => .bad
  else .bad
 | _ => .bad
theorem qbj {F:List D->R D} {d:D} {ds:List D} {ks:List yk} (h:qau F (d::ds)=some ks):∃ k k3 ks',F [d] = .ok k/\qkv k=some k3/\qau F ds=some ks'/\ks=k3::ks':=by
 unfold qau at h
 split at h
 ·rename_i k ks' e1 e2
  split at h
  ·rename_i k3 e3
   cases h
   exact ⟨k,k3,ks',e1,e3,e2,rfl⟩
  ·cases h
 ·cases h
theorem qcK {F:List D->R D}:∀ {ds:List D} {ks:List yk},qau F ds=some ks->ks.length=ds.length
 | [],ks,h=>by cases h;rfl
 | d::ds,ks,h=>by
  obtain ⟨k,k3,ks',_,_,e,rfl⟩:=qbj h
  rw [lC_,lC_,qcK e]
theorem qcL {F:List D->R D}:∀ {ds:List D} {ks:List yk} {i:Nat} {d:D} {k:yk},qau F ds=some ks->ds[i]? = some d->ks[i]? = some k->∃ e,F [d] = .ok e/\qkv e=some k
 | [],_,_,_,_,_,h,_=>by simp at h
 | d0::ds,ks,i,d,k,h,h1,h2=>by
  obtain ⟨e0,k0,ks',a1,a2,a3,rfl⟩:=qbj h
  cases i with
  | zero =>
   have b1:d0=d:=by simpa using h1
   have b2:k0=k:=by simpa using h2
   subst b1 b2
   exact ⟨_,a1,a2⟩
  | succ i=>exact qcL a3 (by simpa using h1) (by simpa using h2)
theorem qnH {K:Fr0} {A:Addr->Prop} {H:Hp} {d:D} {k:yk} {v:V} (e:qkv d=some k) (h:Is K A H d v):KAt K H k v:=by
 unfold qkv at e
 split at e
 ·rename_i a b ts
  split at e
  ·rename_i ns hns
   cases e
   obtain ⟨p,xs,rfl,tp,il⟩:=h
   obtain ⟨x1,y1,rfl,i1,il⟩:=il
   obtain ⟨x2,y2,rfl,i2,il⟩:=il
   obtain ⟨x3,y3,rfl,i3,il⟩:=il
   have il':y3=[]:=il
   subst il'
   have i1':x1=V.int a:=i1
   have i2':x2=V.int b:=i2
   subst i1' i2'
   obtain ⟨q,zs,rfl,tq,iz⟩:=i3
   rw [y9 iz hns] at tq
   exact ⟨p,q,rfl,tp,tq⟩
  ·cases e
 ·cases e
section
variable {X:Cx} {c:Fc} {e:Expr} {p pos kpos p2:Pos} {x:Str} {k:Nat}
theorem qhU {j:Nat} {F:List D->R D} {y:Str} {f:M D} (he:DE X c e f) (C:zD X.prog X.w X.K X.mg X.base k x [y] (spD X.K F)) (hr:yo j X.A) (hg:Gl X "sorted") (hm:X.mg "sorted"=none)
  (hk:k+2<=j:=by decide) (hgx:Gl X x:=by rfl) (hdx:(x==("__debug__":Str))=false:=by decide)
  (hst:starEach [e] X.env=(false,eval e X.env)::starEach [] X.env:=by rfl) (hpl:((backTo pos (starEach [e] X.env)).any (·.1)||(backToKw pos (keywordEach [⟨some "key",.Name x p2,kpos⟩] X.env)).any (·.1.isNone))=false:=by rfl) :
  DE X c (.Call (.Name "sorted" p) [e] [⟨some "key",.Name x p2,kpos⟩] pos) (qcJ F f):=by
 obtain ⟨te,pe,we⟩:=he
 obtain ⟨fa,fd,G,m,kk,b⟩:=C.ex
 refine ⟨_,qgh (qeS G b (hr.mono hk)) hg hm rfl (jz pe vb hst) (qju (qbq (v := .ref fa) hgx m rfl hdx) qlp) (he:=hst) (hpl:=hpl),fun U Z H Q r h => ?_⟩
 refine we U Z H _ r (Wp.bnd h fun d U1 v H1 r1 i1 g1 h1 => ?_)
 cases d<;>try exact h1.elim
 rename_i ds
 by_cases h64:ds.length<64
 case neg=>simp only [h64,if_false] at h1;exact h1.elim
 simp only [h64,if_true] at h1
 cases hks:qau F ds with
 | none=>simp only [hks] at h1;exact h1.elim
 | some ks =>
  simp only [hks] at h1
  have hl:=qcK hks
  obtain ⟨a,ys,rfl,hA,ta,il⟩:=i1
  have hyl:=il.length
  refine ⟨a,ys,ks,rfl,rfl,.inl (.inl ta),by omega,by omega,fun i y' k' hy hki H' sm' => ?_,fun H' p' sm' hp => ?_⟩
  ·have hi:i<ds.length:=by rw [<- hyl];exact (gI_.mp hy).1
   obtain ⟨z,e1,e2⟩:=il.get (gG hi)
   rw [hy] at e1;cases e1
   obtain ⟨e',eg,et⟩:=qcL hks (gG hi) hki
   have r2:=r1.same sm'
   refine ⟨[ds[i]],Cn c Z,⟨y',[],rfl,Is.ext (Ext.of_same sm') (fun _ h _=>h) e2,rfl⟩,r2.tb,?_⟩
   rw [eg]
   exact fun v' H3 sm3 i3=>⟨qnH et i3,sm3⟩
  ·have r3:=r1.same sm'
   have hpl:∀ i∈Srt.ord (zn ks),i<ds.length:=fun i hi=>by
    have:=(Srt.ord_perm (zn ks)).mem_iff.mp hi
    rw [jG] at this
    rw [<- hl];exact mR_.mp this
   have ip:=IsL.pick (IsL.ext (Ext.of_same sm') (fun _ h _=>h) il) (Srt.ord (zn ks)) hpl
   have smA:zQ H1 (upd H' p' (.lst ((Srt.ord (zn ks)).map fun i=>ys.getD i .non))):=fun b o q=>qB hp _ b o (sm' b o q)
   exact h1 _ _ (r3.laid hp _) ⟨p',_,rfl,r3.new hp,qv,IsL.ext (Ext.of_same (qB hp _)) (fun _ h _=>h) ip⟩ (.of_same smA)
theorem qhV {F:List D->R D} {f:M D} {U U1:Env} {ds:List D} {ks:List yk} (h:f U = .ok (.lst ds,U1)) (h64:ds.length<64) (hk:qau F ds=some ks):qcJ F f U = .ok (.lst (qeQ (Srt.ord (zn ks)) ds),U1):=by
 unfold qcJ bnd
 simp only [h,h64,if_true,hk]
end
end L2.Sk
namespace L2.Sk
namespace Law
open PySem PySem.Spec PyProof.Rows
set_option maxHeartbeats 4000000
theorem qi1 (ds:List D) (r:Env):zt 0 (some (.lst ds)::r)=some ds:=rfl
theorem qi2 (i:Nat) (o:Option D) (r:Env):zt (i+1) (o::r)=zt i r:=rfl
theorem ix0 (a b c:D):ixD (.tup [a,b,c]) (.int 0)=some a:=rfl
theorem ix1 (a b c:D):ixD (.tup [a,b,c]) (.int 1)=some b:=rfl
theorem ix2 (a b c:D):ixD (.tup [a,b,c]) (.int 2)=some c:=rfl
theorem qdm (i j:Int):neB (.int i) (.int j)=some (.bl (!decide (i=j))):=rfl
theorem yW (i j:Int):eqB (.int i) (.int j)=some (.bl (decide (i=j))):=rfl
theorem qav (ds:List D):qc9 (tyD (.tup ds)) "tuple"=true:=rfl
theorem yS (ds:List D):qb9 [.tup ds]=some (.int ds.length):=rfl
theorem qgp (d:D):isN d .non=some (.bl (uF d)):=rfl
theorem qdn (d:D):qhi d .non=some (.bl (!uF d)):=rfl
theorem qaw (i j:Int):gtD (.int i) (.int j)=some (.bl (decide (j<i))):=rfl
theorem qgq (i j:Int):ltD (.int i) (.int j)=some (.bl (decide (i<j))):=rfl
theorem v6 (i j:Int):leD (.int i) (.int j)=some (.bl (decide (i<=j))):=rfl
local macro_rules | `(tactic| push_cast [$xs,*]) => `(tactic| simp only [yf, qdd, qoa, yV, qaq, qdS, qiG, qnv, qnw, qar, vC, qiH, qka, wA, qdT, qiI, qfS, qiJ, ql7, qiK, ql8, qhB, qa7, vE, qfT, vm, qiM, qiN, qfU, yG, qcy, qfV, qfW, qas, qfX, qfY, qfZ, qf0, qf1, qiO, vF, ql9, qbE, lC_, lN_, mC_, List.map_nil, List.replicate, List.nil_append, List.cons_append, List.append_nil, List.getElem?_cons_zero, List.getElem?_cons_succ, List.set_cons_zero, List.set_cons_succ, Nat.reduceAdd, Nat.reduceSub, Nat.sub_self, Nat.zero_add, reduceIte, Bool.not_true, Bool.not_false, Bool.false_eq_true, if_true, if_false, ite_true, ite_false, cond_true, cond_false, decide_true, decide_false, ix0, ix1, ix2, qav, yS, qdm, yW, qgp, qdn, qaw, qgq, v6, qi1, qi2, ul, qd4, qd5, qiX, qbL, qf2, $xs,*])
theorem v7 {n p:Nat} {body:MS} {ds:List D} {d:D} (h:ds.length=p) (e:∃ U,body (yf n ds) = .ok (.rt d U)):dfn n p body ds = .ok d:=by
 obtain ⟨U,e⟩:=e
 exact qkb h e
def qkw:D->Bool
 | .int _=>true
 | _=>false
def jk:D->Bool
 | .int i=>decide (0<=i)
 | _=>false
def qgr:D->Bool
 | .int i=>decide (0<i)
 | _=>false
def vd:D->Bool
 | .tup [a,b,c]=>qgr a&&jk b&&(uF c||jk c)
 | _=>false
theorem qoR {ds:List D} (h:ds.length=3):∃ a b c,ds=[a,b,c]:=by
 match ds,h with
 | [a,b,c],_=>exact ⟨a,b,c,rfl⟩
theorem qeT {ds:List D} (h:ds.length≠3):vd (.tup ds)=false:=by
 match ds,h with
 | [],_=>rfl
 | [_],_=>rfl
 | [_,_],_=>rfl
 | [a,b,c],h=>exact absurd rfl h
 | _::_::_::_::_,_=>rfl
theorem qp {p q:MS} {U U':Env} (h:p U = .ok (.nx U')):qR p q U=q U':=by rw [qiL,h]
theorem qbk {p q:MS} {U U':Env} {d:D} (h:p U = .ok (.rt d U')):qR p q U = .ok (.rt d U'):=by rw [qiL,h]
theorem qmu {e:M D} {f:D->D}:∀ (ds acc:List D) (o:Option D),(∀ d∈ds,e [some d] = .ok (f d,[some d]))->acc.length+ds.length<=1000->∃ U',zB (qi 0) (ret true) e ds acc [o] = .ok (acc++ds.map f,U')
 | [],acc,o,_,_=>⟨[o],by simp [zB]⟩
 | d::ds,acc,o,h,hl=>by
  have hl':acc.length+(ds.length+1)<=1000:=hl
  obtain ⟨U',q⟩:=qmu ds (acc++[f d]) (some d) (fun x hx=>h x (mM _ hx)) (by rw [lA_,List.length_singleton];omega)
  refine ⟨U',?_⟩
  unfold zB
  simp only [qi,List.set_cons_zero,ret,h d mS_,zh (show acc.length+1<=1000000 by omega),if_true,q]
  simp
theorem qcM (f:D->Bool):∀ ds:List D,yD (ds.map fun d=>D.bl (f d))=some (ds.map f)
 | []=>rfl
 | d::ds=>by simp [yD,qcM f ds]
theorem all_map {ds:List D} {f:D->Bool}:qe5 [.lst (ds.map fun d=>D.bl (f d))]=some (.bl (ds.all f)):=by
 simp only [qe5,qcM,Option.map_some]
 congr 2
 rw [List.all_map]
 rfl
theorem qkx {F:List D->R D} {f:D->Bool} {xs:M (List D)} {ds:List D} {U:Env} (hx:xs U = .ok (ds,U)) (hF:∀ d∈ds,F [d] = .ok (.bl (f d))) (hl:ds.length<=1000) :
  qE qe5 (qa (qV 1 [] none xs (qi 0) (ret true) (qo F (qa (dv 0) (ret [])))) (ret [])) U = .ok (.bl (ds.all f),U):=by
 obtain ⟨U',q⟩:=qmu (e:=qo F (qa (dv 0) (ret []))) (f:=fun d=>D.bl (f d)) ds [] none (fun x hm=>by push_cast [];rw [hF x hm]) (by simpa using hl)
 have q':zB (qi 0) (ret true) (qo F (qa (dv 0) (ret []))) ds [] (jM 1 [] U) = .ok ([]++ds.map fun d=>D.bl (f d),U'):=q
 simp only [qar,yV,qbD,hx,q',qdd,List.nil_append,all_map]
 rfl
def yI:D->Bool
 | .tup ds=>decide (ds.length<=12)&&ds.all vd
 | _=>false
def leI:D->D->Bool
 | .int i,.int j=>decide (i<=j)
 | _,_=>false
def qnI (k x:D):Bool:=match k with
 | .tup [_,_,m]=>jk x&&(uF m||leI x m)
 | _=>false
def qeb:List D->List D->Bool
 | k::ks,x::xs=>qnI k x&&qeb ks xs
 | _,_=>true
def qok:D->D->Bool
 | .tup xs,.tup ks=>decide (xs.length=ks.length)&&qeb ks xs
 | _,_=>false
theorem qec:∀ bs:List Bool,yD (bs.map D.bl)=some bs
 | []=>rfl
 | b::bs=>by simp [yD,qec bs]
theorem qi3 {ds:List D} {i:Nat} {d:D} (h:ds[i]? = some d):ixD (.tup ds) (.int (i:Nat))=some d:=by
 have hi:i<ds.length:=(gI_.mp h).1
 show atI ds (i:Int)=some d
 unfold atI ixN
 rw [if_pos (by omega),if_pos (by omega)]
 simpa using h
theorem uo {l:M (List D)} {U U1:Env} {j:Int} (e:l U = .ok ([.int j],U1)) (h0:0<=j) (h:j<=1000000):z5 l U = .ok (qaS 0 j.toNat,U1):=by
 have h1:(-(2 ^ 62)<=j):=by omega
 have h2:(j<2 ^ 62):=by omega
 have e2:qiy [.int j]=some (qaS 0 j.toNat):=by
  simp only [qiy,h1,h2,decide_true,Bool.and_self,if_true]
 have e3:z5 l U=lift (qiy [.int j]) U1:=by
  show bnd l (fun ds=>lift (qiy ds)) U=_
  rw [qnu,e]
 rw [e3,e2]
 rfl
theorem qgs {n m:Int} (h0:0<m) (h1:m<1606938044258990275541962092341162602522202993782792835301376):qae [.int n,.int m]=some (.tup [.int (n/m),.int (n%m)]):=by
 simp only [qae,qeC,h0,h1,decide_true,Bool.and_self,if_true]
theorem at0 (d:D) (r:List D):atI (d::r) 0=some d:=by
 unfold atI ixN
 rw [if_pos (by omega),if_pos (by simp)]
 rfl
theorem qoS:ixN 1 0=some 0:=by decide
theorem zx (i j:Int):ze (.int i) (.int j)=some (.int (i+j)):=rfl
theorem qbP (i j:Int):qc5 (.int i) (.int j)=some (.int (i-j)):=rfl
theorem qgt {ds:List D} {k:Int} (h0:0<=k) (h1:k<ds.length):∃ d∈ds,ixD (.lst ds) (.int k)=some d:=by
 obtain ⟨i,rfl⟩:=Int.eq_ofNat_of_zero_le h0
 have hi:i<ds.length:=by omega
 refine ⟨ds[i],List.getElem_mem hi,?_⟩
 show atI ds (i:Int)=_
 unfold atI ixN
 rw [if_pos (by omega),if_pos (by omega)]
 show ds[(i:Int).toNat]? = _
 rw [Int.toNat_natCast,gG hi]
theorem qoT (i:Int):yj (.int 2) (.int i)=some (.int (2*i)):=by
 have h:qc7 2 i=true:=by
  unfold qc7
  have:yB 2=true:=by decide
  rw [this];rfl
 simp only [yj,h,if_true]
def qhW (c m:D):Prop:=m=c\/∃ j,m = .int j/\0<=j/\j<=5
def uq (k:D):Prop:=∃ a b m,k = .tup [.int a,.int b,m]/\1<=a/\a<=25/\0<=b/\b<=39/\qhW .non m
theorem uq.imm {k:D} (h:uq k):imm k=true:=by
 obtain ⟨a,b,m,rfl,_,_,_,_,hm⟩:=h
 rcases hm with rfl | ⟨j,rfl,_⟩<;>rfl
theorem uq.lay {k:D} (h:uq k):(zw k).canLay0=true/\(zw k).depth=1:=by
 obtain ⟨a,b,m,rfl,_,_,_,_,hm⟩:=h
 rcases hm with rfl | ⟨j,rfl,_⟩<;>exact ⟨rfl,rfl⟩
theorem qi4:∀ ks:List D,(∀ k∈ks,uq k)->PyData.canLayAll0 (toPDs ks)=true/\PyData.depthAll (toPDs ks)<=1
 | [],_=>⟨rfl,Nat.zero_le _⟩
 | k::ks,h=>by
  obtain ⟨h1,h2⟩:=qi4 ks fun x hx=>h x (mM _ hx)
  obtain ⟨g1,g2⟩:=(h k mS_).lay
  unfold toPDs
  simp only [PyData.canLayAll0,PyData.depthAll,h1,g1,g2,Bool.and_self,true_and]
  omega
theorem qdo {ks:List D} (h:∀ k∈ks,uq k):∃ b,neA (.lst ks) (.lst [])=some (.bl b)/\(b=true->ks≠[]):=by
 obtain ⟨h1,h2⟩:=qi4 ks h
 have e1:u9 (.lst ks)=true:=by
  have e:u9 (.lst ks)=(PyData.canLayAll0 (toPDs ks)&&decide (PyData.depthAll (toPDs ks)+1<=50)):=by
   simp only [u9,zw,PyData.canLay0,PyData.depth]
  rw [e,h1,Bool.true_and,decide_eq_true_eq]
  omega
 have e2:u9 (.lst [])=true:=rfl
 refine ⟨!PyData.eqv (zw (.lst ks)) (zw (.lst [])),by simp only [neA,e1,e2,Bool.and_self,if_true],fun hb hn => ?_⟩
 subst hn
 exact absurd hb (by decide)
theorem qmv {ds:List D} {k:Int} (h0:0<=k) (h1:k<ds.length):∃ d∈ds,atI ds k=some d:=by
 obtain ⟨d,hd,e⟩:=qgt h0 h1
 exact ⟨d,hd,e⟩
theorem qhX (j:Nat):(qaS 0 j).length=j:=by simp [qaS]
theorem uZ {i j:Int} (h:0<j):qis (.int i) (.int j)=some (.int (i%j)):=by
 simp only [qis,qhg,h,decide_true,if_true]
theorem ue {i j:Int} (h:0<j) (h1:j<1606938044258990275541962092341162602522202993782792835301376):y8 (.int i) (.int j)=some (.int (i/j)):=by
 simp only [y8,qhg,qeC,h,h1,decide_true,Bool.and_self,if_true]
theorem qdp {i j:Int} (h:yB i=true):yj (.int i) (.int j)=some (.int (i*j)):=by
 simp only [yj,qc7,h,Bool.true_or,if_true]
theorem qhY {i j:Int} (h:yB j=true):yj (.int i) (.int j)=some (.int (i*j)):=by
 simp only [yj,qc7,h,Bool.or_true,if_true]
theorem v8 {i:Int} (h0:0<=i) (h1:i<2000000000):yB i=true:=by
 unfold yB
 rw [Bool.and_eq_true,decide_eq_true_eq,decide_eq_true_eq]
 constructor<;>omega
def facts:List Int:=[48271,69621,16807,39373,30269,40014,40692,50021,61687,71993,83869,95561,30307]
structure qkR (w e:Nat) (d:D):Prop where
 lv:(zw d).leavesShort 40=true
 sh:(zw d).showable=true
 wt:(zw d).weight<=w
 dp:(zw d).depth<=e
theorem qed {w e:Nat}:∀ ds:List D,(∀ d∈ds,qkR w e d)->PyData.leavesShortAll 40 (toPDs ds)=true/\PyData.showableAll (toPDs ds)=true/\PyData.weightAll (toPDs ds)<=ds.length*(w+1)/\PyData.depthAll (toPDs ds)<=e
 | [],_=>⟨rfl,rfl,Nat.zero_le _,Nat.zero_le _⟩
 | d::ds,h=>by
  obtain ⟨h1,h2,h3,h4⟩:=qed ds fun x hx=>h x (mM _ hx)
  have g:=h d mS_
  have g3:=g.wt
  have g4:=g.dp
  simp only [toPDs,PyData.leavesShortAll,PyData.showableAll,PyData.weightAll,PyData.depthAll,h1,h2,g.lv,g.sh,Bool.and_self,true_and,lC_,Nat.succ_mul]
  omega
theorem qhZ {w e n:Nat} {ds:List D} (h:∀ d∈ds,qkR w e d) (hl:ds.length<=n):qkR (n*(w+1)) (e+1) (.tup ds):=by
 obtain ⟨h1,h2,h3,h4⟩:=qed ds h
 refine ⟨?_,?_,?_,?_⟩
 ·simp only [zw,PyData.leavesShort,h1]
 ·simp only [zw,PyData.showable,h2]
 ·simp only [zw,PyData.weight]
  exact Nat.le_trans h3 (Nat.mul_le_mul_right _ hl)
 ·simp only [zw,PyData.depth]
  omega
def dl (d:D):Bool := !(zw d).hasDict||noL d
def plain (d:D):Bool := !(zw d).hasDict&&noL d
def dlL (ds:List D):Bool := !PyData.hasDictAll (toPDs ds)||noLs ds
theorem qgu {w e:Nat} {d:D} (h:qkR w e d) (hw:w<=100000) (he:e<=50) (hd:dl d=true):qam d=true:=by
 have h1:=PyData.shown_le 40 (by omega) _ h.lv
 have h2:(40+2)*(zw d).weight<=42*100000:=Nat.mul_le_mul_left _ (Nat.le_trans h.wt hw)
 have h3:=h.dp
 have e1:(zw d).shown.length<=sizeLine:=by rw [PySem.sizeLine_eq];omega
 have e2:(zw d).depth<=50:=by omega
 unfold dl at hd
 simp only [qam,h.sh,e1,e2,decide_true,Bool.true_and,hd]
theorem qcN:∀ xs:List D,(∀ d∈xs,plain d=true)->PyData.hasDictAll (toPDs xs)=false/\noLs xs=true
 | [],_=>⟨rfl,rfl⟩
 | x::xs,h=>by
  obtain ⟨h1,h2⟩:=qcN xs fun y hy=>h y (mM _ hy)
  have g:=h x mS_
  unfold plain at g
  rw [Bool.and_eq_true,Bool.not_eq_true'] at g
  simp [toPDs,PyData.hasDictAll,noLs,h1,h2,g.1,g.2]
theorem qmw (ds:List D):dl (.tup ds)=dlL ds:=by
 simp only [dl,dlL,zw,PyData.hasDict,noL]
theorem neg_int (i:Int):qcv (.int i)=some (.int (-i)):=rfl
theorem qbQ {xs ys:List D} (h:xs.length+ys.length<=1000000):ze (.lst xs) (.lst ys)=some (.lst (xs++ys)):=by
 simp only [ze,zh h,if_true]
theorem wP {xs ys:List D} (h:xs.length+ys.length<=1000000):ze (.tup xs) (.tup ys)=some (.tup (xs++ys)):=by
 simp only [ze,zh h,if_true]
def pt (p:Int):D->Int
 | .tup [.int a,.int b,_]=>if p=0 then a else b
 | _=>0
def num:D->Int
 | .int x=>x
 | _=>0
def qnJ (p:Int):List D->List D->List Int
 | k::ks,x::xs=>(pt p k*num x)::qnJ p ks xs
 | _,_=>[]
theorem vK:∀ ns:List Int,u8 (ns.map D.int)=some ns
 | []=>rfl
 | n::ns=>by simp [u8,vK ns]
theorem qee {i:Int} (h:i.natAbs<10 ^ 39):qkR 130 0 (.int i):=by
 have hl:i.natAbs.log2<130:=by
  by_cases h0:i.natAbs=0
  ·rw [h0];decide
  ·refine (Nat.log2_lt h0).mpr (Nat.lt_of_lt_of_le h (by decide +kernel))
 refine ⟨?_,?_,?_,Nat.le_refl _⟩
 ·show decide ((PyData.shown (.int i)).length<=40)=true
  refine decide_eq_true ?_
  have e:=int_text_length_le10 (k:=39) (by decide) h
  show (Str.ofString (toString i)).length<=40
  rw [PySem.ofString_length]
  exact e
 ·show decide (i.natAbs.log2<1920)=true
  exact decide_eq_true (by omega)
 ·show (if (i==0)=true then 0 else i.natAbs.log2+1)<=130
  split<;>omega
theorem qh0 {i:Int} (h:i.natAbs<10 ^ 39):jL [.int i]=some (.str (PyData.shown (.int i))):=by
 have:qam (.int i)=true:=qgu (qee h) (by omega) (by omega) rfl
 simp only [jL,this,if_true];rfl
theorem qeU (xs:List D):qaf [.lst xs]=some (.tup xs):=rfl
theorem qgv (x:Str):neB (.str x) (.str x)=some (.bl false):=by
 show some (D.bl (!decide (x=x)))=_
 rw [decide_eq_true rfl];rfl
theorem qnK {F:List D->R D} {f g h:M D} {U:Env} {a b c d:D} (hf:f U = .ok (a,U)) (hg:g U = .ok (b,U)) (hh:h U = .ok (c,U)) (e:F [a,b,c] = .ok d):qo F (qa f (qa g (qa h (ret [])))) U = .ok (d,U):=by
 have e1:qa h (ret []) U = .ok ([c],U):=by rw [yV,hh];rfl
 have e2:qa g (qa h (ret [])) U = .ok ([b,c],U):=by rw [yV,hg];dsimp only;rw [e1]
 have e3:qa f (qa g (qa h (ret []))) U = .ok ([a,b,c],U):=by rw [yV,hf];dsimp only;rw [e2]
 rw [vC,e3]
 dsimp only
 rw [e]
theorem uG {F:List D->Option D} {f:M D} {U:Env} {a d:D} (hf:f U = .ok (a,U)) (e:F [a]=some d):qE F (qa f (ret [])) U = .ok (d,U):=by
 have e0:qa f (ret []) U = .ok ([a],U):=by rw [yV,hf];rfl
 rw [qar,e0]
 dsimp only
 rw [e]
theorem qgw {xs:List D} (h:∀ x∈xs,x = .non\/∃ v:Int,x = .int v/\v.natAbs<10 ^ 39) (hl:xs.length<=12):jL [.tup xs]=some (.str (zw (.tup xs)).shown):=by
 have hn:qkR (12*131) 1 (.tup xs):=qhZ (fun d hd=>by
  rcases h d hd with rfl | ⟨v,rfl,hv⟩
  ·exact ⟨rfl,rfl,Nat.zero_le _,Nat.zero_le _⟩
  ·exact qee hv) hl
 have hp:=qcN xs fun d hd=>by
  rcases h d hd with rfl | ⟨v,rfl,hv⟩<;>rfl
 have:qam (.tup xs)=true:=qgu hn (by omega) (by omega) (by rw [qmw];unfold dlL;rw [hp.1];rfl)
 simp only [jL,this,if_true]
theorem qef (i j:Int):vi [.int i,.int j]=some (.int (if j<i then j else i)):=rfl
theorem qh1 (i j:Int):qbw [.int i,.int j]=some (.int (if j>i then j else i)):=rfl
theorem sl_tup (xs:List D) (a b:Option Int):slD (.tup xs) a b=some (.tup (qe6 xs a b)):=rfl
theorem qnL:qdR (.int 10) (.int 20)=some (.int 100000000000000000000):=by
 have h:qhA 10 20=true:=by decide +kernel
 have e:(10:Int) ^ (20:Int).toNat=100000000000000000000:=by decide +kernel
 simp only [qdR,qhg,h,if_true,e]
theorem qky {α:Type} {e:M D} {t:M Bool} {k f:α->D} {p:α->Bool} {r:Env}:∀ (as:List α) (acc:List D) (o:Option D),(∀ a∈as,t (some (k a)::r) = .ok (p a,some (k a)::r))->(∀ a∈as,p a=true->e (some (k a)::r) = .ok (f a,some (k a)::r))->acc.length+as.length<=1000000 ->
  ∃ o',zB (qi 0) t e (as.map k) acc (o::r) = .ok (acc++(as.filter p).map f,o'::r)
 | [],acc,o,_,_,_=>⟨o,by simp [zB]⟩
 | a::as,acc,o,ht,he,hl=>by
  have hl':acc.length+(as.length+1)<=1000000:=hl
  have h1:=ht a mS_
  rw [mC_]
  unfold zB
  simp only [qi,List.set_cons_zero,h1]
  cases hp:p a with
  | false =>
   obtain ⟨o',q⟩:=qky as acc (some (k a)) (fun x hx=>ht x (mM _ hx)) (fun x hx=>he x (mM _ hx)) (by omega)
   refine ⟨o',?_⟩
   simp only [q,ft_,hp,Bool.false_eq_true,if_false]
  | true =>
   obtain ⟨o',q⟩:=qky as (acc++[f a]) (some (k a)) (fun x hx=>ht x (mM _ hx)) (fun x hx=>he x (mM _ hx)) (by rw [lA_,List.length_singleton];omega)
   refine ⟨o',?_⟩
   simp only [he a mS_ hp,zh (show acc.length+1<=1000000 by omega),if_true,q,ft_,hp,mC_,aA_,List.singleton_append]
theorem qax {α:Type} {e:M D} {t:M Bool} {k:α->D} {xs:M (List D)} {U r:Env} {fr:List Nat} (as:List α) (p:α->Bool) (f:α->D) (hx:xs U = .ok (as.map k,U)) (hr:jM 1 fr U=none::r) (hl:as.length<=1000000)
  (ht:∀ a∈as,t (some (k a)::r) = .ok (p a,some (k a)::r)) (he:∀ a∈as,p a=true->e (some (k a)::r) = .ok (f a,some (k a)::r)):qV 1 fr none xs (qi 0) t e U = .ok (.lst ((as.filter p).map f),U):=by
 obtain ⟨o',q⟩:=qky as [] none ht he (by simpa using hl)
 rw [qbD,hx]
 simp only [hr,q,List.nil_append]
 rfl
theorem vn {α:Type} (as:List α):as.filter (fun _=>true)=as:=by simp
theorem qbl {α:Type} {e:M D} {k:α->D} {xs:M (List D)} {U r:Env} {fr:List Nat} (as:List α) (f:α->D) (hx:xs U = .ok (as.map k,U)) (hr:jM 1 fr U=none::r) (hl:as.length<=1000000)
  (he:∀ a∈as,e (some (k a)::r) = .ok (f a,some (k a)::r)):qV 1 fr none xs (qi 0) (ret true) e U = .ok (.lst (as.map f),U):=by
 rw [qax as (fun _=>true) f hx hr hl (fun _ _=>rfl) fun a ha _=>he a ha,vn]
theorem yJ {α β:Type} {G:D->Env->Option Env} {b:MS} {k:α->D} {step:β->α->β} {Inv:Nat->β->Env->Prop}:∀ (as:List α) (n:Nat) (s:β) (U:Env),Inv n s U ->
  (∀ a∈as,∀ m s U,n<=m->m<n+as.length->Inv m s U->∃ U1 U2,G (k a) U=some U1/\b U1 = .ok (.nx U2)/\Inv (m+1) (step s a) U2) ->
  ∃ U',ua G b (as.map k) U = .ok (.nx U')/\Inv (n+as.length) (as.foldl step s) U'
 | [],n,s,U,h,_=>⟨U,rfl,h⟩
 | a::as,n,s,U,h,H=>by
  obtain ⟨U1,U2,h1,h2,h3⟩:=H a mS_ n s U (Nat.le_refl _) (by rw [lC_];omega) h
  obtain ⟨U',q,w⟩:=yJ as (n+1) (step s a) U2 h3 fun x hx m s U m1 m2=>H x (mM _ hx) m s U (by omega) (by rw [lC_];omega)
  refine ⟨U',?_,?_⟩
  ·rw [mC_]
   unfold ua
   simp only [h1,h2]
   exact q
  ·rw [lC_,show n+(as.length+1)=n+1+as.length by omega]
   exact w
theorem yQ {f:M D} {U:Env} {a:D} (hf:f U = .ok (a,U)):qa f (ret []) U = .ok ([a],U):=by rw [yV,hf];rfl
theorem qay {f g:M D} {U:Env} {a b:D} (hf:f U = .ok (a,U)) (hg:g U = .ok (b,U)):qa f (qa g (ret [])) U = .ok ([a,b],U):=by rw [yV,hf];simp only [yQ hg]
theorem qnM {f g h:M D} {U:Env} {a b c:D} (hf:f U = .ok (a,U)) (hg:g U = .ok (b,U)) (hh:h U = .ok (c,U)):qa f (qa g (qa h (ret []))) U = .ok ([a,b,c],U):=by rw [yV,hf];simp only [qay hg hh]
theorem qnN {f g:M D} {U:Env} {a b:D} (hf:f U = .ok (a,U)) (hg:g U = .ok (b,U)):zW (qa f (qa g (ret []))) U = .ok (.tup [a,b],U):=by rw [qaq,qay hf hg];simp only [lC_,lN_,zh (show 0+1+1<=1000000 by omega),if_true]
theorem qnO {f g h:M D} {U:Env} {a b c:D} (hf:f U = .ok (a,U)) (hg:g U = .ok (b,U)) (hh:h U = .ok (c,U)):zW (qa f (qa g (qa h (ret [])))) U = .ok (.tup [a,b,c],U):=by rw [qaq,qnM hf hg hh];simp only [lC_,lN_,zh (show 0+1+1+1<=1000000 by omega),if_true]
theorem ve {F:List D->R D} {f:M D} {U:Env} {a d:D} (hf:f U = .ok (a,U)) (e:F [a] = .ok d):qo F (qa f (ret [])) U = .ok (d,U):=by rw [vC,yQ hf];simp only [e]
theorem qi5 {F:List D->R D} {f g:M D} {U:Env} {a b d:D} (hf:f U = .ok (a,U)) (hg:g U = .ok (b,U)) (e:F [a,b] = .ok d):qo F (qa f (qa g (ret []))) U = .ok (d,U):=by rw [vC,qay hf hg];simp only [e]
theorem qq {F:D->D->Option D} {f g:M D} {U:Env} {a b d:D} (hf:f U = .ok (a,U)) (hg:g U = .ok (b,U)) (e:F a b=some d):d2 F f g U = .ok (d,U):=by rw [qnv,hf];simp only [hg,e]
theorem j8 {f:M D} {U:Env} {b:Bool} (hf:f U = .ok (.bl b,U)):tst f U = .ok (b,U):=by rw [qka,hf];rfl
theorem qkS {t:M Bool} {p q:MS} {U:Env} (h:t U = .ok (true,U)):sif t p q U=p U:=by rw [qhB,h];rfl
theorem qkT {t:M Bool} {p q:MS} {U:Env} (h:t U = .ok (false,U)):sif t p q U=q U:=by rw [qhB,h];rfl
theorem qgx {i:Nat} {f:M D} {U:Env} {ds:List D} {d:D} (h:zt i U=some ds) (hf:f U = .ok (d,U)) (hi:imm d=true) (hl:ds.length<1000000):ye (jj i f) U = .ok (.nx (U.set i (some (.lst (ds++[d]))))):=by
 simp only [vm,vF,h,hf,hi,zh (show ds.length+1<=1000000 by omega),Bool.and_self,if_true]
theorem qaz {G:D->Env->Option Env} {b:MS} {d:D} {ds:List D} {U U1 U2:Env} (h1:G d U=some U1) (h2:b U1 = .ok (.nx U2)):ua G b (d::ds) U=ua G b ds U2:=by
 show (match G d U with | none=>R.bad | some U1=>_)=_
 rw [h1]
 simp only [h2]
theorem io1 {F:List D->List D->R (D×List D)} {i:Nat} {f:M D} {U:Env} {ds ds':List D} {a d:D} (h:zt i U=some ds) (hf:f U = .ok (a,U)) (e:F ds [a] = .ok (d,ds')):qk F i (qa f (ret [])) U = .ok (d,U.set i (some (.lst ds'))):=by
 simp only [qas,h,yQ hf,e]
def mD:Option Int->D
 | none => .non
 | some j => .int j
abbrev Kd:=Int×Int×Option Int
def kD (x:Kd):D := .tup [.int x.1,.int x.2.1,mD x.2.2]
theorem qbR {α:Type} {f:α->D}:∀ {as:List α},(∀ a∈as,imm (f a)=true)->immL (as.map f)=true
 | [],_=>rfl
 | a::as,h=>by simp only [mC_,immL,h a mS_,qbR fun x hx=>h x (mM _ hx),Bool.and_self]
def okK (x:Kd):Prop:=0<x.1/\0<=x.2.1/\(∀ j,x.2.2=some j->0<=j)
theorem qgy {x:Kd} (h:okK x):vd (kD x)=true:=by
 obtain ⟨a,b,m⟩:=x
 obtain ⟨h1,h2,h3⟩:=h
 have e1:qgr (.int a)=true:=decide_eq_true h1
 have e2:jk (.int b)=true:=decide_eq_true h2
 cases m with
 | none=>simp only [kD,mD,vd,e1,e2,uF,Bool.true_and,Bool.true_or]
 | some j =>
  have e3:jk (.int j)=true:=decide_eq_true (h3 j rfl)
  simp only [kD,mD,vd,e1,e2,e3,Bool.true_and,Bool.or_true]
theorem qeV {ks:List Kd} (h:∀ x∈ks,okK x) (hl:ks.length<=12):yI (.tup (ks.map kD))=true:=by
 have:(ks.map kD).all vd=true:=by
  rw [List.all_map]
  exact List.all_eq_true.mpr fun x hx=>qgy (h x hx)
 simp only [yI,lM_,hl,decide_true,this,Bool.true_and]
theorem qh2 (m:Option Int):uF (mD m)=m.isNone:=by cases m<;>rfl
theorem qi6 {α:Type} {ds:List α} {n:Nat} {d:α} (h:ds[n]? = some d):atI ds (n:Int)=some d:=by
 unfold atI ixN
 have hl:=(gI_.mp h).1
 rw [if_pos (by omega),if_pos (by omega)]
 show ds[(n:Int).toNat]? = _
 rw [Int.toNat_natCast];exact h
theorem qh3 (lo:Int) (n:Nat):qaS lo n=(List.range n).map fun i=>D.int (lo+(i:Nat)):=rfl
theorem qh4 {α:Type} {as:List α} {f:α->Bool}:qe5 [.lst (as.map fun a=>D.bl (f a))]=some (.bl (as.all f)):=by
 have:yD (as.map fun a=>D.bl (f a))=some (as.map f):=by
  have:=qec (as.map f)
  rw [mm_] at this
  exact this
 simp only [qe5,this,Option.map_some]
 congr 2
 rw [List.all_map]
 rfl
theorem qh5 {α:Type} {as:List α} {f:α->Int}:qlK [.lst (as.map fun a=>D.int (f a))]=some (.int (as.map f).sum):=by
 have:u8 (as.map fun a=>D.int (f a))=some (as.map f):=by
  have:=vK (as.map f)
  rw [mm_] at this
  exact this
 simp only [qlK,this,Option.map_some]
theorem qgz {ns:List Int}:u9 (.tup (ns.map D.int))=true:=by
 have h:∀ ns:List Int,PyData.canLayAll0 (toPDs (ns.map D.int))=true/\PyData.depthAll (toPDs (ns.map D.int))=0:=fun ns=>by
  induction ns with
  | nil=>exact ⟨rfl,rfl⟩
  | cons n ns ih=>exact ⟨by simp only [mC_,toPDs,zw,PyData.canLayAll0,PyData.canLay0,ih.1,Bool.and_self],by simp only [mC_,toPDs,zw,PyData.depthAll,PyData.depth,ih.2];rfl⟩
 obtain ⟨h1,h2⟩:=h ns
 simp only [u9,zw,PyData.canLay0,PyData.depth,h1,h2]
 rfl
theorem qgA {α:Type} {e:M D} {t:M Bool} {u v f:α->D} {p:α->Bool} {r:Env}:∀ (as:List α) (acc:List D) (o o':Option D),(∀ a∈as,t (some (u a)::some (v a)::r) = .ok (p a,some (u a)::some (v a)::r))->(∀ a∈as,p a=true->e (some (u a)::some (v a)::r) = .ok (f a,some (u a)::some (v a)::r))->acc.length+as.length<=1000000 ->
  ∃ o1 o2,zB (qaN 2 (qZ (qi 0) (qZ (qi 1) qaM))) t e (as.map fun a => .tup [u a,v a]) acc (o::o'::r) = .ok (acc++(as.filter p).map f,o1::o2::r)
 | [],acc,o,o',_,_,_=>⟨o,o',by simp [zB]⟩
 | a::as,acc,o,o',ht,he,hl=>by
  have hl':acc.length+(as.length+1)<=1000000:=hl
  have h1:=ht a mS_
  rw [mC_]
  unfold zB
  have hg:qaN 2 (qZ (qi 0) (qZ (qi 1) qaM)) (.tup [u a,v a]) (o::o'::r)=some (some (u a)::some (v a)::r):=rfl
  simp only [hg,h1]
  cases hp:p a with
  | false =>
   obtain ⟨o1,o2,q⟩:=qgA as acc (some (u a)) (some (v a)) (fun x hx=>ht x (mM _ hx)) (fun x hx=>he x (mM _ hx)) (by omega)
   refine ⟨o1,o2,?_⟩
   simp only [q,ft_,hp,Bool.false_eq_true,if_false]
  | true =>
   obtain ⟨o1,o2,q⟩:=qgA as (acc++[f a]) (some (u a)) (some (v a)) (fun x hx=>ht x (mM _ hx)) (fun x hx=>he x (mM _ hx)) (by rw [lA_,List.length_singleton];omega)
   refine ⟨o1,o2,?_⟩
   simp only [he a mS_ hp,zh (show acc.length+1<=1000000 by omega),if_true,q,ft_,hp,mC_,aA_,List.singleton_append]
theorem qgB {α:Type} {e:M D} {t:M Bool} {u v:α->D} {xs:M (List D)} {U r:Env} {fr:List Nat} (as:List α) (p:α->Bool) (f:α->D) (hx:xs U = .ok (as.map fun a => .tup [u a,v a],U)) (hr:jM 2 fr U=none::none::r) (hl:as.length<=1000000)
  (ht:∀ a∈as,t (some (u a)::some (v a)::r) = .ok (p a,some (u a)::some (v a)::r)) (he:∀ a∈as,p a=true->e (some (u a)::some (v a)::r) = .ok (f a,some (u a)::some (v a)::r)):qV 2 fr none xs (qaN 2 (qZ (qi 0) (qZ (qi 1) qaM))) t e U = .ok (.lst ((as.filter p).map f),U):=by
 obtain ⟨o1,o2,q⟩:=qgA as [] none none ht he (by simpa using hl)
 rw [qbD,hx]
 simp only [hr,q,List.nil_append]
 rfl
theorem qnP (n:Nat):qaS 0 n=(List.range n).map fun i=>D.int (i:Nat):=by
 unfold qaS
 refine List.map_congr_left fun i _ => ?_
 rw [Int.zero_add]
end Law
end L2.Sk
namespace L2.Sk.Law
def qoU:Nat->(Nat->Nat)->Nat
 | 0,_=>0
 | n+1,f=>qoU n f+f n
structure Kw where
 w:Int
 v:Int
 m:Option Int
def okT (k:Kw) (t:Nat) (r:Int):Bool:=decide ((t:Int)*k.w<=r)&&(match k.m with | none=>true | some j=>decide ((t:Int)<=j))
def ofn (k:Kw) (r:Int):Nat:=(match k.m with | none=>r/k.w | some j=>if j<r/k.w then j else r/k.w).toNat
theorem qgC {k:Kw} (hw:1<=k.w) (hm:∀ j,k.m=some j->0<=j) {r:Int} (hr:0<=r) (t:Nat):okT k t r=decide (t<=ofn k r):=by
 have hd:0<=r/k.w:=Int.ediv_nonneg hr (by omega)
 have he:((t:Int)*k.w<=r) ↔ ((t:Int)<=r/k.w):=(Int.le_ediv_iff_mul_le (by omega)).symm
 unfold okT ofn
 cases hk:k.m with
 | none =>
  dsimp only
  rw [Bool.and_true,Bool.eq_iff_iff,decide_eq_true_eq,decide_eq_true_eq,he]
  omega
 | some j =>
  have hj:=hm j hk
  dsimp only
  rw [Bool.eq_iff_iff,Bool.and_eq_true,decide_eq_true_eq,decide_eq_true_eq,decide_eq_true_eq,he]
  split<;>omega
theorem qi7 {k:Kw} (hw:1<=k.w) (hm:∀ j,k.m=some j->0<=j) {r:Int} (hr:0<=r) {t:Nat} (h:t<=ofn k r):(t:Int)*k.w<=r/\(t:Int)<=r:=by
 have h1:okT k t r=true:=by rw [qgC hw hm hr];exact decide_eq_true h
 unfold okT at h1
 rw [Bool.and_eq_true,decide_eq_true_eq] at h1
 refine ⟨h1.1,Int.le_trans ?_ h1.1⟩
 have:=Int.mul_le_mul_of_nonneg_left hw (show (0:Int)<=t by omega)
 omega
def vL (k:Kw) (found:List (List Int×Int)):List (List Int×Int):=found.flatMap fun p=>(List.range (ofn k p.2+1)).map fun (t:Nat)=>(p.1++[(t:Int)],p.2-(t:Int)*k.w)
def qy:List Kw->List Int->Int
 | k::ks,t::ts=>t*k.v+qy ks ts
 | _,_=>0
def qmx (k:Kw):Prop:=1<=k.w/\∀ j,k.m=some j->0<=j
end L2.Sk.Law
namespace L2.Sk.Law
def z6:List Kw->Int->List (List Int)
 | [],_=>[[]]
 | k::ks,r=>(List.range (ofn k r+1)).flatMap fun t:Nat=>(z6 ks (r-(t:Int)*k.w)).map fun l=>(t:Int)::l
theorem qbm:∀ (ks:List Kw) (found:List (List Int×Int)),(ks.foldl (fun f k=>vL k f) found).map (·.1)=found.flatMap fun p=>(z6 ks p.2).map fun l=>p.1++l
 | [],found=>by
  simp only [List.foldl_nil,z6,mC_,List.map_nil,List.append_nil]
  induction found with
  | nil=>rfl
  | cons p found ih=>rw [mC_,fC_,ih];rfl
 | k::ks,found=>by
  rw [fo_,qbm ks (vL k found)]
  unfold vL
  rw [List.flatMap_assoc]
  congr 1
  funext p
  simp only [z6]
  rw [List.flatMap_map,List.map_flatMap]
  congr 1
  funext t
  rw [mm_]
  congr 1
  funext l
  simp
theorem qdq (ks:List Kw) (r:Int):(ks.foldl (fun f k=>vL k f) [([],r)]).map (·.1)=z6 ks r:=by
 rw [qbm]
 simp
def mxZ:List Int->Int
 | []=>0
 | a::l=>l.foldl max a
theorem qaA:∀ (l:List Int) (a:Int),a<=l.foldl max a/\(∀ x∈l,x<=l.foldl max a)/\(l.foldl max a=a\/l.foldl max a∈l)
 | [],a=>⟨Int.le_refl _,(fun _ h=>by cases h),.inl rfl⟩
 | b :: l,a=>by
  obtain ⟨h1,h2,h3⟩:=qaA l (max a b)
  rw [fo_]
  refine ⟨by omega,fun x hx => ?_,?_⟩
  ·rcases List.mem_cons.mp hx with rfl | hx
   ·omega
   ·exact h2 x hx
  ·rcases h3 with h3 | h3
   ·rw [h3]
    rcases Int.le_total a b with h | h
    ·right;rw [Int.max_eq_right h];exact mS_
    ·left;exact Int.max_eq_left h
   ·exact .inr (mM _ h3)
theorem qmy {l:List Int} {x:Int} (h:x∈l):x<=mxZ l:=by
 cases l with
 | nil=>cases h
 | cons a l =>
  obtain ⟨h1,h2,_⟩:=qaA l a
  rcases List.mem_cons.mp h with rfl | h
  ·exact h1
  ·exact h2 x h
theorem qkz {l:List Int} (h:l≠[]):mxZ l∈l:=by
 cases l with
 | nil=>exact absurd rfl h
 | cons a l =>
  rcases (qaA l a).2.2 with e | e
  ·show l.foldl max a∈_
   rw [e];exact mS_
  ·exact mM _ e
def qP:List Kw->Int->Int
 | [],_=>0
 | k::ks,r=>mxZ ((List.range (ofn k r+1)).map fun t:Nat=>(t:Int)*k.v+qP ks (r-(t:Int)*k.w))
theorem qgD {k:Kw} {ks:List Kw} {r:Int} {t:Nat} (h:t<=ofn k r):(t:Int)*k.v+qP ks (r-(t:Int)*k.w)<=qP (k::ks) r:=qmy (mP_.mpr ⟨t,mR_.mpr (by omega),rfl⟩)
theorem qkA (k:Kw) (ks:List Kw) (r:Int):∃ t,t<=ofn k r/\(t:Int)*k.v+qP ks (r-(t:Int)*k.w)=qP (k::ks) r:=by
 have h:=qkz (l:=(List.range (ofn k r+1)).map fun t:Nat=>(t:Int)*k.v+qP ks (r-(t:Int)*k.w)) (by simp)
 obtain ⟨t,ht,e⟩:=mP_.mp h
 exact ⟨t,by have:=mR_.mp ht;omega,e⟩
theorem wQ:∀ (ks:List Kw) (r:Int) (l:List Int),l∈z6 ks r->qy ks l<=qP ks r
 | [],r,l,h=>by
  have:l=[]:=ms_.mp h
  subst this
  exact Int.le_refl _
 | k::ks,r,l,h=>by
  obtain ⟨t,ht,h2⟩:=List.mem_flatMap.mp h
  obtain ⟨l',hl',rfl⟩:=mP_.mp h2
  have h3:=wQ ks _ l' hl'
  have h4:=qgD (k:=k) (ks:=ks) (r:=r) (t:=t) (by have:=mR_.mp ht;omega)
  show (t:Int)*k.v+qy ks l'<=_
  omega
def jp (k:Kw) (ks:List Kw) (r:Int):Nat:=(List.range (ofn k r+1)).findIdx fun t:Nat=>decide ((t:Int)*k.v+qP ks (r-(t:Int)*k.w)=qP (k::ks) r)
def va:List Kw->Int->List Int
 | [],_=>[]
 | k::ks,r=>(jp k ks r:Int)::va ks (r-(jp k ks r:Int)*k.w)
theorem qeW (k:Kw) (ks:List Kw) (r:Int):jp k ks r<=ofn k r/\(jp k ks r:Int)*k.v+qP ks (r-(jp k ks r:Int)*k.w)=qP (k::ks) r/\∀ t,t<jp k ks r->(t:Int)*k.v+qP ks (r-(t:Int)*k.w)<qP (k::ks) r:=by
 obtain ⟨t0,h0,e0⟩:=qkA k ks r
 have hlt:jp k ks r<(List.range (ofn k r+1)).length:=by
  unfold jp
  rw [List.findIdx_lt_length]
  exact ⟨t0,mR_.mpr (by omega),decide_eq_true e0⟩
 rw [lR_] at hlt
 refine ⟨by omega,?_,fun t ht => ?_⟩
 ·have:=List.findIdx_getElem (xs:=List.range (ofn k r+1)) (p:=fun t:Nat=>decide ((t:Int)*k.v+qP ks (r-(t:Int)*k.w)=qP (k::ks) r)) (w:=by rw [lR_];exact hlt)
  have:=of_decide_eq_true this
  rw [List.getElem_range] at this
  exact this
 ·have hn:=List.not_of_lt_findIdx (xs:=List.range (ofn k r+1)) (p:=fun t:Nat=>decide ((t:Int)*k.v+qP ks (r-(t:Int)*k.w)=qP (k::ks) r)) (i:=t) ht
  rw [List.getElem_range] at hn
  have h1:=qgD (k:=k) (ks:=ks) (r:=r) (t:=t) (by omega)
  have h2:¬ ((t:Int)*k.v+qP ks (r-(t:Int)*k.w)=qP (k::ks) r):=by simpa using hn
  omega
theorem uf:∀ (ks:List Kw) (r:Int),∃ uJ,(z6 ks r).filter (fun l=>decide (qy ks l=qP ks r))=va ks r::uJ
 | [],r=>⟨[],rfl⟩
 | k::ks,r=>by
  obtain ⟨h1,h2,h3⟩:=qeW k ks r
  obtain ⟨uJ,ih⟩:=uf ks (r-(jp k ks r:Int)*k.w)
  have split:List.range (ofn k r+1)=List.range (jp k ks r)++(jp k ks r::(List.range' (jp k ks r+1) (ofn k r-jp k ks r))):=by
   rw [List.range_eq_range',List.range_eq_range',<- List.range'_succ]
   have:=List.range'_append_1 (s:=0) (m:=jp k ks r) (n:=ofn k r-jp k ks r+1)
   rw [Nat.zero_add] at this
   rw [this]
   congr 1
   omega
  simp only [z6]
  rw [split,List.flatMap_append,fC_,List.filter_append,List.filter_append]
  have z:((List.range (jp k ks r)).flatMap fun t:Nat=>(z6 ks (r-(t:Int)*k.w)).map fun l=>(t:Int)::l).filter (fun l=>decide (qy (k::ks) l=qP (k::ks) r))=[]:=by
   rw [List.filter_eq_nil_iff]
   intro l hl
   obtain ⟨t,ht,h4⟩:=List.mem_flatMap.mp hl
   obtain ⟨l',hl',rfl⟩:=mP_.mp h4
   have h5:=h3 t (mR_.mp ht)
   have h6:=wQ ks _ l' hl'
   have e:qy (k::ks) ((t:Int)::l')=(t:Int)*k.v+qy ks l':=rfl
   rw [e]
   simp
   omega
  rw [z,List.nil_append,List.filter_map]
  have e:(fun l=>decide (qy (k::ks) l=qP (k::ks) r))∘(fun l=>(jp k ks r:Int)::l)=fun l=>decide (qy ks l=qP ks (r-(jp k ks r:Int)*k.w)):=by
   funext l
   have e1:qy (k::ks) ((jp k ks r:Int)::l)=(jp k ks r:Int)*k.v+qy ks l:=rfl
   simp only [Function.comp_def,e1,<- h2]
   rw [decide_eq_decide]
   omega
  rw [e,ih]
  exact ⟨_,rfl⟩
end L2.Sk.Law
namespace L2.Srt
open PySem PySem.W PyProof.Rows
section
variable (ks:List Int)
abbrev kk (i:Nat):Int:=ks.getD i 0
abbrev cm (i j:Nat):Bool:=decide (ks.getD i 0<ks.getD j 0)
def Lx (i j:Nat):Prop:=kk ks i<kk ks j\/(kk ks i=kk ks j/\i<j)
theorem Lx.le {i j:Nat} (h:Lx ks i j):kk ks i<=kk ks j:=by rcases h with h | h<;>omega
structure qeg (n m:Nat) (p:Array Nat):Prop where
 sz:p.size=n
 mn:m<=n
 id:∀ k,m<=k->k<n->p.getD k 0=k
 lo:∀ k,k<m->p.getD k 0<m
 so:∀ i j,i<j->j<m->Lx ks (p.getD i 0) (p.getD j 0)
end
theorem v9 {p q:Array Nat} {k j:Nat} (h:p[k]? = q[j]?):p.getD k 0=q.getD j 0:=by
 rw [Array.getD_eq_getD_getElem?,Array.getD_eq_getD_getElem?,h]
theorem qbS {p:Array Nat} {i j:Nat} (hj:j<=p.size) (hij:i<=j) (k:Nat):(kas_rev p i j).getD k 0=if i<=k/\k<j then p.getD (i+j-1-k) 0 else p.getD k 0:=by
 have h:=getElem?_mirror (xs:=p) (i:=i) (j:=j) hj ((j-i)/2) (by omega) k
 unfold kas_rev
 by_cases hk:i<=k/\k<j
 ·rw [if_pos hk]
  by_cases hm:(i<=k/\k<i+(j-i)/2)\/(j-(j-i)/2<=k/\k<j)
  ·rw [if_pos hm] at h
   exact v9 h
  ·rw [if_neg hm] at h
   have e:i+j-1-k=k:=by omega
   rw [e]
   exact v9 h
 ·rw [if_neg hk]
  rw [if_neg (by omega)] at h
  exact v9 h
theorem qbT (p:Array Nat) (i j:Nat):(kas_rev p i j).size=p.size:=mirror_size _ _ _ _
theorem qkB {p:Array Nat} {k l:Nat} (hk:k<p.size) (hl:l<=k) (j:Nat):(bubble p k (k-l)).getD j 0=if j=l then p.getD k 0 else if l<j/\j<=k then p.getD (j-1) 0 else p.getD j 0:=by
 have h:=getElem?_bubble (xs:=p) (src:=k) hk (k-l) (by omega) j
 rw [show k-(k-l)=l by omega] at h
 by_cases h1:j=l
 ·rw [if_pos h1] at h |-
  exact v9 h
 ·rw [if_neg h1] at h |-
  by_cases h2:l<j/\j<=k
  ·rw [if_pos h2] at h |-
   exact v9 h
  ·rw [if_neg h2] at h |-
   exact v9 h
section
variable {ks:List Int}
theorem qgE {n:Nat} {p:Array Nat}:∀ (f m:Nat),f=n-m->1<=m->qeg ks n m p->∃ m',runK (cm ks) (kas_asc p f m)=m'/\m<=m'/\qeg ks n m' p/\(m'<n->kk ks (p.getD m' 0)<kk ks (p.getD (m'-1) 0))
 | 0,m,hf,h1,S=>⟨m,rfl,Nat.le_refl _,S,fun h=>by omega⟩
 | f + 1,m,hf,h1,S=>by
  show ∃ m',runK (cm ks) (if cm ks (p.getD m 0) (p.getD (m-1) 0)=true then KasT.ret m else kas_asc p f (m+1))=m'/\_
  by_cases c:kk ks (p.getD m 0)<kk ks (p.getD (m-1) 0)
  ·rw [if_pos (decide_eq_true c)]
   exact ⟨m,rfl,Nat.le_refl _,S,fun _=>c⟩
  ·rw [if_neg (by simpa using c)]
   have hid:p.getD m 0=m:=S.id m (Nat.le_refl _) (by omega)
   have S':qeg ks n (m+1) p:=by
    refine ⟨S.sz,by omega,fun k a b=>S.id k (by omega) b,fun k a => ?_,fun i j a b => ?_⟩
    ·by_cases e:k<m
     ·have:=S.lo k e;omega
     ·have:k=m:=by omega
      rw [this,hid];omega
    ·by_cases e:j<m
     ·exact S.so i j a e
     ·have ej:j=m:=by omega
      subst ej
      have l1:=S.lo i a
      have k1:kk ks (p.getD i 0)<=kk ks (p.getD (j-1) 0):=by
       by_cases e2:i=j-1
       ·rw [e2];exact Int.le_refl _
       ·exact (S.so i (j-1) (by omega) (by omega)).le
      have c':kk ks (p.getD (j-1) 0)<=kk ks (p.getD j 0):=Int.not_lt.mp c
      unfold Lx
      rw [hid] at c' |-
      omega
   obtain ⟨m',e1,e2,e3,e4⟩:=qgE f (m+1) (by omega) (by omega) S'
   exact ⟨m',e1,by omega,e3,e4⟩
structure Dwn (ks:List Int) (n m q:Nat) (p:Array Nat):Prop where
 sz:p.size=n
 mn:m<=n
 qm:q+1<=m
 id:∀ k,m<=k->k<n->p.getD k 0=k
 lo:∀ k,k<m->p.getD k 0<m
 a1:∀ i j,i<m-(q+1)->m-(q+1)<=j->j<m->kk ks (p.getD j 0)<kk ks (p.getD i 0)
 a2:∀ i j,i<j->j<m-(q+1)->Lx ks (p.getD j 0) (p.getD i 0)
 bl:∀ i j,m-(q+1)<=i->i<j->j<m->kk ks (p.getD i 0)=kk ks (p.getD j 0)/\p.getD i 0<p.getD j 0
theorem Dwn.turned {n m q:Nat} {p:Array Nat} (d:Dwn ks n m q p):(kas_rev p (m-(q+1)) m).size=n/\(∀ k,m<=k->k<n->(kas_rev p (m-(q+1)) m).getD k 0=k)/\(∀ k,k<m->(kas_rev p (m-(q+1)) m).getD k 0<m) /\
  (∀ i j,i<j->j<m->Lx ks ((kas_rev p (m-(q+1)) m).getD j 0) ((kas_rev p (m-(q+1)) m).getD i 0))/\(∀ i,i<m->kk ks (p.getD (m-1) 0)<=kk ks ((kas_rev p (m-(q+1)) m).getD i 0)):=by
 have hqm:=d.qm
 have hs:m<=p.size:=by rw [d.sz];exact d.mn
 have g:=fun k=>qbS (p:=p) (i:=m-(q+1)) (j:=m) hs (by omega) k
 refine ⟨by rw [qbT,d.sz],fun k a b => ?_,fun k a => ?_,fun i j a b => ?_,fun i a => ?_⟩
 ·rw [g,if_neg (by omega)];exact d.id k a b
 ·rw [g]
  split
  ·exact d.lo _ (by omega)
  ·exact d.lo k a
 ·rw [g i,g j]
  by_cases hi:m-(q+1)<=i
  ·rw [if_pos ⟨by omega,b⟩,if_pos ⟨hi,by omega⟩]
   have:=d.bl (m-(q+1)+m-1-j) (m-(q+1)+m-1-i) (by omega) (by omega) (by omega)
   exact .inr ⟨this.1,this.2⟩
  ·rw [if_neg (show ¬ (m-(q+1)<=i/\i<m) by omega)]
   by_cases hj:m-(q+1)<=j
   ·rw [if_pos ⟨hj,b⟩]
    exact .inl (d.a1 i _ (by omega) (by omega) (by omega))
   ·rw [if_neg (by omega)]
    exact d.a2 i j a (by omega)
 ·have key:∀ j,m-(q+1)<=j->j<m->kk ks (p.getD (m-1) 0)=kk ks (p.getD j 0):=fun j h1 h2=>by
   by_cases e:j=m-1
   ·rw [e]
   ·exact (d.bl j (m-1) h1 (by omega) (by omega)).1.symm
  rw [g i]
  by_cases hi:m-(q+1)<=i
  ·rw [if_pos ⟨hi,a⟩]
   exact Int.le_of_eq (key _ (by omega) (by omega))
  ·rw [if_neg (by omega)]
   exact Int.le_of_lt (d.a1 i (m-1) (by omega) (by omega) (by omega))
theorem Dwn.next {n m:Nat} {p:Array Nat} (hsz:p.size=n) (hm:1<=m) (hmn:m<n) (hid:∀ k,m<=k->k<n->p.getD k 0=k) (hlo:∀ k,k<m->p.getD k 0<m) (ho:∀ i j,i<j->j<m->Lx ks (p.getD j 0) (p.getD i 0))
  (hk:∀ i,i<m->kk ks (p.getD m 0)<kk ks (p.getD i 0)):Dwn ks n (m+1) 0 p:=by
 refine ⟨hsz,hmn,by omega,fun k a b=>hid k (by omega) b,fun k a => ?_,fun i j a b c => ?_,fun i j a b=>ho i j a (by omega),fun i j a b c=>by omega⟩
 ·by_cases e:k<m
  ·have:=hlo k e;omega
  ·have:k=m:=by omega
   rw [this,hid m (Nat.le_refl _) hmn];omega
 ·have:j=m:=by omega
  subst this
  exact hk i (by omega)
theorem qol {n m:Nat} {p:Array Nat} (d:Dwn ks n m 0 p):∀ k,(kas_rev p (m-(0+1)) m).getD k 0=p.getD k 0:=fun k=>by
 have hqm:=d.qm
 rw [qbS (by rw [d.sz];exact d.mn) (by omega)]
 split
 ·congr 1;omega
 ·rfl
theorem qbU {n:Nat}:∀ (f m q:Nat) {p:Array Nat},f=n-m->Dwn ks n m q p->∃ r,runK (cm ks) (kas_desc f p m q)=r/\Dwn ks n r.2.1 r.2.2 r.1
 | 0,m,q,p,hf,d=>⟨(p,m,q),rfl,d⟩
 | f + 1,m,q,p,hf,d=>by
  show ∃ r,runK (cm ks) (if cm ks (p.getD m 0) (p.getD (m-1) 0)=true then (if q>0 then kas_desc f (kas_rev p (m-(q+1)) m) (m+1) 0 else kas_desc f p (m+1) 0)
   else .ask (p.getD (m-1) 0) (p.getD m 0) fun c=>if c=true then .ret (p,m,q) else kas_desc f p (m+1) (q+1))=r/\_
  have hmn:m<n:=by have:=d.mn;omega
  have hqm:=d.qm
  have hid:=d.id m (Nat.le_refl _) hmn
  obtain ⟨t1,t2,t3,t4,t5⟩:=d.turned
  by_cases c:kk ks (p.getD m 0)<kk ks (p.getD (m-1) 0)
  ·rw [if_pos (decide_eq_true c)]
   by_cases hq:q>0
   ·rw [if_pos hq]
    have hm':(kas_rev p (m-(q+1)) m).getD m 0=p.getD m 0:=by rw [t2 m (Nat.le_refl _) hmn,hid]
    exact qbU f (m+1) 0 (by omega) (Dwn.next t1 (by omega) hmn t2 t3 t4 fun i hi=>by rw [hm'];exact Int.lt_of_lt_of_le c (t5 i hi))
   ·rw [if_neg hq]
    have e:q=0:=by omega
    subst e
    have g:=qol d
    refine qbU f (m+1) 0 (by omega) (Dwn.next d.sz (by omega) hmn d.id d.lo (fun i j a b => ?_) fun i hi => ?_)
    ·have:=t4 i j a b
     rw [g,g] at this
     exact this
    ·have:=t5 i hi
     rw [g] at this
     exact Int.lt_of_lt_of_le c this
  ·rw [if_neg (by simpa using c)]
   show ∃ r,runK (cm ks) (if cm ks (p.getD (m-1) 0) (p.getD m 0)=true then .ret (p,m,q) else kas_desc f p (m+1) (q+1))=r/\_
   by_cases c2:kk ks (p.getD (m-1) 0)<kk ks (p.getD m 0)
   ·rw [if_pos (decide_eq_true c2)]
    exact ⟨(p,m,q),rfl,d⟩
   ·rw [if_neg (by simpa using c2)]
    have ek:kk ks (p.getD (m-1) 0)=kk ks (p.getD m 0):=by
     have a1:kk ks (p.getD (m-1) 0)<=kk ks (p.getD m 0):=Int.not_lt.mp c
     have a2:kk ks (p.getD m 0)<=kk ks (p.getD (m-1) 0):=Int.not_lt.mp c2
     omega
    refine qbU f (m+1) (q+1) (by omega) ⟨d.sz,hmn,by omega,fun k a b=>d.id k (by omega) b,fun k a => ?_,fun i j a b c => ?_,fun i j a b=>d.a2 i j a (by omega),fun i j a b c => ?_⟩
    ·by_cases e:k<m
     ·have:=d.lo k e;omega
     ·have:k=m:=by omega
      rw [this,hid];omega
    ·by_cases e:j<m
     ·exact d.a1 i j (by omega) (by omega) e
     ·have:j=m:=by omega
      subst this
      rw [<- ek]
      exact d.a1 i (j-1) (by omega) (by omega) (by omega)
    ·by_cases e:j<m
     ·exact d.bl i j (by omega) b e
     ·have:j=m:=by omega
      subst this
      have l1:=d.lo i b
      refine ⟨?_,by rw [hid];exact l1⟩
      rw [<- ek]
      by_cases e2:i=j-1
      ·rw [e2]
      ·exact (d.bl i (j-1) (by omega) (by omega) (by omega)).1
theorem qeh {n m:Nat} {p:Array Nat} (hsz:p.size=n) (hm:1<=m) (hmn:m<=n) (hid:∀ k,m<=k->k<n->p.getD k 0=k) (hlo:∀ k,k<m->p.getD k 0<m) (ho:∀ i j,i<j->j<m->Lx ks (p.getD j 0) (p.getD i 0)) :
  qeg ks n (runK (cm ks) (kas_tail3 m n p)).1 (runK (cm ks) (kas_tail3 m n p)).2/\1<=(runK (cm ks) (kas_tail3 m n p)).1:=by
 have g:=fun k=>qbS (p:=p) (i:=0) (j:=m) (by rw [hsz];exact hmn) (Nat.zero_le _) k
 have S:qeg ks n m (kas_rev p 0 m):=by
  refine ⟨by rw [qbT,hsz],hmn,fun k a b => ?_,fun k a => ?_,fun i j a b => ?_⟩
  ·rw [g,if_neg (by omega)];exact hid k a b
  ·rw [g,if_pos ⟨Nat.zero_le _,a⟩];exact hlo _ (by omega)
  ·rw [g,g,if_pos ⟨Nat.zero_le _,by omega⟩,if_pos ⟨Nat.zero_le _,b⟩]
   exact ho _ _ (by omega) (by omega)
 obtain ⟨m',e1,e2,e3,_⟩:=qgE (n-m) m rfl hm S
 have e:runK (cm ks) (kas_tail3 m n p)=(m',kas_rev p 0 m):=by
  unfold kas_tail3
  rw [ud,e1]
  rfl
 rw [e]
 exact ⟨e3,by show 1<=m';omega⟩
theorem qaB {n m:Nat} {p:Array Nat} (d:Dwn ks n (m+1) 0 p):qeg ks n (runK (cm ks) (kas_descPart m n p)).1 (runK (cm ks) (kas_descPart m n p)).2/\1<=(runK (cm ks) (kas_descPart m n p)).1:=by
 obtain ⟨r,e1,e2⟩:=qbU (n-(m+1)) (m+1) 0 rfl d
 obtain ⟨t1,t2,t3,t4,_⟩:=e2.turned
 have hqm:=e2.qm
 unfold kas_descPart
 rw [ud,e1]
 by_cases hq:r.2.2>0
 ·rw [if_pos hq]
  exact qeh t1 (by omega) e2.mn t2 t3 t4
 ·rw [if_neg hq]
  obtain ⟨p',m',q'⟩:=r
  have e:q'=0:=by show q'=0;have:¬ q'>0:=hq;omega
  subst e
  have g:=qol e2
  refine qeh e2.sz (by omega) e2.mn e2.id e2.lo fun i j a b => ?_
  have:=t4 i j a b
  rw [g,g] at this
  exact this
theorem qh6 {n:Nat} (hn:1<=n):qeg ks n (runK (cm ks) (kas_count n (List.toArray (List.range n)))).1 (runK (cm ks) (kas_count n (List.toArray (List.range n)))).2/\1<=(runK (cm ks) (kas_count n (List.toArray (List.range n)))).1:=by
 have hr:∀ k,k<n->(List.toArray (List.range n)).getD k 0=k:=fun k hk=>by simp [Array.getD,hk]
 have S1:qeg ks n 1 (List.toArray (List.range n)):=⟨by simp,hn,fun k _ b=>hr k b,fun k a=>by rw [hr k (by omega)];exact a,fun i j a b=>by omega⟩
 obtain ⟨m,e1,e2,e3,e4⟩:=qgE (n-1) 1 rfl (Nat.le_refl _) S1
 unfold kas_count
 rw [ud,e1]
 by_cases h1:m=n
 ·rw [if_pos (by rw [h1];simp)]
  exact ⟨e3,e2⟩
 ·rw [if_neg (by simpa using h1)]
  have hmn:m<n:=by have:=e3.mn;omega
  have hk:=e4 hmn
  by_cases h2:m>1
  ·rw [if_pos h2]
   show qeg ks n (runK (cm ks) (if cm ks ((List.toArray (List.range n)).getD 0 0) ((List.toArray (List.range n)).getD (m-1) 0)=true then .ret (m,List.toArray (List.range n)) else kas_descPart m n (kas_rev (List.toArray (List.range n)) 0 m))).1 _/\_
   by_cases c:kk ks ((List.toArray (List.range n)).getD 0 0)<kk ks ((List.toArray (List.range n)).getD (m-1) 0)
   ·rw [show runK (cm ks) (KasT.ask ((List.toArray (List.range n)).getD 0 0) ((List.toArray (List.range n)).getD (m-1) 0) fun c=>if c=true then .ret (m,List.toArray (List.range n)) else kas_descPart m n (kas_rev (List.toArray (List.range n)) 0 m))=runK (cm ks) (if cm ks ((List.toArray (List.range n)).getD 0 0) ((List.toArray (List.range n)).getD (m-1) 0)=true then .ret (m,List.toArray (List.range n)) else kas_descPart m n (kas_rev (List.toArray (List.range n)) 0 m)) from rfl,if_pos (decide_eq_true c)]
    exact ⟨e3,e2⟩
   ·rw [show runK (cm ks) (KasT.ask ((List.toArray (List.range n)).getD 0 0) ((List.toArray (List.range n)).getD (m-1) 0) fun c=>if c=true then .ret (m,List.toArray (List.range n)) else kas_descPart m n (kas_rev (List.toArray (List.range n)) 0 m))=runK (cm ks) (if cm ks ((List.toArray (List.range n)).getD 0 0) ((List.toArray (List.range n)).getD (m-1) 0)=true then .ret (m,List.toArray (List.range n)) else kas_descPart m n (kas_rev (List.toArray (List.range n)) 0 m)) from rfl,if_neg (by simpa using c)]
    generalize hp:List.toArray (List.range n)=p at *
    have g:=fun k=>qbS (p:=p) (i:=0) (j:=m) (by rw [e3.sz];omega) (Nat.zero_le _) k
    have al:∀ i,i<m->kk ks (p.getD i 0)=kk ks (p.getD 0 0):=fun i hi=>by
     have c':kk ks (p.getD (m-1) 0)<=kk ks (p.getD 0 0):=Int.not_lt.mp c
     have a1:kk ks (p.getD 0 0)<=kk ks (p.getD i 0):=by
      by_cases e:i=0
      ·rw [e];exact Int.le_refl _
      ·exact (e3.so 0 i (by omega) hi).le
     have a2:kk ks (p.getD i 0)<=kk ks (p.getD (m-1) 0):=by
      by_cases e:i=m-1
      ·rw [e];exact Int.le_refl _
      ·exact (e3.so i (m-1) (by omega) (by omega)).le
     omega
    refine qaB (Dwn.next (by rw [qbT,e3.sz]) (by omega) hmn (fun k a b=>by rw [g,if_neg (by omega)];exact e3.id k a b) (fun k a=>by rw [g,if_pos ⟨Nat.zero_le _,a⟩];exact e3.lo _ (by omega)) (fun i j a b => ?_) fun i hi => ?_)
    ·rw [g,g,if_pos ⟨Nat.zero_le _,b⟩,if_pos ⟨Nat.zero_le _,by omega⟩]
     exact e3.so _ _ (by omega) (by omega)
    ·have h9:=al (m-1) (by omega)
     rw [g m,g i,if_neg (by omega),if_pos ⟨Nat.zero_le _,hi⟩,al (0+m-1-i) (by omega),<- h9]
     exact hk
  ·rw [if_neg h2]
   have em:m=1:=by omega
   subst em
   exact qaB (Dwn.next e3.sz (Nat.le_refl _) hmn e3.id e3.lo (fun i j a b=>by omega) fun i hi=>by
    have:i=0:=by omega
    subst this
    exact hk)
theorem qbV {n k:Nat} {p:Array Nat} (S:qeg ks n k p):∀ (f l r:Nat),r-l<=f->l<=r->r<=k->(∀ i,i<l->kk ks (p.getD i 0)<=kk ks (p.getD k 0))->(∀ i,r<=i->i<k->kk ks (p.getD k 0)<kk ks (p.getD i 0)) ->
  ∃ l',runK (cm ks) (kas_place p k f l r)=l'/\l'<=k/\(∀ i,i<l'->kk ks (p.getD i 0)<=kk ks (p.getD k 0))/\(∀ i,l'<=i->i<k->kk ks (p.getD k 0)<kk ks (p.getD i 0))
 | 0,l,r,hf,h1,h2,a,b=>⟨l,rfl,by omega,a,fun i c d=>b i (by omega) d⟩
 | f + 1,l,r,hf,h1,h2,a,b=>by
  have mono:∀ i j,i<=j->j<k->kk ks (p.getD i 0)<=kk ks (p.getD j 0):=fun i j hij hj=>by
   by_cases e:i=j
   ·rw [e];exact Int.le_refl _
   ·exact (S.so i j (by omega) hj).le
  unfold kas_place
  by_cases hge:l >= r
  ·rw [if_pos hge]
   exact ⟨l,rfl,by omega,a,fun i c d=>b i (by omega) d⟩
  ·rw [if_neg hge]
   show ∃ l',runK (cm ks) (if cm ks (p.getD k 0) (p.getD ((l+r)/2) 0)=true then kas_place p k f l ((l+r)/2) else kas_place p k f ((l+r)/2+1) r)=l'/\_
   by_cases c:kk ks (p.getD k 0)<kk ks (p.getD ((l+r)/2) 0)
   ·rw [if_pos (decide_eq_true c)]
    exact qbV S f l ((l+r)/2) (by omega) (by omega) (by omega) a fun i x y=>Int.lt_of_lt_of_le c (mono _ _ x y)
   ·rw [if_neg (by simpa using c)]
    exact qbV S f ((l+r)/2+1) r (by omega) (by omega) h2 (fun i x=>Int.le_trans (mono i ((l+r)/2) (by omega) (by omega)) (Int.not_lt.mp c)) b
theorem qi8 {n:Nat}:∀ (f k:Nat) {p:Array Nat},f=n-k->qeg ks n k p->qeg ks n n (runK (cm ks) (kas_bin f p k))
 | 0,k,p,hf,S=>by
  have:k=n:=by have:=S.mn;omega
  subst this
  exact S
 | f + 1,k,p,hf,S=>by
  have hkn:k<n:=by omega
  have hid:=S.id k (Nat.le_refl _) hkn
  obtain ⟨l,e1,e2,e3,e4⟩:=qbV S k 0 k (by omega) (Nat.zero_le _) (Nat.le_refl _) (fun i h=>by omega) (fun i h1 h2=>by omega)
  show qeg ks n n (runK (cm ks) ((kas_place p k k 0 k).bind fun l=>kas_bin f (bubble p k (k-l)) (k+1)))
  rw [ud,e1]
  have g:=fun j=>qkB (p:=p) (k:=k) (l:=l) (by rw [S.sz];exact hkn) e2 j
  refine qi8 f (k+1) (by omega) ⟨by rw [bubble_size,S.sz],hkn,fun j a b => ?_,fun j a => ?_,fun i j a b => ?_⟩
  ·rw [g,if_neg (by omega),if_neg (by omega)];exact S.id j (by omega) b
  ·rw [g]
   split
   ·rw [hid];omega
   ·split
    ·have:=S.lo (j-1) (by omega);omega
    ·have:=S.lo j (by omega);omega
  ·rw [g i,g j]
   have lk:∀ z,z<k->z<l->Lx ks (p.getD z 0) (p.getD k 0):=fun z hz hl=>by
    have h1:=e3 z hl
    have h2:=S.lo z hz
    unfold Lx
    rw [hid] at h1 |-
    omega
   have gk:∀ z,l<=z->z<k->Lx ks (p.getD k 0) (p.getD z 0):=fun z hl hz => .inl (e4 z hl hz)
   by_cases hi:i=l
   ·rw [if_pos hi,if_neg (by omega),if_pos ⟨by omega,by omega⟩]
    exact gk _ (by omega) (by omega)
   ·rw [if_neg hi]
    by_cases hj:j=l
    ·rw [if_pos hj,if_neg (by omega)]
     exact lk i (by omega) (by omega)
    ·rw [if_neg hj]
     by_cases hi2:l<i/\i<=k
     ·rw [if_pos hi2,if_pos ⟨by omega,by omega⟩]
      exact S.so _ _ (by omega) (by omega)
     ·rw [if_neg hi2]
      by_cases hj2:l<j/\j<=k
      ·rw [if_pos hj2]
       exact S.so _ _ (by omega) (by omega)
      ·rw [if_neg hj2]
       exact S.so _ _ a (by omega)
theorem qkC {n:Nat} (hn:1<=n):qeg ks n n (runK (cm ks) (kas_sort n)):=by
 obtain ⟨S,h1⟩:=qh6 (ks:=ks) hn
 unfold kas_sort
 rw [ud]
 by_cases h:(runK (cm ks) (kas_count n (List.toArray (List.range n)))).1<n
 ·rw [if_pos h]
  have e:max (runK (cm ks) (kas_count n (List.toArray (List.range n)))).1 1=(runK (cm ks) (kas_count n (List.toArray (List.range n)))).1:=by omega
  rw [e]
  exact qi8 _ _ rfl S
 ·rw [if_neg h]
  have e:(runK (cm ks) (kas_count n (List.toArray (List.range n)))).1=n:=by have:=S.mn;omega
  rw [e] at S
  exact S
end
theorem ord_sorted (ks:List Int):(ord ks).Pairwise (Lx ks):=by
 unfold ord
 split
 ·rename_i h
  match hk:ks.length,h with
  | 0,_=>exact List.Pairwise.nil
  | 1,_=>exact List.pairwise_singleton _ _
 ·have S:=qkC (ks:=ks) (n:=ks.length) (by omega)
  rw [List.pairwise_iff_getElem]
  intro i j hi hj hij
  have hz:=S.sz
  rw [Array.length_toList] at hi hj
  have:=S.so i j hij (by rw [<- hz];exact hj)
  have e1:(runK (cm ks) (kas_sort ks.length)).getD i 0=(runK (cm ks) (kas_sort ks.length)).toList[i]'(by rw [Array.length_toList];exact hi):=by simp [Array.getD,hi]
  have e2:(runK (cm ks) (kas_sort ks.length)).getD j 0=(runK (cm ks) (kas_sort ks.length)).toList[j]'(by rw [Array.length_toList];exact hj):=by simp [Array.getD,hj]
  rw [e1,e2] at this
  exact this
end L2.Srt
namespace L2.Sk.Law
def sgK (k:Kw):Prop:=1<=k.w/\0<=k.v/\(k.m=some 0\/k.m=some 1)
theorem sgK.kd {k:Kw} (h:sgK k):qmx k:=⟨h.1,fun j e=>by rcases h.2.2 with q | q<;>rw [q] at e<;>cases e<;>decide⟩
def tm (k:Kw):Nat:=(k.m.getD 0).toNat
theorem qgF {k:Kw} (h:sgK k):tm k<=1:=by unfold tm;rcases h.2.2 with q | q<;>rw [q]<;>decide
def qdr (L:List (List Int)) (k:Kw):List (List Int):=L.flatMap fun l=>(List.range (tm k+1)).map fun t:Nat=>l++[(t:Int)]
def zm:List Kw->List (List Int)
 | []=>[[]]
 | k::ks=>(List.range (tm k+1)).flatMap fun t:Nat=>(zm ks).map fun l=>(t:Int)::l
theorem qcO:∀ (ks:List Kw) (F:List (List Int)),ks.foldl qdr F=F.flatMap fun p=>(zm ks).map fun l=>p++l
 | [],F=>by simp [zm]
 | k::ks,F=>by
  rw [fo_,qcO ks]
  unfold qdr
  rw [List.flatMap_assoc]
  congr 1
  funext p
  simp only [zm]
  rw [List.flatMap_map,List.map_flatMap]
  congr 1
  funext t
  rw [mm_]
  congr 1
  funext l
  simp
theorem qh7 (ks:List Kw):ks.foldl qdr [[]]=zm ks:=by rw [qcO];simp
def qA:List Kw->List Int->Int
 | k::ks,t::ts=>t*k.w+qA ks ts
 | _,_=>0
theorem ur:∀ {ks:List Kw} {l:List Int},l∈zm ks->l.length=ks.length
 | [],l,h=>by rw [ms_.mp h];rfl
 | k::ks,l,h=>by
  obtain ⟨t,_,h2⟩:=List.mem_flatMap.mp h
  obtain ⟨l',hl',rfl⟩:=mP_.mp h2
  rw [lC_,lC_,ur hl']
theorem qbW:∀ {ks:List Kw} {l:List Int},(∀ k∈ks,sgK k)->l∈zm ks->∀ t∈l,t=0\/t=1
 | [],l,_,h=>by rw [ms_.mp h];intro t ht;cases ht
 | k::ks,l,hk,h=>by
  obtain ⟨t,ht,h2⟩:=List.mem_flatMap.mp h
  obtain ⟨l',hl',rfl⟩:=mP_.mp h2
  intro x hx
  have:=qgF (hk k mS_)
  have h3:=mR_.mp ht
  rcases List.mem_cons.mp hx with rfl | hx
  ·omega
  ·exact qbW (fun k hk'=>hk k (mM _ hk')) hl' x hx
theorem vM:∀ {ks:List Kw} {l:List Int},(∀ k∈ks,sgK k)->(∀ t∈l,t=0\/t=1)->0<=qA ks l/\0<=qy ks l
 | [],_,_,_=>⟨by simp [qA],by simp [qy]⟩
 | k::ks,[],_,_=>⟨by simp [qA],by simp [qy]⟩
 | k::ks,t::l,hk,hl=>by
  obtain ⟨h1,h2⟩:=vM (fun k hk'=>hk k (mM _ hk')) (fun x hx=>hl x (mM _ hx)) (ks:=ks) (l:=l)
  obtain ⟨g1,g2,_⟩:=hk k mS_
  have ht:0<=t:=by rcases hl t mS_ with e | e<;>omega
  have a1:0<=t*k.w:=Int.mul_nonneg ht (by omega)
  have a2:0<=t*k.v:=Int.mul_nonneg ht g2
  exact ⟨by show 0<=t*k.w+qA ks l;omega,by show 0<=t*k.v+qy ks l;omega⟩
theorem qds {ks:List Kw} {l:List Int} (hk:∀ k∈ks,sgK k) (h:l∈zm ks):0<=qA ks l/\0<=qy ks l:=vM hk (qbW hk h)
theorem qei {α:Type} {f:Nat->List α} {m:Nat}:∀ n,m<=n->(∀ t,m<t->t<=n->f t=[])->(List.range (n+1)).flatMap f=(List.range (m+1)).flatMap f
 | 0,h,_=>by
  have:m=0:=by omega
  rw [this]
 | n+1,h,hf=>by
  by_cases c:m=n+1
  ·rw [c]
  ·rw [List.range_succ,List.flatMap_append,qei n (by omega) fun t h1 h2=>hf t h1 (by omega)]
   simp [hf (n+1) (by omega) (Nat.le_refl _)]
theorem wc {α β:Type} {f g:α->List β}:∀ {l:List α},(∀ a∈l,f a=g a)->l.flatMap f=l.flatMap g
 | [],_=>rfl
 | a::l,h=>by rw [fC_,fC_,h a mS_,wc fun x hx=>h x (mM _ hx)]
theorem vo {α β:Type} {f:α->List β} {p:β->Bool}:∀ l:List α,(l.flatMap f).filter p=l.flatMap fun a=>(f a).filter p
 | []=>rfl
 | a::l=>by rw [fC_,List.filter_append,vo l,fC_]
theorem ut {α β:Type} {f:α->β} {p:β->Bool} (l:List α):(l.map f).filter p=(l.filter fun a=>p (f a)).map f:=by
 rw [List.filter_map]
 rfl
theorem ug:∀ {ks:List Kw} {r:Int},(∀ k∈ks,sgK k)->0<=r->z6 ks r=(zm ks).filter fun l=>decide (qA ks l<=r)
 | [],r,_,hr=>by simp [z6,zm,qA,hr]
 | k :: ks,r,hk,hr=>by
  have gk:=hk k mS_
  have hk':∀ k∈ks,sgK k:=fun x hx=>hk x (mM _ hx)
  simp only [z6,zm]
  rw [vo]
  have hw:=gk.1
  have hle:ofn k r<=tm k:=by
   unfold ofn tm
   rcases gk.2.2 with q | q<;>rw [q]<;>simp only [Option.getD_some]<;>split<;>omega
  rw [qei (m:=ofn k r) (tm k) hle fun t h1 h2 => ?_]
  ·have e:∀ t∈List.range (ofn k r+1),((z6 ks (r-(t:Int)*k.w)).map fun l=>(t:Int)::l)=((zm ks).map fun l=>(t:Int)::l).filter fun l=>decide (qA (k::ks) l<=r):=fun t ht=>by
    have h1:=mR_.mp ht
    obtain ⟨g1,_⟩:=qi7 gk.kd.1 gk.kd.2 hr (show t<=ofn k r by omega)
    rw [ug hk' (show 0<=r-(t:Int)*k.w by omega),ut]
    congr 1
    refine List.filter_congr fun l _ => ?_
    have:qA (k::ks) ((t:Int)::l)=(t:Int)*k.w+qA ks l:=rfl
    rw [this]
    apply decide_eq_decide.mpr
    omega
   rw [wc fun t ht=>e t ht]
  ·rw [List.filter_eq_nil_iff]
   intro l hl
   obtain ⟨l',hl',rfl⟩:=mP_.mp hl
   have:=(qds hk' hl').1
   have hx:¬ okT k t r=true:=by
    rw [qgC gk.kd.1 gk.kd.2 hr,decide_eq_true_eq]
    omega
   have hx:¬ (t:Int)*k.w<=r:=fun hw'=>hx (by
    unfold okT
    unfold tm at h2
    rw [decide_eq_true hw',Bool.true_and]
    rcases gk.2.2 with q | q<;>rw [q] at h2 |- <;> simp only [Option.getD_some] at h2<;>exact decide_eq_true (by omega))
   have e:qA (k::ks) ((t:Int)::l')=(t:Int)*k.w+qA ks l':=rfl
   rw [e,decide_eq_true_eq]
   omega
theorem wR:∀ a b:List Kw,zm (a++b)=(zm a).flatMap fun l=>(zm b).map fun m=>l++m
 | [],b=>by simp [zm]
 | k::a,b=>by
  simp only [List.cons_append,zm]
  rw [List.flatMap_assoc]
  congr 1
  funext t
  rw [wR a b,List.map_flatMap,List.flatMap_map]
  congr 1
  funext l
  rw [mm_]
  congr 1
theorem u0:∀ (a b:List Kw) (l m:List Int),l.length=a.length->qA (a++b) (l++m)=qA a l+qA b m/\qy (a++b) (l++m)=qy a l+qy b m
 | [],b,[],m,_=>⟨by simp [qA],by simp [qy]⟩
 | k::a,b,t::l,m,h=>by
  obtain ⟨h1,h2⟩:=u0 a b l m (by simpa using h)
  refine ⟨?_,?_⟩
  ·show t*k.w+qA (a++b) (l++m)=t*k.w+qA a l+_
   omega
  ·show t*k.v+qy (a++b) (l++m)=t*k.v+qy a l+_
   omega
theorem qaC:∀ ks:List Kw,List.replicate ks.length (0:Int)∈zm ks/\qA ks (List.replicate ks.length 0)=0
 | []=>⟨ms_.mpr rfl,rfl⟩
 | k::ks=>by
  obtain ⟨h1,h2⟩:=qaC ks
  refine ⟨List.mem_flatMap.mpr ⟨0,mR_.mpr (by omega),mP_.mpr ⟨_,h1,rfl⟩⟩,?_⟩
  show 0*k.w+qA ks (List.replicate ks.length 0)=0
  rw [h2]
  omega
abbrev T3:=Int×Int×List Int
def wg (ks:List Kw) (l:List Int):T3:=(qA ks l,qy ks l,l)
def jy (ks:List Kw):List T3:=(zm ks).map (wg ks)
def kyT (x:T3):yk:=(x.1,-x.2.1,x.2.2)
def wH (kept:List T3) (x:T3):List T3:=match kept.getLast? with
 | none=>[x]
 | some y=>if y.2.1<x.2.1 then kept++[x] else kept
def Bo (x y:T3):Prop:=lt3 (kyT y) (kyT x)=false
def srt (L:List T3):List T3:=(Srt.ord (zn (L.map kyT))).map fun i=>L.getD i (0,0,[])
def nbL (ks:List Kw):List T3:=(srt (jy ks)).foldl wH []
theorem wS (L:List T3):(srt L).Perm L:=by
 have h:=(Srt.ord_perm (zn (L.map kyT))).map fun i=>L.getD i ((0,0,[]):T3)
 rw [jG,lM_] at h
 have e:(List.range L.length).map (fun i=>L.getD i ((0,0,[]):T3))=L:=Srt.map_getD_range _ L
 rw [e] at h
 exact h
theorem qeX (L:List T3):(srt L).Pairwise Bo:=by
 unfold srt
 rw [List.pairwise_map]
 have hp:=Srt.ord_perm (zn (L.map kyT))
 have hs:=Srt.ord_sorted (zn (L.map kyT))
 refine (List.pairwise_iff_forall_sublist.mpr fun {i j} hij => ?_)
 have hij':=(List.pairwise_iff_forall_sublist.mp hs) hij
 have hi:i<L.length:=by
  have:=hp.mem_iff.mp (hij.subset (mS_))
  rw [mR_,jG,lM_] at this
  exact this
 have hj:j<L.length:=by
  have:=hp.mem_iff.mp (hij.subset (mM _ mS_))
  rw [mR_,jG,lM_] at this
  exact this
 have hle:=hij'.le
 unfold Bo
 have e1:Srt.kk (zn (L.map kyT)) i=qbO (L.map kyT) (kyT (L.getD i (0,0,[]))):=by unfold Srt.kk zn;simp [hi]
 have e2:Srt.kk (zn (L.map kyT)) j=qbO (L.map kyT) (kyT (L.getD j (0,0,[]))):=by unfold Srt.kk zn;simp [hj]
 rw [e1,e2] at hle
 have hm:kyT (L.getD j (0,0,[]))∈L.map kyT:=mP_.mpr ⟨_,by simp [hj],rfl⟩
 rw [<- qgk hm]
 exact decide_eq_false (by omega)
theorem Bo.wle {x y:T3} (h:Bo x y):x.1<=y.1/\(x.1=y.1->y.2.1<=x.2.1):=by
 unfold Bo lt3 kyT at h
 dsimp only at h
 by_cases c:y.1=x.1
 ·refine ⟨by omega,fun _ => ?_⟩
  rw [if_pos c] at h
  by_cases d : -y.2.1 = -x.2.1
  ·omega
  ·rw [if_neg d] at h
   have:=of_decide_eq_false h
   omega
 ·rw [if_neg c] at h
  have:=of_decide_eq_false h
  exact ⟨by omega,fun e=>by omega⟩
structure Kp (P kept:List T3):Prop where
 sub:∀ x∈kept,x∈P
 dom:∀ x∈P,∃ y∈kept,y.1<=x.1/\x.2.1<=y.2.1
 top:∀ y,kept.getLast? = some y->∀ x∈P,x.2.1<=y.2.1
 rise:kept.Pairwise fun x y=>x.1<y.1/\x.2.1<y.2.1
theorem Kp.step {P kept:List T3} {x:T3} (h:Kp P kept) (hs:∀ y∈P,Bo y x):Kp (P++[x]) (wH kept x):=by
 unfold wH
 cases e:kept.getLast? with
 | none =>
  have hk:kept=[]:=List.getLast?_eq_none_iff.mp e
  have hP:P=[]:=by
   cases P with
   | nil=>rfl
   | cons p P =>
    obtain ⟨y,hy,_⟩:=h.dom p mS_
    rw [hk] at hy;cases hy
  subst hP
  refine ⟨fun y hy=>by simpa using hy,fun y hy=>⟨x,by simp,?_⟩,fun y hy z hz => ?_,by simp⟩
  ·have:y=x:=by simpa using hy
   subst this
   exact ⟨Int.le_refl _,Int.le_refl _⟩
  ·have a:x=y:=by simpa using hy
   have b:z=x:=by simpa using hz
   subst a b
   exact Int.le_refl _
 | some l =>
  have hl:l∈kept:=List.mem_of_getLast? e
  have hlP:=h.sub l hl
  have hb:=(hs l hlP).wle
  dsimp only
  by_cases c:l.2.1<x.2.1
  ·rw [if_pos c]
   refine ⟨fun y hy => ?_,fun y hy => ?_,fun y hy z hz => ?_,?_⟩
   ·rcases mA_.mp hy with hy | hy
    ·exact List.mem_append_left _ (h.sub y hy)
    ·exact mr_ _ hy
   ·rcases mA_.mp hy with hy | hy
    ·obtain ⟨z,hz,h1,h2⟩:=h.dom y hy
     exact ⟨z,List.mem_append_left _ hz,h1,h2⟩
    ·have:y=x:=by simpa using hy
     subst this
     exact ⟨y,by simp,Int.le_refl _,Int.le_refl _⟩
   ·have a:x=y:=by simpa using hy
    subst a
    rcases mA_.mp hz with hz | hz
    ·have:=h.top l e z hz
     omega
    ·have:z=x:=by simpa using hz
     subst this
     exact Int.le_refl _
   ·rw [List.pairwise_append]
    refine ⟨h.rise,by simp,fun y hy z hz => ?_⟩
    have a:z=x:=by simpa using hz
    subst a
    have h1:=h.top l e y (h.sub y hy)
    have h2:=(hs y (h.sub y hy)).wle
    have h3:y.2.1<z.2.1:=by omega
    refine ⟨?_,h3⟩
    rcases Int.lt_or_eq_of_le h2.1 with g | g
    ·exact g
    ·have:=h2.2 g
     omega
  ·rw [if_neg c]
   refine ⟨fun y hy=>List.mem_append_left _ (h.sub y hy),fun y hy => ?_,fun y hy z hz => ?_,h.rise⟩
   ·rcases mA_.mp hy with hy | hy
    ·exact h.dom y hy
    ·have:y=x:=by simpa using hy
     subst this
     exact ⟨l,hl,hb.1,by omega⟩
   ·rw [e] at hy
    cases hy
    rcases mA_.mp hz with hz | hz
    ·exact h.top _ e z hz
    ·have:z=x:=by simpa using hz
     subst this
     omega
theorem qgG:∀ (L P kept:List T3),(P++L).Pairwise Bo->Kp P kept->Kp (P++L) (L.foldl wH kept)
 | [],P,kept,_,h=>by rw [List.append_nil];exact h
 | x::L,P,kept,hs,h=>by
  rw [fo_]
  have e:P++x::L=(P++[x])++L:=by simp
  rw [e] at hs |-
  refine qgG L (P++[x]) _ hs (h.step fun y hy => ?_)
  have:=(List.pairwise_append.mp (List.pairwise_append.mp hs).1).2.2 y hy x (by simp)
  exact this
theorem qmz (ks:List Kw):Kp (srt (jy ks)) (nbL ks):=by
 have:=qgG (srt (jy ks)) [] [] (by simpa using qeX (jy ks)) ⟨(fun x hx=>absurd hx nN_),(fun x hx=>absurd hx nN_),(fun y hy=>by simp at hy),List.Pairwise.nil⟩
 simpa [nbL] using this
theorem qgH {ks:List Kw} {x:T3} (h:x∈nbL ks):x∈jy ks:=(wS _).mem_iff.mp ((qmz ks).sub x h)
theorem qej {ks:List Kw} {x:T3} (h:x∈jy ks):∃ y∈nbL ks,y.1<=x.1/\x.2.1<=y.2.1:=(qmz ks).dom x ((wS _).mem_iff.mpr h)
theorem u3 {ks:List Kw} {x:T3}:x∈jy ks ↔ ∃ l∈zm ks,wg ks l=x:=mP_
theorem qgI {ks:List Kw} (hk:∀ k∈ks,sgK k) {x:T3} (h:x∈jy ks):0<=x.1/\0<=x.2.1:=by
 obtain ⟨l,hl,rfl⟩:=u3.mp h
 exact qds hk hl
theorem wT (ks:List Kw):∃ x∈jy ks,x.1=0:=⟨_,mP_.mpr ⟨_,(qaC ks).1,rfl⟩,(qaC ks).2⟩
theorem qgJ {l:List Int} {x:Int} (h:x∈l):x<=qbF l:=by
 cases l with
 | nil=>cases h
 | cons a l=>exact qdh a l x h
theorem qdt {l:List Int} (h:l≠[]):qbF l∈l:=by
 cases l with
 | nil=>exact absurd rfl h
 | cons a l=>exact qbG a l
def bb (one:T3) (S:List T3) (r:Int):Int:=one.2.1+qbF ((S.filter fun o=>decide (o.1<=r-one.1)).map fun o=>o.2.1)
theorem qnQ {one o:T3} {S:List T3} {r:Int} (ho:o∈S) (h:o.1<=r-one.1):one.2.1+o.2.1<=bb one S r:=by
 have:=qgJ (mP_.mpr ⟨o,List.mem_filter.mpr ⟨ho,decide_eq_true h⟩,rfl⟩:o.2.1∈(S.filter fun o=>decide (o.1<=r-one.1)).map fun o=>o.2.1)
 unfold bb
 omega
theorem qi9 {one o:T3} {S:List T3} {r:Int} (ho:o∈S) (h:o.1<=r-one.1):∃ z∈S,z.1<=r-one.1/\bb one S r=one.2.1+z.2.1:=by
 have hne:((S.filter fun o=>decide (o.1<=r-one.1)).map fun o=>o.2.1)≠[]:=fun e=>by
  have:o∈S.filter fun o=>decide (o.1<=r-one.1):=List.mem_filter.mpr ⟨ho,decide_eq_true h⟩
  rw [List.map_eq_nil_iff.mp e] at this
  cases this
 obtain ⟨z,hz,e⟩:=mP_.mp (qdt hne)
 obtain ⟨z1,z2⟩:=List.mem_filter.mp hz
 exact ⟨z,z1,of_decide_eq_true z2,by unfold bb;rw [<- e]⟩
section
variable {a b:List Kw} (ha:∀ k∈a,sgK k) (hb:∀ k∈b,sgK k) {r:Int} (hr:0<=r)
include ha hb hr
theorem qdu:∀ k∈a++b,sgK k:=fun k hk=>(mA_.mp hk).elim (ha k) (hb k)
theorem qkD {x y:T3} (hx:x∈jy a) (hy:y∈jy b) (h:x.1+y.1<=r):x.2.1+y.2.1<=qP (a++b) r:=by
 obtain ⟨l,hl,rfl⟩:=u3.mp hx
 obtain ⟨m,hm,rfl⟩:=u3.mp hy
 obtain ⟨e1,e2⟩:=u0 a b l m (ur hl)
 have:=wQ (a++b) r (l++m) (by
  rw [ug (qdu ha hb hr) hr,List.mem_filter]
  refine ⟨?_,decide_eq_true (by rw [e1];exact h)⟩
  rw [wR]
  exact List.mem_flatMap.mpr ⟨l,hl,mP_.mpr ⟨m,hm,rfl⟩⟩)
 rw [e2] at this
 exact this
theorem qh8:∃ x∈jy a,∃ y∈jy b,x.1+y.1<=r/\x.2.1+y.2.1=qP (a++b) r:=by
 obtain ⟨uJ,e⟩:=uf (a++b) r
 have hm:va (a++b) r∈(z6 (a++b) r).filter fun l=>decide (qy (a++b) l=qP (a++b) r):=by rw [e];exact mS_
 obtain ⟨h1,h2⟩:=List.mem_filter.mp hm
 rw [ug (qdu ha hb hr) hr,List.mem_filter] at h1
 obtain ⟨h3,h4⟩:=h1
 rw [wR] at h3
 obtain ⟨l,hl,h5⟩:=List.mem_flatMap.mp h3
 obtain ⟨m,hm',e2⟩:=mP_.mp h5
 obtain ⟨e3,e4⟩:=u0 a b l m (ur hl)
 rw [<- e2] at h2 h4
 refine ⟨wg a l,mP_.mpr ⟨l,hl,rfl⟩,wg b m,mP_.mpr ⟨m,hm',rfl⟩,?_,?_⟩
 ·have:=of_decide_eq_true h4
  rw [e3] at this
  exact this
 ·have:=of_decide_eq_true h2
  rw [e4] at this
  exact this
theorem qmA {S:List T3} (hS:∀ x∈S,x∈jy b) (hd:∀ x∈jy b,∃ y∈S,y.1<=x.1/\x.2.1<=y.2.1) {x:T3} (hx:x∈jy a) (h:x.1<=r):bb x S r<=qP (a++b) r:=by
 obtain ⟨z,hz,z0⟩:=wT b
 obtain ⟨y,hy,y1,_⟩:=hd z hz
 obtain ⟨o,ho,o1,e⟩:=qi9 (one:=x) (r:=r) hy (by omega)
 rw [e]
 exact qkD ha hb hr hx (hS o ho) (by omega)
theorem qja {S:List T3} (hd:∀ x∈jy b,∃ y∈S,y.1<=x.1/\x.2.1<=y.2.1) {x y:T3} (hy:y∈jy b) (h:x.1+y.1<=r):x.2.1+y.2.1<=bb x S r:=by
 obtain ⟨z,hz,h1,h2⟩:=hd y hy
 have:=qnQ (one:=x) (r:=r) hz (by omega)
 omega
theorem qh9:qbF (((nbL a).filter fun x=>decide (x.1<=r)).map fun x=>bb x (nbL b) r)=qP (a++b) r:=by
 obtain ⟨x,hx,y,hy,h1,h2⟩:=qh8 ha hb hr
 obtain ⟨x',hx',g1,g2⟩:=qej hx
 have yn:=(qgI hb hy).1
 have xf:x'.1<=r:=by omega
 have hm:x'∈(nbL a).filter fun x=>decide (x.1<=r):=List.mem_filter.mpr ⟨hx',decide_eq_true xf⟩
 have hb1:=qja ha hb hr (S:=nbL b) (fun z hz=>qej hz) (x:=x') hy (by omega)
 have ge:=qgJ (mP_.mpr ⟨x',hm,rfl⟩:bb x' (nbL b) r∈((nbL a).filter fun x=>decide (x.1<=r)).map fun x=>bb x (nbL b) r)
 obtain ⟨z,hz,e⟩:=mP_.mp (qdt (l:=((nbL a).filter fun x=>decide (x.1<=r)).map fun x=>bb x (nbL b) r) fun e=>by
  rw [List.map_eq_nil_iff.mp e] at hm;cases hm)
 obtain ⟨z1,z2⟩:=List.mem_filter.mp hz
 have le:=qmA ha hb hr (S:=nbL b) (fun x hx=>qgH hx) (fun x hx=>qej hx) (qgH z1) (of_decide_eq_true z2)
 rw [e] at le
 omega
end
theorem qcP {α β:Type} {f:α->List β} {x:α} {t:List α}:∀ L:List α,(L.filter fun a => !(f a).isEmpty)=x::t->∃ s,L.flatMap f=f x++s
 | [],h=>by cases h
 | a::L,h=>by
  rw [ft_] at h
  rw [fC_]
  cases c:(f a).isEmpty with
  | true =>
   rw [c] at h
   rw [List.isEmpty_iff.mp c]
   exact qcP L (by simpa using h)
  | false =>
   rw [c] at h
   have:a=x:=by simpa using (List.cons.inj (by simpa using h:a::(L.filter fun a => !(f a).isEmpty)=x::t)).1
   subst this
   exact ⟨_,rfl⟩
section
variable {a b:List Kw} (ha:∀ k∈a,sgK k) (hb:∀ k∈b,sgK k) {r:Int} (hr:0<=r)
include ha hb hr
def qmY (a b:List Kw) (r:Int):List T3:=((jy a).filter fun x=>decide (x.1<=r)).filter fun x=>decide (bb x (jy b) r=qP (a++b) r)
def qmZ (a b:List Kw) (r:Int) (x:T3):List T3:=((jy b).filter fun y=>decide (x.1+y.1<=r)).filter fun y=>decide (x.2.1+y.2.1=qP (a++b) r)
theorem qgK:∃ x t,qmY a b r=x::t/\∃ y s,qmZ a b r x=y::s/\x.2.2++y.2.2=va (a++b) r:=by
 let B:=qP (a++b) r
 let P:List Int->List Int->Bool:=fun l m=>decide (qA a l+qA b m<=r)&&decide (qy a l+qy b m=B)
 let f:List Int->List (List Int):=fun l=>((zm b).filter (P l)).map fun m=>l++m
 obtain ⟨uJ,e⟩:=uf (a++b) r
 rw [ug (qdu ha hb hr) hr,List.filter_filter,wR,vo] at e
 have e1:((zm a).flatMap fun l=>((zm b).map fun m=>l++m).filter fun l=>decide (qy (a++b) l=qP (a++b) r)&&decide (qA (a++b) l<=r))=(zm a).flatMap f:=by
  refine wc fun l hl => ?_
  rw [ut]
  show _=((zm b).filter (P l)).map fun m=>l++m
  congr 1
  refine List.filter_congr fun m _ => ?_
  obtain ⟨q1,q2⟩:=u0 a b l m (ur hl)
  rw [q1,q2,Bool.and_comm]
 rw [e1] at e
 have fe:∀ l∈zm a,(!(f l).isEmpty)=(decide (qA a l<=r)&&decide (bb (wg a l) (jy b) r=B)):=fun l hl=>by
  have lw:wg a l∈jy a:=mP_.mpr ⟨l,hl,rfl⟩
  rw [Bool.eq_iff_iff,Bool.and_eq_true,decide_eq_true_eq,decide_eq_true_eq,Bool.not_eq_true',<- Bool.not_eq_true,List.isEmpty_iff]
  constructor
  ·intro hne
   obtain ⟨z,hz⟩:=List.exists_mem_of_ne_nil _ hne
   obtain ⟨m,hm,_⟩:=mP_.mp hz
   obtain ⟨m1,m2⟩:=List.mem_filter.mp hm
   have m3:=(Bool.and_eq_true _ _).mp m2
   have m4:qA a l+qA b m<=r:=of_decide_eq_true m3.1
   have m5:qy a l+qy b m=B:=of_decide_eq_true m3.2
   have mn:=(qds hb m1).1
   have fl:qA a l<=r:=by omega
   refine ⟨fl,?_⟩
   have g1:=qja ha hb hr (S:=jy b) (fun z hz=>⟨z,hz,Int.le_refl _,Int.le_refl _⟩) (x:=wg a l) (y:=wg b m) (mP_.mpr ⟨m,m1,rfl⟩) m4
   have g2:=qmA ha hb hr (S:=jy b) (fun x hx=>hx) (fun z hz=>⟨z,hz,Int.le_refl _,Int.le_refl _⟩) lw fl
   have g3:qy a l+qy b m<=bb (wg a l) (jy b) r:=g1
   have g4:bb (wg a l) (jy b) r<=B:=g2
   omega
  ·rintro ⟨fl,hB⟩ he
   obtain ⟨z,hz,z0⟩:=wT b
   have fl':(wg a l).1<=r:=fl
   obtain ⟨o,ho,o1,eo⟩:=qi9 (one:=wg a l) (r:=r) hz (by omega)
   obtain ⟨m,hm,rfl⟩:=u3.mp ho
   have o2:qA b m<=r-qA a l:=o1
   have o3:bb (wg a l) (jy b) r=qy a l+qy b m:=eo
   have:l++m∈f l:=mP_.mpr ⟨m,List.mem_filter.mpr ⟨hm,by
    show (decide _&&decide _)=true
    rw [decide_eq_true (show qA a l+qA b m<=r by omega),decide_eq_true (show qy a l+qy b m=B by omega)]
    rfl⟩,rfl⟩
   rw [he] at this
   cases this
 have ff:qmY a b r=((zm a).filter fun l => !(f l).isEmpty).map (wg a):=by
  unfold qmY jy
  rw [List.filter_filter,ut]
  congr 1
  refine List.filter_congr fun l hl => ?_
  rw [fe l hl,Bool.and_comm]
  rfl
 cases h:(zm a).filter fun l => !(f l).isEmpty with
 | nil =>
  have z:(zm a).flatMap f=[]:=by
   rw [List.flatMap_eq_nil_iff]
   intro l hl
   have:=(List.filter_eq_nil_iff.mp h) l hl
   simpa using this
  rw [z] at e
  cases e
 | cons l t =>
  obtain ⟨s,es⟩:=qcP (zm a) h
  have hl:l∈zm a/\(!(f l).isEmpty)=true:=List.mem_filter.mp (by rw [h];exact mS_)
  rw [h,mC_] at ff
  refine ⟨wg a l,t.map (wg a),ff,?_⟩
  have bk:qmZ a b r (wg a l)=((zm b).filter (P l)).map (wg b):=by
   unfold qmZ jy
   rw [List.filter_filter,ut]
   congr 1
   refine List.filter_congr fun m _ => ?_
   rw [Bool.and_comm]
   rfl
  cases hm:(zm b).filter (P l) with
  | nil =>
   have:f l=[]:=by show ((zm b).filter (P l)).map _=[];rw [hm];rfl
   have h2:=hl.2
   rw [this] at h2
   cases h2
  | cons m ms =>
   rw [hm,mC_] at bk
   refine ⟨wg b m,ms.map (wg b),bk,?_⟩
   have fl:f l=(l++m)::ms.map fun m=>l++m:=by show ((zm b).filter (P l)).map _=_;rw [hm];rfl
   rw [es,fl] at e
   exact (List.cons.inj e).1
end
end L2.Sk.Law
namespace L2.Sk
namespace Law
open PySem PySem.Spec PyProof.Rows
set_option maxHeartbeats 4000000
theorem qom {t u:M Bool} {U:Env} (h1:t U = .ok (false,U)) (h2:u U = .ok (false,U)):tor t u U = .ok (false,U):=by rw [qfS,h1];exact h2
theorem qoV {t u:M Bool} {U:Env} (h1:t U = .ok (true,U)):tor t u U = .ok (true,U):=by rw [qfS,h1];rfl
theorem vf {F:List D->R D} {f g h:M D} {U:Env} {a b c d:D} (hf:f U = .ok (a,U)) (hg:g U = .ok (b,U)) (hh:h U = .ok (c,U)) (e:F [a,b,c] = .ok d):qo F (qa f (qa g (qa h (ret [])))) U = .ok (d,U):=qnK hf hg hh e
theorem qia (xs:List D) (j:Nat) (h:j<=xs.length):qe6 xs none (some (j:Int))=xs.take j:=by
 unfold qe6
 rw [HT.sIx_none,HT.sIx_nat,Nat.min_eq_left h]
 simp
theorem qib (xs:List D) (j:Nat) (h:j<=xs.length):qe6 xs (some (j:Int)) none=xs.drop j:=by
 unfold qe6
 rw [HT.sIx_none,HT.sIx_nat,Nat.min_eq_left h]
 exact List.take_of_length_le (by simp)
theorem vN {i:Nat} {f:M D} {U U1:Env} {d:D} (h:f U = .ok (d,U1)):zJ i f U = .ok (.nx (U1.set i (some d))):=by rw [vE,h]
theorem uH {f:M D} {U U1:Env} {d:D} (h:f U = .ok (d,U1)):jN f U = .ok (.rt d U1):=by rw [qa7,h]
theorem qaD {b:MS} {i:Nat} {U:Env} (hi:i<U.length):∀ (ds:List D) (o:Option D),(∀ d∈ds,b (U.set i (some d)) = .ok (.nx (U.set i (some d))))->∃ o',ua (qi i) b ds (U.set i o) = .ok (.nx (U.set i o'))
 | [],o,_=>⟨o,rfl⟩
 | d::ds,o,h=>by
  obtain ⟨o',q⟩:=qaD hi ds (some d) fun x hx=>h x (mM _ hx)
  refine ⟨o',?_⟩
  unfold ua
  have e:qi i d (U.set i o)=some (U.set i (some d)):=by
   show some ((U.set i o).set i (some d))=_
   rw [List.set_set]
  rw [e]
  simp only [h d mS_]
  exact q
theorem qic {fr:List Nat} {e:M D} {U r:Env} (n:Nat) (d:D) (hn:n<=1000) (hr:jM 1 fr U=none::r) (h:∀ i:Nat,i<n->e (some (.int i)::r) = .ok (d,some (.int i)::r)) :
  qV 1 fr none (z5 (qa (ret (.int (n:Int))) (ret []))) (qi 0) (ret true) e U = .ok (.lst (List.replicate n d),U):=by
 have e1:z5 (qa (ret (.int (n:Int))) (ret [])) U = .ok (qaS 0 n,U):=by
  have:=uo (l:=qa (ret (.int (n:Int))) (ret [])) (U:=U) (U1:=U) (j:=(n:Int)) rfl (by omega) (by omega)
  rw [this,Int.toNat_natCast]
 rw [qbl (r:=r) (k:=fun i:Nat=>D.int (0+(i:Nat))) (List.range n) (fun _=>d) (by rw [e1,qh3]) hr (by rw [lR_];omega) fun i hi => ?_]
 ·rw [List.map_const',lR_]
 ·have:=h i (mR_.mp hi)
  rw [show ((0:Int)+(i:Nat))=(i:Int) by omega]
  exact this
theorem qjb {fr:List Nat} {e f:M D} {U r:Env} {p:MS} (n:Nat) (d x:D) (hn:n<=1000) (hr:jM 1 fr U=none::r) (h:∀ i:Nat,i<n->e (some (.int i)::r) = .ok (d,some (.int i)::r)) (hf:f U = .ok (x,U)) (hx:neB (.lst (List.replicate n d)) x=some (.bl false)) :
  sif (tst (d2 neB (qV 1 fr none (z5 (qa (ret (.int (n:Int))) (ret []))) (qi 0) (ret true) e) f)) p yF U = .ok (.nx U) :=
 qkT (j8 (qq (qic n d hn hr h) hf hx))
def top (i:Nat):Stmt:=PySem.Challenge.pw_sackloads_k17_met_in_the_middle.main.body.getD i (.Pass ⟨0,0,0,0⟩)
abbrev z7:Stmt:=top 44
abbrev zM:Stmt:=top 30
abbrev jm:Stmt:=top 25
abbrev za:Stmt:=top 19
abbrev zN:Stmt:=top 26
abbrev jq:Stmt:=top 23
abbrev je:Stmt:=top 24
abbrev zF:Stmt:=top 27
abbrev jr:Stmt:=top 28
abbrev zp:Stmt:=top 22
abbrev yq:Stmt:=top 13
abbrev yr:Stmt:=top 14
abbrev uh:Stmt:=top 15
abbrev jP:Stmt:=top 16
abbrev z8:Stmt:=top 17
abbrev z9:Stmt:=top 29
abbrev ja:Stmt:=top 18
abbrev jb:Stmt:=top 31
abbrev zi:Stmt:=top 32
abbrev jQ:Stmt:=top 45
abbrev jR:Stmt:=top 37
abbrev yt:Stmt:=top 41
abbrev qO:Stmt:=top 42
abbrev zf:Stmt:=top 43
abbrev zU:Stmt:=top 38
abbrev zV:Stmt:=top 39
abbrev qY:Stmt:=top 40
abbrev yu:Stmt:=top 35
abbrev jS:Stmt:=top 34
abbrev yw:Stmt:=top 36
abbrev wJ:Stmt:=top 46
structure Txt (K:PySem.W.Frag) (mg:Str->Option Value):Prop where
 b_ValueError:mg "ValueError"=none
 b_abs:mg "abs"=none
 b_all:mg "all"=none
 b_bool:mg "bool"=none
 b_divmod:mg "divmod"=none
 b_int:mg "int"=none
 b_isinstance:mg "isinstance"=none
 b_len:mg "len"=none
 b_max:mg "max"=none
 b_min:mg "min"=none
 b_range:mg "range"=none
 b_repr:mg "repr"=none
 b_sorted:mg "sorted"=none
 b_sum:mg "sum"=none
 b_tuple:mg "tuple"=none
 b_zip:mg "zip"=none
 c_KINDS_AT_MOST:∃ t,mg "KINDS_AT_MOST"=some (.int 12 t)
 c_LOAD:∃ t,mg "LOAD"=some (.int 2 t)
 c_MOST:∃ t,mg "MOST"=some (.int 2 t)
 c_WEIGHT:∃ t,mg "WEIGHT"=some (.int 0 t)
 c_WORTH:∃ t,mg "WORTH"=some (.int 1 t)
def RN:List Str:=["NotSingle","NoStore","NoNumber"]
def TN:List Str:=["SackError","NoText","NotSingle","TooMany","NoLoad","NoNumber","NoStore"]
noncomputable def j9:MS :=
  (qR (sif (tor (qfx (tst (qeO RN "SackError" (dv 0)))) (qfx (tst (qeO RN "ValueError" (dv 0))))) (jN (ret (.str "other"))) yF)
  (qR (zJ 1 (jA (qa (qeO RN "NoStore" (dv 0)) (qa (qeO RN "NoNumber" (dv 0)) (qa (qeO RN "NoLoad" (dv 0)) (qa (qeO RN "TooMany" (dv 0)) (ret [])))))))
  (qR (zJ 1 (d2 ze (dv 1) (jA (qa (qeO RN "NotSingle" (dv 0)) (qa (qeO RN "NoText" (dv 0)) (ret []))))))
  (qR (sif (tst (d2 neS (qbJ qcC (dv 1) (qa (ret (.bl true)) (ret []))) (ret (.int 1)))) (jN (ret (.str "other"))) yF)
  (jN (d2 ixD (jA (qa (ret (.str "store")) (qa (ret (.str "number")) (qa (ret (.str "load")) (qa (ret (.str "many")) (qa (ret (.str "single")) (qa (ret (.str "text")) (ret [])))))))) (qbJ qcD (dv 1) (qa (ret (.bl true)) (ret [])))))))))
noncomputable def jc:List D->R D:=dfn 2 1 j9
noncomputable def uu:MS :=
  (qR (zJ 3 (d2 qc5 (dv 2) (d2 ixD (dv 0) (ret (.int 0)))))
  (jN (d2 ze (d2 ixD (dv 0) (ret (.int 1))) (qE wG (qa (qV 1 [3] none (jD (dv 1)) (qi 0) (tst (d2 leD (d2 ixD (dv 0) (ret (.int 0))) (dv 1))) (d2 ixD (dv 0) (ret (.int 1)))) (ret []))))))
noncomputable def zP:List D->R D:=dfn 4 3 uu
noncomputable def vp:MS :=
  (qR (zJ 1 (jA (qa (zW (ret [])) (ret []))))
  (qR (vR (jD (dv 0)) (qi 2) (qR (vY 3 (qiz (ret [])))
  (qR (vR (jD (dv 1)) (qi 4) (ye (uR 3 (qV 1 [4] none (z5 (qa (d2 ze (d2 ixD (dv 2) (ret (.int 2))) (ret (.int 1))) (ret []))) (qi 0) (ret true) (d2 ze (dv 1) (zW (qa (dv 0) (ret []))))))))
  (qhP 1 3))))
  (jN (dv 1))))
noncomputable def yK:List D->R D:=dfn 5 1 vp
noncomputable def yh:MS :=
  (jN (qE qlK (qa (qV 2 [2] none (qlZ (qa (dv 0) (qa (dv 1) (ret [])))) (qaN 2 (qZ (qi 0) (qZ (qi 1) qaM))) (ret true) (d2 yj (d2 ixD (dv 0) (dv 2)) (dv 1))) (ret []))))
noncomputable def zb:List D->R D:=dfn 3 3 yh
noncomputable def uv:MS :=
  (jN (qV 1 [0] none (jD (qo yK (qa (dv 0) (ret [])))) (qi 0) (ret true) (zW (qa (qo zb (qa (dv 1) (qa (dv 0) (qa (ret (.int 0)) (ret []))))) (qa (qo zb (qa (dv 1) (qa (dv 0) (qa (ret (.int 1)) (ret []))))) (qa (dv 0) (ret [])))))))
noncomputable def zq:List D->R D:=dfn 1 1 uv
noncomputable def uS:MS :=
  (jN (qkr (dv 0) (ret none) (qaR (d2 y8 (qE qb9 (qa (dv 0) (ret []))) (ret (.int 2))))))
noncomputable def js:List D->R D:=dfn 1 1 uS
noncomputable def uw:MS :=
  (jN (qkr (dv 0) (qaR (d2 y8 (qE qb9 (qa (dv 0) (ret []))) (ret (.int 2)))) (ret none)))
noncomputable def jH:List D->R D:=dfn 1 1 uw
noncomputable def yL:MS :=
  (jN (zW (qa (d2 ixD (dv 0) (ret (.int 0))) (qa (d1 qcv (d2 ixD (dv 0) (ret (.int 1)))) (qa (d2 ixD (dv 0) (ret (.int 2))) (ret []))))))
noncomputable def zG:List D->R D:=dfn 1 1 yL
noncomputable def uT:MS :=
  (qR (vY 1 (qiz (ret [])))
  (qR (vR (jD (qcJ zG (qo zq (qa (dv 0) (ret []))))) (qi 2) (sif (tor (qbM (tst (d2 eqB (dv 1) (jA (ret []))))) (tst (d2 gtD (d2 ixD (dv 2) (ret (.int 1))) (d2 ixD (qdb 1 (d1 qcv (ret (.int 1)))) (ret (.int 1)))))) (ye (jj 1 (dv 2))) yF))
  (qjU 1)))
noncomputable def ya:List D->R D:=dfn 3 1 uT
noncomputable def jf:MS :=
  (sif (qfx (tst (qE qe5 (qa (qV 1 [] none (jD (dv 0)) (qi 0) (ret true) (d2 inB (d2 ixD (dv 0) (ret (.int 2))) (zW (qa (ret (.int 0)) (qa (ret (.int 1)) (ret [])))))) (ret []))))) (qa8 "NotSingle" (qa (ret (.str "some kind is there more often than once")) (ret []))) yF)
noncomputable def jI:List D->R D:=qaT 1 1 jf
noncomputable def wd:MS :=
  (jN (qkP (qjM "int" (dv 0)) (qmT (qjM "bool" (dv 0)))))
noncomputable def u4:List D->R D:=dfn 1 1 wd
noncomputable def wf:MS :=
  (jN (qkP (qo u4 (qa (dv 0) (ret []))) (d2 geD (dv 0) (ret (.int 0)))))
noncomputable def jT:List D->R D:=dfn 1 1 wf
noncomputable def qaE:MS :=
  (qR (sif (tor (qfx (tst (qjM "tuple" (dv 0)))) (tst (d2 neB (qE qb9 (qa (dv 0) (ret []))) (ret (.int 3))))) (jN (ret (.bl false))) yF)
  (qR (sif (tor (qfx (tst (qo jT (qa (d2 ixD (dv 0) (ret (.int 0))) (ret []))))) (tst (d2 eqB (d2 ixD (dv 0) (ret (.int 0))) (ret (.int 0))))) (jN (ret (.bl false))) yF)
  (jN (qkP (qo jT (qa (d2 ixD (dv 0) (ret (.int 1))) (ret []))) (dor (d2 isN (d2 ixD (dv 0) (ret (.int 2))) (ret .non)) (qo jT (qa (d2 ixD (dv 0) (ret (.int 2))) (ret []))))))))
noncomputable def uU:List D->R D:=dfn 1 1 qaE
noncomputable def wj:MS :=
  (qR (sif (tor (qfx (tst (qjM "tuple" (dv 0)))) (tst (d2 gtD (qE qb9 (qa (dv 0) (ret []))) (ret (.int 12))))) (jN (ret (.bl false))) yF)
  (jN (qE qe5 (qa (qV 1 [] none (jD (dv 0)) (qi 0) (ret true) (qo uU (qa (dv 0) (ret [])))) (ret [])))))
noncomputable def u5:List D->R D:=dfn 1 1 wj
noncomputable def yT:MS :=
  (sif (qfx (tst (qo u5 (qa (dv 0) (ret []))))) (qa8 "NoStore" (qa (ret (.str "this is no store")) (ret []))) yF)
noncomputable def yb:List D->R D:=qaT 1 1 yT
noncomputable def yc:MS :=
  (qR (ye (yH RN yb (qa (dv 0) (ret []))))
  (qR (ye (yH RN jI (qa (dv 0) (ret []))))
  (jN (zW (qa (qo ya (qa (qo js (qa (dv 0) (ret []))) (ret []))) (qa (qo ya (qa (qo jH (qa (dv 0) (ret []))) (ret []))) (ret [])))))))
noncomputable def jt:List D->R D:=qaT 1 1 yc
noncomputable def yd:MS :=
  (sif (qfx (tst (qo jT (qa (dv 0) (ret []))))) (qa8 "NoNumber" (qa (ret (.str "this is no whole number from 0 on")) (ret []))) yF)
noncomputable def ju:List D->R D:=qaT 1 1 yd
noncomputable def jU:MS :=
  (qR (ye (yH RN yb (qa (dv 0) (ret []))))
  (qR (ye (yH RN ju (qa (dv 1) (ret []))))
  (qR (zJ 2 (yH RN jt (qa (dv 0) (ret []))))
  (jN (qE wG (qa (qV 1 [1,2] none (jD (d2 ixD (dv 2) (ret (.int 0)))) (qi 0) (tst (d2 leD (d2 ixD (dv 0) (ret (.int 0))) (dv 1))) (qo zP (qa (dv 0) (qa (d2 ixD (dv 2) (ret (.int 1))) (qa (dv 1) (ret [])))))) (ret [])))))))
noncomputable def zu:List D->R D:=qaT 3 2 jU
noncomputable def ui:MS :=
  (qR (zJ 2 (yH RN zu (qa (dv 0) (qa (dv 1) (ret [])))))
  (qR (zJ 3 (qo zq (qa (qo jH (qa (dv 0) (ret []))) (ret []))))
  (qR (zJ 4 (qV 1 [1] none (jD (qo zq (qa (qo js (qa (dv 0) (ret []))) (ret [])))) (qi 0) (tst (d2 leD (d2 ixD (dv 0) (ret (.int 0))) (dv 1))) (dv 0)))
  (qR (zJ 5 (d2 ixD (qV 1 [2,3,1] none (jD (dv 4)) (qi 0) (tst (d2 eqB (qo zP (qa (dv 0) (qa (dv 2) (qa (dv 3) (ret []))))) (dv 1))) (dv 0)) (ret (.int 0))))
  (qR (zJ 6 (qV 1 [1,5] none (jD (dv 3)) (qi 0) (tst (d2 leD (d2 ze (d2 ixD (dv 2) (ret (.int 0))) (d2 ixD (dv 0) (ret (.int 0)))) (dv 1))) (dv 0)))
  (qR (zJ 7 (d2 ixD (qV 1 [2,5] none (jD (dv 6)) (qi 0) (tst (d2 eqB (d2 ze (d2 ixD (dv 2) (ret (.int 1))) (d2 ixD (dv 0) (ret (.int 1)))) (dv 1))) (dv 0)) (ret (.int 0))))
  (jN (d2 ze (d2 ixD (dv 5) (ret (.int 2))) (d2 ixD (dv 7) (ret (.int 2)))))))))))
noncomputable def yx:List D->R D:=qaT 8 2 ui
noncomputable def jV:MS :=
  (qf8 RN (qR (sif (tst (d2 eqB (dv 0) (ret (.int 0)))) (jN (yH RN zu (qa (dv 1) (qa (dv 2) (ret []))))) yF)
  (jN (yH RN yx (qa (dv 1) (qa (dv 2) (ret [])))))) jc)
noncomputable def ql:List D->R D:=dfn 4 3 jV
noncomputable def ux:MS :=
  (qR (qhf (qE qae (qa (qdb 0 (ret (.int 0))) (qa (dv 1) (ret [])))) (qaN 2 (qZ (qi 2) (qZ (qi 3) qaM))))
  (qR (qht 0 (ret (.int 0)) (dv 2))
  (jN (dv 3))))
noncomputable def qf:List D->List D->R (D×List D):=vZ 4 2 ux
noncomputable def wm:MS :=
  (qR (zJ 3 (ret (.int 0)))
  (qR (vR (z5 (qa (qE qb9 (qa (dv 0) (ret []))) (ret []))) (qi 4) (zJ 3 (d2 ze (dv 3) (d2 yj (d2 ixD (d2 ixD (dv 0) (dv 4)) (dv 2)) (d2 ixD (dv 1) (dv 4))))))
  (jN (dv 3))))
noncomputable def zH:List D->R D:=dfn 5 3 wm
noncomputable def yi:MS :=
  (qR (zJ 2 (jA (qa (zW (qa (zW (ret [])) (qa (dv 1) (ret [])))) (ret []))))
  (qR (vR (jD (dv 0)) (qaN 3 (qZ (qi 3) (qZ (qi 4) (qZ (qi 5) qaM)))) (qR (zJ 6 (jA (ret [])))
  (qR (vR (jD (dv 2)) (qaN 2 (qZ (qi 7) (qZ (qi 8) qaM))) (qR (zJ 9 (d2 y8 (dv 8) (dv 3)))
  (qR (sif (tst (d2 qhi (dv 5) (ret .non))) (zJ 9 (qE vi (qa (dv 9) (qa (dv 5) (ret []))))) yF)
  (zJ 6 (d2 ze (dv 6) (qV 1 [7,8,3] none (z5 (qa (d2 ze (dv 9) (ret (.int 1))) (ret []))) (qi 0) (ret true) (zW (qa (d2 ze (dv 1) (zW (qa (dv 0) (ret [])))) (qa (d2 qc5 (dv 2) (d2 yj (dv 0) (dv 3))) (ret []))))))))))
  (zJ 2 (dv 6)))))
  (jN (qV 2 [] none (jD (dv 2)) (qaN 2 (qZ (qi 0) (qZ (qi 1) qaM))) (ret true) (dv 0)))))
noncomputable def zT:List D->R D:=dfn 10 2 yi
noncomputable def yX:MS :=
  (qR (zJ 2 (qo zT (qa (dv 0) (qa (dv 1) (ret [])))))
  (qR (zJ 3 (qV 1 [0] none (jD (dv 2)) (qi 0) (ret true) (qo zH (qa (dv 1) (qa (dv 0) (qa (ret (.int 1)) (ret [])))))))
  (jN (zW (qa (qE wG (qa (dv 3) (ret []))) (qa (d2 ixD (dv 2) (qbJ qbf (dv 3) (qa (qE wG (qa (dv 3) (ret []))) (ret [])))) (qa (qbJ qbd (dv 3) (qa (qE wG (qa (dv 3) (ret []))) (ret []))) (ret []))))))))
noncomputable def zg:List D->R D:=dfn 4 2 yX
noncomputable def jY:MS :=
  (qR (zJ 2 (qk qf 0 (qa (ret (.int 6)) (ret []))))
  (qR (qj5 3 4 (qa (d2 ze (ret (.int 1)) (qk qf 0 (qa (ret (.int 7)) (ret [])))) (qa (qk qf 0 (qa (ret (.int 10)) (ret []))) (ret []))))
  (qR (sif (tst (d2 eqB (dv 2) (ret (.int 1)))) (zJ 4 (d2 yj (ret (.int 2)) (dv 3))) yF)
  (qR (sif (tst (d2 eqB (dv 2) (ret (.int 2)))) (zJ 4 (d2 ze (dv 3) (qk qf 0 (qa (ret (.int 3)) (ret []))))) yF)
  (qR (sif (tst (d2 eqB (dv 2) (ret (.int 3)))) (qj5 3 4 (qa (d2 ze (ret (.int 1)) (qk qf 0 (qa (ret (.int 25)) (ret [])))) (qa (qk qf 0 (qa (ret (.int 40)) (ret []))) (ret [])))) yF)
  (qR (zJ 5 (d2 ixD (jA (qa (ret (.int 1)) (qa (ret (.int 1)) (qa (ret (.int 1)) (qa (ret (.int 2)) (qa (ret (.int 3)) (qa (ret (.int 0)) (qa (ret (.int 5)) (qa (dv 1) (ret [])))))))))) (qk qf 0 (qa (ret (.int 8)) (ret [])))))
  (jN (zW (qa (dv 3) (qa (dv 4) (qa (dv 5) (ret []))))))))))))
noncomputable def zv:List D->List D->R (D×List D):=vZ 6 2 jY
noncomputable def jZ:MS :=
  (qR (vY 3 (qiz (ret [])))
  (qR (vR (z5 (qa (qk qf 0 (qa (d2 ze (dv 1) (ret (.int 1))) (ret []))) (ret []))) (qi 4) (qR (zJ 5 (qk zv 0 (qa (dv 2) (ret []))))
  (qR (sif (qjE (tst (qiD 3 (jA (ret [])))) (tst (d2 eqB (qk qf 0 (qa (ret (.int 7)) (ret []))) (ret (.int 6))))) (zJ 5 (qdb 3 (qk qf 0 (qa (qcs 3) (ret []))))) yF)
  (ye (jj 3 (dv 5))))))
  (jN (qeF 3))))
noncomputable def jh:List D->List D->R (D×List D):=vZ 6 3 jZ
noncomputable def zZ:MS :=
  (qR (vY 3 (qiz (ret [])))
  (qR (vR (jD (qk jh 0 (qa (dv 1) (qa (ret (.int 1)) (ret []))))) (qaN 3 (qZ (qi 4) (qZ (qi 5) (qZ (qi 6) qaM)))) (ye (jj 3 (zW (qa (d2 ze (d2 yj (dv 4) (dv 2)) (qk qf 0 (qa (dv 2) (ret [])))) (qa (d2 ze (d2 yj (dv 5) (dv 2)) (qk qf 0 (qa (dv 2) (ret [])))) (qa (qE vi (qa (dv 6) (qa (ret (.int 1)) (ret [])))) (ret []))))))))
  (jN (qeF 3))))
noncomputable def qM:List D->List D->R (D×List D):=vZ 7 3 zZ
noncomputable def wn:MS :=
  (qR (zJ 2 (jA (qa (ret (.int 48271)) (qa (ret (.int 69621)) (qa (ret (.int 16807)) (qa (ret (.int 39373)) (qa (ret (.int 30269)) (qa (ret (.int 40014)) (qa (ret (.int 40692)) (qa (ret (.int 50021)) (qa (ret (.int 61687)) (qa (ret (.int 71993)) (qa (ret (.int 83869)) (qa (ret (.int 95561)) (qa (ret (.int 30307)) (ret []))))))))))))))))
  (qR (zJ 3 (d2 ze (d2 ze (d2 yj (d2 ze (d2 qis (dv 0) (ret (.int 2147483647))) (ret (.int 12345))) (d2 ixD (dv 2) (d2 qis (dv 1) (ret (.int 13))))) (d2 yj (ret (.int 977)) (dv 1))) (d2 yj (ret (.int 7919)) (d2 y8 (dv 1) (ret (.int 13))))))
  (qR (zJ 3 (d2 qis (dv 3) (ret (.int 1000000007))))
  (jN (d2 y8 (d2 qis (d2 ze (d2 yj (dv 3) (dv 3)) (d2 yj (ret (.int 48271)) (dv 1))) (ret (.int 1000000007))) (ret (.int 7)))))))
noncomputable def yy:List D->R D:=dfn 4 2 wn
noncomputable def uy:MS :=
  (qR (sif (tst (d2 ltD (dv 1) (qE qb9 (qa (dv 0) (ret []))))) (jN (d2 ixD (dv 0) (dv 1))) yF)
  (jN (ret (.int 0))))
noncomputable def jW:List D->R D:=dfn 2 2 uy
noncomputable def u6:MS :=
  (qR (zJ 2 (qo jW (qa (dv 0) (qa (dv 1) (ret [])))))
  (qR (sif (tst (d2 eqB (d2 qis (dv 2) (ret (.int 2))) (ret (.int 0)))) (jN (jA (qa (d2 y8 (qE qmU (qa (dv 2) (ret []))) (ret (.int 2))) (ret [])))) yF)
  (qR (zJ 3 (ret (.int 0)))
  (qR (vR (z5 (qa (ret (.int 40)) (ret []))) (qi 4) (zJ 3 (d2 ze (d2 yj (dv 3) (ret (.int 142857143))) (qo yy (qa (dv 2) (qa (dv 4) (ret [])))))))
  (jN (jA (qa (dv 3) (ret []))))))))
noncomputable def jv:List D->R D:=dfn 5 2 u6
noncomputable def qkE:MS :=
  (qR (vR (z5 (qa (qE qbw (qa (ret (.int 1)) (qa (qE vi (qa (qE qb9 (qa (dv 0) (ret []))) (qa (ret (.int 3)) (ret [])))) (ret [])))) (ret []))) (qi 1) (qR (vY 2 (qcw jv (qa (dv 0) (qa (dv 1) (ret [])))))
  (qR (zJ 3 (qk qM 2 (qa (d2 ixD (jA (qa (ret (.int 8)) (qa (ret (.int 6)) (qa (ret (.int 6)) (ret []))))) (dv 1)) (qa (d2 ixD (jA (qa (ret (.int 1)) (qa (ret (.int 1)) (qa (d2 qdR (ret (.int 10)) (ret (.int 20))) (ret []))))) (qk qf 2 (qa (ret (.int 3)) (ret [])))) (ret [])))))
  (qR (zJ 4 (qE qaf (qa (qV 1 [2] (some (1,2)) (jD (dv 3)) (qi 0) (ret true) (qk qf 1 (qa (d2 ze (ret (.int 1)) (d2 ixD (dv 0) (ret (.int 2)))) (ret [])))) (ret []))))
  (qR (zJ 5 (qo zH (qa (dv 3) (qa (dv 4) (qa (ret (.int 0)) (ret []))))))
  (qR (vR (jD (jA (qa (ret (.int 0)) (qa (dv 5) (qa (d2 ze (dv 5) (qk qf 2 (qa (ret (.int 5)) (ret [])))) (qa (qE qbw (qa (ret (.int 0)) (qa (d2 qc5 (dv 5) (ret (.int 1))) (ret [])))) (qa (d2 qdR (ret (.int 10)) (ret (.int 29))) (ret [])))))))) (qi 6) (qR (qhf (qo zg (qa (dv 3) (qa (dv 6) (ret [])))) (qaN 3 (qZ (qi 7) (qZ (qi 8) (qZ (qi 9) qaM)))))
  (sif (tor (tst (d2 neB (qE jL (qa (qo ql (qa (ret (.int 0)) (qa (dv 3) (qa (dv 6) (ret []))))) (ret []))) (qE jL (qa (dv 7) (ret []))))) (tst (d2 neB (qE jL (qa (qo ql (qa (ret (.int 1)) (qa (dv 3) (qa (dv 6) (ret []))))) (ret []))) (qE jL (qa (dv 8) (ret [])))))) (jN (ret (.bl false))) yF)))
  (qR (vR (jD (jA (qa (zW (qa (ret (.int 1)) (qa (ret (.int 1)) (qa (ret (.int 2)) (ret []))))) (qa (zW (qa (ret (.int 1)) (qa (ret (.int 1)) (qa (ret .non) (ret []))))) (ret []))))) (qi 10) (sif (tst (d2 neB (qV 1 [5,3,10] none (z5 (qa (ret (.int 2)) (ret []))) (qi 0) (ret true) (qo ql (qa (dv 0) (qa (d2 ze (dv 2) (zW (qa (dv 3) (ret [])))) (qa (dv 1) (ret [])))))) (d2 yj (jA (qa (ret (.str "single")) (ret []))) (ret (.int 2))))) (jN (ret (.bl false))) yF))
  (vR (jD (jA (qa (d1 qcv (ret (.int 1))) (qa (ret .non) (qa (ret (.bl true)) (qa (ret (.str "1")) (qa (zW (qa (ret (.int 1)) (ret []))) (ret [])))))))) (qi 11) (sif (tst (d2 neB (qV 1 [11,3] none (z5 (qa (ret (.int 2)) (ret []))) (qi 0) (ret true) (qo ql (qa (dv 0) (qa (d2 ze (dv 2) (zW (qa (zW (qa (ret (.int 1)) (qa (ret (.int 1)) (qa (ret (.int 2)) (ret []))))) (ret [])))) (qa (dv 1) (ret [])))))) (d2 yj (jA (qa (ret (.str "number")) (ret []))) (ret (.int 2))))) (jN (ret (.bl false))) yF)))))))))
  (jN (ret (.bl true))))
noncomputable def qdv:List D->R D:=dfn 12 1 qkE
local macro_rules | `(tactic| push_cast [$xs,*]) => `(tactic| simp only [yf, qdd, qoa, yV, qaq, qdS, qiG, qnv, qnw, qar, vC, qiH, qka, wA, qdT, qiI, qfS, qiJ, ql7, qiK, ql8, qhB, qa7, vE, qfT, vm, qiM, qiN, qfU, yG, qcy, qfV, qfW, qas, qfX, qfY, qfZ, qf0, qf1, qiO, vF, ql9, qbE, lC_, lN_, mC_, List.map_nil, List.replicate, List.nil_append, List.cons_append, List.append_nil, List.getElem?_cons_zero, List.getElem?_cons_succ, List.set_cons_zero, List.set_cons_succ, Nat.reduceAdd, Nat.reduceSub, Nat.sub_self, Nat.zero_add, reduceIte, Bool.not_true, Bool.not_false, Bool.false_eq_true, if_true, if_false, ite_true, ite_false, cond_true, cond_false, decide_true, decide_false, ix0, ix1, ix2, qav, yS, qdm, yW, qgp, qdn, qaw, qgq, v6, qi1, qi2, ul, qd4, qd5, qiX, qbL, qf2, $xs,*])
theorem qbX (d:D):u4 [d] = .ok (.bl (qkw d)):=by
 unfold u4 wd
 refine v7 rfl ⟨[some d],?_⟩
 push_cast []
 cases d<;>rfl
theorem jJ (d:D):jT [d] = .ok (.bl (jk d)):=by
 unfold jT wf
 refine v7 rfl ⟨[some d],?_⟩
 push_cast []
 rw [qbX]
 cases d<;>rfl
theorem qcQ (d:D):uU [d] = .ok (.bl (vd d)):=by
 unfold uU qaE
 refine v7 rfl ⟨[some d],?_⟩
 cases d with
 | tup ds =>
  by_cases h:ds.length=3
  ·obtain ⟨a,b,c,rfl⟩:=qoR h
   refine (qp (U':=[some (.tup [a,b,c])]) rfl).trans ?_
   by_cases hp:qgr a=true
   ·refine (qp (U':=[some (.tup [a,b,c])]) ?_).trans ?_
    ·cases a with
     | int i =>
      have h2:0<i:=of_decide_eq_true hp
      have h0:0<=i:=by omega
      have h1:¬ i=0:=by omega
      push_cast [ix0,jJ,jk,yW,wA,h0,h1,decide_true,decide_false]
     | _=>exact absurd hp (by simp [qgr])
    ·push_cast [ix1,ix2,jJ,qgp,vd,hp,wA,Bool.true_and]
     cases hb:jk b<;>cases hc:uF c<;>rfl
   ·refine (qbk (d := .bl false) (U':=[some (.tup [a,b,c])]) ?_).trans ?_
    ·cases a with
     | int i =>
      have h2:¬ 0<i:=fun z=>hp (decide_eq_true z)
      push_cast [ix0,jJ,jk,yW,wA]
      by_cases h0:0<=i
      ·have h1:i=0:=by omega
       subst h1;rfl
      ·simp only [h0,decide_false]
       rfl
     | _=>rfl
    ·have hp':qgr a=false:=by simpa using hp
     simp only [vd,hp',Bool.false_and]
  ·refine (qbk (d := .bl false) (U':=[some (.tup ds)]) ?_).trans ?_
   ·push_cast []
    have h3:¬ ((ds.length:Int)=3):=by omega
    simp only [qav,yS,qdm,h3,decide_false,wA]
    rfl
   ·rw [qeT h]
 | _=>rfl
theorem qbY (d:D):u5 [d] = .ok (.bl (yI d)):=by
 unfold u5 wj
 refine v7 rfl ⟨[some d],?_⟩
 cases d with
 | tup ds =>
  by_cases h:ds.length<=12
  ·have h2:¬ ((12:Int)<(ds.length:Int)):=by omega
   refine (qp (U':=[some (.tup ds)]) ?_).trans ?_
   ·push_cast [qav,yS,qaw,h2,decide_false,wA]
   ·rw [qa7,qkx (F:=uU) (f:=vd) (xs:=jD (dv 0)) (ds:=ds) (U:=[some (.tup ds)]) rfl (fun d _=>qcQ d) (by omega)]
    simp only [yI,h,decide_true,Bool.true_and]
  ·have h2:((12:Int)<(ds.length:Int)):=by omega
   refine (qbk (d := .bl false) (U':=[some (.tup ds)]) ?_).trans ?_
   ·push_cast [qav,yS,qaw,h2,decide_true,wA]
   ·simp only [yI,h,decide_false,Bool.false_and]
 | _=>rfl
theorem sm1:qQ 1=true:=zh (by omega)
theorem jK (d:D) (h:yI d=true):yb [d] = .ok .non:=by
 unfold yb
 refine qgb rfl ⟨[some d],?_⟩
 unfold yT
 push_cast [qbY,h]
theorem vO (d:D) (h:jk d=true):ju [d] = .ok .non:=by
 unfold ju
 refine qgb rfl ⟨[some d],?_⟩
 unfold yd
 push_cast [jJ,h]
theorem qcR (d:D) (h:jk d=false):ju [d] = .exc ⟨"NoNumber",.non⟩ [some d]:=by
 unfold ju
 refine qbe rfl ?_
 unfold yd
 push_cast [jJ,h,sm1]
theorem qjc {p:MS} {F:List D->R D} {U U':Env} {d:D} (h:p U = .ok (.rt d U')):qf8 RN p F U = .ok (.rt d U'):=by rw [qiW,h]
theorem qmB {p:MS} {F:List D->R D} {U U':Env} {d v:D} {n:Str} (h:p U = .exc ⟨n,v⟩ U') (hn:RN.contains n=true) (hF:F [.exc n] = .ok d):qf8 RN p F U = .ok (.rt d U'):=by
 rw [qiW,h]
 simp only [hn,if_true,hF]
theorem jn {n m:Int} (h0:0<m) (h1:m<1606938044258990275541962092341162602522202993782792835301376):qf [.int n] [.int m] = .ok (.int (n%m),[.int (n/m)]):=by
 unfold qf
 refine qdU (U:=[some (.lst [.int (n/m)]),some (.int m),some (.int (n/m)),some (.int (n%m))]) rfl ?_ rfl
 unfold ux
 refine (qp (U':=[some (.lst [.int n]),some (.int m),some (.int (n/m)),some (.int (n%m))]) ?_).trans ?_
 ·push_cast [at0,qgs h0 h1,qaN,qZ,qi,qaM,Option.bind_some]
 ·refine (qp (U':=[some (.lst [.int (n/m)]),some (.int m),some (.int (n/m)),some (.int (n%m))]) ?_).trans rfl
  push_cast [qoS,imm]
theorem qeY (n:Int) (c:D):∃ a b m n',zv [.int n] [c] = .ok (.tup [.int a,.int b,m],[.int n'])/\1<=a/\a<=25/\0<=b/\b<=39/\qhW c m:=by
 have s2:∀ n k:Int,∃ n' a b,(qj5 3 4 (qa (d2 ze (ret (.int 1)) (qk qf 0 (qa (ret (.int 7)) (ret [])))) (qa (qk qf 0 (qa (ret (.int 10)) (ret []))) (ret [])))) [some (.lst [.int n]),some c,some (.int k),none,none,none] = .ok (.nx [some (.lst [.int n']),some c,some (.int k),some (.int a),some (.int b),none])/\1<=a/\a<=7/\0<=b/\b<=9:=by
  intro n k
  refine ⟨n/7/10,1+n%7,n/7%10,?_,by omega,by omega,by omega,by omega⟩
  push_cast [jn (m:=7) (by decide) (by decide),jn (m:=10) (by decide) (by decide),zx]
 have s3:∀ n k a b:Int,1<=a->a<=7->0<=b->b<=9->∃ b',(sif (tst (d2 eqB (dv 2) (ret (.int 1)))) (zJ 4 (d2 yj (ret (.int 2)) (dv 3))) yF) [some (.lst [.int n]),some c,some (.int k),some (.int a),some (.int b),none] = .ok (.nx [some (.lst [.int n]),some c,some (.int k),some (.int a),some (.int b'),none])/\0<=b'/\b'<=14:=by
  intro n k a b h1 h2 h3 h4
  by_cases hk:k=1
  ·refine ⟨2*a,?_,by omega,by omega⟩
   push_cast [hk,qoT]
  ·refine ⟨b,?_,by omega,by omega⟩
   push_cast [hk]
 have s4:∀ n k a b:Int,1<=a->a<=7->0<=b->b<=14->∃ n' b',(sif (tst (d2 eqB (dv 2) (ret (.int 2)))) (zJ 4 (d2 ze (dv 3) (qk qf 0 (qa (ret (.int 3)) (ret []))))) yF) [some (.lst [.int n]),some c,some (.int k),some (.int a),some (.int b),none] = .ok (.nx [some (.lst [.int n']),some c,some (.int k),some (.int a),some (.int b'),none])/\0<=b'/\b'<=14:=by
  intro n k a b h1 h2 h3 h4
  by_cases hk:k=2
  ·refine ⟨n/3,a+n%3,?_,by omega,by omega⟩
   push_cast [hk,zx,jn (m:=3) (by decide) (by decide)]
  ·refine ⟨n,b,?_,by omega,by omega⟩
   push_cast [hk]
 have s5:∀ n k a b:Int,1<=a->a<=7->0<=b->b<=14->∃ n' a' b',(sif (tst (d2 eqB (dv 2) (ret (.int 3)))) (qj5 3 4 (qa (d2 ze (ret (.int 1)) (qk qf 0 (qa (ret (.int 25)) (ret [])))) (qa (qk qf 0 (qa (ret (.int 40)) (ret []))) (ret [])))) yF) [some (.lst [.int n]),some c,some (.int k),some (.int a),some (.int b),none] = .ok (.nx [some (.lst [.int n']),some c,some (.int k),some (.int a'),some (.int b'),none])/\1<=a'/\a'<=25/\0<=b'/\b'<=39:=by
  intro n k a b h1 h2 h3 h4
  by_cases hk:k=3
  ·refine ⟨n/25/40,1+n%25,n/25%40,?_,by omega,by omega,by omega,by omega⟩
   push_cast [hk,zx,jn (m:=25) (by decide) (by decide),jn (m:=40) (by decide) (by decide)]
  ·refine ⟨n,a,b,?_,by omega,by omega,by omega,by omega⟩
   push_cast [hk]
 have s6:∀ n k a b:Int,∃ n' m,(zJ 5 (d2 ixD (jA (qa (ret (.int 1)) (qa (ret (.int 1)) (qa (ret (.int 1)) (qa (ret (.int 2)) (qa (ret (.int 3)) (qa (ret (.int 0)) (qa (ret (.int 5)) (qa (dv 1) (ret [])))))))))) (qk qf 0 (qa (ret (.int 8)) (ret []))))) [some (.lst [.int n]),some c,some (.int k),some (.int a),some (.int b),none] = .ok (.nx [some (.lst [.int n']),some c,some (.int k),some (.int a),some (.int b),some m])/\qhW c m:=by
  intro n k a b
  obtain ⟨m,hm,e⟩:=qgt (ds:=[.int 1,.int 1,.int 1,.int 2,.int 3,.int 0,.int 5,c]) (k:=n%8) (by omega) (by simp;omega)
  refine ⟨n/8,m,?_,?_⟩
  ·push_cast [jn (m:=8) (by decide) (by decide),zh (show 8<=1000000 by omega),e]
  ·simp only [List.mem_cons,nN_,or_false] at hm
   rcases hm with h | h | h | h | h | h | h | h
   ·exact .inr ⟨_,h,by omega,by omega⟩
   ·exact .inr ⟨_,h,by omega,by omega⟩
   ·exact .inr ⟨_,h,by omega,by omega⟩
   ·exact .inr ⟨_,h,by omega,by omega⟩
   ·exact .inr ⟨_,h,by omega,by omega⟩
   ·exact .inr ⟨_,h,by omega,by omega⟩
   ·exact .inr ⟨_,h,by omega,by omega⟩
   ·exact .inl h
 obtain ⟨n2,a2,b2,e2,p2,q2,r2,t2⟩:=s2 (n/6) (n%6)
 obtain ⟨b3,e3,r3,t3⟩:=s3 n2 (n%6) a2 b2 p2 q2 r2 t2
 obtain ⟨n4,b4,e4,r4,t4⟩:=s4 n2 (n%6) a2 b3 p2 q2 r3 t3
 obtain ⟨n5,a5,b5,e5,p5,q5,r5,t5⟩:=s5 n4 (n%6) a2 b4 p2 q2 r4 t4
 obtain ⟨n6,m,e6,g6⟩:=s6 n5 (n%6) a5 b5
 refine ⟨a5,b5,m,n6,?_,p5,q5,r5,t5,g6⟩
 unfold zv
 refine qdU (U:=[some (.lst [.int n6]),some c,some (.int (n%6)),some (.int a5),some (.int b5),some m]) rfl ?_ rfl
 unfold jY
 refine (qp (U':=[some (.lst [.int (n/6)]),some c,some (.int (n%6)),none,none,none]) ?_).trans ?_
 ·push_cast [jn (m:=6) (by decide) (by decide)]
 refine (qp e2).trans ?_
 refine (qp e3).trans ?_
 refine (qp e4).trans ?_
 refine (qp e5).trans ?_
 refine (qp e6).trans ?_
 push_cast [zh (show 3<=1000000 by omega)]
theorem qkF (ns:List Int) (i:Int) (h0:0<=i):∃ x,jW [.fz ns,.int i] = .ok (.int x):=by
 by_cases h:i<ns.length
 ·obtain ⟨j,rfl⟩:=Int.eq_ofNat_of_zero_le h0
  have hj:j<ns.length:=by omega
  have e:ixD (.fz ns) (.int (j:Int))=some (.int ns[j]):=by
   show (atI ns (j:Int)).map D.int=_
   unfold atI ixN
   rw [if_pos (by omega),if_pos (by omega)]
   show (ns[(j:Int).toNat]?).map D.int=_
   rw [Int.toNat_natCast,gG hj];rfl
  refine ⟨ns[j],?_⟩
  unfold jW uy
  refine v7 rfl ⟨[some (.fz ns),some (.int (j:Int))],?_⟩
  refine (qbk (d := .int ns[j]) (U':=[some (.fz ns),some (.int (j:Int))]) ?_)
  push_cast [e,qb9,h]
 ·refine ⟨0,?_⟩
  unfold jW uy
  refine v7 rfl ⟨[some (.fz ns),some (.int i)],?_⟩
  refine (qp (U':=[some (.fz ns),some (.int i)]) ?_).trans rfl
  push_cast [qb9,h]
theorem qmC (x j:Int) (h0:0<=j) (h1:j<40):∃ v,yy [.int x,.int j] = .ok (.int v):=by
 obtain ⟨m,hm,e⟩:=qgt (ds:=[.int 48271,.int 69621,.int 16807,.int 39373,.int 30269,.int 40014,.int 40692,.int 50021,.int 61687,.int 71993,.int 83869,.int 95561,.int 30307]) (k:=j%13) (by omega) (by simp;omega)
 have hm2:∃ c,m = .int c/\yB c=true:=by
  have:m∈facts.map D.int:=hm
  obtain ⟨c,hc,rfl⟩:=mP_.mp this
  exact ⟨c,rfl,List.all_eq_true.mp (show facts.all yB=true by decide) c hc⟩
 obtain ⟨c,rfl,hc⟩:=hm2
 have f3:∀ s:Int,yB (s%1000000007)=true:=fun s=>v8 (by omega) (by omega)
 have f977:yB 977=true:=by decide
 have f79:yB 7919=true:=by decide
 have f48:yB 48271=true:=by decide
 let L:D := .lst [.int 48271,.int 69621,.int 16807,.int 39373,.int 30269,.int 40014,.int 40692,.int 50021,.int 61687,.int 71993,.int 83869,.int 95561,.int 30307]
 let s1:Int:=(x%2147483647+12345)*c+977*j+7919*(j/13)
 let s2:Int:=s1%1000000007
 refine ⟨(s2*s2+48271*j)%1000000007/7,?_⟩
 unfold yy wn
 refine v7 rfl ⟨[some (.int x),some (.int j),some L,some (.int s2)],?_⟩
 refine (qp (U':=[some (.int x),some (.int j),some L,none]) ?_).trans ?_
 ·push_cast [zh (show 13<=1000000 by omega)]
  rfl
 refine (qp (U':=[some (.int x),some (.int j),some L,some (.int s1)]) ?_).trans ?_
 ·push_cast [L,uZ (j:=2147483647) (by decide),uZ (j:=13) (by decide),zx,e,qhY hc,qdp f977,qdp f79,ue (j:=13) (by decide) (by decide)]
  rfl
 refine (qp (U':=[some (.int x),some (.int j),some L,some (.int s2)]) ?_).trans ?_
 ·push_cast [uZ (j:=1000000007) (by decide),s2]
 ·push_cast [uZ (j:=1000000007) (by decide),s2,zx,qdp (f3 _),qdp f48,ue (j:=7) (by decide) (by decide)]
theorem qek (A B:Option D) (x:Int):∀ (ds:List D) (s:Int) (o:Option D),(∀ d∈ds,∃ j:Int,d = .int j/\0<=j/\j<40)->∃ s' o',ua (qi 4) (zJ 3 (d2 ze (d2 yj (dv 3) (ret (.int 142857143))) (qo yy (qa (dv 2) (qa (dv 4) (ret [])))))) ds [A,B,some (.int x),some (.int s),o] = .ok (.nx [A,B,some (.int x),some (.int s'),o'])
 | [],s,o,_=>⟨s,o,rfl⟩
 | d::ds,s,o,h=>by
  obtain ⟨j,rfl,h0,h1⟩:=h d mS_
  obtain ⟨v,e⟩:=qmC x j h0 h1
  obtain ⟨s',o',q⟩:=qek A B x ds (s*142857143+v) (some (.int j)) fun y hy=>h y (mM _ hy)
  refine ⟨s',o',?_⟩
  have st:(zJ 3 (d2 ze (d2 yj (dv 3) (ret (.int 142857143))) (qo yy (qa (dv 2) (qa (dv 4) (ret [])))))) [A,B,some (.int x),some (.int s),some (.int j)] = .ok (.nx [A,B,some (.int x),some (.int (s*142857143+v)),some (.int j)]):=by
   push_cast [e,qhY (j:=142857143) (by decide),zx]
  unfold ua
  simp only [qi,List.set_cons_zero,List.set_cons_succ,st]
  exact q
theorem qmD (ns:List Int) (i:Int) (h0:0<=i):∃ n,jv [.fz ns,.int i] = .ok (.lst [.int n]):=by
 obtain ⟨x,e⟩:=qkF ns i h0
 have s1:(zJ 2 (qo jW (qa (dv 0) (qa (dv 1) (ret []))))) [some (.fz ns),some (.int i),none,none,none] = .ok (.nx [some (.fz ns),some (.int i),some (.int x),none,none]):=by
  push_cast [e]
 by_cases hx:x%2=0
 ·refine ⟨(if x<0 then -x else x)/2,?_⟩
  unfold jv u6
  refine v7 rfl ⟨[some (.fz ns),some (.int i),some (.int x),none,none],?_⟩
  refine (qp s1).trans (qbk ?_)
  push_cast [uZ (j:=2) (by decide),hx,qmU,ue (j:=2) (by decide) (by decide),zh (show 1<=1000000 by omega)]
 ·obtain ⟨s',o',q⟩:=qek (some (.fz ns)) (some (.int i)) x (qaS 0 40) 0 none fun d hd=>by
   unfold qaS at hd
   obtain ⟨k,hk,rfl⟩:=mP_.mp hd
   have hk':=mR_.mp hk
   exact ⟨_,rfl,by omega,by omega⟩
  refine ⟨s',?_⟩
  unfold jv u6
  refine v7 rfl ⟨[some (.fz ns),some (.int i),some (.int x),some (.int s'),o'],?_⟩
  refine (qp s1).trans ?_
  refine (qp (U':=[some (.fz ns),some (.int i),some (.int x),none,none]) ?_).trans ?_
  ·push_cast [uZ (j:=2) (by decide),hx]
  refine (qp (U':=[some (.fz ns),some (.int i),some (.int x),some (.int 0),none]) ?_).trans ?_
  ·push_cast []
  refine (qp (U':=[some (.fz ns),some (.int i),some (.int x),some (.int s'),o']) ?_).trans ?_
  ·rw [yG,uo (j:=40) (U1:=[some (.fz ns),some (.int i),some (.int x),some (.int 0),none]) rfl (by omega) (by omega)]
   exact q
  ·push_cast [zh (show 1<=1000000 by omega)]
def gdH (k:D):Prop:=uq k/\∃ a b j,k = .tup [.int a,.int b,.int j]
theorem qmE {a b:Int} {m:D} (h1:1<=a) (h2:a<=25) (h3:0<=b) (h4:b<=39) (g:qhW (.int 1) m):gdH (.tup [.int a,.int b,m]):=by
 rcases g with rfl | ⟨j,rfl,j0,j1⟩
 ·exact ⟨⟨a,b,_,rfl,h1,h2,h3,h4,.inr ⟨1,rfl,by omega,by omega⟩⟩,a,b,1,rfl⟩
 ·exact ⟨⟨a,b,_,rfl,h1,h2,h3,h4,.inr ⟨j,rfl,j0,j1⟩⟩,a,b,j,rfl⟩
theorem qdw (M:Int) (n:Int) (ks:List D) (o4 o5:Option D) (h:∀ k∈ks,gdH k) (hl:ks.length<=12):∃ n' k',gdH k'/\(qR (zJ 5 (qk zv 0 (qa (dv 2) (ret [])))) (qR (sif (qjE (tst (qiD 3 (jA (ret [])))) (tst (d2 eqB (qk qf 0 (qa (ret (.int 7)) (ret []))) (ret (.int 6))))) (zJ 5 (qdb 3 (qk qf 0 (qa (qcs 3) (ret []))))) yF) (ye (jj 3 (dv 5))))) [some (.lst [.int n]),some (.int M),some (.int 1),some (.lst ks),o4,o5] = .ok (.nx [some (.lst [.int n']),some (.int M),some (.int 1),some (.lst (ks++[k'])),o4,some k']):=by
 obtain ⟨a,b,m,n1,e1,p1,p2,p3,p4,p5⟩:=qeY n (.int 1)
 have gk:gdH (.tup [.int a,.int b,m]):=qmE p1 p2 p3 p4 p5
 obtain ⟨b0,eb,hb⟩:=qdo fun k hk=>(h k hk).1
 have s1:(zJ 5 (qk zv 0 (qa (dv 2) (ret [])))) [some (.lst [.int n]),some (.int M),some (.int 1),some (.lst ks),o4,o5] = .ok (.nx [some (.lst [.int n1]),some (.int M),some (.int 1),some (.lst ks),o4,some (.tup [.int a,.int b,m])]):=by
  push_cast [e1]
 have s2:∃ n' k',gdH k'/\(sif (qjE (tst (qiD 3 (jA (ret [])))) (tst (d2 eqB (qk qf 0 (qa (ret (.int 7)) (ret []))) (ret (.int 6))))) (zJ 5 (qdb 3 (qk qf 0 (qa (qcs 3) (ret []))))) yF) [some (.lst [.int n1]),some (.int M),some (.int 1),some (.lst ks),o4,some (.tup [.int a,.int b,m])] = .ok (.nx [some (.lst [.int n']),some (.int M),some (.int 1),some (.lst ks),o4,some k']):=by
  cases b0 with
  | false =>
   refine ⟨n1,_,gk,?_⟩
   push_cast [eb,zh (show 0<=1000000 by omega)]
  | true =>
   have hne:=hb rfl
   have hpos:0<ks.length:=List.length_pos_iff.mpr hne
   by_cases h6:n1%7=6
   ·obtain ⟨k',hk',e⟩:=qmv (ds:=ks) (k:=n1/7%(ks.length:Int)) (Int.emod_nonneg _ (by omega)) (Int.emod_lt_of_pos _ (by omega))
    refine ⟨n1/7/(ks.length:Int),k',h k' hk',?_⟩
    push_cast [eb,zh (show 0<=1000000 by omega),jn (m:=7) (by decide) (by decide),h6,jn (m:=(ks.length:Int)) (by omega) (by omega),e]
   ·refine ⟨n1/7,_,gk,?_⟩
    push_cast [eb,zh (show 0<=1000000 by omega),jn (m:=7) (by decide) (by decide),h6]
 obtain ⟨n2,k',gk',e2⟩:=s2
 refine ⟨n2,k',gk',?_⟩
 refine (qp s1).trans ((qp e2).trans ?_)
 push_cast [gk'.1.imm,zh (show ks.length+1<=1000000 by omega),Bool.and_self]
theorem qaF (M:Nat) (hM:M<=12):∀ (ds:List D) (n:Int) (ks:List D) (o4 o5:Option D),(∀ k∈ks,gdH k)->ks.length+ds.length<=M ->
  ∃ n' ks' o4' o5',ua (qi 4) (qR (zJ 5 (qk zv 0 (qa (dv 2) (ret [])))) (qR (sif (qjE (tst (qiD 3 (jA (ret [])))) (tst (d2 eqB (qk qf 0 (qa (ret (.int 7)) (ret []))) (ret (.int 6))))) (zJ 5 (qdb 3 (qk qf 0 (qa (qcs 3) (ret []))))) yF) (ye (jj 3 (dv 5))))) ds [some (.lst [.int n]),some (.int M),some (.int 1),some (.lst ks),o4,o5] = .ok (.nx [some (.lst [.int n']),some (.int M),some (.int 1),some (.lst ks'),o4',o5'])/\(∀ k∈ks',gdH k)/\ks'.length<=M
 | [],n,ks,o4,o5,h,hl=>⟨n,ks,o4,o5,rfl,h,by simpa using hl⟩
 | d::ds,n,ks,o4,o5,h,hl=>by
  have hl':ks.length+(ds.length+1)<=M:=hl
  obtain ⟨n1,k',gk,e⟩:=qdw M n ks (some d) o5 h (by omega)
  obtain ⟨n',ks',o4',o5',q,g,l⟩:=qaF M hM ds n1 (ks++[k']) (some d) (some k') (fun x hx=>(mA_.mp hx).elim (h x) fun hx=>by
   rw [ms_] at hx;subst hx;exact gk) (by rw [lA_,List.length_singleton];omega)
  exact ⟨n',ks',o4',o5',(qaz rfl e).trans q,g,l⟩
theorem qgL (M:Nat) (hM:M<=12) (n:Int):∃ ks n',jh [.int n] [.int M,.int 1] = .ok (.tup ks,[.int n'])/\(∀ k∈ks,gdH k)/\ks.length<=M:=by
 have hm0:0<=n%((M:Int)+1):=Int.emod_nonneg _ (by omega)
 have hm1:n%((M:Int)+1)<(M:Int)+1:=Int.emod_lt_of_pos _ (by omega)
 obtain ⟨n',ks',o4',o5',q,g,l⟩:=qaF M hM (qaS 0 (n%((M:Int)+1)).toNat) (n/((M:Int)+1)) [] none none (fun _ h=>by cases h) (by rw [qhX];simp;omega)
 refine ⟨ks',n',?_,g,l⟩
 unfold jh
 refine qdU (U:=[some (.lst [.int n']),some (.int M),some (.int 1),some (.lst ks'),o4',o5']) rfl ?_ rfl
 unfold jZ
 refine (qp (U':=[some (.lst [.int n]),some (.int M),some (.int 1),some (.lst []),none,none]) ?_).trans ?_
 ·push_cast [immL,zh (show 0<=1000000 by omega),Bool.and_self]
 refine (qp (U':=[some (.lst [.int n']),some (.int M),some (.int 1),some (.lst ks'),o4',o5']) ?_).trans ?_
 ·rw [yG,uo (j:=n%((M:Int)+1)) (U1:=[some (.lst [.int (n/((M:Int)+1))]),some (.int M),some (.int 1),some (.lst []),none,none]) ?_ hm0 (by omega)]
  ·exact q
  ·push_cast [zx,jn (m:=(M:Int)+1) (by omega) (by omega)]
 ·push_cast []
def kw (k:Kw):D := .tup [.int k.w,.int k.v,mD k.m]
def sgB (G:Int) (k:Kw):Prop:=sgK k/\k.w<=26*G/\k.v<=40*G
theorem qmF (k:Kw):ixD (kw k) (.int 0)=some (.int k.w):=rfl
theorem qmG (k:Kw):ixD (kw k) (.int 1)=some (.int k.v):=rfl
theorem qmH (k:Kw):ixD (kw k) (.int 2)=some (mD k.m):=rfl
theorem qmI (k:Kw):imm (kw k)=true:=by
 obtain ⟨w,v,m⟩:=k
 cases m<;>rfl
theorem qaG {M:D} {G:Int} (g0:1<=G) (g1:G<=100000000000000000000):∀ (ds:List D) (n:Int) (ks:List Kw) (o4 o5 o6:Option D),(∀ d∈ds,gdH d)->(∀ k∈ks,sgB G k)->ks.length+ds.length<=12 ->
  ∃ (n':Int) (ks':List Kw) (o4' o5' o6':Option D),ua (qaN 3 (qZ (qi 4) (qZ (qi 5) (qZ (qi 6) qaM)))) (ye (jj 3 (zW (qa (d2 ze (d2 yj (dv 4) (dv 2)) (qk qf 0 (qa (dv 2) (ret [])))) (qa (d2 ze (d2 yj (dv 5) (dv 2)) (qk qf 0 (qa (dv 2) (ret [])))) (qa (qE vi (qa (dv 6) (qa (ret (.int 1)) (ret [])))) (ret []))))))) ds [some (.lst [.int n]),some M,some (.int G),some (.lst (ks.map kw)),o4,o5,o6] = .ok (.nx [some (.lst [.int n']),some M,some (.int G),some (.lst (ks'.map kw)),o4',o5',o6'])/\(∀ k∈ks',sgB G k)/\ks'.length=ks.length+ds.length
 | [],n,ks,o4,o5,o6,_,h,_=>⟨n,ks,o4,o5,o6,rfl,h,rfl⟩
 | d :: ds,n,ks,o4,o5,o6,hd,h,hl=>by
  have hl':ks.length+(ds.length+1)<=12:=hl
  obtain ⟨⟨a,b,m,e0,a1,a2,b1,b2,gm⟩,a',b',j,e1⟩:=hd d mS_
  rw [e1] at e0
  injection e0 with e0
  injection e0 with q1 e0
  injection e0 with q2 e0
  injection e0 with q3 e0
  injection q1 with q1
  injection q2 with q2
  subst q1 q2 q3
  subst e1
  have hj:0<=j:=by
   rcases gm with g | ⟨i,g,i0,_⟩
   ·cases g
   ·cases g;exact i0
  have gb:G<1606938044258990275541962092341162602522202993782792835301376:=by omega
  have r0:0<=n%G:=Int.emod_nonneg _ (by omega)
  have r1:n%G<G:=Int.emod_lt_of_pos _ (by omega)
  have s0:0<=n/G%G:=Int.emod_nonneg _ (by omega)
  have s1:n/G%G<G:=Int.emod_lt_of_pos _ (by omega)
  have aG:1*G<=a'*G:=Int.mul_le_mul_of_nonneg_right a1 (by omega)
  have aG2:a'*G<=25*G:=Int.mul_le_mul_of_nonneg_right a2 (by omega)
  have bG:0<=b'*G:=Int.mul_nonneg b1 (by omega)
  have bG2:b'*G<=39*G:=Int.mul_le_mul_of_nonneg_right b2 (by omega)
  let k:Kw:=⟨a'*G+n%G,b'*G+n/G%G,some (if 1<j then 1 else j)⟩
  have hk:sgB G k:=by
   refine ⟨⟨by show 1<=a'*G+n%G;omega,by show 0<=b'*G+n/G%G;omega,?_⟩,by show a'*G+n%G<=26*G;omega,by show b'*G+n/G%G<=40*G;omega⟩
   by_cases c:j=0
   ·left
    show some (if 1<j then 1 else j)=some 0
    rw [if_neg (by omega),c]
   ·right
    show some (if 1<j then 1 else j)=some 1
    congr 1
    split<;>omega
  have st:(ye (jj 3 (zW (qa (d2 ze (d2 yj (dv 4) (dv 2)) (qk qf 0 (qa (dv 2) (ret [])))) (qa (d2 ze (d2 yj (dv 5) (dv 2)) (qk qf 0 (qa (dv 2) (ret [])))) (qa (qE vi (qa (dv 6) (qa (ret (.int 1)) (ret [])))) (ret []))))))) [some (.lst [.int n]),some M,some (.int G),some (.lst (ks.map kw)),some (.int a'),some (.int b'),some (.int j)] = .ok (.nx [some (.lst [.int (n/G/G)]),some M,some (.int G),some (.lst ((ks++[k]).map kw)),some (.int a'),some (.int b'),some (.int j)]):=by
   have c1:zW (qa (d2 ze (d2 yj (dv 4) (dv 2)) (qk qf 0 (qa (dv 2) (ret [])))) (qa (d2 ze (d2 yj (dv 5) (dv 2)) (qk qf 0 (qa (dv 2) (ret [])))) (qa (qE vi (qa (dv 6) (qa (ret (.int 1)) (ret [])))) (ret [])))) [some (.lst [.int n]),some M,some (.int G),some (.lst (ks.map kw)),some (.int a'),some (.int b'),some (.int j)] = .ok (kw k,[some (.lst [.int (n/G/G)]),some M,some (.int G),some (.lst (ks.map kw)),some (.int a'),some (.int b'),some (.int j)]):=by
    push_cast [qdp (v8 (show 0<=a' by omega) (by omega)),qdp (v8 (show 0<=b' by omega) (by omega)),jn (m:=G) (by omega) gb,zx,qef,zh (show 3<=1000000 by omega)]
    rfl
   rw [vm,vF]
   simp only [zt,List.getElem?_cons_zero,List.getElem?_cons_succ,c1]
   simp only [zt,List.getElem?_cons_zero,List.getElem?_cons_succ,qmI,lM_,zh (show ks.length+1<=1000000 by omega),Bool.and_self,if_true,List.map_append,mC_,List.map_nil,List.set_cons_zero,List.set_cons_succ]
  obtain ⟨n',ks',o4',o5',o6',q,g,l⟩:=qaG g0 g1 ds (n/G/G) (ks++[k]) (some (.int a')) (some (.int b')) (some (.int j)) (fun x hx=>hd x (mM _ hx)) (fun x hx=>(mA_.mp hx).elim (h x) fun hx=>by
   rw [ms_] at hx;subst hx;exact hk) (by rw [lA_,List.length_singleton];omega)
  refine ⟨n',ks',o4',o5',o6',(qaz rfl st).trans q,g,?_⟩
  rw [l,lA_,List.length_singleton,lC_]
  omega
theorem qgM (M:Nat) (hM:M<=12) {G:Int} (g0:1<=G) (g1:G<=100000000000000000000) (n:Int):∃ (ks:List Kw) (n':Int),qM [.int n] [.int M,.int G] = .ok (.tup (ks.map kw),[.int n'])/\(∀ k∈ks,sgB G k)/\ks.length<=M:=by
 obtain ⟨ds,n1,e1,hd,hl⟩:=qgL M hM n
 obtain ⟨n',ks,o4,o5,o6,q,g,l⟩:=qaG (M := .int M) g0 g1 ds n1 [] none none none hd (fun k hk=>by cases hk) (by simp;omega)
 refine ⟨ks,n',?_,g,by rw [l];simpa using hl⟩
 unfold qM
 refine qdU (U:=[some (.lst [.int n']),some (.int M),some (.int G),some (.lst (ks.map kw)),o4,o5,o6]) rfl ?_ rfl
 unfold zZ
 refine (qp (U':=[some (.lst [.int n]),some (.int M),some (.int G),some (.lst []),none,none,none]) ?_).trans ?_
 ·push_cast [immL,zh (show 0<=1000000 by omega),Bool.and_self]
 refine (qp (U':=[some (.lst [.int n']),some (.int M),some (.int G),some (.lst (ks.map kw)),o4,o5,o6]) ?_).trans ?_
 ·have c:jD (qk jh 0 (qa (dv 1) (qa (ret (.int 1)) (ret [])))) [some (.lst [.int n]),some (.int M),some (.int G),some (.lst []),none,none,none] = .ok (ds,[some (.lst [.int n1]),some (.int M),some (.int G),some (.lst []),none,none,none]):=by
   push_cast [e1]
   rfl
  rw [yG,c]
  exact q
 ·push_cast []
def ldD (l:List Int):D := .tup (l.map D.int)
def t3D (x:T3):D := .tup [.int x.1,.int x.2.1,ldD x.2.2]
theorem qjd (l:List Int):imm (ldD l)=true:=by
 unfold ldD
 simp only [imm]
 exact qbR fun _ _=>rfl
theorem qmJ (x:T3):imm (t3D x)=true:=by
 unfold t3D
 simp only [imm,immL,qjd,Bool.and_self]
theorem qdx (x:T3):ixD (t3D x) (.int 0)=some (.int x.1):=rfl
theorem qdy (x:T3):ixD (t3D x) (.int 1)=some (.int x.2.1):=rfl
theorem qkG (x:T3):ixD (t3D x) (.int 2)=some (ldD x.2.2):=rfl
theorem qbZ {α β:Type} (g:α->List β):∀ (l:List α) (acc:List β),l.foldl (fun acc a=>acc++g a) acc=acc++l.flatMap g
 | [],acc=>by simp
 | a::l,acc=>by rw [fo_,qbZ g l,fC_,aA_]
theorem qid (L:List (List Int)) (k:Kw):qdr L k=L.flatMap fun l=>(List.range (tm k+1)).map fun t:Nat=>l++[(t:Int)]:=rfl
theorem qoW {k:Kw} (h:sgK k):k.m=some ((tm k:Nat):Int):=by
 unfold tm
 rcases h.2.2 with q | q<;>rw [q]<;>rfl
theorem qon {k:Kw} (h:sgK k):ixD (kw k) (.int 2)=some (.int (tm k:Nat)):=by rw [qmH,qoW h];rfl
theorem qaH {α:Type} {l:List α} {f:α->Int} (h:l≠[]):wG [.lst (l.map fun a=>D.int (f a))]=some (.int (qbF (l.map f))):=by
 cases l with
 | nil=>exact absurd rfl h
 | cons a l =>
  have:=vK ((a::l).map f)
  rw [mm_] at this
  simp only [Function.comp_def,mC_] at this
  simp only [mC_,wG,this]
theorem qaI:∀ {ks:List Kw},(∀ k∈ks,sgK k)->(zm ks).length<=2 ^ ks.length
 | [],_=>Nat.le_refl _
 | k::ks,h=>by
  have ih:=qaI fun x hx=>h x (mM _ hx)
  have ht:=qgF (h k mS_)
  simp only [zm]
  have:∀ n,((List.range n).flatMap fun t:Nat=>(zm ks).map fun l=>(t:Int)::l).length=n*(zm ks).length:=fun n=>by
   induction n with
   | zero=>simp
   | succ n ihn=>rw [List.range_succ,List.flatMap_append,lA_,ihn,Nat.succ_mul];simp
  rw [this,lC_,Nat.pow_succ]
  have h2:(tm k+1)*(zm ks).length<=2*2 ^ ks.length:=Nat.mul_le_mul (by omega) ih
  omega
theorem qie {k:Kw} (h:sgK k) (T Ls:Option D) {acc:List (List Int)} {l:List Int} (ha:acc.length<=1000) (hl:l.length<=20) :
  (ye (uR 3 (qV 1 [4] none (z5 (qa (d2 ze (d2 ixD (dv 2) (ret (.int 2))) (ret (.int 1))) (ret []))) (qi 0) (ret true) (d2 ze (dv 1) (zW (qa (dv 0) (ret []))))))) [T,Ls,some (kw k),some (.lst (acc.map ldD)),some (ldD l)] = .ok (.nx [T,Ls,some (kw k),some (.lst ((acc++(List.range (tm k+1)).map fun t:Nat=>l++[(t:Int)]).map ldD)),some (ldD l)]):=by
 have ht:=qgF h
 let U:Env:=[T,Ls,some (kw k),some (.lst (acc.map ldD)),some (ldD l)]
 have rg:z5 (qa (d2 ze (d2 ixD (dv 2) (ret (.int 2))) (ret (.int 1))) (ret [])) U = .ok ((List.range (tm k+1)).map fun t:Nat=>D.int (t:Nat),U):=by
  have e:qa (d2 ze (d2 ixD (dv 2) (ret (.int 2))) (ret (.int 1))) (ret []) U = .ok ([.int ((tm k:Nat)+1)],U):=yQ (qq (qq rfl rfl (qon h)) rfl (zx _ _))
  rw [uo e (by omega) (by omega)]
  have:((tm k:Nat)+1:Int).toNat=tm k+1:=by omega
  rw [this,qnP]
 have c:=qbl (e:=d2 ze (dv 1) (zW (qa (dv 0) (ret [])))) (fr:=[4]) (r:=[some (ldD l)]) (k:=fun t:Nat=>D.int (t:Nat)) (List.range (tm k+1)) (fun t=>ldD (l++[(t:Int)])) rg rfl (by rw [lR_];omega) fun t _=>by
  have t1:zW (qa (dv 0) (ret [])) [some (.int (t:Nat)),some (ldD l)] = .ok (.tup [.int (t:Nat)],[some (.int (t:Nat)),some (ldD l)]):=by
   rw [qaq,yQ rfl]
   simp only [lC_,lN_,Nat.zero_add,zh (show 1<=1000000 by omega),if_true]
  exact qq rfl t1 (by unfold ldD;rw [wP (by rw [lM_];simp;omega),List.map_append];rfl)
 have gl:zt 3 U=some (acc.map ldD):=rfl
 have im:immL ((List.range (tm k+1)).map fun t:Nat=>ldD (l++[(t:Int)]))=true:=qbR fun _ _=>qjd _
 show ye _ U=_
 rw [vm,qgf]
 simp only [gl,c,im,Bool.true_and]
 rw [zh (by rw [lM_,lM_,lR_];omega),if_pos rfl,List.map_append,mm_]
 rfl
theorem qcS {ks:List Kw} (h:∀ k∈ks,sgK k) (hl:ks.length<=6):yK [.tup (ks.map kw)] = .ok (.lst ((zm ks).map ldD)):=by
 let T:Option D:=some (.tup (ks.map kw))
 have p2:∀ n,n<=6->2 ^ n<=64:=fun n hn=>Nat.le_trans (Nat.pow_le_pow_right (by decide) hn) (by decide)
 obtain ⟨U',q,o2,o4,_,_,rfl⟩:=yJ (G:=qi 2) (b:=(qR (vY 3 (qiz (ret []))) (qR (vR (jD (dv 1)) (qi 4) (ye (uR 3 (qV 1 [4] none (z5 (qa (d2 ze (d2 ixD (dv 2) (ret (.int 2))) (ret (.int 1))) (ret []))) (qi 0) (ret true) (d2 ze (dv 1) (zW (qa (dv 0) (ret [])))))))) (qhP 1 3)))) (k:=kw) (step:=qdr)
  (Inv:=fun n L U=>∃ o2 o4,L.length<=2 ^ n/\(∀ l∈L,l.length=n)/\U=[T,some (.lst (L.map ldD)),o2,none,o4]) ks 0 [[]] [T,some (.lst (([[]]:List (List Int)).map ldD)),none,none,none] ⟨none,none,Nat.le_refl _,fun l hl=>by rw [ms_.mp hl];rfl,rfl⟩ (fun k hk n L U _ hn=>by
  rintro ⟨o2,o4,hL,hLl,rfl⟩
  have gk:=h k hk
  have ht:=qgF gk
  have hn6:n<6:=by omega
  have hL2:=p2 n (by omega)
  let Ls:Option D:=some (.lst (L.map ldD))
  obtain ⟨U2,q2,o4',hacc,hal,rfl⟩:=yJ (G:=qi 4) (b:=(ye (uR 3 (qV 1 [4] none (z5 (qa (d2 ze (d2 ixD (dv 2) (ret (.int 2))) (ret (.int 1))) (ret []))) (qi 0) (ret true) (d2 ze (dv 1) (zW (qa (dv 0) (ret [])))))))) (k:=ldD) (step:=fun (acc:List (List Int)) (l:List Int)=>acc++(List.range (tm k+1)).map fun t:Nat=>l++[(t:Int)])
   (Inv:=fun m acc U=>∃ o4,acc.length<=2*m/\(∀ l∈acc,l.length=n+1)/\U=[T,Ls,some (kw k),some (.lst (acc.map ldD)),o4]) L 0 [] [T,Ls,some (kw k),some (.lst []),o4] ⟨o4,Nat.le_refl _,fun l hl=>absurd hl nN_,rfl⟩ (fun l hl m acc U _ hm=>by
   rintro ⟨o4,ha,hal,rfl⟩
   have hll:=hLl l hl
   refine ⟨[T,Ls,some (kw k),some (.lst (acc.map ldD)),some (ldD l)],_,rfl,qie gk T Ls (by omega) (by omega),some (ldD l),?_,fun x hx => ?_,rfl⟩
   ·rw [lA_,lM_,lR_]
    omega
   ·rcases mA_.mp hx with hx | hx
    ·exact hal x hx
    ·obtain ⟨t,_,rfl⟩:=mP_.mp hx
     rw [lA_,List.length_singleton,hll])
  rw [qbZ,List.nil_append,<- qid] at q2 hacc hal
  refine ⟨[T,Ls,some (kw k),none,o4],[T,some (.lst ((qdr L k).map ldD)),some (kw k),none,o4'],rfl,?_,some (kw k),o4',?_,hal,rfl⟩
  ·refine (qp (U':=[T,Ls,some (kw k),some (.lst []),o4]) ?_).trans ?_
   ·push_cast [immL,zh (show 0<=1000000 by omega),Bool.and_self]
   refine (qp (U':=[T,Ls,some (kw k),some (.lst ((qdr L k).map ldD)),o4']) ?_).trans rfl
   rw [yG]
   exact q2
  ·rw [Nat.pow_succ]
   omega)
 rw [qh7] at q
 unfold yK vp
 refine v7 rfl ⟨[T,some (.lst ((zm ks).map ldD)),o2,none,o4],?_⟩
 refine (qp (U':=[T,some (.lst (([[]]:List (List Int)).map ldD)),none,none,none]) ?_).trans ?_
 ·push_cast [zh (show 0<=1000000 by omega),zh (show 1<=1000000 by omega),T]
  rfl
 refine (qp (U':=[T,some (.lst ((zm ks).map ldD)),o2,none,o4]) ?_).trans rfl
 rw [yG]
 exact q
theorem qje:∀ (ks:List Kw) (l:List Int),qc0 (ks.map kw) (l.map D.int)=(ks.zip l).map fun z=>D.tup [kw z.1,.int z.2]
 | [],_=>by simp [qc0]
 | _::_,[]=>by simp [qc0]
 | k::ks,x::l=>by
  rw [mC_,mC_,List.zip_cons_cons,mC_,<- qje ks l]
  rfl
theorem qkH:∀ (ks:List Kw) (l:List Int),((ks.zip l).map fun z=>z.1.w*z.2).sum=qA ks l
 | [],_=>by simp [qA]
 | _::_,[]=>by simp [qA]
 | k::ks,x::l=>by
  rw [List.zip_cons_cons,mC_,List.sum_cons,qkH ks l]
  show k.w*x+_=x*k.w+_
  rw [Int.mul_comm]
theorem qkI:∀ (ks:List Kw) (l:List Int),((ks.zip l).map fun z=>z.1.v*z.2).sum=qy ks l
 | [],_=>by simp [qy]
 | _::_,[]=>by simp [qy]
 | k::ks,x::l=>by
  rw [List.zip_cons_cons,mC_,List.sum_cons,qkI ks l]
  show k.v*x+_=x*k.v+_
  rw [Int.mul_comm]
theorem qel {ks:List Kw} {l:List Int} (h01:∀ t∈l,t=0\/t=1) (hl:ks.length<=12) (c:Int) (f:Kw->Int) (hf:∀ k,ixD (kw k) (.int c)=some (.int (f k))):zb [.tup (ks.map kw),ldD l,.int c] = .ok (.int ((ks.zip l).map fun z=>f z.1*z.2).sum):=by
 let U:Env:=[some (.tup (ks.map kw)),some (ldD l),some (.int c)]
 unfold zb yh
 refine v7 rfl ⟨U,uH ?_⟩
 have c1:=qgB (e:=d2 yj (d2 ixD (dv 0) (dv 2)) (dv 1)) (t:=ret true) (xs:=qlZ (qa (dv 0) (qa (dv 1) (ret [])))) (fr:=[2]) (U:=U) (r:=[some (.int c)]) (u:=fun a:Kw×Int=>kw a.1) (v:=fun a=>D.int a.2) (ks.zip l) (fun _=>true) (fun a=>D.int (f a.1*a.2)) (by
  rw [qfW,qay (a := .tup (ks.map kw)) (b := .tup (l.map D.int)) rfl rfl]
  simp only [qlY,qje]) rfl (by rw [List.length_zip];omega) (fun _ _=>rfl) (fun a ha _=>by
   have h1:=h01 _ (List.of_mem_zip (show (a.1,a.2)∈ks.zip l from ha)).2
   exact qq (qq rfl rfl (hf _)) rfl (qhY (v8 (by rcases h1 with e | e<;>omega) (by rcases h1 with e | e<;>omega))))
 rw [vn] at c1
 refine uG c1 ?_
 rw [qh5]
theorem yY {ks:List Kw} (h:∀ k∈ks,sgK k) (hl:ks.length<=6):zq [.tup (ks.map kw)] = .ok (.lst ((jy ks).map t3D)):=by
 let U:Env:=[some (.tup (ks.map kw))]
 unfold zq uv
 refine v7 rfl ⟨U,uH ?_⟩
 have p2:(zm ks).length<=64:=Nat.le_trans (qaI h) (Nat.le_trans (Nat.pow_le_pow_right (by decide) hl) (by decide))
 have c:=qbl (e:=zW (qa (qo zb (qa (dv 1) (qa (dv 0) (qa (ret (.int 0)) (ret []))))) (qa (qo zb (qa (dv 1) (qa (dv 0) (qa (ret (.int 1)) (ret []))))) (qa (dv 0) (ret []))))) (fr:=[0]) (U:=U) (r:=[some (.tup (ks.map kw))]) (xs:=jD (qo yK (qa (dv 0) (ret [])))) (k:=ldD) (zm ks) (fun l=>t3D (wg ks l)) (by
  rw [qcy,ve rfl (qcS h hl)]
  rfl) rfl (by omega) fun l hl'=>by
   have h01:=qbW h hl'
   refine qnO (vf rfl rfl rfl ((qel h01 (by omega) 0 (·.w) qmF).trans ?_)) (vf rfl rfl rfl ((qel h01 (by omega) 1 (·.v) qmG).trans ?_)) rfl
   ·rw [qkH];rfl
   ·rw [qkI];rfl
 have e:(jy ks).map t3D=(zm ks).map fun l=>t3D (wg ks l):=by
  unfold jy
  rw [mm_]
  rfl
 rw [e]
 exact c
theorem qif (x:T3):zG [t3D x] = .ok (.tup [.int x.1,.int (-x.2.1),ldD x.2.2]):=by
 unfold zG yL
 let U:Env:=[some (t3D x)]
 have n1:d1 qcv (d2 ixD (dv 0) (ret (.int 1))) U = .ok (.int (-x.2.1),U):=by
  rw [qnw,qq rfl rfl (qdy x)]
  rfl
 exact v7 rfl ⟨U,uH (qnO (qq rfl rfl (qdx x)) n1 (qq rfl rfl (qkG x)))⟩
theorem qgN:∀ L:List T3,qau zG (L.map t3D)=some (L.map kyT)
 | []=>rfl
 | x::L=>by
  have e:qkv (.tup [.int x.1,.int (-x.2.1),ldD x.2.2])=some (kyT x):=by
   unfold qkv ldD
   simp only [vK]
   rfl
  rw [mC_]
  unfold qau
  rw [qif,qgN L]
  simp only [e,mC_]
theorem qig (L:List T3):qeQ (Srt.ord (zn (L.map kyT))) (L.map t3D)=(srt L).map t3D:=by
 unfold qeQ srt
 rw [mm_]
 refine List.map_congr_left fun i hi => ?_
 have hi':=(Srt.ord_perm (zn (L.map kyT))).mem_iff.mp hi
 rw [mR_,jG,lM_] at hi'
 show (L.map t3D).getD i D.non=t3D (L.getD i (0,0,[]))
 simp [hi']
theorem qnR (l:List T3):eqB (.lst (l.map t3D)) (.lst [])=some (.bl l.isEmpty):=by
 have hx:∀ F:List T3,PyData.canLayAll0 (toPDs (F.map t3D))=true/\PyData.depthAll (toPDs (F.map t3D))<=2:=fun F=>by
  induction F with
  | nil=>exact ⟨rfl,Nat.zero_le _⟩
  | cons x F ih =>
   have o:=qgz (ns:=x.2.2)
   have e:u9 (.tup (x.2.2.map D.int))=(PyData.canLayAll0 (toPDs (x.2.2.map D.int))&&decide (PyData.depthAll (toPDs (x.2.2.map D.int))+1<=50)):=by
    simp only [u9,zw,PyData.canLay0,PyData.depth]
   have dp:∀ l:List Int,PyData.depthAll (toPDs (l.map D.int))=0:=fun l=>by
    induction l with
    | nil=>rfl
    | cons a l ih=>simp only [mC_,toPDs,zw,PyData.depthAll,PyData.depth,ih];rfl
   rw [e,Bool.and_eq_true] at o
   refine ⟨?_,?_⟩
   ·simp only [mC_,t3D,ldD,toPDs,zw,PyData.canLayAll0,PyData.canLay0,o.1,ih.1,Bool.and_self]
   ·simp only [mC_,t3D,ldD,toPDs,zw,PyData.depthAll,PyData.depth,dp]
    have:=ih.2
    omega
 obtain ⟨h1,h2⟩:=hx l
 have o1:u9 (.lst (l.map t3D))=true:=by
  have e:u9 (.lst (l.map t3D))=(PyData.canLayAll0 (toPDs (l.map t3D))&&decide (PyData.depthAll (toPDs (l.map t3D))+1<=50)):=by
   simp only [u9,zw,PyData.canLay0,PyData.depth]
  rw [e,h1,decide_eq_true (by omega)]
  rfl
 have e:eqB (.lst (l.map t3D)) (.lst [])=eqA (.lst (l.map t3D)) (.lst []):=rfl
 rw [e]
 unfold eqA
 rw [o1]
 cases l with
 | nil=>rfl
 | cons n l=>rfl
theorem qkJ {l:List T3} {y:T3} (h:l.getLast? = some y):atI (l.map t3D) (-1)=some (t3D y):=by
 have hne:l≠[]:=fun e=>by rw [e] at h;cases h
 have hl:0<l.length:=List.length_pos_iff.mpr hne
 have e:l[l.length-1]? = some y:=by rw [<- List.getLast?_eq_getElem?];exact h
 unfold atI ixN
 rw [if_neg (by omega),lM_]
 split
 ·have e2:((-1:Int)+(l.length:Int)).toNat=l.length-1:=by omega
  show (l.map t3D)[((-1:Int)+(l.length:Int)).toNat]? = _
  rw [e2,gM_,e]
  rfl
 ·omega
theorem qgO (T:Option D) (kept:List T3) (x:T3) (hl:kept.length<=1000):(sif (tor (qbM (tst (d2 eqB (dv 1) (jA (ret []))))) (tst (d2 gtD (d2 ixD (dv 2) (ret (.int 1))) (d2 ixD (qdb 1 (d1 qcv (ret (.int 1)))) (ret (.int 1)))))) (ye (jj 1 (dv 2))) yF) [T,some (.lst (kept.map t3D)),some (t3D x)] = .ok (.nx [T,some (.lst ((wH kept x).map t3D)),some (t3D x)]):=by
 let U:Env:=[T,some (.lst (kept.map t3D)),some (t3D x)]
 have ap:ye (jj 1 (dv 2)) U = .ok (.nx [T,some (.lst ((kept++[x]).map t3D)),some (t3D x)]):=by
  rw [qgx (ds:=kept.map t3D) (d:=t3D x) rfl rfl (qmJ x) (by rw [lM_];omega),List.map_append]
  rfl
 have t1:qbM (tst (d2 eqB (dv 1) (jA (ret [])))) U = .ok (kept.isEmpty,U):=by
  refine qny (j8 (qq rfl (b := .lst []) ?_ (qnR kept)))
  rw [qdS]
  simp only [qdd,lN_,zh (show 0<=1000000 by omega),if_true]
 show sif _ _ _ U=_
 unfold wH
 cases e:kept.getLast? with
 | none =>
  have hk:kept=[]:=List.getLast?_eq_none_iff.mp e
  rw [hk] at t1 ap
  subst hk
  rw [qkS (qoV t1),ap]
  rfl
 | some y =>
  have hne:kept.isEmpty=false:=by
   cases kept with
   | nil=>cases e
   | cons a l=>rfl
  rw [hne] at t1
  have ix:d2 ixD (qdb 1 (d1 qcv (ret (.int 1)))) (ret (.int 1)) U = .ok (.int y.2.1,U):=by
   refine qq (a:=t3D y) ?_ rfl (qdy y)
   have n1:d1 qcv (ret (.int 1)) U = .ok (.int (-1),U):=rfl
   have gl:zt 1 U=some (kept.map t3D):=rfl
   rw [qfY]
   simp only [gl,n1,qkJ e]
  have t2:tst (d2 gtD (d2 ixD (dv 2) (ret (.int 1))) (d2 ixD (qdb 1 (d1 qcv (ret (.int 1)))) (ret (.int 1)))) U = .ok (decide (y.2.1<x.2.1),U):=j8 (qq (qq rfl rfl (qdy x)) ix (qaw _ _))
  dsimp only
  by_cases c:y.2.1<x.2.1
  ·rw [decide_eq_true c] at t2
   rw [if_pos c]
   have:tor (qbM (tst (d2 eqB (dv 1) (jA (ret []))))) (tst (d2 gtD (d2 ixD (dv 2) (ret (.int 1))) (d2 ixD (qdb 1 (d1 qcv (ret (.int 1)))) (ret (.int 1))))) U = .ok (true,U):=by rw [qfS,t1];exact t2
   rw [qkS this,ap]
  ·rw [decide_eq_false c] at t2
   rw [if_neg c,qkT (qom t1 t2)]
   rfl
theorem qb0:∀ (L kept:List T3),(L.foldl wH kept).length<=kept.length+L.length
 | [],kept=>Nat.le_refl _
 | x :: L,kept=>by
  rw [fo_,lC_]
  have:=qb0 L (wH kept x)
  have h2:(wH kept x).length<=kept.length+1:=by
   unfold wH
   cases e:kept.getLast? with
   | none=>simp
   | some y =>
    dsimp only
    split<;>simp
  omega
theorem wU {ks:List Kw} (h:∀ k∈ks,sgK k) (hl:ks.length<=5):(jy ks).length<=32:=by
 unfold jy
 rw [lM_]
 exact Nat.le_trans (qaI h) (Nat.le_trans (Nat.pow_le_pow_right (by decide) hl) (by decide))
theorem qgP {ks:List Kw} (h:∀ k∈ks,sgK k) (hl:ks.length<=5):(nbL ks).length<=32:=by
 have h1:=qb0 (srt (jy ks)) []
 have h2:=(wS (jy ks)).length_eq
 have h3:=wU h hl
 have:(nbL ks).length=((srt (jy ks)).foldl wH []).length:=rfl
 simp only [lN_] at h1
 omega
theorem vP {ks:List Kw} (h:∀ k∈ks,sgK k) (hl:ks.length<=5):ya [.tup (ks.map kw)] = .ok (.lst ((nbL ks).map t3D)):=by
 let T:Option D:=some (.tup (ks.map kw))
 have h32:=wU h hl
 have hsl:=(wS (jy ks)).length_eq
 obtain ⟨U',q,o2,hk,rfl⟩:=yJ (G:=qi 2) (b:=(sif (tor (qbM (tst (d2 eqB (dv 1) (jA (ret []))))) (tst (d2 gtD (d2 ixD (dv 2) (ret (.int 1))) (d2 ixD (qdb 1 (d1 qcv (ret (.int 1)))) (ret (.int 1)))))) (ye (jj 1 (dv 2))) yF)) (k:=t3D) (step:=wH) (Inv:=fun n kept U=>∃ o2,kept.length<=n/\U=[T,some (.lst (kept.map t3D)),o2]) (srt (jy ks)) 0 [] [T,some (.lst []),none] ⟨none,Nat.le_refl _,rfl⟩ (fun x _ n kept U _ hn=>by
  rintro ⟨o2,hk,rfl⟩
  refine ⟨[T,some (.lst (kept.map t3D)),some (t3D x)],_,rfl,qgO T kept x (by omega),some (t3D x),?_,rfl⟩
  have:=qb0 [x] kept
  simp only [fo_,List.foldl_nil,List.length_singleton] at this
  omega)
 unfold ya uT
 refine v7 rfl ⟨[T,some (.lst ((nbL ks).map t3D)),o2],?_⟩
 refine (qp (U':=[T,some (.lst []),none]) ?_).trans ?_
 ·push_cast [immL,zh (show 0<=1000000 by omega),Bool.and_self,T]
 refine (qp (U':=[T,some (.lst ((nbL ks).map t3D)),o2]) ?_).trans ?_
 ·have c:qcJ zG (qo zq (qa (dv 0) (ret []))) [T,some (.lst []),none] = .ok (.lst ((srt (jy ks)).map t3D),[T,some (.lst []),none]):=by
   rw [qhV (ve rfl (yY h (by omega))) (by rw [lM_];omega) (qgN (jy ks)),qig]
  rw [yG,qcy,c]
  exact q
 ·rfl
theorem qem (ks:List Kw) (hl:ks.length<=12):js [.tup (ks.map kw)] = .ok (.tup ((ks.take (ks.length/2)).map kw)):=by
 unfold js uS
 let U:Env:=[some (.tup (ks.map kw))]
 refine v7 rfl ⟨U,uH ?_⟩
 have n2:d2 y8 (qE qb9 (qa (dv 0) (ret []))) (ret (.int 2)) U = .ok (.int ((ks.length/2:Nat):Int),U):=qq (uG rfl (by rw [yS,lM_])) rfl (by rw [ue (by decide) (by decide)];rfl)
 have p:qaR (d2 y8 (qE qb9 (qa (dv 0) (ret []))) (ret (.int 2))) U = .ok (some ((ks.length/2:Nat):Int),U):=by rw [qbE,n2]
 have v:dv 0 U = .ok (.tup (ks.map kw),U):=rfl
 have c:=qia (ks.map kw) (ks.length/2) (by rw [lM_];omega)
 have z:qkr (dv 0) (ret none) (qaR (d2 y8 (qE qb9 (qa (dv 0) (ret []))) (ret (.int 2)))) U = .ok (.tup ((ks.map kw).take (ks.length/2)),U):=by
  rw [qi0]
  simp only [v,qdd,p,slB,c]
 rw [List.map_take]
 exact z
theorem qcT (ks:List Kw) (hl:ks.length<=12):jH [.tup (ks.map kw)] = .ok (.tup ((ks.drop (ks.length/2)).map kw)):=by
 unfold jH uw
 let U:Env:=[some (.tup (ks.map kw))]
 refine v7 rfl ⟨U,uH ?_⟩
 have n2:d2 y8 (qE qb9 (qa (dv 0) (ret []))) (ret (.int 2)) U = .ok (.int ((ks.length/2:Nat):Int),U):=qq (uG rfl (by rw [yS,lM_])) rfl (by rw [ue (by decide) (by decide)];rfl)
 have p:qaR (d2 y8 (qE qb9 (qa (dv 0) (ret []))) (ret (.int 2))) U = .ok (some ((ks.length/2:Nat):Int),U):=by rw [qbE,n2]
 have v:dv 0 U = .ok (.tup (ks.map kw),U):=rfl
 have c:=qib (ks.map kw) (ks.length/2) (by rw [lM_];omega)
 have z:qkr (dv 0) (qaR (d2 y8 (qE qb9 (qa (dv 0) (ret []))) (ret (.int 2)))) (ret none) U = .ok (.tup ((ks.map kw).drop (ks.length/2)),U):=by
  rw [qi0]
  simp only [v,qdd,p,slB,c]
 rw [List.map_drop]
 exact z
theorem qcU (one:T3) (S:List T3) (r:Int) (hS:S.length<=1000) (hne:∃ o∈S,o.1<=r-one.1):zP [t3D one,.lst (S.map t3D),.int r] = .ok (.int (bb one S r)):=by
 unfold zP uu
 let U:Env:=[some (t3D one),some (.lst (S.map t3D)),some (.int r),some (.int (r-one.1))]
 refine v7 rfl ⟨U,?_⟩
 refine (qp (U':=U) ?_).trans (uH ?_)
 ·show zJ 3 _ [some (t3D one),some (.lst (S.map t3D)),some (.int r),none]=_
  rw [vN (qq rfl (qq rfl rfl (qdx one)) (qbP _ _))]
  rfl
 have c:=qax (e:=d2 ixD (dv 0) (ret (.int 1))) (t:=tst (d2 leD (d2 ixD (dv 0) (ret (.int 0))) (dv 1))) (xs:=jD (dv 1)) (fr:=[3]) (U:=U) (r:=[some (.int (r-one.1))]) (k:=t3D) S (fun o=>decide (o.1<=r-one.1)) (fun o=>D.int o.2.1) rfl rfl (by omega) (fun o _=>j8 (qq (qq rfl rfl (qdx o)) rfl (v6 _ _))) (fun o _ _=>qq rfl rfl (qdy o))
 refine qq (qq rfl rfl (qdy one)) (uG c (qaH ?_)) (zx _ _)
 obtain ⟨o,ho,h⟩:=hne
 intro e
 have:o∈S.filter fun o=>decide (o.1<=r-one.1):=List.mem_filter.mpr ⟨ho,decide_eq_true h⟩
 rw [e] at this
 cases this
theorem qgQ {ks:List Kw} (h:∀ k∈ks,sgK k):∃ y∈nbL ks,y.1=0:=by
 obtain ⟨z,hz,z0⟩:=wT ks
 obtain ⟨y,hy,y1,_⟩:=qej hz
 have:=(qgI h (qgH hy)).1
 exact ⟨y,hy,by omega⟩
theorem xx1 {F:List D->R D} {l:M (List D)} {U:Env} {ds:List D} {d:D} (hl:l U = .ok (ds,U)) (h:F ds = .ok d):ye (yH RN F l) U = .ok (.nx U):=by
 rw [vm,ul,hl]
 simp only [h]
theorem xs1 {i:Nat} {F:List D->R D} {l:M (List D)} {U:Env} {ds:List D} {d:D} (hl:l U = .ok (ds,U)) (h:F ds = .ok d):zJ i (yH RN F l) U = .ok (.nx (U.set i (some d))):=by
 rw [vE,ul,hl]
 simp only [h]
theorem qmK (d:D) (ds:List D):ixD (.lst (d::ds)) (.int 0)=some d:=qi6 (n:=0) rfl
theorem qen {ks:List Kw} (h:∀ k∈ks,1<=k.w/\0<=k.v/\∀ j,k.m=some j->0<=j) (hl:ks.length<=12):yI (.tup (ks.map kw))=true:=by
 have e:ks.map kw=(ks.map fun k=>(k.w,k.v,k.m)).map kD:=by rw [mm_];rfl
 rw [e]
 refine qeV (fun x hx => ?_) (by rw [lM_];exact hl)
 obtain ⟨k,hk,rfl⟩:=mP_.mp hx
 obtain ⟨h1,h2,h3⟩:=h k hk
 exact ⟨by show 0<k.w;omega,h2,h3⟩
theorem qeo {ks:List Kw} (h:∀ k∈ks,sgK k) (hl:ks.length<=12):yI (.tup (ks.map kw))=true:=qen (fun k hk=>⟨(h k hk).1,(h k hk).2.1,(h k hk).kd.2⟩) hl
def qih (k:Kw):Bool:=decide (k.m=some 0)||decide (k.m=some 1)
theorem qaJ {ks:List Kw} (h:∀ k∈ks,k.m=some 0\/k.m=some 1\/k.m=some 2\/k.m=none\/k.m=some 3) (hl:ks.length<=12) (U:Env) (hρ:U=[some (.tup (ks.map kw))]):tst (qE qe5 (qa (qV 1 [] none (jD (dv 0)) (qi 0) (ret true) (d2 inB (d2 ixD (dv 0) (ret (.int 2))) (zW (qa (ret (.int 0)) (qa (ret (.int 1)) (ret [])))))) (ret []))) U = .ok (ks.all qih,U):=by
 subst hρ
 have c:=qbl (e:=d2 inB (d2 ixD (dv 0) (ret (.int 2))) (zW (qa (ret (.int 0)) (qa (ret (.int 1)) (ret []))))) (fr:=[]) (U:=[some (.tup (ks.map kw))]) (r:=[]) (xs:=jD (dv 0)) (k:=kw) ks (fun k=>D.bl (qih k)) rfl rfl (by omega) fun k hk=>by
  refine qq (qq rfl rfl (qmH k)) (qnN rfl rfl) ?_
  unfold qih
  rcases h k hk with e | e | e | e | e<;>rw [e]<;>rfl
 exact j8 (uG c qh4)
theorem qmL {ks:List Kw} (h:∀ k∈ks,sgK k):ks.all qih=true:=by
 rw [List.all_eq_true]
 intro k hk
 unfold qih
 rcases (h k hk).2.2 with e | e<;>rw [e]<;>rfl
theorem qep {ks:List Kw} (h:∀ k∈ks,sgK k):∀ k∈ks,k.m=some 0\/k.m=some 1\/k.m=some 2\/k.m=none\/k.m=some 3:=fun k hk=>by
 rcases (h k hk).2.2 with e | e
 ·exact .inl e
 ·exact .inr (.inl e)
theorem qaV {ks:List Kw} (h:∀ k∈ks,sgK k) (hl:ks.length<=12):jI [.tup (ks.map kw)] = .ok .non:=by
 have c:=qaJ (qep h) hl _ rfl
 rw [qmL h] at c
 have e:jf [some (.tup (ks.map kw))] = .ok (.nx [some (.tup (ks.map kw))]):=by
  unfold jf
  have tn:=(qdT (t:=tst (qE qe5 (qa (qV 1 [] none (jD (dv 0)) (qi 0) (ret true) (d2 inB (d2 ixD (dv 0) (ret (.int 2))) (zW (qa (ret (.int 0)) (qa (ret (.int 1)) (ret [])))))) (ret [])))) (U:=[some (.tup (ks.map kw))]))
  rw [c] at tn
  exact qkT tn
 exact qgb rfl ⟨_,e⟩
section
variable {ks:List Kw} (h:∀ k∈ks,sgK k) (hl:ks.length<=10)
include h hl
theorem qaK:(∀ k∈ks.take (ks.length/2),sgK k)/\(∀ k∈ks.drop (ks.length/2),sgK k)/\(ks.take (ks.length/2)).length<=5/\(ks.drop (ks.length/2)).length<=5:=by
 refine ⟨fun k hk=>h k (List.mem_of_mem_take hk),fun k hk=>h k (List.mem_of_mem_drop hk),?_,?_⟩
 ·rw [List.length_take];omega
 ·rw [List.length_drop];omega
theorem qb1:jt [.tup (ks.map kw)] = .ok (.tup [.lst ((nbL (ks.take (ks.length/2))).map t3D),.lst ((nbL (ks.drop (ks.length/2))).map t3D)]):=by
 obtain ⟨h1,h2,l1,l2⟩:=qaK h hl
 unfold jt yc
 let U:Env:=[some (.tup (ks.map kw))]
 have g0:qa (dv 0) (ret []) U = .ok ([.tup (ks.map kw)],U):=yQ rfl
 refine qkm rfl ⟨U,?_⟩
 refine (qp (U':=U) (xx1 g0 (jK _ (qeo h (by omega))))).trans ?_
 refine (qp (U':=U) (xx1 g0 (qaV h (by omega)))).trans ?_
 exact uH (qnN (ve (ve rfl (qem ks (by omega))) (vP h1 l1)) (ve (ve rfl (qcT ks (by omega))) (vP h2 l2)))
theorem qgR {r:Int} (hr:0<=r):jk (.int r)=true:=decide_eq_true hr
theorem wB {r:Int} (hr:0<=r):zu [.tup (ks.map kw),.int r] = .ok (.int (qP ks r)):=by
 obtain ⟨h1,h2,l1,l2⟩:=qaK h hl
 let a:=ks.take (ks.length/2)
 let b:=ks.drop (ks.length/2)
 have ab:a++b=ks:=List.take_append_drop _ _
 have mb:=qh9 h1 h2 hr
 rw [ab] at mb
 have n1:(nbL a).length<=32:=qgP h1 l1
 have n2:(nbL b).length<=32:=qgP h2 l2
 unfold zu jU
 let U0:Env:=[some (.tup (ks.map kw)),some (.int r),none]
 let U:Env:=[some (.tup (ks.map kw)),some (.int r),some (.tup [.lst ((nbL a).map t3D),.lst ((nbL b).map t3D)])]
 have g0:qa (dv 0) (ret []) U0 = .ok ([.tup (ks.map kw)],U0):=yQ rfl
 have g1:qa (dv 1) (ret []) U0 = .ok ([.int r],U0):=yQ rfl
 refine qkm rfl ⟨U,?_⟩
 refine (qp (U':=U0) (xx1 g0 (jK _ (qeo h (by omega))))).trans ?_
 refine (qp (U':=U0) (xx1 g1 (vO _ (qgR h hl hr)))).trans ?_
 refine (qp (U':=U) (xs1 g0 (qb1 h hl))).trans ?_
 obtain ⟨y0,hy0,y00⟩:=qgQ h2
 obtain ⟨x0,hx0,x00⟩:=qgQ h1
 have c:=qax (e:=qo zP (qa (dv 0) (qa (d2 ixD (dv 2) (ret (.int 1))) (qa (dv 1) (ret []))))) (t:=tst (d2 leD (d2 ixD (dv 0) (ret (.int 0))) (dv 1))) (xs:=jD (d2 ixD (dv 2) (ret (.int 0)))) (fr:=[1,2]) (U:=U) (r:=[some (.int r),some (.tup [.lst ((nbL a).map t3D),.lst ((nbL b).map t3D)])]) (k:=t3D) (nbL a) (fun x=>decide (x.1<=r)) (fun x=>D.int (bb x (nbL b) r)) rfl rfl (by omega) (fun x _=>j8 (qq (qq rfl rfl (qdx x)) rfl (v6 _ _))) (fun x _ hp=>by
  have hp':=of_decide_eq_true hp
  exact vf rfl (qq rfl rfl rfl) rfl (qcU x (nbL b) r (by omega) ⟨y0,hy0,by omega⟩))
 refine uH (uG c ?_)
 rw [qaH (fun e=>by
  have:x0∈(nbL a).filter fun x=>decide (x.1<=r):=List.mem_filter.mpr ⟨hx0,decide_eq_true (by omega)⟩
  rw [e] at this
  cases this),mb]
theorem qdz {r:Int} (hr:0<=r):yx [.tup (ks.map kw),.int r] = .ok (ldD (va ks r)):=by
 obtain ⟨h1,h2,l1,l2⟩:=qaK h hl
 let a:=ks.take (ks.length/2)
 let b:=ks.drop (ks.length/2)
 have ab:a++b=ks:=List.take_append_drop _ _
 have e0:=wB h hl hr
 obtain ⟨x,t,ex,y,s,ey,ep⟩:=qgK h1 h2 hr
 unfold qmY at ex
 unfold qmZ at ey
 rw [ab] at ex ey ep
 have m1:(jy a).length<=32:=wU h1 l1
 have m2:(jy b).length<=32:=wU h2 l2
 obtain ⟨z,hz,z0⟩:=wT b
 let T:Option D:=some (.tup (ks.map kw))
 let Rm:Option D:=some (.int r)
 let Be:Option D:=some (.int (qP ks r))
 let Se:Option D:=some (.lst ((jy b).map t3D))
 let Fi:Option D:=some (.lst (((jy a).filter fun x=>decide (x.1<=r)).map t3D))
 let Bs:Option D:=some (.lst (((jy b).filter fun y=>decide (x.1+y.1<=r)).map t3D))
 unfold yx ui
 let U0:Env:=[T,Rm,none,none,none,none,none,none]
 let U1:Env:=[T,Rm,Be,none,none,none,none,none]
 let U2:Env:=[T,Rm,Be,Se,none,none,none,none]
 let U3:Env:=[T,Rm,Be,Se,Fi,none,none,none]
 let U4:Env:=[T,Rm,Be,Se,Fi,some (t3D x),none,none]
 let U5:Env:=[T,Rm,Be,Se,Fi,some (t3D x),Bs,none]
 let U6:Env:=[T,Rm,Be,Se,Fi,some (t3D x),Bs,some (t3D y)]
 refine qkm rfl ⟨U6,?_⟩
 refine (qp (U':=U1) (xs1 (U:=U0) (qay rfl rfl) e0)).trans ?_
 refine (qp (U':=U2) (vN (U1:=U1) (ve (ve rfl (qcT ks (by omega))) (yY h2 (by omega))))).trans ?_
 refine (qp (U':=U3) ?_).trans ?_
 ·have c:=qax (e:=dv 0) (t:=tst (d2 leD (d2 ixD (dv 0) (ret (.int 0))) (dv 1))) (xs:=jD (qo zq (qa (qo js (qa (dv 0) (ret []))) (ret [])))) (fr:=[1]) (U:=U2) (r:=[Rm]) (k:=t3D) (jy a) (fun x=>decide (x.1<=r)) t3D (by
   rw [qcy,ve (ve rfl (qem ks (by omega))) (yY h1 (by omega))]
   rfl) rfl (by omega) (fun x _=>j8 (qq (qq rfl rfl (qdx x)) rfl (v6 _ _))) (fun x _ _=>rfl)
  exact vN (U1:=U2) c
 refine (qp (U':=U4) ?_).trans ?_
 ·have fl:((jy a).filter fun x=>decide (x.1<=r)).length<=32:=Nat.le_trans (List.length_filter_le _ _) m1
  have c:=qax (e:=dv 0) (t:=tst (d2 eqB (qo zP (qa (dv 0) (qa (dv 2) (qa (dv 3) (ret []))))) (dv 1))) (xs:=jD (dv 4)) (fr:=[2,3,1]) (U:=U3) (r:=[Be,Se,Rm]) (k:=t3D) ((jy a).filter fun x=>decide (x.1<=r)) (fun x=>decide (bb x (jy b) r=qP ks r)) t3D rfl rfl (by omega) (fun x hx=>by
   have hx':=of_decide_eq_true (List.mem_filter.mp hx).2
   exact j8 (qq (vf rfl rfl rfl (qcU x (jy b) r (by omega) ⟨z,hz,by omega⟩)) rfl (yW _ _))) (fun x _ _=>rfl)
  rw [ex,mC_] at c
  exact vN (U1:=U3) (qq c rfl (qmK _ _))
 refine (qp (U':=U5) ?_).trans ?_
 ·have c:=qax (e:=dv 0) (t:=tst (d2 leD (d2 ze (d2 ixD (dv 2) (ret (.int 0))) (d2 ixD (dv 0) (ret (.int 0)))) (dv 1))) (xs:=jD (dv 3)) (fr:=[1,5]) (U:=U4) (r:=[Rm,some (t3D x)]) (k:=t3D) (jy b) (fun y=>decide (x.1+y.1<=r)) t3D rfl rfl (by omega) (fun y _=>j8 (qq (qq (qq rfl rfl (qdx x)) (qq rfl rfl (qdx y)) (zx _ _)) rfl (v6 _ _))) (fun y _ _=>rfl)
  exact vN (U1:=U4) c
 refine (qp (U':=U6) ?_).trans ?_
 ·have fl:((jy b).filter fun y=>decide (x.1+y.1<=r)).length<=32:=Nat.le_trans (List.length_filter_le _ _) m2
  have c:=qax (e:=dv 0) (t:=tst (d2 eqB (d2 ze (d2 ixD (dv 2) (ret (.int 1))) (d2 ixD (dv 0) (ret (.int 1)))) (dv 1))) (xs:=jD (dv 6)) (fr:=[2,5]) (U:=U5) (r:=[Be,some (t3D x)]) (k:=t3D) ((jy b).filter fun y=>decide (x.1+y.1<=r)) (fun y=>decide (x.2.1+y.2.1=qP ks r)) t3D rfl rfl (by omega) (fun y _=>j8 (qq (qq (qq rfl rfl (qdy x)) (qq rfl rfl (qdy y)) (zx _ _)) rfl (yW _ _))) (fun y _ _=>rfl)
  rw [ey,mC_] at c
  exact vN (U1:=U5) (qq c rfl (qmK _ _))
 ·have hx:x∈jy a:=by
   have:x∈((jy a).filter fun x=>decide (x.1<=r)).filter fun x=>decide (bb x (jy b) r=qP ks r):=by rw [ex];exact mS_
   exact (List.mem_filter.mp (List.mem_filter.mp this).1).1
  have hy:y∈jy b:=by
   have:y∈((jy b).filter fun y=>decide (x.1+y.1<=r)).filter fun y=>decide (x.2.1+y.2.1=qP ks r):=by rw [ey];exact mS_
   exact (List.mem_filter.mp (List.mem_filter.mp this).1).1
  obtain ⟨lx,hlx,rfl⟩:=u3.mp hx
  obtain ⟨ly,hly,rfl⟩:=u3.mp hy
  have k1:lx.length<=5:=by rw [ur hlx];exact l1
  have k2:ly.length<=5:=by rw [ur hly];exact l2
  refine uH (qq (qq rfl rfl (qkG _)) (qq rfl rfl (qkG _)) ?_)
  rw [<- ep]
  show ze (.tup (lx.map D.int)) (.tup (ly.map D.int))=some (.tup ((lx++ly).map D.int))
  rw [wP (by rw [lM_,lM_];omega),List.map_append]
end
def qD (p:List Int×Int):D := .tup [ldD p.1,.int p.2]
def uz (k:Kw) (p:List Int×Int):List (List Int×Int):=(List.range (ofn k p.2+1)).map fun (t:Nat)=>(p.1++[(t:Int)],p.2-(t:Int)*k.w)
theorem qb2 (k:Kw) (F:List (List Int×Int)):vL k F=F.flatMap (uz k):=rfl
def qeZ (k:Kw):Prop:=sgK k/\k.w<=10000000000000000000000
theorem qii {G:Int} (g:G<=100000000000000000000) {k:Kw} (h:sgB G k):qeZ k:=⟨h.1,by have:=h.2.1;omega⟩
theorem qmM {k:Kw} (h:sgK k) (s:Int):ofn k s<=1:=by
 unfold ofn
 rcases h.2.2 with q | q<;>rw [q]<;>simp only<;>split<;>omega
structure okF (n:Nat) (F:List (List Int×Int)):Prop where
 bd:∀ p∈F,0<=p.2/\p.1.length=n/\∀ t∈p.1,t=0\/t=1
 len:F.length<=2 ^ n
theorem wp {k:Kw} (hk:sgK k) {n:Nat} {p:List Int×Int} (h:0<=p.2/\p.1.length=n/\∀ t∈p.1,t=0\/t=1):(uz k p).length<=2/\∀ q∈uz k p,0<=q.2/\q.1.length=n+1/\∀ t∈q.1,t=0\/t=1:=by
 have hn:=qmM hk p.2
 refine ⟨by unfold uz;rw [lM_,lR_];omega,fun q hq => ?_⟩
 obtain ⟨t,ht,rfl⟩:=mP_.mp hq
 have ht':t<=ofn k p.2:=by have:=mR_.mp ht;omega
 obtain ⟨g1,_⟩:=qi7 hk.kd.1 hk.kd.2 h.1 ht'
 refine ⟨by show 0<=p.2-(t:Int)*k.w;omega,by rw [lA_,List.length_singleton,h.2.1],fun x hx => ?_⟩
 rcases mA_.mp hx with hx | hx
 ·exact h.2.2 x hx
 ·have:x=(t:Int):=by simpa using hx
  omega
theorem qeq {α β:Type} {f:α->List β}:∀ l:List α,(∀ a∈l,(f a).length<=2)->(l.flatMap f).length<=l.length*2
 | [],_=>by simp
 | a::l,h=>by
  have h1:=h a mS_
  have h2:=qeq l fun x hx=>h x (mM _ hx)
  rw [fC_,lA_,lC_,Nat.succ_mul]
  omega
theorem okF.step {k:Kw} (hk:sgK k) {n:Nat} {F:List (List Int×Int)} (h:okF n F):okF (n+1) (vL k F):=by
 refine ⟨fun q hq => ?_,?_⟩
 ·rw [qb2] at hq
  obtain ⟨p,hp,hq⟩:=List.mem_flatMap.mp hq
  exact (wp hk (h.bd p hp)).2 q hq
 ·rw [qb2,Nat.pow_succ]
  exact Nat.le_trans (qeq F fun p hp=>(wp hk (h.bd p hp)).1) (Nat.mul_le_mul_right _ h.len)
theorem qkK (m:Option Int):qhi (mD m) .non=some (.bl (!m.isNone)):=by rw [qdn,qh2]
theorem qkL (T Rm:Option D) {k:Kw} (hk:qeZ k) {n:Nat} (hn:n<=11) {F:List (List Int×Int)} (h:okF n F) (o6 o7 o8 o9:Option D) :
  ∃ q7 q8 q9,(qR (zJ 6 (jA (ret []))) (qR (vR (jD (dv 2)) (qaN 2 (qZ (qi 7) (qZ (qi 8) qaM))) (qR (zJ 9 (d2 y8 (dv 8) (dv 3))) (qR (sif (tst (d2 qhi (dv 5) (ret .non))) (zJ 9 (qE vi (qa (dv 9) (qa (dv 5) (ret []))))) yF) (zJ 6 (d2 ze (dv 6) (qV 1 [7,8,3] none (z5 (qa (d2 ze (dv 9) (ret (.int 1))) (ret []))) (qi 0) (ret true) (zW (qa (d2 ze (dv 1) (zW (qa (dv 0) (ret [])))) (qa (d2 qc5 (dv 2) (d2 yj (dv 0) (dv 3))) (ret [])))))))))) (zJ 2 (dv 6)))) [T,Rm,some (.lst (F.map qD)),some (.int k.w),some (.int k.v),some (mD k.m),o6,o7,o8,o9] = .ok (.nx [T,Rm,some (.lst ((vL k F).map qD)),some (.int k.w),some (.int k.v),some (mD k.m),some (.lst ((vL k F).map qD)),q7,q8,q9]):=by
 have hF:F.length<=2048:=Nat.le_trans h.len (Nat.le_trans (Nat.pow_le_pow_right (by omega) hn) (by decide))
 have hw1:=hk.1.1
 have hw2:=hk.2
 let Fd:Option D:=some (.lst (F.map qD))
 let A:Option D:=some (.int k.w)
 let B:Option D:=some (.int k.v)
 let Mo:Option D:=some (mD k.m)
 obtain ⟨U',q,o7',o8',o9',hlen,rfl⟩:=yJ (G:=qaN 2 (qZ (qi 7) (qZ (qi 8) qaM))) (b:=(qR (zJ 9 (d2 y8 (dv 8) (dv 3))) (qR (sif (tst (d2 qhi (dv 5) (ret .non))) (zJ 9 (qE vi (qa (dv 9) (qa (dv 5) (ret []))))) yF) (zJ 6 (d2 ze (dv 6) (qV 1 [7,8,3] none (z5 (qa (d2 ze (dv 9) (ret (.int 1))) (ret []))) (qi 0) (ret true) (zW (qa (d2 ze (dv 1) (zW (qa (dv 0) (ret [])))) (qa (d2 qc5 (dv 2) (d2 yj (dv 0) (dv 3))) (ret [])))))))))) (k:=qD) (step:=fun acc p=>acc++uz k p) (Inv:=fun m acc U=>∃ o7 o8 o9,acc.length<=m*2/\U=[T,Rm,Fd,A,B,Mo,some (.lst (acc.map qD)),o7,o8,o9]) F 0 [] [T,Rm,Fd,A,B,Mo,some (.lst []),o7,o8,o9] ⟨o7,o8,o9,Nat.le_refl _,rfl⟩ (fun p hp m acc U _ hm=>by
  rintro ⟨o7,o8,o9,hacc,rfl⟩
  obtain ⟨b0,b2,_⟩:=h.bd p hp
  have hof:=qmM hk.1 p.2
  have so:=wp hk.1 (h.bd p hp)
  have hd:0<=p.2/k.w:=Int.ediv_nonneg b0 (by omega)
  let Ac:Option D:=some (.lst (acc.map qD))
  let Ld:Option D:=some (ldD p.1)
  let Lf:Option D:=some (.int p.2)
  let U1:Env:=[T,Rm,Fd,A,B,Mo,Ac,Ld,Lf,o9]
  let U2:Env:=[T,Rm,Fd,A,B,Mo,Ac,Ld,Lf,some (.int (p.2/k.w))]
  let U3:Env:=[T,Rm,Fd,A,B,Mo,Ac,Ld,Lf,some (.int (ofn k p.2:Nat))]
  have e1:(zJ 9 (d2 y8 (dv 8) (dv 3))) U1 = .ok (.nx U2):=by
   have c:d2 y8 (dv 8) (dv 3) U1 = .ok (.int (p.2/k.w),U1):=qq rfl rfl (ue (by omega) (by omega))
   rw [vE,c]
   rfl
  have e2:(sif (tst (d2 qhi (dv 5) (ret .non))) (zJ 9 (qE vi (qa (dv 9) (qa (dv 5) (ret []))))) yF) U2 = .ok (.nx U3):=by
   obtain ⟨j,em,hj⟩:∃ j,k.m=some j/\0<=j:=by rcases hk.1.2.2 with q | q<;>exact ⟨_,q,by decide⟩
   have c1:d2 qhi (dv 5) (ret .non) U2 = .ok (.bl (!k.m.isNone),U2):=qq rfl rfl (qkK k.m)
   have e:((ofn k p.2:Nat):Int)=if j<p.2/k.w then j else p.2/k.w:=by
    unfold ofn
    rw [em]
    show ((if j<p.2/k.w then j else p.2/k.w).toNat:Int)=_
    split<;>omega
   rw [em] at c1
   rw [qkS (j8 c1)]
   have c2:qE vi (qa (dv 9) (qa (dv 5) (ret []))) U2 = .ok (.int (ofn k p.2:Nat),U2):=by
    have hv:dv 5 U2 = .ok (.int j,U2):=by
     show R.ok (mD k.m,U2)=_
     rw [em]
     rfl
    rw [qar,qay rfl hv]
    show (match vi [.int (p.2/k.w),.int j] with | some d=>R.ok (d,U2) | none => .bad)=_
    rw [qef,e]
   rw [vE,c2]
   rfl
  have e3:(zJ 6 (d2 ze (dv 6) (qV 1 [7,8,3] none (z5 (qa (d2 ze (dv 9) (ret (.int 1))) (ret []))) (qi 0) (ret true) (zW (qa (d2 ze (dv 1) (zW (qa (dv 0) (ret [])))) (qa (d2 qc5 (dv 2) (d2 yj (dv 0) (dv 3))) (ret []))))))) U3 = .ok (.nx [T,Rm,Fd,A,B,Mo,some (.lst ((acc++uz k p).map qD)),Ld,Lf,some (.int (ofn k p.2:Nat))]):=by
   have rg:z5 (qa (d2 ze (dv 9) (ret (.int 1))) (ret [])) U3 = .ok ((List.range (ofn k p.2+1)).map fun t:Nat=>D.int (t:Nat),U3):=by
    rw [uo (yQ (qq rfl rfl (zx _ _))) (by omega) (by omega)]
    have:((ofn k p.2:Nat)+1:Int).toNat=ofn k p.2+1:=by omega
    rw [this,qnP]
   have c:qV 1 [7,8,3] none (z5 (qa (d2 ze (dv 9) (ret (.int 1))) (ret []))) (qi 0) (ret true) (zW (qa (d2 ze (dv 1) (zW (qa (dv 0) (ret [])))) (qa (d2 qc5 (dv 2) (d2 yj (dv 0) (dv 3))) (ret [])))) U3 = .ok (.lst ((List.range (ofn k p.2+1)).map fun (t:Nat)=>qD (p.1++[(t:Int)],p.2-(t:Int)*k.w)),U3):=by
    refine qbl (r:=[Ld,Lf,A]) (k:=fun t:Nat=>D.int (t:Nat)) _ _ rg rfl (by rw [lR_];omega) fun t ht => ?_
    have ht':t<=ofn k p.2:=by have:=mR_.mp ht;omega
    have ad:ze (ldD p.1) (.tup [.int (t:Nat)])=some (ldD (p.1++[(t:Int)])):=by
     unfold ldD
     rw [wP (by rw [lM_,b2];simp;omega),List.map_append]
     rfl
    have t1:zW (qa (dv 0) (ret [])) [some (.int (t:Nat)),Ld,Lf,A] = .ok (.tup [.int (t:Nat)],[some (.int (t:Nat)),Ld,Lf,A]):=by
     rw [qaq,yQ rfl]
     simp only [lC_,lN_,Nat.zero_add,zh (show 1<=1000000 by omega),if_true]
    exact qnN (qq rfl t1 ad) (qq rfl (qq rfl rfl (qdp (v8 (by omega) (by omega)))) (qbP _ _))
   have ml:(uz k p).map qD=(List.range (ofn k p.2+1)).map fun (t:Nat)=>qD (p.1++[(t:Int)],p.2-(t:Int)*k.w):=by
    unfold uz
    rw [mm_]
    rfl
   rw [<- ml] at c
   have c2:(d2 ze (dv 6) (qV 1 [7,8,3] none (z5 (qa (d2 ze (dv 9) (ret (.int 1))) (ret []))) (qi 0) (ret true) (zW (qa (d2 ze (dv 1) (zW (qa (dv 0) (ret [])))) (qa (d2 qc5 (dv 2) (d2 yj (dv 0) (dv 3))) (ret [])))))) U3 = .ok (.lst ((acc++uz k p).map qD),U3):=qq rfl c (by rw [qbQ (by rw [lM_,lM_];have:=so.1;omega),List.map_append])
   rw [vE,c2]
   rfl
  refine ⟨U1,_,rfl,(qp e1).trans ((qp e2).trans e3),Ld,Lf,some (.int (ofn k p.2:Nat)),?_,rfl⟩
  rw [lA_]
  have:=so.1
  omega)
 rw [qbZ,List.nil_append,<- qb2] at q
 refine ⟨o7',o8',o9',?_⟩
 refine (qp (U':=[T,Rm,Fd,A,B,Mo,some (.lst []),o7,o8,o9]) ?_).trans ?_
 ·push_cast [zh (show 0<=1000000 by omega),Fd,A,B,Mo]
 refine (qp (U':=[T,Rm,Fd,A,B,Mo,some (.lst ((vL k F).map qD)),o7',o8',o9']) ?_).trans ?_
 ·rw [yG]
  exact q
 ·rfl
def wC (ks:List Kw) (r:Int):List (List Int×Int):=ks.foldl (fun f k=>vL k f) [([],r)]
theorem vq {ks:List Kw} (h:∀ k∈ks,qeZ k) (hl:ks.length<=12) {r:Int} (hr:0<=r):zT [.tup (ks.map kw),.int r] = .ok (.lst ((wC ks r).map fun p=>ldD p.1))/\okF ks.length (wC ks r):=by
 let T:Option D:=some (.tup (ks.map kw))
 let Rm:Option D:=some (.int r)
 have loop:∀ (b:List Kw) (n:Nat) (F:List (List Int×Int)) (o3 o4 o5 o6 o7 o8 o9:Option D),(∀ k∈b,qeZ k)->okF n F->n+b.length<=12->∃ o3' o4' o5' o6' o7' o8' o9',ua (qaN 3 (qZ (qi 3) (qZ (qi 4) (qZ (qi 5) qaM)))) (qR (zJ 6 (jA (ret []))) (qR (vR (jD (dv 2)) (qaN 2 (qZ (qi 7) (qZ (qi 8) qaM))) (qR (zJ 9 (d2 y8 (dv 8) (dv 3))) (qR (sif (tst (d2 qhi (dv 5) (ret .non))) (zJ 9 (qE vi (qa (dv 9) (qa (dv 5) (ret []))))) yF) (zJ 6 (d2 ze (dv 6) (qV 1 [7,8,3] none (z5 (qa (d2 ze (dv 9) (ret (.int 1))) (ret []))) (qi 0) (ret true) (zW (qa (d2 ze (dv 1) (zW (qa (dv 0) (ret [])))) (qa (d2 qc5 (dv 2) (d2 yj (dv 0) (dv 3))) (ret [])))))))))) (zJ 2 (dv 6)))) (b.map kw) [T,Rm,some (.lst (F.map qD)),o3,o4,o5,o6,o7,o8,o9] = .ok (.nx [T,Rm,some (.lst ((b.foldl (fun f k=>vL k f) F).map qD)),o3',o4',o5',o6',o7',o8',o9'])/\okF (n+b.length) (b.foldl (fun f k=>vL k f) F):=fun b=>by
  induction b with
  | nil=>intro n F o3 o4 o5 o6 o7 o8 o9 _ hF _;exact ⟨o3,o4,o5,o6,o7,o8,o9,rfl,hF⟩
  | cons k b ih =>
   intro n F o3 o4 o5 o6 o7 o8 o9 hb hF hn
   have hn':n+(b.length+1)<=12:=hn
   have hk:=hb k mS_
   obtain ⟨q7,q8,q9,e⟩:=qkL T Rm hk (by omega) hF o6 o7 o8 o9
   obtain ⟨p3,p4,p5,p6,p7,p8,p9,q,g⟩:=ih (n+1) (vL k F) (some (.int k.w)) (some (.int k.v)) (some (mD k.m)) (some (.lst ((vL k F).map qD))) q7 q8 q9 (fun x hx=>hb x (mM _ hx)) (hF.step hk.1) (by omega)
   refine ⟨p3,p4,p5,p6,p7,p8,p9,?_,?_⟩
   ·rw [mC_,qaz rfl e,q]
    rfl
   ·rw [fo_,lC_,show n+(b.length+1)=n+1+b.length by omega]
    exact g
 have h0:okF 0 [([],r)]:=⟨fun p hp=>by
  rw [ms_] at hp
  subst hp
  exact ⟨hr,rfl,fun t ht=>absurd ht nN_⟩,Nat.le_refl _⟩
 obtain ⟨p3,p4,p5,p6,p7,p8,p9,q,g⟩:=loop ks 0 [([],r)] none none none none none none none h h0 (by omega)
 rw [Nat.zero_add] at g
 refine ⟨?_,g⟩
 have hln:(wC ks r).length<=4096:=Nat.le_trans g.len (Nat.le_trans (Nat.pow_le_pow_right (by omega) hl) (by decide))
 unfold zT yi
 let U':Env:=[T,Rm,some (.lst ((wC ks r).map qD)),p3,p4,p5,p6,p7,p8,p9]
 refine v7 rfl ⟨U',?_⟩
 refine (qp (U':=[T,Rm,some (.lst (([([],r)]:List (List Int×Int)).map qD)),none,none,none,none,none,none,none]) ?_).trans ?_
 ·push_cast [zh (show 0<=1000000 by omega),zh (show 1<=1000000 by omega),zh (show 2<=1000000 by omega),T,Rm]
  rfl
 refine (qp (U':=U') ?_).trans ?_
 ·rw [yG]
  exact q
 ·have c:qV 2 [] none (jD (dv 2)) (qaN 2 (qZ (qi 0) (qZ (qi 1) qaM))) (ret true) (dv 0) U' = .ok (.lst ((wC ks r).map fun p=>ldD p.1),U'):=by
   have:=qgB (e:=dv 0) (t:=ret true) (xs:=jD (dv 2)) (fr:=[]) (U:=U') (r:=[]) (u:=fun p:List Int×Int=>ldD p.1) (v:=fun p=>D.int p.2) (wC ks r) (fun _=>true) (fun p=>ldD p.1) rfl rfl (by omega) (fun _ _=>rfl) (fun _ _ _=>rfl)
   rw [vn] at this
   exact this
  rw [qa7,c]
def qjf (ks:List Kw) (i:Nat):Kw:=(ks[i]?).getD ⟨1,0,none⟩
def lAt (l:List Int) (i:Nat):Int:=(l[i]?).getD 0
theorem qer (f:Kw->Int) {ks:List Kw} {l:List Int} (hl:ks.length=l.length):∀ n,n<=ks.length->(List.range n).foldl (fun s i=>s+f (qjf ks i)*lAt l i) 0=(((ks.take n).zip (l.take n)).map fun z=>f z.1*z.2).sum
 | 0,_=>rfl
 | n+1,h=>by
  rw [List.range_succ,List.foldl_append,qer f hl n (by omega)]
  have h1:n<ks.length:=by omega
  have h2:n<l.length:=by omega
  rw [List.take_succ_eq_append_getElem h1,List.take_succ_eq_append_getElem h2,List.zip_append (by rw [List.length_take,List.length_take];omega),List.map_append,List.sum_append]
  have e1:qjf ks n=ks[n]:=by unfold qjf;rw [gG h1];rfl
  have e2:lAt l n=l[n]:=by unfold lAt;rw [gG h2];rfl
  simp only [fo_,List.foldl_nil,e1,e2]
  simp
theorem vQ {ks:List Kw} (hl:ks.length<=12) {l:List Int} (hn:l.length=ks.length) (h01:∀ t∈l,t=0\/t=1) (c:Int) (f:Kw->Int) (hf:∀ k,ixD (kw k) (.int c)=some (.int (f k))):zH [.tup (ks.map kw),ldD l,.int c] = .ok (.int ((ks.zip l).map fun z=>f z.1*z.2).sum):=by
 let T:Option D:=some (.tup (ks.map kw))
 let Ld:Option D:=some (ldD l)
 let O:Option D:=some (.int c)
 obtain ⟨U',q,o4,rfl⟩:=yJ (G:=qi 4) (b:=(zJ 3 (d2 ze (dv 3) (d2 yj (d2 ixD (d2 ixD (dv 0) (dv 4)) (dv 2)) (d2 ixD (dv 1) (dv 4)))))) (k:=fun i:Nat=>D.int (i:Nat)) (step:=fun (s:Int) (i:Nat)=>s+f (qjf ks i)*lAt l i) (Inv:=fun n s U=>∃ o4,U=[T,Ld,O,some (.int s),o4]) (List.range ks.length) 0 0 [T,Ld,O,some (.int 0),none] ⟨none,rfl⟩ (fun i hi n s U _ _=>by
  rintro ⟨o4,rfl⟩
  have hi':=mR_.mp hi
  have k1:ks[i]? = some (qjf ks i):=by unfold qjf;rw [gG hi'];rfl
  have l1:l[i]? = some (lAt l i):=by unfold lAt;rw [gG (by omega)];rfl
  have g:=h01 _ (List.mem_of_getElem? l1)
  let U1:Env:=[T,Ld,O,some (.int s),some (.int (i:Nat))]
  have cc:(d2 ze (dv 3) (d2 yj (d2 ixD (d2 ixD (dv 0) (dv 4)) (dv 2)) (d2 ixD (dv 1) (dv 4)))) U1 = .ok (.int (s+f (qjf ks i)*lAt l i),U1):=qq rfl (qq (qq (qq rfl rfl (qi3 (by rw [gM_,k1];rfl))) rfl (hf _)) (qq rfl rfl (qi3 (by rw [gM_,l1];rfl))) (qhY (v8 (by rcases g with e | e<;>omega) (by rcases g with e | e<;>omega)))) (zx _ _)
  refine ⟨U1,[T,Ld,O,some (.int (s+f (qjf ks i)*lAt l i)),some (.int (i:Nat))],rfl,?_,_,rfl⟩
  rw [vE,cc]
  rfl)
 rw [qer f hn.symm _ (Nat.le_refl _),List.take_length,<- hn,List.take_length] at q
 unfold zH wm
 refine v7 rfl ⟨[T,Ld,O,some (.int ((ks.zip l).map fun z=>f z.1*z.2).sum),o4],?_⟩
 refine (qp (U':=[T,Ld,O,some (.int 0),none]) rfl).trans ?_
 refine (qp (U':=[T,Ld,O,some (.int ((ks.zip l).map fun z=>f z.1*z.2).sum),o4]) ?_).trans rfl
 rw [yG,uo (j:=(ks.length:Nat)) (U1:=[T,Ld,O,some (.int 0),none]) (yQ (uG (a := .tup (ks.map kw)) rfl (by rw [yS,lM_]))) (by omega) (by omega),Int.toNat_natCast,qnP,<- hn]
 exact q
theorem qe0 {ks:List Kw} (hl:ks.length<=12) {l:List Int} (hn:l.length=ks.length) (h01:∀ t∈l,t=0\/t=1):zH [.tup (ks.map kw),ldD l,.int 0] = .ok (.int (qA ks l)):=by rw [vQ hl hn h01 0 (·.w) qmF,qkH]
theorem qgS {ks:List Kw} (hl:ks.length<=12) {l:List Int} (hn:l.length=ks.length) (h01:∀ t∈l,t=0\/t=1):zH [.tup (ks.map kw),ldD l,.int 1] = .ok (.int (qy ks l)):=by rw [vQ hl hn h01 1 (·.v) qmG,qkI]
theorem qcV {β:Type} (ks:List Kw) (r:Int) (g:List Int->β):(wC ks r).map (fun p=>g p.1)=(z6 ks r).map g:=by
 rw [<- qdq,mm_]
 rfl
theorem qb3 {ks:List Kw} (h:∀ k∈ks,sgK k) {r:Int} (hr:0<=r) {l:List Int} (hl:l∈z6 ks r):l.length=ks.length/\∀ t∈l,t=0\/t=1:=by
 rw [ug h hr] at hl
 have:=(List.mem_filter.mp hl).1
 exact ⟨ur this,qbW h this⟩
theorem jw:RN.contains "NotSingle"=true:=by decide
theorem qaL:jc [.exc "NotSingle"] = .ok (.str "single"):=by
 have f0:(("SackError":Str)=="ValueError"||yP "NotSingle" "SackError")=true:=by decide
 have f1:(("ValueError":Str)=="ValueError"||yP "NotSingle" "ValueError")=true:=by decide
 have f2:(("NoStore":Str)=="ValueError"||yP "NotSingle" "NoStore")=false:=by decide
 have f3:(("NoNumber":Str)=="ValueError"||yP "NotSingle" "NoNumber")=false:=by decide
 have f4:(("NoLoad":Str)=="ValueError"||yP "NotSingle" "NoLoad")=false:=by decide
 have f5:(("TooMany":Str)=="ValueError"||yP "NotSingle" "TooMany")=false:=by decide
 have f6:(("NotSingle":Str)=="ValueError"||yP "NotSingle" "NotSingle")=true:=by decide
 have f7:(("NoText":Str)=="ValueError"||yP "NotSingle" "NoText")=false:=by decide
 unfold jc
 refine v7 rfl ⟨[some (.exc "NotSingle"),some (.lst [.bl false,.bl false,.bl false,.bl false,.bl true,.bl false])],?_⟩
 unfold j9
 refine (qp (U':=[some (.exc "NotSingle"),none]) ?_).trans ?_
 ·push_cast [f0,f1,jw]
 refine (qp (U':=[some (.exc "NotSingle"),some (.lst [.bl false,.bl false,.bl false,.bl false])]) ?_).trans ?_
 ·push_cast [f2,f3,f4,f5,jw,zh (show 4<=1000000 by omega)]
 refine (qp (U':=[some (.exc "NotSingle"),some (.lst [.bl false,.bl false,.bl false,.bl false,.bl true,.bl false])]) ?_).trans ?_
 ·push_cast [f6,f7,jw,zh (show 2<=1000000 by omega),qbQ (xs:=[.bl false,.bl false,.bl false,.bl false]) (ys:=[.bl true,.bl false]) (by simp)]
 have c1:qcC (.lst [.bl false,.bl false,.bl false,.bl false,.bl true,.bl false]) [.bl true]=some (.int 1):=rfl
 have c2:neS (.int 1) (.int 1)=some (.bl false):=rfl
 have c3:qcD (.lst [.bl false,.bl false,.bl false,.bl false,.bl true,.bl false]) [.bl true]=some (.int 4):=rfl
 have c4:ixD (.lst [.str "store",.str "number",.str "load",.str "many",.str "single",.str "text"]) (.int 4)=some (.str "single"):=rfl
 refine (qp (U':=[some (.exc "NotSingle"),some (.lst [.bl false,.bl false,.bl false,.bl false,.bl true,.bl false])]) ?_).trans ?_
 ·push_cast [c1,c2]
 ·push_cast [c3,c4,zh (show 6<=1000000 by omega)]
theorem yM:RN.contains "NoNumber"=true:=by decide
theorem qaW:jc [.exc "NoNumber"] = .ok (.str "number"):=by
 have f0:(("SackError":Str)=="ValueError"||yP "NoNumber" "SackError")=true:=by decide
 have f1:(("ValueError":Str)=="ValueError"||yP "NoNumber" "ValueError")=true:=by decide
 have f2:(("NoStore":Str)=="ValueError"||yP "NoNumber" "NoStore")=false:=by decide
 have f3:(("NoNumber":Str)=="ValueError"||yP "NoNumber" "NoNumber")=true:=by decide
 have f4:(("NoLoad":Str)=="ValueError"||yP "NoNumber" "NoLoad")=false:=by decide
 have f5:(("TooMany":Str)=="ValueError"||yP "NoNumber" "TooMany")=false:=by decide
 have f6:(("NotSingle":Str)=="ValueError"||yP "NoNumber" "NotSingle")=false:=by decide
 have f7:(("NoText":Str)=="ValueError"||yP "NoNumber" "NoText")=false:=by decide
 unfold jc
 refine v7 rfl ⟨[some (.exc "NoNumber"),some (.lst [.bl false,.bl true,.bl false,.bl false,.bl false,.bl false])],?_⟩
 unfold j9
 refine (qp (U':=[some (.exc "NoNumber"),none]) ?_).trans ?_
 ·push_cast [f0,f1,yM]
 refine (qp (U':=[some (.exc "NoNumber"),some (.lst [.bl false,.bl true,.bl false,.bl false])]) ?_).trans ?_
 ·push_cast [f2,f3,f4,f5,yM,zh (show 4<=1000000 by omega)]
 refine (qp (U':=[some (.exc "NoNumber"),some (.lst [.bl false,.bl true,.bl false,.bl false,.bl false,.bl false])]) ?_).trans ?_
 ·push_cast [f6,f7,yM,zh (show 2<=1000000 by omega),qbQ (xs:=[.bl false,.bl true,.bl false,.bl false]) (ys:=[.bl false,.bl false]) (by simp)]
 have c1:qcC (.lst [.bl false,.bl true,.bl false,.bl false,.bl false,.bl false]) [.bl true]=some (.int 1):=rfl
 have c2:neS (.int 1) (.int 1)=some (.bl false):=rfl
 have c3:qcD (.lst [.bl false,.bl true,.bl false,.bl false,.bl false,.bl false]) [.bl true]=some (.int 1):=rfl
 have c4:ixD (.lst [.str "store",.str "number",.str "load",.str "many",.str "single",.str "text"]) (.int 1)=some (.str "number"):=rfl
 refine (qp (U':=[some (.exc "NoNumber"),some (.lst [.bl false,.bl true,.bl false,.bl false,.bl false,.bl false])]) ?_).trans ?_
 ·push_cast [c1,c2]
 ·push_cast [c3,c4,zh (show 6<=1000000 by omega)]
theorem qb4 (ks:List Kw) (r:Int):va ks r∈z6 ks r/\qy ks (va ks r)=qP ks r:=by
 obtain ⟨uJ,e⟩:=uf ks r
 have:va ks r∈(z6 ks r).filter (fun l=>decide (qy ks l=qP ks r)):=by rw [e];exact mS_
 obtain ⟨a,b⟩:=List.mem_filter.mp this
 exact ⟨a,of_decide_eq_true b⟩
theorem qgT (ks:List Kw) (r:Int):qbF ((z6 ks r).map (qy ks))=qP ks r:=by
 obtain ⟨a,b⟩:=qb4 ks r
 have h1:=qgJ (mP_.mpr ⟨_,a,b⟩:qP ks r∈(z6 ks r).map (qy ks))
 obtain ⟨l,hl,e⟩:=mP_.mp (qdt (l:=(z6 ks r).map (qy ks)) fun e=>by
  rw [List.map_eq_nil_iff.mp e] at a;cases a)
 have h2:=wQ ks r l hl
 omega
theorem qes {α:Type} {p:α->Bool}:∀ (l:List α) (x:α) (uJ:List α),l.filter p=x::uJ->l[l.findIdx p]? = some x
 | [],x,uJ,h=>by cases h
 | a::l,x,uJ,h=>by
  rw [ft_] at h
  rw [List.findIdx_cons]
  cases e:p a with
  | true =>
   rw [e,if_pos rfl] at h
   cases h
   rfl
  | false =>
   rw [e] at h
   have:=qes l x uJ h
   rw [cond_false,List.getElem?_cons_succ]
   exact this
theorem qkM (a b:Int):PyData.eqv (zw (.int a)) (zw (.int b))=decide (a=b):=rfl
theorem qdA {l:List Int} {M:Int} (h:M∈l):qbf (.lst (l.map D.int)) [.int M]=some (.int ((l.findIdx fun n=>decide (n=M)):Nat)):=by
 have o1:(l.map D.int).all u9=true:=by
  rw [List.all_map]
  exact List.all_eq_true.mpr fun _ _=>rfl
 have o2:u9 (.int M)=true:=rfl
 have e:(l.map D.int).findIdx? (fun d=>PyData.eqv (zw d) (zw (.int M)))=some (l.findIdx fun n=>decide (n=M)):=by
  rw [List.findIdx?_map]
  have:(fun d=>PyData.eqv (zw d) (zw (.int M)))∘D.int=fun n=>decide (n=M):=by
   funext n
   exact qkM n M
  rw [this]
  exact List.findIdx?_eq_some_of_exists ⟨M,h,decide_eq_true rfl⟩
 unfold qbf
 simp only [o1,o2,Bool.and_self,if_true,e,Option.map_some]
 rfl
theorem qe1 {ks:List Kw} (h:∀ k∈ks,qeZ k) (hl:ks.length<=12) {r:Int} (hr:0<=r):∃ c,zg [.tup (ks.map kw),.int r] = .ok (.tup [.int (qP ks r),ldD (va ks r),c]):=by
 obtain ⟨e1,g⟩:=vq h hl hr
 have hs:∀ k∈ks,sgK k:=fun k hk=>(h k hk).1
 have hln:(wC ks r).length<=4096:=Nat.le_trans g.len (Nat.le_trans (Nat.pow_le_pow_right (by omega) hl) (by decide))
 let LL:=z6 ks r
 let W:=LL.map (qy ks)
 have hM:qbF W=qP ks r:=qgT ks _
 obtain ⟨bm1,bm2⟩:=qb4 ks r
 have hmem:qP ks r∈W:=mP_.mpr ⟨_,bm1,bm2⟩
 have hW:LL≠[]:=fun e=>by
  have:va ks r∈LL:=bm1
  rw [e] at this
  cases this
 let T:Option D:=some (.tup (ks.map kw))
 let Rm:Option D:=some (.int r)
 let So:Option D:=some (.lst (LL.map ldD))
 have hWm:(LL.map fun a=>D.int (qy ks a))=W.map D.int:=by show _=(LL.map (qy ks)).map D.int;rw [mm_];rfl
 let U:Env:=[T,Rm,So,some (.lst (W.map D.int))]
 have mx:qE wG (qa (dv 3) (ret [])) U = .ok (.int (qP ks r),U):=by
  refine uG rfl ?_
  have:=qaH (f:=qy ks) hW
  rw [hWm] at this
  rw [this]
  show some (D.int (qbF W))=_
  rw [hM]
 obtain ⟨uJ,ep⟩:=uf ks r
 have fi:W.findIdx (fun n=>decide (n=qP ks r))=LL.findIdx fun l=>decide (qy ks l=qP ks r):=by
  show (LL.map (qy ks)).findIdx _=_
  rw [List.findIdx_map]
  rfl
 have ld:(LL.map ldD)[LL.findIdx fun l=>decide (qy ks l=qP ks r)]? = some (ldD (va ks r)):=by
  rw [gM_,qes LL _ uJ ep]
  rfl
 have ix:qbJ qbf (dv 3) (qa (qE wG (qa (dv 3) (ret []))) (ret [])) U = .ok (.int ((LL.findIdx fun l=>decide (qy ks l=qP ks r)):Nat),U):=by
  rw [qbL]
  have g3:dv 3 U = .ok (.lst (W.map D.int),U):=rfl
  rw [g3]
  simp only [yQ mx,qdA hmem,fi]
 obtain ⟨c,ct⟩:∃ c,qbJ qbd (dv 3) (qa (qE wG (qa (dv 3) (ret []))) (ret [])) U = .ok (c,U):=by
  rw [qbL]
  have g3:dv 3 U = .ok (.lst (W.map D.int),U):=rfl
  have cc:qbd (.lst (W.map D.int)) [.int (qP ks r)]=some (.int (W.countP (·==qP ks r):Nat)):=by
   unfold qbd
   simp only [vK,Option.map_some]
  rw [g3]
  simp only [yQ mx,cc]
  exact ⟨_,rfl⟩
 refine ⟨c,?_⟩
 have e1':zT [.tup (ks.map kw),.int r] = .ok (.lst (LL.map ldD)):=by rw [e1,qcV ks _ ldD]
 have hLL:LL.length<=4096:=by
  have:=congrArg List.length (qcV ks r ldD)
  rw [lM_,lM_] at this
  show (z6 ks r).length<=_
  omega
 unfold zg yX
 refine v7 rfl ⟨U,?_⟩
 refine (qp (U':=[T,Rm,So,none]) (vN (U1:=[T,Rm,none,none]) (qi5 rfl rfl e1'))).trans ?_
 refine (qp (U':=U) ?_).trans (uH (qnO mx (qq rfl ix (qi6 ld)) ct))
 have c:(qV 1 [0] none (jD (dv 2)) (qi 0) (ret true) (qo zH (qa (dv 1) (qa (dv 0) (qa (ret (.int 1)) (ret [])))))) [T,Rm,So,none] = .ok (.lst (LL.map fun l=>D.int (qy ks l)),[T,Rm,So,none]):=qbl (r:=[T]) (k:=ldD) LL _ rfl rfl (by omega) fun l hl'=>vf rfl rfl rfl (qgS hl (qb3 hs hr hl').1 (qb3 hs hr hl').2)
 rw [hWm] at c
 exact vN (U1:=[T,Rm,So,none]) c
theorem qbn {F:List D->R D} {l:M (List D)} {U U':Env} {ds:List D} {n:Str} (hl:l U = .ok (ds,U)) (h:F ds = .exc ⟨n,.non⟩ U') (hn:RN.contains n=true):yH RN F l U = .exc ⟨n,.non⟩ U:=by
 rw [ul,hl]
 simp only [h,hn,if_true]
theorem qjg {f:M D} {U U':Env} {x:Exn} (h:f U = .exc x U'):ye f U = .exc x U':=by rw [vm,h]
theorem qmN {i:Nat} {f:M D} {U U':Env} {x:Exn} (h:f U = .exc x U'):zJ i f U = .exc x U':=by rw [vE,h]
theorem qmO {f:M D} {U U':Env} {x:Exn} (h:f U = .exc x U'):jN f U = .exc x U':=by rw [qa7,h]
theorem qij {qs:List Kw} (h:∀ k∈qs,k.m=some 0\/k.m=some 1\/k.m=some 2\/k.m=none\/k.m=some 3) (hl:qs.length<=12) (hx:qs.all qih=false):jI [.tup (qs.map kw)] = .exc ⟨"NotSingle",.non⟩ [some (.tup (qs.map kw))]:=by
 have c:=qaJ h hl _ rfl
 rw [hx] at c
 unfold jI
 refine qbe rfl ?_
 unfold jf
 have tn:=(qdT (t:=tst (qE qe5 (qa (qV 1 [] none (jD (dv 0)) (qi 0) (ret true) (d2 inB (d2 ixD (dv 0) (ret (.int 2))) (zW (qa (ret (.int 0)) (qa (ret (.int 1)) (ret [])))))) (ret [])))) (U:=[some (.tup (qs.map kw))]))
 rw [c] at tn
 show sif _ _ _ [some (.tup (qs.map kw))]=_
 rw [qkS tn]
 push_cast [sm1]
theorem qnS {qs:List Kw} (h:∀ k∈qs,k.m=some 0\/k.m=some 1\/k.m=some 2\/k.m=none\/k.m=some 3) (hl:qs.length<=12) (hx:qs.all qih=false) (hs:yI (.tup (qs.map kw))=true) {r:Int} (hr:0<=r):zu [.tup (qs.map kw),.int r] = .exc ⟨"NotSingle",.non⟩ [some (.tup (qs.map kw)),some (.int r),none]:=by
 have e:jt [.tup (qs.map kw)] = .exc ⟨"NotSingle",.non⟩ [some (.tup (qs.map kw))]:=by
  unfold jt
  refine qbe rfl ?_
  unfold yc
  let U:Env:=[some (.tup (qs.map kw))]
  refine (qp (U':=U) (xx1 (yQ rfl) (jK _ hs))).trans (qcF (qjg (qbn (U:=U) (yQ rfl) (qij h hl hx) jw)))
 unfold zu
 refine qbe rfl ?_
 unfold jU
 let U:Env:=[some (.tup (qs.map kw)),some (.int r),none]
 refine (qp (U':=U) (xx1 (yQ rfl) (jK _ hs))).trans ((qp (U':=U) (xx1 (yQ rfl) (vO (.int r) (show jk (.int r)=true from decide_eq_true hr)))).trans (qcF (qmN (qbn (U:=U) (yQ rfl) e jw))))
theorem qnT {s d:D} (hs:yI s=true) (hc:jk d=false):zu [s,d] = .exc ⟨"NoNumber",.non⟩ [some s,some d,none]:=by
 unfold zu
 refine qbe rfl ?_
 unfold jU
 let U:Env:=[some s,some d,none]
 refine (qp (U':=U) (xx1 (yQ rfl) (jK _ hs))).trans (qcF (qjg (qbn (U:=U) (yQ rfl) (qcR _ hc) yM)))
theorem qjh {s x:D} {n:Str} {w:D} (hn:RN.contains n=true) (he:zu [s,x] = .exc ⟨n,.non⟩ [some s,some x,none]) (hm:jc [.exc n] = .ok w):∀ j:Nat,j<2->ql [.int (j:Nat),s,x] = .ok w:=by
 have l:yx [s,x] = .exc ⟨n,.non⟩ [some s,some x,none,none,none,none,none,none]:=by
  unfold yx
  refine qbe rfl ?_
  unfold ui
  let U:Env:=[some s,some x,none,none,none,none,none,none]
  exact qcF (qmN (qbn (U:=U) (qay rfl rfl) he hn))
 have h1:¬ ((1:Int)=0):=by omega
 have f2:∀ P:Nat->Prop,P 0->P 1->∀ i,i<2->P i:=fun P p0 p1 i hi=>by
  match i,hi with
  | 0,_=>exact p0
  | 1,_=>exact p1
 refine f2 _ ?_ ?_
 ·show ql [.int 0,s,x]=_
  unfold ql jV
  let U:Env:=[some (.int 0),some s,some x,none]
  refine v7 rfl ⟨U,qmB (n:=n) (v := .non) (qcF ?_) hn hm⟩
  show sif _ _ _ U=_
  rw [qkS (j8 (qq rfl rfl (yW 0 0)))]
  exact qmO (qbn (qay rfl rfl) he hn)
 ·show ql [.int 1,s,x]=_
  unfold ql jV
  let U:Env:=[some (.int 1),some s,some x,none]
  refine v7 rfl ⟨U,qmB (n:=n) (v := .non) ((qp (U':=U) ?_).trans (qmO (qbn (qay rfl rfl) l hn))) hn hm⟩
  show sif _ _ _ U=_
  rw [qkT (j8 (qq rfl rfl (yW 1 0)))]
  rfl
section
variable {ks:List Kw} (h:∀ k∈ks,sgK k) (hl:ks.length<=10) {r:Int} (hr:0<=r)
include h hl hr
theorem qnU:ql [.int 0,.tup (ks.map kw),.int r] = .ok (.int (qP ks r)):=by
 unfold ql jV
 let U:Env:=[some (.int 0),some (.tup (ks.map kw)),some (.int r),none]
 refine v7 rfl ⟨U,qjc (qbk (U':=U) ?_)⟩
 show sif _ _ _ U=_
 rw [qkS (j8 (qq rfl rfl (yW 0 0)))]
 refine uH ?_
 rw [ul,qay rfl rfl]
 simp only [wB h hl hr]
theorem qnV:ql [.int 1,.tup (ks.map kw),.int r] = .ok (ldD (va ks r)):=by
 unfold ql jV
 let U:Env:=[some (.int 1),some (.tup (ks.map kw)),some (.int r),none]
 refine v7 rfl ⟨U,qjc ((qp (U':=U) ?_).trans (uH ?_))⟩
 ·show sif _ _ _ U=_
  rw [qkT (j8 (qq rfl rfl (yW 1 0)))]
  rfl
 ·rw [ul,qay rfl rfl]
  simp only [qdz h hl hr]
end
theorem qcW {G:Int} (g0:0<=G):∀ {ks:List Kw} {l:List Int},(∀ k∈ks,sgB G k)->(∀ t∈l,t=0\/t=1)->qy ks l<=40*G*(ks.length:Int)/\qA ks l<=40*G*(ks.length:Int)
 | [],_,_,_=>by simp [qy,qA]
 | k::ks,[],_,_=>by
  have:0<=40*G*(((k::ks).length:Nat):Int):=Int.mul_nonneg (by omega) (by omega)
  exact ⟨this,this⟩
 | k::ks,t::l,hk,hl=>by
  obtain ⟨i1,i2⟩:=qcW g0 (ks:=ks) (l:=l) (fun k hk'=>hk k (mM _ hk')) fun x hx=>hl x (mM _ hx)
  obtain ⟨⟨a1,a2,_⟩,b1,b2⟩:=hk k mS_
  have e:40*G*(((k::ks).length:Nat):Int)=40*G*(ks.length:Int)+40*G:=by
   rw [lC_,Int.natCast_succ,Int.mul_add,Int.mul_one]
  rw [e]
  have m1:t*k.v<=40*G:=by rcases hl t mS_ with q | q<;>rw [q]<;>omega
  have m2:t*k.w<=40*G:=by rcases hl t mS_ with q | q<;>rw [q]<;>omega
  refine ⟨?_,?_⟩
  ·show t*k.v+qy ks l<=_
   omega
  ·show t*k.w+qA ks l<=_
   omega
theorem qcX:∀ (ks:List Kw) (n:Int) (acc:List Int) (o:Option D),(∀ k∈ks,sgK k)->acc.length+ks.length<=100->∃ n' l o',zB (qi 0) (ret true) (qk qf 1 (qa (d2 ze (ret (.int 1)) (d2 ixD (dv 0) (ret (.int 2)))) (ret []))) (ks.map kw) (acc.map D.int) [o,some (.lst [.int n])] = .ok ((acc++l).map D.int,[o',some (.lst [.int n'])])/\l.length=ks.length/\∀ t∈l,t=0\/t=1
 | [],n,acc,o,_,_=>⟨n,[],o,by rw [List.append_nil];rfl,rfl,fun t ht=>absurd ht nN_⟩
 | k :: ks,n,acc,o,h,hl=>by
  rw [lC_] at hl
  have gk:=h k mS_
  have ht:=qgF gk
  let m:Int:=1+(tm k:Int)
  have m0:0<=n%m:=Int.emod_nonneg _ (by show 1+(tm k:Int)≠0;omega)
  have m1:n%m<m:=Int.emod_lt_of_pos _ (by show 0<1+(tm k:Int);omega)
  obtain ⟨n',l,o',q,hq,h01⟩:=qcX ks (n/m) (acc++[n%m]) (some (kw k)) (fun x hx=>h x (mM _ hx)) (by rw [lA_,List.length_singleton];omega)
  refine ⟨n',n%m::l,o',?_,by rw [lC_,lC_,hq],fun t ht' => ?_⟩
  ·have e:qk qf 1 (qa (d2 ze (ret (.int 1)) (d2 ixD (dv 0) (ret (.int 2)))) (ret [])) [some (kw k),some (.lst [.int n])] = .ok (.int (n%m),[some (kw k),some (.lst [.int (n/m)])]):=io1 (i:=1) (a := .int m) rfl (qq rfl (qq rfl rfl (qon gk)) (zx _ _)) (jn (by show 0<1+(tm k:Int);omega) (by show 1+(tm k:Int)<_;omega))
   rw [mC_]
   unfold zB
   simp only [qi,List.set_cons_zero,qdd,e,lM_,zh (show acc.length+1<=1000000 by omega),if_true]
   rw [List.map_append,List.map_append] at q
   simp only [mC_,List.map_nil] at q
   rw [q]
   simp
  ·rcases List.mem_cons.mp ht' with rfl | ht'
   ·have:m<=2:=by show 1+(tm k:Int)<=2;omega
    omega
   ·exact h01 t ht'
theorem qoo (x:Str) (U:Env):d2 yj (jA (qa (ret (.str x)) (ret []))) (ret (.int 2)) U = .ok (.lst [.str x,.str x],U):=by
 refine qq (a := .lst [.str x]) (by rw [qdS,yQ rfl];simp only [lC_,lN_,Nat.zero_add,sm1,if_true]) rfl ?_
 have h1:decide (-(2 ^ 62:Int)<=(2:Int))=true:=decide_eq_true (by omega)
 have h2:decide ((2:Int)<2 ^ 62)=true:=decide_eq_true (by omega)
 have h3:qQ (([D.str x]:List D).length*(2:Int).toNat)=true:=zh (by show 1*2<=1000000;omega)
 simp only [yj,h1,h2,h3,Bool.and_self,if_true]
 rfl
theorem qkN:neB (.lst (List.replicate 2 (.str "single"))) (.lst [.str "single",.str "single"])=some (.bl false):=by kernel_rfl
theorem qkO:neB (.lst (List.replicate 2 (.str "number"))) (.lst [.str "number",.str "number"])=some (.bl false):=by kernel_rfl
theorem qnW:qdR (.int 10) (.int 29)=some (.int 100000000000000000000000000000):=by
 have h:qhA 10 29=true:=by decide +kernel
 have e:(10:Int) ^ (29:Int).toNat=100000000000000000000000000000:=by decide +kernel
 simp only [qdR,qhg,h,if_true,e]
theorem qgU {ks:List Kw} {G:Int} (g0:1<=G) (g1:G<=100000000000000000000) (h:∀ k∈ks,sgB G k) (hl:ks.length<=10) {r:Int} (hr:0<=r):jL [.int (qP ks r)]=some (.str (PyData.shown (.int (qP ks r))))/\jL [ldD (va ks r)]=some (.str (zw (ldD (va ks r))).shown):=by
 have hs:∀ k∈ks,sgK k:=fun k hk=>(h k hk).1
 obtain ⟨b1,b2⟩:=qb4 ks r
 obtain ⟨f1,f2⟩:=qb3 hs hr b1
 have t:=(qcW (by omega) h f2).1
 have nn:=(vM hs f2).2
 rw [b2] at t nn
 have tl:40*G*(ks.length:Int)<=40*100000000000000000000*10:=Int.mul_le_mul (by omega) (by omega) (by omega) (by omega)
 refine ⟨qh0 (by omega),qgw (fun x hx => ?_) (by rw [lM_];omega)⟩
 obtain ⟨v,hv,rfl⟩:=mP_.mp hx
 exact .inr ⟨v,rfl,by rcases f2 v hv with e | e<;>rw [e]<;>decide⟩
theorem qik (ns:List Int) (i:Int) (h0:0<=i) (h3:i<3) (r:Env) (hr:r.length=10):∃ r',r'.length=10/\(qR (vY 2 (qcw jv (qa (dv 0) (qa (dv 1) (ret []))))) (qR (zJ 3 (qk qM 2 (qa (d2 ixD (jA (qa (ret (.int 8)) (qa (ret (.int 6)) (qa (ret (.int 6)) (ret []))))) (dv 1)) (qa (d2 ixD (jA (qa (ret (.int 1)) (qa (ret (.int 1)) (qa (d2 qdR (ret (.int 10)) (ret (.int 20))) (ret []))))) (qk qf 2 (qa (ret (.int 3)) (ret [])))) (ret []))))) (qR (zJ 4 (qE qaf (qa (qV 1 [2] (some (1,2)) (jD (dv 3)) (qi 0) (ret true) (qk qf 1 (qa (d2 ze (ret (.int 1)) (d2 ixD (dv 0) (ret (.int 2)))) (ret [])))) (ret [])))) (qR (zJ 5 (qo zH (qa (dv 3) (qa (dv 4) (qa (ret (.int 0)) (ret [])))))) (qR (vR (jD (jA (qa (ret (.int 0)) (qa (dv 5) (qa (d2 ze (dv 5) (qk qf 2 (qa (ret (.int 5)) (ret [])))) (qa (qE qbw (qa (ret (.int 0)) (qa (d2 qc5 (dv 5) (ret (.int 1))) (ret [])))) (qa (d2 qdR (ret (.int 10)) (ret (.int 29))) (ret [])))))))) (qi 6) (qR (qhf (qo zg (qa (dv 3) (qa (dv 6) (ret [])))) (qaN 3 (qZ (qi 7) (qZ (qi 8) (qZ (qi 9) qaM))))) (sif (tor (tst (d2 neB (qE jL (qa (qo ql (qa (ret (.int 0)) (qa (dv 3) (qa (dv 6) (ret []))))) (ret []))) (qE jL (qa (dv 7) (ret []))))) (tst (d2 neB (qE jL (qa (qo ql (qa (ret (.int 1)) (qa (dv 3) (qa (dv 6) (ret []))))) (ret []))) (qE jL (qa (dv 8) (ret [])))))) (jN (ret (.bl false))) yF))) (qR (vR (jD (jA (qa (zW (qa (ret (.int 1)) (qa (ret (.int 1)) (qa (ret (.int 2)) (ret []))))) (qa (zW (qa (ret (.int 1)) (qa (ret (.int 1)) (qa (ret .non) (ret []))))) (ret []))))) (qi 10) (sif (tst (d2 neB (qV 1 [5,3,10] none (z5 (qa (ret (.int 2)) (ret []))) (qi 0) (ret true) (qo ql (qa (dv 0) (qa (d2 ze (dv 2) (zW (qa (dv 3) (ret [])))) (qa (dv 1) (ret [])))))) (d2 yj (jA (qa (ret (.str "single")) (ret []))) (ret (.int 2))))) (jN (ret (.bl false))) yF)) (vR (jD (jA (qa (d1 qcv (ret (.int 1))) (qa (ret .non) (qa (ret (.bl true)) (qa (ret (.str "1")) (qa (zW (qa (ret (.int 1)) (ret []))) (ret [])))))))) (qi 11) (sif (tst (d2 neB (qV 1 [11,3] none (z5 (qa (ret (.int 2)) (ret []))) (qi 0) (ret true) (qo ql (qa (dv 0) (qa (d2 ze (dv 2) (zW (qa (zW (qa (ret (.int 1)) (qa (ret (.int 1)) (qa (ret (.int 2)) (ret []))))) (ret [])))) (qa (dv 1) (ret [])))))) (d2 yj (jA (qa (ret (.str "number")) (ret []))) (ret (.int 2))))) (jN (ret (.bl false))) yF)))))))) ([some (.fz ns),some (.int i)]++r) = .ok (.nx ([some (.fz ns),some (.int i)]++r')):=by
 match r,hr with
 | [o2,o3,o4,o5,o6,o7,o8,o9,o10,o11],_ =>
  obtain ⟨n,eb⟩:=qmD ns i h0
  obtain ⟨M,hM,eM⟩:∃ M:Nat,M<=8/\ixD (.lst [.int 8,.int 6,.int 6]) (.int i)=some (.int (M:Nat)):=by
   have:i=0\/i=1\/i=2:=by omega
   rcases this with e | e | e<;>subst e
   ·exact ⟨8,by omega,rfl⟩
   ·exact ⟨6,by omega,rfl⟩
   ·exact ⟨6,by omega,rfl⟩
  obtain ⟨G,g0,g1,eG⟩:∃ G:Int,1<=G/\G<=100000000000000000000/\ixD (.lst [.int 1,.int 1,.int 100000000000000000000]) (.int (n%3))=some (.int G):=by
   have:n%3=0\/n%3=1\/n%3=2:=by omega
   rcases this with e | e | e<;>rw [e]
   ·exact ⟨1,by omega,by omega,rfl⟩
   ·exact ⟨1,by omega,by omega,rfl⟩
   ·exact ⟨100000000000000000000,by omega,by omega,rfl⟩
  obtain ⟨ks,n1,es,hkB,hkM⟩:=qgM M (by omega) g0 g1 (n/3)
  have hk:∀ k∈ks,sgK k:=fun k hk=>(hkB k hk).1
  have hkS:∀ k∈ks,qeZ k:=fun k hk=>qii g1 (hkB k hk)
  have hl:ks.length<=10:=by omega
  obtain ⟨n2,ld,q0,elc,hld,h01⟩:=qcX ks n1 [] none hk (by simp;omega)
  let near:=qA ks ld
  have near0:0<=near:=(vM hk h01).1
  let n3:=n2/5
  let rm2:=near+n2%5
  let rm3:Int:=if near-1>0 then near-1 else 0
  let S:Option D:=some (.fz ns)
  let I:Option D:=some (.int i)
  let B2:Option D:=some (.lst [.int n2])
  let B3:Option D:=some (.lst [.int n3])
  let K:Option D:=some (.tup (ks.map kw))
  let Ld:Option D:=some (ldD ld)
  let Ne:Option D:=some (.int near)
  let rooms:List Int:=[0,near,rm2,rm3,100000000000000000000000000000]
  have hrooms:∀ x∈rooms,0<=x:=fun x hx=>by
   simp only [rooms,List.mem_cons,nN_,or_false] at hx
   rcases hx with e | e | e | e | e
   ·omega
   ·omega
   ·rw [e];show 0<=near+n2%5;omega
   ·rw [e];show 0<=(if near-1>0 then near-1 else 0);split<;>omega
   ·omega
  obtain ⟨Ur,qr,o6',o7',o8',o9',rfl⟩:=yJ (G:=qi 6) (b:=(qR (qhf (qo zg (qa (dv 3) (qa (dv 6) (ret [])))) (qaN 3 (qZ (qi 7) (qZ (qi 8) (qZ (qi 9) qaM))))) (sif (tor (tst (d2 neB (qE jL (qa (qo ql (qa (ret (.int 0)) (qa (dv 3) (qa (dv 6) (ret []))))) (ret []))) (qE jL (qa (dv 7) (ret []))))) (tst (d2 neB (qE jL (qa (qo ql (qa (ret (.int 1)) (qa (dv 3) (qa (dv 6) (ret []))))) (ret []))) (qE jL (qa (dv 8) (ret [])))))) (jN (ret (.bl false))) yF))) (k:=D.int) (step:=fun (s:Unit) (_:Int)=>s) (Inv:=fun _ _ U=>∃ o6 o7 o8 o9,U=[S,I,B3,K,Ld,Ne,o6,o7,o8,o9,o10,o11]) rooms 0 () [S,I,B3,K,Ld,Ne,o6,o7,o8,o9,o10,o11] ⟨o6,o7,o8,o9,rfl⟩ (fun x hx m s U _ _=>by
   rintro ⟨o6,o7,o8,o9,rfl⟩
   have hx0:=hrooms x hx
   obtain ⟨c,ec⟩:=qe1 hkS (by omega) hx0
   obtain ⟨r1,r2⟩:=qgU g0 g1 hkB hl hx0
   let U1:Env:=[S,I,B3,K,Ld,Ne,some (.int x),o7,o8,o9,o10,o11]
   let U2:Env:=[S,I,B3,K,Ld,Ne,some (.int x),some (.int (qP ks x)),some (ldD (va ks x)),some c,o10,o11]
   refine ⟨U1,U2,rfl,(qp (U':=U2) ?_).trans ?_,some (.int x),some (.int (qP ks x)),some (ldD (va ks x)),some c,rfl⟩
   ·rw [qfU,qi5 (U:=U1) rfl rfl ec]
    rfl
   ·exact qkT (qom (j8 (qq (uG (vf rfl rfl rfl (qnU hk hl hx0)) r1) (uG rfl r1) (qgv _))) (j8 (qq (uG (vf rfl rfl rfl (qnV hk hl hx0)) r2) (uG rfl r2) (qgv _)))))
  have more:∀ q:Kw,(q=⟨1,1,some 2⟩\/q=⟨1,1,none⟩)->yI (.tup ((ks++[q]).map kw))=true/\(∀ k∈ks++[q],k.m=some 0\/k.m=some 1\/k.m=some 2\/k.m=none\/k.m=some 3)/\(ks++[q]).all qih=false/\ze (.tup (ks.map kw)) (.tup [kw q])=some (.tup ((ks++[q]).map kw)):=fun q hq=>by
   refine ⟨qen (fun k hk' => ?_) (by rw [lA_,List.length_singleton];omega),fun k hk' => ?_,?_,by rw [wP (by rw [lM_,List.length_singleton];omega),List.map_append];rfl⟩
   ·rcases mA_.mp hk' with hk' | hk'
    ·exact ⟨(hk k hk').1,(hk k hk').2.1,(hk k hk').kd.2⟩
    ·rw [ms_] at hk'
     subst hk'
     rcases hq with rfl | rfl
     ·exact ⟨by decide,by decide,fun j e=>by cases e;decide⟩
     ·exact ⟨by decide,by decide,fun j e=>by cases e⟩
   ·rcases mA_.mp hk' with hk' | hk'
    ·exact qep hk k hk'
    ·rw [ms_] at hk'
     subst hk'
     rcases hq with rfl | rfl
     ·exact .inr (.inr (.inl rfl))
     ·exact .inr (.inr (.inr (.inl rfl)))
   ·rw [List.all_append]
    rcases hq with rfl | rfl<;>simp [qih]
  have t1:∀ (d:D) (U:Env),U.length≠0->True:=fun _ _ _=>trivial
  obtain ⟨p10,k10⟩:=qaD (b:=(sif (tst (d2 neB (qV 1 [5,3,10] none (z5 (qa (ret (.int 2)) (ret []))) (qi 0) (ret true) (qo ql (qa (dv 0) (qa (d2 ze (dv 2) (zW (qa (dv 3) (ret [])))) (qa (dv 1) (ret [])))))) (d2 yj (jA (qa (ret (.str "single")) (ret []))) (ret (.int 2))))) (jN (ret (.bl false))) yF)) (i:=10) (U:=[S,I,B3,K,Ld,Ne,o6',o7',o8',o9',o10,o11]) (of_decide_eq_true rfl) [kw ⟨1,1,some 2⟩,kw ⟨1,1,none⟩] o10 (fun d hd=>by
   obtain ⟨q,hq,rfl⟩:∃ q:Kw,(q=⟨1,1,some 2⟩\/q=⟨1,1,none⟩)/\d=kw q:=by
    simp only [List.mem_cons,nN_,or_false] at hd
    rcases hd with e | e
    ·exact ⟨_,.inl rfl,e⟩
    ·exact ⟨_,.inr rfl,e⟩
   obtain ⟨m1,m2,m3,m4⟩:=more q hq
   refine qjb (r:=[Ne,K,some (kw q)]) 2 (.str "single") _ (by omega) rfl (fun j hj => ?_) (qoo _ _) qkN
   refine vf rfl (qq rfl (b := .tup [kw q]) ?_ m4) rfl (qjh jw (qnS m2 (by rw [lA_,List.length_singleton];omega) m3 m1 near0) qaL j hj)
   rw [qaq,yQ (a:=kw q) rfl]
   simp only [lC_,lN_,Nat.zero_add,sm1,if_true])
  obtain ⟨p11,k11⟩:=qaD (b:=(sif (tst (d2 neB (qV 1 [11,3] none (z5 (qa (ret (.int 2)) (ret []))) (qi 0) (ret true) (qo ql (qa (dv 0) (qa (d2 ze (dv 2) (zW (qa (zW (qa (ret (.int 1)) (qa (ret (.int 1)) (qa (ret (.int 2)) (ret []))))) (ret [])))) (qa (dv 1) (ret [])))))) (d2 yj (jA (qa (ret (.str "number")) (ret []))) (ret (.int 2))))) (jN (ret (.bl false))) yF)) (i:=11) (U:=[S,I,B3,K,Ld,Ne,o6',o7',o8',o9',p10,o11]) (of_decide_eq_true rfl) [.int (-1),.non,.bl true,.str "1",.tup [.int 1]] o11 (fun d hd=>by
   have hc:jk d=false:=by
    simp only [List.mem_cons,nN_,or_false] at hd
    rcases hd with rfl | rfl | rfl | rfl | rfl<;>rfl
   obtain ⟨m1,m2,m3,m4⟩:=more ⟨1,1,some 2⟩ (.inl rfl)
   refine qjb (r:=[some d,K]) 2 (.str "number") _ (by omega) rfl (fun j hj => ?_) (qoo _ _) qkO
   refine vf rfl (qq rfl (b := .tup [kw ⟨1,1,some 2⟩]) ?_ m4) rfl (qjh yM (qnT m1 hc) qaW j hj)
   push_cast [sm1,zh (show 3<=1000000 by omega)]
   rfl)
  refine ⟨[B3,K,Ld,Ne,o6',o7',o8',o9',p10,p11],rfl,?_⟩
  show (qR (vY 2 (qcw jv (qa (dv 0) (qa (dv 1) (ret []))))) (qR (zJ 3 (qk qM 2 (qa (d2 ixD (jA (qa (ret (.int 8)) (qa (ret (.int 6)) (qa (ret (.int 6)) (ret []))))) (dv 1)) (qa (d2 ixD (jA (qa (ret (.int 1)) (qa (ret (.int 1)) (qa (d2 qdR (ret (.int 10)) (ret (.int 20))) (ret []))))) (qk qf 2 (qa (ret (.int 3)) (ret [])))) (ret []))))) (qR (zJ 4 (qE qaf (qa (qV 1 [2] (some (1,2)) (jD (dv 3)) (qi 0) (ret true) (qk qf 1 (qa (d2 ze (ret (.int 1)) (d2 ixD (dv 0) (ret (.int 2)))) (ret [])))) (ret [])))) (qR (zJ 5 (qo zH (qa (dv 3) (qa (dv 4) (qa (ret (.int 0)) (ret [])))))) (qR (vR (jD (jA (qa (ret (.int 0)) (qa (dv 5) (qa (d2 ze (dv 5) (qk qf 2 (qa (ret (.int 5)) (ret [])))) (qa (qE qbw (qa (ret (.int 0)) (qa (d2 qc5 (dv 5) (ret (.int 1))) (ret [])))) (qa (d2 qdR (ret (.int 10)) (ret (.int 29))) (ret [])))))))) (qi 6) (qR (qhf (qo zg (qa (dv 3) (qa (dv 6) (ret [])))) (qaN 3 (qZ (qi 7) (qZ (qi 8) (qZ (qi 9) qaM))))) (sif (tor (tst (d2 neB (qE jL (qa (qo ql (qa (ret (.int 0)) (qa (dv 3) (qa (dv 6) (ret []))))) (ret []))) (qE jL (qa (dv 7) (ret []))))) (tst (d2 neB (qE jL (qa (qo ql (qa (ret (.int 1)) (qa (dv 3) (qa (dv 6) (ret []))))) (ret []))) (qE jL (qa (dv 8) (ret [])))))) (jN (ret (.bl false))) yF))) (qR (vR (jD (jA (qa (zW (qa (ret (.int 1)) (qa (ret (.int 1)) (qa (ret (.int 2)) (ret []))))) (qa (zW (qa (ret (.int 1)) (qa (ret (.int 1)) (qa (ret .non) (ret []))))) (ret []))))) (qi 10) (sif (tst (d2 neB (qV 1 [5,3,10] none (z5 (qa (ret (.int 2)) (ret []))) (qi 0) (ret true) (qo ql (qa (dv 0) (qa (d2 ze (dv 2) (zW (qa (dv 3) (ret [])))) (qa (dv 1) (ret [])))))) (d2 yj (jA (qa (ret (.str "single")) (ret []))) (ret (.int 2))))) (jN (ret (.bl false))) yF)) (vR (jD (jA (qa (d1 qcv (ret (.int 1))) (qa (ret .non) (qa (ret (.bl true)) (qa (ret (.str "1")) (qa (zW (qa (ret (.int 1)) (ret []))) (ret [])))))))) (qi 11) (sif (tst (d2 neB (qV 1 [11,3] none (z5 (qa (ret (.int 2)) (ret []))) (qi 0) (ret true) (qo ql (qa (dv 0) (qa (d2 ze (dv 2) (zW (qa (zW (qa (ret (.int 1)) (qa (ret (.int 1)) (qa (ret (.int 2)) (ret []))))) (ret [])))) (qa (dv 1) (ret [])))))) (d2 yj (jA (qa (ret (.str "number")) (ret []))) (ret (.int 2))))) (jN (ret (.bl false))) yF)))))))) [S,I,o2,o3,o4,o5,o6,o7,o8,o9,o10,o11]=_
  refine (qp (U':=[S,I,some (.lst [.int n]),o3,o4,o5,o6,o7,o8,o9,o10,o11]) ?_).trans ?_
  ·push_cast [S,I,eb,immFs,immF,immL,imm,Bool.and_self]
  refine (qp (U':=[S,I,some (.lst [.int n1]),K,o4,o5,o6,o7,o8,o9,o10,o11]) ?_).trans ?_
  ·push_cast [I,zh (show 3<=1000000 by omega),eM,qnL,jn (m:=3) (by decide) (by decide),eG,es]
   rfl
  refine (qp (U':=[S,I,B2,K,Ld,o5,o6,o7,o8,o9,o10,o11]) ?_).trans ?_
  ·have c:qV 1 [2] (some (1,2)) (jD (dv 3)) (qi 0) (ret true) (qk qf 1 (qa (d2 ze (ret (.int 1)) (d2 ixD (dv 0) (ret (.int 2)))) (ret []))) [S,I,some (.lst [.int n1]),K,o4,o5,o6,o7,o8,o9,o10,o11] = .ok (.lst (ld.map D.int),[S,I,B2,K,o4,o5,o6,o7,o8,o9,o10,o11]):=by
    rw [qbD]
    show (match zB (qi 0) (ret true) (qk qf 1 (qa (d2 ze (ret (.int 1)) (d2 ixD (dv 0) (ret (.int 2)))) (ret []))) (ks.map kw) [] [none,some (.lst [.int n1])] with | .ok (ys,Ue)=>R.ok (D.lst ys,qjQ (some (1,2)) Ue _) | _ => .bad)=_
    have elc':zB (qi 0) (ret true) (qk qf 1 (qa (d2 ze (ret (.int 1)) (d2 ixD (dv 0) (ret (.int 2)))) (ret []))) (ks.map kw) [] [none,some (.lst [.int n1])] = .ok (ld.map D.int,[q0,some (.lst [.int n2])]):=elc
    rw [elc']
    rfl
   push_cast [c,qeU]
   rfl
  refine (qp (U':=[S,I,B2,K,Ld,Ne,o6,o7,o8,o9,o10,o11]) (vN (U1:=[S,I,B2,K,Ld,o5,o6,o7,o8,o9,o10,o11]) (vf rfl rfl rfl (qe0 (by omega) hld h01)))).trans ?_
  refine (qp (U':=[S,I,B3,K,Ld,Ne,o6',o7',o8',o9',o10,o11]) ?_).trans ?_
  ·have c:(jD (jA (qa (ret (.int 0)) (qa (dv 5) (qa (d2 ze (dv 5) (qk qf 2 (qa (ret (.int 5)) (ret [])))) (qa (qE qbw (qa (ret (.int 0)) (qa (d2 qc5 (dv 5) (ret (.int 1))) (ret [])))) (qa (d2 qdR (ret (.int 10)) (ret (.int 29))) (ret [])))))))) [S,I,B2,K,Ld,Ne,o6,o7,o8,o9,o10,o11] = .ok (rooms.map D.int,[S,I,B3,K,Ld,Ne,o6,o7,o8,o9,o10,o11]):=by
    push_cast [qjP,zx,qbP,qh1,jn (m:=5) (by decide) (by decide),qnW,zh (show 5<=1000000 by omega),B2,Ne]
    rfl
   rw [yG,c]
   exact qr
  refine (qp (U':=[S,I,B3,K,Ld,Ne,o6',o7',o8',o9',p10,o11]) ?_).trans ?_
  ·have c:(jD (jA (qa (zW (qa (ret (.int 1)) (qa (ret (.int 1)) (qa (ret (.int 2)) (ret []))))) (qa (zW (qa (ret (.int 1)) (qa (ret (.int 1)) (qa (ret .non) (ret []))))) (ret []))))) [S,I,B3,K,Ld,Ne,o6',o7',o8',o9',o10,o11] = .ok ([kw ⟨1,1,some 2⟩,kw ⟨1,1,none⟩],[S,I,B3,K,Ld,Ne,o6',o7',o8',o9',o10,o11]):=by
    push_cast [qjP,zh (show 2<=1000000 by omega),zh (show 3<=1000000 by omega)]
    rfl
   rw [yG,c]
   exact k10
  ·have c:(jD (jA (qa (d1 qcv (ret (.int 1))) (qa (ret .non) (qa (ret (.bl true)) (qa (ret (.str "1")) (qa (zW (qa (ret (.int 1)) (ret []))) (ret [])))))))) [S,I,B3,K,Ld,Ne,o6',o7',o8',o9',p10,o11] = .ok ([.int (-1),.non,.bl true,.str "1",.tup [.int 1]],[S,I,B3,K,Ld,Ne,o6',o7',o8',o9',p10,o11]):=by
    push_cast [qjP,neg_int,sm1,zh (show 5<=1000000 by omega)]
   rw [yG,c]
   exact k11
theorem qet (ns:List Int):∀ (ds:List D) (o1:Option D) (r:Env),r.length=10->(∀ d∈ds,∃ i:Int,d = .int i/\0<=i/\i<3)->∃ U,ua (qi 1) (qR (vY 2 (qcw jv (qa (dv 0) (qa (dv 1) (ret []))))) (qR (zJ 3 (qk qM 2 (qa (d2 ixD (jA (qa (ret (.int 8)) (qa (ret (.int 6)) (qa (ret (.int 6)) (ret []))))) (dv 1)) (qa (d2 ixD (jA (qa (ret (.int 1)) (qa (ret (.int 1)) (qa (d2 qdR (ret (.int 10)) (ret (.int 20))) (ret []))))) (qk qf 2 (qa (ret (.int 3)) (ret [])))) (ret []))))) (qR (zJ 4 (qE qaf (qa (qV 1 [2] (some (1,2)) (jD (dv 3)) (qi 0) (ret true) (qk qf 1 (qa (d2 ze (ret (.int 1)) (d2 ixD (dv 0) (ret (.int 2)))) (ret [])))) (ret [])))) (qR (zJ 5 (qo zH (qa (dv 3) (qa (dv 4) (qa (ret (.int 0)) (ret [])))))) (qR (vR (jD (jA (qa (ret (.int 0)) (qa (dv 5) (qa (d2 ze (dv 5) (qk qf 2 (qa (ret (.int 5)) (ret [])))) (qa (qE qbw (qa (ret (.int 0)) (qa (d2 qc5 (dv 5) (ret (.int 1))) (ret [])))) (qa (d2 qdR (ret (.int 10)) (ret (.int 29))) (ret [])))))))) (qi 6) (qR (qhf (qo zg (qa (dv 3) (qa (dv 6) (ret [])))) (qaN 3 (qZ (qi 7) (qZ (qi 8) (qZ (qi 9) qaM))))) (sif (tor (tst (d2 neB (qE jL (qa (qo ql (qa (ret (.int 0)) (qa (dv 3) (qa (dv 6) (ret []))))) (ret []))) (qE jL (qa (dv 7) (ret []))))) (tst (d2 neB (qE jL (qa (qo ql (qa (ret (.int 1)) (qa (dv 3) (qa (dv 6) (ret []))))) (ret []))) (qE jL (qa (dv 8) (ret [])))))) (jN (ret (.bl false))) yF))) (qR (vR (jD (jA (qa (zW (qa (ret (.int 1)) (qa (ret (.int 1)) (qa (ret (.int 2)) (ret []))))) (qa (zW (qa (ret (.int 1)) (qa (ret (.int 1)) (qa (ret .non) (ret []))))) (ret []))))) (qi 10) (sif (tst (d2 neB (qV 1 [5,3,10] none (z5 (qa (ret (.int 2)) (ret []))) (qi 0) (ret true) (qo ql (qa (dv 0) (qa (d2 ze (dv 2) (zW (qa (dv 3) (ret [])))) (qa (dv 1) (ret [])))))) (d2 yj (jA (qa (ret (.str "single")) (ret []))) (ret (.int 2))))) (jN (ret (.bl false))) yF)) (vR (jD (jA (qa (d1 qcv (ret (.int 1))) (qa (ret .non) (qa (ret (.bl true)) (qa (ret (.str "1")) (qa (zW (qa (ret (.int 1)) (ret []))) (ret [])))))))) (qi 11) (sif (tst (d2 neB (qV 1 [11,3] none (z5 (qa (ret (.int 2)) (ret []))) (qi 0) (ret true) (qo ql (qa (dv 0) (qa (d2 ze (dv 2) (zW (qa (zW (qa (ret (.int 1)) (qa (ret (.int 1)) (qa (ret (.int 2)) (ret []))))) (ret [])))) (qa (dv 1) (ret [])))))) (d2 yj (jA (qa (ret (.str "number")) (ret []))) (ret (.int 2))))) (jN (ret (.bl false))) yF)))))))) ds ([some (.fz ns),o1]++r) = .ok (.nx U)
 | [],o1,r,_,_=>⟨_,rfl⟩
 | d::ds,o1,r,hr,h=>by
  obtain ⟨i,rfl,h0,h1⟩:=h d mS_
  obtain ⟨r',hr',e⟩:=qik ns i h0 h1 r hr
  obtain ⟨U,q⟩:=qet ns ds (some (.int i)) r' hr' fun y hy=>h y (mM _ hy)
  refine ⟨U,?_⟩
  unfold ua
  simp only [qi,List.cons_append,List.nil_append,List.set_cons_zero,List.set_cons_succ] at e |-
  simp only [e]
  exact q
theorem law_true (ns:List Int) (hn:ns.length<=63):qdv [.fz ns] = .ok (.bl true):=by
 let j:Int:=if (if (3:Int)<(ns.length:Int) then (3:Int) else (ns.length:Int))>1 then (if (3:Int)<(ns.length:Int) then (3:Int) else (ns.length:Int)) else 1
 have hj0:0<=j:=by simp only [j];split<;>split<;>omega
 have hj2:j<=3:=by simp only [j];split<;>split<;>omega
 have hj1:j<=6:=by simp only [j];split<;>split<;>omega
 obtain ⟨U,q⟩:=qet ns (qaS 0 j.toNat) none [none,none,none,none,none,none,none,none,none,none] rfl fun d hd=>by
  unfold qaS at hd
  obtain ⟨k,hk,rfl⟩:=mP_.mp hd
  have hk2:=mR_.mp hk
  exact ⟨_,rfl,by omega,by omega⟩
 unfold qdv
 refine v7 rfl ⟨U,?_⟩
 unfold qkE
 refine (qp (U':=U) ?_).trans rfl
 rw [yG,uo (j:=j) (U1:=[some (.fz ns),none,none,none,none,none,none,none,none,none,none,none]) ?_ hj0 (by omega)]
 ·exact q
 ·rfl
section
variable {P:Program} {w:World} {K:PySem.W.Frag} {mg:Str->Option Value} {base:Heap}
variable {f:Addr} {fd:FuncData}
set_option maxHeartbeats 4000000
theorem uA:qC ["e","found"] ["e"] (qd z7):=⟨rfl,rfl,rfl,by decide +kernel,rfl,by decide +kernel,by decide +kernel⟩
section
variable (P:Program) (w:World) (K:Fr0) (mg:Str->Option Value) (base:Heap)
abbrev Q0:Prop:=qga P w K mg base 1 "_law_marks" ["e"] (spD K jc)
abbrev Q1:Prop:=zD P w K mg base 1 "best_beside" ["one","seconds","room"] (spD K zP)
abbrev Q2:Prop:=zD P w K mg base 1 "all_loads" ["kinds"] (spD K yK)
abbrev Q3:Prop:=zD P w K mg base 1 "taken_together" ["store","load","part"] (spD K zb)
abbrev Q4:Prop:=zD P w K mg base 2 "all_weighed" ["kinds"] (spD K zq)
abbrev Q5:Prop:=zD P w K mg base 1 "first_half" ["store"] (spD K js)
abbrev Q6:Prop:=zD P w K mg base 1 "second_half" ["store"] (spD K jH)
abbrev Q7:Prop:=zD P w K mg base 1 "beating_order" ["weighed"] (spD K zG)
abbrev Q8:Prop:=zD P w K mg base 4 "not_beaten" ["kinds"] (spD K ya)
abbrev Q9:Prop:=uP P w K mg base 1 "need_single" ["store"] (spX K (clR K RN) jI)
abbrev Q10:Prop:=zD P w K mg base 1 "is_whole" ["thing"] (spD K u4)
abbrev Q11:Prop:=zD P w K mg base 2 "is_count" ["thing"] (spD K jT)
abbrev Q12:Prop:=zD P w K mg base 3 "is_kind" ["thing"] (spD K uU)
abbrev Q13:Prop:=zD P w K mg base 4 "is_store" ["thing"] (spD K u5)
abbrev Q14:Prop:=uP P w K mg base 5 "need_store" ["thing"] (spX K (clR K RN) yb)
abbrev Q15:Prop:=uP P w K mg base 6 "half_loads" ["store"] (spX K (clR K RN) jt)
abbrev Q16:Prop:=uP P w K mg base 3 "need_count" ["thing"] (spX K (clR K RN) ju)
abbrev Q17:Prop:=uP P w K mg base 7 "met_worth" ["store","room"] (spX K (clR K RN) zu)
abbrev Q18:Prop:=uP P w K mg base 8 "met_load" ["store","room"] (spX K (clR K RN) yx)
abbrev Q19:Prop:=zD P w K mg base 9 "_law_said" ["kind","store","room"] (spD K ql)
abbrev Q20:Prop:=zD P w K mg base 1 "_law_take" ["box","many"] (qe7 K qf)
abbrev Q21:Prop:=zD P w K mg base 1 "_law_sum" ["store","load","place"] (spD K zH)
abbrev Q22:Prop:=zD P w K mg base 1 "_law_all_loads" ["store","room"] (spD K zT)
abbrev Q23:Prop:=zD P w K mg base 2 "_law_best_of" ["store","room"] (spD K zg)
abbrev Q24:Prop:=zD P w K mg base 2 "_law_kind_of" ["box","ends"] (qe7 K zv)
abbrev Q25:Prop:=zD P w K mg base 3 "_law_stocked" ["box","most","ends"] (qe7 K jh)
abbrev Q26:Prop:=zD P w K mg base 4 "_law_single_ones" ["box","most","great"] (qe7 K qM)
abbrev Q27:Prop:=zD P w K mg base 1 "_law_mix" ["cell","k"] (spD K yy)
abbrev Q28:Prop:=zD P w K mg base 1 "_law_cell" ["script","k"] (spD K jW)
abbrev Q29:Prop:=zD P w K mg base 2 "_law_box" ["script","k"] (spD K jv)
end
theorem q0 (F:Fun K "_law_marks" "_law_marks" z7 f fd) (m:mg "_law_marks"=some (.ref f)) (T:Txt K mg) (XTt:XT K mg RN TN) (hB:K.In base):Q0 P w K mg base:=by
 have rn0:RN.contains "NotSingle"=true:=by decide
 refine ⟨f,fd,?_,m,F.kp,F.binds fun _ _ _ _ _ _ us hl=>match us,hl with | [_],_=>rfl⟩
 show qcB P w K mg base CX0 1 f fd ["e"] (spD K (dfn (["e","found"]:List Str).length (["e"]:List Str).length j9))
 refine qhM (N:=["e","found"]) (ps:=["e"]) (k:=0) (O:=[]) (body:=j9) F uA ?a ?b
 case a=>decide
 intro cdv A outer s H E B hr al
 have hal:∀ U Z H',Rep K (cfn [] [] B H (fun _=>False) (fun _ _=>False) fun _=>none) U Z H'->AloneA (A.deeper (envOfC "_law_marks" (qd z7) s.heap.objs.size f cdv)) H':=Sk.AloneA.rep al (fun _ z=>z)
 exact (qg (y7 (DW.dt (qeA (wx (ww (qat (RN:=RN) (m:="SackError") (mgl:=mg) XTt (by decide) (by decide) rfl T.b_isinstance rfl (qc 0) (XTt.ask rn0 (by decide)) qI))) (qa3 (wx (ww (qkl XTt rfl T.b_isinstance rfl T.b_ValueError (qc 0) qI)))))) (qj (qN yR)) qX)
   (qg (zc (i:=1) uA.nd (jC (qb (qat (RN:=RN) (m:="NoStore") (mgl:=mg) XTt (by decide) (by decide) rfl T.b_isinstance rfl (qc 0) (XTt.ask rn0 (by decide)) qI) (qb (qat (RN:=RN) (m:="NoNumber") (mgl:=mg) XTt (by decide) (by decide) rfl T.b_isinstance rfl (qc 0) (XTt.ask rn0 (by decide)) qI) (qb (qat (RN:=RN) (m:="NoLoad") (mgl:=mg) XTt (by decide) (by decide) rfl T.b_isinstance rfl (qc 0) (XTt.ask rn0 (by decide)) qI) (qb (qat (RN:=RN) (m:="TooMany") (mgl:=mg) XTt (by decide) (by decide) rfl T.b_isinstance rfl (qc 0) (XTt.ask rn0 (by decide)) qI) qe))))))
   (qg (zc (i:=1) uA.nd (qx qT qU (qc 1) (jC (qb (qat (RN:=RN) (m:="NotSingle") (mgl:=mg) XTt (by decide) (by decide) rfl T.b_isinstance rfl (qc 0) (XTt.ask rn0 (by decide)) qI) (qb (qat (RN:=RN) (m:="NoText") (mgl:=mg) XTt (by decide) (by decide) rfl T.b_isinstance rfl (qc 0) (XTt.ask rn0 (by decide)) qI) qe)))))
   (qg (y7 (zX qlk qfC (qbK PySem.F.slot_list_count qd1 qhH qdi (qc 1) (qb qaQ qe)) qh (zy _)) (qj (qN yR)) qX)
   (qj (qN (zK qL qK (jC (qb yR (qb yR (qb yR (qb yR (qb yR (qb yR qe))))))) (qbK PySem.F.slot_list_index qd2 qhI qdj (qc 1) (qb qaQ qe)))))))))
theorem vg:qC ["one","seconds","room","left"] ["one","seconds","room"] (qd zM):=⟨rfl,rfl,rfl,by decide +kernel,rfl,by decide +kernel,by decide +kernel⟩
theorem q1 (F:Fun K "best_beside" "best_beside" zM f fd) (m:mg "best_beside"=some (.ref f)) (T:Txt K mg) (XTt:XT K mg RN TN) (hB:K.In base):Q1 P w K mg base:=by
 refine ⟨f,fd,?_,m,F.kp,F.binds fun _ _ _ _ _ _ us hl=>match us,hl with | [_,_,_],_=>rfl⟩
 exact zC (N:=["one","seconds","room","left"]) (O:=[]) (body:=uu) F vg (by decide) fun cdv A outer s H E B hr=>(qg (zc (i:=3) vg.nd (qx qfg qc6 (qc 2) (zK qL qK (qc 0) (gI T.c_WEIGHT))))
   (qj (qN (qx qT qU (zK qL qK (qc 0) (gI T.c_WORTH)) (qG (uO rfl) uc rfl T.b_max qao (qb (jE (fo:=none) rfl (jg (qc 1)) (cs ["one","seconds","room","left"] ["other","left"] 1 [3] (qd zM)) (f0 [3] []) (fun _ _ _ _ _ _ _ _ _ _ _=>⟨(qw (i:=0) (nd ["other","left"])),(qa6 (zX qg5 qdL (zK qL qK (qc 0) (gI T.c_WEIGHT)) (qc 1) (zy _))),(zK qL qK (qc 0) (gI T.c_WORTH))⟩)) qe))))))
theorem jx:qC ["kinds","loads","kind","longer","load"] ["kinds"] (qd jm):=⟨rfl,rfl,rfl,by decide +kernel,rfl,by decide +kernel,by decide +kernel⟩
theorem q2 (F:Fun K "all_loads" "all_loads" jm f fd) (m:mg "all_loads"=some (.ref f)) (T:Txt K mg) (XTt:XT K mg RN TN) (hB:K.In base):Q2 P w K mg base:=by
 refine ⟨f,fd,?_,m,F.kp,F.binds fun _ _ _ _ _ _ us hl=>match us,hl with | [_],_=>rfl⟩
 exact zC (N:=["kinds","loads","kind","longer","load"]) (O:=[3]) (body:=vp) F jx (by decide) fun cdv A outer s H E B hr=>(qg (zc (i:=1) jx.nd (jC (qb (jB qe) qe)))
   (qg (ub PassesOwn.never rfl (jg (qc 0)) (qw (i:=2) jx.nd) (qg (qaj (i:=3) jx.nd (qdP qe))
   (qg (ub PassesOwn.never rfl (jg (qc 1)) (qw (i:=4) jx.nd) (qj (uM (qge (i:=3) (jE (fo:=none) rfl (j7 rfl T.b_range (qb (qx qT qU (zK qL qK (qc 2) (gI T.c_MOST)) qh) qe)) (cs ["kinds","loads","kind","longer","load"] ["times","load"] 1 [4] (qd jm)) (f0 [4] [3]) (fun _ _ _ _ _ _ _ _ _ _ _=>⟨(qw (i:=0) (nd ["times","load"])),uN,(qx qT qU (qc 1) (jB (qb (qc 0) qe)))⟩))))))
   (qj (qks (i:=1) (j:=3) jx.nd)))))
   (qj (qN (qc 1)))))
theorem wv:qC ["store","load","part"] ["store","load","part"] (qd za):=⟨rfl,rfl,rfl,by decide +kernel,rfl,by decide +kernel,by decide +kernel⟩
theorem q3 (F:Fun K "taken_together" "taken_together" za f fd) (m:mg "taken_together"=some (.ref f)) (T:Txt K mg) (XTt:XT K mg RN TN) (hB:K.In base):Q3 P w K mg base:=by
 refine ⟨f,fd,?_,m,F.kp,F.binds fun _ _ _ _ _ _ us hl=>match us,hl with | [_,_,_],_=>rfl⟩
 exact zC (N:=["store","load","part"]) (O:=[]) (body:=yh) F wv (by decide) fun cdv A outer s H E B hr=>(qj (qN (qG (qhq rfl) qfE rfl T.b_sum ql5 (qb (jE (fo:=none) rfl (ql0 rfl T.b_zip (qb (qc 0) (qb (qc 1) qe))) (cs ["store","load","part"] ["kind","times","part"] 2 [2] (qd za)) (f0 [2] []) (fun _ _ _ _ _ _ _ _ _ _ _=>⟨(qaa (n:=2) rfl (zo (qw (i:=0) (nd ["kind","times","part"])) (zo (qw (i:=1) (nd ["kind","times","part"])) vh))),uN,(qx jF zY (zK qL qK (qc 0) (qc 2)) (qc 1))⟩)) qe))))
theorem qaX:qC ["kinds"] ["kinds"] (qd zN):=⟨rfl,rfl,rfl,by decide +kernel,rfl,by decide +kernel,by decide +kernel⟩
theorem q4 (F:Fun K "all_weighed" "all_weighed" zN f fd) (m:mg "all_weighed"=some (.ref f)) (T:Txt K mg) (XTt:XT K mg RN TN) (hB:K.In base) (C_all_loads:Q2 P w K mg base) (C_taken_together:Q3 P w K mg base):Q4 P w K mg base:=by
 refine ⟨f,fd,?_,m,F.kp,F.binds fun _ _ _ _ _ _ us hl=>match us,hl with | [_],_=>rfl⟩
 exact zC (N:=["kinds"]) (O:=[]) (body:=uv) F qaX (by decide) fun cdv A outer s H E B hr=>(qj (qN (jE (fo:=none) rfl (jg (dC C_all_loads hr (qb (qc 0) qe))) (cs ["kinds"] ["load","kinds"] 1 [0] (qd zN)) (f0 [0] []) (fun _ _ _ _ _ _ _ _ _ _ _=>⟨(qw (i:=0) (nd ["load","kinds"])),uN,(jB (qb (dC C_taken_together hr (qb (qc 1) (qb (qc 0) (qb (gI T.c_WEIGHT) qe)))) (qb (dC C_taken_together hr (qb (qc 1) (qb (qc 0) (qb (gI T.c_WORTH) qe)))) (qb (qc 0) qe))))⟩))))
theorem qb5:qC ["store"] ["store"] (qd jq):=⟨rfl,rfl,rfl,by decide +kernel,rfl,by decide +kernel,by decide +kernel⟩
theorem q5 (F:Fun K "first_half" "first_half" jq f fd) (m:mg "first_half"=some (.ref f)) (T:Txt K mg) (XTt:XT K mg RN TN) (hB:K.In base):Q5 P w K mg base:=by
 refine ⟨f,fd,?_,m,F.kp,F.binds fun _ _ _ _ _ _ us hl=>match us,hl with | [_],_=>rfl⟩
 exact zC (N:=["store"]) (O:=[]) (body:=uS) F qb5 (by decide) fun cdv A outer s H E B hr=>(qj (qN (qcH (qc 0) qfF (qfG (qx vS uW (qG j4 yC rfl T.b_len qan (qb (qc 0) qe)) qh)))))
theorem qaY:qC ["store"] ["store"] (qd je):=⟨rfl,rfl,rfl,by decide +kernel,rfl,by decide +kernel,by decide +kernel⟩
theorem q6 (F:Fun K "second_half" "second_half" je f fd) (m:mg "second_half"=some (.ref f)) (T:Txt K mg) (XTt:XT K mg RN TN) (hB:K.In base):Q6 P w K mg base:=by
 refine ⟨f,fd,?_,m,F.kp,F.binds fun _ _ _ _ _ _ us hl=>match us,hl with | [_],_=>rfl⟩
 exact zC (N:=["store"]) (O:=[]) (body:=uw) F qaY (by decide) fun cdv A outer s H E B hr=>(qj (qN (qcH (qc 0) (qfG (qx vS uW (qG j4 yC rfl T.b_len qan (qb (qc 0) qe)) qh)) qfF)))
theorem wK:qC ["weighed"] ["weighed"] (qd zF):=⟨rfl,rfl,rfl,by decide +kernel,rfl,by decide +kernel,by decide +kernel⟩
theorem q7 (F:Fun K "beating_order" "beating_order" zF f fd) (m:mg "beating_order"=some (.ref f)) (T:Txt K mg) (XTt:XT K mg RN TN) (hB:K.In base):Q7 P w K mg base:=by
 refine ⟨f,fd,?_,m,F.kp,F.binds fun _ _ _ _ _ _ us hl=>match us,hl with | [_],_=>rfl⟩
 exact zC (N:=["weighed"]) (O:=[]) (body:=yL) F wK (by decide) fun cdv A outer s H E B hr=>(qj (qN (jB (qb (zK qL qK (qc 0) (gI T.c_WEIGHT)) (qb (qfO (zK qL qK (qc 0) (gI T.c_WORTH))) (qb (zK qL qK (qc 0) (gI T.c_LOAD)) qe))))))
theorem uB:qC ["kinds","kept","weighed"] ["kinds"] (qd jr):=⟨rfl,rfl,rfl,by decide +kernel,rfl,by decide +kernel,by decide +kernel⟩
theorem q8 (F:Fun K "not_beaten" "not_beaten" jr f fd) (m:mg "not_beaten"=some (.ref f)) (T:Txt K mg) (XTt:XT K mg RN TN) (hB:K.In base) (C_beating_order:Q7 P w K mg base) (C_all_weighed:Q4 P w K mg base):Q8 P w K mg base:=by
 refine ⟨f,fd,?_,m,F.kp,F.binds fun _ _ _ _ _ _ us hl=>match us,hl with | [_],_=>rfl⟩
 exact zC (N:=["kinds","kept","weighed"]) (O:=[1]) (body:=uT) F uB (by decide) fun cdv A outer s H E B hr=>(qg (qaj (i:=1) uB.nd (qdP qe))
   (qg (ub PassesOwn.never rfl (jg (qhU (dC C_all_weighed hr (qb (qc 0) qe)) C_beating_order hr rfl T.b_sorted)) (qw (i:=2) uB.nd) (qj (y7 (DW.dt (qeA (qkn (i:=1) (zX (vc hr) yU (qc 1) (jC qe) (zy _))) (qa3 (zX qll qit (zK qL qK (qc 2) (gI T.c_WORTH)) (zK qL qK (qfK (i:=1) (qfO qh)) (gI T.c_WORTH)) (zy _))))) (qj (uM (qai (i:=1) (qc 2)))) qX)))
   (qj (qjV (i:=1)))))
theorem qaZ:qC ["store"] ["store"] (qd zp):=⟨rfl,rfl,rfl,by decide +kernel,rfl,by decide +kernel,by decide +kernel⟩
theorem q9 (F:Fun K "need_single" "need_single" zp f fd) (m:mg "need_single"=some (.ref f)) (T:Txt K mg) (XTt:XT K mg RN TN) (hB:K.In base):Q9 P w K mg base:=by
 obtain ⟨S,mS,xS⟩:=XTt.xcls hB
 obtain ⟨C_NotSingle,hc_NotSingle⟩:=XTt.has (n:="NotSingle") (by decide)
 have mc_NotSingle:=XTt.mgc _ _ (XTt.cls hc_NotSingle).1
 obtain ⟨bm_NotSingle,xc_NotSingle,_⟩:=xS.own _ _ hc_NotSingle
 refine ⟨f,fd,?_,m,F.kp,F.binds fun _ _ _ _ _ _ us hl=>match us,hl with | [_],_=>rfl⟩
 show u7 P w K mg base (CX1 P w) 1 f fd ["store"] (spX K (clR K RN) (qaT (["store"]:List Str).length (["store"]:List Str).length jf))
 refine qba (N:=["store"]) (ps:=["store"]) (k:=0) (O:=[]) (body:=jf) (cl:=clR K RN) F qaZ ?a ?b
 case a=>decide
 intro cdv A outer s H E B hr
 have L:=qa9 (P:=P) (w:=w) (K:=K) (mg:=mg) (base:=base) (N:=["store"]) (qual:="need_single") (scope:=qd zp) (f:=f) (cdv:=cdv) (A:=A) (outer:=outer) (s:=s) (H:=H) (E:=E) (c:=cfn [] [] B H (fun _=>False) (fun x H'=>∀ C,clR K RN x.cls=some C->E (.ref C) none H') fun _=>none) (cl:=clR K RN) rfl (fun x C H' h1 h2=>h2 C h1)
 exact (qj (y7 (wx (ww (qG (qdN rfl) qcr rfl T.b_all qiF (qb (jE (fo:=none) rfl (jg (qc 0)) (cs ["store"] ["kind"] 1 [] (qd zp)) (f0 [] []) (fun _ _ _ _ _ _ _ _ _ _ _=>⟨(qw (i:=0) (nd ["kind"])),uN,(qfw (qmk hr) qkq (zK qL qK (qc 0) (gI T.c_MOST)) (jB (qb qh (qb qh qe))) rfl)⟩)) qe)))) (qj (qbI rfl L hc_NotSingle rfl mc_NotSingle xc_NotSingle (qb yR qe))) qX))
theorem qdB:qC ["thing"] ["thing"] (qd yq):=⟨rfl,rfl,rfl,by decide +kernel,rfl,by decide +kernel,by decide +kernel⟩
theorem q10 (F:Fun K "is_whole" "is_whole" yq f fd) (m:mg "is_whole"=some (.ref f)) (T:Txt K mg) (XTt:XT K mg RN TN) (hB:K.In base):Q10 P w K mg base:=by
 refine ⟨f,fd,?_,m,F.kp,F.binds fun _ _ _ _ _ _ us hl=>match us,hl with | [_],_=>rfl⟩
 exact zC (N:=["thing"]) (O:=[]) (body:=wd) F qdB (by decide) fun cdv A outer s H E B hr=>(qj (qN (qfz (qdM qjL rfl T.b_isinstance rfl T.b_int ql6 (qc 0) qI) (qdJ (qlE (qdM qhn rfl T.b_isinstance rfl T.b_bool qj8 (qc 0) qI))))))
theorem qdC:qC ["thing"] ["thing"] (qd yr):=⟨rfl,rfl,rfl,by decide +kernel,rfl,by decide +kernel,by decide +kernel⟩
theorem q11 (F:Fun K "is_count" "is_count" yr f fd) (m:mg "is_count"=some (.ref f)) (T:Txt K mg) (XTt:XT K mg RN TN) (hB:K.In base) (C_is_whole:Q10 P w K mg base):Q11 P w K mg base:=by
 refine ⟨f,fd,?_,m,F.kp,F.binds fun _ _ _ _ _ _ us hl=>match us,hl with | [_],_=>rfl⟩
 exact zC (N:=["thing"]) (O:=[]) (body:=wf) F qdC (by decide) fun cdv A outer s H E B hr=>(qj (qN (qfz (dC C_is_whole hr (qb (qc 0) qe)) (qdJ (qfw qni qlH (qc 0) qh (zy _))))))
theorem qe2:qC ["thing"] ["thing"] (qd uh):=⟨rfl,rfl,rfl,by decide +kernel,rfl,by decide +kernel,by decide +kernel⟩
theorem q12 (F:Fun K "is_kind" "is_kind" uh f fd) (m:mg "is_kind"=some (.ref f)) (T:Txt K mg) (XTt:XT K mg RN TN) (hB:K.In base) (C_is_count:Q11 P w K mg base):Q12 P w K mg base:=by
 refine ⟨f,fd,?_,m,F.kp,F.binds fun _ _ _ _ _ _ us hl=>match us,hl with | [_],_=>rfl⟩
 exact zC (N:=["thing"]) (O:=[]) (body:=qaE) F qe2 (by decide) fun cdv A outer s H E B hr=>(qg (y7 (DW.dt (qeA (wx (ww (qdM qcq rfl T.b_isinstance rfl T.b_tuple vB (qc 0) qI))) (qa3 (zX (qcx hr) qap (qG j4 yC rfl T.b_len qan (qb (qc 0) qe)) qh (zy _))))) (qj (qN qaQ)) qX)
   (qg (y7 (DW.dt (qeA (wx (ww (dC C_is_count hr (qb (zK qL qK (qc 0) (gI T.c_WEIGHT)) qe)))) (qa3 (zX (vc hr) yU (zK qL qK (qc 0) (gI T.c_WEIGHT)) qh (zy _))))) (qj (qN qaQ)) qX)
   (qj (qN (qfz (dC C_is_count hr (qb (zK qL qK (qc 0) (gI T.c_WORTH)) qe)) (qdJ (qns (qfw qlm qjI (zK qL qK (qc 0) (gI T.c_MOST)) qdH (zy _)) (qdJ (dC C_is_count hr (qb (zK qL qK (qc 0) (gI T.c_MOST)) qe))))))))))
theorem qdD:qC ["thing"] ["thing"] (qd jP):=⟨rfl,rfl,rfl,by decide +kernel,rfl,by decide +kernel,by decide +kernel⟩
theorem q13 (F:Fun K "is_store" "is_store" jP f fd) (m:mg "is_store"=some (.ref f)) (T:Txt K mg) (XTt:XT K mg RN TN) (hB:K.In base) (C_is_kind:Q12 P w K mg base):Q13 P w K mg base:=by
 refine ⟨f,fd,?_,m,F.kp,F.binds fun _ _ _ _ _ _ us hl=>match us,hl with | [_],_=>rfl⟩
 exact zC (N:=["thing"]) (O:=[]) (body:=wj) F qdD (by decide) fun cdv A outer s H E B hr=>(qg (y7 (DW.dt (qeA (wx (ww (qdM qcq rfl T.b_isinstance rfl T.b_tuple vB (qc 0) qI))) (qa3 (zX qll qit (qG j4 yC rfl T.b_len qan (qb (qc 0) qe)) (gI T.c_KINDS_AT_MOST) (zy _))))) (qj (qN qaQ)) qX)
   (qj (qN (qG (qdN rfl) qcr rfl T.b_all qiF (qb (jE (fo:=none) rfl (jg (qc 0)) (cs ["thing"] ["part"] 1 [] (qd jP)) (f0 [] []) (fun _ _ _ _ _ _ _ _ _ _ _=>⟨(qw (i:=0) (nd ["part"])),uN,(dC C_is_kind hr (qb (qc 0) qe))⟩)) qe)))))
theorem qb6:qC ["thing"] ["thing"] (qd z8):=⟨rfl,rfl,rfl,by decide +kernel,rfl,by decide +kernel,by decide +kernel⟩
theorem q14 (F:Fun K "need_store" "need_store" z8 f fd) (m:mg "need_store"=some (.ref f)) (T:Txt K mg) (XTt:XT K mg RN TN) (hB:K.In base) (C_is_store:Q13 P w K mg base):Q14 P w K mg base:=by
 obtain ⟨S,mS,xS⟩:=XTt.xcls hB
 obtain ⟨C_NoStore,hc_NoStore⟩:=XTt.has (n:="NoStore") (by decide)
 have mc_NoStore:=XTt.mgc _ _ (XTt.cls hc_NoStore).1
 obtain ⟨bm_NoStore,xc_NoStore,_⟩:=xS.own _ _ hc_NoStore
 refine ⟨f,fd,?_,m,F.kp,F.binds fun _ _ _ _ _ _ us hl=>match us,hl with | [_],_=>rfl⟩
 show u7 P w K mg base (CX1 P w) 5 f fd ["thing"] (spX K (clR K RN) (qaT (["thing"]:List Str).length (["thing"]:List Str).length yT))
 refine qba (N:=["thing"]) (ps:=["thing"]) (k:=4) (O:=[]) (body:=yT) (cl:=clR K RN) F qb6 ?a ?b
 case a=>decide
 intro cdv A outer s H E B hr
 have L:=qa9 (P:=P) (w:=w) (K:=K) (mg:=mg) (base:=base) (N:=["thing"]) (qual:="need_store") (scope:=qd z8) (f:=f) (cdv:=cdv) (A:=A) (outer:=outer) (s:=s) (H:=H) (E:=E) (c:=cfn [] [] B H (fun _=>False) (fun x H'=>∀ C,clR K RN x.cls=some C->E (.ref C) none H') fun _=>none) (cl:=clR K RN) rfl (fun x C H' h1 h2=>h2 C h1)
 exact (qj (y7 (wx (ww (dC C_is_store hr (qb (qc 0) qe)))) (qj (qbI rfl L hc_NoStore rfl mc_NoStore xc_NoStore (qb yR qe))) qX))
theorem qb7:qC ["store"] ["store"] (qd z9):=⟨rfl,rfl,rfl,by decide +kernel,rfl,by decide +kernel,by decide +kernel⟩
theorem q15 (F:Fun K "half_loads" "half_loads" z9 f fd) (m:mg "half_loads"=some (.ref f)) (T:Txt K mg) (XTt:XT K mg RN TN) (hB:K.In base) (C_not_beaten:Q8 P w K mg base) (C_second_half:Q6 P w K mg base) (C_first_half:Q5 P w K mg base) (C_need_single:Q9 P w K mg base) (C_need_store:Q14 P w K mg base):Q15 P w K mg base:=by
 have hcl:∀ n,RN.contains n=true->(clR K RN n).isSome=true:=fun n hn=>Option.isSome_iff_exists.mpr (XTt.has hn)
 refine ⟨f,fd,?_,m,F.kp,F.binds fun _ _ _ _ _ _ us hl=>match us,hl with | [_],_=>rfl⟩
 show u7 P w K mg base (CX1 P w) 6 f fd ["store"] (spX K (clR K RN) (qaT (["store"]:List Str).length (["store"]:List Str).length yc))
 refine qba (N:=["store"]) (ps:=["store"]) (k:=5) (O:=[]) (body:=yc) (cl:=clR K RN) F qb7 ?a ?b
 case a=>decide
 intro cdv A outer s H E B hr
 have L:=qa9 (P:=P) (w:=w) (K:=K) (mg:=mg) (base:=base) (N:=["store"]) (qual:="half_loads") (scope:=qd z9) (f:=f) (cdv:=cdv) (A:=A) (outer:=outer) (s:=s) (H:=H) (E:=E) (c:=cfn [] [] B H (fun _=>False) (fun x H'=>∀ C,clR K RN x.cls=some C->E (.ref C) none H') fun _=>none) (cl:=clR K RN) rfl (fun x C H' h1 h2=>h2 C h1)
 exact (qg (uM (xC L.two hcl C_need_store hr (qb (qc 0) qe)))
   (qg (uM (xC L.two hcl C_need_single hr (qb (qc 0) qe)))
   (qj (qN (jB (qb (dC C_not_beaten hr (qb (dC C_first_half hr (qb (qc 0) qe)) qe)) (qb (dC C_not_beaten hr (qb (dC C_second_half hr (qb (qc 0) qe)) qe)) qe)))))))
theorem qb8:qC ["thing"] ["thing"] (qd ja):=⟨rfl,rfl,rfl,by decide +kernel,rfl,by decide +kernel,by decide +kernel⟩
theorem q16 (F:Fun K "need_count" "need_count" ja f fd) (m:mg "need_count"=some (.ref f)) (T:Txt K mg) (XTt:XT K mg RN TN) (hB:K.In base) (C_is_count:Q11 P w K mg base):Q16 P w K mg base:=by
 obtain ⟨S,mS,xS⟩:=XTt.xcls hB
 obtain ⟨C_NoNumber,hc_NoNumber⟩:=XTt.has (n:="NoNumber") (by decide)
 have mc_NoNumber:=XTt.mgc _ _ (XTt.cls hc_NoNumber).1
 obtain ⟨bm_NoNumber,xc_NoNumber,_⟩:=xS.own _ _ hc_NoNumber
 refine ⟨f,fd,?_,m,F.kp,F.binds fun _ _ _ _ _ _ us hl=>match us,hl with | [_],_=>rfl⟩
 show u7 P w K mg base (CX1 P w) 3 f fd ["thing"] (spX K (clR K RN) (qaT (["thing"]:List Str).length (["thing"]:List Str).length yd))
 refine qba (N:=["thing"]) (ps:=["thing"]) (k:=2) (O:=[]) (body:=yd) (cl:=clR K RN) F qb8 ?a ?b
 case a=>decide
 intro cdv A outer s H E B hr
 have L:=qa9 (P:=P) (w:=w) (K:=K) (mg:=mg) (base:=base) (N:=["thing"]) (qual:="need_count") (scope:=qd ja) (f:=f) (cdv:=cdv) (A:=A) (outer:=outer) (s:=s) (H:=H) (E:=E) (c:=cfn [] [] B H (fun _=>False) (fun x H'=>∀ C,clR K RN x.cls=some C->E (.ref C) none H') fun _=>none) (cl:=clR K RN) rfl (fun x C H' h1 h2=>h2 C h1)
 exact (qj (y7 (wx (ww (dC C_is_count hr (qb (qc 0) qe)))) (qj (qbI rfl L hc_NoNumber rfl mc_NoNumber xc_NoNumber (qb yR qe))) qX))
theorem wD:qC ["store","room","both"] ["store","room"] (qd jb):=⟨rfl,rfl,rfl,by decide +kernel,rfl,by decide +kernel,by decide +kernel⟩
theorem q17 (F:Fun K "met_worth" "met_worth" jb f fd) (m:mg "met_worth"=some (.ref f)) (T:Txt K mg) (XTt:XT K mg RN TN) (hB:K.In base) (C_best_beside:Q1 P w K mg base) (C_half_loads:Q15 P w K mg base) (C_need_count:Q16 P w K mg base) (C_need_store:Q14 P w K mg base):Q17 P w K mg base:=by
 have hcl:∀ n,RN.contains n=true->(clR K RN n).isSome=true:=fun n hn=>Option.isSome_iff_exists.mpr (XTt.has hn)
 refine ⟨f,fd,?_,m,F.kp,F.binds fun _ _ _ _ _ _ us hl=>match us,hl with | [_,_],_=>rfl⟩
 show u7 P w K mg base (CX1 P w) 7 f fd ["store","room"] (spX K (clR K RN) (qaT (["store","room","both"]:List Str).length (["store","room"]:List Str).length jU))
 refine qba (N:=["store","room","both"]) (ps:=["store","room"]) (k:=6) (O:=[]) (body:=jU) (cl:=clR K RN) F wD ?a ?b
 case a=>decide
 intro cdv A outer s H E B hr
 have L:=qa9 (P:=P) (w:=w) (K:=K) (mg:=mg) (base:=base) (N:=["store","room","both"]) (qual:="met_worth") (scope:=qd jb) (f:=f) (cdv:=cdv) (A:=A) (outer:=outer) (s:=s) (H:=H) (E:=E) (c:=cfn [] [] B H (fun _=>False) (fun x H'=>∀ C,clR K RN x.cls=some C->E (.ref C) none H') fun _=>none) (cl:=clR K RN) rfl (fun x C H' h1 h2=>h2 C h1)
 exact (qg (uM (xC L.two hcl C_need_store hr (qb (qc 0) qe)))
   (qg (uM (xC L.two hcl C_need_count hr (qb (qc 1) qe)))
   (qg (zc (i:=2) wD.nd (xC L.two hcl C_half_loads hr (qb (qc 0) qe)))
   (qj (qN (qG (uO rfl) uc rfl T.b_max qao (qb (jE (fo:=none) rfl (jg (zK qL qK (qc 2) qh)) (cs ["store","room","both"] ["one","room","both"] 1 [1,2] (qd jb)) (f0 [1,2] []) (fun _ _ _ _ _ _ _ _ _ _ _=>⟨(qw (i:=0) (nd ["one","room","both"])),(qa6 (zX qg5 qdL (zK qL qK (qc 0) (gI T.c_WEIGHT)) (qc 1) (zy _))),(dC C_best_beside hr (qb (qc 0) (qb (zK qL qK (qc 2) qh) (qb (qc 1) qe))))⟩)) qe)))))))
theorem jo:qC ["store","room","best","seconds","fitting","front","beside","back"] ["store","room"] (qd zi):=⟨rfl,rfl,rfl,by decide +kernel,rfl,by decide +kernel,by decide +kernel⟩
theorem q18 (F:Fun K "met_load" "met_load" zi f fd) (m:mg "met_load"=some (.ref f)) (T:Txt K mg) (XTt:XT K mg RN TN) (hB:K.In base) (C_best_beside:Q1 P w K mg base) (C_all_weighed:Q4 P w K mg base) (C_first_half:Q5 P w K mg base) (C_second_half:Q6 P w K mg base) (C_met_worth:Q17 P w K mg base):Q18 P w K mg base:=by
 have hcl:∀ n,RN.contains n=true->(clR K RN n).isSome=true:=fun n hn=>Option.isSome_iff_exists.mpr (XTt.has hn)
 refine ⟨f,fd,?_,m,F.kp,F.binds fun _ _ _ _ _ _ us hl=>match us,hl with | [_,_],_=>rfl⟩
 show u7 P w K mg base (CX1 P w) 8 f fd ["store","room"] (spX K (clR K RN) (qaT (["store","room","best","seconds","fitting","front","beside","back"]:List Str).length (["store","room"]:List Str).length ui))
 refine qba (N:=["store","room","best","seconds","fitting","front","beside","back"]) (ps:=["store","room"]) (k:=7) (O:=[]) (body:=ui) (cl:=clR K RN) F jo ?a ?b
 case a=>decide
 intro cdv A outer s H E B hr
 have L:=qa9 (P:=P) (w:=w) (K:=K) (mg:=mg) (base:=base) (N:=["store","room","best","seconds","fitting","front","beside","back"]) (qual:="met_load") (scope:=qd zi) (f:=f) (cdv:=cdv) (A:=A) (outer:=outer) (s:=s) (H:=H) (E:=E) (c:=cfn [] [] B H (fun _=>False) (fun x H'=>∀ C,clR K RN x.cls=some C->E (.ref C) none H') fun _=>none) (cl:=clR K RN) rfl (fun x C H' h1 h2=>h2 C h1)
 exact (qg (zc (i:=2) jo.nd (xC L.two hcl C_met_worth hr (qb (qc 0) (qb (qc 1) qe))))
   (qg (zc (i:=3) jo.nd (dC C_all_weighed hr (qb (dC C_second_half hr (qb (qc 0) qe)) qe)))
   (qg (qdg (i:=4) jo.nd (qdf (fo:=none) rfl (jg (dC C_all_weighed hr (qb (dC C_first_half hr (qb (qc 0) qe)) qe))) (cs ["store","room","best","seconds","fitting","front","beside","back"] ["one","room"] 1 [1] (qd zi)) (f0 [1] []) (fun _ _ _ _ _ _ _ _ _ _ _=>⟨(qw (i:=0) (nd ["one","room"])),(qa6 (zX qg5 qdL (zK qL qK (qc 0) (gI T.c_WEIGHT)) (qc 1) (zy _))),(qc 0)⟩)) rfl (cs ["store","room","best","seconds","fitting","front","beside","back"] ["one","room"] 1 [1] (qd zi)))
   (qg (zc (i:=5) jo.nd (zK qL qK (jE (fo:=none) rfl (jg (qc 4)) (cs ["store","room","best","seconds","fitting","front","beside","back"] ["one","best","seconds","room"] 1 [2,3,1] (qd zi)) (f0 [2,3,1] []) (fun _ _ _ _ _ _ _ _ _ _ _=>⟨(qw (i:=0) (nd ["one","best","seconds","room"])),(qa6 (zX (vc hr) yU (dC C_best_beside hr (qb (qc 0) (qb (qc 2) (qb (qc 3) qe)))) (qc 1) (zy _))),(qc 0)⟩)) qh))
   (qg (qdg (i:=6) jo.nd (qdf (fo:=none) rfl (jg (qc 3)) (cs ["store","room","best","seconds","fitting","front","beside","back"] ["other","room","front"] 1 [1,5] (qd zi)) (f0 [1,5] []) (fun _ _ _ _ _ _ _ _ _ _ _=>⟨(qw (i:=0) (nd ["other","room","front"])),(qa6 (zX qg5 qdL (qx qT qU (zK qL qK (qc 2) (gI T.c_WEIGHT)) (zK qL qK (qc 0) (gI T.c_WEIGHT))) (qc 1) (zy _))),(qc 0)⟩)) rfl (cs ["store","room","best","seconds","fitting","front","beside","back"] ["other","room","front"] 1 [1,5] (qd zi)))
   (qg (zc (i:=7) jo.nd (zK qL qK (jE (fo:=none) rfl (jg (qc 6)) (cs ["store","room","best","seconds","fitting","front","beside","back"] ["other","best","front"] 1 [2,5] (qd zi)) (f0 [2,5] []) (fun _ _ _ _ _ _ _ _ _ _ _=>⟨(qw (i:=0) (nd ["other","best","front"])),(qa6 (zX (vc hr) yU (qx qT qU (zK qL qK (qc 2) (gI T.c_WORTH)) (zK qL qK (qc 0) (gI T.c_WORTH))) (qc 1) (zy _))),(qc 0)⟩)) qh))
   (qj (qN (qx qT qU (zK qL qK (qc 5) (gI T.c_LOAD)) (zK qL qK (qc 7) (gI T.c_LOAD)))))))))))
theorem wE:qC ["kind","store","room","e"] ["kind","store","room"] (qd jQ):=⟨rfl,rfl,rfl,by decide +kernel,rfl,by decide +kernel,by decide +kernel⟩
theorem q19 (F:Fun K "_law_said" "_law_said" jQ f fd) (m:mg "_law_said"=some (.ref f)) (T:Txt K mg) (XTt:XT K mg RN TN) (hB:K.In base) (C__law_marks:Q0 P w K mg base) (C_met_load:Q18 P w K mg base) (C_met_worth:Q17 P w K mg base):Q19 P w K mg base:=by
 obtain ⟨f__law_marks,fd__law_marks,G__law_marks,m__law_marks,k__law_marks,b__law_marks⟩:=C__law_marks.ex
 have hcl:∀ n,RN.contains n=true->(clR K RN n).isSome=true:=fun n hn=>Option.isSome_iff_exists.mpr (XTt.has hn)
 obtain ⟨S,mS,xS⟩:=XTt.xcls hB
 refine ⟨f,fd,?_,m,F.kp,F.binds fun _ _ _ _ _ _ us hl=>match us,hl with | [_,_,_],_=>rfl⟩
 exact zC (N:=["kind","store","room","e"]) (O:=[]) (body:=jV) F wE (by decide) fun cdv A outer s H E B hr=>(qj (qmg (i:=3) wE.nd rfl rfl xS rfl mS G__law_marks (hr.mono (by decide)) rfl m__law_marks k__law_marks b__law_marks (fun xe pn E2 cE L=>(qg (y7 (zX (vc hr) yU (qc 0) qh (zy _)) (qj (qN (xC L hcl C_met_worth hr (qb (qc 1) (qb (qc 2) qe))))) qX)
   (qj (qN (xC L hcl C_met_load hr (qb (qc 1) (qb (qc 2) qe)))))))))
theorem uV:qC ["box","many","left","digit"] ["box","many"] (qd jR):=⟨rfl,rfl,rfl,by decide +kernel,rfl,by decide +kernel,by decide +kernel⟩
theorem q20 (F:Fun K "_law_take" "_law_take" jR f fd) (m:mg "_law_take"=some (.ref f)) (T:Txt K mg) (XTt:XT K mg RN TN) (hB:K.In base):Q20 P w K mg base:=by
 refine ⟨f,fd,?_,m,F.kp,F.binds fun _ _ _ _ _ _ us hl=>match us,hl with | [_,_],_=>rfl⟩
 show u7 P w K mg base CX0 1 f fd ["box","many"] (qe7 K (vZ (["box","many","left","digit"]:List Str).length (["box","many"]:List Str).length ux))
 refine qhv (N:=["box","many","left","digit"]) (ps:=["box","many"]) (k:=0) (O:=[0]) (body:=ux) F uV ?a ?a0 ?b
 case a=>decide
 case a0=>decide
 intro cdv A outer s H E B Io S hr
 exact (qg (qir (qG qc1 qcp rfl T.b_divmod qfQ (qb (qfK (i:=0) qh) (qb (qc 1) qe))) (qaa (n:=2) rfl (zo (qw (i:=2) uV.nd) (zo (qw (i:=3) uV.nd) vh))))
   (qg (qjS (i:=0) (qc 2) qh)
   (qj (qN (qc 3)))))
theorem uC:qC ["store","load","place","found","at"] ["store","load","place"] (qd yt):=⟨rfl,rfl,rfl,by decide +kernel,rfl,by decide +kernel,by decide +kernel⟩
theorem q21 (F:Fun K "_law_sum" "_law_sum" yt f fd) (m:mg "_law_sum"=some (.ref f)) (T:Txt K mg) (XTt:XT K mg RN TN) (hB:K.In base):Q21 P w K mg base:=by
 refine ⟨f,fd,?_,m,F.kp,F.binds fun _ _ _ _ _ _ us hl=>match us,hl with | [_,_,_],_=>rfl⟩
 exact zC (N:=["store","load","place","found","at"]) (O:=[]) (body:=wm) F uC (by decide) fun cdv A outer s H E B hr=>(qg (zc (i:=3) uC.nd qh)
   (qg (ub PassesOwn.never rfl (j7 rfl T.b_range (qb (qG j4 yC rfl T.b_len qan (qb (qc 0) qe)) qe)) (qw (i:=4) uC.nd) (qj (zc (i:=3) uC.nd (qx qT qU (qc 3) (qx jF zY (zK qL qK (zK qL qK (qc 0) (qc 4)) (qc 2)) (zK qL qK (qc 1) (qc 4)))))))
   (qj (qN (qc 3)))))
theorem qu:qC ["store","room","found","heavy","dear","most","later","load","left","often"] ["store","room"] (qd qO):=⟨rfl,rfl,rfl,by decide +kernel,rfl,by decide +kernel,by decide +kernel⟩
theorem q22 (F:Fun K "_law_all_loads" "_law_all_loads" qO f fd) (m:mg "_law_all_loads"=some (.ref f)) (T:Txt K mg) (XTt:XT K mg RN TN) (hB:K.In base):Q22 P w K mg base:=by
 refine ⟨f,fd,?_,m,F.kp,F.binds fun _ _ _ _ _ _ us hl=>match us,hl with | [_,_],_=>rfl⟩
 exact zC (N:=["store","room","found","heavy","dear","most","later","load","left","often"]) (O:=[]) (body:=yi) F qu (by decide) fun cdv A outer s H E B hr=>(qg (zc (i:=2) qu.nd (jC (qb (jB (qb (jB qe) (qb (qc 1) qe))) qe)))
   (qg (ub PassesOwn.never rfl (jg (qc 0)) (qaa (n:=3) rfl (zo (qw (i:=3) qu.nd) (zo (qw (i:=4) qu.nd) (zo (qw (i:=5) qu.nd) vh)))) (qg (zc (i:=6) qu.nd (jC qe))
   (qg (ub PassesOwn.never rfl (jg (qc 2)) (qaa (n:=2) rfl (zo (qw (i:=7) qu.nd) (zo (qw (i:=8) qu.nd) vh))) (qg (zc (i:=9) qu.nd (qx vS uW (qc 8) (qc 3)))
   (qg (y7 (zX qjq qhj (qc 5) qdH (zy _)) (qj (zc (i:=9) qu.nd (qG (wV rfl) qad rfl T.b_min qfP (qb (qc 9) (qb (qc 5) qe))))) qX)
   (qj (zc (i:=6) qu.nd (qx qT qU (qc 6) (jE (fo:=none) rfl (j7 rfl T.b_range (qb (qx qT qU (qc 9) qh) qe)) (cs ["store","room","found","heavy","dear","most","later","load","left","often"] ["k","load","left","heavy"] 1 [7,8,3] (qd qO)) (f0 [7,8,3] []) (fun _ _ _ _ _ _ _ _ _ _ _=>⟨(qw (i:=0) (nd ["k","load","left","heavy"])),uN,(jB (qb (qx qT qU (qc 1) (jB (qb (qc 0) qe))) (qb (qx qfg qc6 (qc 2) (qx jF zY (qc 0) (qc 3))) qe)))⟩))))))))
   (qj (zc (i:=2) qu.nd (qc 6))))))
   (qj (qN (jE (fo:=none) rfl (jg (qc 2)) (cs ["store","room","found","heavy","dear","most","later","load","left","often"] ["load","left"] 2 [] (qd qO)) (f0 [] []) (fun _ _ _ _ _ _ _ _ _ _ _=>⟨(qaa (n:=2) rfl (zo (qw (i:=0) (nd ["load","left"])) (zo (qw (i:=1) (nd ["load","left"])) vh))),uN,(qc 0)⟩))))))
theorem yN:qC ["store","room","some","worths"] ["store","room"] (qd zf):=⟨rfl,rfl,rfl,by decide +kernel,rfl,by decide +kernel,by decide +kernel⟩
theorem q23 (F:Fun K "_law_best_of" "_law_best_of" zf f fd) (m:mg "_law_best_of"=some (.ref f)) (T:Txt K mg) (XTt:XT K mg RN TN) (hB:K.In base) (C__law_sum:Q21 P w K mg base) (C__law_all_loads:Q22 P w K mg base):Q23 P w K mg base:=by
 refine ⟨f,fd,?_,m,F.kp,F.binds fun _ _ _ _ _ _ us hl=>match us,hl with | [_,_],_=>rfl⟩
 exact zC (N:=["store","room","some","worths"]) (O:=[]) (body:=yX) F yN (by decide) fun cdv A outer s H E B hr=>(qg (zc (i:=2) yN.nd (dC C__law_all_loads hr (qb (qc 0) (qb (qc 1) qe))))
   (qg (qdg (i:=3) yN.nd (qdf (fo:=none) rfl (jg (qc 2)) (cs ["store","room","some","worths"] ["load","store"] 1 [0] (qd zf)) (f0 [0] []) (fun _ _ _ _ _ _ _ _ _ _ _=>⟨(qw (i:=0) (nd ["load","store"])),uN,(dC C__law_sum hr (qb (qc 1) (qb (qc 0) (qb qh qe))))⟩)) rfl (cs ["store","room","some","worths"] ["load","store"] 1 [0] (qd zf)))
   (qj (qN (jB (qb (qG (uO rfl) uc rfl T.b_max qao (qb (qc 3) qe)) (qb (zK qL qK (qc 2) (qbK PySem.F.slot_list_index qd2 (qgd hr) qcG (qc 3) (qb (qG (uO rfl) uc rfl T.b_max qao (qb (qc 3) qe)) qe))) (qb (qbK PySem.F.slot_list_count qd1 qf5 qcE (qc 3) (qb (qG (uO rfl) uc rfl T.b_max qao (qb (qc 3) qe)) qe)) qe))))))))
theorem zk:qC ["box","ends","way","heavy","dear","often"] ["box","ends"] (qd zU):=⟨rfl,rfl,rfl,by decide +kernel,rfl,by decide +kernel,by decide +kernel⟩
theorem q24 (F:Fun K "_law_kind_of" "_law_kind_of" zU f fd) (m:mg "_law_kind_of"=some (.ref f)) (T:Txt K mg) (XTt:XT K mg RN TN) (hB:K.In base) (C__law_take:Q20 P w K mg base):Q24 P w K mg base:=by
 refine ⟨f,fd,?_,m,F.kp,F.binds fun _ _ _ _ _ _ us hl=>match us,hl with | [_,_],_=>rfl⟩
 show u7 P w K mg base CX0 2 f fd ["box","ends"] (qe7 K (vZ (["box","ends","way","heavy","dear","often"]:List Str).length (["box","ends"]:List Str).length jY))
 refine qhv (N:=["box","ends","way","heavy","dear","often"]) (ps:=["box","ends"]) (k:=1) (O:=[0]) (body:=jY) F zk ?a ?a0 ?b
 case a=>decide
 case a0=>decide
 intro cdv A outer s H E B Io S hr
 exact (qg (zc (i:=2) zk.nd (iC (i:=0) C__law_take hr (qb qh qe)))
   (qg (qiE (i:=3) (j:=4) zk.nd (qb (qx qT qU qh (iC (i:=0) C__law_take hr (qb qh qe))) (qb (iC (i:=0) C__law_take hr (qb qh qe)) qe)) rfl)
   (qg (y7 (zX (vc hr) yU (qc 2) qh (zy _)) (qj (zc (i:=4) zk.nd (qx jF zY qh (qc 3)))) qX)
   (qg (y7 (zX (vc hr) yU (qc 2) qh (zy _)) (qj (zc (i:=4) zk.nd (qx qT qU (qc 3) (iC (i:=0) C__law_take hr (qb qh qe))))) qX)
   (qg (y7 (zX (vc hr) yU (qc 2) qh (zy _)) (qj (qiE (i:=3) (j:=4) zk.nd (qb (qx qT qU qh (iC (i:=0) C__law_take hr (qb qh qe))) (qb (iC (i:=0) C__law_take hr (qb qh qe)) qe)) rfl)) qX)
   (qg (zc (i:=5) zk.nd (zK qL qK (jC (qb qh (qb qh (qb qh (qb qh (qb qh (qb qh (qb qh (qb (qc 1) qe))))))))) (iC (i:=0) C__law_take hr (qb qh qe))))
   (qj (qN (jB (qb (qc 3) (qb (qc 4) (qb (qc 5) qe))))))))))))
theorem jd:qC ["box","most","ends","found","k","kind"] ["box","most","ends"] (qd zV):=⟨rfl,rfl,rfl,by decide +kernel,rfl,by decide +kernel,by decide +kernel⟩
theorem q25 (F:Fun K "_law_stocked" "_law_stocked" zV f fd) (m:mg "_law_stocked"=some (.ref f)) (T:Txt K mg) (XTt:XT K mg RN TN) (hB:K.In base) (C__law_take:Q20 P w K mg base) (C__law_kind_of:Q24 P w K mg base):Q25 P w K mg base:=by
 refine ⟨f,fd,?_,m,F.kp,F.binds fun _ _ _ _ _ _ us hl=>match us,hl with | [_,_,_],_=>rfl⟩
 show u7 P w K mg base CX0 3 f fd ["box","most","ends"] (qe7 K (vZ (["box","most","ends","found","k","kind"]:List Str).length (["box","most","ends"]:List Str).length jZ))
 refine qhv (N:=["box","most","ends","found","k","kind"]) (ps:=["box","most","ends"]) (k:=2) (O:=[0,3]) (body:=jZ) F jd ?a ?a0 ?b
 case a=>decide
 case a0=>decide
 intro cdv A outer s H E B Io S hr
 exact (qg (qaj (i:=3) jd.nd (qdP qe))
   (qg (ub PassesOwn.never rfl (j7 rfl T.b_range (qb (iC (i:=0) C__law_take hr (qb (qx qT qU (qc 1) qh) qe)) qe)) (qw (i:=4) jd.nd) (qg (zc (i:=5) jd.nd (iC (i:=0) C__law_kind_of hr (qb (qc 2) qe)))
   (qg (y7 (DW.dt (qlD (qlU (i:=3) hr (jC qe)) (qjF (zX (vc hr) yU (iC (i:=0) C__law_take hr (qb qh qe)) qh (zy _))))) (qj (zc (i:=5) jd.nd (qfK (i:=3) (iC (i:=0) C__law_take hr (qb (qjT (i:=3) rfl T.b_len) qe))))) qX)
   (qj (uM (qai (i:=3) (qc 5)))))))
   (qj (qN (qfJ (i:=3) rfl T.b_tuple vB)))))
theorem zl:qC ["box","most","great","found","heavy","dear","often"] ["box","most","great"] (qd qY):=⟨rfl,rfl,rfl,by decide +kernel,rfl,by decide +kernel,by decide +kernel⟩
theorem q26 (F:Fun K "_law_single_ones" "_law_single_ones" qY f fd) (m:mg "_law_single_ones"=some (.ref f)) (T:Txt K mg) (XTt:XT K mg RN TN) (hB:K.In base) (C__law_stocked:Q25 P w K mg base) (C__law_take:Q20 P w K mg base):Q26 P w K mg base:=by
 refine ⟨f,fd,?_,m,F.kp,F.binds fun _ _ _ _ _ _ us hl=>match us,hl with | [_,_,_],_=>rfl⟩
 show u7 P w K mg base CX0 4 f fd ["box","most","great"] (qe7 K (vZ (["box","most","great","found","heavy","dear","often"]:List Str).length (["box","most","great"]:List Str).length zZ))
 refine qhv (N:=["box","most","great","found","heavy","dear","often"]) (ps:=["box","most","great"]) (k:=3) (O:=[0,3]) (body:=zZ) F zl ?a ?a0 ?b
 case a=>decide
 case a0=>decide
 intro cdv A outer s H E B Io S hr
 exact (qg (qaj (i:=3) zl.nd (qdP qe))
   (qg (ub PassesOwn.never rfl (jg (iC (i:=0) C__law_stocked hr (qb (qc 1) (qb qh qe)))) (qaa (n:=3) rfl (zo (qw (i:=4) zl.nd) (zo (qw (i:=5) zl.nd) (zo (qw (i:=6) zl.nd) vh)))) (qj (uM (qai (i:=3) (jB (qb (qx qT qU (qx jF zY (qc 4) (qc 2)) (iC (i:=0) C__law_take hr (qb (qc 2) qe))) (qb (qx qT qU (qx jF zY (qc 5) (qc 2)) (iC (i:=0) C__law_take hr (qb (qc 2) qe))) (qb (qG (wV rfl) qad rfl T.b_min qfP (qb (qc 6) (qb qh qe))) qe))))))))
   (qj (qN (qfJ (i:=3) rfl T.b_tuple vB)))))
theorem uD:qC ["cell","k","some","stir"] ["cell","k"] (qd yu):=⟨rfl,rfl,rfl,by decide +kernel,rfl,by decide +kernel,by decide +kernel⟩
theorem q27 (F:Fun K "_law_mix" "_law_mix" yu f fd) (m:mg "_law_mix"=some (.ref f)) (T:Txt K mg) (XTt:XT K mg RN TN) (hB:K.In base):Q27 P w K mg base:=by
 refine ⟨f,fd,?_,m,F.kp,F.binds fun _ _ _ _ _ _ us hl=>match us,hl with | [_,_],_=>rfl⟩
 exact zC (N:=["cell","k","some","stir"]) (O:=[]) (body:=wn) F uD (by decide) fun cdv A outer s H E B hr=>(qg (zc (i:=2) uD.nd (jC (qb qh (qb qh (qb qh (qb qh (qb qh (qb qh (qb qh (qb qh (qb qh (qb qh (qb qh (qb qh (qb qh qe)))))))))))))))
   (qg (zc (i:=3) uD.nd (qx qT qU (qx qT qU (qx jF zY (qx qT qU (qx qcc qac (qc 0) qh) qh) (zK qL qK (qc 2) (qx qcc qac (qc 1) qh))) (qx jF zY qh (qc 1))) (qx jF zY qh (qx vS uW (qc 1) qh))))
   (qg (zc (i:=3) uD.nd (qx qcc qac (qc 3) qh))
   (qj (qN (qx vS uW (qx qcc qac (qx qT qU (qx jF zY (qc 3) (qc 3)) (qx jF zY qh (qc 1))) qh) qh))))))
theorem qcY:qC ["script","k"] ["script","k"] (qd jS):=⟨rfl,rfl,rfl,by decide +kernel,rfl,by decide +kernel,by decide +kernel⟩
theorem q28 (F:Fun K "_law_cell" "_law_cell" jS f fd) (m:mg "_law_cell"=some (.ref f)) (T:Txt K mg) (XTt:XT K mg RN TN) (hB:K.In base):Q28 P w K mg base:=by
 refine ⟨f,fd,?_,m,F.kp,F.binds fun _ _ _ _ _ _ us hl=>match us,hl with | [_,_],_=>rfl⟩
 exact zC (N:=["script","k"]) (O:=[]) (body:=uy) F qcY (by decide) fun cdv A outer s H E B hr=>(qg (y7 (zX qnh qlG (qc 1) (qG j4 yC rfl T.b_len qan (qb (qc 0) qe)) (zy _)) (qj (qN (zK qL qK (qc 0) (qc 1)))) qX)
   (qj (qN qh)))
theorem yO:qC ["script","k","cell","number","j"] ["script","k"] (qd yw):=⟨rfl,rfl,rfl,by decide +kernel,rfl,by decide +kernel,by decide +kernel⟩
theorem q29 (F:Fun K "_law_box" "_law_box" yw f fd) (m:mg "_law_box"=some (.ref f)) (T:Txt K mg) (XTt:XT K mg RN TN) (hB:K.In base) (C__law_mix:Q27 P w K mg base) (C__law_cell:Q28 P w K mg base):Q29 P w K mg base:=by
 refine ⟨f,fd,?_,m,F.kp,F.binds fun _ _ _ _ _ _ us hl=>match us,hl with | [_,_],_=>rfl⟩
 exact zC (N:=["script","k","cell","number","j"]) (O:=[]) (body:=u6) F yO (by decide) fun cdv A outer s H E B hr=>(qg (zc (i:=2) yO.nd (dC C__law_cell hr (qb (qc 0) (qb (qc 1) qe))))
   (qg (y7 (zX (vc hr) yU (qx qcc qac (qc 2) qh) qh (zy _)) (qj (qN (jC (qb (qx vS uW (qG qg7 qfD rfl T.b_abs ql4 (qb (qc 2) qe)) qh) qe)))) qX)
   (qg (zc (i:=3) yO.nd qh)
   (qg (ub PassesOwn.never rfl (j7 rfl T.b_range (qb qh qe)) (qw (i:=4) yO.nd) (qj (zc (i:=3) yO.nd (qx qT qU (qx jF zY (qc 3) qh) (dC C__law_mix hr (qb (qc 2) (qb (qc 4) qe)))))))
   (qj (qN (jC (qb (qc 3) qe))))))))
theorem uI:qC ["script","k","box","store","load","near","room","best","first","many","kind","thing"] ["script"] (qd wJ):=⟨rfl,rfl,rfl,by decide +kernel,rfl,by decide +kernel,by decide +kernel⟩
theorem qmP (F:Fun K "law" "law" wJ f fd) (T:Txt K mg) (XTt:XT K mg RN TN) (hB:K.In base) (C__law_said:Q19 P w K mg base) (C__law_take:Q20 P w K mg base) (C__law_best_of:Q23 P w K mg base) (C__law_sum:Q21 P w K mg base) (C__law_single_ones:Q26 P w K mg base) (C__law_box:Q29 P w K mg base):u7 P w K mg base CX0 10 f fd ["script"] (spD K qdv):=by
 exact zC (N:=["script","k","box","store","load","near","room","best","first","many","kind","thing"]) (O:=[2]) (body:=qkE) F uI (by decide) fun cdv A outer s H E B hr=>(qg (ub PassesOwn.never rfl (j7 rfl T.b_range (qb (qG (qce rfl) qco rfl T.b_max qao (qb qh (qb (qG (wV rfl) qad rfl T.b_min qfP (qb (qG j4 yC rfl T.b_len qan (qb (qc 0) qe)) (qb qh qe))) qe))) qe)) (qw (i:=1) uI.nd) (qg (qaj (i:=2) uI.nd (nC C__law_box hr (qb (qc 0) (qb (qc 1) qe))))
   (qg (zc (i:=3) uI.nd (iC (i:=2) C__law_single_ones hr (qb (zK qL qK (jC (qb qh (qb qh (qb qh qe)))) (qc 1)) (qb (zK qL qK (jC (qb qh (qb qh (qb (qx qim qfN qh qh) qe)))) (iC (i:=2) C__law_take hr (qb qh qe))) qe))))
   (qg (zc (i:=4) uI.nd (qfA vx qc8 rfl T.b_tuple vB (qb (jE (fo:=(some (1,2))) rfl (jg (qc 3)) (cs ["script","k","box","store","load","near","room","best","first","many","kind","thing"] ["kind","box"] 1 [2] (qd wJ)) (f1 1 [2] [2] 1 2) (fun _ _ _ _ _ _ _ _ _ _ _=>⟨(qw (i:=0) (nd ["kind","box"])),uN,(iC (i:=1) C__law_take hr (qb (qx qT qU qh (zK qL qK (qc 0) qh)) qe))⟩)) qe)))
   (qg (zc (i:=5) uI.nd (dC C__law_sum hr (qb (qc 3) (qb (qc 4) (qb qh qe)))))
   (qg (ub PassesOwn.never rfl (jg (jC (qb qh (qb (qc 5) (qb (qx qT qU (qc 5) (iC (i:=2) C__law_take hr (qb qh qe))) (qb (qG (qce rfl) qco rfl T.b_max qao (qb qh (qb (qx qfg qc6 (qc 5) qh) qe))) (qb (qx qim qfN qh qh) qe))))))) (qw (i:=6) uI.nd) (qg (qir (dC C__law_best_of hr (qb (qc 3) (qb (qc 6) qe))) (qaa (n:=3) rfl (zo (qw (i:=7) uI.nd) (zo (qw (i:=8) uI.nd) (zo (qw (i:=9) uI.nd) vh)))))
   (qj (y7 (DW.dt (qeA (zX (qcx hr) qap (qG (uX hr) uY rfl T.b_repr qbC (qb (dC C__law_said hr (qb qh (qb (qc 3) (qb (qc 6) qe)))) qe)) (qG (uX hr) uY rfl T.b_repr qbC (qb (qc 7) qe)) (zy _)) (qa3 (zX (qcx hr) qap (qG (uX hr) uY rfl T.b_repr qbC (qb (dC C__law_said hr (qb qh (qb (qc 3) (qb (qc 6) qe)))) qe)) (qG (uX hr) uY rfl T.b_repr qbC (qb (qc 8) qe)) (zy _))))) (qj (qN qaQ)) qX))))
   (qg (ub PassesOwn.never rfl (jg (jC (qb (jB (qb qh (qb qh (qb qh qe)))) (qb (jB (qb qh (qb qh (qb qdH qe)))) qe)))) (qw (i:=10) uI.nd) (qj (y7 (zX (qcx hr) qap (jE (fo:=none) rfl (j7 rfl T.b_range (qb qh qe)) (cs ["script","k","box","store","load","near","room","best","first","many","kind","thing"] ["sort","near","store","kind"] 1 [5,3,10] (qd wJ)) (f0 [5,3,10] [2]) (fun _ _ _ _ _ _ _ _ _ _ _=>⟨(qw (i:=0) (nd ["sort","near","store","kind"])),uN,(dC C__law_said hr (qb (qc 0) (qb (qx qT qU (qc 2) (jB (qb (qc 3) qe))) (qb (qc 1) qe))))⟩)) (qx jF zY (jC (qb yR qe)) qh) (zy _)) (qj (qN qaQ)) qX)))
   (qj (ub PassesOwn.never rfl (jg (jC (qb (qfO qh) (qb qdH (qb qaQ (qb yR (qb (jB (qb qh qe)) qe))))))) (qw (i:=11) uI.nd) (qj (y7 (zX (qcx hr) qap (jE (fo:=none) rfl (j7 rfl T.b_range (qb qh qe)) (cs ["script","k","box","store","load","near","room","best","first","many","kind","thing"] ["sort","thing","store"] 1 [11,3] (qd wJ)) (f0 [11,3] [2]) (fun _ _ _ _ _ _ _ _ _ _ _=>⟨(qw (i:=0) (nd ["sort","thing","store"])),uN,(dC C__law_said hr (qb (qc 0) (qb (qx qT qU (qc 2) (jB (qb (jB (qb qh (qb qh (qb qh qe)))) qe))) (qb (qc 1) qe))))⟩)) (qx jF zY (jC (qb yR qe)) qh) (zy _)) (qj (qN qaQ)) qX)))))))))))
   (qj (qN qaQ)))
end
theorem all_mk {l:PySem.W.OpenLaw} {w:World} {K:PySem.W.Frag} {h:Heap} {mg:Str->Option Value} {fa f0 f1 f2 f3 f4 f5 f6 f7 f8 f9 f10 f11 f12 f13 f14 f15 f16 f17 f18 f19 f20 f21 f22 f23 f24 f25 f26 f27 f28 f29 f30:Addr} (X:K.In h) (G:h.Ns mainGlobals mg) (hfa:mg "law"=some (.ref fa))
  {od0 an0 od1 an1 od2 an2 od3 an3 od4 an4 od5 an5 od6 an6 od7 an7 od8 an8 od9 an9 od10 an10 od11 an11 od12 an12 od13 an13 od14 an14 od15 an15 od16 an16 od17 an17 od18 an18 od19 an19 od20 an20 od21 an21 od22 an22 od23 an23 od24 an24 od25 an25 od26 an26 od27 an27 od28 an28 od29 an29 od30 an30:Option Addr} {sl0 sl1 sl2 sl3 sl4 sl5 sl6 sl7 sl8 sl9 sl10 sl11 sl12 sl13 sl14 sl15 sl16 sl17 sl18 sl19 sl20 sl21 sl22 sl23 sl24 sl25 sl26 sl27 sl28 sl29 sl30:Array (Option Value)} {oc0 kV0 dc0 pm0 cd0 ct0 oc1 kV1 dc1 pm1 cd1 ct1 oc2 kV2 dc2 pm2 cd2 ct2 oc3 kV3 dc3 pm3 cd3 ct3 oc4 kV4 dc4 pm4 cd4 ct4 oc5 kV5 dc5 pm5 cd5 ct5 oc6 kV6 dc6 pm6 cd6 ct6 oc7 kV7 dc7 pm7 cd7 ct7 oc8 kV8 dc8 pm8 cd8 ct8 oc9 kV9 dc9 pm9 cd9 ct9 oc10 kV10 dc10 pm10 cd10 ct10 oc11 kV11 dc11 pm11 cd11 ct11 oc12 kV12 dc12 pm12 cd12 ct12 oc13 kV13 dc13 pm13 cd13 ct13 oc14 kV14 dc14 pm14 cd14 ct14 oc15 kV15 dc15 pm15 cd15 ct15 oc16 kV16 dc16 pm16 cd16 ct16 oc17 kV17 dc17 pm17 cd17 ct17 oc18 kV18 dc18 pm18 cd18 ct18 oc19 kV19 dc19 pm19 cd19 ct19 oc20 kV20 dc20 pm20 cd20 ct20 oc21 kV21 dc21 pm21 cd21 ct21 oc22 kV22 dc22 pm22 cd22 ct22 oc23 kV23 dc23 pm23 cd23 ct23 oc24 kV24 dc24 pm24 cd24 ct24 oc25 kV25 dc25 pm25 cd25 ct25 oc26 kV26 dc26 pm26 cd26 ct26 oc27 kV27 dc27 pm27 cd27 ct27 oc28 kV28 dc28 pm28 cd28 ct28 oc29 kV29 dc29 pm29 cd29 ct29 oc30 kV30 dc30 pm30 cd30 ct30:Value} {tk_KINDS_AT_MOST:Tok} {tk_LOAD:Tok} {tk_MOST:Tok} {tk_WEIGHT:Tok} {tk_WORTH:Tok}
  (a0:PySem.W.nsIn K mainGlobals "_law_marks"=some (some (.ref f0))) (l0:K.lookup f0=some ⟨oc0,od0,.func (PySem.W.fnOf "_law_marks" "_law_marks" (qF z7) (qz z7) (qd z7) .none kV0 dc0 pm0 an0 cd0 ct0),sl0⟩) (c0:PySem.W.codeIn K cd0 "_law_marks"=true) (k0:PySem.W.keepIn K (.ref f0)=true)
  (a1:PySem.W.nsIn K mainGlobals "best_beside"=some (some (.ref f1))) (l1:K.lookup f1=some ⟨oc1,od1,.func (PySem.W.fnOf "best_beside" "best_beside" (qF zM) (qz zM) (qd zM) .none kV1 dc1 pm1 an1 cd1 ct1),sl1⟩) (c1:PySem.W.codeIn K cd1 "best_beside"=true) (k1:PySem.W.keepIn K (.ref f1)=true)
  (a2:PySem.W.nsIn K mainGlobals "all_loads"=some (some (.ref f2))) (l2:K.lookup f2=some ⟨oc2,od2,.func (PySem.W.fnOf "all_loads" "all_loads" (qF jm) (qz jm) (qd jm) .none kV2 dc2 pm2 an2 cd2 ct2),sl2⟩) (c2:PySem.W.codeIn K cd2 "all_loads"=true) (k2:PySem.W.keepIn K (.ref f2)=true)
  (a3:PySem.W.nsIn K mainGlobals "taken_together"=some (some (.ref f3))) (l3:K.lookup f3=some ⟨oc3,od3,.func (PySem.W.fnOf "taken_together" "taken_together" (qF za) (qz za) (qd za) .none kV3 dc3 pm3 an3 cd3 ct3),sl3⟩) (c3:PySem.W.codeIn K cd3 "taken_together"=true) (k3:PySem.W.keepIn K (.ref f3)=true)
  (a4:PySem.W.nsIn K mainGlobals "all_weighed"=some (some (.ref f4))) (l4:K.lookup f4=some ⟨oc4,od4,.func (PySem.W.fnOf "all_weighed" "all_weighed" (qF zN) (qz zN) (qd zN) .none kV4 dc4 pm4 an4 cd4 ct4),sl4⟩) (c4:PySem.W.codeIn K cd4 "all_weighed"=true) (k4:PySem.W.keepIn K (.ref f4)=true)
  (a5:PySem.W.nsIn K mainGlobals "first_half"=some (some (.ref f5))) (l5:K.lookup f5=some ⟨oc5,od5,.func (PySem.W.fnOf "first_half" "first_half" (qF jq) (qz jq) (qd jq) .none kV5 dc5 pm5 an5 cd5 ct5),sl5⟩) (c5:PySem.W.codeIn K cd5 "first_half"=true) (k5:PySem.W.keepIn K (.ref f5)=true)
  (a6:PySem.W.nsIn K mainGlobals "second_half"=some (some (.ref f6))) (l6:K.lookup f6=some ⟨oc6,od6,.func (PySem.W.fnOf "second_half" "second_half" (qF je) (qz je) (qd je) .none kV6 dc6 pm6 an6 cd6 ct6),sl6⟩) (c6:PySem.W.codeIn K cd6 "second_half"=true) (k6:PySem.W.keepIn K (.ref f6)=true)
  (a7:PySem.W.nsIn K mainGlobals "beating_order"=some (some (.ref f7))) (l7:K.lookup f7=some ⟨oc7,od7,.func (PySem.W.fnOf "beating_order" "beating_order" (qF zF) (qz zF) (qd zF) .none kV7 dc7 pm7 an7 cd7 ct7),sl7⟩) (c7:PySem.W.codeIn K cd7 "beating_order"=true) (k7:PySem.W.keepIn K (.ref f7)=true)
  (a8:PySem.W.nsIn K mainGlobals "not_beaten"=some (some (.ref f8))) (l8:K.lookup f8=some ⟨oc8,od8,.func (PySem.W.fnOf "not_beaten" "not_beaten" (qF jr) (qz jr) (qd jr) .none kV8 dc8 pm8 an8 cd8 ct8),sl8⟩) (c8:PySem.W.codeIn K cd8 "not_beaten"=true) (k8:PySem.W.keepIn K (.ref f8)=true)
  (a9:PySem.W.nsIn K mainGlobals "need_single"=some (some (.ref f9))) (l9:K.lookup f9=some ⟨oc9,od9,.func (PySem.W.fnOf "need_single" "need_single" (qF zp) (qz zp) (qd zp) .none kV9 dc9 pm9 an9 cd9 ct9),sl9⟩) (c9:PySem.W.codeIn K cd9 "need_single"=true) (k9:PySem.W.keepIn K (.ref f9)=true)
  (a10:PySem.W.nsIn K mainGlobals "is_whole"=some (some (.ref f10))) (l10:K.lookup f10=some ⟨oc10,od10,.func (PySem.W.fnOf "is_whole" "is_whole" (qF yq) (qz yq) (qd yq) .none kV10 dc10 pm10 an10 cd10 ct10),sl10⟩) (c10:PySem.W.codeIn K cd10 "is_whole"=true) (k10:PySem.W.keepIn K (.ref f10)=true)
  (a11:PySem.W.nsIn K mainGlobals "is_count"=some (some (.ref f11))) (l11:K.lookup f11=some ⟨oc11,od11,.func (PySem.W.fnOf "is_count" "is_count" (qF yr) (qz yr) (qd yr) .none kV11 dc11 pm11 an11 cd11 ct11),sl11⟩) (c11:PySem.W.codeIn K cd11 "is_count"=true) (k11:PySem.W.keepIn K (.ref f11)=true)
  (a12:PySem.W.nsIn K mainGlobals "is_kind"=some (some (.ref f12))) (l12:K.lookup f12=some ⟨oc12,od12,.func (PySem.W.fnOf "is_kind" "is_kind" (qF uh) (qz uh) (qd uh) .none kV12 dc12 pm12 an12 cd12 ct12),sl12⟩) (c12:PySem.W.codeIn K cd12 "is_kind"=true) (k12:PySem.W.keepIn K (.ref f12)=true)
  (a13:PySem.W.nsIn K mainGlobals "is_store"=some (some (.ref f13))) (l13:K.lookup f13=some ⟨oc13,od13,.func (PySem.W.fnOf "is_store" "is_store" (qF jP) (qz jP) (qd jP) .none kV13 dc13 pm13 an13 cd13 ct13),sl13⟩) (c13:PySem.W.codeIn K cd13 "is_store"=true) (k13:PySem.W.keepIn K (.ref f13)=true)
  (a14:PySem.W.nsIn K mainGlobals "need_store"=some (some (.ref f14))) (l14:K.lookup f14=some ⟨oc14,od14,.func (PySem.W.fnOf "need_store" "need_store" (qF z8) (qz z8) (qd z8) .none kV14 dc14 pm14 an14 cd14 ct14),sl14⟩) (c14:PySem.W.codeIn K cd14 "need_store"=true) (k14:PySem.W.keepIn K (.ref f14)=true)
  (a15:PySem.W.nsIn K mainGlobals "half_loads"=some (some (.ref f15))) (l15:K.lookup f15=some ⟨oc15,od15,.func (PySem.W.fnOf "half_loads" "half_loads" (qF z9) (qz z9) (qd z9) .none kV15 dc15 pm15 an15 cd15 ct15),sl15⟩) (c15:PySem.W.codeIn K cd15 "half_loads"=true) (k15:PySem.W.keepIn K (.ref f15)=true)
  (a16:PySem.W.nsIn K mainGlobals "need_count"=some (some (.ref f16))) (l16:K.lookup f16=some ⟨oc16,od16,.func (PySem.W.fnOf "need_count" "need_count" (qF ja) (qz ja) (qd ja) .none kV16 dc16 pm16 an16 cd16 ct16),sl16⟩) (c16:PySem.W.codeIn K cd16 "need_count"=true) (k16:PySem.W.keepIn K (.ref f16)=true)
  (a17:PySem.W.nsIn K mainGlobals "met_worth"=some (some (.ref f17))) (l17:K.lookup f17=some ⟨oc17,od17,.func (PySem.W.fnOf "met_worth" "met_worth" (qF jb) (qz jb) (qd jb) .none kV17 dc17 pm17 an17 cd17 ct17),sl17⟩) (c17:PySem.W.codeIn K cd17 "met_worth"=true) (k17:PySem.W.keepIn K (.ref f17)=true)
  (a18:PySem.W.nsIn K mainGlobals "met_load"=some (some (.ref f18))) (l18:K.lookup f18=some ⟨oc18,od18,.func (PySem.W.fnOf "met_load" "met_load" (qF zi) (qz zi) (qd zi) .none kV18 dc18 pm18 an18 cd18 ct18),sl18⟩) (c18:PySem.W.codeIn K cd18 "met_load"=true) (k18:PySem.W.keepIn K (.ref f18)=true)
  (a19:PySem.W.nsIn K mainGlobals "_law_said"=some (some (.ref f19))) (l19:K.lookup f19=some ⟨oc19,od19,.func (PySem.W.fnOf "_law_said" "_law_said" (qF jQ) (qz jQ) (qd jQ) .none kV19 dc19 pm19 an19 cd19 ct19),sl19⟩) (c19:PySem.W.codeIn K cd19 "_law_said"=true) (k19:PySem.W.keepIn K (.ref f19)=true)
  (a20:PySem.W.nsIn K mainGlobals "_law_take"=some (some (.ref f20))) (l20:K.lookup f20=some ⟨oc20,od20,.func (PySem.W.fnOf "_law_take" "_law_take" (qF jR) (qz jR) (qd jR) .none kV20 dc20 pm20 an20 cd20 ct20),sl20⟩) (c20:PySem.W.codeIn K cd20 "_law_take"=true) (k20:PySem.W.keepIn K (.ref f20)=true)
  (a21:PySem.W.nsIn K mainGlobals "_law_sum"=some (some (.ref f21))) (l21:K.lookup f21=some ⟨oc21,od21,.func (PySem.W.fnOf "_law_sum" "_law_sum" (qF yt) (qz yt) (qd yt) .none kV21 dc21 pm21 an21 cd21 ct21),sl21⟩) (c21:PySem.W.codeIn K cd21 "_law_sum"=true) (k21:PySem.W.keepIn K (.ref f21)=true)
  (a22:PySem.W.nsIn K mainGlobals "_law_all_loads"=some (some (.ref f22))) (l22:K.lookup f22=some ⟨oc22,od22,.func (PySem.W.fnOf "_law_all_loads" "_law_all_loads" (qF qO) (qz qO) (qd qO) .none kV22 dc22 pm22 an22 cd22 ct22),sl22⟩) (c22:PySem.W.codeIn K cd22 "_law_all_loads"=true) (k22:PySem.W.keepIn K (.ref f22)=true)
  (a23:PySem.W.nsIn K mainGlobals "_law_best_of"=some (some (.ref f23))) (l23:K.lookup f23=some ⟨oc23,od23,.func (PySem.W.fnOf "_law_best_of" "_law_best_of" (qF zf) (qz zf) (qd zf) .none kV23 dc23 pm23 an23 cd23 ct23),sl23⟩) (c23:PySem.W.codeIn K cd23 "_law_best_of"=true) (k23:PySem.W.keepIn K (.ref f23)=true)
  (a24:PySem.W.nsIn K mainGlobals "_law_kind_of"=some (some (.ref f24))) (l24:K.lookup f24=some ⟨oc24,od24,.func (PySem.W.fnOf "_law_kind_of" "_law_kind_of" (qF zU) (qz zU) (qd zU) .none kV24 dc24 pm24 an24 cd24 ct24),sl24⟩) (c24:PySem.W.codeIn K cd24 "_law_kind_of"=true) (k24:PySem.W.keepIn K (.ref f24)=true)
  (a25:PySem.W.nsIn K mainGlobals "_law_stocked"=some (some (.ref f25))) (l25:K.lookup f25=some ⟨oc25,od25,.func (PySem.W.fnOf "_law_stocked" "_law_stocked" (qF zV) (qz zV) (qd zV) .none kV25 dc25 pm25 an25 cd25 ct25),sl25⟩) (c25:PySem.W.codeIn K cd25 "_law_stocked"=true) (k25:PySem.W.keepIn K (.ref f25)=true)
  (a26:PySem.W.nsIn K mainGlobals "_law_single_ones"=some (some (.ref f26))) (l26:K.lookup f26=some ⟨oc26,od26,.func (PySem.W.fnOf "_law_single_ones" "_law_single_ones" (qF qY) (qz qY) (qd qY) .none kV26 dc26 pm26 an26 cd26 ct26),sl26⟩) (c26:PySem.W.codeIn K cd26 "_law_single_ones"=true) (k26:PySem.W.keepIn K (.ref f26)=true)
  (a27:PySem.W.nsIn K mainGlobals "_law_mix"=some (some (.ref f27))) (l27:K.lookup f27=some ⟨oc27,od27,.func (PySem.W.fnOf "_law_mix" "_law_mix" (qF yu) (qz yu) (qd yu) .none kV27 dc27 pm27 an27 cd27 ct27),sl27⟩) (c27:PySem.W.codeIn K cd27 "_law_mix"=true) (k27:PySem.W.keepIn K (.ref f27)=true)
  (a28:PySem.W.nsIn K mainGlobals "_law_cell"=some (some (.ref f28))) (l28:K.lookup f28=some ⟨oc28,od28,.func (PySem.W.fnOf "_law_cell" "_law_cell" (qF jS) (qz jS) (qd jS) .none kV28 dc28 pm28 an28 cd28 ct28),sl28⟩) (c28:PySem.W.codeIn K cd28 "_law_cell"=true) (k28:PySem.W.keepIn K (.ref f28)=true)
  (a29:PySem.W.nsIn K mainGlobals "_law_box"=some (some (.ref f29))) (l29:K.lookup f29=some ⟨oc29,od29,.func (PySem.W.fnOf "_law_box" "_law_box" (qF yw) (qz yw) (qd yw) .none kV29 dc29 pm29 an29 cd29 ct29),sl29⟩) (c29:PySem.W.codeIn K cd29 "_law_box"=true) (k29:PySem.W.keepIn K (.ref f29)=true)
  (a30:PySem.W.nsIn K mainGlobals "law"=some (some (.ref f30))) (l30:K.lookup f30=some ⟨oc30,od30,.func (PySem.W.fnOf "law" "law" (qF wJ) (qz wJ) (qd wJ) .none kV30 dc30 pm30 an30 cd30 ct30),sl30⟩) (c30:PySem.W.codeIn K cd30 "law"=true) (k30:PySem.W.keepIn K (.ref f30)=true)
  (zb_ValueError:PySem.W.nsIn K mainGlobals "ValueError"=some none)
  (zb_abs:PySem.W.nsIn K mainGlobals "abs"=some none)
  (zb_all:PySem.W.nsIn K mainGlobals "all"=some none)
  (zb_bool:PySem.W.nsIn K mainGlobals "bool"=some none)
  (zb_divmod:PySem.W.nsIn K mainGlobals "divmod"=some none)
  (zb_int:PySem.W.nsIn K mainGlobals "int"=some none)
  (zb_isinstance:PySem.W.nsIn K mainGlobals "isinstance"=some none)
  (zb_len:PySem.W.nsIn K mainGlobals "len"=some none)
  (zb_max:PySem.W.nsIn K mainGlobals "max"=some none)
  (zb_min:PySem.W.nsIn K mainGlobals "min"=some none)
  (zb_range:PySem.W.nsIn K mainGlobals "range"=some none)
  (zb_repr:PySem.W.nsIn K mainGlobals "repr"=some none)
  (zb_sorted:PySem.W.nsIn K mainGlobals "sorted"=some none)
  (zb_sum:PySem.W.nsIn K mainGlobals "sum"=some none)
  (zb_tuple:PySem.W.nsIn K mainGlobals "tuple"=some none)
  (zb_zip:PySem.W.nsIn K mainGlobals "zip"=some none)
  (xz:qnx K RN TN=true)
  (zg_KINDS_AT_MOST:PySem.W.nsIn K mainGlobals "KINDS_AT_MOST"=some (some (.int 12 tk_KINDS_AT_MOST)))
  (zg_LOAD:PySem.W.nsIn K mainGlobals "LOAD"=some (some (.int 2 tk_LOAD)))
  (zg_MOST:PySem.W.nsIn K mainGlobals "MOST"=some (some (.int 2 tk_MOST)))
  (zg_WEIGHT:PySem.W.nsIn K mainGlobals "WEIGHT"=some (some (.int 0 tk_WEIGHT)))
  (zg_WORTH:PySem.W.nsIn K mainGlobals "WORTH"=some (some (.int 1 tk_WORTH))) :
  ∃ fd:FuncData,(∀ (s:Shared) (v:Value),BindsTo s fd ⟨[v],[]⟩ [("script",v)])/\∀ base:Heap,K.In base->base.Ns mainGlobals mg->u7 l.prog w K mg base CX0 10 fa fd ["script"] (spD K qdv):=by
 have e:=hfa.symm.trans (PySem.W.mg_of X G a30)
 cases e
 have T:Txt K mg:=⟨PySem.W.mg_none_of X G zb_ValueError,PySem.W.mg_none_of X G zb_abs,PySem.W.mg_none_of X G zb_all,PySem.W.mg_none_of X G zb_bool,PySem.W.mg_none_of X G zb_divmod,PySem.W.mg_none_of X G zb_int,PySem.W.mg_none_of X G zb_isinstance,PySem.W.mg_none_of X G zb_len,PySem.W.mg_none_of X G zb_max,PySem.W.mg_none_of X G zb_min,PySem.W.mg_none_of X G zb_range,PySem.W.mg_none_of X G zb_repr,PySem.W.mg_none_of X G zb_sorted,PySem.W.mg_none_of X G zb_sum,PySem.W.mg_none_of X G zb_tuple,PySem.W.mg_none_of X G zb_zip,⟨_,PySem.W.mg_of X G zg_KINDS_AT_MOST⟩,⟨_,PySem.W.mg_of X G zg_LOAD⟩,⟨_,PySem.W.mg_of X G zg_MOST⟩,⟨_,PySem.W.mg_of X G zg_WEIGHT⟩,⟨_,PySem.W.mg_of X G zg_WORTH⟩⟩
 refine ⟨PySem.W.fnOf "law" "law" (qF wJ) (qz wJ) (qd wJ) .none kV30 dc30 pm30 an30 cd30 ct30,fun s v => .of_eq rfl,fun base hB _ => ?_⟩
 have XTt:XT K mg RN TN:=⟨xz,qhL X G⟩
 have C__law_marks:=q0 (P:=l.prog) (w:=w) (base:=base) (zj (st:=z7) l0 c0 k0) (PySem.W.mg_of X G a0) T XTt hB
 have C_best_beside:=q1 (P:=l.prog) (w:=w) (base:=base) (zj (st:=zM) l1 c1 k1) (PySem.W.mg_of X G a1) T XTt hB
 have C_all_loads:=q2 (P:=l.prog) (w:=w) (base:=base) (zj (st:=jm) l2 c2 k2) (PySem.W.mg_of X G a2) T XTt hB
 have C_taken_together:=q3 (P:=l.prog) (w:=w) (base:=base) (zj (st:=za) l3 c3 k3) (PySem.W.mg_of X G a3) T XTt hB
 have C_all_weighed:=q4 (P:=l.prog) (w:=w) (base:=base) (zj (st:=zN) l4 c4 k4) (PySem.W.mg_of X G a4) T XTt hB C_all_loads C_taken_together
 have C_first_half:=q5 (P:=l.prog) (w:=w) (base:=base) (zj (st:=jq) l5 c5 k5) (PySem.W.mg_of X G a5) T XTt hB
 have C_second_half:=q6 (P:=l.prog) (w:=w) (base:=base) (zj (st:=je) l6 c6 k6) (PySem.W.mg_of X G a6) T XTt hB
 have C_beating_order:=q7 (P:=l.prog) (w:=w) (base:=base) (zj (st:=zF) l7 c7 k7) (PySem.W.mg_of X G a7) T XTt hB
 have C_not_beaten:=q8 (P:=l.prog) (w:=w) (base:=base) (zj (st:=jr) l8 c8 k8) (PySem.W.mg_of X G a8) T XTt hB C_beating_order C_all_weighed
 have C_need_single:=q9 (P:=l.prog) (w:=w) (base:=base) (zj (st:=zp) l9 c9 k9) (PySem.W.mg_of X G a9) T XTt hB
 have C_is_whole:=q10 (P:=l.prog) (w:=w) (base:=base) (zj (st:=yq) l10 c10 k10) (PySem.W.mg_of X G a10) T XTt hB
 have C_is_count:=q11 (P:=l.prog) (w:=w) (base:=base) (zj (st:=yr) l11 c11 k11) (PySem.W.mg_of X G a11) T XTt hB C_is_whole
 have C_is_kind:=q12 (P:=l.prog) (w:=w) (base:=base) (zj (st:=uh) l12 c12 k12) (PySem.W.mg_of X G a12) T XTt hB C_is_count
 have C_is_store:=q13 (P:=l.prog) (w:=w) (base:=base) (zj (st:=jP) l13 c13 k13) (PySem.W.mg_of X G a13) T XTt hB C_is_kind
 have C_need_store:=q14 (P:=l.prog) (w:=w) (base:=base) (zj (st:=z8) l14 c14 k14) (PySem.W.mg_of X G a14) T XTt hB C_is_store
 have C_half_loads:=q15 (P:=l.prog) (w:=w) (base:=base) (zj (st:=z9) l15 c15 k15) (PySem.W.mg_of X G a15) T XTt hB C_not_beaten C_second_half C_first_half C_need_single C_need_store
 have C_need_count:=q16 (P:=l.prog) (w:=w) (base:=base) (zj (st:=ja) l16 c16 k16) (PySem.W.mg_of X G a16) T XTt hB C_is_count
 have C_met_worth:=q17 (P:=l.prog) (w:=w) (base:=base) (zj (st:=jb) l17 c17 k17) (PySem.W.mg_of X G a17) T XTt hB C_best_beside C_half_loads C_need_count C_need_store
 have C_met_load:=q18 (P:=l.prog) (w:=w) (base:=base) (zj (st:=zi) l18 c18 k18) (PySem.W.mg_of X G a18) T XTt hB C_best_beside C_all_weighed C_first_half C_second_half C_met_worth
 have C__law_said:=q19 (P:=l.prog) (w:=w) (base:=base) (zj (st:=jQ) l19 c19 k19) (PySem.W.mg_of X G a19) T XTt hB C__law_marks C_met_load C_met_worth
 have C__law_take:=q20 (P:=l.prog) (w:=w) (base:=base) (zj (st:=jR) l20 c20 k20) (PySem.W.mg_of X G a20) T XTt hB
 have C__law_sum:=q21 (P:=l.prog) (w:=w) (base:=base) (zj (st:=yt) l21 c21 k21) (PySem.W.mg_of X G a21) T XTt hB
 have C__law_all_loads:=q22 (P:=l.prog) (w:=w) (base:=base) (zj (st:=qO) l22 c22 k22) (PySem.W.mg_of X G a22) T XTt hB
 have C__law_best_of:=q23 (P:=l.prog) (w:=w) (base:=base) (zj (st:=zf) l23 c23 k23) (PySem.W.mg_of X G a23) T XTt hB C__law_sum C__law_all_loads
 have C__law_kind_of:=q24 (P:=l.prog) (w:=w) (base:=base) (zj (st:=zU) l24 c24 k24) (PySem.W.mg_of X G a24) T XTt hB C__law_take
 have C__law_stocked:=q25 (P:=l.prog) (w:=w) (base:=base) (zj (st:=zV) l25 c25 k25) (PySem.W.mg_of X G a25) T XTt hB C__law_take C__law_kind_of
 have C__law_single_ones:=q26 (P:=l.prog) (w:=w) (base:=base) (zj (st:=qY) l26 c26 k26) (PySem.W.mg_of X G a26) T XTt hB C__law_stocked C__law_take
 have C__law_mix:=q27 (P:=l.prog) (w:=w) (base:=base) (zj (st:=yu) l27 c27 k27) (PySem.W.mg_of X G a27) T XTt hB
 have C__law_cell:=q28 (P:=l.prog) (w:=w) (base:=base) (zj (st:=jS) l28 c28 k28) (PySem.W.mg_of X G a28) T XTt hB
 have C__law_box:=q29 (P:=l.prog) (w:=w) (base:=base) (zj (st:=yw) l29 c29 k29) (PySem.W.mg_of X G a29) T XTt hB C__law_mix C__law_cell
 exact qmP (P:=l.prog) (w:=w) (base:=base) (zj (st:=wJ) l30 c30 k30) T XTt hB C__law_said C__law_take C__law_best_of C__law_sum C__law_single_ones C__law_box
theorem qnX {K:Fr0} {H:Hp} {a:Addr} {ns:List Int} (hO:qmR H) (hS:SqL K H a (ns.map V.int)):qlC K H a (ns.map V.int):=by
 rcases hS with (h | h) | h
 ·rcases hO a with z | z
  ·rw [h] at z;cases z
  ·rcases z with ⟨_,_,z⟩ | ⟨_,_,z⟩<;>(rw [h] at z;cases z)
 ·exact .inl h
 ·exact .inr h
theorem walk {l:PySem.W.OpenLaw} {q:Program} {loose:List Str} {XP:(Str->Option Value)->Heap->Prop} {YP:World->Heap->Prop} {d:DefRec} {K:Params->PySem.W.Frag} (hn:l.most=some 63) (hdf:d.params.defaults=[])
  (hY:∀ (w:World) (h:Heap),YP w h->(K w.params).In h) (hlm:∀ (w:World) (mean:ExcName->Option Value) (mg mb:Str->Option Value) (h:Heap) (c Pt:Addr) (pos:Pos),Top q (PySem.W.looseW q loose) mean mg mb h->(K w.params).In h->lamOf (K w.params)=some (c,Pt,pos)->PySem.W.CodeHd h c Pt/\h.get? Pt=some (PySem.W.tabObj #[])/\(K w.params).lookup Pt=none) (hlaw:∀ ns:List Int,ns.length<=63->qdv [.fz ns] = .ok (.bl true))
  (F:∀ (w:World) (mg:Str->Option Value) (fa:Addr) (h:Heap),(K w.params).In h->h.Ns mainGlobals mg->mg d.name=some (.ref fa) ->
   ∃ fd:FuncData,(∀ (s:Shared) (u:Value),BindsTo s fd ⟨[u],[]⟩ [("script",u)])/\∀ base:Heap,(K w.params).In base->base.Ns mainGlobals mg->u7 l.prog w (K w.params) mg base CX0 10 fa fd ["script"] (spD (K w.params) qdv)) :
  PySem.W.WalkO q loose XP YP l.row.toRowW d [] (fun f vs=>PySem.call f vs) :=
 L2.walk_lam (n:=63) (k:=10) (x:="script") (CX:=fun _=>CX0) (sp:=fun w=>spD (K w.params) qdv) (lm:=fun w=>(lamOf (K w.params)).map fun z=>(z.1,z.2.1,z.2.2,qnr)) hn (by decide) hdf ⟨rfl,by decide,by decide,rfl⟩ hY (fun w mean mg mb h c Pt pos z T X e=>by
  cases el:lamOf (K w.params) with
  | none=>rw [el] at e;cases e
  | some p=>obtain ⟨c',P',pos'⟩:=p;rw [el] at e;cases e;exact hlm w mean mg mb h _ _ _ T X el) F (fun w H a ns hl hO hT hS=>by
  refine ⟨[.fz ns],fun _=>False,⟨.ref a,[],rfl,⟨a,rfl,qnX hO hS⟩,rfl⟩,fun c P pos e=>⟨hT c P pos qnr (by rw [e];rfl),fun z=>z⟩,?_⟩
  rw [hlaw ns hl]
  exact fun v H' _ h=>h) fun _ _ _ _ _ z=>z
end Law
end L2.Sk
open PySem PySem.W PyProof.Rows
set_option maxRecDepth 100000 in
set_option maxHeartbeats 0 in
theorem PySem.Challenge.cw_sackloads_k17_met_in_the_middle_holds : PySem.Challenge.rw_sackloads_k17_met_in_the_middle.Holds := by
 w_on;o_law;k_head;(case hw=>w_witness2)
 k_fill
 refine L2.Sk.Law.walk (l:=PySem.Challenge.rw_sackloads_k17_met_in_the_middle) rfl rfl (fun w h Y=>by first | exact PySem.W.kIn_of Y | exact PySem.W.km_in_of Y) ?hlm0 L2.Sk.Law.law_true ?F
 case hlm0 =>
  intro w mean mg mb h c Pt pos T X e
  exact absurd ((show L2.Sk.lamOf _=none by kernel_rfl).symm.trans e) (by simp)
 case F =>
  intro w mg fa h KX G hmg
  refine' L2.Sk.Law.all_mk KX G hmg ?a0 ?l0 ?c0 ?k0 ?a1 ?l1 ?c1 ?k1 ?a2 ?l2 ?c2 ?k2 ?a3 ?l3 ?c3 ?k3 ?a4 ?l4 ?c4 ?k4 ?a5 ?l5 ?c5 ?k5 ?a6 ?l6 ?c6 ?k6 ?a7 ?l7 ?c7 ?k7 ?a8 ?l8 ?c8 ?k8 ?a9 ?l9 ?c9 ?k9 ?a10 ?l10 ?c10 ?k10 ?a11 ?l11 ?c11 ?k11 ?a12 ?l12 ?c12 ?k12 ?a13 ?l13 ?c13 ?k13 ?a14 ?l14 ?c14 ?k14 ?a15 ?l15 ?c15 ?k15 ?a16 ?l16 ?c16 ?k16 ?a17 ?l17 ?c17 ?k17 ?a18 ?l18 ?c18 ?k18 ?a19 ?l19 ?c19 ?k19 ?a20 ?l20 ?c20 ?k20 ?a21 ?l21 ?c21 ?k21 ?a22 ?l22 ?c22 ?k22 ?a23 ?l23 ?c23 ?k23 ?a24 ?l24 ?c24 ?k24 ?a25 ?l25 ?c25 ?k25 ?a26 ?l26 ?c26 ?k26 ?a27 ?l27 ?c27 ?k27 ?a28 ?l28 ?c28 ?k28 ?a29 ?l29 ?c29 ?k29 ?a30 ?l30 ?c30 ?k30 ?zb_ValueError ?zb_abs ?zb_all ?zb_bool ?zb_divmod ?zb_int ?zb_isinstance ?zb_len ?zb_max ?zb_min ?zb_range ?zb_repr ?zb_sorted ?zb_sum ?zb_tuple ?zb_zip ?xz ?zg_KINDS_AT_MOST ?zg_LOAD ?zg_MOST ?zg_WEIGHT ?zg_WORTH
  (case a0=>k_is)
  (case l0=>k_is)
  (case c0=>k_is)
  (case k0=>k_is)
  (case a1=>k_is)
  (case l1=>k_is)
  (case c1=>k_is)
  (case k1=>k_is)
  (case a2=>k_is)
  (case l2=>k_is)
  (case c2=>k_is)
  (case k2=>k_is)
  (case a3=>k_is)
  (case l3=>k_is)
  (case c3=>k_is)
  (case k3=>k_is)
  (case a4=>k_is)
  (case l4=>k_is)
  (case c4=>k_is)
  (case k4=>k_is)
  (case a5=>k_is)
  (case l5=>k_is)
  (case c5=>k_is)
  (case k5=>k_is)
  (case a6=>k_is)
  (case l6=>k_is)
  (case c6=>k_is)
  (case k6=>k_is)
  (case a7=>k_is)
  (case l7=>k_is)
  (case c7=>k_is)
  (case k7=>k_is)
  (case a8=>k_is)
  (case l8=>k_is)
  (case c8=>k_is)
  (case k8=>k_is)
  (case a9=>k_is)
  (case l9=>k_is)
  (case c9=>k_is)
  (case k9=>k_is)
  (case a10=>k_is)
  (case l10=>k_is)
  (case c10=>k_is)
  (case k10=>k_is)
  (case a11=>k_is)
  (case l11=>k_is)
  (case c11=>k_is)
  (case k11=>k_is)
  (case a12=>k_is)
  (case l12=>k_is)
  (case c12=>k_is)
  (case k12=>k_is)
  (case a13=>k_is)
  (case l13=>k_is)
  (case c13=>k_is)
  (case k13=>k_is)
  (case a14=>k_is)
  (case l14=>k_is)
  (case c14=>k_is)
  (case k14=>k_is)
  (case a15=>k_is)
  (case l15=>k_is)
  (case c15=>k_is)
  (case k15=>k_is)
  (case a16=>k_is)
  (case l16=>k_is)
  (case c16=>k_is)
  (case k16=>k_is)
  (case a17=>k_is)
  (case l17=>k_is)
  (case c17=>k_is)
  (case k17=>k_is)
  (case a18=>k_is)
  (case l18=>k_is)
  (case c18=>k_is)
  (case k18=>k_is)
  (case a19=>k_is)
  (case l19=>k_is)
  (case c19=>k_is)
  (case k19=>k_is)
  (case a20=>k_is)
  (case l20=>k_is)
  (case c20=>k_is)
  (case k20=>k_is)
  (case a21=>k_is)
  (case l21=>k_is)
  (case c21=>k_is)
  (case k21=>k_is)
  (case a22=>k_is)
  (case l22=>k_is)
  (case c22=>k_is)
  (case k22=>k_is)
  (case a23=>k_is)
  (case l23=>k_is)
  (case c23=>k_is)
  (case k23=>k_is)
  (case a24=>k_is)
  (case l24=>k_is)
  (case c24=>k_is)
  (case k24=>k_is)
  (case a25=>k_is)
  (case l25=>k_is)
  (case c25=>k_is)
  (case k25=>k_is)
  (case a26=>k_is)
  (case l26=>k_is)
  (case c26=>k_is)
  (case k26=>k_is)
  (case a27=>k_is)
  (case l27=>k_is)
  (case c27=>k_is)
  (case k27=>k_is)
  (case a28=>k_is)
  (case l28=>k_is)
  (case c28=>k_is)
  (case k28=>k_is)
  (case a29=>k_is)
  (case l29=>k_is)
  (case c29=>k_is)
  (case k29=>k_is)
  (case a30=>k_is)
  (case l30=>k_is)
  (case c30=>k_is)
  (case k30=>k_is)
  (case zb_ValueError=>k_is)
  (case zb_abs=>k_is)
  (case zb_all=>k_is)
  (case zb_bool=>k_is)
  (case zb_divmod=>k_is)
  (case zb_int=>k_is)
  (case zb_isinstance=>k_is)
  (case zb_len=>k_is)
  (case zb_max=>k_is)
  (case zb_min=>k_is)
  (case zb_range=>k_is)
  (case zb_repr=>k_is)
  (case zb_sorted=>k_is)
  (case zb_sum=>k_is)
  (case zb_tuple=>k_is)
  (case zb_zip=>k_is)
  (case xz=>kernel_rfl)
  (case zg_KINDS_AT_MOST=>k_is)
  (case zg_LOAD=>k_is)
  (case zg_MOST=>k_is)
  (case zg_WEIGHT=>k_is)
  (case zg_WORTH=>k_is)
