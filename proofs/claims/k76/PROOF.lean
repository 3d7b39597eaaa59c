import PyProof.Rows.All
import Wide.All
import OpenK.AllK
import Wide.FinOn
import Lean
import PyProof.EqAt
import PyProof.EqKinds
import PyProof.TupleCall
import KE.KUnpack
import PySem.Challenge.RW_sackloads_k76_whole_stores_changed
def PySem.W.Fast.tw13670299768236475520 : Nat := 0
def PySem.W.Fast.tw3402945312867431117 : Nat := 0
def PySem.W.Fast.tw13741653924657972847 : Nat := 0
def PySem.W.Fast.tw9033651870259835622 : Nat := 0
def PySem.W.Fast.tw4295909913164543026 : Nat := 0
def PySem.W.Fast.tw18392697289374086851 : Nat := 0
set_option linter.all false
set_option Elab.async false
set_option maxRecDepth 100000
open List renaming mem_cons_of_mem → mM_, mem_cons_self → mS_, getElem?_eq_getElem → gG, length_cons → lC_, length_map → lM_, length_append → lA_, getElem?_map → gM_, map_cons → mC_, mem_append → mA_, length_range → lR_, length_nil → lN_, size_toArray → sT_, mem_range → mR_, mem_map → mP_, map_map → mm_, replicate_succ → rS_, length_set → lS_, not_mem_nil → nN_, map_congr_left → mL_, append_assoc → aA_, getElem?_eq_some_iff → gI_, foldl_cons → fo_, mem_singleton → ms_, mem_append_right → mr_, filter_cons → ft_
namespace L2
open PySem PySem.Spec PyProof.Rows
abbrev Key:=Sum Int Str
def qmP:Key->Value->Bool
 | .inl k,v=>Value.isInt k v
 | .inr x,v=>Value.isStrOf x v
def qqu (w:World):Key->Int
 | .inl k=>hashInt k
 | .inr x=>hashStr w x
theorem zt:∀ {k:Key} {v:Value},qmP k v=true->(∃ i t,k=Sum.inl i/\v=Value.int i t)\/(∃ x t,k=Sum.inr x/\v=Value.str x t)
 | .inl i,v,h=>by
  obtain ⟨t,e⟩:=Value.isInt_shape (k:=i) (v:=v) h
  exact .inl ⟨i,t,rfl,e⟩
 | .inr x,v,h=>by
  obtain ⟨t,e⟩:=Value.isStrOf_shape (x:=x) (v:=v) h
  exact .inr ⟨x,t,rfl,e⟩
theorem qmQ (a b:Int):decide ((Sum.inl a:Key)=Sum.inl b)=(a==b):=by
 by_cases e:a=b
 ·subst e;simp
 ·have h:¬ (Sum.inl a:Key)=Sum.inl b:=fun q=>e (Sum.inl.inj q)
  rw [decide_eq_false h]
  exact (beq_eq_false_iff_ne.mpr e).symm
theorem qmR (a b:Str):decide ((Sum.inr a:Key)=Sum.inr b)=decide (a=b):=by
 by_cases e:a=b
 ·subst e;simp
 ·have h:¬ (Sum.inr a:Key)=Sum.inr b:=fun q=>e (Sum.inr.inj q)
  rw [decide_eq_false h,decide_eq_false e]
theorem qmS (a:Int) (b:Str):decide ((Sum.inl a:Key)=Sum.inr b)=false:=decide_eq_false (fun q=>nomatch q)
theorem qmT (a:Str) (b:Int):decide ((Sum.inr a:Key)=Sum.inl b)=false:=decide_eq_false (fun q=>nomatch q)
def qcY (prog:Program) (w:World):PySem.KeyKind prog w Key where
 is:=qmP
 hash:=qqu w
 inj:=fun v a b ha hb=>by
  rcases zt ha with ⟨i,t,rfl,rfl⟩ | ⟨x,t,rfl,rfl⟩
  ·rcases zt hb with ⟨j,u,rfl,e⟩ | ⟨y,u,rfl,e⟩
   ·injection e with e1 _;rw [e1]
   ·exact nomatch e
  ·rcases zt hb with ⟨j,u,rfl,e⟩ | ⟨y,u,rfl,e⟩
   ·exact nomatch e
   ·injection e with e1 _;rw [e1]
 byValue:=fun k v h=>by
  rcases zt h with ⟨i,t,rfl,rfl⟩ | ⟨x,t,rfl,rfl⟩<;>rfl
 pyHash:=fun hv h=>by
  rcases zt hv with ⟨i,t,rfl,rfl⟩ | ⟨x,t,rfl,rfl⟩
  ·exact wpAny_pyHash_int h
  ·exact wpAny_pyHash_str h
 eqBool:=fun hu hv h=>by
  rcases zt hu with ⟨i,t,rfl,rfl⟩ | ⟨x,t,rfl,rfl⟩
  ·rcases zt hv with ⟨j,u,rfl,rfl⟩ | ⟨y,u,rfl,rfl⟩
   ·rw [qmQ] at h;exact wpAny_eqBool_int h
   ·rw [qmS] at h;exact SeqAt.EqAt.int_str i t y u _ _ _ _ h
  ·rcases zt hv with ⟨j,u,rfl,rfl⟩ | ⟨y,u,rfl,rfl⟩
   ·rw [qmT] at h;exact SeqAt.EqAt.str_int x t j u _ _ _ _ h
   ·rw [qmR] at h;exact wpAny_eqBool_str h
 «strs»:=fun k x t v h=>by
  rcases zt h with ⟨i,u,rfl,e⟩ | ⟨y,u,rfl,e⟩
  ·exact nomatch e
  ·injection e with e1 _
   subst e1
   cases v<;>rfl
end L2
namespace L2
open PySem PySem.Spec PyProof.Rows
inductive V where
 | non | bl (b:Bool) | int (i:Int) | str (x:Str) | byt (b:Array UInt8) | flt (b:UInt64) | ref (a:Addr) | ty (n:String)
 deriving DecidableEq
def jI:V->Value->Prop
 | .non,u=>u=Value.none
 | .bl b,u=>u=Value.bool b
 | .int i,u=>∃ t,u=Value.int i t
 | .str x,u=>∃ t,u=Value.str x t
 | .byt b,u=>∃ t,u=Value.bytes b t
 | .flt b,u=>∃ t,u=Value.float b t
 | .ref a,u=>u=Value.ref a
 | .ty n,u=>u=Value.type n
abbrev zd:List V->List Value->Prop:=Paired jI
theorem zd.length {xs:List V} {us:List Value} (r:zd xs us):xs.length=us.length:=Paired.length r
theorem zd.get:∀ {xs:List V} {us:List Value} {i:Nat} {x:V},zd xs us->xs[i]? = some x->∃ u,us[i]? = some u/\jI x u
 | _,_,_,_,.nil,e=>by simp at e
 | _,_,0,_,.cons r _,e=>by simp at e;subst e;exact ⟨_,rfl,r⟩
 | _,_,i+1,x,.cons _ t,e=>by
  obtain ⟨u,h1,h2⟩:=zd.get (i:=i) (x:=x) t (by simpa using e)
  exact ⟨u,by simpa using h1,h2⟩
theorem zd.set {x:V} {u:Value} (r:jI x u):∀ {xs:List V} {us:List Value} (i:Nat),zd xs us->zd (xs.set i x) (us.set i u)
 | _,_,_,.nil => .nil
 | _,_,0,.cons _ t => .cons r t
 | _,_,i+1,.cons q t => .cons q (zd.set r i t)
theorem zd.append:∀ {xs ys:List V} {us ws:List Value},zd xs us->zd ys ws->zd (xs++ys) (us++ws)
 | _,_,_,_,.nil,s=>s
 | _,_,_,_,.cons r t,s => .cons r (zd.append t s)
theorem zd.take:∀ {xs:List V} {us:List Value} (n:Nat),zd xs us->zd (xs.take n) (us.take n)
 | _,_,0,_ => .nil
 | _,_,_+1,.nil => .nil
 | _,_,n+1,.cons r t => .cons r (zd.take n t)
theorem zd.drop:∀ {xs:List V} {us:List Value} (n:Nat),zd xs us->zd (xs.drop n) (us.drop n)
 | _,_,0,r=>r
 | _,_,_+1,.nil => .nil
 | _,_,n+1,.cons _ t=>zd.drop n t
def qo1:Option V->Option Value->Prop
 | some v,some u=>jI v u
 | none,none=>True
 | _,_=>False
def KV {κ:Type}:List (κ×V)->List (κ×Value)->Prop:=Paired fun (p:κ×V) (q:κ×Value)=>p.1=q.1/\jI p.2 q.2
def kV:Key->V
 | .inl i => .int i
 | .inr x => .str x
inductive HO where
 /-- a list -/
 | lst (xs:List V)
 /-- a tuple (never changes) -/
 | tup (xs:List V)
 /-- a dict whose keys are ints and texts;one whose keys are tuples of ints and texts (the empty one is both) -/
 | dK (kvs:List (Key×V)) | dT (kvs:List (List Key×V))
 /-- a set of ints: its members,its size -/
 | set (S:Int->Bool) (n:Nat)
 /-- an instance of the class at C,its dict at dx,its attributes -/
 | ins (C dx:Addr) (fs:List (Str×V))
 /-- the dict of the instance at x -/
 | own (x:Addr)
 /-- the dict of an exception -/
 | xd (fs:List (Str×V))
 /-- a bound method,f of x -/
 | met (f x:Addr)
 /-- a range object lo,lo+1,.. below hi -/
 | rng (lo hi:Int)
 /-- a thing that is known to the object (the script;a dict while a loop walks it): read,never written while it is so -/
 | frz (o:Obj) (u:HO)
 /-- a code object's table -/
 | tbl (ps:Array Value)
 /-- any other thing,by what is true of its one object (a def of one's own: SetO a S n:=HO.ext fun h => ..) -/
 | ext (φ:Heap->Prop)
 /-- the table of a code object in which at most one lambda's code stands -/
 | lam (pos:Pos) (q:Str)
abbrev Hp:=Addr->Option HO
def upd (H:Hp) (a:Addr) (o:HO):Hp:=fun b=>if b=a then some o else H b
theorem qt {H:Hp} {a:Addr} {o:HO}:upd H a o a=some o:=by unfold upd;rw [if_pos rfl]
theorem qu {H:Hp} {a b:Addr} {o:HO} (h:b≠a):upd H a o b=H b:=by unfold upd;rw [if_neg h]
theorem w8 {H:Hp} {a b:Addr} {o u:HO} (h:H a=some o) (h':H b=some u) (d:o≠u):a≠b:=by
 intro e;subst e;rw [h] at h';exact d (Option.some.inj h')
theorem qH {H:Hp} {a b:Addr} {o:HO} (h:H a=some o) (h':H b=none):a≠b:=by
 intro e;subst e;rw [h] at h';cases h'
section
variable (P:Program) (w:World)
def uc (H:Hp) (h:Heap) (a:Addr):HO->Prop
 | .lst xs=>xs.length<=sizeLine/\∃ (its:List Value) (n:Nat),zd xs its/\h.get? a=some { cls := .type "list",data := .seq its.toArray n }
 | .tup xs=>xs.length<=sizeLine/\∃ its:List Value,zd xs its/\IsTup h a its.toArray
 | .dK kvs=>kvs.length<=sizeLine/\(a==sysModules)=false/\∃ vs,KV kvs vs/\h.DictOf (qcY P w) a vs
 | .dT kvs=>kvs.length<=sizeLine/\(a==sysModules)=false/\∃ xs:List (List Key×Addr×Value),
   Paired (fun (p:List Key×V) (q:List Key×Addr×Value)=>p.1=q.1/\H q.2.1=some (.tup (p.1.map kV))/\jI p.2 q.2.2) kvs xs /\
   ∃ o es ep,h.get? a=some o/\o.ExactDict/\o.data = .dict es ep/\es.toList=xs.map (entryOfKey (tupleKind (qcY P w)))/\(xs.map (·.1)).Nodup
 | .set S n=>h.SetOf (intKind P w) a S n
 | .ins C dx fs=>H dx=some (.own a)/\fs.length<=1000/\dx≠a/\h.get? a=some (PySem.W.instObj C dx) /\
   ∃ mA,h.Ns1 dx mA/\(∀ f,qo1 (fs.lookup f) (mA f))/\PySem.Within mA (fs.map (·.1))
 | .own _=>∃ o,h.get? a=some o
 | .xd fs=>∃ mA,h.Ns1 a mA/\∀ f,qo1 (fs.lookup f) (mA f)
 | .rng lo hi=>∃ t u v,h.get? a=some { cls := .type "range",data := .fields #[.int lo t,.int hi u,.int 1 v] }
 | .frz o u=>h.get? a=some o/\uc H h a u
 | .tbl ps=>h.get? a=some { cls := .none,data := .fields ps }
 | .met f x=>h.get? a=some (PySem.W.methodObj (.ref f) (.ref x))
 | .lam pos q=>h.get? a=some { cls := .none,data := .fields #[] }\/∃ (c:Addr) (oc:Obj) (vs:Array Value) (t:Tok),H c=some (.frz oc (.own c))/\oc.data = .fields vs/\vs[1]? = some (.str q t) /\
   h.get? a=some { cls := .none,data := .fields #[rawInt pos.line,rawInt pos.col,.ref c] }
 | .ext φ=>φ h/\(∃ o,h.get? a=some o)/\∀ h1 h2:Heap,φ h1->(∀ o,h1.get? a=some o->h2.get? a=some o)->φ h2
def HOk (H:Hp) (h:Heap):Prop:=∀ a o,H a=some o->uc P w H h a o
end
section
variable {P:Program} {w:World} {H H':Hp} {h h':Heap} {a:Addr} {o:HO}
theorem uc.lt (x:uc P w H h a o):a<h.objs.size:=by
 cases o with
 | lst xs=>obtain ⟨_,_,_,_,e⟩:=x;exact Heap.lt_size e
 | tup xs=>obtain ⟨_,_,_,p⟩:=x;exact p.lt
 | dK kvs=>obtain ⟨_,_,_,_,o,_,_,e,_⟩:=x;exact Heap.lt_size e
 | dT kvs=>obtain ⟨_,_,_,_,o,_,_,e,_⟩:=x;exact Heap.lt_size e
 | set S n=>obtain ⟨o,_,_,_,e,_⟩:=x;exact Heap.lt_size e
 | ins C dx fs=>obtain ⟨_,_,_,e,_⟩:=x;exact Heap.lt_size e
 | own y=>obtain ⟨_,e⟩:=x;exact Heap.lt_size e
 | xd fs=>obtain ⟨_,⟨_,_,_,e,_⟩,_⟩:=x;exact Heap.lt_size e
 | rng lo hi=>obtain ⟨_,_,_,e⟩:=x;exact Heap.lt_size e
 | frz ob u=>obtain ⟨e,_⟩:=x;exact Heap.lt_size e
 | tbl ps=>exact Heap.lt_size (show h.get? a=some _ from x)
 | met f y=>exact Heap.lt_size (show h.get? a=some _ from x)
 | ext φ=>obtain ⟨_,⟨_,e⟩,_⟩:=x;exact Heap.lt_size e
 | lam pos q =>
  rcases x with e | ⟨_,_,_,_,_,_,_,e⟩
  ·exact Heap.lt_size e
  ·exact Heap.lt_size e
theorem Paired.mapP {α β:Type} {F G:α->β->Prop}:∀ {lK:List α} {lQ:List β},Paired F lK lQ->(∀ a b,F a b->G a b)->Paired G lK lQ
 | _,_,.nil,_ => .nil
 | _,_,.cons r t,f => .cons (f _ _ r) (Paired.mapP t f)
theorem uc.stay (x:uc P w H h a o) (k:∀ b u,(b=a\/H b=some (.own a))->h.get? b=some u->h'.get? b=some u)
  (ho:∀ b,H b=some (.own a)->H' b=some (.own a)) (ht:∀ b xs,H b=some (.tup xs)->H' b=some (.tup xs)) (hz:∀ b ob u,H b=some (.frz ob u)->H' b=some (.frz ob u):=by exact fun _ _ _ q=>q):uc P w H' h' a o:=by
 induction o with
 | lst xs=>obtain ⟨z,its,n,r,e⟩:=x;exact ⟨z,its,n,r,k _ _ (.inl rfl) e⟩
 | tup xs=>obtain ⟨z,its,r,ob,e,c⟩:=x;exact ⟨z,its,r,ob,k _ _ (.inl rfl) e,c⟩
 | dK kvs=>obtain ⟨z,y,vs,r,ob,es,ep,e,c⟩:=x;exact ⟨z,y,vs,r,ob,es,ep,k _ _ (.inl rfl) e,c⟩
 | dT kvs =>
  obtain ⟨z,y,xs,r,ob,es,ep,e,c⟩:=x
  exact ⟨z,y,xs,Paired.mapP r fun p q z=>⟨z.1,ht _ _ z.2.1,z.2.2⟩,ob,es,ep,k _ _ (.inl rfl) e,c⟩
 | set S n=>obtain ⟨ob,es,ep,t,e,c⟩:=x;exact ⟨ob,es,ep,t,k _ _ (.inl rfl) e,c⟩
 | ins C dx fs =>
  obtain ⟨d,z,ne,e,mA,⟨od,es,ep,e2,c⟩,r⟩:=x
  exact ⟨ho _ d,z,ne,k _ _ (.inl rfl) e,mA,⟨od,es,ep,k _ _ (.inr d) e2,c⟩,r⟩
 | own y=>obtain ⟨ob,e⟩:=x;exact ⟨ob,k _ _ (.inl rfl) e⟩
 | xd fs=>obtain ⟨mA,⟨od,es,ep,e,c⟩,r⟩:=x;exact ⟨mA,⟨od,es,ep,k _ _ (.inl rfl) e,c⟩,r⟩
 | rng lo hi=>obtain ⟨t,u,v,e⟩:=x;exact ⟨t,u,v,k _ _ (.inl rfl) e⟩
 | frz ob u ih=>obtain ⟨e,q⟩:=x;exact ⟨k _ _ (.inl rfl) e,ih q⟩
 | tbl ps =>
  have e:h.get? a=some { cls := .none,data := .fields ps }:=x
  show h'.get? a=some { cls := .none,data := .fields ps }
  exact k a _ (.inl rfl) e
 | met f y =>
  have e:h.get? a=some (PySem.W.methodObj (.ref f) (.ref y)):=x
  show h'.get? a=some (PySem.W.methodObj (.ref f) (.ref y))
  exact k a _ (.inl rfl) e
 | ext φ=>obtain ⟨p,⟨o,e⟩,st⟩:=x;exact ⟨st _ _ p fun o q=>k _ _ (.inl rfl) q,⟨o,k _ _ (.inl rfl) e⟩,st⟩
 | lam pos q =>
  rcases x with e | ⟨c,oc,vs,t,h1,h2,h3,e⟩
  ·exact .inl (k _ _ (.inl rfl) e)
  ·exact .inr ⟨c,oc,vs,t,hz _ _ _ h1,h2,h3,k _ _ (.inl rfl) e⟩
theorem HOk.lt (x:HOk P w H h) (e:H a=some o):a<h.objs.size:=(x a o e).lt
theorem HOk.fresh (x:HOk P w H h) (e:h.objs.size<=a):H a=none:=by
 cases q:H a with
 | none=>rfl
 | some u=>exact absurd (Nat.lt_of_lt_of_le (x.lt q) e) (Nat.lt_irrefl _)
theorem HOk.kept (x:HOk P w H h) (k:∀ b u,h.get? b=some u->h'.get? b=some u):HOk P w H h':=fun a o e =>
 (x a o e).stay (fun b u _ q=>k b u q) (fun _ q=>q) fun _ _ q=>q
theorem HOk.laid (x:HOk P w H h) (k:∀ b u,h.get? b=some u->h'.get? b=some u) (hp:h.objs.size<=a) (new:uc P w (upd H a o) h' a o):HOk P w (upd H a o) h':=fun b u e=>by
 have hn:=x.fresh hp
 by_cases hb:b=a
 ·subst hb;rw [qt] at e;cases e;exact new
 ·rw [qu hb] at e
  exact (x b u e).stay (fun c v _ q=>k c v q) (fun c q=>by rw [qu (qH q hn)];exact q) (fun c xs q=>by rw [qu (qH q hn)];exact q) fun c ob z q=>by rw [qu (qH q hn)];exact q
end
def Rd (H:Hp) (a:Addr) (u:HO):Prop:=H a=some u\/∃ o,H a=some (.frz o u)
theorem Rd.ok {P:Program} {w:World} {H:Hp} {h:Heap} {a:Addr} {u:HO} (r:Rd H a u) (x:HOk P w H h):uc P w H h a u:=by
 rcases r with r | ⟨o,r⟩
 ·exact x a u r
 ·obtain ⟨_,q⟩:=x a _ r
  exact q
def Mut:Option HO->Prop
 | some (.lst _)=>True
 | some (.dK _)=>True
 | some (.dT _)=>True
 | some (.set _ _)=>True
 | some (.ins _ _ _)=>True
 | some (.ext _)=>True
 | _=>False
section
variable {P:Program} {w:World} {H:Hp} {h h':Heap} {x e:Addr} {o':HO}
theorem HOk.write (ok:HOk P w H h) (mu:Mut (H x)) (he:e=x\/H e=some (.own x)) (k:∀ b u,b≠e->h.get? b=some u->h'.get? b=some u) (heo:∃ u,h'.get? e=some u)
  (new:uc P w (upd H x o') h' x o'):HOk P w (upd H x o') h':=fun b u q=>by
 have nown:∀ c y,H c=some (.own y)->c≠x:=fun c y r z=>by subst z;rw [r] at mu;exact mu
 have ntup:∀ c xs,H c=some (.tup xs)->c≠x:=fun c xs r z=>by subst z;rw [r] at mu;exact mu
 have nfrz:∀ c ob y,H c=some (.frz ob y)->c≠x:=fun c ob y r z=>by subst z;rw [r] at mu;exact mu
 by_cases hb:b=x
 ·subst hb;rw [qt] at q;cases q;exact new
 ·rw [qu hb] at q
  by_cases hbe:b=e
  ·have q':H b=some (.own x):=by
    rcases he with z | z
    ·exact absurd (hbe.trans z) hb
    ·rw [hbe];exact z
   rw [q] at q';cases q'
   obtain ⟨v,hv⟩:=heo
   exact ⟨v,by rw [hbe];exact hv⟩
  ·refine (ok b u q).stay (fun c v hc r=>k c v ?_ r) (fun c r=>by rw [qu (nown c b r)];exact r) (fun c xs r=>by rw [qu (ntup c xs r)];exact r) fun c ob z r=>by rw [qu (nfrz c ob z r)];exact r
   rcases hc with rfl | hc
   ·exact hbe
   ·rintro rfl
    rcases he with z | z
    ·exact nown c b hc z
    ·rw [hc] at z;cases z;exact hb rfl
end
structure Un (fs ex:List Addr) (H H':Hp) (h h':Heap):Prop where
 keep:∀ b o,h.get? b=some o->H b=none->b ∉ fs->b ∉ ex->h'.get? b=some o
 slot:∀ b o,h.get? b=some o->H b=none->b∈fs->b ∉ ex->∃ sl,h'.get? b=some { o with slots:=sl }
 free:∀ b o,h.get? b=some o->H b=none->b ∉ ex->H' b=none
 there:∀ b o,h.get? b=some o->b ∉ ex->∃ o',h'.get? b=some o'
 tups:∀ b xs,H b=some (.tup xs)->H' b=some (.tup xs)
 frzs:∀ b o u,H b=some (.frz o u)->H' b=some (.frz o u)
 tbls:∀ b pos q,H b=some (.lam pos q)->H' b=some (.lam pos q)
section
variable {fs fs' ex ex':List Addr} {H H1 H2:Hp} {h h1 h2 h':Heap} {a x e:Addr} {o:HO}
theorem Un.any (u:Un fs ex H H1 h h1) {b:Addr} {ob:Obj} (q:h.get? b=some ob) (n:H b=none) (hx:b ∉ ex):∃ sl,h1.get? b=some { ob with slots:=sl }:=by
 by_cases hb:b∈fs
 ·exact u.slot b ob q n hb hx
 ·exact ⟨ob.slots,u.keep b ob q n hb hx⟩
theorem Un.trans (a:Un fs ex H H1 h h1) (b:Un fs ex H1 H2 h1 h2):Un fs ex H H2 h h2 where
 keep:=fun c ob q n hc hx=>b.keep c ob (a.keep c ob q n hc hx) (a.free c ob q n hx) hc hx
 slot:=fun c ob q n hc hx=>by
  obtain ⟨sl,e1⟩:=a.slot c ob q n hc hx
  obtain ⟨sl',e2⟩:=b.slot c _ e1 (a.free c ob q n hx) hc hx
  exact ⟨sl',e2⟩
 free:=fun c ob q n hx=>by
  obtain ⟨o',e1⟩:=a.there c ob q hx
  exact b.free c o' e1 (a.free c ob q n hx) hx
 there:=fun c ob q hx=>by
  obtain ⟨o',e1⟩:=a.there c ob q hx
  exact b.there c o' e1 hx
 tups:=fun c xs q=>b.tups c xs (a.tups c xs q)
 frzs:=fun c ob xs q=>b.frzs c ob xs (a.frzs c ob xs q)
 tbls:=fun c ps x q=>b.tbls c ps x (a.tbls c ps x q)
theorem Un.kept (k:∀ b u,h.get? b=some u->h'.get? b=some u):Un fs ex H H h h' :=
 ⟨fun b ob q _ _ _=>k b ob q,fun b ob q _ _ _=>⟨ob.slots,k b ob q⟩,fun _ _ _ n _=>n,fun b ob q _=>⟨ob,k b ob q⟩,fun _ _ q=>q,fun _ _ _ q=>q,fun _ _ _ q=>q⟩
theorem Un.refl:Un fs ex H H h h:=Un.kept fun _ _ q=>q
theorem Un.laid (k:∀ b u,h.get? b=some u->h'.get? b=some u) (hp:h.objs.size<=a) (hn:H a=none):Un fs ex H (upd H a o) h h' where
 keep:=fun b u q _ _ _=>k b u q
 slot:=fun b u q _ _ _=>⟨u.slots,k b u q⟩
 free:=fun b u q n _=>by rw [qu (Nat.ne_of_lt (Nat.lt_of_lt_of_le (Heap.lt_size q) hp))];exact n
 there:=fun b u q _=>⟨u,k b u q⟩
 tups:=fun b xs q=>by rw [qu (qH q hn)];exact q
 frzs:=fun b u xs q=>by rw [qu (qH q hn)];exact q
 tbls:=fun b ps x q=>by rw [qu (qH q hn)];exact q
theorem Un.write (mu:Mut (H x)) (he:e=x\/H e=some (.own x)) (k:∀ b u,b≠e->h.get? b=some u->h'.get? b=some u) (heo:∃ u,h'.get? e=some u):Un fs ex H (upd H x o) h h':=by
 have hx:∀ b,H b=none->b≠x:=fun b n z=>by subst z;rw [n] at mu;exact mu
 have hb:∀ b,H b=none->b≠e:=fun b n z=>by
  subst z
  rcases he with r | r
  ·exact hx b n r
  ·rw [n] at r;cases r
 have hm:∀ b u,H b=some u->¬ Mut (some u)->b≠x:=fun b u q nm z=>by subst z;rw [q] at mu;exact nm mu
 refine ⟨fun b u q n _ _=>k b u (hb b n) q,fun b u q n _ _=>⟨u.slots,k b u (hb b n) q⟩,fun b u q n _=>by rw [qu (hx b n)];exact n,fun b u q _ => ?_,
  fun b xs q=>by rw [qu (hm b _ q fun z=>z)];exact q,fun b u xs q=>by rw [qu (hm b _ q fun z=>z)];exact q,fun b ps x q=>by rw [qu (hm b _ q fun z=>z)];exact q⟩
 by_cases hbe:b=e
 ·subst hbe;exact heo
 ·exact ⟨u,k b u hbe q⟩
end
def trk (h:Heap) (H:Hp):List Addr:=(List.range h.objs.size).filter fun a=>(H a).isSome
def qiN (h:Heap) (H:Hp):Heap:=PySem.W.hideAll h (trk h H)
theorem qgT (h:Heap) (H:Hp):(qiN h H).objs.size=h.objs.size:=PySem.W.hideAll_size _ _
theorem qiO {h:Heap} {H:Hp} {b:Addr} {o:Obj} (e:h.get? b=some o) (n:H b=none):(qiN h H).get? b=some o :=
 PySem.W.hideAll_get _ e fun hm=>by
  have q:(H b).isSome=true:=(List.mem_filter.mp hm).2
  rw [n] at q;simp at q
theorem qk0 {h:Heap} {H:Hp} {b:Addr} {o:Obj} (e:(qiN h H).get? b=some o):h.get? b=some o/\H b=none:=by
 have e':h.get? b=some o:=PySem.W.of_hideAll (trk h H) e
 refine ⟨e',?_⟩
 cases q:H b with
 | none=>rfl
 | some x =>
  have hm:b∈trk h H:=List.mem_filter.mpr ⟨mR_.mpr (Heap.lt_size e'),by simp [q]⟩
  have z:(qiN h H).get? b=none:=PySem.W.hideAll_none (trk h H) hm
  rw [z] at e;cases e
def qk1 (g h:Heap) (L:Addr):List (Addr×Obj):=(List.range h.objs.size).filterMap fun a=>if a=L\/(g.get? a).isSome=true then none else (h.get? a).map fun o=>(a,o)
def yK (g h:Heap) (L d:Addr):List (Addr×Obj):=(qk1 g h L).filter fun p=>decide (p.1≠d)
end L2
namespace L2
open PySem PySem.Spec PyProof.Rows
structure Mod (K:PySem.W.Frag) (mg:Str->Option Value) (base:Heap):Prop where
 kin:K.In base
 glob:base.Ns mainGlobals mg
 blt:∃ mb,base.Ns builtinsNs mb/\∀ x:Str,x≠"__name__"->mb x=bootBuiltins x
 nolimit:base.NoLimit
 bm:∃ bm ob,mg "__builtins__"=some (.ref bm)/\bm≠builtinsNs/\base.get? bm=some ob/\ob.cls = .type "module"/\ob.dict=some builtinsNs/\ob.data = .plain
structure Cx where
 prog:Program
 w:World
 K:PySem.W.Frag
 mg:Str->Option Value
 base:Heap
 A:Around
 N:List Str
 s₀:Shared
 H₀:Hp
 env:Env
 outer:List Env
 stack:List Env
 ex:List Addr
 fn:Str->Bool
 calm:Bool
 pn:List (Addr×Obj)
 xe:Value->Shared->Prop
def frs (l:List Env):List Addr:=l.filterMap (·.frame)
abbrev Cx.fs (X:Cx):List Addr:=frs X.outer
def Vis (sc:Scope) (x:Str):Prop:=sc.names.lookup x=some .local\/sc.names.lookup x=some .cell\/sc.names.lookup x=some .free
def Loc (sc:Scope) (x:Str):Prop:=sc.names.lookup x=some .local\/sc.names.lookup x=some .cell
def qqv (env:Env) (h:Heap) (m:Str->Option Value) (x:Str) (u:Value):Prop :=
 (env.kindOf x=some .local/\m x=some u)\/((env.kindOf x=some .cell\/env.kindOf x=some .free)/\∃ c,env.cells.lookup x=some c/\h.IsCell c (some u))
structure Cx.Ok (X:Cx):Prop where
 mod:Mod X.K X.mg X.base
 kind:X.env.scope.kind = .function
 glob:X.env.globals=mainGlobals
 blt:X.env.builtins=builtinsNs
 above:X.s₀.heap.objs.size<=X.env.locals
 inj:∀ x y c,X.env.cells.lookup x=some c->X.env.cells.lookup y=some c->x=y
 has:∀ x,(X.env.kindOf x=some .cell\/X.env.kindOf x=some .free)->∃ c,X.env.cells.lookup x=some c
 cab:∀ x c,X.fn x=true->X.env.cells.lookup x=some c->X.s₀.heap.objs.size<=c
 hd:X.calm=true->X.A.handled=none
 frames:X.A.frames=some X.stack
 stk:X.stack=X.outer\/(X.stack=X.env::X.outer/\X.env.frame=some X.env.locals)
 exf:∀ b∈X.ex,b≠X.env.locals/\∀ x c,X.env.cells.lookup x=some c->c≠b
 bs:∀ b o,X.base.get? b=some o->X.s₀.heap.get? b=some o/\X.H₀ b=none
 bsz:X.base.objs.size<=X.s₀.heap.objs.size
 noex:∀ b o,X.base.get? b=some o->b ∉ X.ex
 exfs:∀ b∈X.ex,b ∉ X.fs
 funs:X.s₀.heap.FunFrames X.base X.outer
 frf:∀ b∈X.fs,X.H₀ b=none
structure Inv (X:Cx) (pins:List (Addr×Obj)) (Z:List (Option V)) (H:Hp) (s:Shared):Prop where
 ok:X.Ok
 os:s.os=X.s₀.os
 bare:AllBare s.gens
 base:Un X.fs X.ex X.H₀ H X.s₀.heap s.heap
 loc:∃ m,s.heap.Ns X.env.locals m/\∀ (i:Nat) (x:Str) (v:V),X.N[i]? = some x->Z[i]? = some (some v)->Vis X.env.scope x->∃ u,jI v u/\qqv X.env s.heap m x u
 cell:∀ x c,X.env.cells.lookup x=some c->∃ v,s.heap.IsCell c v
 free:H X.env.locals=none
 freeC:∀ x c,X.env.cells.lookup x=some c->H c=none
 pin:∀ p∈X.pn++pins,s.heap.get? p.1=some p.2/\H p.1=none/\p.1≠X.env.locals/\p.1 ∉ X.fs/\∀ v,p.2.data ≠ .cell v
 hok:HOk X.prog X.w H s.heap
 len:Z.length=X.N.length
section
variable {X:Cx} {pins:List (Addr×Obj)} {Z:List (Option V)} {H H':Hp} {s:Shared} {h':Heap}
theorem Cx.Ok.nofr (ok:X.Ok) {b:Addr} {o:Obj} (e:X.base.get? b=some o):b ∉ X.fs:=fun hb=>by
 have:=(ok.funs.mem hb).1
 rw [e] at this;cases this
theorem Inv.bs (I:Inv X pins Z H s):∀ b o,X.base.get? b=some o->s.heap.get? b=some o/\H b=none:=fun b o e =>
 ⟨I.base.keep b o (I.ok.bs b o e).1 (I.ok.bs b o e).2 (I.ok.nofr e) (I.ok.noex b o e),I.base.free b o (I.ok.bs b o e).1 (I.ok.bs b o e).2 (I.ok.noex b o e)⟩
theorem Inv.bk (I:Inv X pins Z H s):∀ b o,X.base.get? b=some o->s.heap.get? b=some o:=fun b o e=>(I.bs b o e).1
theorem Inv.mod (I:Inv X pins Z H s):Mod X.K X.mg X.base:=I.ok.mod
theorem Inv.kIn (I:Inv X pins Z H s):X.K.In s.heap:=I.ok.mod.kin.keeps I.bk
theorem Inv.nolimit (I:Inv X pins Z H s):s.heap.NoLimit:=I.ok.mod.nolimit.keeps I.bk
theorem Inv.lt (I:Inv X pins Z H s):X.env.locals<s.heap.objs.size:=let ⟨_,hn,_⟩:=I.loc;hn.lt
theorem Inv.sz (I:Inv X pins Z H s):X.s₀.heap.objs.size<=s.heap.objs.size:=Nat.le_trans I.ok.above (Nat.le_of_lt I.lt)
theorem Inv.nofs (I:Inv X pins Z H s) {a:Addr} (h:s.heap.objs.size<=a):a ∉ X.fs:=fun hb=>by
 obtain ⟨_,o,ho,_⟩:=I.ok.funs.mem hb
 exact absurd (Nat.lt_of_lt_of_le (Heap.lt_size ho) (Nat.le_trans I.sz h)) (Nat.lt_irrefl _)
theorem Inv.cne (I:Inv X pins Z H s):∀ x c,X.env.cells.lookup x=some c->c≠X.env.locals:=fun x c e z=>by
 obtain ⟨v,o,ho,hd⟩:=I.cell x c e
 obtain ⟨m,⟨o',es,ep,ho',hd',_⟩,_⟩:=I.loc
 rw [z,ho'] at ho;cases ho;rw [hd'] at hd;cases hd
theorem Inv.funs (I:Inv X pins Z H s):s.heap.FunFrames X.base X.outer:=by
 have all:∀ (l:List Env),(∀ b∈frs l,b∈X.fs)->X.s₀.heap.FunFrames X.base l->s.heap.FunFrames X.base l:=by
  intro l
  induction l with
  | nil=>intro _ _;trivial
  | cons env r ih =>
   intro hs hl
   obtain ⟨hk,⟨L,o,hf,hn,ho,hd⟩,hr⟩:=hl
   have hL:L∈X.fs:=hs L (by unfold frs;rw [List.filterMap_cons,hf];exact mS_)
   obtain ⟨sl,e⟩:=I.base.slot L o ho (I.ok.frf L hL) hL fun z=>I.ok.exfs L z hL
   exact ⟨hk,⟨L,_,hf,hn,e,hd⟩,ih (fun b hb=>hs b (by unfold frs;rw [List.filterMap_cons,hf];exact mM_ _ hb)) hr⟩
 exact all X.outer (fun _ hb=>hb) I.ok.funs
theorem Inv.stack (I:Inv X pins Z H s):s.heap.FunFrames X.base X.stack:=by
 rcases I.ok.stk with e | ⟨e,hf⟩
 ·rw [e];exact I.funs
 ·rw [e]
  obtain ⟨m,hn,_⟩:=I.loc
  refine .cons (by rw [I.ok.kind];decide) hf hn ?_ I.funs
  exact Heap.get?_none_of_le (Nat.le_trans I.ok.bsz I.ok.above)
theorem Inv.stkSub (I:Inv X pins Z H s):∀ b∈frs X.stack,b∈X.env.locals::X.fs:=fun b hb=>by
 rcases I.ok.stk with e | ⟨e,hf⟩
 ·rw [e] at hb;exact mM_ _ hb
 ·rw [e] at hb
  unfold frs at hb
  rw [List.filterMap_cons,hf] at hb
  exact hb
theorem Inv.stkFree (I:Inv X pins Z H s):∀ b∈frs X.stack,H b=none:=fun b hb=>by
 rcases List.mem_cons.mp (I.stkSub b hb) with e | hb
 ·rw [e];exact I.free
 ·obtain ⟨_,o,ho,_⟩:=I.ok.funs.mem hb
  exact I.base.free b o ho (I.ok.frf b hb) fun z=>I.ok.exfs b z hb
theorem Inv.step {g':Array GenState} {t':Nat} {d':Drawn} {ch:List Addr} (I:Inv X pins Z H s)
  (hch:∀ b∈ch,(b∈X.ex\/X.s₀.heap.objs.size<=b)/\b≠X.env.locals/\(∀ x c,X.env.cells.lookup x=some c->c≠b)/\∀ p∈X.pn++pins,p.1≠b)
  (keep:∀ b o,b≠X.env.locals->b ∉ X.fs->b ∉ ch->s.heap.get? b=some o->H b=none->h'.get? b=some o)
  (slot:∀ b o,b≠X.env.locals->b∈X.fs->b ∉ ch->s.heap.get? b=some o->H b=none->∃ sl,h'.get? b=some { o with slots:=sl }) (free:∀ b o,b ∉ ch->s.heap.get? b=some o->H b=none->H' b=none)
  (there:∀ b o,b ∉ ch->s.heap.get? b=some o->∃ o',h'.get? b=some o')
  (tups:∀ b xs,H b=some (.tup xs)->H' b=some (.tup xs)) (frzs:∀ b o u,H b=some (.frz o u)->H' b=some (.frz o u)) (tbls:∀ b pos q,H b=some (.lam pos q)->H' b=some (.lam pos q))
  (ns:∀ m,s.heap.Ns X.env.locals m->h'.Ns X.env.locals m) (hok:HOk X.prog X.w H' h') (hg:AllBare g') :
  Inv X pins Z H' { s with heap:=h',gens:=g',drawn:=d',toks:=t' }:=by
 have neL:∀ b o,X.s₀.heap.get? b=some o->b≠X.env.locals:=fun b o e=>Nat.ne_of_lt (Nat.lt_of_lt_of_le (Heap.lt_size e) I.ok.above)
 have neC:∀ b o,X.s₀.heap.get? b=some o->b ∉ X.ex->b ∉ ch:=fun b o e hx hb=>by
  rcases (hch b hb).1 with z | z
  ·exact hx z
  ·exact absurd (Nat.lt_of_lt_of_le (Heap.lt_size e) z) (Nat.lt_irrefl _)
 have cellK:∀ x c,X.env.cells.lookup x=some c->∀ v,s.heap.IsCell c v->h'.IsCell c v:=fun x c e v ⟨o,ho,hd⟩=>by
  have nch:c ∉ ch:=fun z=>(hch c z).2.2.1 x c e rfl
  by_cases hc:c∈X.fs
  ·obtain ⟨sl,q⟩:=slot c o (I.cne x c e) hc nch ho (I.freeC x c e)
   exact ⟨_,q,hd⟩
  ·exact ⟨o,keep c o (I.cne x c e) hc nch ho (I.freeC x c e),hd⟩
 refine ⟨I.ok,I.os,hg,⟨fun b o e n hb hx => ?_,fun b o e n hb hx => ?_,fun b o e n hx => ?_,fun b o e hx => ?_,fun b xs e=>tups b xs (I.base.tups b xs e),fun b o xs e=>frzs b o xs (I.base.frzs b o xs e),fun b ps x e=>tbls b ps x (I.base.tbls b ps x e)⟩,?_,fun x c e => ?_,?_,fun x c e => ?_,fun p hp => ?_,hok,I.len⟩
 ·exact keep b o (neL b o e) hb (neC b o e hx) (I.base.keep b o e n hb hx) (I.base.free b o e n hx)
 ·obtain ⟨sl,e1⟩:=I.base.slot b o e n hb hx
  obtain ⟨sl',e2⟩:=slot b _ (neL b o e) hb (neC b o e hx) e1 (I.base.free b o e n hx)
  exact ⟨sl',e2⟩
 ·obtain ⟨o',e1⟩:=I.base.there b o e hx
  exact free b o' (neC b o e hx) e1 (I.base.free b o e n hx)
 ·obtain ⟨o',e1⟩:=I.base.there b o e hx
  exact there b o' (neC b o e hx) e1
 ·obtain ⟨m,hn,hl⟩:=I.loc
  refine ⟨m,ns m hn,fun i x v e1 e2 e3 => ?_⟩
  obtain ⟨u,r,l⟩:=hl i x v e1 e2 e3
  refine ⟨u,r,?_⟩
  rcases l with l | ⟨k,c,e,z⟩
  ·exact .inl l
  ·exact .inr ⟨k,c,e,cellK x c e _ z⟩
 ·obtain ⟨v,z⟩:=I.cell x c e
  exact ⟨v,cellK x c e v z⟩
 ·obtain ⟨m,⟨o,_,_,ho,_⟩,_⟩:=I.loc
  exact free _ o (fun z=>(hch _ z).2.1 rfl) ho I.free
 ·obtain ⟨v,o,ho,hd⟩:=I.cell x c e
  exact free c o (fun z=>(hch c z).2.2.1 x c e rfl) ho (I.freeC x c e)
 ·obtain ⟨e,n,ne,nf,d⟩:=I.pin p hp
  have nch:p.1 ∉ ch:=fun z=>(hch p.1 z).2.2.2 p hp rfl
  exact ⟨keep p.1 p.2 ne nf nch e n,free p.1 p.2 nch e n,ne,nf,d⟩
theorem Inv.un {t':Nat} (I:Inv X pins Z H s) (u:Un X.fs [] H H' s.heap h') (hok:HOk X.prog X.w H' h'):Inv X pins Z H' { s with heap:=h',toks:=t' }:=by
 obtain ⟨m,⟨o,es,ep,ho,r⟩,_⟩:=id I.loc
 obtain ⟨sl,hL⟩:=u.any ho I.free (by simp)
 exact I.step (g':=s.gens) (d':=s.drawn) (ch:=[]) (fun _ z=>nomatch z) (fun b o _ hb _ e n=>u.keep b o e n hb (by simp)) (fun b o _ hb _ e n=>u.slot b o e n hb (by simp)) (fun b o _ e n=>u.free b o e n (by simp)) (fun b o _ e=>u.there b o e (by simp)) u.tups u.frzs u.tbls (fun m' hm=>by
  obtain ⟨o',es',ep',ho',r'⟩:=hm
  rw [ho] at ho';cases ho'
  exact ⟨_,es',ep',hL,r'⟩) hok I.bare
theorem Inv.call {g':Array GenState} {t':Nat} {d':Drawn} {ch:List Addr} (I:Inv X pins Z H s) (u:Un (frs X.stack) ch H H' s.heap h') (hok:HOk X.prog X.w H' h') (hg:AllBare g')
  (hch:∀ b∈ch,(b∈X.ex\/X.s₀.heap.objs.size<=b)/\b≠X.env.locals/\(∀ x c,X.env.cells.lookup x=some c->c≠b)/\∀ p∈X.pn++pins,p.1≠b) :
  Inv X pins Z H' { s with heap:=h',gens:=g',drawn:=d',toks:=t' }:=by
 obtain ⟨m,⟨o,es,ep,ho,r⟩,_⟩:=id I.loc
 obtain ⟨sl,hL⟩:=u.any ho I.free fun z=>(hch _ z).2.1 rfl
 exact I.step (ch:=ch) hch (fun b o hL hb hc e n=>u.keep b o e n (fun z=>(List.mem_cons.mp (I.stkSub b z)).elim hL hb) hc) (fun b o _ _ hc e n=>u.any e n hc) (fun b o hc e n=>u.free b o e n hc) (fun b o hc e=>u.there b o e hc) u.tups u.frzs u.tbls (fun m' hm=>by
  obtain ⟨o',es',ep',ho',r'⟩:=hm
  rw [ho] at ho';cases ho'
  exact ⟨_,es',ep',hL,r'⟩) hok hg
theorem Inv.turned {t':Nat} {it:Addr} (I:Inv X pins Z H s) (k:∀ b o,b≠it->s.heap.get? b=some o->h'.get? b=some o) (hn:H it=none) (hL:it≠X.env.locals)
  (h1:it∈X.ex\/X.s₀.heap.objs.size<=it) (h2:∀ x c,X.env.cells.lookup x=some c->c≠it) (h3:∀ p∈X.pn++pins,p.1≠it):Inv X pins Z H { s with heap:=h',toks:=t' }:=by
 have nit:∀ b u,H b=some u->b≠it:=fun b u e z=>by rw [z,hn] at e;cases e
 refine I.step (g':=s.gens) (d':=s.drawn) (ch:=[it]) (fun b hb => ?_) (fun b o _ _ hc e _=>k b o (fun z=>hc (by simp [z])) e) (fun b o _ _ hc e _=>⟨o.slots,k b o (fun z=>hc (by simp [z])) e⟩) (fun _ _ _ _ n=>n)
  (fun b o hc e=>⟨o,k b o (fun z=>hc (by simp [z])) e⟩) (fun _ _ e=>e) (fun _ _ _ e=>e) (fun _ _ _ e=>e) (fun m hm => ?_) (fun b u e => ?_) I.bare
 ·have e:b=it:=by simpa using hb
  subst e
  exact ⟨h1,hL,h2,h3⟩
 ·obtain ⟨o,es,ep,ho,r⟩:=hm
  exact ⟨o,es,ep,k _ o (Ne.symm hL) ho,r⟩
 ·refine (I.hok b u e).stay (fun c v hc q=>k c v ?_ q) (fun _ q=>q) fun _ _ q=>q
  rcases hc with z | z
  ·rw [z];exact nit b u e
  ·exact nit c _ z
theorem Inv.tok (I:Inv X pins Z H s) (t:Nat):Inv X pins Z H { s with toks:=t }:=I.un (h':=s.heap) (t':=t) Un.refl I.hok
theorem Inv.kept {t':Nat} (I:Inv X pins Z H s) (k:∀ b u,s.heap.get? b=some u->h'.get? b=some u):Inv X pins Z H { s with heap:=h',toks:=t' }:=I.un (Un.kept k) (I.hok.kept k)
theorem Inv.laid {a:Addr} {o:HO} {t':Nat} (I:Inv X pins Z H s) (k:∀ b u,s.heap.get? b=some u->h'.get? b=some u) (hp:s.heap.objs.size<=a) (new:uc X.prog X.w (upd H a o) h' a o) :
  Inv X pins Z (upd H a o) { s with heap:=h',toks:=t' }:=I.un (Un.laid k hp (I.hok.fresh hp)) (I.hok.laid k hp new)
theorem Inv.write {x e:Addr} {o:HO} {t':Nat} (I:Inv X pins Z H s) (mu:Mut (H x)) (he:e=x\/H e=some (.own x)) (k:∀ b u,b≠e->s.heap.get? b=some u->h'.get? b=some u) (heo:∃ u,h'.get? e=some u)
  (new:uc X.prog X.w (upd H x o) h' x o):Inv X pins Z (upd H x o) { s with heap:=h',toks:=t' }:=I.un (Un.write mu he k heo) (I.hok.write mu he k heo new)
theorem Inv.pins_of {pins':List (Addr×Obj)} (I:Inv X pins Z H s) (h:∀ p∈pins',s.heap.get? p.1=some p.2/\H p.1=none/\p.1≠X.env.locals/\p.1 ∉ X.fs/\∀ v,p.2.data ≠ .cell v):Inv X pins' Z H s :=
 ⟨I.ok,I.os,I.bare,I.base,I.loc,I.cell,I.free,I.freeC,fun p hp=>(mA_.mp hp).elim (fun z=>I.pin p (List.mem_append_left _ z)) (h p),I.hok,I.len⟩
theorem qfp {N:List Str} (hN:N.Nodup) {i j:Nat} {x:Str} (a:N[i]? = some x) (b:N[j]? = some x):i=j:=by
 obtain ⟨h1,e1⟩:=gI_.mp a
 obtain ⟨h2,e2⟩:=gI_.mp b
 exact (List.getElem_inj hN).mp (e1.trans e2.symm)
theorem qdI {M:Model} {A:Around} {E:Value->Shared->Prop} {i:Nat} {x:Str} {v:V} {u:Value} {Q:Unit->Shared->Prop} (I:Inv X pins Z H s) (hN:X.N.Nodup) (hi:X.N[i]? = some x) (hx:Loc X.env.scope x) (r:jI v u)
  (h:∀ s',Inv X pins (Z.set i (some v)) H s'->(∃ a,Heap.SameBut a s.heap s'.heap/\(a=X.env.locals\/X.env.cells.lookup x=some a))->Q () s') (hf:X.fn x=true\/X.env.scope.names.lookup x=some .local:=by first | exact .inl rfl | exact .inr rfl | assumption):wpAny M A (storeName X.env x u) Q E s:=by
 obtain ⟨m,hn,hl⟩:=id I.loc
 have hcls:(X.env.scope.kind == .class||(X.env.scope.kind == .module&&X.env.locals != X.env.globals))=false:=by rw [I.ok.kind];rfl
 have hiσ:i<Z.length:=by rw [I.len];exact (gI_.mp hi).1
 have cne:=I.cne
 have tracked:∀ {a:Addr} {h':Heap},(∃ o,s.heap.get? a=some o/\H a=none)->Heap.SameBut a s.heap h'->HOk X.prog X.w H h':=fun {a h'} ha hs b ob e=>by
  obtain ⟨_,_,hfree⟩:=ha
  refine (I.hok b ob e).stay (fun c w' hc q=>(hs.2 c ?_).trans q) (fun _ q=>q) fun _ _ q=>q
  rintro rfl
  rcases hc with rfl | hc
  ·rw [hfree] at e;cases e
  ·rw [hfree] at hc;cases hc
 rcases hx with hk | hk
 ·refine wpAny_storeName_local hk hn (fun h' hn' hs => ?_) hcls
  obtain ⟨oL,_,_,hoL,_⟩:=id hn
  refine h _ ⟨I.ok,I.os,I.bare,⟨fun b o e n hb hx => ?_,fun b o e n hb hx => ?_,I.base.free,fun b o e hx => ?_,I.base.tups,I.base.frzs,I.base.tbls⟩,⟨_,hn',fun j y v' e1 e2 e3 => ?_⟩,fun y c e => ?_,I.free,I.freeC,fun p hp => ?_,tracked ⟨oL,hoL,I.free⟩ hs,by simpa using I.len⟩ ⟨_,hs,.inl rfl⟩
  ·exact (hs.2 b (Nat.ne_of_lt (Nat.lt_of_lt_of_le (Heap.lt_size e) I.ok.above))).trans (I.base.keep b o e n hb hx)
  ·obtain ⟨sl,e1⟩:=I.base.slot b o e n hb hx
   exact ⟨sl,(hs.2 b (Nat.ne_of_lt (Nat.lt_of_lt_of_le (Heap.lt_size e) I.ok.above))).trans e1⟩
  ·obtain ⟨o',e1⟩:=I.base.there b o e hx
   exact ⟨o',(hs.2 b (Nat.ne_of_lt (Nat.lt_of_lt_of_le (Heap.lt_size e) I.ok.above))).trans e1⟩
  ·by_cases hj:j=i
   ·subst hj
    rw [hi] at e1;cases e1
    rw [List.getElem?_set_self hiσ] at e2
    cases e2
    exact ⟨u,r,.inl ⟨hk,by simp⟩⟩
   ·rw [List.getElem?_set_ne (Ne.symm hj)] at e2
    obtain ⟨u',r',q⟩:=hl j y v' e1 e2 e3
    refine ⟨u',r',?_⟩
    rcases q with ⟨k,e⟩ | ⟨k,c,e,z⟩
    ·refine .inl ⟨k,?_⟩
     have:y≠x:=fun e=>hj (qfp hN e1 (e▸hi))
     simp [this,e]
    ·exact .inr ⟨k,c,e,z.sameBut hs (cne y c e)⟩
  ·obtain ⟨w',z⟩:=I.cell y c e
   exact ⟨w',z.sameBut hs (cne y c e)⟩
  ·obtain ⟨e,n,ne,nf,d⟩:=I.pin p hp
   exact ⟨(hs.2 p.1 ne).trans e,n,ne,nf,d⟩
 ·have hfn:X.fn x=true:=by
   rcases hf with z | z
   ·exact z
   ·rw [z] at hk;cases hk
  obtain ⟨c,hc⟩:=I.ok.has x (.inl hk)
  obtain ⟨w',z⟩:=I.cell x c hc
  refine wpAny_storeName_cell I.ok.kind hk hc z (fun h' hc' hs => ?_)
  obtain ⟨oc,hoc,hocd⟩:=id z
  refine h { s with heap:=h' } ⟨I.ok,I.os,I.bare,⟨fun b o e n hb hx => ?_,fun b o e n hb hx => ?_,I.base.free,fun b o e hx => ?_,I.base.tups,I.base.frzs,I.base.tbls⟩,⟨m,hn.sameBut hs (Ne.symm (cne x c hc)),fun j y v' e1 e2 e3 => ?_⟩,fun y c' e => ?_,I.free,I.freeC,fun p hp => ?_,tracked ⟨oc,hoc,I.freeC x c hc⟩ hs,by simpa using I.len⟩ ⟨c,hs,.inr hc⟩
  ·exact (hs.2 b (Nat.ne_of_lt (Nat.lt_of_lt_of_le (Heap.lt_size e) (I.ok.cab x c hfn hc)))).trans (I.base.keep b o e n hb hx)
  ·obtain ⟨sl,e1⟩:=I.base.slot b o e n hb hx
   exact ⟨sl,(hs.2 b (Nat.ne_of_lt (Nat.lt_of_lt_of_le (Heap.lt_size e) (I.ok.cab x c hfn hc)))).trans e1⟩
  ·obtain ⟨o',e1⟩:=I.base.there b o e hx
   exact ⟨o',(hs.2 b (Nat.ne_of_lt (Nat.lt_of_lt_of_le (Heap.lt_size e) (I.ok.cab x c hfn hc)))).trans e1⟩
  ·by_cases hj:j=i
   ·subst hj
    rw [hi] at e1;cases e1
    rw [List.getElem?_set_self hiσ] at e2
    cases e2
    exact ⟨u,r,.inr ⟨.inl hk,c,hc,hc'⟩⟩
   ·rw [List.getElem?_set_ne (Ne.symm hj)] at e2
    obtain ⟨u',r',q⟩:=hl j y v' e1 e2 e3
    refine ⟨u',r',?_⟩
    rcases q with q | ⟨k,c',e,z'⟩
    ·exact .inl q
    ·refine .inr ⟨k,c',e,z'.sameBut hs ?_⟩
     rintro rfl
     exact hj (qfp hN e1 (I.ok.inj _ _ _ e hc▸hi))
  ·by_cases hcc:c'=c
   ·subst hcc;exact ⟨_,hc'⟩
   ·obtain ⟨w2,z2⟩:=I.cell y c' e
    exact ⟨w2,z2.sameBut hs hcc⟩
  ·obtain ⟨e,n,ne,nf,d⟩:=I.pin p hp
   refine ⟨(hs.2 p.1 ?_).trans e,n,ne,nf,d⟩
   intro q
   rw [q,hoc] at e
   have q':oc=p.2:=Option.some.inj e
   exact d w' (by rw [<- q'];exact hocd)
theorem qbu {M:Model} {A:Around} {E:Value->Shared->Prop} {i:Nat} {x:Str} {v:V} {u:Value} {Q:Unit->Shared->Prop} (I:Inv X pins Z H s) (hN:X.N.Nodup) (hi:X.N[i]? = some x) (hx:Loc X.env.scope x) (r:jI v u)
  (h:∀ s',Inv X pins (Z.set i (some v)) H s'->Q () s') (hf:X.fn x=true\/X.env.scope.names.lookup x=some .local:=by first | exact .inl rfl | exact .inr rfl | assumption):wpAny M A (storeName X.env x u) Q E s :=
 qdI I hN hi hx r (fun s' I' _=>h s' I') hf
theorem Inv.call' {s':Shared} {ch:List Addr} (I:Inv X pins Z H s) (ho:s'.os=s.os) (u:Un (frs X.stack) ch H H' s.heap s'.heap) (hok:HOk X.prog X.w H' s'.heap) (hg:AllBare s'.gens)
  (hch:∀ b∈ch,(b∈X.ex\/X.s₀.heap.objs.size<=b)/\b≠X.env.locals/\(∀ x c,X.env.cells.lookup x=some c->c≠b)/\∀ p∈X.pn++pins,p.1≠b):Inv X pins Z H' s':=by
 obtain ⟨h',g',d',t',o'⟩:=s'
 have e:o'=s.os:=ho
 subst e
 exact I.call (g':=g') (t':=t') (d':=d') u hok hg hch
end
abbrev XK:=Value->Option Addr->Hp->Prop
abbrev St:=List (Option V)
abbrev VK:=V->Hp->Prop
abbrev TE:=St->Hp->VK->Prop
abbrev TT:=St->Hp->(Bool->Hp->Prop)->Prop
abbrev TA:=St->Hp->(List V->Hp->Prop)->Prop
structure qiJ where
 nx:St->Hp->Prop
 rt:VK
 bk:St->Hp->Prop:=fun _ _=>False
 ct:St->Hp->Prop:=fun _ _=>False
abbrev TS:=qiJ->St->Hp->Prop
def EP (X:Cx) (pins:List (Addr×Obj)) (Z:St) (Q:VK) (u:Value) (s':Shared):Prop:=∃ v H',Inv X pins Z H' s'/\jI v u/\Q v H'
def TP (X:Cx) (pins:List (Addr×Obj)) (Z:St) (Q:Bool->Hp->Prop) (b:Bool) (s':Shared):Prop:=∃ H',Inv X pins Z H' s'/\Q b H'
def AP (X:Cx) (pins:List (Addr×Obj)) (Z:St) (Q:List V->Hp->Prop) (us:List Value) (s':Shared):Prop:=∃ vs H',Inv X pins Z H' s'/\zd vs us/\Q vs H'
def SP (X:Cx) (pins:List (Addr×Obj)) (D:qiJ) (f:Flow) (s':Shared):Prop :=
 match f with
 | .next=>∃ Z' H',Inv X pins Z' H' s'/\D.nx Z' H'
 | .brk=>∃ Z' H',Inv X pins Z' H' s'/\D.bk Z' H'
 | .cont=>∃ Z' H',Inv X pins Z' H' s'/\D.ct Z' H'
 | .ret u=>∃ v Z' H',Inv X pins Z' H' s'/\jI v u/\D.rt v H'
def PE (X:Cx) (e:Expr) (t:TE):Prop :=
 ∀ (pins:List (Addr×Obj)) (s:Shared) (Z:St) (H:Hp) (Q:VK),Inv X pins Z H s->t Z H Q->wpAny (model X.prog X.w) X.A (eval e X.env) (EP X pins Z Q) X.xe s
def PT (X:Cx) (e:Expr) (t:TT):Prop :=
 ∀ (pins:List (Addr×Obj)) (s:Shared) (Z:St) (H:Hp) (Q:Bool->Hp->Prop),Inv X pins Z H s->t Z H Q->wpAny (model X.prog X.w) X.A (isTrue e X.env (eval e X.env)) (TP X pins Z Q) X.xe s
def PW (X:Cx) (e:Expr) (t:TT):Prop :=
 ∀ (whole:Sem Value) (pins:List (Addr×Obj)) (s:Shared) (Z:St) (H:Hp) (Q:Bool->Hp->Prop),Inv X pins Z H s->t Z H Q->wpAny (model X.prog X.w) X.A (isTrue e X.env whole) (TP X pins Z Q) X.xe s
theorem PW.pt {X:Cx} {e:Expr} {t:TT} (h:PW X e t):PT X e t:=h _
def PA (X:Cx) (es:List Expr) (t:TA):Prop :=
 ∀ (pos:Pos) (pins:List (Addr×Obj)) (s:Shared) (Z:St) (H:Hp) (Q:List V->Hp->Prop),Inv X pins Z H s->t Z H Q->wpAny (model X.prog X.w) X.A (spliced (backTo pos (starEach es X.env))) (AP X pins Z Q) X.xe s
def PS (X:Cx) (st:Stmt) (t:TS):Prop :=
 ∀ (pins:List (Addr×Obj)) (s:Shared) (Z:St) (H:Hp) (D:qiJ),Inv X pins Z H s->t D Z H->wpAny (model X.prog X.w) X.A (exec st X.env) (SP X pins D) X.xe s
def PSs (X:Cx) (st:List Stmt) (t:TS):Prop :=
 ∀ (pins:List (Addr×Obj)) (s:Shared) (Z:St) (H:Hp) (D:qiJ),Inv X pins Z H s->t D Z H->wpAny (model X.prog X.w) X.A (execs st X.env) (SP X pins D) X.xe s
theorem thn {α:Type} {t:Sem α} {Q Q':α->Shared->Prop} {M:Model} {A:Around} {E:Value->Shared->Prop} {s:Shared} (h:wpAny M A t Q E s) (hQ:∀ a s,Q a s->Q' a s):wpAny M A t Q' E s:=wpAny_mono h hQ fun _ _ x=>x
end L2
namespace L2
open PySem PySem.Spec PyProof.Rows
section
variable {X:Cx}
theorem bin {a b:Expr} {ta tb:TE} (ha:PE X a ta) (hb:PE X b tb) {pins:List (Addr×Obj)} {s:Shared} {Z:St} {H:Hp} {R:V->V->Hp->Prop} (I:Inv X pins Z H s) (h:ta Z H fun x H1=>tb Z H1 fun y H2=>R x y H2)
  {α:Type} {Q:α->Shared->Prop} {f:Value->Value->Sem α}
  (hf:∀ v u s2 x y H2,Inv X pins Z H2 s2->jI x v->jI y u->R x y H2->wpAny (model X.prog X.w) X.A (f v u) Q X.xe s2) :
  wpAny (model X.prog X.w) X.A (eval a X.env) (fun v sJ=>wpAny (model X.prog X.w) X.A (eval b X.env) (fun u sK=>wpAny (model X.prog X.w) X.A (f v u) Q X.xe sK) X.xe sJ) X.xe s:=by
 refine thn (ha pins s Z H _ I h) fun v s1 ⟨x,H1,I1,r1,q1⟩ => ?_
 refine thn (hb pins s1 Z H1 _ I1 q1) fun u s2 ⟨y,H2,I2,r2,q2⟩ => ?_
 exact hf v u s2 x y H2 I2 r1 r2 q2
def qpX (i:Nat):TE:=fun Z H Q=>∃ v,Z[i]? = some (some v)/\Q v H
def tC (v:V):TE:=fun _ H Q=>Q v H
theorem w9 {i:Nat} {x:Str} {pos:Pos} (hN:X.N[i]? = some x) (hv:Vis X.env.scope x) (hd:(x==("__debug__":Str))=false:=by decide) (hcd:(x==("__classdict__":Str))=false:=by decide):PE X (.Name x pos) (qpX i):=by
 intro pins s Z H Q I h
 obtain ⟨v,e,h⟩:=h
 obtain ⟨m,hn,hl⟩:=I.loc
 obtain ⟨u,r,l⟩:=hl i x v hN e hv
 have fin:EP X pins Z Q u s:=⟨v,H,I,r,h⟩
 rcases l with ⟨hk,hm⟩ | ⟨hk,c,hc,hcell⟩
 ·exact wpAny_Name (wpAny_loadName_local I.ok.kind hk hn hm fin) hd
 ·rcases hk with hk | hk
  ·exact wpAny_Name (wpAny_loadName_cell I.ok.kind hk hc hcell fin) hd
  ·exact wpAny_Name (wpAny_loadName_free I.ok.kind hk hc hcell fin hcd) hd
theorem qj9 {i j pos}:PE X (.Constant (.int i) j pos) (tC (.int i)):=fun _ _ _ H _ I h=>wpAny_Constant_int ⟨.int i,H,I.tok _,⟨_,rfl⟩,h⟩
theorem qo2 {b j pos}:PE X (.Constant (.bool b) j pos) (tC (.bl b)):=fun _ _ _ H _ I h=>Constant_bool ⟨.bl b,H,I,rfl,h⟩
theorem qmU {j pos}:PE X (.Constant .none j pos) (tC .non):=fun _ _ _ H _ I h=>Constant_none ⟨.non,H,I,rfl,h⟩
def Gl (X:Cx) (x:Str):Prop:=X.env.kindOf x=some .globalImplicit
theorem qeN {E:Value->Shared->Prop} {pins:List (Addr×Obj)} {s:Shared} {Z:St} {H:Hp} {x:Str} {u:Value} {pos:Pos} {Q:Value->Shared->Prop} (I:Inv X pins Z H s) (hg:Gl X x) (hm:X.mg x=some u) (h:Q u s)
  (hd:(x==("__debug__":Str))=false:=by decide):wpAny (model X.prog X.w) X.A (eval (.Name x pos) X.env) Q E s :=
 Calls.Name_function_global I.ok.kind hg (Calls.loadGlobal_global (by rw [I.ok.glob];exact I.mod.glob.keeps I.bk) hm h) hd
theorem qa5 {E:Value->Shared->Prop} {pins:List (Addr×Obj)} {s:Shared} {Z:St} {H:Hp} {x:Str} {u:Value} {pos:Pos} {Q:Value->Shared->Prop} (I:Inv X pins Z H s) (hg:Gl X x) (hm:X.mg x=none) (hv:bootBuiltins x=some u) (h:Q u s)
  (hn:x≠"__name__":=by decide) (hd:(x==("__debug__":Str))=false:=by decide):wpAny (model X.prog X.w) X.A (eval (.Name x pos) X.env) Q E s:=by
 obtain ⟨mb,h1,h2⟩:=I.mod.blt
 exact Calls.Name_function_global I.ok.kind hg (Calls.loadGlobal_builtin (by rw [I.ok.glob];exact I.mod.glob.keeps I.bk) hm (by rw [I.ok.blt];exact h1.keeps I.bk) ((h2 x hn).trans hv) h) hd
theorem qk2 {x:Str} {v:V} {u:Value} {pos:Pos} (hg:Gl X x) (hm:X.mg x=some u) (r:jI v u) (hd:(x==("__debug__":Str))=false:=by decide):PE X (.Name x pos) (tC v) :=
 fun _ _ _ H _ I h=>qeN I hg hm ⟨v,H,I,r,h⟩ hd
theorem qk3 {x:Str} {v:V} {u:Value} {pos:Pos} (hg:Gl X x) (hm:X.mg x=none) (hv:bootBuiltins x=some u) (r:jI v u) (hn:x≠"__name__":=by decide) (hd:(x==("__debug__":Str))=false:=by decide):PE X (.Name x pos) (tC v) :=
 fun _ _ _ H _ I h=>qa5 I hg hm hv ⟨v,H,I,r,h⟩ hn hd
variable {a b:Expr} {ta tb:TE} {pos:Pos}
def PC (X:Cx) (op:CmpOp) (a b:Expr) (t:TE):Prop :=
 ∀ (pins:List (Addr×Obj)) (s:Shared) (Z:St) (H:Hp) (Q:VK),Inv X pins Z H s->t Z H Q ->
  wpAny (model X.prog X.w) X.A (eval a X.env) (fun v sJ=>wpAny (model X.prog X.w) X.A (eval b X.env) (fun u sK=>wpAny (model X.prog X.w) X.A (compareOp op v u) (EP X pins Z Q) X.xe sK) X.xe sJ) X.xe s
theorem qiP (b:Expr) {op:CmpOp} (h:op ≠ .In) (h2:op ≠ .NotIn):behindInMarks op b=false:=by
 have e1:(op==CmpOp.In)=false:=by cases op<;>first | rfl | exact absurd rfl h
 have e2:(op==CmpOp.NotIn)=false:=by cases op<;>first | rfl | exact absurd rfl h2
 cases b<;>simp [behindInMarks,e1,e2]
def tB (t:TE):TT:=fun Z H Q=>t Z H fun x H1=>∃ c,x = .bl c/\Q c H1
theorem qpY {op:CmpOp} {t:TE} (h:PC X op a b t) (h1:behindInMarks op b=false:=by first | exact qiP _ (by decide) (by decide) | rfl):PT X (.Compare a [op] [b] pos) (tB t):=by
 intro pins s Z H Q I hw
 refine wpAny_isTrue_Compare1 (thn (h pins s Z H _ I hw) fun v s1 h1=>thn h1 fun u s2 h2=>thn h2 fun c s3 ⟨x,H1,I1,r1,q1⟩ => ?_) h1
 obtain ⟨d,rfl,q⟩:=q1
 cases r1
 exact wpAny_truthy_bool ⟨H1,I1,q⟩
theorem qmV {e:Expr} {t:TE} (h:PE X e t) (he:∀ whole,isTrue e X.env whole=(do let v <- whole;standAt e.pos;holding [v] (truthy v)):=by intro _;rfl):PT X e (tB t):=by
 intro pins s Z H Q I hw
 refine isTrue_plain (thn (h pins s Z H _ I hw) fun v s1 ⟨x,H1,I1,r1,q1⟩ => ?_) (he _)
 obtain ⟨d,rfl,q⟩:=q1
 cases r1
 exact wpAny_truthy_bool ⟨H1,I1,q⟩
variable {tA tB':TT} {yK:List Expr}
def qqw (t u:TT):TT:=fun Z H Q=>t Z H fun c H1=>if c=true then u Z H1 Q else Q false H1
def tOr (t u:TT):TT:=fun Z H Q=>t Z H fun c H1=>if c=true then Q true H1 else u Z H1 Q
def qqx (t:TT):TT:=fun Z H Q=>t Z H fun c H1=>Q (!c) H1
theorem qk4 (ha:PT X a tA):PW X (.BoolOp .And [a] pos) tA:=by
 intro wh pins s Z H Q I h
 refine isTrue_and (thn (ha pins s Z H Q I h) fun c s1 e => ?_)
 cases c with
 | true=>exact isTrue_and_nil e
 | false=>exact e
theorem qmW (ha:PT X a tA):PW X (.BoolOp .Or [a] pos) tA:=by
 intro wh pins s Z H Q I h
 refine isTrue_or (thn (ha pins s Z H Q I h) fun c s1 e => ?_)
 cases c with
 | false=>exact isTrue_or_nil e
 | true=>exact e
theorem qmX (ha:PT X a tA) (hb:PW X (.BoolOp .And (b::yK) pos) tB'):PW X (.BoolOp .And (a::b::yK) pos) (qqw tA tB'):=by
 intro wh pins s Z H Q I h
 refine isTrue_and (thn (ha pins s Z H _ I h) fun c s1 ⟨H1,I1,q1⟩ => ?_)
 cases c with
 | true=>exact hb wh pins s1 Z H1 Q I1 q1
 | false=>exact ⟨H1,I1,q1⟩
theorem qo3 (ha:PT X a tA) (hb:PW X (.BoolOp .Or (b::yK) pos) tB'):PW X (.BoolOp .Or (a::b::yK) pos) (tOr tA tB'):=by
 intro wh pins s Z H Q I h
 refine isTrue_or (thn (ha pins s Z H _ I h) fun c s1 ⟨H1,I1,q1⟩ => ?_)
 cases c with
 | true=>exact ⟨H1,I1,q1⟩
 | false=>exact hb wh pins s1 Z H1 Q I1 q1
theorem qmY (ha:PT X a tA):PT X (.UnaryOp .Not a pos) (qqx tA):=by
 intro pins s Z H Q I h
 exact isTrue_not (ha pins s Z H (fun c H1=>Q (!c) H1) I h)
def qo4 (ta tb:TE):TE:=fun Z H Q=>ta Z H fun x H1=>∃ c,x = .bl c/\if c=true then tb Z H1 Q else Q (.bl false) H1
def qqy (ta tb:TE):TE:=fun Z H Q=>ta Z H fun x H1=>∃ c,x = .bl c/\if c=true then Q (.bl true) H1 else tb Z H1 Q
def qo5 (ta:TE):TE:=fun Z H Q=>ta Z H fun x H1=>∃ c,x = .bl c/\Q (.bl (!c)) H1
theorem qmZ {op} {t:TE} (h:PE X a t):PE X (.BoolOp op [a] pos) t:=fun pins s Z H Q I hw=>BoolOp_one (h pins s Z H Q I hw)
theorem qm0 (ha:PE X a ta) (hb:PE X (.BoolOp .And (b::yK) pos) tb):PE X (.BoolOp .And (a::b::yK) pos) (qo4 ta tb):=by
 intro pins s Z H Q I h
 refine BoolOp_and (thn (ha pins s Z H _ I h) fun v s1 ⟨x,H1,I1,r1,q1⟩ => ?_)
 obtain ⟨c,rfl,q1⟩:=q1
 cases r1
 refine wpAny_truthy_bool ?_
 cases c with
 | true=>exact hb pins s1 Z H1 Q I1 q1
 | false=>exact ⟨.bl false,H1,I1,rfl,q1⟩
theorem qo6 (ha:PE X a ta) (hb:PE X (.BoolOp .Or (b::yK) pos) tb):PE X (.BoolOp .Or (a::b::yK) pos) (qqy ta tb):=by
 intro pins s Z H Q I h
 refine BoolOp_or (thn (ha pins s Z H _ I h) fun v s1 ⟨x,H1,I1,r1,q1⟩ => ?_)
 obtain ⟨c,rfl,q1⟩:=q1
 cases r1
 refine wpAny_truthy_bool ?_
 cases c with
 | false=>exact hb pins s1 Z H1 Q I1 q1
 | true=>exact ⟨.bl true,H1,I1,rfl,q1⟩
theorem qm1 (ha:PE X a ta):PE X (.UnaryOp .Not a pos) (qo5 ta):=by
 intro pins s Z H Q I h
 refine UnaryOp_ (thn (ha pins s Z H _ I h) fun v s1 ⟨x,H1,I1,r1,q1⟩ => ?_)
 obtain ⟨c,rfl,q1⟩:=q1
 cases r1
 exact not_of (wpAny_truthy_bool ⟨.bl (!c),H1,I1,rfl,q1⟩)
def tIf (t:TT) (ta tb:TE):TE:=fun Z H Q=>t Z H fun c H1=>if c=true then ta Z H1 Q else tb Z H1 Q
theorem qiQ {c:Expr} (hc:PT X c tA) (ha:PE X a ta) (hb:PE X b tb):PE X (.IfExp c a b pos) (tIf tA ta tb):=by
 intro pins s Z H Q I h
 refine wpAny_IfExp (thn (hc pins s Z H _ I h) fun d s1 ⟨H1,I1,q1⟩ => ?_)
 cases d with
 | true=>exact ha pins s1 Z H1 Q I1 q1
 | false=>exact hb pins s1 Z H1 Q I1 q1
end
end L2
namespace L2
open PySem PySem.Spec PyProof.Rows
def SqL (K:PySem.W.Frag) (H:Hp) (a:Addr) (xs:List V):Prop :=
 Rd H a (.lst xs) \/
  ∃ (o:Obj) (its:Array Value) (n:Nat),K.lookup a=some o/\o.cls = .type "list"/\o.dict=none/\o.data = .seq its n/\its.size<=sizeLine/\zd xs its.toList
def SqT (K:PySem.W.Frag) (H:Hp) (a:Addr) (xs:List V):Prop :=
 Rd H a (.tup xs) \/
  ∃ (o:Obj) (its:Array Value) (n:Nat),K.lookup a=some o/\o.cls = .type "tuple"/\o.data = .seq its n/\its.size<=sizeLine/\zd xs its.toList
def qqz:Value->Option V
 | .none=>some .non
 | .bool b=>some (.bl b)
 | .int i _=>some (.int i)
 | .str x _=>some (.str x)
 | .bytes b _=>some (.byt b)
 | .float b _=>some (.flt b)
 | .ref a=>some (.ref a)
 | .type n=>some (.ty n)
 | _=>none
theorem jI.abs {x:V} {u:Value} (r:jI x u):qqz u=some x:=by
 cases x with
 | non=>cases r;rfl
 | bl _=>cases r;rfl
 | int _=>obtain ⟨t,rfl⟩:=r;rfl
 | str _=>obtain ⟨t,rfl⟩:=r;rfl
 | byt _=>obtain ⟨t,rfl⟩:=r;rfl
 | flt _=>obtain ⟨t,rfl⟩:=r;rfl
 | ref _=>cases r;rfl
 | ty _=>cases r;rfl
theorem jI.inj {x y:V} {u:Value} (r:jI x u) (q:jI y u):x=y:=Option.some.inj (r.abs.symm.trans q.abs)
theorem zd.inj:∀ {xs ys:List V} {us:List Value},zd xs us->zd ys us->xs=ys
 | _,_,_,.nil,.nil=>rfl
 | _,_,_,.cons r t,.cons r' t'=>by rw [r.inj r',zd.inj t t']
section
variable {X:Cx} {pins:List (Addr×Obj)} {Z:St} {H:Hp} {s:Shared} {a:Addr} {xs ys:List V}
theorem SqL.of {K:PySem.W.Frag} (h:H a=some (.lst xs)):SqL K H a xs := .inl (.inl h)
theorem Inv.list (I:Inv X pins Z H s) (h:SqL X.K H a xs):∃ its:List Value,zd xs its/\PlainL s.heap a its.toArray/\xs.length<=sizeLine:=by
 rcases h with h | ⟨o,its,n,hk,hc,hd,hs,hz,r⟩
 ·obtain ⟨z,its,n,r,e⟩:=h.ok I.hok
  exact ⟨its,r,⟨_,n,e,rfl,rfl,rfl⟩,z⟩
 ·refine ⟨its.toList,r,⟨o,n,I.kIn a o hk,hc,hd,by simpa using hs⟩,?_⟩
  have e:=r.length
  simp only [Array.length_toList] at e
  omega
theorem Inv.tuple (I:Inv X pins Z H s) (h:SqT X.K H a xs):∃ its:List Value,zd xs its/\IsTup s.heap a its.toArray/\xs.length<=sizeLine:=by
 rcases h with h | ⟨o,its,n,hk,hc,hs,hz,r⟩
 ·obtain ⟨z,its,r,p⟩:=h.ok I.hok
  exact ⟨its,r,p,z⟩
 ·refine ⟨its.toList,r,⟨o,I.kIn a o hk,hc,n,by simpa using hs⟩,?_⟩
  have e:=r.length
  simp only [Array.length_toList] at e
  omega
theorem Inv.list_inj (I:Inv X pins Z H s) (h:SqL X.K H a xs) (h':SqL X.K H a ys):xs=ys:=by
 obtain ⟨its,r,⟨o,n,e,_,_,d⟩,_⟩:=I.list h
 obtain ⟨its',r',⟨o',n',e',_,_,d'⟩,_⟩:=I.list h'
 rw [e] at e';cases e'
 rw [d] at d'
 injection d' with d1 _
 have:its=its':=by simpa using congrArg Array.toList d1
 subst this
 exact r.inj r'
theorem Inv.tuple_inj (I:Inv X pins Z H s) (h:SqT X.K H a xs) (h':SqT X.K H a ys):xs=ys:=by
 obtain ⟨its,r,⟨o,e,_,n,d⟩,_⟩:=I.tuple h
 obtain ⟨its',r',⟨o',e',_,n',d'⟩,_⟩:=I.tuple h'
 rw [e] at e';cases e'
 rw [d] at d'
 injection d' with d1 _
 have:its=its':=by simpa using congrArg Array.toList d1
 subst this
 exact r.inj r'
end
abbrev Cx.wish (X:Cx) (E:Value->Shared->Prop):Cx:={ X with xe:=E }
abbrev Cx.nox (X:Cx):Cx:=X.wish fun _ _=>False
theorem Cx.Ok.wish {X:Cx} (ok:X.Ok) (E:Value->Shared->Prop):(X.wish E).Ok :=
 ⟨ok.mod,ok.kind,ok.glob,ok.blt,ok.above,ok.inj,ok.has,ok.cab,ok.hd,ok.frames,ok.stk,ok.exf,ok.bs,ok.bsz,ok.noex,ok.exfs,ok.funs,ok.frf⟩
theorem Cx.Ok.unwish {X:Cx} {E:Value->Shared->Prop} (ok:(X.wish E).Ok):X.Ok :=
 ⟨ok.mod,ok.kind,ok.glob,ok.blt,ok.above,ok.inj,ok.has,ok.cab,ok.hd,ok.frames,ok.stk,ok.exf,ok.bs,ok.bsz,ok.noex,ok.exfs,ok.funs,ok.frf⟩
section
variable {X:Cx} {pins:List (Addr×Obj)} {Z:St} {H:Hp} {s:Shared} {E:Value->Shared->Prop}
theorem Inv.wish (I:Inv X pins Z H s) (E:Value->Shared->Prop):Inv (X.wish E) pins Z H s:=⟨I.ok.wish E,I.os,I.bare,I.base,I.loc,I.cell,I.free,I.freeC,I.pin,I.hok,I.len⟩
theorem Inv.unwish (I:Inv (X.wish E) pins Z H s):Inv X pins Z H s:=⟨I.ok.unwish,I.os,I.bare,I.base,I.loc,I.cell,I.free,I.freeC,I.pin,I.hok,I.len⟩
theorem SP.unwish {D:qiJ} {f:Flow} {s':Shared} (h:SP (X.wish E) pins D f s'):SP X pins D f s':=by
 cases f with
 | next=>obtain ⟨Z',H',I,q⟩:=h;exact ⟨Z',H',I.unwish,q⟩
 | brk=>obtain ⟨Z',H',I,q⟩:=h;exact ⟨Z',H',I.unwish,q⟩
 | cont=>obtain ⟨Z',H',I,q⟩:=h;exact ⟨Z',H',I.unwish,q⟩
 | ret u=>obtain ⟨v,Z',H',I,r,q⟩:=h;exact ⟨v,Z',H',I.unwish,r,q⟩
theorem PE.nox {e:Expr} {t:TE} (h:PE X.nox e t):PE X e t:=fun pins s Z H Q I hw =>
 wpAny_mono (h pins s Z H Q (I.wish _) hw) (fun _ _ ⟨v,H',I',r,q⟩=>⟨v,H',I'.unwish,r,q⟩) fun _ _ z=>False.elim z
theorem PT.nox {e:Expr} {t:TT} (h:PT X.nox e t):PT X e t:=fun pins s Z H Q I hw =>
 wpAny_mono (h pins s Z H Q (I.wish _) hw) (fun _ _ ⟨H',I',q⟩=>⟨H',I'.unwish,q⟩) fun _ _ z=>False.elim z
theorem PSs.nox {st:List Stmt} {t:TS} (h:PSs X.nox st t):PSs X st t:=fun pins s Z H D I hw =>
 wpAny_mono (h pins s Z H D (I.wish _) hw) (fun _ _ q=>q.unwish) fun _ _ z=>False.elim z
end
section
variable {X:Cx} {st:Stmt} {yK:List Stmt} {t u:TS} {e:Expr} {te:TE} {pos:Pos}
def qo7:TS:=fun D Z H=>D.nx Z H
def qqA (t u:TS):TS:=fun D Z H=>t { D with nx:=u D } Z H
theorem qk5:PSs X [] qo7:=fun _ _ Z H _ I h=>wpAny_execs_nil ⟨Z,H,I,h⟩
theorem qiR (h1:PS X st t) (h2:PSs X yK u):PSs X (st::yK) (qqA t u):=by
 intro pins s Z H D I h
 refine wpAny_execs_cons (thn (h1 pins s Z H { D with nx:=u D } I h) fun f s1 q => ?_)
 cases f with
 | next =>
  obtain ⟨Z',H',I',q⟩:=q
  exact h2 pins s1 Z' H' D I' q
 | ret v=>exact q
 | brk=>exact q
 | cont=>exact q
theorem qk6 (h1:PS X st t):PSs X [st] t:=by
 intro pins s Z H D I h
 refine wpAny_execs_cons (thn (h1 pins s Z H D I h) fun f s1 q => ?_)
 cases f with
 | next=>exact wpAny_execs_nil q
 | ret v=>exact q
 | brk=>exact q
 | cont=>exact q
theorem Inv.quiet {pins:List (Addr×Obj)} {Z:St} {H:Hp} {s:Shared} (I:Inv X pins Z H s):interactive X.env=false:=by simp [interactive,I.ok.kind]
def qo8 (te:TE):TS:=fun D Z H=>te Z H fun _ H1=>D.nx Z H1
theorem qk7 (he:PE X e te) (hs:swapsWith e none pos.line X.env=pure false:=by rfl):PS X (.Expr e pos) (qo8 te):=by
 intro pins s Z H D I h
 exact wpAny_Expr_any (thn (he pins s Z H _ I h) fun v s1 ⟨x,H1,I1,r1,q1⟩=>⟨Z,H1,I1,q1⟩) I.quiet hs
def qqB (te:TE):TS:=fun D Z H=>te Z H D.rt
theorem qka (he:PE X e te):PS X (.Return (some e) pos) (qqB te):=by
 intro pins s Z H D I h
 exact wpAny_Return_some (thn (he pins s Z H _ I h) fun v s1 ⟨x,H1,I1,r1,q1⟩=>⟨x,Z,H1,I1,r1,q1⟩)
def qqC (c:TT) (t u:TS):TS:=fun D Z H=>c Z H fun b H1=>if b=true then t D Z H1 else u D Z H1
theorem qo9 {c:Expr} {a b:List Stmt} {tc:TT} (hc:PT X c tc) (ha:PSs X a t) (hb:PSs X b u):PS X (.If c a b pos) (qqC tc t u):=by
 intro pins s Z H D I h
 refine wpAny_If (thn (hc pins s Z H _ I h) fun d s1 ⟨H1,I1,q1⟩ => ?_)
 cases d with
 | true=>exact ha pins s1 Z H1 D I1 q1
 | false=>exact hb pins s1 Z H1 D I1 q1
def qm2:TS:=fun _ _ _=>False
theorem qiS:PS X st qm2:=fun _ _ _ _ _ _ h=>h.elim
end
abbrev TG:=V->St->Hp->(St->Hp->Prop)->Prop
abbrev TGs:=List V->St->Hp->(St->Hp->Prop)->Prop
def PG (X:Cx) (target:Expr) (t:TG):Prop :=
 ∀ (pins:List (Addr×Obj)) (s:Shared) (Z:St) (H:Hp) (v:V) (u:Value) (Q:St->Hp->Prop),Inv X pins Z H s->jI v u->t v Z H Q ->
  wpAny (model X.prog X.w) X.A (assign target X.env u) (fun _ s'=>∃ Z' H',Inv X pins Z' H' s'/\Q Z' H') X.xe s
def PGs (X:Cx) (ts:List Expr) (t:TGs):Prop :=
 ∀ (pins:List (Addr×Obj)) (s:Shared) (Z:St) (H:Hp) (vs:List V) (us:List Value) (Q:St->Hp->Prop),Inv X pins Z H s->zd vs us->t vs Z H Q ->
  wpAny (model X.prog X.w) X.A (assignInOrder ((assignEach ts X.env).map (·.2)) us) (fun _ s'=>∃ Z' H',Inv X pins Z' H' s'/\Q Z' H') X.xe s
abbrev qpa:=V->V->V->Hp->(Hp->Prop)->Prop
def qpZ (X:Cx) (t:qpa):Prop :=
 ∀ (pins:List (Addr×Obj)) (s:Shared) (Z:St) (H:Hp) (o i v:V) (ov iv u:Value) (Q:Hp->Prop),Inv X pins Z H s->jI o ov->jI i iv->jI v u->t o i v H Q ->
  wpAny (model X.prog X.w) X.A (setItem ov iv u) (fun _ s'=>∃ H',Inv X pins Z H' s'/\Q H') X.xe s
section
variable {X:Cx} {pos:Pos}
def qm3 (i:Nat):TG:=fun v Z H Q=>Q (Z.set i (some v)) H
theorem qk8 {i:Nat} {x:Str} (hN:X.N.Nodup) (hi:X.N[i]? = some x) (hx:Loc X.env.scope x) (hf:X.fn x=true\/X.env.scope.names.lookup x=some .local:=by first | exact .inl rfl | exact .inr rfl | assumption):PG X (.Name x pos) (qm3 i):=by
 intro pins s Z H v u Q I r h
 exact wpAny_assign_Name (qbu I hN hi hx r (fun s' I'=>⟨_,H,I',h⟩) hf)
def qqD:TGs:=fun vs Z H Q=>vs=[]/\Q Z H
def qpb (t:TG) (u:TGs):TGs:=fun vs Z H Q=>∃ v r,vs=v::r/\t v Z H fun Z' H'=>u r Z' H' Q
theorem qk9:PGs X [] qqD:=by
 intro pins s Z H vs us Q I r h
 obtain ⟨e,h⟩:=h
 subst e
 cases r
 exact assignInOrder_nil ⟨Z,H,I,h⟩
theorem qiT {e:Expr} {es:List Expr} {t:TG} {u:TGs} (h1:PG X e t) (h2:PGs X es u)
  (hs:(assignEach (e::es) X.env).map (·.2)=assign e X.env::(assignEach es X.env).map (·.2):=by rfl):PGs X (e::es) (qpb t u):=by
 intro pins s Z H vs us Q I r h
 obtain ⟨v,vr,e1,h⟩:=h
 subst e1
 cases r with
 | cons r rr =>
  rw [hs]
  refine assignInOrder_cons (thn (h1 pins s Z H _ _ _ I r h) fun _ s1 ⟨Z1,H1,I1,q1⟩ => ?_)
  exact h2 pins s1 Z1 H1 _ _ Q I1 rr q1
def qqE (K:PySem.W.Frag) (n:Nat) (t:TGs):TG:=fun v Z H Q=>∃ a xs,v = .ref a/\SqT K H a xs/\xs.length=n/\t xs Z H Q
theorem qm4 {es:List Expr} {k:Nat} {t:TGs} {n:Nat} (hc:X.calm=true) (h:PGs X es t)
  (hn:(assignEach es X.env).length=n:=by rfl) (hst:(assignEach es X.env).findIdx? (·.1)=none:=by rfl):PG X (.Tuple es k pos) (qqE X.K n t):=by
 intro pins s Z H v u Q I r hw
 obtain ⟨a,xs,e1,hq,hl,hw⟩:=hw
 subst e1
 cases r
 obtain ⟨its,rv,ht,hz⟩:=I.tuple hq
 refine assign_Tuple_tuple (I.ok.hd hc) ht (by simp [hn,<- hl,rv.length]) hst fun h' hx => ?_
 have I1:Inv X pins Z H { s with heap:=h' }:=I.kept (t':=s.toks) fun b o e=>hx b o (Nat.ne_of_lt (Heap.lt_size e)) e
 exact h pins _ Z H xs _ Q I1 (by simpa using rv) hw
def qqF (to ti:TE) (t:qpa):TG:=fun v Z H Q=>to Z H fun o H1=>ti Z H1 fun i H2=>t o i v H2 fun H3=>Q Z H3
theorem qm5 {o i:Expr} {to ti:TE} {t:qpa} (ho:PE X o to) (hi:PE X i ti) (hs:qpZ X t)
  (ha:∀ v,assign (.Subscript o i pos) X.env v=(do
   let ov <- holding [v] (eval o X.env)
   let iv <- holding [v,ov] (eval i X.env)
   standAt pos
   holding [v,ov,iv] (setItem ov iv v)
   release [v,ov,iv] []):=by intro _;rfl):PG X (.Subscript o i pos) (qqF to ti t):=by
 intro pins s Z H v u Q I r h
 rw [ha]
 refine wpAny_bind (wpAny_holding (thn (ho pins s Z H _ I h) fun ov s1 ⟨x,H1,I1,r1,q1⟩ => ?_))
 refine wpAny_bind (wpAny_holding (thn (hi pins s1 Z H1 _ I1 q1) fun iv s2 ⟨y,H2,I2,r2,q2⟩ => ?_))
 refine wpAny_bind (wpAny_standAt (wpAny_bind (wpAny_holding (thn (hs pins s2 Z H2 x y v ov iv u _ I2 r1 r2 r q2) fun _ s3 ⟨H3,I3,q3⟩ => ?_))))
 exact wpAny_release ⟨Z,H3,I3,q3⟩
def qp0 (te:TE) (g:TG):TS:=fun D Z H=>te Z H fun x H1=>g x Z H1 D.nx
theorem qkb {tg e:Expr} {te:TE} {g:TG} (he:PE X e te) (hg:PG X tg g) (hs:swapsWithSole [tg] e pos.line X.env=pure false:=by rfl) (hw:swappedStores [tg] e X.env=pure none:=by rfl)
  (h1:(assignEach [tg] X.env).map (·.2)=[assign tg X.env]:=by rfl):PS X (.Assign [tg] e pos) (qp0 te g):=by
 intro pins s Z H D I h
 refine wpAny_Assign_stores (thn (he pins s Z H _ I h) fun v s1 ⟨x,H1,I1,r1,q1⟩ => ?_) hs hw
 rw [h1]
 exact thn (hg pins s1 Z H1 x v _ I1 r1 q1) fun _ s2 q=>q
theorem qkc {i:Nat} {x:Str} {e:Expr} {te:TE} {pos':Pos} (hN:X.N.Nodup) (hi:X.N[i]? = some x) (hx:Loc X.env.scope x) (he:PE X e te) (hs:swapsWith e (some (.Name x pos')) pos.line X.env=pure false:=by rfl) (hf:X.fn x=true\/X.env.scope.names.lookup x=some .local:=by first | exact .inl rfl | exact .inr rfl | assumption) :
  PS X (.Assign [.Name x pos'] e pos) (qp0 te (qm3 i)):=by
 intro pins s Z H D I h
 refine wpAny_Assign_Name (thn (he pins s Z H _ I h) fun v s1 ⟨y,H1,I1,r1,q1⟩ => ?_) hs
 exact qbu I1 hN hi hx r1 (fun s2 I2=>⟨_,H1,I2,q1⟩) hf
def qqG (i j:Nat) (ta:TA):TS:=fun D Z H=>ta Z H fun vs H1=>∃ v w,vs=[v,w]/\D.nx ((Z.set i (some v)).set j (some w)) H1
theorem qm6 {i j:Nat} {x y:Str} {a b:Expr} {ta:TA} {px py pt:Pos} {kt k2 pt2} (hc:X.calm=true) (hN:X.N.Nodup) (hi:X.N[i]? = some x) (hj:X.N[j]? = some y) (hij:i≠j)
  (hx:X.env.scope.names.lookup x=some .local) (hy:X.env.scope.names.lookup y=some .local) (ha:PA X [a,b] ta)
  (hw:swappedStores [.Tuple [.Name x px,.Name y py] kt pt] (.Tuple [a,b] k2 pt2) X.env=pure (some [x,y]))
  (hs:swapsWithSole [.Tuple [.Name x px,.Name y py] kt pt] (.Tuple [a,b] k2 pt2) pos.line X.env=pure false:=by rfl) :
  PS X (.Assign [.Tuple [.Name x px,.Name y py] kt pt] (.Tuple [a,b] k2 pt2) pos) (qqG i j ta):=by
 intro pins s Z H D I h
 rw [exec_Assign_arm]
 refine wpAny_bind (wpAny_standAt ?_)
 rw [hs]
 refine wpAny_bind (wpAny_pure ?_)
 rw [if_neg (by decide)]
 refine wpAny_bind (Tuple_ (thn (ha _ pins s Z H _ I h) fun us s1 ⟨vs,H1,I1,r1,q1⟩ => ?_))
 obtain ⟨v,w,e1,q1⟩:=q1
 subst e1
 obtain ⟨u1,u2,rfl,rv,rw'⟩:∃ u1 u2,us=[u1,u2]/\jI v u1/\jI w u2:=by
  cases r1 with
  | cons p q =>
   cases q with
   | cons p' q' =>
    cases q'
    exact ⟨_,_,rfl,p,p'⟩
 refine wpAny_newObj_type ?_ (by show 2<=sizeLine;decide)
 have I2:Inv X pins Z H1 { s1 with heap:=s1.heap.push { cls := .type "tuple",data := .seq [u1,u2].toArray } }:=I1.kept (t':=s1.toks) fun b o e=>Heap.get?_push_of_some _ e
 rw [hw]
 refine wpAny_bind (wpAny_pure ?_)
 show wpAny (model X.prog X.w) X.A (do rule "assign.swapped-stores";let items <- unpackItems (.ref s1.heap.objs.size) 2 none;assignInOrder [fun v=>bindName X.env y v,fun v=>bindName X.env x v] items.reverse;pure Flow.next) _ _ _
 refine wpAny_bind (wpAny_rule (wpAny_bind (unpackItems_tuple (items := #[u1,u2]) (I.ok.hd hc) (IsTup.new s1.heap _) fun h' hx' => ?_)))
 have I3:=I2.kept (h':=h') (t':=s1.toks) fun b o e=>hx' b o (Nat.ne_of_lt (Heap.lt_size e)) e
 show wpAny _ _ (assignInOrder [fun v=>bindName X.env y v,fun v=>bindName X.env x v] [u2,u1] >>= fun _=>pure Flow.next) _ _ _
 refine wpAny_bind (assignInOrder_cons (wpAny_bindName (qbu I3 hN hj (.inl hy) rw' (fun s2 I4 => ?_) (.inr hy))))
 refine assignInOrder_cons (wpAny_bindName (qbu I4 hN hi (.inl hx) rv (fun s3 I5=>assignInOrder_nil (wpAny_pure ?_)) (.inr hx)))
 rw [List.set_comm _ _ (Ne.symm hij)] at I5
 exact ⟨_,H1,I5,q1⟩
end
section
variable {X:Cx} {pos:Pos}
def qm7 (c:TT) (tb:TS):TS:=fun D Z H=>∃ W:Nat->St->Hp->Prop,(∃ m,W m Z H)/\∀ m Z H,W m Z H ->
 c Z H fun b H1=>if b=true then ∃ N:St->Hp->Prop,(∀ Z' H',N Z' H'->∃ m',m'<m/\W m' Z' H')/\tb { D with nx:=N,ct:=N,bk:=D.nx } Z H1 else D.nx Z H1
theorem qiU {c:Expr} {body:List Stmt} {tc:TT} {tb:TS} (hp:PassesOwn (model X.prog X.w) X.A X.env X.xe) (hc:PT X c tc) (hb:PSs X body tb):PS X (.While c body [] pos) (qm7 tc tb):=by
 intro pins s Z H D I h
 obtain ⟨W,⟨m0,w0⟩,turn⟩:=h
 refine wpAny_While (codeAny_whileLoop (fun n s'=>∃ Z' H',Inv X pins Z' H' s'/\W n Z' H') ?_ m0 ⟨Z,H,I,w0⟩)
 rintro n s1 ⟨Z1,H1,I1,w1⟩
 refine wpAny_passesOwn hp (thn (hc pins s1 Z1 H1 _ I1 (turn n Z1 H1 w1)) fun b s2 ⟨H2,I2,q2⟩ => ?_)
 cases b with
 | true =>
  obtain ⟨N,hN,q2⟩:=q2
  rw [if_pos rfl]
  refine wpAny_passesOwn hp (thn (hb pins s2 Z1 H2 _ I2 q2) fun f s3 q3 => ?_)
  cases f with
  | next =>
   obtain ⟨Z3,H3,I3,n3⟩:=q3
   obtain ⟨m',hm,w3⟩:=hN Z3 H3 n3
   exact ⟨m',hm,Z3,H3,I3,w3⟩
  | cont =>
   obtain ⟨Z3,H3,I3,n3⟩:=q3
   obtain ⟨m',hm,w3⟩:=hN Z3 H3 n3
   exact ⟨m',hm,Z3,H3,I3,w3⟩
  | brk=>exact q3
  | ret v=>exact q3
 | false =>
  rw [if_neg Bool.false_ne_true]
  exact wpAny_execs_nil ⟨Z1,H2,I2,q2⟩
end
structure It where
 go:Nat->Hp->Prop
 yld:Nat->Hp->V->Hp->Prop
 stop:Nat->Hp->Prop
def qeK (X:Cx) (pins:List (Addr×Obj)) (H:Hp) (b:Addr):Prop :=
 H b=none/\b≠X.env.locals/\b ∉ X.fs/\(b∈X.ex\/X.s₀.heap.objs.size<=b)/\(∀ x c,X.env.cells.lookup x=some c->c≠b)/\∀ p∈X.pn++pins,p.1≠b
theorem Inv.fpOk {X:Cx} {pins:List (Addr×Obj)} {Z:St} {H H':Hp} {s:Shared} {b:Addr} (I:Inv X pins Z H s) (hb:s.heap.objs.size<=b) (hn:H' b=none):qeK X pins H' b:=by
 refine ⟨hn,Nat.ne_of_gt (Nat.lt_of_lt_of_le I.lt hb),I.nofs hb,.inr (Nat.le_trans I.sz hb),fun x c e z => ?_,fun p hp z => ?_⟩
 ·obtain ⟨v,q⟩:=I.cell x c e
  exact absurd (Nat.lt_of_lt_of_le q.lt (by rw [z];exact hb)) (Nat.lt_irrefl _)
 ·exact absurd (Nat.lt_of_lt_of_le (Heap.lt_size (I.pin p hp).1) (by rw [z];exact hb)) (Nat.lt_irrefl _)
structure qla (P:Program) (w:World) (K:PySem.W.Frag) (tg:Expr) (J:It) (fp:List Addr) (it:Addr) (tn:Nat->Heap->Prop):Prop where
 mem:it∈fp
 obj:∀ i h,tn i h->∀ b∈fp,∃ o,h.get? b=some o/\∀ v,o.data ≠ .cell v
 keep:∀ i h h',tn i h->(∀ b∈fp,∀ o,h.get? b=some o->h'.get? b=some o)->tn i h'
 item:∀ (X:Cx),X.prog=P->X.w=w->X.K=K->X.calm=true->∀ (i:Nat) (pins:List (Addr×Obj)) (s:Shared) (Z:St) (H:Hp) (E:Value->Shared->Prop),Inv X pins Z H s->(∀ b∈fp,qeK X pins H b)->tn i s.heap->J.go i H ->
  wpAny (model P w) X.A (pyNext (.ref it)) (fun r s1=>∃ u,r=some u /\
   wpAny (model P w) X.A (letOwnedTupleGo tg (.ref it) u) (fun _ s2=>∃ x H',Inv X pins Z H' s2/\jI x u/\J.yld i H x H'/\tn (i+1) s2.heap/\∀ b∈fp,H' b=none) E s1) E s
 done:∀ (X:Cx),X.prog=P->X.w=w->X.K=K->X.calm=true->∀ (i:Nat) (pins:List (Addr×Obj)) (s:Shared) (Z:St) (H:Hp) (E:Value->Shared->Prop),Inv X pins Z H s->(∀ b∈fp,qeK X pins H b)->tn i s.heap->J.stop i H ->
  wpAny (model P w) X.A (pyNext (.ref it)) (fun r s1=>r=none/\Inv X pins Z H s1) E s
 self:∀ (A:Around) (i:Nat) (s:Shared) (Q:Value->Shared->Prop) (E:Value->Shared->Prop),tn i s.heap->Q (.ref it) s->wpAny (model P w) A (pyIter (.ref it)) Q E s
abbrev TI:=St->Hp->(It->Hp->Prop)->Prop
def PIE (X:Cx) (pins:List (Addr×Obj)) (Z:St) (tg:Expr) (R:It->Hp->Prop) (itv:Value) (s2:Shared):Prop :=
 ∃ (it:Addr) (fp:List Addr) (tn:Nat->Heap->Prop) (J:It) (H':Hp),itv = .ref it/\Inv X pins Z H' s2/\qla X.prog X.w X.K tg J fp it tn/\tn 0 s2.heap/\(∀ b∈fp,qeK X pins H' b)/\R J H'
def PI (X:Cx) (tg iter:Expr) (wi:TI):Prop :=
 ∀ (pins:List (Addr×Obj)) (s:Shared) (Z:St) (H:Hp) (R:It->Hp->Prop),Inv X pins Z H s->wi Z H R ->
  wpAny (model X.prog X.w) X.A (eval iter X.env) (fun v s1=>wpAny (model X.prog X.w) X.A (pyIter v) (PIE X pins Z tg R) X.xe s1) X.xe s
theorem qiV {M:Model} {A:Around} {E:Value->Shared->Prop} {s:Shared} {tg:Expr} {it:Addr} {u:Value} {o:Obj} {n:String} {vs:Array Value} {Q:Unit->Shared->Prop} (ho:s.heap.get? it=some o) (hc:o.cls = .type n) (hd:o.data = .fields vs)
  (hn:["enumerate","zip","dict_itemiterator","dict_reverseitemiterator","odict_iterator","itertools.zip_longest","itertools.pairwise"].contains n=false) (hQ:Q () s):wpAny M A (letOwnedTupleGo tg (.ref it) u) Q E s:=by
 unfold letOwnedTupleGo
 cases tg<;>first
  | exact wpAny_pure hQ
  | (cases u<;>first
    | exact wpAny_pure hQ
    | (refine wpAny_bind (wpAny_load ho ?_)
       rw [hc,hd]
       show wpAny M A (if (["enumerate","zip","dict_itemiterator","dict_reverseitemiterator","odict_iterator","itertools.zip_longest","itertools.pairwise"].contains n&&vs[0]? == some (rawInt _))=true then _ else _) Q E s
       rw [if_neg (by intro h;rw [hn,Bool.false_and] at h;cases h)]
       exact wpAny_pure hQ))
def Itl (K:PySem.W.Frag) (a:Addr):It :=
 ⟨fun i H=>∃ xs x,SqL K H a xs/\xs[i]? = some x,fun i H x H'=>H'=H/\∀ xs,SqL K H a xs->xs[i]? = some x,fun i H=>∃ xs,SqL K H a xs/\xs.length<=i⟩
def Itt (K:PySem.W.Frag) (a:Addr):It :=
 ⟨fun i H=>∃ xs x,SqT K H a xs/\xs[i]? = some x,fun i H x H'=>H'=H/\∀ xs,SqT K H a xs->xs[i]? = some x,fun i H=>∃ xs,SqT K H a xs/\xs.length<=i⟩
def Itr (lo:Int) (n:Nat):It:=⟨fun i _=>i<n,fun i H x H'=>H'=H/\x = .int (lo+i),fun i _=>n<=i⟩
theorem qgU {P:Program} {w:World} {K:PySem.W.Frag} {tg:Expr} (a it:Addr):qla P w K tg (Itl K a) [it] it (fun i h=>h.IsListIter it a i) where
 mem:=by simp
 obj:=fun i h st b hb=>by
  have e:b=it:=by simpa using hb
  subst e
  obtain ⟨o,e,c,d⟩:=st
  exact ⟨o,e,fun v z=>by rw [d] at z;cases z⟩
 keep:=fun i h h' st k=>st.at fun o e=>k it (by simp) o e
 item:=by
  intro X hP hw hK hc i pins s Z H E I hf st hg
  subst hP hw hK
  obtain ⟨xs,x,hq,hx⟩:=hg
  obtain ⟨its,rv,p,hz⟩:=I.list hq
  obtain ⟨u,hu,ru⟩:=rv.get hx
  obtain ⟨f0,f1,f2,f3,f4,f5⟩:=hf it (by simp)
  refine wpAny_pyNext_list_item st p.isList (x:=u) (by simpa using hu) fun h' st' sb => ?_
  have I1:Inv X pins Z H { s with heap:=h' }:=I.turned (t':=s.toks) (fun b o hb e=>(sb.2 b hb).trans e) f0 f1 f3 f4 f5
  obtain ⟨o,e,c,d⟩:=id st'
  exact ⟨u,rfl,qiV (s:={ s with heap:=h' }) e c d (by decide) ⟨x,H,I1,ru,⟨rfl,fun ys hy=>by rw [I.list_inj hy hq];exact hx⟩,st',fun b hb=>(hf b hb).1⟩⟩
 done:=by
  intro X hP hw hK hc i pins s Z H E I hf st hg
  subst hP hw hK
  obtain ⟨xs,hq,hx⟩:=hg
  obtain ⟨its,rv,p,hz⟩:=I.list hq
  obtain ⟨f0,f1,f2,f3,f4,f5⟩:=hf it (by simp)
  have hl:=rv.length
  exact wpAny_pyNext_list_end (I.ok.hd hc) st p.isList (by simp;omega) fun h' eb=>⟨rfl,I.turned (t':=s.toks) (fun b o hb e=>eb b o hb e) f0 f1 f3 f4 f5⟩
 self:=fun _ _ _ _ _ st h=>wpAny_pyIter_listiter st h
theorem qgi {P:Program} {w:World} {K:PySem.W.Frag} {tg:Expr} (a it:Addr):qla P w K tg (Itt K a) [it] it (fun i h=>h.IsTupleIter it a i) where
 mem:=by simp
 obj:=fun i h st b hb=>by
  have e:b=it:=by simpa using hb
  subst e
  obtain ⟨o,e,c,d⟩:=st
  exact ⟨o,e,fun v z=>by rw [d] at z;cases z⟩
 keep:=fun i h h' st k=>st.at fun o e=>k it (by simp) o e
 item:=by
  intro X hP hw hK hc i pins s Z H E I hf st hg
  subst hP hw hK
  obtain ⟨xs,x,hq,hx⟩:=hg
  obtain ⟨its,rv,p,hz⟩:=I.tuple hq
  obtain ⟨u,hu,ru⟩:=rv.get hx
  obtain ⟨f0,f1,f2,f3,f4,f5⟩:=hf it (by simp)
  refine wpAny_pyNext_tuple_item st (show s.heap.IsTuple a its.toArray from p) (x:=u) (by simpa using hu) fun h' st' sb => ?_
  have I1:Inv X pins Z H { s with heap:=h' }:=I.turned (t':=s.toks) (fun b o hb e=>(sb.2 b hb).trans e) f0 f1 f3 f4 f5
  obtain ⟨o,e,c,d⟩:=id st'
  exact ⟨u,rfl,qiV (s:={ s with heap:=h' }) e c d (by decide) ⟨x,H,I1,ru,⟨rfl,fun ys hy=>by rw [I.tuple_inj hy hq];exact hx⟩,st',fun b hb=>(hf b hb).1⟩⟩
 done:=by
  intro X hP hw hK hc i pins s Z H E I hf st hg
  subst hP hw hK
  obtain ⟨xs,hq,hx⟩:=hg
  obtain ⟨its,rv,p,hz⟩:=I.tuple hq
  obtain ⟨f0,f1,f2,f3,f4,f5⟩:=hf it (by simp)
  have hl:=rv.length
  exact wpAny_pyNext_tuple_end (I.ok.hd hc) st (show s.heap.IsTuple a its.toArray from p) (by simp;omega) fun h' eb=>⟨rfl,I.turned (t':=s.toks) (fun b o hb e=>eb b o hb e) f0 f1 f3 f4 f5⟩
 self:=fun _ _ _ _ _ st h=>wpAny_pyIter_tupleiter st h
theorem qgj {P:Program} {w:World} {K:PySem.W.Frag} {tg:Expr} (it:Addr) (lo:Int) (n:Nat):qla P w K tg (Itr lo n) [it] it (fun i h=>IsRangeIter h it (lo+(i:Nat)*1) ((n:Int)-(i:Nat)) 1) where
 mem:=by simp
 obj:=fun i h st b hb=>by
  have e:b=it:=by simpa using hb
  subst e
  exact ⟨_,st,fun v z=>by
   have z':Data.fields _=Data.cell v:=z
   cases z'⟩
 keep:=fun i h h' st k=>k it (by simp) _ st
 item:=by
  intro X hP hw hK hc i pins s Z H E I hf st hg
  subst hP hw hK
  obtain ⟨f0,f1,f2,f3,f4,f5⟩:=hf it (by simp)
  have W:=Walks.range (prog:=X.prog) (w:=X.w) (I.ok.hd hc) it lo 1 n
  refine W.item i s _ _ hg st fun v h' tk hv st' kk => ?_
  obtain ⟨t,rfl⟩:=hv
  have I1:Inv X pins Z H { s with heap:=h',toks:=tk }:=I.turned (fun b o hb e=>kk b o (by simpa using hb) e) f0 f1 f3 f4 f5
  refine ⟨_,rfl,qiV (s:={ s with heap:=h',toks:=tk }) (n:="range_iterator") st' rfl rfl (by decide) ⟨.int (lo+i),H,I1,⟨t,?_⟩,⟨rfl,rfl⟩,st',fun b hb=>(hf b hb).1⟩⟩
  rw [Int.mul_one]
 done:=by
  intro X hP hw hK hc i pins s Z H E I hf st hg
  subst hP hw hK
  obtain ⟨f0,f1,f2,f3,f4,f5⟩:=hf it (by simp)
  exact wpAny_pyNext_range_end (I.ok.hd hc) st (by have:n<=i:=hg;omega) fun h' eb=>⟨rfl,I.turned (t':=s.toks) (fun b o hb e=>eb b o hb e) f0 f1 f3 f4 f5⟩
 self:=fun _ _ _ _ _ st h=>wpAny_pyIter_rangeiter st h
end L2
namespace L2
open PySem PySem.Spec PyProof.Rows
section
variable {X:Cx} {tg:Expr}
theorem qiW {pins:List (Addr×Obj)} {Z:St} {H:Hp} {s:Shared} {R:It->Hp->Prop} {E:Value->Shared->Prop} {lo hi:Int} {t u v:Tok} {tk:Nat} (I:Inv X pins Z H s) (h1 : -(2 ^ 62)<=lo) (h2:lo<2 ^ 62) (h3 : -(2 ^ 62)<=hi) (h4:hi<2 ^ 62)
  (q:R (Itr lo (hi-lo).toNat) H):wpAny (model X.prog X.w) X.A (pyIter (.ref s.heap.objs.size)) (PIE X pins Z tg R) E { s with heap:=s.heap.push { cls := .type "range",data := .fields #[.int lo t,.int hi u,.int 1 v] },toks:=tk }:=by
 refine wpAny_pyIter_range (IsRange.new ..) (small_one h1 h2 h3 h4) ?_
 have I1:Inv X pins Z H { s with heap:=s.heap.push { cls := .type "range",data := .fields #[.int lo t,.int hi u,.int 1 v] },toks:=tk }:=I.kept fun b o e=>Heap.get?_push_of_some _ e
 refine ⟨(s.heap.push { cls := .type "range",data := .fields #[.int lo t,.int hi u,.int 1 v] }).objs.size,[(s.heap.push { cls := .type "range",data := .fields #[.int lo t,.int hi u,.int 1 v] }).objs.size],_,_,H,rfl,
  I1.kept (t':=tk) fun b o e=>Heap.get?_push_of_some _ e,qgj _ lo (hi-lo).toNat,?_,fun b hb => ?_,q⟩
 ·have e1:lo+((0:Nat):Int)*1=lo:=by simp
  have e2:(((hi-lo).toNat:Nat):Int)-((0:Nat):Int)=Builtin.Range.rangeSize lo hi 1:=by rw [rangeSize_one];split<;>omega
  show IsRangeIter _ _ (lo+((0:Nat):Int)*1) ((((hi-lo).toNat:Nat):Int)-((0:Nat):Int)) 1
  rw [e1,e2]
  exact Heap.get?_push_size _ rfl
 ·have e:b=(s.heap.push { cls := .type "range",data := .fields #[.int lo t,.int hi u,.int 1 v] }).objs.size:=by simpa using hb
  subst e
  exact I1.fpOk (Nat.le_refl _) (I1.hok.fresh (Nat.le_refl _))
def qpc (ta:TA):TI:=fun Z H R=>ta Z H fun vs H1=>∃ j:Int,vs=[.int j] /\ -(2 ^ 62)<=j/\j<2 ^ 62/\R (Itr 0 j.toNat) H1
theorem qgV {a:Expr} {ta:TA} {p pos:Pos} (hg:Gl X "range") (hm:X.mg "range"=none) (ha:PA X [a] ta) (hs:starEach [a] X.env=[(false,eval a X.env)]:=by rfl):PI X tg (.Call (.Name "range" p) [a] [] pos) (qpc ta):=by
 intro pins s Z H R I h
 refine Call_ (qa5 I hg hm boot_range (PyProof.Rows.callWith_type1 (thn (ha pos pins s Z H _ I h) fun us s1 ⟨vs,H1,I1,r1,q1⟩ => ?_) hs rfl))
 obtain ⟨j,e,q1,q2,q⟩:=q1
 subst e
 cases r1 with
 | cons r rr =>
  cases rr
  obtain ⟨t,rfl⟩:=r
  exact call_range_1 (qiW I1 (by omega) (by omega) q1 q2 (by simpa using q))
def qqH (wi:TI) (g:TG) (tb:TS):TS:=fun D Z H=>wi Z H fun J H1=>∃ W:Nat->Nat->St->Hp->Prop,(∃ m,W 0 m Z H1)/\∀ i m Z H,W i m Z H ->
 (J.stop i H/\D.nx Z H)\/(J.go i H/\∃ N:St->Hp->Prop,(∀ Z' H',N Z' H'->∃ m',m'<m/\W (i+1) m' Z' H')/\∀ x H',J.yld i H x H'->g x Z H' fun Z2 H2=>tb { D with nx:=N,ct:=N,bk:=D.nx } Z2 H2)
def qcH (fp:List Addr) (h:Heap):List (Addr×Obj):=fp.filterMap fun b=>(h.get? b).map fun o=>(b,o)
theorem yW {fp:List Addr} {h:Heap} {b:Addr} {o:Obj} (hb:b∈fp) (e:h.get? b=some o):(b,o)∈qcH fp h:=List.mem_filterMap.mpr ⟨b,hb,by rw [e];rfl⟩
theorem qgW {fp:List Addr} {h:Heap} {p:Addr×Obj} (hp:p∈qcH fp h):p.1∈fp/\h.get? p.1=some p.2:=by
 obtain ⟨b,hb,e⟩:=List.mem_filterMap.mp hp
 cases q:h.get? b with
 | none=>rw [q] at e;cases e
 | some o =>
  rw [q] at e
  have e':(b,o)=p:=Option.some.inj e
  subst e'
  exact ⟨hb,q⟩
theorem Inv.pinned {pins:List (Addr×Obj)} {Z:St} {H:Hp} {s:Shared} {fp:List Addr} (I:Inv X pins Z H s) (hf:∀ b∈fp,qeK X pins H b) (ho:∀ b∈fp,∃ o,s.heap.get? b=some o/\∀ v,o.data ≠ .cell v):Inv X (pins++qcH fp s.heap) Z H s :=
 I.pins_of fun p hp=>(mA_.mp hp).elim (fun z=>I.pin p (mr_ _ z)) fun z=>by
  obtain ⟨hb,e⟩:=qgW z
  obtain ⟨f0,f1,f2,_⟩:=hf p.1 hb
  obtain ⟨o,e',d⟩:=ho p.1 hb
  rw [e] at e';cases e'
  exact ⟨e,f0,f1,f2,d⟩
theorem Inv.unpinned {pins pl:List (Addr×Obj)} {Z:St} {H:Hp} {s:Shared} (I:Inv X (pins++pl) Z H s):Inv X pins Z H s:=I.pins_of fun p hp=>I.pin p (mr_ _ (List.mem_append_left _ hp))
theorem qm8 {iter:Expr} {body:List Stmt} {wi:TI} {g:TG} {tb:TS} {pos:Pos} (hp:PassesOwn (model X.prog X.w) X.A X.env X.xe) (hc:X.calm=true) (hi:PI X tg iter wi) (hg:PG X tg g) (hb:PSs X body tb)
  (hs:∀ x,foldedSetIterable iter X.env x=pure x:=by intro _;rfl):PS X (.For tg iter body [] pos) (qqH wi g tb):=by
 intro pins s Z H D I h
 refine wpAny_For (thn (hi pins s Z H _ I h) fun v s1 h1=>thn h1 fun itv s2 h2 => ?_) hs
 obtain ⟨it,fp,tn,J,H2,e,I2,T,st2,f2,W,⟨m0,w0⟩,turn⟩:=h2
 subst e
 have stat:∀ {H':Hp},(∀ b∈fp,H' b=none)->∀ b∈fp,qeK X pins H' b:=fun hn b hb=>⟨hn b hb,(f2 b hb).2⟩
 refine codeAny_forLoop_any (fun n s'=>∃ i Z' H',Inv X pins Z' H' s'/\tn i s'.heap/\(∀ b∈fp,H' b=none)/\W i n Z' H') ?_ m0 ⟨0,Z,H2,I2,st2,fun b hb=>(f2 b hb).1,w0⟩
 rintro n s3 ⟨i,Z3,H3,I3,st3,fr3,w3⟩
 rcases turn i n Z3 H3 w3 with ⟨stop,qn⟩ | ⟨go,N,hN,step⟩
 ·refine wpAny_passesOwn hp (thn (T.done X rfl rfl rfl hc i pins s3 Z3 H3 X.xe I3 (stat fr3) st3 stop) fun r s4 ⟨hr,I4⟩ => ?_)
  subst hr
  exact wpAny_execs_nil ⟨Z3,H3,I4,qn⟩
 ·refine wpAny_passesOwn hp (thn (T.item X rfl rfl rfl hc i pins s3 Z3 H3 X.xe I3 (stat fr3) st3 go) fun r s4 ⟨u,hr,h4⟩ => ?_)
  subst hr
  refine wpAny_passesOwn hp (thn h4 fun _ s5 ⟨x,H5,I5,r5,y5,st5,fr5⟩ => ?_)
  have I5':=I5.pinned (stat fr5) (T.obj _ _ st5)
  refine wpAny_passesOwn hp (thn (hg _ s5 Z3 H5 x u _ I5' r5 (step x H5 y5)) fun _ s6 ⟨Z6,H6,I6,q6⟩ => ?_)
  refine wpAny_passesOwn hp (thn (hb _ s6 Z6 H6 _ I6 q6) fun f s7 q7 => ?_)
  have again:∀ {Z7:St} {H7:Hp},Inv X (pins++qcH fp s5.heap) Z7 H7 s7->N Z7 H7->∃ m,m<n/\∃ i Z' H',Inv X pins Z' H' s7/\tn i s7.heap/\(∀ b∈fp,H' b=none)/\W i m Z' H':=fun {Z7 H7} I7 n7=>by
   obtain ⟨m',hm,w7⟩:=hN Z7 H7 n7
   refine ⟨m',hm,i+1,Z7,H7,I7.unpinned,T.keep _ _ _ st5 fun b hb o e=>(I7.pin (b,o) (mr_ _ (mr_ _ (yW hb e)))).1,fun b hb => ?_,w7⟩
   obtain ⟨o,e,d⟩:=T.obj _ _ st5 b hb
   exact (I7.pin (b,o) (mr_ _ (mr_ _ (yW hb e)))).2.1
  cases f with
  | next=>obtain ⟨Z7,H7,I7,n7⟩:=q7;exact again I7 n7
  | cont=>obtain ⟨Z7,H7,I7,n7⟩:=q7;exact again I7 n7
  | brk=>obtain ⟨Z7,H7,I7,q7⟩:=q7;exact ⟨Z7,H7,I7.unpinned,q7⟩
  | ret v=>obtain ⟨x7,Z7,H7,I7,r7,q7⟩:=q7;exact ⟨x7,Z7,H7,I7.unpinned,r7,q7⟩
end
end L2
namespace L2
open PySem PySem.Spec PyProof.Rows
abbrev R2:=V->V->Hp->VK->Prop
def OpR (X:Cx) (f:Value->Value->Sem Value) (r:R2):Prop :=
 ∀ (pins:List (Addr×Obj)) (s:Shared) (Z:St) (H:Hp) (x y:V) (v u:Value) (Q:VK),Inv X pins Z H s->jI x v->jI y u->r x y H Q ->
  wpAny (model X.prog X.w) X.A (f v u) (EP X pins Z Q) X.xe s
def UnR (X:Cx) (f:Value->Sem Value) (r:V->Hp->VK->Prop):Prop :=
 ∀ (pins:List (Addr×Obj)) (s:Shared) (Z:St) (H:Hp) (x:V) (v:Value) (Q:VK),Inv X pins Z H s->jI x v->r x H Q ->
  wpAny (model X.prog X.w) X.A (f v) (EP X pins Z Q) X.xe s
def uD (X:Cx) (f:Value) (r:List V->Hp->VK->Prop):Prop :=
 ∀ (pins:List (Addr×Obj)) (s:Shared) (Z:St) (H:Hp) (xs:List V) (us:List Value) (Q:VK),Inv X pins Z H s->zd xs us->r xs H Q ->
  wpAny (model X.prog X.w) X.A (call f us) (EP X pins Z Q) X.xe s
def tOp (r:R2) (ta tb:TE):TE:=fun Z H Q=>ta Z H fun x H1=>tb Z H1 fun y H2=>r x y H2 Q
def tUn (r:V->Hp->VK->Prop) (ta:TE):TE:=fun Z H Q=>ta Z H fun x H1=>r x H1 Q
def rI (C:Int->Int->Prop) (g:Int->Int->V):R2:=fun x y H Q=>∃ i j,x = .int i/\y = .int j/\C i j/\Q (g i j) H
def rI0 (g:Int->Int->V):R2:=fun x y H Q=>∃ i j,x = .int i/\y = .int j/\Q (g i j) H
def rU (g:Int->V):V->Hp->VK->Prop:=fun x H Q=>∃ i,x = .int i/\Q (g i) H
section
variable {X:Cx} {a b c:Expr} {ta tb tc:TE} {pos:Pos}
theorem qpd (ha:PE X a ta) (hb:PE X b tb) {pins:List (Addr×Obj)} {s:Shared} {Z:St} {H:Hp} {R:V->V->Hp->Prop} (I:Inv X pins Z H s)
  (h:ta Z H fun x H1=>tb Z H1 fun y H2=>R x y H2) {Q:Value->Shared->Prop} {f:Value->Value->Sem Value}
  (hf:∀ v u s2 x y H2,Inv X pins Z H2 s2->jI x v->jI y u->R x y H2->wpAny (model X.prog X.w) X.A (f v u) Q X.xe s2) :
  wpAny (model X.prog X.w) X.A (eval a X.env) (fun v sJ=>wpAny (model X.prog X.w) X.A (eval b X.env) (fun u sK=>wpAny (model X.prog X.w) X.A (f v u) Q X.xe sK) X.xe sJ) X.xe s:=by
 refine thn (ha pins s Z H _ I h) fun v s1 ⟨x,H1,I1,r1,q1⟩ => ?_
 refine thn (hb pins s1 Z H1 _ I1 q1) fun u s2 ⟨y,H2,I2,r2,q2⟩ => ?_
 exact hf v u s2 x y H2 I2 r1 r2 q2
theorem qm9 {op:Operator} {r:R2} (ho:OpR X (binaryOp op) r) (ha:PE X a ta) (hb:PE X b tb):PE X (.BinOp a op b pos) (tOp r ta tb):=by
 intro pins s Z H Q I h
 exact wpAny_BinOp (qpd ha hb I h fun v u s2 x y H2 I2 rx ry q=>ho pins s2 Z H2 x y v u Q I2 rx ry q)
theorem qpe {op:UnaryOp} {r:V->Hp->VK->Prop} (ho:UnR X (unaryOp op) r) (ha:PE X a ta):PE X (.UnaryOp op a pos) (tUn r ta):=by
 intro pins s Z H Q I h
 exact UnaryOp_ (thn (ha pins s Z H _ I h) fun v s1 ⟨x,H1,I1,r1,q1⟩=>ho pins s1 Z H1 x v Q I1 r1 q1)
theorem opI {f:Value->Value->Sem Value} {C:Int->Int->Prop} {g:Int->Int->Int}
  (rule:∀ (i j:Int) (t u:Tok) (s:Shared) (Q:Value->Shared->Prop) (E:Value->Shared->Prop),C i j->Q (.int (g i j) s.toks) { s with toks:=s.toks+1 }->wpAny (model X.prog X.w) X.A (f (.int i t) (.int j u)) Q E s) :
  OpR X f (rI C fun i j => .int (g i j)):=by
 intro pins s Z H x y v u Q I rx ry h
 obtain ⟨i,j,rfl,rfl,hc,q⟩:=h
 obtain ⟨t,rfl⟩:=rx
 obtain ⟨t',rfl⟩:=ry
 exact rule i j t t' s _ _ hc ⟨.int (g i j),H,I.tok _,⟨_,rfl⟩,q⟩
theorem qp1 {f:Value->Value->Sem Value} {g:Int->Int->Int}
  (rule:∀ (i j:Int) (t u:Tok) (s:Shared) (Q:Value->Shared->Prop) (E:Value->Shared->Prop),Q (.int (g i j) s.toks) { s with toks:=s.toks+1 }->wpAny (model X.prog X.w) X.A (f (.int i t) (.int j u)) Q E s) :
  OpR X f (rI0 fun i j => .int (g i j)):=by
 intro pins s Z H x y v u Q I rx ry h
 obtain ⟨i,j,rfl,rfl,q⟩:=h
 obtain ⟨t,rfl⟩:=rx
 obtain ⟨t',rfl⟩:=ry
 exact rule i j t t' s _ _ ⟨.int (g i j),H,I.tok _,⟨_,rfl⟩,q⟩
theorem qoO {f:Value->Value->Sem Value} {g:Int->Int->Bool}
  (rule:∀ (i j:Int) (t u:Tok) (s:Shared) (Q:Value->Shared->Prop) (E:Value->Shared->Prop),Q (.bool (g i j)) s->wpAny (model X.prog X.w) X.A (f (.int i t) (.int j u)) Q E s) :
  OpR X f (rI0 fun i j => .bl (g i j)):=by
 intro pins s Z H x y v u Q I rx ry h
 obtain ⟨i,j,rfl,rfl,q⟩:=h
 obtain ⟨t,rfl⟩:=rx
 obtain ⟨t',rfl⟩:=ry
 exact rule i j t t' s _ _ ⟨.bl (g i j),H,I,rfl,q⟩
def qna (i j:Int):Prop:=0<j/\j<1606938044258990275541962092341162602522202993782792835301376
theorem qp2 {i j:Int} (h1:0<j) (h2:j<1606938044258990275541962092341162602522202993782792835301376):Builtin.divisionGoesByPylong i j=false:=by
 refine PyProof.noPylong_of_log2 ?_
 have h0:j.natAbs≠0:=by omega
 have h3:j.natAbs<2 ^ 200:=by
   have:(2:Nat) ^ 200=1606938044258990275541962092341162602522202993782792835301376:=by decide +kernel
   omega
 have:=(Nat.log2_lt h0).mpr h3
 omega
def qnb (i j:Int):Prop:=(-(2 ^ 64)<i/\i<2 ^ 64)\/(-(2 ^ 64)<j/\j<2 ^ 64)
theorem qnb.ok {i j:Int} (h:qnb i j):IntMulOk i j:=by
 rcases h with ⟨h1,h2⟩ | ⟨h1,h2⟩
 ·exact .of_left (intBits_le_64 h1 h2)
 ·exact .of_right (intBits_le_64 h1 h2)
theorem qnc:OpR X (binaryOp .Add) (rI0 fun i j => .int (i+j)):=qp1 fun _ _ _ _ _ _ _ q=>add_int q
theorem qdJ:OpR X (binaryOp .Sub) (rI0 fun i j => .int (i-j)):=qp1 fun _ _ _ _ _ _ _ q=>sub_int q
theorem qnd:OpR X (binaryOp .Mult) (rI qnb fun i j => .int (i*j)):=opI fun _ _ _ _ _ _ _ hc q=>mul_int q hc.ok
theorem qaB:OpR X (binaryOp .FloorDiv) (rI qna fun i j => .int (i/j)):=opI fun i j _ _ _ _ _ hc q=>by
 have h1:(0:Int)<j:=hc.1
 have h2:j<1606938044258990275541962092341162602522202993782792835301376:=hc.2
 exact floordiv_int (by omega) (by rw [Int.fdiv_eq_ediv_of_nonneg i (by omega)];exact q) (.inl (qp2 h1 h2))
theorem qcI:OpR X (binaryOp .Mod) (rI (fun _ j=>0<j) fun i j => .int (i%j)):=opI fun i j _ _ _ _ _ hc q=>by
 have h1:(0:Int)<j:=hc
 exact mod_int' (by omega) (by rw [Int.fmod_eq_emod_of_nonneg i (by omega)];exact q)
theorem unI {f:Value->Sem Value} {g:Int->Int}
  (rule:∀ (i:Int) (t:Tok) (s:Shared) (Q:Value->Shared->Prop) (E:Value->Shared->Prop),Q (.int (g i) s.toks) { s with toks:=s.toks+1 }->wpAny (model X.prog X.w) X.A (f (.int i t)) Q E s) :
  UnR X f (rU fun i => .int (g i)):=by
 intro pins s Z H x v Q I rx h
 obtain ⟨i,rfl,q⟩:=h
 obtain ⟨t,rfl⟩:=rx
 exact rule i t s _ _ ⟨.int (g i),H,I.tok _,⟨_,rfl⟩,q⟩
theorem qne:UnR X (unaryOp .USub) (rU fun i => .int (-i)):=unI fun _ _ _ _ _ q=>neg_int q
end
def qpf:V->V->Bool
 | .non,.non=>true | .non,.int _=>true | .int _,.non=>true | .non,.bl _=>true | .bl _,.non=>true | .non,.str _=>true | .str _,.non=>true
 | .int _,.int _=>true | .bl _,.bl _=>true | .str _,.str _=>true | .byt _,.byt _=>true
 | .int _,.str _=>true | .str _,.int _=>true | .bl _,.str _=>true | .str _,.bl _=>true
 | _,_=>false
def rEq:R2:=fun x y H Q=>qpf x y=true/\Q (.bl (decide (x=y))) H
def rNe:R2:=fun x y H Q=>qpf x y=true/\Q (.bl (!decide (x=y))) H
theorem qgX {i j:Int}:decide (V.int i=V.int j)=(i==j):=by
 rw [Bool.eq_iff_iff]
 simp
theorem qkd {i j:Bool}:decide (V.bl i=V.bl j)=(i==j):=by
 rw [Bool.eq_iff_iff]
 simp
theorem qgY {i j:Str}:decide (V.str i=V.str j)=(i==j):=by
 rw [Bool.eq_iff_iff]
 simp
theorem qgZ {i j:Array UInt8}:decide (V.byt i=V.byt j)=(i.toList==j.toList):=by
 rw [Bool.eq_iff_iff]
 cases i
 cases j
 simp
section
variable {X:Cx} {a b c:Expr} {ta tb tc:TE} {pos:Pos}
theorem qX {pins:List (Addr×Obj)} {Z:St} {H:Hp} {s:Shared} {Q:VK} {k k':Bool} (I:Inv X pins Z H s) (q:Q (.bl k) H) (e:k=k'):EP X pins Z Q (.bool k') s:=by
 subst e
 exact ⟨.bl k,H,I,rfl,q⟩
theorem qpg:OpR X (compareOp .Eq) rEq:=by
 intro pins s Z H x y v u Q I rx ry h
 obtain ⟨hs,q⟩:=h
 cases x with
 | non =>
  cases rx
  cases y with
  | non=>cases ry;exact PySem.EqNone.eq_none_none (qX I q (by simp))
  | bl j=>cases ry;exact PySem.EqNone.eq_none_bool (qX I q (by simp))
  | int j=>obtain ⟨t',rfl⟩:=ry;exact PySem.EqNone.eq_none_int (qX I q (by simp))
  | str j=>obtain ⟨t',rfl⟩:=ry;exact PySem.EqNone.eq_none_str (qX I q (by simp))
  | _=>exact absurd (show false=true from hs) Bool.false_ne_true
 | bl i =>
  cases rx
  cases y with
  | non=>cases ry;exact PySem.EqNone.eq_bool_none (qX I q (by simp))
  | bl j=>cases ry;exact eq_bool (qX I q qkd)
  | str j=>obtain ⟨t',rfl⟩:=ry;exact PySem.EqMixed.eq_bool_str (qX I q (by simp))
  | _=>exact absurd (show false=true from hs) Bool.false_ne_true
 | int i =>
  obtain ⟨t,rfl⟩:=rx
  cases y with
  | non=>cases ry;exact PySem.EqNone.eq_int_none (qX I q (by simp))
  | int j=>obtain ⟨t',rfl⟩:=ry;exact eq_int (qX I q qgX)
  | str j=>obtain ⟨t',rfl⟩:=ry;exact PySem.EqMixed.eq_int_str (qX I q (by simp))
  | _=>exact absurd (show false=true from hs) Bool.false_ne_true
 | str i =>
  obtain ⟨t,rfl⟩:=rx
  cases y with
  | non=>cases ry;exact PySem.EqNone.eq_str_none (qX I q (by simp))
  | bl j=>cases ry;exact PySem.EqMixed.eq_str_bool (qX I q (by simp))
  | int j=>obtain ⟨t',rfl⟩:=ry;exact PySem.EqMixed.eq_str_int (qX I q (by simp))
  | str j=>obtain ⟨t',rfl⟩:=ry;exact eq_str (qX I q qgY)
  | _=>exact absurd (show false=true from hs) Bool.false_ne_true
 | byt i =>
  obtain ⟨t,rfl⟩:=rx
  cases y with
  | byt j=>obtain ⟨t',rfl⟩:=ry;exact PySem.W.eq_bytes (qX I q qgZ)
  | _=>exact absurd (show false=true from hs) Bool.false_ne_true
 | _=>cases y<;>exact absurd (show false=true from hs) Bool.false_ne_true
theorem qph:OpR X (compareOp .NotEq) rNe:=by
 intro pins s Z H x y v u Q I rx ry h
 obtain ⟨hs,q⟩:=h
 cases x with
 | non =>
  cases rx
  cases y with
  | non=>cases ry;exact PySem.EqNone.ne_none_none (qX I q (by simp))
  | bl j=>cases ry;exact PySem.EqNone.ne_none_bool (qX I q (by simp))
  | int j=>obtain ⟨t',rfl⟩:=ry;exact PySem.EqNone.ne_none_int (qX I q (by simp))
  | str j=>obtain ⟨t',rfl⟩:=ry;exact PySem.EqNone.ne_none_str (qX I q (by simp))
  | _=>exact absurd (show false=true from hs) Bool.false_ne_true
 | bl i =>
  cases rx
  cases y with
  | non=>cases ry;exact PySem.EqNone.ne_bool_none (qX I q (by simp))
  | bl j=>cases ry;exact ne_bool (qX I q (congrArg not qkd))
  | str j=>obtain ⟨t',rfl⟩:=ry;exact PySem.EqMixed.ne_bool_str (qX I q (by simp))
  | _=>exact absurd (show false=true from hs) Bool.false_ne_true
 | int i =>
  obtain ⟨t,rfl⟩:=rx
  cases y with
  | non=>cases ry;exact PySem.EqNone.ne_int_none (qX I q (by simp))
  | int j=>obtain ⟨t',rfl⟩:=ry;exact ne_int (qX I q (congrArg not qgX))
  | str j=>obtain ⟨t',rfl⟩:=ry;exact PySem.EqMixed.ne_int_str (qX I q (by simp))
  | _=>exact absurd (show false=true from hs) Bool.false_ne_true
 | str i =>
  obtain ⟨t,rfl⟩:=rx
  cases y with
  | non=>cases ry;exact PySem.EqNone.ne_str_none (qX I q (by simp))
  | bl j=>cases ry;exact PySem.EqMixed.ne_str_bool (qX I q (by simp))
  | int j=>obtain ⟨t',rfl⟩:=ry;exact PySem.EqMixed.ne_str_int (qX I q (by simp))
  | str j=>obtain ⟨t',rfl⟩:=ry;exact ne_str (qX I q (congrArg not qgY))
  | _=>exact absurd (show false=true from hs) Bool.false_ne_true
 | byt i =>
  obtain ⟨t,rfl⟩:=rx
  cases y with
  | byt j=>obtain ⟨t',rfl⟩:=ry;exact PySem.W.ne_bytes (qX I q (congrArg not qgZ))
  | _=>exact absurd (show false=true from hs) Bool.false_ne_true
 | _=>cases y<;>exact absurd (show false=true from hs) Bool.false_ne_true
theorem qg0:OpR X (compareOp .Lt) (rI0 fun i j => .bl (decide (i<j))):=qoO fun _ _ _ _ _ _ _ q=>lt_int q
theorem qnf:OpR X (compareOp .LtE) (rI0 fun i j => .bl (decide (i<=j))):=qoO fun _ _ _ _ _ _ _ q=>le_int q
theorem qdK:OpR X (compareOp .Gt) (rI0 fun i j => .bl (decide (j<i))):=qoO fun _ _ _ _ _ _ _ q=>gt_int q
theorem qlb:OpR X (compareOp .GtE) (rI0 fun i j => .bl (decide (j<=i))):=qoO fun _ _ _ _ _ _ _ q=>ge_int q
theorem qcJ:OpR X (compareOp .Is) (fun x y H Q=>y = .non/\Q (.bl (decide (x = .non))) H):=by
 intro pins s Z H x y v u Q I rx ry h
 obtain ⟨rfl,q⟩:=h
 cases ry
 refine is_none_gen (qX I q ?_)
 cases x<;>first
  | (cases rx;rfl)
  | (obtain ⟨t,rfl⟩:=rx;rfl)
theorem qlc:OpR X (compareOp .IsNot) (fun x y H Q=>y = .non/\Q (.bl (!decide (x = .non))) H):=by
 intro pins s Z H x y v u Q I rx ry h
 obtain ⟨rfl,q⟩:=h
 cases ry
 refine isnot_none_gen (qX I q ?_)
 cases x<;>first
  | (cases rx;rfl)
  | (obtain ⟨t,rfl⟩:=rx;rfl)
theorem OpR.or {f:Value->Value->Sem Value} {r r':R2} (h:OpR X f r) (h':OpR X f r'):OpR X f (fun x y H Q=>r x y H Q\/r' x y H Q):=by
 intro pins s Z H x y v u Q I rx ry q
 rcases q with q | q
 ·exact h pins s Z H x y v u Q I rx ry q
 ·exact h' pins s Z H x y v u Q I rx ry q
theorem qJ (b:Expr) {op:CmpOp} (h:op ≠ .In:=by decide) (h2:op ≠ .NotIn:=by decide):behindInMarks op b=false:=by
 have e1:(op==CmpOp.In)=false:=by cases op<;>first | rfl | exact absurd rfl h
 have e2:(op==CmpOp.NotIn)=false:=by cases op<;>first | rfl | exact absurd rfl h2
 cases b<;>simp [behindInMarks,e1,e2]
theorem qld {op:CmpOp} {r:R2} (ho:OpR X (compareOp op) r) (ha:PE X a ta) (hb:PE X b tb) (hm:behindInMarks op b=false):PE X (.Compare a [op] [b] pos) (tOp r ta tb):=by
 intro pins s Z H Q I h
 exact wpAny_Compare1 (qpd ha hb I h fun v u s2 x y H2 I2 rx ry q=>ho pins s2 Z H2 x y v u Q I2 rx ry q) hm
def qpi (t:TE):TT:=fun Z H Q=>t Z H fun x H'=>∃ k,x = .bl k/\Q k H'
theorem qle {op:CmpOp} {r:R2} (ho:OpR X (compareOp op) r) (ha:PE X a ta) (hb:PE X b tb) (hm:behindInMarks op b=false):PT X (.Compare a [op] [b] pos) (qpi (tOp r ta tb)):=by
 intro pins s Z H Q I h
 refine wpAny_isTrue_Compare1 (thn (ha pins s Z H _ I h) fun v s1 ⟨x,H1,I1,r1,q1⟩=>thn (hb pins s1 Z H1 _ I1 q1) fun u s2 ⟨y,H2,I2,r2,q2⟩ =>
  thn (ho pins s2 Z H2 x y v u _ I2 r1 r2 q2) fun c s3 ⟨z,H3,I3,r3,k,e,q3⟩ => ?_) hm
 subst e
 cases r3
 exact wpAny_truthy_bool ⟨H3,I3,q3⟩
theorem qbD:(sizeLine:Nat)<2 ^ 63:=by rw [sizeLine_eq];decide
theorem qgk:OpR X (binaryOp .Add) (fun x y H Q=>∃ i j,x = .str i/\y = .str j/\i.length+j.length<=sizeLine/\Q (.str (i++j)) H):=by
 intro pins s Z H x y v u Q I rx ry h
 obtain ⟨i,j,rfl,rfl,hz,q⟩:=h
 obtain ⟨t,rfl⟩:=rx
 obtain ⟨t',rfl⟩:=ry
 exact add_str (fun t' tk=>⟨.str (i++j),H,I.tok _,⟨_,rfl⟩,q⟩) hz
theorem qlf {x:V} {us:List Value} (r:zd [x] us):∃ u,us=[u]/\jI x u:=by
 cases r with
 | cons r1 r2=>cases r2;exact ⟨_,rfl,r1⟩
theorem qlg {x y:V} {us:List Value} (r:zd [x,y] us):∃ u w',us=[u,w']/\jI x u/\jI y w':=by
 cases r with
 | cons r1 r2 =>
  cases r2 with
  | cons r3 r4=>cases r4;exact ⟨_,_,rfl,r1,r3⟩
theorem qg1 (hc:X.calm=true):uD X (.builtin "max") (fun xs H Q=>∃ i j,xs=[.int i,.int j]/\Q (.int (if j>i then j else i)) H):=by
 intro pins s Z H xs us Q I r h
 obtain ⟨i,j,rfl,q⟩:=h
 obtain ⟨u,w',rfl,⟨t,rfl⟩,⟨t',rfl⟩⟩:=qlg r
 refine max_two_ints (I.ok.hd hc) fun h' tk k=>⟨_,H,I.kept k,?_,q⟩
 by_cases hj:j>i
 ·rw [if_pos hj,if_pos hj];exact ⟨_,rfl⟩
 ·rw [if_neg hj,if_neg hj];exact ⟨_,rfl⟩
theorem qdL (hc:X.calm=true):uD X (.builtin "min") (fun xs H Q=>∃ i j,xs=[.int i,.int j]/\Q (.int (if j<i then j else i)) H):=by
 intro pins s Z H xs us Q I r h
 obtain ⟨i,j,rfl,q⟩:=h
 obtain ⟨u,w',rfl,⟨t,rfl⟩,⟨t',rfl⟩⟩:=qlg r
 refine min_two_ints (I.ok.hd hc) fun h' tk k=>⟨_,H,I.kept k,?_,q⟩
 by_cases hj:j<i
 ·rw [if_pos hj,if_pos hj];exact ⟨_,rfl⟩
 ·rw [if_neg hj,if_neg hj];exact ⟨_,rfl⟩
theorem qeO:uD X (.builtin "divmod") (fun xs H Q=>∃ i j,xs=[.int i,.int j]/\qna i j/\∀ p,H p=none->Q (.ref p) (upd H p (.tup [.int (i/j),.int (i%j)]))):=by
 intro pins s Z H xs us Q I r h
 obtain ⟨i,j,rfl,⟨h1,h2⟩,q⟩:=h
 obtain ⟨u,w',rfl,⟨t,rfl⟩,⟨t',rfl⟩⟩:=qlg r
 refine divmod_int (by omega) ?_ (.inl (qp2 h1 h2))
 rw [Int.fdiv_eq_ediv_of_nonneg i (by omega),Int.fmod_eq_emod_of_nonneg i (by omega)]
 have hn:H s.heap.objs.size=none:=I.hok.fresh (Nat.le_refl _)
 refine ⟨.ref s.heap.objs.size,_,?_,rfl,q _ hn⟩
 refine I.laid (fun b o e=>Heap.get?_push_of_some _ e) (Nat.le_refl _) ⟨by simp only [lC_,lN_];rw [sizeLine_eq];decide,[.int (i/j) s.toks,.int (i%j) (s.toks+1)],.cons ⟨_,rfl⟩ (.cons ⟨_,rfl⟩ .nil),?_⟩
 exact ⟨_,Heap.get?_push_size s.heap rfl,rfl,0,rfl⟩
end
end L2
namespace L2
open PySem PySem.Spec PyProof.Rows
structure qpj (h:Heap) (x dx C:Addr) (mA:Str->Option Value):Prop where
 obj:h.get? x=some (PySem.W.instObj C dx)
 ns:h.Ns1 dx mA
 ne:dx≠x
theorem qg2 {h:Heap} {dx:Addr} {mA:Str->Option Value} (n:h.Ns1 dx mA):∃ od,h.get? dx=some od/\∀ name,PySem.W.lookIn name od=some (mA name):=by
 obtain ⟨o,es,ep,ho,hd,hk,_,hm⟩:=n
 refine ⟨o,ho,fun name => ?_⟩
 have e:=hm name
 unfold nsFind findBy at e
 rw [<- Array.find?_toList] at e
 unfold PySem.W.lookIn
 rw [hd]
 dsimp only
 split
 ·rename_i y q
  rw [q] at e
  exact congrArg some e
 ·rename_i q
  rw [q] at e
  have a:es.toList.any (·.refKey)=false:=by
   rw [List.any_eq_false]
   intro y hy
   obtain ⟨z,t,hkey⟩:=hk y (Array.mem_toList_iff.mp hy)
   simp [DictEntry.refKey,hkey]
  have a':¬ es.toList.any (·.refKey)=true:=by rw [a];exact Bool.false_ne_true
  rw [if_neg a']
  exact congrArg some e
theorem qpj.look {h:Heap} {x dx C:Addr} {mA:Str->Option Value} (I:qpj h x dx C mA):∃ od,PySem.W.InstAt h x (PySem.W.instObj C dx) C (some od)/\∀ name,PySem.W.lookIn name od=some (mA name) :=
 let ⟨od,ho,hl⟩:=qg2 I.ns
 ⟨od,⟨I.obj,rfl,rfl,ho⟩,hl⟩
section
variable {prog:Program} {w:World} {A:Around} {E:Value->Shared->Prop} {s:Shared} {K:PySem.W.Frag} {x dx C f:Addr} {mA:Str->Option Value} {name:Str} {v:Value}
end
def qqI (f:Str) (v:V):List (Str×V)->List (Str×V)
 | []=>[(f,v)]
 | (g,x)::r=>if g=f then (g,v)::r else (g,x)::qqI f v r
section
variable {P:Program} {w:World} {H H':Hp} {h h':Heap} {a C dx:Addr} {fs fs':List (Str×V)}
theorem qlh (hok:HOk P w H h) (e:H a=some (.ins C dx fs)):∃ mA,qpj h a dx C mA/\(∀ f,qo1 (fs.lookup f) (mA f))/\PySem.Within mA (fs.map (·.1))/\fs.length<=1000/\H dx=some (.own a):=by
 obtain ⟨d,z,ne,ob,mA,n,r,q⟩:=(show uc P w H h a (.ins C dx fs) from hok a _ e)
 exact ⟨mA,⟨ob,n,ne⟩,r,q,z,d⟩
end
structure Cls (K:PySem.W.Frag) (C:Addr):Prop where
 pg:PySem.W.plainGet K C Str.empty=true
 hd:PySem.W.hasDictIn K C=true
 po:PySem.W.plainOver K C=true
 sa:PySem.W.findIn K (.ref C) "__setattr__"=some (some (.builtin "object.__setattr__"))
theorem Cls.get {K:PySem.W.Frag} {C:Addr} (c:Cls K C) (f:Str):PySem.W.plainGet K C f=true:=c.pg
structure Con (K:PySem.W.Frag) (C:Addr) (f:Str) (v:V) (u:Value):Prop where
 at_:PySem.W.findIn K (.ref C) f=some (some u)
 rel:jI v u
 get:PySem.W.specialIn K u "__get__"=some none
 cp:PySem.W.copiedNames.contains f=false
structure qq7 (K:PySem.W.Frag) (C:Addr) (m:Str) (f:Addr):Prop where
 at_:PySem.W.findIn K (.ref C) m=some (some (.ref f))
 fn:PySem.W.isFn K (.ref f)=true
 kp:PySem.W.keepIn K (.ref f)=true
section
variable {X:Cx} {pins:List (Addr×Obj)} {Z:St} {H:Hp} {s:Shared} {a C dx:Addr} {fs:List (Str×V)} {f:Str} {v:V} {A:Around} {E:Value->Shared->Prop}
end
section
variable {X:Cx} {o e value:Expr} {f:Str} {pos pos' tpos:Pos} {ta tv:TE}
end
section
variable {X:Cx} {pins:List (Addr×Obj)} {Z:St} {H:Hp} {s:Shared} {A:Around} {E:Value->Shared->Prop} {Q:Value->Shared->Prop} {c:Value} {b:Bool}
inductive qgQ (K:PySem.W.Frag) (H:Hp):V->Value->Prop where
 | non:qgQ K H .non (.type "NoneType")
 | bl (x:Bool):qgQ K H (.bl x) (.type "bool")
 | int (i:Int):qgQ K H (.int i) (.type "int")
 | str (x:Str):qgQ K H (.str x) (.type "str")
 | flt (x:UInt64):qgQ K H (.flt x) (.type "float")
 | lst {a:Addr} {xs:List V} (e:H a=some (.lst xs)):qgQ K H (.ref a) (.type "list")
 | frz {a:Addr} {o:Obj} {xs:List V} (e:H a=some (.frz o (.lst xs))):qgQ K H (.ref a) (.type "list")
 | tup {a:Addr} {xs:List V} (e:H a=some (.tup xs)):qgQ K H (.ref a) (.type "tuple")
 | dK {a:Addr} {kvs:List (Key×V)} (e:H a=some (.dK kvs)):qgQ K H (.ref a) (.type "dict")
 | dT {a:Addr} {kvs:List (List Key×V)} (e:H a=some (.dT kvs)):qgQ K H (.ref a) (.type "dict")
 | ins {a C dx:Addr} {fs:List (Str×V)} (e:H a=some (.ins C dx fs)) (cl:Cls K C) (ha:PySem.W.findIn K (.ref C) "__class__"=some (some (.builtin "object.__class__")))
   (hn:PySem.W.specialIn K (.builtin "object.__class__") "__get__"=some (some (.builtin "getset_descriptor.__get__"))) (htk:PySem.W.takesIn K (.builtin "object.__class__")=some true)
   (hm:PySem.W.mroIn K C (.type "object")=some true):qgQ K H (.ref a) (.ref C)
theorem uJ {x:V} {u t:Value} (I:Inv X pins Z H s) (rx:jI x u) (ty:qgQ X.K H x t) (e:PySem.W.kitOne X.K t c=some b) (h:∀ tk,Q (.bool b) { s with toks:=tk }) :
  wpAny (model X.prog X.w) A (call (.builtin "isinstance") [u,c]) Q E s:=by
 cases ty with
 | non=>cases (show u=Value.none from rx);exact PySem.W.kia_one PySem.W.kitx_none I.kIn True.intro e (fun z=>nomatch z) h
 | bl y=>cases (show u=Value.bool y from rx);exact PySem.W.kia_one PySem.W.kitx_bool I.kIn True.intro e (fun z=>nomatch z) h
 | int i=>obtain ⟨t,q⟩:=(show ∃ t,u=Value.int i t from rx);cases q;exact PySem.W.kia_one PySem.W.kitx_int I.kIn True.intro e (fun z=>nomatch z) h
 | str y=>obtain ⟨t,q⟩:=(show ∃ t,u=Value.str y t from rx);cases q;exact PySem.W.kia_one PySem.W.kitx_str I.kIn True.intro e (fun z=>nomatch z) h
 | flt y=>obtain ⟨t,q⟩:=(show ∃ t,u=Value.float y t from rx);cases q;exact PySem.W.kia_one PySem.W.kitx_float I.kIn True.intro e (fun z=>nomatch z) h
 | @lst a xs ea =>
  cases (show u=Value.ref a from rx)
  obtain ⟨_,_,n,_,h1⟩:=(show uc X.prog X.w H s.heap a (.lst xs) from I.hok a _ ea)
  exact PySem.W.kia_one PySem.W.kitx_list I.kIn ⟨_,h1,rfl⟩ e (fun z=>nomatch z) h
 | @frz a ob xs ea =>
  cases (show u=Value.ref a from rx)
  obtain ⟨_,_,_,n,_,h1⟩:=(show uc X.prog X.w H s.heap a (.frz ob (.lst xs)) from I.hok a _ ea)
  exact PySem.W.kia_one PySem.W.kitx_list I.kIn ⟨_,h1,rfl⟩ e (fun z=>nomatch z) h
 | @tup a xs ea =>
  cases (show u=Value.ref a from rx)
  obtain ⟨_,_,_,p⟩:=(show uc X.prog X.w H s.heap a (.tup xs) from I.hok a _ ea)
  obtain ⟨o,h1,h2,_⟩:=p
  exact PySem.W.kia_one PySem.W.kitx_tuple I.kIn ⟨o,h1,h2⟩ e (fun z=>nomatch z) h
 | @dK a kvs ea =>
  cases (show u=Value.ref a from rx)
  obtain ⟨_,_,vs,_,p⟩:=(show uc X.prog X.w H s.heap a (.dK kvs) from I.hok a _ ea)
  obtain ⟨o,es,ep,h1,h2,_⟩:=p
  exact PySem.W.kia_one PySem.W.kitx_dict I.kIn ⟨o,h1,h2.1⟩ e (fun z=>nomatch z) h
 | @dT a kvs ea =>
  cases (show u=Value.ref a from rx)
  obtain ⟨_,_,xs,_,o,es,ep,h1,h2,_⟩:=(show uc X.prog X.w H s.heap a (.dT kvs) from I.hok a _ ea)
  exact PySem.W.kia_one PySem.W.kitx_dict I.kIn ⟨o,h1,h2.1⟩ e (fun z=>nomatch z) h
 | @ins a C dx fs ea cl ha hn htk hm =>
  cases (show u=Value.ref a from rx)
  obtain ⟨mA,O,_⟩:=qlh I.hok ea
  obtain ⟨od,J,_⟩:=O.look
  exact PySem.W.kia_one (PySem.W.kitx_own (cl.get _) cl.hd ha hn htk hm) I.kIn J e (fun z=>nomatch z) h
end
end L2
namespace L2
open PySem PySem.Spec PyProof.Rows
structure vv (k:Nat) (A:Around):Prop where
 hd:A.handled=none
 dp:A.depth+3*k+5<recursionLimit
 un:A.units+16*k+200<cLine
 gd:A.guards=some []
theorem vv.mono {j k:Nat} {A:Around} (r:vv k A) (h:j<=k):vv j A:=⟨r.hd,by have:=r.dp;omega,by have:=r.un;omega,r.gd⟩
theorem vv.deeper {k:Nat} {A:Around} (r:vv (k+1) A) (env:Env):vv k (A.deeper env) :=
 ⟨r.hd,by have:=r.dp;show A.depth+1+3*k+5<_;omega,by have:=r.un;show A.units+3+16*k+200<_;omega,r.gd⟩
theorem vv.depth {k:Nat} {A:Around} (r:vv k A):A.depth<recursionLimit:=by have:=r.dp;omega
theorem vv.units {k:Nat} {A:Around} (r:vv k A):A.units+64<cLine:=by have:=r.un;omega
def qp3:TA:=fun _ H Q=>Q [] H
def qng (ta:TE) (tr:TA):TA:=fun Z H Q=>ta Z H fun x H1=>tr Z H1 fun xs H2=>Q (x::xs) H2
section
variable {X:Cx} {e:Expr} {es:List Expr} {te:TE} {t:TA} {pos:Pos}
theorem qcK:PA X [] qp3:=fun _ _ _ _ H Q I h=>Calls.spliced_nil ⟨[],H,I,.nil,h⟩
theorem u3 (ha:PE X e te) (hr:PA X es t) (hs:starEach (e::es) X.env=(false,eval e X.env)::starEach es X.env:=by rfl):PA X (e::es) (qng te t):=by
 intro pos pins s Z H Q I h
 rw [hs]
 show wpAny _ _ (spliced ((false,eval e X.env)::backTo pos (starEach es X.env))) _ _ s
 refine Calls.spliced_cons (thn (ha pins s Z H _ I h) fun u s1 ⟨x,H1,I1,r1,q1⟩ => ?_)
 exact thn (hr pos pins s1 Z H1 _ I1 q1) fun us s2 ⟨xs,H2,I2,r2,q2⟩=>⟨x::xs,H2,I2,.cons r1 r2,q2⟩
def qqJ (t:TA):TE:=fun Z H Q=>t Z H fun xs H1=>xs.length<=sizeLine/\∀ p,H1 p=none->Q (.ref p) (upd H1 p (.tup xs))
def qqK (t:TA):TE:=fun Z H Q=>t Z H fun xs H1=>xs.length<=sizeLine/\∀ p,H1 p=none->Q (.ref p) (upd H1 p (.lst xs))
theorem qnh {x1} (h:PA X es t):PE X (.Tuple es x1 pos) (qqJ t):=by
 intro pins s Z H Q I hq
 refine wpAny_Tuple_spliced (thn (h pos pins s Z H _ I hq) fun us s1 ⟨xs,H1,I1,r,z,q⟩=>⟨by rw [<- r.length];exact z,?_⟩)
 have hf:H1 s1.heap.objs.size=none:=I1.hok.fresh (Nat.le_refl _)
 refine ⟨.ref s1.heap.objs.size,upd H1 s1.heap.objs.size (.tup xs),I1.laid (t':=s1.toks) (fun b u e=>Heap.get?_push_of_some _ e) (Nat.le_refl _) ?_,rfl,q _ hf⟩
 exact ⟨z,us,r,⟨_,Heap.get?_push_size _ rfl,rfl,_,rfl⟩⟩
theorem qg3 (h:PA X es t):PE X (.List es pos) (qqK t):=by
 intro pins s Z H Q I hq
 refine wpAny_List_spliced (thn (h pos pins s Z H _ I hq) fun us s1 ⟨xs,H1,I1,r,z,q⟩=>⟨by rw [<- r.length];exact z,?_⟩)
 have hf:H1 s1.heap.objs.size=none:=I1.hok.fresh (Nat.le_refl _)
 refine ⟨.ref s1.heap.objs.size,upd H1 s1.heap.objs.size (.lst xs),I1.laid (t':=s1.toks) (fun b u e=>Heap.get?_push_of_some _ e) (Nat.le_refl _) ?_,rfl,q _ hf⟩
 exact ⟨z,us,0,r,Heap.get?_push_size _ rfl⟩
end
abbrev Sp:=List V->Hp->VK->XK->Prop
abbrev CXT:=List Env->Hp->Shared->XK->Value->Shared->Prop
structure qni (P:Program) (w:World) (K:PySem.W.Frag) (mg:Str->Option Value) (base:Heap) (A:Around) (outer:List Env) (s:Shared) (H:Hp):Prop where
 frames:A.frames=some outer
 mod:Mod K mg base
 bs:∀ b o,base.get? b=some o->s.heap.get? b=some o/\H b=none
 bsz:base.objs.size<=s.heap.objs.size
 funs:s.heap.FunFrames base outer
 frf:∀ b∈frs outer,H b=none
 hok:HOk P w H s.heap
 bare:AllBare s.gens
def CE (outer:List Env) (P:Program) (w:World) (H:Hp) (s:Shared) (Q:VK) (u:Value) (s':Shared):Prop :=
 ∃ v H',s'.os=s.os/\AllBare s'.gens/\Un (frs outer) [] H H' s.heap s'.heap/\HOk P w H' s'.heap/\jI v u/\Q v H'
def CR (CX:CXT) (outer:List Env) (P:Program) (w:World) (H:Hp) (s:Shared) (Q:VK) (E:XK) (r:Result) (s':Shared):Prop :=
 match r with
 | .ok (.ret u)=>CE outer P w H s Q u s'
 | .ok _=>False
 | .error e=>CX outer H s E e s'
structure qct (P:Program) (w:World) (K:PySem.W.Frag) (mg:Str->Option Value) (base:Heap) (CX:CXT) (k:Nat) (f:Addr) (fd:FuncData) (ps:List Str) (sp:Sp):Prop where
 len:∀ vs H Q E,sp vs H Q E->vs.length=ps.length
 run:∀ (A:Around) (outer:List Env) (s:Shared) (H:Hp) (args:Args) (us:List Value) (vs:List V) (Q:VK) (E:XK),vv k A->qni P w K mg base A outer s H->BindsTo s fd args (ps.zip us)->zd vs us->sp vs H Q E ->
  codeAny (model P w) A (.call (.ref f) args) (CR CX outer P w H s Q E) s
section
variable {X:Cx} {pins:List (Addr×Obj)} {Z:St} {H:Hp} {s s':Shared}
theorem Inv.env0 (I:Inv X pins Z H s):qni X.prog X.w X.K X.mg X.base X.A X.stack s H :=
 ⟨I.ok.frames,I.ok.mod,I.bs,Nat.le_trans I.ok.bsz I.sz,I.stack,I.stkFree,I.hok,I.bare⟩
theorem Inv.after {Q:VK} {u:Value} (I:Inv X pins Z H s) (h:CE X.stack X.prog X.w H s Q u s'):EP X pins Z Q u s':=by
 obtain ⟨v,H',os,bare,un,hok,r,q⟩:=h
 obtain ⟨hh,g,d,t,os'⟩:=s'
 obtain rfl:os'=s.os:=os
 exact ⟨v,H',I.call (h':=hh) (g':=g) (d':=d) (t':=t) (ch:=[]) un hok bare (fun b z=>absurd z (by simp)),r,q⟩
end
def qpk (sp:Sp) (dvs:List V) (E:XK) (t:TA):TE:=fun Z H Q=>t Z H fun vs H1=>sp (vs++dvs) H1 Q E
def wF (K:PySem.W.Frag) (fd:FuncData) (ps:List Str) (ds:List Value):Prop :=
 ∀ (s:Shared) (us:List Value),K.In s.heap->(us++ds).length=ps.length->BindsTo s fd ⟨us,[]⟩ (ps.zip (us++ds))
theorem wF.all {K:PySem.W.Frag} {fd:FuncData} {ps:List Str} (h:∀ us:List Value,us.length=ps.length->bindArgs fd ⟨us,[]⟩=pure (ps.zip us)):wF K fd ps []:=fun s us _ hl=>by
 rw [List.append_nil] at hl |-
 exact .of_eq (h us hl)
def qbE (CX:CXT) (X:Cx) (E:XK):Prop:=∀ (pins:List (Addr×Obj)) (Z:St) (H:Hp) (s:Shared) (e:Value) (s':Shared),Inv X pins Z H s->CX X.stack H s E e s'->X.xe e s'
section
variable {X:Cx} {CX:CXT} {k:Nat} {f C:Addr} {fd:FuncData} {ps:List Str} {sp:Sp} {dvs:List V} {ds:List Value} {E:XK} {x m:Str} {p pos apos:Pos} {e o:Expr} {es:List Expr} {ta:TE} {t:TA}
theorem qnj {pins:List (Addr×Obj)} {Z:St} {H:Hp} {s:Shared} {Q:VK} {us:List Value} {vs:List V} (F:qct X.prog X.w X.K X.mg X.base CX k f fd ps sp) (hr:vv k X.A) (hb:wF X.K fd ps ds) (hd:zd dvs ds) (hx:qbE CX X E)
  (I:Inv X pins Z H s) (r:zd vs us) (h:sp (vs++dvs) H Q E):wpAny (model X.prog X.w) X.A (call (.ref f) us) (EP X pins Z Q) X.xe s:=by
 have r2:zd (vs++dvs) (us++ds):=r.append hd
 have hl:(us++ds).length=ps.length:=by rw [<- r2.length];exact F.len _ _ _ _ h
 refine wpAny_call (codeAny_mono (F.run X.A X.stack s H ⟨us,[]⟩ (us++ds) (vs++dvs) Q E hr I.env0 (hb s us I.kIn hl) r2 h) fun r s' hq => ?_)
 cases r with
 | error e=>exact hx pins Z H s e s' I hq
 | ok fl =>
  cases fl with
  | ret u=>exact I.after hq
  | next=>exact False.elim hq
  | brk=>exact False.elim hq
  | cont=>exact False.elim hq
theorem qcZ (F:qct X.prog X.w X.K X.mg X.base CX k f fd ps sp) (hr:vv k X.A) (hg:Gl X x) (hm:X.mg x=some (.ref f)) (hk:PySem.W.keepIn X.K (.ref f)=true) (hb:wF X.K fd ps ds) (hd:zd dvs ds) (hx:qbE CX X E)
  (ha:PA X (e::es) t) (hdb:(x==("__debug__":Str))=false:=by decide) (he:starEach (e::es) X.env=(false,eval e X.env)::starEach es X.env:=by rfl) (hpl:(backTo pos (starEach es X.env)).any (·.1)=false:=by rfl) :
  PE X (.Call (.Name x p) (e::es) [] pos) (qpk sp dvs E t):=by
 intro pins s Z H Q I h
 refine wpAny_Call_Name_kw (qeN I hg hm ?_ hdb)
 refine PySem.W.callWith_K (h₀:=X.base) I.ok.mod.kin hk (thn (ha pos pins s Z H _ I h) fun us s1 ⟨vs,H1,I1,r,q⟩=>⟨I1.kIn,?_⟩) he hpl
 exact qnj F hr hb hd hx I1 r q
structure Mk (K:PySem.W.Frag) (C f:Addr):Prop where
 makes:PySem.W.makesIn K C=true
 init:PySem.W.findIn K (.ref C) "__init__"=some (some (.ref f))
 fn:PySem.W.isFn K (.ref f)=true
 kp:PySem.W.keepIn K (.ref C)=true
end
def PK (X:Cx) (kws:List Keyword) (t:TA):Prop :=
 ∀ (pos:Pos) (pins:List (Addr×Obj)) (s:Shared) (Z:St) (H:Hp) (Q:List V->Hp->Prop),Inv X pins Z H s->t Z H Q->wpAny (model X.prog X.w) X.A (evalAll ((backToKw pos (keywordEach kws X.env)).map (·.2))) (AP X pins Z Q) X.xe s
section
variable {X:Cx} {CX:CXT} {k:Nat} {f C:Addr} {fd:FuncData} {ps ks:List Str} {sp:Sp} {E:XK} {x m:Str} {p pos apos kpos:Pos} {e o:Expr} {es:List Expr} {kws:List Keyword} {te ta:TE} {t tk:TA} {nm:Option Str}
theorem qnk:PK X [] qp3:=fun _ _ _ _ H Q I h=>wpAny_evalAll_nil ⟨[],H,I,.nil,h⟩
theorem qli (ha:PE X e te) (hr:PK X kws t):PK X (⟨nm,e,kpos⟩::kws) (qng te t):=by
 intro pos pins s Z H Q I h
 show wpAny _ _ (evalAll ((do let v <- eval e X.env;standAt pos;pure v)::(backToKw pos (keywordEach kws X.env)).map (·.2))) _ _ s
 refine wpAny_evalAll_cons (wpAny_bind (thn (ha pins s Z H _ I h) fun u s1 ⟨x,H1,I1,r1,q1⟩=>wpAny_bind (wpAny_standAt (wpAny_pure ?_))))
 exact thn (hr pos pins s1 Z H1 _ I1 q1) fun us s2 ⟨xs,H2,I2,r2,q2⟩=>⟨x::xs,H2,I2,.cons r1 r2,q2⟩
variable {g:List Value->List Value->List Value} {gV:List V->List V->List V}
end
structure qp (N P:List Str) (sc:Scope):Prop where
 kind:sc.kind = .function
 co:sc.isCoroutine=false
 gen:sc.isGenerator=false
 nd:N.Nodup
 pre:N.take P.length=P
 par:∀ x∈P,sc.names.lookup x=some .local\/sc.names.lookup x=some .cell
 nofree:∀ y∈sc.names,y.2 ≠ .free
theorem qdM {kindOf:Str->Option NameKind} {x:Str}:∀ {binds:List (Str×Value)} {m:Str->Option Value},(∀ v,(x,v) ∉ binds)->bindL kindOf binds m x=m x
 | [],_,_=>rfl
 | (n,v)::r,m,h=>by
  unfold bindL
  rw [qdM fun w hw=>h w (mM_ _ hw)]
  split
  ·have:x≠n:=by rintro rfl;exact h v mS_
   simp [this]
  ·rfl
theorem qdN {kindOf:Str->Option NameKind} {x:Str}:∀ {binds:List (Str×Value)} {m:Str->Option Value},(∀ v,(x,v) ∉ binds)->bindC kindOf binds m x=m x
 | [],_,_=>rfl
 | (n,v)::r,m,h=>by
  unfold bindC
  rw [qdN fun w hw=>h w (mM_ _ hw)]
  split
  ·rfl
  ·have:x≠n:=by rintro rfl;exact h v mS_
   simp [this]
theorem qdO {kindOf:Str->Option NameKind} {x:Str} {v:Value}:∀ {P:List Str} {vs:List Value} {i:Nat} {m:Str->Option Value},P.Nodup->P[i]? = some x->vs[i]? = some v->kindOf x=some .local ->
  bindL kindOf (P.zip vs) m x=some v
 | [],_,_,_,_,h,_,_=>by simp at h
 | _::_,[],_,_,_,_,h,_=>by simp at h
 | p::P,w::vs,0,m,nd,h1,h2,hk=>by
  simp at h1 h2;subst h1;subst h2
  show bindL kindOf ((p,w)::P.zip vs) m p=_
  unfold bindL
  rw [qdM fun v hv=>(List.nodup_cons.mp nd).1 (List.of_mem_zip hv).1,if_pos hk]
  simp
 | p::P,w::vs,i+1,m,nd,h1,h2,hk=>by
  show bindL kindOf ((p,w)::P.zip vs) m x=_
  unfold bindL
  exact qdO (i:=i) (List.nodup_cons.mp nd).2 (by simpa using h1) (by simpa using h2) hk
theorem qdP {kindOf:Str->Option NameKind} {x:Str} {v:Value}:∀ {P:List Str} {vs:List Value} {i:Nat} {m:Str->Option Value},P.Nodup->P[i]? = some x->vs[i]? = some v->kindOf x≠some .local ->
  bindC kindOf (P.zip vs) m x=some v
 | [],_,_,_,_,h,_,_=>by simp at h
 | _::_,[],_,_,_,_,h,_=>by simp at h
 | p::P,w::vs,0,m,nd,h1,h2,hk=>by
  simp at h1 h2;subst h1;subst h2
  show bindC kindOf ((p,w)::P.zip vs) m p=_
  unfold bindC
  rw [qdN fun v hv=>(List.nodup_cons.mp nd).1 (List.of_mem_zip hv).1,if_neg hk]
  simp
 | p::P,w::vs,i+1,m,nd,h1,h2,hk=>by
  show bindC kindOf ((p,w)::P.zip vs) m x=_
  unfold bindC
  exact qdP (i:=i) (List.nodup_cons.mp nd).2 (by simpa using h1) (by simpa using h2) hk
def ja (N:List Str) (vs:List V):St:=vs.map some++List.replicate (N.length-vs.length) none
def qiX (CX:CXT) (P:Program) (w:World) (K:PySem.W.Frag) (mg:Str->Option Value) (base:Heap) (N:List Str) (qual:Str) (scope:Scope) (f:Addr) (cd:Value) (A:Around) (outer:List Env) (s:Shared) (H:Hp) (E:XK):Cx where
 prog:=P
 w:=w
 K:=K
 mg:=mg
 base:=base
 A:=A.deeper (envOfC qual scope s.heap.objs.size f cd)
 N:=N
 s₀:=s
 H₀:=H
 env:=envOfC qual scope s.heap.objs.size f cd
 outer:=outer
 stack:=envOfC qual scope s.heap.objs.size f cd::outer
 ex:=[]
 calm:=true
 fn:=fun _=>true
 pn:=[]
 xe:=fun e s'=>wpAny (model P w) (A.deeper (envOfC qual scope s.heap.objs.size f cd)) (leaving (envOfC qual scope s.heap.objs.size f cd) e) (fun _ s''=>CX outer H s E e s'') (fun e' s''=>CX outer H s E e' s'') s'
theorem qfq {sc:Scope} {n:Nat} {x:Str} (h:sc.names.lookup x=some .cell):∃ c,(cellsFrom n sc.names []).lookup x=some c:=by
 have q:=PySem.W.cellsFrom_some sc.names n [] (.inl h)
 exact Option.isSome_iff_exists.mp q
theorem qg4 {CX:CXT} {P:Program} {w:World} {K:PySem.W.Frag} {mg:Str->Option Value} {base:Heap} {N ps:List Str} {qual:Str} {scope:Scope} {f:Addr} {cd:Value} {A:Around} {outer:List Env} {s s1:Shared} {H:Hp} {E:XK} {us:List Value} {vs:List V}
  (S:qp N ps scope) (hd:A.handled=none) (e0:qni P w K mg base A outer s H) (hl:vs.length=ps.length) (r:zd vs us)
  (x:InCallC s s.heap.objs.size (bindL (envOfC qual scope s.heap.objs.size f cd).kindOf (ps.zip us) fun _=>none) (cellsFrom (s.heap.objs.size+1) scope.names []) (bindC (envOfC qual scope s.heap.objs.size f cd).kindOf (ps.zip us) fun _=>none) s1) :
  Inv (qiX CX P w K mg base N qual scope f cd A outer s H E) [] (ja N vs) H s1:=by
 have hpl:ps.length<=N.length:=by have:=congrArg List.length S.pre;rw [List.length_take] at this;omega
 obtain ⟨h1,tk,rfl,hk⟩:=x.done
 have noA:∀ b:Addr,b ∉ (qiX CX P w K mg base N qual scope f cd A outer s H E).ex:=fun b z=>absurd (show b∈([]:List Addr) from z) (by simp)
 refine ⟨⟨e0.mod,S.kind,rfl,rfl,Nat.le_refl _,fun y z c h1 h2 => ?_,fun y hy => ?_,fun y c _ h => ?_,fun _=>hd,Around.frames_deeper e0.frames,.inr ⟨rfl,rfl⟩,fun b z=>absurd z (noA b),e0.bs,e0.bsz,fun b _ _=>noA b,fun b z=>absurd z (noA b),e0.funs,e0.frf⟩,
  rfl,e0.bare,Un.kept hk,⟨_,x.toInCall.ns,fun i y v h1 h2 h3 => ?_⟩,fun y c h=>⟨_,x.cell y c h⟩,e0.hok.fresh (Nat.le_refl _),fun y c h => ?_,fun p hp=>absurd (show p∈([]:List (Addr×Obj)) from hp) (by simp),e0.hok.kept hk,?_⟩
 ·exact name_of_addr x.apart (PySem.mem_of_lookup h1) (PySem.mem_of_lookup h2)
 ·have hy:scope.names.lookup y=some .cell\/scope.names.lookup y=some .free:=hy
  rcases hy with hy | hy
  ·exact qfq hy
  ·exact absurd rfl (S.nofree _ (PySem.mem_of_lookup hy))
 ·exact Nat.le_of_lt (x.above y c (PySem.mem_of_lookup h))
 ·have hi:i<vs.length:=by
   unfold ja at h2
   by_cases hi:i<vs.length
   ·exact hi
   ·rw [List.getElem?_append_right (by simpa using hi)] at h2
    rw [List.getElem?_replicate] at h2
    split at h2<;>cases h2
  have ha:vs[i]? = some v:=by
   unfold ja at h2
   rw [List.getElem?_append_left (by simpa using hi),gM_] at h2
   cases e:vs[i]? with
   | none=>rw [e] at h2;cases h2
   | some a=>rw [e] at h2;cases h2;rfl
  obtain ⟨u,hu,rv⟩:=r.get ha
  have hp:ps[i]? = some y:=by
   rw [<- S.pre,List.getElem?_take_of_lt (by omega)];exact h1
  have ndP:ps.Nodup:=by rw [<- S.pre];exact S.nd.sublist (List.take_sublist _ _)
  refine ⟨u,rv,?_⟩
  rcases S.par y (List.mem_of_getElem? hp) with k | k
  ·exact .inl ⟨k,qdO ndP hp hu k⟩
  ·obtain ⟨c,e⟩:=qfq (n:=s.heap.objs.size+1) k
   refine .inr ⟨.inl k,c,e,?_⟩
   have q:=x.cell y c e
   rw [qdP ndP hp hu (by show scope.names.lookup y≠_;rw [k];decide)] at q
   exact q
 ·exact e0.hok.fresh (Nat.le_of_lt (x.above y c (PySem.mem_of_lookup h)))
 ·unfold ja
  show _=N.length
  rw [lA_,lM_,List.length_replicate]
  omega
theorem qnl {CX:CXT} {P:Program} {w:World} {K:PySem.W.Frag} {mg:Str->Option Value} {base:Heap} {k:Nat} {f:Addr} {name qual:Str} {params:Arguments} {body:List Stmt} {scope:Scope} {dV kV doc pm cdv ct oc:Value} {an od:Option Addr}
  {osl:Array (Option Value)} {N ps:List Str} {sp:Sp} (lk:K.lookup f=some ⟨oc,od,.func (PySem.W.fnOf name qual params body scope dV kV doc pm an cdv ct),osl⟩) (hcd:PySem.W.codeIn K cdv qual=true) (S:qp N ps scope)
  (len:∀ vs H Q E,sp vs H Q E->vs.length=ps.length)
  (hbody:∀ (A:Around) (outer:List Env) (s:Shared) (H:Hp) (vs:List V) (Q:VK) (E:XK),vv k (A.deeper (envOfC qual scope s.heap.objs.size f cdv))->sp vs H Q E ->
   ∃ t,PSs (qiX CX P w K mg base N qual scope f cdv A outer s H E) body t/\t { nx:=fun _ H'=>Q .non H',rt:=Q } (ja N vs) H) :
  qct P w K mg base CX (k+1) f (PySem.W.fnOf name qual params body scope dV kV doc pm an cdv ct) ps sp:=by
 refine ⟨len,fun A outer s H args us vs Q E hr e0 hb r hsp => ?_⟩
 have hl:=len _ _ _ _ hsp
 have KX:K.In s.heap:=e0.mod.kin.keeps fun b o e=>(e0.bs b o e).1
 have lim:s.heap.NoLimit:=e0.mod.nolimit.keeps fun b o e=>(e0.bs b o e).1
 have hkind:∀ y∈ps.zip us,scope.names.lookup y.1=some .local\/(scope.names.lookup y.1=some .cell/\((cellsFrom (s.heap.objs.size+1) scope.names []).lookup y.1).isSome=true):=fun ⟨n,v⟩ hy=>by
  rcases S.par n (List.of_mem_zip hy).1 with q | q
  ·exact .inl q
  ·exact .inr ⟨q,PySem.W.cellsFrom_some _ _ _ (.inl q)⟩
 refine codeAny_call_function hr.depth (KX _ _ lk) rfl S.co S.gen rfl (PySem.W.codeRec_of KX hcd) (hb _ _ _ _ ?_)
 refine wpAny_newFunctionEnv_cells S.kind hkind fun env he s1 x => ?_
 subst he
 refine ⟨lim.keeps x.toInCall.keep,codeAny_func ?_⟩
 obtain ⟨t,ht,hq⟩:=hbody A outer s H vs Q E (hr.deeper _) hsp
 have I:Inv (qiX CX P w K mg base N qual scope f cdv A outer s H E) [] (ja N vs) H s1:=qg4 S hr.hd e0 hl r x
 refine wpAny_mono (ht [] s1 (ja N vs) H _ I hq) (fun fl s' hs => ?_) fun e s' hs=>hs
 have fin:∀ {Z':St} {H':Hp} {v:V} {u:Value},Inv (qiX CX P w K mg base N qual scope f cdv A outer s H E) [] Z' H' s'->jI v u->Q v H'->CE outer P w H s Q u s' :=
  fun {Z' H' v u} J rv q=>⟨v,H',J.os,J.bare,J.base,J.hok,rv,q⟩
 cases fl with
 | ret u =>
  obtain ⟨v,Z',H',J,rv,q⟩:=hs
  exact fin J rv q
 | next =>
  obtain ⟨Z',H',J,q⟩:=hs
  exact fin (v:=V.non) (u:=Value.none) J rfl q
 | brk =>
  obtain ⟨_,_,_,q⟩:=hs
  exact False.elim q
 | cont =>
  obtain ⟨_,_,_,q⟩:=hs
  exact False.elim q
end L2
namespace L2
open PySem PySem.Spec PyProof.Rows
section
variable {X:Cx} {x:Str} {p pos:Pos} {e:Expr} {es:List Expr} {t:TA} {id T:String} {r:List V->Hp->VK->Prop}
def tCB (r:List V->Hp->VK->Prop) (t:TA):TE:=fun Z H Q=>t Z H fun vs H1=>r vs H1 Q
theorem qfr (hc:uD X (.builtin id) r) (hg:Gl X x) (hm:X.mg x=none) (hv:bootBuiltins x=some (.builtin id)) (ha:PA X (e::es) t) (hn:x≠"__name__":=by decide) (hdb:(x==("__debug__":Str))=false:=by decide)
  (he:starEach (e::es) X.env=(false,eval e X.env)::starEach es X.env:=by rfl) (hpl:(backTo pos (starEach es X.env)).any (·.1)=false:=by rfl):PE X (.Call (.Name x p) (e::es) [] pos) (tCB r t):=by
 intro pins s Z H Q I h
 refine wpAny_Call_Name_kw (qa5 I hg hm hv ?_ hn hdb)
 exact PyProof.Rows.callWith_builtin1 (thn (ha pos pins s Z H _ I h) fun us s1 ⟨vs,H1,I1,r1,q1⟩=>hc pins s1 Z H1 vs us Q I1 r1 q1) he hpl
theorem qdQ (hc:uD X (.type T) r) (hg:Gl X x) (hm:X.mg x=none) (hv:bootBuiltins x=some (.type T)) (ha:PA X (e::es) t) (hn:x≠"__name__":=by decide) (hdb:(x==("__debug__":Str))=false:=by decide)
  (he:starEach (e::es) X.env=(false,eval e X.env)::starEach es X.env:=by rfl) (hpl:(backTo pos (starEach es X.env)).any (·.1)=false:=by rfl):PE X (.Call (.Name x p) (e::es) [] pos) (tCB r t):=by
 intro pins s Z H Q I h
 refine wpAny_Call_Name_kw (qa5 I hg hm hv ?_ hn hdb)
 exact PyProof.Rows.callWith_type1 (thn (ha pos pins s Z H _ I h) fun us s1 ⟨vs,H1,I1,r1,q1⟩=>hc pins s1 Z H1 vs us Q I1 r1 q1) he hpl
end
end L2
namespace HT
open PySem PyProof.Rows
def lexLt:List Int->List Int->Bool
 | [],[]=>false
 | [],_::_=>true
 | _::_,[]=>false
 | x::xs,y::ys=>if x=y then lexLt xs ys else decide (x<y)
section
open PySem.SeqAt
open PySem.AutoSeq1 (wpAny_loadPart')
open PySem.MeetsSeq PySem.MeetsSeq2 PySem.MeetsSeq3
end
section
variable {prog:Program} {w:World} {A:Around} {E:Value->Shared->Prop} {s:Shared}
theorem cat_tup {t b:Addr} {vs ws:List Value} {Q:Value->Shared->Prop} (ht:IsTup s.heap t vs.toArray) (hb:IsTup s.heap b ws.toArray) (hv:vs≠[])
  (h1:ws=[]->Q (.ref t) s) (h2:ws≠[]->Q (.ref s.heap.objs.size) { s with heap:=s.heap.push { cls := .type "tuple",data := .seq (vs++ws).toArray } })
  (hsz:vs.length+ws.length<=sizeLine):wpAny (model prog w) A (binaryOp .Add (.ref t) (.ref b)) Q E s:=by
 obtain ⟨⟨cls,dd,data,sl⟩,ho,hc,n,hd⟩:=id ht
 obtain ⟨⟨cls2,dd2,data2,sl2⟩,ho2,hc2,n2,hd2⟩:=id hb
 simp only at hc hd hc2 hd2
 subst hc hd hc2 hd2
 have e:vs.toArray++ws.toArray=(vs++ws).toArray:=by simp
 by_cases hw:ws=[]
 ·exact concat_meets ⟨_,ho,rfl⟩ ⟨_,ho2,rfl⟩ noFill_tuple_add seq_tuple_add PySem.F.slot_tuple_add PySem.F.entry_tuple_add (PySem.F.args_tuple_add_2 _ _)
   (tuple_addW1 t b vs.toArray ws.toArray n n2 dd dd2 sl sl2 (by simpa using hv) (by simp [hw])) ⟨ho,ho2,h1 hw⟩
 ·refine concat_meets ⟨_,ho,rfl⟩ ⟨_,ho2,rfl⟩ noFill_tuple_add seq_tuple_add PySem.F.slot_tuple_add PySem.F.entry_tuple_add (PySem.F.args_tuple_add_2 _ _)
   (tuple_addW2 t b vs.toArray ws.toArray n n2 dd dd2 sl sl2 (by simpa using hv) (by simpa using hw) (by rw [sT_,sT_];exact hsz)) ⟨ho,ho2,?_⟩
  rw [e]
  exact h2 hw
def sIx (n d:Nat):Option Int->Nat
 | none=>d
 | some v=>if v<0 then (v+(n:Int)).toNat else min v.toNat n
theorem sIx_none (n d:Nat):sIx n d none=d:=rfl
theorem sIx_nat (n d k:Nat):sIx n d (some (k:Int))=min k n:=by
 show (if (k:Int)<0 then ((k:Int)+(n:Int)).toNat else min (k:Int).toNat n)=min k n
 rw [if_neg (by omega),Int.toNat_natCast]
theorem qnm (n d:Nat) (hd:d<=n) (o:Option Int):sIx n d o<=n:=by
 cases o with
 | none=>exact hd
 | some v =>
  show (if v<0 then (v+(n:Int)).toNat else min v.toNat n)<=n
  by_cases hv:v<0
  ·rw [if_pos hv];omega
  ·rw [if_neg hv];exact Nat.min_le_right _ _
theorem qg5 (v:Int) (n d:Nat):(if v<0 then max (v+(n:Int)) 0 else min v (n:Int))=((sIx n d (some v):Nat):Int):=by
 show (if v<0 then max (v+(n:Int)) 0 else min v (n:Int))=(((if v<0 then (v+(n:Int)).toNat else min v.toNat n):Nat):Int)
 by_cases hv:v<0
 ·simp only [if_pos hv];omega
 ·simp only [if_neg hv];omega
theorem qgl (lo hi:Option Int) (n:Nat):Builtin.Slice.sliceAdjust lo hi 1 (n:Int)=(((sIx n 0 lo:Nat):Int),((sIx n n hi:Nat):Int)):=by
 have h1:¬ ((1:Int)<0):=by omega
 unfold Builtin.Slice.sliceAdjust
 simp only [h1,if_false]
 refine Prod.ext ?_ ?_
 ·cases lo with
  | none=>rfl
  | some v=>exact qg5 v n 0
 ·cases hi with
  | none=>rfl
  | some v=>exact qg5 v n n
theorem qgm (i j:Nat):Builtin.Slice.slicePlaces (i:Int) (j:Int) 1=j-i:=by
 unfold Builtin.Slice.slicePlaces
 have h1:(1:Int)>0:=by omega
 simp only [h1,if_true,Int.ediv_one]
 split<;>omega
theorem qcL {v:Value} {o:Option Int} {Q:Option Int->Shared->Prop} (p:IsPart v o) (h:Q o s):wpAny (model prog w) A (Builtin.Slice.slicePartIndex v) Q E s:=by
 cases p with
 | none=>exact slicePart_none h
 | int i t=>exact slicePart_int h
theorem sliceApplied_gen {sl:Addr} {vl vu:Value} {lo hi:Option Int} {n:Nat} {Q:Int×Int×Nat->Shared->Prop} (hs:s.heap.IsSliceOf sl vl vu .none) (pl:IsPart vl lo) (pu:IsPart vu hi)
  (h:Q (((sIx n 0 lo:Nat):Int),1,sIx n n hi-sIx n 0 lo) s):wpAny (model prog w) A (Builtin.Slice.sliceApplied (.ref sl) (pure (n:Int))) Q E s:=by
 obtain ⟨os,hos,hcs,hds⟩:=id hs
 unfold Builtin.Slice.sliceApplied Builtin.Slice.sliceFields
 refine wpAny_bind (wpAny_bind (wpAny_field hos hds (x:=vl) rfl (wpAny_bind (wpAny_field hos hds (x:=vu) rfl (wpAny_bind (wpAny_field hos hds (x := .none) rfl (wpAny_pure ?_)))))))
 refine wpAny_bind (slicePart_none ?_)
 show wpAny _ _ (if ((1:Int)==0)=true then _ else _) _ _ s
 rw [if_neg (by decide)]
 refine wpAny_bind (qcL pl (wpAny_bind (qcL pu (wpAny_bind (wpAny_pure ?_)))))
 show wpAny _ _ (match Builtin.Slice.sliceAdjust lo hi 1 (n:Int) with | (lo,hi)=>pure (lo,(1:Int),Builtin.Slice.slicePlaces lo hi 1)) _ _ s
 rw [qgl lo hi n]
 show wpAny _ _ (pure (((sIx n 0 lo:Nat):Int),(1:Int),Builtin.Slice.slicePlaces ((sIx n 0 lo:Nat):Int) ((sIx n n hi:Nat):Int) 1)) _ _ s
 rw [qgm]
 exact wpAny_pure h
theorem qiY (xs:Array Value) (i k:Nat):((List.range k).filterMap fun (m:Nat)=>xs[((i:Int)+(m:Int)*1).toNat]?).toArray=((xs.toList.drop i).take k).toArray:=by
 have e:(fun (m:Nat)=>xs[((i:Int)+(m:Int)*1).toNat]?)=fun m=>xs[i+m]? := by
  funext m
  have:((i:Int)+(m:Int)*1).toNat=i+m:=by omega
  rw [this]
 rw [e]
 have:=pick_run xs i k
 rw [List.filterMap_map] at this
 have e2:((fun x=>xs[x]?)∘fun x=>i+x)=fun m=>xs[i+m]? := rfl
 rw [e2] at this
 rw [this]
theorem getItem_tuple_cut {t sl:Addr} {items:Array Value} {vl vu:Value} {lo hi:Option Int} {Q:Value->Shared->Prop} (ht:IsTup s.heap t items) (hs:s.heap.IsSliceOf sl vl vu .none) (pl:IsPart vl lo) (pu:IsPart vu hi)
  (hw:¬ (sIx items.size 0 lo=0/\sIx items.size items.size hi=items.size))
  (h:Q (.ref s.heap.objs.size) { s with heap:=s.heap.push { cls := .type "tuple",data := .seq ((items.toList.drop (sIx items.size 0 lo)).take (sIx items.size items.size hi-sIx items.size 0 lo)).toArray } })
  (hsz:items.size<=sizeLine):wpAny (model prog w) A (getItem (.ref t) (.ref sl)) Q E s:=by
 have htake:sizeOk (.seq ((items.toList.drop (sIx items.size 0 lo)).take (sIx items.size items.size hi-sIx items.size 0 lo)).toArray):=by
  show ((items.toList.drop (sIx items.size 0 lo)).take (sIx items.size items.size hi-sIx items.size 0 lo)).toArray.size<=sizeLine
  rw [sT_,List.length_take,List.length_drop,Array.length_toList]
  omega
 have hj:sIx items.size items.size hi<=items.size:=qnm _ _ (Nat.le_refl _) hi
 obtain ⟨os,hos,hcs,hds⟩:=id hs
 have hTs:s.TypeIs (.ref sl) "slice":=⟨os,hos,hcs⟩
 unfold getItem
 try with_reducible refine wpAny_holding ?_
 first | refine wpAny_bind (wpAny_pure ?_) | skip
 refine wpAny_bind (wpAny_sequenceKey ht.typeIs (by decide) ?_)
 refine wpAny_bind (wpAny_callSpecial?_slot (name:=Str.ofString "__getitem__") ht.typeIs PyProof.Rows.slot_tuple_getitem
  (wpAny_call_entry PyProof.Rows.slot_tuple_getitem ht.typeIs entry_tuple_getitem ?_ (args_tuple_getitem _ _)))
 show wpAny _ _ (Builtin.Tuple.tupleItemsOf (.ref t) >>= _) _ _ s
 refine wpAny_bind (tupleItemsOf_ ht ?_)
 refine wpAny_bind (wpAny_typeOf hTs ?_)
 rw [if_pos (by decide)]
 refine wpAny_bind (sliceApplied_gen hs pl pu ?_)
 have hno:¬ ((((sIx items.size 0 lo:Nat):Int)==0&&(1:Int)==1&&(sIx items.size items.size hi-sIx items.size 0 lo)==items.size)=true):=by
  intro q
  rw [Bool.and_eq_true,Bool.and_eq_true] at q
  have q1:((sIx items.size 0 lo:Nat):Int)=0:=eq_of_beq q.1.1
  have q2:sIx items.size items.size hi-sIx items.size 0 lo=items.size:=eq_of_beq q.2
  exact hw ⟨by omega,by omega⟩
 show wpAny _ _ (if (((sIx items.size 0 lo:Nat):Int)==0&&(1:Int)==1&&(sIx items.size items.size hi-sIx items.size 0 lo)==items.size)=true then _ else _) _ _ s
 rw [if_neg hno,qiY]
 first
  | exact wpAny_bind (m:=Builtin.Tuple.tupleExact _) (wpAny_newObj_type (wpAny_pure ⟨_,rfl,wpAny_pure h⟩) htake)
  | exact wpAny_bind (m:=Builtin.Tuple.tupleExact _) (wpAny_newObj_type (wpAny_bind (wpAny_pure (wpAny_pure ⟨_,rfl,wpAny_pure h⟩))) htake)
  | exact wpAny_bind (wpAny_bind (m:=Builtin.Tuple.tupleExact _) (wpAny_newObj_type (wpAny_pure (wpAny_pure ⟨_,rfl,wpAny_pure h⟩)) htake))
  | exact wpAny_bind (wpAny_bind (m:=Builtin.Tuple.tupleExact _) (wpAny_newObj_type (wpAny_pure ⟨_,rfl,wpAny_pure h⟩) htake))
end
end HT
namespace L2
open PySem PySem.Spec PyProof.Rows
abbrev TO:=St->Hp->(Option Int->Hp->Prop)->Prop
def PO (X:Cx) (e:Option Expr) (t:TO):Prop :=
 ∀ (pins:List (Addr×Obj)) (s:Shared) (Z:St) (H:Hp) (Q:Option Int->Hp->Prop),Inv X pins Z H s->t Z H Q ->
  wpAny (model X.prog X.w) X.A (evalPart e X.env) (fun u s'=>∃ o H',Inv X pins Z H' s'/\IsPart u o/\Q o H') X.xe s
def qlj:TO:=fun _ H Q=>Q none H
def qpl (t:TE):TO:=fun Z H Q=>t Z H fun x H1=>∃ i,x = .int i/\Q (some i) H1
theorem qcM {ns:List Int}:∀ {us:List Value},zd (ns.map V.int) us->IntsAre us ns:=by
 induction ns with
 | nil=>intro us r;rw [List.map_nil] at r;cases r;exact .nil
 | cons n ns ih =>
  intro us r
  rw [mC_] at r
  cases r with
  | cons r1 r2 =>
   obtain ⟨t,e⟩:=r1
   subst e
   exact .cons n t (ih r2)
section
variable {X:Cx} {e:Expr} {te:TE} {lo hi:Option Expr} {tl th:TO} {pos p2:Pos}
theorem qlk:PO X none qlj:=by
 intro pins s Z H Q I h
 rw [evalPart_none]
 exact wpAny_pure ⟨none,H,I,.none,h⟩
theorem qll (h:PE X e te):PO X (some e) (qpl te):=by
 intro pins s Z H Q I hw
 rw [evalPart_some]
 refine thn (h pins s Z H _ I hw) fun u s1 ⟨x,H1,I1,r1,q1⟩ => ?_
 obtain ⟨i,rfl,q⟩:=q1
 obtain ⟨t,rfl⟩:=r1
 exact ⟨some i,H1,I1,.int i t,q⟩
def SlR (X:Cx) (r:V->Option Int->Option Int->Hp->VK->Prop):Prop :=
 ∀ (pins:List (Addr×Obj)) (s:Shared) (Z:St) (H:Hp) (x:V) (v vl vu:Value) (lo hi:Option Int) (sl:Addr) (Q:VK),Inv X pins Z H s->jI x v->s.heap.IsSliceOf sl vl vu .none->IsPart vl lo->IsPart vu hi->r x lo hi H Q ->
  ∃ T id,typeLookup (.type T) "__getitem__"=pure (some (.builtin id))/\s.TypeIs v T/\wpAny (model X.prog X.w) X.A (getItem v (.ref sl)) (EP X pins Z Q) X.xe s
theorem SlR.or {r r':V->Option Int->Option Int->Hp->VK->Prop} (h:SlR X r) (h':SlR X r'):SlR X (fun x lo hi H Q=>r x lo hi H Q\/r' x lo hi H Q):=by
 intro pins s Z H x v vl vu lo hi sl Q I rx hs pl pu q
 rcases q with q | q
 ·exact h pins s Z H x v vl vu lo hi sl Q I rx hs pl pu q
 ·exact h' pins s Z H x v vl vu lo hi sl Q I rx hs pl pu q
def tSl (r:V->Option Int->Option Int->Hp->VK->Prop) (te:TE) (tl th:TO):TE:=fun Z H Q=>te Z H fun x H1=>tl Z H1 fun l H2=>th Z H2 fun u H3=>r x l u H3 Q
theorem qiZ {r:V->Option Int->Option Int->Hp->VK->Prop} (hr:SlR X r) (he:PE X e te) (hl:PO X lo tl) (hu:PO X hi th):PE X (.Subscript e (.Slice lo hi none p2) pos) (tSl r te tl th):=by
 intro pins s Z H Q I h
 refine Subscript_ (thn (he pins s Z H _ I h) fun v s1 ⟨x,H1,I1,r1,q1⟩ => ?_)
 refine wpAny_Slice (thn (hl pins s1 Z H1 _ I1 q1) fun vl s2 ⟨l,H2,I2,pl,q2⟩=>thn (hu pins s2 Z H2 _ I2 q2) fun vu s3 ⟨u,H3,I3,pu,q3⟩ => ?_)
 rw [evalPart_none]
 refine wpAny_pure ?_
 have I4:Inv X pins Z H3 { s3 with heap:=s3.heap.push { cls := .type "slice",data := .fields #[vl,vu,.none] } }:=I3.kept (t':=s3.toks) fun b ob q=>Heap.get?_push_of_some _ q
 obtain ⟨T,id,hT,ht,hg⟩:=hr pins { s3 with heap:=s3.heap.push { cls := .type "slice",data := .fields #[vl,vu,.none] } } Z H3 x v vl vu l u s3.heap.objs.size Q I4 r1 (Heap.IsSliceOf.new ..) pl pu q3
 show wpAny (model X.prog X.w) X.A (subscriptTail e (.Slice lo hi none p2) v (.ref s3.heap.objs.size)) (EP X pins Z Q) X.xe { s3 with heap:=s3.heap.push { cls := .type "slice",data := .fields #[vl,vu,.none] } }
 exact tail_any (ops:=[.ref s3.heap.objs.size,v]) ht hT hg (by with_unfolding_all rfl)
def qiK (xs:List V) (lo hi:Option Int):List V:=(xs.drop (HT.sIx xs.length 0 lo)).take (HT.sIx xs.length xs.length hi-HT.sIx xs.length 0 lo)
theorem qbF (xs:List V) (lo hi:Option Int):(qiK xs lo hi).length<=xs.length:=by
 unfold qiK
 rw [List.length_take,List.length_drop]
 omega
def qp4 (K:PySem.W.Frag):V->Option Int->Option Int->Hp->VK->Prop:=fun x lo hi H Q=>∃ a xs,x = .ref a/\SqT K H a xs /\
 ¬ (HT.sIx xs.length 0 lo=0/\HT.sIx xs.length xs.length hi=xs.length)/\∀ p,H p=none->Q (.ref p) (upd H p (.tup (qiK xs lo hi)))
theorem sl_tup:SlR X (qp4 X.K):=by
 intro pins s Z H x v vl vu lo hi sl Q I rx hs pl pu h
 obtain ⟨a,xs,rfl,hx,hw,q⟩:=h
 cases rx
 obtain ⟨its,r,ht,hz⟩:=I.tuple hx
 have hlen:its.toArray.size=xs.length:=by rw [sT_];exact r.length.symm
 refine ⟨"tuple",_,PyProof.Rows.slot_tuple_getitem.lookup,ht.typeIs,?_⟩
 refine HT.getItem_tuple_cut ht hs pl pu (by rw [hlen];exact hw) ?_ (by rw [hlen];exact hz)
 rw [hlen]
 refine ⟨.ref s.heap.objs.size,_,I.laid (t':=s.toks) (o := .tup (qiK xs lo hi)) (fun b ob q=>Heap.get?_push_of_some _ q) (Nat.le_refl _) ?_,rfl,q _ (I.hok.fresh (Nat.le_refl _))⟩
 exact ⟨Nat.le_trans (qbF xs lo hi) hz,_,(r.drop (HT.sIx xs.length 0 lo)).take (HT.sIx xs.length xs.length hi-HT.sIx xs.length 0 lo),IsTup.new _ _⟩
def qnn (K:PySem.W.Frag):R2:=fun x y H Q=>∃ a b xs ys,x = .ref a/\y = .ref b/\SqT K H a xs/\SqT K H b ys/\xs≠[]/\xs.length+ys.length<=sizeLine /\
 (ys=[]->Q (.ref a) H)/\(ys≠[]->∀ p,H p=none->Q (.ref p) (upd H p (.tup (xs++ys))))
theorem zd.nil_iff {xs:List V} {us:List Value} (r:zd xs us):us=[] ↔ xs=[]:=by
 cases r with
 | nil=>simp
 | cons _ _=>simp
theorem qlm:OpR X (binaryOp .Add) (qnn X.K):=by
 intro pins s Z H x y v u Q I rx ry h
 obtain ⟨a,b,xs,ys,rfl,rfl,ha,hb,hx,hz,q1,q2⟩:=h
 cases rx
 cases ry
 obtain ⟨its,r1,p1,_⟩:=I.tuple ha
 obtain ⟨its2,r2,p2,_⟩:=I.tuple hb
 refine HT.cat_tup p1 p2 (fun z=>hx (r1.nil_iff.mp z)) (fun z=>⟨.ref a,H,I,rfl,q1 (r2.nil_iff.mp z)⟩) (fun z => ?_) (by rw [<- r1.length,<- r2.length];exact hz)
 refine ⟨.ref s.heap.objs.size,_,I.laid (t':=s.toks) (o := .tup (xs++ys)) (fun b ob q=>Heap.get?_push_of_some _ q) (Nat.le_refl _) ?_,rfl,q2 (fun w=>z (r2.nil_iff.mpr w)) _ (I.hok.fresh (Nat.le_refl _))⟩
 exact ⟨by rw [lA_];exact hz,_,r1.append r2,IsTup.new _ _⟩
end
end L2
namespace L2
open PySem PySem.Spec PyProof.Rows
def ixN (n:Nat) (i:Int):Option Nat:=if 0<=i then (if i<n then some i.toNat else none) else if -(n:Int)<=i then some (i+n).toNat else none
def atI {α:Type} (xs:List α) (i:Int):Option α:=(ixN xs.length i).bind fun j=>xs[j]?
theorem qg6 {n:Nat} {i:Int} {j:Nat} (h:ixN n i=some j):seqIndex? i n=some j/\j<n /\ -(n:Int)<=i/\i<n:=by
 unfold ixN at h
 by_cases h0:0<=i
 ·rw [if_pos h0] at h
  by_cases h1:i<n
  ·rw [if_pos h1] at h
   have e:i.toNat=j:=Option.some.inj h
   exact ⟨by rw [seqIndex_of h0 h1,e],by omega,by omega,h1⟩
  ·rw [if_neg h1] at h;cases h
 ·rw [if_neg h0] at h
  by_cases h1 : -(n:Int)<=i
  ·rw [if_pos h1] at h
   have e:(i+n).toNat=j:=Option.some.inj h
   exact ⟨by rw [seqIndex_neg (by omega) h1,e],by omega,h1,by omega⟩
  ·rw [if_neg h1] at h;cases h
theorem qg7 {α:Type} {xs:List α} {i:Int} {v:α} (h:atI xs i=some v):∃ j,seqIndex? i xs.length=some j/\xs[j]? = some v/\j<xs.length /\ -(xs.length:Int)<=i/\i<xs.length:=by
 unfold atI at h
 cases e:ixN xs.length i with
 | none=>rw [e] at h;cases h
 | some j =>
  rw [e] at h
  obtain ⟨h1,h2,h3,h4⟩:=qg6 e
  exact ⟨j,h1,h,h2,h3,h4⟩
def qeP (b:Expr):Prop:=∀ o i,subscripted b false o i=operate [o,i] (getItem o i)
def IxR (X:Cx) (r:R2):Prop :=
 ∀ (value slice:Expr) (pins:List (Addr×Obj)) (s:Shared) (Z:St) (H:Hp) (x y:V) (v u:Value) (Q:VK),Inv X pins Z H s->jI x v->jI y u->r x y H Q ->
  subscripted slice false v u=operate [v,u] (getItem v u)->wpAny (model X.prog X.w) X.A (subscriptTail value slice v u) (EP X pins Z Q) X.xe s
def MtR (X:Cx) (id:String) (r:V->List V->Hp->VK->Prop):Prop :=
 ∀ (pins:List (Addr×Obj)) (s:Shared) (Z:St) (H:Hp) (x:V) (xs:List V) (v:Value) (us:List Value) (Q:VK),Inv X pins Z H s->jI x v->zd xs us->r x xs H Q ->
  wpAny (model X.prog X.w) X.A (call (.builtin id) (v::us)) (EP X pins Z Q) X.xe s
section
variable {X:Cx} {a b:Expr} {ta tb:TE} {pos:Pos}
theorem IxR.or {r r':R2} (h:IxR X r) (h':IxR X r'):IxR X (fun x y H Q=>r x y H Q\/r' x y H Q):=by
 intro value slice pins s Z H x y v u Q I rx ry q hs
 rcases q with q | q
 ·exact h value slice pins s Z H x y v u Q I rx ry q hs
 ·exact h' value slice pins s Z H x y v u Q I rx ry q hs
theorem MtR.or {id:String} {r r':V->List V->Hp->VK->Prop} (h:MtR X id r) (h':MtR X id r'):MtR X id (fun x xs H Q=>r x xs H Q\/r' x xs H Q):=by
 intro pins s Z H x xs v us Q I rx rs q
 rcases q with q | q
 ·exact h pins s Z H x xs v us Q I rx rs q
 ·exact h' pins s Z H x xs v us Q I rx rs q
theorem qno {r:R2} (hr:IxR X r) (ha:PE X a ta) (hb:PE X b tb) (hs:qeP b):PE X (.Subscript a b pos) (tOp r ta tb):=by
 intro pins s Z H Q I h
 exact Subscript_ (qpd ha hb I h fun v u s2 x y H2 I2 rx ry q=>hr a b pins s2 Z H2 x y v u Q I2 rx ry q (hs _ _))
def qpm (K:PySem.W.Frag):R2:=fun x y H Q=>∃ p xs i v,x = .ref p/\y = .int i/\SqL K H p xs/\atI xs i=some v/\Q v H
def qpn (K:PySem.W.Frag):R2:=fun x y H Q=>∃ p xs i v,x = .ref p/\y = .int i/\SqT K H p xs/\atI xs i=some v/\Q v H
theorem qg8:IxR X (qpm X.K):=by
 intro value slice pins s Z H x y v u Q I rx ry h hs
 obtain ⟨p,xs,i,z,rfl,rfl,hq,he,q⟩:=h
 cases rx
 obtain ⟨t,rfl⟩:=ry
 obtain ⟨its,r,pl,hz⟩:=I.list hq
 obtain ⟨j,h1,h2,h3,h4,h5⟩:=qg7 he
 obtain ⟨w,ew,rw'⟩:=r.get h2
 have hl:=r.length
 have hn:=qbD
 have fin:EP X pins Z Q w s:=⟨z,H,I,rw',q⟩
 by_cases h0:0<=i
 ·have hj:i.toNat=j:=by
   rw [seqIndex_of h0 h5] at h1
   exact Option.some.inj h1
  exact item_listR pl.isList h0 (by omega) (by rw [hj];simpa using ew) fin hs
 ·have hj:(i+(its.toArray.size:Int)).toNat=j:=by
   rw [seqIndex_neg (by omega) h4] at h1
   rw [sT_,<- hl]
   exact Option.some.inj h1
  exact subscriptTail_builtinR (x:=w) pl.isList.typeIs slot_list_getitem.lookup
   (wpAny_getItem_list_neg (Q:=fun r s'=>r=w/\EP X pins Z Q r s') pl.isList (by omega) (by rw [sT_]<;>omega) (by omega) (by rw [hj];simpa using ew) ⟨rfl,fin⟩) hs
theorem qnp:IxR X (qpn X.K):=by
 intro value slice pins s Z H x y v u Q I rx ry h hs
 obtain ⟨p,xs,i,z,rfl,rfl,hq,he,q⟩:=h
 cases rx
 obtain ⟨t,rfl⟩:=ry
 obtain ⟨its,r,pl,hz⟩:=I.tuple hq
 obtain ⟨j,h1,h2,h3,h4,h5⟩:=qg7 he
 obtain ⟨w,ew,rw'⟩:=r.get h2
 have hl:=r.length
 have hn:=qbD
 have fin:EP X pins Z Q w s:=⟨z,H,I,rw',q⟩
 exact subscriptTail_builtinR (x:=w) pl.typeIs slot_tuple_getitem.lookup
  (getItem_tuple (j:=j) (Q:=fun r s'=>r=w/\EP X pins Z Q r s') pl (by omega) (by omega) (by rw [sT_,<- hl];exact h1) (by simpa using ew) ⟨rfl,fin⟩) hs
theorem qgn (its:List Value) (n j:Nat) (u:Value):Obj.mapSeq (·.setIfInBounds j u) { cls := .type "list",data := .seq its.toArray n }={ cls := .type "list",data := .seq (its.set j u).toArray n }:=by
 simp [Obj.mapSeq]
theorem Inv.lst {pins:List (Addr×Obj)} {Z:St} {H:Hp} {s:Shared} {p:Addr} {xs:List V} (I:Inv X pins Z H s) (h:H p=some (.lst xs)) :
  ∃ (its:List Value) (n:Nat),zd xs its/\s.heap.get? p=some { cls := .type "list",data := .seq its.toArray n }/\xs.length<=sizeLine:=by
 obtain ⟨z,its,n,r,e⟩:=I.hok p _ h
 exact ⟨its,n,r,e,z⟩
theorem Inv.lstUpd {pins:List (Addr×Obj)} {Z:St} {H:Hp} {s:Shared} {p:Addr} {xs ys:List V} {its its':List Value} {n n':Nat} {f:Obj->Obj} (I:Inv X pins Z H s) (h:H p=some (.lst xs))
  (ho:s.heap.get? p=some { cls := .type "list",data := .seq its.toArray n }) (hf:f { cls := .type "list",data := .seq its.toArray n }={ cls := .type "list",data := .seq its'.toArray n' }) (r:zd ys its') (hz:ys.length<=sizeLine) (t:Nat) :
  Inv X pins Z (upd H p (.lst ys)) { s with heap:=s.heap.update p f,toks:=t }:=by
 have e:(s.heap.update p f).get? p=some { cls := .type "list",data := .seq its'.toArray n' }:=by
  rw [Heap.get?_update_self f ho (by rw [hf]<;>rfl),hf]
 refine I.write (x:=p) (e:=p) (by rw [h];trivial) (.inl rfl) (fun b u hb q=>(Heap.get?_update_other _ _ (Ne.symm hb)).trans q) ⟨_,e⟩ ?_
 exact ⟨hz,its',n',r,e⟩
def qpo:V->V->V->Hp->(Hp->Prop)->Prop:=fun o i v H Q=>∃ p xs k j,o = .ref p/\i = .int k/\H p=some (.lst xs)/\ixN xs.length k=some j/\Q (upd H p (.lst (xs.set j v)))
theorem qi0:qpZ X qpo:=by
 intro pins s Z H o i v ov iv u Q I ro ri rv h
 obtain ⟨p,xs,k,j,rfl,rfl,hp,hj,q⟩:=h
 cases ro
 obtain ⟨t,rfl⟩:=ri
 obtain ⟨its,n,r,ho,hz⟩:=I.lst hp
 obtain ⟨h1,h2,h3,h4⟩:=qg6 hj
 have hl:=r.length
 have hn:=qbD
 have I':Inv X pins Z (upd H p (.lst (xs.set j v))) { s with heap:=s.heap.update p (Obj.mapSeq (·.setIfInBounds j u)) } :=
  I.lstUpd hp ho (qgn its n j u) (r.set rv j) (by rw [lS_];exact hz) s.toks
 by_cases h0:0<=k
 ·have hk:k.toNat=j:=by
   rw [seqIndex_of h0 h4] at h1
   exact Option.some.inj h1
  exact PySem.W.ki_setAt ho h0 (by omega) (by rw [sT_,<- hl];exact h4) (by rw [hk];exact ⟨_,I',q⟩)
 ·have hk:(k+(its.toArray.size:Int)).toNat=j:=by
   rw [seqIndex_neg (by omega) h3] at h1
   rw [sT_,<- hl]
   exact Option.some.inj h1
  exact PySem.W.ki_setBack ho (by omega) (by rw [sT_,<- hl];exact h3) (by omega) (by rw [hk];exact ⟨_,I',q⟩)
theorem qdR (lo hi:Option Int) (n:Nat):(sliceBounds lo hi none n).1=((HT.sIx n 0 lo:Nat):Int)/\(sliceBounds lo hi none n).2.1=((HT.sIx n n hi:Nat):Int)/\(sliceBounds lo hi none n).2.2=1:=by
 refine ⟨?_,?_,rfl⟩
 ·cases lo with
  | none=>simp [sliceBounds,HT.sIx]
  | some i =>
   simp only [sliceBounds,HT.sIx,Option.getD_none,show (1:Int)>0 by decide,if_true]
   by_cases h:i<0
   ·simp only [h,if_true]<;>omega
   ·simp only [h,if_false]<;>omega
 ·cases hi with
  | none=>simp [sliceBounds,HT.sIx]
  | some i =>
   simp only [sliceBounds,HT.sIx,Option.getD_none,show (1:Int)>0 by decide,if_true]
   by_cases h:i<0
   ·simp only [h,if_true]<;>omega
   ·simp only [h,if_false]<;>omega
theorem qc0 (its:List Value) (lo hi:Option Int):slicePick its.toArray lo hi none=((its.drop (HT.sIx its.length 0 lo)).take (HT.sIx its.length its.length hi-HT.sIx its.length 0 lo)).toArray:=by
 obtain ⟨h1,h2,h3⟩:=qdR lo hi its.toArray.size
 unfold slicePick
 rw [h1,h2,h3]
 simp only [sliceRange_one,pick_run,sT_]<;>rfl
def qqL (K:PySem.W.Frag):V->Option Int->Option Int->Hp->VK->Prop:=fun x lo hi H Q=>∃ a xs,x = .ref a/\SqL K H a xs/\∀ p,H p=none->Q (.ref p) (upd H p (.lst (qiK xs lo hi)))
theorem qln:SlR X (qqL X.K):=by
 intro pins s Z H x v vl vu lo hi sl Q I rx hs pl pu h
 obtain ⟨a,xs,rfl,hx,q⟩:=h
 cases rx
 obtain ⟨its,r,ht,hz⟩:=I.list hx
 have hlen:=r.length
 refine ⟨"list",_,slot_list_getitem.lookup,ht.isList.typeIs,?_⟩
 refine wpAny_getItem_list_slice ht.isList hs pl pu .none (by simp) ?_ (by rw [sT_]<;>omega)
 rw [qc0,<- hlen]
 refine ⟨.ref s.heap.objs.size,_,I.laid (t':=s.toks) (o := .lst (qiK xs lo hi)) (fun b ob q=>Heap.get?_push_of_some _ q) (Nat.le_refl _) ?_,rfl,q _ (I.hok.fresh (Nat.le_refl _))⟩
 exact ⟨Nat.le_trans (qbF xs lo hi) hz,_,0,(r.drop (HT.sIx xs.length 0 lo)).take (HT.sIx xs.length xs.length hi-HT.sIx xs.length 0 lo),Heap.get?_push_size _ rfl⟩
def qbj:V->Bool
 | .non=>true
 | .bl _=>true
 | .int _=>true
 | .str _=>true
 | _=>false
def eqV:V->V->Bool
 | .non,.non=>true
 | .bl a,.bl b=>a==b
 | .bl a,.int b=>(if a then 1 else 0)==b
 | .int a,.bl b=>a==(if b then 1 else 0)
 | .int a,.int b=>a==b
 | .str a,.str b=>a==b
 | _,_=>false
theorem qnq {A:Around} {s:Shared} {y x:V} {u v:Value} (ry:jI y u) (rx:jI x v) (fy:qbj y=true) (fx:qbj x=true):SeqAt.EqAt A s u v (eqV y x):=by
 cases y with
 | non =>
  cases ry
  cases x with
  | non=>cases rx;exact SeqAt.EqAt.same _
  | bl b=>cases rx;exact SeqAt.EqAt.none_bool b
  | int b=>obtain ⟨t,rfl⟩:=rx;exact SeqAt.EqAt.none_int b t
  | str b=>obtain ⟨t,rfl⟩:=rx;exact SeqAt.EqAt.none_str b t
  | _=>exact absurd (show false=true from fx) Bool.false_ne_true
 | bl a =>
  cases ry
  cases x with
  | non=>cases rx;exact SeqAt.EqAt.bool_none a
  | bl b=>cases rx;exact SeqAt.EqAt.bool_bool a b
  | int b=>obtain ⟨t,rfl⟩:=rx;exact SeqAt.EqAt.bool_int a b t
  | str b=>obtain ⟨t,rfl⟩:=rx;exact SeqAt.EqAt.bool_str a b t
  | _=>exact absurd (show false=true from fx) Bool.false_ne_true
 | int a =>
  obtain ⟨t',rfl⟩:=ry
  cases x with
  | non=>cases rx;exact SeqAt.EqAt.int_none a t'
  | bl b=>cases rx;exact SeqAt.EqAt.int_bool a t' b
  | int b=>obtain ⟨t,rfl⟩:=rx;exact SeqAt.EqAt.int_int a t' b t
  | str b=>obtain ⟨t,rfl⟩:=rx;exact SeqAt.EqAt.int_str a t' b t
  | _=>exact absurd (show false=true from fx) Bool.false_ne_true
 | str a =>
  obtain ⟨t',rfl⟩:=ry
  cases x with
  | non=>cases rx;exact SeqAt.EqAt.str_none a t'
  | bl b=>cases rx;exact SeqAt.EqAt.str_bool a t' b
  | int b=>obtain ⟨t,rfl⟩:=rx;exact SeqAt.EqAt.str_int a t' b t
  | str b=>obtain ⟨t,rfl⟩:=rx;exact SeqAt.EqAt.str_str a t' b t
  | _=>exact absurd (show false=true from fx) Bool.false_ne_true
 | _=>exact absurd (show false=true from fy) Bool.false_ne_true
def eqU (x:V) (u:Value):Bool:=match u with
 | .none=>eqV .non x
 | .bool b=>eqV (.bl b) x
 | .int i _=>eqV (.int i) x
 | .str z _=>eqV (.str z) x
 | _=>false
theorem qke {x y:V} {u:Value} (r:jI y u) (f:qbj y=true):eqU x u=eqV y x:=by
 cases y with
 | non=>cases r;rfl
 | bl b=>cases r;rfl
 | int i=>obtain ⟨t,rfl⟩:=r;rfl
 | str z=>obtain ⟨t,rfl⟩:=r;rfl
 | _=>exact absurd (show false=true from f) Bool.false_ne_true
theorem qeQ {x:V}:∀ {xs:List V} {us:List Value},zd xs us->xs.all qbj=true->us.any (eqU x)=xs.any fun y=>eqV y x
 | _,_,.nil,_=>rfl
 | y::xs,u::us,.cons r t,f=>by
  rw [List.all_cons,Bool.and_eq_true] at f
  rw [List.any_cons,List.any_cons,qke r f.1,qeQ t f.2]
theorem qc1 {A:Around} {s:Shared} {x:V} {v:Value} (rx:jI x v) (fx:qbj x=true):∀ {xs:List V} {us:List Value},zd xs us->xs.all qbj=true->∀ u∈us,SeqAt.EqAt A s u v (eqU x u)
 | _,_,.nil,_=>fun u hu=>by cases hu
 | y::xs,u::us,.cons r t,f=>fun u' hu=>by
  rw [List.all_cons,Bool.and_eq_true] at f
  rcases List.mem_cons.mp hu with rfl | hu
  ·rw [qke r f.1];exact qnq r rx f.1 fx
  ·exact qc1 rx fx t f.2 u' hu
def inV (x:V) (xs:List V):Bool:=xs.any fun y=>eqV y x
def rIn (K:PySem.W.Frag) (neg:Bool):R2:=fun x y H Q=>∃ p xs,y = .ref p/\(SqL K H p xs\/SqT K H p xs)/\qbj x=true/\xs.all qbj=true/\Q (.bl (if neg then !inV x xs else inV x xs)) H
theorem qdS:OpR X (compareOp .NotIn) (rIn X.K true):=by
 intro pins s Z H x y v u Q I rx ry h
 obtain ⟨p,xs,rfl,hq,fx,fs,q⟩:=h
 cases ry
 rcases hq with hq | hq
 ·obtain ⟨its,r,pl,hz⟩:=I.list hq
  refine SeqAt.notIn_listAt (eqU x) pl.isList (fun w hw=>qc1 rx fx r fs w (by simpa using hw)) ⟨.bl _,H,I,rfl,?_⟩
  rw [show its.toArray.any (eqU x)=its.any (eqU x) by simp,qeQ r fs]
  exact q
 ·obtain ⟨its,r,pl,hz⟩:=I.tuple hq
  refine SeqAt.notIn_tupleAt (eqU x) pl (fun w hw=>qc1 rx fx r fs w (by simpa using hw)) ⟨.bl _,H,I,rfl,?_⟩
  rw [show its.toArray.any (eqU x)=its.any (eqU x) by simp,qeQ r fs]
  exact q
theorem qdT:uD X (.builtin "len") (fun xs H Q=>∃ p ys,xs=[.ref p]/\(SqL X.K H p ys\/SqT X.K H p ys)/\Q (.int ys.length) H):=by
 intro pins s Z H xs us Q I r h
 obtain ⟨p,ys,rfl,hq,q⟩:=h
 obtain ⟨u,rfl,rx⟩:=qlf r
 cases rx
 have hn:=qbD
 rcases hq with hq | hq
 ·obtain ⟨its,r',pl,hz⟩:=I.list hq
  have hlen:=r'.length
  exact Calls.call_len_list pl.isList (by simp only [sT_]<;>omega) ⟨.int ys.length,H,I.tok _,⟨s.toks+1,by rw [sT_,hlen]⟩,q⟩
 ·obtain ⟨its,r',pl,hz⟩:=I.tuple hq
  have hlen:=r'.length
  exact len_tuple pl (by simp only [sT_]<;>omega) ⟨.int ys.length,H,I.tok _,⟨s.toks+1,by rw [sT_,hlen]⟩,q⟩
theorem qdU:uD X (.builtin "len") (fun xs H Q=>∃ z,xs=[.str z]/\z.length<=sizeLine/\Q (.int z.length) H):=by
 intro pins s Z H xs us Q I r h
 obtain ⟨z,rfl,hz,q⟩:=h
 obtain ⟨u,rfl,t,rfl⟩:=qlf r
 have hn:=qbD
 exact len_str (by omega) ⟨.int z.length,H,I.tok _,⟨_,rfl⟩,q⟩
theorem uD.or {f:Value} {r r':List V->Hp->VK->Prop} (h:uD X f r) (h':uD X f r'):uD X f (fun xs H Q=>r xs H Q\/r' xs H Q):=by
 intro pins s Z H xs us Q I rs q
 rcases q with q | q
 ·exact h pins s Z H xs us Q I rs q
 ·exact h' pins s Z H xs us Q I rs q
theorem u4:uD X (.type "tuple") (fun xs H Q=>∃ p ys,xs=[.ref p]/\((SqL X.K H p ys/\∀ l,H l=none->Q (.ref l) (upd H l (.tup ys)))\/(SqT X.K H p ys/\Q (.ref p) H))):=by
 intro pins s Z H xs us Q I r h
 obtain ⟨p,ys,rfl,h⟩:=h
 obtain ⟨u,rfl,rx⟩:=qlf r
 cases rx
 rcases h with ⟨hq,q⟩ | ⟨hq,q⟩
 ·obtain ⟨its,r',pl,hz⟩:=I.list hq
  have hlen:=r'.length
  refine call_tuple_list pl.isList (fun h' kp => ?_) (by simp only [sT_]<;>omega)
  have I1:Inv X pins Z H { s with heap:=h' }:=I.kept (t':=s.toks) kp
  have I2:Inv X pins Z (upd H h'.objs.size (.tup ys)) { s with heap:=h'.push { cls := .type "tuple",data := .seq its.toArray } } :=
   I1.laid (t':=s.toks) (fun b o e=>Heap.get?_push_of_some _ e) (Nat.le_refl _) (show uc X.prog X.w _ _ _ (.tup ys) from ⟨hz,its,r',IsTup.new _ _⟩)
  exact ⟨.ref h'.objs.size,_,I2,rfl,q _ (I1.hok.fresh (Nat.le_refl _))⟩
 ·obtain ⟨its,r',pl,hz⟩:=I.tuple hq
  exact call_tuple_same pl ⟨.ref p,H,I,rfl,q⟩
def tyV (K:PySem.W.Frag) (T:String) (x:V) (H:Hp):Prop:=match x with
 | .str _=>T="str"
 | .int _=>T="int"
 | .ref p=>(T="list"/\∃ xs,SqL K H p xs)\/(T="tuple"/\∃ o,K.lookup p=some o/\o.cls = .type "tuple"/\o.dict=none) \/
   (T="dict"/\((∃ kvs,H p=some (.dK kvs))\/∃ kvs,H p=some (.dT kvs)))\/(T="set"/\∃ S n,H p=some (.set S n))
 | _=>False
theorem qnr {pins:List (Addr×Obj)} {Z:St} {H:Hp} {s:Shared} {T:String} {x:V} {v:Value} (I:Inv X pins Z H s) (r:jI x v) (ty:tyV X.K T x H) :
  s.TypeIs v T/\∀ a,v = .ref a->∃ ob,s.heap.get? a=some ob/\ob.dict=none:=by
 cases x with
 | str z =>
  obtain ⟨t,rfl⟩:=r
  cases (show T="str" from ty)
  exact ⟨typeIs_str s z t,fun _ e=>nomatch e⟩
 | int i =>
  obtain ⟨t,rfl⟩:=r
  cases (show T="int" from ty)
  exact ⟨typeIs_int s i t,fun _ e=>nomatch e⟩
 | ref p =>
  cases r
  rcases ty with ⟨rfl,xs,hq⟩ | ⟨rfl,o,hk,hc,hd⟩ | ⟨rfl,hk⟩ | ⟨rfl,S,n,hk⟩
  ·obtain ⟨its,_,pl,_⟩:=I.list hq
   refine ⟨pl.isList.typeIs,fun a e => ?_⟩
   cases e
   obtain ⟨o,n,e,c,hd,_⟩:=pl
   exact ⟨o,e,hd⟩
  ·refine ⟨⟨o,I.kIn p o hk,hc⟩,fun a e => ?_⟩
   cases e
   exact ⟨o,I.kIn _ o hk,hd⟩
  ·have z:∃ o,s.heap.get? p=some o/\o.ExactDict:=by
    rcases hk with ⟨kvs,hk⟩ | ⟨kvs,hk⟩
    ·obtain ⟨_,_,_,_,o,_,_,e,ex,_⟩:=I.hok p _ hk
     exact ⟨o,e,ex⟩
    ·obtain ⟨_,_,_,_,o,_,_,e,ex,_⟩:=I.hok p _ hk
     exact ⟨o,e,ex⟩
   obtain ⟨o,e,ex⟩:=z
   refine ⟨⟨o,e,ex.1⟩,fun a e2 => ?_⟩
   cases e2
   exact ⟨o,e,ex.2.1⟩
  ·obtain ⟨o,_,_,_,e,ex,_⟩:=I.hok p _ hk
   refine ⟨⟨o,e,ex.1⟩,fun a e2 => ?_⟩
   cases e2
   exact ⟨o,e,ex.2.1⟩
 | _=>exact False.elim ty
def tBM (K:PySem.W.Frag) (T:String) (r:V->List V->Hp->VK->Prop) (to:TE) (t:TA):TE:=fun Z H Q=>to Z H fun x H1=>tyV K T x H1/\t Z H1 fun xs H2=>r x xs H2 Q
variable {o e:Expr} {es:List Expr} {to:TE} {t:TA} {name:Str} {apos cpos:Pos} {T id:String} {r:V->List V->Hp->VK->Prop}
theorem qns (pa:PlainAttrs T) (slot:Slot T name id) (hty:typeOf (.builtin id)=pure (.type "method_descriptor")) (hm:MtR X id r) (ho:PE X o to) (ha:PA X (e::es) t)
  (hbase:attributeBase o name X.env (eval o X.env)=eval o X.env:=by rfl)
  (hfew:((backTo cpos (starEach (e::es) X.env)).all (fun x => !x.1)&&(backToKw cpos (keywordEach [] X.env)).all (fun x=>x.1.isSome)
   && decide ((e::es).length+([]:List Keyword).length+(if ([]:List Keyword).isEmpty then 0 else 1)<30))=true:=by rfl)
  (hline:(apos.endLine==cpos.line)=true:=by rfl) (hs:starEach (e::es) X.env=(false,eval e X.env)::starEach es X.env:=by rfl) (hplain:(backTo cpos (starEach es X.env)).any (·.1)=false:=by rfl) :
  PE X (.Call (.Attribute o name apos) (e::es) [] cpos) (tBM X.K T r to t):=by
 intro pins s Z H Q I h
 refine wpAny_Call_method_late hbase hfew hline rfl (thn (ho pins s Z H _ I h) fun v s1 ⟨x,H1,I1,r1,ty,q1⟩ => ?_)
 obtain ⟨h1,h2⟩:=qnr I1 r1 ty
 refine ⟨T,id,pa,slot,hty,h1,h2,?_⟩
 have hA:=ha cpos pins s1 Z H1 _ I1 q1
 rw [hs] at hA |-
 refine Calls.callWith_builtin (by show (false||(backTo cpos (starEach es X.env)).any (·.1))=false;rw [hplain]<;>rfl) (Calls.evalArgs_plain ?_)
 exact thn hA fun us s2 ⟨vs,H2,I2,r2,q2⟩=>hm pins s2 Z H2 x vs v us Q I2 r1 r2 q2
/- xs.append(e),list.index on a module's tuple .. are MtR facts of 06m -/
end
end L2
namespace L2
open PySem PySem.Spec PyProof.Rows
def MtM (X:Cx) (id:String) (r:V->List V->Hp->VK->Prop):Prop :=
 ∀ (pins:List (Addr×Obj)) (s:Shared) (Z:St) (H:Hp) (x:V) (xs:List V) (v:Value) (us:List Value) (Q:VK),Inv X pins Z H s->jI x v->zd xs us->r x xs H Q ->
  wpAny (model X.prog X.w) X.A (call (.builtin id) (v::us)) (EP X pins Z Q) X.xe s
theorem zd.one:∀ {x:V} {us:List Value},zd [x] us->∃ u,us=[u]/\jI x u
 | _,_,.cons r .nil=>⟨_,rfl,r⟩
theorem zd.two:∀ {x y:V} {us:List Value},zd [x,y] us->∃ u v,us=[u,v]/\jI x u/\jI y v
 | _,_,_,.cons r (.cons q .nil)=>⟨_,_,rfl,r,q⟩
theorem zd.eraseIdx:∀ {xs:List V} {us:List Value} (i:Nat),zd xs us->zd (xs.eraseIdx i) (us.eraseIdx i)
 | _,_,_,.nil => .nil
 | _,_,0,.cons _ t=>t
 | _,_,i+1,.cons r t => .cons r (zd.eraseIdx i t)
theorem zd.reverse {xs:List V} {us:List Value} (h:zd xs us):zd xs.reverse us.reverse:=by
 induction h with
 | nil=>exact .nil
 | cons r t ih=>rw [List.reverse_cons,List.reverse_cons];exact zd.append ih (.cons r .nil)
theorem zd.rep {xs:List V} {us:List Value} (h:zd xs us):∀ k:Nat,zd (List.replicate k xs).flatten (List.replicate k us).flatten
 | 0 => .nil
 | k+1=>by
  rw [rS_,rS_,List.flatten_cons,List.flatten_cons]
  exact zd.append h (zd.rep h k)
theorem qbG (its:List Value):∀ (k:Nat) (acc:List Value),
  List.foldl (fun x1 x2=>x1++x2) acc.toArray (List.replicate k its.toArray)=(acc++(List.replicate k its).flatten).toArray
 | 0,acc=>by simp
 | k+1,acc=>by
  have e:acc.toArray++its.toArray=(acc++its).toArray:=by simp
  have e2:(acc++its)++(List.replicate k its).flatten=acc++(List.replicate (k+1) its).flatten:=by
   rw [rS_,List.flatten_cons,aA_]
  rw [<- e2,<- qbG its k (acc++its),<- e,rS_,fo_]
section
variable {X:Cx} {pins:List (Addr×Obj)} {Z:St} {H:Hp} {s:Shared} {l b:Addr} {xs ys zs:List V}
theorem Inv.lset {its its':List Value} {n:Nat} {f:Array Value->Array Value} {t':Nat} (I:Inv X pins Z H s) (hH:H l=some (.lst xs))
  (e:s.heap.get? l=some { cls := .type "list",data := .seq its.toArray n }) (hf:f its.toArray=its'.toArray) (hv:zd ys its') (hz:ys.length<=sizeLine) :
  Inv X pins Z (upd H l (.lst ys)) { s with heap:=s.heap.update l (Obj.mapSeq f),toks:=t' }:=by
 have q:=PySem.IsL.update e f
 rw [hf] at q
 refine I.write (x:=l) (e:=l) (by rw [hH];exact trivial) (.inl rfl) (fun b' u hb hu=>(Heap.get?_update_other s.heap (Obj.mapSeq f) (Ne.symm hb)).trans hu) ⟨_,q⟩ ?_
 exact ⟨hz,its',_,hv,q⟩
theorem Inv.lnew {its:List Value} {t':Nat} (I:Inv X pins Z H s) (hv:zd ys its) (hz:ys.length<=sizeLine) :
  Inv X pins Z (upd H s.heap.objs.size (.lst ys)) { s with heap:=s.heap.push { cls := .type "list",data := .seq its.toArray },toks:=t' } :=
 I.laid (fun _ _ q=>Heap.get?_push_of_some _ q) (Nat.le_refl _) ⟨hz,its,0,hv,Heap.get?_push_size _ rfl⟩
theorem Inv.fresh (I:Inv X pins Z H s):H s.heap.objs.size=none:=I.hok.fresh (Nat.le_refl _)
theorem Inv.lstM (I:Inv X pins Z H s) (hH:H l=some (.lst xs)):xs.length<=sizeLine/\∃ (its:List Value) (n:Nat),zd xs its/\xs.length=its.length/\s.heap.get? l=some { cls := .type "list",data := .seq its.toArray n }:=by
 obtain ⟨z,its,n,r,e⟩:=I.hok l _ hH
 exact ⟨z,its,n,r,r.length,e⟩
theorem qfs {n:Nat} (h:n<=sizeLine):Builtin.List.listTooLong n=false:=by
 unfold Builtin.List.listTooLong
 exact decide_eq_false (by omega)
end
section
variable {X:Cx}
def qlo:V->List V->Hp->VK->Prop:=fun x vs H Q=>∃ l xs y,x = .ref l/\vs=[y]/\H l=some (.lst xs)/\xs.length<sizeLine/\Q .non (upd H l (.lst (xs++[y])))
theorem qbH:MtM X "list.append" qlo:=by
 intro pins s Z H x vs v us Q I rx rv h
 obtain ⟨l,xs,y,rfl,rfl,hH,hz,q⟩:=h
 cases rx
 obtain ⟨u,rfl,ru⟩:=rv.one
 obtain ⟨z,its,n,r,hl,e⟩:=I.lstM hH
 refine call_meets F.slot_list_append ⟨_,e,rfl⟩ F.entry_list_append (F.args_list_append_2 _ _) (PySem.list_append l its.toArray n u (by rw [sT_];omega)) ⟨e,?_⟩
 refine ⟨.non,_,I.lset (its':=its++[u]) hH e (by simp) (r.append (.cons ru .nil)) ?_,rfl,q⟩
 rw [lA_,List.length_singleton]
 omega
def qlp:V->List V->Hp->VK->Prop:=fun x vs H Q=>∃ l b xs zs,x = .ref l/\vs=[.ref b]/\H l=some (.lst xs)/\H b=some (.lst zs)/\xs.length+zs.length<=sizeLine/\Q .non (upd H l (.lst (xs++zs)))
theorem qnt:MtM X "list.extend" qlp:=by
 intro pins s Z H x vs v us Q I rx rv h
 obtain ⟨l,b,xs,zs,rfl,rfl,hH,hB,hz,q⟩:=h
 cases rx
 obtain ⟨u,rfl,ru⟩:=rv.one
 cases ru
 obtain ⟨z,its,n,r,hl,e⟩:=I.lstM hH
 obtain ⟨z2,its2,n2,r2,hl2,e2⟩:=I.lstM hB
 have hsz:its.toArray.size+its2.toArray.size<=sizeLine:=by rw [sT_,sT_];omega
 have hlong:¬ (!its.toArray.isEmpty&&Builtin.List.listTooLong (its.toArray.size+its2.toArray.size))=true:=by
  rw [qfs hsz,Bool.and_false]
  exact Bool.false_ne_true
 refine call_meets F.slot_list_extend ⟨_,e,rfl⟩ F.entry_list_extend (F.args_list_extend_2 _ _)
  (AutoSeq1.list_extend_list_list_0 l its.toArray n b its2.toArray n2 hlong (by rw [sT_];omega) (by omega)) ⟨e,e2,?_⟩
 refine ⟨.non,_,I.lset (its':=its++its2) hH e (by simp) (r.append r2) ?_,rfl,q⟩
 rw [lA_]
 omega
def qp5:R2:=fun x y H Q=>∃ l b xs zs,x = .ref l/\y = .ref b/\H l=some (.lst xs)/\H b=some (.lst zs)/\xs.length+zs.length<=sizeLine/\∀ p,H p=none->Q (.ref p) (upd H p (.lst (xs++zs)))
theorem qnu:OpR X (binaryOp .Add) qp5:=by
 intro pins s Z H x y v u Q I rx ry h
 obtain ⟨l,b,xs,zs,rfl,rfl,hH,hB,hz,q⟩:=h
 cases rx
 cases ry
 obtain ⟨z,its,n,r,hl,e⟩:=I.lstM hH
 obtain ⟨z2,its2,n2,r2,hl2,e2⟩:=I.lstM hB
 refine PySem.P.add_list e e2 ?_ (by rw [sT_,sT_];omega)
 have ea:its.toArray++its2.toArray=(its++its2).toArray:=by simp
 rw [ea]
 exact ⟨.ref _,_,I.lnew (t':=s.toks) (r.append r2) (by rw [lA_];omega),rfl,q _ I.fresh⟩
def qp6:R2:=fun x y H Q=>∃ l k xs,x = .ref l/\y = .int k/\H l=some (.lst xs) /\ -(2 ^ 63)<=k/\k<2 ^ 63/\xs.length*k.toNat<=sizeLine /\
 ∀ p,H p=none->Q (.ref p) (upd H p (.lst (List.replicate k.toNat xs).flatten))
theorem qeR {α:Type} (xs:List α) (k:Nat):(List.replicate k xs).flatten.length=k*xs.length:=by
 induction k with
 | zero=>simp
 | succ k ih=>rw [rS_,List.flatten_cons,lA_,ih,Nat.succ_mul,Nat.add_comm]
theorem qkf:OpR X (binaryOp .Mult) qp6:=by
 intro pins s Z H x y v u Q I rx ry h
 obtain ⟨l,k,xs,rfl,rfl,hH,h1,h2,hz,q⟩:=h
 cases rx
 obtain ⟨t,rfl⟩:=ry
 obtain ⟨z,its,n,r,hl,e⟩:=I.lstM hH
 have hlen:its.toArray.size*k.toNat<=sizeLine:=by rw [sT_,<- hl];exact hz
 have hcap:¬ its.toArray.size*k.toNat>(2 ^ 63-1)/8:=by
  have:(sizeLine:Nat)<=(2 ^ 63-1)/8:=by decide
  omega
 have hfit:¬ (!Builtin.List.listFitsIndex k)=true:=by
  rw [fitsIndex_both h1 h2]
  exact Bool.false_ne_true
 have hlong:¬ Builtin.List.listTooLong (its.toArray.size*k.toNat)=true:=by
  rw [qfs hlen]
  exact Bool.false_ne_true
 have hnew:List.foldl (fun x1 x2=>x1++x2) #[] (List.replicate (if its.toArray.isEmpty=true then 0 else k.toNat) its.toArray)=(List.replicate k.toNat its).flatten.toArray:=by
  have f0:∀ m:Nat,List.foldl (fun x1 x2=>x1++x2) #[] (List.replicate m its.toArray)=(List.replicate m its).flatten.toArray:=fun m=>by
   have:=qbG its m []
   rw [List.nil_append] at this
   exact this
  rw [f0]
  cases its with
  | nil=>simp
  | cons a r'=>rw [if_neg (by simp)]
 refine wpAny_binaryOp_repeat_ref (T:="list") (U:="int") (by decide) ⟨_,e,rfl⟩ (fun s'=>typeIs_int s' k t) noFill_list_mul F.fills_int_mul F.slot_int_rmul repeat_list F.slot_int_index.lookup
  (call_meets F.slot_int_rmul (typeIs_int s k t) F.entry_int_rmul (F.args_int_rmul_2 _ _) (int___rmul___int_list k t l its.toArray n)
   ⟨e,rfl,⟨_,e,rfl⟩,call_meets F.slot_list_mul ⟨_,e,rfl⟩ F.entry_list_mul (F.args_list_mul_2 _ _) (AutoListH.list___mul___list_int_3 l its.toArray n k t hfit hcap hlong) ⟨e,?_⟩⟩)
 rw [hnew]
 exact ⟨.ref _,_,I.lnew (t':=s.toks) (r.rep k.toNat) (by rw [qeR,Nat.mul_comm];exact hz),rfl,q _ I.fresh⟩
end
section
variable {prog:Program} {w:World} {A:Around} {E:Value->Shared->Prop} {s:Shared}
set_option maxRecDepth 100000 in
end
section
variable {X:Cx}
end
end L2
namespace Att
open PySem PySem.W PySem.Calls PyProof.Rows
theorem qbI {P:Params} {h:Heap}:∀ (ns:List Int) (vs:List Value),WellAll P h vs (ns.map WData.int)->IntsAre vs ns:=by
 intro ns
 induction ns with
 | nil =>
  intro vs w
  rw [List.map_nil] at w
  cases w
  exact .nil
 | cons n ns ih =>
  intro vs w
  rw [mC_] at w
  cases w with
  | cons a b =>
   cases a
   exact .cons _ _ (ih _ b)
theorem qg9 {l:OpenLaw} {n:Nat} (hn:l.most=some n) {P:Params} {h:Heap} {args:List WData} {vals:List Value}
  (hpre:l.row.toRowW.claim.pre args=true) (hwl:WellAll P h vals args) :
  ∃ a vs ns,vals=[Value.ref a]/\args=[WData.list (ns.map WData.int)]/\h.get? a=some { cls := .type "list",data := .seq vs.toArray }/\IntsAre vs ns/\ns.length<=n:=by
 have hsh:WShape.hasAll [] args [.list .int]=true:=(pre_splitW hpre).1
 have hc:l.pre.holds [] { args:=args }=true:=(pre_splitW hpre).2
 obtain ⟨d,r,rfl,h1,h2⟩:=hasAllW_cons hsh
 obtain rfl:=hasAllW_nil h2
 obtain ⟨xs,rfl,h3⟩:=hasW_list h1
 obtain ⟨ns,rfl⟩:=items_int h3
 have hlen:ns.length<=n:=by
  unfold OpenLaw.pre at hc
  have h4:(WTm.not (.lt (.lit (.int (n:Int))) (.len (.arg 0)))).holds [] { args:=[.list (ns.map .int)] }=true:=by
   have h4:=(holds_andW hc).1
   rw [hn] at h4
   exact h4
  have h5:=condW_of h4 (w_not (w_lt w_lit (w_len_list (w_arg rfl))))
  rw [lM_] at h5
  refine Nat.le_of_not_lt fun q => ?_
  have q':(n:Int)<((ns.length:Nat):Int):=by omega
  first
   | (rw [decide_eq_true q'] at h5;exact absurd h5 (by decide))
   | (simp at h5;omega)
 cases hwl with
 | cons w1 w2 =>
  cases w2
  cases w1 with
  | list ho hall=>exact ⟨_,_,ns,rfl,rfl,ho,qbI ns _ hall,hlen⟩
theorem qha (l:OpenLaw) (args:List WData):l.row.toRowW.claim.post args (.bool true) args=true :=
 postW_of (r:=l.row.toRowW) (X:=(true==true))
  (show WShape.has [] (.bool true) .bool=true by first | rfl | decide | simp [WShape.has,WShape.arms,WShape.armsAll])
  (show (WTm.eq .res (.lit (.bool true))).value [] { args:=args,res:=some (.bool true),after:=args }=some (.bool (true==true)) from w_eq_bool (w_res rfl) w_lit) rfl
theorem attach_call {l:OpenLaw} {n:Nat} {q:Program} {loose:List Str} {XP:(Str->Option Value)->Heap->Prop} {YP:World->Heap->Prop} {d:DefRec}
  (hn:l.most=some n) (hdf:d.params.defaults=[])
  (call:∀ (w:World) (s₀ sJ:Shared) (mg mb:Str->Option Value) (fa:Addr) (o:Obj) (pm cd doc:Value) (a:Addr) (vs:List Value) (ns:List Int),
   Ground q loose [] XP w s₀ mg mb sJ.heap->YP w sJ.heap ->
   sJ.heap.get? fa=some o->o.data = .func (docDef d.name d.params d.body d.scope pm cd doc)->sJ.heap.CodeRec cd d.name->mg d.name=some (.ref fa) ->
   sJ.heap.get? a=some { cls := .type "list",data := .seq vs.toArray }->IntsAre vs ns->ns.length<=n->sJ.gens = #[] ->
   codeAny (model l.prog w) callerA (.call (.ref fa) ⟨[.ref a],[]⟩) (fun r s'=>r = .ok (.ret (.bool true))/\OldK sJ.heap s'.heap/\s'.os=sJ.os/\AllBare s'.gens) sJ) :
  WalkO q loose XP YP l.row.toRowW d [] (fun f vs=>PySem.call f vs):=by
 intro w s₀ sJ mg mb G Y fa o pm cd doc dV kV ho hd hcd hD hmg hg args vals as hpre hlay hrd hwl hlo
 obtain rfl:dV = .none:=Dflts.none hD hdf
 obtain rfl:kV = .none:=Dflts.noKw hD
 obtain ⟨a,vs,ns,rfl,rfl,hobj,hints,hlen⟩:=qg9 hn hpre hwl
 refine enter_call (codeAny_mono (call w s₀ sJ mg mb fa o pm cd doc a vs ns G Y ho (fd_plain hd) hcd hmg hobj hints hlen hg) fun r s' hq => ?_)
 obtain ⟨rfl,h2,h3,h4⟩:=hq
 exact ⟨.inl ⟨.bool true,.bool true,[],rfl,fun _=>rfl,.bool true,qha l _,fun _=>⟨List.Pairwise.nil,fun _ hm=>(nomatch hm)⟩⟩,h2,h3,h4⟩
section
variable {prog:Program} {w:World} {A:Around} {E:Value->Shared->Prop} {s:Shared} {K:Frag}
end
end Att
namespace L2
open PySem PySem.Spec PyProof.Rows
theorem qdV:∀ {vs:List Value} {ns:List Int},IntsAre vs ns->zd (ns.map V.int) vs
 | _,_,.nil => .nil
 | _,_,.cons n t h => .cons ⟨t,rfl⟩ (qdV h)
def qoP (H:Hp):Prop:=∀ b,H b=none\/(∃ o xs,H b=some (.frz o (.lst xs)))\/∃ pos q,H b=some (.lam pos q)
def qoQ:Option (Addr×Addr×Pos×Str)->Hp
 | some (_,Pt,pos,q)=>fun b=>if b=Pt then some (.lam pos q) else none
 | none=>fun _=>none
theorem qi1 {P:Program} {w:World} {K:PySem.W.Frag} {mg mb:Str->Option Value} {CX:CXT} {k:Nat} {fa a:Addr} {fd:FuncData} {x:Str} {sp:Sp} {sJ:Shared} {vs:List Value} {ns:List Int} {lm:Option (Addr×Addr×Pos×Str)}
  (KX:K.In sJ.heap) (hns:sJ.heap.Ns mainGlobals mg) (hb:sJ.heap.Ns builtinsNs mb) (hbb:∀ x:Str,x≠"__name__"->mb x=bootBuiltins x) (hlim:sJ.heap.NoLimit)
  (hbm:∃ bm ob,mg "__builtins__"=some (.ref bm)/\bm≠builtinsNs/\sJ.heap.get? bm=some ob/\ob.cls = .type "module"/\ob.dict=some builtinsNs/\ob.data = .plain)
  (hlm:∀ c Pt pos q,lm=some (c,Pt,pos,q)->PySem.W.CodeHd sJ.heap c Pt/\sJ.heap.get? Pt=some (PySem.W.tabObj #[])/\K.lookup Pt=none)
  (hg:sJ.gens = #[])
  (ha:sJ.heap.get? a=some { cls := .type "list",data := .seq vs.toArray }) (hi:IntsAre vs ns) (hl:ns.length<=sizeLine) (hr:vv k callerA)
  (F:∀ base:Heap,K.In base->base.Ns mainGlobals mg->qct P w K mg base CX k fa fd [x] sp) (hbind:∀ (s:Shared) (u:Value),BindsTo s fd ⟨[u],[]⟩ [(x,u)])
  (hsp:∀ H:Hp,qoP H->(∀ c Pt pos q,lm=some (c,Pt,pos,q)->H Pt=some (.lam pos q))->SqL K H a (ns.map V.int)->sp [.ref a] H (fun v _=>v = .bl true) fun _ _ _=>False)
  (hCX:∀ H e s',CX [] H sJ (fun _ _ _=>False) e s'->False) :
  codeAny (model P w) callerA (.call (.ref fa) ⟨[.ref a],[]⟩) (fun r s'=>r = .ok (.ret (.bool true))/\OldK sJ.heap s'.heap/\s'.os=sJ.os/\AllBare s'.gens) sJ:=by
 have rv:=qdV hi
 have lenV:=hi.length
 have core:∀ H:Hp,qoP H->(∀ c Pt pos q,lm=some (c,Pt,pos,q)->H Pt=some (.lam pos q))->SqL K H a (ns.map V.int)->HOk P w H sJ.heap ->
   (∀ b u,H b=some u->K.lookup b=none/\((∃ o xs,u = .frz o (.lst xs))\/∃ c pos q,lm=some (c,b,pos,q)/\u = .lam pos q)) ->
   codeAny (model P w) callerA (.call (.ref fa) ⟨[.ref a],[]⟩) (fun r s'=>r = .ok (.ret (.bool true))/\OldK sJ.heap s'.heap/\s'.os=sJ.os/\AllBare s'.gens) sJ:=by
  intro H hO hT hS hok hA
  have base_of:∀ {b:Addr} {o:Obj},sJ.heap.get? b=some o->H b=none->(qiN sJ.heap H).get? b=some o:=fun e n=>qiO e n
  have noD:∀ {b:Addr} {o:Obj},sJ.heap.get? b=some o->(∀ its n,o.data ≠ .seq its n)->(∀ f,o.data ≠ .fields f)->H b=none:=fun {b o} e d1 d2=>by
   cases q:H b with
   | none=>rfl
   | some u =>
    rcases (hA b u q).2 with ⟨ob,xs,rfl⟩ | ⟨c,pos,q',hl2,rfl⟩
    ·obtain ⟨e1,_,its,n,_,e2⟩:=hok b _ q
     rw [e] at e2;cases e2
     exact (d1 _ _ rfl).elim
    ·have e2:=(hlm _ _ _ _ hl2).2.1
     rw [e] at e2;cases e2
     exact (d2 _ rfl).elim
  have nsK:∀ {b:Addr} {m:Str->Option Value},sJ.heap.Ns b m->(qiN sJ.heap H).Ns b m:=fun {b m} ⟨o,es,ep,e,d,r⟩=>⟨o,es,ep,base_of e (noD e (fun _ _ z=>by rw [d] at z;cases z) fun _ z=>by rw [d] at z;cases z),d,r⟩
  have hKb:K.In (qiN sJ.heap H):=fun b o e=>base_of (KX b o e) (by
   cases q:H b with
   | none=>rfl
   | some u=>rw [(hA b u q).1] at e;cases e)
  have hM:Mod K mg (qiN sJ.heap H):=⟨hKb,nsK hns,⟨mb,nsK hb,hbb⟩,let ⟨mc,h1,h2⟩:=hlim;⟨mc,nsK h1,h2⟩,
   let ⟨bm,ob,b1,b2,b3,b4,b5,b6⟩:=hbm;⟨bm,ob,b1,b2,base_of b3 (noD b3 (fun _ _ z=>by rw [b6] at z;cases z) fun _ z=>by rw [b6] at z;cases z),b4,b5,b6⟩⟩
  have e0:qni P w K mg (qiN sJ.heap H) callerA [] sJ H:=⟨rfl,hM,fun b o e=>qk0 e,Nat.le_of_eq (qgT _ _),trivial,fun b hb=>absurd (show b∈([]:List Addr) from hb) (by simp),hok,.of_eq hg⟩
  refine codeAny_mono ((F _ hKb (nsK hns)).run callerA [] sJ H ⟨[.ref a],[]⟩ [.ref a] [.ref a] _ _ hr e0 (hbind sJ (.ref a)) (.cons rfl .nil) (hsp H hO hT hS)) fun r s' h => ?_
  cases r with
  | error e=>exact (hCX H e s' h).elim
  | ok fl =>
   cases fl with
   | next=>exact False.elim h
   | brk=>exact False.elim h
   | cont=>exact False.elim h
   | ret u =>
    obtain ⟨v,H',os,bare,un,hok',r',q⟩:=h
    have q':v = .bl true:=q
    subst q'
    obtain rfl:u=Value.bool true:=r'
    have asIt:∀ b o,sJ.heap.get? b=some o->asItWas sJ.heap s'.heap b o:=fun b o e=>by
     cases q:H b with
     | none=>exact .inl (un.keep b o e q (by intro z;exact absurd (show b∈([]:List Addr) from z) (by simp)) (by simp))
     | some u =>
      rcases (hA b u q).2 with ⟨ob,xs,rfl⟩ | ⟨c,pos,q2,hl2,rfl⟩
      ·have z2:=un.frzs b ob _ q
       obtain ⟨e1,_⟩:=hok b _ q
       obtain ⟨e2,_⟩:=hok' b _ z2
       rw [e] at e1;cases e1
       exact .inl e2
      ·obtain ⟨hc,e2,_⟩:=hlm _ _ _ _ hl2
       rw [e] at e2;cases e2
       rcases hok' b _ (un.tbls b pos q2 q) with z | ⟨c',oc,vs',t,_,_,_,z⟩
       ·exact .inl z
       ·exact .inr (.inl ⟨(hc.tab e).isCodeTable,rfl,#[],_,rfl,by rw [Array.empty_append];exact z⟩)
    exact ⟨rfl,⟨asIt,fun b o e=>un.there b o e (by simp)⟩,os,bare⟩
 let T:Hp:=qoQ lm
 have hTb:∀ b u,T b=some u->∃ c pos q,lm=some (c,b,pos,q)/\u = .lam pos q:=fun b u z=>by
  cases hq:lm with
  | none=>simp only [T,hq,qoQ] at z;cases z
  | some p =>
   obtain ⟨c,Pt,pos,q⟩:=p
   simp only [T,hq,qoQ] at z
   by_cases hbp:b=Pt
   ·rw [if_pos hbp] at z;cases z
    exact ⟨c,pos,q,by rw [hbp],rfl⟩
   ·rw [if_neg hbp] at z;cases z
 have hTa:T a=none:=by
  cases q:T a with
  | none=>rfl
  | some u =>
   obtain ⟨c,pos,q2,hl2,_⟩:=hTb a u q
   have:=(hlm _ _ _ _ hl2).2.1
   rw [ha] at this;cases this
 have hTt:∀ c Pt pos q,lm=some (c,Pt,pos,q)->T Pt=some (.lam pos q):=fun c Pt pos q e=>by
  simp only [T,e,qoQ,if_true]
 cases hk:K.lookup a with
 | some o =>
  have e:=KX a o hk
  rw [ha] at e
  cases e
  refine core T (fun b => ?_) hTt (.inr ⟨_,vs.toArray,_,hk,rfl,rfl,rfl,by rw [sT_,lenV];exact hl,by simpa using rv⟩) (fun b u z => ?_) (fun b u z => ?_)
  ·cases q:T b with
   | none=>exact .inl rfl
   | some u=>obtain ⟨_,pos,q2,_,rfl⟩:=hTb b u q;exact .inr (.inr ⟨pos,q2,rfl⟩)
  ·obtain ⟨c,pos,q2,hl2,rfl⟩:=hTb b u z
   exact .inl (hlm _ _ _ _ hl2).2.1
  ·obtain ⟨c,pos,q2,hl2,rfl⟩:=hTb b u z
   exact ⟨(hlm _ _ _ _ hl2).2.2,.inr ⟨c,pos,q2,hl2,rfl⟩⟩
 | none =>
  refine core (upd T a (.frz { cls := .type "list",data := .seq vs.toArray } (.lst (ns.map V.int)))) (fun b => ?_) (fun c Pt pos q e => ?_) (.inl (.inr ⟨{ cls := .type "list",data := .seq vs.toArray },qt⟩)) (fun b u z => ?_) (fun b u z => ?_)
  ·by_cases hb:b=a
   ·subst hb;exact .inr (.inl ⟨_,_,qt⟩)
   ·rw [qu hb]
    cases q:T b with
    | none=>exact .inl rfl
    | some u=>obtain ⟨_,pos,q2,_,rfl⟩:=hTb b u q;exact .inr (.inr ⟨pos,q2,rfl⟩)
  ·have h1:=hTt c Pt pos q e
   rw [qu (qH h1 hTa)]
   exact h1
  ·by_cases hb:b=a
   ·subst hb
    rw [qt] at z;cases z
    exact ⟨ha,by rw [lM_];exact hl,vs,_,rv,ha⟩
   ·rw [qu hb] at z
    obtain ⟨c,pos,q2,hl2,rfl⟩:=hTb b u z
    exact .inl (hlm _ _ _ _ hl2).2.1
  ·by_cases hb:b=a
   ·subst hb
    rw [qt] at z;cases z
    exact ⟨hk,.inl ⟨_,_,rfl⟩⟩
   ·rw [qu hb] at z
    obtain ⟨c,pos,q2,hl2,rfl⟩:=hTb b u z
    exact ⟨(hlm _ _ _ _ hl2).2.2,.inr ⟨c,pos,q2,hl2,rfl⟩⟩
end L2
namespace L2
open PySem PySem.Spec PyProof.Rows
end L2
/- THE LAST THEOREM (shape;LID,My.* are yours):
   My.Adr: a structure of the addresses that your layer names (classes,functions);My.Txt K t: a structure (Prop) of the equations over K;
   My.txt_mk:{K} {implicit addresses ..} (e1:nsIn K mainGlobals "law"=some (some (.ref f))) (e2:K.lookup f=some ⟨oc,od,.func (fnOf "law" "law" params body scope dV kV doc pm an cdv ct),sl⟩) (e3:codeIn K cdv "law"=true) .. : ∃ t,My.Txt K t
set_option maxRecDepth 100000 in
set_option maxHeartbeats 0 in
theorem PySem.Challenge.cw_LID_holds : PySem.Challenge.rw_LID.Holds := by
 w_on;o_law;k_head;(case hw=>w_witness2)
 k_fill
 refine L2.walk_of (l:=PySem.Challenge.rw_LID) (n:=63) (k:=40) (x:="script") (CX:=fun w => ..) (sp:=fun _=>My.sp_law) rfl (by decide) rfl ⟨rfl,by decide,by decide⟩ (fun w h Y=>PySem.W.kIn_of Y) ?F ?S ?C
 case F =>
  intro w mg fa h KX G hmg
  have T:∃ t,My.Txt (L2.KOf KX) t:=by
   dsimp only [L2.KOf]                          -- K must stand as «<heap const> w.params» for k_is
   refine' My.txt_mk ?e1 ?e2 ?e3 ..
   (case e1=>PySem.W.k_is)                    -- in the order: a name->its address->its object->its parts
   (case e2=>PySem.W.k_is)
   ..
  obtain ⟨t,T⟩:=T
  have e0:=hmg.symm.trans (PySem.W.mg_of KX G T.law)
  cases e0                                       -- fa is the law's own address
  exact ⟨_,fun s u => .of_eq rfl,fun base kb nb=>My.law_fn T kb nb⟩     -- if «.of_eq rfl» comes too early: refine' ⟨_,?b,fun base kb nb=>My.law_fn T kb nb⟩;exact fun s u => .of_eq rfl
 case S=>exact fun w H a ns hl hO hS => ..
 case C=>exact ..
(the tactic k_is has no namespace: write k_is) -/
namespace L2
open PySem PySem.Spec PyProof.Rows
def qs (s:Stmt):Arguments:=match s with
 | .FunctionDef _ a _ _ _ _ _ _ _ _=>a
 | _=>{ posonlyargs:=[],args:=[],vararg:=none,kwonlyargs:=[],kw_defaults:=[],kwarg:=none,defaults:=[] }
def qo (s:Stmt):List Stmt:=match s with
 | .FunctionDef _ _ b _ _ _ _ _ _ _=>b
 | _=>[]
def qe (s:Stmt):Scope:=match s with
 | .FunctionDef _ _ _ _ _ _ sc _ _ _=>sc
 | _=>{ kind := .function,names:=[],isGenerator:=false,isCoroutine:=false }
abbrev CX0:CXT:=fun _ _ _ _ _ _=>False
abbrev E0:XK:=fun _ _ _=>False
theorem qlq {X:Cx}:qbE CX0 X E0:=fun _ _ _ _ _ _ _ h=>h.elim
structure Fun (K:PySem.W.Frag) (x qual:Str) (st:Stmt) (f:Addr) (fd:FuncData):Prop where
 ex:∃ (oc:Value) (od:Option Addr) (kV doc pm:Value) (an:Option Addr) (cdv ct:Value) (osl:Array (Option Value)),
  fd=PySem.W.fnOf x qual (qs st) (qo st) (qe st) .none kV doc pm an cdv ct/\K.lookup f=some ⟨oc,od,.func fd,osl⟩/\PySem.W.codeIn K cdv qual=true
 kp:PySem.W.keepIn K (.ref f)=true
section
variable {P:Program} {w:World} {K:PySem.W.Frag} {mg:Str->Option Value} {base:Heap}
theorem Fun.ok {x qual:Str} {st:Stmt} {f:Addr} {fd:FuncData} {N ps:List Str} {k:Nat} {sp:Sp} (F:Fun K x qual st f fd) (S:qp N ps (qe st)) (len:∀ vs H Q E,sp vs H Q E->vs.length=ps.length)
  (hbody:∀ (cdv:Value) (A:Around) (outer:List Env) (s:Shared) (H:Hp) (vs:List V) (Q:VK) (E:XK),vv k (A.deeper (envOfC qual (qe st) s.heap.objs.size f cdv))->sp vs H Q E ->
   ∃ t,PSs (qiX CX0 P w K mg base N qual (qe st) f cdv A outer s H E).nox (qo st) t/\t { nx:=fun _ H'=>Q .non H',rt:=Q } (ja N vs) H):qct P w K mg base CX0 (k+1) f fd ps sp:=by
 obtain ⟨oc,od,kV,doc,pm,an,cdv,ct,osl,rfl,lk,hcd⟩:=F.ex
 refine qnl lk hcd S len fun A outer s H vs Q E hr hsp => ?_
 obtain ⟨t,h,q⟩:=hbody cdv A outer s H vs Q E hr hsp
 exact ⟨t,h.nox,q⟩
theorem Fun.binds {x qual:Str} {st:Stmt} {f:Addr} {fd:FuncData} {ps:List Str} (F:Fun K x qual st f fd)
  (h:∀ (kV doc pm:Value) (an:Option Addr) (cdv ct:Value) (us:List Value),us.length=ps.length->bindArgs (PySem.W.fnOf x qual (qs st) (qo st) (qe st) .none kV doc pm an cdv ct) ⟨us,[]⟩=pure (ps.zip us)):wF K fd ps []:=by
 obtain ⟨oc,od,kV,doc,pm,an,cdv,ct,osl,rfl,lk,hcd⟩:=F.ex
 exact .all (h kV doc pm an cdv ct)
theorem qD {x qual:Str} {st:Stmt} {f:Addr} {oc:Value} {od an:Option Addr} {osl:Array (Option Value)} {kV doc pm cdv ct:Value} (l:K.lookup f=some ⟨oc,od,.func (PySem.W.fnOf x qual (qs st) (qo st) (qe st) .none kV doc pm an cdv ct),osl⟩)
  (c:PySem.W.codeIn K cdv qual=true) (k:PySem.W.keepIn K (.ref f)=true):Fun K x qual st f (PySem.W.fnOf x qual (qs st) (qo st) (qe st) .none kV doc pm an cdv ct):=⟨⟨oc,od,kV,doc,pm,an,cdv,ct,osl,rfl,l,c⟩,k⟩
end
section
variable {X:Cx}
theorem pv (i:Nat) {x:Str} {pos:Pos} (hN:X.N[i]? = some x:=by rfl) (hv:Vis X.env.scope x:=by first | exact Or.inl rfl | exact Or.inr (Or.inl rfl) | exact Or.inr (Or.inr rfl)) (hd:(x==("__debug__":Str))=false:=by decide)
  (hcd:(x==("__classdict__":Str))=false:=by decide):PE X (.Name x pos) (qpX i):=w9 hN hv hd hcd
end
theorem qmC {A B:Prop} (h:B):if false=true then A else B:=by
 rw [if_neg Bool.false_ne_true]
 exact h
theorem qmD {A B:Prop} (h:A):if true=true then A else B:=by
 rw [if_pos rfl]
 exact h
def jp (H H':Hp):Prop:=∀ b o,H b=some o->H' b=some o
theorem jp.refl (H:Hp):jp H H:=fun _ _ h=>h
theorem jp.trans {H H1 H2:Hp} (a:jp H H1) (b:jp H1 H2):jp H H2:=fun c o h=>b c o (a c o h)
theorem jp.free {H H':Hp} (e:jp H H') {l:Addr} (h:H' l=Option.none):H l=Option.none:=by
 cases q:H l with
 | none=>rfl
 | some o =>
  rw [e l o q] at h
  cases h
end L2
namespace L2.Sk
open PySem PySem.Spec PyProof.Rows
inductive D where
 | non | bl (b:Bool) | int (i:Int) | str (x:Str) | tup (xs:List D) | lst (xs:List D) | dic (kvs:List (Key×Int)) | fz (ns:List Int)
 | exc (n:Str)
abbrev Fr0:=PySem.W.Frag
def qkg:FuncBody->Option Pos
 | .stmts [_,_,.Return (some (.Call _ _ [⟨_,.Lambda _ _ _ pos,_⟩] _)) _]=>some pos
 | _=>none
def qcu (K:Fr0):Option (Addr×Addr×Pos):=match PySem.W.tabIn K "dearest_first",PySem.W.nsIn K mainGlobals "dearest_first" with
 | some (c,P),some (some (.ref f))=>(match K.lookup f with
  | some ⟨_,_,.func fd,_⟩=>(qkg fd.body).map fun pos=>(c,P,pos)
  | _=>none)
 | _,_=>none
abbrev qmE:Str:="dearest_first.<locals>.<lambda>"
def qp7 (K:Fr0) (H:Hp) (Io:Addr->Prop):Prop:=∀ c P pos,qcu K=some (c,P,pos)->H P=some (.lam pos qmE)/\¬ Io P
abbrev qhb (K:Fr0) (H:Hp):Prop:=qp7 K H fun _=>False
structure XK6 (K:Fr0) (D:Addr):Prop where
 ga:PySem.W.findIn K (.ref D) "__getattribute__"=some (some (.builtin "BaseException.__getattribute__"))
 gt:PySem.W.findIn K (.ref D) "__getattr__"=some none
 cl:PySem.W.findIn K (.ref D) "__class__"=some (some (.builtin "object.__class__"))
 ob:PySem.W.mroIn K D (.type "object")=some true
 be:PySem.W.subIn K (.ref D) (.type "BaseException")=some true
 is:(PySem.W.clsIn K D).isSome=true
 no:∀ T∈["int","bool","str","tuple","list","dict"],PySem.W.kitOne K (.ref D) (.type T)=some false
def qbJ (K:Fr0) (n:Str):Option Addr:=match PySem.W.nsIn K mainGlobals n with
 | some (some (.ref C))=>some C
 | _=>none
def clR (K:Fr0) (RN:List Str) (n:Str):Option Addr:=if RN.contains n then qbJ K n else none
def qqM (K:Fr0) (H:Hp) (a:Addr) (n:Str):Prop:=∃ C,qbJ K n=some C/\XK6 K C/\∃ o vs,H a=some (.frz o (.own a))/\o.cls = .ref C/\o.data = .fields vs
def u5 (K:Fr0) (H:Hp) (a:Addr) (xs:List V):Prop :=
 H a=some (.tup xs)\/∃ (o:Obj) (its:Array Value) (n:Nat),K.lookup a=some o/\o.cls = .type "tuple"/\o.data = .seq its n/\its.size<=sizeLine/\zd xs its.toList
def qnv (K:Fr0) (H:Hp) (a:Addr) (xs:List V):Prop :=
 (∃ o,H a=some (.frz o (.lst xs)))\/∃ (o:Obj) (its:Array Value) (n:Nat),K.lookup a=some o/\o.cls = .type "list"/\o.dict=none/\o.data = .seq its n/\its.size<=sizeLine/\zd xs its.toList
theorem u5.sq {K:Fr0} {H:Hp} {a:Addr} {xs:List V} (h:u5 K H a xs):SqT K H a xs:=by
 rcases h with h | h
 ·exact .inl (.inl h)
 ·exact .inr h
theorem qnv.sq {K:Fr0} {H:Hp} {a:Addr} {xs:List V} (h:qnv K H a xs):SqL K H a xs:=by
 rcases h with h | h
 ·exact .inl (.inr h)
 ·exact .inr h
mutual
def Is (K:Fr0) (A:Addr->Prop) (H:Hp):D->V->Prop
 | .non,v=>v = .non
 | .bl b,v=>v = .bl b
 | .int i,v=>v = .int i
 | .str x,v=>v = .str x
 | .tup ds,v=>∃ a xs,v = .ref a/\u5 K H a xs/\IsL K A H ds xs
 | .lst ds,v=>∃ a xs,v = .ref a/\A a/\H a=some (.lst xs)/\IsL K A H ds xs
 | .dic kvs,v=>∃ a,v = .ref a/\A a/\H a=some (.dK (kvs.map fun p=>(p.1,V.int p.2)))
 | .fz ns,v=>∃ a,v = .ref a/\qnv K H a (ns.map V.int)
 | .exc n,v=>∃ a,v = .ref a/\qqM K H a n
def IsL (K:Fr0) (A:Addr->Prop) (H:Hp):List D->List V->Prop
 | [],xs=>xs=[]
 | d::ds,xs=>∃ x ys,xs=x::ys/\Is K A H d x/\IsL K A H ds ys
end
mutual
def imm:D->Bool
 | .tup ds=>immL ds
 | .lst _=>false
 | .dic _=>false
 | .fz _=>false
 | _=>true
def immL:List D->Bool
 | []=>true
 | d::ds=>imm d&&immL ds
end
structure Ext (A:Addr->Prop) (H H':Hp):Prop where
 tup:∀ b xs,H b=some (.tup xs)->H' b=some (.tup xs)
 frz:∀ b o u,H b=some (.frz o u)->H' b=some (.frz o u)
 at_:∀ b o,A b->H b=some o->H' b=some o
theorem Ext.refl {A:Addr->Prop} {H:Hp}:Ext A H H:=⟨fun _ _ h=>h,fun _ _ _ h=>h,fun _ _ _ h=>h⟩
theorem Ext.of_same {A:Addr->Prop} {H H':Hp} (s:jp H H'):Ext A H H':=⟨fun b xs h=>s b _ h,fun b o u h=>s b _ h,fun b o _ h=>s b o h⟩
mutual
theorem Is.ext {K:Fr0} {A B:Addr->Prop} {H H':Hp} (e:Ext A H H') (hAB:∀ a,A a->(H a).isSome=true->B a):∀ {d:D} {v:V},Is K A H d v->Is K B H' d v
 | .non,_,h=>h
 | .bl _,_,h=>h
 | .int _,_,h=>h
 | .str _,_,h=>h
 | .tup ds,_,⟨a,xs,hv,h,r⟩=>⟨a,xs,hv,h.elim (fun h => .inl (e.tup _ _ h)) .inr,IsL.ext e hAB r⟩
 | .lst ds,_,⟨a,xs,hv,hA,h,r⟩=>⟨a,xs,hv,hAB a hA (by rw [h];rfl),e.at_ _ _ hA h,IsL.ext e hAB r⟩
 | .dic kvs,_,⟨a,hv,hA,h⟩=>⟨a,hv,hAB a hA (by rw [h];rfl),e.at_ _ _ hA h⟩
 | .fz ns,_,⟨a,hv,h⟩=>⟨a,hv,h.elim (fun ⟨o,h⟩ => .inl ⟨o,e.frz _ _ _ h⟩) .inr⟩
 | .exc n,_,⟨a,hv,C,hc,hk,o,vs,h,r⟩=>⟨a,hv,C,hc,hk,o,vs,e.frz _ _ _ h,r⟩
theorem IsL.ext {K:Fr0} {A B:Addr->Prop} {H H':Hp} (e:Ext A H H') (hAB:∀ a,A a->(H a).isSome=true->B a):∀ {ds:List D} {xs:List V},IsL K A H ds xs->IsL K B H' ds xs
 | [],_,h=>h
 | _::_,_,⟨x,ys,hx,h,r⟩=>⟨x,ys,hx,Is.ext e hAB h,IsL.ext e hAB r⟩
end
mutual
theorem Is.imm {K:Fr0} {A B:Addr->Prop} {H:Hp}:∀ {d:D} {v:V},imm d=true->Is K A H d v->Is K B H d v
 | .non,_,_,h=>h
 | .bl _,_,_,h=>h
 | .int _,_,_,h=>h
 | .str _,_,_,h=>h
 | .tup ds,_,i,⟨a,xs,hv,h,r⟩=>⟨a,xs,hv,h,IsL.imm (by simpa [Sk.imm] using i) r⟩
 | .lst _,_,i,_=>by simp [Sk.imm] at i
 | .dic _,_,i,_=>by simp [Sk.imm] at i
 | .fz _,_,i,_=>by simp [Sk.imm] at i
 | .exc _,_,_,h=>h
theorem IsL.imm {K:Fr0} {A B:Addr->Prop} {H:Hp}:∀ {ds:List D} {xs:List V},immL ds=true->IsL K A H ds xs->IsL K B H ds xs
 | [],_,_,h=>h
 | d::ds,_,i,⟨x,ys,hx,h,r⟩=>by
  have i':Sk.imm d=true/\immL ds=true:=by simpa [immL] using i
  exact ⟨x,ys,hx,Is.imm i'.1 h,IsL.imm i'.2 r⟩
end
theorem IsL.length {K:Fr0} {A:Addr->Prop} {H:Hp}:∀ {ds:List D} {xs:List V},IsL K A H ds xs->xs.length=ds.length
 | [],_,h=>by rw [h];rfl
 | _::_,_,⟨x,ys,hx,_,r⟩=>by rw [hx,lC_,lC_,IsL.length r]
theorem IsL.get {K:Fr0} {A:Addr->Prop} {H:Hp}:∀ {ds:List D} {xs:List V} {i:Nat} {d:D},IsL K A H ds xs->ds[i]? = some d->∃ x,xs[i]? = some x/\Is K A H d x
 | [],_,_,_,_,h=>by simp at h
 | e::_,_,0,d,⟨x,ys,hx,h,r⟩,hd=>by
  have e1:e=d:=by simpa using hd
  subst e1
  exact ⟨x,by rw [hx];rfl,h⟩
 | _::ds,_,i+1,d,⟨x,ys,hx,h,r⟩,hd=>by
  obtain ⟨y,h1,h2⟩:=IsL.get (i:=i) (d:=d) r (by simpa using hd)
  exact ⟨y,by rw [hx];simpa using h1,h2⟩
theorem IsL.append {K:Fr0} {A:Addr->Prop} {H:Hp}:∀ {ds es:List D} {xs ys:List V},IsL K A H ds xs->IsL K A H es ys->IsL K A H (ds++es) (xs++ys)
 | [],_,_,_,h,g=>by rw [h];exact g
 | _::_,_,_,_,⟨x,zs,hx,h,r⟩,g=>⟨x,zs++_,by rw [hx];rfl,h,IsL.append r g⟩
theorem IsL.take {K:Fr0} {A:Addr->Prop} {H:Hp}:∀ {ds:List D} {xs:List V} (n:Nat),IsL K A H ds xs->IsL K A H (ds.take n) (xs.take n)
 | _,_,0,_=>by simp [IsL]
 | [],_,_+1,h=>by rw [h];simp [IsL]
 | _::_,_,n+1,⟨x,ys,hx,h,r⟩=>by rw [hx];exact ⟨x,ys.take n,rfl,h,IsL.take n r⟩
theorem IsL.drop {K:Fr0} {A:Addr->Prop} {H:Hp}:∀ {ds:List D} {xs:List V} (n:Nat),IsL K A H ds xs->IsL K A H (ds.drop n) (xs.drop n)
 | _,_,0,h=>h
 | [],_,_+1,h=>by rw [h];simp [IsL]
 | _::_,_,n+1,⟨x,ys,hx,h,r⟩=>by rw [hx];exact IsL.drop n r
theorem IsL.one {K:Fr0} {A:Addr->Prop} {H:Hp} {d:D} {v:V} (h:Is K A H d v):IsL K A H [d] [v]:=⟨v,[],rfl,h,rfl⟩
theorem IsL.set {K:Fr0} {A:Addr->Prop} {H:Hp} {d:D} {v:V} (hd:Is K A H d v):∀ {ds:List D} {xs:List V} (n:Nat),IsL K A H ds xs->IsL K A H (ds.set n d) (xs.set n v)
 | [],_,_,h=>by rw [h];simp [IsL]
 | _::_,_,0,⟨x,ys,hx,h,r⟩=>by rw [hx];exact ⟨v,ys,rfl,hd,r⟩
 | _::_,_,n+1,⟨x,ys,hx,h,r⟩=>by rw [hx];exact ⟨x,ys.set n v,rfl,h,IsL.set hd n r⟩
abbrev Env:=List (Option D)
structure Exn where
 cls:Str
 val:D
inductive R (α:Type) where
 | ok (a:α) | exc (x:Exn) (U:Env) | bad
structure Fc where
 O:List Nat
 P:List Nat
 B:Addr->Prop
 H0:Hp
 Io:Addr->Prop
 E:Exn->Hp->Prop
 S:Nat->Option (Option V)
def Cl (O:List Nat) (Z:St) (a:Addr):Prop:=∀ j∈O,Z[j]? ≠ some (some (.ref a))
def Cn (c:Fc) (Z:St) (a:Addr):Prop:=c.B a/\Cl c.O Z a
structure Rep (K:Fr0) (c:Fc) (U:Env) (Z:St) (H:Hp):Prop where
 len:U.length=Z.length
 val:∀ i d,U[i]? = some (some d)->∃ v,Z[i]? = some (some v) /\
  ((i∈c.O/\∃ ds a xs,d = .lst ds/\v = .ref a/\H a=some (.lst xs)/\IsL K (Cn c Z) H ds xs)\/(i ∉ c.O/\Is K (Cn c Z) H d v))
 own:∀ j∈c.O,∀ v,Z[j]? = some (some v)->∃ a xs,v = .ref a/\H a=some (.lst xs)/\(c.H0 a=none\/(j∈c.P/\c.Io a))
 inj:∀ i j a,i∈c.O->j∈c.O->Z[i]? = some (some (.ref a))->Z[j]? = some (some (.ref a))->i=j
 b0:(∀ a,c.H0 a=none->c.B a)/\qp7 K c.H0 c.Io
 kp:∀ b o,c.H0 b=some o->¬ c.Io b->H b=some o
 dm:∀ b,H b=none->c.H0 b=none
 pO:∀ j∈c.P,j∈c.O
 ps:∀ j∈c.P,Z[j]? = c.S j
theorem Rep.tb {K:Fr0} {c:Fc} {U:Env} {Z:St} {H:Hp} (r:Rep K c U Z H):qhb K H:=fun q P pos e=>⟨r.kp P _ (r.b0.2 q P pos e).1 (r.b0.2 q P pos e).2,fun z=>z⟩
structure Gr (O:List Nat) (Z:St) (H H':Hp):Prop where
 ext:Ext (Cl O Z) H H'
 dom:∀ b,H' b=none->H b=none
theorem Gr.refl {O:List Nat} {Z:St} {H:Hp}:Gr O Z H H:=⟨Ext.refl,fun _ h=>h⟩
theorem Gr.of_same {O:List Nat} {Z:St} {H H':Hp} (s:jp H H'):Gr O Z H H':=⟨Ext.of_same s,fun _ h=>s.free h⟩
theorem Gr.trans {O:List Nat} {Z:St} {H H1 H2:Hp} (a:Gr O Z H H1) (b:Gr O Z H1 H2):Gr O Z H H2 :=
 ⟨⟨fun c xs h=>b.ext.tup c xs (a.ext.tup c xs h),fun c o u h=>b.ext.frz c o u (a.ext.frz c o u h),fun c o hc h=>b.ext.at_ c o hc (a.ext.at_ c o hc h)⟩,fun c h=>a.dom c (b.dom c h)⟩
theorem Gr.cn {c:Fc} {Z:St} {H H':Hp} (g:Gr c.O Z H H'):Ext (Cn c Z) H H':=⟨g.ext.tup,g.ext.frz,fun b o hb h=>g.ext.at_ b o hb.2 h⟩
theorem Gr.is {K:Fr0} {c:Fc} {Z:St} {H H':Hp} {d:D} {v:V} (g:Gr c.O Z H H') (h:Is K (Cn c Z) H d v):Is K (Cn c Z) H' d v:=Is.ext g.cn (fun _ h _=>h) h
theorem Gr.isL {K:Fr0} {c:Fc} {Z:St} {H H':Hp} {d:List D} {v:List V} (g:Gr c.O Z H H') (h:IsL K (Cn c Z) H d v):IsL K (Cn c Z) H' d v:=IsL.ext g.cn (fun _ h _=>h) h
theorem Rep.new {K:Fr0} {c:Fc} {U:Env} {Z:St} {H:Hp} (r:Rep K c U Z H) {a:Addr} (h:H a=none):Cn c Z a :=
 ⟨r.b0.1 a (r.dm a h),fun j hj e=>by obtain ⟨b,xs,e1,e2,_⟩:=r.own j hj _ e;cases e1;rw [h] at e2;cases e2⟩
theorem Rep.same {K:Fr0} {c:Fc} {U:Env} {Z:St} {H H':Hp} (r:Rep K c U Z H) (s:jp H H'):Rep K c U Z H' where
 len:=r.len
 val:=fun i d h=>by
  obtain ⟨v,h1,h2⟩:=r.val i d h
  refine ⟨v,h1,?_⟩
  rcases h2 with ⟨hi,ds,a,xs,h3,h5,h6,h7⟩ | ⟨hi,h3⟩
  ·exact .inl ⟨hi,ds,a,xs,h3,h5,s _ _ h6,IsL.ext (Ext.of_same s) (fun _ h _=>h) h7⟩
  ·exact .inr ⟨hi,Is.ext (Ext.of_same s) (fun _ h _=>h) h3⟩
 own:=fun j hj v h=>by
  obtain ⟨a,xs,h1,h2,h3⟩:=r.own j hj v h
  exact ⟨a,xs,h1,s _ _ h2,h3⟩
 inj:=r.inj
 b0:=r.b0
 kp:=fun b o h1 h2=>s _ _ (r.kp b o h1 h2)
 dm:=fun b h=>r.dm b (s.free h)
 pO:=r.pO
 ps:=r.ps
theorem Rep.get {K:Fr0} {c:Fc} {U:Env} {Z:St} {H:Hp} (r:Rep K c U Z H) {i:Nat} {d:D} (hi:i ∉ c.O) (h:U[i]? = some (some d)):∃ v,Z[i]? = some (some v)/\Is K (Cn c Z) H d v:=by
 obtain ⟨v,h1,h2⟩:=r.val i d h
 rcases h2 with ⟨h3,_⟩ | ⟨_,h3⟩
 ·exact absurd h3 hi
 ·exact ⟨v,h1,h3⟩
theorem Rep.getO {K:Fr0} {c:Fc} {U:Env} {Z:St} {H:Hp} (r:Rep K c U Z H) {i:Nat} {d:D} (hi:i∈c.O) (h:U[i]? = some (some d)) :
  ∃ ds a xs,d = .lst ds/\Z[i]? = some (some (.ref a))/\H a=some (.lst xs)/\IsL K (Cn c Z) H ds xs:=by
 obtain ⟨v,h1,h2⟩:=r.val i d h
 rcases h2 with ⟨_,ds,a,xs,h3,h5,h6,h7⟩ | ⟨h3,_⟩
 ·subst h5;exact ⟨ds,a,xs,h3,h1,h6,h7⟩
 ·exact absurd hi h3
abbrev M (α:Type):=Env->R (α×Env)
def Wp (K:Fr0) (c:Fc) (Z:St) (H:Hp) (Q:VK):R (D×Env)->Prop
 | .ok (d,U)=>∀ v H',Rep K c U Z H'->Is K (Cn c Z) H' d v->Gr c.O Z H H'->Q v H'
 | .exc x U=>∀ H',Rep K c U Z H'->Gr c.O Z H H'->c.E x H'
 | .bad=>False
def WpB (K:Fr0) (c:Fc) (Z:St) (H:Hp) (Q:Bool->Hp->Prop):R (Bool×Env)->Prop
 | .ok (b,U)=>∀ H',Rep K c U Z H'->Gr c.O Z H H'->Q b H'
 | .exc x U=>∀ H',Rep K c U Z H'->Gr c.O Z H H'->c.E x H'
 | .bad=>False
def WpL (K:Fr0) (c:Fc) (Z:St) (H:Hp) (Q:List V->Hp->Prop):R (List D×Env)->Prop
 | .ok (ds,U)=>∀ vs H',Rep K c U Z H'->IsL K (Cn c Z) H' ds vs->Gr c.O Z H H'->Q vs H'
 | .exc x U=>∀ H',Rep K c U Z H'->Gr c.O Z H H'->c.E x H'
 | .bad=>False
def DE (X:Cx) (c:Fc) (e:Expr) (f:M D):Prop:=∃ t,PE X e t/\∀ U Z H Q,Rep X.K c U Z H->Wp X.K c Z H Q (f U)->t Z H Q
def DT (X:Cx) (c:Fc) (e:Expr) (f:M Bool):Prop:=∃ t,PT X e t/\∀ U Z H Q,Rep X.K c U Z H->WpB X.K c Z H Q (f U)->t Z H Q
def DA (X:Cx) (c:Fc) (es:List Expr) (f:M (List D)):Prop:=∃ t,PA X es t/\∀ U Z H Q,Rep X.K c U Z H->WpL X.K c Z H Q (f U)->t Z H Q
def ret {α:Type} (a:α):M α:=fun U => .ok (a,U)
def bnd {α β:Type} (f:M α) (k:α->M β):M β:=fun U=>match f U with
 | .ok (a,U')=>k a U'
 | .exc x U' => .exc x U'
 | .bad => .bad
def lift {α:Type}:Option α->M α
 | some a=>ret a
 | none=>fun _ => .bad
theorem qkh {α β:Type} {f:M α} {k:α->M β} {U U':Env} {a:α} (h:f U = .ok (a,U')):bnd f k U=k a U':=by unfold bnd;rw [h]
section
variable {K:Fr0} {c:Fc} {Z:St} {H H1:Hp} {Q:VK} {QB:Bool->Hp->Prop} {QL:List V->Hp->Prop} {r:R (D×Env)}
theorem Wp.gr:∀ {r:R (D×Env)},Wp K c Z H Q r->Gr c.O Z H H1->Wp K c Z H1 Q r
 | .ok (d,U),h,g=>fun v H' hr hi hg=>h v H' hr hi (g.trans hg)
 | .exc x U,h,g=>fun H' hr hg=>h H' hr (g.trans hg)
 | .bad,h,_=>h
theorem WpB.gr:∀ {r:R (Bool×Env)},WpB K c Z H QB r->Gr c.O Z H H1->WpB K c Z H1 QB r
 | .ok (d,U),h,g=>fun H' hr hg=>h H' hr (g.trans hg)
 | .exc x U,h,g=>fun H' hr hg=>h H' hr (g.trans hg)
 | .bad,h,_=>h
theorem WpL.gr:∀ {r:R (List D×Env)},WpL K c Z H QL r->Gr c.O Z H H1->WpL K c Z H1 QL r
 | .ok (d,U),h,g=>fun v H' hr hi hg=>h v H' hr hi (g.trans hg)
 | .exc x U,h,g=>fun H' hr hg=>h H' hr (g.trans hg)
 | .bad,h,_=>h
theorem Wp.bnd {f:M D} {k:D->M D} {U:Env} {Q':VK} (h:Wp K c Z H Q (bnd f k U)) (hQ:∀ d U' v H',Rep K c U' Z H'->Is K (Cn c Z) H' d v->Gr c.O Z H H'->Wp K c Z H' Q (k d U')->Q' v H'):Wp K c Z H Q' (f U):=by
 unfold Sk.bnd at h
 cases e:f U with
 | ok p=>rw [e] at h;exact fun v H' hr hi hg=>hQ p.1 p.2 v H' hr hi hg (h.gr hg)
 | exc x U'=>rw [e] at h;exact h
 | bad=>rw [e] at h;exact h
theorem Wp.bndB {f:M D} {k:D->M Bool} {U:Env} {Q':VK} (h:WpB K c Z H QB (Sk.bnd f k U)) (hQ:∀ d U' v H',Rep K c U' Z H'->Is K (Cn c Z) H' d v->Gr c.O Z H H'->WpB K c Z H' QB (k d U')->Q' v H'):Wp K c Z H Q' (f U):=by
 unfold Sk.bnd at h
 cases e:f U with
 | ok p=>rw [e] at h;exact fun v H' hr hi hg=>hQ p.1 p.2 v H' hr hi hg (h.gr hg)
 | exc x U'=>rw [e] at h;exact h
 | bad=>rw [e] at h;exact h
theorem Wp.bndL {f:M D} {k:D->M (List D)} {U:Env} {Q':VK} (h:WpL K c Z H QL (Sk.bnd f k U)) (hQ:∀ d U' v H',Rep K c U' Z H'->Is K (Cn c Z) H' d v->Gr c.O Z H H'->WpL K c Z H' QL (k d U')->Q' v H'):Wp K c Z H Q' (f U):=by
 unfold Sk.bnd at h
 cases e:f U with
 | ok p=>rw [e] at h;exact fun v H' hr hi hg=>hQ p.1 p.2 v H' hr hi hg (h.gr hg)
 | exc x U'=>rw [e] at h;exact h
 | bad=>rw [e] at h;exact h
theorem WpB.bnd {f:M Bool} {k:Bool->M D} {U:Env} {Q':Bool->Hp->Prop} (h:Wp K c Z H Q (Sk.bnd f k U)) (hQ:∀ d U' H',Rep K c U' Z H'->Gr c.O Z H H'->Wp K c Z H' Q (k d U')->Q' d H'):WpB K c Z H Q' (f U):=by
 unfold Sk.bnd at h
 cases e:f U with
 | ok p=>rw [e] at h;exact fun H' hr hg=>hQ p.1 p.2 H' hr hg (h.gr hg)
 | exc x U'=>rw [e] at h;exact h
 | bad=>rw [e] at h;exact h
theorem WpB.bndB {f:M Bool} {k:Bool->M Bool} {U:Env} {Q':Bool->Hp->Prop} (h:WpB K c Z H QB (Sk.bnd f k U)) (hQ:∀ d U' H',Rep K c U' Z H'->Gr c.O Z H H'->WpB K c Z H' QB (k d U')->Q' d H'):WpB K c Z H Q' (f U):=by
 unfold Sk.bnd at h
 cases e:f U with
 | ok p=>rw [e] at h;exact fun H' hr hg=>hQ p.1 p.2 H' hr hg (h.gr hg)
 | exc x U'=>rw [e] at h;exact h
 | bad=>rw [e] at h;exact h
theorem WpL.bnd {f:M (List D)} {k:List D->M D} {U:Env} {Q':List V->Hp->Prop} (h:Wp K c Z H Q (Sk.bnd f k U)) (hQ:∀ d U' v H',Rep K c U' Z H'->IsL K (Cn c Z) H' d v->Gr c.O Z H H'->Wp K c Z H' Q (k d U')->Q' v H'):WpL K c Z H Q' (f U):=by
 unfold Sk.bnd at h
 cases e:f U with
 | ok p=>rw [e] at h;exact fun v H' hr hi hg=>hQ p.1 p.2 v H' hr hi hg (h.gr hg)
 | exc x U'=>rw [e] at h;exact h
 | bad=>rw [e] at h;exact h
theorem WpL.bndL {f:M (List D)} {k:List D->M (List D)} {U:Env} {Q':List V->Hp->Prop} (h:WpL K c Z H QL (Sk.bnd f k U)) (hQ:∀ d U' v H',Rep K c U' Z H'->IsL K (Cn c Z) H' d v->Gr c.O Z H H'->WpL K c Z H' QL (k d U')->Q' v H'):WpL K c Z H Q' (f U):=by
 unfold Sk.bnd at h
 cases e:f U with
 | ok p=>rw [e] at h;exact fun v H' hr hi hg=>hQ p.1 p.2 v H' hr hi hg (h.gr hg)
 | exc x U'=>rw [e] at h;exact h
 | bad=>rw [e] at h;exact h
theorem Wp.lift {o:Option D} {U:Env} (h:Wp K c Z H Q (Sk.lift o U)):∃ d,o=some d/\∀ v H',Rep K c U Z H'->Is K (Cn c Z) H' d v->Gr c.O Z H H'->Q v H':=by
 cases o with
 | none=>exact h.elim
 | some d=>exact ⟨d,rfl,h⟩
end
section
variable {X:Cx} {c:Fc} {a b e:Expr} {pos:Pos}
theorem qv {i j pos}:DE X c (.Constant (.int i) j pos) (ret (.int i)):=⟨_,qj9,fun _ _ H Q r h=>h _ H r rfl .refl⟩
theorem qaC {i j pos}:DE X c (.Constant (.bool i) j pos) (ret (.bl i)):=⟨_,qo2,fun _ _ H Q r h=>h _ H r rfl .refl⟩
theorem wn {j pos}:DE X c (.Constant .none j pos) (ret .non):=⟨_,qmU,fun _ _ H Q r h=>h _ H r rfl .refl⟩
def dv (i:Nat):M D:=fun U=>match U[i]? with
 | some (some d) => .ok (d,U)
 | _ => .bad
theorem qc (i:Nat) {x:Str} (ho:i ∉ c.O:=by exact of_decide_eq_false rfl) (hN:X.N[i]? = some x:=by rfl) (hv:Vis X.env.scope x:=by first | exact Or.inl rfl | exact Or.inr (Or.inl rfl) | exact Or.inr (Or.inr rfl)) (hd:(x==("__debug__":Str))=false:=by decide)
  (hcd:(x==("__classdict__":Str))=false:=by decide):DE X c (.Name x pos) (dv i):=by
 refine ⟨_,w9 hN hv hd hcd,fun U Z H Q r h => ?_⟩
 unfold dv at h
 split at h
 ·rename_i d e
  obtain ⟨v,h1,h2⟩:=r.get ho e
  exact ⟨v,h1,h v H r h2 .refl⟩
 ·exact h.elim
theorem qhc {x:Str} {v:V} {u:Value} {d:D} (hg:Gl X x) (hm:X.mg x=some u) (rv:jI v u) (hd:∀ H A,Is X.K A H d v) (hdb:(x==("__debug__":Str))=false:=by decide):DE X c (.Name x pos) (ret d) :=
 ⟨_,qk2 hg hm rv hdb,fun _ _ H Q r h=>h _ H r (hd _ _) .refl⟩
theorem qf:DA X c [] (ret []):=⟨_,qcK,fun _ _ H Q r h=>h _ H r rfl .refl⟩
def qa (f:M D) (g:M (List D)):M (List D):=bnd f fun d=>bnd g fun ds=>ret (d::ds)
theorem qd {es:List Expr} {f:M D} {g:M (List D)} (ha:DE X c e f) (hr:DA X c es g) (hs:starEach (e::es) X.env=(false,eval e X.env)::starEach es X.env:=by rfl):DA X c (e::es) (qa f g):=by
 obtain ⟨ta,pa,wa⟩:=ha
 obtain ⟨tr,pr,wr⟩:=hr
 refine ⟨_,u3 pa pr hs,fun U Z H Q r h=>wa U Z H _ r (Wp.bndL h fun d U1 v H1 r1 i1 g1 h1=>wr U1 Z H1 _ r1 (WpL.bndL h1 fun ds U2 vs H2 r2 i2 g2 h2 => ?_))⟩
 exact h2 _ H2 r2 ⟨v,vs,rfl,g2.is i1,i2⟩ .refl
def qP (n:Nat):Bool:=decide (n<=sizeLine)
def qbv (f:M (List D)):M D:=bnd f fun ds=>lift (if qP ds.length then some (.tup ds) else none)
def qdW (f:M (List D)):M D:=bnd f fun ds=>lift (if qP ds.length then some (.lst ds) else none)
theorem qy {H:Hp} {p:Addr} (h:H p=none) (o:HO):jp H (upd H p o):=fun b u q=>by rw [qu (qH q h)];exact q
theorem Rep.laid {K:Fr0} {U:Env} {Z:St} {H:Hp} (r:Rep K c U Z H) {p:Addr} (h:H p=none) (o:HO):Rep K c U Z (upd H p o):=r.same (qy h o)
theorem z5 {p:Bool} {d e:D} (h:(if p then some d else none)=some e):p=true/\d=e:=by
 cases p with
 | true=>exact ⟨rfl,by simpa using h⟩
 | false=>simp at h
theorem wv {es:List Expr} {x1} {f:M (List D)} (h:DA X c es f):DE X c (.Tuple es x1 pos) (qbv f):=by
 obtain ⟨t,p,w⟩:=h
 refine ⟨_,qnh p,fun U Z H Q r h=>w U Z H _ r (WpL.bnd h fun ds U1 vs H1 r1 i1 g1 h1 => ?_)⟩
 obtain ⟨d,e,h2⟩:=h1.lift
 obtain ⟨e1,e2⟩:=z5 e
 subst e2
 refine ⟨by rw [i1.length];exact of_decide_eq_true e1,fun p hp=>h2 _ _ (r1.laid hp _) ⟨p,vs,rfl,.inl qt,IsL.ext (Ext.of_same (qy hp _)) (fun _ h _=>h) i1⟩ (.of_same (qy hp _))⟩
theorem qbK {es:List Expr} {f:M (List D)} (h:DA X c es f):DE X c (.List es pos) (qdW f):=by
 obtain ⟨t,p,w⟩:=h
 refine ⟨_,qg3 p,fun U Z H Q r h=>w U Z H _ r (WpL.bnd h fun ds U1 vs H1 r1 i1 g1 h1 => ?_)⟩
 obtain ⟨d,e,h2⟩:=h1.lift
 obtain ⟨e1,e2⟩:=z5 e
 subst e2
 refine ⟨by rw [i1.length];exact of_decide_eq_true e1,fun p hp=>h2 _ _ (r1.laid hp _) ⟨p,vs,rfl,r1.new hp,qt,IsL.ext (Ext.of_same (qy hp _)) (fun _ h _=>h) i1⟩ (.of_same (qy hp _))⟩
def OpS (K:Fr0) (F:D->D->Option D) (r:R2):Prop:=∀ (A:Addr->Prop) (H:Hp) (x y d:D) (v u:V) (Q:VK),(∀ a,H a=none->A a)->Is K A H x v->Is K A H y u->F x y=some d ->
 (∀ w H',jp H H'->Is K A H' d w->Q w H')->r v u H Q
def d2 (F:D->D->Option D) (f g:M D):M D:=bnd f fun x=>bnd g fun y=>lift (F x y)
theorem op2 {r:R2} {F:D->D->Option D} {f g:M D} {ta tb:TE} (hF:OpS X.K F r) (wa:∀ U Z H Q,Rep X.K c U Z H->Wp X.K c Z H Q (f U)->ta Z H Q) (wb:∀ U Z H Q,Rep X.K c U Z H->Wp X.K c Z H Q (g U)->tb Z H Q) :
  ∀ U Z H Q,Rep X.K c U Z H->Wp X.K c Z H Q (d2 F f g U)->tOp r ta tb Z H Q:=fun U Z H Q rp h=>wa U Z H _ rp (Wp.bnd h fun x U1 v H1 r1 i1 g1 h1=>wb U1 Z H1 _ r1 (Wp.bnd h1 fun y U2 u H2 r2 i2 g2 h2=>by
 obtain ⟨d,e,h3⟩:=h2.lift
 exact hF _ H2 x y d v u Q (fun a ha=>r2.new ha) (g2.is i1) i2 e fun w H' s i=>h3 w H' (r2.same s) i (.of_same s)))
theorem qx {op:Operator} {r:R2} {F:D->D->Option D} {f g:M D} (ho:OpR X (binaryOp op) r) (hF:OpS X.K F r) (ha:DE X c a f) (hb:DE X c b g):DE X c (.BinOp a op b pos) (d2 F f g):=by
 obtain ⟨ta,pa,wa⟩:=ha
 obtain ⟨tb,pb,wb⟩:=hb
 exact ⟨_,qm9 ho pa pb,op2 hF wa wb⟩
theorem ud {op:CmpOp} {r:R2} {F:D->D->Option D} {f g:M D} (ho:OpR X (compareOp op) r) (hF:OpS X.K F r) (ha:DE X c a f) (hb:DE X c b g) (hm:behindInMarks op b=false):DE X c (.Compare a [op] [b] pos) (d2 F f g):=by
 obtain ⟨ta,pa,wa⟩:=ha
 obtain ⟨tb,pb,wb⟩:=hb
 exact ⟨_,qld ho pa pb hm,op2 hF wa wb⟩
def asB:D->Option Bool
 | .bl b=>some b
 | _=>none
def tst (f:M D):M Bool:=bnd f fun d=>lift (asB d)
theorem qft {K:Fr0} {Z:St} {H:Hp} {QB:Bool->Hp->Prop} {o:Option Bool} {U:Env} (h:WpB K c Z H QB (lift o U)):∃ b,o=some b/\∀ H',Rep K c U Z H'->Gr c.O Z H H'->QB b H':=by
 cases o with
 | none=>exact h.elim
 | some d=>exact ⟨d,rfl,h⟩
theorem qc2 {d:D} {b:Bool} (h:asB d=some b):d = .bl b:=by
 cases d<;>simp [asB] at h
 subst h;rfl
theorem zy {op:CmpOp} {r:R2} {F:D->D->Option D} {f g:M D} (ho:OpR X (compareOp op) r) (hF:OpS X.K F r) (ha:DE X c a f) (hb:DE X c b g) (hm:behindInMarks op b=false):DT X c (.Compare a [op] [b] pos) (tst (d2 F f g)):=by
 obtain ⟨ta,pa,wa⟩:=ha
 obtain ⟨tb,pb,wb⟩:=hb
 refine ⟨_,qle ho pa pb hm,fun U Z H Q rp h=>op2 hF wa wb U Z H _ rp (Wp.bndB h fun d U1 v H1 r1 i1 g1 h1 => ?_)⟩
 obtain ⟨b,e,h2⟩:=qft h1
 have:=qc2 e
 subst this
 exact ⟨b,i1,h2 H1 r1 .refl⟩
theorem jZ {f:M D} (h:DE X c e f) (he:∀ whole,isTrue e X.env whole=(do let v <- whole;standAt e.pos;holding [v] (truthy v)):=by intro _;rfl):DT X c e (tst f):=by
 obtain ⟨t,p,w⟩:=h
 refine ⟨_,qmV p he,fun U Z H Q rp h=>w U Z H _ rp (Wp.bndB h fun d U1 v H1 r1 i1 g1 h1 => ?_)⟩
 obtain ⟨b,e,h2⟩:=qft h1
 have:=qc2 e
 subst this
 exact ⟨b,i1,h2 H1 r1 .refl⟩
def qbL (f:M Bool):M Bool:=bnd f fun b=>ret (!b)
theorem uK {f:M Bool} (h:DT X c a f):DT X c (.UnaryOp .Not a pos) (qbL f):=by
 obtain ⟨t,p,w⟩:=h
 exact ⟨_,qmY p,fun U Z H Q rp h=>w U Z H _ rp (WpB.bndB h fun d U1 H1 r1 g1 h1=>h1 H1 r1 .refl)⟩
def DW (X:Cx) (c:Fc) (e:Expr) (f:M Bool):Prop:=∃ t,PW X e t/\∀ U Z H Q,Rep X.K c U Z H->WpB X.K c Z H Q (f U)->t Z H Q
theorem DW.dt {f:M Bool} (h:DW X c e f):DT X c e f:=by
 obtain ⟨t,p,w⟩:=h
 exact ⟨t,p.pt,w⟩
def qki (f g:M Bool):M Bool:=bnd f fun b=>if b then g else ret false
def tor (f g:M Bool):M Bool:=bnd f fun b=>if b then ret true else g
variable {yK:List Expr}
theorem qlr {f:M Bool} (h:DT X c a f):DW X c (.BoolOp .And [a] pos) f:=by
 obtain ⟨t,p,w⟩:=h
 exact ⟨t,qk4 p,w⟩
theorem qa6 {f:M Bool} (h:DT X c a f):DW X c (.BoolOp .Or [a] pos) f:=by
 obtain ⟨t,p,w⟩:=h
 exact ⟨t,qmW p,w⟩
theorem qnw {f g:M Bool} (ha:DT X c a f) (hb:DW X c (.BoolOp .And (b::yK) pos) g):DW X c (.BoolOp .And (a::b::yK) pos) (qki f g):=by
 obtain ⟨ta,pa,wa⟩:=ha
 obtain ⟨tb,pb,wb⟩:=hb
 refine ⟨_,qmX pa pb,fun U Z H Q rp h=>wa U Z H _ rp (WpB.bndB h fun d U1 H1 r1 g1 h1 => ?_)⟩
 cases d with
 | true=>exact qmD (wb U1 Z H1 Q r1 (by simpa using h1))
 | false=>exact qmC ((by simpa using h1:WpB X.K c Z H1 Q (ret false U1)) H1 r1 .refl)
theorem qdX {f g:M Bool} (ha:DT X c a f) (hb:DW X c (.BoolOp .Or (b::yK) pos) g):DW X c (.BoolOp .Or (a::b::yK) pos) (tor f g):=by
 obtain ⟨ta,pa,wa⟩:=ha
 obtain ⟨tb,pb,wb⟩:=hb
 refine ⟨_,qo3 pa pb,fun U Z H Q rp h=>wa U Z H _ rp (WpB.bndB h fun d U1 H1 r1 g1 h1 => ?_)⟩
 cases d with
 | true=>exact qmD ((by simpa using h1:WpB X.K c Z H1 Q (ret true U1)) H1 r1 .refl)
 | false=>exact qmC (wb U1 Z H1 Q r1 (by simpa using h1))
def qnx (f:M D):M D:=bnd f fun d=>bnd (lift (asB d)) fun b=>ret (.bl (!b))
def qgo (f g:M D):M D:=bnd f fun d=>bnd (lift (asB d)) fun b=>if b then g else ret (.bl false)
def dor (f g:M D):M D:=bnd f fun d=>bnd (lift (asB d)) fun b=>if b then ret (.bl true) else g
theorem qhd {K:Fr0} {Z:St} {H:Hp} {Q:VK} {d:D} {k:Bool->M D} {U:Env} (h:Wp K c Z H Q (bnd (lift (asB d)) k U)):∃ b,d = .bl b/\Wp K c Z H Q (k b U):=by
 unfold bnd at h
 cases e:asB d with
 | none=>rw [e] at h;exact h.elim
 | some b=>rw [e] at h;exact ⟨b,qc2 e,h⟩
theorem ww {op} {f:M D} (h:DE X c a f):DE X c (.BoolOp op [a] pos) f:=by
 obtain ⟨t,p,w⟩:=h
 exact ⟨t,qmZ p,w⟩
theorem qkj {f:M D} (h:DE X c a f):DE X c (.UnaryOp .Not a pos) (qnx f):=by
 obtain ⟨t,p,w⟩:=h
 refine ⟨_,qm1 p,fun U Z H Q rp h=>w U Z H _ rp (Wp.bnd h fun d U1 v H1 r1 i1 g1 h1 => ?_)⟩
 obtain ⟨b,e,h2⟩:=qhd h1
 subst e
 exact ⟨b,i1,h2 _ H1 r1 rfl .refl⟩
theorem qa7 {f g:M D} (ha:DE X c a f) (hb:DE X c (.BoolOp .And (b::yK) pos) g):DE X c (.BoolOp .And (a::b::yK) pos) (qgo f g):=by
 obtain ⟨ta,pa,wa⟩:=ha
 obtain ⟨tb,pb,wb⟩:=hb
 refine ⟨_,qm0 pa pb,fun U Z H Q rp h=>wa U Z H _ rp (Wp.bnd h fun d U1 v H1 r1 i1 g1 h1 => ?_)⟩
 obtain ⟨k,e,h2⟩:=qhd h1
 subst e
 refine ⟨k,i1,?_⟩
 cases k with
 | true=>exact qmD (wb U1 Z H1 Q r1 (by simpa using h2))
 | false=>exact qmC ((by simpa using h2:Wp X.K c Z H1 Q (ret (.bl false) U1)) _ H1 r1 rfl .refl)
theorem qls {f g:M D} (ha:DE X c a f) (hb:DE X c (.BoolOp .Or (b::yK) pos) g):DE X c (.BoolOp .Or (a::b::yK) pos) (dor f g):=by
 obtain ⟨ta,pa,wa⟩:=ha
 obtain ⟨tb,pb,wb⟩:=hb
 refine ⟨_,qo6 pa pb,fun U Z H Q rp h=>wa U Z H _ rp (Wp.bnd h fun d U1 v H1 r1 i1 g1 h1 => ?_)⟩
 obtain ⟨k,e,h2⟩:=qhd h1
 subst e
 refine ⟨k,i1,?_⟩
 cases k with
 | true=>exact qmD ((by simpa using h2:Wp X.K c Z H1 Q (ret (.bl true) U1)) _ H1 r1 rfl .refl)
 | false=>exact qmC (wb U1 Z H1 Q r1 (by simpa using h2))
def dif (f:M Bool) (g k:M D):M D:=bnd f fun b=>if b then g else k
theorem qi2 {t:Expr} {f:M Bool} {g k:M D} (ht:DT X c t f) (ha:DE X c a g) (hb:DE X c b k):DE X c (.IfExp t a b pos) (dif f g k):=by
 obtain ⟨tt,pt,wt⟩:=ht
 obtain ⟨ta,pa,wa⟩:=ha
 obtain ⟨tb,pb,wb⟩:=hb
 refine ⟨_,qiQ pt pa pb,fun U Z H Q rp h=>wt U Z H _ rp (WpB.bnd h fun d U1 H1 r1 g1 h1 => ?_)⟩
 cases d with
 | true=>exact qmD (wa U1 Z H1 Q r1 (by simpa using h1))
 | false=>exact qmC (wb U1 Z H1 Q r1 (by simpa using h1))
def qbk (K:Fr0) (F:List D->Option D) (r:List V->Hp->VK->Prop):Prop:=∀ (A:Addr->Prop) (H:Hp) (xs:List D) (d:D) (vs:List V) (Q:VK),(∀ a,H a=none->A a)->IsL K A H xs vs->F xs=some d ->
 (∀ w H',jp H H'->Is K A H' d w->Q w H')->r vs H Q
def qW (F:List D->Option D) (f:M (List D)):M D:=bnd f fun ds=>lift (F ds)
theorem qny {r:List V->Hp->VK->Prop} {F:List D->Option D} {f:M (List D)} {t:TA} (hF:qbk X.K F r) (w:∀ U Z H Q,Rep X.K c U Z H->WpL X.K c Z H Q (f U)->t Z H Q) :
  ∀ U Z H Q,Rep X.K c U Z H->Wp X.K c Z H Q (qW F f U)->tCB r t Z H Q:=fun U Z H Q rp h=>w U Z H _ rp (WpL.bnd h fun ds U1 vs H1 r1 i1 g1 h1=>by
 obtain ⟨d,e,h3⟩:=h1.lift
 exact hF _ H1 ds d vs Q (fun a ha=>r1.new ha) i1 e fun w H' s i=>h3 w H' (r1.same s) i (.of_same s))
theorem qM {id:String} {x:Str} {p:Pos} {es:List Expr} {r:List V->Hp->VK->Prop} {F:List D->Option D} {f:M (List D)} (hc:uD X (.builtin id) r) (hF:qbk X.K F r) (hg:Gl X x) (hm:X.mg x=none) (hv:bootBuiltins x=some (.builtin id)) (ha:DA X c (e::es) f) (hn:x≠"__name__":=by decide) (hdb:(x==("__debug__":Str))=false:=by decide)
  (he:starEach (e::es) X.env=(false,eval e X.env)::starEach es X.env:=by rfl) (hpl:(backTo pos (starEach es X.env)).any (·.1)=false:=by rfl):DE X c (.Call (.Name x p) (e::es) [] pos) (qW F f):=by
 obtain ⟨t,pa,w⟩:=ha
 exact ⟨_,qfr hc hg hm hv pa hn hdb he hpl,qny hF w⟩
theorem qdY {T:String} {x:Str} {p:Pos} {es:List Expr} {r:List V->Hp->VK->Prop} {F:List D->Option D} {f:M (List D)} (hc:uD X (.type T) r) (hF:qbk X.K F r) (hg:Gl X x) (hm:X.mg x=none) (hv:bootBuiltins x=some (.type T)) (ha:DA X c (e::es) f) (hn:x≠"__name__":=by decide) (hdb:(x==("__debug__":Str))=false:=by decide)
  (he:starEach (e::es) X.env=(false,eval e X.env)::starEach es X.env:=by rfl) (hpl:(backTo pos (starEach es X.env)).any (·.1)=false:=by rfl):DE X c (.Call (.Name x p) (e::es) [] pos) (qW F f):=by
 obtain ⟨t,pa,w⟩:=ha
 exact ⟨_,qdQ hc hg hm hv pa hn hdb he hpl,qny hF w⟩
theorem qE {r:R2} {F:D->D->Option D} {f g:M D} (hr:IxR X r) (hF:OpS X.K F r) (ha:DE X c a f) (hb:DE X c b g) (hs:qeP b:=by intro _ _;rfl):DE X c (.Subscript a b pos) (d2 F f g):=by
 obtain ⟨ta,pa,wa⟩:=ha
 obtain ⟨tb,pb,wb⟩:=hb
 exact ⟨_,qno hr pa pb hs,op2 hF wa wb⟩
end
inductive Fl where
 | nx (U:Env) | rt (d:D) (U:Env) | bk (U:Env) | ct (U:Env)
structure GrS (O:List Nat) (Z:St) (H:Hp) (Z':St) (H':Hp):Prop where
 ext:Ext (Cl O Z) H H'
 cl:∀ b,Cl O Z b->(H b).isSome=true->Cl O Z' b
 dom:∀ b,H' b=none->H b=none
theorem qgp {H H':Hp} {b:Addr} (dom:H' b=none->H b=none) (h:(H b).isSome=true):(H' b).isSome=true:=by
 cases e:H' b with
 | none=>rw [dom e] at h;cases h
 | some o=>rfl
theorem GrS.refl {O:List Nat} {Z:St} {H:Hp}:GrS O Z H Z H:=⟨Ext.refl,fun _ h _=>h,fun _ h=>h⟩
theorem Gr.s {O:List Nat} {Z:St} {H H':Hp} (g:Gr O Z H H'):GrS O Z H Z H':=⟨g.ext,fun _ h _=>h,g.dom⟩
theorem GrS.trans {O:List Nat} {Z Z1 Z2:St} {H H1 H2:Hp} (a:GrS O Z H Z1 H1) (b:GrS O Z1 H1 Z2 H2):GrS O Z H Z2 H2 :=
 ⟨⟨fun c xs h=>b.ext.tup c xs (a.ext.tup c xs h),fun c o u h=>b.ext.frz c o u (a.ext.frz c o u h),fun c o hc h=>b.ext.at_ c o (a.cl c hc (by rw [h];rfl)) (a.ext.at_ c o hc h)⟩,
  fun c hc h=>b.cl c (a.cl c hc h) (qgp (a.dom c) h),fun c h=>a.dom c (b.dom c h)⟩
theorem GrS.is {K:Fr0} {c:Fc} {Z Z':St} {H H':Hp} {d:D} {v:V} (g:GrS c.O Z H Z' H') (h:Is K (Cn c Z) H d v):Is K (Cn c Z') H' d v :=
 Is.ext ⟨g.ext.tup,g.ext.frz,fun b o hb h=>g.ext.at_ b o hb.2 h⟩ (fun a ha hs=>⟨ha.1,g.cl a ha.2 hs⟩) h
theorem GrS.isL {K:Fr0} {c:Fc} {Z Z':St} {H H':Hp} {d:List D} {v:List V} (g:GrS c.O Z H Z' H') (h:IsL K (Cn c Z) H d v):IsL K (Cn c Z') H' d v :=
 IsL.ext ⟨g.ext.tup,g.ext.frz,fun b o hb h=>g.ext.at_ b o hb.2 h⟩ (fun a ha hs=>⟨ha.1,g.cl a ha.2 hs⟩) h
def WpS (K:Fr0) (c:Fc) (Z:St) (H:Hp) (D:qiJ):R Fl->Prop
 | .ok (.nx U)=>∀ Z' H',Rep K c U Z' H'->GrS c.O Z H Z' H'->D.nx Z' H'
 | .ok (.rt d U)=>∀ v Z' H',Rep K c U Z' H'->Is K c.B H' d v->GrS c.O Z H Z' H'->D.rt v H'
 | .ok (.bk U)=>∀ Z' H',Rep K c U Z' H'->GrS c.O Z H Z' H'->D.bk Z' H'
 | .ok (.ct U)=>∀ Z' H',Rep K c U Z' H'->GrS c.O Z H Z' H'->D.ct Z' H'
 | .exc x U=>∀ Z' H',Rep K c U Z' H'->GrS c.O Z H Z' H'->c.E x H'
 | .bad=>False
abbrev MS:=Env->R Fl
def DS (X:Cx) (c:Fc) (st:Stmt) (f:MS):Prop:=∃ t,PS X st t/\∀ U Z H D,Rep X.K c U Z H->WpS X.K c Z H D (f U)->t D Z H
def DSs (X:Cx) (c:Fc) (st:List Stmt) (f:MS):Prop:=∃ t,PSs X st t/\∀ U Z H D,Rep X.K c U Z H->WpS X.K c Z H D (f U)->t D Z H
theorem WpS.gr {K:Fr0} {c:Fc} {Z Z1:St} {H H1:Hp} {D:qiJ}:∀ {r:R Fl},WpS K c Z H D r->GrS c.O Z H Z1 H1->WpS K c Z1 H1 D r
 | .ok (.nx U),h,g=>fun Z' H' hr hg=>h Z' H' hr (g.trans hg)
 | .ok (.rt d U),h,g=>fun v Z' H' hr hi hg=>h v Z' H' hr hi (g.trans hg)
 | .ok (.bk U),h,g=>fun Z' H' hr hg=>h Z' H' hr (g.trans hg)
 | .ok (.ct U),h,g=>fun Z' H' hr hg=>h Z' H' hr (g.trans hg)
 | .exc x U,h,g=>fun Z' H' hr hg=>h Z' H' hr (g.trans hg)
 | .bad,h,_=>h
def sbnd {α:Type} (f:M α) (k:α->MS):MS:=fun U=>match f U with
 | .ok (a,U')=>k a U'
 | .exc x U' => .exc x U'
 | .bad => .bad
section
variable {K:Fr0} {c:Fc} {Z:St} {H:Hp} {D:qiJ}
theorem Wp.sbnd {f:M Sk.D} {k:Sk.D->MS} {U:Env} {Q':VK} (h:WpS K c Z H D (sbnd f k U)) (hQ:∀ d U' v H',Rep K c U' Z H'->Is K (Cn c Z) H' d v->Gr c.O Z H H'->WpS K c Z H' D (k d U')->Q' v H'):Wp K c Z H Q' (f U):=by
 unfold Sk.sbnd at h
 cases e:f U with
 | ok p=>rw [e] at h;exact fun v H' hr hi hg=>hQ p.1 p.2 v H' hr hi hg (h.gr hg.s)
 | exc x U'=>rw [e] at h;exact fun H' hr hg=>h Z H' hr hg.s
 | bad=>rw [e] at h;exact h
theorem WpB.sbnd {f:M Bool} {k:Bool->MS} {U:Env} {Q':Bool->Hp->Prop} (h:WpS K c Z H D (sbnd f k U)) (hQ:∀ d U' H',Rep K c U' Z H'->Gr c.O Z H H'->WpS K c Z H' D (k d U')->Q' d H'):WpB K c Z H Q' (f U):=by
 unfold Sk.sbnd at h
 cases e:f U with
 | ok p=>rw [e] at h;exact fun H' hr hg=>hQ p.1 p.2 H' hr hg (h.gr hg.s)
 | exc x U'=>rw [e] at h;exact fun H' hr hg=>h Z H' hr hg.s
 | bad=>rw [e] at h;exact h
theorem WpL.sbnd {f:M (List Sk.D)} {k:List Sk.D->MS} {U:Env} {Q':List V->Hp->Prop} (h:WpS K c Z H D (sbnd f k U)) (hQ:∀ d U' v H',Rep K c U' Z H'->IsL K (Cn c Z) H' d v->Gr c.O Z H H'->WpS K c Z H' D (k d U')->Q' v H'):WpL K c Z H Q' (f U):=by
 unfold Sk.sbnd at h
 cases e:f U with
 | ok p=>rw [e] at h;exact fun v H' hr hi hg=>hQ p.1 p.2 v H' hr hi hg (h.gr hg.s)
 | exc x U'=>rw [e] at h;exact fun H' hr hg=>h Z H' hr hg.s
 | bad=>rw [e] at h;exact h
end
def qQ (f g:MS):MS:=fun U=>match f U with
 | .ok (.nx U')=>g U'
 | r=>r
theorem WpS.mono_nx {K:Fr0} {c:Fc} {Z:St} {H:Hp} {D:qiJ} {f g:MS} {U:Env} {N:St->Hp->Prop} (h:WpS K c Z H D (qQ f g U)) (hN:∀ U' Z' H',Rep K c U' Z' H'->GrS c.O Z H Z' H'->WpS K c Z' H' D (g U')->N Z' H') :
  WpS K c Z H { D with nx:=N } (f U):=by
 unfold qQ at h
 cases e:f U with
 | ok fl =>
  rw [e] at h
  cases fl with
  | nx U'=>exact fun Z' H' hr hg=>hN U' Z' H' hr hg (h.gr hg)
  | rt d U'=>exact h
  | bk U'=>exact h
  | ct U'=>exact h
 | exc x U'=>rw [e] at h;exact h
 | bad=>rw [e] at h;exact h
section
variable {X:Cx} {c:Fc} {a b e:Expr} {pos:Pos} {st:Stmt} {sts:List Stmt}
theorem qlt:DSs X c [] (fun U => .ok (.nx U)):=⟨_,qk5,fun U Z H D r h=>h Z H r .refl⟩
theorem qj {f:MS} (h:DS X c st f):DSs X c [st] f:=by
 obtain ⟨t,p,w⟩:=h
 exact ⟨t,qk6 p,w⟩
theorem qh {f g:MS} (h:DS X c st f) (hr:DSs X c sts g):DSs X c (st::sts) (qQ f g):=by
 obtain ⟨t,p,w⟩:=h
 obtain ⟨t2,p2,w2⟩:=hr
 exact ⟨_,qiR p p2,fun U Z H D r h=>w U Z H _ r (h.mono_nx fun U' Z' H' r' g' h'=>w2 U' Z' H' D r' h')⟩
def jm (f:M D):MS:=sbnd f fun d U => .ok (.rt d U)
theorem Is.cn {K:Fr0} {Z:St} {H:Hp} {d:D} {v:V} (h:Is K (Cn c Z) H d v):Is K c.B H d v:=Is.ext Ext.refl (fun _ h _=>h.1) h
theorem qA {f:M D} (h:DE X c e f):DS X c (.Return (some e) pos) (jm f):=by
 obtain ⟨t,p,w⟩:=h
 exact ⟨_,qka p,fun U Z H D r h=>w U Z H _ r (Wp.sbnd h fun d U1 v H1 r1 i1 g1 h1=>h1 v Z H1 r1 i1.cn .refl)⟩
def zK (f:M D):MS:=sbnd f fun _ U => .ok (.nx U)
theorem zk {f:M D} (h:DE X c e f) (hs:swapsWith e none pos.line X.env=pure false:=by rfl):DS X c (.Expr e pos) (zK f):=by
 obtain ⟨t,p,w⟩:=h
 exact ⟨_,qk7 p hs,fun U Z H D r h=>w U Z H _ r (Wp.sbnd h fun d U1 v H1 r1 i1 g1 h1=>h1 Z H1 r1 .refl)⟩
def sif (f:M Bool) (g k:MS):MS:=sbnd f fun b=>if b then g else k
theorem yD {t:Expr} {s1 s2:List Stmt} {f:M Bool} {g k:MS} (ht:DT X c t f) (ha:DSs X c s1 g) (hb:DSs X c s2 k):DS X c (.If t s1 s2 pos) (sif f g k):=by
 obtain ⟨tt,pt,wt⟩:=ht
 obtain ⟨ta,pa,wa⟩:=ha
 obtain ⟨tb,pb,wb⟩:=hb
 refine ⟨_,qo9 pt pa pb,fun U Z H D rp h=>wt U Z H _ rp (WpB.sbnd h fun d U1 H1 r1 g1 h1 => ?_)⟩
 cases d with
 | true=>exact qmD (wa U1 Z H1 D r1 (by simpa using h1))
 | false=>exact qmC (wb U1 Z H1 D r1 (by simpa using h1))
theorem qi3:DS X c st (fun _ => .bad):=⟨_,qiS,fun U Z H D rp h=>h.elim⟩
theorem zB {α:Type} {l:List α} {i j:Nat} {v:α} (h:j≠i):(l.set i v)[j]? = l[j]? := List.getElem?_set_ne (Ne.symm h)
theorem Cl.set {O:List Nat} {Z:St} {i:Nat} {v:Option V} (hi:i ∉ O) (a:Addr):Cl O (Z.set i v) a ↔ Cl O Z a:=by
 constructor
 ·intro h j hj
  have e:j≠i:=fun e=>hi (e▸hj)
  have:=h j hj
  rw [zB e] at this
  exact this
 ·intro h j hj
  have e:j≠i:=fun e=>hi (e▸hj)
  rw [zB e]
  exact h j hj
theorem Rep.set {K:Fr0} {U:Env} {Z:St} {H:Hp} {i:Nat} {d:D} {v:V} (r:Rep K c U Z H) (hi:i ∉ c.O) (h:Is K (Cn c Z) H d v):Rep K c (U.set i (some d)) (Z.set i (some v)) H where
 len:=by rw [lS_,lS_];exact r.len
 val := fun j e hj=>by
  have up:∀ {d':D} {v':V},Is K (Cn c Z) H d' v'->Is K (Cn c (Z.set i (some v))) H d' v':=fun h=>Is.ext Ext.refl (fun a ha _=>⟨ha.1,(Cl.set hi a).mpr ha.2⟩) h
  by_cases e1:j=i
  ·subst e1
   have hl:j<U.length:=by
    have:=(gI_.mp hj).1
    rwa [lS_] at this
   rw [List.getElem?_set_self hl] at hj
   cases hj
   refine ⟨v,List.getElem?_set_self (by rw [<- r.len];exact hl),.inr ⟨hi,up h⟩⟩
  ·rw [zB e1] at hj
   obtain ⟨w,h1,h2⟩:=r.val j e hj
   refine ⟨w,by rw [zB e1];exact h1,?_⟩
   rcases h2 with ⟨hj2,ds,a,xs,h3,h5,h6,h7⟩ | ⟨h3,h4⟩
   ·exact .inl ⟨hj2,ds,a,xs,h3,h5,h6,IsL.ext Ext.refl (fun a ha _=>⟨ha.1,(Cl.set hi a).mpr ha.2⟩) h7⟩
   ·exact .inr ⟨h3,up h4⟩
 own:=fun j hj w h=>by
  have e1:j≠i:=fun e=>hi (e▸hj)
  rw [zB e1] at h
  exact r.own j hj w h
 inj:=fun j k a hj hk h1 h2=>by
  have e1:j≠i:=fun e=>hi (e▸hj)
  have e2:k≠i:=fun e=>hi (e▸hk)
  rw [zB e1] at h1
  rw [zB e2] at h2
  exact r.inj j k a hj hk h1 h2
 b0:=r.b0
 kp:=r.kp
 dm:=r.dm
 pO:=r.pO
 ps:=fun j hj=>by
  have e:j≠i:=fun e=>hi (e▸r.pO j hj)
  rw [zB e];exact r.ps j hj
theorem GrS.set {O:List Nat} {Z:St} {H:Hp} {i:Nat} {v:Option V} (hi:i ∉ O):GrS O Z H (Z.set i v) H:=⟨Ext.refl,fun b h _=>(Cl.set hi b).mpr h,fun _ h=>h⟩
def jn (i:Nat) (f:M D):MS:=sbnd f fun d U => .ok (.nx (U.set i (some d)))
theorem ze {i:Nat} {x:Str} {pos':Pos} {f:M D} (hN:X.N.Nodup) (he:DE X c e f) (ho:i ∉ c.O:=by exact of_decide_eq_false rfl) (hi:X.N[i]? = some x:=by rfl) (hx:Loc X.env.scope x:=by first | exact Or.inl rfl | exact Or.inr rfl) (hs:swapsWith e (some (.Name x pos')) pos.line X.env=pure false:=by rfl) (hf:X.fn x=true\/X.env.scope.names.lookup x=some .local:=by first | exact .inl rfl | exact .inr rfl | assumption) :
  DS X c (.Assign [.Name x pos'] e pos) (jn i f):=by
 obtain ⟨t,p,w⟩:=he
 refine ⟨_,qkc hN hi hx p hs hf,fun U Z H D r h=>w U Z H _ r (Wp.sbnd h fun d U1 v H1 r1 i1 g1 h1 => ?_)⟩
 exact h1 _ H1 (r1.set ho i1) (.set ho)
def DG (X:Cx) (c:Fc) (tg:Expr) (f:D->Env->Option Env):Prop:=∃ g,PG X tg g/\∀ U Z H d v U' (N:St->Hp->Prop),Rep X.K c U Z H->Is X.K (Cn c Z) H d v->f d U=some U' ->
 (∀ Z',Rep X.K c U' Z' H->GrS c.O Z H Z' H->(∀ j∈c.O,Z'[j]? = Z[j]?)->N Z' H)->g v Z H N
def qB (i:Nat):D->Env->Option Env:=fun d U=>some (U.set i (some d))
theorem qL {i:Nat} {x:Str} (hN:X.N.Nodup) (ho:i ∉ c.O:=by exact of_decide_eq_false rfl) (hi:X.N[i]? = some x:=by rfl) (hx:Loc X.env.scope x:=by first | exact Or.inl rfl | exact Or.inr rfl) (hf:X.fn x=true\/X.env.scope.names.lookup x=some .local:=by first | exact .inl rfl | exact .inr rfl | assumption) {p:Pos}:DG X c (.Name x p) (qB i):=by
 refine ⟨_,qk8 hN hi hx hf,fun U Z H d v U' N r h e k => ?_⟩
 cases e
 exact k _ (r.set ho h) (.set ho) fun j hj=>zB fun e=>ho (e▸hj)
def DGs (X:Cx) (c:Fc) (tgs:List Expr) (f:List D->Env->Option Env):Prop:=∃ g,PGs X tgs g/\∀ U Z H ds vs U' (N:St->Hp->Prop),Rep X.K c U Z H->IsL X.K (Cn c Z) H ds vs->f ds U=some U' ->
 (∀ Z',Rep X.K c U' Z' H->GrS c.O Z H Z' H->(∀ j∈c.O,Z'[j]? = Z[j]?)->N Z' H)->g vs Z H N
def qgR:List D->Env->Option Env
 | [],U=>some U
 | _,_=>none
def uw (f:D->Env->Option Env) (g:List D->Env->Option Env):List D->Env->Option Env
 | d::ds,U=>(f d U).bind (g ds)
 | _,_=>none
theorem qbM:DGs X c [] qgR:=by
 refine ⟨_,qk9,fun U Z H ds vs U' N r h e k => ?_⟩
 cases ds with
 | nil =>
  cases e
  exact ⟨h,k Z r .refl fun _ _=>rfl⟩
 | cons d ds=>cases e
theorem yo {tg:Expr} {tgs:List Expr} {f:D->Env->Option Env} {g:List D->Env->Option Env} (h1:DG X c tg f) (h2:DGs X c tgs g)
  (hs:(assignEach (tg::tgs) X.env).map (·.2)=assign tg X.env::(assignEach tgs X.env).map (·.2):=by rfl):DGs X c (tg::tgs) (uw f g):=by
 obtain ⟨t1,p1,w1⟩:=h1
 obtain ⟨t2,p2,w2⟩:=h2
 refine ⟨_,qiT p1 p2 hs,fun U Z H ds vs U' N r h e k => ?_⟩
 cases ds with
 | nil=>cases e
 | cons d ds =>
  obtain ⟨v,ws,rfl,i1,i2⟩:=h
  have e':(f d U).bind (g ds)=some U':=e
  cases e1:f d U with
  | none=>rw [e1] at e';cases e'
  | some U1 =>
   rw [e1] at e'
   exact ⟨v,ws,rfl,w1 U Z H d v U1 _ r i1 e1 fun Z1 r1 g1 o1=>w2 U1 Z1 H ds ws U' N r1 (g1.isL i2) e' fun Z2 r2 g2 o2=>k Z2 r2 (g1.trans g2) fun j hj=>(o2 j hj).trans (o1 j hj)⟩
def qgS (n:Nat) (g:List D->Env->Option Env):D->Env->Option Env
 | .tup ds,U=>if ds.length=n then g ds U else none
 | _,_=>none
theorem qdZ {es:List Expr} {k n:Nat} {p:Pos} {g:List D->Env->Option Env} (hc:X.calm=true) (h:DGs X c es g) (hn:(assignEach es X.env).length=n:=by rfl) (hst:(assignEach es X.env).findIdx? (·.1)=none:=by rfl):DG X c (.Tuple es k p) (qgS n g):=by
 obtain ⟨t,p,w⟩:=h
 refine ⟨_,qm4 (n:=n) hc p hn hst,fun U Z H d v U' N r h e q => ?_⟩
 cases d with
 | tup ds =>
  obtain ⟨a,xs,rfl,ta,il⟩:=h
  have e':(if ds.length=n then g ds U else none)=some U':=e
  by_cases hl:ds.length=n
  ·rw [if_pos hl] at e'
   exact ⟨a,xs,rfl,ta.sq,by rw [il.length];exact hl,w U Z H ds xs U' N r il e' q⟩
  ·rw [if_neg hl] at e';cases e'
 | _=>cases e
def qoR (f:M D) (g:D->Env->Option Env):MS:=sbnd f fun d U=>match g d U with
 | some U' => .ok (.nx U')
 | none => .bad
theorem qnz {tg:Expr} {f:M D} {g:D->Env->Option Env} (he:DE X c e f) (hg:DG X c tg g) (hs:swapsWithSole [tg] e pos.line X.env=pure false:=by rfl) (hw:swappedStores [tg] e X.env=pure none:=by rfl) (h1:(assignEach [tg] X.env).map (·.2)=[assign tg X.env]:=by rfl):DS X c (.Assign [tg] e pos) (qoR f g):=by
 obtain ⟨t,p,w⟩:=he
 obtain ⟨t2,p2,w2⟩:=hg
 refine ⟨_,qkb p p2 hs hw h1,fun U Z H D r h=>w U Z H _ r (Wp.sbnd h fun d U1 v H1 r1 i1 g1 h1 => ?_)⟩
 cases e:g d U1 with
 | none=>rw [e] at h1;exact h1.elim
 | some U2 =>
  rw [e] at h1
  exact w2 U1 Z H1 d v U2 _ r1 i1 e fun Z' r2 g2 _=>h1 Z' H1 r2 g2
end
section
variable {K:Fr0}
def iiD (g:Int->Int->D):D->D->Option D
 | .int i,.int j=>some (g i j)
 | _,_=>none
def qmF (C:Int->Int->Bool) (g:Int->Int->D):D->D->Option D
 | .int i,.int j=>if C i j then some (g i j) else none
 | _,_=>none
theorem qbN {g:Int->Int->V} {gD:Int->Int->D} (hg:∀ A H i j,Is K A H (gD i j) (g i j)):OpS K (iiD gD) (rI0 g):=by
 intro A H x y d v u Q hn ix iy e k
 cases x<;>cases y<;>simp only [iiD] at e<;>try (cases e;done)
 rename_i i j
 cases (Option.some.inj e)
 cases (show v = .int i from ix)
 cases (show u = .int j from iy)
 exact ⟨i,j,rfl,rfl,k _ H (jp.refl H) (hg _ _ _ _)⟩
theorem qkk {C:Int->Int->Prop} {CB:Int->Int->Bool} {g:Int->Int->V} {gD:Int->Int->D} (hC:∀ i j,CB i j=true->C i j) (hg:∀ A H i j,Is K A H (gD i j) (g i j)):OpS K (qmF CB gD) (rI C g):=by
 intro A H x y d v u Q hn ix iy e k
 cases x<;>cases y<;>simp only [qmF] at e<;>try (cases e;done)
 rename_i i j
 obtain ⟨e1,e2⟩:=z5 e
 subst e2
 cases (show v = .int i from ix)
 cases (show u = .int j from iy)
 exact ⟨i,j,rfl,rfl,hC i j e1,k _ H (jp.refl H) (hg _ _ _ _)⟩
def qhe:D->D->Option D:=iiD fun i j => .int (i-j)
theorem qbO:OpS K qhe (rI0 fun i j => .int (i-j)):=qbN fun _ _ _ _=>rfl
def yI (i:Int):Bool:=decide (-(2 ^ 64)<i)&&decide (i<2 ^ 64)
theorem qd0 {i:Int} (h:yI i=true) : -(2 ^ 64)<i/\i<2 ^ 64:=by
 unfold yI at h
 rw [Bool.and_eq_true] at h
 exact ⟨of_decide_eq_true h.1,of_decide_eq_true h.2⟩
def qhf (i j:Int):Bool:=yI i||yI j
theorem qi4 {i j:Int} (h:qhf i j=true):qnb i j:=by
 unfold qhf at h
 rw [Bool.or_eq_true] at h
 rcases h with h | h
 ·exact .inl (qd0 h)
 ·exact .inr (qd0 h)
def qgq (i j:Int):Bool:=decide (0<j)&&decide (j<1606938044258990275541962092341162602522202993782792835301376)
theorem qfu {i j:Int} (h:qgq i j=true):qna i j:=by
 unfold qgq at h
 rw [Bool.and_eq_true] at h
 exact ⟨of_decide_eq_true h.1,of_decide_eq_true h.2⟩
def qaD:D->D->Option D:=qmF qgq fun i j => .int (i/j)
theorem vY:OpS K qaD (rI qna fun i j => .int (i/j)):=qkk (fun _ _=>qfu) fun _ _ _ _=>rfl
def qcN:D->D->Option D:=qmF (fun _ j=>decide (0<j)) fun i j => .int (i%j)
theorem qaE:OpS K qcN (rI (fun _ j=>0<j) fun i j => .int (i%j)):=qkk (fun _ _ h=>of_decide_eq_true h) fun _ _ _ _=>rfl
def ltD:D->D->Option D:=iiD fun i j => .bl (decide (i<j))
def leD:D->D->Option D:=iiD fun i j => .bl (decide (i<=j))
def gtD:D->D->Option D:=iiD fun i j => .bl (decide (j<i))
def geD:D->D->Option D:=iiD fun i j => .bl (decide (j<=i))
theorem qd1:OpS K ltD (rI0 fun i j => .bl (decide (i<j))):=qbN fun _ _ _ _=>rfl
theorem qkl:OpS K leD (rI0 fun i j => .bl (decide (i<=j))):=qbN fun _ _ _ _=>rfl
theorem qa8:OpS K gtD (rI0 fun i j => .bl (decide (j<i))):=qbN fun _ _ _ _=>rfl
theorem qhg:OpS K geD (rI0 fun i j => .bl (decide (j<=i))):=qbN fun _ _ _ _=>rfl
def sc2:D->D->Option Bool
 | .non,.non=>some true | .non,.int _=>some false | .int _,.non=>some false | .non,.bl _=>some false | .bl _,.non=>some false | .non,.str _=>some false | .str _,.non=>some false
 | .int i,.int j=>some (decide (i=j)) | .bl i,.bl j=>some (decide (i=j)) | .str i,.str j=>some (decide (i=j))
 | .int _,.str _=>some false | .str _,.int _=>some false | .bl _,.str _=>some false | .str _,.bl _=>some false
 | _,_=>none
def eqS (x y:D):Option D:=(sc2 x y).map D.bl
def neS (x y:D):Option D:=(sc2 x y).map fun b=>D.bl (!b)
theorem qkm {A:Addr->Prop} {H:Hp} {x y:D} {v u:V} {b:Bool} (ix:Is K A H x v) (iy:Is K A H y u) (e:sc2 x y=some b):qpf v u=true/\decide (v=u)=b:=by
 cases x<;>cases y<;>simp only [sc2] at e<;>first
  | (cases e;done)
  | (cases ix;cases iy;cases e;exact ⟨rfl,rfl⟩)
  | (cases ix;cases iy;cases e;exact ⟨rfl,by simp⟩)
  | (cases ix;cases iy;cases e;exact ⟨rfl,by rw [Bool.eq_iff_iff];simp⟩)
theorem qlu:OpS K eqS rEq:=by
 intro A H x y d v u Q hn ix iy e k
 unfold eqS at e
 cases e1:sc2 x y with
 | none=>rw [e1] at e;cases e
 | some b =>
  rw [e1] at e
  cases e
  obtain ⟨h1,h2⟩:=qkm ix iy e1
  exact ⟨h1,by rw [h2];exact k _ H (jp.refl H) rfl⟩
theorem qlv:OpS K neS rNe:=by
 intro A H x y d v u Q hn ix iy e k
 unfold neS at e
 cases e1:sc2 x y with
 | none=>rw [e1] at e;cases e
 | some b =>
  rw [e1] at e
  cases e
  obtain ⟨h1,h2⟩:=qkm ix iy e1
  exact ⟨h1,by rw [h2];exact k _ H (jp.refl H) rfl⟩
def ue:D->Bool
 | .non=>true
 | _=>false
theorem qbw {A:Addr->Prop} {H:Hp} {x:D} {v:V} (ix:Is K A H x v):decide (v=V.non)=ue x:=by
 cases x with
 | non=>cases ix;rfl
 | bl b=>cases ix;rfl
 | int i=>cases ix;rfl
 | str s=>cases ix;rfl
 | tup ds=>obtain ⟨a,xs,rfl,_⟩:=ix;rfl
 | lst ds=>obtain ⟨a,xs,rfl,_⟩:=ix;rfl
 | dic ds=>obtain ⟨a,rfl,_⟩:=ix;rfl
 | fz ds=>obtain ⟨a,rfl,_⟩:=ix;rfl
 | exc ds=>obtain ⟨a,rfl,_⟩:=ix;rfl
def isN (x y:D):Option D:=if ue y then some (.bl (ue x)) else none
def qnA (x y:D):Option D:=if ue y then some (.bl (!ue x)) else none
theorem qaF:OpS K isN (fun x y H Q=>y = .non/\Q (.bl (decide (x = .non))) H):=by
 intro A H x y d v u Q hn ix iy e k
 obtain ⟨e1,e2⟩:=z5 e
 subst e2
 have h:=qbw iy
 rw [e1] at h
 refine ⟨of_decide_eq_true h,?_⟩
 rw [qbw ix]
 exact k _ H (jp.refl H) rfl
theorem qi5:OpS K qnA (fun x y H Q=>y = .non/\Q (.bl (!decide (x = .non))) H):=by
 intro A H x y d v u Q hn ix iy e k
 obtain ⟨e1,e2⟩:=z5 e
 subst e2
 have h:=qbw iy
 rw [e1] at h
 refine ⟨of_decide_eq_true h,?_⟩
 rw [qbw ix]
 exact k _ H (jp.refl H) rfl
def ixD:D->D->Option D
 | .tup ds,.int i=>atI ds i
 | .lst ds,.int i=>atI ds i
 | .fz ns,.int i=>(atI ns i).map D.int
 | _,_=>none
theorem IsL.atI {A:Addr->Prop} {H:Hp} {ds:List D} {xs:List V} {i:Int} {d:D} (h:IsL K A H ds xs) (e:L2.atI ds i=some d):∃ v,L2.atI xs i=some v/\Is K A H d v:=by
 unfold L2.atI at e |-
 rw [h.length]
 cases e1:ixN ds.length i with
 | none=>rw [e1] at e;cases e
 | some j =>
  rw [e1] at e
  exact h.get e
theorem qq:OpS K ixD (fun x y H Q=>qpm K x y H Q\/qpn K x y H Q):=by
 intro A H x y d v u Q hn ix iy e k
 cases x<;>cases y<;>simp only [ixD] at e<;>try (cases e;done)
 ·rename_i ds i
  cases iy
  obtain ⟨a,xs,rfl,ta,il⟩:=ix
  obtain ⟨w,h1,h2⟩:=il.atI e
  exact .inr ⟨a,xs,i,w,rfl,rfl,ta.sq,h1,k w H (jp.refl H) h2⟩
 ·rename_i ds i
  cases iy
  obtain ⟨a,xs,rfl,_,ta,il⟩:=ix
  obtain ⟨w,h1,h2⟩:=il.atI e
  exact .inl ⟨a,xs,i,w,rfl,rfl,.inl (.inl ta),h1,k w H (jp.refl H) h2⟩
 ·rename_i ns i
  cases iy
  obtain ⟨a,rfl,ta⟩:=ix
  cases e1:L2.atI ns i with
  | none=>rw [e1] at e;cases e
  | some m =>
   rw [e1] at e
   cases e
   have h1:L2.atI (ns.map V.int) i=some (V.int m):=by
    unfold L2.atI at e1 |-
    rw [lM_]
    cases e2:ixN ns.length i with
    | none=>rw [e2] at e1;cases e1
    | some j =>
     rw [e2] at e1
     have e3:ns[j]? = some m:=e1
     show (ns.map V.int)[j]? = some (V.int m)
     rw [gM_,e3];rfl
   exact .inl ⟨a,_,i,.int m,rfl,rfl,ta.sq,h1,k _ H (jp.refl H) rfl⟩
theorem IsL.inv1 {A:Addr->Prop} {H:Hp} {d:D} {vs:List V} (h:IsL K A H [d] vs):∃ v,vs=[v]/\Is K A H d v:=by
 obtain ⟨x,ys,e1,e2,e3⟩:=h
 have e3':ys=[]:=e3
 exact ⟨x,by rw [e1,e3'],e2⟩
theorem IsL.inv2 {A:Addr->Prop} {H:Hp} {d d':D} {vs:List V} (h:IsL K A H [d,d'] vs):∃ v w,vs=[v,w]/\Is K A H d v/\Is K A H d' w:=by
 obtain ⟨x,ys,e1,e2,e3⟩:=h
 obtain ⟨w,e4,e5⟩:=IsL.inv1 e3
 exact ⟨x,w,by rw [e1,e4],e2,e5⟩
def qq8:List D->Option D
 | [.int i]=>some (.int (if i<0 then -i else i))
 | _=>none
def qi6:List D->Option D
 | [.int i,.int j]=>some (.int (if j>i then j else i))
 | _=>none
def qgr:List D->Option D
 | [.int i,.int j]=>some (.int (if j<i then j else i))
 | _=>none
theorem qhh:qbk K qi6 (fun xs H Q=>∃ i j,xs=[.int i,.int j]/\Q (.int (if j>i then j else i)) H):=by
 intro A H xs d vs Q hn h e k
 unfold qi6 at e
 split at e
 ·rename_i i j
  obtain ⟨v,w,rfl,e2,e3⟩:=IsL.inv2 h
  cases e2;cases e3;cases e
  exact ⟨i,j,rfl,k _ H (jp.refl H) rfl⟩
 ·cases e
theorem qd2:qbk K qgr (fun xs H Q=>∃ i j,xs=[.int i,.int j]/\Q (.int (if j<i then j else i)) H):=by
 intro A H xs d vs Q hn h e k
 unfold qgr at e
 split at e
 ·rename_i i j
  obtain ⟨v,w,rfl,e2,e3⟩:=IsL.inv2 h
  cases e2;cases e3;cases e
  exact ⟨i,j,rfl,k _ H (jp.refl H) rfl⟩
 ·cases e
def qbP:List D->Option D
 | [.int i,.int j]=>if qgq i j then some (.tup [.int (i/j),.int (i%j)]) else none
 | _=>none
theorem qd3:qbk K qbP (fun xs H Q=>∃ i j,xs=[.int i,.int j]/\qna i j/\∀ p,H p=none->Q (.ref p) (upd H p (.tup [.int (i/j),.int (i%j)]))):=by
 intro A H xs d vs Q hn h e k
 unfold qbP at e
 split at e
 ·rename_i i j
  obtain ⟨v,w,rfl,e2,e3⟩:=IsL.inv2 h
  cases e2;cases e3
  obtain ⟨e6,e7⟩:=z5 e
  subst e7
  exact ⟨i,j,rfl,qfu e6,fun p hp=>k _ _ (qy hp _) ⟨p,_,rfl,.inl qt,_,_,rfl,rfl,_,_,rfl,rfl,rfl⟩⟩
 ·cases e
def qqN:List D->Option D
 | [.int i]=>some (.int i)
 | [.bl b]=>some (.int (if b then 1 else 0))
 | _=>none
def wy:List D->Option D
 | [.tup ds]=>some (.int ds.length)
 | [.lst ds]=>some (.int ds.length)
 | [.fz ns]=>some (.int ns.length)
 | [.str x]=>if qP x.length then some (.int x.length) else none
 | _=>none
def qp8 (K:Fr0):List V->Hp->VK->Prop:=fun xs H Q=>(∃ p ys,xs=[.ref p]/\(SqL K H p ys\/SqT K H p ys)/\Q (.int ys.length) H)\/(∃ z,xs=[.str z]/\z.length<=sizeLine/\Q (.int z.length) H)
theorem zf {X:Cx}:uD X (.builtin "len") (qp8 X.K):=uD.or qdT qdU
theorem zg:qbk K wy (qp8 K):=by
 intro A H xs d vs Q hn h e k
 unfold wy at e
 split at e
 ·obtain ⟨v,rfl,a,zs,rfl,ta,il⟩:=IsL.inv1 h
  cases e
  exact .inl ⟨a,zs,rfl,.inr ta.sq,by rw [il.length];exact k _ H (jp.refl H) rfl⟩
 ·obtain ⟨v,rfl,a,zs,rfl,_,ta,il⟩:=IsL.inv1 h
  cases e
  exact .inl ⟨a,zs,rfl,.inl (.inl (.inl ta)),by rw [il.length];exact k _ H (jp.refl H) rfl⟩
 ·obtain ⟨v,rfl,a,rfl,ta⟩:=IsL.inv1 h
  cases e
  exact .inl ⟨a,_,rfl,.inl ta.sq,by rw [lM_];exact k _ H (jp.refl H) rfl⟩
 ·rename_i z
  obtain ⟨v,rfl,e2⟩:=IsL.inv1 h
  cases e2
  obtain ⟨e4,e5⟩:=z5 e
  subst e5
  exact .inr ⟨z,rfl,of_decide_eq_true e4,k _ H (jp.refl H) rfl⟩
 ·cases e
def qd4:List D->Option D
 | [.tup ds]=>some (.tup ds)
 | [.lst ds]=>some (.tup ds)
 | _=>none
theorem qbQ:qbk K qd4 (fun xs H Q=>∃ p ys,xs=[.ref p]/\((SqL K H p ys/\∀ l,H l=none->Q (.ref l) (upd H l (.tup ys)))\/(SqT K H p ys/\Q (.ref p) H))):=by
 intro A H xs d vs Q hn h e k
 unfold qd4 at e
 split at e
 ·obtain ⟨v,rfl,a,zs,rfl,ta,il⟩:=IsL.inv1 h
  cases e
  exact ⟨a,zs,rfl,.inr ⟨ta.sq,k _ H (jp.refl H) ⟨a,zs,rfl,ta,il⟩⟩⟩
 ·obtain ⟨v,rfl,a,zs,rfl,_,ta,il⟩:=IsL.inv1 h
  cases e
  exact ⟨a,zs,rfl,.inl ⟨.inl (.inl ta),fun l hl=>k _ _ (qy hl _) ⟨l,zs,rfl,.inl qt,IsL.ext (Ext.of_same (qy hl _)) (fun _ h _=>h) il⟩⟩⟩
 ·cases e
end
end L2.Sk
namespace L2.Sk
open PySem PySem.Spec PySem.Calls PyProof.Rows PySem.W
def qkn (h:Heap) (a D:Addr):Prop:=∃ o,h.get? a=some o/\o.cls = .ref D
theorem qkn.looks {M:Model} {h:Heap} {a D:Addr} (I:qkn h a D):Looks M h (typeOf (.ref a)) (.ref D):=by
 obtain ⟨o,h1,h2⟩:=I
 rw [<- h2]
 exact (Looks.ld h1).andThen .now
section
variable {prog:Program} {w:World} {A:Around} {E:Value->Shared->Prop} {K:Frag} {h:Heap} {g:Array GenState} {d:Drawn} {t:Nat} {os:OsState} {a D:Addr}
theorem qnB (hm:mroIn K D (.type "object")=some true) {tp:Value} {R:Result->Shared->Prop} (X:K.In h) (I:qkn h a D) (hq:R (.ok (.ret (.ref D))) ⟨h,g,d,t,os⟩) :
  codeAny (model prog w) A (.call (.builtin "getset_descriptor.__get__") ⟨[.builtin "object.__class__",.ref a,tp],[]⟩) R ⟨h,g,d,t,os⟩:=by
 have L0:=I.looks (M:=model prog w)
 have L1:=looks_mroIn (M:=model prog w) X hm
 have hT5:(⟨h,g,d,t,os⟩:Shared).TypeIs (.builtin "object.__class__") "getset_descriptor":=F.typeOf_object_class
 refine codeAny_call_builtin F.slot_gs_get.plain F.entry_gs_get (F.slot_gs_get.check _ _ _ _ _ _ _ _ hT5 (F.args_gs_get _ _ _) ?_)
 have eo:".".intercalate ("object.__class__".cutAt '.').dropLast="object":=by decide +kernel
 repeat (any_goals (first | assumption | with_reducible refine L0.at ?_ | with_reducible refine L1.at ?_ | wp_step))
 rw [eo]
 refine L1.at ?_
 repeat (any_goals (first | assumption | with_reducible refine L0.at ?_ | wp_step))
 refine ⟨Code.quiet_builtin _ (by decide +kernel),codeAny_builtin F.entry_object_class ?_⟩
 repeat (any_goals (first | assumption | with_reducible refine L0.at ?_ | wp_step))
theorem qi7 (ha:findIn K (.ref D) "__class__"=some (some (.builtin "object.__class__"))) (hm:mroIn K D (.type "object")=some true) {tk:Tok} {Q:Fin->Shared->Prop} (X:K.In h) (I:qkn h a D) (hq:Q (.done (.ret (.ref D))) ⟨h,g,d,t,os⟩) :
  wpAny (model prog w) A (Builtin.«object.__getattribute__» ⟨[.ref a,.str "__class__" tk],[]⟩) Q E ⟨h,g,d,t,os⟩:=by
 have L0:=I.looks (M:=model prog w)
 have L1:=looks_findIn (M:=model prog w) X ha
 have hT5:(⟨h,g,d,t,os⟩:Shared).TypeIs (.builtin "object.__class__") "getset_descriptor":=F.typeOf_object_class
 have f5:=F.typeOf_object_class
 have f6:=F.slot_gs_get.lookup
 have f7:=F.slot_gs_set.lookup
 repeat (any_goals (first | assumption | with_reducible refine L0.at ?_ | with_reducible refine L1.at ?_ | wp_step))
 refine qnB hm X I ?_
 repeat (any_goals (first | assumption | wp_step))
theorem qi8 (hb:Looks (model prog w) h (isSubtype (.ref D) (.type "BaseException")) true) {nameV:Value} {Q:Unit->Shared->Prop} (I:qkn h a D) (hq:Q () ⟨h,g,d,t,os⟩):wpAny (model prog w) A (checkBuiltinCall "BaseException.__getattribute__" ⟨[.ref a,nameV],[]⟩) Q E ⟨h,g,d,t,os⟩:=by
 have hk:builtinKind "BaseException.__getattribute__"=some .slot:=by decide +kernel
 have hsplit:splitId "BaseException.__getattribute__"=some ("BaseException","__getattribute__"):=by decide +kernel
 have L0:=I.looks (M:=model prog w)
 have ha:=F.args_bexc_ga (.ref a) nameV
 simp only [checkBuiltinCall,hk,hsplit]
 refine wpAny_bind ?_
 ·unfold isInstance
  repeat (first | with_reducible refine L0.at ?_ | with_reducible refine hb.at ?_ | wp_step)
  exact hq
theorem qpp (FA:ExcAttrFacts "ValueError") (hga:findIn K (.ref D) "__getattribute__"=some (some (.builtin "BaseException.__getattribute__"))) (hgt:findIn K (.ref D) "__getattr__"=some none) (ha:findIn K (.ref D) "__class__"=some (some (.builtin "object.__class__"))) (hm:mroIn K D (.type "object")=some true)
  (hb:Looks (model prog w) h (isSubtype (.ref D) (.type "BaseException")) true) {tk:Tok} {fill expr:Bool} {Q:Value->Shared->Prop} (X:K.In h) (I:qkn h a D) (hq:Q (.ref D) ⟨h,g,d,t,os⟩) :
  wpAny (model prog w) A (getAttrBy (.ref a) (.str "__class__" tk) fill expr) Q E ⟨h,g,d,t,os⟩:=by
 have L0:=I.looks (M:=model prog w)
 have L1:=looks_findIn (M:=model prog w) X hga
 have L2:=looks_findIn (M:=model prog w) X hgt
 have f3:=FA.ga.bind (.ref a)
 have hx0:(expr&&onTheHeap (Value.builtin "BaseException.__getattribute__"))=false:=by cases expr<;>rfl
 have hx2:(Value.builtin "BaseException.__getattribute__"==Value.builtin "object.__getattribute__")=false:=by decide +kernel
 have hx1:(onTheHeap (Value.ref D)&&Value.builtin "BaseException.__getattribute__"==Value.builtin "object.__getattribute__")=false:=by rw [hx2];rfl
 repeat (any_goals (first | assumption | with_reducible refine L0.at ?_ | with_reducible refine L1.at ?_ | with_reducible refine L2.at ?_ | wp_step))
 refine codeAny_call_builtin FA.ga.plain F.entry_bexc_ga (qi8 hb I (qi7 ha hm X I ?_))
 repeat (any_goals (first | assumption | wp_step))
theorem qlw (FA:ExcAttrFacts "ValueError") (hga:findIn K (.ref D) "__getattribute__"=some (some (.builtin "BaseException.__getattribute__"))) (hgt:findIn K (.ref D) "__getattr__"=some none) (ha:findIn K (.ref D) "__class__"=some (some (.builtin "object.__class__"))) (hm:mroIn K D (.type "object")=some true)
  (hb:Looks (model prog w) h (isSubtype (.ref D) (.type "BaseException")) true) {Q:Option Value->Shared->Prop} (X:K.In h) (I:qkn h a D) (hq:Q (some (.ref D)) ⟨h,g,d,t+1,os⟩) :
  wpAny (model prog w) A (getAttr? (.ref a) "__class__") Q E ⟨h,g,d,t,os⟩:=by
 unfold getAttr? getAttrBy?
 repeat (any_goals (first | assumption | with_reducible apply qpp FA hga hgt ha hm hb X I | wp_step))
end
theorem qi9 {K:Frag} {a D:Addr} (c:XK6 K D):KitX K (.ref a) (.ref D) (fun h=>qkn h a D) where
 ty:=fun _ _ _ I=>I.looks
 it := fun _ _ X _=>by
  obtain ⟨cdD,hcD⟩:=Option.isSome_iff_exists.mp c.is
  unfold clsIn at hcD
  split at hcD
  ·rename_i c' d' cd' sl' ho
   intro A' Q' E' s' k q
   unfold isType loadHead
   exact wpAny_bind (wpAny_loadPart (k _ _ (X _ _ ho)) (wpAny_pure q))
  ·cases hcD
 ne := fun h tp dd its n sl X htp=>by
  obtain ⟨cdD,hcD⟩:=Option.isSome_iff_exists.mp c.is
  refine Bool.eq_false_iff.mpr fun q => ?_
  have e:D=tp:=Value.ref.inj (beq_iff_eq.mp q)
  subst e
  unfold clsIn at hcD
  split at hcD
  ·rename_i c' d' cd' sl' ho
   have z:=(X _ _ ho).symm.trans htp
   cases z
  ·cases hcD
 ca:=fun {prog w A E Q s} X p k=>by
  have I:=p
  obtain ⟨h,g,d,t,os⟩:=s
  exact qlw PySem.F.attrBase_ValueError.toExcAttrFacts c.ga c.gt c.cl c.ob (looks_subIn X c.be) X I k
theorem qgs {X:Cx} {pins:List (Addr×Obj)} {Z:St} {H:Hp} {s:Shared} {A:Around} {E:Value->Shared->Prop} {Q:Value->Shared->Prop} {a C:Addr} {c:Value} {b:Bool} (I:Inv X pins Z H s) (xc:XK6 X.K C) (hH:∃ o vs,H a=some (.frz o (.own a))/\o.cls = .ref C/\o.data = .fields vs)
  (e:kitOne X.K (.ref C) c=some b) (h:∀ tk,Q (.bool b) { s with toks:=tk }):wpAny (model X.prog X.w) A (call (.builtin "isinstance") [.ref a,c]) Q E s:=by
 obtain ⟨o,vs,h1,h2,_⟩:=hH
 obtain ⟨p,_⟩:=(show uc X.prog X.w H s.heap a (.frz o (.own a)) from I.hok a _ h1)
 exact kia_one (qi9 xc) I.kIn ⟨o,p,h2⟩ e (fun z=>nomatch z) h
end L2.Sk
namespace L2.Sk
open PySem PySem.Spec PyProof.Rows
def tyD:D->String
 | .non=>"NoneType"
 | .bl _=>"bool"
 | .int _=>"int"
 | .str _=>"str"
 | .tup _=>"tuple"
 | .lst _=>"list"
 | .dic _=>"dict"
 | .fz _=>"list"
 | .exc _=>"exc"
def qeS (t T:String):Bool:=t==T||(t=="bool"&&T=="int")
def qgt:List String:=["NoneType","bool","int","str","tuple","list","dict"]
theorem qlx (d:D) (h:∀ C,d ≠ .exc C):tyD d∈qgt:=by
 cases d<;>first | (simp [tyD,qgt];done) | exact absurd rfl (h _)
structure qmG (K:Fr0) (T:String):Prop where
 ok:∀ t∈qgt,PySem.W.kitOne K (.type t) (.type T)=some (qeS t T)
 ex:T∈["int","bool","str","tuple","list","dict"]
 nx:qeS "exc" T=false
theorem qly {K:Fr0}:qmG K "int":=⟨fun t ht=>by
 simp only [qgt,List.mem_cons,nN_,or_false] at ht
 rcases ht with rfl | rfl | rfl | rfl | rfl | rfl | rfl<;>kernel_rfl,by decide,by decide⟩
theorem qja {K:Fr0}:qmG K "bool":=⟨fun t ht=>by
 simp only [qgt,List.mem_cons,nN_,or_false] at ht
 rcases ht with rfl | rfl | rfl | rfl | rfl | rfl | rfl<;>kernel_rfl,by decide,by decide⟩
theorem qd5 {K:Fr0}:qmG K "tuple":=⟨fun t ht=>by
 simp only [qgt,List.mem_cons,nN_,or_false] at ht
 rcases ht with rfl | rfl | rfl | rfl | rfl | rfl | rfl<;>kernel_rfl,by decide,by decide⟩
section
variable {X:Cx} {pins:List (Addr×Obj)} {Z:St} {H:Hp} {s:Shared} {A:Addr->Prop} {E:Value->Shared->Prop} {Q:Value->Shared->Prop}
theorem qnC {d:D} {v:V} {u:Value} {T:String} (I:Inv X pins Z H s) (h:Is X.K A H d v) (rv:jI v u) (kt:qmG X.K T) (hQ:∀ tk,Q (.bool (qeS (tyD d) T)) { s with toks:=tk }) :
  wpAny (model X.prog X.w) X.A (call (.builtin "isinstance") [u,.type T]) Q E s:=by
 by_cases hx:∃ C,d = .exc C
 ·obtain ⟨C,rfl⟩:=hx
  obtain ⟨a,rfl,xa⟩:=h
  cases (show u=Value.ref a from rv)
  have q:∀ tk,Q (.bool false) { s with toks:=tk }:=fun tk=>by
   have:=hQ tk
   rw [show tyD (.exc C)="exc" from rfl,kt.nx] at this
   exact this
  obtain ⟨D0,h0,h1,h2⟩:=xa
  exact qgs I h1 h2 (h1.no T kt.ex) q
 have e:=kt.ok (tyD d) (qlx d fun C hC=>hx ⟨C,hC⟩)
 cases d with
 | exc C=>exact absurd ⟨C,rfl⟩ hx
 | non=>cases h;exact uJ I rv .non e hQ
 | bl b=>cases h;exact uJ I rv (.bl b) e hQ
 | int i=>cases h;exact uJ I rv (.int i) e hQ
 | str x=>cases h;exact uJ I rv (.str x) e hQ
 | tup ds =>
  obtain ⟨a,xs,rfl,ta,il⟩:=h
  cases (show u=Value.ref a from rv)
  obtain ⟨its,r,p,z⟩:=I.tuple ta.sq
  obtain ⟨o,h1,h2,_⟩:=p
  exact PySem.W.kia_one PySem.W.kitx_tuple I.kIn ⟨o,h1,h2⟩ e (fun z=>nomatch z) hQ
 | lst ds =>
  obtain ⟨a,xs,rfl,hA,ta,il⟩:=h
  exact uJ I rv (.lst ta) e hQ
 | dic kvs =>
  obtain ⟨a,rfl,hA,ta⟩:=h
  exact uJ I rv (.dK ta) e hQ
 | fz ns =>
  obtain ⟨a,rfl,ta⟩:=h
  cases (show u=Value.ref a from rv)
  obtain ⟨its,r,p,z⟩:=I.list ta.sq
  obtain ⟨o,h1,h2,_⟩:=p.isList
  exact PySem.W.kia_one PySem.W.kitx_list I.kIn ⟨o,h1,h2⟩ e (fun z=>nomatch z) hQ
end
def qlz (T:String) (f:M D):M D:=bnd f fun d=>ret (.bl (qeS (tyD d) T))
section
variable {X:Cx} {c:Fc} {a b e:Expr} {pos:Pos}
def qqO (K:Fr0) (T:String):List V->Hp->VK->Prop:=fun xs H Q=>∃ v d A,xs=[v,.ty T]/\Is K A H d v/\Q (.bl (qeS (tyD d) T)) H
theorem qjb {T:String} (kt:qmG X.K T):uD X (.builtin "isinstance") (qqO X.K T):=by
 intro pins s Z H xs us Q I r h
 obtain ⟨v,d,A,rfl,hi,q⟩:=h
 obtain ⟨u,w,rfl,r1,r2⟩:=zd.two r
 cases (show w=Value.type T from r2)
 exact qnC I hi r1 kt fun tk=>⟨.bl _,H,I.tok tk,rfl,q⟩
theorem qfv {T:String} {x:Str} {p p2:Pos} {f:M D} (kt:qmG X.K T) (hg:Gl X "isinstance") (hm:X.mg "isinstance"=none) (hg2:Gl X x) (hm2:X.mg x=none) (hv2:bootBuiltins x=some (.type T)) (ha:DE X c a f)
  (hv:bootBuiltins "isinstance"=some (.builtin "isinstance"):=by first | rfl | exact PySem.boot_isinstance) (hn2:x≠"__name__":=by decide) (hdb2:(x==("__debug__":Str))=false:=by decide)
  (he:starEach [a,.Name x p2] X.env=(false,eval a X.env)::starEach [.Name x p2] X.env:=by rfl) (hpl:(backTo pos (starEach [.Name x p2] X.env)).any (·.1)=false:=by rfl):DE X c (.Call (.Name "isinstance" p) [a,.Name x p2] [] pos) (qlz T f):=by
 obtain ⟨t,pa,w⟩:=ha
 refine ⟨_,qfr (qjb kt) hg hm hv (u3 pa (u3 (qk3 (v := .ty T) hg2 hm2 hv2 rfl hn2 hdb2) qcK (by rfl)) he) (by decide) (by decide) he hpl,fun U Z H Q r h=>w U Z H _ r (Wp.bnd h fun d U1 v H1 r1 i1 g1 h1 => ?_)⟩
 exact ⟨v,d,_,rfl,i1,h1 _ H1 r1 rfl .refl⟩
end
def uL:List D->Option (List Bool)
 | []=>some []
 | .bl b::r=>(uL r).map (b::·)
 | _=>none
def wG:List D->Option (List Int)
 | []=>some []
 | .int i::r=>(wG r).map (i::·)
 | _=>none
theorem wH {K:Fr0} {A:Addr->Prop} {H:Hp}:∀ {ds:List D} {xs:List V} {bs:List Bool},IsL K A H ds xs->uL ds=some bs->xs=bs.map V.bl
 | [],_,_,h,e=>by cases e;exact h
 | .bl b::r,_,bs,⟨x,ys,hx,h1,h2⟩,e=>by
  cases h1
  cases e1:uL r with
  | none=>simp [uL,e1] at e
  | some l =>
   simp [uL,e1] at e
   subst e
   rw [hx,wH h2 e1];rfl
 | .non::_,_,_,_,e=>by cases e
 | .int _::_,_,_,_,e=>by cases e
 | .str _::_,_,_,_,e=>by cases e
 | .tup _::_,_,_,_,e=>by cases e
 | .lst _::_,_,_,_,e=>by cases e
 | .dic _::_,_,_,_,e=>by cases e
 | .fz _::_,_,_,_,e=>by cases e
 | .exc _::_,_,_,_,e=>by cases e
theorem qaG {K:Fr0} {A:Addr->Prop} {H:Hp}:∀ {ds:List D} {xs:List V} {bs:List Int},IsL K A H ds xs->wG ds=some bs->xs=bs.map V.int
 | [],_,_,h,e=>by cases e;exact h
 | .int b::r,_,bs,⟨x,ys,hx,h1,h2⟩,e=>by
  cases h1
  cases e1:wG r with
  | none=>simp [wG,e1] at e
  | some l =>
   simp [wG,e1] at e
   subst e
   rw [hx,qaG h2 e1];rfl
 | .non::_,_,_,_,e=>by cases e
 | .bl _::_,_,_,_,e=>by cases e
 | .str _::_,_,_,_,e=>by cases e
 | .tup _::_,_,_,_,e=>by cases e
 | .lst _::_,_,_,_,e=>by cases e
 | .dic _::_,_,_,_,e=>by cases e
 | .fz _::_,_,_,_,e=>by cases e
 | .exc _::_,_,_,_,e=>by cases e
theorem qfw {bs:List Bool}:∀ {us:List Value},zd (bs.map V.bl) us->LSm.BoolsAre us bs:=by
 induction bs with
 | nil=>intro us r;rw [List.map_nil] at r;cases r;exact .nil
 | cons b bs ih =>
  intro us r
  rw [mC_] at r
  cases r with
  | cons r1 r2 =>
   cases (show _=Value.bool b from r1)
   exact .cons b (ih r2)
section
variable {X:Cx}
theorem qjc (hc:X.calm=true):uD X (.builtin "all") (fun xs H Q=>∃ (p:Addr) (bs:List Bool),xs=[.ref p]/\H p=some (.lst (bs.map V.bl))/\Q (.bl (bs.all id)) H):=by
 intro pins s Z H xs us Q I r h
 obtain ⟨p,bs,rfl,hp,q⟩:=h
 obtain ⟨u,rfl,ru⟩:=zd.one r
 cases ru
 obtain ⟨its,rv,pl,hz⟩:=I.list (SqL.of hp)
 have hl:=pl.isList
 have hb:=qfw rv
 have hlt:p<s.heap.objs.size:=by obtain ⟨_,e,_⟩:=hl;exact Heap.lt_size e
 refine call_all_walk (wpAny_pyIter_list hl ?_)
 refine ⟨s.heap.objs.size,[s.heap.objs.size,p],[s.heap.objs.size],its.toArray.size,_,_,fun i=>(bs[i]?).getD true,rfl,Walks.list (A:=X.A.in1) (I.ok.hd hc) _ p (Nat.ne_of_lt hlt) its.toArray,
  ⟨⟨_,Heap.get?_push_size _ rfl,rfl,rfl⟩,hl.push _⟩,fun i v s' Q' E' hP hQ => ?_,fun h' tk hk => ?_⟩
 ·obtain ⟨b,e,rfl⟩:=hb.get i v (by simpa using hP)
  simp only [e,Option.getD_some] at hQ
  exact wpAny_truthy_bool hQ
 ·have e:((List.range its.toArray.size).all fun i=>(bs[i]?).getD true)=bs.all id:=by
   rw [sT_,hb.length];exact LSm.range_all bs
  rw [e]
  exact ⟨.bl _,H,I.kept (LSm.kept_iter hk),rfl,q⟩
theorem qfx (hc:X.calm=true):uD X (.builtin "any") (fun xs H Q=>∃ (p:Addr) (bs:List Bool),xs=[.ref p]/\H p=some (.lst (bs.map V.bl))/\Q (.bl (bs.any id)) H):=by
 intro pins s Z H xs us Q I r h
 obtain ⟨p,bs,rfl,hp,q⟩:=h
 obtain ⟨u,rfl,ru⟩:=zd.one r
 cases ru
 obtain ⟨its,rv,pl,hz⟩:=I.list (SqL.of hp)
 have hl:=pl.isList
 have hb:=qfw rv
 have hlt:p<s.heap.objs.size:=by obtain ⟨_,e,_⟩:=hl;exact Heap.lt_size e
 refine call_any_walk (wpAny_pyIter_list hl ?_)
 refine ⟨s.heap.objs.size,[s.heap.objs.size,p],[s.heap.objs.size],its.toArray.size,_,_,fun i=>(bs[i]?).getD false,rfl,Walks.list (A:=X.A.in1) (I.ok.hd hc) _ p (Nat.ne_of_lt hlt) its.toArray,
  ⟨⟨_,Heap.get?_push_size _ rfl,rfl,rfl⟩,hl.push _⟩,fun i v s' Q' E' hP hQ => ?_,fun h' tk hk => ?_⟩
 ·obtain ⟨b,e,rfl⟩:=hb.get i v (by simpa using hP)
  simp only [e,Option.getD_some] at hQ
  exact wpAny_truthy_bool hQ
 ·have e:((List.range its.toArray.size).any fun i=>(bs[i]?).getD false)=bs.any id:=by
   rw [sT_,hb.length];exact LSm.range_any bs
  rw [e]
  exact ⟨.bl _,H,I.kept (LSm.kept_iter hk),rfl,q⟩
theorem qjd (hc:X.calm=true):uD X (.builtin "sum") (fun xs H Q=>∃ (p:Addr) (ns:List Int),xs=[.ref p]/\H p=some (.lst (ns.map V.int))/\Q (.int ns.sum) H):=by
 intro pins s Z H xs us Q I r h
 obtain ⟨p,ns,rfl,hp,q⟩:=h
 obtain ⟨u,rfl,ru⟩:=zd.one r
 cases ru
 obtain ⟨its,rv,pl,hz⟩:=I.list (SqL.of hp)
 have hl:=pl.isList
 have hi:IntsAre its ns:=qcM rv
 obtain ⟨zs,hx⟩:=hi.allInts.items
 have hl':s.heap.IsList p (intItems zs):=hx▸hl
 refine sum_intListG (I.ok.hd hc) hl' fun h' tk t' hk => ?_
 have e1:ns=zs.toList.map (·.1):=by
  rw [<- nums_intItems,<- hx]
  exact (show numsOf its.toArray.toList=ns from hi.numsOf).symm
 have e2:preSum (numAt zs) zs.size=ns.sum:=by
  rw [preSum_eq,List.take_of_length_le (by simp),e1]
 rw [e2]
 exact ⟨.int _,H,I.kept hk,⟨_,rfl⟩,q⟩
end
def qmH:List D->Option D
 | [.lst ds]=>(uL ds).map fun bs => .bl (bs.all id)
 | _=>none
def qje:List D->Option D
 | [.lst ds]=>(uL ds).map fun bs => .bl (bs.any id)
 | _=>none
def qnD:List D->Option D
 | [.lst ds]=>(wG ds).map fun bs => .int bs.sum
 | _=>none
section
variable {K:Fr0}
theorem qhi:qbk K qmH (fun xs H Q=>∃ (p:Addr) (bs:List Bool),xs=[.ref p]/\H p=some (.lst (bs.map V.bl))/\Q (.bl (bs.all id)) H):=by
 intro A H xs d vs Q hn h e k
 unfold qmH at e
 split at e
 ·obtain ⟨v,rfl,a,zs,rfl,_,ta,il⟩:=IsL.inv1 h
  obtain ⟨bs,h1,h2⟩:=Option.map_eq_some_iff.mp e
  subst h2
  rw [wH il h1] at ta
  exact ⟨a,bs,rfl,ta,k _ H (jp.refl H) rfl⟩
 ·cases e
theorem qd6:qbk K qje (fun xs H Q=>∃ (p:Addr) (bs:List Bool),xs=[.ref p]/\H p=some (.lst (bs.map V.bl))/\Q (.bl (bs.any id)) H):=by
 intro A H xs d vs Q hn h e k
 unfold qje at e
 split at e
 ·obtain ⟨v,rfl,a,zs,rfl,_,ta,il⟩:=IsL.inv1 h
  obtain ⟨bs,h1,h2⟩:=Option.map_eq_some_iff.mp e
  subst h2
  rw [wH il h1] at ta
  exact ⟨a,bs,rfl,ta,k _ H (jp.refl H) rfl⟩
 ·cases e
theorem qhj:qbk K qnD (fun xs H Q=>∃ (p:Addr) (ns:List Int),xs=[.ref p]/\H p=some (.lst (ns.map V.int))/\Q (.int ns.sum) H):=by
 intro A H xs d vs Q hn h e k
 unfold qnD at e
 split at e
 ·obtain ⟨v,rfl,a,zs,rfl,_,ta,il⟩:=IsL.inv1 h
  obtain ⟨bs,h1,h2⟩:=Option.map_eq_some_iff.mp e
  subst h2
  rw [qaG il h1] at ta
  exact ⟨a,bs,rfl,ta,k _ H (jp.refl H) rfl⟩
 ·cases e
end
section
variable {X:Cx}
def qko (K:Fr0):R2:=fun x y H Q=>∃ a b ys,x = .ref a/\y = .ref b/\SqT K H a []/\SqT K H b ys/\Q (.ref b) H
theorem qjf:OpR X (binaryOp .Add) (qko X.K):=by
 intro pins s Z H x y v u Q I rx ry h
 obtain ⟨a,b,ys,rfl,rfl,ha,hb,q⟩:=h
 cases rx
 cases ry
 obtain ⟨its,r1,p1,_⟩:=I.tuple ha
 obtain ⟨its2,r2,p2,_⟩:=I.tuple hb
 cases r1
 obtain ⟨⟨cls,dd,data,sl⟩,ho,hc,n,hd⟩:=id p1
 obtain ⟨⟨cls2,dd2,data2,sl2⟩,ho2,hc2,n2,hd2⟩:=id p2
 simp only at hc hd hc2 hd2
 subst hc hd hc2 hd2
 exact concat_meets ⟨_,ho,rfl⟩ ⟨_,ho2,rfl⟩ noFill_tuple_add seq_tuple_add PySem.F.slot_tuple_add PySem.F.entry_tuple_add (PySem.F.args_tuple_add_2 _ _)
   (tuple_addW0 a b [].toArray its2.toArray n n2 dd dd2 sl sl2 (by simp)) ⟨ho,ho2,⟨.ref b,H,I,rfl,q⟩⟩
def qnE (K:Fr0):R2:=fun x y H Q=>(∃ i j,x = .int i/\y = .int j/\Q (.int (i+j)) H)\/((∃ i j,x = .str i/\y = .str j/\i.length+j.length<=sizeLine/\Q (.str (i++j)) H)\/(qko K x y H Q\/(qnn K x y H Q\/qp5 x y H Q)))
theorem qU:OpR X (binaryOp .Add) (qnE X.K):=OpR.or qnc (OpR.or qgk (OpR.or qjf (OpR.or qlm qnu)))
end
def jy:D->D->Option D
 | .int i,.int j=>some (.int (i+j))
 | .str x,.str y=>if qP (x.length+y.length) then some (.str (x++y)) else none
 | .tup xs,.tup ys=>if qP (xs.length+ys.length) then some (.tup (xs++ys)) else none
 | .lst xs,.lst ys=>if qP (xs.length+ys.length) then some (.lst (xs++ys)) else none
 | _,_=>none
theorem qV {K:Fr0}:OpS K jy (qnE K):=by
 intro A H x y d v u Q hn ix iy e k
 cases x<;>cases y<;>simp only [jy] at e<;>try (cases e;done)
 ·rename_i i j
  cases ix;cases iy;cases e
  exact .inl ⟨i,j,rfl,rfl,k _ H (jp.refl H) rfl⟩
 ·rename_i i j
  cases ix;cases iy
  obtain ⟨e1,e2⟩:=z5 e
  subst e2
  exact .inr (.inl ⟨i,j,rfl,rfl,of_decide_eq_true e1,k _ H (jp.refl H) rfl⟩)
 ·rename_i ds es
  obtain ⟨a,xs,rfl,ta,il⟩:=ix
  obtain ⟨b,ys,rfl,tb,jl⟩:=iy
  obtain ⟨e1,e2⟩:=z5 e
  subst e2
  have hs:xs.length+ys.length<=sizeLine:=by rw [il.length,jl.length];exact of_decide_eq_true e1
  refine .inr (.inr ?_)
  cases ds with
  | nil =>
   have hx:xs=[]:=il
   subst hx
   exact .inl ⟨a,b,ys,rfl,rfl,ta.sq,tb.sq,k _ H (jp.refl H) ⟨b,ys,rfl,tb,jl⟩⟩
  | cons d0 ds =>
   refine .inr (.inl ⟨a,b,xs,ys,rfl,rfl,ta.sq,tb.sq,?_,hs,fun hy => ?_,fun hy p hp => ?_⟩)
   ·obtain ⟨x,zs,hx,_⟩:=il
    rw [hx];simp
   ·subst hy
    cases es with
    | nil=>rw [List.append_nil] at k;exact k _ H (jp.refl H) ⟨a,xs,rfl,ta,il⟩
    | cons e0 es=>obtain ⟨_,_,hx,_⟩:=jl;cases hx
   ·exact k _ _ (qy hp _) ⟨p,xs++ys,rfl,.inl qt,IsL.ext (Ext.of_same (qy hp _)) (fun _ h _=>h) (IsL.append il jl)⟩
 ·rename_i ds es
  obtain ⟨a,xs,rfl,hA,ta,il⟩:=ix
  obtain ⟨b,ys,rfl,hB,tb,jl⟩:=iy
  obtain ⟨e1,e2⟩:=z5 e
  subst e2
  have hs:xs.length+ys.length<=sizeLine:=by rw [il.length,jl.length];exact of_decide_eq_true e1
  exact .inr (.inr (.inr (.inr ⟨a,b,xs,ys,rfl,rfl,ta,tb,hs,fun p hp=>k _ _ (qy hp _) ⟨p,xs++ys,rfl,hn p hp,qt,IsL.ext (Ext.of_same (qy hp _)) (fun _ h _=>h) (IsL.append il jl)⟩⟩)))
section
variable {X:Cx}
def qp9 (K:Fr0):V->Option Int->Option Int->Hp->VK->Prop:=fun x lo hi H Q=>∃ a xs,x = .ref a/\SqT K H a xs/\(HT.sIx xs.length 0 lo=0/\HT.sIx xs.length xs.length hi=xs.length)/\Q (.ref a) H
theorem wJ {prog:Program} {w:World} {A:Around} {E:Value->Shared->Prop} {s:Shared} {t sl:Addr} {items:Array Value} {vl vu:Value} {lo hi:Option Int} {Q:Value->Shared->Prop} (ht:IsTup s.heap t items) (hs:s.heap.IsSliceOf sl vl vu .none) (pl:IsPart vl lo) (pu:IsPart vu hi)
  (hw:HT.sIx items.size 0 lo=0/\HT.sIx items.size items.size hi=items.size) (h:Q (.ref t) s):wpAny (model prog w) A (getItem (.ref t) (.ref sl)) Q E s:=by
 obtain ⟨os,hos,hcs,hds⟩:=id hs
 have hTs:s.TypeIs (.ref sl) "slice":=⟨os,hos,hcs⟩
 unfold getItem
 try with_reducible refine wpAny_holding ?_
 first | refine wpAny_bind (wpAny_pure ?_) | skip
 refine wpAny_bind (wpAny_sequenceKey ht.typeIs (by decide) ?_)
 refine wpAny_bind (wpAny_callSpecial?_slot (name:=Str.ofString "__getitem__") ht.typeIs PyProof.Rows.slot_tuple_getitem
  (wpAny_call_entry PyProof.Rows.slot_tuple_getitem ht.typeIs entry_tuple_getitem ?_ (args_tuple_getitem _ _)))
 show wpAny _ _ (Builtin.Tuple.tupleItemsOf (.ref t) >>= _) _ _ s
 refine wpAny_bind (tupleItemsOf_ ht ?_)
 refine wpAny_bind (wpAny_typeOf hTs ?_)
 rw [if_pos (by decide)]
 refine wpAny_bind (HT.sliceApplied_gen hs pl pu ?_)
 have hyes:(((HT.sIx items.size 0 lo:Nat):Int)==0&&(1:Int)==1&&(HT.sIx items.size items.size hi-HT.sIx items.size 0 lo)==items.size)=true:=by
  rw [hw.1,hw.2];simp
 show wpAny _ _ (if (((HT.sIx items.size 0 lo:Nat):Int)==0&&(1:Int)==1&&(HT.sIx items.size items.size hi-HT.sIx items.size 0 lo)==items.size)=true then _ else _) _ _ s
 rw [if_pos hyes]
 refine wpAny_bind (m:=Builtin.Tuple.tupleIsExact (.ref t)) ?_
 unfold Builtin.Tuple.tupleIsExact
 refine wpAny_bind (wpAny_typeOf ht.typeIs ?_)
 refine wpAny_pure ?_
 rw [if_pos (by decide)]
 exact wpAny_bind (wpAny_rule (wpAny_pure ⟨_,rfl,wpAny_pure h⟩))
theorem qjg:SlR X (qp9 X.K):=by
 intro pins s Z H x v vl vu lo hi sl Q I rx hs pl pu h
 obtain ⟨a,xs,rfl,hx,hw,q⟩:=h
 cases rx
 obtain ⟨its,r,ht,hz⟩:=I.tuple hx
 have hlen:its.toArray.size=xs.length:=by rw [sT_];exact r.length.symm
 refine ⟨"tuple",_,PyProof.Rows.slot_tuple_getitem.lookup,ht.typeIs,?_⟩
 exact wJ ht hs pl pu (by rw [hlen];exact hw) ⟨.ref a,H,I,rfl,q⟩
theorem qnF:SlR X (fun x lo hi H Q=>qp9 X.K x lo hi H Q\/qp4 X.K x lo hi H Q):=SlR.or qjg sl_tup
end
def qeL (xs:List D) (lo hi:Option Int):List D:=(xs.drop (HT.sIx xs.length 0 lo)).take (HT.sIx xs.length xs.length hi-HT.sIx xs.length 0 lo)
def slD (x:D) (lo hi:Option Int):Option D:=match x with
 | .tup ds=>some (.tup (qeL ds lo hi))
 | _=>none
section
variable {X:Cx} {c:Fc} {a b e:Expr} {pos p2:Pos}
def DO (X:Cx) (c:Fc) (e:Option Expr) (f:M (Option Int)):Prop:=∃ t,PO X e t/\∀ U Z H Q,Rep X.K c U Z H->(∀ o U',f U = .ok (o,U')->∀ H',Rep X.K c U' Z H'->Gr c.O Z H H'->Q o H')->(∀ x U',f U = .exc x U'->∀ H',Rep X.K c U' Z H'->Gr c.O Z H H'->c.E x H')->f U ≠ .bad->t Z H Q
theorem qc3:DO X c none (ret none):=⟨_,qlk,fun U Z H Q r h _ _=>h none U rfl H r .refl⟩
def asI:D->Option Int
 | .int i=>some i
 | _=>none
def qbl (f:M D):M (Option Int):=bnd f fun d=>match d with
 | .int i=>ret (some i)
 | _=>fun _ => .bad
theorem qc4 {f:M D} (h:DE X c e f):DO X c (some e) (qbl f):=by
 obtain ⟨t,p,w⟩:=h
 refine ⟨_,qll p,fun U Z H Q r h1 h2 h3=>w U Z H _ r ?_⟩
 unfold qbl bnd at h1 h2 h3
 cases e1:f U with
 | ok q =>
  obtain ⟨d,U'⟩:=q
  rw [e1] at h1 h2 h3
  intro v H' r' i' g'
  cases d<;>simp only [ret] at h1 h2 h3<;>try (exact absurd rfl h3)
  rename_i i
  exact ⟨i,i',h1 (some i) U' rfl H' r' g'⟩
 | exc x U'=>rw [e1] at h2;exact fun H' r' g'=>h2 x U' rfl H' r' g'
 | bad=>rw [e1] at h3;exact absurd rfl h3
def dsl (f:M D) (g k:M (Option Int)):M D:=bnd f fun d=>bnd g fun l=>bnd k fun u=>lift (slD d l u)
end
def zL (X:Cx) (scope:Scope) (N':List Str) (fp:List Addr) (cl:List (Str×Addr)) (C:Addr) (s₀:Shared) (H₀:Hp) (pn:List (Addr×Obj)):Cx where
 prog:=X.prog
 w:=X.w
 K:=X.K
 mg:=X.mg
 base:=X.base
 A:=X.A
 N:=N'
 s₀:=s₀
 H₀:=H₀
 env:=compEnvC scope cl C X.env
 outer:=X.stack
 stack:=X.stack
 ex:=fp
 fn:=fun _=>false
 calm:=X.calm
 pn:=pn
 xe:=fun _ _=>False
def PF (X:Cx) (ifs:List Expr) (t:TT):Prop:=∀ (pins:List (Addr×Obj)) (s:Shared) (Z:St) (H:Hp) (Q:Bool->Hp->Prop),Inv X pins Z H s->t Z H Q ->
 wpAny (model X.prog X.w) X.A (forIn ifs true fun c r=>if r=true then do let ok <- isTrue c X.env (eval c X.env);pure (ForInStep.yield ok) else pure (ForInStep.yield r)) (TP X pins Z Q) X.xe s
theorem qnG {X:Cx}:PF X [] (fun _ H Q=>Q true H):=fun pins s Z H Q I h=>wpAny_tests_nil ⟨H,I,h⟩
theorem qnH {X:Cx} {e:Expr} {t:TT} (h:PT X e t):PF X [e] t:=fun pins s Z H Q I hw=>wpAny_tests_one (h pins s Z H Q I hw)
structure CompScope (X:Cx) (scope:Scope) (N':List Str) (nt:Nat) (fr:List Nat):Prop where
 kind:scope.kind = .function
 nocell:∀ y∈scope.names,y.2 ≠ .cell
 names:∀ y∈scope.names,y.2 = .local->scope.names.lookup y.1=some .local
 frees:∀ y∈scope.names,y.2 = .free->X.env.kindOf y.1=some .cell
 len:N'.length=nt+fr.length
 slot:∀ i j,fr[i]? = some j->∃ x,N'[nt+i]? = some x/\X.N[j]? = some x/\scope.names.lookup x=some .free
theorem qaH {env:PySem.Env}:∀ (names:List (Str×NameKind)) (cs:List (Str×Addr)),(∀ y∈names,y.2 = .free->∃ a,env.cells.lookup y.1=some a)->(∀ n a,cs.lookup n=some a->env.cells.lookup n=some a) ->
  ∃ cl,(forIn names cs fun x r=>match x with | (name,kind)=>if (kind==NameKind.free)=true then do let a <- cellOf env name;pure (ForInStep.yield ((name,a)::r)) else pure (ForInStep.yield r):Sem (List (Str×Addr)))=pure cl /\
   (∀ n a,cl.lookup n=some a->env.cells.lookup n=some a)/\(∀ n,(∃ a,cs.lookup n=some a)->∃ a,cl.lookup n=some a)/\∀ y∈names,y.2 = .free->∃ a,cl.lookup y.1=some a
 | [],cs,_,h=>⟨cs,rfl,h,fun _ h=>h,fun y hy=>by cases hy⟩
 | (n,k)::r,cs,hf,h=>by
  have hr:∀ y∈r,y.2 = .free->∃ a,env.cells.lookup y.1=some a:=fun y hy=>hf y (mM_ _ hy)
  rw [List.forIn_cons]
  by_cases hk:k = .free
  ·subst hk
   obtain ⟨a,ha⟩:=hf (n,.free) mS_ rfl
   have ha':env.cells.lookup n=some a:=ha
   have hcell:cellOf env n=pure a:=by unfold cellOf;rw [ha']
   obtain ⟨cl,e1,e2,e3,e4⟩:=qaH r ((n,a)::cs) hr (fun m b hm=>by
    rw [List.lookup_cons] at hm
    cases e:m==n with
    | true=>rw [e] at hm;cases hm;rw [eq_of_beq e];exact ha'
    | false=>rw [e] at hm;exact h m b hm)
   refine ⟨cl,?_,e2,fun m ⟨b,hm⟩=>e3 m ?_,fun y hy hyf => ?_⟩
   ·show ((if (NameKind.free==NameKind.free)=true then _ else _) >>= _)=_
    rw [if_pos (by rfl),hcell]
    exact e1
   ·rw [List.lookup_cons]
    cases e:m==n with
    | true=>exact ⟨a,rfl⟩
    | false=>exact ⟨b,hm⟩
   ·rcases List.mem_cons.mp hy with rfl | hy
    ·exact e3 n ⟨a,by rw [List.lookup_cons];simp⟩
    ·exact e4 y hy hyf
  ·have hb:(k==NameKind.free)=false:=by simpa using hk
   obtain ⟨cl,e1,e2,e3,e4⟩:=qaH r cs hr h
   refine ⟨cl,?_,e2,e3,fun y hy hyf => ?_⟩
   ·show ((if (k==NameKind.free)=true then _ else _) >>= _)=_
    rw [hb,if_neg Bool.false_ne_true]
    exact e1
   ·rcases List.mem_cons.mp hy with rfl | hy
    ·exact absurd hyf hk
    ·exact e4 y hy hyf
theorem closureFor_ok {env:PySem.Env} {scope:Scope} (hf:∀ y∈scope.names,y.2 = .free->∃ a,env.cells.lookup y.1=some a) :
  ∃ cl,closureFor scope env=pure cl/\(∀ n a,cl.lookup n=some a->env.cells.lookup n=some a)/\∀ y∈scope.names,y.2 = .free->∃ a,cl.lookup y.1=some a:=by
 obtain ⟨cl,e1,e2,_,e4⟩:=qaH scope.names [] hf (fun n a h=>by cases h)
 refine ⟨cl,?_,e2,e4⟩
 unfold closureFor
 show (forIn scope.names [] _ >>= _)=_
 have e5:(forIn scope.names [] fun x r=>match x with | (name,kind)=>if (kind==NameKind.free)=true then do let a <- cellOf env name;pure (ForInStep.yield ((name,a)::r)) else pure (ForInStep.yield r):Sem (List (Str×Addr)))=pure cl:=e1
 first
  | (rw [e5];rfl)
  | (simp only [bind_pure_comp,e5];rfl)
theorem uf {env:PySem.Env}:∀ {names:List (Str×NameKind)} {x:Str},names.lookup x=some .free->env.scope.kind = .function->env.kindOf x=some .cell ->
  (names.map fun (n,k)=>if (k==NameKind.free&&env.scope.kind == .function&&env.kindOf n==some .cell) then (n,NameKind.cell) else (n,k)).lookup x=some .cell
 | [],_,h,_,_=>by simp at h
 | (n,k)::r,x,h,hk,hx=>by
  have ih := @uf env r x
  show List.lookup x ((if (k==NameKind.free&&env.scope.kind == .function&&env.kindOf n==some .cell)=true then (n,NameKind.cell) else (n,k))::_)=_
  cases hxn:x==n with
  | true =>
   have e:x=n:=eq_of_beq hxn
   subst e
   simp only [List.lookup_cons,hxn] at h
   cases h
   rw [if_pos (by rw [hk,hx];rfl)]
   simp only [List.lookup_cons,hxn]
  | false =>
   simp only [List.lookup_cons,hxn] at h
   by_cases hc:(k==NameKind.free&&env.scope.kind == .function&&env.kindOf n==some .cell)=true
   ·rw [if_pos hc];simp only [List.lookup_cons,hxn];exact ih h hk hx
   ·rw [if_neg hc];simp only [List.lookup_cons,hxn];exact ih h hk hx
theorem j4 {env:PySem.Env}:∀ {names:List (Str×NameKind)} {x:Str} {q:NameKind},(names.map fun (n,k)=>if (k==NameKind.free&&env.scope.kind == .function&&env.kindOf n==some .cell) then (n,NameKind.cell) else (n,k)).lookup x=some q ->
  q = .cell\/q = .free->(∀ y∈names,y.2 ≠ .cell)->∃ k,(x,k)∈names/\k = .free
 | [],_,_,h,_,_=>by simp at h
 | (n,k)::r,x,q,h,hq,hc=>by
  have ih := @j4 env r x q
  have h':List.lookup x ((if (k==NameKind.free&&env.scope.kind == .function&&env.kindOf n==some .cell)=true then (n,NameKind.cell) else (n,k))::(r.map fun (n,k)=>if (k==NameKind.free&&env.scope.kind == .function&&env.kindOf n==some .cell) then (n,NameKind.cell) else (n,k)))=some q:=h
  have hr:∀ y∈r,y.2 ≠ .cell:=fun y hy=>hc y (mM_ _ hy)
  by_cases hcd:(k==NameKind.free&&env.scope.kind == .function&&env.kindOf n==some .cell)=true
  ·rw [if_pos hcd] at h'
   cases hxn:x==n with
   | true =>
    have e:x=n:=eq_of_beq hxn
    subst e
    refine ⟨k,mS_,?_⟩
    rw [Bool.and_eq_true,Bool.and_eq_true] at hcd
    exact eq_of_beq hcd.1.1
   | false =>
    simp only [List.lookup_cons,hxn] at h'
    obtain ⟨k',m,e⟩:=ih h' hq hr
    exact ⟨k',mM_ _ m,e⟩
  ·rw [if_neg hcd] at h'
   cases hxn:x==n with
   | true =>
    have e:x=n:=eq_of_beq hxn
    subst e
    simp only [List.lookup_cons,hxn] at h'
    cases h'
    rcases hq with rfl | rfl
    ·exact absurd rfl (hc (x,.cell) mS_)
    ·exact ⟨.free,mS_,rfl⟩
   | false =>
    simp only [List.lookup_cons,hxn] at h'
    obtain ⟨k',m,e⟩:=ih h' hq hr
    exact ⟨k',mM_ _ m,e⟩
def qK (nt:Nat) (fr:List Nat) (Z:St):St:=List.replicate nt none++fr.map fun j=>(Z[j]?).join
def qlA (X:Cx) (tg:Expr) (ifs:List Expr) (elt:Expr) (scope:Scope) (N':List Str) (wi:TI) (nt:Nat) (fr:List Nat):TE:=fun Z H Q=>wi Z H fun J H1=>∀ acc fp cl C s₀ H₀ pn,H1 acc=none ->
 ∃ (g:TG) (tt:TT) (te:TE),PG (zL X scope N' fp cl C s₀ H₀ pn) tg g/\PF (zL X scope N' fp cl C s₀ H₀ pn) ifs tt/\PE (zL X scope N' fp cl C s₀ H₀ pn) elt te /\
 ∃ W:Nat->Nat->St->Hp->Prop,(∃ m,W 0 m (qK nt fr Z) (upd H1 acc (.lst []))) /\
 ∀ i m Z' H',W i m Z' H'->(J.stop i H'/\Q (.ref acc) H')\/(J.go i H'/\∀ x H'',J.yld i H' x H''->g x Z' H'' fun Z2 H2=>tt Z2 H2 fun b H3 =>
  if b=true then te Z2 H3 fun y H4=>∃ ys,H4 acc=some (.lst ys)/\ys.length<sizeLine/\∃ m',m'<m/\W (i+1) m' Z2 (upd H4 acc (.lst (ys++[y]))) else ∃ m',m'<m/\W (i+1) m' Z2 H3)
section
variable {X:Cx} {tg iter elt:Expr} {ifs:List Expr} {scope:Scope} {pos:Pos} {wi:TI} {N':List Str} {nt:Nat} {fr:List Nat}
theorem qbR {prog:Program} {w:World} {A:Around} {R:Result->Shared->Prop} {s:Shared} {it acc:Value} {env:PySem.Env} (I:Nat->Shared->Prop)
  (turn : ∀ n s,I n s->wpAny (model prog w) A (pyNext it) (fun r sJ=>match r with
   | none=>R (.ok .next) sJ
   | some v=>wpAny (model prog w) A (letOwnedTupleGo tg it v) (fun _ s1'=>wpAny (model prog w) A (assign tg env v) (fun _ sK =>
     wpAny (model prog w) A (forIn ifs true fun c r=>if r=true then do let ok <- isTrue c env (eval c env);pure (ForInStep.yield ok) else pure (ForInStep.yield r)) (fun ok sV =>
      if ok=true then wpAny (model prog w) A (eval elt env) (fun x sQ =>
       wpAny (model prog w) A (call (.builtin "list.append") [acc,x]) (fun _ sY=>∃ m,m<n/\I m sY) (fun _ _=>False) sQ) (fun _ _=>False) sV
      else ∃ m,m<n/\I m sV) (fun _ _=>False) sK) (fun _ _=>False) s1') (fun _ _=>False) sJ) (fun _ _=>False) s)
  (n:Nat) (h:I n s):codeAny (model prog w) A (.compLoop (.ListComp elt [⟨tg,iter,ifs,0⟩] scope pos) 0 it acc env) R s:=by
 refine codeAny_loop rfl I (fun n s hI => ?_) n h
 show wpAny _ A ((compTurn (.ListComp elt [⟨tg,iter,ifs,0⟩] scope pos) 0 it acc env).onRaise (fun x=>do noteFrame x env;theTreesLotGoes x)) _ _ s
 refine wpAny_noted ?_
 rw [compTurn_list]
 refine wpAny_bind (wpAny_standAt (wpAny_bind (wpAny_mono (turn n s hI) (fun r sJ hX => ?_) fun _ _ h'=>h'.elim)))
 cases r with
 | none=>exact wpAny_pure hX
 | some v =>
  refine wpAny_bind (wpAny_mono hX (fun _ s1' hK' => ?_) fun _ _ h'=>h'.elim)
  refine wpAny_bind (wpAny_mono hK' (fun _ sK h₂=>wpAny_bind (wpAny_mono h₂ (fun ok sV h₃ => ?_) fun _ _ h'=>h'.elim)) fun _ _ h'=>h'.elim)
  cases ok with
  | false=>exact wpAny_pure ⟨rfl,h₃⟩
  | true =>
   exact wpAny_bind (wpAny_bind (wpAny_mono h₃ (fun x sQ h₄=>wpAny_bind (wpAny_mono h₄ (fun _ sY hV=>wpAny_pure (wpAny_pure ⟨rfl,hV⟩)) fun _ _ h'=>h'.elim)) fun _ _ h'=>h'.elim))
theorem qcO {pins:List (Addr×Obj)} {Z:St} {H:Hp} {s:Shared} {hX:Heap} {tk:Nat} {fp:List Addr} {cl:List (Str×Addr)} (S:CompScope X scope N' nt fr) (I:Inv X pins Z H s) (hfp:∀ b∈fp,qeK X pins H b)
  (hex:∀ b∈fp,∃ o,s.heap.get? b=some o) (cl1:∀ n a,cl.lookup n=some a->X.env.cells.lookup n=some a) (cl2:∀ y∈scope.names,y.2 = .free->∃ a,cl.lookup y.1=some a)
  (hns:∃ m,hX.Ns s.heap.objs.size m) (old:∀ b o,s.heap.get? b=some o->hX.get? b=some o) :
  Inv (zL X scope N' fp cl s.heap.objs.size s H (X.pn++pins)) [] (qK nt fr Z) H { s with heap:=hX,toks:=tk }:=by
 have stkB:∀ b∈frs X.stack,b=X.env.locals\/b∈X.fs:=fun b hb=>List.mem_cons.mp (I.stkSub b hb)
 have hC:∀ b o,s.heap.get? b=some o->b≠s.heap.objs.size:=fun b o e=>Nat.ne_of_lt (Heap.lt_size e)
 obtain ⟨m,hn⟩:=hns
 refine ⟨⟨I.ok.mod,S.kind,I.ok.glob,I.ok.blt,Nat.le_refl _,fun x y c h1 h2=>I.ok.inj x y c (cl1 x c h1) (cl1 y c h2),fun x hx => ?_,fun x c hx => ?_,I.ok.hd,I.ok.frames,.inl rfl,fun b hb=>⟨?_,fun x c hx=>(hfp b hb).2.2.2.2.1 x c (cl1 x c hx)⟩,I.bs,Nat.le_trans I.ok.bsz I.sz,fun b o e hb => ?_,fun b hb hb2 => ?_,I.stack,I.stkFree⟩,
  rfl,I.bare,Un.kept old,⟨m,hn,fun i x v h1 h2 h3 => ?_⟩,fun x c hx => ?_,I.hok.fresh (Nat.le_refl _),fun x c hx=>I.freeC x c (cl1 x c hx),fun p hp => ?_,I.hok.kept old,?_⟩
 ·have hx':∃ k,(x,k)∈scope.names/\k = .free:=by
   rcases hx with hx | hx
   ·exact j4 (env:=X.env) (q := .cell) hx (.inl rfl) S.nocell
   ·exact j4 (env:=X.env) (q := .free) hx (.inr rfl) S.nocell
  obtain ⟨k,m,rfl⟩:=hx'
  exact cl2 (x,.free) m rfl
 ·have hx':false=true:=hx
  cases hx'
 ·obtain ⟨o,e⟩:=hex b hb
  exact hC b o e
 ·obtain ⟨f0,f1,f2,f3,f4,f5⟩:=hfp b hb
  rcases f3 with z | z
  ·exact I.ok.noex b o e z
  ·exact absurd (Nat.lt_of_lt_of_le (Heap.lt_size e) (Nat.le_trans I.ok.bsz z)) (Nat.lt_irrefl _)
 ·obtain ⟨f0,f1,f2,f3,f4,f5⟩:=hfp b hb
  rcases stkB b hb2 with z | z
  ·exact f1 z
  ·exact f2 z
 ·-- names
  have hi:nt<=i:=by
   apply Nat.le_of_not_lt
   intro hlt
   unfold qK at h2
   rw [List.getElem?_append_left (by simpa using hlt),List.getElem?_replicate] at h2
   split at h2<;>cases h2
  have h2':(fr.map fun j=>(Z[j]?).join)[i-nt]? = some (some v):=by
   unfold qK at h2
   rw [List.getElem?_append_right (by simpa using hi),List.length_replicate] at h2
   exact h2
  rw [gM_] at h2'
  cases ej:fr[i-nt]? with
  | none=>rw [ej] at h2';cases h2'
  | some j =>
   rw [ej] at h2'
   have hσ:(Z[j]?).join=some v:=by simpa using h2'
   have hσ':Z[j]? = some (some v):=by
    cases e:Z[j]? with
    | none=>rw [e] at hσ;cases hσ
    | some o =>
     rw [e] at hσ
     have:o=some v:=hσ
     rw [this]
   obtain ⟨y,hy1,hy2,hy3⟩:=S.slot (i-nt) j ej
   have hii:nt+(i-nt)=i:=by omega
   rw [hii] at hy1
   have exy:y=x:=by
    have h1':N'[i]? = some x:=h1
    rw [h1'] at hy1
    exact (Option.some.inj hy1).symm
   subst exy
   have hmem:(y,NameKind.free)∈scope.names:=PySem.mem_of_lookup hy3
   have hcellk:X.env.kindOf y=some .cell:=S.frees (y,.free) hmem rfl
   obtain ⟨m0,hn0,hl0⟩:=I.loc
   obtain ⟨u,ru,lk⟩:=hl0 j y v hy2 hσ' (.inr (.inl hcellk))
   refine ⟨u,ru,.inr ⟨.inl (uf hy3 I.ok.kind hcellk),?_⟩⟩
   rcases lk with ⟨k1,_⟩ | ⟨_,c,e,z⟩
   ·rw [hcellk] at k1;cases k1
   ·obtain ⟨a,ea⟩:=cl2 (y,.free) hmem rfl
    have ea':=cl1 y a ea
    rw [e] at ea'
    cases ea'
    obtain ⟨o,ho,hd⟩:=z
    exact ⟨c,ea,o,old _ _ ho,hd⟩
 ·obtain ⟨v,o,ho,hd⟩:=I.cell x c (cl1 x c hx)
  exact ⟨v,o,old _ _ ho,hd⟩
 ·have hp':p∈X.pn++pins:=by
   rcases mA_.mp (show p∈(X.pn++pins)++[] from hp) with z | z
   ·exact z
   ·cases z
  obtain ⟨e,n,ne,nf,d⟩:=I.pin p hp'
  refine ⟨old _ _ e,n,hC _ _ e,fun z => ?_,d⟩
  rcases stkB p.1 z with z | z
  ·exact ne z
  ·exact nf z
 ·show (qK nt fr Z).length=N'.length
  unfold qK
  rw [lA_,List.length_replicate,lM_,S.len]
theorem qfy {pins:List (Addr×Obj)} {Z Z':St} {H H':Hp} {s s':Shared} {h':Heap} {fp:List Addr} {cl:List (Str×Addr)} (I:Inv X pins Z H s) (hfp:∀ b∈fp,qeK X pins H b)
  (J:Inv (zL X scope N' fp cl s.heap.objs.size s H (X.pn++pins)) [] Z' H' s') (sb:Heap.SameBut s.heap.objs.size s'.heap h'):Inv X pins Z H' { s' with heap:=h' }:=by
 have hC:H' s.heap.objs.size=none:=J.free
 have u:=J.base
 have big:∀ b o,s.heap.get? b=some o->b≠s.heap.objs.size:=fun b o e=>Nat.ne_of_lt (Heap.lt_size e)
 have get':∀ b,b≠s.heap.objs.size->h'.get? b=s'.heap.get? b:=fun b hb=>sb.2 b hb
 have u2:Un (frs X.stack) fp H H' s.heap h' :=
  ⟨fun b o e n hb hx=>(get' b (big b o e)).trans (u.keep b o e n hb hx),fun b o e n hb hx=>by
   obtain ⟨sl,q⟩:=u.slot b o e n hb hx
   exact ⟨sl,(get' b (big b o e)).trans q⟩,u.free,fun b o e hx=>by
   obtain ⟨o',q⟩:=u.there b o e hx
   exact ⟨o',(get' b (big b o e)).trans q⟩,u.tups,u.frzs,u.tbls⟩
 refine I.call' (s':={ s' with heap:=h' }) (ch:=fp) J.os u2 (fun b o e => ?_) J.bare (fun b hb => ?_)
 ·refine (J.hok b o e).stay (fun c v hc q => ?_) (fun _ q=>q) fun _ _ q=>q
  refine (get' c ?_).trans q
  rintro rfl
  rcases hc with hc | hc
  ·rw [<- hc,hC] at e;cases e
  ·rw [hC] at hc;cases hc
 ·obtain ⟨f0,f1,f2,f3,f4,f5⟩:=hfp b hb
  exact ⟨f3,f1,f4,f5⟩
theorem qlB (hc:X.calm=true) (hi:PI X tg iter wi) (S:CompScope X scope N' nt fr)
  (hs:∀ x,foldedSetIterable iter X.env x=pure x:=by intro _;rfl):PE X (.ListComp elt [⟨tg,iter,ifs,0⟩] scope pos) (qlA X tg ifs elt scope N' wi nt fr):=by
 intro pins s Z H Q I hw
 obtain ⟨cl,hcl,cl1,cl2⟩:=closureFor_ok (env:=X.env) (scope:=scope) (fun y hy hf=>I.ok.has y.1 (.inl (S.frees y hy hf)))
 rw [eval_ListComp]
 refine wpAny_comprehension_free (use:=none) rfl hs hcl S.kind S.names (thn (hi pins s Z H _ I hw) fun v s1 h1=>thn h1 fun itv s2 h2 => ?_)
 obtain ⟨it,fp,tn,J,H2,e,I2,T,st2,f2,hR⟩:=h2
 subst e
 have hacc:H2 s2.heap.objs.size=none:=I2.hok.fresh (Nat.le_refl _)
 refine wpAny_newObj_type (wpAny_newFunctionEnv S.nocell (by intro y hy;simp at hy) (fun hX hns1 hsb1 => ?_) S.kind)
 dsimp only at hns1 hsb1 |-
 have I3:Inv X pins Z (upd H2 s2.heap.objs.size (.lst [])) { s2 with heap:=s2.heap.push { cls := .type "list",dict:=none,data := .seq ([]:List Value).toArray } } :=
  I2.lnew (t':=s2.toks) (its:=[]) .nil (Nat.zero_le _)
 generalize hs3:({ s2 with heap:=s2.heap.push { cls := .type "list",dict:=none,data := .seq ([]:List Value).toArray } }:Shared)=s3 at I3
 have hh3:s2.heap.push { cls := .type "list",dict:=none,data := .seq ([]:List Value).toArray }=s3.heap:=by rw [<- hs3]
 rw [hh3] at hns1 hsb1
 have old:∀ b o,s3.heap.get? b=some o->hX.get? b=some o:=fun b o q=>hsb1.extBut b o (Nat.ne_of_lt (Heap.lt_size q)) (Heap.get?_push_of_some _ q)
 have objs2:∀ b∈fp,∃ o,s2.heap.get? b=some o:=fun b hb=>by
  obtain ⟨o,q,_⟩:=T.obj 0 _ st2 b hb
  exact ⟨o,q⟩
 have keep23:∀ b o,s2.heap.get? b=some o->s3.heap.get? b=some o:=fun b o q=>by rw [<- hh3];exact Heap.get?_push_of_some _ q
 have fpne:∀ b∈fp,b≠s2.heap.objs.size:=fun b hb=>by
  obtain ⟨o,q⟩:=objs2 b hb
  exact Nat.ne_of_lt (Heap.lt_size q)
 have f3:∀ b∈fp,qeK X pins (upd H2 s2.heap.objs.size (.lst [])) b:=fun b hb=>⟨by rw [qu (fpne b hb)];exact (f2 b hb).1,(f2 b hb).2⟩
 have J0:Inv (zL X scope N' fp cl s3.heap.objs.size s3 (upd H2 s2.heap.objs.size (.lst [])) (X.pn++pins)) [] (qK nt fr Z) (upd H2 s2.heap.objs.size (.lst [])) { s3 with heap:=hX,toks:=s3.toks } :=
  qcO S I3 f3 (fun b hb=>(objs2 b hb).imp fun o q=>keep23 b o q) cl1 cl2 ⟨_,hns1⟩ old
 obtain ⟨g,tt,te,hg,hf,he,W,⟨m0,w0⟩,turn⟩:=hR s2.heap.objs.size fp cl s3.heap.objs.size s3 (upd H2 s2.heap.objs.size (.lst [])) (X.pn++pins) hacc
 have T0:tn 0 hX:=T.keep 0 _ _ st2 fun b hb o q=>old b o (keep23 b o q)
 have s3e:∀ tk:Nat,({ s2 with heap:=hX,toks:=tk }:Shared)={ s3 with heap:=hX,toks:=tk }:=fun tk=>by rw [<- hs3]
 have loop:∀ tk:Nat,codeAny (model X.prog X.w) X.A (.compLoop (.ListComp elt [⟨tg,iter,ifs,0⟩] scope pos) 0 (.ref it) (.ref s2.heap.objs.size) (compEnvC scope cl s3.heap.objs.size X.env))
   (compPost (model X.prog X.w) X.A X.xe none (EP X pins Z Q) (.ref s2.heap.objs.size) s3.heap.objs.size) { s3 with heap:=hX,toks:=tk }:=fun tk=>by
  have stat:∀ {H':Hp},(∀ b∈fp,H' b=none)->∀ b∈fp,qeK (zL X scope N' fp cl s3.heap.objs.size s3 (upd H2 s2.heap.objs.size (.lst [])) (X.pn++pins)) [] H' b:=fun {H'} hn b hb=>by
   obtain ⟨o,q⟩:=objs2 b hb
   have hbC:b≠s3.heap.objs.size:=Nat.ne_of_lt (Heap.lt_size (keep23 b o q))
   refine ⟨hn b hb,hbC,fun z => ?_,.inl hb,fun x c hx=>(f2 b hb).2.2.2.2.1 x c (cl1 x c hx),fun p hp => ?_⟩
   ·rcases List.mem_cons.mp (I2.stkSub b z) with z | z
    ·exact (f2 b hb).2.1 z
    ·exact (f2 b hb).2.2.1 z
   ·have hp':p∈X.pn++pins:=by
     rcases mA_.mp (show p∈(X.pn++pins)++[] from hp) with z | z
     ·exact z
     ·cases z
    exact (f2 b hb).2.2.2.2.2 p hp'
  have fr0:∀ b∈fp,upd H2 s2.heap.objs.size (.lst []) b=none:=fun b hb=>(f3 b hb).1
  refine qbR (fun n s'=>∃ i Z' H',Inv (zL X scope N' fp cl s3.heap.objs.size s3 (upd H2 s2.heap.objs.size (.lst [])) (X.pn++pins)) [] Z' H' s'/\tn i s'.heap/\(∀ b∈fp,H' b=none)/\W i n Z' H') ?_ m0
   ⟨0,qK nt fr Z,_,J0.tok tk,T0,fr0,w0⟩
  rintro n s4 ⟨i,Z4,H4,J4,st4,fr4,w4⟩
  rcases turn i n Z4 H4 w4 with ⟨stop,qn⟩ | ⟨go,step⟩
  ·refine thn (T.done (zL X scope N' fp cl s3.heap.objs.size s3 (upd H2 s2.heap.objs.size (.lst [])) (X.pn++pins)) rfl rfl rfl hc i [] s4 Z4 H4 _ J4 (stat fr4) st4 stop) fun r s5 ⟨hr,J5⟩ => ?_
   subst hr
   obtain ⟨m5,n5,_⟩:=J5.loc
   refine ⟨m5,n5,fun h' sb=>⟨.ref s2.heap.objs.size,H4,qfy I3 f3 J5 sb,rfl,qn⟩⟩
  ·refine thn (T.item (zL X scope N' fp cl s3.heap.objs.size s3 (upd H2 s2.heap.objs.size (.lst [])) (X.pn++pins)) rfl rfl rfl hc i [] s4 Z4 H4 _ J4 (stat fr4) st4 go) fun r s5 ⟨u,hr,h5⟩ => ?_
   subst hr
   refine thn h5 fun _ s6 ⟨x,H6,J6,r6,y6,st6,fr6⟩ => ?_
   have J6':=J6.pinned (stat fr6) (T.obj _ _ st6)
   have again:∀ {Z7:St} {H7:Hp} {s7:Shared},Inv (zL X scope N' fp cl s3.heap.objs.size s3 (upd H2 s2.heap.objs.size (.lst [])) (X.pn++pins)) ([]++qcH fp s6.heap) Z7 H7 s7->(∃ m',m'<n/\W (i+1) m' Z7 H7) ->
     ∃ m,m<n/\∃ i Z' H',Inv (zL X scope N' fp cl s3.heap.objs.size s3 (upd H2 s2.heap.objs.size (.lst [])) (X.pn++pins)) [] Z' H' s7/\tn i s7.heap/\(∀ b∈fp,H' b=none)/\W i m Z' H':=fun {Z7 H7 s7} I7 hm=>by
    obtain ⟨m',hm,w7⟩:=hm
    refine ⟨m',hm,i+1,Z7,H7,I7.unpinned,T.keep _ _ _ st6 fun b hb o q=>(I7.pin (b,o) (mr_ _ (mr_ _ (yW hb q)))).1,fun b hb => ?_,w7⟩
    obtain ⟨o,q,d⟩:=T.obj _ _ st6 b hb
    exact (I7.pin (b,o) (mr_ _ (mr_ _ (yW hb q)))).2.1
   refine thn (hg _ s6 Z4 H6 x u _ J6' r6 (step x H6 y6)) fun _ s7 ⟨Z7,H7,J7,q7⟩ => ?_
   refine thn (hf _ s7 Z7 H7 _ J7 q7) fun ok s8 ⟨H8,J8,q8⟩ => ?_
   cases ok with
   | false =>
    rw [if_neg Bool.false_ne_true] at q8 |-
    exact again J8 q8
   | true =>
    rw [if_pos rfl] at q8 |-
    refine thn (he _ s8 Z7 H8 _ J8 q8) fun z s9 ⟨y,H9,J9,r9,ys,hys,hz,hm⟩ => ?_
    refine thn (qbH _ s9 Z7 H9 (.ref s2.heap.objs.size) [y] (.ref s2.heap.objs.size) [z] (fun _ H'=>H'=upd H9 s2.heap.objs.size (.lst (ys++[y]))) J9 rfl (.cons r9 .nil) ⟨_,ys,y,rfl,rfl,hys,hz,rfl⟩) fun _ s10 ⟨_,H10,J10,_,e10⟩ => ?_
    subst e10
    exact again J10 hm
 have ja:∀ tk:Nat,codeAny (model X.prog X.w) X.A (.compStart (.ListComp elt [⟨tg,iter,ifs,0⟩] scope pos) 0 (.ref it) (.ref s2.heap.objs.size) (compEnvC scope cl s3.heap.objs.size X.env))
   (compPost (model X.prog X.w) X.A X.xe none (EP X pins Z Q) (.ref s2.heap.objs.size) s3.heap.objs.size) { s3 with heap:=hX,toks:=tk }:=fun tk =>
  codeAny_compStart_list (loop tk) (T.self X.A 0 _ _ _ T0 (loop tk))
 have fin:=ja (s2.toks+([]:List (Str×Value)).length)
 rw [<- s3e] at fin
 rw [<- hh3] at fin
 rw [hh3] at fin |-
 exact fin
end
structure qiL (K:Fr0) (A:Addr->Prop) (H:Hp) (ds:List D) (J:It):Prop where
 go:∀ H' i d,Ext A H H'->ds[i]? = some d->J.go i H'
 yl:∀ H' i d x H'',Ext A H H'->ds[i]? = some d->J.yld i H' x H''->jp H' H''/\Is K A H'' d x
 stop:∀ H',Ext A H H'->J.stop ds.length H'
def CnT (c:Fc) (Z:St) (H:Hp) (a:Addr):Prop:=Cn c Z a/\(H a).isSome=true
def WpI (K:Fr0) (c:Fc) (Z:St) (H:Hp) (Q:It->Hp->Prop):R (List D×Env)->Prop
 | .ok (ds,U)=>∀ J H',Rep K c U Z H'->qiL K (CnT c Z H') H' ds J->Gr c.O Z H H'->Q J H'
 | .exc x U=>∀ H',Rep K c U Z H'->Gr c.O Z H H'->c.E x H'
 | .bad=>False
def DI (X:Cx) (c:Fc) (tg it:Expr) (f:M (List D)):Prop:=∃ w,PI X tg it w/\∀ U Z H Q,Rep X.K c U Z H->WpI X.K c Z H Q (f U)->w Z H Q
section
variable {X:Cx} {c:Fc} {tg a b e:Expr} {pos:Pos}
def qqP (K:Fr0) (tl:TE):TI:=fun Z H R=>tl Z H fun x H1=>(∃ a,x = .ref a/\(∃ xs,SqL K H1 a xs)/\R (Itl K a) H1)\/(∃ a,x = .ref a/\(∃ xs,SqT K H1 a xs)/\R (Itt K a) H1)
theorem qnI {tl:TE} (hl:PE X e tl):PI X tg e (qqP X.K tl):=by
 intro pins s Z H R I h
 refine thn (hl pins s Z H _ I h) fun v s1 ⟨x,H1,I1,r1,q1⟩ => ?_
 rcases q1 with ⟨a,e,⟨xs,hq⟩,q⟩ | ⟨a,e,⟨xs,hq⟩,q⟩
 ·subst e
  cases r1
  obtain ⟨its,rv,p,hz⟩:=I1.list hq
  refine wpAny_pyIter_list p.isList ?_
  refine ⟨s1.heap.objs.size,[s1.heap.objs.size],_,_,H1,rfl,I1.kept (t':=s1.toks) fun b o e=>Heap.get?_push_of_some _ e,qgU a _,⟨_,Heap.get?_push_size _ rfl,rfl,rfl⟩,fun b hb => ?_,q⟩
  have e:b=s1.heap.objs.size:=by simpa using hb
  subst e
  exact I1.fpOk (Nat.le_refl _) (I1.hok.fresh (Nat.le_refl _))
 ·subst e
  cases r1
  obtain ⟨its,rv,p,hz⟩:=I1.tuple hq
  refine wpAny_pyIter_tuple (show s1.heap.IsTuple a its.toArray from p) ?_
  refine ⟨s1.heap.objs.size,[s1.heap.objs.size],_,_,H1,rfl,I1.kept (t':=s1.toks) fun b o e=>Heap.get?_push_of_some _ e,qgi a _,⟨_,Heap.get?_push_size _ rfl,rfl,rfl⟩,fun b hb => ?_,q⟩
  have e:b=s1.heap.objs.size:=by simpa using hb
  subst e
  exact I1.fpOk (Nat.le_refl _) (I1.hok.fresh (Nat.le_refl _))
def qoS:D->Option (List D)
 | .tup ds=>some ds
 | .lst ds=>some ds
 | .fz ns=>some (ns.map .int)
 | _=>none
theorem SqL.inj {K:Fr0} {H:Hp} {a:Addr} {xs ys:List V} (h:H a=some (.lst xs)) (q:SqL K H a ys) (hk:∀ o,K.lookup a=some o->False):ys=xs:=by
 rcases q with (q | ⟨o,q⟩) | ⟨o,_,_,q,_⟩
 ·rw [h] at q;cases q;rfl
 ·rw [h] at q;cases q
 ·exact (hk o q).elim
theorem qc5 {K:Fr0} {A:Addr->Prop} {H:Hp}:∀ ns:List Int,IsL K A H (ns.map .int) (ns.map V.int)
 | []=>rfl
 | n::ns=>⟨.int n,ns.map V.int,rfl,rfl,qc5 ns⟩
theorem qhk {K:Fr0} {A:Addr->Prop} {H:Hp} {ds:List D} {xs:List V} {a:Addr} (hs:∀ H',Ext A H H'->SqL K H' a xs) (il:IsL K A H ds xs):qiL K A H ds (Itl K a) where
 go:=fun H' i d ex hd=>by
  obtain ⟨x,h1,h2⟩:=il.get hd
  exact ⟨xs,x,hs H' ex,h1⟩
 yl:=fun H' i d x H'' ex hd y=>by
  obtain ⟨e,y⟩:=y
  subst e
  obtain ⟨x',h1,h2⟩:=il.get hd
  have h3:=y xs (hs _ ex)
  rw [h1] at h3
  cases h3
  exact ⟨jp.refl _,Is.ext ex (fun _ h _=>h) h2⟩
 stop:=fun H' ex=>⟨xs,hs H' ex,by rw [il.length];exact Nat.le_refl _⟩
theorem qnJ {K:Fr0} {A:Addr->Prop} {H:Hp} {ds:List D} {xs:List V} {a:Addr} (hs:u5 K H a xs) (il:IsL K A H ds xs):qiL K A H ds (Itt K a) where
 go:=fun H' i d ex hd=>by
  obtain ⟨x,h1,h2⟩:=il.get hd
  exact ⟨xs,x,(hs.elim (fun h => .inl (ex.tup _ _ h)) .inr:u5 K H' a xs).sq,h1⟩
 yl:=fun H' i d x H'' ex hd y=>by
  obtain ⟨e,y⟩:=y
  subst e
  obtain ⟨x',h1,h2⟩:=il.get hd
  have h3:=y xs (hs.elim (fun h => .inl (ex.tup _ _ h)) .inr:u5 K _ a xs).sq
  rw [h1] at h3
  cases h3
  exact ⟨jp.refl _,Is.ext ex (fun _ h _=>h) h2⟩
 stop:=fun H' ex=>⟨xs,(hs.elim (fun h => .inl (ex.tup _ _ h)) .inr:u5 K H' a xs).sq,by rw [il.length];exact Nat.le_refl _⟩
def qa9 (f:M D):M (List D):=bnd f fun d=>lift (qoS d)
theorem qaa {K:Fr0} {Z:St} {H:Hp} {Q:It->Hp->Prop} {o:Option (List D)} {U:Env} (h:WpI K c Z H Q (lift o U)):∃ ds,o=some ds/\∀ J H',Rep K c U Z H'->qiL K (CnT c Z H') H' ds J->Gr c.O Z H H'->Q J H':=by
 cases o with
 | none=>exact h.elim
 | some d=>exact ⟨d,rfl,h⟩
theorem WpI.gr {K:Fr0} {Z:St} {H H1:Hp} {Q:It->Hp->Prop}:∀ {r:R (List D×Env)},WpI K c Z H Q r->Gr c.O Z H H1->WpI K c Z H1 Q r
 | .ok (d,U),h,g=>fun v H' hr hi hg=>h v H' hr hi (g.trans hg)
 | .exc x U,h,g=>fun H' hr hg=>h H' hr (g.trans hg)
 | .bad,h,_=>h
theorem Wp.bndI {K:Fr0} {Z:St} {H:Hp} {Q:It->Hp->Prop} {f:M D} {k:D->M (List D)} {U:Env} {Q':VK} (h:WpI K c Z H Q (Sk.bnd f k U)) (hQ:∀ d U' v H',Rep K c U' Z H'->Is K (Cn c Z) H' d v->Gr c.O Z H H'->WpI K c Z H' Q (k d U')->Q' v H'):Wp K c Z H Q' (f U):=by
 unfold Sk.bnd at h
 cases e:f U with
 | ok p=>rw [e] at h;exact fun v H' hr hi hg=>hQ p.1 p.2 v H' hr hi hg (h.gr hg)
 | exc x U'=>rw [e] at h;exact h
 | bad=>rw [e] at h;exact h
theorem WpL.bndI {K:Fr0} {Z:St} {H:Hp} {Q:It->Hp->Prop} {f:M (List D)} {k:List D->M (List D)} {U:Env} {Q':List V->Hp->Prop} (h:WpI K c Z H Q (Sk.bnd f k U)) (hQ:∀ d U' v H',Rep K c U' Z H'->IsL K (Cn c Z) H' d v->Gr c.O Z H H'->WpI K c Z H' Q (k d U')->Q' v H'):WpL K c Z H Q' (f U):=by
 unfold Sk.bnd at h
 cases e:f U with
 | ok p=>rw [e] at h;exact fun v H' hr hi hg=>hQ p.1 p.2 v H' hr hi hg (h.gr hg)
 | exc x U'=>rw [e] at h;exact h
 | bad=>rw [e] at h;exact h
theorem Is.tr {K:Fr0} {A:Addr->Prop} {H:Hp} {d:D} {v:V} (h:Is K A H d v):Is K (fun a=>A a/\(H a).isSome=true) H d v:=Is.ext Ext.refl (fun a h1 h2=>⟨h1,h2⟩) h
theorem vx {f:M D} (h:DE X c e f):DI X c tg e (qa9 f):=by
 obtain ⟨t,p,w⟩:=h
 refine ⟨_,qnI p,fun U Z H Q r h=>w U Z H _ r (Wp.bndI h fun d U1 v H1 r1 i1 g1 h1 => ?_)⟩
 obtain ⟨ds,e,h2⟩:=qaa h1
 have i2:Is X.K (CnT c Z H1) H1 d v:=i1.tr
 cases d<;>simp only [qoS] at e<;>try (cases e;done)
 ·cases e
  obtain ⟨a,xs,rfl,ta,il⟩:=i2
  exact .inr ⟨a,rfl,⟨xs,ta.sq⟩,h2 _ H1 r1 (qnJ ta il) .refl⟩
 ·cases e
  obtain ⟨a,xs,rfl,hA,ta,il⟩:=i2
  exact .inl ⟨a,rfl,⟨xs,.inl (.inl ta)⟩,h2 _ H1 r1 (qhk (fun H' ex => .inl (.inl (ex.at_ _ _ hA ta))) il) .refl⟩
 ·cases e
  obtain ⟨a,rfl,ta⟩:=i2
  exact .inl ⟨a,rfl,⟨_,ta.sq⟩,h2 _ H1 r1 (qhk (fun H' ex=>(ta.elim (fun ⟨o,h⟩ => .inl ⟨o,ex.frz _ _ _ h⟩) .inr:qnv X.K H' a _).sq) (qc5 _)) .refl⟩
def qc6 (lo:Int) (n:Nat):List D:=(List.range n).map fun i => .int (lo+(i:Nat))
theorem qnK {K:Fr0} {A:Addr->Prop} {H:Hp} (lo:Int) (n:Nat):qiL K A H (qc6 lo n) (Itr lo n) where
 go:=fun H' i d ex hd=>by
  have:i<(qc6 lo n).length:=(gI_.mp hd).1
  show i<n
  simpa [qc6] using this
 yl := fun H' i d x H'' ex hd y=>by
  obtain ⟨e,y⟩:=y
  subst e
  subst y
  refine ⟨jp.refl _,?_⟩
  unfold qc6 at hd
  rw [gM_] at hd
  cases e2:(List.range n)[i]? with
  | none=>rw [e2] at hd;cases hd
  | some j =>
   rw [e2] at hd
   have hj:j=i:=by
    have:=(gI_.mp e2).2
    simpa using this.symm
   subst hj
   cases hd
   rfl
 stop:=fun H' ex=>by show n<=(qc6 lo n).length;simp [qc6]
def qkp:List D->Option (List D)
 | [.int j]=>if decide (-(2 ^ 62)<=j)&&decide (j<2 ^ 62) then some (qc6 0 j.toNat) else none
 | _=>none
def ug (f:M (List D)):M (List D):=bnd f fun ds=>lift (qkp ds)
theorem jJ {f:M (List D)} {p:Pos} (hg:Gl X "range") (hm:X.mg "range"=none) (ha:DA X c [a] f) (hs:starEach [a] X.env=[(false,eval a X.env)]:=by rfl):DI X c tg (.Call (.Name "range" p) [a] [] pos) (ug f):=by
 obtain ⟨t,p,w⟩:=ha
 refine ⟨_,qgV hg hm p hs,fun U Z H Q r h=>w U Z H _ r (WpL.bndI h fun ds U1 vs H1 r1 i1 g1 h1 => ?_)⟩
 obtain ⟨es,e,h2⟩:=qaa h1
 unfold qkp at e
 split at e
 ·rename_i j
  obtain ⟨v,rfl,e2⟩:=IsL.inv1 i1
  cases e2
  by_cases hb:(decide (-(2 ^ 62)<=j)&&decide (j<2 ^ 62))=true
  ·rw [if_pos hb] at e
   cases e
   rw [Bool.and_eq_true] at hb
   exact ⟨j,rfl,of_decide_eq_true hb.1,of_decide_eq_true hb.2,h2 _ H1 r1 (qnK 0 _) .refl⟩
  ·rw [if_neg hb] at e
   cases e
 ·cases e
def uh (g:D->Env->Option Env) (b:MS):List D->MS
 | [],U => .ok (.nx U)
 | d::ds,U=>match g d U with
  | none => .bad
  | some U1=>match b U1 with
   | .ok (.nx U2)=>uh g b ds U2
   | .ok (.ct U2)=>uh g b ds U2
   | .ok (.bk U2) => .ok (.nx U2)
   | .ok (.rt r U2) => .ok (.rt r U2)
   | .exc x U2 => .exc x U2
   | .bad => .bad
def qeT (f:M (List D)) (g:D->Env->Option Env) (b:MS):MS:=sbnd f fun ds=>uh g b ds
theorem WpI.sbnd {K:Fr0} {Z:St} {H:Hp} {D':qiJ} {f:M (List D)} {k:List D->MS} {U:Env} {Q':It->Hp->Prop} (h:WpS K c Z H D' (Sk.sbnd f k U))
  (hQ:∀ ds U' J H',Rep K c U' Z H'->qiL K (CnT c Z H') H' ds J->Gr c.O Z H H'->WpS K c Z H' D' (k ds U')->Q' J H'):WpI K c Z H Q' (f U):=by
 unfold Sk.sbnd at h
 cases e:f U with
 | ok p=>rw [e] at h;exact fun v H' hr hi hg=>hQ p.1 p.2 v H' hr hi hg (h.gr hg.s)
 | exc x U'=>rw [e] at h;exact fun H' hr hg=>h Z H' hr hg.s
 | bad=>rw [e] at h;exact h
theorem GrS.extT {Z Z':St} {H H':Hp} (g:GrS c.O Z H Z' H'):Ext (CnT c Z H) H H':=⟨g.ext.tup,g.ext.frz,fun b o hb h=>g.ext.at_ b o hb.1.2 h⟩
theorem GrS.cnT {Z Z':St} {H H':Hp} (g:GrS c.O Z H Z' H') {a:Addr} (h:CnT c Z H a):Cn c Z' a:=⟨h.1.1,g.cl a h.1.2 h.2⟩
theorem qaI {α:Type} {l:List α} {i:Nat} (h:i<l.length):l.drop i=l[i]::l.drop (i+1):=List.drop_eq_getElem_cons h
theorem vy {it:Expr} {body:List Stmt} {f:M (List D)} {g:D->Env->Option Env} {b:MS} (hp:PassesOwn (model X.prog X.w) X.A X.env X.xe) (hc:X.calm=true) (hi:DI X c tg it f) (hg:DG X c tg g) (hb:DSs X c body b)
  (hs:∀ x,foldedSetIterable it X.env x=pure x:=by intro _;rfl):DS X c (.For tg it body [] pos) (qeT f g b):=by
 obtain ⟨wi,pi,wI⟩:=hi
 obtain ⟨tg',pg,wg⟩:=hg
 obtain ⟨tb,pb,wb⟩:=hb
 refine ⟨_,qm8 hp hc pi pg pb hs,fun U Z H D' r h=>wI U Z H _ r (WpI.sbnd h fun ds U1 J H1 r1 iok g1 h1 => ?_)⟩
 refine ⟨fun i m Z' H'=>m=ds.length-i/\i<=ds.length/\∃ U',Rep X.K c U' Z' H'/\GrS c.O Z H1 Z' H'/\WpS X.K c Z' H' D' (uh g b (ds.drop i) U'),⟨ds.length,by simp,Nat.zero_le _,U1,r1,.refl,by simpa using h1⟩,?_⟩
 rintro i m Z' H' ⟨rfl,hi,U',r',gs,w⟩
 by_cases hlt:i<ds.length
 ·refine .inr ⟨iok.go H' i ds[i] gs.extT (by simp [hlt]),fun Z2 H2=>∃ U2,Rep X.K c U2 Z2 H2/\GrS c.O Z H1 Z2 H2/\WpS X.K c Z2 H2 D' (uh g b (ds.drop (i+1)) U2),fun Z2 H2 n=>⟨ds.length-(i+1),by omega,rfl,hlt,n⟩,fun x H'' y => ?_⟩
  obtain ⟨sm,ix⟩:=iok.yl H' i ds[i] x H'' gs.extT (by simp [hlt]) y
  rw [qaI hlt] at w
  unfold uh at w
  have gs2:GrS c.O Z H1 Z' H'':=gs.trans (Gr.of_same sm).s
  have ix2:Is X.K (Cn c Z') H'' ds[i] x:=Is.ext Ext.refl (fun a ha _=>gs2.cnT ha) ix
  cases e1:g ds[i] U' with
  | none=>simp only [e1] at w;exact w.elim
  | some U2 =>
   simp only [e1] at w
   refine wg U' Z' H'' ds[i] x U2 _ (r'.same sm) ix2 e1 fun Z2 r2 g2 _=>wb U2 Z2 H'' _ r2 ?_
   have w2:=w.gr ((Gr.of_same sm).s.trans g2)
   have gs3:GrS c.O Z H1 Z2 H'':=gs2.trans g2
   cases e2:b U2 with
   | ok fl =>
    cases fl with
    | nx U3=>simp only [e2] at w2;exact fun Z3 H3 r3 g3=>⟨U3,r3,gs3.trans g3,w2.gr g3⟩
    | ct U3=>simp only [e2] at w2;exact fun Z3 H3 r3 g3=>⟨U3,r3,gs3.trans g3,w2.gr g3⟩
    | bk U3=>simp only [e2] at w2;exact w2
    | rt d U3=>simp only [e2] at w2;exact w2
   | exc x U3=>simp only [e2] at w2;exact w2
   | bad=>simp only [e2] at w2;exact w2
 ·have hie:i=ds.length:=by omega
  subst hie
  rw [List.drop_of_length_le (Nat.le_refl _)] at w
  exact .inl ⟨iok.stop H' gs.extT,w Z' H' r' .refl⟩
end
def cin (B0:Addr->Prop) (H1:Hp) (O':List Nat) (Io':Addr->Prop) (acc:Addr) (S':Nat->Option (Option V)):Fc where
 O:=O'
 P:=O'
 B:=fun a=>B0 a/\a≠acc
 H0:=upd H1 acc (.lst [])
 Io:=fun a=>Io' a\/a=acc
 E:=fun _ _=>False
 S:=S'
def z6 (g:D->Env->Option Env) (t:M Bool) (e:M D):List D->List D->Env->R (List D×Env)
 | [],acc,U => .ok (acc,U)
 | d :: ds,acc,U=>match g d U with
  | none => .bad
  | some U1=>match t U1 with
   | .ok (true,U2)=>match e U2 with
    | .ok (y,U3)=>if qP (acc.length+1) then z6 g t e ds (acc++[y]) U3 else .bad
    | _ => .bad
   | .ok (false,U2)=>z6 g t e ds acc U2
   | _ => .bad
def yp (nt:Nat) (fr:List Nat) (U:Env):Env:=List.replicate nt none++fr.map fun j=>(U[j]?).join
def qmI (fo:Option (Nat×Nat)) (Ue U:Env):Env:=match fo with
 | none=>U
 | some (i,j)=>U.set j (Ue[i]?).join
def zW (nt:Nat) (fr:List Nat) (fo:Option (Nat×Nat)) (f:M (List D)) (g:D->Env->Option Env) (t:M Bool) (e:M D):M D:=bnd f fun ds U=>match z6 g t e ds [] (yp nt fr U) with
 | .ok (ys,Ue) => .ok (.lst ys,qmI fo Ue U)
 | _ => .bad
def DF (X:Cx) (c:Fc) (ifs:List Expr) (f:M Bool):Prop:=∃ t,PF X ifs t/\∀ U Z H Q,Rep X.K c U Z H->WpB X.K c Z H Q (f U)->t Z H Q
def foO (fo:Option (Nat×Nat)):List Nat:=match fo with
 | none=>[]
 | some (i,_)=>[i]
section
variable {X:Cx} {c:Fc} {tg a b e:Expr} {pos:Pos}
theorem qba:DF X c [] (ret true):=⟨_,qnG,fun U Z H Q r h=>h H r .refl⟩
theorem qcP {f:M Bool} (h:DT X c e f):DF X c [e] f:=by
 obtain ⟨t,p,w⟩:=h
 exact ⟨_,qnH p,w⟩
theorem WpI.bnd {K:Fr0} {Z:St} {H:Hp} {Q:VK} {f:M (List D)} {k:List D->M D} {U:Env} {Q':It->Hp->Prop} (h:Wp K c Z H Q (Sk.bnd f k U))
  (hQ:∀ ds U' J H',Rep K c U' Z H'->qiL K (CnT c Z H') H' ds J->Gr c.O Z H H'->Wp K c Z H' Q (k ds U')->Q' J H'):WpI K c Z H Q' (f U):=by
 unfold Sk.bnd at h
 cases e:f U with
 | ok p=>rw [e] at h;exact fun v H' hr hi hg=>hQ p.1 p.2 v H' hr hi hg (h.gr hg)
 | exc x U'=>rw [e] at h;exact h
 | bad=>rw [e] at h;exact h
theorem Rep.grow {K:Fr0} {B0:Addr->Prop} {H1:Hp} {O':List Nat} {Io':Addr->Prop} {acc:Addr} {S':Nat->Option (Option V)} {U:Env} {Z:St} {H:Hp} {xs ys:List V} (r:Rep K (cin B0 H1 O' Io' acc S') U Z H) (h:H acc=some (.lst xs)) (ho:∀ j∈O',Z[j]? ≠ some (some (.ref acc))) :
  Rep K (cin B0 H1 O' Io' acc S') U Z (upd H acc (.lst ys)):=by
 have ext:Ext (fun a=>a≠acc) H (upd H acc (.lst ys)):=⟨fun b zs hb=>by rw [qu (w8 hb h (by intro z;cases z))];exact hb,fun b o u hb=>by rw [qu (w8 hb h (by intro z;cases z))];exact hb,fun b o hb hq=>by rw [qu hb];exact hq⟩
 have cnext:Ext (Cn (cin B0 H1 O' Io' acc S') Z) H (upd H acc (.lst ys)):=⟨ext.tup,ext.frz,fun b o hb hq=>ext.at_ b o hb.1.2 hq⟩
 refine ⟨r.len,fun i d hd => ?_,fun j hj v hv => ?_,r.inj,r.b0,fun b o hb hio => ?_,fun b hb => ?_,r.pO,r.ps⟩
 ·obtain ⟨v,h1,h2⟩:=r.val i d hd
  refine ⟨v,h1,?_⟩
  rcases h2 with ⟨hi,ds,a,zs,h3,h5,h6,h7⟩ | ⟨hi,h3⟩
  ·subst h5
   have ne:a≠acc:=fun e=>ho i hi (by rw [h1,e])
   exact .inl ⟨hi,ds,a,zs,h3,rfl,by rw [qu ne];exact h6,IsL.ext cnext (fun _ h _=>h) h7⟩
  ·exact .inr ⟨hi,Is.ext cnext (fun _ h _=>h) h3⟩
 ·obtain ⟨a,zs,h1,h2,h3⟩:=r.own j hj v hv
  subst h1
  have ne:a≠acc:=fun e=>ho j hj (by rw [hv,e])
  exact ⟨a,zs,rfl,by rw [qu ne];exact h2,h3⟩
 ·have ne:b≠acc:=fun e=>hio (.inr e)
  rw [qu ne]
  exact r.kp b o hb hio
 ·by_cases e:b=acc
  ·subst e;rw [qt] at hb;cases hb
  ·rw [qu e] at hb;exact r.dm b hb
theorem qbS {α:Type} {o:Option (Option α)} {a:α} (h:o.join=some a):o=some (some a):=by
 cases o with
 | none=>cases h
 | some x=>have:x=some a:=h;rw [this]
def qlC (c:Fc) (nt:Nat) (fr:List Nat) (fo:Option (Nat×Nat)):Prop:=match fo with
 | none=>∀ j∈fr,j ∉ c.O
 | some (i,j)=>j∈c.O/\nt<=i/\fr[i-nt]? = some j/\∀ k j',fr[k]? = some j'->nt+k≠i->j' ∉ c.O
def qdG (Z:St) (fo:Option (Nat×Nat)) (a:Addr):Prop:=match fo with
 | none=>False
 | some (_,j)=>Z[j]? = some (some (.ref a))
theorem qaJ {nt:Nat} {fr:List Nat} {Z:St} {k j:Nat} (h:fr[k]? = some j):(qK nt fr Z)[nt+k]? = some (Z[j]?).join:=by
 unfold qK
 rw [List.getElem?_append_right (by simp),List.length_replicate,gM_,show nt+k-nt=k by omega,h]
 rfl
theorem qgu {nt:Nat} {fr:List Nat} {U:Env} {i:Nat} {d:D} (hd:(yp nt fr U)[i]? = some (some d)):∃ k j,i=nt+k/\fr[k]? = some j/\U[j]? = some (some d):=by
 have hi:nt<=i:=by
  apply Nat.le_of_not_lt
  intro hlt
  unfold yp at hd
  rw [List.getElem?_append_left (by simpa using hlt),List.getElem?_replicate] at hd
  split at hd<;>cases hd
 unfold yp at hd
 rw [List.getElem?_append_right (by simpa using hi),List.length_replicate,gM_] at hd
 cases ej:fr[i-nt]? with
 | none=>rw [ej] at hd;cases hd
 | some j =>
  rw [ej] at hd
  exact ⟨i-nt,j,by omega,ej,qbS (by simpa using hd)⟩
theorem yX {nt:Nat} {fr:List Nat} {Z:St} {i:Nat} {d:V} (hd:(qK nt fr Z)[i]? = some (some d)):∃ k j,i=nt+k/\fr[k]? = some j/\Z[j]? = some (some d):=by
 have hi:nt<=i:=by
  apply Nat.le_of_not_lt
  intro hlt
  unfold qK at hd
  rw [List.getElem?_append_left (by simpa using hlt),List.getElem?_replicate] at hd
  split at hd<;>cases hd
 unfold qK at hd
 rw [List.getElem?_append_right (by simpa using hi),List.length_replicate,gM_] at hd
 cases ej:fr[i-nt]? with
 | none=>rw [ej] at hd;cases hd
 | some j =>
  rw [ej] at hd
  exact ⟨i-nt,j,by omega,ej,qbS (by simpa using hd)⟩
theorem Rep.entry {K:Fr0} {nt:Nat} {fr:List Nat} {fo:Option (Nat×Nat)} {acc:Addr} {U:Env} {Z:St} {H:Hp} (r:Rep K c U Z H) (hn:H acc=none) (hfo:qlC c nt fr fo) :
  Rep K (cin (Cn c Z) H (foO fo) (qdG Z fo) acc fun j=>(qK nt fr Z)[j]?) (yp nt fr U) (qK nt fr Z) (upd H acc (.lst [])):=by
 have sm:jp H (upd H acc (.lst [])):=qy hn _
 have ownI:∀ i∈foO fo,∀ v,(qK nt fr Z)[i]? = some (some v)->∃ j,fo=some (i,j)/\j∈c.O/\Z[j]? = some (some v):=fun i hi v hv=>by
  cases fo with
  | none=>cases hi
  | some p =>
   obtain ⟨i',j'⟩:=p
   have e:i=i':=by simpa [foO] using hi
   subst e
   obtain ⟨h1,h2,h3,h4⟩:=hfo
   obtain ⟨k,j,e1,e2,e3⟩:=yX hv
   have hk:k=i-nt:=by omega
   subst hk
   rw [h3] at e2
   cases e2
   exact ⟨j',rfl,h1,e3⟩
 have clI:∀ a,Cl c.O Z a->Cl (foO fo) (qK nt fr Z) a:=fun a ha i hi e=>by
  obtain ⟨j,_,hj,e2⟩:=ownI i hi _ e
  exact ha j hj e2
 refine ⟨by simp [yp,qK],fun i d hd => ?_,fun i hi v hv => ?_,fun i j a hi hj h1 h2 => ?_,⟨fun a ha => ?_,fun q P pos eP => ?_⟩,fun b o hb hio => ?_,fun b hb => ?_,fun _ h=>h,fun _ _=>rfl⟩
 ·obtain ⟨k,j,e1,e2,e3⟩:=qgu hd
  subst e1
  by_cases hO:nt+k∈foO fo
  ·obtain ⟨v,hv⟩:∃ v,Z[j]? = some (some v):=by
    obtain ⟨v,h1,_⟩:=r.val j d e3
    exact ⟨v,h1⟩
   have hc:(qK nt fr Z)[nt+k]? = some (some v):=by rw [qaJ e2,hv];rfl
   obtain ⟨j',f1,f2,f3⟩:=ownI _ hO v hc
   subst f1
   obtain ⟨g1,g2,g3,g4⟩:=hfo
   rw [show nt+k-nt=k by omega,e2] at g3
   cases g3
   obtain ⟨ds,a,xs,h1,h3,h4,h5⟩:=r.getO g1 e3
   rw [hv] at h3
   cases h3
   exact ⟨.ref a,hc,.inl ⟨hO,ds,a,xs,h1,rfl,sm _ _ h4,IsL.ext (Ext.of_same sm) (fun b hb hs=>⟨⟨hb,fun e=>by subst e;rw [hn] at hs;cases hs⟩,clI b hb.2⟩) h5⟩⟩
  ·have hj:j ∉ c.O:=by
    cases fo with
    | none=>exact hfo j (List.mem_of_getElem? e2)
    | some p =>
     obtain ⟨i',j'⟩:=p
     exact hfo.2.2.2 k j e2 (fun e=>hO (by simp [foO,e]))
   obtain ⟨v,h1,h2⟩:=r.get hj e3
   refine ⟨v,by rw [qaJ e2,h1];rfl,.inr ⟨hO,?_⟩⟩
   refine Is.ext (Ext.of_same sm) (fun a ha hs=>⟨⟨ha,fun e => ?_⟩,clI a ha.2⟩) h2
   subst e;rw [hn] at hs;cases hs
 ·obtain ⟨j,f1,f2,f3⟩:=ownI i hi v hv
  obtain ⟨a,xs,h1,h2,h3⟩:=r.own j f2 v f3
  subst h1 f1
  exact ⟨a,xs,rfl,sm _ _ h2,.inr ⟨hi,.inl f3⟩⟩
 ·cases fo with
  | none=>cases hi
  | some p =>
   obtain ⟨i',j'⟩:=p
   have e:i=i':=by simpa [foO,cin] using hi
   have e2:j=i':=by simpa [foO,cin] using hj
   rw [e,e2]
 ·have ha':upd H acc (.lst []) a=none:=ha
  by_cases e:a=acc
  ·subst e;rw [qt] at ha';cases ha'
  ·rw [qu e] at ha';exact ⟨r.new ha',e⟩
 ·have hP:=(r.tb q P pos eP).1
  refine ⟨sm _ _ hP,fun z => ?_⟩
  rcases z with z | z
  ·cases fo with
   | none=>exact z
   | some p =>
    obtain ⟨b,xs,e1,e2,_⟩:=r.own _ hfo.1 _ z
    cases e1
    rw [hP] at e2;cases e2
  ·rw [z,hn] at hP;cases hP
 ·exact hb
 ·exact hb
theorem Rep.leave {K:Fr0} {nt:Nat} {fr:List Nat} {fo:Option (Nat×Nat)} {acc:Addr} {U Ue:Env} {Z Ze:St} {H H':Hp} (r:Rep K c U Z H) (hn:H acc=none) (hfo:qlC c nt fr fo) (hf:∀ i j,fo=some (i,j)->Ze[i]? = (qK nt fr Z)[i]?)
  (q:Rep K (cin (Cn c Z) H (foO fo) (qdG Z fo) acc fun j=>(qK nt fr Z)[j]?) Ue Ze H'):Rep K c (qmI fo Ue U) Z H'/\Gr c.O Z H H':=by
 have kp:∀ b o,H b=some o->¬ qdG Z fo b->H' b=some o:=fun b o hb hio=>q.kp b o (by show upd H acc (.lst []) b=some o;rw [qu (qH hb hn)];exact hb) fun z=>z.elim hio fun e=>absurd e (qH hb hn)
 have clean:∀ b,Cl c.O Z b->¬ qdG Z fo b:=fun b hb hio=>by
  cases fo with
  | none=>exact hio
  | some p=>exact hb p.2 hfo.1 hio
 have dom:∀ b,H' b=none->H b=none:=fun b hb=>by
  have:=q.dm b hb
  by_cases e:b=acc
  ·subst e;exact hn
  ·have this:upd H acc (.lst []) b=none:=this
   rw [qu e] at this;exact this
 have notT:∀ b xs,H b=some (.tup xs)->¬ qdG Z fo b:=fun b xs hb hio=>by
  cases fo with
  | none=>exact hio
  | some p =>
   obtain ⟨a,ys,e1,e2,_⟩:=r.own p.2 hfo.1 _ hio
   cases e1;rw [hb] at e2;cases e2
 have notF:∀ b o u,H b=some (.frz o u)->¬ qdG Z fo b:=fun b o u hb hio=>by
  cases fo with
  | none=>exact hio
  | some p =>
   obtain ⟨a,ys,e1,e2,_⟩:=r.own p.2 hfo.1 _ hio
   cases e1;rw [hb] at e2;cases e2
 have gr:Gr c.O Z H H':=⟨⟨fun b xs hb=>kp b _ hb (notT b xs hb),fun b o u hb=>kp b _ hb (notF b o u hb),fun b o hc hb=>kp b o hb (clean b hc)⟩,dom⟩
 refine ⟨⟨?_,fun k d hd => ?_,fun j hj v hv => ?_,r.inj,r.b0,fun b o hb hio => ?_,fun b hb=>r.dm b (dom b hb),r.pO,r.ps⟩,gr⟩
 ·cases fo with
  | none=>exact r.len
  | some p=>show (U.set _ _).length=_;rw [lS_];exact r.len
 ·-- an old slot,or the one that came qmI
  have oldSlot:U[k]? = some (some d)->(∀ i,fo≠some (i,k))->∃ v,Z[k]? = some (some v)/\((k∈c.O/\∃ ds a xs,d = .lst ds/\v = .ref a/\H' a=some (.lst xs)/\IsL K (Cn c Z) H' ds xs)\/(k ∉ c.O/\Is K (Cn c Z) H' d v)):=fun hk hne=>by
   obtain ⟨v,h1,h2⟩:=r.val k d hk
   refine ⟨v,h1,?_⟩
   rcases h2 with ⟨hi,ds,a,xs,h3,h5,h6,h7⟩ | ⟨hi,h3⟩
   ·subst h5
    refine .inl ⟨hi,ds,a,xs,h3,rfl,kp a _ h6 (fun hio => ?_),gr.isL h7⟩
    cases fo with
    | none=>exact hio
    | some p =>
     obtain ⟨i',j'⟩:=p
     have e:=r.inj k j' a hi hfo.1 h1 hio
     exact hne i' (by rw [e])
   ·exact .inr ⟨hi,gr.is h3⟩
  cases fo with
  | none=>exact oldSlot hd (fun i e=>by cases e)
  | some p =>
   obtain ⟨i',j'⟩:=p
   have hd':(U.set j' (Ue[i']?).join)[k]? = some (some d):=hd
   by_cases e:k=j'
   ·subst e
    have hl:k<U.length:=by
     have:=(gI_.mp hd').1
     rwa [lS_] at this
    rw [List.getElem?_set_self hl] at hd'
    have he:Ue[i']? = some (some d):=qbS (Option.some.inj hd')
    obtain ⟨ds,a,xs,h1,h3,h4,h5⟩:=q.getO (show i'∈foO (some (i',k)) by simp [foO]) he
    have h3':=hf i' k rfl
    rw [h3] at h3'
    obtain ⟨k2,j2,e1,e2,e3⟩:=yX h3'.symm
    have hk2:k2=i'-nt:=by omega
    subst hk2
    rw [hfo.2.2.1] at e2
    cases e2
    exact ⟨.ref a,e3,.inl ⟨hfo.1,ds,a,xs,h1,rfl,h4,IsL.ext Ext.refl (fun b hb _=>hb.1.1) h5⟩⟩
   ·rw [zB e] at hd'
    exact oldSlot hd' (fun i e2=>e (by cases e2;rfl))
 ·obtain ⟨a,xs,h1,h2,h3⟩:=r.own j hj v hv
  subst h1
  by_cases hio:qdG Z fo a
  ·cases fo with
   | none=>exact hio.elim
   | some p =>
    obtain ⟨i',j'⟩:=p
    have hc:(qK nt fr Z)[i']? = some (some (.ref a)):=by
     have:=qaJ (Z:=Z) (nt:=nt) hfo.2.2.1
     rw [show nt+(i'-nt)=i' by have:=hfo.2.1;omega] at this
     rw [this]
     have hio':Z[j']? = some (some (.ref a)):=hio
     rw [hio'];rfl
    have h3':=hf i' j' rfl
    rw [hc] at h3'
    obtain ⟨a',ys,e1,e2,_⟩:=q.own i' (by simp [foO,cin]) _ h3'
    cases e1
    exact ⟨a,ys,rfl,e2,h3⟩
  ·exact ⟨a,xs,rfl,kp a _ h2 hio,h3⟩
 ·by_cases hio2:qdG Z fo b
  ·cases fo with
   | none=>exact hio2.elim
   | some p =>
    obtain ⟨a,ys,e1,e2,e3⟩:=r.own p.2 hfo.1 _ hio2
    cases e1
    rcases e3 with e3 | e3
    ·rw [hb] at e3;cases e3
    ·exact absurd e3.2 hio
  ·exact kp b o (r.kp b o hb hio) hio2
theorem yE {it elt:Expr} {ifs:List Expr} {scope:Scope} {N':List Str} {nt:Nat} {fr:List Nat} {fo:Option (Nat×Nat)} {f:M (List D)} {g:D->Env->Option Env} {t:M Bool} {k:M D} (hc:X.calm=true) (hi:DI X c tg it f) (S:CompScope X scope N' nt fr)
  (hfo:qlC c nt fr fo)
  (hb:∀ fp cl C s₀ H₀ pn B0 H1 Io' acc S',DG (zL X scope N' fp cl C s₀ H₀ pn) (cin B0 H1 (foO fo) Io' acc S') tg g/\DF (zL X scope N' fp cl C s₀ H₀ pn) (cin B0 H1 (foO fo) Io' acc S') ifs t/\DE (zL X scope N' fp cl C s₀ H₀ pn) (cin B0 H1 (foO fo) Io' acc S') elt k)
  (hs:∀ x,foldedSetIterable it X.env x=pure x:=by intro _;rfl):DE X c (.ListComp elt [⟨tg,it,ifs,0⟩] scope pos) (zW nt fr fo f g t k):=by
 obtain ⟨wi,pi,wI⟩:=hi
 refine ⟨_,qlB hc pi S hs,fun U Z H Q r h=>wI U Z H _ r (WpI.bnd h fun ds U1 J H1 r1 iok g1 h1 => ?_)⟩
 intro acc fp cl C s₀ H₀ pn hn
 obtain ⟨⟨tg',pg,wg⟩,⟨tt,pt,wt⟩,⟨te,pe,we⟩⟩:=hb fp cl C s₀ H₀ pn (Cn c Z) H1 (qdG Z fo) acc fun j=>(qK nt fr Z)[j]?
 refine ⟨tg',tt,te,pg,pt,pe,?_⟩
 cases ew:z6 g t k ds [] (yp nt fr U1) with
 | exc x U'=>rw [ew] at h1;exact h1.elim
 | bad=>rw [ew] at h1;exact h1.elim
 | ok p =>
  rw [ew] at h1
  obtain ⟨ys,Ue⟩:=p
  have h1:∀ v H',Rep X.K c (qmI fo Ue U1) Z H'->Is X.K (Cn c Z) H' (.lst ys) v->Gr c.O Z H1 H'->Q v H':=h1
  have accO:∀ j∈foO fo,(qK nt fr Z)[j]? ≠ some (some (.ref acc)):=fun j hj e=>by
   have r0:=r1.entry (acc:=acc) hn hfo
   cases fo with
   | none=>cases hj
   | some p =>
    obtain ⟨i',j'⟩:=p
    have e2:j=i':=by simpa [foO] using hj
    subst e2
    obtain ⟨k2,j2,e1,e2,e3⟩:=yX e
    have hk2:k2=j-nt:=by omega
    subst hk2
    rw [hfo.2.2.1] at e2
    cases e2
    obtain ⟨a,us,e4,e5,_⟩:=r1.own j' hfo.1 _ e3
    cases e4;rw [hn] at e5;cases e5
  refine ⟨fun i m Z' H'=>m=ds.length-i/\i<=ds.length/\∃ U' zs xs,Rep X.K (cin (Cn c Z) H1 (foO fo) (qdG Z fo) acc fun j=>(qK nt fr Z)[j]?) U' Z' H'/\(∀ j∈foO fo,Z'[j]? = (qK nt fr Z)[j]?)/\H' acc=some (.lst xs)/\IsL X.K (Cn (cin (Cn c Z) H1 (foO fo) (qdG Z fo) acc fun j=>(qK nt fr Z)[j]?) Z') H' zs xs/\z6 g t k (ds.drop i) zs U' = .ok (ys,Ue),
   ⟨ds.length,by simp,Nat.zero_le _,yp nt fr U1,[],[],r1.entry hn hfo,fun _ _=>rfl,qt,rfl,by simpa using ew⟩,?_⟩
  rintro i m Z' H' ⟨rfl,hi,U',zs,xs,r',so,ha,iz,w⟩
  obtain ⟨_,gr⟩:=r1.leave hn hfo (fun i j e=>so i (by rw [e];simp [foO])) r'
  have ex:Ext (CnT c Z H1) H1 H':=⟨gr.ext.tup,gr.ext.frz,fun b o hb hq=>gr.ext.at_ b o hb.1.2 hq⟩
  have accC:∀ τ:St,(∀ j∈foO fo,τ[j]? = (qK nt fr Z)[j]?)->Cl (foO fo) τ acc:=fun τ hτ j hj e=>accO j hj (by rw [<- hτ j hj];exact e)
  by_cases hlt:i<ds.length
  ·refine .inr ⟨iok.go H' i ds[i] ex (by simp [hlt]),fun x H'' y => ?_⟩
   obtain ⟨sm,ix⟩:=iok.yl H' i ds[i] x H'' ex (by simp [hlt]) y
   rw [qaI hlt] at w
   unfold z6 at w
   have ix2:Is X.K (Cn (cin (Cn c Z) H1 (foO fo) (qdG Z fo) acc fun j=>(qK nt fr Z)[j]?) Z') H'' ds[i] x:=Is.ext Ext.refl (fun a ha _=>⟨⟨ha.1,fun e=>by
    have:=ha.2
    rw [e,hn] at this;cases this⟩,fun j hj e=>by
     rw [so j hj] at e
     cases fo with
     | none=>cases hj
     | some p =>
      obtain ⟨i',j'⟩:=p
      have e2:j=i':=by simpa [foO,cin] using hj
      subst e2
      obtain ⟨k2,j2,e1,e2,e3⟩:=yX e
      have hk2:k2=j-nt:=by omega
      subst hk2
      rw [hfo.2.2.1] at e2
      cases e2
      exact ha.1.2 j' hfo.1 e3⟩) ix
   cases e1:g ds[i] U' with
   | none=>simp only [e1] at w;cases w
   | some U2 =>
    simp only [e1] at w
    refine wg U' Z' H'' ds[i] x U2 _ (r'.same sm) ix2 e1 fun Z2 r2 g2 o2 => ?_
    have so2:∀ j∈foO fo,Z2[j]? = (qK nt fr Z)[j]? := fun j hj=>(o2 j hj).trans (so j hj)
    have ha2:H'' acc=some (.lst xs):=sm _ _ ha
    have iz2:=g2.isL (IsL.ext (Ext.of_same sm) (fun _ h _=>h) iz)
    cases e2:t U2 with
    | exc x U3=>simp only [e2] at w;cases w
    | bad=>simp only [e2] at w;cases w
    | ok p2 =>
     obtain ⟨bb,U3⟩:=p2
     refine wt U2 Z2 H'' _ r2 ?_
     rw [e2]
     intro H3 r3 g3
     have ha3:H3 acc=some (.lst xs):=g3.ext.at_ _ _ (accC Z2 so2) ha2
     have iz3:=g3.isL iz2
     cases bb with
     | false =>
      rw [if_neg Bool.false_ne_true]
      simp only [e2] at w
      exact ⟨ds.length-(i+1),by omega,rfl,hlt,U3,zs,xs,r3,so2,ha3,iz3,w⟩
     | true =>
      rw [if_pos rfl]
      simp only [e2] at w
      cases e3:k U3 with
      | exc x U4=>simp only [e3] at w;cases w
      | bad=>simp only [e3] at w;cases w
      | ok p3 =>
       obtain ⟨d4,U4⟩:=p3
       simp only [e3] at w
       refine we U3 Z2 H3 _ r3 ?_
       rw [e3]
       intro y4 H4 r4 i4 g4
       have ha4:H4 acc=some (.lst xs):=g4.ext.at_ _ _ (accC Z2 so2) ha3
       have hsz:qP (zs.length+1)=true:=by
        cases e5:qP (zs.length+1) with
        | true=>rfl
        | false=>rw [e5] at w;simp at w
       rw [if_pos hsz] at w
       have hsz':zs.length+1<=sizeLine:=of_decide_eq_true hsz
       have r5:=r4.grow (ys:=xs++[y4]) ha4 (fun j hj e=>accC Z2 so2 j hj e)
       have ext5:Ext (Cn (cin (Cn c Z) H1 (foO fo) (qdG Z fo) acc fun j=>(qK nt fr Z)[j]?) Z2) H4 (upd H4 acc (.lst (xs++[y4]))):=⟨fun b us hb=>by rw [qu (w8 hb ha4 (by intro z;cases z))];exact hb,fun b o u hb=>by rw [qu (w8 hb ha4 (by intro z;cases z))];exact hb,fun b o hb hq=>by rw [qu hb.1.2];exact hq⟩
       refine ⟨xs,ha4,by rw [iz3.length];omega,ds.length-(i+1),by omega,rfl,hlt,U4,zs++[d4],xs++[y4],r5,so2,qt,?_,w⟩
       exact IsL.append (IsL.ext ext5 (fun _ h _=>h) (g4.isL iz3)) (IsL.one (Is.ext ext5 (fun _ h _=>h) i4))
  ·have hie:i=ds.length:=by omega
   subst hie
   rw [List.drop_of_length_le (Nat.le_refl _)] at w
   unfold z6 at w
   cases w
   obtain ⟨r6,g6⟩:=r1.leave hn hfo (fun i j e=>so i (by rw [e];simp [foO])) r'
   exact .inl ⟨iok.stop H' ex,h1 _ H' r6 ⟨acc,xs,rfl,r1.new hn,ha,IsL.ext Ext.refl (fun a ha hs=>ha.1.1) iz⟩ g6⟩
end
theorem Rep.io {K:Fr0} {c:Fc} {U:Env} {Z:St} {H H':Hp} {i:Nat} {a:Addr} {bs:List D} {xs:List V} (r:Rep K c U Z H) (hi:i∈c.O) (hs:Z[i]? = some (some (.ref a))) (kp:∀ b o,b≠a->H b=some o->H' b=some o)
  (ha:H' a=some (.lst xs)) (him:True) (il:IsL K (Cn c Z) H' bs xs) (dm:∀ b,H' b=none->H b=none):Rep K c (U.set i (some (.lst bs))) Z H'/\Gr c.O Z H H':=by
 obtain ⟨a',xs0,e0,h0,hown⟩:=r.own i hi _ hs
 cases e0
 have gr:Gr c.O Z H H':=⟨⟨fun b us hb=>kp b _ (w8 hb h0 (by intro z;cases z)) hb,fun b o u hb=>kp b _ (w8 hb h0 (by intro z;cases z)) hb,fun b o hc hb=>kp b o (fun e=>hc i hi (by rw [hs,e])) hb⟩,dm⟩
 refine ⟨⟨by rw [lS_];exact r.len,fun k d hk => ?_,fun j hj v hv => ?_,r.inj,r.b0,fun b o hb hio => ?_,fun b hb=>r.dm b (dm b hb),r.pO,r.ps⟩,gr⟩
 ·by_cases e:k=i
  ·subst e
   have hl:k<U.length:=by
    have:=(gI_.mp hk).1
    rwa [lS_] at this
   rw [List.getElem?_set_self hl] at hk
   cases hk
   exact ⟨.ref a,hs,.inl ⟨hi,bs,a,xs,rfl,rfl,ha,il⟩⟩
  ·rw [zB e] at hk
   obtain ⟨v,h1,h2⟩:=r.val k d hk
   refine ⟨v,h1,?_⟩
   rcases h2 with ⟨hk2,ds,b,ys,h3,h5,h6,h7⟩ | ⟨hk2,h3⟩
   ·subst h5
    have ne:b≠a:=fun e2=>e (r.inj k i a hk2 hi (by rw [h1,e2]) hs)
    exact .inl ⟨hk2,ds,b,ys,h3,rfl,kp b _ ne h6,gr.isL h7⟩
   ·exact .inr ⟨hk2,gr.is h3⟩
 ·obtain ⟨b,ys,h1,h2,h3⟩:=r.own j hj v hv
  subst h1
  by_cases e:b=a
  ·subst e;exact ⟨b,xs,rfl,ha,h3⟩
  ·exact ⟨b,ys,rfl,kp b _ e h2,h3⟩
 ·have ne:b≠a:=fun e=>by
   subst e
   rcases hown with z | z
   ·rw [hb] at z;cases z
   ·exact hio z.2
  exact kp b o ne (r.kp b o hb hio)
def zD (i:Nat) (U:Env):Option (List D):=match U[i]? with
 | some (some (.lst ds))=>some ds
 | _=>none
theorem qhl {i:Nat} {U:Env} {ds:List D} (h:zD i U=some ds):U[i]? = some (some (.lst ds)):=by
 unfold zD at h
 split at h
 ·rename_i e;cases h;exact e
 ·cases h
theorem Rep.getLO {K:Fr0} {c:Fc} {U:Env} {Z:St} {H:Hp} (r:Rep K c U Z H) {i:Nat} {ds:List D} (hi:i∈c.O) (h:zD i U=some ds) :
  ∃ a xs,True/\Z[i]? = some (some (.ref a))/\H a=some (.lst xs)/\IsL K (Cn c Z) H ds xs:=by
 obtain ⟨ds',a,xs,h1,h3,h4,h5⟩:=r.getO hi (qhl h)
 cases h1
 exact ⟨a,xs,trivial,h3,h4,h5⟩
theorem zM {H:Hp} {a b:Addr} {o u:HO} (h:b≠a) (hb:H b=some o):upd H a u b=some o:=by rw [qu h];exact hb
theorem qeU {H:Hp} {a b:Addr} {u:HO} (h:upd H a u b=none):H b=none:=by
 by_cases e:b=a
 ·subst e;rw [qt] at h;cases h
 ·rw [qu e] at h;exact h
section
variable {X:Cx} {c:Fc} {a b e:Expr} {pos:Pos}
def jo (i:Nat) (f:M D):M D:=fun U=>match zD i U with
 | none => .bad
 | some _=>(bnd f fun d U=>match zD i U with
  | some ds=>if imm d&&qP (ds.length+1) then .ok (.non,U.set i (some (.lst (ds++[d])))) else .bad
  | none => .bad) U
theorem qab {i:Nat} {x:Str} {p1 apos:Pos} {f:M D} (he:DE X c e f) (ho:i∈c.O:=by exact of_decide_eq_true rfl) (hN:X.N[i]? = some x:=by rfl) (hv:Vis X.env.scope x:=by first | exact Or.inl rfl | exact Or.inr (Or.inl rfl) | exact Or.inr (Or.inr rfl)) (hd:(x==("__debug__":Str))=false:=by decide) (hcd:(x==("__classdict__":Str))=false:=by decide)
  (hbase:attributeBase (.Name x p1) "append" X.env (eval (.Name x p1) X.env)=eval (.Name x p1) X.env:=by rfl)
  (hfew:((backTo pos (starEach [e] X.env)).all (fun x => !x.1)&&(backToKw pos (keywordEach [] X.env)).all (fun x=>x.1.isSome)
   && decide ([e].length+([]:List Keyword).length+(if ([]:List Keyword).isEmpty then 0 else 1)<30))=true:=by rfl)
  (hline:(apos.endLine==pos.line)=true:=by rfl) (hs:starEach [e] X.env=(false,eval e X.env)::starEach [] X.env:=by rfl) (hplain:(backTo pos (starEach [] X.env)).any (·.1)=false:=by rfl) :
  DE X c (.Call (.Attribute (.Name x p1) "append" apos) [e] [] pos) (jo i f):=by
 obtain ⟨t,p,w⟩:=he
 refine ⟨_,qns PySem.F.plainAttrs_list PySem.F.slot_list_append PySem.F.type_list_append qbH (w9 hN hv hd hcd) (u3 p qcK hs) hbase hfew hline hs hplain,fun U Z H Q r h => ?_⟩
 unfold jo at h
 cases e0:zD i U with
 | none=>rw [e0] at h;exact h.elim
 | some ds0 =>
  simp only [e0] at h
  obtain ⟨l,xs0,_,hl,hH,_⟩:=r.getLO ho e0
  refine ⟨.ref l,hl,.inl ⟨rfl,xs0,.inl (.inl hH)⟩,w U Z H _ r (Wp.bnd h fun d U1 v H1 r1 i1 g1 h1 => ?_)⟩
  cases e1:zD i U1 with
  | none=>simp only [e1] at h1;exact h1.elim
  | some ds =>
   simp only [e1] at h1
   by_cases hb:(imm d&&qP (ds.length+1))=true
   ·rw [if_pos hb] at h1
    rw [Bool.and_eq_true] at hb
    obtain ⟨l',xs,him,hl',hH',il⟩:=r1.getLO ho e1
    rw [hl] at hl'
    cases hl'
    have hsz:ds.length+1<=sizeLine:=of_decide_eq_true hb.2
    have ext:Ext (Cn c Z) H1 (upd H1 l (.lst (xs++[v]))):=⟨fun b us hb=>zM (w8 hb hH' (by intro z;cases z)) hb,fun b o u hb=>zM (w8 hb hH' (by intro z;cases z)) hb,fun b o hb hq=>zM (fun e=>hb.2 i ho (by rw [hl,e])) hq⟩
    obtain ⟨r2,g2⟩:=r1.io (H':=upd H1 l (.lst (xs++[v]))) (bs:=ds++[d]) ho hl (fun b o hb ho=>zM hb ho) qt trivial
     (IsL.append (IsL.ext ext (fun _ h _=>h) il) (IsL.one (Is.ext ext (fun _ h _=>h) i1))) (fun b hb=>qeU hb)
    exact ⟨l,xs,v,rfl,rfl,hH',by rw [il.length];omega,h1 _ _ r2 rfl g2⟩
   ·rw [if_neg hb] at h1;exact h1.elim
def qeV (i:Nat) (k f:M D):MS:=sbnd f fun d U=>match zD i U with
 | none => .bad
 | some _=>(sbnd k fun j U=>match j,zD i U with
  | .int n,some ds=>match ixN ds.length n with
   | some q=>if imm d then .ok (.nx (U.set i (some (.lst (ds.set q d))))) else .bad
   | none => .bad
  | _,_ => .bad) U
theorem qhm {i:Nat} {x:Str} {p1 p2:Pos} {ke:Expr} {f k:M D} (he:DE X c e f) (hk:DE X c ke k) (ho:i∈c.O:=by exact of_decide_eq_true rfl) (hN:X.N[i]? = some x:=by rfl) (hv:Vis X.env.scope x:=by first | exact Or.inl rfl | exact Or.inr (Or.inl rfl) | exact Or.inr (Or.inr rfl)) (hd:(x==("__debug__":Str))=false:=by decide) (hcd:(x==("__classdict__":Str))=false:=by decide)
  (ha:∀ v,assign (.Subscript (.Name x p1) ke p2) X.env v=(do
   let ov <- holding [v] (eval (.Name x p1) X.env)
   let iv <- holding [v,ov] (eval ke X.env)
   standAt p2
   holding [v,ov,iv] (setItem ov iv v)
   release [v,ov,iv] []):=by intro _;rfl)
  (hs:swapsWithSole [.Subscript (.Name x p1) ke p2] e pos.line X.env=pure false:=by rfl) (hw:swappedStores [.Subscript (.Name x p1) ke p2] e X.env=pure none:=by rfl) (h1:(assignEach [.Subscript (.Name x p1) ke p2] X.env).map (·.2)=[assign (.Subscript (.Name x p1) ke p2) X.env]:=by rfl) :
  DS X c (.Assign [.Subscript (.Name x p1) ke p2] e pos) (qeV i k f):=by
 obtain ⟨t,p,w⟩:=he
 obtain ⟨tk,pk,wk⟩:=hk
 refine ⟨_,qkb p (qm5 (w9 hN hv hd hcd) pk qi0 ha) hs hw h1,fun U Z H D r h=>w U Z H _ r (Wp.sbnd h fun d U1 v H1 r1 i1 g1 h1 => ?_)⟩
 cases e0:zD i U1 with
 | none=>simp only [e0] at h1;exact h1.elim
 | some ds0 =>
  simp only [e0] at h1
  obtain ⟨l,xs0,_,hl,hH,_⟩:=r1.getLO ho e0
  refine ⟨.ref l,hl,wk U1 Z H1 _ r1 (Wp.sbnd h1 fun j U2 u H2 r2 i2 g2 h2 => ?_)⟩
  cases j with
  | int n =>
   cases e1:zD i U2 with
   | none=>simp only [e1] at h2;exact h2.elim
   | some ds =>
    simp only [e1] at h2
    cases e2:ixN ds.length n with
    | none=>simp only [e2] at h2;exact h2.elim
    | some q =>
     simp only [e2] at h2
     by_cases hb:imm d=true
     ·rw [if_pos hb] at h2
      obtain ⟨l',xs,him,hl',hH',il⟩:=r2.getLO ho e1
      rw [hl] at hl'
      cases hl'
      cases i2
      have i3:=g2.is i1
      have ext:Ext (Cn c Z) H2 (upd H2 l (.lst (xs.set q v))):=⟨fun b us hb=>zM (w8 hb hH' (by intro z;cases z)) hb,fun b o u hb=>zM (w8 hb hH' (by intro z;cases z)) hb,fun b o hb hq=>zM (fun e=>hb.2 i ho (by rw [hl,e])) hq⟩
      obtain ⟨r3,g3⟩:=r2.io (H':=upd H2 l (.lst (xs.set q v))) (bs:=ds.set q d) ho hl (fun b o hb ho=>zM hb ho) qt trivial
       (IsL.set (Is.ext ext (fun _ h _=>h) i3) q (IsL.ext ext (fun _ h _=>h) il)) (fun b hb=>qeU hb)
      exact ⟨l,xs,n,q,rfl,rfl,hH',by rw [il.length];exact e2,h2 Z _ r3 g3.s⟩
     ·rw [if_neg hb] at h2;exact h2.elim
  | _=>exact h2.elim
structure qjh (K:Fr0) (c:Fc) (U:Env) (Z:St) (H:Hp) (a:Addr):Prop where
 val:∀ i d v,U[i]? = some (some d)->i ∉ c.O->Z[i]? = some (some v)->Is K (fun b=>Cn c Z b/\b≠a) H d v
 cont:∀ i ds b xs,U[i]? = some (some (.lst ds))->i∈c.O->Z[i]? = some (some (.ref b))->H b=some (.lst xs)->IsL K (Cn c Z) H ds xs->IsL K (fun b=>Cn c Z b/\b≠a) H ds xs
 own:∀ j∈c.O,Z[j]? ≠ some (some (.ref a))
 new:c.H0 a=none
theorem Is.fresh {K:Fr0} {A:Addr->Prop} {H:Hp} {d:D} {v:V} {a:Addr} (h:Is K A H d v) (hn:H a=none):Is K (fun b=>A b/\b≠a) H d v:=Is.ext Ext.refl (fun b h1 h2=>⟨h1,fun e=>by rw [e,hn] at h2;cases h2⟩) h
theorem Rep.apart {K:Fr0} {U:Env} {Z:St} {H:Hp} {a:Addr} {o:HO} (r:Rep K c U Z H) (hn:H a=none):qjh K c U Z (upd H a o) a where
 val:=fun i d v h1 h2 h3=>by
  obtain ⟨w,h4,h5⟩:=r.get h2 h1
  rw [h3] at h4
  cases h4
  exact Is.ext (Ext.of_same (qy hn _)) (fun _ h _=>h) (h5.fresh hn)
 cont:=fun i ds b xs h1 h2 h3 h4 _=>by
  obtain ⟨ds',a',ys,e1,e2,e3,e4⟩:=r.getO h2 h1
  cases e1
  rw [h3] at e2
  cases e2
  have:=qy hn o _ _ e3
  rw [h4] at this
  cases this
  exact IsL.ext (Ext.of_same (qy hn _)) (fun b hb hs=>⟨hb,fun e=>by rw [e,hn] at hs;cases hs⟩) e4
 own:=fun j hj e=>(r.new hn).2 j hj e
 new:=r.dm a hn
theorem Rep.apart_same {K:Fr0} {U:Env} {Z:St} {H H':Hp} {a:Addr} (r:Rep K c U Z H) (hn:H a=none) (sm:jp H H'):qjh K c U Z H' a where
 val:=fun i d v h1 h2 h3=>by
  obtain ⟨w,h4,h5⟩:=r.get h2 h1
  rw [h3] at h4
  cases h4
  exact Is.ext (Ext.of_same sm) (fun _ h _=>h) (h5.fresh hn)
 cont:=fun i ds b xs h1 h2 h3 h4 _=>by
  obtain ⟨ds',a',ys,e1,e2,e3,e4⟩:=r.getO h2 h1
  cases e1
  rw [h3] at e2
  cases e2
  have:=sm _ _ e3
  rw [h4] at this
  cases this
  exact IsL.ext (Ext.of_same sm) (fun b hb hs=>⟨hb,fun e=>by rw [e,hn] at hs;cases hs⟩) e4
 own:=fun j hj e=>(r.new hn).2 j hj e
 new:=r.dm a hn
def WpN (K:Fr0) (c:Fc) (Z:St) (H:Hp) (Q:VK):R (List D×Env)->Prop
 | .ok (ds,U)=>∀ a xs H',H a=none->Rep K c U Z H'->qjh K c U Z H' a->H' a=some (.lst xs)->True->IsL K (fun b=>Cn c Z b/\b≠a) H' ds xs->Gr c.O Z H H'->Q (.ref a) H'
 | .exc x U=>∀ H',Rep K c U Z H'->Gr c.O Z H H'->c.E x H'
 | .bad=>False
def DN (X:Cx) (c:Fc) (e:Expr) (f:M (List D)):Prop:=∃ t,PE X e t/\∀ U Z H Q,Rep X.K c U Z H->WpN X.K c Z H Q (f U)->t Z H Q
theorem WpN.gr {K:Fr0} {Z:St} {H H1:Hp} {Q:VK}:∀ {r:R (List D×Env)},WpN K c Z H Q r->Gr c.O Z H H1->WpN K c Z H1 Q r
 | .ok (d,U),h,g=>fun a xs H' hn h1 h2 h3 h4 h5 hg=>h a xs H' (g.dom a hn) h1 h2 h3 h4 h5 (g.trans hg)
 | .exc x U,h,g=>fun H' hr hg=>h H' hr (g.trans hg)
 | .bad,h,_=>h
theorem WpL.bndN {K:Fr0} {Z:St} {H:Hp} {Q:VK} {f:M (List D)} {k:List D->M (List D)} {U:Env} {Q':List V->Hp->Prop} (h:WpN K c Z H Q (Sk.bnd f k U)) (hQ:∀ d U' v H',Rep K c U' Z H'->IsL K (Cn c Z) H' d v->Gr c.O Z H H'->WpN K c Z H' Q (k d U')->Q' v H'):WpL K c Z H Q' (f U):=by
 unfold Sk.bnd at h
 cases e:f U with
 | ok p=>rw [e] at h;exact fun v H' hr hi hg=>hQ p.1 p.2 v H' hr hi hg (h.gr hg)
 | exc x U'=>rw [e] at h;exact h
 | bad=>rw [e] at h;exact h
def qlD (f:M (List D)):M (List D):=bnd f fun ds=>lift (if immL ds&&qP ds.length then some ds else none)
theorem qfz {es:List Expr} {f:M (List D)} (h:DA X c es f):DN X c (.List es pos) (qlD f):=by
 obtain ⟨t,p,w⟩:=h
 refine ⟨_,qg3 p,fun U Z H Q r h=>w U Z H _ r (WpL.bndN h fun ds U1 vs H1 r1 i1 g1 h1 => ?_)⟩
 by_cases hb:(immL ds&&qP ds.length)=true
 ·rw [if_pos hb] at h1
  rw [Bool.and_eq_true] at hb
  refine ⟨by rw [i1.length];exact of_decide_eq_true hb.2,fun p hp => ?_⟩
  exact h1 p vs _ hp (r1.laid hp _) (r1.apart hp) qt trivial (IsL.ext (Ext.of_same (qy hp _)) (fun b h hs=>⟨h,fun e=>by rw [e,hp] at hs;cases hs⟩) i1) (.of_same (qy hp _))
 ·rw [if_neg hb] at h1;exact h1.elim
theorem Cl.setO {O:List Nat} {Z:St} {i:Nat} {a b:Addr} (h:Cl O Z b) (hb:b≠a):Cl O (Z.set i (some (.ref a))) b:=fun j hj e=>by
 by_cases hji:j=i
 ·subst hji
  have hl:j<Z.length:=by
   have:=(gI_.mp e).1
   rwa [lS_] at this
  rw [List.getElem?_set_self hl] at e
  cases e
  exact hb rfl
 ·rw [zB hji] at e
  exact h j hj e
theorem Rep.setO {K:Fr0} {U:Env} {Z:St} {H:Hp} {i:Nat} {a:Addr} {ds:List D} {xs:List V} (r:Rep K c U Z H) (hi:i∈c.O) (hP:i ∉ c.P) (ap:qjh K c U Z H a) (ha:H a=some (.lst xs)) (him:True) (il:IsL K (fun b=>Cn c Z b/\b≠a) H ds xs) :
  Rep K c (U.set i (some (.lst ds))) (Z.set i (some (.ref a))) H where
 len:=by rw [lS_,lS_];exact r.len
 val := fun j e hj=>by
  by_cases e1:j=i
  ·subst e1
   have hl:j<U.length:=by
    have:=(gI_.mp hj).1
    rwa [lS_] at this
   rw [List.getElem?_set_self hl] at hj
   cases hj
   exact ⟨.ref a,List.getElem?_set_self (by rw [<- r.len];exact hl),.inl ⟨hi,ds,a,xs,rfl,rfl,ha,IsL.ext Ext.refl (fun b hb _=>⟨hb.1.1,hb.1.2.setO hb.2⟩) il⟩⟩
  ·rw [zB e1] at hj
   obtain ⟨w,h1,h2⟩:=r.val j e hj
   refine ⟨w,by rw [zB e1];exact h1,?_⟩
   rcases h2 with ⟨g1,ds',b',xs',g3,g5,g6,g7⟩ | ⟨h3,h4⟩
   ·subst g3 g5
    exact .inl ⟨g1,ds',b',xs',rfl,rfl,g6,IsL.ext Ext.refl (fun b hb _=>⟨hb.1.1,hb.1.2.setO hb.2⟩) (ap.cont j ds' b' xs' hj g1 h1 g6 g7)⟩
   ·exact .inr ⟨h3,Is.ext Ext.refl (fun b hb _=>⟨hb.1.1,hb.1.2.setO hb.2⟩) (ap.val j e w hj h3 h1)⟩
 own := fun j hj w h=>by
  by_cases e1:j=i
  ·subst e1
   have hl:j<Z.length:=by
    have:=(gI_.mp h).1
    rwa [lS_] at this
   rw [List.getElem?_set_self hl] at h
   cases h
   exact ⟨a,xs,rfl,ha,.inl ap.new⟩
  ·rw [zB e1] at h
   exact r.own j hj w h
 inj := fun j k b hj hk h1 h2=>by
  by_cases e1:j=i
  ·by_cases e2:k=i
   ·rw [e1,e2]
   ·subst e1
    have hl:j<Z.length:=by
     have:=(gI_.mp h1).1
     rwa [lS_] at this
    rw [List.getElem?_set_self hl] at h1
    cases h1
    rw [zB e2] at h2
    exact absurd h2 (ap.own k hk)
  ·by_cases e2:k=i
   ·subst e2
    have hl:k<Z.length:=by
     have:=(gI_.mp h2).1
     rwa [lS_] at this
    rw [List.getElem?_set_self hl] at h2
    cases h2
    rw [zB e1] at h1
    exact absurd h1 (ap.own j hj)
   ·rw [zB e1] at h1
    rw [zB e2] at h2
    exact r.inj j k b hj hk h1 h2
 b0:=r.b0
 kp:=r.kp
 dm:=r.dm
 pO:=r.pO
 ps:=fun j hj=>by
  have e:j≠i:=fun e=>hP (e▸hj)
  rw [zB e];exact r.ps j hj
def qaK (i:Nat) (f:M (List D)):MS:=sbnd f fun ds U => .ok (.nx (U.set i (some (.lst ds))))
theorem wK {i:Nat} {x:Str} {pos':Pos} {f:M (List D)} (hN:X.N.Nodup) (he:DN X c e f) (ho:i∈c.O:=by exact of_decide_eq_true rfl) (hP:i ∉ c.P:=by exact of_decide_eq_false rfl) (hi:X.N[i]? = some x:=by rfl) (hx:Loc X.env.scope x:=by first | exact Or.inl rfl | exact Or.inr rfl) (hs:swapsWith e (some (.Name x pos')) pos.line X.env=pure false:=by rfl) (hf:X.fn x=true\/X.env.scope.names.lookup x=some .local:=by first | exact .inl rfl | exact .inr rfl | assumption) :
  DS X c (.Assign [.Name x pos'] e pos) (qaK i f):=by
 obtain ⟨t,p,w⟩:=he
 refine ⟨_,qkc hN hi hx p hs hf,fun U Z H D r h=>w U Z H _ r ?_⟩
 unfold qaK sbnd at h
 cases ef:f U with
 | bad=>rw [ef] at h;exact h
 | exc z U'=>rw [ef] at h;exact fun H' hr hg=>h Z H' hr hg.s
 | ok q =>
  rw [ef] at h
  intro a xs H' hn r' ap ha him il g'
  exact h _ H' (r'.setO ho hP ap ha him il) ⟨g'.ext,fun b hb hs=>hb.setO (fun e=>by rw [e,hn] at hs;exact absurd hs (by simp)),g'.dom⟩
def qnL (i:Nat):M D:=fun U=>match zD i U with
 | some ds => .ok (.int ds.length,U)
 | none => .bad
def qd7 (i:Nat):M D:=fun U=>match zD i U with
 | some ds => .ok (.tup ds,U)
 | none => .bad
theorem qc7 {i:Nat} {x:Str} {p p1:Pos} (hg:Gl X "tuple") (hm:X.mg "tuple"=none) (hb:bootBuiltins "tuple"=some (.type "tuple"):=by first | rfl | exact PySem.boot_tuple) (ho:i∈c.O:=by exact of_decide_eq_true rfl) (hN:X.N[i]? = some x:=by rfl) (hv:Vis X.env.scope x:=by first | exact Or.inl rfl | exact Or.inr (Or.inl rfl) | exact Or.inr (Or.inr rfl)) (hd:(x==("__debug__":Str))=false:=by decide) (hcd:(x==("__classdict__":Str))=false:=by decide) :
  DE X c (.Call (.Name "tuple" p) [.Name x p1] [] pos) (qd7 i):=by
 refine ⟨_,qdQ u4 hg hm hb (u3 (w9 hN hv hd hcd) qcK),fun U Z H Q r h => ?_⟩
 unfold qd7 at h
 cases e0:zD i U with
 | none=>simp only [e0] at h;exact h.elim
 | some ds =>
  simp only [e0] at h
  obtain ⟨l,xs,him,hl,hH,il⟩:=r.getLO ho e0
  refine ⟨.ref l,hl,l,xs,rfl,.inl ⟨.inl (.inl hH),fun p hp=>h _ _ (r.laid hp _) ⟨p,xs,rfl,.inl qt,?_⟩ (.of_same (qy hp _))⟩⟩
  exact IsL.ext (Ext.of_same (qy hp _)) (fun _ h _=>h) il
def qhn (i:Nat) (g:M D):M D:=fun U=>match zD i U with
 | none => .bad
 | some _=>(bnd g fun k U=>match k,zD i U with
  | .int n,some ds=>match atI ds n with
   | some d => .ok (d,U)
   | none => .bad
  | _,_ => .bad) U
theorem qkq {i:Nat} {x:Str} {p1:Pos} {g:M D} (hb:DE X c b g) (hs:qeP b:=by intro _ _;rfl) (ho:i∈c.O:=by exact of_decide_eq_true rfl) (hN:X.N[i]? = some x:=by rfl) (hv:Vis X.env.scope x:=by first | exact Or.inl rfl | exact Or.inr (Or.inl rfl) | exact Or.inr (Or.inr rfl)) (hd:(x==("__debug__":Str))=false:=by decide) (hcd:(x==("__classdict__":Str))=false:=by decide) :
  DE X c (.Subscript (.Name x p1) b pos) (qhn i g):=by
 obtain ⟨tb,pb,wb⟩:=hb
 refine ⟨_,qno qg8 (w9 hN hv hd hcd) pb hs,fun U Z H Q r h => ?_⟩
 unfold qhn at h
 cases e0:zD i U with
 | none=>simp only [e0] at h;exact h.elim
 | some ds0 =>
  simp only [e0] at h
  obtain ⟨l,xs0,_,hl,hH,_⟩:=r.getLO ho e0
  refine ⟨.ref l,hl,wb U Z H _ r (Wp.bnd h fun k U1 v H1 r1 i1 g1 h1 => ?_)⟩
  cases k with
  | int n =>
   cases e1:zD i U1 with
   | none=>simp only [e1] at h1;exact h1.elim
   | some ds =>
    simp only [e1] at h1
    cases e2:atI ds n with
    | none=>simp only [e2] at h1;exact h1.elim
    | some d =>
     simp only [e2] at h1
     obtain ⟨l',xs,him,hl',hH',il⟩:=r1.getLO ho e1
     rw [hl] at hl'
     cases hl'
     cases i1
     obtain ⟨w,h3,h4⟩:=il.atI e2
     exact ⟨l,xs,n,w,rfl,rfl,.inl (.inl hH'),h3,h1 w H1 r1 h4 .refl⟩
  | _=>exact h1.elim
def qji (i:Nat):MS:=fun U=>match zD i U with
 | some ds => .ok (.rt (.lst ds) U)
 | none => .bad
theorem qho {i:Nat} {x:Str} {p1:Pos} (ho:i∈c.O:=by exact of_decide_eq_true rfl) (hP:i ∉ c.P:=by exact of_decide_eq_false rfl) (hN:X.N[i]? = some x:=by rfl) (hv:Vis X.env.scope x:=by first | exact Or.inl rfl | exact Or.inr (Or.inl rfl) | exact Or.inr (Or.inr rfl)) (hd:(x==("__debug__":Str))=false:=by decide) (hcd:(x==("__classdict__":Str))=false:=by decide) :
  DS X c (.Return (some (.Name x p1)) pos) (qji i):=by
 refine ⟨_,qka (w9 hN hv hd hcd),fun U Z H D r h => ?_⟩
 unfold qji at h
 cases e0:zD i U with
 | none=>simp only [e0] at h;exact h.elim
 | some ds =>
  simp only [e0] at h
  obtain ⟨l,xs,him,hl,hH,il⟩:=r.getLO ho e0
  obtain ⟨a,ys,e1,e2,e3⟩:=r.own i ho _ hl
  cases e1
  have hB:c.B l:=by
   rcases e3 with z | z
   ·exact r.b0.1 l z
   ·exact absurd z.1 hP
  exact ⟨.ref l,hl,h (.ref l) Z H r ⟨l,xs,rfl,hB,hH,IsL.ext Ext.refl (fun _ h _=>h.1) il⟩ .refl⟩
end
def cfn (O P:List Nat) (A:Addr->Prop) (H:Hp) (Io:Addr->Prop) (E:Exn->Hp->Prop) (S:Nat->Option (Option V)):Fc where
 O:=O
 P:=P
 B:=fun a=>A a\/H a=none
 H0:=H
 Io:=Io
 E:=E
 S:=S
def ux (n:Nat) (ds:List D):Env:=ds.map some++List.replicate (n-ds.length) none
def spD (K:Fr0) (F:List D->R D):Sp:=fun vs H Q _=>∃ ds A,IsL K A H ds vs/\qhb K H/\match F ds with
 | .ok d=>∀ v H',jp H H'->Is K (fun a=>A a\/H a=none) H' d v->Q v H'
 | _=>False
def qkr (K:Fr0) (F:List D->List D->R (D×List D)):Sp:=fun vs H Q _=>∃ (bs ds:List D) (A:Addr->Prop) (a:Addr) (xs vs':List V),vs = .ref a::vs'/\H a=some (.lst xs)/\qhb K H/\IsL K A H bs xs/\¬ A a/\IsL K A H ds vs'/\match F bs ds with
 | .ok (d,bs')=>∀ v H' xs',(∀ b o,b≠a->H b=some o->H' b=some o)->(∀ b,H' b=none->H b=none)->H' a=some (.lst xs')->True->IsL K (fun b=>A b\/H b=none) H' bs' xs'->Is K (fun b=>A b\/H b=none) H' d v->Q v H'
 | _=>False
def dfn (n p:Nat) (body:MS) (ds:List D):R D:=if ds.length=p then match body (ux n ds) with
 | .ok (.rt d _) => .ok d
 | .ok (.nx _) => .ok .non
 | _ => .bad else .bad
def qc8 (n p:Nat) (body:MS) (bs ds:List D):R (D×List D):=if ds.length+1=p then match body (ux n (.lst bs::ds)) with
 | .ok (.rt d U)=>match zD 0 U with
  | some bs' => .ok (d,bs')
  | none => .bad
 | .ok (.nx U)=>match zD 0 U with
  | some bs' => .ok (.non,bs')
  | none => .bad
 | _ => .bad else .bad
theorem qac {N:List Str} {vs:List V} {i:Nat} {v:V} (h:(ja N vs)[i]? = some (some v)):vs[i]? = some v:=by
 unfold ja at h
 by_cases hi:i<vs.length
 ·rw [List.getElem?_append_left (by simpa using hi),gM_] at h
  cases e:vs[i]? with
  | none=>rw [e] at h;cases h
  | some w=>rw [e] at h;cases h;rfl
 ·rw [List.getElem?_append_right (by simpa using hi),List.getElem?_replicate] at h
  split at h<;>cases h
theorem qbx {N:List Str} {vs:List V} {i:Nat} {v:V} (h:vs[i]? = some v):(ja N vs)[i]? = some (some v):=by
 unfold ja
 have hi:i<vs.length:=(gI_.mp h).1
 rw [List.getElem?_append_left (by simpa using hi),gM_,h];rfl
theorem qd8 {n:Nat} {ds:List D} {i:Nat} {d:D} (h:(ux n ds)[i]? = some (some d)):ds[i]? = some d:=by
 unfold ux at h
 by_cases hi:i<ds.length
 ·rw [List.getElem?_append_left (by simpa using hi),gM_] at h
  cases e:ds[i]? with
  | none=>rw [e] at h;cases h
  | some w=>rw [e] at h;cases h;rfl
 ·rw [List.getElem?_append_right (by simpa using hi),List.getElem?_replicate] at h
  split at h<;>cases h
theorem qbT {K:Fr0} {N:List Str} {O:List Nat} {A:Addr->Prop} {H:Hp} {E:Exn->Hp->Prop} {ds:List D} {vs:List V} (il:IsL K A H ds vs) (tb:qhb K H) (hO:∀ i∈O,ds.length<=i) :
  Rep K (cfn O [] A H (fun _=>False) E fun _=>none) (ux N.length ds) (ja N vs) H where
 len:=by unfold ux ja;simp [il.length]
 val:=fun i d h=>by
  have h1:=qd8 h
  obtain ⟨v,h2,h3⟩:=il.get h1
  have hi:i ∉ O:=fun z=>by
   have:=(gI_.mp h1).1
   have:=hO i z
   omega
  refine ⟨v,qbx h2,.inr ⟨hi,Is.ext Ext.refl (fun a ha _=>⟨.inl ha,fun j hj e => ?_⟩) h3⟩⟩
  have:=(gI_.mp (qac e)).1
  have:=hO j hj
  rw [il.length] at *
  omega
 own:=fun j hj v h=>by
  have:=(gI_.mp (qac h)).1
  have:=hO j hj
  rw [il.length] at *
  omega
 inj:=fun i j a hi hj h1 h2=>by
  have:=(gI_.mp (qac h1)).1
  have:=hO i hi
  rw [il.length] at *
  omega
 b0:=⟨fun a h => .inr h,tb⟩
 kp:=fun b o h _=>h
 dm:=fun b h=>h
 pO:=fun j hj=>by cases hj
 ps:=fun j hj=>by cases hj
section
variable {P:Program} {w:World} {K:PySem.W.Frag} {mg:Str->Option Value} {base:Heap}
theorem qw {x qual:Str} {st:Stmt} {f:Addr} {fd:FuncData} {N ps:List Str} {k:Nat} {O:List Nat} {body:MS} (F:Fun K x qual st f fd) (S:qp N ps (qe st)) (hO:∀ i∈O,ps.length<=i)
  (hb:∀ (cdv:Value) (A:Around) (outer:List PySem.Env) (s:Shared) (H:Hp) (E:XK) (B:Addr->Prop),vv k (A.deeper (envOfC qual (qe st) s.heap.objs.size f cdv)) ->
   DSs (qiX CX0 P w K mg base N qual (qe st) f cdv A outer s H E).nox (cfn O [] B H (fun _=>False) (fun _ _=>False) fun _=>none) (qo st) body) :
  qct P w K mg base CX0 (k+1) f fd ps (spD K (dfn N.length ps.length body)):=by
 refine F.ok S (fun vs H Q E h => ?_) (fun cdv A outer s H vs Q E hr h => ?_)
 ·obtain ⟨ds,B,il,_,h⟩:=h
  unfold dfn at h
  by_cases e:ds.length=ps.length
  ·rw [il.length];exact e
  ·rw [if_neg e] at h;exact h.elim
 ·obtain ⟨ds,B,il,tb,h⟩:=h
  obtain ⟨t,p,wt⟩:=hb cdv A outer s H E B hr
  refine ⟨t,p,?_⟩
  unfold dfn at h
  by_cases e:ds.length=ps.length
  ·rw [if_pos e] at h
   refine wt (ux N.length ds) (ja N vs) H _ (qbT il tb (fun i hi=>by rw [e];exact hO i hi)) ?_
   have same:∀ {U:Env} {Z:St} {H':Hp},Rep K (cfn O [] B H (fun _=>False) (fun _ _=>False) fun _=>none) U Z H'->jp H H':=fun r b o hb=>r.kp b o hb fun z=>z
   cases eb:body (ux N.length ds) with
   | bad=>rw [eb] at h;exact h.elim
   | exc z U=>rw [eb] at h;exact h.elim
   | ok fl =>
    rw [eb] at h
    cases fl with
    | nx U=>exact fun Z' H' r' _=>h .non H' (same r') rfl
    | rt d U=>exact fun v Z' H' r' i' _=>h v H' (same r') i'
    | bk U=>exact h.elim
    | ct U=>exact h.elim
  ·rw [if_neg e] at h;exact h.elim
theorem qnM {x qual:Str} {st:Stmt} {f:Addr} {fd:FuncData} {N ps:List Str} {k:Nat} {O:List Nat} {body:MS} (F:Fun K x qual st f fd) (S:qp N ps (qe st)) (hO:∀ i∈O,i=0\/ps.length<=i) (h0:0∈O)
  (hb:∀ (cdv:Value) (A:Around) (outer:List PySem.Env) (s:Shared) (H:Hp) (E:XK) (B Io:Addr->Prop) (S:Nat->Option (Option V)),vv k (A.deeper (envOfC qual (qe st) s.heap.objs.size f cdv)) ->
   DSs (qiX CX0 P w K mg base N qual (qe st) f cdv A outer s H E).nox (cfn O [0] B H Io (fun _ _=>False) S) (qo st) body) :
  qct P w K mg base CX0 (k+1) f fd ps (qkr K (qc8 N.length ps.length body)):=by
 refine F.ok S (fun vs H Q E h => ?_) (fun cdv A outer s H vs Q E hr h => ?_)
 ·obtain ⟨bs,ds,B,a,xs,vs',rfl,ha,him,ib,nA,il,h⟩:=h
  unfold qc8 at h
  by_cases e:ds.length+1=ps.length
  ·rw [lC_,il.length];exact e
  ·rw [if_neg e] at h;exact h.elim
 ·obtain ⟨bs,ds,B,a,xs,vs',rfl,ha,him,ib,nA,il,h⟩:=h
  obtain ⟨t,p,wt⟩:=hb cdv A outer s H E B (fun b=>b=a) (fun j=>(ja N (.ref a::vs'))[j]?) hr
  refine ⟨t,p,?_⟩
  unfold qc8 at h
  by_cases e:ds.length+1=ps.length
  ·rw [if_pos e] at h
   have only:∀ j∈O,∀ v,(ja N (.ref a::vs'))[j]? = some (some v)->j=0/\v = .ref a:=fun j hj v hv=>by
    have h1:=qac hv
    rcases hO j hj with z | z
    ·subst z;cases h1;exact ⟨rfl,rfl⟩
    ·have:=(gI_.mp h1).1
     rw [lC_,il.length] at this
     omega
   have r0:Rep K (cfn O [0] B H (fun b=>b=a) (fun _ _=>False) fun j=>(ja N (.ref a::vs'))[j]?) (ux N.length (.lst bs::ds)) (ja N (.ref a::vs')) H:=by
    refine ⟨by unfold ux ja;simp [il.length],fun i d hd => ?_,fun j hj v hv => ?_,fun i j b hi hj h1 h2 => ?_,⟨fun b hb => .inr hb,fun q P pos eP=>⟨(him q P pos eP).1,fun z=>by have:=(him q P pos eP).1;rw [z,ha] at this;cases this⟩⟩,fun b o hb _=>hb,fun b hb=>hb,fun j hj => ?_,fun _ _=>rfl⟩
    ·have h1:=qd8 hd
     cases i with
     | zero =>
      cases h1
      exact ⟨.ref a,qbx rfl,.inl ⟨h0,bs,a,xs,rfl,rfl,ha,IsL.ext Ext.refl (fun b hb _=>⟨.inl hb,fun j hj e2=>by obtain ⟨_,e3⟩:=only j hj _ e2;cases e3;exact nA hb⟩) ib⟩⟩
     | succ i =>
      have h1':ds[i]? = some d:=by simpa using h1
      obtain ⟨v,h2,h3⟩:=il.get h1'
      have hi:i+1 ∉ O:=fun z=>by
       have h4:=(gI_.mp h1').1
       rcases hO _ z with q | q
       ·cases q
       ·omega
      refine ⟨v,qbx (by simpa using h2),.inr ⟨hi,Is.ext Ext.refl (fun b hb _=>⟨.inl hb,fun j hj e2 => ?_⟩) h3⟩⟩
      obtain ⟨_,e3⟩:=only j hj _ e2
      cases e3
      exact nA hb
    ·obtain ⟨rfl,rfl⟩:=only j hj v hv
     exact ⟨a,xs,rfl,ha,.inr ⟨by simp [cfn],rfl⟩⟩
    ·rw [(only i hi _ h1).1,(only j hj _ h2).1]
    ·have:j=0:=by simpa [cfn] using hj
     rw [this];exact h0
   refine wt _ _ H _ r0 ?_
   have fin:∀ {U:Env} {Z:St} {H':Hp} {bs':List D},Rep K (cfn O [0] B H (fun b=>b=a) (fun _ _=>False) fun j=>(ja N (.ref a::vs'))[j]?) U Z H'->zD 0 U=some bs' ->
     ∃ xs',H' a=some (.lst xs')/\True/\IsL K (fun b=>B b\/H b=none) H' bs' xs':=fun {U Z H' bs'} r e1=>by
    obtain ⟨l,ys,h1,h2,h3,h4⟩:=r.getLO h0 e1
    have h5:=r.ps 0 (by simp [cfn])
    have h6:(cfn O [0] B H (fun b=>b=a) (fun _ _=>False) fun j=>(ja N (.ref a::vs'))[j]?).S 0=some (some (.ref a)):=qbx rfl
    rw [h2,h6] at h5
    cases h5
    exact ⟨ys,h3,h1,IsL.ext Ext.refl (fun b hb _=>hb.1) h4⟩
   have kps:∀ {U:Env} {Z:St} {H':Hp},Rep K (cfn O [0] B H (fun b=>b=a) (fun _ _=>False) fun j=>(ja N (.ref a::vs'))[j]?) U Z H'->∀ b o,b≠a->H b=some o->H' b=some o:=fun r b o hb ho=>r.kp b o ho hb
   cases eb:body (ux N.length (.lst bs::ds)) with
   | bad=>rw [eb] at h;exact h.elim
   | exc z U=>rw [eb] at h;exact h.elim
   | ok fl =>
    rw [eb] at h
    cases fl with
    | nx U =>
     cases eg:zD 0 U with
     | none=>simp only [eg] at h
     | some bs' =>
      simp only [eg] at h
      exact fun Z' H' r' _=>by
       obtain ⟨xs',h1,h2,h3⟩:=fin r' eg
       exact h .non H' xs' (kps r') (fun b hb=>r'.dm b hb) h1 h2 h3 rfl
    | rt d U =>
     cases eg:zD 0 U with
     | none=>simp only [eg] at h
     | some bs' =>
      simp only [eg] at h
      exact fun v Z' H' r' i' _=>by
       obtain ⟨xs',h1,h2,h3⟩:=fin r' eg
       exact h v H' xs' (kps r') (fun b hb=>r'.dm b hb) h1 h2 h3 i'
    | bk U=>exact h.elim
    | ct U=>exact h.elim
  ·rw [if_neg e] at h;exact h.elim
end
section
variable {X:Cx} {c:Fc} {a b e:Expr} {pos:Pos}
def qg (F:List D->R D) (g:M (List D)):M D:=bnd g fun ds U=>match F ds with
 | .ok d => .ok (d,U)
 | _ => .bad
theorem qlE {k:Nat} {f:Addr} {fd:FuncData} {ps:List Str} {F:List D->R D} {x:Str} {p:Pos} {es:List Expr} {g:M (List D)} (G:qct X.prog X.w X.K X.mg X.base CX0 k f fd ps (spD X.K F)) (hr:vv k X.A) (hg:Gl X x) (hm:X.mg x=some (.ref f)) (hk:PySem.W.keepIn X.K (.ref f)=true) (hb:wF X.K fd ps [])
  (ha:DA X c (e::es) g) (hd:(x==("__debug__":Str))=false:=by decide) (he:starEach (e::es) X.env=(false,eval e X.env)::starEach es X.env:=by rfl) (hpl:(backTo pos (starEach es X.env)).any (·.1)=false:=by rfl):DE X c (.Call (.Name x p) (e::es) [] pos) (qg F g):=by
 obtain ⟨t,pa,w⟩:=ha
 refine ⟨_,qcZ G hr hg hm hk hb .nil qlq pa hd he hpl,fun U Z H Q r h=>w U Z H _ r (WpL.bnd h fun ds U1 vs H1 r1 i1 g1 h1 => ?_)⟩
 rw [List.append_nil]
 refine ⟨ds,Cn c Z,i1,r1.tb,?_⟩
 cases ef:F ds with
 | bad=>simp only [ef] at h1;exact h1.elim
 | exc z U'=>simp only [ef] at h1;exact h1.elim
 | ok d =>
  simp only [ef] at h1
  exact fun v H' sm i=>h1 v H' (r1.same sm) (Is.ext Ext.refl (fun a ha _=>ha.elim id r1.new) i) (.of_same sm)
def qF (F:List D->List D->R (D×List D)) (i:Nat) (g:M (List D)):M D:=fun U=>match zD i U with
 | none => .bad
 | some _=>(bnd g fun ds U=>match zD i U with
  | none => .bad
  | some bs=>match F bs ds with
   | .ok (d,bs') => .ok (d,U.set i (some (.lst bs')))
   | _ => .bad) U
theorem qhp {k i:Nat} {f:Addr} {fd:FuncData} {ps:List Str} {F:List D->List D->R (D×List D)} {x y:Str} {p p1:Pos} {es:List Expr} {g:M (List D)} (G:qct X.prog X.w X.K X.mg X.base CX0 k f fd ps (qkr X.K F)) (hr:vv k X.A) (hg:Gl X x) (hm:X.mg x=some (.ref f)) (hk:PySem.W.keepIn X.K (.ref f)=true) (hb:wF X.K fd ps [])
  (ha:DA X c es g) (ho:i∈c.O:=by exact of_decide_eq_true rfl) (hN:X.N[i]? = some y:=by rfl) (hv:Vis X.env.scope y:=by first | exact Or.inl rfl | exact Or.inr (Or.inl rfl) | exact Or.inr (Or.inr rfl)) (hdy:(y==("__debug__":Str))=false:=by decide) (hcd:(y==("__classdict__":Str))=false:=by decide)
  (hd:(x==("__debug__":Str))=false:=by decide) (he:starEach (.Name y p1::es) X.env=(false,eval (.Name y p1) X.env)::starEach es X.env:=by rfl) (hpl:(backTo pos (starEach es X.env)).any (·.1)=false:=by rfl):DE X c (.Call (.Name x p) (.Name y p1::es) [] pos) (qF F i g):=by
 obtain ⟨t,pa,w⟩:=ha
 refine ⟨_,qcZ G hr hg hm hk hb .nil qlq (u3 (w9 hN hv hdy hcd) pa he) hd he hpl,fun U Z H Q r h => ?_⟩
 unfold qF at h
 cases e0:zD i U with
 | none=>simp only [e0] at h;exact h.elim
 | some ds0 =>
  simp only [e0] at h
  obtain ⟨l,xs0,_,hl,hH,_⟩:=r.getLO ho e0
  refine ⟨.ref l,hl,w U Z H _ r (WpL.bnd h fun ds U1 vs H1 r1 i1 g1 h1 => ?_)⟩
  show qkr X.K F (.ref l::vs++[]) H1 Q E0
  rw [List.append_nil]
  cases e1:zD i U1 with
  | none=>simp only [e1] at h1;exact h1.elim
  | some bs =>
   simp only [e1] at h1
   obtain ⟨l',xs,him,hl',hH',il⟩:=r1.getLO ho e1
   rw [hl] at hl'
   cases hl'
   refine ⟨bs,ds,Cn c Z,l,xs,vs,rfl,hH',r1.tb,il,fun hc=>hc.2 i ho hl,i1,?_⟩
   cases ef:F bs ds with
   | bad=>simp only [ef] at h1;exact h1.elim
   | exc z U'=>simp only [ef] at h1;exact h1.elim
   | ok q =>
    obtain ⟨d,bs'⟩:=q
    simp only [ef] at h1
    intro v H' xs' kp dm ha2 him2 il2 i2
    obtain ⟨r2,g2⟩:=r1.io (bs:=bs') ho hl kp ha2 him2 (IsL.ext Ext.refl (fun a ha _=>ha.elim id r1.new) il2) dm
    exact h1 v H' r2 (Is.ext Ext.refl (fun a ha _=>ha.elim id r1.new) i2) g2
end
def qjj:Key->PyData
 | .inl i => .int i
 | .inr x => .str x
mutual
def yJ:D->PyData
 | .non => .none
 | .bl b => .bool b
 | .int i => .int i
 | .str x => .str x
 | .tup ds => .tuple (toPDs ds)
 | .lst ds => .list (toPDs ds)
 | .dic kvs => .dict (kvs.map fun p=>(qjj p.1,.int p.2))
 | .fz ns => .list (ns.map .int)
 | .exc _ => .dict [(.int (2 ^ 2000),.none)]
def toPDs:List D->List PyData
 | []=>[]
 | d::ds=>yJ d::toPDs ds
end
mutual
def noL:D->Bool
 | .tup ds=>noLs ds
 | .lst _=>false
 | .fz _=>false
 | _=>true
def noLs:List D->Bool
 | []=>true
 | d::ds=>noL d&&noLs ds
end
mutual
def noX:D->Bool
 | .tup ds=>noXs ds
 | .lst ds=>noXs ds
 | .exc _=>false
 | _=>true
def noXs:List D->Bool
 | []=>true
 | d::ds=>noX d&&noXs ds
end
mutual
theorem qhq:∀ {d:D},(yJ d).canLay0=true->noX d=true
 | .non,_=>rfl
 | .bl _,_=>rfl
 | .int _,_=>rfl
 | .str _,_=>rfl
 | .tup ds,h=>by unfold noX;exact noXs_lay (by simpa [yJ,PyData.canLay0] using h)
 | .lst ds,h=>by unfold noX;exact noXs_lay (by simpa [yJ,PyData.canLay0] using h)
 | .dic _,_=>rfl
 | .fz _,_=>rfl
 | .exc _,h=>by simp [yJ,PyData.canLay0] at h
theorem noXs_lay:∀ {ds:List D},PyData.canLayAll0 (toPDs ds)=true->noXs ds=true
 | [],_=>rfl
 | d::ds,h=>by
  have h':(yJ d).canLay0=true/\PyData.canLayAll0 (toPDs ds)=true:=by simpa [toPDs,PyData.canLayAll0] using h
  unfold noXs
  rw [qhq h'.1,noXs_lay h'.2];rfl
end
theorem qad {h:Heap}:∀ {ns:List Int} {us:List Value},zd (ns.map V.int) us->∃ as,ReadsAll h us (ns.map .int) as
 | [],us,r=>by
  rw [List.map_nil] at r;cases r;exact ⟨[],.nil⟩
 | n::ns,us,r=>by
  rw [mC_] at r
  cases r with
  | cons r1 r2 =>
   obtain ⟨t,e⟩:=r1
   subst e
   obtain ⟨as,q⟩:=qad (ns:=ns) r2
   exact ⟨[]++as,.cons (.int n t) q⟩
theorem qeW {α:Type} {x:α} {l l':List α} (h1:x ∉ l) (h2:x ∉ l'):x ∉ l++l':=fun h=>(mA_.mp h).elim h1 h2
theorem qbU {P:Program} {w:World} {h:Heap}:∀ {kvs:List (Key×Int)} {es:List DictEntry} {vs:List (Key×Value)},KV (kvs.map fun p=>(p.1,V.int p.2)) vs->Pairs (qcY P w) es vs ->
  ReadsAll h (es.map (·.key)) ((kvs.map fun p=>(qjj p.1,PyData.int p.2)).map (·.1)) []/\ReadsAll h (es.map (·.val)) ((kvs.map fun p=>(qjj p.1,PyData.int p.2)).map (·.2)) []
 | [],es,vs,r,p=>by
  have r':KV ([]:List (Key×V)) vs:=r
  unfold KV at r'
  cases r'
  cases p
  exact ⟨.nil,.nil⟩
 | (k,i)::kvs,es,vs,r,p=>by
  have r':KV ((k,V.int i)::kvs.map fun p=>(p.1,V.int p.2)) vs:=r
  unfold KV at r'
  cases r' with
  | cons r1 r2 =>
   cases p with
   | cons p1 p2 p3 =>
    obtain ⟨q1,q2⟩:=qbU (h:=h) (kvs:=kvs) r2 p3
    obtain ⟨e1,t,e2⟩:=r1
    have hk:∀ {e:DictEntry} {kv:Key×Value},k=kv.1->(qcY P w).is kv.1 e.key=true->Reads h e.key (qjj k) []:=fun {e kv} hk hi=>by
     subst hk
     rcases zt hi with ⟨i,t,e1,e2⟩ | ⟨x,t,e1,e2⟩
     ·rw [e1,e2];exact .int i t
     ·rw [e1,e2];exact .str x t
    refine ⟨.cons (as:=[]) (bs:=[]) (hk e1 p1) q1,.cons (as:=[]) (bs:=[]) ?_ q2⟩
    show Reads h _ (.int i) []
    dsimp only
    rw [p2,e2]
    exact .int i t
section
variable {X:Cx} {pins:List (Addr×Obj)} {Z:St} {H:Hp} {s:Shared} {A:Addr->Prop}
mutual
theorem yL (I:Inv X pins Z H s):∀ {d:D} {v:V} {u:Value},noX d=true->Is X.K A H d v->jI v u->∃ as,Reads s.heap u (yJ d) as/\(noL d=true->sysModules ∉ as)
 | .non,_,_,_,h,r=>by cases h;cases r;exact ⟨[],.none,by simp⟩
 | .bl b,_,_,_,h,r=>by cases h;cases r;exact ⟨[],.bool b,by simp⟩
 | .int i,_,_,_,h,r=>by cases h;obtain ⟨t,rfl⟩:=r;exact ⟨[],.int i t,by simp⟩
 | .str x,_,_,_,h,r=>by cases h;obtain ⟨t,rfl⟩:=r;exact ⟨[],.str x t,by simp⟩
 | .tup ds,_,_,nx,⟨a,xs,hv,ta,il⟩,r=>by
  subst hv
  cases r
  obtain ⟨its,rv,p,_⟩:=I.tuple ta.sq
  obtain ⟨o,h1,h2,n,h3⟩:=p
  obtain ⟨as,q,nl⟩:=readsL_of I (by simpa [noX] using nx) il rv
  exact ⟨as,.tuple h1 h2 h3 (by simpa using q),fun z=>nl (by simpa [noL] using z)⟩
 | .lst ds,_,_,nx,⟨a,xs,hv,_,ta,il⟩,r=>by
  subst hv
  cases r
  obtain ⟨its,rv,p,_⟩:=I.list (SqL.of ta)
  obtain ⟨o,h1,h2,n,h3⟩:=p.isList
  obtain ⟨as,q,nl⟩:=readsL_of I (by simpa [noX] using nx) il rv
  exact ⟨a::as,.list h1 h2 h3 (by simpa using q),fun z=>by simp [noL] at z⟩
 | .dic kvs,_,_,_,⟨a,hv,_,ta⟩,r=>by
  subst hv
  cases r
  obtain ⟨hz,hS,vs,rk,o,es,ep,h1,h2,h3,h4,h5,h6⟩:=(show uc X.prog X.w H s.heap a (.dK _) from I.hok a _ ta)
  obtain ⟨q1,q2⟩:=qbU (h:=s.heap) rk h5
  refine ⟨_,Reads.dict (as:=[]) (bs:=[]) h1 h2.1 h3 q1 q2,fun _ hm => ?_⟩
  have:sysModules=a:=by simpa using hm
  rw [<- this] at hS
  simp at hS
 | .exc _,_,_,nx,_,_=>by simp [noX] at nx
 | .fz ns,_,_,_,⟨a,hv,ta⟩,r=>by
  subst hv
  cases r
  obtain ⟨its,rv,p,_⟩:=I.list ta.sq
  obtain ⟨o,h1,h2,n,h3⟩:=p.isList
  obtain ⟨as,q⟩:=qad rv
  exact ⟨a::as,.list h1 h2 h3 (by simpa using q),fun z=>by simp [noL] at z⟩
theorem readsL_of (I:Inv X pins Z H s):∀ {ds:List D} {xs:List V} {us:List Value},noXs ds=true->IsL X.K A H ds xs->zd xs us->∃ as,ReadsAll s.heap us (toPDs ds) as/\(noLs ds=true->sysModules ∉ as)
 | [],_,_,_,h,r=>by cases h;cases r;exact ⟨[],.nil,by simp⟩
 | d :: ds,_,_,nx,⟨x,ys,hx,h1,h2⟩,r=>by
  subst hx
  cases r with
  | cons r1 r2 =>
   have nx':noX d=true/\noXs ds=true:=by simpa [noXs] using nx
   obtain ⟨as,q1,n1⟩:=yL I nx'.1 h1 r1
   obtain ⟨bs,q2,n2⟩:=readsL_of I nx'.2 h2 r2
   exact ⟨as++bs,.cons q1 q2,fun z=>by
    have z':noL d=true/\noLs ds=true:=by simpa [noLs] using z
    exact qeW (n1 z'.1) (n2 z'.2)⟩
end
end
def qnN (d:D):Bool:=(yJ d).showable&&decide ((yJ d).shown.length<=sizeLine)&&decide ((yJ d).depth<=50)&&(!(yJ d).hasDict||noL d)
section
variable {X:Cx}
end
def qqQ:List D->Option D
 | [d]=>if qnN d then some (.str (yJ d).shown) else none
 | _=>none
def qby (d:D):Bool:=(yJ d).canLay0&&decide ((yJ d).depth<=50)
def qks (K:Fr0) (neg:Bool):R2:=fun x y H Q=>∃ d e A,Is K A H d x/\Is K A H e y/\qby d=true/\qby e=true/\Q (.bl (if neg then !PyData.eqv (yJ d) (yJ e) else PyData.eqv (yJ d) (yJ e))) H
section
variable {X:Cx}
theorem qc9 {d:D} (h:qby d=true):SeqAt.shaped (yJ d)=true:=by
 unfold qby at h
 unfold SeqAt.shaped
 simp only [Bool.and_eq_true,decide_eq_true_eq] at h |-
 exact ⟨h.1,by omega⟩
theorem qbb {d:D} (h:qby d=true):noX d=true:=by
 unfold qby at h
 rw [Bool.and_eq_true] at h
 exact qhq h.1
theorem qnO {k:Nat} (hr:vv k X.A):OpR X (compareOp .Eq) (qks X.K false):=by
 intro pins s Z H x y v u Q I rx ry h
 obtain ⟨d,e,A,h1,h2,o1,o2,q⟩:=h
 obtain ⟨as,r1,_⟩:=yL I (qbb o1) h1 rx
 obtain ⟨bs,r2,_⟩:=yL I (qbb o2) h2 ry
 exact SeqAt.compareEq_shaped r1 r2 (qc9 o1) (qc9 o2) hr.units ⟨.bl _,H,I,rfl,by simpa using q⟩
theorem qnP {k:Nat} (hr:vv k X.A):OpR X (compareOp .NotEq) (qks X.K true):=by
 intro pins s Z H x y v u Q I rx ry h
 obtain ⟨d,e,A,h1,h2,o1,o2,q⟩:=h
 obtain ⟨as,r1,_⟩:=yL I (qbb o1) h1 rx
 obtain ⟨bs,r2,_⟩:=yL I (qbb o2) h2 ry
 exact SeqAt.compareNe_shaped r1 r2 (qc9 o1) (qc9 o2) hr.units ⟨.bl _,H,I,rfl,by simpa using q⟩
end
def eqA (x y:D):Option D:=if qby x&&qby y then some (.bl (PyData.eqv (yJ x) (yJ y))) else none
def neA (x y:D):Option D:=if qby x&&qby y then some (.bl (!PyData.eqv (yJ x) (yJ y))) else none
theorem qlF {K:Fr0}:OpS K eqA (qks K false):=by
 intro A H x y d v u Q hn ix iy e k
 obtain ⟨e1,e2⟩:=z5 e
 rw [Bool.and_eq_true] at e1
 subst e2
 exact ⟨x,y,A,ix,iy,e1.1,e1.2,k _ H (jp.refl H) rfl⟩
theorem qlG {K:Fr0}:OpS K neA (qks K true):=by
 intro A H x y d v u Q hn ix iy e k
 obtain ⟨e1,e2⟩:=z5 e
 rw [Bool.and_eq_true] at e1
 subst e2
 exact ⟨x,y,A,ix,iy,e1.1,e1.2,k _ H (jp.refl H) rfl⟩
section
variable {X:Cx} {c:Fc} {a b e:Expr} {pos:Pos}
def qqa (i:Nat) (g:M D):M D:=fun U=>match zD i U with
 | none => .bad
 | some _=>(bnd g fun y U=>match zD i U with
  | none => .bad
  | some ds=>lift (neA (.lst ds) y) U) U
end
section
variable {prog:Program} {w:World} {A:Around} {E:Value->Shared->Prop} {s:Shared}
theorem qlH {it tu:Addr} {k:Nat} {arr:Array Value} {x:Value} {Q:Value->Shared->Prop} (hI:s.heap.IsTupleIter it tu k) (hT:s.heap.IsTuple tu arr) (hx:arr[k]? = some x)
  (q:∀ h',h'.IsTupleIter it tu (k+1)->Heap.SameBut it s.heap h'->Q x { s with heap:=h' }):wpAny (model prog w) A (Builtin.SmallTypes.nextOf (.ref it)) Q E s:=by
 obtain ⟨ob,e1,e2,e3⟩:=id hI
 obtain ⟨ot,f1,_,m,f2⟩:=hT
 unfold Builtin.SmallTypes.nextOf
 refine wpAny_bind (wpAny_callSpecial?_slot (name:=Str.ofString "__next__") hI.typeIs F.slot_tuple_iterator_next (wpAny_call_entry F.slot_tuple_iterator_next hI.typeIs F.entry_tuple_iterator_next ?_ (F.args_tuple_iterator_next_1 _)))
 show wpAny (model prog w) _ (field (Value.ref it) 0 >>= _) _ _ s
 refine wpAny_bind (wpAny_field e1 e3 (x:=Value.ref tu) rfl ?_)
 show wpAny (model prog w) _ (if (Value.ref tu==Value.none)=true then _ else _) _ _ s
 rw [if_neg (show ¬ ((Value.ref tu==Value.none)=true) from Bool.false_ne_true)]
 show wpAny (model prog w) _ (field (Value.ref it) 1 >>= _) _ _ s
 refine wpAny_bind (wpAny_field e1 e3 (x:=Value.int k 0) rfl ?_)
 show wpAny (model prog w) _ (seqItems? (Value.ref tu) >>= _) _ _ s
 refine wpAny_bind (wpAny_seqItems f1 f2 ?_)
 simp only [Int.toNat_natCast,hx]
 refine wpAny_bind (wpAny_setField e1 e3 (by simp) (wpAny_pure ⟨x,rfl,wpAny_pure (q _ ?_ (Heap.SameBut.update ..))⟩))
 exact ⟨_,Heap.get?_update_self _ e1 (Obj.isFreed_of_fields (Obj.data_mapFields e3 _)),(Obj.cls_mapFields ..).trans e2,by rw [Obj.data_mapFields e3];simp [rawInt]⟩
theorem qlI {it tu:Addr} {k:Nat} {arr:Array Value} {Q:Value->Shared->Prop} (hh:A.handled=none) (hI:s.heap.IsTupleIter it tu k) (hT:s.heap.IsTuple tu arr) (hx:arr[k]? = none)
  (q:∀ h' e,Heap.ExtBut it s.heap h'->(∃ o,h'.get? e=some o/\o.cls = .type "StopIteration")->E (.ref e) { s with heap:=h' }):wpAny (model prog w) A (Builtin.SmallTypes.nextOf (.ref it)) Q E s:=by
 obtain ⟨ob,e1,e2,e3⟩:=id hI
 obtain ⟨ot,f1,_,m,f2⟩:=hT
 unfold Builtin.SmallTypes.nextOf
 refine wpAny_bind (wpAny_callSpecial?_slot (name:=Str.ofString "__next__") hI.typeIs F.slot_tuple_iterator_next (wpAny_call_entry F.slot_tuple_iterator_next hI.typeIs F.entry_tuple_iterator_next ?_ (F.args_tuple_iterator_next_1 _)))
 show wpAny (model prog w) _ (field (Value.ref it) 0 >>= _) _ _ s
 refine wpAny_bind (wpAny_field e1 e3 (x:=Value.ref tu) rfl ?_)
 show wpAny (model prog w) _ (if (Value.ref tu==Value.none)=true then _ else _) _ _ s
 rw [if_neg (show ¬ ((Value.ref tu==Value.none)=true) from Bool.false_ne_true)]
 show wpAny (model prog w) _ (field (Value.ref it) 1 >>= _) _ _ s
 refine wpAny_bind (wpAny_field e1 e3 (x:=Value.int k 0) rfl ?_)
 show wpAny (model prog w) _ (seqItems? (Value.ref tu) >>= _) _ _ s
 refine wpAny_bind (wpAny_seqItems f1 f2 ?_)
 simp only [Int.toNat_natCast,hx]
 refine wpAny_bind (wpAny_rule (wpAny_bind (wpAny_setField e1 e3 (by simp) ?_)))
 show wpAny (model prog w) _ (newExc (Value.type "StopIteration") [] >>= _) _ _ _
 refine wpAny_bind ?_
 simp only [newExc,newTuple]
 refine wpAny_bind (wpAny_newObj_type ?_ (by size_fits))
 refine wpAny_bind (m:=firstArgMember _ _) (wpAny_of_eq (a:=Value.none) (by first | rfl | (simp only [firstArgMember];rfl)) ?_)
 refine wpAny_newObj_type ?_ (by size_fits)
 simp only [raiseNew]
 refine wpAny_bind (wpAny_handled ?_)
 first | rw [show A.in1.handled=none from hh] | rw [hh]
 exact wpAny_bind (wpAny_pure (wpAny_throw (q _ _ (((Heap.SameBut.update ..).extBut.push _).push _) ⟨_,Heap.get?_push_size _ rfl,rfl⟩)))
end
theorem vZ {prog:Program} {w:World} {A:Around} (hh:A.handled=none) (it tu:Addr) (hne:tu≠it) (arr:Array Value) :
  Draws prog w A it [it,tu] arr.size (fun i x=>arr[i]? = some x) (fun i h=>h.IsTupleIter it tu i/\h.IsTuple tu arr) where
 live:=fun i h st=>by obtain ⟨⟨o,e,_⟩,_⟩:=st;exact ⟨o,e⟩
 frame:=fun i h h' st k=>by
  obtain ⟨h1,o,e,r⟩:=st
  exact ⟨h1.at fun o q=>k it (by simp) o q,o,k tu (by simp) o e,r⟩
 item:=fun i s Q E hi st q=>qlH st.1 st.2 (Array.getElem?_eq_getElem hi) fun h' h1 sb=>q _ h' s.toks (Array.getElem?_eq_getElem hi) ⟨h1,by
  obtain ⟨o,e,r⟩:=st.2
  exact ⟨o,sb.extBut _ _ hne e,r⟩⟩ sb
 done:=fun s Q E st q=>qlI hh st.1 st.2 (Array.getElem?_eq_none (Nat.le_refl _)) q
structure ZAp (z TI TO i1 i2:Addr) (fp1 fp2:List Addr):Prop where
 zTI:z≠TI
 zTO:z≠TO
 zi1:z≠i1
 zi2:z≠i2
 IO:TI≠TO
 Ii1:TI≠i1
 Ii2:TI≠i2
 Oi1:TO≠i1
 Oi2:TO≠i2
 ii:i1≠i2
 z1:z ∉ fp1
 z2:z ∉ fp2
 O1:TO ∉ fp1
 O2:TO ∉ fp2
 i21:i2 ∉ fp1
 i12:i1 ∉ fp2
section
variable {prog:Program} {w:World} {A:Around} {E:Value->Shared->Prop} {s:Shared} {z TI TO i1 i2:Addr} {fp1 fp2:List Addr} {n1 n2 k:Nat} {P1 P2:Nat->Value->Prop} {S1 S2:Nat->Heap->Prop}
theorem yF {fp:List Addr} {a:Addr} {h h':Heap} (sb:Heap.SameBut a h h') (ha:a ∉ fp):∀ b∈fp,∀ o,h.get? b=some o->h'.get? b=some o:=fun b hb o e=>sb.extBut _ _ (fun q=>ha (q▸hb)) e
theorem qnQ (D1:Draws prog w A i1 fp1 n1 P1 S1) (D2:Draws prog w A i2 fp2 n2 P2 S2) (ap:ZAp z TI TO i1 i2 fp1 fp2) {p q:Value} (zz:IsZip s.heap z TI TO .none) (zI:IsPair s.heap TI (.ref i1) (.ref i2)) (zO:IsPair s.heap TO p q)
  (t1:S1 k s.heap) (t2:S2 k s.heap) (l1:k<n1) (l2:k<n2) {Q:Value->Shared->Prop}
  (fin:∀ x y h' tk,P1 k x->P2 k y->IsZip h' z TI TO (rawInt s.heap.objs.size)->IsPair h' TO x y->S1 (k+1) h'->S2 (k+1) h'->IsPair h' s.heap.objs.size x y ->
   (∀ c o,c≠z->c≠TO->c≠i1->c≠i2->s.heap.get? c=some o->h'.get? c=some o)->Q (.ref s.heap.objs.size) { s with heap:=h',toks:=tk }) :
  wpAny (model prog w) A (Builtin.«zip.__next__» ⟨[.ref z],[]⟩) (fun r s'=>∃ v,r = .done (.ret v)/\Q v s') E s:=by
 show wpAny (model prog w) A (field (Value.ref z) 2 >>= _) _ _ _
 refine wpAny_bind (wpAny_field zz rfl (x:=Value.bool false) rfl ?_)
 show wpAny (model prog w) A (field (Value.ref z) 3 >>= _) _ _ _
 refine wpAny_bind (wpAny_field zz rfl (x:=Value.ref TI) rfl (wpAny_bind (wpAny_seqItems zI rfl ?_)))
 show wpAny (model prog w) A (Builtin.SmallTypes.ownedTupleIsFree (Value.ref z) >>= _) _ _ _
 refine wpAny_bind ?_
 unfold Builtin.SmallTypes.ownedTupleIsFree
 refine wpAny_bind (wpAny_field zz rfl (x:=Value.none) rfl (wpAny_pure ?_))
 simp only [if_true]
 refine wpAny_bind (wpAny_rule (wpAny_bind (wpAny_field zz rfl (x:=Value.ref TO) rfl (wpAny_bind (wpAny_setField_rec zz (by simp) fun h1 zz1 b1 => ?_)))))
 replace zz1:IsZip h1 z TI TO .ellipsis:=zz1
 refine wpAny_bind ?_
 simp only [List.zipIdx_cons,List.zipIdx_nil,List.forIn_cons,List.forIn_nil]
 refine wpAny_bind (wpAny_bind (wpAny_onRaise ?_))
 show wpAny (model prog w) A (Builtin.SmallTypes.nextOf (Value.ref i1) >>= _) _ _ _
 refine wpAny_bind (D1.item k _ _ _ l1 (D1.frame _ _ _ t1 (yF b1 ap.z1)) fun x h2 tk2 px u1 b2=>wpAny_pure ?_)
 have zO2:IsPair h2 TO p q:=b2.extBut _ _ ap.Oi1 (b1.extBut _ _ ap.zTO.symm zO)
 refine wpAny_bind (wpAny_seqItems zO2 rfl (wpAny_bind (wpAny_updateSeq_pair zO2 fun h3 zO3 b3 => ?_)))
 replace zO3:IsPair h3 TO x q:=zO3
 refine wpAny_bind (wpAny_letGo (wpAny_pure (wpAny_bind (wpAny_bind (wpAny_onRaise ?_)))))
 show wpAny (model prog w) A (Builtin.SmallTypes.nextOf (Value.ref i2) >>= _) _ _ _
 have t2':S2 k h3:=D2.frame _ _ _ (D2.frame _ _ _ (D2.frame _ _ _ t2 (yF b1 ap.z2)) (yF b2 ap.i12)) (yF b3 ap.O2)
 refine wpAny_bind (D2.item k _ _ _ l2 t2' fun y h4 tk4 py u2 b4=>wpAny_pure ?_)
 have zO4:IsPair h4 TO x q:=b4.extBut _ _ ap.Oi2 zO3
 refine wpAny_bind (wpAny_seqItems zO4 rfl (wpAny_bind (wpAny_updateSeq_pair zO4 fun h5 zO5 b5 => ?_)))
 replace zO5:IsPair h5 TO x y:=zO5
 refine wpAny_bind (wpAny_letGo (wpAny_pure (wpAny_pure (wpAny_bind (wpAny_seqItems zO5 rfl (wpAny_bind (wpAny_newTuple ?_)))))))
 have sz:h5.objs.size=s.heap.objs.size:=by rw [b5.1,b4.1,b3.1,b2.1,b1.1]
 have zz5:IsZip h5 z TI TO .ellipsis:=b5.extBut _ _ ap.zTO (b4.extBut _ _ ap.zi2 (b3.extBut _ _ ap.zTO (b2.extBut _ _ ap.zi1 zz1)))
 have keep5:∀ c o,c≠z->c≠TO->c≠i1->c≠i2->s.heap.get? c=some o->h5.get? c=some o:=fun c o c1 c2 c3 c4 e=>b5.extBut _ _ c2 (b4.extBut _ _ c4 (b3.extBut _ _ c2 (b2.extBut _ _ c3 (b1.extBut _ _ c1 e))))
 have v1:S1 (k+1) h5:=D1.frame _ _ _ (D1.frame _ _ _ (D1.frame _ _ _ u1 (yF b3 ap.O1)) (yF b4 ap.i21)) (yF b5 ap.O1)
 have v2:S2 (k+1) h5:=D2.frame _ _ _ u2 (yF b5 ap.O2)
 have lz:z<h5.objs.size:=Heap.lt_size zz5
 show wpAny (model prog w) A (Builtin.SmallTypes.ownedTupleHandOut (Value.ref z) (Value.ref h5.objs.size) >>= _) _ _ _
 refine wpAny_bind ?_
 unfold Builtin.SmallTypes.ownedTupleHandOut
 have zz6:IsZip (h5.push { cls := .type "tuple",data := .seq #[x,y] }) z TI TO .ellipsis:=Heap.get?_push_of_some _ zz5
 refine wpAny_bind (wpAny_setField_rec zz6 (by simp) fun h7 zz7 b7 => ?_)
 replace zz7:IsZip h7 z TI TO (rawInt h5.objs.size):=zz7
 refine wpAny_setField_rec zz7 (by simp) fun h8 zz8 b8 => ?_
 replace zz8:IsZip h8 z TI TO (rawInt h5.objs.size):=zz8
 have up:∀ c o,c≠z->h5.get? c=some o->h8.get? c=some o:=fun c o c1 e=>b8.extBut _ _ c1 (b7.extBut _ _ c1 (Heap.get?_push_of_some _ e))
 have new8:IsPair h8 h5.objs.size x y:=b8.extBut _ _ (Nat.ne_of_gt lz) (b7.extBut _ _ (Nat.ne_of_gt lz) (Heap.get?_push_size _ rfl))
 rw [sz] at zz8 new8
 refine wpAny_pure ⟨_,rfl,?_⟩
 show Q (Value.ref h5.objs.size) _
 rw [sz]
 exact fin x y h8 tk4 px py zz8 (up _ _ ap.zTO.symm zO5) (D1.frame _ _ _ v1 fun b hb o e=>up b o (fun q=>ap.z1 (q▸hb)) e) (D2.frame _ _ _ v2 fun b hb o e=>up b o (fun q=>ap.z2 (q▸hb)) e) new8 fun c o c1 c2 c3 c4 e=>up c o c1 (keep5 c o c1 c2 c3 c4 e)
theorem qjk (hh:A.handled=none) (D1:Draws prog w A i1 fp1 n1 P1 S1) (D2:Draws prog w A i2 fp2 n2 P2 S2) (ap:ZAp z TI TO i1 i2 fp1 fp2) {p q:Value} (zz:IsZip s.heap z TI TO .none) (zI:IsPair s.heap TI (.ref i1) (.ref i2)) (zO:IsPair s.heap TO p q)
  (t1:S1 k s.heap) (t2:S2 k s.heap) (hk:k=min n1 n2) {Q:Fin->Shared->Prop}
  (fin:∀ h' tk e,(∀ c o,c≠z->c≠TO->c≠i1->c≠i2->s.heap.get? c=some o->h'.get? c=some o)->(∃ o,h'.get? e=some o/\o.cls = .type "StopIteration")->E (.ref e) { s with heap:=h',toks:=tk }) :
  wpAny (model prog w) A (Builtin.«zip.__next__» ⟨[.ref z],[]⟩) Q E s:=by
 show wpAny (model prog w) A (field (Value.ref z) 2 >>= _) _ _ _
 refine wpAny_bind (wpAny_field zz rfl (x:=Value.bool false) rfl ?_)
 show wpAny (model prog w) A (field (Value.ref z) 3 >>= _) _ _ _
 refine wpAny_bind (wpAny_field zz rfl (x:=Value.ref TI) rfl (wpAny_bind (wpAny_seqItems zI rfl ?_)))
 show wpAny (model prog w) A (Builtin.SmallTypes.ownedTupleIsFree (Value.ref z) >>= _) _ _ _
 refine wpAny_bind ?_
 unfold Builtin.SmallTypes.ownedTupleIsFree
 refine wpAny_bind (wpAny_field zz rfl (x:=Value.none) rfl (wpAny_pure ?_))
 simp only [if_true]
 refine wpAny_bind (wpAny_rule (wpAny_bind (wpAny_field zz rfl (x:=Value.ref TO) rfl (wpAny_bind (wpAny_setField_rec zz (by simp) fun h1 zz1 b1 => ?_)))))
 replace zz1:IsZip h1 z TI TO .ellipsis:=zz1
 refine wpAny_bind ?_
 simp only [List.zipIdx_cons,List.zipIdx_nil,List.forIn_cons,List.forIn_nil]
 refine wpAny_bind (wpAny_bind (wpAny_onRaise ?_))
 show wpAny (model prog w) A (Builtin.SmallTypes.nextOf (Value.ref i1) >>= _) _ _ _
 have t1':S1 k h1:=D1.frame _ _ _ t1 (yF b1 ap.z1)
 by_cases h12:n1<=n2
 ·have e1:k=n1:=by rw [hk];exact Nat.min_eq_left h12
  rw [e1] at t1'
  refine wpAny_bind (D1.done _ _ _ t1' fun h2 e b2 he => ?_)
  obtain ⟨oe,f1,f2⟩:=he
  have zz2:IsZip h2 z TI TO .ellipsis:=b2 _ _ ap.zi1 zz1
  have ez:e≠z:=fun x=>by subst x;rw [zz2] at f1;cases f1;simp at f2
  refine wpAny_setField_rec zz2 (by simp) fun h3 _ b3 => ?_
  exact fin h3 s.toks e (fun c o c1 _ c3 _ x=>b3.extBut _ _ c1 (b2 _ _ c3 (b1.extBut _ _ c1 x))) ⟨oe,b3.extBut _ _ ez f1,f2⟩
 ·have e1:k=n2:=by rw [hk];exact Nat.min_eq_right (by omega)
  refine wpAny_bind (D1.item k _ _ _ (by omega) t1' fun x h2 tk2 px u1 b2=>wpAny_pure ?_)
  have zO2:IsPair h2 TO p q:=b2.extBut _ _ ap.Oi1 (b1.extBut _ _ ap.zTO.symm zO)
  refine wpAny_bind (wpAny_seqItems zO2 rfl (wpAny_bind (wpAny_updateSeq_pair zO2 fun h3 zO3 b3 => ?_)))
  refine wpAny_bind (wpAny_letGo (wpAny_pure (wpAny_bind (wpAny_bind (wpAny_onRaise ?_)))))
  show wpAny (model prog w) A (Builtin.SmallTypes.nextOf (Value.ref i2) >>= _) _ _ _
  have t2':S2 k h3:=D2.frame _ _ _ (D2.frame _ _ _ (D2.frame _ _ _ t2 (yF b1 ap.z2)) (yF b2 ap.i12)) (yF b3 ap.O2)
  rw [e1] at t2'
  refine wpAny_bind (D2.done _ _ _ t2' fun h4 e b4 he => ?_)
  obtain ⟨oe,f1,f2⟩:=he
  have zz4:IsZip h4 z TI TO .ellipsis:=b4 _ _ ap.zi2 (b3.extBut _ _ ap.zTO (b2.extBut _ _ ap.zi1 zz1))
  have ez:e≠z:=fun x=>by subst x;rw [zz4] at f1;cases f1;simp at f2
  refine wpAny_setField_rec zz4 (by simp) fun h5 _ b5 => ?_
  exact fin h5 tk2 e (fun c o c1 c2 c3 c4 x=>b5.extBut _ _ c1 (b4 _ _ c4 (b3.extBut _ _ c2 (b2.extBut _ _ c3 (b1.extBut _ _ c1 x))))) ⟨oe,b5.extBut _ _ ez f1,f2⟩
theorem qjl {l1 l2:Addr} {xs ys:Array Value} {Q:Value->Shared->Prop} (t1:s.heap.IsTuple l1 xs) (t2:s.heap.IsTuple l2 ys)
  (fin:∀ h',IsZip h' (s.heap.objs.size+4) (s.heap.objs.size+2) (s.heap.objs.size+3) .none->IsPair h' (s.heap.objs.size+2) (.ref s.heap.objs.size) (.ref (s.heap.objs.size+1))->IsPair h' (s.heap.objs.size+3) .none .none ->
   h'.IsTupleIter s.heap.objs.size l1 0->h'.IsTupleIter (s.heap.objs.size+1) l2 0->(∀ c o,s.heap.get? c=some o->h'.get? c=some o)->Q (.ref (s.heap.objs.size+4)) { s with heap:=h' }) :
  wpAny (model prog w) A (call (.type "zip") [.ref l1,.ref l2]) Q E s:=by
 have meets:Meets (Builtin.«zip.__new__» ⟨[.type "zip",.ref l1,.ref l2],[]⟩) (fun _ R s=>s.heap.IsTuple l1 xs/\s.heap.IsTuple l2 ys /\
   R (.ok (.ret (.ref (s.heap.objs.size+4)))) { s with heap:=((((s.heap.push { cls := .type "tuple_iterator",data := .fields #[.ref l1,.int 0 0] }).push { cls := .type "tuple_iterator",data := .fields #[.ref l2,.int 0 0] }).push { cls := .type "tuple",data := .seq #[.ref s.heap.objs.size,.ref (s.heap.objs.size+1)] }).push { cls := .type "tuple",data := .seq #[.none,.none] }).push { cls := .type "zip",data := .fields #[.none,.bool false,.bool false,.ref (s.heap.objs.size+2),.ref (s.heap.objs.size+3)] } }) :=
  .of_wp fun prog w A R s h=>by
   obtain ⟨hp,g,d,tk,os⟩:=s
   obtain ⟨ha,hb,h⟩:=h
   have hsub:=sub_zip
   have hA:Heap.IsTuple (Shared.heap ⟨hp,g,d,tk,os⟩) l1 xs:=ha
   have hB:Heap.IsTuple (Shared.heap ⟨hp.push { cls := .type "tuple_iterator",data := .fields #[.ref l1,.int 0 0] },g,d,tk,os⟩) l2 ys:=by
    obtain ⟨o,e,r⟩:=hb
    exact ⟨o,Heap.get?_push_of_some _ e,r⟩
   wp_walk using wpAny_pyIter_tuple hA,wpAny_pyIter_tuple hB
   simp only [Heap.size_push] at *
   exact ⟨_,rfl,h⟩
 refine callType_new F.called_zip (by decide) (F.typeCall_zip_2 _ _) (F.newCall_zip_2 _ _) (fun obj=>F.args_object_init_3 obj _ _) F.entry_zip_new meets ⟨t1,t2,?_⟩
 generalize e1:s.heap.push { cls := .type "tuple_iterator",data := .fields #[.ref l1,.int 0 0] }=m1
 have s1:m1.objs.size=s.heap.objs.size+1:=by rw [<- e1,Heap.size_push]
 have q1:m1.get? s.heap.objs.size=some { cls := .type "tuple_iterator",data := .fields #[.ref l1,.int 0 0] }:=by rw [<- e1];exact Heap.get?_push_size _ rfl
 have k1:∀ c o,s.heap.get? c=some o->m1.get? c=some o:=fun c o x=>by rw [<- e1];exact Heap.get?_push_of_some _ x
 generalize e2:m1.push { cls := .type "tuple_iterator",data := .fields #[.ref l2,.int 0 0] }=m2
 have s2:m2.objs.size=s.heap.objs.size+2:=by rw [<- e2,Heap.size_push,s1]
 have q2:m2.get? (s.heap.objs.size+1)=some { cls := .type "tuple_iterator",data := .fields #[.ref l2,.int 0 0] }:=by rw [<- e2,<- s1];exact Heap.get?_push_size _ rfl
 have k2:∀ c o,m1.get? c=some o->m2.get? c=some o:=fun c o x=>by rw [<- e2];exact Heap.get?_push_of_some _ x
 generalize e3:m2.push { cls := .type "tuple",data := .seq #[.ref s.heap.objs.size,.ref (s.heap.objs.size+1)] }=m3
 have s3:m3.objs.size=s.heap.objs.size+3:=by rw [<- e3,Heap.size_push,s2]
 have q3:m3.get? (s.heap.objs.size+2)=some { cls := .type "tuple",data := .seq #[.ref s.heap.objs.size,.ref (s.heap.objs.size+1)] }:=by rw [<- e3,<- s2];exact Heap.get?_push_size _ rfl
 have k3:∀ c o,m2.get? c=some o->m3.get? c=some o:=fun c o x=>by rw [<- e3];exact Heap.get?_push_of_some _ x
 generalize e4:m3.push { cls := .type "tuple",data := .seq #[.none,.none] }=m4
 have s4:m4.objs.size=s.heap.objs.size+4:=by rw [<- e4,Heap.size_push,s3]
 have q4:m4.get? (s.heap.objs.size+3)=some { cls := .type "tuple",data := .seq #[.none,.none] }:=by rw [<- e4,<- s3];exact Heap.get?_push_size _ rfl
 have k4:∀ c o,m3.get? c=some o->m4.get? c=some o:=fun c o x=>by rw [<- e4];exact Heap.get?_push_of_some _ x
 generalize e5:m4.push { cls := .type "zip",data := .fields #[.none,.bool false,.bool false,.ref (s.heap.objs.size+2),.ref (s.heap.objs.size+3)] }=m5
 have q5:m5.get? (s.heap.objs.size+4)=some { cls := .type "zip",data := .fields #[.none,.bool false,.bool false,.ref (s.heap.objs.size+2),.ref (s.heap.objs.size+3)] }:=by rw [<- e5,<- s4];exact Heap.get?_push_size _ rfl
 have k5:∀ c o,m4.get? c=some o->m5.get? c=some o:=fun c o x=>by rw [<- e5];exact Heap.get?_push_of_some _ x
 show _/\_
 exact ⟨⟨_,q5,rfl⟩,fin m5 q5 (k5 _ _ (k4 _ _ q3)) (k5 _ _ q4) ⟨_,k5 _ _ (k4 _ _ (k3 _ _ (k2 _ _ q1))),rfl,rfl⟩ ⟨_,k5 _ _ (k4 _ _ (k3 _ _ q2)),rfl,rfl⟩ fun c o x=>k5 _ _ (k4 _ _ (k3 _ _ (k2 _ _ (k1 _ _ x))))⟩
end
section
variable {X:Cx} {pins:List (Addr×Obj)} {Z:St} {H:Hp} {s:Shared} {h':Heap}
theorem qhr {ch:List Addr} {T:Addr} {o:HO} {t':Nat} (I:Inv X pins Z H s) (k:∀ b u,b ∉ ch->s.heap.get? b=some u->h'.get? b=some u) (hf:∀ b∈ch,qeK X pins H b) (hT:s.heap.objs.size<=T) (new:uc X.prog X.w (upd H T o) h' T o) :
  Inv X pins Z (upd H T o) { s with heap:=h',toks:=t' }:=by
 have hn:H T=none:=I.hok.fresh hT
 have nch:∀ b u,H b=some u->b ∉ ch:=fun b u e z=>by rw [(hf b z).1] at e;cases e
 refine I.step (g':=s.gens) (d':=s.drawn) (ch:=ch) (fun b hb=>⟨(hf b hb).2.2.2.1,(hf b hb).2.1,(hf b hb).2.2.2.2.1,(hf b hb).2.2.2.2.2⟩) (fun b u _ _ hc e _=>k b u hc e) (fun b u _ _ hc e _=>⟨u.slots,k b u hc e⟩) (fun b u hc e n => ?_)
  (fun b u hc e=>⟨u,k b u hc e⟩) (fun b xs e=>by rw [qu (qH e hn)];exact e) (fun b u xs e=>by rw [qu (qH e hn)];exact e) (fun b ps y e=>by rw [qu (qH e hn)];exact e) (fun m hm => ?_) (fun b u e => ?_) I.bare
 ·rw [qu (Nat.ne_of_lt (Nat.lt_of_lt_of_le (Heap.lt_size e) hT))];exact n
 ·obtain ⟨ob,es,ep,ho,r⟩:=hm
  exact ⟨ob,es,ep,k _ ob (fun z=>(hf _ z).2.1 rfl) ho,r⟩
 ·by_cases hb:b=T
  ·subst hb;rw [qt] at e;cases e;exact new
  ·rw [qu hb] at e
   refine (I.hok b u e).stay (fun c v hc q=>k c v ?_ q) (fun c q=>by rw [qu (qH q hn)];exact q) (fun c xs q=>by rw [qu (qH q hn)];exact q) fun c ob y q=>by rw [qu (qH q hn)];exact q
   rcases hc with z | z
   ·rw [z];exact nch b u e
   ·exact nch c _ z
theorem qhs {ch:List Addr} {t':Nat} (I:Inv X pins Z H s) (k:∀ b u,b ∉ ch->s.heap.get? b=some u->h'.get? b=some u) (hf:∀ b∈ch,qeK X pins H b):Inv X pins Z H { s with heap:=h',toks:=t' }:=by
 have nch:∀ b u,H b=some u->b ∉ ch:=fun b u e z=>by rw [(hf b z).1] at e;cases e
 refine I.step (g':=s.gens) (d':=s.drawn) (ch:=ch) (fun b hb=>⟨(hf b hb).2.2.2.1,(hf b hb).2.1,(hf b hb).2.2.2.2.1,(hf b hb).2.2.2.2.2⟩) (fun b u _ _ hc e _=>k b u hc e) (fun b u _ _ hc e _=>⟨u.slots,k b u hc e⟩) (fun b u hc e n=>n)
  (fun b u hc e=>⟨u,k b u hc e⟩) (fun b xs e=>e) (fun b u xs e=>e) (fun _ _ _ e=>e) (fun m hm => ?_) (fun b u e => ?_) I.bare
 ·obtain ⟨ob,es,ep,ho,r⟩:=hm
  exact ⟨ob,es,ep,k _ ob (fun z=>(hf _ z).2.1 rfl) ho,r⟩
 ·refine (I.hok b u e).stay (fun c v hc q=>k c v ?_ q) (fun c q=>q) fun c xs q=>q
  rcases hc with z | z
  ·rw [z];exact nch b u e
  ·exact nch c _ z
end
def Itz (K:Fr0) (a1 a2:Addr) (xs ys:List V):It :=
 ⟨fun i H=>i<min xs.length ys.length/\SqT K H a1 xs/\SqT K H a2 ys,fun i H x H'=>∃ p u v,H p=none/\xs[i]? = some u/\ys[i]? = some v/\x = .ref p/\H'=upd H p (.tup [u,v]),fun i H=>i=min xs.length ys.length/\SqT K H a1 xs/\SqT K H a2 ys⟩
def ZSt (z TI TO i1 i2 a1 a2:Addr) (i:Nat) (h:Heap):Prop:=IsZip h z TI TO .none/\IsPair h TI (.ref i1) (.ref i2)/\(∃ p q,IsPair h TO p q)/\h.IsTupleIter i1 a1 i/\h.IsTupleIter i2 a2 i
theorem qjm {P:Program} {w:World} {K:Fr0} {es:List Expr} {kk:Nat} {pos:Pos} {z TI TO i1 i2 a1 a2:Addr} {xs ys:List V} (ap:ZAp z TI TO i1 i2 [i1,a1] [i2,a2]) (n1:a1≠i1) (n2:a2≠i2) :
  qla P w K (.Tuple es kk pos) (Itz K a1 a2 xs ys) [z,TI,TO,i1,i2] z (ZSt z TI TO i1 i2 a1 a2) where
 mem:=by simp
 obj:=fun i h st b hb=>by
  obtain ⟨h1,h2,⟨p,q,h3⟩,⟨o4,h4,c4,d4⟩,⟨o5,h5,c5,d5⟩⟩:=st
  simp only [List.mem_cons,nN_,or_false] at hb
  rcases hb with rfl | rfl | rfl | rfl | rfl
  ·exact ⟨_,h1,fun v e=>by cases (show Data.fields _=Data.cell v from e)⟩
  ·exact ⟨_,h2,fun v e=>by cases (show Data.seq _ _=Data.cell v from e)⟩
  ·exact ⟨_,h3,fun v e=>by cases (show Data.seq _ _=Data.cell v from e)⟩
  ·exact ⟨_,h4,fun v e=>by rw [d4] at e;cases e⟩
  ·exact ⟨_,h5,fun v e=>by rw [d5] at e;cases e⟩
 keep:=fun i h h' st k=>by
  obtain ⟨h1,h2,⟨p,q,h3⟩,h4,h5⟩:=st
  exact ⟨k z (by simp) _ h1,k TI (by simp) _ h2,⟨p,q,k TO (by simp) _ h3⟩,h4.at fun o e=>k i1 (by simp) o e,h5.at fun o e=>k i2 (by simp) o e⟩
 item:=by
  intro X hP hw hK hc i pins s Z H E I hf st hg
  subst hP hw hK
  obtain ⟨hlt,hx,hy⟩:=hg
  obtain ⟨h1,h2,⟨p,q,h3⟩,h4,h5⟩:=st
  obtain ⟨it1,r1,p1,z1⟩:=I.tuple hx
  obtain ⟨it2,r2,p2,z2⟩:=I.tuple hy
  have l1:i<it1.toArray.size:=by rw [sT_,<- r1.length];omega
  have l2:i<it2.toArray.size:=by rw [sT_,<- r2.length];omega
  have hT:s.TypeIs (.ref z) "zip":=⟨_,h1,rfl⟩
  have hh:X.A.in1.handled=none:=I.ok.hd hc
  unfold pyNext
  refine wpAny_bind (wpAny_attempt (wpAny_callSpecial?_slot (name:=Str.ofString "__next__") hT F.slot_zip_next (wpAny_call_entry F.slot_zip_next hT F.entry_zip_next
   (qnQ (vZ hh i1 a1 n1 it1.toArray) (vZ hh i2 a2 n2 it2.toArray) ap h1 h2 h3 ⟨h4,p1⟩ ⟨h5,p2⟩ l1 l2 fun x y h' tk px py zz zO u1 u2 new kp=>wpAny_pure ?_) (F.args_zip_next_1 _))))
  refine ⟨.ref s.heap.objs.size,rfl,wpAny_letOwnedTupleGo_zip zz fun h2' zz2 sb => ?_⟩
  obtain ⟨xv,hxv⟩:∃ v,xs[i]? = some v:=⟨xs[i]'(by omega),gG (by omega)⟩
  obtain ⟨yv,hyv⟩:∃ v,ys[i]? = some v:=⟨ys[i]'(by omega),gG (by omega)⟩
  obtain ⟨x',ex,rx⟩:=r1.get hxv
  obtain ⟨y',ey,ry⟩:=r2.get hyv
  have exx:x'=x:=by
   have:it1.toArray[i]? = some x:=px
   rw [List.getElem?_toArray,ex] at this
   exact Option.some.inj this
  have eyy:y'=y:=by
   have:it2.toArray[i]? = some y:=py
   rw [List.getElem?_toArray,ey] at this
   exact Option.some.inj this
  subst exx eyy
  have lz:z<s.heap.objs.size:=Heap.lt_size h1
  have keep:∀ b u,b ∉ [z,TI,TO,i1,i2]->s.heap.get? b=some u->h2'.get? b=some u:=fun b u hb e=>by
   simp only [List.mem_cons,nN_,or_false,not_or] at hb
   exact sb.extBut _ _ hb.1 (kp b u hb.1 hb.2.2.1 hb.2.2.2.1 hb.2.2.2.2 e)
  have I2:Inv X pins Z (upd H s.heap.objs.size (.tup [xv,yv])) { s with heap:=h2',toks:=tk } :=
   qhr I keep hf (Nat.le_refl _) ⟨by show 2<=sizeLine;decide,[x',y'],.cons rx (.cons ry .nil),⟨_,sb.extBut _ _ (Nat.ne_of_gt lz) new,rfl,_,rfl⟩⟩
  refine ⟨.ref s.heap.objs.size,upd H s.heap.objs.size (.tup [xv,yv]),I2,rfl,⟨s.heap.objs.size,xv,yv,I.hok.fresh (Nat.le_refl _),hxv,hyv,rfl,rfl⟩,?_,fun b hb => ?_⟩
  ·exact ⟨zz2,sb.extBut _ _ ap.zTI.symm (kp _ _ ap.zTI.symm ap.IO ap.Ii1 ap.Ii2 h2),⟨_,_,sb.extBut _ _ ap.zTO.symm zO⟩,u1.1.at fun o e=>sb.extBut _ _ ap.zi1.symm e,u2.1.at fun o e=>sb.extBut _ _ ap.zi2.symm e⟩
  ·have hb1:b≠s.heap.objs.size:=by
    simp only [List.mem_cons,nN_,or_false] at hb
    obtain ⟨o4,g4,_⟩:=h4
    obtain ⟨o5,g5,_⟩:=h5
    rcases hb with rfl | rfl | rfl | rfl | rfl
    ·exact Nat.ne_of_lt (Heap.lt_size h1)
    ·exact Nat.ne_of_lt (Heap.lt_size h2)
    ·exact Nat.ne_of_lt (Heap.lt_size h3)
    ·exact Nat.ne_of_lt (Heap.lt_size g4)
    ·exact Nat.ne_of_lt (Heap.lt_size g5)
   rw [qu hb1]
   exact (hf b hb).1
 done:=by
  intro X hP hw hK hc i pins s Z H E I hf st hg
  subst hP hw hK
  obtain ⟨hlt,hx,hy⟩:=hg
  obtain ⟨h1,h2,⟨p,q,h3⟩,h4,h5⟩:=st
  obtain ⟨it1,r1,p1,z1⟩:=I.tuple hx
  obtain ⟨it2,r2,p2,z2⟩:=I.tuple hy
  have hT:s.TypeIs (.ref z) "zip":=⟨_,h1,rfl⟩
  have hh:X.A.in1.handled=none:=I.ok.hd hc
  unfold pyNext
  refine wpAny_bind (wpAny_attempt (wpAny_callSpecial?_slot (name:=Str.ofString "__next__") hT F.slot_zip_next (wpAny_call_entry F.slot_zip_next hT F.entry_zip_next
   (qjk hh (vZ hh i1 a1 n1 it1.toArray) (vZ hh i2 a2 n2 it2.toArray) ap h1 h2 h3 ⟨h4,p1⟩ ⟨h5,p2⟩ (by rw [sT_,sT_,<- r1.length,<- r2.length];exact hlt) fun h' tk e kp he => ?_) (F.args_zip_next_1 _))))
  obtain ⟨o,ho,hcl⟩:=he
  refine wpAny_bind (wpAny_isInstance (T:="StopIteration") (b:=true) ⟨o,ho,hcl⟩ isSubtype_stop (wpAny_pure ⟨rfl,qhs I (fun b u hb e => ?_) hf⟩))
  simp only [List.mem_cons,nN_,or_false,not_or] at hb
  exact kp b u hb.1 hb.2.2.1 hb.2.2.2.1 hb.2.2.2.2 e
 self:=fun A i s Q E st h=>wpAny_pyIter_zip st.1 h
section
variable {X:Cx} {c:Fc} {a b e:Expr} {pos:Pos} {es:List Expr} {kk:Nat} {tp:Pos}
theorem qlJ (n l1 l2:Nat) (h1:l1<n) (h2:l2<n):ZAp (n+4) (n+2) (n+3) n (n+1) [n,l1] [n+1,l2]:=by
 refine ⟨?_,?_,?_,?_,?_,?_,?_,?_,?_,?_,?_,?_,?_,?_,?_,?_⟩<;>simp only [List.mem_cons,nN_,or_false,not_or,ne_eq]<;>(unfold Addr at *)<;>omega
def qqR (K:Fr0) (ta:TA):TI:=fun Z H R=>ta Z H fun vs H1=>∃ a1 a2 xs ys,vs=[.ref a1,.ref a2]/\SqT K H1 a1 xs/\SqT K H1 a2 ys/\R (Itz K a1 a2 xs ys) H1
theorem qnR {ta:TA} {p:Pos} (hg:Gl X "zip") (hm:X.mg "zip"=none) (ha:PA X [a,b] ta) (hs:starEach [a,b] X.env=[(false,eval a X.env),(false,eval b X.env)]:=by rfl) (hs2:starEach [b] X.env=[(false,eval b X.env)]:=by rfl) :
  PI X (.Tuple es kk tp) (.Call (.Name "zip" p) [a,b] [] pos) (qqR X.K ta):=by
 intro pins s Z H R I h
 refine Call_ (qa5 I hg hm PyProof.Rows.boot_zip (PyProof.Rows.callWith_type1 (thn (ha pos pins s Z H _ I h) fun us s1 ⟨vs,H1,I1,r1,q1⟩ => ?_) (by rw [hs,hs2]) (by rw [hs2];rfl)))
 obtain ⟨a1,a2,xs,ys,e1,hx,hy,q⟩:=q1
 subst e1
 obtain ⟨u1,u2,rfl,ru1,ru2⟩:=zd.two r1
 cases (show u1=Value.ref a1 from ru1)
 cases (show u2=Value.ref a2 from ru2)
 obtain ⟨it1,v1,p1,z1⟩:=I1.tuple hx
 obtain ⟨it2,v2,p2,z2⟩:=I1.tuple hy
 refine qjl (show s1.heap.IsTuple a1 it1.toArray from p1) (show s1.heap.IsTuple a2 it2.toArray from p2) fun h' zz zI zO g1 g2 kp => ?_
 refine wpAny_pyIter_zip zz ?_
 have la1:a1<s1.heap.objs.size:=by obtain ⟨o,e,_⟩:=p1;exact Heap.lt_size e
 have la2:a2<s1.heap.objs.size:=by obtain ⟨o,e,_⟩:=p2;exact Heap.lt_size e
 have ap:ZAp (s1.heap.objs.size+4) (s1.heap.objs.size+2) (s1.heap.objs.size+3) s1.heap.objs.size (s1.heap.objs.size+1) [s1.heap.objs.size,a1] [s1.heap.objs.size+1,a2]:=by
  exact qlJ _ _ _ la1 la2
 refine ⟨s1.heap.objs.size+4,[s1.heap.objs.size+4,s1.heap.objs.size+2,s1.heap.objs.size+3,s1.heap.objs.size,s1.heap.objs.size+1],_,_,H1,rfl,I1.kept (t':=s1.toks) kp,qjm (xs:=xs) (ys:=ys) ap (Nat.ne_of_lt la1) (Nat.ne_of_lt (Nat.lt_succ_of_lt la2)),⟨zz,zI,⟨_,_,zO⟩,g1,g2⟩,fun b hb => ?_,q⟩
 simp only [List.mem_cons,nN_,or_false] at hb
 have hb2:s1.heap.objs.size<=b:=by
  rcases hb with e | e | e | e | e<;>rw [e]
  ·exact Nat.le_add_right _ _
  ·exact Nat.le_add_right _ _
  ·exact Nat.le_add_right _ _
  ·exact Nat.le_refl _
  ·exact Nat.le_add_right _ _
 exact I1.fpOk hb2 (I1.hok.fresh hb2)
def qfA:List D->List D->List D
 | x::xs,y::ys => .tup [x,y]::qfA xs ys
 | _,_=>[]
theorem qfB:∀ {xs ys:List D} {i:Nat} {d:D},(qfA xs ys)[i]? = some d->∃ x y,xs[i]? = some x/\ys[i]? = some y/\d = .tup [x,y]
 | [],_,_,_,h=>by simp [qfA] at h
 | _::_,[],_,_,h=>by simp [qfA] at h
 | x::xs,y::ys,0,d,h=>by
  have:D.tup [x,y]=d:=by simpa [qfA] using h
  exact ⟨x,y,rfl,rfl,this.symm⟩
 | x::xs,y::ys,i+1,d,h=>by
  obtain ⟨u,v,h1,h2,h3⟩:=qfB (xs:=xs) (ys:=ys) (i:=i) (d:=d) (by simpa [qfA] using h)
  exact ⟨u,v,by simpa using h1,by simpa using h2,h3⟩
theorem qda:∀ (xs ys:List D),(qfA xs ys).length=min xs.length ys.length
 | [],ys=>by simp [qfA]
 | _::_,[]=>by simp [qfA]
 | x::xs,y::ys=>by simp [qfA,qda xs ys]
theorem qnS {K:Fr0} {A:Addr->Prop} {H:Hp} {ds es:List D} {xs ys:List V} {a1 a2:Addr} (t1:u5 K H a1 xs) (t2:u5 K H a2 ys) (i1:IsL K A H ds xs) (i2:IsL K A H es ys):qiL K A H (qfA ds es) (Itz K a1 a2 xs ys) where
 go:=fun H' i d ex hd=>by
  have hl:i<(qfA ds es).length:=(gI_.mp hd).1
  rw [qda,<- i1.length,<- i2.length] at hl
  exact ⟨hl,(t1.elim (fun h => .inl (ex.tup _ _ h)) .inr:u5 K H' a1 xs).sq,(t2.elim (fun h => .inl (ex.tup _ _ h)) .inr:u5 K H' a2 ys).sq⟩
 yl:=fun H' i d x H'' ex hd y=>by
  obtain ⟨p,u,v,hp,hu,hv,rfl,rfl⟩:=y
  obtain ⟨dx,dy,h1,h2,rfl⟩:=qfB hd
  obtain ⟨u',g1,g2⟩:=i1.get h1
  obtain ⟨v',g3,g4⟩:=i2.get h2
  rw [hu] at g1
  rw [hv] at g3
  cases g1
  cases g3
  have sm:=qy hp (.tup [u,v])
  exact ⟨sm,p,[u,v],rfl,.inl qt,u,[v],rfl,Is.ext (Ext.of_same sm) (fun _ h _=>h) (Is.ext ex (fun _ h _=>h) g2),v,[],rfl,Is.ext (Ext.of_same sm) (fun _ h _=>h) (Is.ext ex (fun _ h _=>h) g4),rfl⟩
 stop:=fun H' ex=>⟨by rw [qda,i1.length,i2.length],(t1.elim (fun h => .inl (ex.tup _ _ h)) .inr:u5 K H' a1 xs).sq,(t2.elim (fun h => .inl (ex.tup _ _ h)) .inr:u5 K H' a2 ys).sq⟩
def qoT:List D->Option (List D)
 | [.tup xs,.tup ys]=>some (qfA xs ys)
 | _=>none
def qnT (f:M (List D)):M (List D):=bnd f fun ds=>lift (qoT ds)
theorem qnU {f:M (List D)} {p:Pos} (hg:Gl X "zip") (hm:X.mg "zip"=none) (ha:DA X c [a,b] f) (hs:starEach [a,b] X.env=[(false,eval a X.env),(false,eval b X.env)]:=by rfl) (hs2:starEach [b] X.env=[(false,eval b X.env)]:=by rfl) :
  DI X c (.Tuple es kk tp) (.Call (.Name "zip" p) [a,b] [] pos) (qnT f):=by
 obtain ⟨t,pa,w⟩:=ha
 refine ⟨_,qnR hg hm pa hs hs2,fun U Z H Q r h=>w U Z H _ r (WpL.bndI h fun ds U1 vs H1 r1 i1 g1 h1 => ?_)⟩
 obtain ⟨es',e,h2⟩:=qaa h1
 unfold qoT at e
 split at e
 ·obtain ⟨v,u,rfl,j1,j2⟩:=IsL.inv2 i1
  cases e
  obtain ⟨a1,xs,rfl,t1,il1⟩:=Is.tr j1
  obtain ⟨a2,ys,rfl,t2,il2⟩:=Is.tr j2
  exact ⟨a1,a2,xs,ys,rfl,t1.sq,t2.sq,h2 _ H1 r1 (qnS t1 t2 il1 il2) .refl⟩
 ·cases e
end
theorem qdb:fillsNumberSlot (.type "tuple") "mul"=pure false:=by
 first | kernel_rfl | (unfold fillsNumberSlot;kernel_rfl) | decide +kernel
theorem qgv:seqRepeat? (.type "tuple")=pure (some (.builtin "tuple.__mul__")):=by
 first | kernel_rfl | (unfold seqRepeat?;kernel_rfl) | decide +kernel
theorem qd9 (a:Int) (t:Tok) (l:Addr) (dd:Option Addr) (items:Array Value) (n:Nat) (sl:Array (Option Value)) :
  Meets (Builtin.«int.__rmul__» ⟨[.int a t,.ref l],[]⟩) (fun _ R s=>s.heap.get? l=some { cls := .type "tuple",dict:=dd,data := .seq items n,slots:=sl }/\R (.ok (.ret .notImplemented)) s) :=
 .of_wp fun prog w A R s h=>by
  obtain ⟨hp,g,d,tk,os⟩:=s
  obtain ⟨hl,h⟩:=h
  wp_walk using wpAny_loadPart' hl
  exact ⟨_,rfl,h⟩
theorem qnV (l:Addr) (dd:Option Addr) (items:Array Value) (n:Nat) (sl:Array (Option Value)) (k:Int) (t:Tok) (h0:¬ items.isEmpty=true) (h1:¬ (k==1)=true) (h2:¬ k<=0) (h3:¬ (decide (k < -(2 ^ 63))||decide (k >= 2 ^ 63))=true)
  (h4:¬ (items.size:Int)*k>(2 ^ 63-1)/8) (h5:¬ Builtin.Tuple.tupleTooMany ((items.size:Int)*k)=true) (h6:((List.replicate k.toNat items).foldl (·++·) #[]).size<=sizeLine) :
  Meets (Builtin.«tuple.__mul__» ⟨[.ref l,.int k t],[]⟩) (fun _ R s=>s.heap.get? l=some { cls := .type "tuple",dict:=dd,data := .seq items n,slots:=sl } /\
   R (.ok (.ret (.ref s.heap.objs.size))) { s with heap:=s.heap.push { cls := .type "tuple",data := .seq ((List.replicate k.toNat items).foldl (·++·) #[]) } }) :=
 .of_wp fun prog w A R s h=>by
  obtain ⟨hp,g,d,tk,os⟩:=s
  obtain ⟨hl,h⟩:=h
  have f1:=AutoSeq1.idx_int
  have f2:=AutoSeq1.sub_tuple_tuple
  have h01:¬ (items.isEmpty||k==1)=true:=by simp only [Bool.or_eq_true,not_or];exact ⟨h0,h1⟩
  have h02:¬ (decide (k<=0)||items.isEmpty)=true:=by simp only [Bool.or_eq_true,decide_eq_true_eq,not_or];exact ⟨h2,h0⟩
  wp_walk using wpAny_loadPart' hl
  rw [if_neg h3]
  wp_walk using wpAny_loadPart' hl
  rw [if_neg h4]
  wp_walk using wpAny_loadPart' hl
  exact ⟨_,rfl,h⟩
section
variable {X:Cx}
def qnW (K:Fr0):R2:=fun x y H Q=>∃ a xs k,x = .ref a/\y = .int k/\SqT K H a xs/\xs≠[]/\2<=k/\xs.length*k.toNat<=sizeLine/\∀ p,H p=none->Q (.ref p) (upd H p (.tup (List.replicate k.toNat xs).flatten))
theorem qlK:OpR X (binaryOp .Mult) (qnW X.K):=by
 intro pins s Z H x y v u Q I rx ry h
 obtain ⟨a,xs,k,rfl,rfl,hx,hne,hk,hz,q⟩:=h
 cases rx
 obtain ⟨t,rfl⟩:=ry
 obtain ⟨its,r,p1,_⟩:=I.tuple hx
 obtain ⟨⟨cls,dd,data,sl⟩,ho,hc,n,hd⟩:=id p1
 simp only at hc hd
 subst hc hd
 have hl:=r.length
 have hnew:List.foldl (fun x1 x2=>x1++x2) #[] (List.replicate k.toNat its.toArray)=(List.replicate k.toNat its).flatten.toArray:=by
  have:=qbG its k.toNat []
  rw [List.nil_append] at this
  exact this
 have hlen:(List.replicate k.toNat its).flatten.length=k.toNat*its.length:=qeR its k.toNat
 have hsl:(sizeLine:Nat)=16777216:=sizeLine_eq
 have e0:¬ its.toArray.isEmpty=true:=by
  intro e
  have:its=[]:=by simpa using e
  rw [this] at hl
  exact hne (List.length_eq_zero_iff.mp hl)
 have pos1:1<=its.length:=by
  cases its with
  | nil=>simp at e0
  | cons z zs=>simp
 have kk:((k.toNat:Nat):Int)=k:=Int.toNat_of_nonneg (by omega)
 have mm:(its.toArray.size:Int)*k=((its.length*k.toNat:Nat):Int):=by rw [sT_,Int.natCast_mul,kk]
 have zz:its.length*k.toNat<=sizeLine:=by rw [<- hl];exact hz
 have kle:k.toNat<=its.length*k.toNat:=Nat.le_mul_of_pos_left _ pos1
 have T1:s.TypeIs (.ref a) "tuple":=⟨_,ho,rfl⟩
 refine wpAny_binaryOp_repeat_ref (T:="tuple") (U:="int") (by decide) T1 (fun s'=>typeIs_int s' k t) qdb F.fills_int_mul F.slot_int_rmul qgv F.slot_int_index.lookup
  (call_meets F.slot_int_rmul (typeIs_int s k t) F.entry_int_rmul (F.args_int_rmul_2 _ _) (qd9 k t a dd its.toArray n sl)
   ⟨ho,rfl,T1,call_meets F.slot_tuple_mul T1 F.entry_tuple_mul (F.args_tuple_mul_2 _ _) (qnV a dd its.toArray n sl k t e0 (by simp;omega) (by omega) (by simp;omega) (by rw [mm];omega) ?_ (by rw [hnew,sT_,hlen,Nat.mul_comm];exact zz)) ⟨ho,?_⟩⟩)
 ·rw [mm]
  show ¬ decide (((its.length*k.toNat:Nat):Int)>(sizeLine:Int))=true
  rw [decide_eq_true_eq]
  omega
 ·rw [hnew]
  refine ⟨.ref s.heap.objs.size,_,I.laid (t':=s.toks) (o := .tup (List.replicate k.toNat xs).flatten) (fun b ob q=>Heap.get?_push_of_some _ q) (Nat.le_refl _) ?_,rfl,q _ (I.hok.fresh (Nat.le_refl _))⟩
  exact ⟨by rw [qeR,Nat.mul_comm];exact hz,_,r.rep k.toNat,IsTup.new _ _⟩
def qnX (K:Fr0):R2:=fun x y H Q=>(rI qnb (fun i j => .int (i*j))) x y H Q\/(qnW K x y H Q\/qp6 x y H Q)
theorem zu:OpR X (binaryOp .Mult) (qnX X.K):=OpR.or qnd (OpR.or qlK qkf)
end
def jX:D->D->Option D
 | .int i,.int j=>if qhf i j then some (.int (i*j)) else none
 | .tup ds,.int k=>if (!ds.isEmpty&&decide (2<=k))&&qP (ds.length*k.toNat) then some (.tup (List.replicate k.toNat ds).flatten) else none
 | .lst ds,.int k=>if (decide (-(2 ^ 62)<=k)&&decide (k<2 ^ 62))&&qP (ds.length*k.toNat) then some (.lst (List.replicate k.toNat ds).flatten) else none
 | _,_=>none
theorem IsL.rep {K:Fr0} {A:Addr->Prop} {H:Hp} {ds:List D} {xs:List V} (h:IsL K A H ds xs):∀ k:Nat,IsL K A H (List.replicate k ds).flatten (List.replicate k xs).flatten
 | 0=>by simp [IsL]
 | k+1=>by
  rw [rS_,rS_,List.flatten_cons,List.flatten_cons]
  exact IsL.append h (IsL.rep h k)
theorem qR {K:Fr0}:OpS K jX (qnX K):=by
 intro A H x y d v u Q hn ix iy e k
 cases x<;>cases y<;>simp only [jX] at e<;>try (cases e;done)
 ·rename_i i j
  obtain ⟨e1,e2⟩:=z5 e
  subst e2
  cases ix;cases iy
  exact .inl ⟨i,j,rfl,rfl,qi4 e1,k _ H (jp.refl H) rfl⟩
 ·rename_i ds j
  obtain ⟨a,xs,rfl,ta,il⟩:=ix
  cases iy
  obtain ⟨e1,e2⟩:=z5 e
  subst e2
  rw [Bool.and_eq_true,Bool.and_eq_true] at e1
  obtain ⟨⟨e3,e4⟩,e5⟩:=e1
  refine .inr (.inl ⟨a,xs,j,rfl,rfl,ta.sq,fun z => ?_,of_decide_eq_true e4,by rw [il.length];exact of_decide_eq_true e5,fun p hp=>k _ _ (qy hp _) ⟨p,_,rfl,.inl qt,IsL.ext (Ext.of_same (qy hp _)) (fun _ h _=>h) (IsL.rep il _)⟩⟩)
  have:=il.length
  rw [z] at this
  have:ds=[]:=List.length_eq_zero_iff.mp this.symm
  rw [this] at e3
  simp at e3
 ·rename_i ds j
  obtain ⟨a,xs,rfl,_,ta,il⟩:=ix
  cases iy
  obtain ⟨e1,e2⟩:=z5 e
  subst e2
  rw [Bool.and_eq_true,Bool.and_eq_true] at e1
  obtain ⟨⟨e3,e4⟩,e5⟩:=e1
  have e3':=of_decide_eq_true e3
  have e4':=of_decide_eq_true e4
  refine .inr (.inr ⟨a,j,xs,rfl,rfl,ta,by omega,by omega,by rw [il.length];exact of_decide_eq_true e5,fun p hp=>k _ _ (qy hp _) ⟨p,_,rfl,hn p hp,qt,IsL.ext (Ext.of_same (qy hp _)) (fun _ h _=>h) (IsL.rep il _)⟩⟩)
def qkt:D->Option D
 | .int i=>some (.int (-i))
 | _=>none
def d1 (F:D->Option D) (f:M D):M D:=bnd f fun x=>lift (F x)
section
variable {X:Cx} {c:Fc} {a b e:Expr} {pos:Pos}
theorem qnY {f:M D} (h:DE X c a f):DE X c (.UnaryOp .USub a pos) (d1 qkt f):=by
 obtain ⟨t,p,w⟩:=h
 refine ⟨_,qpe qne p,fun U Z H Q r h=>w U Z H _ r (Wp.bnd h fun d U1 v H1 r1 i1 g1 h1 => ?_)⟩
 obtain ⟨d',e,h2⟩:=h1.lift
 cases d<;>simp only [qkt] at e<;>try (cases e;done)
 rename_i i
 cases e
 cases i1
 exact ⟨i,rfl,h2 _ H1 r1 rfl .refl⟩
def qjn (i j:Nat) (f:M (List D)):MS:=sbnd f fun ds U=>match ds with
 | [d,e] => .ok (.nx ((U.set i (some d)).set j (some e)))
 | _ => .bad
theorem qht {i j:Nat} {x y:Str} {f:M (List D)} {px py pt:Pos} {kt k2 pt2} (hN:X.N.Nodup) (ha:DA X c [a,b] f) (hw:swappedStores [.Tuple [.Name x px,.Name y py] kt pt] (.Tuple [a,b] k2 pt2) X.env=pure (some [x,y])) (hc:X.calm=true:=by rfl) (hi:X.N[i]? = some x:=by rfl) (hj:X.N[j]? = some y:=by rfl) (hij:i≠j:=by decide)
  (hx:X.env.scope.names.lookup x=some .local:=by rfl) (hy:X.env.scope.names.lookup y=some .local:=by rfl) (ho:i ∉ c.O:=by exact of_decide_eq_false rfl) (hp:j ∉ c.O:=by exact of_decide_eq_false rfl)
  (hs:swapsWithSole [.Tuple [.Name x px,.Name y py] kt pt] (.Tuple [a,b] k2 pt2) pos.line X.env=pure false:=by rfl) :
  DS X c (.Assign [.Tuple [.Name x px,.Name y py] kt pt] (.Tuple [a,b] k2 pt2) pos) (qjn i j f):=by
 obtain ⟨t,p,w⟩:=ha
 refine ⟨_,qm6 hc hN hi hj hij hx hy p hw hs,fun U Z H D r h=>w U Z H _ r (WpL.sbnd h fun ds U1 vs H1 r1 i1 g1 h1 => ?_)⟩
 match ds,i1,h1 with
 | [],_,h1=>exact h1.elim
 | [_],_,h1=>exact h1.elim
 | [d,e],i1,h1 =>
  obtain ⟨v,u,rfl,j1,j2⟩:=IsL.inv2 i1
  refine ⟨v,u,rfl,h1 _ H1 ((r1.set ho j1).set hp ?_) ((GrS.set ho).trans (GrS.set hp))⟩
  exact (GrS.set (H:=H1) ho).is j2
 | _::_::_::_,_,h1=>exact h1.elim
mutual
def immF:D->Bool
 | .tup ds=>immFs ds
 | .lst _=>false
 | .dic _=>false
 | _=>true
def immFs:List D->Bool
 | []=>true
 | d::ds=>immF d&&immFs ds
end
mutual
theorem Is.immF {K:Fr0} {A B:Addr->Prop} {H:Hp}:∀ {d:D} {v:V},immF d=true->Is K A H d v->Is K B H d v
 | .non,_,_,h=>h
 | .bl _,_,_,h=>h
 | .int _,_,_,h=>h
 | .str _,_,_,h=>h
 | .tup ds,_,i,⟨a,xs,hv,h,r⟩=>⟨a,xs,hv,h,IsL.immF (by simpa [Sk.immF] using i) r⟩
 | .lst _,_,i,_=>by simp [Sk.immF] at i
 | .dic _,_,i,_=>by simp [Sk.immF] at i
 | .fz _,_,_,h=>h
 | .exc _,_,_,h=>h
theorem IsL.immF {K:Fr0} {A B:Addr->Prop} {H:Hp}:∀ {ds:List D} {xs:List V},immFs ds=true->IsL K A H ds xs->IsL K B H ds xs
 | [],_,_,h=>h
 | d::ds,_,i,⟨x,ys,hx,h,r⟩=>by
  have i':Sk.immF d=true/\immFs ds=true:=by simpa [immFs] using i
  exact ⟨x,ys,hx,Is.immF i'.1 h,IsL.immF i'.2 r⟩
end
def qhu (F:List D->R D) (g:M (List D)):M (List D):=bnd g fun ds U=>if immFs ds then match F ds with
 | .ok (.lst bs)=>if immL bs then .ok (bs,U) else .bad
 | _ => .bad else .bad
theorem qlL {k:Nat} {f:Addr} {fd:FuncData} {ps:List Str} {F:List D->R D} {x:Str} {p:Pos} {es:List Expr} {g:M (List D)} (G:qct X.prog X.w X.K X.mg X.base CX0 k f fd ps (spD X.K F)) (hr:vv k X.A) (hg:Gl X x) (hm:X.mg x=some (.ref f)) (hk:PySem.W.keepIn X.K (.ref f)=true) (hb:wF X.K fd ps [])
  (ha:DA X c (e::es) g) (hd:(x==("__debug__":Str))=false:=by decide) (he:starEach (e::es) X.env=(false,eval e X.env)::starEach es X.env:=by rfl) (hpl:(backTo pos (starEach es X.env)).any (·.1)=false:=by rfl):DN X c (.Call (.Name x p) (e::es) [] pos) (qhu F g):=by
 obtain ⟨t,pa,w⟩:=ha
 refine ⟨_,qcZ G hr hg hm hk hb .nil qlq pa hd he hpl,fun U Z H Q r h=>w U Z H _ r (WpL.bndN h fun ds U1 vs H1 r1 i1 g1 h1 => ?_)⟩
 rw [List.append_nil]
 by_cases him:immFs ds=true
 ·rw [if_pos him] at h1
  refine ⟨ds,fun _=>False,IsL.immF him i1,r1.tb,?_⟩
  cases ef:F ds with
  | bad=>simp only [ef] at h1;exact h1.elim
  | exc z U'=>simp only [ef] at h1;exact h1.elim
  | ok d =>
   cases d with
   | lst bs =>
    simp only [ef] at h1
    by_cases hb2:immL bs=true
    ·rw [if_pos hb2] at h1
     intro v H' sm i
     obtain ⟨a,xs,rfl,hA,ha2,il⟩:=i
     have hn:H1 a=none:=hA.elim False.elim id
     exact h1 a xs H' hn (r1.same sm) (r1.apart_same hn sm) ha2 trivial (IsL.imm hb2 il) (.of_same sm)
    ·rw [if_neg hb2] at h1;exact h1.elim
   | _=>simp only [ef] at h1;exact h1.elim
 ·rw [if_neg him] at h1;exact h1.elim
end
structure qlM (outer:Scope) (N:List Str) (scope:Scope) (N':List Str) (nt:Nat) (fr:List Nat):Prop where
 kind:scope.kind = .function
 nocell:∀ y∈scope.names,y.2 ≠ .cell
 names:∀ y∈scope.names,y.2 = .local->scope.names.lookup y.1=some .local
 frees:∀ y∈scope.names,y.2 = .free->outer.names.lookup y.1=some .cell
 len:N'.length=nt+fr.length
 slots:∀ p∈fr.zipIdx,N'[nt+p.2]? = N[p.1]? /\ ((N[p.1]?).bind fun x=>scope.names.lookup x)=some .free
theorem qlM.ok {X:Cx} {outer:Scope} {N:List Str} {scope:Scope} {N':List Str} {nt:Nat} {fr:List Nat} (S:qlM outer N scope N' nt fr) (h1:X.env.scope=outer) (h2:X.N=N):CompScope X scope N' nt fr:=by
 subst h1 h2
 refine ⟨S.kind,S.nocell,S.names,S.frees,S.len,fun i j h => ?_⟩
 have hm:(j,i)∈fr.zipIdx:=by
  rw [List.mem_iff_getElem?]
  refine ⟨i,?_⟩
  rw [List.getElem?_zipIdx,h]
  simp
 obtain ⟨h3,h4⟩:=S.slots (j,i) hm
 cases e:X.N[j]? with
 | none =>
  have h4':((X.N[j]?).bind fun x=>scope.names.lookup x)=some .free:=h4
  rw [e] at h4';cases h4'
 | some x =>
  have h4':((X.N[j]?).bind fun x=>scope.names.lookup x)=some .free:=h4
  rw [e] at h4'
  exact ⟨x,by
    have h3':N'[nt+i]? = X.N[j]? := h3
    rw [h3',e],rfl,h4'⟩
structure qC (P:Program) (w:World) (K:PySem.W.Frag) (mg:Str->Option Value) (base:Heap) (k:Nat) (x:Str) (ps:List Str) (sp:Sp):Prop where
 ex:∃ f fd,qct P w K mg base CX0 k f fd ps sp/\mg x=some (.ref f)/\PySem.W.keepIn K (.ref f)=true/\wF K fd ps []
theorem ui:bootBuiltins "len"=some (.builtin "len"):=by decide +kernel
theorem qku:bootBuiltins "max"=some (.builtin "max"):=by decide +kernel
theorem qkv:bootBuiltins "min"=some (.builtin "min"):=by decide +kernel
theorem qnZ:bootBuiltins "all"=some (.builtin "all"):=by decide +kernel
theorem qkw:bootBuiltins "any"=some (.builtin "any"):=by decide +kernel
theorem qn0:bootBuiltins "sum"=some (.builtin "sum"):=by decide +kernel
theorem qhv:bootBuiltins "divmod"=some (.builtin "divmod"):=by decide +kernel
theorem qn1:bootBuiltins "int"=some (.type "int"):=by decide +kernel
theorem qlN:bootBuiltins "bool"=some (.type "bool"):=by decide +kernel
theorem uz:bootBuiltins "tuple"=some (.type "tuple"):=by decide +kernel
theorem yM:bootBuiltins "isinstance"=some (.builtin "isinstance"):=by decide +kernel
def vw:MS:=fun U => .ok (.nx U)
def qae:MS:=fun _ => .bad
theorem qI {X:Cx} {c:Fc}:DSs X c [] vw:=qlt
theorem yr {X:Cx} {c:Fc} {st:Stmt}:DS X c st qae:=qi3
theorem qr {X:Cx}:IxR X (fun x y H Q=>qpm X.K x y H Q\/qpn X.K x y H Q):=qg8.or qnp
theorem qlO {c:Fc} {nt:Nat} {fr:List Nat} {i j:Nat} (h1:j∈c.O) (h2:nt<=i) (h3:fr[i-nt]? = some j) (h4:∀ p∈fr.zipIdx,nt+p.2≠i->p.1 ∉ c.O):qlC c nt fr (some (i,j)) :=
 ⟨h1,h2,h3,fun k j' h hk=>h4 (j',k) (by rw [List.mem_iff_getElem?];exact ⟨k,by rw [List.getElem?_zipIdx,h];simp⟩) hk⟩
def eqB (x y:D):Option D:=match sc2 x y with
 | some b=>some (.bl b)
 | none=>eqA x y
def neB (x y:D):Option D:=match sc2 x y with
 | some b=>some (.bl (!b))
 | none=>neA x y
theorem qbc {X:Cx} {k:Nat} (hr:vv k X.A):OpR X (compareOp .Eq) (fun x y H Q=>rEq x y H Q\/qks X.K false x y H Q):=OpR.or qpg (qnO hr)
theorem qaf {X:Cx} {k:Nat} (hr:vv k X.A):OpR X (compareOp .NotEq) (fun x y H Q=>rNe x y H Q\/qks X.K true x y H Q):=OpR.or qph (qnP hr)
theorem vz {K:Fr0}:OpS K eqB (fun x y H Q=>rEq x y H Q\/qks K false x y H Q):=by
 intro A H x y d v u Q hn ix iy e k
 unfold eqB at e
 cases e1:sc2 x y with
 | some b=>simp only [e1] at e;exact .inl (qlu A H x y d v u Q hn ix iy (by unfold eqS;rw [e1];exact e) k)
 | none=>simp only [e1] at e;exact .inr (qlF A H x y d v u Q hn ix iy e k)
theorem u6 {K:Fr0}:OpS K neB (fun x y H Q=>rNe x y H Q\/qks K true x y H Q):=by
 intro A H x y d v u Q hn ix iy e k
 unfold neB at e
 cases e1:sc2 x y with
 | some b=>simp only [e1] at e;exact .inl (qlv A H x y d v u Q hn ix iy (by unfold neS;rw [e1];exact e) k)
 | none=>simp only [e1] at e;exact .inr (qlG A H x y d v u Q hn ix iy e k)
end L2.Sk
namespace L2.Sk
section
variable {α β:Type} {U:Env} {f g k:M D} {t u:M Bool} {l m:M (List D)} {p q r:MS}
theorem qbV (a:α):ret a U = .ok (a,U):=rfl
theorem qhw (o:Option α):lift o U=match o with | some a => .ok (a,U) | none => .bad:=by cases o<;>rfl
theorem qpq {f:M α} {k:α->M β}:bnd f k U=match f U with | .ok (a,U')=>k a U' | .exc x U' => .exc x U' | .bad => .bad:=rfl
theorem qqb (i:Nat):dv i U=match U[i]? with | some (some d) => .ok (d,U) | _ => .bad:=rfl
theorem zX:qa f l U=match f U with | .ok (d,U1)=>(match l U1 with | .ok (ds,U2) => .ok (d::ds,U2) | .exc x U' => .exc x U' | .bad => .bad) | .exc x U' => .exc x U' | .bad => .bad:=by
 simp only [qa,bnd,sbnd]
 cases f U with
 | ok z =>
  obtain ⟨z1,U1⟩:=z
  simp only [ret]
  cases l U1 with
  | ok z=>obtain ⟨z2,U2⟩:=z;rfl
  | exc x U'=>rfl
  | bad=>rfl
 | exc x U'=>rfl
 | bad=>rfl
theorem qbW:qbv l U=match l U with | .ok (ds,U1)=>(if qP ds.length then .ok (.tup ds,U1) else .bad) | .exc x U' => .exc x U' | .bad => .bad:=by
 simp only [qbv,bnd,sbnd]
 cases l U with
 | ok z =>
  obtain ⟨z1,U1⟩:=z
  cases h:qP z1.length<;>simp [h,lift,ret]
 | exc x U'=>rfl
 | bad=>rfl
theorem qkx:qdW l U=match l U with | .ok (ds,U1)=>(if qP ds.length then .ok (.lst ds,U1) else .bad) | .exc x U' => .exc x U' | .bad => .bad:=by
 simp only [qdW,bnd,sbnd]
 cases l U with
 | ok z =>
  obtain ⟨z1,U1⟩:=z
  cases h:qP z1.length<;>simp [h,lift,ret]
 | exc x U'=>rfl
 | bad=>rfl
theorem qky:qlD l U=match l U with | .ok (ds,U1)=>(if immL ds&&qP ds.length then .ok (ds,U1) else .bad) | .exc x U' => .exc x U' | .bad => .bad:=by
 simp only [qlD,bnd,sbnd]
 cases l U with
 | ok z =>
  obtain ⟨z1,U1⟩:=z
  cases h:(immL z1&&qP z1.length)<;>simp [h,lift,ret]
 | exc x U'=>rfl
 | bad=>rfl
theorem qoU (F:D->D->Option D):d2 F f g U=match f U with | .ok (x,U1)=>(match g U1 with | .ok (y,U2)=>(match F x y with | some d => .ok (d,U2) | none => .bad) | .exc x U' => .exc x U' | .bad => .bad) | .exc x U' => .exc x U' | .bad => .bad:=by
 simp only [d2,bnd,sbnd]
 cases f U with
 | ok z =>
  obtain ⟨z1,U1⟩:=z
  dsimp only <;>
  cases g U1 with
  | ok z=>obtain ⟨z2,U2⟩:=z;(dsimp only;cases F z1 z2<;>rfl)
  | exc x U'=>rfl
  | bad=>rfl
 | exc x U'=>rfl
 | bad=>rfl
theorem qpr (F:D->Option D):d1 F f U=match f U with | .ok (x,U1)=>(match F x with | some d => .ok (d,U1) | none => .bad) | .exc x U' => .exc x U' | .bad => .bad:=by
 simp only [d1,bnd,sbnd]
 cases f U with
 | ok z =>
  obtain ⟨z1,U1⟩:=z
  (dsimp only;cases F z1<;>rfl)
 | exc x U'=>rfl
 | bad=>rfl
theorem qbX (F:List D->Option D):qW F l U=match l U with | .ok (xs,U1)=>(match F xs with | some d => .ok (d,U1) | none => .bad) | .exc x U' => .exc x U' | .bad => .bad:=by
 simp only [qW,bnd,sbnd]
 cases l U with
 | ok z =>
  obtain ⟨z1,U1⟩:=z
  (dsimp only;cases F z1<;>rfl)
 | exc x U'=>rfl
 | bad=>rfl
theorem jt (F:List D->R D):qg F l U=match l U with | .ok (xs,U1)=>(match F xs with | .ok d => .ok (d,U1) | _ => .bad) | .exc x U' => .exc x U' | .bad => .bad:=by
 simp only [qg,bnd,sbnd]
 cases l U with
 | ok z =>
  obtain ⟨z1,U1⟩:=z
  cases F z1<;>rfl
 | exc x U'=>rfl
 | bad=>rfl
theorem qkz (T:String):qlz T f U=match f U with | .ok (d,U1) => .ok (.bl (qeS (tyD d) T),U1) | .exc x U' => .exc x U' | .bad => .bad:=by
 simp only [qlz,bnd,sbnd]
 cases f U with
 | ok z =>
  obtain ⟨z1,U1⟩:=z
  rfl
 | exc x U'=>rfl
 | bad=>rfl
theorem qeX:tst f U=match f U with | .ok (d,U1)=>(match asB d with | some b => .ok (b,U1) | none => .bad) | .exc x U' => .exc x U' | .bad => .bad:=by
 simp only [tst,bnd,sbnd]
 cases f U with
 | ok z =>
  obtain ⟨z1,U1⟩:=z
  (dsimp only;cases asB z1<;>rfl)
 | exc x U'=>rfl
 | bad=>rfl
theorem uj (b:Bool):asB (.bl b)=some b:=rfl
theorem qag:qbL t U=match t U with | .ok (b,U1) => .ok (!b,U1) | .exc x U' => .exc x U' | .bad => .bad:=by
 simp only [qbL,bnd,sbnd]
 cases t U with
 | ok z =>
  obtain ⟨z1,U1⟩:=z
  rfl
 | exc x U'=>rfl
 | bad=>rfl
theorem qfC:qki t u U=match t U with | .ok (b,U1)=>(bif b then u U1 else .ok (false,U1)) | .exc x U' => .exc x U' | .bad => .bad:=by
 simp only [qki,bnd,sbnd]
 cases t U with
 | ok z =>
  obtain ⟨z1,U1⟩:=z
  cases z1<;>rfl
 | exc x U'=>rfl
 | bad=>rfl
theorem qea:tor t u U=match t U with | .ok (b,U1)=>(bif b then .ok (true,U1) else u U1) | .exc x U' => .exc x U' | .bad => .bad:=by
 simp only [tor,bnd,sbnd]
 cases t U with
 | ok z =>
  obtain ⟨z1,U1⟩:=z
  cases z1<;>rfl
 | exc x U'=>rfl
 | bad=>rfl
theorem qfD:qgo f g U=match f U with | .ok (d,U1)=>(match asB d with | some b=>(bif b then g U1 else .ok (.bl false,U1)) | none => .bad) | .exc x U' => .exc x U' | .bad => .bad:=by
 simp only [qgo,bnd,sbnd]
 cases f U with
 | ok z =>
  obtain ⟨z1,U1⟩:=z
  simp only [qhw]
  cases asB z1 with
  | none=>rfl
  | some b=>cases b<;>rfl
 | exc x U'=>rfl
 | bad=>rfl
theorem qjo:dor f g U=match f U with | .ok (d,U1)=>(match asB d with | some b=>(bif b then .ok (.bl true,U1) else g U1) | none => .bad) | .exc x U' => .exc x U' | .bad => .bad:=by
 simp only [dor,bnd,sbnd]
 cases f U with
 | ok z =>
  obtain ⟨z1,U1⟩:=z
  simp only [qhw]
  cases asB z1 with
  | none=>rfl
  | some b=>cases b<;>rfl
 | exc x U'=>rfl
 | bad=>rfl
theorem qhx:qnx f U=match f U with | .ok (d,U1)=>(match asB d with | some b => .ok (.bl (!b),U1) | none => .bad) | .exc x U' => .exc x U' | .bad => .bad:=by
 simp only [qnx,bnd,sbnd]
 cases f U with
 | ok z =>
  obtain ⟨z1,U1⟩:=z
  simp only [qhw]
  cases asB z1 with
  | none=>rfl
  | some b=>cases b<;>rfl
 | exc x U'=>rfl
 | bad=>rfl
theorem qjp:dif t f g U=match t U with | .ok (b,U1)=>(bif b then f U1 else g U1) | .exc x U' => .exc x U' | .bad => .bad:=by
 simp only [dif,bnd,sbnd]
 cases t U with
 | ok z =>
  obtain ⟨z1,U1⟩:=z
  cases z1<;>rfl
 | exc x U'=>rfl
 | bad=>rfl
theorem qeb:sif t p q U=match t U with | .ok (b,U1)=>(bif b then p U1 else q U1) | .exc x U' => .exc x U' | .bad => .bad:=by
 simp only [sif,bnd,sbnd]
 cases t U with
 | ok z =>
  obtain ⟨z1,U1⟩:=z
  cases z1<;>rfl
 | exc x U'=>rfl
 | bad=>rfl
theorem qkA:qQ p q U=match p U with | .ok (.nx U')=>q U' | z=>z:=by
 unfold qQ
 cases p U with
 | ok z=>cases z<;>rfl
 | exc x U'=>rfl
 | bad=>rfl
theorem vA:jm f U=match f U with | .ok (d,U1) => .ok (.rt d U1) | .exc x U' => .exc x U' | .bad => .bad:=by
 simp only [jm,bnd,sbnd]
 cases f U with
 | ok z =>
  obtain ⟨z1,U1⟩:=z
  rfl
 | exc x U'=>rfl
 | bad=>rfl
theorem qbd (i:Nat):jn i f U=match f U with | .ok (d,U1) => .ok (.nx (U1.set i (some d))) | .exc x U' => .exc x U' | .bad => .bad:=by
 simp only [jn,bnd,sbnd]
 cases f U with
 | ok z =>
  obtain ⟨z1,U1⟩:=z
  rfl
 | exc x U'=>rfl
 | bad=>rfl
theorem qbY (i:Nat):qaK i l U=match l U with | .ok (ds,U1) => .ok (.nx (U1.set i (some (.lst ds)))) | .exc x U' => .exc x U' | .bad => .bad:=by
 simp only [qaK,bnd,sbnd]
 cases l U with
 | ok z =>
  obtain ⟨z1,U1⟩:=z
  rfl
 | exc x U'=>rfl
 | bad=>rfl
theorem qbZ:zK f U=match f U with | .ok (_,U1) => .ok (.nx U1) | .exc x U' => .exc x U' | .bad => .bad:=by
 simp only [zK,bnd,sbnd]
 cases f U with
 | ok z =>
  obtain ⟨z1,U1⟩:=z
  rfl
 | exc x U'=>rfl
 | bad=>rfl
theorem qfE:vw U = .ok (.nx U):=rfl
theorem qhy (i j:Nat):qjn i j l U=match l U with | .ok ([d,e],U1) => .ok (.nx ((U1.set i (some d)).set j (some e))) | .ok _ => .bad | .exc x U' => .exc x U' | .bad => .bad:=by
 simp only [qjn,bnd,sbnd]
 cases l U with
 | ok z =>
  obtain ⟨z1,U1⟩:=z
  match z1 with
  | []=>rfl
  | [_]=>rfl
  | [_,_]=>rfl
  | _::_::_::_=>rfl
 | exc x U'=>rfl
 | bad=>rfl
theorem qkB (G:D->Env->Option Env):qoR f G U=match f U with | .ok (d,U1)=>(match G d U1 with | some U2 => .ok (.nx U2) | none => .bad) | .exc x U' => .exc x U' | .bad => .bad:=by
 simp only [qoR,bnd,sbnd]
 cases f U with
 | ok z =>
  obtain ⟨z1,U1⟩:=z
  dsimp only <;>
  cases G z1 U1<;>rfl
 | exc x U'=>rfl
 | bad=>rfl
theorem uA (G:D->Env->Option Env) (b:MS):qeT l G b U=match l U with | .ok (ds,U1)=>uh G b ds U1 | .exc x U' => .exc x U' | .bad => .bad:=by
 simp only [qeT,bnd,sbnd]
 cases l U with
 | ok z =>
  obtain ⟨z1,U1⟩:=z
  rfl
 | exc x U'=>rfl
 | bad=>rfl
theorem qec:qa9 f U=match f U with | .ok (d,U1)=>(match qoS d with | some ds => .ok (ds,U1) | none => .bad) | .exc x U' => .exc x U' | .bad => .bad:=by
 simp only [qa9,bnd,sbnd]
 cases f U with
 | ok z =>
  obtain ⟨z1,U1⟩:=z
  (dsimp only;cases qoS z1<;>rfl)
 | exc x U'=>rfl
 | bad=>rfl
theorem qhz:ug l U=match l U with | .ok (d,U1)=>(match qkp d with | some ds => .ok (ds,U1) | none => .bad) | .exc x U' => .exc x U' | .bad => .bad:=by
 simp only [ug,bnd,sbnd]
 cases l U with
 | ok z =>
  obtain ⟨z1,U1⟩:=z
  (dsimp only;cases qkp z1<;>rfl)
 | exc x U'=>rfl
 | bad=>rfl
theorem qhA:qnT l U=match l U with | .ok (d,U1)=>(match qoT d with | some ds => .ok (ds,U1) | none => .bad) | .exc x U' => .exc x U' | .bad => .bad:=by
 simp only [qnT,bnd,sbnd]
 cases l U with
 | ok z =>
  obtain ⟨z1,U1⟩:=z
  (dsimp only;cases qoT z1<;>rfl)
 | exc x U'=>rfl
 | bad=>rfl
theorem qdc {nt:Nat} {fr:List Nat} {fo:Option (Nat×Nat)} {G:D->Env->Option Env} {e:M D}:zW nt fr fo l G t e U=match l U with
  | .ok (ds,U1)=>(match z6 G t e ds [] (yp nt fr U1) with | .ok (ys,Ue) => .ok (.lst ys,qmI fo Ue U1) | _ => .bad) | .exc x U' => .exc x U' | .bad => .bad:=by
 simp only [zW,bnd,sbnd]
 cases l U with
 | ok z =>
  obtain ⟨z1,U1⟩:=z
  dsimp only <;>
  cases z6 G t e z1 [] (yp nt fr U1) with
  | ok z=>obtain ⟨z2,U2⟩:=z;rfl
  | exc x U'=>rfl
  | bad=>rfl
 | exc x U'=>rfl
 | bad=>rfl
theorem qb0 (F:List D->List D->R (D×List D)) (i:Nat):qF F i l U=match zD i U with
  | none => .bad
  | some _=>(match l U with
   | .ok (ds,U1)=>(match zD i U1 with
    | none => .bad
    | some bs=>(match F bs ds with | .ok (d,bs') => .ok (d,U1.set i (some (.lst bs'))) | _ => .bad))
   | .exc x U' => .exc x U' | .bad => .bad):=by
 simp only [qF,bnd]
 cases zD i U with
 | none=>rfl
 | some _ =>
  dsimp only <;>
  cases l U with
  | ok z =>
   obtain ⟨z1,U1⟩:=z
   dsimp only <;>
   cases zD i U1 with
   | none=>rfl
   | some bs =>
    dsimp only <;>
    cases F bs z1 with
    | ok z=>obtain ⟨z2,z3⟩:=z;rfl
    | exc x U'=>rfl
    | bad=>rfl
  | exc x U'=>rfl
  | bad=>rfl
theorem qhB (F:List D->R D):qhu F l U=match l U with
  | .ok (ds,U1)=>(if immFs ds then (match F ds with | .ok (.lst bs)=>(if immL bs then .ok (bs,U1) else .bad) | _ => .bad) else .bad) | .exc x U' => .exc x U' | .bad => .bad:=by
 simp only [qhu,bnd,sbnd]
 cases l U with
 | ok z =>
  obtain ⟨z1,U1⟩:=z
  dsimp only <;>
  cases immFs z1 with
  | false=>rfl
  | true =>
   simp only [if_true]
   cases F z1 with
   | ok z=>cases z<;>rfl
   | exc x U'=>rfl
   | bad=>rfl
 | exc x U'=>rfl
 | bad=>rfl
theorem qhC (i:Nat):qhn i f U=match zD i U with
  | none => .bad
  | some _=>(match f U with
   | .ok (k,U1)=>(match k,zD i U1 with
    | .int n,some ds=>(match atI ds n with | some d => .ok (d,U1) | none => .bad)
    | _,_ => .bad)
   | .exc x U' => .exc x U' | .bad => .bad):=by
 simp only [qhn,bnd]
 cases zD i U with
 | none=>rfl
 | some _ =>
  dsimp only <;>
  cases f U with
  | ok z =>
   obtain ⟨z1,U1⟩:=z
   dsimp only <;>
   cases z1<;>cases zD i U1<;>try rfl
  | exc x U'=>rfl
  | bad=>rfl
theorem qeY (i:Nat):qeV i k f U=match f U with
  | .ok (d,U1)=>(match zD i U1 with
   | none => .bad
   | some _=>(match k U1 with
    | .ok (j,U2)=>(match j,zD i U2 with
     | .int n,some ds=>(match ixN ds.length n with
      | some q=>if imm d then .ok (.nx (U2.set i (some (.lst (ds.set q d))))) else .bad
      | none => .bad)
     | _,_ => .bad)
    | .exc x U' => .exc x U' | .bad => .bad))
  | .exc x U' => .exc x U' | .bad => .bad:=by
 simp only [qeV,bnd,sbnd]
 cases f U with
 | ok z =>
  obtain ⟨z1,U1⟩:=z
  dsimp only <;>
  cases zD i U1 with
  | none=>rfl
  | some _ =>
   dsimp only <;>
   cases k U1 with
   | ok z =>
    obtain ⟨z2,U2⟩:=z
    dsimp only <;>
    cases z2<;>cases zD i U2<;>try rfl
   | exc x U'=>rfl
   | bad=>rfl
 | exc x U'=>rfl
 | bad=>rfl
theorem qhD (i:Nat):qnL i U=match zD i U with | some ds => .ok (.int ds.length,U) | none => .bad:=by
 unfold qnL
 cases zD i U<;>rfl
theorem qeZ (i:Nat):qd7 i U=match zD i U with | some ds => .ok (.tup ds,U) | none => .bad:=by
 unfold qd7
 cases zD i U<;>rfl
theorem qkC (i:Nat):qqa i f U=match zD i U with
  | none => .bad
  | some _=>(match f U with
   | .ok (y,U1)=>(match zD i U1 with
    | none => .bad
    | some ds=>(match neA (.lst ds) y with | some d => .ok (d,U1) | none => .bad))
   | .exc x U' => .exc x U' | .bad => .bad):=by
 simp only [qqa,bnd]
 cases zD i U with
 | none=>rfl
 | some _ =>
  dsimp only <;>
  cases f U with
  | ok z =>
   obtain ⟨z1,U1⟩:=z
   dsimp only <;>
   cases zD i U1 with
   | none=>rfl
   | some ds=>(dsimp only;cases neA (.lst ds) z1<;>rfl)
  | exc x U'=>rfl
  | bad=>rfl
theorem qb1 (i:Nat):jo i f U=match zD i U with
  | none => .bad
  | some _=>(match f U with
   | .ok (d,U1)=>(match zD i U1 with
    | some ds=>if imm d&&qP (ds.length+1) then .ok (.non,U1.set i (some (.lst (ds++[d])))) else .bad
    | none => .bad)
   | .exc x U' => .exc x U' | .bad => .bad):=by
 simp only [jo,bnd]
 cases zD i U with
 | none=>rfl
 | some _ =>
  dsimp only <;>
  cases f U with
  | ok z =>
   obtain ⟨z1,U1⟩:=z
   dsimp only <;>
   cases zD i U1<;>rfl
  | exc x U'=>rfl
  | bad=>rfl
theorem qn2 {g k:M (Option Int)}:dsl f g k U=match f U with
  | .ok (d,U1)=>(match g U1 with
   | .ok (lo,U2)=>(match k U2 with
    | .ok (hi,U3)=>(match slD d lo hi with | some x => .ok (x,U3) | none => .bad)
    | .exc x U' => .exc x U' | .bad => .bad)
   | .exc x U' => .exc x U' | .bad => .bad)
  | .exc x U' => .exc x U' | .bad => .bad:=by
 simp only [dsl,bnd,sbnd]
 cases f U with
 | ok z =>
  obtain ⟨z1,U1⟩:=z
  dsimp only <;>
  cases g U1 with
  | ok z =>
   obtain ⟨z2,U2⟩:=z
   dsimp only <;>
   cases k U2 with
   | ok z=>obtain ⟨z3,U3⟩:=z;(dsimp only;cases slD z1 z2 z3<;>rfl)
   | exc x U'=>rfl
   | bad=>rfl
  | exc x U'=>rfl
  | bad=>rfl
 | exc x U'=>rfl
 | bad=>rfl
theorem qhE:qbl f U=match f U with | .ok (.int i,U1) => .ok (some i,U1) | .ok _ => .bad | .exc x U' => .exc x U' | .bad => .bad:=by
 simp only [qbl,bnd,sbnd]
 cases f U with
 | ok z =>
  obtain ⟨z1,U1⟩:=z
  cases z1<;>rfl
 | exc x U'=>rfl
 | bad=>rfl
end
theorem yN {n:Nat} (h:n<=1000000):qP n=true:=by
 unfold qP
 exact decide_eq_true (Nat.le_trans h (by rw [PySem.sizeLine_eq];decide))
theorem qlP {n p:Nat} {body:MS} {ds:List D} {d:D} {U:Env} (h:ds.length=p) (e:body (ux n ds) = .ok (.rt d U)):dfn n p body ds = .ok d:=by
 unfold dfn;rw [if_pos h,e]
theorem qkD {n p:Nat} {body:MS} {bs ds bs':List D} {d:D} {U:Env} (h:ds.length+1=p) (e:body (ux n (.lst bs::ds)) = .ok (.rt d U)) (g:zD 0 U=some bs'):qc8 n p body bs ds = .ok (d,bs'):=by
 unfold qc8;rw [if_pos h,e];simp only [g]
end L2.Sk
namespace L2.Sk
open PySem PySem.Spec PyProof.Rows
section
variable {prog:Program} {w:World} {A:Around} {E:Value->Shared->Prop} {s:Shared}
theorem qhF {l:Addr} {xs:Array Value} {Q:Value->Shared->Prop} (t1:s.heap.IsTuple l xs)
  (fin:∀ h',IsEnum h' (s.heap.objs.size+1) s.heap.objs.size 0 .none->h'.IsTupleIter s.heap.objs.size l 0->(∀ c o,s.heap.get? c=some o->h'.get? c=some o)->Q (.ref (s.heap.objs.size+1)) { s with heap:=h' }) :
  wpAny (model prog w) A (call (.type "enumerate") [.ref l]) Q E s:=by
 have meets:Meets (Builtin.«enumerate.__new__» ⟨[.type "enumerate",.ref l],[]⟩) (fun _ R s=>s.heap.IsTuple l xs /\
   R (.ok (.ret (.ref (s.heap.objs.size+1)))) { s with heap:=(s.heap.push { cls := .type "tuple_iterator",data := .fields #[.ref l,.int 0 0] }).push { cls := .type "enumerate",data := .fields #[.none,.bool false,.ref s.heap.objs.size,rawInt 0,.none,.none] } }) :=
  .of_wp fun prog w A R s h=>by
   obtain ⟨hp,g,d,tk,os⟩:=s
   obtain ⟨ha,h⟩:=h
   have hsub:=sub_enumerate
   have hA:Heap.IsTuple (Shared.heap ⟨hp,g,d,tk,os⟩) l xs:=ha
   obtain ⟨o,ho,_⟩:=id ha
   have ho':hp.get? l=some o:=ho
   wp_walk using AutoSeq1.wpAny_loadPart' ho'
   refine wpAny_stack_any fun st=>wpAny_pure ?_
   split
   ·rename_i c _ _ _ _ _
    cases (c==Value.type "enumerate")
    ·wp_walk using AutoSeq1.wpAny_loadPart' ho',wpAny_pyIter_tuple hA
     simp only [Heap.size_push] at *
     exact ⟨_,rfl,h⟩
    ·wp_walk using AutoSeq1.wpAny_loadPart' ho',wpAny_pyIter_tuple hA
     simp only [Heap.size_push] at *
     exact ⟨_,rfl,h⟩
   ·wp_walk using AutoSeq1.wpAny_loadPart' ho',wpAny_pyIter_tuple hA
    simp only [Heap.size_push] at *
    exact ⟨_,rfl,h⟩
 refine callType_new F.called_enumerate (by decide) (F.typeCall_enumerate_1 _) (F.newCall_enumerate_1 _) (fun obj=>F.args_object_init_2 obj _) F.entry_enumerate_new meets ⟨t1,?_⟩
 generalize e1:s.heap.push { cls := .type "tuple_iterator",data := .fields #[.ref l,.int 0 0] }=m1
 have s1:m1.objs.size=s.heap.objs.size+1:=by rw [<- e1,Heap.size_push]
 have q1:m1.get? s.heap.objs.size=some { cls := .type "tuple_iterator",data := .fields #[.ref l,.int 0 0] }:=by rw [<- e1];exact Heap.get?_push_size _ rfl
 have k1:∀ c o,s.heap.get? c=some o->m1.get? c=some o:=fun c o x=>by rw [<- e1];exact Heap.get?_push_of_some _ x
 generalize e2:m1.push { cls := .type "enumerate",data := .fields #[.none,.bool false,.ref s.heap.objs.size,rawInt 0,.none,.none] }=m2
 have q2:m2.get? (s.heap.objs.size+1)=some { cls := .type "enumerate",data := .fields #[.none,.bool false,.ref s.heap.objs.size,rawInt 0,.none,.none] }:=by rw [<- e2,<- s1];exact Heap.get?_push_size _ rfl
 have k2:∀ c o,m1.get? c=some o->m2.get? c=some o:=fun c o x=>by rw [<- e2];exact Heap.get?_push_of_some _ x
 show _/\_
 exact ⟨⟨_,q2,rfl⟩,fin m2 q2 ⟨_,k2 _ _ q1,rfl,rfl⟩ fun c o x=>k2 _ _ (k1 _ _ x)⟩
end
def Ite (K:Fr0) (a:Addr) (xs:List V):It :=
 ⟨fun i H=>i<xs.length/\SqT K H a xs,fun i H x H'=>∃ p u,H p=none/\xs[i]? = some u/\x = .ref p/\H'=upd H p (.tup [.int i,u]),fun i H=>i=xs.length/\SqT K H a xs⟩
def ESt (z i1 a1:Addr) (i:Nat) (h:Heap):Prop:=(∃ old,IsEnum h z i1 i old)/\h.IsTupleIter i1 a1 i
theorem qhG {P:Program} {w:World} {K:Fr0} {es:List Expr} {kk:Nat} {pos:Pos} {z i1 a1:Addr} {xs:List V} (zi:z≠i1) (za:z≠a1) (n1:a1≠i1) :
  qla P w K (.Tuple es kk pos) (Ite K a1 xs) [z,i1] z (ESt z i1 a1) where
 mem:=by simp
 obj:=fun i h st b hb=>by
  obtain ⟨⟨old,h1⟩,⟨o4,h4,c4,d4⟩⟩:=st
  simp only [List.mem_cons,nN_,or_false] at hb
  rcases hb with rfl | rfl
  ·exact ⟨_,h1,fun v e=>by cases (show Data.fields _=Data.cell v from e)⟩
  ·exact ⟨_,h4,fun v e=>by rw [d4] at e;cases e⟩
 keep:=fun i h h' st k=>by
  obtain ⟨⟨old,h1⟩,h4⟩:=st
  exact ⟨⟨old,k z (by simp) _ h1⟩,h4.at fun o e=>k i1 (by simp) o e⟩
 item:=by
  intro X hP hw hK hc i pins s Z H E I hf st hg
  subst hP hw hK
  obtain ⟨hlt,hx⟩:=hg
  obtain ⟨⟨old,h1⟩,h4⟩:=st
  obtain ⟨it1,r1,p1,z1⟩:=I.tuple hx
  have l1:i<it1.toArray.size:=by rw [sT_,<- r1.length];omega
  have hh:X.A.in1.handled=none:=I.ok.hd hc
  refine wpAny_pyNext_enum_itemD (vZ hh i1 a1 n1 it1.toArray) h1 ⟨h4,p1⟩ l1 zi (by simp [zi,za]) fun x h' tk px ho u1 new hsz kp => ?_
  refine ⟨.ref s.heap.objs.size,rfl,wpAny_letOwnedTupleGo_enum ho fun h2' zz2 sb => ?_⟩
  obtain ⟨xv,hxv⟩:∃ v,xs[i]? = some v:=⟨xs[i]'(by omega),gG (by omega)⟩
  obtain ⟨x',ex,rx⟩:=r1.get hxv
  have exx:x'=x:=by
   have:it1.toArray[i]? = some x:=px
   rw [List.getElem?_toArray,ex] at this
   exact Option.some.inj this
  subst exx
  have lz:z<s.heap.objs.size:=Heap.lt_size h1
  have keep:∀ b u,b ∉ [z,i1]->s.heap.get? b=some u->h2'.get? b=some u:=fun b u hb e=>by
   simp only [List.mem_cons,nN_,or_false,not_or] at hb
   exact (sb.2 b hb.1).trans (kp b u hb.1 hb.2 e)
  have I2:Inv X pins Z (upd H s.heap.objs.size (.tup [.int i,xv])) { s with heap:=h2',toks:=tk+1 } :=
   qhr I keep hf (Nat.le_refl _) ⟨by show 2<=sizeLine;decide,[.int i tk,x'],.cons ⟨tk,rfl⟩ (.cons rx .nil),⟨_,(sb.2 _ (Nat.ne_of_gt lz)).trans new,rfl,_,rfl⟩⟩
  refine ⟨.ref s.heap.objs.size,upd H s.heap.objs.size (.tup [.int i,xv]),I2,rfl,⟨s.heap.objs.size,xv,I.hok.fresh (Nat.le_refl _),hxv,rfl,rfl⟩,?_,fun b hb => ?_⟩
  ·exact ⟨⟨_,by simpa using zz2⟩,u1.1.at fun o e=>(sb.2 i1 zi.symm).trans e⟩
  ·have hb1:b≠s.heap.objs.size:=by
    simp only [List.mem_cons,nN_,or_false] at hb
    obtain ⟨o4,g4,_⟩:=h4
    rcases hb with rfl | rfl
    ·exact Nat.ne_of_lt (Heap.lt_size h1)
    ·exact Nat.ne_of_lt (Heap.lt_size g4)
   rw [qu hb1]
   exact (hf b hb).1
 done:=by
  intro X hP hw hK hc i pins s Z H E I hf st hg
  subst hP hw hK
  obtain ⟨hlt,hx⟩:=hg
  obtain ⟨⟨old,h1⟩,h4⟩:=st
  obtain ⟨it1,r1,p1,z1⟩:=I.tuple hx
  have hh:X.A.in1.handled=none:=I.ok.hd hc
  have e:i=it1.toArray.size:=by rw [sT_,<- r1.length];exact hlt
  subst e
  refine wpAny_pyNext_enum_endD (vZ hh i1 a1 n1 it1.toArray) h1 ⟨h4,p1⟩ fun h' kp=>⟨rfl,qhs (t':=s.toks) I (fun b u hb e => ?_) hf⟩
  simp only [List.mem_cons,nN_,or_false,not_or] at hb
  exact kp b u hb.2 e
 self:=fun A i s Q E st h=>by
  obtain ⟨⟨old,h1⟩,_⟩:=st
  exact wpAny_pyIter_enum h1 h
section
variable {X:Cx} {c:Fc} {a b e:Expr} {pos:Pos} {es:List Expr} {kk:Nat} {tp:Pos}
def qps (K:Fr0) (ta:TA):TI:=fun Z H R=>ta Z H fun vs H1=>∃ a1 xs,vs=[.ref a1]/\SqT K H1 a1 xs/\R (Ite K a1 xs) H1
theorem qlQ {ta:TA} {p:Pos} (hg:Gl X "enumerate") (hm:X.mg "enumerate"=none) (ha:PA X [a] ta) (hs:starEach [a] X.env=[(false,eval a X.env)]:=by rfl) :
  PI X (.Tuple es kk tp) (.Call (.Name "enumerate" p) [a] [] pos) (qps X.K ta):=by
 intro pins s Z H R I h
 refine Call_ (qa5 I hg hm PyProof.Rows.boot_enumerate (PyProof.Rows.callWith_type1 (thn (ha pos pins s Z H _ I h) fun us s1 ⟨vs,H1,I1,r1,q1⟩ => ?_) (by rw [hs];rfl) (by rfl)))
 obtain ⟨a1,xs,e1,hx,q⟩:=q1
 subst e1
 obtain ⟨u1,rfl,ru1⟩:=zd.one r1
 cases (show u1=Value.ref a1 from ru1)
 obtain ⟨it1,v1,p1,z1⟩:=I1.tuple hx
 refine qhF (show s1.heap.IsTuple a1 it1.toArray from p1) fun h' zz g1 kp => ?_
 refine wpAny_pyIter_enum zz ?_
 have la1:a1<s1.heap.objs.size:=by obtain ⟨o,e,_⟩:=p1;exact Heap.lt_size e
 refine ⟨s1.heap.objs.size+1,[s1.heap.objs.size+1,s1.heap.objs.size],_,_,H1,rfl,I1.kept (t':=s1.toks) kp,qhG (xs:=xs) (Nat.succ_ne_self _) (Nat.ne_of_gt (Nat.lt_succ_of_lt la1)) (Nat.ne_of_lt la1),⟨⟨_,zz⟩,g1⟩,fun b hb => ?_,q⟩
 simp only [List.mem_cons,nN_,or_false] at hb
 have hb2:s1.heap.objs.size<=b:=by
  rcases hb with e | e<;>rw [e]
  ·exact Nat.le_add_right _ _
  ·exact Nat.le_refl _
 exact I1.fpOk hb2 (I1.hok.fresh hb2)
def u7 (k:Nat):List D->List D
 | []=>[]
 | x::xs => .tup [.int (k:Nat),x]::u7 (k+1) xs
theorem qb2:∀ (k:Nat) (xs:List D),(u7 k xs).length=xs.length
 | _,[]=>rfl
 | k,x::xs=>by simp [u7,qb2 (k+1) xs]
theorem qed:∀ {xs:List D} {k i:Nat} {d:D},(u7 k xs)[i]? = some d->∃ x,xs[i]? = some x/\d = .tup [.int ((k+i:Nat):Int),x]
 | [],_,_,_,h=>by simp [u7] at h
 | x::xs,k,0,d,h=>by
  have:D.tup [.int (k:Nat),x]=d:=by simpa [u7] using h
  exact ⟨x,rfl,this.symm⟩
 | x::xs,k,i+1,d,h=>by
  obtain ⟨y,h1,h2⟩:=qed (xs:=xs) (k:=k+1) (i:=i) (d:=d) (by simpa [u7] using h)
  exact ⟨y,by simpa using h1,by rw [h2];congr 4;omega⟩
theorem qlR {K:Fr0} {A:Addr->Prop} {H:Hp} {ds:List D} {xs:List V} {a1:Addr} (t1:u5 K H a1 xs) (i1:IsL K A H ds xs):qiL K A H (u7 0 ds) (Ite K a1 xs) where
 go:=fun H' i d ex hd=>by
  have hl:i<(u7 0 ds).length:=(gI_.mp hd).1
  rw [qb2,<- i1.length] at hl
  exact ⟨hl,(t1.elim (fun h => .inl (ex.tup _ _ h)) .inr:u5 K H' a1 xs).sq⟩
 yl:=fun H' i d x H'' ex hd y=>by
  obtain ⟨p,u,hp,hu,rfl,rfl⟩:=y
  obtain ⟨dx,h1,rfl⟩:=qed hd
  obtain ⟨u',g1,g2⟩:=i1.get h1
  rw [hu] at g1
  cases g1
  have sm:=qy hp (.tup [.int i,u])
  exact ⟨sm,p,[.int i,u],rfl,.inl qt,.int i,[u],rfl,by rw [Nat.zero_add];rfl,u,[],rfl,Is.ext (Ext.of_same sm) (fun _ h _=>h) (Is.ext ex (fun _ h _=>h) g2),rfl⟩
 stop:=fun H' ex=>⟨by rw [qb2,i1.length],(t1.elim (fun h => .inl (ex.tup _ _ h)) .inr:u5 K H' a1 xs).sq⟩
def qhH:List D->Option (List D)
 | [.tup xs]=>some (u7 0 xs)
 | _=>none
def qee (f:M (List D)):M (List D):=bnd f fun ds=>lift (qhH ds)
theorem qe0 {f:M (List D)} {p:Pos} (hg:Gl X "enumerate") (hm:X.mg "enumerate"=none) (ha:DA X c [a] f) (hs:starEach [a] X.env=[(false,eval a X.env)]:=by rfl) :
  DI X c (.Tuple es kk tp) (.Call (.Name "enumerate" p) [a] [] pos) (qee f):=by
 obtain ⟨t,pa,w⟩:=ha
 refine ⟨_,qlQ hg hm pa hs,fun U Z H Q r h=>w U Z H _ r (WpL.bndI h fun ds U1 vs H1 r1 i1 g1 h1 => ?_)⟩
 obtain ⟨es',e,h2⟩:=qaa h1
 unfold qhH at e
 split at e
 ·obtain ⟨v,rfl,j1⟩:=IsL.inv1 i1
  cases e
  obtain ⟨a1,xs,rfl,t1,il1⟩:=Is.tr j1
  exact ⟨a1,xs,rfl,t1.sq,h2 _ H1 r1 (qlR t1 il1) .refl⟩
 ·cases e
end
def vD:D->V
 | .bl b => .bl b
 | .int i => .int i
 | .str x => .str x
 | _ => .non
def flD:D->Bool
 | .non=>true
 | .bl _=>true
 | .int _=>true
 | .str _=>true
 | _=>false
def sqD:D->Option (List D)
 | .tup ds=>some ds
 | .lst ds=>some ds
 | _=>none
def inD (x y:D):Option D:=match sqD y with
 | some ds=>if flD x&&ds.all flD then some (.bl (ds.any fun d=>eqV (vD d) (vD x))) else none
 | none=>none
def qmJ (x y:D):Option D:=match sqD y with
 | some ds=>if flD x&&ds.all flD then some (.bl (!ds.any fun d=>eqV (vD d) (vD x))) else none
 | none=>none
theorem qkE {K:Fr0} {A:Addr->Prop} {H:Hp} {d:D} {v:V} (h:Is K A H d v) (f:flD d=true):v=vD d/\qbj v=true:=by
 cases d<;>first | (cases h;exact ⟨rfl,rfl⟩) | cases f
theorem qe1 {K:Fr0} {A:Addr->Prop} {H:Hp}:∀ {ds:List D} {vs:List V},IsL K A H ds vs->ds.all flD=true->vs=ds.map vD/\vs.all qbj=true
 | [],_,h,_=>by cases h;exact ⟨rfl,rfl⟩
 | d::ds,_,⟨x,ys,hx,h1,h2⟩,f=>by
  rw [List.all_cons,Bool.and_eq_true] at f
  obtain ⟨e1,e2⟩:=qkE h1 f.1
  obtain ⟨e3,e4⟩:=qe1 h2 f.2
  subst hx
  rw [mC_,<- e1,<- e3,List.all_cons,e2,e4]
  exact ⟨rfl,rfl⟩
theorem qn3 {K:Fr0} {A:Addr->Prop} {H:Hp} {x y:D} {ds:List D} {v u:V} (ix:Is K A H x v) (iy:Is K A H y u) (e:sqD y=some ds) (f:(flD x&&ds.all flD)=true) :
  ∃ p xs,u = .ref p/\(SqL K H p xs\/SqT K H p xs)/\qbj v=true/\xs.all qbj=true/\inV v xs=ds.any fun d=>eqV (vD d) (vD x):=by
 rw [Bool.and_eq_true] at f
 obtain ⟨e1,e2⟩:=qkE ix f.1
 cases y<;>simp only [sqD] at e<;>try (cases e;done)
 ·cases e
  obtain ⟨a,zs,rfl,ta,il⟩:=iy
  obtain ⟨e3,e4⟩:=qe1 il f.2
  exact ⟨a,zs,rfl,.inr ta.sq,e2,e4,by rw [e3,e1];unfold inV;rw [List.any_map];rfl⟩
 ·cases e
  obtain ⟨a,zs,rfl,_,ta,il⟩:=iy
  obtain ⟨e3,e4⟩:=qe1 il f.2
  exact ⟨a,zs,rfl,.inl (SqL.of ta),e2,e4,by rw [e3,e1];unfold inV;rw [List.any_map];rfl⟩
theorem qlS {K:Fr0}:OpS K qmJ (rIn K true):=by
 intro A H x y d v u Q hn ix iy e k
 unfold qmJ at e
 split at e
 ·rename_i ds es
  obtain ⟨e1,e2⟩:=z5 e
  subst e2
  obtain ⟨p,xs,h1,h2,h3,h4,h5⟩:=qn3 ix iy es e1
  exact ⟨p,xs,h1,h2,h3,h4,by rw [<- h5] at k;exact k _ H (jp.refl H) rfl⟩
 ·cases e
theorem qb3 {l:M (List D)} {U:Env}:qee l U=match l U with | .ok (d,U1)=>(match qhH d with | some ds => .ok (ds,U1) | none => .bad) | .exc x U' => .exc x U' | .bad => .bad:=by
 simp only [qee,bnd]
 cases l U with
 | ok z=>obtain ⟨z1,U1⟩:=z;(dsimp only;cases qhH z1<;>rfl)
 | exc x U'=>rfl
 | bad=>rfl
section
variable {X:Cx} {tg iter elt:Expr} {ifs:List Expr} {scope:Scope} {pos:Pos} {wi:TI} {N':List Str} {nt:Nat} {fr:List Nat}
theorem qlT {i:Nat} {x:Str} {pos' spos:Pos} (hN:X.N.Nodup) (hix:X.N[i]? = some x) (hx:Loc X.env.scope x) (hfx:X.fn x=true\/X.env.scope.names.lookup x=some .local) (hc:X.calm=true) (hi:PI X tg iter wi) (S:CompScope X scope N' nt fr)
  (hsw:swapsWith (.ListComp elt [⟨tg,iter,ifs,0⟩] scope pos) (some (.Name x pos')) spos.line X.env=pure true)
  (hs:∀ x,foldedSetIterable iter X.env x=pure x:=by intro _;rfl):PS X (.Assign [.Name x pos'] (.ListComp elt [⟨tg,iter,ifs,0⟩] scope pos) spos) (fun D Z H=>qlA X tg ifs elt scope N' wi nt fr Z H fun v H'=>D.nx (Z.set i (some v)) H'):=by
 intro pins s Z H D I hw
 obtain ⟨cl,hcl,cl1,cl2⟩:=closureFor_ok (env:=X.env) (scope:=scope) (fun y hy hf=>I.ok.has y.1 (.inl (S.frees y hy hf)))
 rw [exec_Assign_Name_used _ _ _ _ hsw]
 refine wpAny_bind (wpAny_standAt (wpAny_bind ?_))
 show wpAny (model X.prog X.w) X.A (comprehension (.ListComp elt [⟨tg,iter,ifs,0⟩] scope pos) scope X.env _ (newList []) false (eval iter X.env) (some (assign (.Name x pos') X.env)) >>= fun _=>pure ()) _ _ s
 refine wpAny_bind (thn (Q:=fun _ s'=>SP X pins D .next s') ?_ fun _ s' q=>wpAny_pure (wpAny_pure q))
 refine wpAny_comprehension_free (use:=some (assign (.Name x pos') X.env)) rfl hs hcl S.kind S.names (thn (hi pins s Z H _ I hw) fun v s1 h1=>thn h1 fun itv s2 h2 => ?_)
 obtain ⟨it,fp,tn,J,H2,e,I2,T,st2,f2,hR⟩:=h2
 subst e
 have hacc:H2 s2.heap.objs.size=none:=I2.hok.fresh (Nat.le_refl _)
 refine wpAny_newObj_type (wpAny_newFunctionEnv S.nocell (by intro y hy;simp at hy) (fun hX hns1 hsb1 => ?_) S.kind)
 dsimp only at hns1 hsb1 |-
 have I3:Inv X pins Z (upd H2 s2.heap.objs.size (.lst [])) { s2 with heap:=s2.heap.push { cls := .type "list",dict:=none,data := .seq ([]:List Value).toArray } } :=
  I2.lnew (t':=s2.toks) (its:=[]) .nil (Nat.zero_le _)
 generalize hs3:({ s2 with heap:=s2.heap.push { cls := .type "list",dict:=none,data := .seq ([]:List Value).toArray } }:Shared)=s3 at I3
 have hh3:s2.heap.push { cls := .type "list",dict:=none,data := .seq ([]:List Value).toArray }=s3.heap:=by rw [<- hs3]
 rw [hh3] at hns1 hsb1
 have old:∀ b o,s3.heap.get? b=some o->hX.get? b=some o:=fun b o q=>hsb1.extBut b o (Nat.ne_of_lt (Heap.lt_size q)) (Heap.get?_push_of_some _ q)
 have objs2:∀ b∈fp,∃ o,s2.heap.get? b=some o:=fun b hb=>by
  obtain ⟨o,q,_⟩:=T.obj 0 _ st2 b hb
  exact ⟨o,q⟩
 have keep23:∀ b o,s2.heap.get? b=some o->s3.heap.get? b=some o:=fun b o q=>by rw [<- hh3];exact Heap.get?_push_of_some _ q
 have fpne:∀ b∈fp,b≠s2.heap.objs.size:=fun b hb=>by
  obtain ⟨o,q⟩:=objs2 b hb
  exact Nat.ne_of_lt (Heap.lt_size q)
 have f3:∀ b∈fp,qeK X pins (upd H2 s2.heap.objs.size (.lst [])) b:=fun b hb=>⟨by rw [qu (fpne b hb)];exact (f2 b hb).1,(f2 b hb).2⟩
 have J0:Inv (zL X scope N' fp cl s3.heap.objs.size s3 (upd H2 s2.heap.objs.size (.lst [])) (X.pn++pins)) [] (qK nt fr Z) (upd H2 s2.heap.objs.size (.lst [])) { s3 with heap:=hX,toks:=s3.toks } :=
  qcO S I3 f3 (fun b hb=>(objs2 b hb).imp fun o q=>keep23 b o q) cl1 cl2 ⟨_,hns1⟩ old
 obtain ⟨g,tt,te,hg,hf,he,W,⟨m0,w0⟩,turn⟩:=hR s2.heap.objs.size fp cl s3.heap.objs.size s3 (upd H2 s2.heap.objs.size (.lst [])) (X.pn++pins) hacc
 have T0:tn 0 hX:=T.keep 0 _ _ st2 fun b hb o q=>old b o (keep23 b o q)
 have s3e:∀ tk:Nat,({ s2 with heap:=hX,toks:=tk }:Shared)={ s3 with heap:=hX,toks:=tk }:=fun tk=>by rw [<- hs3]
 have loop:∀ tk:Nat,codeAny (model X.prog X.w) X.A (.compLoop (.ListComp elt [⟨tg,iter,ifs,0⟩] scope pos) 0 (.ref it) (.ref s2.heap.objs.size) (compEnvC scope cl s3.heap.objs.size X.env))
   (compPost (model X.prog X.w) X.A X.xe (some (assign (.Name x pos') X.env)) (fun _ s'=>SP X pins D .next s') (.ref s2.heap.objs.size) s3.heap.objs.size) { s3 with heap:=hX,toks:=tk }:=fun tk=>by
  have stat:∀ {H':Hp},(∀ b∈fp,H' b=none)->∀ b∈fp,qeK (zL X scope N' fp cl s3.heap.objs.size s3 (upd H2 s2.heap.objs.size (.lst [])) (X.pn++pins)) [] H' b:=fun {H'} hn b hb=>by
   obtain ⟨o,q⟩:=objs2 b hb
   have hbC:b≠s3.heap.objs.size:=Nat.ne_of_lt (Heap.lt_size (keep23 b o q))
   refine ⟨hn b hb,hbC,fun z => ?_,.inl hb,fun x c hx=>(f2 b hb).2.2.2.2.1 x c (cl1 x c hx),fun p hp => ?_⟩
   ·rcases List.mem_cons.mp (I2.stkSub b z) with z | z
    ·exact (f2 b hb).2.1 z
    ·exact (f2 b hb).2.2.1 z
   ·have hp':p∈X.pn++pins:=by
     rcases mA_.mp (show p∈(X.pn++pins)++[] from hp) with z | z
     ·exact z
     ·cases z
    exact (f2 b hb).2.2.2.2.2 p hp'
  have fr0:∀ b∈fp,upd H2 s2.heap.objs.size (.lst []) b=none:=fun b hb=>(f3 b hb).1
  refine qbR (fun n s'=>∃ i Z' H',Inv (zL X scope N' fp cl s3.heap.objs.size s3 (upd H2 s2.heap.objs.size (.lst [])) (X.pn++pins)) [] Z' H' s'/\tn i s'.heap/\(∀ b∈fp,H' b=none)/\W i n Z' H') ?_ m0
   ⟨0,qK nt fr Z,_,J0.tok tk,T0,fr0,w0⟩
  rintro n s4 ⟨i,Z4,H4,J4,st4,fr4,w4⟩
  rcases turn i n Z4 H4 w4 with ⟨stop,qn⟩ | ⟨go,step⟩
  ·refine thn (T.done (zL X scope N' fp cl s3.heap.objs.size s3 (upd H2 s2.heap.objs.size (.lst [])) (X.pn++pins)) rfl rfl rfl hc i [] s4 Z4 H4 _ J4 (stat fr4) st4 stop) fun r s5 ⟨hr,J5⟩ => ?_
   subst hr
   obtain ⟨m5,n5,_⟩:=J5.loc
   have I5:Inv X pins Z H4 s5:=qfy I3 f3 J5 (Heap.SameBut.refl ..)
   have lC:X.env.locals≠s3.heap.objs.size:=Nat.ne_of_lt I3.lt
   have cC:∀ y c,X.env.cells.lookup y=some c->c≠s3.heap.objs.size:=fun y c hy=>by
    obtain ⟨v,o,ho,_⟩:=I3.cell y c hy
    exact Nat.ne_of_lt (Heap.lt_size ho)
   have pC:∀ p∈X.pn++pins,p.1≠s3.heap.objs.size:=fun p hp=>Nat.ne_of_lt (Heap.lt_size (I3.pin p hp).1)
   refine wpAny_assign_Name (qdI (v := .ref s2.heap.objs.size) I5 hN hix hx rfl (fun s'' I6 ⟨a,sb,ha⟩ => ?_) hfx)
   have aC:s3.heap.objs.size≠a:=by
    rcases ha with rfl | ha
    ·exact lC.symm
    ·exact (cC _ _ ha).symm
   exact ⟨m5,n5.sameBut sb aC,fun h' sb'=>⟨_,H4,I6.turned (t':=s''.toks) (fun b o hb q=>(sb'.2 b hb).trans q) J5.free lC.symm (.inr I3.sz) cC pC,qn⟩⟩
  ·refine thn (T.item (zL X scope N' fp cl s3.heap.objs.size s3 (upd H2 s2.heap.objs.size (.lst [])) (X.pn++pins)) rfl rfl rfl hc i [] s4 Z4 H4 _ J4 (stat fr4) st4 go) fun r s5 ⟨u,hr,h5⟩ => ?_
   subst hr
   refine thn h5 fun _ s6 ⟨x,H6,J6,r6,y6,st6,fr6⟩ => ?_
   have J6':=J6.pinned (stat fr6) (T.obj _ _ st6)
   have again:∀ {Z7:St} {H7:Hp} {s7:Shared},Inv (zL X scope N' fp cl s3.heap.objs.size s3 (upd H2 s2.heap.objs.size (.lst [])) (X.pn++pins)) ([]++qcH fp s6.heap) Z7 H7 s7->(∃ m',m'<n/\W (i+1) m' Z7 H7) ->
     ∃ m,m<n/\∃ i Z' H',Inv (zL X scope N' fp cl s3.heap.objs.size s3 (upd H2 s2.heap.objs.size (.lst [])) (X.pn++pins)) [] Z' H' s7/\tn i s7.heap/\(∀ b∈fp,H' b=none)/\W i m Z' H':=fun {Z7 H7 s7} I7 hm=>by
    obtain ⟨m',hm,w7⟩:=hm
    refine ⟨m',hm,i+1,Z7,H7,I7.unpinned,T.keep _ _ _ st6 fun b hb o q=>(I7.pin (b,o) (mr_ _ (mr_ _ (yW hb q)))).1,fun b hb => ?_,w7⟩
    obtain ⟨o,q,d⟩:=T.obj _ _ st6 b hb
    exact (I7.pin (b,o) (mr_ _ (mr_ _ (yW hb q)))).2.1
   refine thn (hg _ s6 Z4 H6 x u _ J6' r6 (step x H6 y6)) fun _ s7 ⟨Z7,H7,J7,q7⟩ => ?_
   refine thn (hf _ s7 Z7 H7 _ J7 q7) fun ok s8 ⟨H8,J8,q8⟩ => ?_
   cases ok with
   | false =>
    rw [if_neg Bool.false_ne_true] at q8 |-
    exact again J8 q8
   | true =>
    rw [if_pos rfl] at q8 |-
    refine thn (he _ s8 Z7 H8 _ J8 q8) fun z s9 ⟨y,H9,J9,r9,ys,hys,hz,hm⟩ => ?_
    refine thn (qbH _ s9 Z7 H9 (.ref s2.heap.objs.size) [y] (.ref s2.heap.objs.size) [z] (fun _ H'=>H'=upd H9 s2.heap.objs.size (.lst (ys++[y]))) J9 rfl (.cons r9 .nil) ⟨_,ys,y,rfl,rfl,hys,hz,rfl⟩) fun _ s10 ⟨_,H10,J10,_,e10⟩ => ?_
    subst e10
    exact again J10 hm
 have ja:∀ tk:Nat,codeAny (model X.prog X.w) X.A (.compStart (.ListComp elt [⟨tg,iter,ifs,0⟩] scope pos) 0 (.ref it) (.ref s2.heap.objs.size) (compEnvC scope cl s3.heap.objs.size X.env))
   (compPost (model X.prog X.w) X.A X.xe (some (assign (.Name x pos') X.env)) (fun _ s'=>SP X pins D .next s') (.ref s2.heap.objs.size) s3.heap.objs.size) { s3 with heap:=hX,toks:=tk }:=fun tk =>
  codeAny_compStart_list (loop tk) (T.self X.A 0 _ _ _ T0 (loop tk))
 have fin:=ja (s2.toks+([]:List (Str×Value)).length)
 rw [<- s3e] at fin
 rw [<- hh3] at fin
 rw [hh3] at fin |-
 exact fin
end
section
variable {X:Cx} {c:Fc}
def DC (X:Cx) (c:Fc) (tg it elt:Expr) (ifs:List Expr) (scope:Scope) (N':List Str) (nt:Nat) (fr:List Nat) (f:M D):Prop:=∃ wi,PI X tg it wi/\∀ U Z H Q,Rep X.K c U Z H->Wp X.K c Z H Q (f U)->qlA X tg ifs elt scope N' wi nt fr Z H Q
theorem qhI {it elt tg:Expr} {ifs:List Expr} {scope:Scope} {N':List Str} {nt:Nat} {fr:List Nat} {fo:Option (Nat×Nat)} {f:M (List D)} {g:D->Env->Option Env} {t:M Bool} {k:M D} (hc:X.calm=true) (hi:DI X c tg it f) (S:CompScope X scope N' nt fr)
  (hfo:qlC c nt fr fo)
  (hb:∀ fp cl C s₀ H₀ pn B0 H1 Io' acc S',DG (zL X scope N' fp cl C s₀ H₀ pn) (cin B0 H1 (foO fo) Io' acc S') tg g/\DF (zL X scope N' fp cl C s₀ H₀ pn) (cin B0 H1 (foO fo) Io' acc S') ifs t/\DE (zL X scope N' fp cl C s₀ H₀ pn) (cin B0 H1 (foO fo) Io' acc S') elt k)
  : DC X c tg it elt ifs scope N' nt fr (zW nt fr fo f g t k):=by
 obtain ⟨wi,pi,wI⟩:=hi
 refine ⟨wi,pi,fun U Z H Q r h=>wI U Z H _ r (WpI.bnd h fun ds U1 J H1 r1 iok g1 h1 => ?_)⟩
 intro acc fp cl C s₀ H₀ pn hn
 obtain ⟨⟨tg',pg,wg⟩,⟨tt,pt,wt⟩,⟨te,pe,we⟩⟩:=hb fp cl C s₀ H₀ pn (Cn c Z) H1 (qdG Z fo) acc fun j=>(qK nt fr Z)[j]?
 refine ⟨tg',tt,te,pg,pt,pe,?_⟩
 cases ew:z6 g t k ds [] (yp nt fr U1) with
 | exc x U'=>rw [ew] at h1;exact h1.elim
 | bad=>rw [ew] at h1;exact h1.elim
 | ok p =>
  rw [ew] at h1
  obtain ⟨ys,Ue⟩:=p
  have h1:∀ v H',Rep X.K c (qmI fo Ue U1) Z H'->Is X.K (Cn c Z) H' (.lst ys) v->Gr c.O Z H1 H'->Q v H':=h1
  have accO:∀ j∈foO fo,(qK nt fr Z)[j]? ≠ some (some (.ref acc)):=fun j hj e=>by
   have r0:=r1.entry (acc:=acc) hn hfo
   cases fo with
   | none=>cases hj
   | some p =>
    obtain ⟨i',j'⟩:=p
    have e2:j=i':=by simpa [foO] using hj
    subst e2
    obtain ⟨k2,j2,e1,e2,e3⟩:=yX e
    have hk2:k2=j-nt:=by omega
    subst hk2
    rw [hfo.2.2.1] at e2
    cases e2
    obtain ⟨a,us,e4,e5,_⟩:=r1.own j' hfo.1 _ e3
    cases e4;rw [hn] at e5;cases e5
  refine ⟨fun i m Z' H'=>m=ds.length-i/\i<=ds.length/\∃ U' zs xs,Rep X.K (cin (Cn c Z) H1 (foO fo) (qdG Z fo) acc fun j=>(qK nt fr Z)[j]?) U' Z' H'/\(∀ j∈foO fo,Z'[j]? = (qK nt fr Z)[j]?)/\H' acc=some (.lst xs)/\IsL X.K (Cn (cin (Cn c Z) H1 (foO fo) (qdG Z fo) acc fun j=>(qK nt fr Z)[j]?) Z') H' zs xs/\z6 g t k (ds.drop i) zs U' = .ok (ys,Ue),
   ⟨ds.length,by simp,Nat.zero_le _,yp nt fr U1,[],[],r1.entry hn hfo,fun _ _=>rfl,qt,rfl,by simpa using ew⟩,?_⟩
  rintro i m Z' H' ⟨rfl,hi,U',zs,xs,r',so,ha,iz,w⟩
  obtain ⟨_,gr⟩:=r1.leave hn hfo (fun i j e=>so i (by rw [e];simp [foO])) r'
  have ex:Ext (CnT c Z H1) H1 H':=⟨gr.ext.tup,gr.ext.frz,fun b o hb hq=>gr.ext.at_ b o hb.1.2 hq⟩
  have accC:∀ τ:St,(∀ j∈foO fo,τ[j]? = (qK nt fr Z)[j]?)->Cl (foO fo) τ acc:=fun τ hτ j hj e=>accO j hj (by rw [<- hτ j hj];exact e)
  by_cases hlt:i<ds.length
  ·refine .inr ⟨iok.go H' i ds[i] ex (by simp [hlt]),fun x H'' y => ?_⟩
   obtain ⟨sm,ix⟩:=iok.yl H' i ds[i] x H'' ex (by simp [hlt]) y
   rw [qaI hlt] at w
   unfold z6 at w
   have ix2:Is X.K (Cn (cin (Cn c Z) H1 (foO fo) (qdG Z fo) acc fun j=>(qK nt fr Z)[j]?) Z') H'' ds[i] x:=Is.ext Ext.refl (fun a ha _=>⟨⟨ha.1,fun e=>by
    have:=ha.2
    rw [e,hn] at this;cases this⟩,fun j hj e=>by
     rw [so j hj] at e
     cases fo with
     | none=>cases hj
     | some p =>
      obtain ⟨i',j'⟩:=p
      have e2:j=i':=by simpa [foO,cin] using hj
      subst e2
      obtain ⟨k2,j2,e1,e2,e3⟩:=yX e
      have hk2:k2=j-nt:=by omega
      subst hk2
      rw [hfo.2.2.1] at e2
      cases e2
      exact ha.1.2 j' hfo.1 e3⟩) ix
   cases e1:g ds[i] U' with
   | none=>simp only [e1] at w;cases w
   | some U2 =>
    simp only [e1] at w
    refine wg U' Z' H'' ds[i] x U2 _ (r'.same sm) ix2 e1 fun Z2 r2 g2 o2 => ?_
    have so2:∀ j∈foO fo,Z2[j]? = (qK nt fr Z)[j]? := fun j hj=>(o2 j hj).trans (so j hj)
    have ha2:H'' acc=some (.lst xs):=sm _ _ ha
    have iz2:=g2.isL (IsL.ext (Ext.of_same sm) (fun _ h _=>h) iz)
    cases e2:t U2 with
    | exc x U3=>simp only [e2] at w;cases w
    | bad=>simp only [e2] at w;cases w
    | ok p2 =>
     obtain ⟨bb,U3⟩:=p2
     refine wt U2 Z2 H'' _ r2 ?_
     rw [e2]
     intro H3 r3 g3
     have ha3:H3 acc=some (.lst xs):=g3.ext.at_ _ _ (accC Z2 so2) ha2
     have iz3:=g3.isL iz2
     cases bb with
     | false =>
      rw [if_neg Bool.false_ne_true]
      simp only [e2] at w
      exact ⟨ds.length-(i+1),by omega,rfl,hlt,U3,zs,xs,r3,so2,ha3,iz3,w⟩
     | true =>
      rw [if_pos rfl]
      simp only [e2] at w
      cases e3:k U3 with
      | exc x U4=>simp only [e3] at w;cases w
      | bad=>simp only [e3] at w;cases w
      | ok p3 =>
       obtain ⟨d4,U4⟩:=p3
       simp only [e3] at w
       refine we U3 Z2 H3 _ r3 ?_
       rw [e3]
       intro y4 H4 r4 i4 g4
       have ha4:H4 acc=some (.lst xs):=g4.ext.at_ _ _ (accC Z2 so2) ha3
       have hsz:qP (zs.length+1)=true:=by
        cases e5:qP (zs.length+1) with
        | true=>rfl
        | false=>rw [e5] at w;simp at w
       rw [if_pos hsz] at w
       have hsz':zs.length+1<=sizeLine:=of_decide_eq_true hsz
       have r5:=r4.grow (ys:=xs++[y4]) ha4 (fun j hj e=>accC Z2 so2 j hj e)
       have ext5:Ext (Cn (cin (Cn c Z) H1 (foO fo) (qdG Z fo) acc fun j=>(qK nt fr Z)[j]?) Z2) H4 (upd H4 acc (.lst (xs++[y4]))):=⟨fun b us hb=>by rw [qu (w8 hb ha4 (by intro z;cases z))];exact hb,fun b o u hb=>by rw [qu (w8 hb ha4 (by intro z;cases z))];exact hb,fun b o hb hq=>by rw [qu hb.1.2];exact hq⟩
       refine ⟨xs,ha4,by rw [iz3.length];omega,ds.length-(i+1),by omega,rfl,hlt,U4,zs++[d4],xs++[y4],r5,so2,qt,?_,w⟩
       exact IsL.append (IsL.ext ext5 (fun _ h _=>h) (g4.isL iz3)) (IsL.one (Is.ext ext5 (fun _ h _=>h) i4))
  ·have hie:i=ds.length:=by omega
   subst hie
   rw [List.drop_of_length_le (Nat.le_refl _)] at w
   unfold z6 at w
   cases w
   obtain ⟨r6,g6⟩:=r1.leave hn hfo (fun i j e=>so i (by rw [e];simp [foO])) r'
   exact .inl ⟨iok.stop H' ex,h1 _ H' r6 ⟨acc,xs,rfl,r1.new hn,ha,IsL.ext Ext.refl (fun a ha hs=>ha.1.1) iz⟩ g6⟩
theorem qhJ {i:Nat} {x:Str} {pos' spos pos:Pos} {tg it elt:Expr} {ifs:List Expr} {scope:Scope} {N':List Str} {nt:Nat} {fr:List Nat} {f:M D} (hN:X.N.Nodup) (h:DC X c tg it elt ifs scope N' nt fr f) (hc:X.calm=true) (S:CompScope X scope N' nt fr)
  (ho:i ∉ c.O:=by exact of_decide_eq_false rfl) (hix:X.N[i]? = some x:=by rfl) (hx:Loc X.env.scope x:=by first | exact Or.inl rfl | exact Or.inr rfl) (hfx:X.fn x=true\/X.env.scope.names.lookup x=some .local:=by first | exact .inl rfl | exact .inr rfl | assumption)
  (hsw:swapsWith (.ListComp elt [⟨tg,it,ifs,0⟩] scope pos) (some (.Name x pos')) spos.line X.env=pure true:=by rfl) (hs:∀ x,foldedSetIterable it X.env x=pure x:=by intro _;rfl) :
  DS X c (.Assign [.Name x pos'] (.ListComp elt [⟨tg,it,ifs,0⟩] scope pos) spos) (jn i f):=by
 obtain ⟨wi,pi,w⟩:=h
 refine ⟨_,qlT hN hix hx hfx hc pi S hsw hs,fun U Z H D r h=>w U Z H _ r (Wp.sbnd h fun d U1 v H1 r1 i1 g1 h1 => ?_)⟩
 exact h1 _ H1 (r1.set ho i1) (.set ho)
end
def qhK:List Int->Int
 | []=>0
 | [n]=>n
 | n::m::ns=>max n (qhK (m::ns))
theorem qfF:∀ (n:Int) (ns:List Int),qhK (n::ns)∈n::ns
 | n,[]=>mS_
 | n,m::ns=>by
  have h:=qfF m ns
  show max n (qhK (m::ns))∈_
  rw [Int.max_def]
  split
  ·exact mM_ _ h
  ·exact mS_
theorem qhL:∀ (n:Int) (ns:List Int),∀ k∈n::ns,k<=qhK (n::ns)
 | n,[]=>fun k hk=>by
  have:k=n:=by simpa using hk
  rw [this];exact Int.le_refl _
 | n,m::ns=>fun k hk=>by
  have h:=qhL m ns
  show k<=max n (qhK (m::ns))
  rcases List.mem_cons.mp hk with rfl | hk
  ·exact Int.le_max_left ..
  ·exact Int.le_trans (h k hk) (Int.le_max_right ..)
theorem qhM {ns:List Int} {z:Int} (h1:z∈ns) (h2:∀ n∈ns,n<=z):qhK ns=z:=by
 cases ns with
 | nil=>cases h1
 | cons n ns=>exact Int.le_antisymm (h2 _ (qfF n ns)) (qhL n ns z h1)
theorem qef {zs:Array (Int×Tok)} {i:Nat} (h:i<zs.size):(zs.toList.map (·.1))[i]? = some (numAt zs i):=by
 have h':i<zs.toList.length:=by simpa using h
 rw [gM_,gG h']
 simp [numAt,h]
section
variable {X:Cx}
theorem qhN (hc:X.calm=true):uD X (.builtin "max") (fun xs H Q=>∃ (p:Addr) (ns:List Int),xs=[.ref p]/\H p=some (.lst (ns.map V.int))/\ns≠[]/\Q (.int (qhK ns)) H):=by
 intro pins s Z H xs us Q I r h
 obtain ⟨p,ns,rfl,hp,hne,q⟩:=h
 obtain ⟨u,rfl,ru⟩:=zd.one r
 cases ru
 obtain ⟨its,rv,pl,hz⟩:=I.list (SqL.of hp)
 have hl:=pl.isList
 have hi:IntsAre its ns:=qcM rv
 obtain ⟨zs,hx⟩:=hi.allInts.items
 have hl':s.heap.IsList p (intItems zs):=hx▸hl
 have e1:ns=zs.toList.map (·.1):=by
  rw [<- nums_intItems,<- hx]
  exact (show numsOf its.toArray.toList=ns from hi.numsOf).symm
 have hsz:0<zs.size:=by
  cases hzz:zs.toList with
  | nil=>rw [hzz] at e1;exact absurd e1 hne
  | cons a b =>
   have:zs.size=zs.toList.length:=by simp
   rw [this,hzz];simp
 refine max_intList (I.ok.hd hc) hl' hsz fun v h' tk hv hk => ?_
 obtain ⟨t,rfl⟩:=intItems_at hv
 obtain ⟨b1,b2⟩:=argBest_gt (numAt zs) (zs.size-1)
 have e2:qhK ns=numAt zs (argBest (fun i j=>decide (numAt zs i>numAt zs j)) (zs.size-1)):=by
  refine qhM ?_ fun n hn => ?_
  ·rw [e1]
   exact List.mem_of_getElem? (qef (by omega))
  ·rw [e1] at hn
   obtain ⟨j,hj⟩:=List.mem_iff_getElem?.mp hn
   have hj2:j<zs.size:=by
    have:=(gI_.mp hj).1
    simpa using this
   rw [qef hj2] at hj
   cases hj
   exact b2 j (by omega)
 rw [<- e2]
 exact ⟨.int _,H,I.kept hk,⟨_,rfl⟩,q⟩
end
def qhO:List D->Option D
 | [.lst ds]=>match wG ds with
  | some (n::ns)=>some (.int (qhK (n::ns)))
  | _=>none
 | _=>none
theorem qgw {K:Fr0}:qbk K qhO (fun xs H Q=>∃ (p:Addr) (ns:List Int),xs=[.ref p]/\H p=some (.lst (ns.map V.int))/\ns≠[]/\Q (.int (qhK ns)) H):=by
 intro A H xs d vs Q hn h e k
 unfold qhO at e
 split at e
 ·obtain ⟨v,rfl,a,zs,rfl,_,ta,il⟩:=IsL.inv1 h
  split at e
  ·rename_i n ns hi
   cases e
   rw [qaG il hi] at ta
   exact ⟨a,n::ns,rfl,ta,by simp,k _ H (jp.refl H) rfl⟩
  ·cases e
 ·cases e
def uE (t:M Bool) (b:MS):Nat->MS
 | 0,_ => .bad
 | n+1,U=>match t U with
  | .ok (true,U1)=>match b U1 with
   | .ok (.nx U2)=>uE t b n U2
   | .ok (.ct U2)=>uE t b n U2
   | .ok (.bk U2) => .ok (.nx U2)
   | .ok (.rt d U2) => .ok (.rt d U2)
   | .exc x U2 => .exc x U2
   | .bad => .bad
  | .ok (false,U1) => .ok (.nx U1)
  | .exc x U1 => .exc x U1
  | .bad => .bad
open Classical in
noncomputable def qb4 (t:M Bool) (b:MS):MS:=fun U=>if h:∃ n,uE t b n U ≠ .bad then uE t b h.choose U else .bad
theorem v0 {t:M Bool} {b:MS}:∀ {n:Nat} {U:Env} (k:Nat),uE t b n U ≠ .bad->uE t b (n+k) U=uE t b n U
 | 0,U,k,h=>absurd rfl h
 | n + 1,U,k,h=>by
  have e:n+1+k=(n+k)+1:=by omega
  rw [e]
  unfold uE at h |-
  cases et:t U with
  | ok p =>
   obtain ⟨v,U1⟩:=p
   rw [et] at h
   cases v with
   | false=>rfl
   | true =>
    dsimp only at h |-
    cases eb:b U1 with
    | ok fl =>
     rw [eb] at h
     cases fl with
     | nx U2=>exact v0 k h
     | ct U2=>exact v0 k h
     | bk U2=>rfl
     | rt d U2=>rfl
    | exc x U2=>rfl
    | bad=>rfl
  | exc x U1=>rfl
  | bad=>rfl
theorem qeg {t:M Bool} {b:MS} {n:Nat} {U:Env} {r:R Fl} (h:uE t b n U=r) (hb:r ≠ .bad):qb4 t b U=r:=by
 have hx:∃ n,uE t b n U ≠ .bad:=⟨n,by rw [h];exact hb⟩
 unfold qb4
 rw [dif_pos hx]
 have hc:=hx.choose_spec
 generalize hx.choose=m at hc
 rcases Nat.le_total m n with hl | hl
 ·obtain ⟨k,rfl⟩:=Nat.exists_eq_add_of_le hl
  rw [<- v0 k hc];exact h
 ·obtain ⟨k,rfl⟩:=Nat.exists_eq_add_of_le hl
  rw [v0 k (by rw [h];exact hb)];exact h
theorem qgx {t:M Bool} {b:MS} {U:Env}:∃ n,qb4 t b U=uE t b n U:=by
 unfold qb4
 split
 ·exact ⟨_,rfl⟩
 ·exact ⟨0,rfl⟩
section
variable {X:Cx} {c:Fc} {pos:Pos}
theorem qfG {e:Expr} {body:List Stmt} {t:M Bool} {b:MS} (hp:PassesOwn (model X.prog X.w) X.A X.env X.xe) (ht:DT X c e t) (hb:DSs X c body b):DS X c (.While e body [] pos) (qb4 t b):=by
 obtain ⟨tc,pc,wc⟩:=ht
 obtain ⟨tb,pb,wb⟩:=hb
 refine ⟨_,qiU hp pc pb,fun U Z H D' r h => ?_⟩
 obtain ⟨n,en⟩:=qgx (t:=t) (b:=b) (U:=U)
 rw [en] at h
 refine ⟨fun m Z' H'=>∃ U',Rep X.K c U' Z' H'/\WpS X.K c Z' H' D' (uE t b m U'),⟨n,U,r,h⟩,?_⟩
 rintro m Z' H' ⟨U',r',w⟩
 cases m with
 | zero=>exact w.elim
 | succ m =>
  unfold uE at w
  refine wc U' Z' H' _ r' ?_
  cases et:t U' with
  | bad=>rw [et] at w;exact w
  | exc x U1=>rw [et] at w;exact fun H1 r1 g1=>w Z' H1 r1 g1.s
  | ok p =>
   obtain ⟨v,U1⟩:=p
   rw [et] at w
   intro H1 r1 g1
   cases v with
   | false =>
    rw [if_neg Bool.false_ne_true]
    exact w Z' H1 r1 g1.s
   | true =>
    rw [if_pos rfl]
    dsimp only at w
    refine ⟨fun Z2 H2=>∃ U2,Rep X.K c U2 Z2 H2/\WpS X.K c Z2 H2 D' (uE t b m U2),fun Z2 H2 q=>⟨m,Nat.lt_succ_self m,q⟩,wb U1 Z' H1 _ r1 ?_⟩
    have w2:=w.gr g1.s
    cases e2:b U1 with
    | ok fl =>
     cases fl with
     | nx U3=>simp only [e2] at w2;exact fun Z3 H3 r3 g3=>⟨U3,r3,w2.gr g3⟩
     | ct U3=>simp only [e2] at w2;exact fun Z3 H3 r3 g3=>⟨U3,r3,w2.gr g3⟩
     | bk U3=>simp only [e2] at w2;exact w2
     | rt d U3=>simp only [e2] at w2;exact w2
    | exc x U3=>simp only [e2] at w2;exact w2
    | bad=>simp only [e2] at w2;exact w2
end
def qmK (K:Fr0) (a:Addr) (ns:List Int):Prop:=∃ (o:Obj) (its:Array Value) (n:Nat),K.lookup a=some o/\o.cls = .type "tuple"/\o.data = .seq its n/\its.size<=sizeLine/\zd (ns.map V.int) its.toList
theorem qmK.is {K:Fr0} {a:Addr} {ns:List Int} (h:qmK K a ns) (H:Hp) (A:Addr->Prop):Is K A H (.tup (ns.map .int)) (.ref a):=⟨a,_,rfl,.inr h,qc5 ns⟩
theorem qjq {X:Cx} {c:Fc} {x:Str} {a:Addr} {ns:List Int} {pos:Pos} (hg:Gl X x) (hm:X.mg x=some (.ref a)) (ht:qmK X.K a ns) (hdb:(x==("__debug__":Str))=false:=by decide):DE X c (.Name x pos) (ret (.tup (ns.map .int))) :=
 qhc (v := .ref a) hg hm rfl (fun H A=>ht.is H A) hdb
theorem qpt {K:Fr0} {a:Addr} {od:Option Addr} {its:Array Value} {n:Nat} {sl:Array (Option Value)} {i j:Int} {t u:Tok} (h:K.lookup a=some ⟨.type "tuple",od,.seq its n,sl⟩) (e:its.toList=[.int i t,.int j u]):qmK K a [i,j] :=
 ⟨_,its,n,h,rfl,rfl,by
  have:its.size=2:=by rw [<- Array.length_toList,e];rfl
  rw [this];decide,by rw [e];exact .cons ⟨t,rfl⟩ (.cons ⟨u,rfl⟩ .nil)⟩
def qpu (h:Heap) (e T:Addr) (cls:Value):Prop :=
 ∃ oe vs oT ts a0,h.get? e=some oe/\(oe.cls=cls/\vs[2]? = some .none/\vs[0]? = some a0)/\oe.data = .fields vs/\vs[1]? = some (.ref T)/\T≠e/\h.get? T=some oT/\oT.data = .fields ts/\ts[3]? = some .none
def CX1 (P:Program) (w:World):CXT:=fun outer H s E u s'=>∃ e T C H',u = .ref e/\s'.os=s.os/\AllBare s'.gens/\Un (frs outer) [] H H' s.heap s'.heap/\HOk P w H' s'.heap /\
 s.heap.get? e=none/\s.heap.get? T=none/\H' e=none/\H' T=none/\qpu s'.heap e T (.ref C)/\E (.ref C) none H'
structure Lft (h h':Heap) (ch fs:List Addr):Prop where
 keep:∀ b o,b ∉ ch->b ∉ fs->h.get? b=some o->h'.get? b=some o
 slot:∀ b o,b∈fs->h.get? b=some o->∃ sl,h'.get? b=some { o with slots:=sl }
section
variable {M:Model} {A:Around} {E:Value->Shared->Prop} {s:Shared}
end
section
variable {X:Cx} {pins:List (Addr×Obj)} {Z:St} {H:Hp} {s:Shared}
end
structure XC (base:Heap) (C:Addr) (bm:List Value):Prop where
 hasBase:bm.contains (.type "BaseException")=true
 ex:∃ nm q N bs hdct sn sub ab col dd k0 k1 k2 k3 k5 newId initId B bmB mN,base.get? C=some (excClassObj nm q C N bs bm hdct sn sub ab col dd k0 k1 k2 k3 k5 newId)/\base.Ns N mN/\mN "__init__"=none/\OwnTail base bmB bm/\ExcBaseFacts B newId initId bmB
section
variable {X:Cx} {c:Fc} {e:Expr} {es:List Expr} {pos cpos np:Pos}
structure XL (X:Cx) (c:Fc) (cl:Str->Option Addr) (E:XK):Prop where
 made:∀ C pins Z H s h' a us,Inv X pins Z H s->Heap.MadeExcOf s.heap h' a (.ref C) us->E (.ref C) none H->X.xe (.ref a) { s with heap:=h' }
 pass:qbE (CX1 X.prog X.w) X E
 wish:∀ x C H',cl x.cls=some C->c.E x H'->E (.ref C) none H'
structure XL2 (X:Cx) (c:Fc) (cl:Str->Option Addr) (E:XK):Prop where
 pass:qbE (CX1 X.prog X.w) X E
 wish:∀ x C H',cl x.cls=some C->c.E x H'->E (.ref C) none H'
theorem XL.two {X:Cx} {c:Fc} {cl:Str->Option Addr} {E:XK} (L:XL X c cl E):XL2 X c cl E:=⟨L.pass,L.wish⟩
def qn4 (x:Str) (f:M (List D)):MS:=fun U=>match f U with
 | .ok (ds,U')=>if qP ds.length then .exc ⟨x,.non⟩ U' else .bad
 | .exc z U' => .exc z U'
 | .bad => .bad
def spX (K:Fr0) (cl:Str->Option Addr) (F:List D->R D):Sp:=fun vs H Q E=>∃ ds A,IsL K A H ds vs/\qhb K H/\match F ds with
 | .ok d=>∀ v H',jp H H'->Is K (fun a=>A a\/H a=none) H' d v->Q v H'
 | .exc x _=>∃ C,cl x.cls=some C/\∀ H',jp H H'->E (.ref C) none H'
 | .bad=>False
def qkF (RN:List Str) (F:List D->R D) (g:M (List D)):M D:=bnd g fun ds U=>match F ds with
 | .ok d => .ok (d,U)
 | .exc x _=>if RN.contains x.cls then .exc x U else .bad
 | .bad => .bad
def qfH (F:List D->R D) (g:M (List D)):M D:=bnd g fun ds U=>match F ds with
 | .ok d => .ok (d,U)
 | _ => .bad
theorem qjr {k:Nat} {f:Addr} {fd:FuncData} {ps:List Str} {F:List D->R D} {x:Str} {p:Pos} {g:M (List D)} {cl:Str->Option Addr}
  (G:qct X.prog X.w X.K X.mg X.base (CX1 X.prog X.w) k f fd ps (spX X.K cl F)) (hr:vv k X.A) (hg:Gl X x) (hm:X.mg x=some (.ref f)) (hk:PySem.W.keepIn X.K (.ref f)=true) (hb:wF X.K fd ps [])
  (ha:DA X c (e::es) g) (hd:(x==("__debug__":Str))=false:=by decide) (he:starEach (e::es) X.env=(false,eval e X.env)::starEach es X.env:=by rfl) (hpl:(backTo pos (starEach es X.env)).any (·.1)=false:=by rfl):DE X c (.Call (.Name x p) (e::es) [] pos) (qfH F g):=by
 obtain ⟨t,pa,w⟩:=ha
 refine ⟨_,qcZ (E:=fun _ _ _=>False) G hr hg hm hk hb .nil (fun _ _ _ _ _ _ _ ⟨_,_,_,_,_,_,_,_,_,_,_,_,_,_,z⟩=>z.elim) pa hd he hpl,fun U Z H Q r h=>w U Z H _ r (WpL.bnd h fun ds U1 vs H1 r1 i1 g1 h1 => ?_)⟩
 rw [List.append_nil]
 refine ⟨ds,Cn c Z,i1,r1.tb,?_⟩
 cases ef:F ds with
 | bad=>simp only [ef] at h1;exact h1.elim
 | exc z U'=>simp only [ef] at h1;exact h1.elim
 | ok d =>
  simp only [ef] at h1
  exact fun v H' sm i=>h1 v H' (r1.same sm) (Is.ext Ext.refl (fun a ha _=>ha.elim id r1.new) i) (.of_same sm)
end
section
variable {P:Program} {w:World} {K:PySem.W.Frag} {mg:Str->Option Value} {base:Heap}
structure qlU (P:Program) (w:World) (K:PySem.W.Frag) (mg:Str->Option Value) (base:Heap) (k:Nat) (x:Str) (ps:List Str) (sp:Sp):Prop where
 ex:∃ f fd,qct P w K mg base (CX1 P w) k f fd ps sp/\mg x=some (.ref f)/\PySem.W.keepIn K (.ref f)=true/\wF K fd ps []
end
section
variable {M:Model} {A:Around} {E:Value->Shared->Prop}
variable {nm q nm' q':Str} {C S N N':Addr} {bs bm bs' bm':List Value} {hdct hdct':Bool} {sn sn':List Str} {sub sub':List Value} {ab ab':Bool} {col col':Option Bool} {dd dd':Option Addr} {k0 k1 k2 k3 k5 j0 j1 j2 j3 j5:Option Value} {newId newId':String}
end
end L2.Sk
namespace L2
open PySem PySem.Spec PyProof.Rows
def uM (A:Around) (H:Hp):Prop:=∃ e oe u vs,A.handled=some (.ref e)/\H e=some (.frz oe u)/\oe.data = .fields vs/\vs[2]? = some .none
def qn5 (A:Around) (sp:Sp) (dvs:List V) (E:XK) (t:TA):TE:=fun Z H Q=>t Z H fun vs H1=>uM A H1/\sp (vs++dvs) H1 Q E
structure wL (k:Nat) (A:Around):Prop where
 dp:A.depth+3*k+5<recursionLimit
 un:A.units+16*k+200<cLine
 gd:A.guards=some []
theorem wL.mono {j k:Nat} {A:Around} (r:wL k A) (h:j<=k):wL j A:=⟨by have:=r.dp;omega,by have:=r.un;omega,r.gd⟩
theorem wL.deeper {k:Nat} {A:Around} (r:wL (k+1) A) (env:Env):wL k (A.deeper env) :=
 ⟨by have:=r.dp;show A.depth+1+3*k+5<_;omega,by have:=r.un;show A.units+3+16*k+200<_;omega,r.gd⟩
theorem wL.depth {k:Nat} {A:Around} (r:wL k A):A.depth<recursionLimit:=by have:=r.dp;omega
structure qjs (P:Program) (w:World) (K:PySem.W.Frag) (mg:Str->Option Value) (base:Heap) (CX:CXT) (k:Nat) (f:Addr) (fd:FuncData) (ps:List Str) (sp:Sp):Prop where
 len:∀ vs H Q E,sp vs H Q E->vs.length=ps.length
 run:∀ (A:Around) (outer:List Env) (s:Shared) (H:Hp) (args:Args) (us:List Value) (vs:List V) (Q:VK) (E:XK),wL k A->uM A H->qni P w K mg base A outer s H->BindsTo s fd args (ps.zip us)->zd vs us->sp vs H Q E ->
  codeAny (model P w) A (.call (.ref f) args) (CR CX outer P w H s Q E) s
section
variable {X:Cx} {CX:CXT} {k:Nat} {f C:Addr} {fd:FuncData} {ps:List Str} {sp:Sp} {dvs:List V} {ds:List Value} {E:XK} {x m:Str} {p pos apos:Pos} {e o:Expr} {es:List Expr} {ta:TE} {t:TA}
theorem qlV {pins:List (Addr×Obj)} {Z:St} {H:Hp} {s:Shared} {Q:VK} {us:List Value} {vs:List V} (F:qjs X.prog X.w X.K X.mg X.base CX k f fd ps sp) (hr:wL k X.A) (hb:wF X.K fd ps ds) (hd:zd dvs ds) (hx:qbE CX X E)
  (I:Inv X pins Z H s) (r:zd vs us) (al:uM X.A H) (h:sp (vs++dvs) H Q E):wpAny (model X.prog X.w) X.A (call (.ref f) us) (EP X pins Z Q) X.xe s:=by
 have r2:zd (vs++dvs) (us++ds):=r.append hd
 have hl:(us++ds).length=ps.length:=by rw [<- r2.length];exact F.len _ _ _ _ h
 refine wpAny_call (codeAny_mono (F.run X.A X.stack s H ⟨us,[]⟩ (us++ds) (vs++dvs) Q E hr al I.env0 (hb s us I.kIn hl) r2 h) fun r s' hq => ?_)
 cases r with
 | error e=>exact hx pins Z H s e s' I hq
 | ok fl =>
  cases fl with
  | ret u=>exact I.after hq
  | next=>exact False.elim hq
  | brk=>exact False.elim hq
  | cont=>exact False.elim hq
theorem qjt (F:qjs X.prog X.w X.K X.mg X.base CX k f fd ps sp) (hr:wL k X.A) (hg:Gl X x) (hm:X.mg x=some (.ref f)) (hk:PySem.W.keepIn X.K (.ref f)=true) (hb:wF X.K fd ps ds) (hd:zd dvs ds) (hx:qbE CX X E)
  (ha:PA X (e::es) t) (hdb:(x==("__debug__":Str))=false:=by decide) (he:starEach (e::es) X.env=(false,eval e X.env)::starEach es X.env:=by rfl) (hpl:(backTo pos (starEach es X.env)).any (·.1)=false:=by rfl) :
  PE X (.Call (.Name x p) (e::es) [] pos) (qn5 X.A sp dvs E t):=by
 intro pins s Z H Q I h
 refine wpAny_Call_Name_kw (qeN I hg hm ?_ hdb)
 refine PySem.W.callWith_K (h₀:=X.base) I.ok.mod.kin hk (thn (ha pos pins s Z H _ I h) fun us s1 ⟨vs,H1,I1,r,q⟩=>⟨I1.kIn,?_⟩) he hpl
 exact qlV F hr hb hd hx I1 r q.1 q.2
end
end L2
namespace L2.Sk
open PySem PySem.Spec PyProof.Rows
def isT (b:Bool):Value->Bool
 | .bool a=>a==b
 | _=>false
section
variable {X:Cx}
end
def qqc (x:D) (ys:List D):Option D:=match x,ys with
 | .lst ds,[.bl b]=>(uL ds).map fun bs => .int (bs.countP (·==b))
 | _,_=>none
def qn6 (F:D->List D->Option D) (f:M D) (g:M (List D)):M D:=bnd f fun x=>match x with
 | .lst ds=>bnd g fun ys=>lift (F (.lst ds) ys)
 | _=>fun _ => .bad
section
variable {X:Cx} {c:Fc} {o e:Expr} {es:List Expr} {apos cpos:Pos}
end
def isI (b:Int):Value->Bool
 | .int a _=>a==b
 | _=>false
section
variable {X:Cx}
end
def qqd (x:D) (ys:List D):Option D:=match x,ys with
 | .lst ds,[.int b]=>(wG ds).map fun ns => .int (ns.countP (·==b))
 | _,_=>none
section
variable {X:Cx} {pins:List (Addr×Obj)} {Z:St} {H:Hp} {s:Shared} {xe:Value->Shared->Prop}
theorem un_held {H':Hp} {h':Heap} {e:Addr} {o:HO} (u:Un (frs X.stack) [] H H' s.heap h') (he:s.heap.get? e=none) (hHe:H' e=none):Un (frs X.stack) [] H (upd H' e o) s.heap h':=by
 have ne:∀ b ob,s.heap.get? b=some ob->b≠e:=fun b ob q z=>by rw [z,he] at q;cases q
 have ne':∀ b u,H' b=some u->b≠e:=fun b u q z=>by rw [z,hHe] at q;cases q
 refine ⟨u.keep,u.slot,fun b ob q n hx=>by rw [qu (ne b ob q)];exact u.free b ob q n hx,u.there,fun b xs q => ?_,fun b ob w q => ?_,fun b ps y q => ?_⟩
 ·have:=u.tups b xs q
  rw [qu (ne' b _ this)];exact this
 ·have:=u.frzs b ob w q
  rw [qu (ne' b _ this)];exact this
 ·have:=u.tbls b ps y q
  rw [qu (ne' b _ this)];exact this
end
structure qq9 (K:Fr0) (base:Heap) (RN:List Str) (S:Addr):Prop where
 sup:∃ bm,XC base S bm
 own:∀ n C,clR K RN n=some C->∃ bm,XC base C bm/\(Value.ref C::bm).contains (.ref S)=true
 ki:∀ n C,clR K RN n=some C->XK6 K C
def ch (H6:Hp):Fc:=⟨[],[],fun a=>H6 a=none,H6,fun _=>False,fun _ _=>False,fun _=>none⟩
section
variable {X:Cx} {c:Fc} {pos np hpos p1 p2 p3 p4:Pos} {body:List Stmt}
end
end L2.Sk
namespace L2.Sk
open PySem PySem.Spec PyProof.Rows PySem.W
def bmV:List Value:=[.type "ValueError",.type "Exception",.type "BaseException",.type "object"]
def qgy (K:Fr0) (C S:Addr):Bool:=match K.lookup C with
 | some ⟨_,_,.cls cd,_⟩=>cd.mro.contains (.ref S)
 | _=>false
theorem qoV {K:Fr0} {h:Heap} {C S:Addr} (X:K.In h) (q:excIn K C bmV "ValueError.__new__"=true) (hs:qgy K C S=true):∃ bm,XC h C bm/\(Value.ref C::bm).contains (.ref S)=true:=by
 unfold excIn at q
 split at q
 ·rename_i dd cd sl ho
  split at q
  ·rename_i C' bm k0 k1 k2 k3 n k5 hm hl
   simp only [Bool.and_eq_true,beq_iff_eq,Bool.not_eq_true'] at q
   obtain ⟨⟨⟨⟨⟨e1,e2⟩,hdel⟩,ht⟩,hok⟩,hni⟩:=q
   subst e1 e2
   unfold qgy at hs
   rw [ho] at hs
   dsimp only at hs
   rw [hm] at hs
   obtain ⟨nm,bs,mro,ns,qn,hd,sn,sub,ab,col,del⟩:=cd
   dsimp only at hm hdel hok hni
   subst hm hdel
   have hz:sl = #[k0,k1,k2,k3,some (.builtin _),k5]:=Array.toList_inj.mp hl
   subst hz
   have hT:=tail_of_in X ht
   refine ⟨bm,⟨hT.hasType (by decide +kernel),nm,qn,ns,bs,hd,sn,sub,ab,col,dd,k0,k1,k2,k3,k5,_,"ValueError.__init__","ValueError",bmV,_,X _ _ ho,.of_isNs (isNs_of_in X hok),nsMap_none_of_in X hok hni,hT,PySem.F.excBase_ValueError⟩,hs⟩
  ·cases q
 ·cases q
def qlW (K:Fr0) (D:Addr):Bool :=
 findIn K (.ref D) "__getattribute__"==some (some (.builtin "BaseException.__getattribute__"))&&findIn K (.ref D) "__getattr__"==some none &&
 findIn K (.ref D) "__class__"==some (some (.builtin "object.__class__"))&&mroIn K D (.type "object")==some true&&subIn K (.ref D) (.type "BaseException")==some true&&(clsIn K D).isSome &&
 (["int","bool","str","tuple","list","dict"].all fun T=>kitOne K (.ref D) (.type T)==some false)
theorem qn7 {K:Fr0} {D:Addr} (h:qlW K D=true):XK6 K D:=by
 unfold qlW at h
 simp only [Bool.and_eq_true,beq_iff_eq] at h
 obtain ⟨⟨⟨⟨⟨⟨h1,h2⟩,h3⟩,h4⟩,h5⟩,h6⟩,h7⟩:=h
 exact ⟨h1,h2,h3,h4,h5,h6,fun T hT=>by simpa using List.all_eq_true.mp h7 T hT⟩
def qju (n m:Str):Bool:=n==m||m=="SackError"
def qn8 (K:Fr0) (S:Addr) (TN:List Str) (n:Str):Bool:=match qbJ K n with
 | some C=>excIn K C bmV "ValueError.__new__"&&qgy K C S&&qlW K C&&kitOne K (.ref C) (.type "ValueError")==some true &&
  TN.all fun m=>match qbJ K m with
   | some Cm=>kitOne K (.ref C) (.ref Cm)==some (qju n m)
   | none=>false
 | none=>false
def qqe (K:Fr0) (RN TN:List Str):Bool:=match qbJ K "SackError" with
 | some S=>excIn K S bmV "ValueError.__new__"&&qgy K S S&&RN.all (qn8 K S TN)
 | none=>false
structure XT (K:Fr0) (mg:Str->Option Value) (RN TN:List Str):Prop where
 all:qqe K RN TN=true
 mgc:∀ n C,qbJ K n=some C->mg n=some (.ref C)
section
variable {K:Fr0} {mg:Str->Option Value} {RN TN:List Str}
theorem XT.sup (t:XT K mg RN TN):∃ S,qbJ K "SackError"=some S/\excIn K S bmV "ValueError.__new__"=true/\qgy K S S=true/\RN.all (qn8 K S TN)=true:=by
 have h:=t.all
 unfold qqe at h
 split at h
 ·rename_i S e
  simp only [Bool.and_eq_true] at h
  exact ⟨S,e,h.1.1,h.1.2,h.2⟩
 ·cases h
theorem XT.row (t:XT K mg RN TN) {S:Addr} (hS:qbJ K "SackError"=some S) {n:Str} (hn:RN.contains n=true):qn8 K S TN n=true:=by
 obtain ⟨S',e,_,_,h⟩:=t.sup
 rw [hS] at e
 cases e
 exact List.all_eq_true.mp h n (by simpa using hn)
theorem XT.cls (t:XT K mg RN TN) {n:Str} {C:Addr} (h:clR K RN n=some C):qbJ K n=some C/\∃ S,qbJ K "SackError"=some S/\excIn K C bmV "ValueError.__new__"=true/\qgy K C S=true/\XK6 K C/\kitOne K (.ref C) (.type "ValueError")=some true /\
  ∀ m∈TN,∃ Cm,qbJ K m=some Cm/\kitOne K (.ref C) (.ref Cm)=some (qju n m):=by
 unfold clR at h
 split at h
 ·rename_i hn
  obtain ⟨S,hS,_⟩:=t.sup
  have r:=t.row hS hn
  unfold qn8 at r
  rw [h] at r
  simp only [Bool.and_eq_true,beq_iff_eq] at r
  obtain ⟨⟨⟨⟨r1,r2⟩,r3⟩,r4⟩,r5⟩:=r
  refine ⟨h,S,hS,r1,r2,qn7 r3,r4,fun m hm => ?_⟩
  have:=List.all_eq_true.mp r5 m hm
  split at this
  ·rename_i Cm e
   exact ⟨Cm,e,by simpa using this⟩
  ·cases this
 ·cases h
theorem XT.has (t:XT K mg RN TN) {n:Str} (hn:RN.contains n=true):∃ C,clR K RN n=some C:=by
 obtain ⟨S,hS,_⟩:=t.sup
 have r:=t.row hS hn
 unfold qn8 at r
 split at r
 ·rename_i C e
  exact ⟨C,by unfold clR;rw [if_pos hn];exact e⟩
 ·cases r
end
def qqf (RN:List Str) (m:Str) (f:M D):M D:=bnd f fun d=>match d with
 | .exc n=>if RN.contains n then ret (.bl (m=="ValueError"||qju n m)) else fun _ => .bad
 | _=>fun _ => .bad
section
variable {X:Cx} {c:Fc} {a b e:Expr} {pos:Pos} {RN TN:List Str}
end
section
variable {P:Program} {w:World} {K:PySem.W.Frag} {mg:Str->Option Value} {base:Heap}
structure qlX (P:Program) (w:World) (K:PySem.W.Frag) (mg:Str->Option Value) (base:Heap) (k:Nat) (x:Str) (ps:List Str) (sp:Sp):Prop where
 ex:∃ f fd,qjs P w K mg base CX0 k f fd ps sp/\mg x=some (.ref f)/\PySem.W.keepIn K (.ref f)=true/\wF K fd ps []
end
end L2.Sk
namespace L2.Sk
open PySem PySem.Spec PyProof.Rows
section
variable {U:Env} {f g:M D} {l:M (List D)} {p q:MS} {RN:List Str}
theorem qfI (F:List D->R D):qkF RN F l U=match l U with | .ok (xs,U1)=>(match F xs with | .ok d => .ok (d,U1) | .exc x _=>(if RN.contains x.cls then .exc x U1 else .bad) | .bad => .bad) | .exc x U' => .exc x U' | .bad => .bad:=by
 simp only [qkF,bnd]
 cases l U with
 | ok z=>obtain ⟨z1,U1⟩:=z;cases F z1<;>rfl
 | exc x U'=>rfl
 | bad=>rfl
theorem qfJ (F:List D->R D):qfH F l U=match l U with | .ok (xs,U1)=>(match F xs with | .ok d => .ok (d,U1) | _ => .bad) | .exc x U' => .exc x U' | .bad => .bad:=by
 simp only [qfH,bnd]
 cases l U with
 | ok z=>obtain ⟨z1,U1⟩:=z;cases F z1<;>rfl
 | exc x U'=>rfl
 | bad=>rfl
theorem qfK (x:Str):qn4 x l U=match l U with | .ok (ds,U')=>(if qP ds.length then .exc ⟨x,.non⟩ U' else .bad) | .exc z U' => .exc z U' | .bad => .bad:=rfl
theorem qkG (m:Str):qqf RN m f U=match f U with | .ok (.exc n,U1)=>(if RN.contains n then .ok (.bl (m=="ValueError"||qju n m),U1) else .bad) | .ok _ => .bad | .exc x U' => .exc x U' | .bad => .bad:=by
 simp only [qqf,bnd]
 cases f U with
 | ok z =>
  obtain ⟨z1,U1⟩:=z
  cases z1<;>first | rfl | (dsimp only;split<;>rfl)
 | exc x U'=>rfl
 | bad=>rfl
theorem qhP (F:D->List D->Option D):qn6 F f l U=match f U with
  | .ok (.lst ds,U1)=>(match l U1 with | .ok (ys,U2)=>(match F (.lst ds) ys with | some d => .ok (d,U2) | none => .bad) | .exc x U' => .exc x U' | .bad => .bad)
  | .ok _ => .bad | .exc x U' => .exc x U' | .bad => .bad:=by
 simp only [qn6,bnd]
 cases f U with
 | ok z =>
  obtain ⟨z1,U1⟩:=z
  cases z1 with
  | lst ds =>
   show bnd l (fun ys=>lift (F (D.lst ds) ys)) U1=(match l U1 with | .ok (ys,U2)=>(match F (.lst ds) ys with | some d => .ok (d,U2) | none => .bad) | .exc x U' => .exc x U' | .bad => .bad)
   unfold bnd
   cases l U1 with
   | ok z=>obtain ⟨z2,U2⟩:=z;(dsimp only;cases F (.lst ds) z2<;>rfl)
   | exc x U'=>rfl
   | bad=>rfl
  | _=>rfl
 | exc x U'=>rfl
 | bad=>rfl
end
def unO (_:Nat) (c:Fc):Fc:={ c with O:=[],P:=[],B:=fun _=>True }
theorem Gr.unSame {c:Fc} {Z:St} {H H':Hp} {i:Nat} (g:Gr (unO i c).O Z H H'):jp H H':=fun b o h=>g.ext.at_ b o (fun j hj=>by cases hj) h
theorem Rep.un {K:Fr0} {c:Fc} {U:Env} {Z:St} {H:Hp} {i:Nat} (r:Rep K c U Z H) (_:i∈c.O):Rep K (unO i c) U Z H:=by
 have all:∀ b:Addr,Cn (unO i c) Z b:=fun b=>⟨trivial,fun j hj=>by cases hj⟩
 refine ⟨r.len,fun k d hk => ?_,fun j hj=>(by cases hj),fun k j a hk=>(by cases hk),⟨fun _ _=>trivial,r.b0.2⟩,r.kp,r.dm,fun j hj=>(by cases hj),fun j hj=>(by cases hj)⟩
 obtain ⟨v,h1,h2⟩:=r.val k d hk
 refine ⟨v,h1,.inr ⟨fun z=>(by cases z),?_⟩⟩
 rcases h2 with ⟨hk2,ds,a,xs,h3,h5,h6,h7⟩ | ⟨hk2,h3⟩
 ·subst h3 h5
  exact ⟨a,xs,rfl,all a,h6,IsL.ext Ext.refl (fun b _ _=>all b) h7⟩
 ·exact Is.ext Ext.refl (fun b _ _=>all b) h3
theorem Gr.un {c:Fc} {Z:St} {H H':Hp} {i:Nat} (g:Gr (unO i c).O Z H H'):Gr c.O Z H H' := .of_same g.unSame
theorem Rep.re {K:Fr0} {c:Fc} {U:Env} {Z:St} {H H':Hp} {i:Nat} (r:Rep K c U Z H) (_:i∈c.O) (_:Rep K (unO i c) U Z H') (g:Gr (unO i c).O Z H H'):Rep K c U Z H':=r.same g.unSame
open Classical in
noncomputable def qeh (f:M D):M D:=fun U=>match f U with
 | .ok (d,U')=>if imm d=true/\U'=U then .ok (d,U) else .bad
 | .exc x U'=>if U'=U then .exc x U else .bad
 | .bad => .bad
open Classical in
open Classical in
section
variable {X:Cx} {c:Fc} {e:Expr} {pos:Pos}
theorem qlY {i:Nat} {f:M D} (h:DE X (unO i c) e f) (ho:i∈c.O:=by exact of_decide_eq_true rfl):DE X c e (qeh f):=by
 obtain ⟨t,p,w⟩:=h
 refine ⟨t,p,fun U Z H Q r h=>w U Z H Q (r.un ho) ?_⟩
 unfold qeh at h
 cases ef:f U with
 | bad=>rw [ef] at h;exact h.elim
 | exc x U' =>
  rw [ef] at h
  simp only at h
  split at h
  ·rename_i e1
   subst e1
   exact fun H' r' g'=>h H' (r.re ho r' g') g'.un
  ·exact h.elim
 | ok q =>
  obtain ⟨d,U'⟩:=q
  rw [ef] at h
  simp only at h
  split at h
  ·rename_i e1
   obtain ⟨e1,e2⟩:=e1
   subst e2
   exact fun v H' r' i' g'=>h v H' (r.re ho r' g') (Is.imm e1 i') g'.un
  ·exact h.elim
def qra:List D->Option (List D)
 | [.int i,.int j]=>if decide (-(2 ^ 62)<=i)&&decide (i<2 ^ 62)&&decide (-(2 ^ 62)<=j)&&decide (j<2 ^ 62) then some (qc6 i (j-i).toNat) else none
 | _=>none
theorem XL2.un {i:Nat} {cl:Str->Option Addr} {E:XK} (L:XL2 X c cl E):XL2 X (unO i c) cl E:=⟨L.pass,L.wish⟩
def qkH (i n:Nat) (g:D->Env->Option Env) (b:MS):Nat->MS
 | 0,U=>match zD i U with
  | some ds=>if ds.length<=n then .ok (.nx U) else .bad
  | none => .bad
 | m + 1,U=>match zD i U with
  | some ds=>match ds[n-(m+1)]? with
   | none => .bad
   | some d=>match g d U with
    | none => .bad
    | some U1=>match b U1 with
     | .ok (.nx U2)=>qkH i n g b m U2
     | .ok (.ct U2)=>qkH i n g b m U2
     | .ok (.bk U2) => .ok (.nx U2)
     | .ok (.rt r U2) => .ok (.rt r U2)
     | .exc x U2 => .exc x U2
     | .bad => .bad
  | none => .bad
end
section
variable {U:Env} {f:M D} {t:M Bool} {n:M (List D)}
open Classical in
theorem qlZ:qeh f U=match f U with | .ok (d,U')=>(if imm d=true/\U'=U then .ok (d,U) else .bad) | .exc x U'=>(if U'=U then .exc x U else .bad) | .bad => .bad:=rfl
open Classical in
open Classical in
end
theorem qpv {f:M D} {U:Env} {d:D} (h:f U = .ok (d,U)) (hi:imm d=true):qeh f U = .ok (d,U):=by
 rw [qlZ,h]
 exact if_pos ⟨hi,rfl⟩
def qn9 (K:Fr0) (neg:Bool):R2:=fun x y H Q=>∃ d e ds A,Is K A H d x/\Is K A H e y/\sqD e=some ds/\qby d=true/\qby e=true/\Q (.bl (if neg then !((toPDs ds).any fun y=>PyData.eqv y (yJ d)) else (toPDs ds).any fun y=>PyData.eqv y (yJ d))) H
def inA (x y:D):Option D:=match sqD y with
 | some ds=>if qby x&&qby y then some (.bl ((toPDs ds).any fun y=>PyData.eqv y (yJ x))) else none
 | none=>none
def qpw (x y:D):Option D:=match sqD y with
 | some ds=>if qby x&&qby y then some (.bl (!(toPDs ds).any fun y=>PyData.eqv y (yJ x))) else none
 | none=>none
section
variable {X:Cx}
theorem v5 {d:D} (h:qby d=true):(yJ d).canLay0=true/\(yJ d).depth<=50:=by
 unfold qby at h
 rw [Bool.and_eq_true,decide_eq_true_eq] at h
 exact h
theorem qqg {k:Nat} (hr:vv k X.A):OpR X (compareOp .In) (qn9 X.K false):=by
 intro pins s Z H x y v u Q I rx ry h
 obtain ⟨d,e,ds,A,h1,h2,es,o1,o2,q⟩:=h
 obtain ⟨as,r1,_⟩:=yL I (qbb o1) h1 rx
 obtain ⟨bs,r2,_⟩:=yL I (qbb o2) h2 ry
 have c1:=(v5 o1).1
 have c2:=(v5 o2).1
 have u1:=(v5 o1).2
 have u:=hr.units
 cases e<;>simp only [sqD] at es<;>try (cases es;done)
 ·cases es
  exact SeqAt.in_tuple_reads r2 r1 (by simpa [yJ,PyData.canLay0] using c2) c1 (by omega) ⟨.bl _,H,I,rfl,by simpa using q⟩
 ·cases es
  exact SeqAt.in_list_reads r2 r1 (by simpa [yJ,PyData.canLay0] using c2) c1 (by omega) ⟨.bl _,H,I,rfl,by simpa using q⟩
theorem ql0 {k:Nat} (hr:vv k X.A):OpR X (compareOp .NotIn) (qn9 X.K true):=by
 intro pins s Z H x y v u Q I rx ry h
 obtain ⟨d,e,ds,A,h1,h2,es,o1,o2,q⟩:=h
 obtain ⟨as,r1,_⟩:=yL I (qbb o1) h1 rx
 obtain ⟨bs,r2,_⟩:=yL I (qbb o2) h2 ry
 have c1:=(v5 o1).1
 have c2:=(v5 o2).1
 have u1:=(v5 o1).2
 have u:=hr.units
 cases e<;>simp only [sqD] at es<;>try (cases es;done)
 ·cases es
  exact SeqAt.notIn_tuple_reads r2 r1 (by simpa [yJ,PyData.canLay0] using c2) c1 (by omega) ⟨.bl _,H,I,rfl,by simpa using q⟩
 ·cases es
  exact SeqAt.notIn_list_reads r2 r1 (by simpa [yJ,PyData.canLay0] using c2) c1 (by omega) ⟨.bl _,H,I,rfl,by simpa using q⟩
end
theorem qjv {K:Fr0}:OpS K qpw (qn9 K true):=by
 intro A H x y d v u Q hn ix iy e k
 unfold qpw at e
 split at e
 ·rename_i ds es
  obtain ⟨e1,e2⟩:=z5 e
  subst e2
  rw [Bool.and_eq_true] at e1
  exact ⟨x,y,ds,A,ix,iy,es,e1.1,e1.2,k _ H (jp.refl H) rfl⟩
 ·cases e
def qoa (x y:D):Option D:=(qmJ x y).or (qpw x y)
theorem ql1 {X:Cx} {k:Nat} (hr:vv k X.A):OpR X (compareOp .NotIn) (fun x y H Q=>rIn X.K true x y H Q\/qn9 X.K true x y H Q):=OpR.or qdS (ql0 hr)
theorem qjw {K:Fr0}:OpS K qoa (fun x y H Q=>rIn K true x y H Q\/qn9 K true x y H Q):=by
 intro A H x y d v u Q hn ix iy e k
 unfold qoa at e
 cases e1:qmJ x y with
 | some b=>rw [e1] at e;exact .inl (qlS A H x y d v u Q hn ix iy (by rw [e1];exact e) k)
 | none=>rw [e1] at e;exact .inr (qjv A H x y d v u Q hn ix iy e k)
section
variable {prog:Program} {w:World} {A:Around} {R:Result->Shared->Prop} {I:Addr} {fp wr:List Addr} {n:Nat} {P:Nat->Value->Prop} {St:Nat->Heap->Prop}
end
section
variable {prog:Program} {w:World} {A:Around} {E:Value->Shared->Prop} {s:Shared}
end
def qob:List D->Option (List (List Int))
 | []=>some []
 | .tup ts::r=>match wG ts,qob r with
  | some n,some ns=>some (n::ns)
  | _,_=>none
 | _=>none
def qpx (ns:List (List Int)) (i:Nat):List Int:=(ns[i]?).getD []
def qpy (ns:List (List Int)):Nat:=argBest (fun i j=>HT.lexLt (qpx ns i) (qpx ns j)) (ns.length-1)
def qqS:List D->Option D
 | [.lst ds]=>match qob ds with
  | some (n::ns)=>some (.tup ((qpx (n::ns) (qpy (n::ns))).map .int))
  | _=>none
 | _=>none
section
variable {X:Cx}
end
def qqh (x:D) (ys:List D):Option D:=match x,ys with
 | .lst ds,[d]=>if ds.all qby&&qby d then (ds.findIdx? fun e=>PyData.eqv (yJ e) (yJ d)).map fun j => .int j else none
 | _,_=>none
section
variable {prog:Program} {w:World} {A:Around} {E:Value->Shared->Prop} {s:Shared}
end
section
variable {X:Cx} {c:Fc} {a b e:Expr} {pos:Pos} {es:List Expr} {kk:Nat} {tp:Pos}
end
section
variable {X:Cx} {c:Fc} {a b e:Expr} {pos:Pos} {es:List Expr} {kk:Nat} {tp:Pos}
def qoc:List D->Option (List D)
 | [.lst xs]=>some (u7 0 xs)
 | _=>none
def qod (f:M (List D)):M (List D):=bnd f fun ds=>lift (qoc ds)
end
section
variable {X:Cx} {c:Fc} {pos:Pos}
end
section
variable {prog:Program} {w:World} {A:Around} {E:Value->Shared->Prop} {s:Shared}
end
theorem uM.laid {A:Around} {H:Hp} {p:Addr} {o:HO} (x:uM A H) (h:H p=none):uM A (upd H p o):=by
 obtain ⟨e,oe,u,vs,h1,h2,h3⟩:=x
 exact ⟨e,oe,u,vs,h1,by rw [qu (qH h2 h)];exact h2,h3⟩
theorem uM.rep {K:Fr0} {c:Fc} {A:Around} (x:uM A c.H0) (hio:∀ a,¬ c.Io a) (U:Env) (Z:St) (H:Hp) (r:Rep K c U Z H):uM A H:=by
 obtain ⟨e,oe,u,vs,h1,h2,h3⟩:=x
 exact ⟨e,oe,u,vs,h1,r.kp _ _ h2 (hio e),h3⟩
end L2.Sk
namespace L2
open PySem PySem.Spec PyProof.Rows L2.Sk
structure qqT (P:Program) (w:World) (K:PySem.W.Frag) (tg:Expr) (J:It) (fp:List Addr) (it:Addr) (tn:Nat->Heap->Prop):Prop where
 mem:it∈fp
 obj:∀ i h,tn i h->∀ b∈fp,∃ o,h.get? b=some o/\∀ v,o.data ≠ .cell v
 keep:∀ i h h',tn i h->(∀ b∈fp,∀ o,h.get? b=some o->h'.get? b=some o)->tn i h'
 item:∀ (X:Cx),X.prog=P->X.w=w->X.K=K->uM X.A X.H₀->∀ (i:Nat) (pins:List (Addr×Obj)) (s:Shared) (Z:St) (H:Hp) (E:Value->Shared->Prop),Inv X pins Z H s->(∀ b∈fp,qeK X pins H b)->tn i s.heap->J.go i H ->
  wpAny (model P w) X.A (pyNext (.ref it)) (fun r s1=>∃ u,r=some u /\
   wpAny (model P w) X.A (letOwnedTupleGo tg (.ref it) u) (fun _ s2=>∃ x H',Inv X pins Z H' s2/\jI x u/\J.yld i H x H'/\tn (i+1) s2.heap/\∀ b∈fp,H' b=none) E s1) E s
 done:∀ (X:Cx),X.prog=P->X.w=w->X.K=K->uM X.A X.H₀->∀ (i:Nat) (pins:List (Addr×Obj)) (s:Shared) (Z:St) (H:Hp) (E:Value->Shared->Prop),Inv X pins Z H s->(∀ b∈fp,qeK X pins H b)->tn i s.heap->J.stop i H ->
  wpAny (model P w) X.A (pyNext (.ref it)) (fun r s1=>r=none/\Inv X pins Z H s1) E s
 self:∀ (A:Around) (i:Nat) (s:Shared) (Q:Value->Shared->Prop) (E:Value->Shared->Prop),tn i s.heap->Q (.ref it) s->wpAny (model P w) A (pyIter (.ref it)) Q E s
section
variable {X:Cx} {tg:Expr}
end
end L2
namespace L2.Sk
open PySem PySem.Spec PyProof.Rows
section
variable {X:Cx} {tg iter elt:Expr} {ifs:List Expr} {scope:Scope} {pos:Pos} {wi:TI} {N':List Str} {nt:Nat} {fr:List Nat}
end
section
variable {X:Cx} {c:Fc} {tg a b e:Expr} {pos:Pos}
end
theorem wL.units {k:Nat} {A:Around} (r:wL k A):A.units+64<cLine:=by have:=r.un;omega
section
variable {X:Cx} {c:Fc} {e:Expr} {es:List Expr} {pos:Pos}
theorem qjx {k:Nat} {f:Addr} {fd:FuncData} {ps:List Str} {F:List D->R D} {x:Str} {p:Pos} {g:M (List D)} (hal:∀ U Z H,Rep X.K c U Z H->uM X.A H)
  (G:qjs X.prog X.w X.K X.mg X.base CX0 k f fd ps (spD X.K F)) (hr:wL k X.A) (hg:Gl X x) (hm:X.mg x=some (.ref f)) (hk:PySem.W.keepIn X.K (.ref f)=true) (hb:wF X.K fd ps [])
  (ha:DA X c (e::es) g) (hd:(x==("__debug__":Str))=false:=by decide) (he:starEach (e::es) X.env=(false,eval e X.env)::starEach es X.env:=by rfl) (hpl:(backTo pos (starEach es X.env)).any (·.1)=false:=by rfl):DE X c (.Call (.Name x p) (e::es) [] pos) (qg F g):=by
 obtain ⟨t,pa,w⟩:=ha
 refine ⟨_,qjt (E:=fun _ _ _=>False) G hr hg hm hk hb .nil (fun _ _ _ _ _ _ _ z=>z.elim) pa hd he hpl,fun U Z H Q r h=>w U Z H _ r (WpL.bnd h fun ds U1 vs H1 r1 i1 g1 h1=>⟨hal _ _ _ r1,?_⟩)⟩
 rw [List.append_nil]
 refine ⟨ds,Cn c Z,i1,r1.tb,?_⟩
 cases ef:F ds with
 | bad=>simp only [ef] at h1;exact h1.elim
 | exc z U'=>simp only [ef] at h1;exact h1.elim
 | ok d =>
  simp only [ef] at h1
  exact fun v H' sm i=>h1 v H' (r1.same sm) (Is.ext Ext.refl (fun a ha _=>ha.elim id r1.new) i) (.of_same sm)
end
section
variable {prog:Program} {w:World} {A:Around} {R:Result->Shared->Prop} {I:Addr} {fp wr:List Addr} {n:Nat} {P:Nat->Value->Prop} {St:Nat->Heap->Prop} {dv:Value}
end
section
variable {prog:Program} {w:World} {A:Around} {E:Value->Shared->Prop} {s:Shared}
end
section
variable {prog:Program} {w:World} {A:Around} {R:Result->Shared->Prop} {I:Addr} {fp wr:List Addr} {n:Nat} {P:Nat->Value->Prop} {St:Nat->Heap->Prop} {dv:Value}
end
section
variable {prog:Program} {w:World} {A:Around} {E:Value->Shared->Prop} {s:Shared}
end
section
variable {prog:Program} {w:World} {A:Around} {E:Value->Shared->Prop} {s:Shared}
end
section
variable {X:Cx}
end
section
variable {X:Cx} {c:Fc} {a b e:Expr} {pos:Pos}
def qkI (F:List D->List D->Option D) (f g:M (List D)):M D:=bnd f fun xs=>bnd g fun zs=>lift (F xs zs)
def CallKS (K:Fr0) (F:List D->List D->Option D) (r:List V->List V->Hp->VK->Prop):Prop:=∀ A H xs zs d vs ws (Q:VK),(∀ a,H a=none->A a)->IsL K A H xs vs->IsL K A H zs ws->F xs zs=some d->(∀ u H',jp H H'->Is K A H' d u->Q u H')->r vs ws H Q
end
def qqU (xs zs:List D):Option D:=match xs,zs with
 | [.lst ds],[z]=>(wG ds).map fun ns=>if ns=[] then z else .int (qhK ns)
 | _,_=>none
def slB (x:D) (lo hi:Option Int):Option D:=match x with
 | .tup ds=>some (.tup (qeL ds lo hi))
 | .lst ds=>some (.lst (qeL ds lo hi))
 | _=>none
def qhQ (f:M D) (g k:M (Option Int)):M D:=bnd f fun d=>bnd g fun l=>bnd k fun u=>lift (slB d l u)
section
variable {X:Cx} {c:Fc} {a b e:Expr} {pos p2:Pos}
theorem qah {lo hi:Option Expr} {f:M D} {g k:M (Option Int)} (ha:DE X c a f) (hl:DO X c lo g) (hu:DO X c hi k):DE X c (.Subscript a (.Slice lo hi none p2) pos) (qhQ f g k):=by
 obtain ⟨ta,pa,wa⟩:=ha
 obtain ⟨tl,pl,wl⟩:=hl
 obtain ⟨tu,pu,wu⟩:=hu
 refine ⟨_,qiZ (SlR.or qnF qln) pa pl pu,fun U Z H Q r h=>wa U Z H _ r (Wp.bnd h fun d U1 v H1 r1 i1 g1 h1 => ?_)⟩
 refine wl U1 Z H1 _ r1 (fun l U2 e2 H2 r2 g2 => ?_) (fun x U2 e2 H2 r2 g2 => ?_) (fun e2 => ?_)
 ·rw [qkh e2] at h1
  have h1:=h1.gr g2
  refine wu U2 Z H2 _ r2 (fun u U3 e3 H3 r3 g3 => ?_) (fun x U3 e3 H3 r3 g3 => ?_) (fun e3 => ?_)
  ·rw [qkh e3] at h1
   obtain ⟨d',e4,h4⟩:=h1.lift
   have i3:=g3.is (g2.is i1)
   clear h1
   cases d<;>simp only [slB] at e4<;>try (cases e4;done)
   ·rename_i ds
    cases e4
    obtain ⟨a,xs,rfl,ta,il⟩:=i3
    refine .inl ?_
    by_cases hw:HT.sIx xs.length 0 l=0/\HT.sIx xs.length xs.length u=xs.length
    ·refine .inl ⟨a,xs,rfl,ta.sq,hw,h4 _ H3 r3 ⟨a,xs,rfl,ta,?_⟩ g3⟩
     have e5:qeL ds l u=ds:=by
      unfold qeL
      rw [<- il.length,hw.1,hw.2]
      simp [il.length]
     rw [e5];exact il
    ·refine .inr ⟨a,xs,rfl,ta.sq,hw,fun p hp=>h4 _ _ (r3.laid hp _) ⟨p,qiK xs l u,rfl,.inl qt,?_⟩ (g3.trans (.of_same (qy hp _)))⟩
     refine IsL.ext (Ext.of_same (qy hp _)) (fun _ h _=>h) ?_
     unfold qeL qiK
     rw [<- il.length]
     exact IsL.take _ (IsL.drop _ il)
   ·rename_i ds
    cases e4
    obtain ⟨a,xs,rfl,hA,ta,il⟩:=i3
    refine .inr ⟨a,xs,rfl,.inl (.inl ta),fun p hp=>h4 _ _ (r3.laid hp _) ⟨p,qiK xs l u,rfl,r3.new hp,qt,?_⟩ (g3.trans (.of_same (qy hp _)))⟩
    refine IsL.ext (Ext.of_same (qy hp _)) (fun _ h _=>h) ?_
    unfold qeL qiK
    rw [<- il.length]
    exact IsL.take _ (IsL.drop _ il)
  ·unfold bnd at h1;rw [e3] at h1;exact h1 H3 r3 g3
  ·unfold bnd at h1;rw [e3] at h1;exact h1
 ·unfold bnd at h1;rw [e2] at h1;exact h1 H2 r2 g2
 ·unfold bnd at h1;rw [e2] at h1;exact h1
theorem Wp.bndN {K:Fr0} {Z:St} {H:Hp} {Q:VK} {f:M D} {k:D->M (List D)} {U:Env} {Q':VK} (h:WpN K c Z H Q (Sk.bnd f k U)) (hQ:∀ d U' v H',Rep K c U' Z H'->Is K (Cn c Z) H' d v->Gr c.O Z H H'->WpN K c Z H' Q (k d U')->Q' v H'):Wp K c Z H Q' (f U):=by
 unfold Sk.bnd at h
 cases e:f U with
 | ok p=>rw [e] at h;exact fun v H' hr hi hg=>hQ p.1 p.2 v H' hr hi hg (h.gr hg)
 | exc x U'=>rw [e] at h;exact h
 | bad=>rw [e] at h;exact h
def ql2 (x y:D):Option (List D):=match x,y with
 | .lst ds,.int k=>if (decide (-(2 ^ 62)<=k)&&decide (k<2 ^ 62))&&(qP (ds.length*k.toNat)&&immL ds) then some (List.replicate k.toNat ds).flatten else none
 | _,_=>none
def qoe (f g:M D):M (List D):=bnd f fun x=>bnd g fun y=>lift (ql2 x y)
theorem qjy {K:Fr0} {Z:St} {H:Hp} {Q:VK} {o:Option (List D)} {U:Env} (h:WpN K c Z H Q (lift o U)):∃ ds,o=some ds/\WpN K c Z H Q (.ok (ds,U)):=by
 cases o with
 | none=>exact h.elim
 | some d=>exact ⟨d,rfl,h⟩
theorem qof {f g:M D} (ha:DE X c a f) (hb:DE X c b g):DN X c (.BinOp a .Mult b pos) (qoe f g):=by
 obtain ⟨ta,pa,wa⟩:=ha
 obtain ⟨tb,pb,wb⟩:=hb
 refine ⟨_,qm9 qkf pa pb,fun U Z H Q r h=>wa U Z H _ r (Wp.bndN h fun x U1 v H1 r1 i1 g1 h1=>wb U1 Z H1 _ r1 (Wp.bndN h1 fun y U2 u H2 r2 i2 g2 h2 => ?_))⟩
 obtain ⟨ds',e,h3⟩:=qjy h2
 have i1':=g2.is i1
 unfold ql2 at e
 split at e
 ·rename_i ds k
  obtain ⟨p,xs,rfl,hA,hp,il⟩:=i1'
  have iu:u=V.int k:=i2
  subst iu
  split at e
  ·rename_i hb
   simp only [Bool.and_eq_true,decide_eq_true_eq] at hb
   obtain ⟨⟨b1,b2⟩,b3,b4⟩:=hb
   have b3:ds.length*k.toNat<=sizeLine:=of_decide_eq_true b3
   cases e
   refine ⟨p,k,xs,rfl,rfl,hp,by omega,by omega,by rw [il.length];exact b3,fun q hq => ?_⟩
   exact h3 q _ _ hq (r2.laid hq _) (r2.apart hq) qt trivial (IsL.ext (Ext.of_same (qy hq _)) (fun _ h _=>h) (IsL.rep (IsL.imm b4 il) _)) (.of_same (qy hq _))
  ·cases e
 ·cases e
def qqV (f:M D):M (List D):=bnd f fun x=>lift (match x with
 | .lst ds=>if immL ds then some ds else none
 | .tup ds=>if immL ds then some ds else none
 | _=>none)
def qhR (i:Nat) (f:M D):M D:=fun U=>match zD i U with
 | none => .bad
 | some _=>(bnd f fun d U=>match d,zD i U with
  | .lst es,some ds=>if immL es&&qP (ds.length+es.length) then .ok (.non,U.set i (some (.lst (ds++es)))) else .bad
  | _,_ => .bad) U
def qqi (f:M (List D)):M (List D):=fun U=>match f U with
 | .ok ([.tup _],_)=>qee f U
 | _=>qod f U
end
section
variable {U:Env} {f g:M D} {l k:M (List D)}
theorem qoW (F:List D->List D->Option D):qkI F l k U=match l U with | .ok (xs,U1)=>(match k U1 with | .ok (zs,U2)=>(match F xs zs with | some d => .ok (d,U2) | none => .bad) | .exc x U' => .exc x U' | .bad => .bad) | .exc x U' => .exc x U' | .bad => .bad:=by
 simp only [qkI,bnd]
 cases l U with
 | ok z =>
  obtain ⟨z1,U1⟩:=z
  dsimp only
  cases k U1 with
  | ok z=>obtain ⟨z2,U2⟩:=z;(dsimp only;cases F z1 z2<;>rfl)
  | exc x U'=>rfl
  | bad=>rfl
 | exc x U'=>rfl
 | bad=>rfl
theorem qog:qoe f g U=match f U with | .ok (x,U1)=>(match g U1 with | .ok (y,U2)=>(match ql2 x y with | some ds => .ok (ds,U2) | none => .bad) | .exc x U' => .exc x U' | .bad => .bad) | .exc x U' => .exc x U' | .bad => .bad:=by
 simp only [qoe,bnd]
 cases f U with
 | ok z =>
  obtain ⟨z1,U1⟩:=z
  dsimp only
  cases g U1 with
  | ok z=>obtain ⟨z2,U2⟩:=z;(dsimp only;cases ql2 z1 z2<;>rfl)
  | exc x U'=>rfl
  | bad=>rfl
 | exc x U'=>rfl
 | bad=>rfl
theorem qoh (i:Nat):qhR i f U=match zD i U with
  | none => .bad
  | some _=>(match f U with | .ok (d,U1)=>(match d,zD i U1 with | .lst es,some ds=>(if immL es&&qP (ds.length+es.length) then .ok (.non,U1.set i (some (.lst (ds++es)))) else .bad) | _,_ => .bad) | .exc x U' => .exc x U' | .bad => .bad):=by
 unfold qhR
 cases zD i U with
 | none=>rfl
 | some z =>
  simp only [bnd]
  cases f U with
  | ok z=>obtain ⟨z1,U1⟩:=z;rfl
  | exc x U'=>rfl
  | bad=>rfl
theorem qqj (p q:M (Option Int)):qhQ f p q U=match f U with | .ok (d,U1)=>(match p U1 with | .ok (l,U2)=>(match q U2 with | .ok (u,U3)=>(match slB d l u with | some r => .ok (r,U3) | none => .bad) | .exc x U' => .exc x U' | .bad => .bad) | .exc x U' => .exc x U' | .bad => .bad) | .exc x U' => .exc x U' | .bad => .bad:=by
 simp only [qhQ,bnd]
 cases f U with
 | ok z =>
  obtain ⟨z1,U1⟩:=z
  dsimp only
  cases p U1 with
  | ok z =>
   obtain ⟨z2,U2⟩:=z
   dsimp only
   cases q U2 with
   | ok z=>obtain ⟨z3,U3⟩:=z;(dsimp only;cases slB z1 z2 z3<;>rfl)
   | exc x U'=>rfl
   | bad=>rfl
  | exc x U'=>rfl
  | bad=>rfl
 | exc x U'=>rfl
 | bad=>rfl
end
section
variable {X:Cx} {c:Fc} {e:Expr} {es:List Expr} {pos:Pos}
theorem dC {k j:Nat} {ps:List Str} {F:List D->R D} {x:Str} {p:Pos} {g:M (List D)} (C:qC X.prog X.w X.K X.mg X.base k x ps (spD X.K F)) (hr:vv j X.A) (ha:DA X c (e::es) g)
  (hk:k<=j:=by decide) (hg:Gl X x:=by rfl) (hd:(x==("__debug__":Str))=false:=by decide) (he:starEach (e::es) X.env=(false,eval e X.env)::starEach es X.env:=by rfl) (hpl:(backTo pos (starEach es X.env)).any (·.1)=false:=by rfl):DE X c (.Call (.Name x p) (e::es) [] pos) (qg F g):=by
 obtain ⟨f,fd,G,m,kk,b⟩:=C.ex
 exact qlE G (hr.mono hk) hg m kk b ha hd he hpl
theorem nC {k j:Nat} {ps:List Str} {F:List D->R D} {x:Str} {p:Pos} {g:M (List D)} (C:qC X.prog X.w X.K X.mg X.base k x ps (spD X.K F)) (hr:vv j X.A) (ha:DA X c (e::es) g)
  (hk:k<=j:=by decide) (hg:Gl X x:=by rfl) (hd:(x==("__debug__":Str))=false:=by decide) (he:starEach (e::es) X.env=(false,eval e X.env)::starEach es X.env:=by rfl) (hpl:(backTo pos (starEach es X.env)).any (·.1)=false:=by rfl):DN X c (.Call (.Name x p) (e::es) [] pos) (qhu F g):=by
 obtain ⟨f,fd,G,m,kk,b⟩:=C.ex
 exact qlL G (hr.mono hk) hg m kk b ha hd he hpl
theorem iC {k j i:Nat} {ps:List Str} {F:List D->List D->R (D×List D)} {x y:Str} {p p1:Pos} {g:M (List D)} (C:qC X.prog X.w X.K X.mg X.base k x ps (qkr X.K F)) (hr:vv j X.A) (ha:DA X c es g)
  (hk:k<=j:=by decide) (hg:Gl X x:=by rfl) (ho:i∈c.O:=by exact of_decide_eq_true rfl) (hN:X.N[i]? = some y:=by rfl) (hv:Vis X.env.scope y:=by first | exact Or.inl rfl | exact Or.inr (Or.inl rfl) | exact Or.inr (Or.inr rfl)) (hdy:(y==("__debug__":Str))=false:=by decide) (hcd:(y==("__classdict__":Str))=false:=by decide)
  (hd:(x==("__debug__":Str))=false:=by decide) (he:starEach (.Name y p1::es) X.env=(false,eval (.Name y p1) X.env)::starEach es X.env:=by rfl) (hpl:(backTo pos (starEach es X.env)).any (·.1)=false:=by rfl):DE X c (.Call (.Name x p) (.Name y p1::es) [] pos) (qF F i g):=by
 obtain ⟨f,fd,G,m,kk,b⟩:=C.ex
 exact qhp G (hr.mono hk) hg m kk b ha ho hN hv hdy hcd hd he hpl
theorem pC {k j:Nat} {ps:List Str} {F:List D->R D} {x:Str} {p:Pos} {g:M (List D)} {cl:Str->Option Addr} (C:qlU X.prog X.w X.K X.mg X.base k x ps (spX X.K cl F)) (hr:vv j X.A) (ha:DA X c (e::es) g)
  (hk:k<=j:=by decide) (hg:Gl X x:=by rfl) (hd:(x==("__debug__":Str))=false:=by decide) (he:starEach (e::es) X.env=(false,eval e X.env)::starEach es X.env:=by rfl) (hpl:(backTo pos (starEach es X.env)).any (·.1)=false:=by rfl):DE X c (.Call (.Name x p) (e::es) [] pos) (qfH F g):=by
 obtain ⟨f,fd,G,m,kk,b⟩:=C.ex
 exact qjr G (hr.mono hk) hg m kk b ha hd he hpl
theorem lC {k j:Nat} {ps:List Str} {F:List D->R D} {x:Str} {p:Pos} {g:M (List D)} (hal:∀ U Z H,Rep X.K c U Z H->uM X.A H) (C:qlX X.prog X.w X.K X.mg X.base k x ps (spD X.K F)) (hr:wL j X.A) (ha:DA X c (e::es) g)
  (hk:k<=j:=by decide) (hg:Gl X x:=by rfl) (hd:(x==("__debug__":Str))=false:=by decide) (he:starEach (e::es) X.env=(false,eval e X.env)::starEach es X.env:=by rfl) (hpl:(backTo pos (starEach es X.env)).any (·.1)=false:=by rfl):DE X c (.Call (.Name x p) (e::es) [] pos) (qg F g):=by
 obtain ⟨f,fd,G,m,kk,b⟩:=C.ex
 exact qjx hal G (hr.mono hk) hg m kk b ha hd he hpl
theorem gI {x:Str} {i:Int} (h:∃ t,X.mg x=some (.int i t)) (hg:Gl X x:=by rfl) (hd:(x==("__debug__":Str))=false:=by decide):DE X c (.Name x pos) (ret (.int i)):=by
 obtain ⟨t,h⟩:=h
 exact qhc (v := .int i) (d := .int i) hg h ⟨_,rfl⟩ (fun _ _=>rfl) hd
theorem gT {x:Str} {ns:List Int} (h:∃ a,X.mg x=some (.ref a)/\qmK X.K a ns) (hg:Gl X x:=by rfl) (hd:(x==("__debug__":Str))=false:=by decide):DE X c (.Name x pos) (ret (.tup (ns.map .int))):=by
 obtain ⟨a,h1,h2⟩:=h
 exact qjq hg h1 h2 hd
end
theorem nd (N:List Str) (h:N.Nodup:=by decide +kernel):N.Nodup:=h
theorem cs {X:Cx} (N N':List Str) (nt:Nat) (fr:List Nat) (outer:Scope) {scope:Scope} (h0:scope.kind = .function:=by rfl) (h1:∀ y∈scope.names,y.2 ≠ .cell:=by decide +kernel) (h2:∀ y∈scope.names,y.2 = .local->scope.names.lookup y.1=some .local:=by decide +kernel)
  (h3:∀ y∈scope.names,y.2 = .free->outer.names.lookup y.1=some .cell:=by decide +kernel) (h4:N'.length=nt+fr.length:=by rfl) (h5:∀ p∈fr.zipIdx,N'[nt+p.2]? = N[p.1]? /\ ((N[p.1]?).bind fun x=>scope.names.lookup x)=some .free:=by decide +kernel)
  (h6:X.env.scope=outer:=by rfl) (h7:X.N=N:=by rfl):CompScope X scope N' nt fr:=qlM.ok (outer:=outer) (N:=N) ⟨h0,h1,h2,h3,h4,h5⟩ h6 h7
theorem f0 {c:Fc} {nt:Nat} (fr O:List Nat) (e:c.O=O:=by rfl) (h:∀ j∈fr,j ∉ O:=by decide):qlC c nt fr none:=fun j hj=>by rw [e];exact h j hj
theorem f1 {c:Fc} (nt:Nat) (fr O:List Nat) (i j:Nat) (e:c.O=O:=by rfl) (h1:j∈O:=by decide) (h2:nt<=i:=by decide) (h3:fr[i-nt]? = some j:=by rfl) (h4:∀ p∈fr.zipIdx,nt+p.2≠i->p.1 ∉ O:=by decide):qlC c nt fr (some (i,j)) :=
 qlO (by rw [e];exact h1) h2 h3 (by rw [e];exact h4)
section
variable {X:Cx} {c:Fc}
end
end L2.Sk
namespace L2.Sk
open PySem PySem.Spec PyProof.Rows
def qjz:V->List V->Hp->VK->Prop:=fun x vs H Q=>∃ l xs y,x = .ref l/\vs=[.int 0,y]/\H l=some (.lst xs)/\xs.length<sizeLine/\Q .non (upd H l (.lst (y::xs)))
theorem qgz {X:Cx}:MtM X "list.insert" qjz:=by
 intro pins s Z H x vs v us Q I rx rv h
 obtain ⟨l,xs,y,rfl,rfl,hH,hz,q⟩:=h
 cases rx
 obtain ⟨u0,u,rfl,r0,ru⟩:=rv.two
 obtain ⟨tk,rfl⟩:=r0
 obtain ⟨z,its,n,r,hl,e⟩:=I.lstM hH
 refine call_meets PySem.F.slot_list_insert ⟨_,e,rfl⟩ PySem.F.entry_list_insert (PySem.F.args_list_insert_3 _ _ _) (PySem.AutoSeq1.list_insert_list_int_val_1 l its.toArray n 0 _ u (by decide) (by rw [sT_];omega)) ⟨e,?_⟩
 refine ⟨.non,_,I.lset (its':=u::its) (ys:=y::xs) hH e ?_ (.cons ru r) ?_,rfl,q⟩
 ·simp
 ·rw [lC_]
  omega
section
variable {X:Cx} {c:Fc} {a b e:Expr} {pos:Pos}
def u8 (i:Nat) (f:M D):M D:=fun U=>match zD i U with
 | none => .bad
 | some _=>(bnd f fun d U=>match zD i U with
  | some ds=>if qP (ds.length+1) then .ok (.non,U.set i (some (.lst (d::ds)))) else .bad
  | none => .bad) U
theorem qhS {i:Nat} {x:Str} {p1 apos cp:Pos} {cj:Nat} {f:M D} (he:DE X c e f) (ho:i∈c.O:=by exact of_decide_eq_true rfl) (hN:X.N[i]? = some x:=by rfl) (hv:Vis X.env.scope x:=by first | exact Or.inl rfl | exact Or.inr (Or.inl rfl) | exact Or.inr (Or.inr rfl)) (hd:(x==("__debug__":Str))=false:=by decide) (hcd:(x==("__classdict__":Str))=false:=by decide)
  (hbase:attributeBase (.Name x p1) "insert" X.env (eval (.Name x p1) X.env)=eval (.Name x p1) X.env:=by rfl)
  (hfew:((backTo pos (starEach [.Constant (.int 0) cj cp,e] X.env)).all (fun x => !x.1)&&(backToKw pos (keywordEach [] X.env)).all (fun x=>x.1.isSome)
   && decide ([Expr.Constant (.int 0) cj cp,e].length+([]:List Keyword).length+(if ([]:List Keyword).isEmpty then 0 else 1)<30))=true:=by rfl)
  (hline:(apos.endLine==pos.line)=true:=by rfl) (hs:starEach [.Constant (.int 0) cj cp,e] X.env=(false,eval (.Constant (.int 0) cj cp) X.env)::starEach [e] X.env:=by rfl) (hs2:starEach [e] X.env=(false,eval e X.env)::starEach [] X.env:=by rfl) (hplain:(backTo pos (starEach [e] X.env)).any (·.1)=false:=by rfl) :
  DE X c (.Call (.Attribute (.Name x p1) "insert" apos) [.Constant (.int 0) cj cp,e] [] pos) (u8 i f):=by
 obtain ⟨t,p,w⟩:=he
 refine ⟨_,qns PySem.F.plainAttrs_list PySem.F.slot_list_insert PySem.F.type_list_insert qgz (w9 hN hv hd hcd) (u3 qj9 (u3 p qcK hs2) hs) hbase hfew hline hs hplain,fun U Z H Q r h => ?_⟩
 unfold u8 at h
 cases e0:zD i U with
 | none=>rw [e0] at h;exact h.elim
 | some ds0 =>
  simp only [e0] at h
  obtain ⟨l,xs0,_,hl,hH,_⟩:=r.getLO ho e0
  refine ⟨.ref l,hl,.inl ⟨rfl,xs0,.inl (.inl hH)⟩,w U Z H _ r (Wp.bnd h fun d U1 v H1 r1 i1 g1 h1 => ?_)⟩
  cases e1:zD i U1 with
  | none=>simp only [e1] at h1;exact h1.elim
  | some ds =>
   simp only [e1] at h1
   by_cases hb:qP (ds.length+1)=true
   ·rw [if_pos hb] at h1
    obtain ⟨l',xs,him,hl',hH',il⟩:=r1.getLO ho e1
    rw [hl] at hl'
    cases hl'
    have hsz:ds.length+1<=sizeLine:=of_decide_eq_true hb
    have ext:Ext (Cn c Z) H1 (upd H1 l (.lst (v::xs))):=⟨fun b us hb=>zM (w8 hb hH' (by intro z;cases z)) hb,fun b o u hb=>zM (w8 hb hH' (by intro z;cases z)) hb,fun b o hb hq=>zM (fun e=>hb.2 i ho (by rw [hl,e])) hq⟩
    obtain ⟨r2,g2⟩:=r1.io (H':=upd H1 l (.lst (v::xs))) (bs:=d::ds) ho hl (fun b o hb ho=>zM hb ho) qt trivial
     ⟨v,xs,rfl,Is.ext ext (fun _ h _=>h) i1,IsL.ext ext (fun _ h _=>h) il⟩ (fun b hb=>qeU hb)
    exact ⟨l,xs,v,rfl,rfl,hH',by rw [il.length];omega,h1 _ _ r2 rfl g2⟩
   ·rw [if_neg hb] at h1;exact h1.elim
def qjA (f:M (List D)):M (List D):=bnd f fun ds=>lift (if qP ds.length then some ds else none)
theorem ql3 {es:List Expr} {f:M (List D)} (h:DA X c es f):DN X c (.List es pos) (qjA f):=by
 obtain ⟨t,p,w⟩:=h
 refine ⟨_,qg3 p,fun U Z H Q r h=>w U Z H _ r (WpL.bndN h fun ds U1 vs H1 r1 i1 g1 h1 => ?_)⟩
 by_cases hb:qP ds.length=true
 ·rw [if_pos hb] at h1
  refine ⟨by rw [i1.length];exact of_decide_eq_true hb,fun p hp => ?_⟩
  exact h1 p vs _ hp (r1.laid hp _) (r1.apart hp) qt trivial (IsL.ext (Ext.of_same (qy hp _)) (fun b h hs=>⟨h,fun e=>by rw [e,hp] at hs;cases hs⟩) i1) (.of_same (qy hp _))
 ·rw [if_neg hb] at h1;exact h1.elim
end
theorem qdd:Slot "reversed" "__init__" "object.__init__" :=
 .of (owner:="object") (n:="__init__") (by rw [typeLookup_type,builtinLookup_eq_fast];kernel_rfl) (by decide +kernel) (by decide +kernel) (by decide +kernel) (by first | exact Or.inl (by kernel_rfl) | exact Or.inr (by kernel_rfl)) (by rw [isSubtype_type];kernel_rfl)
theorem qgA:TypeCalled "reversed" "reversed.__new__" "object.__init__":=⟨by decide +kernel,F.create_reversed,⟨_,_,F.mro_reversed⟩,F.made_reversed,F.plain_reversed_new,F.sub_reversed_self,qdd⟩
theorem jK:Slot "reversed" "__next__" "reversed.__next__" :=
 .of (owner:="reversed") (n:="__next__") (by rw [typeLookup_type,builtinLookup_eq_fast];kernel_rfl) (by decide +kernel) (by decide +kernel) (by decide +kernel) (by first | exact Or.inl (by kernel_rfl) | exact Or.inr (by kernel_rfl)) (by rw [isSubtype_type];kernel_rfl)
theorem wA:entryFor table "reversed.__next__"=some Builtin.«reversed.__next__»:=entryFor_of_tree (by kernel_rfl)
theorem qkJ:typeLookup (.type "tuple") (Str.ofString "__reversed__")=pure none:=by rw [typeLookup_type,builtinLookup_eq_fast];kernel_rfl
theorem qde:typeLookup (.type "tuple") (Str.ofString "__getitem__")=pure (some (.builtin "tuple.__getitem__")):=by rw [typeLookup_type,builtinLookup_eq_fast];kernel_rfl
theorem qfL:isSubtype (.type "tuple") (.type "dict")=pure false:=by rw [isSubtype_type];kernel_rfl
theorem qhT {l:Addr} {xs:Array Value} (hz:xs.size<=sizeLine):Meets (Builtin.«reversed.__new__» ⟨[.type "reversed",.ref l],[]⟩) (fun _ R s=>s.heap.IsTuple l xs /\
   R (.ok (.ret (.ref s.heap.objs.size))) { s with heap:=s.heap.push { cls := .type "reversed",data := .fields #[.ref l,rawInt ((xs.size:Int)-1)] },toks:=s.toks+1+1 }) :=
 .of_wp fun prog w A R s h=>by
  obtain ⟨hp,g,d,tk,os⟩:=s
  obtain ⟨ha,h⟩:=h
  have hsub:=F.sub_reversed_self
  have f1:=qkJ
  have f2:=qde
  have f3:=qfL
  have hA:Heap.IsTuple (Shared.heap ⟨hp,g,d,tk,os⟩) l xs:=ha
  obtain ⟨o,e1,hc,m,hd⟩:=ha
  unfold Builtin.«reversed.__new__»
  refine wpAny_bind ?_
  wp_walk
  rw [hc]
  refine wpAny_of_eq (a:=none) qkJ ?_
  dsimp only
  refine wpAny_bind ?_
  show wpAny (model prog w) A.in1 (isInstance (Value.ref l) (Value.type "dict") >>= _) _ _ _
  refine wpAny_bind (wpAny_isInstance (T:="tuple") (b:=false) ⟨o,e1,hc⟩ qfL ?_)
  show wpAny (model prog w) A.in1 (specialOf (Value.ref l) (Str.ofString "__getitem__") >>= _) _ _ _
  refine wpAny_bind ?_
  wp_walk
  rw [hc]
  refine wpAny_of_eq (a:=some (.builtin "tuple.__getitem__")) qde ?_
  dsimp only
  rw [if_pos (by decide +kernel)]
  refine wpAny_pure ?_
  rw [if_neg (by decide)]
  have hfit:(xs.size:Int)<2 ^ 63:=by have:=qbD;omega
  refine wpAny_bind (len_tuple hA hfit ?_)
  wp_walk
  exact ⟨_,rfl,h⟩
def qqW (l:Addr) (i:Int):Obj:={ cls := .type "reversed",data := .fields #[.ref l,rawInt i] }
def qcv (h:Heap) (z l:Addr) (i:Int):Prop:=h.get? z=some (qqW l i)
section
variable {prog:Program} {w:World} {A:Around} {E:Value->Shared->Prop} {s:Shared}
theorem qjB {l:Addr} {xs:Array Value} {Q:Value->Shared->Prop} (t1:s.heap.IsTuple l xs) (hz:xs.size<=sizeLine)
  (fin:∀ h',qcv h' s.heap.objs.size l ((xs.size:Int)-1)->(∀ c o,s.heap.get? c=some o->h'.get? c=some o)->Q (.ref s.heap.objs.size) { s with heap:=h',toks:=s.toks+1+1 }) :
  wpAny (model prog w) A (call (.type "reversed") [.ref l]) Q E s:=by
 refine callType_new qgA (by decide) (F.typeCall_reversed_1 _) (F.newCall_reversed_1 _) (fun obj=>F.args_object_init_2 obj _) F.entry_reversed_new (qhT hz) ⟨t1,?_⟩
 exact ⟨⟨_,Heap.get?_push_size _ rfl,rfl⟩,fin _ (Heap.get?_push_size _ rfl) fun c o x=>Heap.get?_push_of_some _ x⟩
theorem qai (a:Value):argsOk "reversed.__next__" ⟨[a],[]⟩:=by
 unfold argsOk;kernel_rfl
theorem qoi {z l:Addr} {xs:Array Value} {i:Nat} {x:Value} {Q:Value->Shared->Prop} (zz:qcv s.heap z l (i:Int)) (t1:s.heap.IsTuple l xs) (hx:xs[i]? = some x) (hz:xs.size<=sizeLine)
  (fin:∀ h' tk,qcv h' z l ((i:Int)-1)->Heap.SameBut z s.heap h'->Q x { s with heap:=h',toks:=tk }) :
  wpAny (model prog w) A (Builtin.«reversed.__next__» ⟨[.ref z],[]⟩) (fun r s'=>∃ v,r = .done (.ret v)/\Q v s') E s:=by
 have hT:s.TypeIs (.ref l) "tuple":=by obtain ⟨o,e,hc,_⟩:=t1;exact ⟨o,e,hc⟩
 unfold Builtin.«reversed.__next__»
 refine wpAny_bind (wpAny_of_eq (a:=(Value.ref z,[])) rfl ?_)
 dsimp only
 refine wpAny_bind (wpAny_field zz rfl (x:=Value.ref l) rfl ?_)
 refine wpAny_bind (wpAny_field zz rfl (x:=rawInt (i:Int)) rfl ?_)
 show wpAny (model prog w) A (if ((i:Nat):Int)<0 then _ else _) _ _ s
 rw [if_neg (by omega)]
 refine wpAny_bind (wpAny_specialOf hT qde ?_)
 show wpAny (model prog w) A (if (false:Bool)=true then _ else _) _ _ s
 rw [if_neg (by decide)]
 refine wpAny_bind (wpAny_mkInt ?_)
 have hi:i<xs.size:=(Array.getElem?_eq_some_iff.mp hx).1
 have hl63:=qbD
 have hsq:seqIndex? (i:Int) xs.size=some i:=by
  unfold seqIndex?
  simp only []
  first
   | (rw [if_neg (by omega)];simp;omega)
   | (simp;omega)
   | (split<;>simp_all<;>omega)
 refine wpAny_bind (wpAny_attempt (PyProof.Rows.getItem_tuple (j:=i) t1 (by omega) (by omega) hsq hx ?_))
 dsimp only
 refine wpAny_bind (wpAny_field zz rfl (x:=rawInt (i:Int)) rfl ?_)
 refine wpAny_bind (wpAny_setField_rec zz (by simp) fun h' zz' b' => ?_)
 exact wpAny_pure ⟨x,rfl,fin h' _ zz' b'⟩
theorem qjC (hh:A.handled=none) {z l:Addr} {Q:Fin->Shared->Prop} (zz:qcv s.heap z l (-1))
  (fin:∀ h' e,Heap.ExtBut z s.heap h'->(∃ o,h'.get? e=some o/\o.cls = .type "StopIteration")->E (.ref e) { s with heap:=h' }) :
  wpAny (model prog w) A (Builtin.«reversed.__next__» ⟨[.ref z],[]⟩) Q E s:=by
 unfold Builtin.«reversed.__next__»
 refine wpAny_bind (wpAny_of_eq (a:=(Value.ref z,[])) rfl ?_)
 dsimp only
 refine wpAny_bind (wpAny_field zz rfl (x:=Value.ref l) rfl ?_)
 refine wpAny_bind (wpAny_field zz rfl (x:=rawInt (-1)) rfl ?_)
 show wpAny (model prog w) A (if (-1:Int)<0 then _ else _) _ _ s
 rw [if_pos (by decide)]
 refine wpAny_bind (wpAny_rule (wpAny_bind ?_))
 show wpAny (model prog w) A (setField (Value.ref z) 1 (rawInt (-1)) >>= fun _=>setField (Value.ref z) 0 Value.none) _ _ _
 refine wpAny_bind (wpAny_setField_rec zz (by simp) fun h1 zz1 b1=>wpAny_setField_rec zz1 (by simp) fun h2 zz2 b2 => ?_)
 refine wpAny_bind ?_
 show wpAny (model prog w) _ (newExc (Value.type "StopIteration") [] >>= _) _ _ _
 refine wpAny_bind ?_
 simp only [newExc,newTuple]
 refine wpAny_bind (wpAny_newObj_type ?_ (by size_fits))
 refine wpAny_bind (m:=firstArgMember _ _) (wpAny_of_eq (a:=Value.none) (by first | rfl | (simp only [firstArgMember];rfl)) ?_)
 refine wpAny_newObj_type ?_ (by size_fits)
 simp only [raiseNew]
 refine wpAny_bind (wpAny_handled ?_)
 rw [hh]
 exact wpAny_bind (wpAny_pure (wpAny_throw (fin _ _ (fun b o hb e=>Heap.get?_push_of_some _ (Heap.get?_push_of_some _ (b2.extBut b o hb (b1.extBut b o hb e)))) ⟨_,Heap.get?_push_size _ rfl,rfl⟩)))
end
theorem qaj:Slot "reversed" "__iter__" "reversed.__iter__" :=
 .of (owner:="reversed") (n:="__iter__") (by rw [typeLookup_type,builtinLookup_eq_fast];kernel_rfl) (by decide +kernel) (by decide +kernel) (by decide +kernel) (by first | exact Or.inl (by kernel_rfl) | exact Or.inr (by kernel_rfl)) (by rw [isSubtype_type];kernel_rfl)
theorem qdf (a:Value):argsOk "reversed.__iter__" ⟨[a],[]⟩:=by
 unfold argsOk;kernel_rfl
theorem qcw:entryFor table "reversed.__iter__"=some Builtin.«dict_keyiterator.__iter__»:=by
 refine entryFor_alias (id':="dict_keyiterator.__iter__") ?_ ?_ ?_ ?_
 ·kernel_rfl
 ·first | rfl | decide +kernel
 ·decide +kernel
 ·kernel_rfl
theorem qfM {prog:Program} {w:World} {A:Around} {E:Value->Shared->Prop} {s:Shared} {z l:Addr} {i:Int} {Q:Value->Shared->Prop} (zz:qcv s.heap z l i) (h:Q (.ref z) s):wpAny (model prog w) A (pyIter (.ref z)) Q E s:=by
 have hT:s.TypeIs (.ref z) "reversed":=⟨_,zz,rfl⟩
 refine wpAny_pyIter_slot hT qaj (wpAny_call_entry qaj hT qcw ?_ (qdf _))
 show wpAny _ _ (PySem.ret (Value.ref z)) _ _ s
 exact wpAny_pure ⟨_,rfl,"reversed",_,hT,jK.lookup,h⟩
def Itv (K:Fr0) (a:Addr) (xs:List V):It :=
 ⟨fun i H=>i<xs.length/\SqT K H a xs,fun i H x H'=>H'=H/\xs.reverse[i]? = some x,fun i H=>i=xs.length/\SqT K H a xs⟩
theorem qjD {P:Program} {w:World} {K:Fr0} {tg:Expr} {z a:Addr} {xs:List V} (hne:a≠z):qla P w K tg (Itv K a xs) [z] z (fun i h=>qcv h z a ((xs.length:Int)-1-(i:Nat))) where
 mem:=by simp
 obj:=fun i h st b hb=>by
  have e:b=z:=by simpa using hb
  subst e
  exact ⟨_,st,fun v e=>by cases (show Data.fields _=Data.cell v from e)⟩
 keep:=fun i h h' st k=>k z (by simp) _ st
 item:=by
  intro X hP hw hK hc i pins s Z H E I hf st hg
  subst hP hw hK
  obtain ⟨hlt,hx⟩:=hg
  obtain ⟨f0,f1,f2,f3,f4,f5⟩:=hf z (by simp)
  obtain ⟨its,r1,p1,z1⟩:=I.tuple hx
  have hlen:=r1.length
  have ei:((xs.length:Int)-1-(i:Nat))=((xs.length-1-i:Nat):Int):=by omega
  have st':qcv s.heap z a ((xs.length-1-i:Nat):Int):=by rw [<- ei];exact st
  obtain ⟨xv,hxv⟩:∃ v,xs[xs.length-1-i]? = some v:=⟨xs[xs.length-1-i]'(by omega),gG (by omega)⟩
  obtain ⟨x',ex,rx⟩:=r1.get hxv
  have hT:s.TypeIs (.ref z) "reversed":=⟨_,st,rfl⟩
  unfold pyNext
  refine wpAny_bind (wpAny_attempt (wpAny_callSpecial?_slot (name:=Str.ofString "__next__") hT jK (wpAny_call_entry jK hT wA
   (qoi st' p1 (x:=x') (by rw [List.getElem?_toArray];exact ex) (by rw [sT_,<- hlen];exact z1) fun h' tk zz' sb=>wpAny_pure ?_) (qai _))))
  have I1:Inv X pins Z H { s with heap:=h',toks:=tk }:=I.turned (fun b o hb e=>sb.extBut b o hb e) f0 f1 f3 f4 f5
  have st2:qcv h' z a ((xs.length:Int)-1-((i+1:Nat):Int)):=by
   have e2:((xs.length-1-i:Nat):Int)-1=(xs.length:Int)-1-((i+1:Nat):Int):=by omega
   rw [<- e2];exact zz'
  refine ⟨x',rfl,qiV (s:={ s with heap:=h',toks:=tk }) (n:="reversed") st2 rfl rfl (by decide) ⟨xv,H,I1,rx,⟨rfl,?_⟩,st2,fun b hb=>(hf b hb).1⟩⟩
  rw [List.getElem?_reverse hlt]
  exact hxv
 done:=by
  intro X hP hw hK hc i pins s Z H E I hf st hg
  subst hP hw hK
  obtain ⟨hlt,hx⟩:=hg
  obtain ⟨f0,f1,f2,f3,f4,f5⟩:=hf z (by simp)
  have ei:((xs.length:Int)-1-(i:Nat)) = -1:=by omega
  have st':qcv s.heap z a (-1):=by rw [<- ei];exact st
  have hT:s.TypeIs (.ref z) "reversed":=⟨_,st,rfl⟩
  have hh:X.A.in1.handled=none:=I.ok.hd hc
  unfold pyNext
  refine wpAny_bind (wpAny_attempt (wpAny_callSpecial?_slot (name:=Str.ofString "__next__") hT jK (wpAny_call_entry jK hT wA
   (qjC hh st' fun h' e kp he => ?_) (qai _))))
  obtain ⟨o,ho,hcl⟩:=he
  exact wpAny_bind (wpAny_isInstance (T:="StopIteration") (b:=true) ⟨o,ho,hcl⟩ isSubtype_stop (wpAny_pure ⟨rfl,I.turned (t':=s.toks) (fun b o hb e=>kp b o hb e) f0 f1 f3 f4 f5⟩))
 self:=fun A i s Q E st h=>qfM st h
section
variable {X:Cx} {c:Fc} {a e:Expr} {pos:Pos} {tg:Expr}
def qqX (K:Fr0) (ta:TA):TI:=fun Z H R=>ta Z H fun vs H1=>∃ b xs,vs=[.ref b]/\SqT K H1 b xs/\R (Itv K b xs) H1
theorem qoj {ta:TA} {p:Pos} (hg:Gl X "reversed") (hm:X.mg "reversed"=none) (ha:PA X [a] ta) (hs:starEach [a] X.env=[(false,eval a X.env)]:=by rfl) :
  PI X tg (.Call (.Name "reversed" p) [a] [] pos) (qqX X.K ta):=by
 intro pins s Z H R I h
 refine Call_ (qa5 I hg hm PyProof.Rows.boot_reversed (PyProof.Rows.callWith_type1 (thn (ha pos pins s Z H _ I h) fun us s1 ⟨vs,H1,I1,r1,q1⟩ => ?_) hs rfl))
 obtain ⟨b,xs,e1,hx,q⟩:=q1
 subst e1
 obtain ⟨u1,rfl,ru1⟩:=zd.one r1
 cases (show u1=Value.ref b from ru1)
 obtain ⟨its,v1,p1,z1⟩:=I1.tuple hx
 have hlen:=v1.length
 refine qjB (show s1.heap.IsTuple b its.toArray from p1) (by rw [sT_,<- hlen];exact z1) fun h' zz kp => ?_
 refine qfM zz ?_
 have lb:b<s1.heap.objs.size:=by obtain ⟨o,e,_⟩:=p1;exact Heap.lt_size e
 have zz':qcv h' s1.heap.objs.size b ((xs.length:Int)-1-((0:Nat):Int)):=by
  have e:((its.toArray.size:Nat):Int)-1=(xs.length:Int)-1-((0:Nat):Int):=by rw [sT_,hlen];omega
  rw [<- e];exact zz
 refine ⟨s1.heap.objs.size,[s1.heap.objs.size],_,_,H1,rfl,I1.kept (t':=s1.toks+1+1) kp,qjD (xs:=xs) (Nat.ne_of_lt lb),zz',fun d hd => ?_,q⟩
 have e:d=s1.heap.objs.size:=by simpa using hd
 subst e
 exact I1.fpOk (Nat.le_refl _) (I1.hok.fresh (Nat.le_refl _))
theorem qok {K:Fr0} {A:Addr->Prop} {H:Hp} {ds:List D} {xs:List V} {b:Addr} (t1:u5 K H b xs) (i1:IsL K A H ds xs):qiL K A H ds.reverse (Itv K b xs) where
 go:=fun H' i d ex hd=>by
  have hl:i<ds.reverse.length:=(gI_.mp hd).1
  rw [List.length_reverse,<- i1.length] at hl
  exact ⟨hl,(t1.elim (fun h => .inl (ex.tup _ _ h)) .inr:u5 K H' b xs).sq⟩
 yl := fun H' i d x H'' ex hd y=>by
  obtain ⟨rfl,hy⟩:=y
  have hl:i<ds.length:=by
   have:=(gI_.mp hd).1
   rwa [List.length_reverse] at this
  rw [List.getElem?_reverse hl] at hd
  rw [List.getElem?_reverse (by rw [i1.length];exact hl),i1.length] at hy
  obtain ⟨x',g1,g2⟩:=i1.get hd
  rw [hy] at g1
  cases g1
  exact ⟨fun _ _ h=>h,Is.ext ex (fun _ h _=>h) g2⟩
 stop:=fun H' ex=>⟨by rw [List.length_reverse,i1.length],(t1.elim (fun h => .inl (ex.tup _ _ h)) .inr:u5 K H' b xs).sq⟩
def qoX:List D->Option (List D)
 | [.tup xs]=>some xs.reverse
 | _=>none
def qmL (f:M (List D)):M (List D):=bnd f fun ds=>lift (qoX ds)
theorem qol {f:M (List D)} {p:Pos} (hg:Gl X "reversed") (hm:X.mg "reversed"=none) (ha:DA X c [a] f) (hs:starEach [a] X.env=[(false,eval a X.env)]:=by rfl) :
  DI X c tg (.Call (.Name "reversed" p) [a] [] pos) (qmL f):=by
 obtain ⟨t,pa,w⟩:=ha
 refine ⟨_,qoj hg hm pa hs,fun U Z H Q r h=>w U Z H _ r (WpL.bndI h fun ds U1 vs H1 r1 i1 g1 h1 => ?_)⟩
 obtain ⟨es',e,h2⟩:=qaa h1
 unfold qoX at e
 split at e
 ·obtain ⟨v,rfl,j1⟩:=IsL.inv1 i1
  cases e
  obtain ⟨a1,xs,rfl,t1,il1⟩:=Is.tr j1
  exact ⟨a1,xs,rfl,t1.sq,h2 _ H1 r1 (qok t1 il1) .refl⟩
 ·cases e
theorem qkK {l:M (List D)} {U:Env}:qmL l U=match l U with | .ok (d,U1)=>(match qoX d with | some ds => .ok (ds,U1) | none => .bad) | .exc x U' => .exc x U' | .bad => .bad:=by
 simp only [qmL,bnd]
 cases l U with
 | ok z=>obtain ⟨z1,U1⟩:=z;(dsimp only;cases qoX z1<;>rfl)
 | exc x U'=>rfl
 | bad=>rfl
theorem qhU {f:M D} {U:Env} (i:Nat):u8 i f U=match zD i U with
  | none => .bad
  | some _=>(match f U with
   | .ok (d,U1)=>(match zD i U1 with | some ds=>(if qP (ds.length+1) then .ok (.non,U1.set i (some (.lst (d::ds)))) else .bad) | none => .bad)
   | .exc x U' => .exc x U' | .bad => .bad):=by
 unfold u8
 cases zD i U with
 | none=>rfl
 | some z =>
  simp only [bnd]
  cases f U with
  | ok z=>obtain ⟨z1,U1⟩:=z;rfl
  | exc x U'=>rfl
  | bad=>rfl
end
end L2.Sk
namespace HT
open PySem PySem.Spec PyProof.Rows
section
variable {prog:Program} {w:World} {A:Around} {E:Value->Shared->Prop} {s:Shared}
end
end HT
namespace L2
open PySem PySem.Spec PyProof.Rows
section
variable {X:Cx} {e:Expr} {te:TE} {ste:Expr} {ts:TO} {pos p2:Pos}
end
end L2
namespace L2.Sk
open PySem PySem.Spec PyProof.Rows
theorem IsL.rev {K:Fr0} {A:Addr->Prop} {H:Hp}:∀ {ds:List D} {xs:List V},IsL K A H ds xs->IsL K A H ds.reverse xs.reverse:=by
 intro ds
 induction ds with
 | nil =>
  intro xs h
  cases xs with
  | nil=>exact h
  | cons x xs=>exact absurd h.length (by simp)
 | cons d ds ih =>
  intro xs h
  obtain ⟨x,ys,rfl,h1,h2⟩:=h
  rw [List.reverse_cons,List.reverse_cons]
  have one:IsL K A H [d] [x]:=⟨x,[],rfl,h1,IsL.take 0 h2⟩
  exact IsL.append (ih h2) one
def qpz:D->Option D
 | .tup ds=>some (.tup ds.reverse)
 | .lst ds=>some (.lst ds.reverse)
 | _=>none
def qom (f:M D):M D:=bnd f fun d=>lift (qpz d)
section
variable {X:Cx} {c:Fc} {a:Expr} {pos p2 p3 p4:Pos} {cj:Nat}
theorem qpA {f:M D} {U:Env}:qom f U=match f U with | .ok (d,U1)=>(match qpz d with | some x => .ok (x,U1) | none => .bad) | .exc x U' => .exc x U' | .bad => .bad:=by
 simp only [qom,bnd]
 cases f U with
 | ok z=>obtain ⟨z1,U1⟩:=z;(dsimp only;cases qpz z1<;>rfl)
 | exc x U'=>rfl
 | bad=>rfl
end
section
variable {X:Cx} {c:Fc}
end
end L2.Sk
namespace L2
open PySem PySem.Spec PyProof.Rows
def qqY (X:Cx) (Pt:Addr) (q:Str) (params:Arguments) (body:Expr) (scope:Scope) (pos:Pos):TE:=fun _ H Q=>H Pt=some (.lam pos q) /\
 ∀ (f c:Addr) (oc:Obj) (vs:Array Value) (t:Tok) (cl:List (Str×Addr)) (pm ctv:Value) (H1:Hp),jp H H1->H1 f=some (.frz (PySem.W.kla_obj "<lambda>" q params body scope cl pm c ctv) (.own f))->H1 c=some (.frz oc (.own c)) ->
  oc.data = .fields vs->vs[1]? = some (.str q t)->(∀ n a,cl.lookup n=some a->X.env.cells.lookup n=some a)->(∀ y∈scope.names,y.2 = .free->∃ a,cl.lookup y.1=some a)->Q (.ref f) H1
section
variable {X:Cx} {pins:List (Addr×Obj)} {Z:St} {H:Hp} {s:Shared}
theorem qak {H:Hp} {a:Addr} {o:HO} (h:H a=none):jp H (upd H a o):=fun b u q=>by rw [qu (qH q h)];exact q
theorem qon {c0 Pt:Addr} {q:Str} {params:Arguments} {body:Expr} {scope:Scope} {pos:Pos} (hq:X.env.qual++"<lambda>"=q) (hcode:X.env.code = .ref c0) (hC:PySem.W.codeHdIn X.K c0 Pt=true)
  (hfr:∀ y∈scope.names,y.2 = .free->X.env.kindOf y.1=some .cell) (hdef:defaultsOf params X.env=([],[])):PE X (.Lambda params body scope pos) (qqY X Pt q params body scope pos):=by
 intro pins s Z H Q I ⟨hP,h⟩
 obtain ⟨cl,hcl,cl1,cl2⟩:=Sk.closureFor_ok (env:=X.env) (scope:=scope) (fun y hy hf=>I.ok.has y.1 (.inl (hfr y hy hf)))
 have C:PySem.W.CodeHd s.heap c0 Pt:=PySem.W.codeHd_of_K I.kIn hC
 have hg:s.heap.Ns mainGlobals X.mg:=I.mod.glob.keeps I.bk
 obtain ⟨bm,ob,b1,b2,b3,b4,b5,b6⟩:=I.mod.bm
 have b3':=I.bk _ _ b3
 have hPo:∃ ps,s.heap.get? Pt=some (PySem.W.tabObj ps):=by
  rcases I.hok Pt _ hP with e | ⟨_,_,_,_,_,_,_,e⟩
  ·exact ⟨_,e⟩
  ·exact ⟨_,e⟩
 obtain ⟨ps0,hPo⟩:=hPo
 have hgP:mainGlobals≠Pt:=fun z=>by
  obtain ⟨o,es,ep,e,hd,_⟩:=hg
  rw [z,hPo] at e;cases e;cases hd
 have hbP:bm≠Pt:=fun z=>by rw [z,hPo] at b3';cases b3';cases b4
 have hbG:bm≠mainGlobals:=fun z=>by
  obtain ⟨o,es,ep,e,hd,_⟩:=hg
  rw [z,e] at b3';cases b3';rw [hd] at b6;cases b6
 have hB:s.heap.BuiltinsAt X.mg Pt:=⟨bm,ob,b1,b2,hbG,hbP,b3',b4,b5,b6⟩
 refine PySem.W.kla_eval hdef ?_
 rw [hq]
 rcases I.hok Pt _ hP with e | ⟨c',oc,vs,t,h1,h2,h3,e⟩
 ·refine PySem.W.kla_makeFunction hcl I.ok.glob hg hcode C e trivial rfl hgP hB fun c' ctv h' tk hx hge hlt hrec htb => ?_
  obtain ⟨c2,oc,vs,t,e2,hoc,hd,hv⟩:=hrec
  cases e2
  have htb':h'.get? Pt=some { cls := .none,data := .fields #[rawInt pos.line,rawInt pos.col,.ref c'] }:=by simpa using htb
  have hHc:H c'=none:=I.hok.fresh hge
  have hsz:s.heap.objs.size<=h'.objs.size:=Nat.le_trans hge (Nat.le_of_lt hlt)
  have hHf:H h'.objs.size=none:=I.hok.fresh hsz
  have hfc:h'.objs.size≠c':=Nat.ne_of_gt hlt
  have hH2f:upd H c' (.frz oc (.own c')) h'.objs.size=none:=by rw [qu hfc];exact hHf
  let fo:Obj:=PySem.W.kla_obj "<lambda>" q params body scope cl ((X.mg "__name__").getD .none) c' ctv
  have sm:jp H (upd (upd H c' (.frz oc (.own c'))) h'.objs.size (.frz fo (.own h'.objs.size))):=fun b u z=>qak hH2f b u (qak hHc b u z)
  have keep:∀ b o,b≠Pt->s.heap.get? b=some o->(h'.push fo).get? b=some o:=fun b o hb z=>Heap.get?_push_of_some _ (hx b o hb z)
  have nP:∀ b,H b=none->b≠Pt:=fun b z w=>by rw [w,hP] at z;cases z
  have un:Un X.fs [] H (upd (upd H c' (.frz oc (.own c'))) h'.objs.size (.frz fo (.own h'.objs.size))) s.heap (h'.push fo):=by
   refine ⟨fun b o z n _ _=>keep b o (nP b n) z,fun b o z n _ _=>⟨o.slots,keep b o (nP b n) z⟩,fun b o z n _ => ?_,fun b o z _ => ?_,fun b xs z=>sm _ _ z,fun b o u z=>sm _ _ z,fun b p u z=>sm _ _ z⟩
   ·have hlt2:=Heap.lt_size z
    rw [qu (Nat.ne_of_lt (Nat.lt_of_lt_of_le hlt2 hsz)),qu (Nat.ne_of_lt (Nat.lt_of_lt_of_le hlt2 hge))]
    exact n
   ·by_cases hb:b=Pt
    ·exact ⟨_,by rw [hb];exact Heap.get?_push_of_some _ htb'⟩
    ·exact ⟨o,keep b o hb z⟩
  have hf1:(upd (upd H c' (.frz oc (.own c'))) h'.objs.size (.frz fo (.own h'.objs.size))) c'=some (.frz oc (.own c')):=by rw [qu hfc.symm,qt]
  have hok:HOk X.prog X.w (upd (upd H c' (.frz oc (.own c'))) h'.objs.size (.frz fo (.own h'.objs.size))) (h'.push fo):=fun b u z=>by
   by_cases hb1:b=h'.objs.size
   ·subst hb1
    rw [qt] at z;cases z
    exact ⟨Heap.get?_push_size _ rfl,_,Heap.get?_push_size _ rfl⟩
   ·rw [qu hb1] at z
    by_cases hb2:b=c'
    ·subst hb2
     rw [qt] at z;cases z
     exact ⟨Heap.get?_push_of_some _ hoc,_,Heap.get?_push_of_some _ hoc⟩
    ·rw [qu hb2] at z
     by_cases hb3:b=Pt
     ·subst hb3
      rw [hP] at z;cases z
      exact .inr ⟨c',oc,vs,t,hf1,hd,hv,Heap.get?_push_of_some _ htb'⟩
     ·refine (I.hok b u z).stay (fun c v hc r=>keep c v (fun w => ?_) r) (fun c r=>sm _ _ r) (fun c xs r=>sm _ _ r) fun c o y r=>sm _ _ r
      rcases hc with hc | hc
      ·exact hb3 (hc▸w)
      ·rw [w,hP] at hc;cases hc
  exact ⟨.ref h'.objs.size,_,I.un un hok,rfl,h h'.objs.size c' oc vs t cl ((X.mg "__name__").getD .none) ctv _ sm qt hf1 hd hv cl1 cl2⟩
 ·have ht:TriplesOk (#[rawInt pos.line,rawInt pos.col,.ref c']:Array Value).toList:=trivial
  have hf:codeAmong pos (#[rawInt pos.line,rawInt pos.col,.ref c']:Array Value).toList=some (.ref c'):=by
   show (if ((pos.line:Int)==pos.line&&(pos.col:Int)==pos.col)=true then _ else _)=_
   rw [if_pos (by simp)]
  refine PySem.W.kla_makeFunctionHit hcl I.ok.glob hg hcode C e ht hf hB fun ctv h' tk hk hsz => ?_
  have hHf:H h'.objs.size=none:=I.hok.fresh hsz
  have J:=I.laid (t':=tk) (o := .frz (PySem.W.kla_obj "<lambda>" q params body scope cl ((X.mg "__name__").getD .none) c' ctv) (.own h'.objs.size)) (fun b o z=>Heap.get?_push_of_some _ (hk b o z)) hsz
   (show uc X.prog X.w _ (h'.push (PySem.W.kla_obj "<lambda>" q params body scope cl ((X.mg "__name__").getD .none) c' ctv)) h'.objs.size (.frz _ (.own _)) from ⟨Heap.get?_push_size _ rfl,_,Heap.get?_push_size _ rfl⟩)
  exact ⟨.ref h'.objs.size,_,J,rfl,h h'.objs.size c' oc vs t cl ((X.mg "__name__").getD .none) ctv _ (qak hHf) qt (qak hHf _ _ h1) h2 h3 cl1 cl2⟩
def qhV (X:Cx) (N':List Str) (q:Str) (scope:Scope) (cl:List (Str×Addr)) (f c:Addr) (A:Around) (s:Shared) (H:Hp):Cx where
 prog:=X.prog
 w:=X.w
 K:=X.K
 mg:=X.mg
 base:=X.base
 A:=A.deeper (PySem.W.envX q scope s.heap.objs.size f (.ref c) cl)
 N:=N'
 s₀:=s
 H₀:=H
 env:=PySem.W.envX q scope s.heap.objs.size f (.ref c) cl
 outer:=X.stack
 stack:=PySem.W.envX q scope s.heap.objs.size f (.ref c) cl::X.stack
 ex:=[]
 fn:=fun _=>false
 calm:=true
 pn:=[]
 xe:=fun _ _=>False
theorem qhW {N':List Str} {fr:List Nat} {q x:Str} {scope:Scope} {cl:List (Str×Addr)} {f c:Addr} {A:Around} {h1:Heap} {tk:Nat} {v:V} {u:Value} {ws:List V} (S:Sk.CompScope X scope N' 1 fr) (I:Inv X pins Z H s)
  (cl1:∀ n a,cl.lookup n=some a->X.env.cells.lookup n=some a) (cl2:∀ y∈scope.names,y.2 = .free->∃ a,cl.lookup y.1=some a) (hA:A.handled=none) (hAf:A.frames=some X.stack)
  (hx:N'[0]? = some x) (hxl:scope.names.lookup x=some .local) (rv:jI v u) (hwl:ws.length=fr.length) (hws:∀ (k j:Nat),fr[k]? = some j->∃ y,ws[k]? = some y/\Z[j]? = some (some y))
  (hns:h1.Ns s.heap.objs.size fun y=>([(x,u)]:List (Str×Value)).reverse.lookup y) (old:∀ b o,s.heap.get? b=some o->h1.get? b=some o) :
  Inv (qhV X N' q scope cl f c A s H) [] (ja N' (v::ws)) H { s with heap:=h1,toks:=tk }:=by
 have noA:∀ b:Addr,b ∉ (qhV X N' q scope cl f c A s H).ex:=fun b z=>absurd (show b∈([]:List Addr) from z) (by simp)
 have hN:N'.length=(v::ws).length:=by rw [S.len,lC_,hwl];omega
 have hst:ja N' (v::ws)=(v::ws).map some:=by
  unfold ja
  rw [hN,Nat.sub_self]
  simp
 refine ⟨⟨I.ok.mod,S.kind,rfl,rfl,Nat.le_refl _,fun x y c h1 h2=>I.ok.inj x y c (cl1 x c h1) (cl1 y c h2),fun y hy => ?_,fun y c hy => ?_,fun _=>hA,Around.frames_deeper hAf,.inr ⟨rfl,rfl⟩,fun b z=>absurd z (noA b),I.bs,Nat.le_trans I.ok.bsz I.sz,fun b _ _=>noA b,fun b z=>absurd z (noA b),I.stack,I.stkFree⟩,
  rfl,I.bare,Un.kept old,⟨_,hns,fun i y w e1 e2 e3 => ?_⟩,fun y c hy => ?_,I.hok.fresh (Nat.le_refl _),fun y c hy=>I.freeC y c (cl1 y c hy),fun p hp=>absurd (show p∈([]:List (Addr×Obj)) from hp) (by simp),I.hok.kept old,?_⟩
 ·have hy:scope.names.lookup y=some .cell\/scope.names.lookup y=some .free:=hy
  rcases hy with hy | hy
  ·exact absurd rfl (S.nocell _ (PySem.mem_of_lookup hy))
  ·exact cl2 (y,.free) (PySem.mem_of_lookup hy) rfl
 ·have hy':false=true:=hy
  cases hy'
 ·rw [hst] at e2
  cases i with
  | zero =>
   have e1':N'[0]? = some y:=e1
   rw [hx] at e1';cases e1'
   have e2':some v=some w:=by simpa using e2
   cases e2'
   refine ⟨u,rv,.inl ⟨hxl,?_⟩⟩
   simp
  | succ i =>
   have e2':ws[i]? = some w:=by simpa using e2
   have hi:i<fr.length:=by rw [<- hwl];exact (gI_.mp e2').1
   obtain ⟨j,hj⟩:∃ j,fr[i]? = some j:=⟨_,gG hi⟩
   obtain ⟨y',g1,g2⟩:=hws i j hj
   rw [e2'] at g1;cases g1
   obtain ⟨z,z1,z2,z3⟩:=S.slot i j hj
   have hz:z=y:=by
    have e1':N'[i+1]? = some y:=e1
    rw [Nat.add_comm 1 i,e1'] at z1
    exact (Option.some.inj z1).symm
   subst hz
   have hmem:(z,NameKind.free)∈scope.names:=PySem.mem_of_lookup z3
   have hck:X.env.kindOf z=some .cell:=S.frees (z,.free) hmem rfl
   obtain ⟨m0,hn0,hl0⟩:=I.loc
   obtain ⟨u',ru,lk⟩:=hl0 j z w z2 g2 (.inr (.inl hck))
   refine ⟨u',ru,.inr ⟨.inr z3,?_⟩⟩
   rcases lk with ⟨k1,_⟩ | ⟨_,c',e,y1⟩
   ·rw [hck] at k1;cases k1
   ·obtain ⟨a,ea⟩:=cl2 (z,.free) hmem rfl
    have ea':=cl1 z a ea
    rw [e] at ea'
    cases ea'
    obtain ⟨o,ho,hd⟩:=y1
    exact ⟨c',ea,o,old _ _ ho,hd⟩
 ·obtain ⟨w,o,ho,hd⟩:=I.cell y c (cl1 y c hy)
  exact ⟨w,o,old _ _ ho,hd⟩
 ·rw [hst,lM_,<- hN];rfl
theorem qjE {N':List Str} {fr:List Nat} {q x:Str} {params:Arguments} {body:Expr} {scope:Scope} {cl:List (Str×Addr)} {f c:Addr} {oc:Obj} {vs:Array Value} {t:Tok} {pm ctv:Value} {A:Around} {v:V} {u:Value} {ws:List V} {te:TE} {Q:VK}
  (S:Sk.CompScope X scope N' 1 fr) (I:Inv X pins Z H s) (hf:H f=some (.frz (PySem.W.kla_obj "<lambda>" q params body scope cl pm c ctv) (.own f))) (hc:H c=some (.frz oc (.own c))) (hd:oc.data = .fields vs) (hv:vs[1]? = some (.str q t))
  (cl1:∀ n a,cl.lookup n=some a->X.env.cells.lookup n=some a) (cl2:∀ y∈scope.names,y.2 = .free->∃ a,cl.lookup y.1=some a) (hA:A.handled=none) (hAf:A.frames=some X.stack) (hdp:A.depth<recursionLimit)
  (hb:∀ u,bindArgs (PySem.W.kla_fn "<lambda>" q params body scope cl pm (.ref c) ctv) ⟨[u],[]⟩=pure [(x,u)])
  (hx:N'[0]? = some x) (hxl:scope.names.lookup x=some .local) (hco:scope.isCoroutine=false) (hgen:scope.isGenerator=false)
  (rv:jI v u) (hwl:ws.length=fr.length) (hws:∀ (k j:Nat),fr[k]? = some j->∃ y,ws[k]? = some y/\Z[j]? = some (some y))
  (he:PE (qhV X N' q scope cl f c A s H) body te) (hq:te (ja N' (v::ws)) H Q):wpAny (model X.prog X.w) A (call (.ref f) [u]) (CE X.stack X.prog X.w H s Q) (fun _ _=>False) s:=by
 refine wpAny_call (PySem.W.kla_callFunE hdp (I.hok f _ hf).1 rfl hco hgen rfl ⟨c,oc,vs,t,rfl,(I.hok c _ hc).1,hd,hv⟩ ?_)
 rw [hb]
 refine wpAny_pure (wpAny_newFunctionEnv S.nocell (fun y hy => ?_) (fun h1 hns hsb=>⟨I.nolimit.fresh _ hsb,?_⟩) S.kind)
 ·have e:y=(x,u):=by simpa using hy
  rw [e];exact hxl
 ·show codeAny _ _ (.expr body (PySem.W.envX q scope s.heap.objs.size f (.ref c) cl)) _ _
  have old:∀ b o,s.heap.get? b=some o->h1.get? b=some o:=fun b o e=>hsb.extBut b o (Nat.ne_of_lt (Heap.lt_size e)) (Heap.get?_push_of_some _ e)
  have J:=qhW (q:=q) (f:=f) (c:=c) (h1:=h1) (tk:=s.toks+([(x,u)]:List (Str×Value)).length) S I cl1 cl2 hA hAf hx hxl rv hwl hws hns old
  exact PySem.W.kla_codeExpr (wpAny_mono (he [] _ _ H Q J hq) (fun v' s' ⟨y,H',J',r',q'⟩=>⟨y,H',J'.os,J'.bare,J'.base,J'.hok,r',q'⟩) fun _ _ z=>z.elim)
end
end L2
namespace L2.Srt
open PySem PySem.W PyProof.Rows
def uY {α:Type} (cmp:Nat->Nat->Bool):KasT α->α
 | .ret a=>a
 | .ask i j k=>uY cmp (k (cmp i j))
theorem uN {α β:Type} {cmp:Nat->Nat->Bool} {f:α->KasT β}:∀ t:KasT α,uY cmp (t.bind f)=uY cmp (f (uY cmp t))
 | .ret _=>rfl
 | .ask i j k=>uN (k (cmp i j))
def qbz {α:Type} (n:Nat) (R:α->Prop):KasT α->Prop
 | .ret a=>R a
 | .ask i j k=>i<n/\j<n/\∀ b,qbz n R (k b)
theorem qbz.bind {α β:Type} {n:Nat} {R:α->Prop} {R':β->Prop} {f:α->KasT β} (hf:∀ a,R a->qbz n R' (f a)):∀ {t:KasT α},qbz n R t->qbz n R' (t.bind f)
 | .ret _,h=>hf _ h
 | .ask _ _ _,⟨h1,h2,h3⟩=>⟨h1,h2,fun b=>qbz.bind hf (h3 b)⟩
theorem qbz.run {α:Type} {n:Nat} {R:α->Prop} {cmp:Nat->Nat->Bool}:∀ {t:KasT α},qbz n R t->R (uY cmp t)
 | .ret _,h=>h
 | .ask i j k,h=>qbz.run (t:=k (cmp i j)) (h.2.2 (cmp i j))
def Pl (n:Nat) (p:Array Nat):Prop:=p.size=n/\p.toList.Perm (List.range n)
theorem Pl.of_perm {n:Nat} {p q:Array Nat} (h:Pl n p) (hq:q.Perm p):Pl n q:=⟨hq.size_eq.trans h.1,(Array.perm_iff_toList_perm.mp hq).trans h.2⟩
theorem Pl.lt {n:Nat} {p:Array Nat} (h:Pl n p) (hn:0<n) (k:Nat):p.getD k 0<n:=by
 by_cases hk:k<p.size
 ·have e:p.getD k 0=p[k]:=by simp [Array.getD,hk]
  rw [e]
  have hm:p[k]∈p.toList:=by simp
  exact mR_.mp (h.2.mem_iff.mp hm)
 ·have e:p.getD k 0=0:=by simp [Array.getD,hk]
  rw [e];exact hn
theorem Pl.rev {n:Nat} {p:Array Nat} (h:Pl n p) (i j:Nat):Pl n (kas_rev p i j):=h.of_perm (mirror_perm _ _ _ _)
theorem qdg {n:Nat} (hn:0<n) {p:Array Nat} (h:Pl n p):∀ f m,qbz n (fun _=>True) (kas_asc p f m)
 | 0,_=>True.intro
 | f+1,m=>⟨h.lt hn _,h.lt hn _,fun c=>by
  dsimp only
  split
  ·exact True.intro
  ·exact qdg hn h f (m+1)⟩
theorem qal {n:Nat} (hn:0<n):∀ f {p:Array Nat} (_:Pl n p) m q,qbz n (fun r=>Pl n r.1) (kas_desc f p m q)
 | 0,_,h,_,_=>h
 | f+1,p,h,m,q=>⟨h.lt hn _,h.lt hn _,fun c=>by
  dsimp only
  split
  ·split
   ·exact qal hn f (h.rev _ _) _ _
   ·exact qal hn f h _ _
  ·refine ⟨h.lt hn _,h.lt hn _,fun d => ?_⟩
   dsimp only
   split
   ·exact h
   ·exact qal hn f h _ _⟩
theorem qcQ {n:Nat} (hn:0<n) {p:Array Nat} (h:Pl n p) (m nrem:Nat):qbz n (fun r=>Pl n r.2) (kas_tail3 m nrem p) :=
 qbz.bind (R:=fun _=>True) (n:=n) (R':=fun r:Nat×Array Nat=>Pl n r.2) (f:=fun k => .ret (k,kas_rev p 0 m)) (fun _ _=>h.rev 0 m) (qdg hn (h.rev _ _) _ _)
theorem qam {n:Nat} (hn:0<n) {p:Array Nat} (h:Pl n p) (m nrem:Nat):qbz n (fun r=>Pl n r.2) (kas_descPart m nrem p) :=
 qbz.bind (R:=fun r=>Pl n r.1) (fun r hr=>by
  split
  ·exact qcQ hn (hr.rev _ _) _ _
  ·exact qcQ hn hr _ _) (qal hn _ h _ _)
theorem qgB {n:Nat} (hn:0<n) {p:Array Nat} (h:Pl n p) (nrem:Nat):qbz n (fun r=>Pl n r.2) (kas_count nrem p) :=
 qbz.bind (R:=fun _=>True) (fun m _=>by
  split
  ·exact h
  ·split
   ·refine ⟨h.lt hn _,h.lt hn _,fun c => ?_⟩
    dsimp only
    split
    ·exact h
    ·exact qam hn (h.rev _ _) _ _
   ·exact qam hn h _ _) (qdg hn h _ _)
theorem qaL {n:Nat} (hn:0<n) {p:Array Nat} (h:Pl n p) (k:Nat):∀ f l r,qbz n (fun _=>True) (kas_place p k f l r)
 | 0,_,_=>True.intro
 | f+1,l,r=>by
  unfold kas_place
  split
  ·exact True.intro
  ·refine ⟨h.lt hn _,h.lt hn _,fun c => ?_⟩
   dsimp only
   split
   ·exact qaL hn h k f _ _
   ·exact qaL hn h k f _ _
theorem qfN {n:Nat} (hn:0<n):∀ f {p:Array Nat} (_:Pl n p) k,qbz n (Pl n) (kas_bin f p k)
 | 0,_,h,_=>h
 | f+1,p,h,k=>qbz.bind (R:=fun _=>True) (fun l _=>qfN hn f (h.of_perm (bubble_perm _ _ _)) _) (qaL hn h k _ _ _)
theorem fits_sort {n:Nat} (hn:0<n):qbz n (Pl n) (kas_sort n) :=
 qbz.bind (R:=fun r=>Pl n r.2) (fun r hr=>by
  split
  ·exact qfN hn _ hr _
  ·exact hr) (qgB hn ⟨by simp,by simp⟩ _)
def ord (ks:List Int):List Nat:=if ks.length<2 then List.range ks.length else (uY (fun i j=>decide (ks.getD i 0<ks.getD j 0)) (kas_sort ks.length)).toList
theorem ord_perm (ks:List Int):(ord ks).Perm (List.range ks.length):=by
 unfold ord
 split
 ·exact .refl _
 ·exact (qbz.run (fits_sort (by omega))).2
def qoo {α:Type} [Inhabited α] (ks:List Int) (xs:List α):List α:=(ord ks).map fun i=>xs.getD i default
theorem map_getD_range {α:Type} (d:α) (xs:List α):(List.range xs.length).map (fun i=>xs.getD i d)=xs:=by
 refine List.ext_getElem (by simp) fun i h1 h2 => ?_
 simp at h1 |-
 simp [h1]
theorem byKeys_perm {α:Type} [Inhabited α] {ks:List Int} {xs:List α} (h:ks.length=xs.length):(qoo ks xs).Perm xs:=by
 have:=(ord_perm ks).map fun i=>xs.getD i default
 rw [h,map_getD_range] at this
 exact this
section
variable {prog:Program} {w:World} {A:Around} {s:Shared}
theorem qei {vs:List Value} {ks:List Int} (hk:IntsAre vs ks) {i:Nat} (hi:i<ks.length):∃ t,vs.getD i Value.none = .int (ks.getD i 0) t:=by
 obtain ⟨t,e⟩:=hk.get i ks[i] (gG hi)
 exact ⟨t,by simp [List.getD,e,hi]⟩
theorem wp_run {α:Type} {vs:List Value} {ks:List Int} {R:α->Prop} {G:α->Shared->Prop} (hk:IntsAre vs ks):∀ {t:KasT α},qbz ks.length R t->G (uY (fun i j=>decide (ks.getD i 0<ks.getD j 0)) t) s->t.kasWp (kas_ask prog w A oneType' vs) G s
 | .ret _,_,h=>h
 | .ask i j k,⟨h1,h2,h3⟩,h=>by
  obtain ⟨t1,e1⟩:=qei hk h1
  obtain ⟨t2,e2⟩:=qei hk h2
  show wpAny (model prog w) A (keyLt' oneType' (vs.getD i Value.none) (vs.getD j Value.none)) _ _ s
  rw [e1,e2]
  exact kat_lt_int (wp_run hk (h3 _) h)
end
end L2.Srt
set_option maxHeartbeats 1000000
namespace L2
open PySem PySem.Spec PyProof.Rows
structure SS (X:Cx) (H0:Hp) (s0:Shared) (H:Hp) (s:Shared):Prop where
 os:s.os=s0.os
 bare:AllBare s.gens
 un:Un (frs X.stack) [] H0 H s0.heap s.heap
 hok:HOk X.prog X.w H s.heap
 same:jp H0 H
section
variable {X:Cx} {pins:List (Addr×Obj)} {Z:St} {H0 H:Hp} {s0 s:Shared} {h':Heap} {b a kS:Addr}
theorem SS.inv (z:SS X H0 s0 H s) (I:Inv X pins Z H0 s0):Inv X pins Z H s:=by
 obtain ⟨hh,g,d,t,os'⟩:=s
 obtain rfl:os'=s0.os:=z.os
 exact I.call (h':=hh) (g':=g) (d':=d) (t':=t) (ch:=[]) z.un z.hok z.bare (fun b z=>absurd z (by simp))
theorem SS.of (I:Inv X pins Z H s):SS X H s H s:=⟨rfl,I.bare,.refl,I.hok,fun _ _ h=>h⟩
theorem SS.kept (z:SS X H0 s0 H s) (k:∀ b u,s.heap.get? b=some u->h'.get? b=some u) (tk:Nat):SS X H0 s0 H { s with heap:=h',toks:=tk } :=
 ⟨z.os,z.bare,z.un.trans (Un.kept k),z.hok.kept k,z.same⟩
theorem SS.poke (z:SS X H0 s0 H s) (hb:H b=none) (hb0:s0.heap.objs.size<=b) (sb:Heap.SameBut b s.heap h') (tk:Nat):SS X H0 s0 H { s with heap:=h',toks:=tk }:=by
 have ne:∀ c o,s0.heap.get? c=some o->c≠b:=fun c o e=>Nat.ne_of_lt (Nat.lt_of_lt_of_le (Heap.lt_size e) hb0)
 refine ⟨z.os,z.bare,⟨fun c o e n f x=>(sb.2 c (ne c o e)).trans (z.un.keep c o e n f x),fun c o e n f x => ?_,z.un.free,fun c o e x => ?_,z.un.tups,z.un.frzs,z.un.tbls⟩,fun c u q => ?_,z.same⟩
 ·obtain ⟨sl,q⟩:=z.un.slot c o e n f x
  exact ⟨sl,(sb.2 c (ne c o e)).trans q⟩
 ·obtain ⟨o',q⟩:=z.un.there c o e x
  exact ⟨o',(sb.2 c (ne c o e)).trans q⟩
 ·refine (z.hok c u q).stay (fun d v hd r=>(sb.2 d ?_).trans r) (fun _ q=>q) fun _ _ q=>q
  rintro rfl
  rcases hd with rfl | hd
  ·rw [hb] at q;cases q
  ·rw [hb] at hd;cases hd
theorem SS.call {Q:VK} {u:Value} {s':Shared} (z:SS X H0 s0 H s) (h:CE X.stack X.prog X.w H s Q u s') (hq:∀ v H',Q v H'->jp H H'):∃ v H',jI v u/\Q v H'/\SS X H0 s0 H' s'/\Un (frs X.stack) [] H H' s.heap s'.heap:=by
 obtain ⟨v,H',os,bare,un,hok,r,q⟩:=h
 exact ⟨v,H',r,q,⟨os.trans z.os,bare,z.un.trans un,hok,fun b o e=>hq v H' q b o (z.same b o e)⟩,un⟩
end
section
variable {X:Cx} {H0 H:Hp} {s0 s:Shared} {a kS:Addr} {A:Around} {E:Value->Shared->Prop} {f:Value} {vs:List Value} {ks:List Int} {e1:Nat} {P:PySem.Fin->Shared->Prop}
abbrev ql4 (ks:List Int) (vs:List Value):List Value:=(Srt.ord ks).map fun i=>vs.getD i Value.none
theorem qfO (h:ks.length=vs.length):(ql4 ks vs).length=vs.length:=by
 rw [lM_,(Srt.ord_perm ks).length_eq,lR_,h]
abbrev ql5 (X:Cx) (H0:Hp) (s0:Shared) (A:Around) (f v:Value) (k:Int):Prop:=∀ s' H',SS X H0 s0 H' s' ->
 wpAny (model X.prog X.w) A (call f [v]) (fun u s2=>(∃ t,u = .int k t)/\∃ H2,SS X H0 s0 H2 s2/\Un (frs X.stack) [] H' H2 s'.heap s2.heap) (fun _ _=>False) s'
abbrev qfP (X:Cx) (H0:Hp) (s0:Shared) (a:Addr) (out:List Value) (P:PySem.Fin->Shared->Prop):Prop :=
 ∀ H' s' c,SS X H0 s0 H' s'->H' a=none->s'.heap.get? a=some (seqObj "list" out.toArray c)->P (.done (.ret .none)) s'
theorem qfQ {st:SortSt} {out:List Value} {kA:Array Value} {e:Nat} (z:SS X H0 s0 H s) (gk:s.heap.get? kS=some (seqObj "list" kA e)) (ga:s.heap.get? a=some (seqObj "list" #[] e1)) (nk:H kS=none) (na:H a=none)
  (lk:s0.heap.objs.size<=kS) (la:s0.heap.objs.size<=a) (hka:kS≠a) (hkz:kA.size<64) (hoz:out.length<64) (ho:(arrOf st).map (·.2)=out.toArray) (hf:failedOf st=none) (fin:qfP X H0 s0 a out P) :
  wpAny (model X.prog X.w) A (ksk_tail a false e1 (.ref kS) st) P E s:=by
 have sb1:=Heap.SameBut.update s.heap kS (Obj.mapSeq fun _=>(#[]:Array Value))
 have ga1:=(sb1.2 a hka.symm).trans ga
 have z1:=z.poke nk lk sb1 s.toks
 have sb2:=Heap.SameBut.update (s.heap.update kS (Obj.mapSeq fun _=>(#[]:Array Value))) a (Obj.mapSeq fun _=>out.toArray)
 have z2:=z1.poke na la sb2 s.toks
 unfold ksk_tail
 dsimp only
 rw [ho]
 refine wpAny_bind (listUpdate_at gk rfl ?_ (by rw [sizeLine_eq];omega) (Nat.zero_le _))
 refine wpAny_bind (wpAny_letGo (wpAny_bind (seqEpoch_at ga1 rfl ?_)))
 refine wpAny_bind (listUpdate_at ga1 rfl ?_ (Nat.zero_le _) (by show (out.toArray).size<=_;rw [sT_,sizeLine_eq];omega))
 rw [hf]
 simp only [bne_self_eq_false,Bool.false_eq_true,if_false]
 exact wpAny_pure (fin H _ _ z2 na (get?_update_seq ga1 fun _=>out.toArray))
theorem ql6 {kA:Array Value} {e:Nat} (z:SS X H0 s0 H s) (gk:s.heap.get? kS=some (seqObj "list" kA e)) (ga:s.heap.get? a=some (seqObj "list" #[] e1)) (nk:H kS=none) (na:H a=none)
  (lk:s0.heap.objs.size<=kS) (la:s0.heap.objs.size<=a) (hka:kS≠a) (hk:IntsAre kA.toList ks) (hlen:ks.length=vs.length) (h64:vs.length<64) (fin:qfP X H0 s0 a (ql4 ks vs) P) :
  wpAny (model X.prog X.w) A (ksk_end a false vs.toArray e1 (.ref kS) kA) P E s:=by
 have hkz:kA.size=vs.length:=by
  have h1:=hk.length
  rw [Array.length_toList] at h1
  omega
 unfold ksk_end
 dsimp only
 rw [if_neg (by decide)]
 by_cases h2:vs.length<2
 ·have h2':vs.toArray.size<2:=by rw [sT_];exact h2
  rw [if_pos h2',if_pos h2']
  refine wpAny_bind (wpAny_pure ?_)
  rw [StateT.run_pure]
  refine wpAny_bind (wpAny_pure ?_)
  dsimp only
  refine qfQ z gk ga nk na lk la hka (by omega) (by rw [qfO hlen];exact h64) ?_ rfl fin
  have e0:ql4 ks vs=vs:=by
   show (Srt.ord ks).map _=vs
   unfold Srt.ord
   rw [if_pos (by omega),hlen]
   exact Srt.map_getD_range _ vs
  rw [e0]
  apply Array.toList_inj.mp
  show ((kA.zip vs.toArray).map (·.2)).toList=vs.toArray.toList
  rw [Array.toList_map,ksk_zip,List.map_snd_zip (Nat.le_of_eq (by rw [Array.length_toList];exact hkz.symm))]
 ·have h2':¬ vs.toArray.size<2:=by rw [sT_];exact h2
  rw [if_neg h2',if_neg h2',ksk_kind hk (by omega)]
  refine wpAny_bind (wpAny_pure ?_)
  have ekA:kA=kA.toList.toArray:=by simp
  rw [ekA]
  have hl:kA.toList.length=vs.length:=by rw [Array.length_toList];exact hkz
  refine wpAny_bind (wpAny_mono (PySem.W.kat_run (Q:=fun st' s'=>s'=s/\(arrOf st').map (·.2)=(ql4 ks vs).toArray/\failedOf st'=none) (G:=fun p s'=>s'=s/\p.toList=Srt.ord ks) hl (by omega) h64 (fun p st' s' a1 a2 a3 a4 => ?_) ?_) ?_ fun _ _ x=>x)
  ·refine ⟨a4.1,?_,a3⟩
   rw [PySem.W.kat_snds hl a2,a4.2]
  ·have ft:=Srt.fits_sort (n:=ks.length) (by omega)
   rw [<- hlen]
   refine Srt.wp_run hk ft ⟨rfl,?_⟩
   unfold Srt.ord
   rw [if_neg (by omega)]
  ·rintro ⟨⟨⟩,st'⟩ s' ⟨rfl,h3,h4⟩
   dsimp only
   exact qfQ z gk ga nk na lk la hka (by omega) (by rw [qfO hlen];exact h64) h3 h4 fin
theorem qjF (z:SS X H0 s0 H s) (gk:s.heap.get? kS=some (seqObj "list" #[] 0)) (ga:s.heap.get? a=some (seqObj "list" #[] e1)) (nk:H kS=none) (na:H a=none)
  (lk:s0.heap.objs.size<=kS) (la:s0.heap.objs.size<=a) (hka:kS≠a) (hlen:ks.length=vs.length) (h64:vs.length<64) (hfr:∀ b∈frs X.stack,b<s0.heap.objs.size)
  (turn:∀ (i:Nat) (v:Value) (k:Int),vs[i]? = some v->ks[i]? = some k->ql5 X H0 s0 A f v k) (fin:qfP X H0 s0 a (ql4 ks vs) P):wpAny (model X.prog X.w) A (ksk_rest a f false vs.toArray e1 (.ref kS)) P E s:=by
 have nf:∀ c,s0.heap.objs.size<=c->c ∉ frs X.stack:=fun c hc hm=>absurd (Nat.lt_of_lt_of_le (hfr c hm) hc) (Nat.lt_irrefl _)
 unfold ksk_rest
 refine wpAny_bind (wpAny_rule ?_)
 rw [List.forIn_toArray]
 refine wpAny_bind (ksk_fold (fun i s'=>∃ H' kA e,SS X H0 s0 H' s'/\H' kS=none/\H' a=none/\s'.heap.get? kS=some (seqObj "list" kA e)/\s'.heap.get? a=some (seqObj "list" #[] e1)/\IntsAre kA.toList (ks.take i)) vs 0 s
  ⟨H,#[],0,z,nk,na,gk,ga,by simpa using IntsAre.nil⟩ ?step ?done)
 case step =>
  rintro j x s' hx ⟨H',kA,e,z',k1,a1,g1,g2,hi⟩
  rw [Nat.zero_add] at hi |-
  have hj:j<vs.length:=(gI_.mp hx).1
  obtain ⟨k,hkj⟩:∃ k,ks[j]? = some k:=⟨_,gG (by omega)⟩
  have hz:kA.size<=vs.length:=by
   have h1:=hi.length
   rw [Array.length_toList,List.length_take] at h1
   omega
  refine wpAny_bind (wpAny_attempt (wpAny_mono (turn j x k hx hkj s' H' z') (fun v s2 hv => ?_) fun _ _ hF=>hF.elim))
  obtain ⟨⟨t,rfl⟩,H2,z2,u2⟩:=hv
  dsimp only
  have gk2:=u2.keep kS _ g1 k1 (nf kS lk) (by simp)
  have ga2:=u2.keep a _ g2 a1 (nf a la) (by simp)
  have nk2:=u2.free kS _ g1 k1 (by simp)
  have na2:=u2.free a _ g2 a1 (by simp)
  have sb:=Heap.SameBut.update s2.heap kS (Obj.mapSeq (·.push (.int k t)))
  refine wpAny_bind (listUpdate_at gk2 rfl ?_ (by rw [sizeLine_eq];omega) (by show (kA.push _).size<=_;rw [Array.size_push,sizeLine_eq];omega))
  refine wpAny_pure ⟨rfl,H2,kA.push (.int k t),_,z2.poke nk2 lk sb s2.toks,nk2,na2,get?_update_seq gk2 (·.push (.int k t)),(sb.2 a hka.symm).trans ga2,?_⟩
  have ek:ks.take (j+1)=ks.take j++[k]:=by rw [List.take_add_one,hkj];simp
  have ea:(kA.push (Value.int k t)).toList=kA.toList++[Value.int k t]:=by simp
  rw [ea,ek]
  exact ksk_snoc hi
 case done =>
  rintro s' ⟨H',kA,e,z',k1,a1,g1,g2,hi⟩
  have e3:ks.take (0+vs.length)=ks:=List.take_of_length_le (by omega)
  rw [e3] at hi
  refine wpAny_bind (listItems_at g1 rfl ?_)
  exact ql6 z' g1 g2 k1 a1 lk la hka hi hlen h64 fin
theorem qjG {n:Nat} (z:SS X H0 s0 H s) (ho:s.heap.get? a=some (seqObj "list" vs.toArray n)) (na:H a=none) (la:s0.heap.objs.size<=a) (hs0:s0.heap.objs.size<=s.heap.objs.size) (hlen:ks.length=vs.length) (h64:vs.length<64) (hfr:∀ b∈frs X.stack,b<s0.heap.objs.size)
  (turn:∀ (i:Nat) (v:Value) (k:Int),vs[i]? = some v->ks[i]? = some k->ql5 X H0 s0 A f v k) (fin:qfP X H0 s0 a (ql4 ks vs) P):wpAny (model X.prog X.w) A (ksk_tree a f false) P E s:=by
 have hlt:a<s.heap.objs.size:=Heap.lt_size ho
 have sb:=Heap.SameBut.update s.heap a (Obj.mapSeq fun _=>(#[]:Array Value))
 obtain ⟨e1,ho1⟩:∃ e1,(s.heap.update a (Obj.mapSeq fun _=>(#[]:Array Value))).get? a=some (seqObj "list" #[] e1):=⟨_,get?_update_seq ho fun _ => #[]⟩
 have z1:=z.poke na la sb s.toks
 have hsz:((s.heap.update a (Obj.mapSeq fun _=>(#[]:Array Value))).push (seqObj "tuple" vs.toArray 0)).objs.size=s.heap.objs.size+1:=by rw [size_push',Heap.size_update]
 unfold ksk_tree
 refine wpAny_bind (listItems_at ho rfl (wpAny_bind (listUpdate_at ho rfl ?_ (by rw [sT_,sizeLine_eq];omega) (Nat.zero_le _))))
 refine wpAny_bind (seqEpoch_at ho1 rfl (wpAny_bind (wpAny_newTuple ?_ (by show vs.length<=_;rw [sizeLine_eq];omega))))
 refine wpAny_bind (wpAny_newList (wpAny_holding ?_) (Nat.zero_le _))
 have kp:∀ b u,(s.heap.update a (Obj.mapSeq fun _=>(#[]:Array Value))).get? b=some u->(((s.heap.update a (Obj.mapSeq fun _=>(#[]:Array Value))).push (seqObj "tuple" vs.toArray 0)).push (seqObj "list" #[] 0)).get? b=some u :=
  fun b u q=>Heap.get?_push_of_some _ (Heap.get?_push_of_some _ q)
 have z3:=z1.kept kp s.toks
 refine qjF (kS:=((s.heap.update a (Obj.mapSeq fun _=>(#[]:Array Value))).push (seqObj "tuple" vs.toArray 0)).objs.size) z3 (Heap.get?_push_size _ rfl) (kp _ _ ho1) ?_ na (by rw [hsz];omega) la (by rw [hsz];exact Nat.ne_of_gt (Nat.lt_succ_of_lt hlt)) hlen h64 hfr turn fin
 cases q:H ((s.heap.update a (Obj.mapSeq fun _=>(#[]:Array Value))).push (seqObj "tuple" vs.toArray 0)).objs.size with
 | none=>rfl
 | some u =>
  have:=z.hok.lt q
  rw [hsz] at this
  exact absurd (Nat.lt_of_succ_lt this) (Nat.lt_irrefl _)
end
section
variable {X:Cx} {pins:List (Addr×Obj)} {Z:St} {H:Hp} {s:Shared} {l f:Addr} {vs:List Value} {ks:List Int} {Q:Value->Shared->Prop} {E:Value->Shared->Prop}
theorem qgC (I:Inv X pins Z H s) (hl:s.heap.IsList l vs.toArray) (hlen:ks.length=vs.length) (h64:vs.length<64) (turn:∀ (i:Nat) (v:Value) (k:Int),vs[i]? = some v->ks[i]? = some k->ql5 X H s X.A.in1.in1 (.ref f) v k)
  (fin:∀ D H' s' c,s.heap.objs.size<=D->SS X H s H' s'->H' D=none->s'.heap.get? D=some (seqObj "list" (ql4 ks vs).toArray c)->Q (.ref D) s'):wpAny (model X.prog X.w) X.A (call (.builtin "sorted") [.ref l] [(Str.ofString "key",.ref f)]) Q E s:=by
 refine call_function_entry_kw kind_sorted plain_sorted entry_sorted (ksk_s1 _ _) ?_
 unfold Builtin.«sorted»
 refine wpAny_bind (m:=checkCount "sorted" 1 1 _) (wpAny_pure (wpAny_bind (collect_list hl ?_ (by rw [sizeLine_eq];omega))))
 refine wpAny_bind (wpAny_newList ?_ (by rw [sizeLine_eq];omega))
 have hsz:((s.heap.push (seqObj "list" #[] 0)).update s.heap.objs.size (Obj.mapSeq (·++vs.toArray))).objs.size=s.heap.objs.size+1:=by rw [Heap.size_update,size_push']
 have hD:(((s.heap.push (seqObj "list" #[] 0)).update s.heap.objs.size (Obj.mapSeq (·++vs.toArray))).push (seqObj "list" vs.toArray 0)).get? (s.heap.objs.size+1)=some (seqObj "list" vs.toArray 0):=by rw [<- hsz];exact Heap.get?_push_size _ rfl
 have keep:∀ b o,s.heap.get? b=some o->(((s.heap.push (seqObj "list" #[] 0)).update s.heap.objs.size (Obj.mapSeq (·++vs.toArray))).push (seqObj "list" vs.toArray 0)).get? b=some o:=fun b o q=>by
  have hb:=Heap.lt_size q
  rw [Heap.get?_push_ne _ _ _ (by rw [hsz];exact Nat.ne_of_lt (Nat.lt_succ_of_lt hb)),Heap.get?_update_ne _ _ _ _ (Nat.ne_of_lt hb),Heap.get?_push_ne _ _ _ (Nat.ne_of_lt hb)]
  exact q
 have z:=(SS.of I).kept keep s.toks
 have hfr:∀ b∈frs X.stack,b<s.heap.objs.size:=fun b hb=>by
  obtain ⟨_,o,ho,_⟩:=I.stack.mem hb
  exact Heap.lt_size ho
 have hszs:s.heap.objs.size<=(((s.heap.push (seqObj "list" #[] 0)).update s.heap.objs.size (Obj.mapSeq (·++vs.toArray))).push (seqObj "list" vs.toArray 0)).objs.size:=by rw [size_push',hsz];omega
 show wpAny _ _ _ _ _ { s with heap:=((s.heap.push (seqObj "list" #[] 0)).update s.heap.objs.size (Obj.mapSeq (·++vs.toArray))).push (seqObj "list" vs.toArray 0) }
 rw [hsz]
 refine wpAny_bind (wpAny_holding (wpAny_call_entry_kw slot_list_sort ⟨_,hD,rfl⟩ entry_list_sort ?body (ksk_l1 _ _)))
 case body =>
  show wpAny (model X.prog X.w) X.A.in1.in1 (Builtin.«list.sort» ⟨[.ref (s.heap.objs.size+1)],[(Str.ofString "key",.ref f)]⟩) _ _ _
  rw [ksk_t1]
  refine qjG (X:=X) (H0:=H) (s0:=s) (H:=H) z hD (I.hok.fresh (Nat.le_succ _)) (Nat.le_succ _) hszs hlen h64 hfr turn fun H' s' c z' n' g'=>⟨_,rfl,?_⟩
  exact wpAny_pure ⟨_,rfl,fin _ H' s' c (Nat.le_succ _) z' n' g'⟩
end
end L2
set_option maxHeartbeats 1000000
namespace L2
open PySem PySem.Spec PyProof.Rows
def CallKS (X:Cx) (f:Value) (ks:List Str) (r:St->List V->List V->Hp->VK->Prop):Prop:=∀ (pins:List (Addr×Obj)) (s:Shared) (Z:St) (H:Hp) (xs:List V) (us:List Value) (zs:List V) (ws:List Value) (Q:VK),
 Inv X pins Z H s->zd xs us->zd zs ws->r Z xs zs H Q->wpAny (model X.prog X.w) X.A (call f us (ks.zip ws)) (EP X pins Z Q) X.xe s
theorem qhX {X:Cx} {x:Str} {p pos:Pos} {e:Expr} {es:List Expr} {kws:List Keyword} {t tk:TA} {id:String} {ks:List Str} {r:St->List V->List V->Hp->VK->Prop} (hc:CallKS X (.builtin id) ks r) (hg:Gl X x) (hm:X.mg x=none) (hv:bootBuiltins x=some (.builtin id)) (ha:PA X (e::es) t) (hkw:PK X kws tk)
  (hall:(backToKw pos (keywordEach kws X.env)).all (·.1.isSome)=true:=by rfl) (hks:(backToKw pos (keywordEach kws X.env)).filterMap (·.1)=ks:=by rfl) (hn:x≠"__name__":=by decide) (hdb:(x==("__debug__":Str))=false:=by decide)
  (he:starEach (e::es) X.env=(false,eval e X.env)::starEach es X.env:=by rfl) (hpl:((backTo pos (starEach (e::es) X.env)).any (·.1)||(backToKw pos (keywordEach kws X.env)).any (·.1.isNone))=false:=by rfl) :
  PE X (.Call (.Name x p) (e::es) kws pos) (fun Z H Q=>t Z H fun vs H1=>tk Z H1 fun zs H2=>r Z vs zs H2 Q):=by
 intro pins s Z H Q I h
 refine wpAny_Call_Name_kw (qa5 I hg hm hv ?_ hn hdb)
 refine PySem.W.callWith_of (P:=fun _=>True) hpl (fun _ _=>⟨.machine,.inr (.inl rfl),.now⟩) (evalArgs_kw2 hall (thn (ha pos pins s Z H _ I h) fun us s1 ⟨vs,H1,I1,r1,q1⟩ => ?_) he)
 refine thn (hkw pos pins s1 Z H1 _ I1 q1) fun ws s2 ⟨zs,H2,I2,rz,q2⟩=>⟨trivial,?_⟩
 rw [hks,List.nil_append]
 exact hc pins s2 Z H2 vs us zs ws Q I2 r1 rz q2
def qop (X:Cx) (N':List Str) (fr:List Nat) (q:Str) (params:Arguments) (body:Expr) (scope:Scope):St->List V->List V->Hp->VK->Prop:=fun Z xs zs H Q =>
 ∃ (a f kc:Addr) (ys:List V) (oc:Obj) (vs:Array Value) (t:Tok) (cl:List (Str×Addr)) (pm ctv:Value) (ks:List Int) (ws:List V),xs=[.ref a]/\zs=[.ref f]/\SqL X.K H a ys/\ys.length<64/\ks.length=ys.length /\
  H f=some (.frz (PySem.W.kla_obj "<lambda>" q params body scope cl pm kc ctv) (.own f))/\H kc=some (.frz oc (.own kc))/\oc.data = .fields vs/\vs[1]? = some (.str q t) /\
  (∀ n a,cl.lookup n=some a->X.env.cells.lookup n=some a)/\(∀ y∈scope.names,y.2 = .free->∃ a,cl.lookup y.1=some a)/\ws.length=fr.length/\(∀ (k j:Nat),fr[k]? = some j->∃ y,ws[k]? = some y/\Z[j]? = some (some y)) /\
  (∀ (i:Nat) (y:V) (k:Int),ys[i]? = some y->ks[i]? = some k->∀ H' s',jp H H'->∃ tb,PE (qhV X N' q scope cl f kc X.A.in1.in1 s' H') body tb/\tb (ja N' (y::ws)) H' (fun v H2=>v = .int k/\jp H' H2)) /\
  ∀ H' p,jp H H'->H' p=none->Q (.ref p) (upd H' p (.lst ((Srt.ord ks).map fun i=>ys.getD i .non)))
theorem qej {ys:List V} {its:List Value} (r:zd ys its):∀ l:List Nat,(∀ i∈l,i<ys.length)->zd (l.map fun i=>ys.getD i .non) (l.map fun i=>its.getD i Value.none)
 | [],_ => .nil
 | i::l,h=>by
  refine .cons ?_ (qej r l fun j hj=>h j (mM_ _ hj))
  have hi:=h i mS_
  obtain ⟨u,hu,rv⟩:=r.get (gG hi)
  have e1:ys.getD i V.non=ys[i]:=by simp [hi]
  have e2:its.getD i Value.none=u:=by simp [List.getD,hu]
  show jI (ys.getD i V.non) (its.getD i Value.none)
  rw [e1,e2]
  exact rv
section
variable {X:Cx} {N':List Str} {fr:List Nat} {q x:Str} {params:Arguments} {body:Expr} {scope:Scope} {k:Nat}
theorem qgD (S:Sk.CompScope X scope N' 1 fr) (hc:X.calm=true) (hr:vv k X.A) (hb:∀ cl pm cd ctv u,bindArgs (PySem.W.kla_fn "<lambda>" q params body scope cl pm cd ctv) ⟨[u],[]⟩=pure [(x,u)])
  (hx:N'[0]? = some x) (hxl:scope.names.lookup x=some .local) (hco:scope.isCoroutine=false) (hgen:scope.isGenerator=false):CallKS X (.builtin "sorted") [Str.ofString "key"] (qop X N' fr q params body scope):=by
 intro pins s Z H xs us zs wz Q I rx rz h
 obtain ⟨a,f,kc,ys,oc,vs,t,cl,pm,ctv,ks,ws,rfl,rfl,hs,h64,hlen,hf,hk,hd,hv,cl1,cl2,hwl,hws,key,hq⟩:=h
 cases rx with
 | cons ra rr =>
 cases rr
 cases rz with
 | cons rf rr =>
 cases rr
 cases ra
 cases rf
 obtain ⟨its,r,ht,hz⟩:=I.list hs
 have hl:=r.length
 refine qgC (ks:=ks) I ht.isList (by omega) (by omega) (fun i v k' hvi hki s' H' z => ?_) fun D H' s' c hD z' n' g' => ?_
 ·have hi:i<ys.length:=by rw [hl];exact (gI_.mp hvi).1
  obtain ⟨u,hu,ry⟩:=r.get (gG hi)
  rw [hvi] at hu;cases hu
  obtain ⟨tb,pb,qb⟩:=key i ys[i] k' (gG hi) hki H' s' z.same
  refine thn (qjE (A:=X.A.in1.in1) S (z.inv I) (z.same _ _ hf) (z.same _ _ hk) hd hv cl1 cl2 (I.ok.hd hc) I.ok.frames hr.depth (hb _ _ _ _) hx hxl hco hgen ry hwl hws pb qb) fun u s2 ce => ?_
  obtain ⟨v',H2,r2,⟨rfl,sm⟩,z2,u2⟩:=z.call ce fun v H' q=>q.2
  obtain ⟨t2,rfl⟩:=r2
  exact ⟨⟨t2,rfl⟩,H2,z2,u2⟩
 ·have hpl:∀ i∈Srt.ord ks,i<ys.length:=fun i hi=>by
   have:=(Srt.ord_perm ks).mem_iff.mp hi
   rw [<- hlen];exact mR_.mp this
  have hnone:s.heap.get? D=none:=Heap.get?_none_of_le hD
  have rp:=qej r (Srt.ord ks) hpl
  have ol:((Srt.ord ks).map fun i=>ys.getD i V.non).length<=sizeLine:=by
   rw [lM_,(Srt.ord_perm ks).length_eq,lR_,sizeLine_eq];omega
  have ne':∀ c u,H' c=some u->c≠D:=fun c u q z=>by rw [z,n'] at q;cases q
  have hok:HOk X.prog X.w (upd H' D (.lst ((Srt.ord ks).map fun i=>ys.getD i .non))) s'.heap:=fun b u e=>by
   by_cases hbD:b=D
   ·subst hbD
    rw [qt] at e;cases e
    exact ⟨ol,_,_,rp,g'⟩
   ·rw [qu hbD] at e
    exact (z'.hok b u e).stay (fun _ _ _ q=>q) (fun c q=>by rw [qu (ne' c _ q)];exact q) (fun c xs q=>by rw [qu (ne' c _ q)];exact q) fun c ob y q=>by rw [qu (ne' c _ q)];exact q
  have un:=Sk.un_held (o := .lst ((Srt.ord ks).map fun i=>ys.getD i .non)) z'.un hnone n'
  have zz:SS X H s (upd H' D (.lst ((Srt.ord ks).map fun i=>ys.getD i .non))) s':=⟨z'.os,z'.bare,un,hok,fun b o e=>qak n' b o (z'.same b o e)⟩
  exact ⟨.ref D,_,zz.inv I,rfl,hq H' D z'.same n'⟩
end
end L2
namespace L2.Sk
open PySem PySem.Spec PyProof.Rows
def qmM (U:Env):List Nat->Option (List D)
 | []=>some []
 | j::fr=>match U[j]?,qmM U fr with
  | some (some d),some ds=>some (d::ds)
  | _,_=>none
def qb5 (g:M D) (n:Nat) (cs:List D):List D->Option (List Int)
 | []=>some []
 | d::ds=>match g (ux n (d::cs)),qb5 g n cs ds with
  | .ok (.int k,_),some ks=>some (k::ks)
  | _,_=>none
def qe2 (l:List Nat) (ds:List D):List D:=l.map fun i=>ds.getD i .non
def qfR (n:Nat) (fr:List Nat) (f g:M D):M D:=bnd f fun d U=>match d with
 | .lst ds=>if ds.length<64 then match qmM U fr with
   | some cs=>match qb5 g n cs ds with
    | some ks => .ok (.lst (qe2 (Srt.ord ks) ds),U)
    | none => .bad
   | none => .bad
  else .bad
 | _ => .bad
theorem qek {g:M D} {n:Nat} {cs:List D}:∀ {ds:List D} {ks:List Int},qb5 g n cs ds=some ks->ks.length=ds.length
 | [],ks,h=>by cases h;rfl
 | d::ds,ks,h=>by
  unfold qb5 at h
  split at h
  ·rename_i e2;cases h;rw [lC_,lC_,qek e2]
  ·cases h
theorem qel {g:M D} {n:Nat} {cs:List D}:∀ {ds:List D} {ks:List Int} {i:Nat} {d:D} {k:Int},qb5 g n cs ds=some ks->ds[i]? = some d->ks[i]? = some k->∃ U,g (ux n (d::cs)) = .ok (.int k,U)
 | [],_,_,_,_,_,h,_=>by simp at h
 | d0::ds,ks,i,d,k,h,h1,h2=>by
  unfold qb5 at h
  split at h
  ·rename_i k0 U0 ks0 e1 e2
   cases h
   cases i with
   | zero =>
    have a1:d0=d:=by simpa using h1
    have a2:k0=k:=by simpa using h2
    subst a1 a2
    exact ⟨_,e1⟩
   | succ i=>exact qel e2 (by simpa using h1) (by simpa using h2)
  ·cases h
theorem qhY {K:Fr0} {c:Fc} {U:Env} {Z:St} {H:Hp} (r:Rep K c U Z H):∀ {fr:List Nat} {cs:List D},qmM U fr=some cs->(∀ j∈fr,j ∉ c.O) ->
  ∃ ws,ws.length=fr.length/\(∀ (k j:Nat),fr[k]? = some j->∃ y,ws[k]? = some y/\Z[j]? = some (some y))/\IsL K (Cn c Z) H cs ws
 | [],cs,h,_=>by cases h;exact ⟨[],rfl,fun k j e=>by simp at e,rfl⟩
 | j0::fr,cs,h,ho=>by
  unfold qmM at h
  split at h
  ·rename_i d ds e1 e2
   cases h
   obtain ⟨ws,a1,a2,a3⟩:=qhY r e2 fun j hj=>ho j (mM_ _ hj)
   obtain ⟨v,b1,b2⟩:=r.get (ho j0 mS_) e1
   refine ⟨v::ws,by rw [lC_,lC_,a1],fun k j e => ?_,v,ws,rfl,b2,a3⟩
   cases k with
   | zero =>
    have:j0=j:=by simpa using e
    subst this
    exact ⟨v,rfl,b1⟩
   | succ k=>exact a2 k j (by simpa using e)
  ·cases h
theorem IsL.pick {K:Fr0} {A:Addr->Prop} {H:Hp} {ds:List D} {xs:List V} (il:IsL K A H ds xs):∀ l:List Nat,(∀ i∈l,i<ds.length)->IsL K A H (qe2 l ds) (l.map fun i=>xs.getD i .non)
 | [],_=>rfl
 | i::l,h=>by
  have hi:=h i mS_
  obtain ⟨y,hy,iy⟩:=il.get (gG hi)
  refine ⟨xs.getD i .non,_,rfl,?_,IsL.pick il l fun j hj=>h j (mM_ _ hj)⟩
  have e1:ds.getD i D.non=ds[i]:=by simp [hi]
  have e2:xs.getD i V.non=y:=by simp [List.getD,hy]
  rw [e2]
  show Is K A H (ds.getD i D.non) y
  rw [e1]
  exact iy
section
variable {X:Cx} {c:Fc} {e:Expr} {p pos kpos lpos:Pos} {N':List Str} {fr:List Nat} {x:Str} {params:Arguments} {body:Expr} {scope:Scope} {k:Nat} {c0 Pt:Addr}
theorem qjH {f g:M D} (he:DE X c e f) (S:CompScope X scope N' 1 fr) (hfo:∀ j∈fr,j ∉ c.O) (hr:vv k X.A) (hg:Gl X "sorted") (hm:X.mg "sorted"=none) (hcode:X.env.code = .ref c0) (hC:PySem.W.codeHdIn X.K c0 Pt=true) (hlm:qcu X.K=some (c0,Pt,lpos))
  (hb:∀ cl f kc s' H' B,DE (qhV X N' qmE scope cl f kc X.A.in1.in1 s' H') (cfn [] [] B H' (fun _=>False) (fun _ _=>False) fun _=>none) body g)
  (hc:X.calm=true:=by rfl) (hq:X.env.qual++"<lambda>"=qmE:=by rfl) (hdef:defaultsOf params X.env=([],[]):=by rfl)
  (hbind:∀ cl pm cd ctv u,bindArgs (PySem.W.kla_fn "<lambda>" qmE params body scope cl pm cd ctv) ⟨[u],[]⟩=pure [(x,u)]:=by intros;rfl)
  (hx:N'[0]? = some x:=by rfl) (hxl:scope.names.lookup x=some .local:=by rfl) (hco:scope.isCoroutine=false:=by rfl) (hgen:scope.isGenerator=false:=by rfl)
  (hst:starEach [e] X.env=(false,eval e X.env)::starEach [] X.env:=by rfl) (hpl:((backTo pos (starEach [e] X.env)).any (·.1)||(backToKw pos (keywordEach [⟨some "key",.Lambda params body scope lpos,kpos⟩] X.env)).any (·.1.isNone))=false:=by rfl) :
  DE X c (.Call (.Name "sorted" p) [e] [⟨some "key",.Lambda params body scope lpos,kpos⟩] pos) (qfR N'.length fr f g):=by
 obtain ⟨te,pe,we⟩:=he
 refine ⟨_,qhX (qgD S hc hr hbind hx hxl hco hgen) hg hm rfl (u3 pe qcK hst) (qli (qon hq hcode hC S.frees hdef) qnk) (he:=hst) (hpl:=hpl),fun U Z H Q r h => ?_⟩
 refine we U Z H _ r (Wp.bnd h fun d U1 v H1 r1 i1 g1 h1 => ?_)
 refine ⟨(r1.tb _ _ _ hlm).1,fun f kc oc vs t cl pm ctv H2 sm hf hk hd hv cl1 cl2 => ?_⟩
 have r2:=r1.same sm
 cases d<;>try exact h1.elim
 rename_i ds
 by_cases h64:ds.length<64
 case neg=>simp only [h64,if_false] at h1;exact h1.elim
 simp only [h64,if_true] at h1
 cases hcp:qmM U1 fr with
 | none=>simp only [hcp] at h1;exact h1.elim
 | some cs =>
  simp only [hcp] at h1
  cases hks:qb5 g N'.length cs ds with
  | none=>simp only [hks] at h1;exact h1.elim
  | some ks =>
   simp only [hks] at h1
   obtain ⟨ws,w1,w2,w3⟩:=qhY r2 hcp hfo
   have hl:=qek hks
   have i2:Is X.K (Cn c Z) H2 (.lst ds) v:=Is.ext (Ext.of_same sm) (fun _ h _=>h) i1
   obtain ⟨a,ys,rfl,hA,ta,il⟩:=i2
   have hyl:=il.length
   refine ⟨a,f,kc,ys,oc,vs,t,cl,pm,ctv,ks,ws,rfl,rfl,.inl (.inl ta),by omega,by omega,hf,hk,hd,hv,cl1,cl2,w1,w2,fun i y k' hy hki H' s' sm' => ?_,fun H' p' sm' hp => ?_⟩
   ·obtain ⟨tb,pb,wb⟩:=hb cl f kc s' H' (Cn c Z)
    have hi:i<ds.length:=by rw [<- hyl];exact (gI_.mp hy).1
    obtain ⟨y',e1,e2⟩:=il.get (gG hi)
    rw [hy] at e1;cases e1
    obtain ⟨U',eg⟩:=qel hks (gG hi) hki
    have il':IsL X.K (Cn c Z) H' (ds[i]::cs) (y::ws):=⟨y,ws,rfl,Is.ext (Ext.of_same sm') (fun _ h _=>h) e2,IsL.ext (Ext.of_same sm') (fun _ h _=>h) w3⟩
    refine ⟨tb,pb,wb (ux N'.length (ds[i]::cs)) (ja N' (y::ws)) H' _ (qbT il' (r2.same sm').tb fun i hi=>by cases hi) ?_⟩
    rw [eg]
    exact fun v' H3 r3 i3 g3=>⟨i3,fun b o q=>g3.ext.at_ b o (fun j hj=>by cases hj) q⟩
   ·have r3:=r2.same sm'
    have hpl:∀ i∈Srt.ord ks,i<ds.length:=fun i hi=>by
     have:=(Srt.ord_perm ks).mem_iff.mp hi
     rw [<- hl];exact mR_.mp this
    have ip:=IsL.pick (IsL.ext (Ext.of_same sm') (fun _ h _=>h) il) (Srt.ord ks) hpl
    have smA:jp H1 (upd H' p' (.lst ((Srt.ord ks).map fun i=>ys.getD i .non))):=fun b o q=>qy hp _ b o (sm' b o (sm b o q))
    exact h1 _ _ (r3.laid hp _) ⟨p',_,rfl,r3.new hp,qt,IsL.ext (Ext.of_same (qy hp _)) (fun _ h _=>h) ip⟩ (.of_same smA)
theorem qjI {n:Nat} {fr:List Nat} {f g:M D} {U U1:Env} {ds cs:List D} {ks:List Int} (h:f U = .ok (.lst ds,U1)) (h64:ds.length<64) (hc:qmM U1 fr=some cs) (hk:qb5 g n cs ds=some ks):qfR n fr f g U = .ok (.lst (qe2 (Srt.ord ks) ds),U1):=by
 unfold qfR bnd
 simp only [h,h64,if_true,hc,hk]
end
end L2.Sk
namespace L2
open PySem PySem.Spec PyProof.Rows
theorem walk_lam {l:PySem.W.OpenLaw} {n k:Nat} {q:Program} {loose:List Str} {XP:(Str->Option Value)->Heap->Prop} {YP:World->Heap->Prop} {d:DefRec} {K:Params->PySem.W.Frag} {CX:World->CXT} {sp:World->Sp} {x:Str}
  (hn:l.most=some n) (hn2:n<=sizeLine) (hdf:d.params.defaults=[]) (hr:vv k callerA)
  (hY:∀ (w:World) (h:Heap),YP w h->(K w.params).In h) {lm:World->Option (Addr×Addr×Pos×Str)}
  (hlm:∀ (w:World) (mean:ExcName->Option Value) (mg mb:Str->Option Value) (h:Heap) (c Pt:Addr) (pos:Pos) (z:Str),Top q (PySem.W.looseW q loose) mean mg mb h->(K w.params).In h->lm w=some (c,Pt,pos,z) ->
   PySem.W.CodeHd h c Pt/\h.get? Pt=some (PySem.W.tabObj #[])/\(K w.params).lookup Pt=none)
  (F : ∀ (w:World) (mg:Str->Option Value) (fa:Addr) (h:Heap),(K w.params).In h->h.Ns mainGlobals mg->mg d.name=some (.ref fa) ->
   ∃ fd:FuncData,(∀ (s:Shared) (u:Value),BindsTo s fd ⟨[u],[]⟩ [(x,u)]) /\
    ∀ base:Heap,(K w.params).In base->base.Ns mainGlobals mg->qct l.prog w (K w.params) mg base (CX w) k fa fd [x] (sp w))
  (hsp:∀ (w:World) (H:Hp) (a:Addr) (ns:List Int),ns.length<=n->qoP H->(∀ c Pt pos z,lm w=some (c,Pt,pos,z)->H Pt=some (.lam pos z))->SqL (K w.params) H a (ns.map V.int)->sp w [.ref a] H (fun v _=>v = .bl true) fun _ _ _=>False)
  (hCX:∀ (w:World) (H:Hp) (s:Shared) (e:Value) (s':Shared),CX w [] H s (fun _ _ _=>False) e s'->False) :
  PySem.W.WalkO q loose XP YP l.row.toRowW d [] (fun f vs=>PySem.call f vs):=by
 refine Att.attach_call hn hdf fun w s₀ sJ mg mb fa o pm cd doc a vs ns G Y ho hd hcd hmg hobj hints hlen hg => ?_
 have KX:=hY w _ Y
 obtain ⟨fd,hb,hF⟩:=F w mg fa _ KX G.T.g hmg
 exact qi1 (lm:=lm w) KX G.T.g G.T.b G.T.builtins G.T.nolimit G.T.bmain (fun c Pt pos z=>hlm w _ mg mb _ c Pt pos z G.T KX) hg hobj hints (Nat.le_trans hlen hn2) hr hF hb (fun H hO hT hS=>hsp w H a ns hlen hO hT hS) fun H e s'=>hCX w H sJ e s'
end L2
namespace L2.Sk
open PySem PySem.Spec PyProof.Rows
theorem ql7 {K:Fr0} {c Pt:Addr} {pos:Pos} (hl:qcu K=some (c,Pt,pos)):PySem.W.tabIn K "dearest_first"=some (c,Pt):=by
 unfold qcu at hl
 split at hl
 ·rename_i c' P' f e1 e2
  split at hl
  ·cases h3:qkg (FuncData.body _) with
   | none=>rw [h3] at hl;cases hl
   | some p3=>rw [h3] at hl;cases hl;exact e1
  ·cases hl
 ·cases hl
theorem lam_table {q:Program} {loose:List Str} {mean:ExcName->Option Value} {mg mb:Str->Option Value} {h:Heap} {K:Fr0} {c Pt:Addr} {pos:Pos} {d:DefRec} (T:Top q loose mean mg mb h) (X:K.In h) (hl:qcu K=some (c,Pt,pos))
  (hd:(recsOf q).find? (fun e=>e.name==("dearest_first":Str))=some d) (hK:PySem.W.noTabs K=true):PySem.W.CodeHd h c Pt/\h.get? Pt=some (PySem.W.tabObj #[])/\K.lookup Pt=none:=by
 have ht:=ql7 hl
 obtain ⟨h1,h2⟩:=PySem.W.tab_of T X hd ht
 refine ⟨h1,h2,?_⟩
 cases e:K.lookup Pt with
 | none=>rfl
 | some o =>
  have e2:=X _ _ e
  rw [h2] at e2
  cases e2
  have h3:=List.all_eq_true.mp hK (Pt,PySem.W.tabObj #[]) (PySem.W.mem_of_lookupK e)
  exact absurd (show false=true from h3) Bool.false_ne_true
section
variable {P:Program} {w:World} {K:PySem.W.Frag} {mg:Str->Option Value} {base:Heap}
theorem qjJ {x qual:Str} {st:Stmt} {f:Addr} {fd:FuncData} {N ps:List Str} {k:Nat} {O:List Nat} {body:MS} (F:Fun K x qual st f fd) (S:qp N ps (qe st)) (hO:∀ i∈O,ps.length<=i)
  (hb:∀ (A:Around) (outer:List PySem.Env) (s:Shared) (H:Hp) (E:XK) (B:Addr->Prop),vv k (A.deeper (envOfC qual (qe st) s.heap.objs.size f fd.code)) ->
   DSs (qiX CX0 P w K mg base N qual (qe st) f fd.code A outer s H E).nox (cfn O [] B H (fun _=>False) (fun _ _=>False) fun _=>none) (qo st) body) :
  qct P w K mg base CX0 (k+1) f fd ps (spD K (dfn N.length ps.length body)):=by
 obtain ⟨oc,od,kV,doc,pm,an,cdv,ct,osl,rfl,lk,hcd⟩:=F.ex
 refine qnl lk hcd S (fun vs H Q E h => ?_) fun A outer s H vs Q E hr h => ?_
 ·obtain ⟨ds,B,il,_,h⟩:=h
  unfold dfn at h
  by_cases e:ds.length=ps.length
  ·rw [il.length];exact e
  ·rw [if_neg e] at h;exact h.elim
 ·obtain ⟨ds,B,il,tb,h⟩:=h
  obtain ⟨t,p,wt⟩:=hb A outer s H E B hr
  refine ⟨t,p.nox,?_⟩
  unfold dfn at h
  by_cases e:ds.length=ps.length
  ·rw [if_pos e] at h
   refine wt (ux N.length ds) (ja N vs) H _ (qbT il tb (fun i hi=>by rw [e];exact hO i hi)) ?_
   have same:∀ {U:Env} {Z:St} {H':Hp},Rep K (cfn O [] B H (fun _=>False) (fun _ _=>False) fun _=>none) U Z H'->jp H H':=fun r b o hb=>r.kp b o hb fun z=>z
   cases eb:body (ux N.length ds) with
   | bad=>rw [eb] at h;exact h.elim
   | exc z U=>rw [eb] at h;exact h.elim
   | ok fl =>
    rw [eb] at h
    cases fl with
    | nx U=>exact fun Z' H' r' _=>h .non H' (same r') rfl
    | rt d U=>exact fun v Z' H' r' i' _=>h v H' (same r') i'
    | bk U=>exact h.elim
    | ct U=>exact h.elim
  ·rw [if_neg e] at h;exact h.elim
end
section
variable {X:Cx} {c:Fc} {a b e:Expr} {pos:Pos}
def qpB (i:Nat) (f:M D):M D:=fun U=>match zD i U with
 | none => .bad
 | some _=>(bnd f fun d U=>match d,(zD i U).bind wG with
  | .int b,some ns=>match ns.findIdx? (·==b) with
   | some j => .ok (.non,U.set i (some (.lst ((ns.eraseIdx j).map D.int))))
   | none => .bad
  | _,_ => .bad) U
end
end L2.Sk
namespace L2.Sk
open PySem PySem.Spec PyProof.Rows
section
variable {X:Cx}
end
def qrb:D->D->Option D
 | .bl a,.bl b=>some (.bl (a==b))
 | _,_=>none
end L2.Sk
namespace L2
open PySem PySem.Spec PyProof.Rows
section
variable {X:Cx} {pos:Pos}
end
end L2
namespace L2.Sk
open PySem PySem.Spec PyProof.Rows
section
variable {X:Cx} {c:Fc}
end
end L2.Sk
set_option maxHeartbeats 1000000
namespace L2
open PySem PySem.Spec PyProof.Rows
abbrev qkL:=Int×Int×List Int
def lt3 (x y:qkL):Bool:=if x.1=y.1 then if x.2.1=y.2.1 then HT.lexLt x.2.2 y.2.2 else decide (x.2.1<y.2.1) else decide (x.1<y.1)
def qpC (ks:List qkL) (k:qkL):Int:=((ks.countP fun y=>lt3 y k:Nat):Int)
def qpD (ks:List qkL):List Int:=ks.map (qpC ks)
section
variable {X:Cx} {pins:List (Addr×Obj)} {Z:St} {H:Hp} {s:Shared}
end
section
variable {prog:Program} {w:World} {A:Around} {E:Value->Shared->Prop} {s:Shared}
end
section
variable {X:Cx} {pins:List (Addr×Obj)} {Z:St} {H0 H:Hp} {s0 s:Shared} {a kS:Addr} {A:Around} {E:Value->Shared->Prop} {f:Value} {vs:List Value} {ks:List qkL} {e1:Nat} {P:PySem.Fin->Shared->Prop}
end
section
variable {X:Cx} {pins:List (Addr×Obj)} {Z:St} {H:Hp} {s:Shared} {l f:Addr} {vs:List Value} {ks:List qkL} {Q:Value->Shared->Prop} {E:Value->Shared->Prop}
end
end L2
namespace L2
open PySem PySem.Spec PyProof.Rows
section
variable {X:Cx} {k:Nat} {f:Addr} {fd:FuncData} {x:Str} {F:List Sk.D->Sk.R Sk.D}
end
end L2
namespace L2.Sk
open PySem PySem.Spec PyProof.Rows
def qqZ:D->Option qkL
 | .tup [.int a,.int b,.tup ts]=>match wG ts with
  | some ns=>some (a,b,ns)
  | none=>none
 | _=>none
def qoq (F:List D->R D):List D->Option (List qkL)
 | []=>some []
 | d::ds=>match F [d],qoq F ds with
  | .ok k,some ks=>match qqZ k with
   | some k=>some (k::ks)
   | none=>none
  | _,_=>none
def qqk (F:List D->R D) (f:M D):M D:=bnd f fun d U=>match d with
 | .lst ds=>if ds.length<64 then match qoq F ds with
   | some ks => .ok (.lst (qe2 (Srt.ord (qpD ks)) ds),U)
   | none => .bad
  else .bad
 | _ => .bad
section
variable {X:Cx} {c:Fc} {e:Expr} {p pos kpos p2:Pos} {x:Str} {k:Nat}
end
end L2.Sk
namespace L2.Sk
namespace Law
open PySem PySem.Spec PyProof.Rows
set_option maxHeartbeats 4000000
theorem qkM (ds:List D) (r:Env):zD 0 (some (.lst ds)::r)=some ds:=rfl
theorem qkN (i:Nat) (o:Option D) (r:Env):zD (i+1) (o::r)=zD i r:=rfl
theorem ix0 (a b c:D):ixD (.tup [a,b,c]) (.int 0)=some a:=rfl
theorem ix1 (a b c:D):ixD (.tup [a,b,c]) (.int 1)=some b:=rfl
theorem ix2 (a b c:D):ixD (.tup [a,b,c]) (.int 2)=some c:=rfl
theorem qb6 (i j:Int):neB (.int i) (.int j)=some (.bl (!decide (i=j))):=rfl
theorem vB (i j:Int):eqB (.int i) (.int j)=some (.bl (decide (i=j))):=rfl
theorem qb7 (ds:List D):qeS (tyD (.tup ds)) "tuple"=true:=rfl
theorem u9 (ds:List D):wy [.tup ds]=some (.int ds.length):=rfl
theorem qfS (d:D):isN d .non=some (.bl (ue d)):=rfl
theorem qhZ (d:D):qnA d .non=some (.bl (!ue d)):=rfl
theorem vC (i j:Int):gtD (.int i) (.int j)=some (.bl (decide (j<i))):=rfl
theorem wM (i j:Int):ltD (.int i) (.int j)=some (.bl (decide (i<j))):=rfl
theorem qe3 (i j:Int):leD (.int i) (.int j)=some (.bl (decide (i<=j))):=rfl
local macro_rules | `(tactic| push_cast [$xs,*]) => `(tactic| simp only [ux, qbV, qqb, zX, qbW, qkx, qky, qoU, qpr, qbX, jt, qkz, qeX, uj, qag, qfC, qea, qfD, qjo, qhx, qjp, qeb, vA, qbd, qbY, qbZ, qfE, qhy, qkB, uA, qec, qhz, qhA, qb0, qhB, qhC, qeY, qhD, qeZ, qkC, qb1, qn2, qhE, lC_, lN_, mC_, List.map_nil, List.replicate, List.nil_append, List.cons_append, List.append_nil, List.getElem?_cons_zero, List.getElem?_cons_succ, List.set_cons_zero, List.set_cons_succ, Nat.reduceAdd, Nat.reduceSub, Nat.sub_self, Nat.zero_add, reduceIte, Bool.not_true, Bool.not_false, Bool.false_eq_true, if_true, if_false, ite_true, ite_false, cond_true, cond_false, decide_true, decide_false, ix0, ix1, ix2, qb7, u9, qb6, vB, qfS, qhZ, vC, wM, qe3, qkM, qkN, qfI, qfJ, qfK, qkG, qhP, qb3, $xs,*])
theorem yC {n p:Nat} {body:MS} {ds:List D} {d:D} (h:ds.length=p) (e:∃ U,body (ux n ds) = .ok (.rt d U)):dfn n p body ds = .ok d:=by
 obtain ⟨U,e⟩:=e
 exact qlP h e
def qh0:D->Bool
 | .int _=>true
 | _=>false
def uk:D->Bool
 | .int i=>decide (0<=i)
 | _=>false
def qh1:D->Bool
 | .int i=>decide (0<i)
 | _=>false
def vE:D->Bool
 | .tup [a,b,c]=>qh1 a&&uk b&&(ue c||uk c)
 | _=>false
theorem qq0 {ds:List D} (h:ds.length=3):∃ a b c,ds=[a,b,c]:=by
 match ds,h with
 | [a,b,c],_=>exact ⟨a,b,c,rfl⟩
theorem qgE {ds:List D} (h:ds.length≠3):vE (.tup ds)=false:=by
 match ds,h with
 | [],_=>rfl
 | [_],_=>rfl
 | [_,_],_=>rfl
 | [a,b,c],h=>exact absurd rfl h
 | _::_::_::_::_,_=>rfl
theorem qk {p q:MS} {U U':Env} (h:p U = .ok (.nx U')):qQ p q U=q U':=by rw [qkA,h]
theorem qbe {p q:MS} {U U':Env} {d:D} (h:p U = .ok (.rt d U')):qQ p q U = .ok (.rt d U'):=by rw [qkA,h]
theorem qor {e:M D} {f:D->D}:∀ (ds acc:List D) (o:Option D),(∀ d∈ds,e [some d] = .ok (f d,[some d]))->acc.length+ds.length<=1000->∃ U',z6 (qB 0) (ret true) e ds acc [o] = .ok (acc++ds.map f,U')
 | [],acc,o,_,_=>⟨[o],by simp [z6]⟩
 | d::ds,acc,o,h,hl=>by
  have hl':acc.length+(ds.length+1)<=1000:=hl
  obtain ⟨U',q⟩:=qor ds (acc++[f d]) (some d) (fun x hx=>h x (mM_ _ hx)) (by rw [lA_,List.length_singleton];omega)
  refine ⟨U',?_⟩
  unfold z6
  simp only [qB,List.set_cons_zero,ret,h d mS_,yN (show acc.length+1<=1000000 by omega),if_true,q]
  simp
theorem qem (f:D->Bool):∀ ds:List D,uL (ds.map fun d=>D.bl (f d))=some (ds.map f)
 | []=>rfl
 | d::ds=>by simp [uL,qem f ds]
theorem all_map {ds:List D} {f:D->Bool}:qmH [.lst (ds.map fun d=>D.bl (f d))]=some (.bl (ds.all f)):=by
 simp only [qmH,qem,Option.map_some]
 congr 2
 rw [List.all_map]
 rfl
theorem ql8 {F:List D->R D} {f:D->Bool} {xs:M (List D)} {ds:List D} {U:Env} (hx:xs U = .ok (ds,U)) (hF:∀ d∈ds,F [d] = .ok (.bl (f d))) (hl:ds.length<=1000) :
  qW qmH (qa (zW 1 [] none xs (qB 0) (ret true) (qg F (qa (dv 0) (ret [])))) (ret [])) U = .ok (.bl (ds.all f),U):=by
 obtain ⟨U',q⟩:=qor (e:=qg F (qa (dv 0) (ret []))) (f:=fun d=>D.bl (f d)) ds [] none (fun x hm=>by push_cast [];rw [hF x hm]) (by simpa using hl)
 have q':z6 (qB 0) (ret true) (qg F (qa (dv 0) (ret []))) ds [] (yp 1 [] U) = .ok ([]++ds.map fun d=>D.bl (f d),U'):=q
 simp only [qbX,zX,qdc,hx,q',qbV,List.nil_append,all_map]
 rfl
def wN:D->Bool
 | .tup ds=>decide (ds.length<=12)&&ds.all vE
 | _=>false
def leI:D->D->Bool
 | .int i,.int j=>decide (i<=j)
 | _,_=>false
def qpE (k x:D):Bool:=match k with
 | .tup [_,_,m]=>uk x&&(ue m||leI x m)
 | _=>false
def qfT:List D->List D->Bool
 | k::ks,x::xs=>qpE k x&&qfT ks xs
 | _,_=>true
def qql:D->D->Bool
 | .tup xs,.tup ks=>decide (xs.length=ks.length)&&qfT ks xs
 | _,_=>false
theorem qfU:∀ bs:List Bool,uL (bs.map D.bl)=some bs
 | []=>rfl
 | b::bs=>by simp [uL,qfU bs]
theorem qfV {ds:List D} {i:Nat} {d:D} (h:ds[i]? = some d):ixD (.tup ds) (.int (i:Nat))=some d:=by
 have hi:i<ds.length:=(gI_.mp h).1
 show atI ds (i:Int)=some d
 unfold atI ixN
 rw [if_pos (by omega),if_pos (by omega)]
 simpa using h
theorem yO {l:M (List D)} {U U1:Env} {j:Int} (e:l U = .ok ([.int j],U1)) (h0:0<=j) (h:j<=1000000):ug l U = .ok (qc6 0 j.toNat,U1):=by
 have h1:(-(2 ^ 62)<=j):=by omega
 have h2:(j<2 ^ 62):=by omega
 have e2:qkp [.int j]=some (qc6 0 j.toNat):=by
  simp only [qkp,h1,h2,decide_true,Bool.and_self,if_true]
 have e3:ug l U=lift (qkp [.int j]) U1:=by
  show bnd l (fun ds=>lift (qkp ds)) U=_
  rw [qpq,e]
 rw [e3,e2]
 rfl
theorem qh2 {n m:Int} (h0:0<m) (h1:m<1606938044258990275541962092341162602522202993782792835301376):qbP [.int n,.int m]=some (.tup [.int (n/m),.int (n%m)]):=by
 simp only [qbP,qgq,h0,h1,decide_true,Bool.and_self,if_true]
theorem at0 (d:D) (r:List D):atI (d::r) 0=some d:=by
 unfold atI ixN
 rw [if_pos (by omega),if_pos (by simp)]
 rfl
theorem qq1:ixN 1 0=some 0:=by decide
theorem yP (i j:Int):jy (.int i) (.int j)=some (.int (i+j)):=rfl
theorem qan (i j:Int):qhe (.int i) (.int j)=some (.int (i-j)):=rfl
theorem qos {ds:List D} {k:Int} (h0:0<=k) (h1:k<ds.length):∃ d∈ds,ixD (.lst ds) (.int k)=some d:=by
 obtain ⟨i,rfl⟩:=Int.eq_ofNat_of_zero_le h0
 have hi:i<ds.length:=by omega
 refine ⟨ds[i],List.getElem_mem hi,?_⟩
 show atI ds (i:Int)=_
 unfold atI ixN
 rw [if_pos (by omega),if_pos (by omega)]
 show ds[(i:Int).toNat]? = _
 rw [Int.toNat_natCast,gG hi]
theorem qfW (j:Nat):(qc6 0 j).length=j:=by simp [qc6]
theorem v8 {i j:Int} (h:0<j):qcN (.int i) (.int j)=some (.int (i%j)):=by
 simp only [qcN,qmF,h,decide_true,if_true]
theorem qen {i j:Int} (h:0<j) (h1:j<1606938044258990275541962092341162602522202993782792835301376):qaD (.int i) (.int j)=some (.int (i/j)):=by
 simp only [qaD,qmF,qgq,h,h1,decide_true,Bool.and_self,if_true]
theorem qh3 {i j:Int} (h:yI i=true):jX (.int i) (.int j)=some (.int (i*j)):=by
 simp only [jX,qhf,h,Bool.true_or,if_true]
theorem qjK {i j:Int} (h:yI j=true):jX (.int i) (.int j)=some (.int (i*j)):=by
 simp only [jX,qhf,h,Bool.or_true,if_true]
def facts:List Int:=[48271,69621,16807,39373,30269,40014,40692,50021,61687,71993,83869,95561,30307]
structure qrc (w e:Nat) (d:D):Prop where
 lv:(yJ d).leavesShort 40=true
 sh:(yJ d).showable=true
 wt:(yJ d).weight<=w
 dp:(yJ d).depth<=e
def plain (d:D):Bool := !(yJ d).hasDict&&noL d
theorem neg_int (i:Int):qkt (.int i)=some (.int (-i)):=rfl
theorem qbA {xs ys:List D} (h:xs.length+ys.length<=1000000):jy (.tup xs) (.tup ys)=some (.tup (xs++ys)):=by
 simp only [jy,yN h,if_true]
def pt (p:Int):D->Int
 | .tup [.int a,.int b,_]=>if p=0 then a else b
 | _=>0
def num:D->Int
 | .int x=>x
 | _=>0
def qpF (p:Int):List D->List D->List Int
 | k::ks,x::xs=>(pt p k*num x)::qpF p ks xs
 | _,_=>[]
theorem qdh:∀ ns:List Int,wG (ns.map D.int)=some ns
 | []=>rfl
 | n::ns=>by simp [wG,qdh ns]
theorem qgF (xs:List D):qd4 [.lst xs]=some (.tup xs):=rfl
theorem qot {F:List D->R D} {f g h:M D} {U:Env} {a b c d:D} (hf:f U = .ok (a,U)) (hg:g U = .ok (b,U)) (hh:h U = .ok (c,U)) (e:F [a,b,c] = .ok d):qg F (qa f (qa g (qa h (ret [])))) U = .ok (d,U):=by
 have e1:qa h (ret []) U = .ok ([c],U):=by rw [zX,hh];rfl
 have e2:qa g (qa h (ret [])) U = .ok ([b,c],U):=by rw [zX,hg];dsimp only;rw [e1]
 have e3:qa f (qa g (qa h (ret []))) U = .ok ([a,b,c],U):=by rw [zX,hf];dsimp only;rw [e2]
 rw [jt,e3]
 dsimp only
 rw [e]
theorem ul {F:List D->Option D} {f:M D} {U:Env} {a d:D} (hf:f U = .ok (a,U)) (e:F [a]=some d):qW F (qa f (ret [])) U = .ok (d,U):=by
 have e0:qa f (ret []) U = .ok ([a],U):=by rw [zX,hf];rfl
 rw [qbX,e0]
 dsimp only
 rw [e]
theorem qjL (i j:Int):qgr [.int i,.int j]=some (.int (if j<i then j else i)):=rfl
theorem sl_tup (xs:List D) (a b:Option Int):slD (.tup xs) a b=some (.tup (qeL xs a b)):=rfl
theorem qjM {α:Type} {e:M D} {t:M Bool} {k f:α->D} {p:α->Bool} {r:Env}:∀ (as:List α) (acc:List D) (o:Option D),(∀ a∈as,t (some (k a)::r) = .ok (p a,some (k a)::r))->(∀ a∈as,p a=true->e (some (k a)::r) = .ok (f a,some (k a)::r))->acc.length+as.length<=1000000 ->
  ∃ o',z6 (qB 0) t e (as.map k) acc (o::r) = .ok (acc++(as.filter p).map f,o'::r)
 | [],acc,o,_,_,_=>⟨o,by simp [z6]⟩
 | a::as,acc,o,ht,he,hl=>by
  have hl':acc.length+(as.length+1)<=1000000:=hl
  have h1:=ht a mS_
  rw [mC_]
  unfold z6
  simp only [qB,List.set_cons_zero,h1]
  cases hp:p a with
  | false =>
   obtain ⟨o',q⟩:=qjM as acc (some (k a)) (fun x hx=>ht x (mM_ _ hx)) (fun x hx=>he x (mM_ _ hx)) (by omega)
   refine ⟨o',?_⟩
   simp only [q,ft_,hp,Bool.false_eq_true,if_false]
  | true =>
   obtain ⟨o',q⟩:=qjM as (acc++[f a]) (some (k a)) (fun x hx=>ht x (mM_ _ hx)) (fun x hx=>he x (mM_ _ hx)) (by rw [lA_,List.length_singleton];omega)
   refine ⟨o',?_⟩
   simp only [he a mS_ hp,yN (show acc.length+1<=1000000 by omega),if_true,q,ft_,hp,mC_,aA_,List.singleton_append]
theorem qeo {α:Type} {e:M D} {t:M Bool} {k:α->D} {xs:M (List D)} {U r:Env} {fr:List Nat} (as:List α) (p:α->Bool) (f:α->D) (hx:xs U = .ok (as.map k,U)) (hr:yp 1 fr U=none::r) (hl:as.length<=1000000)
  (ht:∀ a∈as,t (some (k a)::r) = .ok (p a,some (k a)::r)) (he:∀ a∈as,p a=true->e (some (k a)::r) = .ok (f a,some (k a)::r)):zW 1 fr none xs (qB 0) t e U = .ok (.lst ((as.filter p).map f),U):=by
 obtain ⟨o',q⟩:=qjM as [] none ht he (by simpa using hl)
 rw [qdc,hx]
 simp only [hr,q,List.nil_append]
 rfl
theorem qb8 {α:Type} (as:List α):as.filter (fun _=>true)=as:=by simp
theorem qcR {α:Type} {e:M D} {k:α->D} {xs:M (List D)} {U r:Env} {fr:List Nat} (as:List α) (f:α->D) (hx:xs U = .ok (as.map k,U)) (hr:yp 1 fr U=none::r) (hl:as.length<=1000000)
  (he:∀ a∈as,e (some (k a)::r) = .ok (f a,some (k a)::r)):zW 1 fr none xs (qB 0) (ret true) e U = .ok (.lst (as.map f),U):=by
 rw [qeo as (fun _=>true) f hx hr hl (fun _ _=>rfl) fun a ha _=>he a ha,qb8]
theorem vF {α β:Type} {G:D->Env->Option Env} {b:MS} {k:α->D} {step:β->α->β} {Inv:Nat->β->Env->Prop}:∀ (as:List α) (n:Nat) (s:β) (U:Env),Inv n s U ->
  (∀ a∈as,∀ m s U,n<=m->m<n+as.length->Inv m s U->∃ U1 U2,G (k a) U=some U1/\b U1 = .ok (.nx U2)/\Inv (m+1) (step s a) U2) ->
  ∃ U',uh G b (as.map k) U = .ok (.nx U')/\Inv (n+as.length) (as.foldl step s) U'
 | [],n,s,U,h,_=>⟨U,rfl,h⟩
 | a::as,n,s,U,h,H=>by
  obtain ⟨U1,U2,h1,h2,h3⟩:=H a mS_ n s U (Nat.le_refl _) (by rw [lC_];omega) h
  obtain ⟨U',q,w⟩:=vF as (n+1) (step s a) U2 h3 fun x hx m s U m1 m2=>H x (mM_ _ hx) m s U (by omega) (by rw [lC_];omega)
  refine ⟨U',?_,?_⟩
  ·rw [mC_]
   unfold uh
   simp only [h1,h2]
   exact q
  ·rw [lC_,show n+(as.length+1)=n+1+as.length by omega]
   exact w
theorem vG {f:M D} {U:Env} {a:D} (hf:f U = .ok (a,U)):qa f (ret []) U = .ok ([a],U):=by rw [zX,hf];rfl
theorem qe4 {f g:M D} {U:Env} {a b:D} (hf:f U = .ok (a,U)) (hg:g U = .ok (b,U)):qa f (qa g (ret [])) U = .ok ([a,b],U):=by rw [zX,hf];simp only [vG hg]
theorem qou {f g h:M D} {U:Env} {a b c:D} (hf:f U = .ok (a,U)) (hg:g U = .ok (b,U)) (hh:h U = .ok (c,U)):qa f (qa g (qa h (ret []))) U = .ok ([a,b,c],U):=by rw [zX,hf];simp only [qe4 hg hh]
theorem qoY {f g:M D} {U:Env} {a b:D} (hf:f U = .ok (a,U)) (hg:g U = .ok (b,U)):qbv (qa f (qa g (ret []))) U = .ok (.tup [a,b],U):=by rw [qbW,qe4 hf hg];simp only [lC_,lN_,yN (show 0+1+1<=1000000 by omega),if_true]
theorem qqm {f g h:M D} {U:Env} {a b c:D} (hf:f U = .ok (a,U)) (hg:g U = .ok (b,U)) (hh:h U = .ok (c,U)):qbv (qa f (qa g (qa h (ret [])))) U = .ok (.tup [a,b,c],U):=by rw [qbW,qou hf hg hh];simp only [lC_,lN_,yN (show 0+1+1+1<=1000000 by omega),if_true]
theorem vH {F:List D->R D} {f:M D} {U:Env} {a d:D} (hf:f U = .ok (a,U)) (e:F [a] = .ok d):qg F (qa f (ret [])) U = .ok (d,U):=by rw [jt,vG hf];simp only [e]
theorem zN {F:List D->R D} {f g:M D} {U:Env} {a b d:D} (hf:f U = .ok (a,U)) (hg:g U = .ok (b,U)) (e:F [a,b] = .ok d):qg F (qa f (qa g (ret []))) U = .ok (d,U):=by rw [jt,qe4 hf hg];simp only [e]
theorem qi {F:D->D->Option D} {f g:M D} {U:Env} {a b d:D} (hf:f U = .ok (a,U)) (hg:g U = .ok (b,U)) (e:F a b=some d):d2 F f g U = .ok (d,U):=by rw [qoU,hf];simp only [hg,e]
theorem qY {f:M D} {U:Env} {b:Bool} (hf:f U = .ok (.bl b,U)):tst f U = .ok (b,U):=by rw [qeX,hf];rfl
theorem qqn {t:M Bool} {p q:MS} {U:Env} (h:t U = .ok (true,U)):sif t p q U=p U:=by rw [qeb,h];rfl
theorem qfX {t:M Bool} {p q:MS} {U:Env} (h:t U = .ok (false,U)):sif t p q U=q U:=by rw [qeb,h];rfl
theorem qep {i:Nat} {f:M D} {U:Env} {ds:List D} {d:D} (h:zD i U=some ds) (hf:f U = .ok (d,U)) (hi:imm d=true) (hl:ds.length<1000000):zK (jo i f) U = .ok (.nx (U.set i (some (.lst (ds++[d]))))):=by
 simp only [qbZ,qb1,h,hf,hi,yN (show ds.length+1<=1000000 by omega),Bool.and_self,if_true]
theorem vI {G:D->Env->Option Env} {b:MS} {d:D} {ds:List D} {U U1 U2:Env} (h1:G d U=some U1) (h2:b U1 = .ok (.nx U2)):uh G b (d::ds) U=uh G b ds U2:=by
 show (match G d U with | none=>R.bad | some U1=>_)=_
 rw [h1]
 simp only [h2]
theorem io1 {F:List D->List D->R (D×List D)} {i:Nat} {f:M D} {U:Env} {ds ds':List D} {a d:D} (h:zD i U=some ds) (hf:f U = .ok (a,U)) (e:F ds [a] = .ok (d,ds')):qF F i (qa f (ret [])) U = .ok (d,U.set i (some (.lst ds'))):=by
 simp only [qb0,h,vG hf,e]
theorem qqo {i j:Nat} {f g:M D} {U U1 U2:Env} {a b:D} (hf:f U = .ok (a,U1)) (hg:g U1 = .ok (b,U2)):qjn i j (qa f (qa g (ret []))) U = .ok (.nx ((U2.set i (some a)).set j (some b))):=by
 rw [qhy,zX,hf]
 simp only [zX,hg,qbV]
def mD:Option Int->D
 | none => .non
 | some j => .int j
abbrev Kd:=Int×Int×Option Int
def kD (x:Kd):D := .tup [.int x.1,.int x.2.1,mD x.2.2]
theorem qkO (m:Option Int):imm (mD m)=true:=by cases m<;>rfl
theorem qov (x:Kd):imm (kD x)=true:=by
 simp only [kD,imm,immL,qkO,Bool.and_self]
def okK (x:Kd):Prop:=0<x.1/\0<=x.2.1/\(∀ j,x.2.2=some j->0<=j)
theorem qeq {x:Kd} (h:okK x):vE (kD x)=true:=by
 obtain ⟨a,b,m⟩:=x
 obtain ⟨h1,h2,h3⟩:=h
 have e1:qh1 (.int a)=true:=decide_eq_true h1
 have e2:uk (.int b)=true:=decide_eq_true h2
 cases m with
 | none=>simp only [kD,mD,vE,e1,e2,ue,Bool.true_and,Bool.true_or]
 | some j =>
  have e3:uk (.int j)=true:=decide_eq_true (h3 j rfl)
  simp only [kD,mD,vE,e1,e2,e3,Bool.true_and,Bool.or_true]
theorem qaM {ks:List Kd} (h:∀ x∈ks,okK x) (hl:ks.length<=12):wN (.tup (ks.map kD))=true:=by
 have:(ks.map kD).all vE=true:=by
  rw [List.all_map]
  exact List.all_eq_true.mpr fun x hx=>qeq (h x hx)
 simp only [wN,lM_,hl,decide_true,this,Bool.true_and]
theorem ql9 (x:Kd):ixD (kD x) (.int 0)=some (.int x.1):=rfl
theorem qma (x:Kd):ixD (kD x) (.int 1)=some (.int x.2.1):=rfl
theorem qmb (x:Kd):ixD (kD x) (.int 2)=some (mD x.2.2):=rfl
theorem qfY (m:Option Int):ue (mD m)=m.isNone:=by cases m<;>rfl
theorem qcS {α:Type} {ds:List α} {n:Nat} {d:α} (h:ds[n]? = some d):atI ds (n:Int)=some d:=by
 unfold atI ixN
 have hl:=(gI_.mp h).1
 rw [if_pos (by omega),if_pos (by omega)]
 show ds[(n:Int).toNat]? = _
 rw [Int.toNat_natCast];exact h
theorem qdi {α:Type} {as:List α} {f:α->Bool}:qje [.lst (as.map fun a=>D.bl (f a))]=some (.bl (as.any f)):=by
 have:uL (as.map fun a=>D.bl (f a))=some (as.map f):=by
  have:=qfU (as.map f)
  rw [mm_] at this
  exact this
 simp only [qje,this,Option.map_some]
 congr 2
 rw [List.any_map]
 rfl
theorem qjN {α:Type} {as:List α} {f:α->Int}:qnD [.lst (as.map fun a=>D.int (f a))]=some (.int (as.map f).sum):=by
 have:wG (as.map fun a=>D.int (f a))=some (as.map f):=by
  have:=qdh (as.map f)
  rw [mm_] at this
  exact this
 simp only [qnD,this,Option.map_some]
theorem qh4 {α:Type} {e:M D} {t:M Bool} {u v f:α->D} {p:α->Bool} {r:Env}:∀ (as:List α) (acc:List D) (o o':Option D),(∀ a∈as,t (some (u a)::some (v a)::r) = .ok (p a,some (u a)::some (v a)::r))->(∀ a∈as,p a=true->e (some (u a)::some (v a)::r) = .ok (f a,some (u a)::some (v a)::r))->acc.length+as.length<=1000000 ->
  ∃ o1 o2,z6 (qgS 2 (uw (qB 0) (uw (qB 1) qgR))) t e (as.map fun a => .tup [u a,v a]) acc (o::o'::r) = .ok (acc++(as.filter p).map f,o1::o2::r)
 | [],acc,o,o',_,_,_=>⟨o,o',by simp [z6]⟩
 | a::as,acc,o,o',ht,he,hl=>by
  have hl':acc.length+(as.length+1)<=1000000:=hl
  have h1:=ht a mS_
  rw [mC_]
  unfold z6
  have hg:qgS 2 (uw (qB 0) (uw (qB 1) qgR)) (.tup [u a,v a]) (o::o'::r)=some (some (u a)::some (v a)::r):=rfl
  simp only [hg,h1]
  cases hp:p a with
  | false =>
   obtain ⟨o1,o2,q⟩:=qh4 as acc (some (u a)) (some (v a)) (fun x hx=>ht x (mM_ _ hx)) (fun x hx=>he x (mM_ _ hx)) (by omega)
   refine ⟨o1,o2,?_⟩
   simp only [q,ft_,hp,Bool.false_eq_true,if_false]
  | true =>
   obtain ⟨o1,o2,q⟩:=qh4 as (acc++[f a]) (some (u a)) (some (v a)) (fun x hx=>ht x (mM_ _ hx)) (fun x hx=>he x (mM_ _ hx)) (by rw [lA_,List.length_singleton];omega)
   refine ⟨o1,o2,?_⟩
   simp only [he a mS_ hp,yN (show acc.length+1<=1000000 by omega),if_true,q,ft_,hp,mC_,aA_,List.singleton_append]
theorem qh5 {α:Type} {e:M D} {t:M Bool} {u v:α->D} {xs:M (List D)} {U r:Env} {fr:List Nat} (as:List α) (p:α->Bool) (f:α->D) (hx:xs U = .ok (as.map fun a => .tup [u a,v a],U)) (hr:yp 2 fr U=none::none::r) (hl:as.length<=1000000)
  (ht:∀ a∈as,t (some (u a)::some (v a)::r) = .ok (p a,some (u a)::some (v a)::r)) (he:∀ a∈as,p a=true->e (some (u a)::some (v a)::r) = .ok (f a,some (u a)::some (v a)::r)):zW 2 fr none xs (qgS 2 (uw (qB 0) (uw (qB 1) qgR))) t e U = .ok (.lst ((as.filter p).map f),U):=by
 obtain ⟨o1,o2,q⟩:=qh4 as [] none none ht he (by simpa using hl)
 rw [qdc,hx]
 simp only [hr,q,List.nil_append]
 rfl
def kAt (ks:List Kd) (p:Nat):Kd:=(ks[p]?).getD (1,0,none)
theorem qe5 {ks:List Kd} {p:Nat} (h:p<ks.length):ks[p]? = some (kAt ks p):=by
 unfold kAt
 rw [gG h]
 rfl
theorem qfZ {ks:List Kd} {p:Nat} (h:p<ks.length):ixD (.tup (ks.map kD)) (.int (p:Nat))=some (kD (kAt ks p)):=qfV (by rw [gM_,qe5 h];rfl)
theorem qmN (n:Nat):qc6 0 n=(List.range n).map fun i=>D.int (i:Nat):=by
 unfold qc6
 refine mL_ fun i _ => ?_
 rw [Int.zero_add]
theorem qer {ks:List Kd}:∀ (l:List Kd) (k:Nat),(∀ i,i<l.length->l[i]? = ks[k+i]?)->u7 k (l.map kD)=(List.range l.length).map fun i => .tup [.int ((k+i:Nat):Int),kD (kAt ks (k+i))]
 | [],_,_=>rfl
 | x::l,k,h=>by
  have h0:=h 0 (by simp)
  have e0:kAt ks (k+0)=x:=by unfold kAt;rw [<- h0];rfl
  rw [mC_,lC_,List.range_succ_eq_map,mC_,mm_,e0]
  show D.tup [.int (k:Nat),kD x]::u7 (k+1) (l.map kD)=_
  rw [qer l (k+1) fun i hi=>by
   have:=h (i+1) (by rw [lC_];omega)
   rw [show k+1+i=k+(i+1) by omega,<- this]
   rfl]
  congr 1
  refine mL_ fun i _ => ?_
  show D.tup [.int ((k+1+i:Nat):Int),kD (kAt ks (k+1+i))]=D.tup [.int ((k+(i+1):Nat):Int),kD (kAt ks (k+(i+1)))]
  rw [show k+1+i=k+(i+1) by omega]
theorem qkP (ks:List Kd):u7 0 (ks.map kD)=(List.range ks.length).map fun i => .tup [.int (i:Nat),kD (kAt ks i)]:=by
 rw [qer (ks:=ks) ks 0 fun i _=>by rw [Nat.zero_add]]
 refine mL_ fun i _ => ?_
 rw [Nat.zero_add]
theorem qjO {α:Type} (i:Nat) (l:List α) (f:α->Nat):qoa (.int (i:Nat)) (.lst (l.map fun a=>D.int (f a:Nat)))=some (.bl (!l.any fun a=>decide (f a=i))):=by
 have h1:(l.map fun a=>D.int (f a:Nat)).all flD=true:=by
  rw [List.all_map]
  exact List.all_eq_true.mpr fun _ _=>rfl
 have h2:(l.map fun a=>D.int (f a:Nat)).any (fun d=>eqV (vD d) (vD (.int (i:Nat))))=l.any fun a=>decide (f a=i):=by
  rw [List.any_map]
  congr 1
  funext a
  show decide ((f a:Int)=(i:Nat))=decide (f a=i)
  rw [decide_eq_decide]
  omega
 have e:qmJ (.int (i:Nat)) (.lst (l.map fun a=>D.int (f a:Nat)))=some (.bl (!l.any fun a=>decide (f a=i))):=by
  unfold qmJ
  show (if flD (.int (i:Nat))&&(l.map fun a=>D.int (f a:Nat)).all flD then some (D.bl (!(l.map fun a=>D.int (f a:Nat)).any fun d=>eqV (vD d) (vD (.int (i:Nat))))) else none)=_
  rw [h1,h2]
  rfl
 unfold qoa
 rw [e]
 rfl
theorem qmc (l:List Nat):neB (.lst (l.map fun i=>D.int (i:Nat))) (.lst [])=some (.bl (!l.isEmpty)):=by
 have h:∀ l:List Nat,PyData.canLayAll0 (toPDs (l.map fun i=>D.int (i:Nat)))=true/\PyData.depthAll (toPDs (l.map fun i=>D.int (i:Nat)))=0:=fun l=>by
  induction l with
  | nil=>exact ⟨rfl,rfl⟩
  | cons n ns ih=>exact ⟨by simp only [mC_,toPDs,yJ,PyData.canLayAll0,PyData.canLay0,ih.1,Bool.and_self],by simp only [mC_,toPDs,yJ,PyData.depthAll,PyData.depth,ih.2];rfl⟩
 obtain ⟨h1,h2⟩:=h l
 have o1:qby (.lst (l.map fun i=>D.int (i:Nat)))=true:=by
  simp only [qby,yJ,PyData.canLay0,PyData.depth,h1,h2]
  rfl
 have e:neB (.lst (l.map fun i=>D.int (i:Nat))) (.lst [])=neA (.lst (l.map fun i=>D.int (i:Nat))) (.lst []):=rfl
 rw [e]
 unfold neA
 rw [o1]
 cases l with
 | nil=>rfl
 | cons n l=>rfl
def wZ (T B:Nat):Nat:=T/Nat.gcd T B
def w6 (T B:Nat):Nat:=B/Nat.gcd T B
def frD (t b:Nat):D := .tup [.int (t:Nat),.int (b:Nat)]
def qcs (T B:Nat):D:=frD (wZ T B) (w6 T B)
theorem qbB (T:Nat) {B:Nat} (hB:0<B):∃ g,0<g/\T=g*wZ T B/\B=g*w6 T B/\0<w6 T B/\w6 T B<=B/\wZ T B<=T:=by
 have hg:0<Nat.gcd T B:=Nat.gcd_pos_of_pos_right _ hB
 have h1:T=Nat.gcd T B*wZ T B:=(Nat.mul_div_cancel' (Nat.gcd_dvd_left T B)).symm
 have h2:B=Nat.gcd T B*w6 T B:=(Nat.mul_div_cancel' (Nat.gcd_dvd_right T B)).symm
 refine ⟨Nat.gcd T B,hg,h1,h2,?_,Nat.div_le_self _ _,Nat.div_le_self _ _⟩
 apply Nat.pos_of_ne_zero
 intro z
 rw [z,Nat.mul_zero] at h2
 omega
theorem qow {T B T' B':Nat} (hB:0<B) (hB':0<B') (h:T*B'=T'*B):wZ T B=wZ T' B'/\w6 T B=w6 T' B':=by
 have hg:0<Nat.gcd T B:=Nat.gcd_pos_of_pos_right _ hB
 have hg':0<Nat.gcd T' B':=Nat.gcd_pos_of_pos_right _ hB'
 have t1:T=Nat.gcd T B*wZ T B:=(Nat.mul_div_cancel' (Nat.gcd_dvd_left T B)).symm
 have b1:B=Nat.gcd T B*w6 T B:=(Nat.mul_div_cancel' (Nat.gcd_dvd_right T B)).symm
 have t2:T'=Nat.gcd T' B'*wZ T' B':=(Nat.mul_div_cancel' (Nat.gcd_dvd_left T' B')).symm
 have b2:B'=Nat.gcd T' B'*w6 T' B':=(Nat.mul_div_cancel' (Nat.gcd_dvd_right T' B')).symm
 have key:Nat.gcd T B*B'=Nat.gcd T' B'*B:=by
  rw [<- Nat.gcd_mul_right T B' B,<- Nat.gcd_mul_right T' B B',h,Nat.mul_comm B B']
 generalize Nat.gcd T B=g at *
 generalize Nat.gcd T' B'=g' at *
 generalize wZ T B=t at *
 generalize w6 T B=b at *
 generalize wZ T' B'=t' at *
 generalize w6 T' B'=b' at *
 subst t1 b1 t2 b2
 have hgg:0<g*g':=Nat.mul_pos hg hg'
 have eb:b=b':=by
  refine Nat.eq_of_mul_eq_mul_left hgg ?_
  grind
 subst eb
 have hb:0<b:=by
  apply Nat.pos_of_ne_zero
  intro z
  subst z
  simp at hB
 refine ⟨?_,rfl⟩
 refine Nat.eq_of_mul_eq_mul_left (Nat.mul_pos hgg hb) ?_
 grind
theorem qmd {T B T' B':Nat} (hB:0<B) (hB':0<B') (h:T*B'=T'*B):qcs T B=qcs T' B':=by
 obtain ⟨e1,e2⟩:=qow hB hB' h
 unfold qcs
 rw [e1,e2]
theorem qjP (a:Nat) {b:Nat} (h:0<b):qcN (.int (a:Nat)) (.int (b:Nat))=some (.int ((a%b:Nat):Int)):=by
 rw [v8 (by omega)]
 rfl
theorem vJ (a:Nat) {b:Nat} (h:0<b) (h1:b<1606938044258990275541962092341162602522202993782792835301376):qaD (.int (a:Nat)) (.int (b:Nat))=some (.int ((a/b:Nat):Int)):=by
 rw [qen (by omega) (by omega)]
 rfl
theorem qme {n:Nat} (h:n<=18000000000000000000):yI (n:Int)=true:=by
 unfold yI
 rw [Bool.and_eq_true,decide_eq_true_eq,decide_eq_true_eq]
 constructor<;>omega
theorem qox {a:Nat} (b:Nat) (h:a<=18000000000000000000):jX (.int (a:Nat)) (.int (b:Nat))=some (.int ((a*b:Nat):Int)):=by
 rw [qh3 (qme h)]
 rfl
theorem vq (a:Nat) {b:Nat} (h:b<=18000000000000000000):jX (.int (a:Nat)) (.int (b:Nat))=some (.int ((a*b:Nat):Int)):=by
 rw [qjK (qme h)]
 rfl
theorem qjQ (a b:Nat):jy (.int (a:Nat)) (.int (b:Nat))=some (.int ((a+b:Nat):Int)):=rfl
theorem qjR (t b:Nat):ixD (frD t b) (.int 0)=some (.int (t:Nat)):=rfl
theorem qgG (t b:Nat):ixD (frD t b) (.int 1)=some (.int (b:Nat)):=rfl
end Law
end L2.Sk
namespace L2.Sk.Law
end L2.Sk.Law
namespace L2.Sk
namespace Law
open PySem PySem.Spec PyProof.Rows
set_option maxHeartbeats 4000000
open Classical in
open Classical in
theorem qoy {α:Type} {e:M D} {t:M Bool} {k:α->D} {xs:M (List D)} {U r:Env} {fr:List Nat} {i j:Nat} (as:List α) (p:α->Bool) (f:α->D) (hx:xs U = .ok (as.map k,U)) (hr:yp 1 fr U=none::r) (hl:as.length<=1000000)
  (ht:∀ a∈as,t (some (k a)::r) = .ok (p a,some (k a)::r)) (he:∀ a∈as,p a=true->e (some (k a)::r) = .ok (f a,some (k a)::r)) (hb:∀ o:Option D,U.set j ((o::r)[i]?).join=U) :
  zW 1 fr (some (i,j)) xs (qB 0) t e U = .ok (.lst ((as.filter p).map f),U):=by
 obtain ⟨o',q⟩:=qjM as [] none ht he (by simpa using hl)
 rw [qdc,hx]
 simp only [hr,q,List.nil_append]
 show R.ok (D.lst ((as.filter p).map f),U.set j ((o'::r)[i]?).join)=_
 rw [hb o']
theorem qoZ {t u:M Bool} {U:Env} (h1:t U = .ok (false,U)) (h2:u U = .ok (false,U)):tor t u U = .ok (false,U):=by rw [qea,h1];exact h2
theorem qq2 {t u:M Bool} {U:Env} (h1:t U = .ok (true,U)):tor t u U = .ok (true,U):=by rw [qea,h1];rfl
theorem qpG {t u:M Bool} {U:Env} (h1:t U = .ok (false,U)):qki t u U = .ok (false,U):=by rw [qfC,h1];rfl
theorem qpH {t u:M Bool} {U:Env} {b:Bool} (h1:t U = .ok (true,U)) (h2:u U = .ok (b,U)):qki t u U = .ok (b,U):=by rw [qfC,h1];exact h2
theorem qcT {F:List D->R D} {f g h:M D} {U:Env} {a b c d:D} (hf:f U = .ok (a,U)) (hg:g U = .ok (b,U)) (hh:h U = .ok (c,U)) (e:F [a,b,c] = .ok d):qg F (qa f (qa g (qa h (ret [])))) U = .ok (d,U):=qot hf hg hh e
theorem qoz {F:List D->Option D} {f g:M D} {U:Env} {a b d:D} (hf:f U = .ok (a,U)) (hg:g U = .ok (b,U)) (e:F [a,b]=some d):qW F (qa f (qa g (ret []))) U = .ok (d,U):=by
 rw [qbX,qe4 hf hg]
 simp only [e]
theorem qf0 (xs:List D) (j:Nat) (h:j<=xs.length):qeL xs none (some (j:Int))=xs.take j:=by
 unfold qeL
 rw [HT.sIx_none,HT.sIx_nat,Nat.min_eq_left h]
 simp
theorem qf1 (xs:List D) (j:Nat) (h:j<=xs.length):qeL xs (some (j:Int)) none=xs.drop j:=by
 unfold qeL
 rw [HT.sIx_none,HT.sIx_nat,Nat.min_eq_left h]
 exact List.take_of_length_le (by simp)
theorem um {i:Nat} {f:M D} {U U1:Env} {d:D} (h:f U = .ok (d,U1)):jn i f U = .ok (.nx (U1.set i (some d))):=by rw [qbd,h]
theorem zY {f:M D} {U U1:Env} {d:D} (h:f U = .ok (d,U1)):jm f U = .ok (.rt d U1):=by rw [vA,h]
theorem qes {b:MS} {i:Nat} {U:Env} (hi:i<U.length):∀ (ds:List D) (o:Option D),(∀ d∈ds,b (U.set i (some d)) = .ok (.nx (U.set i (some d))))->∃ o',uh (qB i) b ds (U.set i o) = .ok (.nx (U.set i o'))
 | [],o,_=>⟨o,rfl⟩
 | d::ds,o,h=>by
  obtain ⟨o',q⟩:=qes hi ds (some d) fun x hx=>h x (mM_ _ hx)
  refine ⟨o',?_⟩
  unfold uh
  have e:qB i d (U.set i o)=some (U.set i (some d)):=by
   show some ((U.set i o).set i (some d))=_
   rw [List.set_set]
  rw [e]
  simp only [h d mS_]
  exact q
def big:Nat:=1606938044258990275541962092341162602522202993782792835301376
def Mx:Nat:=18000000000000000000
abbrev Nk:=Nat×Nat×Option Nat
def nk (x:Nk):Kd:=((x.1:Int),(x.2.1:Int),x.2.2.map fun m:Nat=>(m:Int))
def tK (x:Nk):D:=kD (nk x)
def nAt (ks:List Nk) (p:Nat):Nk:=ks.getD p (0,0,none)
def zH (ks:List Nk):Nat:=ks.foldl (fun p x=>p*x.1) 1
def qe6 (ks:List Nk) (p:Nat):Int := -((nAt ks p).2.1:Int)*((zH ks/(nAt ks p).1:Nat):Int)
def plN (ks:List Nk):List Nat:=(List.range ks.length).filter fun i=>decide (0<(nAt ks i).2.1)
def qao (ks:List Nk):List Nat:=(Srt.ord ((plN ks).map (qe6 ks))).map fun i=>(plN ks).getD i 0
def goN (x:Nk) (r:Nat):Bool:=match x.2.2 with
 | some m=>decide (m*x.1<=r)
 | none=>false
def mN (x:Nk):Nat:=x.2.2.getD 0
def shN (x:Nk) (r:Nat):Nat×Nat:=if goN x r then (mN x,1) else (wZ r x.1,w6 r x.1)
def bhN (x:Nk) (r:Nat):Nat:=if goN x r then r-mN x*x.1 else 0
def shS (ks:List Nk) (s:Nat×List (Nat×Nat)) (p:Nat):Nat×List (Nat×Nat):=(bhN (nAt ks p) s.1,s.2.set p (shN (nAt ks p) s.1))
def shs (ks:List Nk) (r:Nat):List (Nat×Nat):=((qao ks).foldl (shS ks) (r,List.replicate ks.length (0,1))).2
def swS (s:Nat×Nat) (z:Nk×Nat×Nat):Nat×Nat:=(s.1*z.2.2+z.2.1*z.1.2.1*s.2,s.2*z.2.2)
def swN (ks:List Nk) (r:Nat):Nat×Nat:=(ks.zip (shs ks r)).foldl swS (0,1)
def fr (p:Nat×Nat):D:=frD p.1 p.2
def iD (i:Nat):D := .int (i:Nat)
def nO (n:Nat):Option D:=some (.int (n:Nat))
theorem vK {ks:List Nk} {p:Nat} (h:p<ks.length):ks[p]? = some (nAt ks p):=by
 unfold nAt
 simp [h]
theorem jL {ks:List Nk} {p:Nat} (h:p<ks.length):nAt ks p∈ks:=List.mem_of_getElem? (vK h)
theorem qh6 {ks:List Nk} {p:Nat} (h:p<ks.length):ixD (.tup (ks.map tK)) (.int (p:Nat))=some (tK (nAt ks p)):=qfV (by rw [gM_,vK h];rfl)
theorem tk0 (x:Nk):ixD (tK x) (.int 0)=some (.int (x.1:Nat)):=rfl
theorem tk1 (x:Nk):ixD (tK x) (.int 1)=some (.int (x.2.1:Nat)):=rfl
theorem tk2 (x:Nk):ixD (tK x) (.int 2)=some (mD (x.2.2.map fun m:Nat=>(m:Int))):=rfl
theorem qcU (ks:List Nk):ks.map tK=(ks.map nk).map kD:=by rw [mm_];rfl
theorem qmf {x:Nk} (h:0<x.1):okK (nk x):=⟨by show (0:Int)<(x.1:Int);omega,by show (0:Int)<=(x.2.1:Int);omega,fun j e=>by
 obtain ⟨m,_,hm⟩:=Option.map_eq_some_iff.mp (show x.2.2.map (fun m:Nat=>(m:Int))=some j from e)
 omega⟩
theorem va {ks:List Nk} (h:∀ x∈ks,0<x.1) (hl:ks.length<=12):wN (.tup (ks.map tK))=true:=by
 rw [qcU]
 exact qaM (fun x hx=>by obtain ⟨y,hy,rfl⟩:=mP_.mp hx;exact qmf (h y hy)) (by rw [lM_];exact hl)
theorem qmg (ks:List Nk):u7 0 (ks.map tK)=(List.range ks.length).map fun i => .tup [.int (i:Nat),tK (nAt ks i)]:=by
 rw [qcU,qkP,lM_]
 refine mL_ fun i hi => ?_
 have hi':=mR_.mp hi
 have e:kAt (ks.map nk) i=nk (nAt ks i):=by
  have h1:=qe5 (ks:=ks.map nk) (p:=i) (by rw [lM_];exact hi')
  rw [gM_,vK hi'] at h1
  exact (Option.some.inj h1).symm
 rw [e]
 rfl
theorem qb9 (ks:List Nk):(qao ks).Perm (plN ks):=Srt.byKeys_perm (α:=Nat) (ks:=(plN ks).map (qe6 ks)) (xs:=plN ks) (by rw [lM_])
theorem qap {ks:List Nk} {p:Nat}:p∈qao ks ↔ p<ks.length/\0<(nAt ks p).2.1:=by
 rw [(qb9 ks).mem_iff]
 unfold plN
 rw [List.mem_filter,mR_,decide_eq_true_eq]
theorem qcV (ks:List Nk):(qao ks).Nodup:=(qb9 ks).nodup_iff.mpr ((List.nodup_range).sublist List.filter_sublist)
theorem qet {α:Type} {g:M D} {n:Nat} {cs:List D} {k:α->D} {key:α->Int}:∀ {as:List α},(∀ a∈as,∃ U,g (ux n (k a::cs)) = .ok (.int (key a),U))->qb5 g n cs (as.map k)=some (as.map key)
 | [],_=>rfl
 | a::as,h=>by
  obtain ⟨U,e⟩:=h a mS_
  rw [mC_,mC_]
  unfold qb5
  rw [e,qet fun b hb=>h b (mM_ _ hb)]
theorem qh7 {α:Type} {k:α->D} {l:List Nat} {as:List α} (d:α) (h:∀ i∈l,i<as.length):qe2 l (as.map k)=(l.map fun i=>as.getD i d).map k:=by
 unfold qe2
 rw [mm_]
 refine mL_ fun i hi => ?_
 have hi':=h i hi
 show (as.map k).getD i D.non=k (as.getD i d)
 simp [hi']
theorem qca (r:Nat) {w:Nat} (h:0<w):0<w6 r w/\w6 r w<=w:=by
 obtain ⟨g,g0,e1,e2,e3,e4,e5⟩:=qbB r h
 exact ⟨e3,e4⟩
theorem qoA {x:Nk} (h:0<x.1) (r:Nat):0<(shN x r).2/\(shN x r).2<=x.1:=by
 unfold shN
 split
 ·exact ⟨Nat.one_pos,h⟩
 ·exact qca r h
theorem qh8 (ks:List Nk):∀ (l:List Nat) (s:Nat×List (Nat×Nat)),(l.foldl (shS ks) s).2.length=s.2.length
 | [],s=>rfl
 | p::l,s=>by
  rw [fo_,qh8 ks l]
  exact lS_
theorem qdj (ks:List Nk) (r:Nat):(shs ks r).length=ks.length:=by
 unfold shs
 rw [qh8]
 exact List.length_replicate
theorem qkQ {ks:List Nk} (h:∀ x∈ks,0<x.1):∀ (l:List Nat) (s:Nat×List (Nat×Nat)),(∀ p∈l,p<ks.length)->(∀ (i:Nat) (z:Nat×Nat),s.2[i]? = some z->0<z.2/\z.2<=(nAt ks i).1) ->
  ∀ (i:Nat) (z:Nat×Nat),(l.foldl (shS ks) s).2[i]? = some z->0<z.2/\z.2<=(nAt ks i).1
 | [],s,_,hs=>hs
 | p :: l,s,hl,hs=>by
  rw [fo_]
  refine qkQ h l _ (fun q hq=>hl q (mM_ _ hq)) fun i z e => ?_
  have e':(s.2.set p (shN (nAt ks p) s.1))[i]? = some z:=e
  rw [List.getElem?_set] at e'
  split at e'
  ·rename_i hpi
   subst hpi
   split at e'
   ·cases e'
    exact qoA (h _ (jL (hl p mS_))) _
   ·cases e'
  ·exact hs i z e'
theorem qoB {ks:List Nk} (h:∀ x∈ks,0<x.1) (r:Nat):∀ (i:Nat) (z:Nat×Nat),(shs ks r)[i]? = some z->0<z.2/\z.2<=(nAt ks i).1:=by
 refine qkQ h (qao ks) _ (fun p hp=>(qap.mp hp).1) fun i z e => ?_
 have e':(List.replicate ks.length ((0:Nat),(1:Nat)))[i]? = some z:=e
 rw [List.getElem?_replicate] at e'
 split at e'
 ·rename_i hi
  cases e'
  exact ⟨Nat.one_pos,h _ (jL hi)⟩
 ·cases e'
theorem qh9 {ks:List Nk} (h:∀ x∈ks,0<x.1) (r:Nat):∀ z∈ks.zip (shs ks r),0<z.2.2/\z.2.2<=z.1.1:=fun z hz=>by
 obtain ⟨i,hi⟩:=List.mem_iff_getElem?.mp hz
 rw [List.getElem?_zip_eq_some] at hi
 have hl:i<ks.length:=(gI_.mp hi.1).1
 have:=qoB h r i z.2 hi.2
 rw [vK hl] at hi
 have e:nAt ks i=z.1:=Option.some.inj hi.1
 rw [e] at this
 exact this
theorem qgH (p:Nat):∀ ks:List Nk,ks.foldl (fun p x=>p*x.1) p=p*zH ks:=by
 intro ks
 induction ks generalizing p with
 | nil=>simp [zH]
 | cons x ks ih =>
  unfold zH
  rw [fo_,fo_,ih,ih (1*x.1),Nat.one_mul,Nat.mul_assoc]
theorem zS (x:Nk) (ks:List Nk):zH (x::ks)=x.1*zH ks:=by
 show (x::ks).foldl (fun p x=>p*x.1) 1=_
 rw [fo_,qgH,Nat.one_mul]
theorem qcb {ks:List Nk} (h:∀ x∈ks,0<x.1):0<zH ks:=by
 induction ks with
 | nil=>exact Nat.one_pos
 | cons x ks ih =>
  rw [zS]
  exact Nat.mul_pos (h x mS_) (ih fun y hy=>h y (mM_ _ hy))
theorem qf2 {ks:List Nk} (h:∀ x∈ks,0<x.1) {x:Nk} (hx:x∈ks):x.1<=zH ks:=by
 induction ks with
 | nil=>cases hx
 | cons y ks ih =>
  rw [zS]
  have hp:=qcb fun z hz=>h z (mM_ _ hz)
  rcases List.mem_cons.mp hx with e | hx
  ·subst e;exact Nat.le_mul_of_pos_right _ hp
  ·exact Nat.le_trans (ih (fun z hz=>h z (mM_ _ hz)) hx) (Nat.le_mul_of_pos_left _ (h y mS_))
theorem qia:∀ (l:List (Nk×Nat×Nat)) (s:Nat×Nat),(∀ z∈l,0<z.2.2/\z.2.2<=z.1.1)->0<s.2->0<(l.foldl swS s).2/\(l.foldl swS s).2<=s.2*zH (l.map (·.1))
 | [],s,_,h=>⟨h,by simp [zH]⟩
 | z::l,s,hz,h=>by
  obtain ⟨h1,h2⟩:=hz z mS_
  rw [fo_,mC_,zS]
  obtain ⟨a1,a2⟩:=qia l (swS s z) (fun y hy=>hz y (mM_ _ hy)) (Nat.mul_pos h h1)
  refine ⟨a1,Nat.le_trans a2 ?_⟩
  show s.2*z.2.2*_<=s.2*(z.1.1*_)
  rw [Nat.mul_assoc]
  exact Nat.mul_le_mul_left _ (Nat.mul_le_mul_right _ h2)
theorem qmh (T:Nat) {B:Nat} (hB:0<B):wZ T B/w6 T B=T/B:=by
 obtain ⟨g,g0,e1,e2,e3,e4,e5⟩:=qbB T hB
 generalize wZ T B=t at *
 generalize w6 T B=b at *
 rw [e1,e2,Nat.mul_div_mul_left _ _ g0]
theorem qmi (T u:Nat) {B c:Nat} (hB:0<B) (hc:0<c):qcs (wZ T B*c+u*w6 T B) (w6 T B*c)=qcs (T*c+u*B) (B*c):=by
 obtain ⟨g,g0,e1,e2,e3,_,_⟩:=qbB T hB
 refine qmd (Nat.mul_pos e3 hc) (Nat.mul_pos hB hc) ?_
 generalize wZ T B=t at *
 generalize w6 T B=b at *
 rw [e1,e2]
 grind
theorem qib {ks:List Nk} {l:List (Nat×Nat)} (h:l.length=ks.length):(ks.zip l).map (·.1)=ks:=List.map_fst_zip (by omega)
end Law
end L2.Sk
namespace L2.Srt
open PySem PySem.W PyProof.Rows
section
variable (ks:List Int)
abbrev kk (i:Nat):Int:=ks.getD i 0
abbrev cm (i j:Nat):Bool:=decide (ks.getD i 0<ks.getD j 0)
def Lx (i j:Nat):Prop:=kk ks i<kk ks j\/(kk ks i=kk ks j/\i<j)
theorem Lx.le {i j:Nat} (h:Lx ks i j):kk ks i<=kk ks j:=by rcases h with h | h<;>omega
structure qf3 (n m:Nat) (p:Array Nat):Prop where
 sz:p.size=n
 mn:m<=n
 id:∀ k,m<=k->k<n->p.getD k 0=k
 lo:∀ k,k<m->p.getD k 0<m
 so:∀ i j,i<j->j<m->Lx ks (p.getD i 0) (p.getD j 0)
end
theorem qaN {p q:Array Nat} {k j:Nat} (h:p[k]? = q[j]?):p.getD k 0=q.getD j 0:=by
 rw [Array.getD_eq_getD_getElem?,Array.getD_eq_getD_getElem?,h]
theorem qdk {p:Array Nat} {i j:Nat} (hj:j<=p.size) (hij:i<=j) (k:Nat):(kas_rev p i j).getD k 0=if i<=k/\k<j then p.getD (i+j-1-k) 0 else p.getD k 0:=by
 have h:=getElem?_mirror (xs:=p) (i:=i) (j:=j) hj ((j-i)/2) (by omega) k
 unfold kas_rev
 by_cases hk:i<=k/\k<j
 ·rw [if_pos hk]
  by_cases hm:(i<=k/\k<i+(j-i)/2)\/(j-(j-i)/2<=k/\k<j)
  ·rw [if_pos hm] at h
   exact qaN h
  ·rw [if_neg hm] at h
   have e:i+j-1-k=k:=by omega
   rw [e]
   exact qaN h
 ·rw [if_neg hk]
  rw [if_neg (by omega)] at h
  exact qaN h
theorem qdl (p:Array Nat) (i j:Nat):(kas_rev p i j).size=p.size:=mirror_size _ _ _ _
theorem qmj {p:Array Nat} {k l:Nat} (hk:k<p.size) (hl:l<=k) (j:Nat):(bubble p k (k-l)).getD j 0=if j=l then p.getD k 0 else if l<j/\j<=k then p.getD (j-1) 0 else p.getD j 0:=by
 have h:=getElem?_bubble (xs:=p) (src:=k) hk (k-l) (by omega) j
 rw [show k-(k-l)=l by omega] at h
 by_cases h1:j=l
 ·rw [if_pos h1] at h |-
  exact qaN h
 ·rw [if_neg h1] at h |-
  by_cases h2:l<j/\j<=k
  ·rw [if_pos h2] at h |-
   exact qaN h
  ·rw [if_neg h2] at h |-
   exact qaN h
section
variable {ks:List Int}
theorem qic {n:Nat} {p:Array Nat}:∀ (f m:Nat),f=n-m->1<=m->qf3 ks n m p->∃ m',uY (cm ks) (kas_asc p f m)=m'/\m<=m'/\qf3 ks n m' p/\(m'<n->kk ks (p.getD m' 0)<kk ks (p.getD (m'-1) 0))
 | 0,m,hf,h1,S=>⟨m,rfl,Nat.le_refl _,S,fun h=>by omega⟩
 | f + 1,m,hf,h1,S=>by
  show ∃ m',uY (cm ks) (if cm ks (p.getD m 0) (p.getD (m-1) 0)=true then KasT.ret m else kas_asc p f (m+1))=m'/\_
  by_cases c:kk ks (p.getD m 0)<kk ks (p.getD (m-1) 0)
  ·rw [if_pos (decide_eq_true c)]
   exact ⟨m,rfl,Nat.le_refl _,S,fun _=>c⟩
  ·rw [if_neg (by simpa using c)]
   have hid:p.getD m 0=m:=S.id m (Nat.le_refl _) (by omega)
   have S':qf3 ks n (m+1) p:=by
    refine ⟨S.sz,by omega,fun k a b=>S.id k (by omega) b,fun k a => ?_,fun i j a b => ?_⟩
    ·by_cases e:k<m
     ·have:=S.lo k e;omega
     ·have:k=m:=by omega
      rw [this,hid];omega
    ·by_cases e:j<m
     ·exact S.so i j a e
     ·have ej:j=m:=by omega
      subst ej
      have l1:=S.lo i a
      have k1:kk ks (p.getD i 0)<=kk ks (p.getD (j-1) 0):=by
       by_cases e2:i=j-1
       ·rw [e2];exact Int.le_refl _
       ·exact (S.so i (j-1) (by omega) (by omega)).le
      have c':kk ks (p.getD (j-1) 0)<=kk ks (p.getD j 0):=Int.not_lt.mp c
      unfold Lx
      rw [hid] at c' |-
      omega
   obtain ⟨m',e1,e2,e3,e4⟩:=qic f (m+1) (by omega) (by omega) S'
   exact ⟨m',e1,by omega,e3,e4⟩
structure Dwn (ks:List Int) (n m q:Nat) (p:Array Nat):Prop where
 sz:p.size=n
 mn:m<=n
 qm:q+1<=m
 id:∀ k,m<=k->k<n->p.getD k 0=k
 lo:∀ k,k<m->p.getD k 0<m
 a1:∀ i j,i<m-(q+1)->m-(q+1)<=j->j<m->kk ks (p.getD j 0)<kk ks (p.getD i 0)
 a2:∀ i j,i<j->j<m-(q+1)->Lx ks (p.getD j 0) (p.getD i 0)
 bl:∀ i j,m-(q+1)<=i->i<j->j<m->kk ks (p.getD i 0)=kk ks (p.getD j 0)/\p.getD i 0<p.getD j 0
theorem Dwn.turned {n m q:Nat} {p:Array Nat} (d:Dwn ks n m q p):(kas_rev p (m-(q+1)) m).size=n/\(∀ k,m<=k->k<n->(kas_rev p (m-(q+1)) m).getD k 0=k)/\(∀ k,k<m->(kas_rev p (m-(q+1)) m).getD k 0<m) /\
  (∀ i j,i<j->j<m->Lx ks ((kas_rev p (m-(q+1)) m).getD j 0) ((kas_rev p (m-(q+1)) m).getD i 0))/\(∀ i,i<m->kk ks (p.getD (m-1) 0)<=kk ks ((kas_rev p (m-(q+1)) m).getD i 0)):=by
 have hqm:=d.qm
 have hs:m<=p.size:=by rw [d.sz];exact d.mn
 have g:=fun k=>qdk (p:=p) (i:=m-(q+1)) (j:=m) hs (by omega) k
 refine ⟨by rw [qdl,d.sz],fun k a b => ?_,fun k a => ?_,fun i j a b => ?_,fun i a => ?_⟩
 ·rw [g,if_neg (by omega)];exact d.id k a b
 ·rw [g]
  split
  ·exact d.lo _ (by omega)
  ·exact d.lo k a
 ·rw [g i,g j]
  by_cases hi:m-(q+1)<=i
  ·rw [if_pos ⟨by omega,b⟩,if_pos ⟨hi,by omega⟩]
   have:=d.bl (m-(q+1)+m-1-j) (m-(q+1)+m-1-i) (by omega) (by omega) (by omega)
   exact .inr ⟨this.1,this.2⟩
  ·rw [if_neg (show ¬ (m-(q+1)<=i/\i<m) by omega)]
   by_cases hj:m-(q+1)<=j
   ·rw [if_pos ⟨hj,b⟩]
    exact .inl (d.a1 i _ (by omega) (by omega) (by omega))
   ·rw [if_neg (by omega)]
    exact d.a2 i j a (by omega)
 ·have key:∀ j,m-(q+1)<=j->j<m->kk ks (p.getD (m-1) 0)=kk ks (p.getD j 0):=fun j h1 h2=>by
   by_cases e:j=m-1
   ·rw [e]
   ·exact (d.bl j (m-1) h1 (by omega) (by omega)).1.symm
  rw [g i]
  by_cases hi:m-(q+1)<=i
  ·rw [if_pos ⟨hi,a⟩]
   exact Int.le_of_eq (key _ (by omega) (by omega))
  ·rw [if_neg (by omega)]
   exact Int.le_of_lt (d.a1 i (m-1) (by omega) (by omega) (by omega))
theorem Dwn.next {n m:Nat} {p:Array Nat} (hsz:p.size=n) (hm:1<=m) (hmn:m<n) (hid:∀ k,m<=k->k<n->p.getD k 0=k) (hlo:∀ k,k<m->p.getD k 0<m) (ho:∀ i j,i<j->j<m->Lx ks (p.getD j 0) (p.getD i 0))
  (hk:∀ i,i<m->kk ks (p.getD m 0)<kk ks (p.getD i 0)):Dwn ks n (m+1) 0 p:=by
 refine ⟨hsz,hmn,by omega,fun k a b=>hid k (by omega) b,fun k a => ?_,fun i j a b c => ?_,fun i j a b=>ho i j a (by omega),fun i j a b c=>by omega⟩
 ·by_cases e:k<m
  ·have:=hlo k e;omega
  ·have:k=m:=by omega
   rw [this,hid m (Nat.le_refl _) hmn];omega
 ·have:j=m:=by omega
  subst this
  exact hk i (by omega)
theorem qqp {n m:Nat} {p:Array Nat} (d:Dwn ks n m 0 p):∀ k,(kas_rev p (m-(0+1)) m).getD k 0=p.getD k 0:=fun k=>by
 have hqm:=d.qm
 rw [qdk (by rw [d.sz];exact d.mn) (by omega)]
 split
 ·congr 1;omega
 ·rfl
theorem qdm {n:Nat}:∀ (f m q:Nat) {p:Array Nat},f=n-m->Dwn ks n m q p->∃ r,uY (cm ks) (kas_desc f p m q)=r/\Dwn ks n r.2.1 r.2.2 r.1
 | 0,m,q,p,hf,d=>⟨(p,m,q),rfl,d⟩
 | f + 1,m,q,p,hf,d=>by
  show ∃ r,uY (cm ks) (if cm ks (p.getD m 0) (p.getD (m-1) 0)=true then (if q>0 then kas_desc f (kas_rev p (m-(q+1)) m) (m+1) 0 else kas_desc f p (m+1) 0)
   else .ask (p.getD (m-1) 0) (p.getD m 0) fun c=>if c=true then .ret (p,m,q) else kas_desc f p (m+1) (q+1))=r/\_
  have hmn:m<n:=by have:=d.mn;omega
  have hqm:=d.qm
  have hid:=d.id m (Nat.le_refl _) hmn
  obtain ⟨t1,t2,t3,t4,t5⟩:=d.turned
  by_cases c:kk ks (p.getD m 0)<kk ks (p.getD (m-1) 0)
  ·rw [if_pos (decide_eq_true c)]
   by_cases hq:q>0
   ·rw [if_pos hq]
    have hm':(kas_rev p (m-(q+1)) m).getD m 0=p.getD m 0:=by rw [t2 m (Nat.le_refl _) hmn,hid]
    exact qdm f (m+1) 0 (by omega) (Dwn.next t1 (by omega) hmn t2 t3 t4 fun i hi=>by rw [hm'];exact Int.lt_of_lt_of_le c (t5 i hi))
   ·rw [if_neg hq]
    have e:q=0:=by omega
    subst e
    have g:=qqp d
    refine qdm f (m+1) 0 (by omega) (Dwn.next d.sz (by omega) hmn d.id d.lo (fun i j a b => ?_) fun i hi => ?_)
    ·have:=t4 i j a b
     rw [g,g] at this
     exact this
    ·have:=t5 i hi
     rw [g] at this
     exact Int.lt_of_lt_of_le c this
  ·rw [if_neg (by simpa using c)]
   show ∃ r,uY (cm ks) (if cm ks (p.getD (m-1) 0) (p.getD m 0)=true then .ret (p,m,q) else kas_desc f p (m+1) (q+1))=r/\_
   by_cases c2:kk ks (p.getD (m-1) 0)<kk ks (p.getD m 0)
   ·rw [if_pos (decide_eq_true c2)]
    exact ⟨(p,m,q),rfl,d⟩
   ·rw [if_neg (by simpa using c2)]
    have ek:kk ks (p.getD (m-1) 0)=kk ks (p.getD m 0):=by
     have a1:kk ks (p.getD (m-1) 0)<=kk ks (p.getD m 0):=Int.not_lt.mp c
     have a2:kk ks (p.getD m 0)<=kk ks (p.getD (m-1) 0):=Int.not_lt.mp c2
     omega
    refine qdm f (m+1) (q+1) (by omega) ⟨d.sz,hmn,by omega,fun k a b=>d.id k (by omega) b,fun k a => ?_,fun i j a b c => ?_,fun i j a b=>d.a2 i j a (by omega),fun i j a b c => ?_⟩
    ·by_cases e:k<m
     ·have:=d.lo k e;omega
     ·have:k=m:=by omega
      rw [this,hid];omega
    ·by_cases e:j<m
     ·exact d.a1 i j (by omega) (by omega) e
     ·have:j=m:=by omega
      subst this
      rw [<- ek]
      exact d.a1 i (j-1) (by omega) (by omega) (by omega)
    ·by_cases e:j<m
     ·exact d.bl i j (by omega) b e
     ·have:j=m:=by omega
      subst this
      have l1:=d.lo i b
      refine ⟨?_,by rw [hid];exact l1⟩
      rw [<- ek]
      by_cases e2:i=j-1
      ·rw [e2]
      ·exact (d.bl i (j-1) (by omega) (by omega) (by omega)).1
theorem qf4 {n m:Nat} {p:Array Nat} (hsz:p.size=n) (hm:1<=m) (hmn:m<=n) (hid:∀ k,m<=k->k<n->p.getD k 0=k) (hlo:∀ k,k<m->p.getD k 0<m) (ho:∀ i j,i<j->j<m->Lx ks (p.getD j 0) (p.getD i 0)) :
  qf3 ks n (uY (cm ks) (kas_tail3 m n p)).1 (uY (cm ks) (kas_tail3 m n p)).2/\1<=(uY (cm ks) (kas_tail3 m n p)).1:=by
 have g:=fun k=>qdk (p:=p) (i:=0) (j:=m) (by rw [hsz];exact hmn) (Nat.zero_le _) k
 have S:qf3 ks n m (kas_rev p 0 m):=by
  refine ⟨by rw [qdl,hsz],hmn,fun k a b => ?_,fun k a => ?_,fun i j a b => ?_⟩
  ·rw [g,if_neg (by omega)];exact hid k a b
  ·rw [g,if_pos ⟨Nat.zero_le _,a⟩];exact hlo _ (by omega)
  ·rw [g,g,if_pos ⟨Nat.zero_le _,by omega⟩,if_pos ⟨Nat.zero_le _,b⟩]
   exact ho _ _ (by omega) (by omega)
 obtain ⟨m',e1,e2,e3,_⟩:=qic (n-m) m rfl hm S
 have e:uY (cm ks) (kas_tail3 m n p)=(m',kas_rev p 0 m):=by
  unfold kas_tail3
  rw [uN,e1]
  rfl
 rw [e]
 exact ⟨e3,by show 1<=m';omega⟩
theorem qcc {n m:Nat} {p:Array Nat} (d:Dwn ks n (m+1) 0 p):qf3 ks n (uY (cm ks) (kas_descPart m n p)).1 (uY (cm ks) (kas_descPart m n p)).2/\1<=(uY (cm ks) (kas_descPart m n p)).1:=by
 obtain ⟨r,e1,e2⟩:=qdm (n-(m+1)) (m+1) 0 rfl d
 obtain ⟨t1,t2,t3,t4,_⟩:=e2.turned
 have hqm:=e2.qm
 unfold kas_descPart
 rw [uN,e1]
 by_cases hq:r.2.2>0
 ·rw [if_pos hq]
  exact qf4 t1 (by omega) e2.mn t2 t3 t4
 ·rw [if_neg hq]
  obtain ⟨p',m',q'⟩:=r
  have e:q'=0:=by show q'=0;have:¬ q'>0:=hq;omega
  subst e
  have g:=qqp e2
  refine qf4 e2.sz (by omega) e2.mn e2.id e2.lo fun i j a b => ?_
  have:=t4 i j a b
  rw [g,g] at this
  exact this
theorem qjS {n:Nat} (hn:1<=n):qf3 ks n (uY (cm ks) (kas_count n (List.toArray (List.range n)))).1 (uY (cm ks) (kas_count n (List.toArray (List.range n)))).2/\1<=(uY (cm ks) (kas_count n (List.toArray (List.range n)))).1:=by
 have hr:∀ k,k<n->(List.toArray (List.range n)).getD k 0=k:=fun k hk=>by simp [Array.getD,hk]
 have S1:qf3 ks n 1 (List.toArray (List.range n)):=⟨by simp,hn,fun k _ b=>hr k b,fun k a=>by rw [hr k (by omega)];exact a,fun i j a b=>by omega⟩
 obtain ⟨m,e1,e2,e3,e4⟩:=qic (n-1) 1 rfl (Nat.le_refl _) S1
 unfold kas_count
 rw [uN,e1]
 by_cases h1:m=n
 ·rw [if_pos (by rw [h1];simp)]
  exact ⟨e3,e2⟩
 ·rw [if_neg (by simpa using h1)]
  have hmn:m<n:=by have:=e3.mn;omega
  have hk:=e4 hmn
  by_cases h2:m>1
  ·rw [if_pos h2]
   show qf3 ks n (uY (cm ks) (if cm ks ((List.toArray (List.range n)).getD 0 0) ((List.toArray (List.range n)).getD (m-1) 0)=true then .ret (m,List.toArray (List.range n)) else kas_descPart m n (kas_rev (List.toArray (List.range n)) 0 m))).1 _/\_
   by_cases c:kk ks ((List.toArray (List.range n)).getD 0 0)<kk ks ((List.toArray (List.range n)).getD (m-1) 0)
   ·rw [show uY (cm ks) (KasT.ask ((List.toArray (List.range n)).getD 0 0) ((List.toArray (List.range n)).getD (m-1) 0) fun c=>if c=true then .ret (m,List.toArray (List.range n)) else kas_descPart m n (kas_rev (List.toArray (List.range n)) 0 m))=uY (cm ks) (if cm ks ((List.toArray (List.range n)).getD 0 0) ((List.toArray (List.range n)).getD (m-1) 0)=true then .ret (m,List.toArray (List.range n)) else kas_descPart m n (kas_rev (List.toArray (List.range n)) 0 m)) from rfl,if_pos (decide_eq_true c)]
    exact ⟨e3,e2⟩
   ·rw [show uY (cm ks) (KasT.ask ((List.toArray (List.range n)).getD 0 0) ((List.toArray (List.range n)).getD (m-1) 0) fun c=>if c=true then .ret (m,List.toArray (List.range n)) else kas_descPart m n (kas_rev (List.toArray (List.range n)) 0 m))=uY (cm ks) (if cm ks ((List.toArray (List.range n)).getD 0 0) ((List.toArray (List.range n)).getD (m-1) 0)=true then .ret (m,List.toArray (List.range n)) else kas_descPart m n (kas_rev (List.toArray (List.range n)) 0 m)) from rfl,if_neg (by simpa using c)]
    generalize hp:List.toArray (List.range n)=p at *
    have g:=fun k=>qdk (p:=p) (i:=0) (j:=m) (by rw [e3.sz];omega) (Nat.zero_le _) k
    have al:∀ i,i<m->kk ks (p.getD i 0)=kk ks (p.getD 0 0):=fun i hi=>by
     have c':kk ks (p.getD (m-1) 0)<=kk ks (p.getD 0 0):=Int.not_lt.mp c
     have a1:kk ks (p.getD 0 0)<=kk ks (p.getD i 0):=by
      by_cases e:i=0
      ·rw [e];exact Int.le_refl _
      ·exact (e3.so 0 i (by omega) hi).le
     have a2:kk ks (p.getD i 0)<=kk ks (p.getD (m-1) 0):=by
      by_cases e:i=m-1
      ·rw [e];exact Int.le_refl _
      ·exact (e3.so i (m-1) (by omega) (by omega)).le
     omega
    refine qcc (Dwn.next (by rw [qdl,e3.sz]) (by omega) hmn (fun k a b=>by rw [g,if_neg (by omega)];exact e3.id k a b) (fun k a=>by rw [g,if_pos ⟨Nat.zero_le _,a⟩];exact e3.lo _ (by omega)) (fun i j a b => ?_) fun i hi => ?_)
    ·rw [g,g,if_pos ⟨Nat.zero_le _,b⟩,if_pos ⟨Nat.zero_le _,by omega⟩]
     exact e3.so _ _ (by omega) (by omega)
    ·have h9:=al (m-1) (by omega)
     rw [g m,g i,if_neg (by omega),if_pos ⟨Nat.zero_le _,hi⟩,al (0+m-1-i) (by omega),<- h9]
     exact hk
  ·rw [if_neg h2]
   have em:m=1:=by omega
   subst em
   exact qcc (Dwn.next e3.sz (Nat.le_refl _) hmn e3.id e3.lo (fun i j a b=>by omega) fun i hi=>by
    have:i=0:=by omega
    subst this
    exact hk)
theorem qdn {n k:Nat} {p:Array Nat} (S:qf3 ks n k p):∀ (f l r:Nat),r-l<=f->l<=r->r<=k->(∀ i,i<l->kk ks (p.getD i 0)<=kk ks (p.getD k 0))->(∀ i,r<=i->i<k->kk ks (p.getD k 0)<kk ks (p.getD i 0)) ->
  ∃ l',uY (cm ks) (kas_place p k f l r)=l'/\l'<=k/\(∀ i,i<l'->kk ks (p.getD i 0)<=kk ks (p.getD k 0))/\(∀ i,l'<=i->i<k->kk ks (p.getD k 0)<kk ks (p.getD i 0))
 | 0,l,r,hf,h1,h2,a,b=>⟨l,rfl,by omega,a,fun i c d=>b i (by omega) d⟩
 | f + 1,l,r,hf,h1,h2,a,b=>by
  have mono:∀ i j,i<=j->j<k->kk ks (p.getD i 0)<=kk ks (p.getD j 0):=fun i j hij hj=>by
   by_cases e:i=j
   ·rw [e];exact Int.le_refl _
   ·exact (S.so i j (by omega) hj).le
  unfold kas_place
  by_cases hge:l >= r
  ·rw [if_pos hge]
   exact ⟨l,rfl,by omega,a,fun i c d=>b i (by omega) d⟩
  ·rw [if_neg hge]
   show ∃ l',uY (cm ks) (if cm ks (p.getD k 0) (p.getD ((l+r)/2) 0)=true then kas_place p k f l ((l+r)/2) else kas_place p k f ((l+r)/2+1) r)=l'/\_
   by_cases c:kk ks (p.getD k 0)<kk ks (p.getD ((l+r)/2) 0)
   ·rw [if_pos (decide_eq_true c)]
    exact qdn S f l ((l+r)/2) (by omega) (by omega) (by omega) a fun i x y=>Int.lt_of_lt_of_le c (mono _ _ x y)
   ·rw [if_neg (by simpa using c)]
    exact qdn S f ((l+r)/2+1) r (by omega) (by omega) h2 (fun i x=>Int.le_trans (mono i ((l+r)/2) (by omega) (by omega)) (Int.not_lt.mp c)) b
theorem qkR {n:Nat}:∀ (f k:Nat) {p:Array Nat},f=n-k->qf3 ks n k p->qf3 ks n n (uY (cm ks) (kas_bin f p k))
 | 0,k,p,hf,S=>by
  have:k=n:=by have:=S.mn;omega
  subst this
  exact S
 | f + 1,k,p,hf,S=>by
  have hkn:k<n:=by omega
  have hid:=S.id k (Nat.le_refl _) hkn
  obtain ⟨l,e1,e2,e3,e4⟩:=qdn S k 0 k (by omega) (Nat.zero_le _) (Nat.le_refl _) (fun i h=>by omega) (fun i h1 h2=>by omega)
  show qf3 ks n n (uY (cm ks) ((kas_place p k k 0 k).bind fun l=>kas_bin f (bubble p k (k-l)) (k+1)))
  rw [uN,e1]
  have g:=fun j=>qmj (p:=p) (k:=k) (l:=l) (by rw [S.sz];exact hkn) e2 j
  refine qkR f (k+1) (by omega) ⟨by rw [bubble_size,S.sz],hkn,fun j a b => ?_,fun j a => ?_,fun i j a b => ?_⟩
  ·rw [g,if_neg (by omega),if_neg (by omega)];exact S.id j (by omega) b
  ·rw [g]
   split
   ·rw [hid];omega
   ·split
    ·have:=S.lo (j-1) (by omega);omega
    ·have:=S.lo j (by omega);omega
  ·rw [g i,g j]
   have lk:∀ z,z<k->z<l->Lx ks (p.getD z 0) (p.getD k 0):=fun z hz hl=>by
    have h1:=e3 z hl
    have h2:=S.lo z hz
    unfold Lx
    rw [hid] at h1 |-
    omega
   have gk:∀ z,l<=z->z<k->Lx ks (p.getD k 0) (p.getD z 0):=fun z hl hz => .inl (e4 z hl hz)
   by_cases hi:i=l
   ·rw [if_pos hi,if_neg (by omega),if_pos ⟨by omega,by omega⟩]
    exact gk _ (by omega) (by omega)
   ·rw [if_neg hi]
    by_cases hj:j=l
    ·rw [if_pos hj,if_neg (by omega)]
     exact lk i (by omega) (by omega)
    ·rw [if_neg hj]
     by_cases hi2:l<i/\i<=k
     ·rw [if_pos hi2,if_pos ⟨by omega,by omega⟩]
      exact S.so _ _ (by omega) (by omega)
     ·rw [if_neg hi2]
      by_cases hj2:l<j/\j<=k
      ·rw [if_pos hj2]
       exact S.so _ _ (by omega) (by omega)
      ·rw [if_neg hj2]
       exact S.so _ _ a (by omega)
theorem qmk {n:Nat} (hn:1<=n):qf3 ks n n (uY (cm ks) (kas_sort n)):=by
 obtain ⟨S,h1⟩:=qjS (ks:=ks) hn
 unfold kas_sort
 rw [uN]
 by_cases h:(uY (cm ks) (kas_count n (List.toArray (List.range n)))).1<n
 ·rw [if_pos h]
  have e:max (uY (cm ks) (kas_count n (List.toArray (List.range n)))).1 1=(uY (cm ks) (kas_count n (List.toArray (List.range n)))).1:=by omega
  rw [e]
  exact qkR _ _ rfl S
 ·rw [if_neg h]
  have e:(uY (cm ks) (kas_count n (List.toArray (List.range n)))).1=n:=by have:=S.mn;omega
  rw [e] at S
  exact S
end
theorem ord_sorted (ks:List Int):(ord ks).Pairwise (Lx ks):=by
 unfold ord
 split
 ·rename_i h
  match hk:ks.length,h with
  | 0,_=>exact List.Pairwise.nil
  | 1,_=>exact List.pairwise_singleton _ _
 ·have S:=qmk (ks:=ks) (n:=ks.length) (by omega)
  rw [List.pairwise_iff_getElem]
  intro i j hi hj hij
  have hz:=S.sz
  rw [Array.length_toList] at hi hj
  have:=S.so i j hij (by rw [<- hz];exact hj)
  have e1:(uY (cm ks) (kas_sort ks.length)).getD i 0=(uY (cm ks) (kas_sort ks.length)).toList[i]'(by rw [Array.length_toList];exact hi):=by simp [Array.getD,hi]
  have e2:(uY (cm ks) (kas_sort ks.length)).getD j 0=(uY (cm ks) (kas_sort ks.length)).toList[j]'(by rw [Array.length_toList];exact hj):=by simp [Array.getD,hj]
  rw [e1,e2] at this
  exact this
end L2.Srt
namespace L2.Sk
namespace Law
open PySem PySem.Spec PyProof.Rows
set_option maxHeartbeats 4000000
def Rx (ks:List Nk) (i j:Nat):Prop:=(nAt ks j).2.1*(nAt ks i).1<(nAt ks i).2.1*(nAt ks j).1\/((nAt ks j).2.1*(nAt ks i).1=(nAt ks i).2.1*(nAt ks j).1/\i<j)
theorem qeu {ks:List Nk} {x:Nk} (h:x∈ks):x.1 ∣ zH ks:=by
 induction ks with
 | nil=>cases h
 | cons y ks ih =>
  rw [zS]
  rcases List.mem_cons.mp h with e | h
  ·subst e;exact Nat.dvd_mul_right _ _
  ·exact Nat.dvd_trans (ih h) (Nat.dvd_mul_left _ _)
theorem qpI {a b p q v w P:Nat} (hv:0<v) (hw:0<w) (hP:0<P) (h1:v*p=P) (h2:w*q=P):(b*q<a*p ↔ b*v<a*w)/\(b*q=a*p ↔ b*v=a*w):=by
 have e1:b*q*(v*w)=b*v*P:=by rw [<- h2];simp only [Nat.mul_comm,Nat.mul_left_comm]
 have e2:a*p*(v*w)=a*w*P:=by rw [<- h1];simp only [Nat.mul_comm,Nat.mul_left_comm]
 have hvw:0<v*w:=Nat.mul_pos hv hw
 constructor
 ·constructor
  ·intro h
   have:=Nat.mul_lt_mul_of_pos_right h hvw
   rw [e1,e2] at this
   exact Nat.lt_of_mul_lt_mul_right this
  ·intro h
   have:=Nat.mul_lt_mul_of_pos_right h hP
   rw [<- e1,<- e2] at this
   exact Nat.lt_of_mul_lt_mul_right this
 ·constructor
  ·intro h
   have:b*v*P=a*w*P:=by rw [<- e1,<- e2,h]
   exact Nat.eq_of_mul_eq_mul_right hP this
  ·intro h
   have:b*q*(v*w)=a*p*(v*w):=by rw [e1,e2,h]
   exact Nat.eq_of_mul_eq_mul_right hvw this
theorem qml {ks:List Nk} (hw:∀ x∈ks,0<x.1) {i j:Nat} (hi:i<ks.length) (hj:j<ks.length) :
  (qe6 ks i<qe6 ks j ↔ (nAt ks j).2.1*(nAt ks i).1<(nAt ks i).2.1*(nAt ks j).1)/\(qe6 ks i=qe6 ks j ↔ (nAt ks j).2.1*(nAt ks i).1=(nAt ks i).2.1*(nAt ks j).1):=by
 have a1:=jL hi
 have a2:=jL hj
 have d1:(nAt ks i).1*(zH ks/(nAt ks i).1)=zH ks:=Nat.mul_div_cancel' (qeu a1)
 have d2:(nAt ks j).1*(zH ks/(nAt ks j).1)=zH ks:=Nat.mul_div_cancel' (qeu a2)
 obtain ⟨c1,c2⟩:=qpI (a:=(nAt ks i).2.1) (b:=(nAt ks j).2.1) (hw _ a1) (hw _ a2) (qcb hw) d1 d2
 have e:∀ p,qe6 ks p = -(((nAt ks p).2.1*(zH ks/(nAt ks p).1):Nat):Int):=fun p=>by
  unfold qe6
  rw [Int.neg_mul]
  rfl
 rw [e i,e j,<- c1,<- c2]
 constructor<;>omega
theorem qmm (ks:List Nk):(plN ks).Pairwise (·<·):=(List.pairwise_lt_range).sublist List.filter_sublist
theorem qid {ks:List Nk} {p:Nat}:p∈plN ks ↔ p<ks.length/\0<(nAt ks p).2.1:=by
 unfold plN
 rw [List.mem_filter,mR_,decide_eq_true_eq]
theorem qcd {ks:List Nk} (hw:∀ x∈ks,0<x.1):(qao ks).Pairwise (Rx ks):=by
 unfold qao
 rw [List.pairwise_map]
 refine (Srt.ord_sorted ((plN ks).map (qe6 ks))).imp_of_mem fun {a b} ha hb hab => ?_
 have la:a<(plN ks).length:=by
  have:=(Srt.ord_perm _).mem_iff.mp ha
  rw [lM_] at this
  exact mR_.mp this
 have lb:b<(plN ks).length:=by
  have:=(Srt.ord_perm _).mem_iff.mp hb
  rw [lM_] at this
  exact mR_.mp this
 have ea:(plN ks).getD a 0=(plN ks)[a]:=by simp [la]
 have eb:(plN ks).getD b 0=(plN ks)[b]:=by simp [lb]
 have ka:((plN ks).map (qe6 ks)).getD a 0=qe6 ks ((plN ks)[a]):=by simp [la]
 have kb:((plN ks).map (qe6 ks)).getD b 0=qe6 ks ((plN ks)[b]):=by simp [lb]
 have ma:=(qid.mp (List.getElem_mem la)).1
 have mb:=(qid.mp (List.getElem_mem lb)).1
 obtain ⟨k1,k2⟩:=qml hw ma mb
 rw [ea,eb]
 unfold Srt.Lx Srt.kk at hab
 rw [ka,kb] at hab
 rcases hab with h | ⟨h,hlt⟩
 ·exact .inl (k1.mp h)
 ·exact .inr ⟨k2.mp h,List.pairwise_iff_getElem.mp (qmm ks) a b la lb hlt⟩
theorem Rx.le {ks:List Nk} {i j:Nat} (h:Rx ks i j):(nAt ks j).2.1*(nAt ks i).1<=(nAt ks i).2.1*(nAt ks j).1:=by rcases h with h | h<;>omega
def uy (t b:Nat) (x:Nk):Nat:=x.2.1*b-x.1*t
def bdN (t b:Nat):List Nk->Nat->Option Nat
 | [],T=>some T
 | x::ks,T=>if x.1*t<x.2.1*b then (match x.2.2 with
  | none=>none
  | some m=>bdN t b ks (T+uy t b x*m)) else bdN t b ks T
def spN (ks:List Nk):List Nat->Nat->Nat×Nat
 | [],_=>(0,1)
 | p::l,r=>if goN (nAt ks p) r then spN ks l (bhN (nAt ks p) r) else (wZ (nAt ks p).2.1 (nAt ks p).1,w6 (nAt ks p).2.1 (nAt ks p).1)
theorem qdo {t b:Nat}:∀ (ks:List Nk) (T:Nat),(∀ x∈ks,x.1*t<x.2.1*b->x.2.2.isSome=true)->bdN t b ks T=some (T+(ks.map fun x=>uy t b x*mN x).sum)
 | [],T,_=>by simp [bdN]
 | x::ks,T,h=>by
  have ih:=fun T=>qdo ks T fun y hy=>h y (mM_ _ hy)
  unfold bdN
  rw [mC_,List.sum_cons]
  by_cases c:x.1*t<x.2.1*b
  ·rw [if_pos c]
   obtain ⟨m,hm⟩:=Option.isSome_iff_exists.mp (h x mS_ c)
   have e:mN x=m:=by unfold mN;rw [hm];rfl
   rw [hm,e]
   simp only [ih]
   congr 1
   omega
  ·rw [if_neg c,ih]
   have:uy t b x=0:=by unfold uy;omega
   rw [this]
   simp
theorem qf5 (ks:List Nk):(List.range ks.length).map (nAt ks)=ks:=by
 refine List.ext_getElem (by simp) fun i h1 h2 => ?_
 have:=vK (ks:=ks) (p:=i) h2
 rw [gG h2] at this
 simp [(Option.some.inj this)]
theorem qaO {f:Nat->Nat} {q:Nat->Bool}:∀ l:List Nat,(∀ i∈l,q i=false->f i=0)->((l.filter q).map f).sum=(l.map f).sum
 | [],_=>rfl
 | i::l,h=>by
  have ih:=qaO (f:=f) (q:=q) l fun j hj=>h j (mM_ _ hj)
  cases c:q i with
  | true=>rw [List.filter_cons_of_pos c,mC_,mC_,List.sum_cons,List.sum_cons,ih]
  | false =>
   rw [List.filter_cons_of_neg (by rw [c];simp),mC_,List.sum_cons,ih,h i mS_ c,Nat.zero_add]
theorem qf6 {ks:List Nk} {f:Nat->Nat} (h:∀ i,(nAt ks i).2.1=0->f i=0):((List.range ks.length).map f).sum=((qao ks).map f).sum:=by
 rw [((qb9 ks).map f).sum_nat]
 unfold plN
 rw [qaO]
 intro i _ hi
 refine h i ?_
 simpa using hi
theorem qkS {B:Nat} {v:Nat->Nat} {u:Nat->Nk×Nat×Nat}:∀ (l:List Nat) (s:Nat×Nat) (A:Nat),s.1*B=s.2*A->(∀ i∈l,(u i).2.1*B=v i*(u i).2.2)->((l.map u).foldl swS s).1*B=((l.map u).foldl swS s).2*(A+(l.map fun i=>v i*(u i).1.2.1).sum)
 | [],s,A,h,_=>by simpa using h
 | i::l,s,A,h,hv=>by
  have h1:=hv i mS_
  have:=qkS (B:=B) (v:=v) (u:=u) l (swS s (u i)) (A+v i*(u i).1.2.1) (by
   show (s.1*(u i).2.2+(u i).2.1*(u i).1.2.1*s.2)*B=s.2*(u i).2.2*(A+v i*(u i).1.2.1)
   generalize (u i).2.2=z2 at *
   generalize (u i).2.1=z1 at *
   generalize (u i).1.2.1=g at *
   generalize v i=w at *
   have a1:s.1*z2*B=s.2*A*z2:=by rw [<- h];simp only [Nat.mul_comm,Nat.mul_left_comm]
   have a2:z1*g*s.2*B=w*z2*g*s.2:=by rw [<- h1];simp only [Nat.mul_comm,Nat.mul_left_comm]
   rw [Nat.add_mul,a1,a2,Nat.mul_add]
   simp only [Nat.mul_comm,Nat.mul_left_comm]) fun j hj=>hv j (mM_ _ hj)
  rw [mC_,fo_,mC_,List.sum_cons]
  rw [Nat.add_assoc] at this
  exact this
theorem qce {ks:List Nk}:∀ (l:List Nat) (s:Nat×List (Nat×Nat)) (p:Nat),p ∉ l->(l.foldl (shS ks) s).2.getD p (0,1)=s.2.getD p (0,1)
 | [],s,p,_=>rfl
 | q::l,s,p,h=>by
  rw [fo_,qce l _ p fun hp=>h (mM_ _ hp)]
  show (s.2.set q _).getD p (0,1)=_
  have:q≠p:=fun e=>h (by rw [e];exact mS_)
  simp [List.getD,List.getElem?_set,this]
theorem qie {F:List (Nat×Nat)} {p:Nat} {z:Nat×Nat} (h:p<F.length):(F.set p z).getD p (0,1)=z:=by simp [List.getD,h]
theorem sh0 {x:Nk} (h:0<x.1):(shN x 0).1=0/\bhN x 0=0:=by
 unfold shN bhN
 cases c:goN x 0 with
 | false =>
  refine ⟨?_,by simp⟩
  show wZ 0 x.1=0
  unfold wZ
  rw [Nat.zero_div]
 | true =>
  refine ⟨?_,by simp⟩
  show mN x=0
  unfold goN at c
  unfold mN
  cases e:x.2.2 with
  | none=>rfl
  | some m =>
   rw [e] at c
   have:m*x.1<=0:=by simpa using c
   rcases Nat.mul_eq_zero.mp (Nat.le_zero.mp this) with h0 | h0
   ·exact h0
   ·omega
theorem qf7 {ks:List Nk} (hw:∀ x∈ks,0<x.1):∀ (l:List Nat) (F:List (Nat×Nat)),(∀ p∈l,p<ks.length)->F.length=ks.length->l.Nodup->∀ p∈l,((l.foldl (shS ks) (0,F)).2.getD p (0,1)).1=0
 | [],F,_,_,_,p,hp=>by cases hp
 | q::l,F,hl,hF,hn,p,hp=>by
  have hq:=hl q mS_
  obtain ⟨s0,b0⟩:=sh0 (hw _ (jL hq))
  rw [fo_]
  have es:shS ks (0,F) q=(0,F.set q (shN (nAt ks q) 0)):=by
   show (bhN (nAt ks q) 0,_)=_
   rw [b0]
  rw [es]
  obtain ⟨n1,n2⟩:=List.nodup_cons.mp hn
  rcases List.mem_cons.mp hp with e | hp
  ·subst e
   rw [qce l _ p n1,qie (by rw [hF];exact hq)]
   exact s0
  ·exact qf7 hw l _ (fun y hy=>hl y (mM_ _ hy)) (by rw [lS_];exact hF) n2 p hp
theorem qev (T:Nat) {B:Nat} (hB:0<B):T*w6 T B=B*wZ T B:=by
 obtain ⟨g,g0,e1,e2,e3,_,_⟩:=qbB T hB
 generalize wZ T B=t at *
 generalize w6 T B=b at *
 rw [e1,e2]
 simp only [Nat.mul_comm,Nat.mul_left_comm]
theorem qmn (T:Nat) {B:Nat} (hB:0<B):Nat.gcd (wZ T B) (w6 T B)=1:=by
 have hg:0<Nat.gcd T B:=Nat.gcd_pos_of_pos_right _ hB
 show Nat.gcd (T/Nat.gcd T B) (B/Nat.gcd T B)=1
 rw [Nat.gcd_div (Nat.gcd_dvd_left T B) (Nat.gcd_dvd_right T B)]
 exact Nat.div_self hg
theorem qf8 {gp wp gx wx t b:Nat} (hx:0<wx) (e:gx*b=wx*t):(gx*wp<=gp*wx->wp*t<=gp*b)/\(gp*wx<=gx*wp->gp*b<=wp*t):=by
 constructor
 ·intro h
  have a1:gx*wp*b<=gp*wx*b:=Nat.mul_le_mul_right _ h
  have a2:gx*wp*b=wp*t*wx:=by
   rw [Nat.mul_right_comm,e]
   simp only [Nat.mul_comm,Nat.mul_left_comm]
  have a3:gp*wx*b=gp*b*wx:=Nat.mul_right_comm _ _ _
  rw [a2,a3] at a1
  exact Nat.le_of_mul_le_mul_right a1 hx
 ·intro h
  have a1:gp*wx*b<=gx*wp*b:=Nat.mul_le_mul_right _ h
  have a2:gx*wp*b=wp*t*wx:=by
   rw [Nat.mul_right_comm,e]
   simp only [Nat.mul_comm,Nat.mul_left_comm]
  have a3:gp*wx*b=gp*b*wx:=Nat.mul_right_comm _ _ _
  rw [a2,a3] at a1
  exact Nat.le_of_mul_le_mul_right a1 hx
def pv (p a:Nat) (v:Nat->Nat) (q:Nat):Nat:=if q=p then a else v q
theorem qjT (p a:Nat) (v:Nat->Nat):pv p a v p=a:=if_pos rfl
theorem qjU {p q a:Nat} {v:Nat->Nat} (h:q≠p):pv p a v q=v q:=if_neg h
structure qqq (ks:List Nk) (l:List Nat) (r:Nat) (F:List (Nat×Nat)) (t b:Nat):Prop where
 b0:0<b
 g1:Nat.gcd t b=1
 at':(t=0/\b=1)\/∃ x∈l,(nAt ks x).2.1*b=(nAt ks x).1*t
 fin:∀ p∈l,(nAt ks p).1*t<(nAt ks p).2.1*b->(nAt ks p).2.2.isSome=true
 sum:∃ (B:Nat) (v:Nat->Nat),0<B/\(∀ p∈l,((l.foldl (shS ks) (r,F)).2.getD p (0,1)).1*B=v p*((l.foldl (shS ks) (r,F)).2.getD p (0,1)).2)/\b*(l.map fun p=>v p*(nAt ks p).2.1).sum=B*(r*t+(l.map fun p=>uy t b (nAt ks p)*mN (nAt ks p)).sum)
theorem qaP {f:Nat->Nat}:∀ l:List Nat,(∀ p∈l,f p=0)->(l.map f).sum=0
 | [],_=>rfl
 | p::l,h=>by rw [mC_,List.sum_cons,h p mS_,qaP l fun q hq=>h q (mM_ _ hq)]
theorem qpJ {ks:List Nk} (hw:∀ x∈ks,0<x.1):∀ (l:List Nat) (r:Nat) (F:List (Nat×Nat)),(∀ p∈l,p<ks.length)->F.length=ks.length->l.Nodup->l.Pairwise (Rx ks)->qqq ks l r F (spN ks l r).1 (spN ks l r).2
 | [],r,F,_,_,_,_=>⟨Nat.one_pos,by simp [spN],.inl ⟨rfl,rfl⟩,fun p hp=>(nN_ hp).elim,1,fun _=>0,Nat.one_pos,fun p hp=>(nN_ hp).elim,by simp [spN]⟩
 | p :: l,r,F,hl,hF,hn,hs=>by
  have hp:=hl p mS_
  have hl':∀ y∈l,y<ks.length:=fun y hy=>hl y (mM_ _ hy)
  obtain ⟨n1,n2⟩:=List.nodup_cons.mp hn
  obtain ⟨s1,s2⟩:=List.pairwise_cons.mp hs
  have w0:=hw _ (jL hp)
  cases c:goN (nAt ks p) r with
  | true =>
   have e1:spN ks (p::l) r=spN ks l (bhN (nAt ks p) r):=by
    show (if goN (nAt ks p) r then _ else _)=_
    rw [if_pos c]
   have eb:bhN (nAt ks p) r=r-mN (nAt ks p)*(nAt ks p).1:=by unfold bhN;rw [if_pos c]
   have es:shN (nAt ks p) r=(mN (nAt ks p),1):=by unfold shN;rw [if_pos c]
   have hm:(nAt ks p).2.2.isSome=true/\mN (nAt ks p)*(nAt ks p).1<=r:=by
    unfold goN at c
    unfold mN
    cases em:(nAt ks p).2.2 with
    | none=>rw [em] at c;cases c
    | some m=>rw [em] at c;exact ⟨rfl,by simpa using c⟩
   have d:=qpJ hw l (bhN (nAt ks p) r) (F.set p (shN (nAt ks p) r)) hl' (by rw [lS_];exact hF) n2 s2
   rw [e1]
   generalize spN ks l (bhN (nAt ks p) r)=tb at *
   obtain ⟨t,b⟩:=tb
   simp only at d |-
   obtain ⟨b0,g1,ha,hf,B,v,hB,hv,hsum⟩:=d
   have hge:(nAt ks p).1*t<=(nAt ks p).2.1*b:=by
    rcases ha with ⟨rfl,rfl⟩ | ⟨x,hx,ex⟩
    ·simp
    ·exact (qf8 (hw _ (jL (hl' x hx))) ex).1 (s1 x hx).le
   have hfold:(p::l).foldl (shS ks) (r,F)=l.foldl (shS ks) (bhN (nAt ks p) r,F.set p (shN (nAt ks p) r)):=rfl
   refine ⟨b0,g1,?_,fun q hq => ?_,B,pv p (B*mN (nAt ks p)) v,hB,fun q hq => ?_,?_⟩
   ·rcases ha with h | ⟨x,hx,ex⟩
    ·exact .inl h
    ·exact .inr ⟨x,mM_ _ hx,ex⟩
   ·rcases List.mem_cons.mp hq with e | hq
    ·subst e;exact fun _=>hm.1
    ·exact hf q hq
   ·rw [hfold]
    rcases List.mem_cons.mp hq with e | hq
    ·subst e
     rw [qce l _ q n1]
     show ((F.set q (shN (nAt ks q) r)).getD q (0,1)).1*B=_*((F.set q (shN (nAt ks q) r)).getD q (0,1)).2
     rw [qie (by rw [hF];exact hp),es,qjT]
     simp only [Nat.mul_one]
     exact Nat.mul_comm _ _
    ·have:q≠p:=fun e=>n1 (e▸hq)
     rw [qjU this]
     exact hv q hq
   ·have ev:(l.map fun q=>pv p (B*mN (nAt ks p)) v q*(nAt ks q).2.1)=l.map fun q=>v q*(nAt ks q).2.1:=mL_ fun q hq=>by
     have:q≠p:=fun e=>n1 (e▸hq)
     rw [qjU this]
    rw [mC_,mC_,List.sum_cons,List.sum_cons,ev,qjT,Nat.mul_add,hsum,eb]
    generalize (l.map fun p=>uy t b (nAt ks p)*mN (nAt ks p)).sum=S at *
    unfold uy
    generalize mN (nAt ks p)=m at *
    generalize (nAt ks p).1=w at *
    generalize (nAt ks p).2.1=g at *
    obtain ⟨q,rfl⟩:∃ q,r=m*w+q:=⟨r-m*w,by omega⟩
    obtain ⟨z,hz⟩:∃ z,g*b=w*t+z:=⟨g*b-w*t,by omega⟩
    rw [hz,Nat.add_sub_cancel_left,Nat.add_sub_cancel_left]
    have:b*(B*m*g)=B*(m*(w*t+z)):=by
     rw [<- hz]
     simp only [Nat.mul_comm,Nat.mul_left_comm]
    rw [this,<- Nat.mul_add]
    congr 1
    rw [Nat.mul_add,Nat.add_mul]
    have a1:m*(w*t)=m*w*t:=(Nat.mul_assoc _ _ _).symm
    have a2:z*m=m*z:=Nat.mul_comm _ _
    omega
  | false =>
   have e1:spN ks (p::l) r=(wZ (nAt ks p).2.1 (nAt ks p).1,w6 (nAt ks p).2.1 (nAt ks p).1):=by
    show (if goN (nAt ks p) r then _ else _)=_
    rw [if_neg (by rw [c];simp)]
   have eb:bhN (nAt ks p) r=0:=by unfold bhN;rw [if_neg (by rw [c];simp)]
   have es:shN (nAt ks p) r=(wZ r (nAt ks p).1,w6 r (nAt ks p).1):=by unfold shN;rw [if_neg (by rw [c];simp)]
   have hfold:(p::l).foldl (shS ks) (r,F)=l.foldl (shS ks) (0,F.set p (shN (nAt ks p) r)):=by rw [<- eb];rfl
   rw [e1]
   have ex:=qev (nAt ks p).2.1 w0
   have er:=qev r w0
   have lb:=qca (nAt ks p).2.1 w0
   have lr:=qca r w0
   have gg:=qmn (nAt ks p).2.1 w0
   simp only
   generalize wZ (nAt ks p).2.1 (nAt ks p).1=t at *
   generalize w6 (nAt ks p).2.1 (nAt ks p).1=b at *
   have hle:∀ q∈l,(nAt ks q).2.1*b<=(nAt ks q).1*t:=fun q hq=>(qf8 w0 ex).2 (s1 q hq).le
   have m0:∀ q∈p::l,uy t b (nAt ks q)=0:=fun q hq=>by
    unfold uy
    rcases List.mem_cons.mp hq with e | hq
    ·subst e;omega
    ·have:=hle q hq;omega
   refine ⟨lb.1,gg,.inr ⟨p,mS_,ex⟩,fun q hq h => ?_,w6 r (nAt ks p).1,pv p (wZ r (nAt ks p).1) (fun _=>0),lr.1,fun q hq => ?_,?_⟩
   ·have:=m0 q hq
    unfold uy at this
    omega
   ·rw [hfold]
    rcases List.mem_cons.mp hq with e | hq
    ·subst e
     rw [qce l _ q n1]
     show ((F.set q (shN (nAt ks q) r)).getD q (0,1)).1*_=_*((F.set q (shN (nAt ks q) r)).getD q (0,1)).2
     rw [qie (by rw [hF];exact hp),es,qjT]
    ·have:q≠p:=fun e=>n1 (e▸hq)
     rw [qjU this,Nat.zero_mul,qf7 hw l _ hl' (by rw [lS_];exact hF) n2 q hq,Nat.zero_mul]
   ·rw [qaP (p::l) (f:=fun q=>uy t b (nAt ks q)*mN (nAt ks q)) fun q hq=>by rw [m0 q hq,Nat.zero_mul]]
    rw [mC_,List.sum_cons,qaP l (f:=fun q=>pv p (wZ r (nAt ks p).1) (fun _=>0) q*(nAt ks q).2.1) fun q hq=>by
     have:q≠p:=fun e=>n1 (e▸hq)
     rw [qjU this,Nat.zero_mul],qjT,Nat.add_zero,Nat.add_zero]
    generalize wZ r (nAt ks p).1=u at *
    generalize w6 r (nAt ks p).1=B at *
    generalize (nAt ks p).1=w at *
    generalize (nAt ks p).2.1=g at *
    have a1:b*(u*g)=u*(g*b):=by simp only [Nat.mul_comm,Nat.mul_left_comm]
    have a2:B*(r*t)=r*B*t:=by simp only [Nat.mul_comm,Nat.mul_left_comm]
    rw [a1,a2,ex,er]
    simp only [Nat.mul_comm,Nat.mul_left_comm]
def vt (ks:List Nk) (r:Nat):Nat×Nat:=spN ks (qao ks) r
theorem qjV {ks:List Nk} (hw:∀ x∈ks,0<x.1) (r:Nat):0<(vt ks r).2/\Nat.gcd (vt ks r).1 (vt ks r).2=1:=by
 have d:=qpJ hw (qao ks) r (List.replicate ks.length (0,1)) (fun p hp=>(qap.mp hp).1) List.length_replicate (qcV ks) (qcd hw)
 exact ⟨d.b0,d.g1⟩
theorem qe7 {ks:List Nk} (hw:∀ x∈ks,0<x.1) (r:Nat):∃ T,bdN (vt ks r).1 (vt ks r).2 ks (r*(vt ks r).1)=some T/\T*(swN ks r).2=(swN ks r).1*(vt ks r).2:=by
 have d:=qpJ hw (qao ks) r (List.replicate ks.length (0,1)) (fun p hp=>(qap.mp hp).1) List.length_replicate (qcV ks) (qcd hw)
 have d':qqq ks (qao ks) r (List.replicate ks.length (0,1)) (vt ks r).1 (vt ks r).2:=d
 generalize (vt ks r).1=t at *
 generalize (vt ks r).2=b at *
 obtain ⟨b0,g1,ha,hf,B,v,hB,hv,hsum⟩:=d'
 refine ⟨_,qdo ks _ fun x hx hlt => ?_,?_⟩
 ·obtain ⟨i,hi⟩:=List.mem_iff_getElem?.mp hx
  have hil:i<ks.length:=(gI_.mp hi).1
  rw [vK hil] at hi
  cases hi
  refine hf i (qap.mpr ⟨hil,?_⟩) hlt
  refine Nat.pos_of_ne_zero fun e => ?_
  rw [e,Nat.zero_mul] at hlt
  omega
 ·have e1:(ks.map fun x=>uy t b x*mN x)=(List.range ks.length).map fun i=>uy t b (nAt ks i)*mN (nAt ks i):=by
   conv=>lhs;rw [<- qf5 ks]
   rw [mm_]
   rfl
  rw [e1,qf6 (f:=fun i=>uy t b (nAt ks i)*mN (nAt ks i)) fun i h=>by
   unfold uy
   rw [h,Nat.zero_mul,Nat.zero_sub,Nat.zero_mul]]
  let v':Nat->Nat:=fun i=>if i∈qao ks then v i else 0
  have hz:ks.zip (shs ks r)=(List.range ks.length).map fun i=>(nAt ks i,(shs ks r).getD i (0,1)):=by
   refine List.ext_getElem (by simp [qdj]) fun i h1 h2 => ?_
   have hi:i<ks.length:=by simpa using h2
   have:=vK hi
   rw [gG hi] at this
   have hi2:i<(shs ks r).length:=by rw [qdj];exact hi
   simp [Option.some.inj this,hi2]
  have val:=qkS (B:=B) (v:=v') (u:=fun i=>(nAt ks i,(shs ks r).getD i (0,1))) (List.range ks.length) (0,1) 0 (by simp) fun i hi=>by
   show ((shs ks r).getD i (0,1)).1*B=v' i*((shs ks r).getD i (0,1)).2
   by_cases hd:i∈qao ks
   ·show _=(if i∈qao ks then v i else 0)*_
    rw [if_pos hd]
    exact hv i hd
   ·show _=(if i∈qao ks then v i else 0)*_
    rw [if_neg hd,Nat.zero_mul]
    have:(shs ks r).getD i (0,1)=(List.replicate ks.length ((0:Nat),(1:Nat))).getD i (0,1):=qce (qao ks) _ i hd
    rw [this]
    have hi':i<ks.length:=mR_.mp hi
    simp [List.getD,hi']
  rw [<- hz,qf6 (f:=fun i=>v' i*(nAt ks i).2.1) fun i h=>by rw [h,Nat.mul_zero]] at val
  have ev:((qao ks).map fun i=>v' i*(nAt ks i).2.1)=(qao ks).map fun i=>v i*(nAt ks i).2.1:=mL_ fun i hi=>by
   show (if i∈qao ks then v i else 0)*_=_
   rw [if_pos hi]
  rw [ev] at val
  have val':(swN ks r).1*B=(swN ks r).2*((qao ks).map fun i=>v i*(nAt ks i).2.1).sum:=by
   have:(ks.zip (shs ks r)).foldl swS (0,1)=swN ks r:=rfl
   rw [this,Nat.zero_add] at val
   exact val
  generalize ((qao ks).map fun i=>v i*(nAt ks i).2.1).sum=X at *
  generalize (r*t+((qao ks).map fun i=>uy t b (nAt ks i)*mN (nAt ks i)).sum)=Y at *
  generalize (swN ks r).1=N at *
  generalize (swN ks r).2=Dn at *
  have:B*(Y*Dn)=B*(N*b):=by
   have a1:B*(Y*Dn)=B*Y*Dn:=(Nat.mul_assoc _ _ _).symm
   have a2:B*(N*b)=N*B*b:=by simp only [Nat.mul_comm,Nat.mul_left_comm]
   rw [a1,a2,<- hsum,val']
   simp only [Nat.mul_comm,Nat.mul_left_comm]
  exact Nat.eq_of_mul_eq_mul_left hB this
def jY (n:Nat) (f:Nat->Nat):Nat:=((List.range n).map f).sum
theorem zq (n:Nat) (f:Nat->Nat):jY (n+1) f=jY n f+f n:=by
 unfold jY
 rw [List.range_succ,List.map_append,List.sum_append]
 simp
theorem zT {n:Nat} {f g:Nat->Nat} (h:∀ p,p<n->f p=g p):jY n f=jY n g:=by
 unfold jY
 rw [mL_ fun p hp=>h p (mR_.mp hp)]
theorem qif {f g:Nat->Nat}:∀ n:Nat,(∀ p,p<n->f p<=g p)->jY n f<=jY n g
 | 0,_=>Nat.le_refl _
 | n+1,h=>by
  rw [zq,zq]
  have:=qif n fun p hp=>h p (by omega)
  have:=h n (by omega)
  omega
theorem qf9 {f g:Nat->Nat}:∀ n:Nat,jY n (fun p=>f p+g p)=jY n f+jY n g
 | 0=>rfl
 | n+1=>by
  rw [zq,zq,zq,qf9 n]
  omega
theorem qaq {f:Nat->Nat} (c:Nat):∀ n:Nat,jY n (fun p=>c*f p)=c*jY n f
 | 0=>rfl
 | n+1=>by
  rw [zq,zq,qaq c n,Nat.mul_add]
theorem qar {f g:Nat->Nat} {p c:Nat} (hp:f p=g p+c) (hq:∀ q,q≠p->f q=g q):∀ n:Nat,(p<n->jY n f=jY n g+c)/\(n<=p->jY n f=jY n g)
 | 0=>⟨fun h=>absurd h (Nat.not_lt_zero _),fun _=>rfl⟩
 | n + 1=>by
  obtain ⟨a,b⟩:=qar hp hq n
  rw [zq,zq]
  refine ⟨fun h => ?_,fun h => ?_⟩
  ·by_cases e:n=p
   ·subst e
    rw [b (Nat.le_refl _),hp]
    omega
   ·rw [a (by omega),hq n e]
    omega
  ·rw [b (by omega),hq n (by omega)]
def okY (ks:List Nk) (y:Nat->Nat):Prop:=∀ p,p<ks.length->∀ m,(nAt ks p).2.2=some m->y p<=m
def wY (ks:List Nk) (y:Nat->Nat):Nat:=jY ks.length fun p=>(nAt ks p).1*y p
def gY (ks:List Nk) (y:Nat->Nat):Nat:=jY ks.length fun p=>(nAt ks p).2.1*y p
theorem qe8 {t b:Nat}:∀ (ks:List Nk) (T T':Nat),bdN t b ks T=some T'->(∀ x∈ks,x.1*t<x.2.1*b->x.2.2.isSome=true)
 | [],T,T',_,x,hx,_=>by cases hx
 | y :: ks,T,T',e,x,hx,c=>by
  unfold bdN at e
  rcases List.mem_cons.mp hx with rfl | hx
  ·rw [if_pos c] at e
   cases em:x.2.2 with
   | none=>rw [em] at e;cases e
   | some m=>rfl
  ·split at e
   ·cases em:y.2.2 with
    | none=>rw [em] at e;cases e
    | some m=>rw [em] at e;exact qe8 ks _ T' e x hx c
   ·exact qe8 ks _ T' e x hx c
theorem qgI {ks:List Nk} {t b r T:Nat} {y:Nat->Nat} (hy:okY ks y) (hr:wY ks y<=r) (e:bdN t b ks (r*t)=some T):gY ks y*b<=T:=by
 have hf:=qe8 ks _ _ e
 rw [qdo ks _ hf] at e
 have e':=Option.some.inj e
 have e1:(ks.map fun x=>uy t b x*mN x).sum=jY ks.length fun i=>uy t b (nAt ks i)*mN (nAt ks i):=by
  conv=>lhs;rw [<- qf5 ks]
  rw [mm_]
  rfl
 rw [e1] at e'
 have h1:gY ks y*b=jY ks.length fun p=>b*((nAt ks p).2.1*y p):=by
  rw [qaq,Nat.mul_comm]
  rfl
 have h2:(jY ks.length fun p=>b*((nAt ks p).2.1*y p))<=jY ks.length fun p=>t*((nAt ks p).1*y p)+uy t b (nAt ks p)*mN (nAt ks p):=by
  refine qif _ fun p hp => ?_
  have a1:b*((nAt ks p).2.1*y p)=(nAt ks p).2.1*b*y p:=by simp only [Nat.mul_comm,Nat.mul_left_comm]
  have a2:t*((nAt ks p).1*y p)=(nAt ks p).1*t*y p:=by simp only [Nat.mul_comm,Nat.mul_left_comm]
  rw [a1,a2]
  by_cases c:(nAt ks p).1*t<(nAt ks p).2.1*b
  ·obtain ⟨m,hm⟩:=Option.isSome_iff_exists.mp (hf _ (jL hp) c)
   have em:mN (nAt ks p)=m:=by unfold mN;rw [hm];rfl
   have ym:=hy p hp m hm
   rw [em]
   have a3:(nAt ks p).2.1*b=(nAt ks p).1*t+uy t b (nAt ks p):=by unfold uy;omega
   rw [a3,Nat.add_mul]
   have:=Nat.mul_le_mul_left (uy t b (nAt ks p)) ym
   omega
  ·have:(nAt ks p).2.1*b*y p<=(nAt ks p).1*t*y p:=Nat.mul_le_mul_right _ (by omega)
   omega
 rw [qf9,qaq (f:=fun p=>(nAt ks p).1*y p),<- h1] at h2
 have h3:t*wY ks y<=r*t:=by rw [Nat.mul_comm r];exact Nat.mul_le_mul_left _ hr
 have h4:(jY ks.length fun p=>(nAt ks p).1*y p)=wY ks y:=rfl
 rw [h4] at h2
 omega
theorem qq3 {ks:List Nk} (hw:∀ x∈ks,0<x.1) {r:Nat} {y:Nat->Nat} (hy:okY ks y) (hr:wY ks y<=r):gY ks y*(swN ks r).2<=(swN ks r).1:=by
 obtain ⟨T,e,c⟩:=qe7 hw r
 obtain ⟨b0,_⟩:=qjV hw r
 have h:=qgI hy hr e
 generalize (vt ks r).2=b at *
 generalize (swN ks r).1=N at *
 generalize (swN ks r).2=Dn at *
 have:gY ks y*Dn*b<=N*b:=by
  rw [<- c,Nat.mul_right_comm]
  exact Nat.mul_le_mul_right _ h
 exact Nat.le_of_mul_le_mul_right this b0
structure Shv (ks:List Nk) (l:List Nat) (r G B:Nat) (s:Nat->Nat×Nat) (v:Nat->Nat):Prop where
 b0:0<B
 val:∀ p∈l,(s p).1*B=v p*(s p).2
 wt:(l.map fun p=>(nAt ks p).1*v p).sum<=r*B
 mo:∀ p∈l,∀ m,(nAt ks p).2.2=some m->v p<=m*B
 fl:∀ p∈l,(s p).1/(s p).2*B<=v p
 gn:(l.map fun p=>v p*(nAt ks p).2.1).sum<=B*(l.map fun p=>(s p).1/(s p).2*(nAt ks p).2.1).sum+(B-1)*G
def ofN (x:Nk) (r:Nat):Nat:=match x.2.2 with
 | none=>r/x.1
 | some m=>if m<r/x.1 then m else r/x.1
def mxN (l:List Nat):Nat:=l.foldl (fun a b=>if b>a then b else a) 0
def qG:List Nk->Nat->Nat
 | [],_=>0
 | x::ks,r=>mxN ((List.range (ofN x r+1)).map fun t=>t*x.2.1+qG ks (r-t*x.1))
theorem qe9:∀ (l:List Nat) (a:Nat),a<=l.foldl (fun a b=>if b>a then b else a) a/\(∀ b∈l,b<=l.foldl (fun a b=>if b>a then b else a) a)/\(l.foldl (fun a b=>if b>a then b else a) a=a\/l.foldl (fun a b=>if b>a then b else a) a∈l)
 | [],a=>⟨Nat.le_refl _,fun b hb=>(nN_ hb).elim,.inl rfl⟩
 | c :: l,a=>by
  obtain ⟨h1,h2,h3⟩:=qe9 l (if c>a then c else a)
  rw [fo_]
  refine ⟨?_,fun b hb => ?_,?_⟩
  ·exact Nat.le_trans (show a<=(if c>a then c else a) by split<;>omega) h1
  ·rcases List.mem_cons.mp hb with rfl | hb
   ·exact Nat.le_trans (show b<=(if b>a then b else a) by split<;>omega) h1
   ·exact h2 b hb
  ·rcases h3 with h3 | h3
   ·rw [h3]
    split
    ·exact .inr mS_
    ·exact .inl rfl
   ·exact .inr (mM_ _ h3)
theorem qga {l:List Nat} {b:Nat} (h:b∈l):b<=mxN l:=(qe9 l 0).2.1 b h
theorem qfa {l:List Nat} (h:l≠[]):mxN l∈l:=by
 rcases (qe9 l 0).2.2 with e | e
 ·cases l with
  | nil=>exact absurd rfl h
  | cons a l =>
   have h0:=qga (l:=a::l) mS_
   have:mxN (a::l)=0:=e
   rw [this]
   have:a=0:=by omega
   rw [<- this]
   exact mS_
 ·exact e
theorem qcf {x:Nk} {r t:Nat} (h0:0<x.1):t<=ofN x r ↔ (t*x.1<=r/\∀ m,x.2.2=some m->t<=m):=by
 unfold ofN
 cases e:x.2.2 with
 | none =>
  show t<=r/x.1 ↔ _
  rw [Nat.le_div_iff_mul_le h0]
  exact ⟨fun h=>⟨h,fun m em=>by cases em⟩,fun h=>h.1⟩
 | some m =>
  show t<=(if m<r/x.1 then m else r/x.1) ↔ _
  have:=Nat.le_div_iff_mul_le (x:=t) (y:=r) h0
  constructor
  ·intro h
   refine ⟨this.mp ?_,fun j em => ?_⟩
   ·split at h<;>omega
   ·cases em
    split at h<;>omega
  ·intro h
   have a:=this.mpr h.1
   have b:=h.2 m rfl
   split<;>omega
theorem qew (n:Nat) (f:Nat->Nat):jY (n+1) f=f 0+jY n fun p=>f (p+1):=by
 induction n with
 | zero=>simp [jY]
 | succ n ih =>
  rw [zq,ih,zq]
  omega
theorem j6 (x:Nk) (ks:List Nk) (y:Nat->Nat):wY (x::ks) y=x.1*y 0+wY ks fun p=>y (p+1):=by
 unfold wY
 rw [lC_,qew]
 rfl
theorem j7 (x:Nk) (ks:List Nk) (y:Nat->Nat):gY (x::ks) y=x.2.1*y 0+gY ks fun p=>y (p+1):=by
 unfold gY
 rw [lC_,qew]
 rfl
theorem vL:∀ {ks:List Nk} {r:Nat} {y:Nat->Nat},(∀ x∈ks,0<x.1)->okY ks y->wY ks y<=r->gY ks y<=qG ks r
 | [],r,y,_,_,_=>Nat.le_refl _
 | x::ks,r,y,hw,hy,hr=>by
  rw [j6] at hr
  rw [j7]
  have x0:=hw x mS_
  have ht:y 0<=ofN x r:=(qcf x0).mpr ⟨by rw [Nat.mul_comm];omega,fun m em=>hy 0 (by rw [lC_];omega) m em⟩
  have ih:=vL (ks:=ks) (r:=r-y 0*x.1) (y:=fun p=>y (p+1)) (fun z hz=>hw z (mM_ _ hz)) (fun p hp m em=>hy (p+1) (by rw [lC_];omega) m em) (by rw [Nat.mul_comm (y 0)];omega)
  have:=qga (l:=(List.range (ofN x r+1)).map fun t=>t*x.2.1+qG ks (r-t*x.1)) (mP_.mpr ⟨y 0,mR_.mpr (by omega),rfl⟩)
  show _<=mxN _
  have a:x.2.1*y 0=y 0*x.2.1:=Nat.mul_comm _ _
  omega
theorem qbC:∀ (ks:List Nk) (r:Nat),(∀ x∈ks,0<x.1)->∃ y,okY ks y/\wY ks y<=r/\gY ks y=qG ks r
 | [],r,_=>⟨fun _=>0,fun p hp=>absurd hp (Nat.not_lt_zero _),Nat.zero_le _,rfl⟩
 | x :: ks,r,hw=>by
  have x0:=hw x mS_
  have hm:=qfa (l:=(List.range (ofN x r+1)).map fun t=>t*x.2.1+qG ks (r-t*x.1)) (by simp)
  obtain ⟨t,ht,e⟩:=mP_.mp hm
  have ht':=(qcf x0).mp (show t<=ofN x r by have:=mR_.mp ht;omega)
  obtain ⟨y,y1,y2,y3⟩:=qbC ks (r-t*x.1) fun z hz=>hw z (mM_ _ hz)
  refine ⟨fun p=>if p=0 then t else y (p-1),fun p hp m em => ?_,?_,?_⟩
  ·cases p with
   | zero=>exact ht'.2 m em
   | succ p =>
    show y p<=m
    exact y1 p (by rw [lC_] at hp;omega) m em
  ·rw [j6]
   show x.1*t+wY ks y<=r
   have:=ht'.1
   rw [Nat.mul_comm x.1]
   omega
  ·rw [j7]
   show x.2.1*t+gY ks y=mxN _
   rw [y3,Nat.mul_comm]
   exact e
section
variable {ks:List Nk} (hw:∀ x∈ks,0<x.1)
include hw
end
theorem qaQ {ks ks':List Nk} (hw:∀ x∈ks,0<x.1) (hw':∀ x∈ks',0<x.1) {r r':Nat} (h:∀ y,okY ks y->wY ks y<=r->∃ y',okY ks' y'/\wY ks' y'<=r'/\gY ks y<=gY ks' y'):qG ks r<=qG ks' r':=by
 obtain ⟨y,y1,y2,y3⟩:=qbC ks r hw
 obtain ⟨y',z1,z2,z3⟩:=h y y1 y2
 have:=vL hw' z1 z2
 omega
def vb (h d:Nat) (ks:List Nk):List Nk:=ks.map fun x=>(x.1*h,x.2.1*d,x.2.2)
theorem qdp {h d:Nat} {ks:List Nk} {p:Nat} (hp:p<ks.length):nAt (vb h d ks) p=((nAt ks p).1*h,(nAt ks p).2.1*d,(nAt ks p).2.2):=by
 unfold nAt vb
 simp [List.getD,hp]
theorem qgb (h d:Nat) (ks:List Nk) (y:Nat->Nat):wY (vb h d ks) y=h*wY ks y/\gY (vb h d ks) y=d*gY ks y:=by
 have hl:(vb h d ks).length=ks.length:=lM_ _
 unfold wY gY
 rw [hl,<- qaq,<- qaq]
 constructor
 ·refine zT fun p hp => ?_
  rw [qdp hp]
  show (nAt ks p).1*h*y p=h*((nAt ks p).1*y p)
  simp only [Nat.mul_comm,Nat.mul_left_comm,Nat.mul_assoc]
 ·refine zT fun p hp => ?_
  rw [qdp hp]
  show (nAt ks p).2.1*d*y p=d*((nAt ks p).2.1*y p)
  simp only [Nat.mul_comm,Nat.mul_left_comm,Nat.mul_assoc]
theorem qig {h d:Nat} {ks:List Nk} {y:Nat->Nat}:okY (vb h d ks) y ↔ okY ks y:=by
 have hl:(vb h d ks).length=ks.length:=lM_ _
 unfold okY
 rw [hl]
 constructor
 ·intro H p hp m em
  exact H p hp m (by rw [qdp hp];exact em)
 ·intro H p hp m em
  rw [qdp hp] at em
  exact H p hp m em
theorem qgJ {ks:List Nk} (hw:∀ x∈ks,0<x.1) {h d r e:Nat} (h0:0<h) (he:e<h):qG (vb h d ks) (r*h+e)=qG ks r*d:=by
 have hw':∀ x∈vb h d ks,0<x.1:=fun x hx=>by
  obtain ⟨z,hz,rfl⟩:=mP_.mp hx
  exact Nat.mul_pos (hw z hz) h0
 obtain ⟨y,y1,y2,y3⟩:=qbC ks r hw
 obtain ⟨z,z1,z2,z3⟩:=qbC (vb h d ks) (r*h+e) hw'
 rw [(qgb h d ks z).1] at z2
 rw [(qgb h d ks z).2] at z3
 have zw:wY ks z<=r:=by
  refine Nat.le_of_lt_succ (Nat.lt_of_mul_lt_mul_left (a:=h) ?_)
  have:h*(r+1)=r*h+h:=by rw [Nat.mul_add,Nat.mul_one,Nat.mul_comm]
  show h*wY ks z<h*(r+1)
  omega
 have a1:=vL hw (qig.mp z1) zw
 have a2:=vL hw' (y:=y) (qig.mpr y1) (r:=r*h+e) (by
  rw [(qgb h d ks y).1,Nat.mul_comm r]
  have:=Nat.mul_le_mul_left h y2
  omega)
 rw [(qgb h d ks y).2,y3] at a2
 have a3:=Nat.mul_le_mul_left d a1
 rw [Nat.mul_comm (qG ks r)]
 omega
def skip (q p:Nat):Nat:=if p<q then p else p+1
theorem vM {f:Nat->Nat} {q:Nat}:∀ n:Nat,q<=n->jY (n+1) f=jY n (fun p=>f (skip q p))+f q
 | 0,h=>by
  have:q=0:=by omega
  subst this
  simp [jY]
 | n + 1,h=>by
  rw [zq (n+1) f,zq n fun p=>f (skip q p)]
  by_cases c:q=n+1
  ·subst c
   have e:jY n (fun p=>f (skip (n+1) p))=jY n f:=zT fun p hp=>by
    unfold skip
    rw [if_pos (by omega)]
   have e2:f (skip (n+1) n)=f n:=by
    unfold skip
    rw [if_pos (by omega)]
   rw [e,e2,zq n f]
  ·rw [vM (f:=f) (q:=q) n (by omega)]
   have e2:f (skip q n)=f (n+1):=by
    unfold skip
    rw [if_neg (by omega)]
   rw [e2]
   omega
theorem vc {ks:List Nk} {q p:Nat}:nAt (ks.eraseIdx q) p=nAt ks (skip q p):=by
 unfold nAt skip
 simp only [List.getD]
 rw [List.getElem?_eraseIdx]
 split<;>simp_all
theorem qcg {ks:List Nk} {q:Nat} (hq:q<ks.length):(ks.eraseIdx q).length=ks.length-1:=List.length_eraseIdx_of_lt hq
def qmO (q:Nat) (y:Nat->Nat) (p:Nat):Nat:=if p<q then y p else if p=q then 0 else y (p-1)
theorem qih (q:Nat) (y:Nat->Nat):qmO q y q=0:=by
 unfold qmO
 rw [if_neg (by omega),if_pos rfl]
theorem qex (q p:Nat) (y:Nat->Nat):qmO q y (skip q p)=y p:=by
 unfold qmO skip
 by_cases c:p<q
 ·simp only [c,if_true]
 ·simp only [c,if_false]
  rw [if_neg (by omega),if_neg (by omega),Nat.add_sub_cancel]
theorem qch {ks:List Nk} (hw:∀ x∈ks,0<x.1) {q:Nat} (hq:q<ks.length) (r:Nat):qG (ks.eraseIdx q) r<=qG ks r:=by
 have hw':∀ x∈ks.eraseIdx q,0<x.1:=fun x hx=>hw x (List.mem_of_mem_eraseIdx hx)
 obtain ⟨n,hn⟩:∃ n,ks.length=n+1:=⟨ks.length-1,by omega⟩
 have hl:=qcg hq
 refine qaQ hw' hw fun y y1 y2=>⟨qmO q y,fun p hp m em => ?_,?_,?_⟩
 ·unfold qmO
  by_cases c:p<q
  ·rw [if_pos c]
   exact y1 p (by omega) m (by rw [vc,skip,if_pos c];exact em)
  ·rw [if_neg c]
   by_cases d:p=q
   ·rw [if_pos d];exact Nat.zero_le _
   ·rw [if_neg d]
    refine y1 (p-1) (by omega) m ?_
    rw [vc,skip,if_neg (by omega),show p-1+1=p by omega]
    exact em
 ·refine Nat.le_trans (Nat.le_of_eq ?_) y2
  unfold wY
  rw [hn,vM (q:=q) n (by omega),hl,hn,Nat.add_sub_cancel,qih,Nat.mul_zero,Nat.add_zero]
  exact zT fun p _=>by rw [vc,qex]
 ·refine Nat.le_of_eq (Eq.symm ?_)
  unfold gY
  rw [hn,vM (q:=q) n (by omega),hl,hn,Nat.add_sub_cancel,qih,Nat.mul_zero,Nat.add_zero]
  exact zT fun p _=>by rw [vc,qex]
theorem qii {ks:List Nk} (hw:∀ x∈ks,0<x.1) {q:Nat} (hq:q<ks.length) {r:Nat} {y:Nat->Nat} (y1:okY ks y) (y2:wY ks y<=r) (y3:gY ks y=qG ks r) (y0:y q=0):qG (ks.eraseIdx q) r=qG ks r:=by
 refine Nat.le_antisymm (qch hw hq r) ?_
 have hw':∀ x∈ks.eraseIdx q,0<x.1:=fun x hx=>hw x (List.mem_of_mem_eraseIdx hx)
 obtain ⟨n,hn⟩:∃ n,ks.length=n+1:=⟨ks.length-1,by omega⟩
 have hl:=qcg hq
 have ew:wY (ks.eraseIdx q) (fun p=>y (skip q p))=wY ks y:=by
  unfold wY
  rw [hn,vM (q:=q) n (by omega),hl,hn,Nat.add_sub_cancel,y0,Nat.mul_zero,Nat.add_zero]
  exact zT fun p _=>by rw [vc]
 have eg:gY (ks.eraseIdx q) (fun p=>y (skip q p))=gY ks y:=by
  unfold gY
  rw [hn,vM (q:=q) n (by omega),hl,hn,Nat.add_sub_cancel,y0,Nat.mul_zero,Nat.add_zero]
  exact zT fun p _=>by rw [vc]
 rw [<- y3,<- eg]
 refine vL hw' (fun p hp m em => ?_) (by rw [ew];exact y2)
 rw [vc] at em
 exact y1 (skip q p) (by unfold skip;split<;>omega) m em
def mv (p q:Nat) (z:Nat->Nat) (s:Nat):Nat:=if s=p then 0 else if s=q then z q+z p else z s
theorem qkT {f:Nat->Nat} {z:Nat->Nat} {n p q:Nat} (hp:p<n) (hq:q<n) (hne:p≠q):jY n (fun s=>f s*mv p q z s)+f p*z p=jY n (fun s=>f s*z s)+f q*z p:=by
 let z1:Nat->Nat:=fun s=>if s=p then 0 else z s
 have a:jY n (fun s=>f s*z s)=jY n (fun s=>f s*z1 s)+f p*z p:=by
  refine (qar (p:=p) (c:=f p*z p) ?_ (fun s hs => ?_) n).1 hp
  ·show f p*z p=f p*(if p=p then 0 else z p)+f p*z p
   rw [if_pos rfl,Nat.mul_zero,Nat.zero_add]
  ·show f s*z s=f s*(if s=p then 0 else z s)
   rw [if_neg hs]
 have b:jY n (fun s=>f s*mv p q z s)=jY n (fun s=>f s*z1 s)+f q*z p:=by
  refine (qar (p:=q) (c:=f q*z p) ?_ (fun s hs => ?_) n).1 hq
  ·show f q*(if q=p then 0 else if q=q then z q+z p else z q)=f q*(if q=p then 0 else z q)+f q*z p
   rw [if_neg (Ne.symm hne),if_pos rfl,if_neg (Ne.symm hne),Nat.mul_add]
  ·show f s*(if s=p then 0 else if s=q then z q+z p else z s)=f s*(if s=p then 0 else z s)
   by_cases c:s=p
   ·rw [if_pos c,if_pos c]
   ·rw [if_neg c,if_neg hs,if_neg c]
 omega
theorem qq4 {ks:List Nk} {z:Nat->Nat} {p q:Nat} (hz:okY ks z) (hp:p<ks.length) (hq:q<ks.length) (hne:p≠q) (hm:(nAt ks q).2.2=none) (hw:(nAt ks q).1<=(nAt ks p).1) (hg:(nAt ks p).2.1<=(nAt ks q).2.1):okY ks (mv p q z)/\wY ks (mv p q z)<=wY ks z/\gY ks z<=gY ks (mv p q z):=by
 refine ⟨fun s hs m em => ?_,?_,?_⟩
 ·unfold mv
  by_cases c:s=p
  ·rw [if_pos c];exact Nat.zero_le _
  ·rw [if_neg c]
   by_cases d:s=q
   ·rw [d,hm] at em
    cases em
   ·rw [if_neg d];exact hz s hs m em
 ·have:=qkT (f:=fun s=>(nAt ks s).1) (z:=z) hp hq hne
  have a:=Nat.mul_le_mul_right (z p) hw
  show jY _ _<=jY _ _
  omega
 ·have:=qkT (f:=fun s=>(nAt ks s).2.1) (z:=z) hp hq hne
  have a:=Nat.mul_le_mul_right (z p) hg
  show jY _ _<=jY _ _
  omega
theorem qci {ks:List Nk} {K:Nat->Bool} (dom:∀ p,p<ks.length->K p=false->∃ q,q<ks.length/\K q=true/\(nAt ks q).2.2=none/\(nAt ks q).1<=(nAt ks p).1/\(nAt ks p).2.1<=(nAt ks q).2.1):∀ (l:List Nat) (z:Nat->Nat),(∀ p∈l,p<ks.length)->okY ks z->∃ z',okY ks z'/\wY ks z'<=wY ks z/\gY ks z<=gY ks z'/\(∀ p,K p=false->(p∈l\/z p=0)->z' p=0)
 | [],z,_,hz=>⟨z,hz,Nat.le_refl _,Nat.le_refl _,fun p _ h=>h.elim (fun h=>(nN_ h).elim) id⟩
 | p :: l,z,hl,hz=>by
  have hl':∀ s∈l,s<ks.length:=fun s hs=>hl s (mM_ _ hs)
  cases c:K p with
  | true =>
   obtain ⟨z',h1,h2,h3,h4⟩:=qci dom l z hl' hz
   refine ⟨z',h1,h2,h3,fun s hs h=>h4 s hs ?_⟩
   rcases h with h | h
   ·rcases List.mem_cons.mp h with rfl | h
    ·rw [c] at hs;cases hs
    ·exact .inl h
   ·exact .inr h
  | false =>
   have hp:=hl p mS_
   obtain ⟨q,q1,q2,q3,q4,q5⟩:=dom p hp c
   have hne:p≠q:=fun e=>by rw [e,q2] at c;cases c
   obtain ⟨m1,m2,m3⟩:=qq4 hz hp q1 hne q3 q4 q5
   obtain ⟨z',h1,h2,h3,h4⟩:=qci dom l (mv p q z) hl' m1
   refine ⟨z',h1,Nat.le_trans h2 m2,Nat.le_trans m3 h3,fun s hs h=>h4 s hs ?_⟩
   by_cases e:s=p
   ·right
    unfold mv
    rw [if_pos e]
   ·rcases h with h | h
    ·rcases List.mem_cons.mp h with h | h
     ·exact absurd h e
     ·exact .inl h
    ·right
     have:s≠q:=fun e2=>by rw [e2,q2] at hs;cases hs
     unfold mv
     rw [if_neg e,if_neg this]
     exact h
def zP (ks:List Nk) (K:Nat->Bool):List Nat:=(List.range ks.length).filter K
def qdH (ks:List Nk) (K:Nat->Bool):List Nk:=(zP ks K).map (nAt ks)
theorem qjW (P:List Nat):(List.range P.length).map (fun j=>P.getD j 0)=P:=by
 refine List.ext_getElem (by simp) fun i h1 h2 => ?_
 simp [List.getD,h2]
theorem qij {ks:List Nk} {K:Nat->Bool} {j:Nat} (h:j<(zP ks K).length):nAt (qdH ks K) j=nAt ks ((zP ks K).getD j 0):=by
 unfold qdH
 show ((zP ks K).map (nAt ks)).getD j (0,0,none)=_
 simp [List.getD,h]
theorem qdq {ks:List Nk} {K:Nat->Bool} {sel:Nk->Nat} {z:Nat->Nat} (hz:∀ p,p<ks.length->K p=false->z p=0):(jY (qdH ks K).length fun j=>sel (nAt (qdH ks K) j)*z ((zP ks K).getD j 0))=jY ks.length fun p=>sel (nAt ks p)*z p:=by
 have hl:(qdH ks K).length=(zP ks K).length:=lM_ _
 rw [hl]
 have e1:(jY (zP ks K).length fun j=>sel (nAt (qdH ks K) j)*z ((zP ks K).getD j 0))=jY (zP ks K).length fun j=>sel (nAt ks ((zP ks K).getD j 0))*z ((zP ks K).getD j 0):=zT fun j hj=>by rw [qij hj]
 rw [e1]
 have e2:(jY (zP ks K).length fun j=>sel (nAt ks ((zP ks K).getD j 0))*z ((zP ks K).getD j 0))=(((List.range (zP ks K).length).map fun j=>(zP ks K).getD j 0).map fun p=>sel (nAt ks p)*z p).sum:=by
  rw [mm_]
  rfl
 rw [e2,qjW]
 show ((List.filter K (List.range ks.length)).map fun p=>sel (nAt ks p)*z p).sum=((List.range ks.length).map fun p=>sel (nAt ks p)*z p).sum
 exact qaO (f:=fun p=>sel (nAt ks p)*z p) _ fun i hi hk=>by rw [hz i (mR_.mp hi) hk,Nat.mul_zero]
theorem qik {ks:List Nk} (hw:∀ x∈ks,0<x.1) {K:Nat->Bool} (dom:∀ p,p<ks.length->K p=false->∃ q,q<ks.length/\K q=true/\(nAt ks q).2.2=none/\(nAt ks q).1<=(nAt ks p).1/\(nAt ks p).2.1<=(nAt ks q).2.1) (r:Nat):qG (qdH ks K) r=qG ks r:=by
 have kl:∀ j,j<(zP ks K).length->(zP ks K).getD j 0∈zP ks K:=fun j hj=>by simp [List.getD,hj]
 have km:∀ p,p∈zP ks K->p<ks.length/\K p=true:=fun p hp=>by
  obtain ⟨a,b⟩:=List.mem_filter.mp hp
  exact ⟨mR_.mp a,b⟩
 have hw':∀ x∈qdH ks K,0<x.1:=fun x hx=>by
  obtain ⟨p,hp,rfl⟩:=mP_.mp hx
  exact hw _ (jL (km p hp).1)
 have hl:(qdH ks K).length=(zP ks K).length:=lM_ _
 refine Nat.le_antisymm ?_ ?_
 ·-- a load of those kept is one of all
  refine qaQ hw' hw fun y y1 y2 => ?_
  let z:Nat->Nat:=fun p=>if p∈zP ks K then y ((zP ks K).idxOf p) else 0
  have hz:∀ p,p<ks.length->K p=false->z p=0:=fun p _ h=>if_neg fun hm=>by rw [(km p hm).2] at h;cases h
  have hnd:(zP ks K).Nodup:=(List.nodup_range).sublist List.filter_sublist
  have zj:∀ j,j<(zP ks K).length->z ((zP ks K).getD j 0)=y j:=fun j hj=>by
   show (if _ then _ else _)=_
   rw [if_pos (kl j hj)]
   congr 1
   have:(zP ks K).getD j 0=(zP ks K)[j]:=by simp [List.getD,hj]
   rw [this]
   exact hnd.idxOf_getElem j hj
  have ew:wY (qdH ks K) y=wY ks z:=by
   rw [show wY ks z=jY ks.length fun p=>(nAt ks p).1*z p from rfl,<- qdq (sel:=fun x=>x.1) hz]
   show jY _ _=_
   exact zT fun j hj=>by rw [zj j (by rw [<- hl];exact hj)]
  have eg:gY (qdH ks K) y=gY ks z:=by
   rw [show gY ks z=jY ks.length fun p=>(nAt ks p).2.1*z p from rfl,<- qdq (sel:=fun x=>x.2.1) hz]
   show jY _ _=_
   exact zT fun j hj=>by rw [zj j (by rw [<- hl];exact hj)]
  refine ⟨z,fun p hp m em => ?_,by rw [<- ew];exact y2,by rw [eg];exact Nat.le_refl _⟩
  by_cases c:p∈zP ks K
  ·show (if p∈zP ks K then y ((zP ks K).idxOf p) else 0)<=m
   rw [if_pos c]
   have hj:=List.idxOf_lt_length_of_mem c
   refine y1 _ (by rw [hl];exact hj) m ?_
   rw [qij hj]
   have:(zP ks K).getD ((zP ks K).idxOf p) 0=p:=by simp [List.getD,hj]
   rw [this]
   exact em
  ·show (if p∈zP ks K then y ((zP ks K).idxOf p) else 0)<=m
   rw [if_neg c]
   exact Nat.zero_le _
 ·refine qaQ hw hw' fun y y1 y2 => ?_
  obtain ⟨z,z1,z2,z3,z4⟩:=qci dom (List.range ks.length) y (fun p hp=>mR_.mp hp) y1
  have hz:∀ p,p<ks.length->K p=false->z p=0:=fun p hp hk=>z4 p hk (.inl (mR_.mpr hp))
  refine ⟨fun j=>z ((zP ks K).getD j 0),fun j hj m em => ?_,?_,?_⟩
  ·rw [hl] at hj
   rw [qij hj] at em
   exact z1 _ (km _ (kl j hj)).1 m em
  ·have:=qdq (sel:=fun x=>x.1) hz
   show jY _ _<=r
   rw [this]
   exact Nat.le_trans z2 y2
  ·have:=qdq (sel:=fun x=>x.2.1) hz
   show _<=jY _ _
   rw [this]
   exact z3
def WlN (x y:Nk):Prop:=x.2.2=none/\x.1<=y.1/\y.2.1<=x.2.1
def BtN (ks:List Nk) (b p:Nat):Prop:=b≠p/\WlN (nAt ks b) (nAt ks p)/\(b<p\/¬ WlN (nAt ks p) (nAt ks b))
theorem WlN.trans {x y z:Nk} (h:WlN x y) (h':WlN y z):WlN x z:=⟨h.1,Nat.le_trans h.2.1 h'.2.1,Nat.le_trans h'.2.2 h.2.2⟩
theorem BtN.trans {ks:List Nk} {a b p:Nat} (h:BtN ks a b) (h':BtN ks b p):BtN ks a p:=by
 obtain ⟨h1,h2,h3⟩:=h
 obtain ⟨g1,g2,g3⟩:=h'
 refine ⟨fun e => ?_,h2.trans g2,?_⟩
 ·subst e
  have a1:a<b:=h3.resolve_right fun n=>n g2
  have a2:b<a:=g3.resolve_right fun n=>n h2
  omega
 ·by_cases c:WlN (nAt ks p) (nAt ks a)
  ·have a1:a<b:=h3.resolve_right fun n=>n (g2.trans c)
   have a2:b<p:=g3.resolve_right fun n=>n (c.trans h2)
   exact .inl (by omega)
  ·exact .inr c
theorem qkU {ks:List Nk}:∀ (k:Nat) (l:List Nat) (p:Nat),l.length<=k->(∀ b,b<ks.length->BtN ks b p->b∈l)->(∃ b,b<ks.length/\BtN ks b p)->∃ q,q<ks.length/\(∀ b,b<ks.length->¬ BtN ks b q)/\WlN (nAt ks q) (nAt ks p)
 | 0,l,p,hl,hb,⟨b,b1,b2⟩=>by
  have:=hb b b1 b2
  have e:l=[]:=List.length_eq_zero_iff.mp (by omega)
  rw [e] at this
  exact (nN_ this).elim
 | k+1,l,p,hl,hb,⟨b,b1,b2⟩=>by
  have hm:=hb b b1 b2
  by_cases c:∃ a,a<ks.length/\BtN ks a b
  ·obtain ⟨q,q1,q2,q3⟩:=qkU k (l.erase b) b (by rw [List.length_erase_of_mem hm];omega) (fun a a1 a2=>(List.mem_erase_of_ne a2.1).mpr (hb a a1 (a2.trans b2))) c
   exact ⟨q,q1,q2,q3.trans b2.2.1⟩
  ·exact ⟨b,b1,fun a a1 a2=>c ⟨a,a1,a2⟩,b2.2.1⟩
theorem qdr {ks:List Nk} (hw:∀ x∈ks,0<x.1) {K:Nat->Bool} (hK:∀ p,p<ks.length->(K p=true ↔ ∀ b,b<ks.length->¬ BtN ks b p)) (r:Nat):qG (qdH ks K) r=qG ks r:=by
 refine qik hw (fun p hp hk => ?_) r
 have hb:∃ b,b<ks.length/\BtN ks b p:=by
  refine Classical.byContradiction fun n => ?_
  have:K p=true:=(hK p hp).mpr fun b b1 b2=>n ⟨b,b1,b2⟩
  rw [this] at hk
  cases hk
 obtain ⟨q,q1,q2,q3⟩:=qkU ks.length (List.range ks.length) p (by rw [lR_];exact Nat.le_refl _) (fun b b1 _=>mR_.mpr b1) hb
 exact ⟨q,q1,(hK q q1).mpr q2,q3.1,q3.2.1,q3.2.2⟩
abbrev wj (a b:List Nk):Prop:=∀ r,qG a r=qG b r
theorem wj.cons (x:Nk) {a b:List Nk} (h:wj a b):wj (x::a) (x::b):=fun r=>by
 unfold qG
 congr 1
 exact mL_ fun t _=>by rw [h]
theorem wj.app {a b:List Nk} (h:wj a b):∀ l:List Nk,wj (l++a) (l++b)
 | []=>h
 | x::l=>wj.cons x (wj.app h l)
theorem jM {x:Nk} {ks:List Nk} {y:Nat->Nat}:okY (x::ks) y ↔ ((∀ m,x.2.2=some m->y 0<=m)/\okY ks fun p=>y (p+1)):=by
 constructor
 ·intro h
  exact ⟨fun m em=>h 0 (by rw [lC_];omega) m em,fun p hp m em=>h (p+1) (by rw [lC_];omega) m em⟩
 ·intro h p hp m em
  cases p with
  | zero=>exact h.1 m em
  | succ p=>exact h.2 p (by rw [lC_] at hp;omega) m em
def con (a:Nat) (y:Nat->Nat):Nat->Nat
 | 0=>a
 | p+1=>y p
theorem qil {x y:Nk} {ks:List Nk} (hw:∀ z∈x::y::ks,0<z.1) (r:Nat):qG (x::y::ks) r<=qG (y::x::ks) r:=by
 refine qaQ hw (fun z hz=>hw z (by simp only [List.mem_cons] at hz |-;rcases hz with h | h | h<;>simp [h])) fun v v1 v2 => ?_
 obtain ⟨a1,a2⟩:=jM.mp v1
 obtain ⟨b1,b2⟩:=jM.mp a2
 rw [j6,j6] at v2
 refine ⟨con (v 1) (con (v 0) fun p=>v (p+2)),jM.mpr ⟨b1,jM.mpr ⟨a1,b2⟩⟩,?_,?_⟩
 ·rw [j6,j6]
  show y.1*v 1+(x.1*v 0+wY ks fun p=>v (p+2))<=r
  have v2':x.1*v 0+(y.1*v 1+wY ks fun p=>v (p+2))<=r:=v2
  omega
 ·rw [j7,j7,j7,j7]
  show x.2.1*v 0+(y.2.1*v 1+gY ks fun p=>v (p+2))<=y.2.1*v 1+(x.2.1*v 0+gY ks fun p=>v (p+2))
  omega
theorem qim {a b:List Nk} (h:a.Perm b):(∀ x∈a,0<x.1)->wj a b:=by
 induction h with
 | nil=>exact fun _ _=>rfl
 | cons x _ ih=>exact fun hw=>wj.cons x (ih fun z hz=>hw z (mM_ _ hz))
 | swap x y l =>
  intro hw r
  exact Nat.le_antisymm (qil hw r) (qil (fun z hz=>hw z (by simp only [List.mem_cons] at hz |-;rcases hz with h | h | h<;>simp [h])) r)
 | trans h1 _ ih1 ih2 =>
  intro hw r
  rw [ih1 hw r]
  exact ih2 (fun z hz=>hw z (h1.mem_iff.mpr hz)) r
def qin:Option Nat->Option Nat->Option Nat
 | some a,some b=>some (a+b)
 | _,_=>none
theorem qpK {w g:Nat} {m k:Option Nat} {ks:List Nk} (w0:0<w) (hw:∀ z∈ks,0<z.1):wj ((w,g,m)::(w,g,k)::ks) ((w,g,qin m k)::ks):=fun r=>by
 have h1:∀ z∈(w,g,m)::(w,g,k)::ks,0<z.1:=fun z hz=>by
  rcases List.mem_cons.mp hz with rfl | hz
  ·exact w0
  ·rcases List.mem_cons.mp hz with rfl | hz
   ·exact w0
   ·exact hw z hz
 have h2:∀ z∈(w,g,qin m k)::ks,0<z.1:=fun z hz=>by
  rcases List.mem_cons.mp hz with rfl | hz
  ·exact w0
  ·exact hw z hz
 refine Nat.le_antisymm (qaQ h1 h2 fun v v1 v2 => ?_) (qaQ h2 h1 fun v v1 v2 => ?_)
 ·obtain ⟨a1,a2⟩:=jM.mp v1
  obtain ⟨b1,b2⟩:=jM.mp a2
  rw [j6,j6] at v2
  have v2':w*v 0+(w*v 1+wY ks fun p=>v (p+2))<=r:=v2
  refine ⟨con (v 0+v 1) fun p=>v (p+2),jM.mpr ⟨fun j ej => ?_,b2⟩,?_,?_⟩
  ·show v 0+v 1<=j
   cases m with
   | none=>cases ej
   | some a =>
    cases k with
    | none=>cases ej
    | some b =>
     have e1:v 0<=a:=a1 a rfl
     have e2:v 1<=b:=b1 b rfl
     have:a+b=j:=Option.some.inj ej
     omega
  ·rw [j6]
   show w*(v 0+v 1)+wY ks (fun p=>v (p+2))<=r
   rw [Nat.mul_add]
   omega
  ·rw [j7,j7,j7]
   show g*v 0+(g*v 1+gY ks fun p=>v (p+2))<=g*(v 0+v 1)+gY ks (fun p=>v (p+2))
   rw [Nat.mul_add]
   omega
 ·obtain ⟨a1,a2⟩:=jM.mp v1
  rw [j6] at v2
  have v2':w*v 0+wY ks (fun p=>v (p+1))<=r:=v2
  have hs:∃ a b,a+b=v 0/\(∀ j,m=some j->a<=j)/\(∀ j,k=some j->b<=j):=by
   cases m with
   | none=>exact ⟨v 0,0,by omega,(fun j e=>nomatch e),fun j _=>Nat.zero_le _⟩
   | some i =>
    cases k with
    | none=>exact ⟨0,v 0,by omega,fun j _=>Nat.zero_le _,fun j e=>by cases e⟩
    | some l =>
     have h3:v 0<=i+l:=a1 (i+l) rfl
     by_cases c:v 0<=i
     ·exact ⟨v 0,0,by omega,(fun j e=>by cases e;exact c),fun j _=>Nat.zero_le _⟩
     ·exact ⟨i,v 0-i,by omega,(fun j e=>by cases e;exact Nat.le_refl _),fun j e=>by cases e;omega⟩
  obtain ⟨a,b,e,ha,hb⟩:=hs
  refine ⟨con a (con b fun p=>v (p+1)),jM.mpr ⟨ha,jM.mpr ⟨hb,a2⟩⟩,?_,?_⟩
  ·rw [j6,j6]
   show w*a+(w*b+wY ks fun p=>v (p+1))<=r
   rw [<- e,Nat.mul_add] at v2'
   omega
  ·rw [j7,j7,j7]
   show g*v 0+gY ks (fun p=>v (p+1))<=g*a+(g*b+gY ks fun p=>v (p+1))
   rw [<- e,Nat.mul_add]
   omega
def zA (x y:Nk):Bool:=decide (x.1=y.1)&&decide (x.2.1=y.2.1)
def qfb:List Nk->Option Nat
 | []=>some 0
 | x::l=>qin x.2.2 (qfb l)
theorem qio (m:Option Nat):qin m (some 0)=m:=by cases m<;>rfl
theorem qey {x:Nk} (w0:0<x.1):∀ (l ks:List Nk),(∀ z∈l,zA x z=true)->(∀ z∈ks,0<z.1)->wj (x::l++ks) ((x.1,x.2.1,qin x.2.2 (qfb l))::ks)
 | [],ks,_,_=>fun r=>by
  show qG (x::ks) r=qG ((x.1,x.2.1,qin x.2.2 (some 0))::ks) r
  rw [qio]
 | z::l,ks,hl,hk=>fun r=>by
  obtain ⟨e1,e2⟩:=(Bool.and_eq_true _ _).mp (hl z mS_)
  have e1:=of_decide_eq_true e1
  have e2:=of_decide_eq_true e2
  have ih:=qey (x:=z) (by rw [<- e1];exact w0) l ks (fun u hu=>by
   obtain ⟨f1,f2⟩:=(Bool.and_eq_true _ _).mp (hl u (mM_ _ hu))
   unfold zA
   rw [decide_eq_true (e1.symm.trans (of_decide_eq_true f1)),decide_eq_true (e2.symm.trans (of_decide_eq_true f2))]
   rfl) hk
  have h1:=wj.cons x ih r
  show qG (x::(z::l++ks)) r=_
  rw [h1]
  have h2:=qpK (w:=x.1) (g:=x.2.1) (m:=x.2.2) (k:=qin z.2.2 (qfb l)) w0 hk r
  rw [e1,e2] at h2
  show qG (x::(z.1,z.2.1,qin z.2.2 (qfb l))::ks) r=qG ((x.1,x.2.1,qin x.2.2 (qin z.2.2 (qfb l)))::ks) r
  rw [e1,e2,<- h2,<- e1,<- e2]
theorem yQ {x y:Nk}:zA x y=true ↔ x.1=y.1/\x.2.1=y.2.1:=by
 unfold zA
 rw [Bool.and_eq_true,decide_eq_true_eq,decide_eq_true_eq]
def jN (S acc:List Nk) (x:Nk):List Nk:=if acc.any (zA x) then acc else acc++[(x.1,x.2.1,qfb (S.filter (zA x)))]
theorem wO {S:List Nk}:∀ (rem acc:List Nk),(∀ z∈acc,0<z.1)->(∀ x∈rem,0<x.1)->(∀ x∈rem,acc.any (zA x)=false->S.filter (zA x)=rem.filter (zA x)) ->
  wj (rem.foldl (jN S) acc) (acc++rem.filter fun x => !acc.any (zA x))
 | [],acc,_,_,_=>fun r=>by rw [List.filter_nil,List.append_nil];rfl
 | x :: rem,acc,ha,hr,hS=>by
  have x0:=hr x mS_
  have hr':∀ z∈rem,0<z.1:=fun z hz=>hr z (mM_ _ hz)
  rw [fo_]
  cases c:acc.any (zA x) with
  | true =>
   have e:jN S acc x=acc:=by unfold jN;rw [if_pos c]
   rw [e,List.filter_cons_of_neg (by rw [c];simp)]
   refine wO rem acc ha hr' fun y hy hn => ?_
   have:=hS y (mM_ _ hy) hn
   rw [this,List.filter_cons_of_neg]
   intro h
   obtain ⟨z,hz,hxz⟩:=List.any_eq_true.mp c
   have h1:=yQ.mp h
   have h2:=yQ.mp hxz
   have:acc.any (zA y)=true:=List.any_eq_true.mpr ⟨z,hz,yQ.mpr ⟨h1.1.trans h2.1,h1.2.trans h2.2⟩⟩
   rw [hn] at this
   cases this
  | false =>
   let z:Nk:=(x.1,x.2.1,qfb (S.filter (zA x)))
   have e:jN S acc x=acc++[z]:=by unfold jN;rw [if_neg (by rw [c];simp)]
   have lz:∀ y,zA y z=zA y x:=fun y=>rfl
   have sym:∀ y,zA y x=zA x y:=fun y=>by
    rw [Bool.eq_iff_iff,yQ,yQ]
    exact ⟨fun h=>⟨h.1.symm,h.2.symm⟩,fun h=>⟨h.1.symm,h.2.symm⟩⟩
   have any':∀ y,(acc++[z]).any (zA y)=(acc.any (zA y)||zA y x):=fun y=>by
    rw [List.any_append]
    show (acc.any (zA y)||(zA y z||false))=_
    rw [Bool.or_false,lz]
   let U:=rem.filter fun y => !acc.any (zA y)
   have fU:(rem.filter fun y => !(acc++[z]).any (zA y))=U.filter fun y => !zA x y:=by
    show _=(rem.filter _).filter _
    rw [List.filter_filter]
    refine List.filter_congr fun y _ => ?_
    rw [any',Bool.not_or,sym,Bool.and_comm]
   have lL:rem.filter (zA x)=U.filter (zA x):=by
    show _=(rem.filter _).filter _
    rw [List.filter_filter]
    refine List.filter_congr fun y _ => ?_
    cases h:zA x y with
    | false=>rfl
    | true =>
     have:acc.any (zA y)=false:=by
      refine Bool.eq_false_iff.mpr fun hh => ?_
      obtain ⟨u,hu,hyu⟩:=List.any_eq_true.mp hh
      have h1:=yQ.mp h
      have h2:=yQ.mp hyu
      have:acc.any (zA x)=true:=List.any_eq_true.mpr ⟨u,hu,yQ.mpr ⟨h1.1.trans h2.1,h1.2.trans h2.2⟩⟩
      rw [c] at this
      cases this
     rw [this]
     rfl
   have tz:z=(x.1,x.2.1,qin x.2.2 (qfb (U.filter (zA x)))):=by
    have:=hS x mS_ c
    have h1:S.filter (zA x)=x::U.filter (zA x):=by rw [this,List.filter_cons_of_pos (yQ.mpr ⟨rfl,rfl⟩),lL]
    show (x.1,x.2.1,qfb (S.filter (zA x)))=_
    rw [h1]
    rfl
   have hU:∀ y∈U,0<y.1:=fun y hy=>hr' y (List.mem_filter.mp hy).1
   have ih:=wO (S:=S) rem (acc++[z]) (fun y hy=>by
    rcases mA_.mp hy with hy | hy
    ·exact ha y hy
    ·rw [ms_] at hy
     subst hy
     exact x0) hr' fun y hy hn=>by
      rw [any'] at hn
      obtain ⟨n1,n2⟩:=(Bool.or_eq_false_iff).mp hn
      rw [hS y (mM_ _ hy) n1,List.filter_cons_of_neg (by rw [n2];simp)]
   rw [e]
   intro r
   rw [ih r,fU,aA_,List.filter_cons_of_pos (by rw [c];rfl)]
   refine (wj.app (a:=x::U) (b:=z::U.filter fun y => !zA x y) (fun r => ?_) acc r).symm
   have p:(x::U).Perm (x::U.filter (zA x)++U.filter fun y => !zA x y):=List.Perm.cons x (List.filter_append_perm (zA x) U).symm
   rw [qim p (fun y hy=>by
    rcases List.mem_cons.mp hy with rfl | hy
    ·exact x0
    ·exact hU y hy) r,qey x0 _ _ (fun y hy=>(List.mem_filter.mp hy).2) (fun y hy=>hU y (List.mem_filter.mp hy).1) r,tz]
theorem qfc {S:List Nk} (hw:∀ x∈S,0<x.1):wj (S.foldl (jN S) []) S:=fun r=>by
 have:=wO (S:=S) S [] (fun z hz=>(nN_ hz).elim) hw (fun x _ _=>rfl) r
 rw [this,List.nil_append]
 congr 1
 simp
def top (i:Nat):Stmt:=PySem.Challenge.pw_sackloads_k76_whole_stores_changed.main.body.getD i (.Pass ⟨0,0,0,0⟩)
abbrev jb:Stmt:=top 22
abbrev j8:Stmt:=top 57
abbrev jz:Stmt:=top 58
abbrev ju:Stmt:=top 59
abbrev jv:Stmt:=top 60
abbrev yY:Stmt:=top 55
abbrev yZ:Stmt:=top 11
abbrev y7:Stmt:=top 12
abbrev jA:Stmt:=top 16
abbrev uO:Stmt:=top 13
abbrev j9:Stmt:=top 14
abbrev jB:Stmt:=top 15
abbrev jC:Stmt:=top 56
abbrev jc:Stmt:=top 61
abbrev jD:Stmt:=top 62
abbrev y8:Stmt:=top 18
abbrev uP:Stmt:=top 41
abbrev zb:Stmt:=top 31
abbrev qN:Stmt:=top 32
abbrev ya:Stmt:=top 33
abbrev jd:Stmt:=top 35
abbrev qT:Stmt:=top 28
abbrev zU:Stmt:=top 29
abbrev jE:Stmt:=top 34
abbrev je:Stmt:=top 36
abbrev qaR:Stmt:=top 30
abbrev jf:Stmt:=top 37
abbrev jg:Stmt:=top 38
abbrev yb:Stmt:=top 20
abbrev yc:Stmt:=top 19
abbrev yd:Stmt:=top 23
abbrev y9:Stmt:=top 21
abbrev ye:Stmt:=top 51
abbrev jF:Stmt:=top 17
abbrev yf:Stmt:=top 52
abbrev zl:Stmt:=top 63
abbrev yg:Stmt:=top 64
abbrev v9:Stmt:=top 40
abbrev yh:Stmt:=top 67
abbrev jh:Stmt:=top 42
abbrev wP:Stmt:=top 43
abbrev zV:Stmt:=top 44
abbrev qaS:Stmt:=top 45
abbrev uB:Stmt:=top 46
abbrev jG:Stmt:=top 47
abbrev uQ:Stmt:=top 48
abbrev qS:Stmt:=top 49
abbrev zr:Stmt:=top 50
abbrev jH:Stmt:=top 68
abbrev ua:Stmt:=top 66
abbrev qcx:Stmt:=top 69
structure Txt (K:PySem.W.Frag) (mg:Str->Option Value):Prop where
 b_all:mg "all"=none
 b_any:mg "any"=none
 b_bool:mg "bool"=none
 b_divmod:mg "divmod"=none
 b_enumerate:mg "enumerate"=none
 b_int:mg "int"=none
 b_isinstance:mg "isinstance"=none
 b_len:mg "len"=none
 b_max:mg "max"=none
 b_min:mg "min"=none
 b_range:mg "range"=none
 b_reversed:mg "reversed"=none
 b_sorted:mg "sorted"=none
 b_sum:mg "sum"=none
 b_tuple:mg "tuple"=none
 b_zip:mg "zip"=none
 c_ASKED_AT_MOST:∃ t,mg "ASKED_AT_MOST"=some (.int 200 t)
 c_BOTTOM:∃ t,mg "BOTTOM"=some (.int 1 t)
 c_KINDS_AT_MOST:∃ t,mg "KINDS_AT_MOST"=some (.int 12 t)
 c_MOST:∃ t,mg "MOST"=some (.int 2 t)
 c_NOTHING:∃ a,mg "NOTHING"=some (.ref a)/\qmK K a [0,1]
 c_TOP:∃ t,mg "TOP"=some (.int 0 t)
 c_WEIGHT:∃ t,mg "WEIGHT"=some (.int 0 t)
 c_WORTH:∃ t,mg "WORTH"=some (.int 1 t)
noncomputable def vd:MS :=
  (qQ (jn 2 (d2 qaD (dv 1) (d2 ixD (dv 0) (ret (.int 0)))))
  (jm (dif (tst (d2 isN (d2 ixD (dv 0) (ret (.int 2))) (ret .non))) (dv 2) (qW qgr (qa (dv 2) (qa (d2 ixD (dv 0) (ret (.int 2))) (ret [])))))))
noncomputable def jO:List D->R D:=dfn 3 2 vd
noncomputable def wQ:MS :=
  (jm (d2 qhe (dv 2) (d2 jX (dv 1) (d2 ixD (dv 0) (ret (.int 0))))))
noncomputable def jw:List D->R D:=dfn 3 3 wQ
noncomputable def vN:MS :=
  (jm (d2 jy (d2 jX (dv 1) (d2 ixD (dv 0) (ret (.int 1)))) (d2 ixD (dv 2) (qg jw (qa (dv 0) (qa (dv 1) (qa (dv 3) (ret []))))))))
noncomputable def zE:List D->R D:=dfn 4 4 vN
noncomputable def wR:MS :=
  (jm (qW qhO (qa (zW 1 [0,1,2] none (ug (qa (d2 jy (qg jO (qa (dv 0) (qa (dv 2) (ret [])))) (ret (.int 1))) (ret []))) (qB 0) (ret true) (qg zE (qa (dv 1) (qa (dv 0) (qa (dv 2) (qa (dv 3) (ret []))))))) (ret []))))
noncomputable def z7:List D->R D:=dfn 3 3 wR
noncomputable def ve:MS :=
  (qQ (qaK 2 (qjA (qa (d2 jX (qdW (qa (ret (.int 0)) (ret []))) (d2 jy (dv 1) (ret (.int 1)))) (ret []))))
  (qQ (qeT (qmL (qa (dv 0) (ret []))) (qB 3) (zK (u8 2 (zW 1 [3,2] (some (2,2)) (ug (qa (d2 jy (dv 1) (ret (.int 1))) (ret []))) (qB 0) (ret true) (qg z7 (qa (dv 1) (qa (qhn 2 (ret (.int 0))) (qa (dv 0) (ret [])))))))))
  (qji 2)))
noncomputable def jx:List D->R D:=dfn 4 2 ve
noncomputable def uR:MS :=
  (sif (tst (d2 gtD (dv 0) (ret (.int 200)))) qae vw)
noncomputable def qaT:List D->R D:=dfn 1 1 uR
noncomputable def qaU:MS :=
  (jm (qgo (qlz "int" (dv 0)) (qnx (qlz "bool" (dv 0)))))
noncomputable def uS:List D->R D:=dfn 1 1 qaU
noncomputable def qaV:MS :=
  (jm (qgo (qg uS (qa (dv 0) (ret []))) (d2 geD (dv 0) (ret (.int 0)))))
noncomputable def ji:List D->R D:=dfn 1 1 qaV
noncomputable def yt:MS :=
  (sif (qbL (tst (qg ji (qa (dv 0) (ret []))))) qae vw)
noncomputable def yu:List D->R D:=dfn 1 1 yt
noncomputable def qcj:MS :=
  (qQ (sif (tor (qbL (tst (qlz "tuple" (dv 0)))) (tst (d2 neB (qW wy (qa (dv 0) (ret []))) (ret (.int 3))))) (jm (ret (.bl false))) vw)
  (qQ (sif (tor (qbL (tst (qg ji (qa (d2 ixD (dv 0) (ret (.int 0))) (ret []))))) (tst (d2 eqB (d2 ixD (dv 0) (ret (.int 0))) (ret (.int 0))))) (jm (ret (.bl false))) vw)
  (jm (qgo (qg ji (qa (d2 ixD (dv 0) (ret (.int 1))) (ret []))) (dor (d2 isN (d2 ixD (dv 0) (ret (.int 2))) (ret .non)) (qg ji (qa (d2 ixD (dv 0) (ret (.int 2))) (ret []))))))))
noncomputable def uo:List D->R D:=dfn 1 1 qcj
noncomputable def qaW:MS :=
  (qQ (sif (tor (qbL (tst (qlz "tuple" (dv 0)))) (tst (d2 gtD (qW wy (qa (dv 0) (ret []))) (ret (.int 12))))) (jm (ret (.bl false))) vw)
  (jm (qW qmH (qa (zW 1 [] none (qa9 (dv 0)) (qB 0) (ret true) (qg uo (qa (dv 0) (ret [])))) (ret [])))))
noncomputable def wd:List D->R D:=dfn 1 1 qaW
noncomputable def yw:MS :=
  (sif (qbL (tst (qg wd (qa (dv 0) (ret []))))) qae vw)
noncomputable def qZ:List D->R D:=dfn 1 1 yw
noncomputable def zF:MS :=
  (qQ (zK (qg qZ (qa (dv 0) (ret []))))
  (qQ (zK (qg yu (qa (dv 1) (ret []))))
  (zK (qg qaT (qa (dv 1) (ret []))))))
noncomputable def yx:List D->R D:=dfn 2 2 zF
noncomputable def vf:MS :=
  (qQ (zK (qg yx (qa (dv 0) (qa (dv 1) (ret [])))))
  (jm (d2 ixD (qg jx (qa (dv 0) (qa (dv 1) (ret [])))) (ret (.int 0)))))
noncomputable def yR:List D->R D:=dfn 2 2 vf
noncomputable def vO:MS :=
  (jm (d2 ixD (qg yR (qa (dv 0) (qa (dv 1) (ret [])))) (dv 1)))
noncomputable def qz:List D->R D:=dfn 2 2 vO
noncomputable def qaX:MS :=
  (jm (qgo (qg ji (qa (dv 0) (ret []))) (d2 ltD (dv 0) (qW wy (qa (dv 1) (ret []))))))
noncomputable def uT:List D->R D:=dfn 2 2 qaX
noncomputable def qck:MS :=
  (qQ (zK (qg qZ (qa (dv 0) (ret []))))
  (qQ (sif (qbL (tst (qg uT (qa (dv 1) (qa (dv 0) (ret [])))))) qae vw)
  (jm (d2 jy (qhQ (dv 0) (ret none) (qbl (dv 1))) (qhQ (dv 0) (qbl (d2 jy (dv 1) (ret (.int 1)))) (ret none))))))
noncomputable def zQ:List D->R D:=dfn 2 2 qck
noncomputable def yi:MS :=
  (qQ (jn 1 (ret (.int 1)))
  (qQ (qeT (qa9 (dv 0)) (qB 2) (jn 1 (d2 jX (dv 1) (d2 ixD (dv 2) (ret (.int 0))))))
  (jm (dv 1))))
noncomputable def jj:List D->R D:=dfn 3 1 yi
noncomputable def jP:MS :=
  (qQ (jn 1 (qg jj (qa (dv 0) (ret []))))
  (qQ (jn 2 (zW 2 [] none (qee (qa (dv 0) (ret []))) (qgS 2 (uw (qB 0) (uw (qB 1) qgR))) (tst (d2 gtD (d2 ixD (dv 1) (ret (.int 1))) (ret (.int 0)))) (dv 0)))
  (jm (qfR 3 [1,0] (dv 2) (d2 jX (d1 qkt (d2 ixD (d2 ixD (dv 2) (dv 0)) (ret (.int 1)))) (d2 qaD (dv 1) (d2 ixD (d2 ixD (dv 2) (dv 0)) (ret (.int 0)))))))))
noncomputable def z8:List D->R D:=dfn 3 1 jP
noncomputable def wS:MS :=
  (jm (qgo (d2 qnA (d2 ixD (dv 0) (ret (.int 2))) (ret .non)) (d2 leD (d2 jX (d2 ixD (dv 0) (ret (.int 2))) (d2 ixD (dv 0) (ret (.int 0)))) (dv 1))))
noncomputable def uq:List D->R D:=dfn 2 2 wS
noncomputable def vg:MS :=
  (jm (dif (tst (qg uq (qa (dv 0) (qa (dv 1) (ret []))))) (d2 qhe (dv 1) (d2 jX (d2 ixD (dv 0) (ret (.int 2))) (d2 ixD (dv 0) (ret (.int 0))))) (ret (.int 0))))
noncomputable def jQ:List D->R D:=dfn 2 2 vg
noncomputable def jR:MS :=
  (qQ (qb4 (tst (d2 gtD (dv 1) (ret (.int 0)))) (qQ (jn 2 (d2 qcN (dv 0) (dv 1)))
  (qQ (jn 0 (dv 1))
  (jn 1 (dv 2)))))
  (jm (dv 0)))
noncomputable def zZ:List D->R D:=dfn 3 2 jR
noncomputable def uF:MS :=
  (qQ (jn 2 (qg zZ (qa (dv 0) (qa (dv 1) (ret [])))))
  (jm (qbv (qa (d2 qaD (dv 0) (dv 2)) (qa (d2 qaD (dv 1) (dv 2)) (ret []))))))
noncomputable def jq:List D->R D:=dfn 3 2 uF
noncomputable def vP:MS :=
  (jm (dif (tst (qg uq (qa (dv 0) (qa (dv 1) (ret []))))) (qbv (qa (d2 ixD (dv 0) (ret (.int 2))) (qa (ret (.int 1)) (ret [])))) (qg jq (qa (dv 1) (qa (d2 ixD (dv 0) (ret (.int 0))) (ret []))))))
noncomputable def yy:List D->R D:=dfn 2 2 vP
noncomputable def vh:MS :=
  (qQ (zK (qg qZ (qa (dv 0) (ret []))))
  (qQ (zK (qg yu (qa (dv 1) (ret []))))
  (qQ (qaK 2 (qoe (qdW (qa (ret (.tup [.int 0,.int 1])) (ret []))) (qW wy (qa (dv 0) (ret [])))))
  (qQ (jn 3 (dv 1))
  (qQ (qeT (qa9 (qg z8 (qa (dv 0) (ret [])))) (qB 4) (qQ (qeV 2 (dv 4) (qg yy (qa (d2 ixD (dv 0) (dv 4)) (qa (dv 3) (ret [])))))
  (jn 3 (qg jQ (qa (d2 ixD (dv 0) (dv 4)) (qa (dv 3) (ret [])))))))
  (jm (qd7 2)))))))
noncomputable def jS:List D->R D:=dfn 5 2 vh
noncomputable def qfd:MS :=
  (jm (qg jq (qa (d2 jy (d2 jX (d2 ixD (dv 0) (ret (.int 0))) (d2 ixD (dv 1) (ret (.int 1)))) (d2 jX (d2 ixD (dv 1) (ret (.int 0))) (d2 ixD (dv 0) (ret (.int 1))))) (qa (d2 jX (d2 ixD (dv 0) (ret (.int 1))) (d2 ixD (dv 1) (ret (.int 1)))) (ret [])))))
noncomputable def qaY:List D->R D:=dfn 2 2 qfd
noncomputable def vi:MS :=
  (qQ (jn 2 (ret (.tup [.int 0,.int 1])))
  (qQ (qeT (qnT (qa (dv 0) (qa (qg jS (qa (dv 0) (qa (dv 1) (ret [])))) (ret [])))) (qgS 2 (uw (qB 3) (uw (qB 4) qgR))) (jn 2 (qg qaY (qa (dv 2) (qa (qbv (qa (d2 jX (d2 ixD (dv 4) (ret (.int 0))) (d2 ixD (dv 3) (ret (.int 1)))) (qa (d2 ixD (dv 4) (ret (.int 1))) (ret [])))) (ret []))))))
  (jm (dv 2))))
noncomputable def yS:List D->R D:=dfn 5 2 vi
noncomputable def vj:MS :=
  (qQ (jn 2 (qg yS (qa (dv 0) (qa (dv 1) (ret [])))))
  (jm (d2 qaD (d2 ixD (dv 2) (ret (.int 0))) (d2 ixD (dv 2) (ret (.int 1))))))
noncomputable def yT:List D->R D:=dfn 3 2 vj
noncomputable def wT:MS :=
  (jm (d2 jy (d2 jy (qhQ (dv 0) (ret none) (qbl (dv 1))) (qbv (qa (dv 2) (ret [])))) (qhQ (dv 0) (qbl (d2 jy (dv 1) (ret (.int 1)))) (ret none))))
noncomputable def ur:List D->R D:=dfn 3 3 wT
noncomputable def vk:MS :=
  (jm (qbv (qa (d2 ixD (dv 0) (ret (.int 0))) (qa (d2 ixD (dv 0) (ret (.int 1))) (qa (dv 1) (ret []))))))
noncomputable def zv:List D->R D:=dfn 2 2 vk
noncomputable def wU:MS :=
  (jm (dif (tst (d2 isN (d2 ixD (dv 0) (ret (.int 2))) (ret .non))) (ret .non) (d2 qhe (d2 ixD (dv 0) (ret (.int 2))) (dv 1))))
noncomputable def ut:List D->R D:=dfn 2 2 wU
noncomputable def qaZ:MS :=
  (jm (dor (d2 isN (d2 ixD (dv 0) (ret (.int 2))) (ret .non)) (d2 gtD (d2 ixD (dv 0) (ret (.int 2))) (ret (.int 0)))))
noncomputable def yj:List D->R D:=dfn 1 1 qaZ
noncomputable def wV:MS :=
  (qQ (jn 4 (d2 ixD (dv 0) (dv 1)))
  (qQ (sif (tor (qbL (tst (qg yj (qa (dv 4) (ret []))))) (tst (d2 gtD (d2 ixD (dv 4) (ret (.int 0))) (dv 2)))) (jm (ret (.bl false))) vw)
  (qQ (jn 5 (qg ur (qa (dv 0) (qa (dv 1) (qa (qg zv (qa (dv 4) (qa (qg ut (qa (dv 4) (qa (ret (.int 1)) (ret [])))) (ret [])))) (ret []))))))
  (jm (d2 geD (d2 jy (d2 ixD (dv 4) (ret (.int 1))) (qg yT (qa (dv 5) (qa (d2 qhe (dv 2) (d2 ixD (dv 4) (ret (.int 0)))) (ret []))))) (dv 3))))))
noncomputable def vm:List D->R D:=dfn 6 4 wV
noncomputable def yz:MS :=
  (sif (qbL (tst (qg uS (qa (dv 0) (ret []))))) qae vw)
noncomputable def vQ:List D->R D:=dfn 1 1 yz
noncomputable def qa0:MS :=
  (qQ (zK (qg qZ (qa (dv 0) (ret []))))
  (qQ (zK (qg yu (qa (dv 1) (ret []))))
  (qQ (zK (qg vQ (qa (dv 2) (ret []))))
  (jm (zW 1 [0,1,2] none (ug (qa (qW wy (qa (dv 0) (ret []))) (ret []))) (qB 0) (qbL (tst (qg vm (qa (dv 1) (qa (dv 0) (qa (dv 2) (qa (dv 3) (ret [])))))))) (dv 0))))))
noncomputable def uU:List D->R D:=dfn 3 3 qa0
noncomputable def yG:MS :=
  (qQ (jn 4 (ret (.int 0)))
  (qQ (qb4 (tst (d2 ltD (qg zE (qa (dv 0) (qa (dv 4) (qa (dv 2) (qa (dv 3) (ret [])))))) (dv 1))) (jn 4 (d2 jy (dv 4) (ret (.int 1)))))
  (jm (dv 4))))
noncomputable def zn:List D->R D:=dfn 5 4 yG
noncomputable def wW:MS :=
  (qQ (zK (qg yx (qa (dv 0) (qa (dv 1) (ret [])))))
  (qQ (jn 2 (qg jx (qa (dv 0) (qa (dv 1) (ret [])))))
  (qQ (qaK 3 (qlD (ret [])))
  (qQ (jn 4 (dv 1))
  (qQ (qeT (qee (qa (dv 0) (ret []))) (qgS 2 (uw (qB 5) (uw (qB 6) qgR))) (qQ (jn 7 (qg zn (qa (dv 6) (qa (d2 ixD (d2 ixD (dv 2) (dv 5)) (dv 4)) (qa (d2 ixD (dv 2) (d2 jy (dv 5) (ret (.int 1)))) (qa (dv 4) (ret [])))))))
  (qQ (zK (jo 3 (dv 7)))
  (jn 4 (qg jw (qa (dv 6) (qa (dv 7) (qa (dv 4) (ret [])))))))))
  (jm (qd7 3)))))))
noncomputable def vn:List D->R D:=dfn 8 2 wW
noncomputable def qds:MS :=
  (qQ (zK (qg qZ (qa (dv 0) (ret []))))
  (qQ (sif (qbL (tst (qg uo (qa (dv 1) (ret []))))) qae vw)
  (qQ (sif (tst (d2 eqB (qW wy (qa (dv 0) (ret []))) (ret (.int 12)))) qae vw)
  (jm (d2 jy (dv 0) (qbv (qa (dv 1) (ret []))))))))
noncomputable def qas:List D->R D:=dfn 2 2 qds
noncomputable def vo:MS :=
  (qQ (qoR (qW qbP (qa (qhn 0 (ret (.int 0))) (qa (dv 1) (ret [])))) (qgS 2 (uw (qB 2) (uw (qB 3) qgR))))
  (qQ (qeV 0 (ret (.int 0)) (dv 2))
  (jm (dv 3))))
noncomputable def ql:List D->List D->R (D×List D):=qc8 4 2 vo
noncomputable def jT:MS :=
  (sif (tor (qbL (tst (qg ji (qa (dv 0) (ret []))))) (tst (d2 eqB (dv 0) (ret (.int 0))))) qae vw)
noncomputable def yU:List D->R D:=dfn 1 1 jT
noncomputable def qfe:MS :=
  (qQ (zK (qg qZ (qa (dv 0) (ret []))))
  (qQ (zK (qg yU (qa (dv 1) (ret []))))
  (qQ (zK (qg yU (qa (dv 2) (ret []))))
  (jm (qW qd4 (qa (zW 1 [1,2] none (qa9 (dv 0)) (qB 0) (ret true) (qbv (qa (d2 jX (d2 ixD (dv 0) (ret (.int 0))) (dv 1)) (qa (d2 jX (d2 ixD (dv 0) (ret (.int 1))) (dv 2)) (qa (d2 ixD (dv 0) (ret (.int 2))) (ret [])))))) (ret [])))))))
noncomputable def wX:List D->R D:=dfn 3 3 qfe
noncomputable def uG:MS :=
  (jm (qgo (d2 isN (d2 ixD (dv 0) (ret (.int 2))) (ret .non)) (qgo (d2 leD (d2 ixD (dv 0) (ret (.int 0))) (d2 ixD (dv 1) (ret (.int 0)))) (d2 geD (d2 ixD (dv 0) (ret (.int 1))) (d2 ixD (dv 1) (ret (.int 1)))))))
noncomputable def zx:List D->R D:=dfn 2 2 uG
noncomputable def qff:MS :=
  (qQ (sif (tor (tst (d2 eqB (dv 1) (dv 2))) (qbL (tst (qg zx (qa (d2 ixD (dv 0) (dv 1)) (qa (d2 ixD (dv 0) (dv 2)) (ret []))))))) (jm (ret (.bl false))) vw)
  (jm (dor (d2 ltD (dv 1) (dv 2)) (qnx (qg zx (qa (d2 ixD (dv 0) (dv 2)) (qa (d2 ixD (dv 0) (dv 1)) (ret []))))))))
noncomputable def qa1:List D->R D:=dfn 3 3 qff
noncomputable def qdt:MS :=
  (qQ (zK (qg qZ (qa (dv 0) (ret []))))
  (qQ (qaK 1 (qlD (ret [])))
  (qQ (qeT (ug (qa (qW wy (qa (dv 0) (ret []))) (ret []))) (qB 2) (qQ (jn 3 (zW 1 [0,2] none (ug (qa (qW wy (qa (dv 0) (ret []))) (ret []))) (qB 0) (tst (qg qa1 (qa (dv 1) (qa (dv 0) (qa (dv 2) (ret [])))))) (dv 0)))
  (sif (tst (d2 neB (dv 3) (qdW (ret [])))) (zK (jo 1 (qbv (qa (dv 2) (qa (d2 ixD (dv 3) (ret (.int 0))) (ret [])))))) vw)))
  (qji 1))))
noncomputable def qat:List D->R D:=dfn 4 1 qdt
noncomputable def qa2:MS :=
  (qQ (jn 1 (zW 1 [] none (qa9 (qg qat (qa (dv 0) (ret [])))) (qB 0) (ret true) (d2 ixD (dv 0) (ret (.int 0)))))
  (jm (qW qd4 (qa (zW 2 [1] none (qee (qa (dv 0) (ret []))) (qgS 2 (uw (qB 0) (uw (qB 1) qgR))) (tst (d2 qoa (dv 0) (dv 2))) (dv 1)) (ret [])))))
noncomputable def ub:List D->R D:=dfn 2 1 qa2
noncomputable def qcl:MS :=
  (jm (qgo (d2 eqB (d2 ixD (dv 0) (ret (.int 0))) (d2 ixD (dv 1) (ret (.int 0)))) (d2 eqB (d2 ixD (dv 0) (ret (.int 1))) (d2 ixD (dv 1) (ret (.int 1))))))
noncomputable def zR:List D->R D:=dfn 2 2 qcl
noncomputable def uu:MS :=
  (qQ (sif (tst (qW qje (qa (zW 1 [] none (qa9 (dv 0)) (qB 0) (ret true) (d2 isN (d2 ixD (dv 0) (ret (.int 2))) (ret .non))) (ret [])))) (jm (ret .non)) vw)
  (jm (qW qnD (qa (zW 1 [] none (qa9 (dv 0)) (qB 0) (ret true) (d2 ixD (dv 0) (ret (.int 2)))) (ret [])))))
noncomputable def zC:List D->R D:=dfn 1 1 uu
noncomputable def vp:MS :=
  (qQ (zK (qg qZ (qa (dv 0) (ret []))))
  (qQ (qaK 1 (qlD (ret [])))
  (qQ (qeT (qa9 (dv 0)) (qB 2) (sif (qbL (tst (qeh (qW qje (qa (zW 1 [2] none (qa9 (dv 1)) (qB 0) (ret true) (qg zR (qa (dv 1) (qa (dv 0) (ret []))))) (ret [])))))) (zK (jo 1 (qg zv (qa (dv 2) (qa (qg zC (qa (zW 1 [2] none (qa9 (dv 0)) (qB 0) (tst (qg zR (qa (dv 1) (qa (dv 0) (ret []))))) (dv 0)) (ret []))) (ret [])))))) vw))
  (jm (qd7 1)))))
noncomputable def jU:List D->R D:=dfn 3 1 vp
noncomputable def uC:MS :=
  (qQ (qaK 2 (qlD (ret [])))
  (qQ (qeT (ug (qa (qF ql 0 (qa (d2 jy (dv 1) (ret (.int 1))) (ret []))) (ret []))) (qB 3) (qQ (qjn 4 5 (qa (d2 jy (ret (.int 1)) (qF ql 0 (qa (ret (.int 9)) (ret [])))) (qa (qF ql 0 (qa (ret (.int 10)) (ret []))) (ret []))))
  (zK (jo 2 (qbv (qa (dv 4) (qa (dv 5) (qa (d2 ixD (qdW (qa (ret .non) (qa (ret (.int 0)) (qa (ret (.int 1)) (qa (ret (.int 1)) (qa (ret (.int 2)) (qa (ret (.int 3)) (qa (ret (.int 5)) (ret []))))))))) (qF ql 0 (qa (ret (.int 7)) (ret [])))) (ret [])))))))))
  (jm (qd7 2))))
noncomputable def yA:List D->List D->R (D×List D):=qc8 6 2 uC
noncomputable def wf:MS :=
  (qQ (jn 2 (d2 jy (d2 jX (ret (.int 7919)) (dv 1)) (ret (.int 13))))
  (qQ (sif (tst (d2 ltD (dv 1) (qW wy (qa (dv 0) (ret []))))) (jn 2 (d2 ixD (dv 0) (dv 1))) vw)
  (qQ (sif (tst (d2 eqB (d2 qcN (dv 2) (ret (.int 2))) (ret (.int 0)))) (jm (qdW (qa (d2 qaD (dv 2) (ret (.int 2))) (ret [])))) vw)
  (qQ (jn 3 (ret (.int 0)))
  (qQ (qeT (ug (qa (ret (.int 16)) (ret []))) (qB 4) (qQ (jn 5 (d2 qcN (d2 jy (d2 jy (d2 jX (d2 qcN (dv 2) (ret (.int 2147483647))) (ret (.int 48271))) (d2 jX (ret (.int 7919)) (dv 4))) (ret (.int 1))) (ret (.int 2147483647))))
  (qQ (jn 5 (d2 qcN (d2 jX (dv 5) (dv 5)) (ret (.int 2147483629))))
  (jn 3 (d2 jy (d2 jX (dv 3) (ret (.int 2147483647))) (d2 qcN (d2 jX (dv 5) (d2 jy (dv 5) (ret (.int 13)))) (ret (.int 2147483647))))))))
  (jm (qdW (qa (dv 3) (ret [])))))))))
noncomputable def uV:List D->R D:=dfn 6 2 wf
noncomputable def qmo:MS :=
  (qQ (qeT (ug (qa (qW qi6 (qa (ret (.int 1)) (qa (qW qgr (qa (qW wy (qa (dv 0) (ret []))) (qa (ret (.int 3)) (ret [])))) (ret [])))) (ret []))) (qB 1) (qQ (qaK 2 (qhu uV (qa (dv 0) (qa (dv 1) (ret [])))))
  (qQ (qjn 3 4 (qa (qF yA 2 (qa (ret (.int 6)) (ret []))) (qa (qF ql 2 (qa (ret (.int 31)) (ret []))) (ret []))))
  (qQ (jn 5 (qg qz (qa (dv 3) (qa (dv 4) (ret [])))))
  (qQ (sif (tor (tst (d2 neB (qg qz (qa (qg ub (qa (dv 3) (ret []))) (qa (dv 4) (ret [])))) (dv 5))) (tst (d2 neB (qg qz (qa (qg jU (qa (dv 3) (ret []))) (qa (dv 4) (ret [])))) (dv 5)))) (jm (ret (.bl false))) vw)
  (qQ (sif (tst (d2 neB (qW wy (qa (qg ub (qa (dv 3) (ret []))) (ret []))) (d2 qhe (qW wy (qa (dv 3) (ret []))) (qW wy (qa (qg qat (qa (dv 3) (ret []))) (ret [])))))) (jm (ret (.bl false))) vw)
  (qQ (qjn 6 7 (qa (d2 jy (ret (.int 1)) (qF ql 2 (qa (ret (.int 5)) (ret [])))) (qa (d2 jy (ret (.int 1)) (qF ql 2 (qa (ret (.int 9)) (ret [])))) (ret []))))
  (qQ (sif (tst (d2 neB (qg qz (qa (qg wX (qa (dv 3) (qa (dv 6) (qa (dv 7) (ret []))))) (qa (d2 jy (d2 jX (dv 4) (dv 6)) (qF ql 2 (qa (dv 6) (ret [])))) (ret [])))) (d2 jX (dv 5) (dv 7)))) (jm (ret (.bl false))) vw)
  (qQ (jn 8 (qg qas (qa (dv 3) (qa (qbv (qa (d2 jy (ret (.int 1)) (qF ql 2 (qa (ret (.int 9)) (ret [])))) (qa (qF ql 2 (qa (ret (.int 9)) (ret []))) (qa (ret (.int 1)) (ret []))))) (ret [])))))
  (qQ (sif (tor (tst (d2 ltD (qg qz (qa (dv 8) (qa (dv 4) (ret [])))) (dv 5))) (tst (d2 neB (qg zQ (qa (dv 8) (qa (qW wy (qa (dv 3) (ret []))) (ret [])))) (dv 3)))) (jm (ret (.bl false))) vw)
  (qQ (jn 9 (qg vn (qa (dv 3) (qa (dv 4) (ret [])))))
  (qQ (sif (tst (d2 neB (zW 1 [9] none (qa9 (qg uU (qa (dv 3) (qa (dv 4) (qa (dv 5) (ret [])))))) (qB 0) (tst (d2 gtD (d2 ixD (dv 1) (dv 0)) (ret (.int 0)))) (dv 0)) (qdW (ret [])))) (jm (ret (.bl false))) vw)
  (qeT (ug (qa (qW wy (qa (dv 3) (ret []))) (ret []))) (qB 10) (qQ (sif (tst (d2 gtD (qg qz (qa (qg zQ (qa (dv 3) (qa (dv 10) (ret [])))) (qa (dv 4) (ret [])))) (dv 5))) (jm (ret (.bl false))) vw)
  (sif (qki (tst (d2 eqB (d2 ixD (dv 9) (dv 10)) (ret (.int 0)))) (tst (d2 neB (qg qz (qa (qg zQ (qa (dv 3) (qa (dv 10) (ret [])))) (qa (dv 4) (ret [])))) (dv 5)))) (jm (ret (.bl false))) vw)))))))))))))))
  (jm (ret (.bl true))))
noncomputable def qfg:List D->R D:=dfn 11 1 qmo
local macro_rules | `(tactic| push_cast [$xs,*]) => `(tactic| simp only [ux, qbV, qqb, zX, qbW, qkx, qky, qoU, qpr, qbX, jt, qkz, qeX, uj, qag, qfC, qea, qfD, qjo, qhx, qjp, qeb, vA, qbd, qbY, qbZ, qfE, qhy, qkB, uA, qec, qhz, qhA, qb0, qhB, qhC, qeY, qhD, qeZ, qkC, qb1, qn2, qhE, lC_, lN_, mC_, List.map_nil, List.replicate, List.nil_append, List.cons_append, List.append_nil, List.getElem?_cons_zero, List.getElem?_cons_succ, List.set_cons_zero, List.set_cons_succ, Nat.reduceAdd, Nat.reduceSub, Nat.sub_self, Nat.zero_add, reduceIte, Bool.not_true, Bool.not_false, Bool.false_eq_true, if_true, if_false, ite_true, ite_false, cond_true, cond_false, decide_true, decide_false, ix0, ix1, ix2, qb7, u9, qb6, vB, qfS, qhZ, vC, wM, qe3, qkM, qkN, qfI, qfJ, qfK, qkG, qhP, qb3, $xs,*])
theorem qau (d:D):uS [d] = .ok (.bl (qh0 d)):=by
 unfold uS qaU
 refine yC rfl ⟨[some d],?_⟩
 push_cast []
 cases d<;>rfl
theorem jk (d:D):ji [d] = .ok (.bl (uk d)):=by
 unfold ji qaV
 refine yC rfl ⟨[some d],?_⟩
 push_cast []
 rw [qau]
 cases d<;>rfl
theorem qbf (d:D):uo [d] = .ok (.bl (vE d)):=by
 unfold uo qcj
 refine yC rfl ⟨[some d],?_⟩
 cases d with
 | tup ds =>
  by_cases h:ds.length=3
  ·obtain ⟨a,b,c,rfl⟩:=qq0 h
   refine (qk (U':=[some (.tup [a,b,c])]) rfl).trans ?_
   by_cases hp:qh1 a=true
   ·refine (qk (U':=[some (.tup [a,b,c])]) ?_).trans ?_
    ·cases a with
     | int i =>
      have h2:0<i:=of_decide_eq_true hp
      have h0:0<=i:=by omega
      have h1:¬ i=0:=by omega
      push_cast [ix0,jk,uk,vB,uj,h0,h1,decide_true,decide_false]
     | _=>exact absurd hp (by simp [qh1])
    ·push_cast [ix1,ix2,jk,qfS,vE,hp,uj,Bool.true_and]
     cases hb:uk b<;>cases hc:ue c<;>rfl
   ·refine (qbe (d := .bl false) (U':=[some (.tup [a,b,c])]) ?_).trans ?_
    ·cases a with
     | int i =>
      have h2:¬ 0<i:=fun z=>hp (decide_eq_true z)
      push_cast [ix0,jk,uk,vB,uj]
      by_cases h0:0<=i
      ·have h1:i=0:=by omega
       subst h1;rfl
      ·simp only [h0,decide_false]
       rfl
     | _=>rfl
    ·have hp':qh1 a=false:=by simpa using hp
     simp only [vE,hp',Bool.false_and]
  ·refine (qbe (d := .bl false) (U':=[some (.tup ds)]) ?_).trans ?_
   ·push_cast []
    have h3:¬ ((ds.length:Int)=3):=by omega
    simp only [qb7,u9,qb6,h3,decide_false,uj]
    rfl
   ·rw [qgE h]
 | _=>rfl
theorem qdu (d:D):wd [d] = .ok (.bl (wN d)):=by
 unfold wd qaW
 refine yC rfl ⟨[some d],?_⟩
 cases d with
 | tup ds =>
  by_cases h:ds.length<=12
  ·have h2:¬ ((12:Int)<(ds.length:Int)):=by omega
   refine (qk (U':=[some (.tup ds)]) ?_).trans ?_
   ·push_cast [qb7,u9,vC,h2,decide_false,uj]
   ·rw [vA,ql8 (F:=uo) (f:=vE) (xs:=qa9 (dv 0)) (ds:=ds) (U:=[some (.tup ds)]) rfl (fun d _=>qbf d) (by omega)]
    simp only [wN,h,decide_true,Bool.true_and]
  ·have h2:((12:Int)<(ds.length:Int)):=by omega
   refine (qbe (d := .bl false) (U':=[some (.tup ds)]) ?_).trans ?_
   ·push_cast [qb7,u9,vC,h2,decide_true,uj]
   ·simp only [wN,h,decide_false,Bool.false_and]
 | _=>rfl
theorem qO (d:D) (h:wN d=true):qZ [d] = .ok .non:=by
 have e:yw [some d] = .ok (.nx [some d]):=by
  unfold yw
  push_cast [qdu,h,uj]
 show (match yw [some d] with | .ok (.rt d _)=>R.ok d | .ok (.nx _) => .ok .non | _ => .bad)=_
 rw [e]
theorem jV (n:Nat):yu [.int (n:Nat)] = .ok .non:=by
 have h:uk (.int (n:Nat))=true:=by
  show decide (0<=(n:Int))=true
  exact decide_eq_true (by omega)
 have e:yt [some (.int (n:Nat))] = .ok (.nx [some (.int (n:Nat))]):=by
  unfold yt
  push_cast [jk,h,uj]
 show (match yt [some (.int (n:Nat))] with | .ok (.rt d _)=>R.ok d | .ok (.nx _) => .ok .non | _ => .bad)=_
 rw [e]
theorem qcm (n:Int):vQ [.int n] = .ok .non:=by
 have h:qh0 (.int n)=true:=rfl
 have e:yz [some (.int n)] = .ok (.nx [some (.int n)]):=by
  unfold yz
  push_cast [qau,h,uj]
 show (match yz [some (.int n)] with | .ok (.rt d _)=>R.ok d | .ok (.nx _) => .ok .non | _ => .bad)=_
 rw [e]
theorem ex1 {F:List D->R D} {l:M (List D)} {U:Env} {ds:List D} {d:D} (hl:l U = .ok (ds,U)) (h:F ds = .ok d):zK (qg F l) U = .ok (.nx U):=by
 rw [qbZ,jt,hl]
 simp only [h]
theorem cx2 {F:List D->R D} {f g:M D} {U:Env} {a b d:D} (hf:f U = .ok (a,U)) (hg:g U = .ok (b,U)) (e:F [a,b] = .ok d):qg F (qa f (qa g (ret []))) U = .ok (d,U):=by
 rw [jt,qe4 hf hg]
 simp only [e]
theorem cp2 {F:List D->R D} {f g:M D} {U:Env} {a b d:D} (hf:f U = .ok (a,U)) (hg:g U = .ok (b,U)) (e:F [a,b] = .ok d):qg F (qa f (qa g (ret []))) U = .ok (d,U):=by
 rw [jt,qe4 hf hg]
 simp only [e]
theorem qqr {f g:M D} {U:Env} {d:D} (hf:f U = .ok (.bl true,U)) (hg:g U = .ok (d,U)):qgo f g U = .ok (d,U):=by
 rw [qfD,hf]
 exact hg
theorem qq5 {f g:M D} {U:Env} (hf:f U = .ok (.bl false,U)):qgo f g U = .ok (.bl false,U):=by
 rw [qfD,hf]
 rfl
theorem qpL {t:M Bool} {f g:M D} {U:Env} {d:D} (ht:t U = .ok (true,U)) (hf:f U = .ok (d,U)):dif t f g U = .ok (d,U):=by
 rw [qjp,ht]
 exact hf
theorem qo0 {t:M Bool} {f g:M D} {U:Env} {d:D} (ht:t U = .ok (false,U)) (hg:g U = .ok (d,U)):dif t f g U = .ok (d,U):=by
 rw [qjp,ht]
 exact hg
theorem qkV (n:Nat):uk (.int (n:Nat))=true:=by
 show decide ((0:Int)<=(n:Int))=true
 exact decide_eq_true (by omega)
theorem gt0 (n:Nat):gtD (.int (n:Nat)) (.int 0)=some (.bl (decide (0<n))):=by
 rw [vC]
 congr 2
 rw [decide_eq_decide]
 omega
theorem leN (a b:Nat):leD (.int (a:Nat)) (.int (b:Nat))=some (.bl (decide (a<=b))):=by
 rw [qe3]
 congr 2
 rw [decide_eq_decide]
 omega
theorem qmp:∀ (b a:Nat) (o:Option D),∃ n o',uE (tst (d2 gtD (dv 1) (ret (.int 0)))) (qQ (jn 2 (d2 qcN (dv 0) (dv 1))) (qQ (jn 0 (dv 1)) (jn 1 (dv 2)))) n [some (.int (a:Nat)),some (.int (b:Nat)),o] = .ok (.nx [some (.int (Nat.gcd a b:Nat)),some (.int 0),o']):=by
 intro b
 induction b using Nat.strongRecOn with
 | _ b ih =>
  intro a o
  by_cases h:0<b
  ·obtain ⟨n,o',q⟩:=ih (a%b) (Nat.mod_lt _ h) b (some (.int ((a%b:Nat):Int)))
   refine ⟨n+1,o',?_⟩
   unfold uE
   have t:tst (d2 gtD (dv 1) (ret (.int 0))) [some (.int (a:Nat)),some (.int (b:Nat)),o] = .ok (true,[some (.int (a:Nat)),some (.int (b:Nat)),o]):=qY (qi rfl rfl (by rw [gt0,decide_eq_true h]))
   have s:(qQ (jn 2 (d2 qcN (dv 0) (dv 1))) (qQ (jn 0 (dv 1)) (jn 1 (dv 2)))) [some (.int (a:Nat)),some (.int (b:Nat)),o] = .ok (.nx [some (.int (b:Nat)),some (.int ((a%b:Nat):Int)),some (.int ((a%b:Nat):Int))]):=by
    refine (qk (U':=[some (.int (a:Nat)),some (.int (b:Nat)),some (.int ((a%b:Nat):Int))]) ?_).trans rfl
    rw [qbd,qi rfl rfl (qjP a h)]
    rfl
   simp only [t,s]
   have e:Nat.gcd a b=Nat.gcd b (a%b):=by
    rw [Nat.gcd_comm a b,Nat.gcd_rec b a,Nat.gcd_comm]
   rw [e]
   exact q
  ·have e:b=0:=by omega
   subst e
   refine ⟨1,o,?_⟩
   unfold uE
   have t:tst (d2 gtD (dv 1) (ret (.int 0))) [some (.int (a:Nat)),some (.int ((0:Nat):Int)),o] = .ok (false,[some (.int (a:Nat)),some (.int ((0:Nat):Int)),o]):=qY (qi rfl rfl (by rw [gt0];rfl))
   simp only [t]
   rw [Nat.gcd_zero_right]
   rfl
theorem vR (a b:Nat):zZ [.int (a:Nat),.int (b:Nat)] = .ok (.int (Nat.gcd a b:Nat)):=by
 unfold zZ jR
 obtain ⟨n,o',q⟩:=qmp b a none
 refine yC rfl ⟨[some (.int (Nat.gcd a b:Nat)),some (.int 0),o'],?_⟩
 exact (qk (qeg q (by intro z;cases z))).trans rfl
theorem uW (T:Nat) {B:Nat} (hB:0<B) (hb:B<big):jq [.int (T:Nat),.int (B:Nat)] = .ok (qcs T B):=by
 have hg:0<Nat.gcd T B:=Nat.gcd_pos_of_pos_right _ hB
 have hg2:Nat.gcd T B<big:=Nat.lt_of_le_of_lt (Nat.gcd_le_right _ hB) hb
 unfold jq uF
 refine yC rfl ⟨[some (.int (T:Nat)),some (.int (B:Nat)),some (.int (Nat.gcd T B:Nat))],?_⟩
 refine (qk (U':=[some (.int (T:Nat)),some (.int (B:Nat)),some (.int (Nat.gcd T B:Nat))]) ?_).trans ?_
 ·show jn 2 _ [some (.int (T:Nat)),some (.int (B:Nat)),none]=_
  rw [qbd,zN rfl rfl (vR T B)]
  rfl
 ·rw [vA,qoY (qi rfl rfl (vJ T hg hg2)) (qi rfl rfl (vJ B hg hg2))]
  rfl
theorem qgK {t b u c:Nat} (h1:c<=Mx) (h2:u<=Mx\/b<=Mx) (hb:0<b) (hc:0<c) (hl:b*c<big):qaY [frD t b,frD u c] = .ok (qcs (t*c+u*b) (b*c)):=by
 unfold qaY qfd
 let U:Env:=[some (frD t b),some (frD u c)]
 refine yC rfl ⟨U,?_⟩
 show jm _ U=_
 have e2:jX (.int (u:Nat)) (.int (b:Nat))=some (.int ((u*b:Nat):Int)):=h2.elim (fun h=>qox b h) (fun h=>vq u h)
 rw [vA,zN (qi (qi (qi rfl rfl (qjR t b)) (qi rfl rfl (qgG u c)) (vq t h1)) (qi (qi rfl rfl (qjR u c)) (qi rfl rfl (qgG t b)) e2) (qjQ _ _)) (qi (qi rfl rfl (qgG t b)) (qi rfl rfl (qgG u c)) (vq b h1)) (uW _ (Nat.mul_pos hb hc) hl)]
theorem wm {ks:List Nk} (hw:∀ x∈ks,x.1<=Mx):jj [.tup (ks.map tK)] = .ok (.int (zH ks:Nat)):=by
 unfold jj yi
 let S:Option D:=some (.tup (ks.map tK))
 obtain ⟨U',q,o2,rfl⟩:=vF (G:=qB 2) (b:=(jn 1 (d2 jX (dv 1) (d2 ixD (dv 2) (ret (.int 0)))))) (k:=tK) (step:=fun (p:Nat) (x:Nk)=>p*x.1) (Inv:=fun n p U=>∃ o2,U=[S,some (.int (p:Nat)),o2]) ks 0 1 [S,some (.int 1),none] ⟨none,rfl⟩ (fun x hx n p U _ _=>by
  rintro ⟨o2,rfl⟩
  refine ⟨[S,some (.int (p:Nat)),some (tK x)],[S,some (.int ((p*x.1:Nat):Int)),some (tK x)],rfl,?_,_,rfl⟩
  rw [qbd,qi rfl (qi rfl rfl (tk0 x)) (vq p (hw x hx))]
  rfl)
 refine yC rfl ⟨[S,some (.int (zH ks:Nat)),o2],?_⟩
 refine (qk (U':=[S,some (.int 1),none]) rfl).trans ((qk (U':=[S,some (.int (zH ks:Nat)),o2]) ?_).trans rfl)
 rw [uA]
 exact q
theorem qav {ks:List Nk} (hw:∀ x∈ks,0<x.1) (hl:ks.length<=12) (hp:zH ks<=Mx):z8 [.tup (ks.map tK)] = .ok (.lst ((qao ks).map fun i=>D.int (i:Nat))):=by
 have hwM:∀ x∈ks,x.1<=Mx:=fun x hx=>Nat.le_trans (qf2 hw hx) hp
 let S:Option D:=some (.tup (ks.map tK))
 let P:Option D:=some (.int (zH ks:Nat))
 let L:Option D:=some (.lst ((plN ks).map fun i=>D.int (i:Nat)))
 unfold z8 jP
 refine yC rfl ⟨[S,P,L],?_⟩
 refine (qk (U':=[S,P,none]) (um (vH rfl (wm hwM)))).trans ?_
 refine (qk (U':=[S,P,L]) ?_).trans ?_
 ·refine um (i:=2) (U:=[S,P,none]) (U1:=[S,P,none]) (d := .lst ((plN ks).map fun i=>D.int (i:Nat))) ?_
  refine qh5 (u:=fun i:Nat=>D.int (i:Nat)) (v:=fun i=>tK (nAt ks i)) (r:=[]) (List.range ks.length) (fun i=>decide (0<(nAt ks i).2.1)) (fun i=>D.int (i:Nat)) ?_ rfl (by rw [lR_];omega) (fun i hi=>qY (qi (qi rfl rfl (tk1 _)) rfl (gt0 _))) (fun i _ _=>rfl)
  rw [qb3]
  show (match qhH [D.tup (ks.map tK)] with | some ds=>R.ok (ds,[S,P,none]) | none => .bad)=_
  rw [<- qmg]
  rfl
 ·refine zY ?_
  have hks:qb5 (d2 jX (d1 qkt (d2 ixD (d2 ixD (dv 2) (dv 0)) (ret (.int 1)))) (d2 qaD (dv 1) (d2 ixD (d2 ixD (dv 2) (dv 0)) (ret (.int 0))))) 3 [.int (zH ks:Nat),.tup (ks.map tK)] ((plN ks).map fun i=>D.int (i:Nat))=some ((plN ks).map (qe6 ks)):=by
   refine qet fun i hi => ?_
   have hi':i<ks.length:=by
    unfold plN at hi
    exact mR_.mp (List.mem_filter.mp hi).1
   have hx:=jL hi'
   let U:Env:=[some (.int (i:Nat)),P,S]
   refine ⟨U,?_⟩
   show (d2 jX (d1 qkt (d2 ixD (d2 ixD (dv 2) (dv 0)) (ret (.int 1)))) (d2 qaD (dv 1) (d2 ixD (d2 ixD (dv 2) (dv 0)) (ret (.int 0))))) U=_
   have hq:zH ks/(nAt ks i).1<=18000000000000000000:=Nat.le_trans (Nat.div_le_self _ _) hp
   have e1:d1 qkt (d2 ixD (d2 ixD (dv 2) (dv 0)) (ret (.int 1))) U = .ok (.int (-((nAt ks i).2.1:Int)),U):=by
    have e0:d2 ixD (d2 ixD (dv 2) (dv 0)) (ret (.int 1)) U = .ok (.int ((nAt ks i).2.1:Nat),U):=qi (qi rfl rfl (qh6 hi')) rfl (tk1 _)
    rw [qpr,e0]
    rfl
   exact qi e1 (qi rfl (qi (qi rfl rfl (qh6 hi')) rfl (tk0 _)) (vJ _ (hw _ hx) (Nat.lt_of_le_of_lt (hwM _ hx) (by decide)))) (qjK (qme hq))
  have h64:((plN ks).map fun i=>D.int (i:Nat)).length<64:=by
   rw [lM_]
   have:=List.length_filter_le (fun i=>decide (0<(nAt ks i).2.1)) (List.range ks.length)
   rw [lR_] at this
   unfold plN
   omega
  have hk:=qjI (n:=3) (fr:=[1,0]) (f:=dv 2) (g:=(d2 jX (d1 qkt (d2 ixD (d2 ixD (dv 2) (dv 0)) (ret (.int 1)))) (d2 qaD (dv 1) (d2 ixD (d2 ixD (dv 2) (dv 0)) (ret (.int 0)))))) (U:=[S,P,L]) (U1:=[S,P,L]) rfl h64 (cs:=[.int (zH ks:Nat),.tup (ks.map tK)]) rfl hks
  have hp2:qe2 (Srt.ord ((plN ks).map (qe6 ks))) ((plN ks).map fun i=>D.int (i:Nat))=(qao ks).map fun i=>D.int (i:Nat):=by
   refine qh7 0 fun i hi => ?_
   have:=(Srt.ord_perm _).mem_iff.mp hi
   rw [lM_] at this
   exact mR_.mp this
  rw [hp2] at hk
  exact hk
theorem qpM (w g m:Nat):ixD (tK (w,g,some m)) (.int 2)=some (.int (m:Nat)):=rfl
theorem qmq (w g m r:Nat):d2 ixD (dv 0) (ret (.int 2)) [some (tK (w,g,some m)),some (.int (r:Nat))] = .ok (.int (m:Nat),[some (tK (w,g,some m)),some (.int (r:Nat))]):=qi rfl rfl (qpM w g m)
theorem qoC (w g m r:Nat):d2 qnA (d2 ixD (dv 0) (ret (.int 2))) (ret .non) [some (tK (w,g,some m)),some (.int (r:Nat))] = .ok (.bl true,[some (tK (w,g,some m)),some (.int (r:Nat))]):=qi (qmq w g m r) rfl rfl
theorem qkW (w g m r:Nat) (h:w<=Mx):d2 jX (d2 ixD (dv 0) (ret (.int 2))) (d2 ixD (dv 0) (ret (.int 0))) [some (tK (w,g,some m)),some (.int (r:Nat))] = .ok (.int ((m*w:Nat):Int),[some (tK (w,g,some m)),some (.int (r:Nat))]):=qi (qmq w g m r) (qi rfl rfl (tk0 (w,g,some m))) (vq m h)
theorem qpN (w g m r:Nat) (h:w<=Mx):d2 leD (d2 jX (d2 ixD (dv 0) (ret (.int 2))) (d2 ixD (dv 0) (ret (.int 0)))) (dv 1) [some (tK (w,g,some m)),some (.int (r:Nat))] = .ok (.bl (decide (m*w<=r)),[some (tK (w,g,some m)),some (.int (r:Nat))]):=qi (qkW w g m r h) rfl (leN _ _)
theorem qoD (w g m r:Nat) (h:w<=Mx) (hr:m*w<=r):d2 qhe (dv 1) (d2 jX (d2 ixD (dv 0) (ret (.int 2))) (d2 ixD (dv 0) (ret (.int 0)))) [some (tK (w,g,some m)),some (.int (r:Nat))] = .ok (.int ((r-m*w:Nat):Int),[some (tK (w,g,some m)),some (.int (r:Nat))]):=by
 refine qi rfl (qkW w g m r h) ?_
 rw [qan]
 congr 2
 omega
theorem qmr (w g r:Nat):d2 qnA (d2 ixD (dv 0) (ret (.int 2))) (ret .non) [some (tK (w,g,none)),some (.int (r:Nat))] = .ok (.bl false,[some (tK (w,g,none)),some (.int (r:Nat))]):=qi (qi rfl rfl (tk2 (w,g,none))) rfl rfl
theorem qqs (w g m r:Nat):goN (w,g,some m) r=decide (m*w<=r):=rfl
theorem qpO (w g r:Nat):goN (w,g,none) r=false:=rfl
theorem wB {x:Nk} (h:x.1<=Mx) (r:Nat):uq [tK x,.int (r:Nat)] = .ok (.bl (goN x r)):=by
 obtain ⟨w,g,m⟩:=x
 unfold uq wS
 cases m with
 | none =>
  rw [qpO]
  exact yC rfl ⟨[some (tK (w,g,none)),some (.int (r:Nat))],zY (qq5 (qmr w g r))⟩
 | some m =>
  rw [qqs]
  exact yC rfl ⟨[some (tK (w,g,some m)),some (.int (r:Nat))],zY (qqr (qoC w g m r) (qpN w g m r h))⟩
theorem qip:Mx<big:=by decide
theorem qpP {x:Nk} {r:Nat} (h:goN x r=true):shN x r=(mN x,1):=by unfold shN;rw [h];rfl
theorem qpQ {x:Nk} {r:Nat} (h:goN x r=false):shN x r=(wZ r x.1,w6 r x.1):=by unfold shN;rw [h];rfl
theorem qpR {x:Nk} {r:Nat} (h:goN x r=true):bhN x r=r-mN x*x.1:=by unfold bhN;rw [h];rfl
theorem qpS {x:Nk} {r:Nat} (h:goN x r=false):bhN x r=0:=by unfold bhN;rw [h];rfl
theorem qcn {x:Nk} (h0:0<x.1) (h:x.1<=Mx) (r:Nat):yy [tK x,.int (r:Nat)] = .ok (fr (shN x r)):=by
 have t:=qY (zN (U:=[some (tK x),some (.int (r:Nat))]) (f:=dv 0) (g:=dv 1) rfl rfl (wB h r))
 unfold yy vP
 cases hg:goN x r with
 | true =>
  rw [qpP hg]
  rw [hg] at t
  obtain ⟨w,g,m⟩:=x
  cases m with
  | none=>rw [qpO] at hg;cases hg
  | some m=>exact yC rfl ⟨[some (tK (w,g,some m)),some (.int (r:Nat))],zY (qpL t (qoY (qmq w g m r) rfl))⟩
 | false =>
  rw [qpQ hg]
  rw [hg] at t
  exact yC rfl ⟨[some (tK x),some (.int (r:Nat))],zY (qo0 t (zN rfl (qi rfl rfl (tk0 x)) (uW r h0 (Nat.lt_of_le_of_lt h qip))))⟩
theorem qbm {x:Nk} (h:x.1<=Mx) (r:Nat):jQ [tK x,.int (r:Nat)] = .ok (.int (bhN x r:Nat)):=by
 have t:=qY (zN (U:=[some (tK x),some (.int (r:Nat))]) (f:=dv 0) (g:=dv 1) rfl rfl (wB h r))
 unfold jQ vg
 cases hg:goN x r with
 | true =>
  rw [qpR hg]
  rw [hg] at t
  obtain ⟨w,g,m⟩:=x
  cases m with
  | none=>rw [qpO] at hg;cases hg
  | some m =>
   rw [qqs] at hg
   exact yC rfl ⟨[some (tK (w,g,some m)),some (.int (r:Nat))],zY (qpL t (qoD w g m r h (of_decide_eq_true hg)))⟩
 | false =>
  rw [qpS hg]
  rw [hg] at t
  exact yC rfl ⟨[some (tK x),some (.int (r:Nat))],zY (qo0 t rfl)⟩
theorem qq6 (n:Nat):(List.replicate n [D.tup [.int 0,.int 1]]).flatten=(List.replicate n ((0:Nat),(1:Nat))).map fr:=by
 induction n with
 | zero=>rfl
 | succ n ih=>rw [rS_,List.flatten_cons,ih,rS_];rfl
theorem qms (n:Nat) (hn:n<=12):ql2 (.lst [.tup [.int 0,.int 1]]) (.int (n:Nat))=some ((List.replicate n ((0:Nat),(1:Nat))).map fr):=by
 unfold ql2
 have c0:(2:Int) ^ 62=4611686018427387904:=by decide
 have c1:decide (-(2 ^ 62)<=((n:Nat):Int))=true:=decide_eq_true (by rw [c0];omega)
 have c2:decide (((n:Nat):Int)<2 ^ 62)=true:=decide_eq_true (by rw [c0];omega)
 have c3:qP ([D.tup [.int 0,.int 1]].length*((n:Nat):Int).toNat)=true:=yN (by rw [Int.toNat_natCast];simp only [lC_,lN_];omega)
 have c4:immL [D.tup [.int 0,.int 1]]=true:=rfl
 simp only [c1,c2,c3,c4,Bool.and_self,if_true]
 rw [Int.toNat_natCast,qq6]
theorem qmt {f g:M D} {U:Env} {x y:D} {ds:List D} (hf:f U = .ok (x,U)) (hg:g U = .ok (y,U)) (e:ql2 x y=some ds):qoe f g U = .ok (ds,U):=by
 rw [qog,hf]
 simp only [hg,e]
theorem qmu {i:Nat} {k f:M D} {U:Env} {L:List (Nat×Nat)} {q:Nat} {v:Nat×Nat} (hf:f U = .ok (fr v,U)) (hk:k U = .ok (.int (q:Nat),U)) (hL:zD i U=some (L.map fr)) (hq:q<L.length):qeV i k f U = .ok (.nx (U.set i (some (.lst ((L.set q v).map fr))))):=by
 have e:ixN (L.map fr).length ((q:Nat):Int)=some q:=by
  unfold ixN
  rw [lM_,if_pos (by omega),if_pos (by omega),Int.toNat_natCast]
 have him:imm (fr v)=true:=rfl
 rw [qeY,hf]
 simp only [hL,hk,e,him,if_true,List.map_set]
theorem qbn {ks:List Nk} (hw:∀ x∈ks,0<x.1) (hl:ks.length<=12) (hp:zH ks<=Mx) (r:Nat):jS [.tup (ks.map tK),.int (r:Nat)] = .ok (.tup ((shs ks r).map fr)):=by
 have hwM:∀ x∈ks,x.1<=Mx:=fun x hx=>Nat.le_trans (qf2 hw hx) hp
 let S:Option D:=some (.tup (ks.map tK))
 let R0:Option D:=some (.int (r:Nat))
 let L0:List (Nat×Nat):=List.replicate ks.length (0,1)
 obtain ⟨U',q,o4,hlen,rfl⟩:=vF (G:=qB 4) (b:=(qQ (qeV 2 (dv 4) (qg yy (qa (d2 ixD (dv 0) (dv 4)) (qa (dv 3) (ret []))))) (jn 3 (qg jQ (qa (d2 ixD (dv 0) (dv 4)) (qa (dv 3) (ret []))))))) (k:=fun i:Nat=>D.int (i:Nat)) (step:=shS ks) (Inv:=fun n s U=>∃ o4,s.2.length=ks.length/\U=[S,R0,some (.lst (s.2.map fr)),some (.int (s.1:Nat)),o4]) (qao ks) 0 (r,L0) [S,R0,some (.lst (L0.map fr)),R0,none] ⟨none,List.length_replicate,rfl⟩ (fun p hp' n s U _ _=>by
  rintro ⟨o4,hs,rfl⟩
  have hpl:=(qap.mp hp').1
  have hx:=jL hpl
  let U1:Env:=[S,R0,some (.lst (s.2.map fr)),some (.int (s.1:Nat)),some (.int (p:Nat))]
  let U2:Env:=[S,R0,some (.lst ((s.2.set p (shN (nAt ks p) s.1)).map fr)),some (.int (s.1:Nat)),some (.int (p:Nat))]
  refine ⟨U1,[S,R0,some (.lst ((s.2.set p (shN (nAt ks p) s.1)).map fr)),some (.int (bhN (nAt ks p) s.1:Nat)),some (.int (p:Nat))],rfl,?_,_,(lS_).trans hs,rfl⟩
  refine (qk (U':=U2) ?_).trans ?_
  ·exact qmu (U:=U1) (i:=2) (zN (qi rfl rfl (qh6 hpl)) rfl (qcn (hw _ hx) (hwM _ hx) s.1)) rfl rfl (by rw [hs];exact hpl)
  ·exact um (zN (qi rfl rfl (qh6 hpl)) rfl (qbm (hwM _ hx) s.1)))
 unfold jS vh
 refine yC rfl ⟨[S,R0,some (.lst ((shs ks r).map fr)),some (.int (((qao ks).foldl (shS ks) (r,L0)).1:Nat)),o4],?_⟩
 refine (qk (U':=[S,R0,none,none,none]) (ex1 rfl (qO _ (va hw hl)))).trans ?_
 refine (qk (U':=[S,R0,none,none,none]) (ex1 rfl (jV r))).trans ?_
 refine (qk (U':=[S,R0,some (.lst (L0.map fr)),none,none]) ?_).trans ?_
 ·have a1:qdW (qa (ret (.tup [.int 0,.int 1])) (ret [])) [S,R0,none,none,none] = .ok (.lst [.tup [.int 0,.int 1]],[S,R0,none,none,none]):=by push_cast [yN (show 1<=1000000 by omega)]
  have a2:qW wy (qa (dv 0) (ret [])) [S,R0,none,none,none] = .ok (.int (ks.length:Nat),[S,R0,none,none,none]):=ul rfl (by
   show some (D.int ((ks.map tK).length:Nat))=_
   rw [lM_])
  rw [qbY,qmt a1 a2 (qms ks.length hl)]
  rfl
 refine (qk (U':=[S,R0,some (.lst (L0.map fr)),R0,none]) rfl).trans ?_
 refine (qk (U':=[S,R0,some (.lst ((shs ks r).map fr)),some (.int (((qao ks).foldl (shS ks) (r,L0)).1:Nat)),o4]) ?_).trans ?_
 ·have e0:qa9 (qg z8 (qa (dv 0) (ret []))) [S,R0,some (.lst (L0.map fr)),R0,none] = .ok ((qao ks).map fun i=>D.int (i:Nat),[S,R0,some (.lst (L0.map fr)),R0,none]):=by
   rw [qec,vH rfl (qav hw hl hp)]
   rfl
  rw [uA,e0]
  exact q
 ·rw [vA,qeZ]
  rfl
theorem qjX (ks:List Nk) (l:List (Nat×Nat)):qfA (ks.map tK) (l.map fr)=(ks.zip l).map fun z=>D.tup [tK z.1,fr z.2]:=by
 induction ks generalizing l with
 | nil=>rfl
 | cons x ks ih =>
  cases l with
  | nil=>rfl
  | cons y l=>rw [mC_,mC_,List.zip_cons_cons,mC_,<- ih];rfl
theorem qbo {ks:List Nk} (hw:∀ x∈ks,0<x.1) (hg:∀ x∈ks,x.2.1<=Mx) (hl:ks.length<=12) (hp:zH ks<=Mx) (r:Nat):yS [.tup (ks.map tK),.int (r:Nat)] = .ok (qcs (swN ks r).1 (swN ks r).2):=by
 have hz:=qh9 hw r
 let S:Option D:=some (.tup (ks.map tK))
 let R0:Option D:=some (.int (r:Nat))
 have main:∀ (l:List (Nk×Nat×Nat)) (s:Nat×Nat) (o3 o4:Option D),(∀ z∈l,z∈ks.zip (shs ks r))->0<s.2->s.2*zH (l.map (·.1))<=Mx->∃ p3 p4,uh (qgS 2 (uw (qB 3) (uw (qB 4) qgR))) (jn 2 (qg qaY (qa (dv 2) (qa (qbv (qa (d2 jX (d2 ixD (dv 4) (ret (.int 0))) (d2 ixD (dv 3) (ret (.int 1)))) (qa (d2 ixD (dv 4) (ret (.int 1))) (ret [])))) (ret []))))) (l.map fun z=>D.tup [tK z.1,fr z.2]) [S,R0,some (qcs s.1 s.2),o3,o4] = .ok (.nx [S,R0,some (qcs (l.foldl swS s).1 (l.foldl swS s).2),p3,p4]):=by
  intro l
  induction l with
  | nil=>intro s o3 o4 _ _ _;exact ⟨o3,o4,rfl⟩
  | cons z l ih =>
   intro s o3 o4 hm hs hb
   have hzm:=hm z mS_
   obtain ⟨z1,z2⟩:=hz z hzm
   have hzk:z.1∈ks:=(List.of_mem_zip (show (z.1,z.2)∈ks.zip (shs ks r) from hzm)).1
   have hlp:∀ x∈l.map (·.1),0<x.1:=fun x hx=>by
    obtain ⟨y,hy,rfl⟩:=mP_.mp hx
    exact hw _ (List.of_mem_zip (show (y.1,y.2)∈ks.zip (shs ks r) from hm y (mM_ _ hy))).1
   have hpp:=qcb hlp
   rw [mC_,zS] at hb
   have hb2:s.2*z.2.2*zH (l.map (·.1))<=Mx:=by
    refine Nat.le_trans ?_ hb
    rw [Nat.mul_assoc]
    exact Nat.mul_le_mul_left _ (Nat.mul_le_mul_right _ z2)
   have hsz:s.2*z.2.2<=Mx:=Nat.le_trans (Nat.le_mul_of_pos_right _ hpp) hb2
   have hs1:s.2<=Mx:=Nat.le_trans (Nat.le_mul_of_pos_right _ z1) hsz
   have hz3:z.2.2<=Mx:=Nat.le_trans (Nat.le_mul_of_pos_left _ hs) hsz
   obtain ⟨l1,l2⟩:=qca s.1 hs
   obtain ⟨p3,p4,e⟩:=ih (swS s z) (some (tK z.1)) (some (fr z.2)) (fun y hy=>hm y (mM_ _ hy)) (Nat.mul_pos hs z1) hb2
   refine ⟨p3,p4,?_⟩
   rw [mC_,vI (U1:=[S,R0,some (qcs s.1 s.2),some (tK z.1),some (fr z.2)]) (U2:=[S,R0,some (qcs (swS s z).1 (swS s z).2),some (tK z.1),some (fr z.2)]) rfl ?_]
   ·exact e
   ·let U1:Env:=[S,R0,some (qcs s.1 s.2),some (tK z.1),some (fr z.2)]
    have ea:qaY [qcs s.1 s.2,frD (z.2.1*z.1.2.1) z.2.2] = .ok (qcs (swS s z).1 (swS s z).2):=by
     have:=qgK (t:=wZ s.1 s.2) (b:=w6 s.1 s.2) (u:=z.2.1*z.1.2.1) (c:=z.2.2) hz3 (.inr (Nat.le_trans l2 hs1)) l1 z1 (Nat.lt_of_le_of_lt (Nat.le_trans (Nat.mul_le_mul_right _ l2) hsz) qip)
     rw [qmi _ _ hs z1] at this
     exact this
    have et:qbv (qa (d2 jX (d2 ixD (dv 4) (ret (.int 0))) (d2 ixD (dv 3) (ret (.int 1)))) (qa (d2 ixD (dv 4) (ret (.int 1))) (ret []))) U1 = .ok (frD (z.2.1*z.1.2.1) z.2.2,U1) :=
     qoY (qi (qi rfl rfl (qjR _ _)) (qi rfl rfl (tk1 _)) (vq _ (hg _ hzk))) (qi rfl rfl (qgG _ _))
    exact um (U:=U1) (zN rfl et ea)
 obtain ⟨p3,p4,q⟩:=main (ks.zip (shs ks r)) (0,1) none none (fun _ h=>h) Nat.one_pos (by rw [Nat.one_mul,qib (qdj ks r)];exact hp)
 unfold yS vi
 refine yC rfl ⟨[S,R0,some (qcs (swN ks r).1 (swN ks r).2),p3,p4],?_⟩
 refine (qk (U':=[S,R0,some (qcs 0 1),none,none]) rfl).trans ((qk (U':=[S,R0,some (qcs (swN ks r).1 (swN ks r).2),p3,p4]) ?_).trans rfl)
 have e0:(qnT (qa (dv 0) (qa (qg jS (qa (dv 0) (qa (dv 1) (ret [])))) (ret [])))) [S,R0,some (qcs 0 1),none,none] = .ok ((ks.zip (shs ks r)).map fun z=>D.tup [tK z.1,fr z.2],[S,R0,some (qcs 0 1),none,none]):=by
  rw [qhA,qe4 rfl (cp2 rfl rfl (qbn hw hl hp r)),<- qjX]
  rfl
 rw [uA,e0]
 exact q
theorem qpT {ks:List Nk} (hw:∀ x∈ks,0<x.1) (hp:zH ks<=Mx) (r:Nat):0<(swN ks r).2/\(swN ks r).2<=Mx:=by
 obtain ⟨a1,a2⟩:=qia (ks.zip (shs ks r)) (0,1) (qh9 hw r) Nat.one_pos
 rw [Nat.one_mul,qib (qdj ks r)] at a2
 exact ⟨a1,Nat.le_trans a2 hp⟩
theorem qbp {ks:List Nk} (hw:∀ x∈ks,0<x.1) (hg:∀ x∈ks,x.2.1<=Mx) (hl:ks.length<=12) (hp:zH ks<=Mx) (r:Nat):yT [.tup (ks.map tK),.int (r:Nat)] = .ok (.int ((swN ks r).1/(swN ks r).2:Nat)):=by
 obtain ⟨s1,s2⟩:=qpT hw hp r
 obtain ⟨l1,l2⟩:=qca (swN ks r).1 s1
 let S:Option D:=some (.tup (ks.map tK))
 let R0:Option D:=some (.int (r:Nat))
 unfold yT vj
 refine yC rfl ⟨[S,R0,some (qcs (swN ks r).1 (swN ks r).2)],?_⟩
 refine (qk (U':=[S,R0,some (qcs (swN ks r).1 (swN ks r).2)]) (um (U1:=[S,R0,none]) (cx2 rfl rfl (qbo hw hg hl hp r)))).trans ?_
 ·refine zY ?_
  have:=vJ (wZ (swN ks r).1 (swN ks r).2) l1 (Nat.lt_of_le_of_lt (Nat.le_trans l2 s2) (by decide))
  rw [qmh _ s1] at this
  exact qi (qi rfl rfl (qjR _ _)) (qi rfl rfl (qgG _ _)) this
def qjY (x:Nk):Nk:=(x.1,x.2.1,x.2.2.map (·-1))
def vS (x:Nk):Bool:=match x.2.2 with
 | none=>true
 | some m=>decide (0<m)
def qgc (ks:List Nk) (r:Nat):Nat:=(swN ks r).1/(swN ks r).2
def yB (ks:List Nk) (p:Nat):List Nk:=ks.set p (qjY (nAt ks p))
def qiM (ks:List Nk) (p R:Nat) (u:Int):Bool:=vS (nAt ks p)&&decide ((nAt ks p).1<=R)&&decide (u<=((nAt ks p).2.1:Int)+(qgc (yB ks p) (R-(nAt ks p).1):Nat))
theorem qiq (ks:List Nk) (p:Nat) (y:Nk) (h:y.1=(nAt ks p).1):zH (ks.set p y)=zH ks:=by
 induction ks generalizing p with
 | nil=>rfl
 | cons x ks ih =>
  cases p with
  | zero =>
   rw [List.set_cons_zero,zS,zS,h]
   rfl
  | succ p =>
   rw [List.set_cons_succ,zS,zS,ih p (by rw [h];simp [nAt])]
theorem qa3 {ks:List Nk} {p:Nat} (hp:p<ks.length) {P:Nat->Nat->Prop} (h:∀ x∈ks,P x.1 x.2.1):∀ x∈yB ks p,P x.1 x.2.1:=fun x hx=>by
 rcases List.mem_or_eq_of_mem_set hx with hx | rfl
 ·exact h x hx
 ·show P (nAt ks p).1 (nAt ks p).2.1
  exact h _ (jL hp)
theorem orF {f g:M D} {U:Env} {d:D} (hf:f U = .ok (.bl false,U)) (hg:g U = .ok (d,U)):dor f g U = .ok (d,U):=by
 rw [qjo,hf]
 exact hg
theorem qdv (x:Nk):yj [tK x] = .ok (.bl (vS x)):=by
 obtain ⟨w,g,m⟩:=x
 unfold yj qaZ
 cases m with
 | none=>exact yC rfl ⟨[some (tK (w,g,none))],rfl⟩
 | some m =>
  have e1:d2 ixD (dv 0) (ret (.int 2)) [some (tK (w,g,some m))] = .ok (.int (m:Nat),[some (tK (w,g,some m))]):=qi rfl rfl (qpM w g m)
  have e2:d2 isN (d2 ixD (dv 0) (ret (.int 2))) (ret .non) [some (tK (w,g,some m))] = .ok (.bl false,[some (tK (w,g,some m))]):=qi e1 rfl rfl
  have e3:d2 gtD (d2 ixD (dv 0) (ret (.int 2))) (ret (.int 0)) [some (tK (w,g,some m))] = .ok (.bl (decide (0<m)),[some (tK (w,g,some m))]):=qi e1 rfl (gt0 m)
  exact yC rfl ⟨[some (tK (w,g,some m))],zY (orF e2 e3)⟩
theorem qcy (x:Nk) (h:vS x=true):ut [tK x,.int 1] = .ok (mD ((qjY x).2.2.map fun m:Nat=>(m:Int))):=by
 obtain ⟨w,g,m⟩:=x
 unfold ut wU
 cases m with
 | none=>exact yC rfl ⟨[some (tK (w,g,none)),some (.int 1)],rfl⟩
 | some m =>
  have hm:0<m:=of_decide_eq_true h
  have e1:d2 ixD (dv 0) (ret (.int 2)) [some (tK (w,g,some m)),some (.int 1)] = .ok (.int (m:Nat),[some (tK (w,g,some m)),some (.int 1)]):=qi rfl rfl (qpM w g m)
  have e2:tst (d2 isN (d2 ixD (dv 0) (ret (.int 2))) (ret .non)) [some (tK (w,g,some m)),some (.int 1)] = .ok (false,[some (tK (w,g,some m)),some (.int 1)]):=qY (qi e1 rfl rfl)
  have e3:qhe (.int (m:Nat)) (.int 1)=some (.int ((m-1:Nat):Int)):=by
   rw [qan]
   congr 2
   omega
  exact yC rfl ⟨[some (tK (w,g,some m)),some (.int 1)],zY (qo0 e2 (qi e1 rfl e3))⟩
theorem qcz (x:Nk) (m:Option Nat):zv [tK x,mD (m.map fun m:Nat=>(m:Int))] = .ok (tK (x.1,x.2.1,m)):=by
 unfold zv vk
 exact yC rfl ⟨[some (tK x),some (mD (m.map fun m:Nat=>(m:Int)))],zY (qqm (qi rfl rfl (tk0 x)) (qi rfl rfl (tk1 x)) rfl)⟩
theorem qir {α:Type} (xs:List α) (p:Nat) (y:α) (h:p<xs.length):xs.take p++[y]++xs.drop (p+1)=xs.set p y:=by
 rw [List.set_eq_take_append_cons_drop,if_pos h,aA_]
 rfl
theorem qcA {ks:List Nk} {p:Nat} (hp:p<ks.length) (hl:ks.length<=12) (y:Nk):ur [.tup (ks.map tK),.int (p:Nat),tK y] = .ok (.tup ((ks.set p y).map tK)):=by
 unfold ur wT
 let U:Env:=[some (.tup (ks.map tK)),some (.int (p:Nat)),some (tK y)]
 have l0:(ks.map tK).length=ks.length:=lM_ _
 have c1:qeL (ks.map tK) none (some ((p:Nat):Int))=(ks.map tK).take p:=qf0 _ p (by omega)
 have c2:qeL (ks.map tK) (some (((p+1:Nat):Int))) none=(ks.map tK).drop (p+1):=qf1 _ (p+1) (by omega)
 have a1:qhQ (dv 0) (ret none) (qbl (dv 1)) U = .ok (.tup ((ks.map tK).take p),U):=by
  rw [<- c1]
  rfl
 have a2:qhQ (dv 0) (qbl (d2 jy (dv 1) (ret (.int 1)))) (ret none) U = .ok (.tup ((ks.map tK).drop (p+1)),U):=by
  rw [<- c2]
  rfl
 have a3:qbv (qa (dv 2) (ret [])) U = .ok (.tup [tK y],U):=by
  rw [qbW,vG rfl]
  rfl
 have z1:((ks.map tK).take p).length+[tK y].length<=1000000:=by
  rw [List.length_take,l0]
  simp only [lC_,lN_]
  omega
 have z2:((ks.map tK).take p++[tK y]).length+((ks.map tK).drop (p+1)).length<=1000000:=by
  rw [lA_,List.length_take,List.length_drop,l0]
  simp only [lC_,lN_]
  omega
 have a4:=qi (qi a1 a3 (qbA z1)) a2 (qbA z2)
 rw [qir _ _ _ (by rw [l0];exact hp),<- List.map_set] at a4
 exact yC rfl ⟨U,zY a4⟩
theorem qis (i j:Int):geD (.int i) (.int j)=some (.bl (decide (j<=i))):=rfl
theorem gtN (a b:Nat):gtD (.int (a:Nat)) (.int (b:Nat))=some (.bl (!decide (a<=b))):=by
 rw [vC]
 congr 2
 rw [<- decide_not,decide_eq_decide]
 omega
theorem qcB {ks:List Nk} (hw:∀ x∈ks,0<x.1) (hg:∀ x∈ks,x.2.1<=Mx) (hl:ks.length<=12) (hp:zH ks<=Mx) {p:Nat} (hpl:p<ks.length) (R:Nat) (u:Int):vm [.tup (ks.map tK),.int (p:Nat),.int (R:Nat),.int u] = .ok (.bl (qiM ks p R u)):=by
 let x:=nAt ks p
 let A:Option D:=some (.tup (ks.map tK))
 let B:Option D:=some (.int (p:Nat))
 let C:Option D:=some (.int (R:Nat))
 let U:Option D:=some (.int u)
 have hx:=jL hpl
 unfold vm wV
 let U1:Env:=[A,B,C,U,some (tK x),none]
 have s1:jn 4 (d2 ixD (dv 0) (dv 1)) [A,B,C,U,none,none] = .ok (.nx U1):=um (qi rfl rfl (qh6 hpl))
 have t1:tst (qg yj (qa (dv 4) (ret []))) U1 = .ok (vS x,U1):=qY (vH rfl (qdv x))
 have t2:tst (d2 gtD (d2 ixD (dv 4) (ret (.int 0))) (dv 2)) U1 = .ok (!decide (x.1<=R),U1):=qY (qi (qi rfl rfl (tk0 x)) rfl (gtN _ _))
 by_cases hc:vS x=true/\x.1<=R
 ·obtain ⟨h1,h2⟩:=hc
  have tt:tor (qbL (tst (qg yj (qa (dv 4) (ret []))))) (tst (d2 gtD (d2 ixD (dv 4) (ret (.int 0))) (dv 2))) U1 = .ok (false,U1):=by
   rw [h1] at t1
   rw [decide_eq_true h2] at t2
   refine qoZ ?_ t2
   rw [qag,t1]
   rfl
  let lt:=yB ks p
  let U2:Env:=[A,B,C,U,some (tK x),some (.tup (lt.map tK))]
  have s3:jn 5 (qg ur (qa (dv 0) (qa (dv 1) (qa (qg zv (qa (dv 4) (qa (qg ut (qa (dv 4) (qa (ret (.int 1)) (ret [])))) (ret [])))) (ret []))))) U1 = .ok (.nx U2) :=
   um (qcT rfl rfl (zN rfl (zN rfl rfl (qcy x h1)) (qcz x _)) (qcA hpl hl (qjY x)))
  have hwL:∀ y∈lt,0<y.1:=qa3 (P:=fun a _=>0<a) hpl hw
  have hgL:∀ y∈lt,y.2.1<=Mx:=qa3 (P:=fun _ b=>b<=Mx) hpl hg
  have hlL:lt.length<=12:=by show (ks.set p _).length<=12;rw [lS_];exact hl
  have hpL:zH lt<=Mx:=by
   have:zH lt=zH ks:=qiq ks p _ rfl
   rw [this];exact hp
  have e4:qhe (.int (R:Nat)) (.int (x.1:Nat))=some (.int ((R-x.1:Nat):Int)):=by
   rw [qan]
   congr 2
   omega
  have s4:=qi (F:=geD) (qi (F:=jy) (qi (F:=ixD) (f:=dv 4) (g:=ret (.int 1)) (U:=U2) rfl rfl (tk1 x)) (cx2 (f:=dv 5) (U:=U2) rfl (qi (F:=qhe) (f:=dv 2) (g:=d2 ixD (dv 4) (ret (.int 0))) rfl (qi rfl rfl (tk0 x)) e4) (qbp hwL hgL hlL hpL (R-x.1))) (yP _ _)) (g:=dv 3) rfl (qis _ _)
  have em:qiM ks p R u=decide (u<=(x.2.1:Int)+(qgc lt (R-x.1):Nat)):=by
   show (vS x&&decide (x.1<=R)&&decide (u<=(x.2.1:Int)+(qgc lt (R-x.1):Nat)))=_
   rw [h1,decide_eq_true h2]
   rfl
  rw [em]
  refine yC rfl ⟨U2,?_⟩
  refine (qk s1).trans ((qk (U':=U1) (qfX tt)).trans ((qk s3).trans (zY s4)))
 ·have tt:tor (qbL (tst (qg yj (qa (dv 4) (ret []))))) (tst (d2 gtD (d2 ixD (dv 4) (ret (.int 0))) (dv 2))) U1 = .ok (true,U1):=by
   cases h1:vS x with
   | false =>
    rw [h1] at t1
    refine qq2 ?_
    rw [qag,t1]
    rfl
   | true =>
    rw [h1] at t1
    have h2:¬ x.1<=R:=fun z=>hc ⟨h1,z⟩
    rw [decide_eq_false h2] at t2
    rw [qea,qag,t1]
    exact t2
  have em:qiM ks p R u=false:=by
   show (vS x&&decide (x.1<=R)&&_)=false
   cases h1:vS x with
   | false=>rfl
   | true =>
    have h2:¬ x.1<=R:=fun z=>hc ⟨h1,z⟩
    rw [decide_eq_false h2]
    rfl
  rw [em]
  refine yC rfl ⟨U1,?_⟩
  exact (qk s1).trans (qbe (qqn tt))
theorem cp4 {F:List D->R D} {f g h k:M D} {U:Env} {a b c z d:D} (hf:f U = .ok (a,U)) (hg:g U = .ok (b,U)) (hh:h U = .ok (c,U)) (hk:k U = .ok (z,U)) (e:F [a,b,c,z] = .ok d):qg F (qa f (qa g (qa h (qa k (ret []))))) U = .ok (d,U):=by
 have a4:qa f (qa g (qa h (qa k (ret [])))) U = .ok ([a,b,c,z],U):=by
  rw [zX,hf]
  simp only [qou hg hh hk]
 rw [jt,a4]
 simp only [e]
theorem qdw {ks:List Nk} (hw:∀ x∈ks,0<x.1) (hg:∀ x∈ks,x.2.1<=Mx) (hl:ks.length<=12) (hp:zH ks<=Mx) (R:Nat) (u:Int):uU [.tup (ks.map tK),.int (R:Nat),.int u] = .ok (.lst (((List.range ks.length).filter fun p => !qiM ks p R u).map fun p=>D.int (p:Nat))):=by
 let A:Option D:=some (.tup (ks.map tK))
 let C:Option D:=some (.int (R:Nat))
 let U:Option D:=some (.int u)
 unfold uU qa0
 refine yC rfl ⟨[A,C,U],?_⟩
 refine (qk (U':=[A,C,U]) (ex1 rfl (qO _ (va hw hl)))).trans ?_
 refine (qk (U':=[A,C,U]) (ex1 rfl (jV R))).trans ?_
 refine (qk (U':=[A,C,U]) (ex1 rfl (qcm u))).trans (zY ?_)
 refine qeo (k:=fun p:Nat=>D.int (p:Nat)) (r:=[A,C,U]) (List.range ks.length) (fun p => !qiM ks p R u) (fun p=>D.int (p:Nat)) ?_ rfl (by rw [lR_];omega) (fun p hp' => ?_) (fun p _ _=>rfl)
 ·have e:qa (qW wy (qa (dv 0) (ret []))) (ret []) [A,C,U] = .ok ([.int ((ks.length:Nat):Int)],[A,C,U]):=vG (ul rfl (by
   show some (D.int ((ks.map tK).length:Nat))=_
   rw [lM_]))
  rw [yO (j:=((ks.length:Nat):Int)) e (by omega) (by omega),Int.toNat_natCast,qmN]
 ·have t:=qY (cp4 (f:=dv 1) (g:=dv 0) (h:=dv 2) (k:=dv 3) (U:=[some (D.int (p:Nat)),A,C,U]) rfl rfl rfl rfl (qcB hw hg hl hp (mR_.mp hp') R u))
  rw [qag,t]
theorem uH {n m:Int} (h0:0<m) (h1:m<1606938044258990275541962092341162602522202993782792835301376):ql [.int n] [.int m] = .ok (.int (n%m),[.int (n/m)]):=by
 unfold ql
 refine qkD (U:=[some (.lst [.int (n/m)]),some (.int m),some (.int (n/m)),some (.int (n%m))]) rfl ?_ rfl
 unfold vo
 refine (qk (U':=[some (.lst [.int n]),some (.int m),some (.int (n/m)),some (.int (n%m))]) ?_).trans ?_
 ·push_cast [at0,qh2 h0 h1,qgS,uw,qB,qgR,Option.bind_some]
 ·refine (qk (U':=[some (.lst [.int (n/m)]),some (.int m),some (.int (n/m)),some (.int (n%m))]) ?_).trans rfl
  push_cast [qq1,imm]
theorem qgd {i:Int} (h0:0<=i) (h1:i<3000000000):yI i=true:=by
 unfold yI
 rw [Bool.and_eq_true,decide_eq_true_eq,decide_eq_true_eq]
 constructor<;>omega
theorem qge (A B:Option D) (x:Int):∀ (ds:List D) (s:Int) (o o':Option D),(∀ d∈ds,∃ j:Int,d = .int j)->∃ s' o1 o2,uh (qB 4) (qQ (jn 5 (d2 qcN (d2 jy (d2 jy (d2 jX (d2 qcN (dv 2) (ret (.int 2147483647))) (ret (.int 48271))) (d2 jX (ret (.int 7919)) (dv 4))) (ret (.int 1))) (ret (.int 2147483647)))) (qQ (jn 5 (d2 qcN (d2 jX (dv 5) (dv 5)) (ret (.int 2147483629)))) (jn 3 (d2 jy (d2 jX (dv 3) (ret (.int 2147483647))) (d2 qcN (d2 jX (dv 5) (d2 jy (dv 5) (ret (.int 13)))) (ret (.int 2147483647))))))) ds [A,B,some (.int x),some (.int s),o,o'] = .ok (.nx [A,B,some (.int x),some (.int s'),o1,o2])
 | [],s,o,o',_=>⟨s,o,o',rfl⟩
 | d::ds,s,o,o',h=>by
  obtain ⟨j,rfl⟩:=h d mS_
  let p:Int:=(x%2147483647*48271+7919*j+1)%2147483647
  let q:Int:=p*p%2147483629
  have f48:yI 48271=true:=by decide
  have f79:yI 7919=true:=by decide
  have f21:yI 2147483647=true:=by decide
  have fp:yI p=true:=qgd (Int.emod_nonneg _ (by omega)) (by have:=Int.emod_lt_of_pos (x%2147483647*48271+7919*j+1) (show (0:Int)<2147483647 by omega);simp only [p];omega)
  have fq:yI q=true:=qgd (Int.emod_nonneg _ (by omega)) (by have:=Int.emod_lt_of_pos (p*p) (show (0:Int)<2147483629 by omega);simp only [q];omega)
  obtain ⟨s',o1,o2,e⟩:=qge A B x ds (s*2147483647+q*(q+13)%2147483647) (some (.int j)) (some (.int q)) fun y hy=>h y (mM_ _ hy)
  refine ⟨s',o1,o2,?_⟩
  have st:(qQ (jn 5 (d2 qcN (d2 jy (d2 jy (d2 jX (d2 qcN (dv 2) (ret (.int 2147483647))) (ret (.int 48271))) (d2 jX (ret (.int 7919)) (dv 4))) (ret (.int 1))) (ret (.int 2147483647)))) (qQ (jn 5 (d2 qcN (d2 jX (dv 5) (dv 5)) (ret (.int 2147483629)))) (jn 3 (d2 jy (d2 jX (dv 3) (ret (.int 2147483647))) (d2 qcN (d2 jX (dv 5) (d2 jy (dv 5) (ret (.int 13)))) (ret (.int 2147483647))))))) [A,B,some (.int x),some (.int s),some (.int j),o'] = .ok (.nx [A,B,some (.int x),some (.int (s*2147483647+q*(q+13)%2147483647)),some (.int j),some (.int q)]):=by
   refine (qk (U':=[A,B,some (.int x),some (.int s),some (.int j),some (.int p)]) ?_).trans ?_
   ·push_cast [v8 (j:=2147483647) (by decide),qjK f48,qh3 f79,yP,p]
   refine (qk (U':=[A,B,some (.int x),some (.int s),some (.int j),some (.int q)]) ?_).trans ?_
   ·push_cast [qh3 fp,v8 (j:=2147483629) (by decide),q]
   ·push_cast [qjK f21,yP,qh3 fq,v8 (j:=2147483647) (by decide)]
  unfold uh
  simp only [qB,List.set_cons_zero,List.set_cons_succ,st]
  exact e
theorem qoE (ns:List Int) (i:Int) (h0:0<=i):∃ n,uV [.fz ns,.int i] = .ok (.lst [.int n]):=by
 have f79:yI 7919=true:=by decide
 have s1:∃ x,(sif (tst (d2 ltD (dv 1) (qW wy (qa (dv 0) (ret []))))) (jn 2 (d2 ixD (dv 0) (dv 1))) vw) [some (.fz ns),some (.int i),some (.int (7919*i+13)),none,none,none] = .ok (.nx [some (.fz ns),some (.int i),some (.int x),none,none,none]):=by
  by_cases h:i<ns.length
  ·obtain ⟨j,rfl⟩:=Int.eq_ofNat_of_zero_le h0
   have hj:j<ns.length:=by omega
   have e:ixD (.fz ns) (.int (j:Int))=some (.int ns[j]):=by
    show (atI ns (j:Int)).map D.int=_
    rw [qcS (gG hj)];rfl
   refine ⟨ns[j],?_⟩
   push_cast [e,wy,h]
  ·refine ⟨7919*i+13,?_⟩
   push_cast [wy,h]
 obtain ⟨x,e1⟩:=s1
 have s0:(jn 2 (d2 jy (d2 jX (ret (.int 7919)) (dv 1)) (ret (.int 13)))) [some (.fz ns),some (.int i),none,none,none,none] = .ok (.nx [some (.fz ns),some (.int i),some (.int (7919*i+13)),none,none,none]):=by
  push_cast [qh3 f79,yP]
 by_cases hx:x%2=0
 ·refine ⟨x/2,?_⟩
  unfold uV wf
  refine yC rfl ⟨[some (.fz ns),some (.int i),some (.int x),none,none,none],?_⟩
  refine (qk s0).trans ((qk e1).trans (qbe ?_))
  push_cast [v8 (j:=2) (by decide),hx,qen (j:=2) (by decide) (by decide),yN (show 1<=1000000 by omega)]
 ·obtain ⟨s',o1,o2,q⟩:=qge (some (.fz ns)) (some (.int i)) x (qc6 0 16) 0 none none fun d hd=>by
   unfold qc6 at hd
   obtain ⟨k,hk,rfl⟩:=mP_.mp hd
   exact ⟨_,rfl⟩
  refine ⟨s',?_⟩
  unfold uV wf
  refine yC rfl ⟨[some (.fz ns),some (.int i),some (.int x),some (.int s'),o1,o2],?_⟩
  refine (qk s0).trans ((qk e1).trans ?_)
  refine (qk (U':=[some (.fz ns),some (.int i),some (.int x),none,none,none]) ?_).trans ?_
  ·push_cast [v8 (j:=2) (by decide),hx]
  refine (qk (U':=[some (.fz ns),some (.int i),some (.int x),some (.int 0),none,none]) ?_).trans ?_
  ·push_cast []
  refine (qk (U':=[some (.fz ns),some (.int i),some (.int x),some (.int s'),o1,o2]) ?_).trans ?_
  ·rw [uA,yO (j:=16) (U1:=[some (.fz ns),some (.int i),some (.int x),some (.int 0),none,none]) rfl (by omega) (by omega)]
   exact q
  ·push_cast [yN (show 1<=1000000 by omega)]
def lsK (x:Kd):Prop:=1<=x.1/\x.1<=9/\0<=x.2.1/\x.2.1<=9/\∀ j,x.2.2=some j->0<=j/\j<=5
theorem lsK.ok {x:Kd} (h:lsK x):okK x:=⟨by have:=h.1;omega,h.2.2.1,fun j e=>(h.2.2.2.2 j e).1⟩
theorem qmv (n:Int) (M:Option D) (ks:List Kd) (hk:∀ k∈ks,lsK k) (hl:ks.length<12) (o3 o4 o5:Option D):∃ n' k p4 p5,lsK k/\(qQ (qjn 4 5 (qa (d2 jy (ret (.int 1)) (qF ql 0 (qa (ret (.int 9)) (ret [])))) (qa (qF ql 0 (qa (ret (.int 10)) (ret []))) (ret [])))) (zK (jo 2 (qbv (qa (dv 4) (qa (dv 5) (qa (d2 ixD (qdW (qa (ret .non) (qa (ret (.int 0)) (qa (ret (.int 1)) (qa (ret (.int 1)) (qa (ret (.int 2)) (qa (ret (.int 3)) (qa (ret (.int 5)) (ret []))))))))) (qF ql 0 (qa (ret (.int 7)) (ret [])))) (ret [])))))))) [some (.lst [.int n]),M,some (.lst (ks.map kD)),o3,o4,o5] = .ok (.nx [some (.lst [.int n']),M,some (.lst ((ks++[k]).map kD)),o3,p4,p5]):=by
 let n1:=n/9
 let n2:=n1/10
 obtain ⟨m,hm,em⟩:=qos (ds:=[.non,.int 0,.int 1,.int 1,.int 2,.int 3,.int 5]) (k:=n2%7) (by omega) (by simp;omega)
 have hm2:∃ y:Option Int,m=mD y/\∀ j,y=some j->0<=j/\j<=5:=by
  simp only [List.mem_cons,nN_,or_false] at hm
  rcases hm with rfl | rfl | rfl | rfl | rfl | rfl | rfl
  ·exact ⟨none,rfl,fun j e=>by cases e⟩
  ·exact ⟨some 0,rfl,fun j e=>by cases e;omega⟩
  ·exact ⟨some 1,rfl,fun j e=>by cases e;omega⟩
  ·exact ⟨some 1,rfl,fun j e=>by cases e;omega⟩
  ·exact ⟨some 2,rfl,fun j e=>by cases e;omega⟩
  ·exact ⟨some 3,rfl,fun j e=>by cases e;omega⟩
  ·exact ⟨some 5,rfl,fun j e=>by cases e;omega⟩
 obtain ⟨y,rfl,hy⟩:=hm2
 refine ⟨n2/7,(1+n%9,n1%10,y),some (.int (1+n%9)),some (.int (n1%10)),⟨by show 1<=1+n%9;omega,by show 1+n%9<=9;omega,by show 0<=n1%10;omega,by show n1%10<=9;omega,hy⟩,?_⟩
 refine (qk (U':=[some (.lst [.int n2]),M,some (.lst (ks.map kD)),o3,some (.int (1+n%9)),some (.int (n1%10))]) ?_).trans ?_
 ·push_cast [uH (m:=9) (by decide) (by decide),uH (m:=10) (by decide) (by decide),yP,n1,n2]
 ·push_cast [yN (show 7<=1000000 by omega),uH (m:=7) (by decide) (by decide),em,yN (show 3<=1000000 by omega),imm,immL,qkO,Bool.and_self,lM_,yN (show ks.length+1<=1000000 by omega),List.map_append]
  rfl
theorem qit (M:Option D):∀ (ds:List D) (n:Int) (ks:List Kd) (o3 o4 o5:Option D),(∀ k∈ks,lsK k)->ks.length+ds.length<=12 ->
  ∃ (n':Int) (ks':List Kd) (p3 p4 p5:Option D),uh (qB 3) (qQ (qjn 4 5 (qa (d2 jy (ret (.int 1)) (qF ql 0 (qa (ret (.int 9)) (ret [])))) (qa (qF ql 0 (qa (ret (.int 10)) (ret []))) (ret [])))) (zK (jo 2 (qbv (qa (dv 4) (qa (dv 5) (qa (d2 ixD (qdW (qa (ret .non) (qa (ret (.int 0)) (qa (ret (.int 1)) (qa (ret (.int 1)) (qa (ret (.int 2)) (qa (ret (.int 3)) (qa (ret (.int 5)) (ret []))))))))) (qF ql 0 (qa (ret (.int 7)) (ret [])))) (ret [])))))))) ds [some (.lst [.int n]),M,some (.lst (ks.map kD)),o3,o4,o5] = .ok (.nx [some (.lst [.int n']),M,some (.lst (ks'.map kD)),p3,p4,p5])/\(∀ k∈ks',lsK k)/\ks'.length=ks.length+ds.length
 | [],n,ks,o3,o4,o5,h,hl=>⟨n,ks,o3,o4,o5,rfl,h,rfl⟩
 | d::ds,n,ks,o3,o4,o5,h,hl=>by
  have hl':ks.length+(ds.length+1)<=12:=hl
  obtain ⟨n1,k,p4,p5,gk,e⟩:=qmv n M ks h (by omega) (some d) o4 o5
  obtain ⟨n',ks',q3,q4,q5,q,g,l⟩:=qit M ds n1 (ks++[k]) (some d) p4 p5 (fun x hx=>(mA_.mp hx).elim (h x) fun hx=>by
   rw [ms_] at hx;subst hx;exact gk) (by rw [lA_,List.length_singleton];omega)
  refine ⟨n',ks',q3,q4,q5,?_,g,by rw [l,lA_,List.length_singleton,lC_];omega⟩
  unfold uh
  simp only [qB,List.set_cons_zero,List.set_cons_succ,e]
  exact q
theorem qez (n m:Int) (h0:0<=m) (h1:m<=12):∃ (n':Int) (ks:List Kd),(∀ k∈ks,lsK k)/\(ks.length:Int)<=m/\yA [.int n] [.int m] = .ok (.tup (ks.map kD),[.int n']):=by
 have b1:0<=n%(m+1):=Int.emod_nonneg _ (by omega)
 have b2:n%(m+1)<m+1:=Int.emod_lt_of_pos _ (by omega)
 obtain ⟨n',ks,p3,p4,p5,q,hk,hl⟩:=qit (some (.int m)) (qc6 0 (n%(m+1)).toNat) (n/(m+1)) [] none none none (fun _ h=>by cases h) (by rw [qfW];simp;omega)
 rw [qfW] at hl
 refine ⟨n',ks,hk,by rw [hl];simp;omega,?_⟩
 unfold yA
 refine qkD (U:=[some (.lst [.int n']),some (.int m),some (.lst (ks.map kD)),p3,p4,p5]) rfl ?_ rfl
 unfold uC
 refine (qk (U':=[some (.lst [.int n]),some (.int m),some (.lst []),none,none,none]) ?_).trans ?_
 ·push_cast [immL,yN (show 0<=1000000 by omega),Bool.and_self]
 refine (qk (U':=[some (.lst [.int n']),some (.int m),some (.lst (ks.map kD)),p3,p4,p5]) ?_).trans ?_
 ·rw [uA,yO (j:=n%(m+1)) (U1:=[some (.lst [.int (n/(m+1))]),some (.int m),some (.lst []),none,none,none]) ?_ b1 (by omega)]
  ·exact q
  ·push_cast [yP,uH (m:=m+1) (by omega) (by omega)]
 ·push_cast []
abbrev mxO (x:Nk):D:=mD (x.2.2.map fun m:Nat=>(m:Int))
theorem qbq {x:Nk} (h0:0<x.1) (h9:x.1<big) (r:Nat):jO [tK x,.int (r:Nat)] = .ok (.int (ofN x r:Nat)):=by
 unfold jO vd
 let U:Env:=[some (tK x),some (.int (r:Nat)),some (.int ((r/x.1:Nat):Int))]
 refine yC rfl ⟨U,?_⟩
 refine (qk (U':=U) (um (U1:=[some (tK x),some (.int (r:Nat)),none]) (qi rfl (qi rfl rfl (tk0 x)) (vJ r h0 h9)))).trans (zY ?_)
 have c1:tst (d2 isN (d2 ixD (dv 0) (ret (.int 2))) (ret .non)) U = .ok (ue (mxO x),U):=qY (qi (qi rfl rfl (tk2 x)) rfl (qfS _))
 unfold ofN
 cases e:x.2.2 with
 | none =>
  rw [show ue (mxO x)=true by unfold mxO;rw [e];rfl] at c1
  exact qpL c1 rfl
 | some m =>
  rw [show ue (mxO x)=false by unfold mxO;rw [e];rfl] at c1
  refine qo0 c1 (qoz rfl (qi rfl rfl (show ixD (tK x) (.int 2)=some (.int (m:Nat)) by rw [tk2,e];rfl)) ?_)
  rw [qjL]
  congr 2
  show (if (m:Int)<((r/x.1:Nat):Int) then (m:Int) else ((r/x.1:Nat):Int))=(((if m<r/x.1 then m else r/x.1):Nat):Int)
  by_cases c:m<r/x.1
  ·rw [if_pos c,if_pos (by omega)]
  ·rw [if_neg c,if_neg (by omega)]
theorem wC {x:Nk} (h:x.1<=Mx) {t s:Nat} (ht:t*x.1<=s):jw [tK x,.int (t:Nat),.int (s:Nat)] = .ok (.int ((s-t*x.1:Nat):Int)):=by
 unfold jw wQ
 refine yC rfl ⟨[some (tK x),some (.int (t:Nat)),some (.int (s:Nat))],zY (qi rfl (qi rfl (qi rfl rfl (tk0 x)) (vq t h)) ?_)⟩
 rw [qan]
 congr 2
 omega
def uZ (ks:List Nk) (r:Nat):List D:=(List.range (r+1)).map fun i=>D.int (qG ks i:Nat)
theorem qfh {ks:List Nk} {r i:Nat} (h:i<=r):ixD (.lst (uZ ks r)) (.int (i:Nat))=some (.int (qG ks i:Nat)):=qcS (by
 unfold uZ
 rw [gM_,List.getElem?_range (by omega)]
 rfl)
theorem uv {ks:List Nk} {x:Nk} (h:x.1<=Mx) (hg:x.2.1<=Mx) {s r t:Nat} (hs:s<=r) (ht:t*x.1<=s):zE [tK x,.int (t:Nat),.lst (uZ ks r),.int (s:Nat)] = .ok (.int ((t*x.2.1+qG ks (s-t*x.1):Nat):Int)):=by
 unfold zE vN
 exact yC rfl ⟨[some (tK x),some (.int (t:Nat)),some (.lst (uZ ks r)),some (.int (s:Nat))],zY (qi (qi rfl (qi rfl rfl (tk1 x)) (vq t hg)) (qi rfl (qcT rfl rfl rfl (wC h ht)) (qfh (by omega))) (qjQ _ _))⟩
theorem f4 {F:List D->R D} {f g h k:M D} {U:Env} {a b c z d:D} (hf:f U = .ok (a,U)) (hg:g U = .ok (b,U)) (hh:h U = .ok (c,U)) (hk:k U = .ok (z,U)) (e:F [a,b,c,z] = .ok d):qg F (qa f (qa g (qa h (qa k (ret []))))) U = .ok (d,U):=by
 rw [jt]
 simp only [zX,hf,hg,hh,hk,qbV,e]
theorem qjZ {l:List Nat} (h:l≠[]):qhO [.lst (l.map fun n=>D.int (n:Nat))]=some (.int (mxN l:Nat)):=by
 cases l with
 | nil=>exact absurd rfl h
 | cons a l =>
  have e:=qdh ((a::l).map fun n:Nat=>((n:Nat):Int))
  rw [mm_] at e
  simp only [Function.comp_def,mC_] at e
  simp only [mC_,qhO,e]
  congr 2
  refine qhM (mP_.mpr ⟨_,qfa (List.cons_ne_nil a l),rfl⟩) fun n hn => ?_
  obtain ⟨m,hm,rfl⟩:=mP_.mp (show n∈(a::l).map fun n:Nat=>((n:Nat):Int) from hn)
  have:=qga hm
  show ((m:Nat):Int)<=_
  omega
theorem qcC {ks:List Nk} {x:Nk} (h0:0<x.1) (h:x.1<=Mx) (hg:x.2.1<=Mx) {s r:Nat} (hs:s<=r) (hr:r<=200):z7 [tK x,.lst (uZ ks r),.int (s:Nat)] = .ok (.int (qG (x::ks) s:Nat)):=by
 let U:Env:=[some (tK x),some (.lst (uZ ks r)),some (.int (s:Nat))]
 have hof:ofN x s<=200:=by
  have h1:=((qcf h0).mp (Nat.le_refl (ofN x s))).1
  have:ofN x s*1<=ofN x s*x.1:=Nat.mul_le_mul_left _ h0
  omega
 unfold z7 wR
 refine yC rfl ⟨U,zY (ul (a := .lst (((List.range (ofN x s+1)).map fun t=>t*x.2.1+qG ks (s-t*x.1)).map fun n=>D.int (n:Nat))) ?_ (qjZ (by simp)))⟩
 rw [mm_]
 refine qcR (r:=[some (tK x),some (.lst (uZ ks r)),some (.int (s:Nat))]) (k:=iD) (List.range (ofN x s+1)) _ ?_ rfl (by rw [lR_];omega) fun t ht => ?_
 ·have el:d2 jy (qg jO (qa (dv 0) (qa (dv 2) (ret [])))) (ret (.int 1)) U = .ok (.int ((ofN x s+1:Nat):Int),U):=qi (zN rfl rfl (qbq h0 (Nat.lt_of_le_of_lt h qip) s)) rfl (qjQ _ 1)
  show ug _ U=_
  rw [yO (j:=((ofN x s+1:Nat):Int)) (vG el) (by omega) (by omega),Int.toNat_natCast,qmN]
  rfl
 ·exact f4 rfl rfl rfl rfl (uv h hg hs ((qcf h0).mp (by have:=mR_.mp ht;omega)).1)
theorem qiu {i:Nat} {f:M D} {U:Env} {ds:List D} {d:D} (h:zD i U=some ds) (hf:f U = .ok (d,U)) (hl:ds.length<1000000):zK (u8 i f) U = .ok (.nx (U.set i (some (.lst (d::ds))))):=by
 rw [qbZ,qhU]
 simp only [h,hf,yN (show ds.length+1<=1000000 by omega),if_true]
theorem qiv {f:M (List D)} {U:Env} {ds:List D} (h:f U = .ok (ds,U)) (hl:ds.length<=1000000):qjA f U = .ok (ds,U):=by
 unfold qjA bnd
 rw [h]
 simp only [yN hl,if_true]
 rfl
theorem qj0 {i:Nat} {U:Env} {d:D} {ds:List D} (h:zD i U=some (d::ds)):qhn i (ret (.int 0)) U = .ok (d,U):=by
 have e:atI (d::ds) 0=some d:=qcS (n:=0) rfl
 rw [qhC]
 simp only [h,qbV,e]
theorem qiw {ks:List Nk} {x:Nk} (h0:0<x.1) (h:x.1<=Mx) (hg:x.2.1<=Mx) {r:Nat} (hr:r<=200) (T:Option D) (yK:List D) (hl:yK.length<=100) :
  (zK (u8 2 (zW 1 [3,2] (some (2,2)) (ug (qa (d2 jy (dv 1) (ret (.int 1))) (ret []))) (qB 0) (ret true) (qg z7 (qa (dv 1) (qa (qhn 2 (ret (.int 0))) (qa (dv 0) (ret [])))))))) [T,nO r,some (.lst (.lst (uZ ks r)::yK)),some (tK x)] = .ok (.nx [T,nO r,some (.lst (.lst (uZ (x::ks) r) :: .lst (uZ ks r)::yK)),some (tK x)]):=by
 let U:Env:=[T,nO r,some (.lst (.lst (uZ ks r)::yK)),some (tK x)]
 have hx:ug (qa (d2 jy (dv 1) (ret (.int 1))) (ret [])) U = .ok ((List.range (r+1)).map iD,U):=by
  have e1:d2 jy (dv 1) (ret (.int 1)) U = .ok (.int ((r+1:Nat):Int),U):=qi rfl rfl (qjQ r 1)
  rw [yO (j:=((r+1:Nat):Int)) (vG e1) (by omega) (by omega),Int.toNat_natCast,qmN]
  rfl
 have c:=qoy (e:=qg z7 (qa (dv 1) (qa (qhn 2 (ret (.int 0))) (qa (dv 0) (ret []))))) (t:=ret true) (k:=iD) (r:=[some (tK x),some (.lst (.lst (uZ ks r)::yK))]) (fr:=[3,2]) (i:=2) (j:=2) (List.range (r+1)) (fun _=>true) (fun s=>D.int (qG (x::ks) s:Nat)) hx rfl (by rw [lR_];omega) (fun _ _=>rfl) (fun s hs _=>qcT rfl (qj0 rfl) rfl (qcC h0 h hg (by have:=mR_.mp hs;omega) hr)) (fun o=>rfl)
 rw [qb8] at c
 exact qiu (U:=U) rfl c (by rw [lC_];omega)
theorem qix {r:Nat} (hr:r<=200) (T:Option D):∀ (b ks:List Nk) (yK:List D) (o3:Option D),(∀ x∈b,0<x.1/\x.1<=Mx/\x.2.1<=Mx)->b.length+yK.length<=90->∃ rest' o3',uh (qB 3) (zK (u8 2 (zW 1 [3,2] (some (2,2)) (ug (qa (d2 jy (dv 1) (ret (.int 1))) (ret []))) (qB 0) (ret true) (qg z7 (qa (dv 1) (qa (qhn 2 (ret (.int 0))) (qa (dv 0) (ret [])))))))) (b.map tK) [T,nO r,some (.lst (.lst (uZ ks r)::yK)),o3] = .ok (.nx [T,nO r,some (.lst (.lst (uZ (b.reverse++ks) r)::rest')),o3'])
 | [],ks,yK,o3,_,_=>⟨yK,o3,rfl⟩
 | x::b,ks,yK,o3,h,hl=>by
  rw [lC_] at hl
  obtain ⟨h1,h2,h3⟩:=h x mS_
  obtain ⟨rest',o3',q⟩:=qix hr T b (x::ks) (.lst (uZ ks r)::yK) (some (tK x)) (fun y hy=>h y (mM_ _ hy)) (by rw [lC_];omega)
  refine ⟨rest',o3',?_⟩
  rw [mC_,vI rfl (qiw h1 h2 h3 hr T yK (by omega)),List.reverse_cons,aA_]
  exact q
theorem qgf (r:Nat) (hr:r<=200):jX (.lst [.int 0]) (.int ((r+1:Nat):Int))=some (.lst (uZ [] r)):=by
 have h1:decide (-(2 ^ 62:Int)<=((r+1:Nat):Int))=true:=decide_eq_true (by omega)
 have h2:decide (((r+1:Nat):Int)<2 ^ 62)=true:=decide_eq_true (by omega)
 have h3:qP (([.int 0]:List D).length*(((r+1:Nat):Int)).toNat)=true:=yN (by rw [Int.toNat_natCast];simp;omega)
 have hm:jX (.lst [.int 0]) (.int ((r+1:Nat):Int))=some (.lst (List.replicate (((r+1:Nat):Int)).toNat [D.int 0]).flatten):=by
  simp only [jX,h1,h2,h3,Bool.and_self,if_true]
 have fl:∀ n:Nat,(List.replicate n [D.int 0]).flatten=(List.range n).map fun _=>D.int 0:=fun n=>by
  induction n with
  | zero=>rfl
  | succ n ih =>
   rw [rS_,List.flatten_cons,ih,List.range_succ_eq_map,mC_,mm_]
   rfl
 rw [hm,Int.toNat_natCast,fl]
 rfl
theorem qaw {n:Nat} (h:n<=200):qaT [.int (n:Nat)] = .ok .non:=by
 have e:uR [some (.int (n:Nat))] = .ok (.nx [some (.int (n:Nat))]):=by
  unfold uR
  have h':¬ (200:Int)<(n:Nat):=by omega
  exact qfX (qY (qi rfl rfl (by rw [vC,decide_eq_false h'])))
 show (match uR [some (.int (n:Nat))] with | .ok (.rt d _)=>R.ok d | .ok (.nx _) => .ok .non | _ => .bad)=_
 rw [e]
section
variable {ks:List Nk} (hk:∀ x∈ks,0<x.1/\x.1<=Mx/\x.2.1<=Mx) (hl:ks.length<=12)
include hk hl
theorem qcD {r:Nat} (hr:r<=200):∃ yK,jx [.tup (ks.map tK),.int (r:Nat)] = .ok (.lst (.lst (uZ ks r)::yK)):=by
 let T:Option D:=some (.tup (ks.map tK))
 obtain ⟨yK,o3,q⟩:=qix hr T ks.reverse [] [] none (fun x hx=>hk x (List.mem_reverse.mp hx)) (by rw [List.length_reverse,lN_];omega)
 rw [List.reverse_reverse,List.append_nil] at q
 refine ⟨yK,?_⟩
 unfold jx ve
 refine yC rfl ⟨[T,nO r,some (.lst (.lst (uZ ks r)::yK)),o3],?_⟩
 refine (qk (U':=[T,nO r,some (.lst [.lst (uZ [] r)]),none]) ?_).trans ?_
 ·have a1:qdW (qa (ret (.int 0)) (ret [])) [T,nO r,none,none] = .ok (.lst [.int 0],[T,nO r,none,none]):=rfl
  have a2:=qi a1 (qi (f:=dv 1) (g:=ret (.int 1)) rfl rfl (qjQ r 1)) (qgf r hr)
  have a3:=qiv (vG a2) (by rw [lC_,lN_];omega)
  show qaK 2 _ [T,nO r,none,none]=_
  rw [qbY,a3]
  rfl
 refine (qk (U':=[T,nO r,some (.lst (.lst (uZ ks r)::yK)),o3]) ?_).trans rfl
 have a4:qmL (qa (dv 0) (ret [])) [T,nO r,some (.lst [.lst (uZ [] r)]),none] = .ok (ks.reverse.map tK,[T,nO r,some (.lst [.lst (uZ [] r)]),none]):=by
  rw [qkK,vG (a := .tup (ks.map tK)) rfl,List.map_reverse]
  rfl
 rw [uA,a4]
 exact q
theorem vT {r:Nat} (hr:r<=200):qz [.tup (ks.map tK),.int (r:Nat)] = .ok (.int (qG ks r:Nat)):=by
 let U:Env:=[some (.tup (ks.map tK)),nO r]
 obtain ⟨yK,e⟩:=qcD hk hl hr
 have na:yx [.tup (ks.map tK),.int (r:Nat)] = .ok .non:=by
  have:zF U = .ok (.nx U):=by
   unfold zF
   exact (qk (ex1 rfl (qO _ (va (fun x hx=>(hk x hx).1) hl)))).trans ((qk (ex1 rfl (jV r))).trans (ex1 rfl (qaw hr)))
  show (match zF U with | .ok (.rt d _)=>R.ok d | .ok (.nx _) => .ok .non | _ => .bad)=_
  rw [this]
 have bw:yR [.tup (ks.map tK),.int (r:Nat)] = .ok (.lst (uZ ks r)):=by
  unfold yR
  refine yC rfl ⟨U,?_⟩
  unfold vf
  exact (qk (ex1 rfl na)).trans (zY (qi (zN rfl rfl e) rfl (qcS (n:=0) rfl)))
 unfold qz
 refine yC rfl ⟨U,?_⟩
 unfold vO
 exact zY (qi (zN rfl rfl bw) rfl (qfh (Nat.le_refl r)))
end
def wl (x y:Kd):Bool:=x.2.2.isNone&&(decide (x.1<=y.1)&&decide (y.2.1<=x.2.1))
def bt (ks:List Kd) (b p:Nat):Bool:=(!decide (b=p)&&wl (kAt ks b) (kAt ks p))&&(decide (b<p) || !wl (kAt ks p) (kAt ks b))
theorem uX (x y:Kd):zx [kD x,kD y] = .ok (.bl (wl x y)):=by
 unfold zx uG
 refine yC rfl ⟨[some (kD x),some (kD y)],?_⟩
 push_cast [ql9,qma,qmb,qfY,qis]
 unfold wl
 cases x.2.2.isNone<;>cases decide (x.1<=y.1)<;>rfl
theorem qmw (i j:Nat):eqB (.int (i:Nat)) (.int (j:Nat))=some (.bl (decide (i=j))):=by
 rw [vB]
 congr 2
 rw [decide_eq_decide]
 omega
theorem qmx (i j:Nat):ltD (.int (i:Nat)) (.int (j:Nat))=some (.bl (decide (i<j))):=by
 rw [wM]
 congr 2
 rw [decide_eq_decide]
 omega
theorem qgL {ks:List Kd} {b p:Nat} (hb:b<ks.length) (hp:p<ks.length):qa1 [.tup (ks.map kD),.int (b:Nat),.int (p:Nat)] = .ok (.bl (bt ks b p)):=by
 unfold qa1 qff
 let U:Env:=[some (.tup (ks.map kD)),some (.int (b:Nat)),some (.int (p:Nat))]
 have c1:qg zx (qa (d2 ixD (dv 0) (dv 1)) (qa (d2 ixD (dv 0) (dv 2)) (ret []))) U = .ok (.bl (wl (kAt ks b) (kAt ks p)),U):=zN (qi rfl rfl (qfZ hb)) (qi rfl rfl (qfZ hp)) (uX _ _)
 have c2:qg zx (qa (d2 ixD (dv 0) (dv 2)) (qa (d2 ixD (dv 0) (dv 1)) (ret []))) U = .ok (.bl (wl (kAt ks p) (kAt ks b)),U):=zN (qi rfl rfl (qfZ hp)) (qi rfl rfl (qfZ hb)) (uX _ _)
 have c3:d2 eqB (dv 1) (dv 2) U = .ok (.bl (decide (b=p)),U):=qi rfl rfl (qmw b p)
 have c4:d2 ltD (dv 1) (dv 2) U = .ok (.bl (decide (b<p)),U):=qi rfl rfl (qmx b p)
 refine yC rfl ⟨U,?_⟩
 show qQ _ _ U=_
 unfold bt
 cases h1:decide (b=p) with
 | true =>
  rw [h1] at c3
  refine (qbe (d := .bl false) (U':=U) ?_).trans rfl
  simp only [qeb,qea,qeX,c3,uj,cond_true,vA,qbV]
 | false =>
  rw [h1] at c3
  cases h2:wl (kAt ks b) (kAt ks p) with
  | false =>
   rw [h2] at c1
   refine (qbe (d := .bl false) (U':=U) ?_).trans rfl
   simp only [qeb,qea,qag,qeX,c3,c1,uj,cond_true,cond_false,vA,qbV,Bool.not_false]
  | true =>
   rw [h2] at c1
   refine (qk (U':=U) ?_).trans ?_
   ·simp only [qeb,qea,qag,qeX,c3,c1,uj,cond_true,cond_false,qfE,Bool.not_true]
   ·simp only [vA,qjo,qhx,c4,c2,uj]
    cases decide (b<p)<;>rfl
def byL (ks:List Kd) (p:Nat):List Nat:=(List.range ks.length).filter fun b=>bt ks b p
def qbr (ks:List Kd) (acc:List (Nat×Nat)) (p:Nat):List (Nat×Nat):=match byL ks p with
 | []=>acc
 | b::_=>acc++[(p,b)]
def BP (ks:List Kd):List (Nat×Nat):=(List.range ks.length).foldl (qbr ks) []
def pD (q:Nat×Nat):D := .tup [.int (q.1:Nat),.int (q.2:Nat)]
theorem qeA (ks:List Kd) (acc:List (Nat×Nat)) (p:Nat):(qbr ks acc p).length<=acc.length+1:=by
 unfold qbr
 split
 ·omega
 ·simp
theorem qpU (b:Nat) (l:List Nat):ixD (.lst ((b::l).map fun i=>D.int (i:Nat))) (.int 0)=some (.int (b:Nat)):=at0 _ _
theorem qco (ks:List Kd) (h:∀ x∈ks,okK x) (hl:ks.length<=12):qat [.tup (ks.map kD)] = .ok (.lst ((BP ks).map pD)):=by
 unfold qat qdt
 obtain ⟨U',q,o2,o3,hlen,rfl⟩:=vF (G:=qB 2) (b:=(qQ (jn 3 (zW 1 [0,2] none (ug (qa (qW wy (qa (dv 0) (ret []))) (ret []))) (qB 0) (tst (qg qa1 (qa (dv 1) (qa (dv 0) (qa (dv 2) (ret [])))))) (dv 0))) (sif (tst (d2 neB (dv 3) (qdW (ret [])))) (zK (jo 1 (qbv (qa (dv 2) (qa (d2 ixD (dv 3) (ret (.int 0))) (ret [])))))) vw))) (k:=fun i:Nat=>D.int (i:Nat)) (step:=qbr ks) (Inv:=fun n acc U=>∃ o2 o3,acc.length<=n/\U=[some (.tup (ks.map kD)),some (.lst (acc.map pD)),o2,o3]) (List.range ks.length) 0 [] [some (.tup (ks.map kD)),some (.lst []),none,none] ⟨none,none,Nat.le_refl _,rfl⟩ (fun p hp m acc U _ hm=>by
  rintro ⟨o2,o3,hlen,rfl⟩
  have hp':=mR_.mp hp
  rw [lR_] at hm
  let U1:Env:=[some (.tup (ks.map kD)),some (.lst (acc.map pD)),some (.int (p:Nat)),o3]
  let U2:Env:=[some (.tup (ks.map kD)),some (.lst (acc.map pD)),some (.int (p:Nat)),some (.lst ((byL ks p).map fun i=>D.int (i:Nat)))]
  have e1:(jn 3 (zW 1 [0,2] none (ug (qa (qW wy (qa (dv 0) (ret []))) (ret []))) (qB 0) (tst (qg qa1 (qa (dv 1) (qa (dv 0) (qa (dv 2) (ret [])))))) (dv 0))) U1 = .ok (.nx U2):=by
   rw [qbd,qeo (r:=[some (.tup (ks.map kD)),some (.int (p:Nat))]) (k:=fun i:Nat=>D.int (i:Nat)) (List.range ks.length) (fun b=>bt ks b p) (fun i=>D.int (i:Nat)) ?_ rfl (by rw [lR_];omega) (fun b hb => ?_) (fun b _ _=>rfl)]
   ·rfl
   ·rw [yO (j:=(ks.length:Nat)) (U1:=U1) ?_ (by omega) (by omega),Int.toNat_natCast,qmN]
    show qa (qW wy (qa (dv 0) (ret []))) (ret []) U1=_
    rw [vG (ul (a := .tup (ks.map kD)) (d := .int (ks.length:Nat)) rfl (by rw [u9,lM_]))]
   ·exact qY (qot rfl rfl rfl (qgL (mR_.mp hb) hp'))
  refine ⟨U1,[some (.tup (ks.map kD)),some (.lst ((qbr ks acc p).map pD)),some (.int (p:Nat)),some (.lst ((byL ks p).map fun i=>D.int (i:Nat)))],rfl,?_,_,_,?_,rfl⟩
  ·refine (qk e1).trans ?_
   have e2:d2 neB (dv 3) (qdW (ret [])) U2 = .ok (.bl (!(byL ks p).isEmpty),U2):=qi rfl (by push_cast [yN (show 0<=1000000 by omega)]) (qmc _)
   unfold qbr
   cases eb:byL ks p with
   | nil =>
    rw [eb] at e2
    rw [qfX (qY e2)]
    simp only [qfE,U2,eb]
   | cons b l =>
    rw [eb] at e2
    rw [qqn (qY e2),qep (ds:=acc.map pD) (d:=pD (p,b)) rfl (qoY rfl (qi rfl rfl (by simp only [eb];exact qpU b l))) rfl (by rw [lM_];omega)]
    simp only [U2,eb,List.set_cons_zero,List.set_cons_succ,List.map_append,mC_,List.map_nil]
  ·have:=qeA ks acc p
   omega)
 rw [lR_,Nat.zero_add] at hlen
 unfold BP
 refine yC rfl ⟨[some (.tup (ks.map kD)),some (.lst (((List.range ks.length).foldl (qbr ks) []).map pD)),o2,o3],?_⟩
 refine (qk (U':=[some (.tup (ks.map kD)),none,none,none]) ?_).trans ?_
 ·push_cast [qO _ (qaM h hl)]
 refine (qk (U':=[some (.tup (ks.map kD)),some (.lst []),none,none]) ?_).trans ?_
 ·push_cast [immL,yN (show 0<=1000000 by omega),Bool.and_self]
 refine (qk (U':=[some (.tup (ks.map kD)),some (.lst (((List.range ks.length).foldl (qbr ks) []).map pD)),o2,o3]) ?_).trans rfl
 rw [uA,yO (j:=(ks.length:Nat)) (U1:=[some (.tup (ks.map kD)),some (.lst []),none,none]) ?_ (by omega) (by omega),Int.toNat_natCast,qmN]
 ·exact q
 ·show qa (qW wy (qa (dv 0) (ret []))) (ret []) [some (.tup (ks.map kD)),some (.lst []),none,none]=_
  rw [vG (ul (a := .tup (ks.map kD)) (d := .int (ks.length:Nat)) rfl (by rw [u9,lM_]))]
theorem qgg (ks:List Kd):∀ (l:List Nat) (acc:List (Nat×Nat)),(l.foldl (qbr ks) acc).length<=acc.length+l.length
 | [],acc=>Nat.le_refl _
 | p::l,acc=>by
  have h1:=qgg ks l (qbr ks acc p)
  have h2:=qeA ks acc p
  rw [fo_,lC_]
  omega
theorem qoF (ks:List Kd):(BP ks).length<=ks.length:=by
 have:=qgg ks (List.range ks.length) []
 rw [lR_] at this
 simpa [BP] using this
def LB (ks:List Kd):List Kd:=((List.range ks.length).filter fun i => !(BP ks).any fun q=>decide (q.1=i)).map (kAt ks)
theorem qdx (ks:List Kd) (h:∀ x∈ks,okK x) (hl:ks.length<=12):ub [.tup (ks.map kD)] = .ok (.tup ((LB ks).map kD)):=by
 unfold ub qa2
 let U1:Env:=[some (.tup (ks.map kD)),some (.lst ((BP ks).map fun q=>D.int (q.1:Nat)))]
 have hb:=qoF ks
 refine yC rfl ⟨U1,?_⟩
 refine (qk (U':=U1) ?_).trans ?_
 ·show jn 1 _ [some (.tup (ks.map kD)),none]=_
  rw [qbd,qcR (r:=[]) (k:=pD) (BP ks) (fun q=>D.int (q.1:Nat)) ?_ rfl (by omega) (fun q _=>rfl)]
  ·rfl
  ·rw [qec,vH rfl (qco ks h hl)]
   rfl
 ·rw [vA,ul (a := .lst ((LB ks).map kD)) (d := .tup ((LB ks).map kD)) ?_ rfl]
  unfold LB
  rw [mm_]
  refine qh5 (r:=[some (.lst ((BP ks).map fun q=>D.int (q.1:Nat)))]) (u:=fun i:Nat=>D.int (i:Nat)) (v:=fun i=>kD (kAt ks i)) (List.range ks.length) (fun i => !(BP ks).any fun q=>decide (q.1=i)) (fun i=>kD (kAt ks i)) ?_ rfl (by rw [lR_];omega) (fun i _ => ?_) (fun i _ _=>rfl)
  ·rw [qb3,vG (a := .tup (ks.map kD)) rfl]
   show R.ok (u7 0 (ks.map kD),U1)=_
   rw [qkP]
  ·exact qY (qi rfl rfl (qjO i (BP ks) fun q=>q.1))
def qeM (x y:Kd):Bool:=decide (x.1=y.1)&&decide (x.2.1=y.2.1)
def qbg (ks:List Kd):Bool:=ks.any fun k=>k.2.2.isNone
def toI:Option Int->Int
 | some j=>j
 | none=>0
def tog (ks:List Kd):Option Int:=if qbg ks then none else some (ks.map fun k=>toI k.2.2).sum
def qax (store acc:List Kd) (k:Kd):List Kd:=if acc.any (qeM k) then acc else acc++[(k.1,k.2.1,tog (store.filter (qeM k)))]
theorem qbh (x y:Kd):zR [kD x,kD y] = .ok (.bl (qeM x y)):=by
 unfold zR qcl
 refine yC rfl ⟨[some (kD x),some (kD y)],?_⟩
 push_cast [ql9,qma]
 unfold qeM
 cases decide (x.1=y.1)<;>rfl
theorem qiy (x:Kd) (m:Option Int):zv [kD x,mD m] = .ok (kD (x.1,x.2.1,m)):=by
 unfold zv vk
 refine yC rfl ⟨[some (kD x),some (mD m)],?_⟩
 push_cast [ql9,qma,yN (show 3<=1000000 by omega)]
 rfl
theorem qoG {ks:List Kd} (h:qbg ks=false):∀ k∈ks,mD k.2.2 = .int (toI k.2.2):=fun k hk=>by
 unfold qbg at h
 have:=List.any_eq_false.mp h k hk
 cases e:k.2.2 with
 | none=>rw [e] at this;exact absurd rfl this
 | some j=>rfl
theorem qay (ks:List Kd) (hl:ks.length<=12):zC [.lst (ks.map kD)] = .ok (mD (tog ks)):=by
 unfold zC uu
 refine yC rfl ⟨[some (.lst (ks.map kD))],?_⟩
 have e1:∀ U:Env,U=[some (.lst (ks.map kD))]->zW 1 [] none (qa9 (dv 0)) (qB 0) (ret true) (d2 isN (d2 ixD (dv 0) (ret (.int 2))) (ret .non)) U = .ok (.lst (ks.map fun k=>D.bl k.2.2.isNone),U):=fun U hρ=>by
  subst hρ
  refine qcR ks (fun k=>D.bl k.2.2.isNone) rfl rfl (by omega) fun k _ => ?_
  push_cast [qmb,qfY]
 cases ha:qbg ks with
 | true =>
  have ha':(ks.any fun k=>k.2.2.isNone)=true:=ha
  refine (qbe (d := .non) (U':=[some (.lst (ks.map kD))]) ?_).trans ?_
  ·push_cast [e1 _ rfl,qdi,ha']
  ·simp only [tog,ha,if_true];rfl
 | false =>
  have ha':(ks.any fun k=>k.2.2.isNone)=false:=ha
  refine (qk (U':=[some (.lst (ks.map kD))]) ?_).trans ?_
  ·push_cast [e1 _ rfl,qdi,ha']
  ·have e2:zW 1 [] none (qa9 (dv 0)) (qB 0) (ret true) (d2 ixD (dv 0) (ret (.int 2))) [some (.lst (ks.map kD))] = .ok (.lst (ks.map fun k=>D.int (toI k.2.2)),[some (.lst (ks.map kD))]):=by
    refine qcR ks (fun k=>D.int (toI k.2.2)) rfl rfl (by omega) fun k hk => ?_
    push_cast [qmb,qoG ha k hk]
   push_cast [e2,qjN]
   simp only [tog,ha,Bool.false_eq_true,if_false]
   rfl
theorem qbs (ks:List Kd) (h:∀ x∈ks,okK x) (hl:ks.length<=12):jU [.tup (ks.map kD)] = .ok (.tup ((ks.foldl (qax ks) []).map kD)):=by
 unfold jU vp
 obtain ⟨U',q,l,o,hi,hlen,rfl⟩:=vF (G:=qB 2) (b:=(sif (qbL (tst (qeh (qW qje (qa (zW 1 [2] none (qa9 (dv 1)) (qB 0) (ret true) (qg zR (qa (dv 1) (qa (dv 0) (ret []))))) (ret [])))))) (zK (jo 1 (qg zv (qa (dv 2) (qa (qg zC (qa (zW 1 [2] none (qa9 (dv 0)) (qB 0) (tst (qg zR (qa (dv 1) (qa (dv 0) (ret []))))) (dv 0)) (ret []))) (ret [])))))) vw)) (k:=kD) (step:=qax ks) (Inv:=fun n acc U=>∃ l o,l=acc/\acc.length<=n/\U=[some (.tup (ks.map kD)),some (.lst (l.map kD)),o]) ks 0 [] [some (.tup (ks.map kD)),some (.lst []),none] ⟨[],none,rfl,Nat.le_refl _,rfl⟩ (fun k hk m acc U _ hm=>by
  rintro ⟨l,o,rfl,hlen,rfl⟩
  have hm12:m<12:=by omega
  have e1:zW 1 [2] none (qa9 (dv 1)) (qB 0) (ret true) (qg zR (qa (dv 1) (qa (dv 0) (ret [])))) [some (.tup (ks.map kD)),some (.lst (l.map kD)),some (kD k)] = .ok (.lst (l.map fun x=>D.bl (qeM k x)),[some (.tup (ks.map kD)),some (.lst (l.map kD)),some (kD k)]):=by
   refine qcR (r:=[some (kD k)]) l (fun x=>D.bl (qeM k x)) rfl rfl (by omega) fun x _ => ?_
   push_cast [qbh]
  have e2:qeh (qW qje (qa (zW 1 [2] none (qa9 (dv 1)) (qB 0) (ret true) (qg zR (qa (dv 1) (qa (dv 0) (ret []))))) (ret []))) [some (.tup (ks.map kD)),some (.lst (l.map kD)),some (kD k)] = .ok (.bl (l.any (qeM k)),[some (.tup (ks.map kD)),some (.lst (l.map kD)),some (kD k)]):=by
   refine qpv (ul e1 qdi) rfl
  have e3:zW 1 [2] none (qa9 (dv 0)) (qB 0) (tst (qg zR (qa (dv 1) (qa (dv 0) (ret []))))) (dv 0) [some (.tup (ks.map kD)),some (.lst (l.map kD)),some (kD k)] = .ok (.lst ((ks.filter (qeM k)).map kD),[some (.tup (ks.map kD)),some (.lst (l.map kD)),some (kD k)]):=by
   refine qeo (r:=[some (kD k)]) ks (qeM k) kD rfl rfl (by omega) (fun x _ => ?_) fun x _ _=>rfl
   push_cast [qbh]
  have hfl:(ks.filter (qeM k)).length<=12:=Nat.le_trans (List.length_filter_le _ _) hl
  refine ⟨_,[some (.tup (ks.map kD)),some (.lst ((qax ks l k).map kD)),some (kD k)],rfl,?_,qax ks l k,some (kD k),rfl,?_,rfl⟩
  ·show (sif (qbL (tst (qeh (qW qje (qa (zW 1 [2] none (qa9 (dv 1)) (qB 0) (ret true) (qg zR (qa (dv 1) (qa (dv 0) (ret []))))) (ret [])))))) (zK (jo 1 (qg zv (qa (dv 2) (qa (qg zC (qa (zW 1 [2] none (qa9 (dv 0)) (qB 0) (tst (qg zR (qa (dv 1) (qa (dv 0) (ret []))))) (dv 0)) (ret []))) (ret [])))))) vw) [some (.tup (ks.map kD)),some (.lst (l.map kD)),some (kD k)]=_
   cases ha:l.any (qeM k) with
   | true =>
    rw [ha] at e2
    have ej:qax ks l k=l:=by simp only [qax,ha,if_true]
    push_cast [e2,ej]
   | false =>
    rw [ha] at e2
    have ej:qax ks l k=l++[(k.1,k.2.1,tog (ks.filter (qeM k)))]:=by simp only [qax,ha,Bool.false_eq_true,if_false]
    push_cast [e2,e3,qay _ hfl,qiy,qov,lM_,yN (show l.length+1<=1000000 by omega),Bool.and_self,ej,List.map_append]
  ·unfold qax
   split
   ·omega
   ·simp;omega)
 subst hi
 refine yC rfl ⟨[some (.tup (ks.map kD)),some (.lst ((ks.foldl (qax ks) []).map kD)),o],?_⟩
 refine (qk (U':=[some (.tup (ks.map kD)),none,none]) ?_).trans ?_
 ·push_cast [qO _ (qaM h hl)]
 refine (qk (U':=[some (.tup (ks.map kD)),some (.lst []),none]) ?_).trans ?_
 ·push_cast [immL,yN (show 0<=1000000 by omega),Bool.and_self]
 refine (qk (U':=[some (.tup (ks.map kD)),some (.lst ((ks.foldl (qax ks) []).map kD)),o]) ?_).trans ?_
 ·rw [uA]
  exact q
 ·push_cast []
theorem qiz {ks:List Nk} {i:Nat} (h:i<ks.length):kAt (ks.map nk) i=nk (nAt ks i):=by
 have h1:=qe5 (ks:=ks.map nk) (p:=i) (by rw [lM_];exact h)
 rw [gM_,vK h] at h1
 exact (Option.some.inj h1).symm
theorem qoH (x y:Nk):wl (nk x) (nk y)=true ↔ WlN x y:=by
 obtain ⟨w,g,m⟩:=x
 obtain ⟨w',g',m'⟩:=y
 unfold wl WlN nk
 simp only [Bool.and_eq_true,decide_eq_true_eq]
 cases m with
 | none =>
  show (true=true/\((w:Int)<=w'/\(g':Int)<=g)) ↔ _
  constructor
  ·intro h;exact ⟨rfl,by show w<=w';omega,by show g'<=g;omega⟩
  ·intro h
   have h1:w<=w':=h.2.1
   have h2:g'<=g:=h.2.2
   exact ⟨rfl,by omega,by omega⟩
 | some m =>
  constructor
  ·intro h;exact absurd h.1 (by simp)
  ·intro h;exact absurd h.1 (by simp)
theorem qoI {ks:List Nk} {b p:Nat} (hb:b<ks.length) (hp:p<ks.length):bt (ks.map nk) b p=true ↔ BtN ks b p:=by
 unfold bt BtN
 rw [qiz hb,qiz hp,Bool.and_eq_true,Bool.and_eq_true,Bool.or_eq_true,qoH,decide_eq_true_eq]
 have e:(!wl (nk (nAt ks p)) (nk (nAt ks b)))=true ↔ ¬ WlN (nAt ks p) (nAt ks b):=by
  rw [<- qoH]
  cases wl (nk (nAt ks p)) (nk (nAt ks b))<;>simp
 rw [e]
 have e2:(!decide (b=p))=true ↔ b≠p:=by simp
 rw [e2,and_assoc]
theorem qkX (ks:List Kd):∀ (l:List Nat) (acc:List (Nat×Nat)),(l.foldl (qbr ks) acc).map (·.1)=acc.map (·.1)++l.filter fun p => !(byL ks p).isEmpty
 | [],acc=>by simp
 | p::l,acc=>by
  rw [fo_,qkX ks l]
  unfold qbr
  cases h:byL ks p with
  | nil=>rw [List.filter_cons_of_neg (by rw [h];simp)]
  | cons b t =>
   rw [List.filter_cons_of_pos (by rw [h];rfl)]
   simp
theorem qiA (ks:List Kd):(BP ks).map (·.1)=(List.range ks.length).filter fun p => !(byL ks p).isEmpty:=by
 unfold BP
 rw [qkX]
 simp
def unb (ks:List Nk) (p:Nat):Bool:=(byL (ks.map nk) p).isEmpty
theorem qmy {ks:List Nk} {p:Nat} (hp:p<ks.length):unb ks p=true ↔ ∀ b,b<ks.length->¬ BtN ks b p:=by
 unfold unb byL
 rw [List.isEmpty_iff,List.filter_eq_nil_iff,lM_]
 constructor
 ·intro h b hb hh
  exact h b (mR_.mpr hb) ((qoI hb hp).mpr hh)
 ·intro h b hb hh
  have hb':=mR_.mp hb
  exact h b hb' ((qoI hb' hp).mp hh)
theorem qpV (ks:List Nk):(LB (ks.map nk)).map kD=(qdH ks (unb ks)).map tK:=by
 unfold LB qdH zP
 rw [lM_,mm_,mm_]
 have e:((List.range ks.length).filter fun i => !(BP (ks.map nk)).any fun q=>decide (q.1=i))=(List.range ks.length).filter (unb ks):=by
  refine List.filter_congr fun i hi => ?_
  have hm:((BP (ks.map nk)).any fun q=>decide (q.1=i)) = !unb ks i:=by
   rw [Bool.eq_iff_iff,List.any_eq_true]
   constructor
   ·rintro ⟨q,hq,e⟩
    have:q.1∈(BP (ks.map nk)).map (·.1):=mP_.mpr ⟨q,hq,rfl⟩
    rw [qiA,of_decide_eq_true e] at this
    exact (List.mem_filter.mp this).2
   ·intro h
    have:i∈(BP (ks.map nk)).map (·.1):=by
     rw [qiA,lM_]
     exact List.mem_filter.mpr ⟨hi,h⟩
    obtain ⟨q,hq,e⟩:=mP_.mp this
    exact ⟨q,hq,decide_eq_true e⟩
  rw [hm,Bool.not_not]
 rw [e]
 refine mL_ fun i hi => ?_
 have hi':=mR_.mp (List.mem_filter.mp hi).1
 show kD (kAt (ks.map nk) i)=tK (nAt ks i)
 rw [qiz hi']
 rfl
theorem qmz (ks:List Nk):(qdH ks (unb ks)).length+(BP (ks.map nk)).length=ks.length:=by
 have h1:(BP (ks.map nk)).length=((List.range ks.length).filter fun p => !unb ks p).length:=by
  have:=congrArg List.length (qiA (ks.map nk))
  rw [lM_,lM_] at this
  exact this
 unfold qdH zP
 rw [lM_,h1]
 have:=(List.filter_append_perm (unb ks) (List.range ks.length)).length_eq
 rw [lA_,lR_] at this
 exact this
theorem qkY:∀ l:List Nk,tog (l.map nk)=(qfb l).map fun m:Nat=>(m:Int)
 | []=>rfl
 | x :: l=>by
  have ih:=qkY l
  obtain ⟨w,g,m⟩:=x
  unfold tog at ih |-
  unfold qfb
  cases m with
  | none =>
   have:qbg ((w,g,(none:Option Nat))::l |>.map nk)=true:=rfl
   rw [if_pos this]
   rfl
  | some m =>
   have e1:qbg (((w,g,some m)::l).map nk)=qbg (l.map nk):=rfl
   rw [e1]
   cases c:qbg (l.map nk) with
   | true =>
    rw [c] at ih
    have ih':none=(qfb l).map fun m:Nat=>(m:Int):=ih
    cases t:qfb l with
    | none=>rfl
    | some k=>rw [t] at ih';cases ih'
   | false =>
    rw [c] at ih
    have ih':some ((l.map nk).map fun k=>toI k.2.2).sum=(qfb l).map fun m:Nat=>(m:Int):=ih
    cases t:qfb l with
    | none=>rw [t] at ih';cases ih'
    | some k =>
     rw [t] at ih'
     have e2:=Option.some.inj ih'
     show some ((((w,g,some m)::l).map nk).map fun k=>toI k.2.2).sum=some (((m+k:Nat):Int))
     rw [mC_,mC_,List.sum_cons,e2]
     congr 1
theorem qiB (x y:Nk):qeM (nk x) (nk y)=zA x y:=by
 unfold qeM zA nk
 rw [Bool.eq_iff_iff]
 simp only [Bool.and_eq_true,decide_eq_true_eq]
 constructor
 ·intro h;exact ⟨by omega,by omega⟩
 ·intro h;exact ⟨by omega,by omega⟩
theorem qj1 (S acc:List Nk) (x:Nk):qax (S.map nk) (acc.map nk) (nk x)=(jN S acc x).map nk:=by
 unfold qax jN
 have e1:(acc.map nk).any (qeM (nk x))=acc.any (zA x):=by
  rw [List.any_map]
  congr 1
  funext y
  exact qiB x y
 have e2:(S.map nk).filter (qeM (nk x))=(S.filter (zA x)).map nk:=by
  rw [List.filter_map]
  congr 1
  refine List.filter_congr fun y _=>qiB x y
 rw [e1,e2,qkY]
 split
 ·rfl
 ·rw [List.map_append]
  rfl
theorem qeB (S:List Nk):∀ (l acc:List Nk),(l.map nk).foldl (qax (S.map nk)) (acc.map nk)=(l.foldl (jN S) acc).map nk
 | [],acc=>rfl
 | x::l,acc=>by
  rw [mC_,fo_,qj1,qeB S l,fo_]
section
variable {ks:List Nk} (hw:∀ x∈ks,0<x.1) (hl:ks.length<=12)
include hw hl
theorem qiC:∀ x∈ks.map nk,okK x:=fun x hx=>by
 obtain ⟨y,hy,rfl⟩:=mP_.mp hx
 exact qmf (hw y hy)
theorem qcp:ub [.tup (ks.map tK)] = .ok (.tup ((qdH ks (unb ks)).map tK)):=by
 rw [<- qpV,qcU]
 exact qdx _ (qiC hw hl) (by rw [lM_];exact hl)
theorem qiD:jU [.tup (ks.map tK)] = .ok (.tup ((ks.foldl (jN ks) []).map tK)):=by
 rw [qcU,qcU,<- qeB ks ks []]
 exact qbs _ (qiC hw hl) (by rw [lM_];exact hl)
end
theorem wlT {t:M Bool} {b:MS} {n:Nat} {U U1 U2:Env} (h:t U = .ok (true,U1)) (hb:b U1 = .ok (.nx U2)):uE t b (n+1) U=uE t b n U2:=by
 show (match t U with | .ok (true,U1)=>_ | .ok (false,U1)=>_ | .exc x U'=>_ | .bad=>_)=_
 rw [h]
 simp only [hb]
theorem wlF {t:M Bool} {b:MS} {n:Nat} {U U1:Env} (h:t U = .ok (false,U1)):uE t b (n+1) U = .ok (.nx U1):=by
 show (match t U with | .ok (true,U1)=>_ | .ok (false,U1)=>_ | .exc x U'=>_ | .bad=>_)=_
 rw [h]
theorem ntn {t:M Bool} {U:Env} {b:Bool} (h:t U = .ok (b,U)):qbL t U = .ok (!b,U):=by rw [qag,h]
theorem qcW (ks:List Nk):wy [.tup (ks.map tK)]=some (.int ((ks.length:Nat):Int)):=by
 show some (D.int ((ks.map tK).length:Nat))=_
 rw [lM_]
theorem qgM {x:Nk} (h:0<x.1):vE (tK x)=true:=qeq (qmf h)
section
variable {ks:List Nk} (hw:∀ x∈ks,0<x.1) (hl:ks.length<=12)
include hw hl
theorem qoJ {x:Nk} (h0:0<x.1) (h:ks.length<12):qas [.tup (ks.map tK),tK x] = .ok (.tup ((ks++[x]).map tK)):=by
 let U:Env:=[some (.tup (ks.map tK)),some (tK x)]
 have c1:qbL (tst (qg uo (qa (dv 1) (ret [])))) U = .ok (false,U):=by
  have:=ntn (qY (vH (f:=dv 1) (U:=U) rfl (qbf (tK x))))
  rw [qgM h0] at this
  exact this
 have c2:tst (d2 eqB (qW wy (qa (dv 0) (ret []))) (ret (.int 12))) U = .ok (false,U):=qY (qi (ul rfl (qcW ks)) rfl (by rw [vB,decide_eq_false (by omega)]))
 have a3:qbv (qa (dv 1) (ret [])) U = .ok (.tup [tK x],U):=by
  rw [qbW,vG rfl]
  rfl
 unfold qas
 refine yC rfl ⟨U,?_⟩
 unfold qds
 refine (qk (ex1 rfl (qO _ (va hw hl)))).trans ((qk (qfX c1)).trans ((qk (qfX c2)).trans (zY (qi rfl a3 ?_))))
 rw [qbA (by rw [lM_];simp only [lC_,lN_];omega),List.map_append]
 rfl
theorem qcX {p:Nat} (hp:p<ks.length):zQ [.tup (ks.map tK),.int (p:Nat)] = .ok (.tup ((ks.eraseIdx p).map tK)):=by
 let U:Env:=[some (.tup (ks.map tK)),some (.int (p:Nat))]
 have pl:uT [.int (p:Nat),.tup (ks.map tK)] = .ok (.bl true):=by
  unfold uT qaX
  have h1:=vH (f:=dv 0) (U:=[some (.int (p:Nat)),some (.tup (ks.map tK))]) rfl (jk (.int (p:Nat)))
  rw [qkV] at h1
  exact yC rfl ⟨_,zY (qqr h1 (qi rfl (ul rfl (qcW ks)) (by rw [wM,decide_eq_true (by omega)])))⟩
 have c1:qbL (tst (qg uT (qa (dv 1) (qa (dv 0) (ret []))))) U = .ok (false,U):=ntn (qY (zN rfl rfl pl))
 have l0:(ks.map tK).length=ks.length:=lM_ _
 have k1:qeL (ks.map tK) none (some ((p:Nat):Int))=(ks.map tK).take p:=qf0 _ p (by omega)
 have k2:qeL (ks.map tK) (some (((p+1:Nat):Int))) none=(ks.map tK).drop (p+1):=qf1 _ (p+1) (by omega)
 have a1:qhQ (dv 0) (ret none) (qbl (dv 1)) U = .ok (.tup ((ks.map tK).take p),U):=by
  rw [<- k1]
  rfl
 have a2:qhQ (dv 0) (qbl (d2 jy (dv 1) (ret (.int 1)))) (ret none) U = .ok (.tup ((ks.map tK).drop (p+1)),U):=by
  rw [<- k2]
  rfl
 have z1:((ks.map tK).take p).length+((ks.map tK).drop (p+1)).length<=1000000:=by
  rw [List.length_take,List.length_drop,l0]
  omega
 have a4:=qi a1 a2 (qbA z1)
 have e:(ks.map tK).take p++(ks.map tK).drop (p+1)=(ks.eraseIdx p).map tK:=by
  rw [<- List.map_take,<- List.map_drop,<- List.map_append,<- List.eraseIdx_eq_take_drop_succ]
 rw [e] at a4
 unfold zQ
 refine yC rfl ⟨U,?_⟩
 unfold qck
 exact (qk (ex1 rfl (qO _ (va hw hl)))).trans ((qk (qfX c1)).trans (zY a4))
theorem qbi {n:Nat} (h:0<n):yU [.int (n:Nat)] = .ok .non:=by
 let U:Env:=[some (.int (n:Nat))]
 have c1:=ntn (qY (vH (f:=dv 0) (U:=U) rfl (jk (.int (n:Nat)))))
 rw [qkV] at c1
 have c2:tst (d2 eqB (dv 0) (ret (.int 0))) U = .ok (false,U):=qY (qi rfl rfl (by rw [vB,decide_eq_false (by omega)]))
 have e:jT U = .ok (.nx U):=by
  unfold jT
  exact qfX (qoZ c1 c2)
 show (match jT U with | .ok (.rt d _)=>R.ok d | .ok (.nx _) => .ok .non | _ => .bad)=_
 rw [e]
theorem qj2 {h d:Nat} (h0:0<h) (d0:0<d) (h1:h<=Mx) (d1:d<=Mx):wX [.tup (ks.map tK),.int (h:Nat),.int (d:Nat)] = .ok (.tup ((vb h d ks).map tK)):=by
 let U:Env:=[some (.tup (ks.map tK)),some (.int (h:Nat)),some (.int (d:Nat))]
 unfold wX
 refine yC rfl ⟨U,?_⟩
 unfold qfe
 refine (qk (ex1 rfl (qO _ (va hw hl)))).trans ((qk (ex1 rfl (qbi hw hl h0))).trans ((qk (ex1 rfl (qbi hw hl d0))).trans (zY (ul (a := .lst ((vb h d ks).map tK)) ?_ (qgF _)))))
 unfold vb
 rw [mm_]
 exact qcR (U:=U) (r:=[some (.int (h:Nat)),some (.int (d:Nat))]) (k:=tK) ks _ rfl rfl (by omega) fun x _=>qqm (qi (qi rfl rfl (tk0 x)) rfl (vq _ h1)) (qi (qi rfl rfl (tk1 x)) rfl (vq _ d1)) (qi rfl rfl (tk2 x))
end
def jW (r:Nat):List Nk->List D
 | []=>[.lst (uZ [] r)]
 | x::ks => .lst (uZ (x::ks) r)::jW r ks
theorem qa4 (r:Nat):∀ ks:List Nk,∃ yK,jW r ks = .lst (uZ ks r)::yK/\yK.length=ks.length
 | []=>⟨[],rfl,rfl⟩
 | x::ks=>by
  obtain ⟨yK,e,h⟩:=qa4 r ks
  exact ⟨jW r ks,rfl,by rw [e,lC_,lC_,h]⟩
theorem qdy (r:Nat):∀ (ks:List Nk) (i:Nat),i<=ks.length->(jW r ks)[i]? = some (.lst (uZ (ks.drop i) r))
 | ks,0,_=>by
  obtain ⟨yK,e,_⟩:=qa4 r ks
  rw [e]
  rfl
 | [],i+1,h=>by
  have:i+1<=0:=h
  omega
 | x::ks,i+1,h=>by
  show (jW r ks)[i]? = _
  rw [qdy r ks i (by have:i+1<=ks.length+1:=h;omega)]
  rfl
theorem qkZ {r:Nat} (hr:r<=200) (T:Option D):∀ (b ks:List Nk) (o3:Option D),(∀ x∈b,0<x.1/\x.1<=Mx/\x.2.1<=Mx)->b.length+ks.length<=90->∃ o3',uh (qB 3) (zK (u8 2 (zW 1 [3,2] (some (2,2)) (ug (qa (d2 jy (dv 1) (ret (.int 1))) (ret []))) (qB 0) (ret true) (qg z7 (qa (dv 1) (qa (qhn 2 (ret (.int 0))) (qa (dv 0) (ret [])))))))) (b.map tK) [T,nO r,some (.lst (jW r ks)),o3] = .ok (.nx [T,nO r,some (.lst (jW r (b.reverse++ks))),o3'])
 | [],ks,o3,_,_=>⟨o3,rfl⟩
 | x::b,ks,o3,h,hl=>by
  rw [lC_] at hl
  obtain ⟨h1,h2,h3⟩:=h x mS_
  obtain ⟨o3',q⟩:=qkZ hr T b (x::ks) (some (tK x)) (fun y hy=>h y (mM_ _ hy)) (by rw [lC_];omega)
  obtain ⟨yK,e,hle⟩:=qa4 r ks
  have s:=qiw (ks:=ks) h1 h2 h3 hr T yK (by omega)
  rw [<- e] at s
  refine ⟨o3',?_⟩
  rw [mC_,vI rfl s,List.reverse_cons,aA_]
  exact q
section
variable {ks:List Nk} (hk:∀ x∈ks,0<x.1/\x.1<=Mx/\x.2.1<=Mx) (hl:ks.length<=12)
include hk hl
theorem qj3 {r:Nat} (hr:r<=200):jx [.tup (ks.map tK),.int (r:Nat)] = .ok (.lst (jW r ks)):=by
 let T:Option D:=some (.tup (ks.map tK))
 obtain ⟨o3,q⟩:=qkZ hr T ks.reverse [] none (fun x hx=>hk x (List.mem_reverse.mp hx)) (by rw [List.length_reverse,lN_];omega)
 rw [List.reverse_reverse,List.append_nil] at q
 unfold jx ve
 refine yC rfl ⟨[T,nO r,some (.lst (jW r ks)),o3],?_⟩
 refine (qk (U':=[T,nO r,some (.lst (jW r [])),none]) ?_).trans ?_
 ·have a1:qdW (qa (ret (.int 0)) (ret [])) [T,nO r,none,none] = .ok (.lst [.int 0],[T,nO r,none,none]):=rfl
  have a2:=qi a1 (qi (f:=dv 1) (g:=ret (.int 1)) rfl rfl (qjQ r 1)) (qgf r hr)
  have a3:=qiv (vG a2) (by rw [lC_,lN_];omega)
  show qaK 2 _ [T,nO r,none,none]=_
  rw [qbY,a3]
  rfl
 refine (qk (U':=[T,nO r,some (.lst (jW r ks)),o3]) ?_).trans rfl
 have a4:qmL (qa (dv 0) (ret [])) [T,nO r,some (.lst (jW r [])),none] = .ok (ks.reverse.map tK,[T,nO r,some (.lst (jW r [])),none]):=by
  rw [qkK,vG (a := .tup (ks.map tK)) rfl,List.map_reverse]
  rfl
 rw [uA,a4]
 exact q
end
theorem qj4 {ks:List Nk} {x:Nk} (h0:0<x.1) (h:x.1<=Mx) (hg:x.2.1<=Mx) {s r:Nat} (hs:s<=r) {te:Nat} (he:te<=ofN x s) (hv:te*x.2.1+qG ks (s-te*x.1)=qG (x::ks) s):∀ (k t:Nat),t+k=te ->
  ∃ n t',t'<=ofN x s/\t'*x.2.1+qG ks (s-t'*x.1)=qG (x::ks) s/\uE (tst (d2 ltD (qg zE (qa (dv 0) (qa (dv 4) (qa (dv 2) (qa (dv 3) (ret [])))))) (dv 1))) (jn 4 (d2 jy (dv 4) (ret (.int 1)))) n [some (tK x),nO (qG (x::ks) s),some (.lst (uZ ks r)),nO s,nO t] = .ok (.nx [some (tK x),nO (qG (x::ks) s),some (.lst (uZ ks r)),nO s,nO t']):=by
 intro k
 induction k with
 | zero =>
  intro t e
  have:t=te:=by omega
  subst this
  have ht:=(qcf h0).mp he
  have c:tst (d2 ltD (qg zE (qa (dv 0) (qa (dv 4) (qa (dv 2) (qa (dv 3) (ret [])))))) (dv 1)) [some (tK x),nO (qG (x::ks) s),some (.lst (uZ ks r)),nO s,nO t] = .ok (false,[some (tK x),nO (qG (x::ks) s),some (.lst (uZ ks r)),nO s,nO t]):=qY (qi (f4 rfl rfl rfl rfl (uv h hg hs ht.1)) rfl (by rw [hv,wM,decide_eq_false (by omega)]))
  exact ⟨1,t,he,hv,wlF c⟩
 | succ k ih =>
  intro t e
  have hto:t<=ofN x s:=by omega
  have ht:=(qcf h0).mp hto
  have ge:=qga (l:=(List.range (ofN x s+1)).map fun t=>t*x.2.1+qG ks (s-t*x.1)) (mP_.mpr ⟨t,mR_.mpr (by omega),rfl⟩)
  have ge':t*x.2.1+qG ks (s-t*x.1)<=qG (x::ks) s:=ge
  have c:tst (d2 ltD (qg zE (qa (dv 0) (qa (dv 4) (qa (dv 2) (qa (dv 3) (ret [])))))) (dv 1)) [some (tK x),nO (qG (x::ks) s),some (.lst (uZ ks r)),nO s,nO t] = .ok (decide (t*x.2.1+qG ks (s-t*x.1)<qG (x::ks) s),[some (tK x),nO (qG (x::ks) s),some (.lst (uZ ks r)),nO s,nO t]):=qY (qi (f4 rfl rfl rfl rfl (uv h hg hs ht.1)) rfl (by
   rw [wM]
   congr 2
   apply decide_eq_decide.mpr
   omega))
  by_cases d:t*x.2.1+qG ks (s-t*x.1)<qG (x::ks) s
  ·rw [decide_eq_true d] at c
   obtain ⟨n,t',q1,q2,q3⟩:=ih (t+1) (by omega)
   refine ⟨n+1,t',q1,q2,?_⟩
   have hb:jn 4 (d2 jy (dv 4) (ret (.int 1))) [some (tK x),nO (qG (x::ks) s),some (.lst (uZ ks r)),nO s,nO t] = .ok (.nx [some (tK x),nO (qG (x::ks) s),some (.lst (uZ ks r)),nO s,nO (t+1)]):=um (qi (d := .int ((t+1:Nat):Int)) rfl rfl (qjQ t 1))
   rw [wlT c hb]
   exact q3
  ·rw [decide_eq_false d] at c
   exact ⟨1,t,hto,by omega,wlF c⟩
theorem qiE {ks:List Nk} {x:Nk} (h0:0<x.1) (h:x.1<=Mx) (hg:x.2.1<=Mx) {s r:Nat} (hs:s<=r):∃ t,t<=ofN x s/\t*x.2.1+qG ks (s-t*x.1)=qG (x::ks) s/\zn [tK x,.int (qG (x::ks) s:Nat),.lst (uZ ks r),.int (s:Nat)] = .ok (.int (t:Nat)):=by
 have hm:=qfa (l:=(List.range (ofN x s+1)).map fun t=>t*x.2.1+qG ks (s-t*x.1)) (by simp)
 obtain ⟨te,ht,e⟩:=mP_.mp hm
 have hte:te<=ofN x s:=by have:=mR_.mp ht;omega
 obtain ⟨n,t',q1,q2,q3⟩:=qj4 (ks:=ks) h0 h hg hs hte e te 0 (by omega)
 refine ⟨t',q1,q2,?_⟩
 unfold zn yG
 refine yC rfl ⟨[some (tK x),nO (qG (x::ks) s),some (.lst (uZ ks r)),nO s,nO t'],?_⟩
 exact (qk (U':=[some (tK x),nO (qG (x::ks) s),some (.lst (uZ ks r)),nO s,nO 0]) rfl).trans ((qk (qeg q3 (by intro h;cases h))).trans rfl)
theorem qiF {ks:List Nk} (hk:∀ x∈ks,0<x.1/\x.1<=Mx/\x.2.1<=Mx) {r:Nat} (T:Option D):∀ (l:List Nk) (p s:Nat) (xs0:List Nat) (o5 o6 o7:Option D),ks.drop p=l->p<=ks.length->s<=r->xs0.length+l.length<=12 ->
  ∃ xs:List Nat,xs.length=l.length/\okY l (fun i=>xs.getD i 0)/\wY l (fun i=>xs.getD i 0)<=s/\gY l (fun i=>xs.getD i 0)=qG l s/\∃ p4 p5 p6 p7,uh (qgS 2 (uw (qB 5) (uw (qB 6) qgR))) (qQ (jn 7 (qg zn (qa (dv 6) (qa (d2 ixD (d2 ixD (dv 2) (dv 5)) (dv 4)) (qa (d2 ixD (dv 2) (d2 jy (dv 5) (ret (.int 1)))) (qa (dv 4) (ret []))))))) (qQ (zK (jo 3 (dv 7))) (jn 4 (qg jw (qa (dv 6) (qa (dv 7) (qa (dv 4) (ret [])))))))) (u7 p (l.map tK)) [T,nO r,some (.lst (jW r ks)),some (.lst (xs0.map iD)),nO s,o5,o6,o7] = .ok (.nx [T,nO r,some (.lst (jW r ks)),some (.lst ((xs0++xs).map iD)),p4,p5,p6,p7])
 | [],p,s,xs0,o5,o6,o7,_,_,_,_=>⟨[],rfl,fun p hp=>absurd hp (Nat.not_lt_zero _),Nat.zero_le _,rfl,nO s,o5,o6,o7,by rw [List.append_nil];rfl⟩
 | x :: l,p,s,xs0,o5,o6,o7,hd,hp,hs,h12=>by
  rw [lC_] at h12
  have hpl:p<ks.length:=by
   refine Nat.lt_of_not_le fun h => ?_
   rw [List.drop_eq_nil_iff.mpr h] at hd
   cases hd
  have hd':=hd
  rw [List.drop_eq_getElem_cons hpl] at hd'
  have hxm:x∈ks:=by rw [<- (List.cons.inj hd').1];exact List.getElem_mem hpl
  have hd2:ks.drop (p+1)=l:=(List.cons.inj hd').2
  obtain ⟨h1,h2,h3⟩:=hk x hxm
  obtain ⟨t,t1,t2,t3⟩:=qiE (ks:=l) h1 h2 h3 hs
  have tw:=(qcf h1).mp t1
  obtain ⟨xs,q1,q2,q3,q4,p4,p5,p6,p7,q5⟩:=qiF (r:=r) hk T l (p+1) (s-t*x.1) (xs0++[t]) (nO p) (some (tK x)) (nO t) hd2 (by omega) (by omega) (by rw [lA_,List.length_singleton];omega)
  let U:Env:=[T,nO r,some (.lst (jW r ks)),some (.lst (xs0.map iD)),nO s,nO p,some (tK x),o7]
  let U2:Env:=[T,nO r,some (.lst (jW r ks)),some (.lst (xs0.map iD)),nO s,nO p,some (tK x),nO t]
  let U3:Env:=[T,nO r,some (.lst (jW r ks)),some (.lst ((xs0++[t]).map iD)),nO s,nO p,some (tK x),nO t]
  have r1:ixD (.lst (jW r ks)) (.int (p:Nat))=some (.lst (uZ (x::l) r)):=qcS (by rw [qdy r ks p (by omega),hd])
  have r2:ixD (.lst (jW r ks)) (.int ((p+1:Nat):Int))=some (.lst (uZ l r)):=qcS (by rw [qdy r ks (p+1) (by omega),hd2])
  have st:(qQ (jn 7 (qg zn (qa (dv 6) (qa (d2 ixD (d2 ixD (dv 2) (dv 5)) (dv 4)) (qa (d2 ixD (dv 2) (d2 jy (dv 5) (ret (.int 1)))) (qa (dv 4) (ret []))))))) (qQ (zK (jo 3 (dv 7))) (jn 4 (qg jw (qa (dv 6) (qa (dv 7) (qa (dv 4) (ret [])))))))) U = .ok (.nx [T,nO r,some (.lst (jW r ks)),some (.lst ((xs0++[t]).map iD)),nO (s-t*x.1),nO p,some (tK x),nO t]):=by
   refine (qk (U':=U2) (um (U1:=U) (f4 rfl (qi (qi rfl rfl r1) rfl (qfh hs)) (qi rfl (qi rfl rfl (qjQ p 1)) r2) rfl t3))).trans ?_
   refine (qk (U':=U3) ?_).trans (um (U1:=U3) (qcT rfl rfl rfl (wC h2 tw.1)))
   have:=qep (i:=3) (f:=dv 7) (ds:=xs0.map iD) (U:=U2) (d := .int (t:Nat)) rfl rfl rfl (by rw [lM_];omega)
   rw [this]
   show R.ok (Fl.nx [T,nO r,some (.lst (jW r ks)),some (.lst (xs0.map iD++[.int (t:Nat)])),nO s,nO p,some (tK x),nO t])=_
   have e:xs0.map iD++[.int (t:Nat)]=(xs0++[t]).map iD:=by
    rw [List.map_append]
    rfl
   rw [e]
  refine ⟨t::xs,by rw [lC_,lC_,q1],jM.mpr ⟨fun m em=>tw.2 m em,q2⟩,?_,?_,p4,p5,p6,p7,?_⟩
  ·rw [j6]
   show x.1*t+wY l (fun i=>xs.getD i 0)<=s
   have:=tw.1
   rw [Nat.mul_comm x.1]
   omega
  ·rw [j7]
   show x.2.1*t+gY l (fun i=>xs.getD i 0)=_
   rw [q4,Nat.mul_comm]
   exact t2
  ·show uh _ _ (D.tup [.int (p:Nat),tK x]::u7 (p+1) (l.map tK)) _=_
   rw [vI (U1:=U) rfl st,q5,aA_]
   rfl
theorem qeC {ks:List Nk} (hk:∀ x∈ks,0<x.1/\x.1<=Mx/\x.2.1<=Mx) (hl:ks.length<=12) {r:Nat} (hr:r<=200):∃ xs:List Nat,xs.length=ks.length/\okY ks (fun i=>xs.getD i 0)/\wY ks (fun i=>xs.getD i 0)<=r/\gY ks (fun i=>xs.getD i 0)=qG ks r/\vn [.tup (ks.map tK),.int (r:Nat)] = .ok (.tup (xs.map iD)):=by
 let T:Option D:=some (.tup (ks.map tK))
 obtain ⟨xs,q1,q2,q3,q4,p4,p5,p6,p7,q5⟩:=qiF hk (r:=r) T ks 0 r [] none none none rfl (Nat.zero_le _) (Nat.le_refl _) (by rw [lN_];omega)
 refine ⟨xs,q1,q2,q3,q4,?_⟩
 have na:yx [.tup (ks.map tK),.int (r:Nat)] = .ok .non:=by
  let U:Env:=[some (.tup (ks.map tK)),nO r]
  have:zF U = .ok (.nx U):=by
   unfold zF
   exact (qk (ex1 rfl (qO _ (va (fun x hx=>(hk x hx).1) hl)))).trans ((qk (ex1 rfl (jV r))).trans (ex1 rfl (qaw hr)))
  show (match zF U with | .ok (.rt d _)=>R.ok d | .ok (.nx _) => .ok .non | _ => .bad)=_
  rw [this]
 unfold vn wW
 refine yC rfl ⟨[T,nO r,some (.lst (jW r ks)),some (.lst (xs.map iD)),p4,p5,p6,p7],?_⟩
 refine (qk (U':=[T,nO r,none,none,none,none,none,none]) (ex1 rfl na)).trans ?_
 refine (qk (U':=[T,nO r,some (.lst (jW r ks)),none,none,none,none,none]) (um (U1:=[T,nO r,none,none,none,none,none,none]) (zN rfl rfl (qj3 hk hl hr)))).trans ?_
 refine (qk (U':=[T,nO r,some (.lst (jW r ks)),some (.lst []),none,none,none,none]) rfl).trans ?_
 refine (qk (U':=[T,nO r,some (.lst (jW r ks)),some (.lst []),nO r,none,none,none]) rfl).trans ?_
 refine (qk (U':=[T,nO r,some (.lst (jW r ks)),some (.lst (xs.map iD)),p4,p5,p6,p7]) ?_).trans rfl
 have en:qee (qa (dv 0) (ret [])) [T,nO r,some (.lst (jW r ks)),some (.lst []),nO r,none,none,none] = .ok (u7 0 (ks.map tK),[T,nO r,some (.lst (jW r ks)),some (.lst []),nO r,none,none,none]):=by
  rw [qb3,vG (a := .tup (ks.map tK)) rfl]
  rfl
 rw [uA,en]
 exact q5
abbrev En:=List Nat×Nat×Nat
structure okE (ks:List Nk) (r i:Nat) (e:En):Prop where
 len:e.1.length=i
 mo:∀ p,p<i->∀ m,(nAt ks p).2.2=some m->e.1.getD p 0<=m
 we:e.2.1=jY i fun p=>(nAt ks p).1*e.1.getD p 0
 ge:e.2.2=jY i fun p=>(nAt ks p).2.1*e.1.getD p 0
 fit:e.2.1<=r
theorem qiG {ks:List Nk} {p q:Nat} {y:Nk} (hp:p<ks.length):nAt (ks.set p y) q=if q=p then y else nAt ks q:=by
 unfold nAt
 by_cases c:q=p
 ·subst c
  rw [if_pos rfl]
  simp [List.getD,hp]
 ·rw [if_neg c]
  have:p≠q:=fun h=>c h.symm
  simp [List.getD,List.getElem?_set,this]
theorem qoK {ks:List Nk} (hw:∀ x∈ks,0<x.1) {r q:Nat} {u:Int} (hq:q<ks.length) (h:qiM ks q r u=false) {e:En} (he:okE ks r ks.length e) (hx:0<e.1.getD q 0):(e.2.2:Int)<u:=by
 let y:Nat->Nat:=fun p=>if p=q then e.1.getD q 0-1 else e.1.getD p 0
 have yq:y q=e.1.getD q 0-1:=if_pos rfl
 have yn:∀ p,p≠q->y p=e.1.getD p 0:=fun p hp=>if_neg hp
 have hl:(yB ks q).length=ks.length:=lS_
 have nq:nAt (yB ks q) q=qjY (nAt ks q):=by unfold yB;rw [qiG hq,if_pos rfl]
 have nn:∀ p,p≠q->nAt (yB ks q) p=nAt ks p:=fun p hp=>by unfold yB;rw [qiG hq,if_neg hp]
 have hwl:∀ x∈yB ks q,0<x.1:=qa3 (P:=fun a _=>0<a) hq hw
 have hy:okY (yB ks q) y:=fun p hp m em=>by
  rw [hl] at hp
  by_cases c:p=q
  ·subst c
   rw [nq] at em
   obtain ⟨m0,e0,e1⟩:=Option.map_eq_some_iff.mp (show (nAt ks p).2.2.map (·-1)=some m from em)
   have:=he.mo p hp m0 e0
   rw [yq]
   omega
  ·rw [yn p c]
   rw [nn p c] at em
   exact he.mo p hp m em
 have hW:jY ks.length (fun p=>(nAt ks p).1*e.1.getD p 0)=wY (yB ks q) y+(nAt ks q).1:=by
  unfold wY
  rw [hl]
  refine (qar (p:=q) ?_ (fun p hp => ?_) ks.length).1 hq
  ·rw [nq,yq]
   show _=(nAt ks q).1*_+_
   obtain ⟨z,hz⟩:∃ z,e.1.getD q 0=z+1:=⟨e.1.getD q 0-1,by omega⟩
   rw [hz,Nat.add_sub_cancel,Nat.mul_add,Nat.mul_one]
  ·rw [nn p hp,yn p hp]
 have hG:jY ks.length (fun p=>(nAt ks p).2.1*e.1.getD p 0)=gY (yB ks q) y+(nAt ks q).2.1:=by
  unfold gY
  rw [hl]
  refine (qar (p:=q) ?_ (fun p hp => ?_) ks.length).1 hq
  ·rw [nq,yq]
   show _=(nAt ks q).2.1*_+_
   obtain ⟨z,hz⟩:∃ z,e.1.getD q 0=z+1:=⟨e.1.getD q 0-1,by omega⟩
   rw [hz,Nat.add_sub_cancel,Nat.mul_add,Nat.mul_one]
  ·rw [nn p hp,yn p hp]
 have f1:=he.fit
 rw [he.we,hW] at f1
 rw [he.ge,hG]
 have hb:gY (yB ks q) y<=qgc (yB ks q) (r-(nAt ks q).1):=by
  have:=qq3 hwl hy (r:=r-(nAt ks q).1) (by omega)
  have hpos:0<(swN (yB ks q) (r-(nAt ks q).1)).2:=by
   obtain ⟨a1,a2⟩:=qia ((yB ks q).zip (shs (yB ks q) (r-(nAt ks q).1))) (0,1) (qh9 hwl _) Nat.one_pos
   exact a1
  exact (Nat.le_div_iff_mul_le hpos).mpr this
 have ht:vS (nAt ks q)=true:=by
  unfold vS
  cases em:(nAt ks q).2.2 with
  | none=>rfl
  | some m =>
   have:=he.mo q hq m em
   exact decide_eq_true (by omega)
 unfold qiM at h
 rw [ht,decide_eq_true (show (nAt ks q).1<=r by omega),Bool.true_and,Bool.true_and] at h
 have:=of_decide_eq_false h
 omega
theorem qeD:∀ ks:List Kd,(∀ k∈ks,lsK k)->∃ ns:List Nk,ks.map kD=ns.map tK/\ns.length=ks.length/\∀ x∈ns,0<x.1/\x.1<=9/\x.2.1<=9
 | [],_=>⟨[],rfl,rfl,fun x hx=>by cases hx⟩
 | k :: ks,h=>by
  obtain ⟨ns,e1,e2,e3⟩:=qeD ks fun x hx=>h x (mM_ _ hx)
  obtain ⟨w,g,m⟩:=k
  obtain ⟨h1,h2,h3,h4,h5⟩:=h (w,g,m) mS_
  have h1:1<=w:=h1
  have h2:w<=9:=h2
  have h3:0<=g:=h3
  have h4:g<=9:=h4
  refine ⟨(w.toNat,g.toNat,m.map Int.toNat)::ns,?_,by rw [lC_,lC_,e2],fun x hx => ?_⟩
  ·rw [mC_,mC_,e1]
   congr 1
   show D.tup [.int w,.int g,mD m]=D.tup [.int (w.toNat:Nat),.int (g.toNat:Nat),mD ((m.map Int.toNat).map fun m:Nat=>(m:Int))]
   have a1:((w.toNat:Nat):Int)=w:=Int.toNat_of_nonneg (by omega)
   have a2:((g.toNat:Nat):Int)=g:=Int.toNat_of_nonneg (by omega)
   rw [a1,a2]
   cases m with
   | none=>rfl
   | some j =>
    have a3:((j.toNat:Nat):Int)=j:=Int.toNat_of_nonneg (h5 j rfl).1
    show D.tup [.int w,.int g,.int j]=D.tup [.int w,.int g,.int (j.toNat:Nat)]
    rw [a3]
  ·rcases List.mem_cons.mp hx with rfl | hx
   ·exact ⟨by show 0<w.toNat;omega,by show w.toNat<=9;omega,by show g.toNat<=9;omega⟩
   ·exact e3 x hx
theorem qiH:∀ (ks:List Nk) (n:Nat),(∀ x∈ks,x.1<=9)->ks.length<=n->zH ks<=9 ^ n
 | [],n,_,_=>Nat.one_le_pow n 9 (by decide)
 | x::ks,n,h,hl=>by
  rw [lC_] at hl
  obtain ⟨m,rfl⟩:∃ m,n=m+1:=⟨n-1,by omega⟩
  rw [zS,Nat.pow_succ,Nat.mul_comm]
  exact Nat.mul_le_mul (qiH ks m (fun y hy=>h y (mM_ _ hy)) (by omega)) (h x mS_)
theorem qgh {b:MS} {ns:List Int} (hb:∀ (i:Int) (r:Env),0<=i->r.length=9->∃ r',r'.length=9/\b ([some (.fz ns),some (.int i)]++r) = .ok (.nx ([some (.fz ns),some (.int i)]++r'))):∀ (ds:List D) (o1:Option D) (r:Env),r.length=9->(∀ d∈ds,∃ i:Int,d = .int i/\0<=i)->∃ U,uh (qB 1) b ds ([some (.fz ns),o1]++r) = .ok (.nx U)
 | [],o1,r,_,_=>⟨_,rfl⟩
 | d::ds,o1,r,hr,h=>by
  obtain ⟨i,rfl,h0⟩:=h d mS_
  obtain ⟨r',hr',e⟩:=hb i r h0 hr
  obtain ⟨U,q⟩:=qgh hb ds (some (.int i)) r' hr' fun y hy=>h y (mM_ _ hy)
  exact ⟨U,(vI rfl e).trans q⟩
theorem qmA {b:MS} {ns:List Int} (hn:ns.length<=63) (hb:∀ (i:Int) (r:Env),0<=i->r.length=9->∃ r',r'.length=9/\b ([some (.fz ns),some (.int i)]++r) = .ok (.nx ([some (.fz ns),some (.int i)]++r'))) :
  dfn 11 1 (qQ (qeT (ug (qa (qW qi6 (qa (ret (.int 1)) (qa (qW qgr (qa (qW wy (qa (dv 0) (ret []))) (qa (ret (.int 3)) (ret [])))) (ret [])))) (ret []))) (qB 1) b) (jm (ret (.bl true)))) [.fz ns] = .ok (.bl true):=by
 let j:Int:=if (if (3:Int)<(ns.length:Int) then (3:Int) else (ns.length:Int))>1 then (if (3:Int)<(ns.length:Int) then (3:Int) else (ns.length:Int)) else 1
 have hj0:0<=j:=by simp only [j];split<;>split<;>omega
 have hj1:j<=6:=by simp only [j];split<;>split<;>omega
 obtain ⟨U,q⟩:=qgh hb (qc6 0 j.toNat) none [none,none,none,none,none,none,none,none,none] rfl fun d hd=>by
  unfold qc6 at hd
  obtain ⟨k,hk,rfl⟩:=mP_.mp hd
  exact ⟨_,rfl,by omega⟩
 refine yC rfl ⟨U,(qk (U':=U) ?_).trans rfl⟩
 rw [uA,yO (j:=j) (U1:=[some (.fz ns),none,none,none,none,none,none,none,none,none,none]) rfl hj0 (by omega)]
 exact q
theorem qj5 (ks:List Nk):neB (.tup (ks.map tK)) (.tup (ks.map tK))=some (.bl false):=by
 have one:∀ x:Nk,PyData.canLay0 (yJ (tK x))=true/\PyData.depth (yJ (tK x))=1/\PyData.eqv (yJ (tK x)) (yJ (tK x))=true:=fun x=>by
  obtain ⟨w,g,m⟩:=x
  cases m with
  | none=>exact ⟨rfl,rfl,by simp [tK,nk,kD,mD,yJ,toPDs,PyData.eqv,PyData.eqvAll]⟩
  | some m=>exact ⟨rfl,rfl,by simp [tK,nk,kD,mD,yJ,toPDs,PyData.eqv,PyData.eqvAll]⟩
 have h:∀ l:List Nk,PyData.canLayAll0 (toPDs (l.map tK))=true/\PyData.depthAll (toPDs (l.map tK))<=1/\PyData.eqvAll (toPDs (l.map tK)) (toPDs (l.map tK))=true:=fun l=>by
  induction l with
  | nil=>exact ⟨rfl,by decide,rfl⟩
  | cons x l ih =>
   obtain ⟨o1,o2,o3⟩:=one x
   refine ⟨?_,?_,?_⟩
   ·simp only [mC_,toPDs,PyData.canLayAll0,o1,Bool.true_and];exact ih.1
   ·have:=ih.2.1
    simp only [mC_,toPDs,PyData.depthAll,o2]
    omega
   ·simp only [mC_,toPDs,PyData.eqvAll,o3,Bool.true_and];exact ih.2.2
 obtain ⟨h1,h2,h3⟩:=h ks
 have o1:qby (.tup (ks.map tK))=true:=by
  simp only [qby,yJ,PyData.canLay0,PyData.depth,h1,Bool.true_and,decide_eq_true_eq]
  omega
 have e:neB (.tup (ks.map tK)) (.tup (ks.map tK))=neA (.tup (ks.map tK)) (.tup (ks.map tK)):=rfl
 rw [e]
 unfold neA
 rw [o1]
 show some (D.bl (!PyData.eqv (.tuple (toPDs (ks.map tK))) (.tuple (toPDs (ks.map tK)))))=_
 simp only [PyData.eqv,h3]
 rfl
theorem ne_int (n:Nat):neB (.int (n:Nat)) (.int (n:Nat))=some (.bl false):=by
 rw [qb6,decide_eq_true rfl]
 rfl
theorem qoL {S:List Nk}:∀ (l acc:List Nk),(∀ x∈l++acc,0<x.1/\x.1<=9/\x.2.1<=9)->(∀ x∈l.foldl (jN S) acc,0<x.1/\x.1<=9/\x.2.1<=9)/\(l.foldl (jN S) acc).length<=acc.length+l.length
 | [],acc,h=>⟨h,by simp⟩
 | x :: l,acc,h=>by
  rw [fo_]
  have hx:=h x (by simp)
  have ha:∀ y∈l++jN S acc x,0<y.1/\y.1<=9/\y.2.1<=9:=fun y hy=>by
   rcases mA_.mp hy with hy | hy
   ·exact h y (by simp [hy])
   ·unfold jN at hy
    split at hy
    ·exact h y (by simp [hy])
    ·rcases mA_.mp hy with hy | hy
     ·exact h y (by simp [hy])
     ·rw [ms_] at hy
      subst hy
      exact hx
  have hlen:(jN S acc x).length<=acc.length+1:=by
   unfold jN
   split
   ·omega
   ·simp
  obtain ⟨a,b⟩:=qoL l (jN S acc x) ha
  exact ⟨a,by rw [lC_];omega⟩
section
variable {ks:List Nk} (hk:∀ x∈ks,0<x.1/\x.1<=9/\x.2.1<=9) (hl:ks.length<=12)
include hk hl
theorem bw {r:Nat} (hr:r<=200):qz [.tup (ks.map tK),.int (r:Nat)] = .ok (.int (qG ks r:Nat)):=vT (fun x hx=>⟨(hk x hx).1,Nat.le_trans (hk x hx).2.1 (by decide),Nat.le_trans (hk x hx).2.2 (by decide)⟩) hl hr
end
theorem qoM {F:List D->R D} {f g:M D} {U U1 U2:Env} {a b d:D} (hf:f U = .ok (a,U1)) (hg:g U1 = .ok (b,U2)) (e:F [a,b] = .ok d):qg F (qa f (qa g (ret []))) U = .ok (d,U2):=by
 rw [jt,zX,hf]
 simp only [zX,hg,qbV,e]
theorem qqt {F:D->D->Option D} {f g:M D} {U U1 U2:Env} {a b d:D} (hf:f U = .ok (a,U1)) (hg:g U1 = .ok (b,U2)) (e:F a b=some d):d2 F f g U = .ok (d,U2):=by
 rw [qoU,hf]
 simp only [hg,e]
theorem ifM {f:M D} {p:MS} {U U1:Env} (h:f U = .ok (.bl false,U1)):sif (tst f) p vw U = .ok (.nx U1):=by
 rw [qeb,qeX,h]
 rfl
theorem qmB {ks:List Nk} {n4:Int} {h d R e b:Nat} (gr:wX [.tup (ks.map tK),.int (h:Nat),.int (d:Nat)] = .ok (.tup ((vb h d ks).map tK))) (bwG:qz [.tup ((vb h d ks).map tK),.int ((R*h+e:Nat):Int)] = .ok (.int ((b*d:Nat):Int))) (h0:0<h) (h5:h<=5) (d9:d<=9) (ee:n4%(h:Int)=(e:Int)) (A I o8 o9 o10:Option D) :
  (sif (tst (d2 neB (qg qz (qa (qg wX (qa (dv 3) (qa (dv 6) (qa (dv 7) (ret []))))) (qa (d2 jy (d2 jX (dv 4) (dv 6)) (qF ql 2 (qa (dv 6) (ret [])))) (ret [])))) (d2 jX (dv 5) (dv 7)))) (jm (ret (.bl false))) vw) [A,I,some (.lst [.int n4]),some (.tup (ks.map tK)),nO R,nO b,nO h,nO d,o8,o9,o10] = .ok (.nx [A,I,some (.lst [.int (n4/(h:Int))]),some (.tup (ks.map tK)),nO R,nO b,nO h,nO d,o8,o9,o10]):=by
 let U3:Env:=[A,I,some (.lst [.int n4]),some (.tup (ks.map tK)),nO R,nO b,nO h,nO d,o8,o9,o10]
 let U4:Env:=[A,I,some (.lst [.int (n4/(h:Int))]),some (.tup (ks.map tK)),nO R,nO b,nO h,nO d,o8,o9,o10]
 have hM:h<=18000000000000000000:=Nat.le_trans h5 (by decide)
 have dM:d<=18000000000000000000:=Nat.le_trans d9 (by decide)
 have v3:dv 3 U3 = .ok (.tup (ks.map tK),U3):=rfl
 have v6:dv 6 U3 = .ok (.int (h:Nat),U3):=rfl
 have v7:dv 7 U3 = .ok (.int (d:Nat),U3):=rfl
 have v4:dv 4 U3 = .ok (.int (R:Nat),U3):=rfl
 have w5:dv 5 U4 = .ok (.int (b:Nat),U4):=rfl
 have w7:dv 7 U4 = .ok (.int (d:Nat),U4):=rfl
 have g1:qg wX (qa (dv 3) (qa (dv 6) (qa (dv 7) (ret [])))) U3 = .ok (.tup ((vb h d ks).map tK),U3):=qcT v3 v6 v7 gr
 have tm:d2 jX (dv 4) (dv 6) U3 = .ok (.int ((R*h:Nat):Int),U3):=qi v4 v6 (vq R hM)
 have hb:(h:Int)<1606938044258990275541962092341162602522202993782792835301376:=by omega
 have tk:qF ql 2 (qa (dv 6) (ret [])) U3 = .ok (.int (e:Nat),U4):=by
  have:=io1 (i:=2) (a := .int (h:Nat)) (f:=dv 6) (U:=U3) rfl rfl (uH (n:=n4) (m:=(h:Int)) (by omega) hb)
  rw [ee] at this
  exact this
 have t3:d2 jy (d2 jX (dv 4) (dv 6)) (qF ql 2 (qa (dv 6) (ret []))) U3 = .ok (.int ((R*h+e:Nat):Int),U4):=qqt tm tk (qjQ (R*h) e)
 exact ifM (qqt (qoM g1 t3 bwG) (qi w5 w7 (vq b dM)) (ne_int (b*d)))
theorem law_true (ns:List Int) (hn:ns.length<=63):qfg [.fz ns] = .ok (.bl true):=by
 unfold qfg qmo
 refine qmA hn fun i r h0 hr => ?_
 match r,hr with
 | [o2,o3,o4,o5,o6,o7,o8,o9,o10],_ =>
  obtain ⟨n,eb⟩:=qoE ns i h0
  obtain ⟨n1,kd,hkd,hkl,e1⟩:=qez n 6 (by omega) (by omega)
  obtain ⟨ks,z1,z2,hk⟩:=qeD kd hkd
  have hl6:ks.length<=6:=by omega
  have hl:ks.length<=12:=by omega
  rw [z1] at e1
  have hw:∀ x∈ks,0<x.1:=fun x hx=>(hk x hx).1
  have hkM:∀ x∈ks,0<x.1/\x.1<=Mx/\x.2.1<=Mx:=fun x hx=>⟨(hk x hx).1,Nat.le_trans (hk x hx).2.1 (by decide),Nat.le_trans (hk x hx).2.2 (by decide)⟩
  have hp:zH ks<=Mx:=Nat.le_trans (qiH ks 6 (fun x hx=>(hk x hx).2.1) hl6) (by decide)
  let A:Option D:=some (.fz ns)
  let I:Option D:=some (.int i)
  let T:Option D:=some (.tup (ks.map tK))
  let n2:=n1/31
  obtain ⟨R,hR,eR⟩:∃ R:Nat,R<=30/\n1%31=(R:Int):=⟨(n1%31).toNat,by omega,by omega⟩
  let n3:=n2/5
  let n4:=n3/9
  obtain ⟨h,h0',h5,eh⟩:∃ h:Nat,0<h/\h<=5/\1+n2%5=(h:Int):=⟨(1+n2%5).toNat,by omega,by omega,by omega⟩
  obtain ⟨d,d0,d9,ed⟩:∃ d:Nat,0<d/\d<=9/\1+n3%9=(d:Int):=⟨(1+n3%9).toNat,by omega,by omega,by omega⟩
  let n5:=n4/(h:Int)
  have hhp:(0:Int)<h:=by omega
  have ehm0:0<=n4%(h:Int):=Int.emod_nonneg _ (by omega)
  have ehm1:n4%(h:Int)<h:=Int.emod_lt_of_pos _ hhp
  obtain ⟨e,he,ee⟩:∃ e:Nat,e<h/\n4%(h:Int)=(e:Int):=⟨(n4%(h:Int)).toNat,by omega,by omega⟩
  let n6:=n5/9
  let n7:=n6/9
  obtain ⟨a,a0,a9,ea⟩:∃ a:Nat,0<a/\a<=9/\1+n5%9=(a:Int):=⟨(1+n5%9).toNat,by omega,by omega,by omega⟩
  obtain ⟨c,c9,ec⟩:∃ c:Nat,c<=9/\n6%9=(c:Int):=⟨(n6%9).toNat,by omega,by omega⟩
  let b:=qG ks R
  let B2:Option D:=some (.lst [.int n2])
  let B4:Option D:=some (.lst [.int n4])
  let B5:Option D:=some (.lst [.int n5])
  let B7:Option D:=some (.lst [.int n7])
  let x:Nk:=(a,c,some 1)
  obtain ⟨xs,x1,x2,x3,x4,x5⟩:=qeC hkM hl (r:=R) (by omega)
  let M:Option D:=some (.tup ((ks++[x]).map tK))
  let L:Option D:=some (.tup (xs.map iD))
  have hle:ks.length<=11:=by omega
  have hx1:∀ z∈ks++[x],0<z.1/\z.1<=9/\z.2.1<=9:=fun z hz=>by
   rcases mA_.mp hz with hz | hz
   ·exact hk z hz
   ·rw [ms_] at hz
    subst hz
    exact ⟨a0,a9,c9⟩
  have hxl:(ks++[x]).length<=12:=by rw [lA_,List.length_singleton];omega
  have bwS:=bw hk hl (r:=R) (by omega)
  have hU:∀ z∈qdH ks (unb ks),0<z.1/\z.1<=9/\z.2.1<=9:=fun z hz=>by
   obtain ⟨p,hp',rfl⟩:=mP_.mp hz
   exact hk _ (jL (mR_.mp (List.mem_filter.mp hp').1))
  have lenU:=qmz ks
  have bwU:=bw hU (by omega) (r:=R) (by omega)
  rw [qdr hw (fun p hp'=>qmy hp') R] at bwU
  obtain ⟨hJ,hJl⟩:=qoL (S:=ks) ks [] (fun z hz=>hk z (by simpa using hz))
  rw [lN_,Nat.zero_add] at hJl
  have bwJ:=bw hJ (by omega) (r:=R) (by omega)
  rw [qfc hw R] at bwJ
  have hG:∀ z∈vb h d ks,0<z.1/\z.1<=Mx/\z.2.1<=Mx:=fun z hz=>by
   obtain ⟨y,hy,rfl⟩:=mP_.mp hz
   obtain ⟨k1,k2,k3⟩:=hk y hy
   have m1:y.1*h<=9*5:=Nat.mul_le_mul k2 h5
   have m2:y.2.1*d<=9*9:=Nat.mul_le_mul k3 d9
   have mM:100<=Mx:=by decide
   exact ⟨Nat.mul_pos k1 h0',by show y.1*h<=Mx;omega,by show y.2.1*d<=Mx;omega⟩
  have hRh:R*h<=30*5:=Nat.mul_le_mul hR h5
  have bwG:=vT hG (by show (vb h d ks).length<=12;unfold vb;rw [lM_];exact hl) (r:=R*h+e) (by omega)
  rw [qgJ hw h0' he] at bwG
  have gr:=qj2 hw hl (h:=h) (d:=d) h0' d0 (Nat.le_trans h5 (by decide)) (Nat.le_trans d9 (by decide))
  have pt:=qoJ hw hl (x:=x) a0 (by omega)
  have bwM:=bw hx1 hxl (r:=R) (by omega)
  have er:(ks++[x]).eraseIdx ks.length=ks:=by rw [List.eraseIdx_append_of_length_le (Nat.le_refl _)];simp
  have wo:=qcX (ks:=ks++[x]) (fun z hz=>(hx1 z hz).1) hxl (p:=ks.length) (by rw [lA_,List.length_singleton];omega)
  rw [er] at wo
  have more:b<=qG (ks++[x]) R:=by
   have:=qch (ks:=ks++[x]) (fun z hz=>(hx1 z hz).1) (q:=ks.length) (by rw [lA_,List.length_singleton];omega) R
   rw [er] at this
   exact this
  have wp:∀ p,p<ks.length->zQ [.tup (ks.map tK),.int (p:Nat)] = .ok (.tup ((ks.eraseIdx p).map tK)):=fun p hp'=>qcX hw hl hp'
  have bwP:∀ p,p<ks.length->qz [.tup ((ks.eraseIdx p).map tK),.int (R:Nat)] = .ok (.int (qG (ks.eraseIdx p) R:Nat)):=fun p hp'=>bw (fun z hz=>hk z (List.mem_of_mem_eraseIdx hz)) (by rw [qcg hp'];omega) (by omega)
  have nv:=qdw hw (fun z hz=>(hkM z hz).2.2) hl hp R (b:Nat)
  let U1:Env:=[A,I,B2,T,nO R,o5,o6,o7,o8,o9,o10]
  let U2:Env:=[A,I,B2,T,nO R,nO b,o6,o7,o8,o9,o10]
  let U3:Env:=[A,I,B4,T,nO R,nO b,nO h,nO d,o8,o9,o10]
  let U4:Env:=[A,I,B5,T,nO R,nO b,nO h,nO d,o8,o9,o10]
  let U5:Env:=[A,I,B7,T,nO R,nO b,nO h,nO d,M,o9,o10]
  let U6:Env:=[A,I,B7,T,nO R,nO b,nO h,nO d,M,L,o10]
  have step:∀ z∈(List.range ks.length).map iD,(qQ (sif (tst (d2 gtD (qg qz (qa (qg zQ (qa (dv 3) (qa (dv 10) (ret [])))) (qa (dv 4) (ret [])))) (dv 5))) (jm (ret (.bl false))) vw) (sif (qki (tst (d2 eqB (d2 ixD (dv 9) (dv 10)) (ret (.int 0)))) (tst (d2 neB (qg qz (qa (qg zQ (qa (dv 3) (qa (dv 10) (ret [])))) (qa (dv 4) (ret [])))) (dv 5)))) (jm (ret (.bl false))) vw)) (U6.set 10 (some z)) = .ok (.nx (U6.set 10 (some z))):=fun z hz=>by
   obtain ⟨p,hp',rfl⟩:=mP_.mp hz
   have hp2:=mR_.mp hp'
   let U:Env:=[A,I,B7,T,nO R,nO b,nO h,nO d,M,L,some (iD p)]
   have k1:qg qz (qa (qg zQ (qa (dv 3) (qa (dv 10) (ret [])))) (qa (dv 4) (ret []))) U = .ok (.int (qG (ks.eraseIdx p) R:Nat),U):=zN (zN rfl rfl (wp p hp2)) rfl (bwP p hp2)
   have k2:tst (d2 eqB (d2 ixD (dv 9) (dv 10)) (ret (.int 0))) U = .ok (decide (xs.getD p 0=0),U):=qY (qi (qi rfl rfl (qfV (d:=iD (xs.getD p 0)) (by
    have hx:p<xs.length:=by rw [x1];exact hp2
    rw [gM_,gG hx]
    simp [List.getD,hx]))) rfl (by
    show eqB (.int ((xs.getD p 0:Nat):Int)) (.int 0)=_
    rw [vB]
    congr 2
    apply decide_eq_decide.mpr
    omega))
   refine (qk (U':=U) (qfX (qY (qi k1 rfl (by rw [vC,decide_eq_false (by have:=qch hw hp2 R;omega)]))))).trans ?_
   by_cases c0:xs.getD p 0=0
   ·rw [decide_eq_true c0] at k2
    have sm:=qii hw hp2 x2 x3 x4 c0
    rw [sm] at k1
    exact qfX (qpH k2 (qY (qi k1 rfl (ne_int _))))
   ·rw [decide_eq_false c0] at k2
    exact qfX (qpG k2)
  obtain ⟨p10,e10⟩:=qes (b:=(qQ (sif (tst (d2 gtD (qg qz (qa (qg zQ (qa (dv 3) (qa (dv 10) (ret [])))) (qa (dv 4) (ret [])))) (dv 5))) (jm (ret (.bl false))) vw) (sif (qki (tst (d2 eqB (d2 ixD (dv 9) (dv 10)) (ret (.int 0)))) (tst (d2 neB (qg qz (qa (qg zQ (qa (dv 3) (qa (dv 10) (ret [])))) (qa (dv 4) (ret [])))) (dv 5)))) (jm (ret (.bl false))) vw))) (i:=10) (U:=U6) (by show 10<11;omega) ((List.range ks.length).map iD) o10 step
  refine ⟨[B7,T,nO R,nO b,nO h,nO d,M,L,p10],rfl,?_⟩
  show qQ _ _ [A,I,o2,o3,o4,o5,o6,o7,o8,o9,o10]=_
  refine (qk (U':=[A,I,some (.lst [.int n]),o3,o4,o5,o6,o7,o8,o9,o10]) ?_).trans ?_
  ·push_cast [A,I,eb,immFs,immF,immL,imm,Bool.and_self]
  refine (qk (U':=U1) ?_).trans ?_
  ·have t1:qF yA 2 (qa (ret (.int 6)) (ret [])) [A,I,some (.lst [.int n]),o3,o4,o5,o6,o7,o8,o9,o10] = .ok (.tup (ks.map tK),[A,I,some (.lst [.int n1]),o3,o4,o5,o6,o7,o8,o9,o10]):=by
    push_cast [e1]
   have t2:qF ql 2 (qa (ret (.int 31)) (ret [])) [A,I,some (.lst [.int n1]),o3,o4,o5,o6,o7,o8,o9,o10] = .ok (.int (R:Nat),[A,I,B2,o3,o4,o5,o6,o7,o8,o9,o10]):=by
    push_cast [uH (m:=31) (by decide) (by decide)]
    rw [eR]
   exact qqo t1 t2
  refine (qk (U':=U2) (um (U1:=U1) (zN rfl rfl bwS))).trans ?_
  refine (qk (U':=U2) (qfX (qoZ (qY (qi (zN (vH rfl (qcp hw hl)) rfl bwU) rfl (ne_int _))) (qY (qi (zN (vH rfl (qiD hw hl)) rfl bwJ) rfl (ne_int _)))))).trans ?_
  refine (qk (U':=U2) (qfX (qY (qi (ul (vH rfl (qcp hw hl)) (qcW _)) (qi (ul rfl (qcW ks)) (ul (a := .lst ((BP (ks.map nk)).map pD)) (vH rfl (by
   have:=qco (ks.map nk) (qiC hw hl) (by rw [lM_];exact hl)
   rw [<- qcU] at this
   exact this)) (d := .int ((BP (ks.map nk)).length:Nat)) (by
    show some (D.int (((BP (ks.map nk)).map pD).length:Nat))=_
    rw [lM_])) (qan _ _)) (by
    rw [qb6,decide_eq_true (by omega)]
    rfl))))).trans ?_
  refine (qk (U':=U3) ?_).trans ?_
  ·have t1:d2 jy (ret (.int 1)) (qF ql 2 (qa (ret (.int 5)) (ret []))) U2 = .ok (.int (h:Nat),[A,I,some (.lst [.int n3]),T,nO R,nO b,o6,o7,o8,o9,o10]):=by
    push_cast [U2,B2,uH (m:=5) (by decide) (by decide),yP]
    rw [eh]
   have t2:d2 jy (ret (.int 1)) (qF ql 2 (qa (ret (.int 9)) (ret []))) [A,I,some (.lst [.int n3]),T,nO R,nO b,o6,o7,o8,o9,o10] = .ok (.int (d:Nat),[A,I,B4,T,nO R,nO b,o6,o7,o8,o9,o10]):=by
    push_cast [uH (m:=9) (by decide) (by decide),yP]
    rw [ed]
   exact qqo t1 t2
  refine (qk (U':=U4) ?_).trans ?_
  ·exact qmB gr bwG h0' h5 d9 ee A I o8 o9 o10
  refine (qk (U':=U5) ?_).trans ?_
  ·have t1:d2 jy (ret (.int 1)) (qF ql 2 (qa (ret (.int 9)) (ret []))) U4 = .ok (.int (a:Nat),[A,I,some (.lst [.int n6]),T,nO R,nO b,nO h,nO d,o8,o9,o10]):=by
    push_cast [U4,B5,uH (m:=9) (by decide) (by decide),yP]
    rw [ea]
   have t2:qF ql 2 (qa (ret (.int 9)) (ret [])) [A,I,some (.lst [.int n6]),T,nO R,nO b,nO h,nO d,o8,o9,o10] = .ok (.int (c:Nat),[A,I,B7,T,nO R,nO b,nO h,nO d,o8,o9,o10]):=by
    push_cast [uH (m:=9) (by decide) (by decide)]
    rw [ec]
   have t3:qbv (qa (d2 jy (ret (.int 1)) (qF ql 2 (qa (ret (.int 9)) (ret [])))) (qa (qF ql 2 (qa (ret (.int 9)) (ret []))) (qa (ret (.int 1)) (ret [])))) U4 = .ok (tK x,[A,I,B7,T,nO R,nO b,nO h,nO d,o8,o9,o10]):=by
    rw [qbW]
    simp only [zX,t1,t2,qbV,yN (show 3<=1000000 by omega),lC_,lN_,Nat.reduceAdd,if_true]
    rfl
   have c3:qg qas (qa (dv 3) (qa (qbv (qa (d2 jy (ret (.int 1)) (qF ql 2 (qa (ret (.int 9)) (ret [])))) (qa (qF ql 2 (qa (ret (.int 9)) (ret []))) (qa (ret (.int 1)) (ret []))))) (ret []))) U4 = .ok (.tup ((ks++[x]).map tK),[A,I,B7,T,nO R,nO b,nO h,nO d,o8,o9,o10]):=by
    have v3:dv 3 U4 = .ok (.tup (ks.map tK),U4):=rfl
    rw [jt]
    simp only [zX,v3,t3,qbV,pt]
   exact um c3
  refine (qk (U':=U5) (qfX (qoZ (qY (qi (zN rfl rfl bwM) rfl (by rw [wM,decide_eq_false (by omega)]))) (qY (qi (zN rfl (ul rfl (qcW ks)) wo) rfl (qj5 ks)))))).trans ?_
  refine (qk (U':=U6) (um (U1:=U5) (zN rfl rfl x5))).trans ?_
  refine (qk (U':=U6) ?_).trans ?_
  ·have fe:(((List.range ks.length).filter fun p => !qiM ks p R (b:Nat)).filter fun q=>decide (0<xs.getD q 0))=[]:=by
    rw [List.filter_eq_nil_iff]
    intro q hq hh
    obtain ⟨q1,q2⟩:=List.mem_filter.mp hq
    have q1:=mR_.mp q1
    have ok:okE ks R ks.length (xs,wY ks (fun i=>xs.getD i 0),gY ks (fun i=>xs.getD i 0)):=⟨x1,x2,rfl,rfl,x3⟩
    have:=qoK hw q1 (by simpa using q2) ok (of_decide_eq_true hh)
    have x4':gY ks (fun i=>xs.getD i 0)=b:=x4
    rw [show (xs,wY ks (fun i=>xs.getD i 0),gY ks (fun i=>xs.getD i 0)).2.2=b from x4'] at this
    omega
   have cc:=qeo (U:=U6) (fr:=[9]) (r:=[L]) (xs:=qa9 (qg uU (qa (dv 3) (qa (dv 4) (qa (dv 5) (ret [])))))) (t:=tst (d2 gtD (d2 ixD (dv 1) (dv 0)) (ret (.int 0)))) (e:=dv 0) (k:=iD) ((List.range ks.length).filter fun p => !qiM ks p R (b:Nat)) (fun q=>decide (0<xs.getD q 0)) iD (by
    rw [qec,qcT (f:=dv 3) (g:=dv 4) (h:=dv 5) (U:=U6) rfl rfl rfl nv]
    rfl) rfl (by
    have:=List.length_filter_le (fun p => !qiM ks p R (b:Nat)) (List.range ks.length)
    rw [lR_] at this
    omega) (fun q hq=>qY (qi (qi rfl rfl (qfV (d:=iD (xs.getD q 0)) (by
     have hx:q<xs.length:=by rw [x1];exact mR_.mp (List.mem_filter.mp hq).1
     rw [gM_,gG hx]
     simp [List.getD,hx]))) rfl (gt0 _))) (fun _ _ _=>rfl)
   rw [fe] at cc
   exact qfX (qY (qi cc rfl rfl))
  ·have el:ug (qa (qW wy (qa (dv 3) (ret []))) (ret [])) U6 = .ok ((List.range ks.length).map iD,U6):=by
    have e3:qW wy (qa (dv 3) (ret [])) U6 = .ok (.int ((ks.length:Nat):Int),U6):=ul rfl (qcW ks)
    rw [yO (j:=((ks.length:Nat):Int)) (vG e3) (by omega) (by omega),Int.toNat_natCast,qmN]
    rfl
   rw [uA,el]
   exact e10
section
variable {P:Program} {w:World} {K:PySem.W.Frag} {mg:Str->Option Value} {base:Heap}
variable {f:Addr} {fd:FuncData}
set_option maxHeartbeats 4000000
theorem wD:qp ["kind","room","alone"] ["kind","room"] (qe jb):=⟨rfl,rfl,rfl,by decide +kernel,rfl,by decide +kernel,by decide +kernel⟩
section
variable (P:Program) (w:World) (K:Fr0) (mg:Str->Option Value) (base:Heap)
abbrev Q0:Prop:=qC P w K mg base 1 "most_within" ["kind","room"] (spD K jO)
abbrev Q1:Prop:=qC P w K mg base 1 "room_left" ["kind","times","room"] (spD K jw)
abbrev Q2:Prop:=qC P w K mg base 2 "worth_with" ["kind","times","row","room"] (spD K zE)
abbrev Q3:Prop:=qC P w K mg base 3 "best_with" ["kind","row","room"] (spD K z7)
abbrev Q4:Prop:=qC P w K mg base 4 "best_rows" ["store","room"] (spD K jx)
abbrev Q5:Prop:=qC P w K mg base 1 "need_few" ["number"] (spD K qaT)
abbrev Q6:Prop:=qC P w K mg base 1 "is_whole" ["thing"] (spD K uS)
abbrev Q7:Prop:=qC P w K mg base 2 "is_count" ["thing"] (spD K ji)
abbrev Q8:Prop:=qC P w K mg base 3 "need_count" ["thing"] (spD K yu)
abbrev Q9:Prop:=qC P w K mg base 3 "is_kind" ["thing"] (spD K uo)
abbrev Q10:Prop:=qC P w K mg base 4 "is_store" ["thing"] (spD K wd)
abbrev Q11:Prop:=qC P w K mg base 5 "need_store" ["thing"] (spD K qZ)
abbrev Q12:Prop:=qC P w K mg base 6 "need_asked" ["store","number"] (spD K yx)
abbrev Q13:Prop:=qC P w K mg base 7 "best_worths" ["store","room"] (spD K yR)
abbrev Q14:Prop:=qC P w K mg base 8 "best_worth" ["store","room"] (spD K qz)
abbrev Q15:Prop:=qC P w K mg base 3 "is_place" ["thing","store"] (spD K uT)
abbrev Q16:Prop:=qC P w K mg base 6 "without" ["store","place"] (spD K zQ)
abbrev Q17:Prop:=qC P w K mg base 1 "weights_product" ["store"] (spD K jj)
abbrev Q18:Prop:=qC P w K mg base 2 "dearest_first" ["store"] (spD K z8)
abbrev Q19:Prop:=qC P w K mg base 1 "all_go_in" ["kind","room"] (spD K uq)
abbrev Q20:Prop:=qC P w K mg base 2 "room_behind" ["kind","room"] (spD K jQ)
abbrev Q21:Prop:=qC P w K mg base 1 "greatest_divisor" ["one","other"] (spD K zZ)
abbrev Q22:Prop:=qC P w K mg base 2 "lowest_terms" ["top","bottom"] (spD K jq)
abbrev Q23:Prop:=qC P w K mg base 3 "best_share" ["kind","room"] (spD K yy)
abbrev Q24:Prop:=qC P w K mg base 6 "best_shares" ["store","room"] (spD K jS)
abbrev Q25:Prop:=qC P w K mg base 3 "added" ["one","other"] (spD K qaY)
abbrev Q26:Prop:=qC P w K mg base 7 "share_worth" ["store","room"] (spD K yS)
abbrev Q27:Prop:=qC P w K mg base 8 "whole_bound" ["store","room"] (spD K yT)
abbrev Q28:Prop:=qC P w K mg base 1 "with_kind" ["store","place","kind"] (spD K ur)
abbrev Q29:Prop:=qC P w K mg base 1 "with_most" ["kind","most"] (spD K zv)
abbrev Q30:Prop:=qC P w K mg base 1 "most_left" ["kind","times"] (spD K ut)
abbrev Q31:Prop:=qC P w K mg base 1 "is_there" ["kind"] (spD K yj)
abbrev Q32:Prop:=qC P w K mg base 9 "may_be_in" ["store","place","room","u"] (spD K vm)
abbrev Q33:Prop:=qC P w K mg base 2 "need_whole" ["thing"] (spD K vQ)
abbrev Q34:Prop:=qC P w K mg base 10 "never_in" ["store","room","u"] (spD K uU)
abbrev Q35:Prop:=qC P w K mg base 3 "fewest_of_best" ["kind","best","row","room"] (spD K zn)
abbrev Q36:Prop:=qC P w K mg base 7 "best_load" ["store","room"] (spD K vn)
abbrev Q37:Prop:=qC P w K mg base 6 "put_to" ["store","kind"] (spD K qas)
abbrev Q38:Prop:=qC P w K mg base 1 "_law_take" ["box","many"] (qkr K ql)
abbrev Q39:Prop:=qC P w K mg base 3 "need_growth" ["thing"] (spD K yU)
abbrev Q40:Prop:=qC P w K mg base 6 "grown" ["store","weight","worth"] (spD K wX)
abbrev Q41:Prop:=qC P w K mg base 1 "does_as_well" ["one","other"] (spD K zx)
abbrev Q42:Prop:=qC P w K mg base 2 "beats" ["store","by","place"] (spD K qa1)
abbrev Q43:Prop:=qC P w K mg base 6 "beaten" ["store"] (spD K qat)
abbrev Q44:Prop:=qC P w K mg base 7 "unbeaten" ["store"] (spD K ub)
abbrev Q45:Prop:=qC P w K mg base 1 "is_like" ["one","other"] (spD K zR)
abbrev Q46:Prop:=qC P w K mg base 1 "most_together" ["kinds"] (spD K zC)
abbrev Q47:Prop:=qC P w K mg base 6 "like_joined" ["store"] (spD K jU)
abbrev Q48:Prop:=qC P w K mg base 2 "_law_store" ["box","most"] (qkr K yA)
abbrev Q49:Prop:=qC P w K mg base 1 "_law_box" ["script","k"] (spD K uV)
end
theorem q0 (F:Fun K "most_within" "most_within" jb f fd) (m:mg "most_within"=some (.ref f)) (T:Txt K mg):Q0 P w K mg base:=by
 refine ⟨f,fd,?_,m,F.kp,F.binds fun _ _ _ _ _ _ us hl=>match us,hl with | [_,_],_=>rfl⟩
 exact qw (N:=["kind","room","alone"]) (O:=[]) (body:=vd) F wD (by decide) fun cdv A outer s H E B hr=>(qh (ze (i:=2) wD.nd (qx qaB vY (qc 1) (qE qr qq (qc 0) (gI T.c_WEIGHT))))
   (qj (qA (qi2 (zy qcJ qaF (qE qr qq (qc 0) (gI T.c_MOST)) wn (qJ _)) (qc 2) (qM (qdL rfl) qd2 rfl T.b_min qkv (qd (qc 2) (qd (qE qr qq (qc 0) (gI T.c_MOST)) qf)))))))
theorem qeE:qp ["kind","times","room"] ["kind","times","room"] (qe j8):=⟨rfl,rfl,rfl,by decide +kernel,rfl,by decide +kernel,by decide +kernel⟩
theorem q1 (F:Fun K "room_left" "room_left" j8 f fd) (m:mg "room_left"=some (.ref f)) (T:Txt K mg):Q1 P w K mg base:=by
 refine ⟨f,fd,?_,m,F.kp,F.binds fun _ _ _ _ _ _ us hl=>match us,hl with | [_,_,_],_=>rfl⟩
 exact qw (N:=["kind","times","room"]) (O:=[]) (body:=wQ) F qeE (by decide) fun cdv A outer s H E B hr=>(qj (qA (qx qdJ qbO (qc 2) (qx zu qR (qc 1) (qE qr qq (qc 0) (gI T.c_WEIGHT))))))
theorem qdz:qp ["kind","times","row","room"] ["kind","times","row","room"] (qe jz):=⟨rfl,rfl,rfl,by decide +kernel,rfl,by decide +kernel,by decide +kernel⟩
theorem q2 (F:Fun K "worth_with" "worth_with" jz f fd) (m:mg "worth_with"=some (.ref f)) (T:Txt K mg) (C_room_left:Q1 P w K mg base):Q2 P w K mg base:=by
 refine ⟨f,fd,?_,m,F.kp,F.binds fun _ _ _ _ _ _ us hl=>match us,hl with | [_,_,_,_],_=>rfl⟩
 exact qw (N:=["kind","times","row","room"]) (O:=[]) (body:=vN) F qdz (by decide) fun cdv A outer s H E B hr=>(qj (qA (qx qU qV (qx zu qR (qc 1) (qE qr qq (qc 0) (gI T.c_WORTH))) (qE qr qq (qc 2) (dC C_room_left hr (qd (qc 0) (qd (qc 1) (qd (qc 3) qf))))))))
theorem qeF:qp ["kind","row","room"] ["kind","row","room"] (qe ju):=⟨rfl,rfl,rfl,by decide +kernel,rfl,by decide +kernel,by decide +kernel⟩
theorem q3 (F:Fun K "best_with" "best_with" ju f fd) (m:mg "best_with"=some (.ref f)) (T:Txt K mg) (C_most_within:Q0 P w K mg base) (C_worth_with:Q2 P w K mg base):Q3 P w K mg base:=by
 refine ⟨f,fd,?_,m,F.kp,F.binds fun _ _ _ _ _ _ us hl=>match us,hl with | [_,_,_],_=>rfl⟩
 exact qw (N:=["kind","row","room"]) (O:=[]) (body:=wR) F qeF (by decide) fun cdv A outer s H E B hr=>(qj (qA (qM (qhN rfl) qgw rfl T.b_max qku (qd (yE (fo:=none) rfl (jJ rfl T.b_range (qd (qx qU qV (dC C_most_within hr (qd (qc 0) (qd (qc 2) qf))) qv) qf)) (cs ["kind","row","room"] ["times","kind","row","room"] 1 [0,1,2] (qe ju)) (f0 [0,1,2] []) (fun _ _ _ _ _ _ _ _ _ _ _=>⟨(qL (i:=0) (nd ["times","kind","row","room"])),qba,(dC C_worth_with hr (qd (qc 1) (qd (qc 0) (qd (qc 2) (qd (qc 3) qf)))))⟩)) qf))))
theorem vU:qp ["store","room","rows","kind"] ["store","room"] (qe jv):=⟨rfl,rfl,rfl,by decide +kernel,rfl,by decide +kernel,by decide +kernel⟩
theorem q4 (F:Fun K "best_rows" "best_rows" jv f fd) (m:mg "best_rows"=some (.ref f)) (T:Txt K mg) (C_best_with:Q3 P w K mg base):Q4 P w K mg base:=by
 refine ⟨f,fd,?_,m,F.kp,F.binds fun _ _ _ _ _ _ us hl=>match us,hl with | [_,_],_=>rfl⟩
 exact qw (N:=["store","room","rows","kind"]) (O:=[2]) (body:=ve) F vU (by decide) fun cdv A outer s H E B hr=>(qh (wK (i:=2) vU.nd (ql3 (qd (qx zu qR (qbK (qd qv qf)) (qx qU qV (qc 1) qv)) qf)))
   (qh (vy PassesOwn.never rfl (qol rfl T.b_reversed (qd (qc 0) qf)) (qL (i:=3) vU.nd) (qj (zk (qhS (i:=2) (yE (fo:=(some (2,2))) rfl (jJ rfl T.b_range (qd (qx qU qV (qc 1) qv) qf)) (cs ["store","room","rows","kind"] ["size","kind","rows"] 1 [3,2] (qe jv)) (f1 1 [3,2] [2] 2 2) (fun _ _ _ _ _ _ _ _ _ _ _=>⟨(qL (i:=0) (nd ["size","kind","rows"])),qba,(dC C_best_with hr (qd (qc 1) (qd (qkq (i:=2) qv) (qd (qc 0) qf))))⟩))))))
   (qj (qho (i:=2)))))
theorem qfi:qp ["number"] ["number"] (qe yY):=⟨rfl,rfl,rfl,by decide +kernel,rfl,by decide +kernel,by decide +kernel⟩
theorem q5 (F:Fun K "need_few" "need_few" yY f fd) (m:mg "need_few"=some (.ref f)) (T:Txt K mg):Q5 P w K mg base:=by
 refine ⟨f,fd,?_,m,F.kp,F.binds fun _ _ _ _ _ _ us hl=>match us,hl with | [_],_=>rfl⟩
 exact qw (N:=["number"]) (O:=[]) (body:=uR) F qfi (by decide) fun cdv A outer s H E B hr=>(qj (yD (zy qdK qa8 (qc 0) (gI T.c_ASKED_AT_MOST) (qJ _)) (qj yr) qI))
theorem qfj:qp ["thing"] ["thing"] (qe yZ):=⟨rfl,rfl,rfl,by decide +kernel,rfl,by decide +kernel,by decide +kernel⟩
theorem q6 (F:Fun K "is_whole" "is_whole" yZ f fd) (m:mg "is_whole"=some (.ref f)) (T:Txt K mg):Q6 P w K mg base:=by
 refine ⟨f,fd,?_,m,F.kp,F.binds fun _ _ _ _ _ _ us hl=>match us,hl with | [_],_=>rfl⟩
 exact qw (N:=["thing"]) (O:=[]) (body:=qaU) F qfj (by decide) fun cdv A outer s H E B hr=>(qj (qA (qa7 (qfv qly rfl T.b_isinstance rfl T.b_int qn1 (qc 0) yM) (ww (qkj (qfv qja rfl T.b_isinstance rfl T.b_bool qlN (qc 0) yM))))))
theorem qfk:qp ["thing"] ["thing"] (qe y7):=⟨rfl,rfl,rfl,by decide +kernel,rfl,by decide +kernel,by decide +kernel⟩
theorem q7 (F:Fun K "is_count" "is_count" y7 f fd) (m:mg "is_count"=some (.ref f)) (T:Txt K mg) (C_is_whole:Q6 P w K mg base):Q7 P w K mg base:=by
 refine ⟨f,fd,?_,m,F.kp,F.binds fun _ _ _ _ _ _ us hl=>match us,hl with | [_],_=>rfl⟩
 exact qw (N:=["thing"]) (O:=[]) (body:=qaV) F qfk (by decide) fun cdv A outer s H E B hr=>(qj (qA (qa7 (dC C_is_whole hr (qd (qc 0) qf)) (ww (ud qlb qhg (qc 0) qv (qJ _))))))
theorem qdA:qp ["thing"] ["thing"] (qe jA):=⟨rfl,rfl,rfl,by decide +kernel,rfl,by decide +kernel,by decide +kernel⟩
theorem q8 (F:Fun K "need_count" "need_count" jA f fd) (m:mg "need_count"=some (.ref f)) (T:Txt K mg) (C_is_count:Q7 P w K mg base):Q8 P w K mg base:=by
 refine ⟨f,fd,?_,m,F.kp,F.binds fun _ _ _ _ _ _ us hl=>match us,hl with | [_],_=>rfl⟩
 exact qw (N:=["thing"]) (O:=[]) (body:=yt) F qdA (by decide) fun cdv A outer s H E B hr=>(qj (yD (uK (jZ (dC C_is_count hr (qd (qc 0) qf)))) (qj yr) qI))
theorem qgN:qp ["thing"] ["thing"] (qe uO):=⟨rfl,rfl,rfl,by decide +kernel,rfl,by decide +kernel,by decide +kernel⟩
theorem q9 (F:Fun K "is_kind" "is_kind" uO f fd) (m:mg "is_kind"=some (.ref f)) (T:Txt K mg) (C_is_count:Q7 P w K mg base):Q9 P w K mg base:=by
 refine ⟨f,fd,?_,m,F.kp,F.binds fun _ _ _ _ _ _ us hl=>match us,hl with | [_],_=>rfl⟩
 exact qw (N:=["thing"]) (O:=[]) (body:=qcj) F qgN (by decide) fun cdv A outer s H E B hr=>(qh (yD (DW.dt (qdX (uK (jZ (qfv qd5 rfl T.b_isinstance rfl T.b_tuple uz (qc 0) yM))) (qa6 (zy (qaf hr) u6 (qM zf zg rfl T.b_len ui (qd (qc 0) qf)) qv (qJ _))))) (qj (qA qaC)) qI)
   (qh (yD (DW.dt (qdX (uK (jZ (dC C_is_count hr (qd (qE qr qq (qc 0) (gI T.c_WEIGHT)) qf)))) (qa6 (zy (qbc hr) vz (qE qr qq (qc 0) (gI T.c_WEIGHT)) qv (qJ _))))) (qj (qA qaC)) qI)
   (qj (qA (qa7 (dC C_is_count hr (qd (qE qr qq (qc 0) (gI T.c_WORTH)) qf)) (ww (qls (ud qcJ qaF (qE qr qq (qc 0) (gI T.c_MOST)) wn (qJ _)) (ww (dC C_is_count hr (qd (qE qr qq (qc 0) (gI T.c_MOST)) qf))))))))))
theorem qfl:qp ["thing"] ["thing"] (qe j9):=⟨rfl,rfl,rfl,by decide +kernel,rfl,by decide +kernel,by decide +kernel⟩
theorem q10 (F:Fun K "is_store" "is_store" j9 f fd) (m:mg "is_store"=some (.ref f)) (T:Txt K mg) (C_is_kind:Q9 P w K mg base):Q10 P w K mg base:=by
 refine ⟨f,fd,?_,m,F.kp,F.binds fun _ _ _ _ _ _ us hl=>match us,hl with | [_],_=>rfl⟩
 exact qw (N:=["thing"]) (O:=[]) (body:=qaW) F qfl (by decide) fun cdv A outer s H E B hr=>(qh (yD (DW.dt (qdX (uK (jZ (qfv qd5 rfl T.b_isinstance rfl T.b_tuple uz (qc 0) yM))) (qa6 (zy qdK qa8 (qM zf zg rfl T.b_len ui (qd (qc 0) qf)) (gI T.c_KINDS_AT_MOST) (qJ _))))) (qj (qA qaC)) qI)
   (qj (qA (qM (qjc rfl) qhi rfl T.b_all qnZ (qd (yE (fo:=none) rfl (vx (qc 0)) (cs ["thing"] ["part"] 1 [] (qe j9)) (f0 [] []) (fun _ _ _ _ _ _ _ _ _ _ _=>⟨(qL (i:=0) (nd ["part"])),qba,(dC C_is_kind hr (qd (qc 0) qf))⟩)) qf)))))
theorem qdB:qp ["thing"] ["thing"] (qe jB):=⟨rfl,rfl,rfl,by decide +kernel,rfl,by decide +kernel,by decide +kernel⟩
theorem q11 (F:Fun K "need_store" "need_store" jB f fd) (m:mg "need_store"=some (.ref f)) (T:Txt K mg) (C_is_store:Q10 P w K mg base):Q11 P w K mg base:=by
 refine ⟨f,fd,?_,m,F.kp,F.binds fun _ _ _ _ _ _ us hl=>match us,hl with | [_],_=>rfl⟩
 exact qw (N:=["thing"]) (O:=[]) (body:=yw) F qdB (by decide) fun cdv A outer s H E B hr=>(qj (yD (uK (jZ (dC C_is_store hr (qd (qc 0) qf)))) (qj yr) qI))
theorem qdC:qp ["store","number"] ["store","number"] (qe jC):=⟨rfl,rfl,rfl,by decide +kernel,rfl,by decide +kernel,by decide +kernel⟩
theorem q12 (F:Fun K "need_asked" "need_asked" jC f fd) (m:mg "need_asked"=some (.ref f)) (T:Txt K mg) (C_need_few:Q5 P w K mg base) (C_need_count:Q8 P w K mg base) (C_need_store:Q11 P w K mg base):Q12 P w K mg base:=by
 refine ⟨f,fd,?_,m,F.kp,F.binds fun _ _ _ _ _ _ us hl=>match us,hl with | [_,_],_=>rfl⟩
 exact qw (N:=["store","number"]) (O:=[]) (body:=zF) F qdC (by decide) fun cdv A outer s H E B hr=>(qh (zk (dC C_need_store hr (qd (qc 0) qf)))
   (qh (zk (dC C_need_count hr (qd (qc 1) qf)))
   (qj (zk (dC C_need_few hr (qd (qc 1) qf))))))
theorem qcE:qp ["store","room"] ["store","room"] (qe jc):=⟨rfl,rfl,rfl,by decide +kernel,rfl,by decide +kernel,by decide +kernel⟩
theorem q13 (F:Fun K "best_worths" "best_worths" jc f fd) (m:mg "best_worths"=some (.ref f)) (T:Txt K mg) (C_best_rows:Q4 P w K mg base) (C_need_asked:Q12 P w K mg base):Q13 P w K mg base:=by
 refine ⟨f,fd,?_,m,F.kp,F.binds fun _ _ _ _ _ _ us hl=>match us,hl with | [_,_],_=>rfl⟩
 exact qw (N:=["store","room"]) (O:=[]) (body:=vf) F qcE (by decide) fun cdv A outer s H E B hr=>(qh (zk (dC C_need_asked hr (qd (qc 0) (qd (qc 1) qf))))
   (qj (qA (qE qr qq (dC C_best_rows hr (qd (qc 0) (qd (qc 1) qf))) qv))))
theorem qdD:qp ["store","room"] ["store","room"] (qe jD):=⟨rfl,rfl,rfl,by decide +kernel,rfl,by decide +kernel,by decide +kernel⟩
theorem q14 (F:Fun K "best_worth" "best_worth" jD f fd) (m:mg "best_worth"=some (.ref f)) (T:Txt K mg) (C_best_worths:Q13 P w K mg base):Q14 P w K mg base:=by
 refine ⟨f,fd,?_,m,F.kp,F.binds fun _ _ _ _ _ _ us hl=>match us,hl with | [_,_],_=>rfl⟩
 exact qw (N:=["store","room"]) (O:=[]) (body:=vO) F qdD (by decide) fun cdv A outer s H E B hr=>(qj (qA (qE qr qq (dC C_best_worths hr (qd (qc 0) (qd (qc 1) qf))) (qc 1))))
theorem qfm:qp ["thing","store"] ["thing","store"] (qe y8):=⟨rfl,rfl,rfl,by decide +kernel,rfl,by decide +kernel,by decide +kernel⟩
theorem q15 (F:Fun K "is_place" "is_place" y8 f fd) (m:mg "is_place"=some (.ref f)) (T:Txt K mg) (C_is_count:Q7 P w K mg base):Q15 P w K mg base:=by
 refine ⟨f,fd,?_,m,F.kp,F.binds fun _ _ _ _ _ _ us hl=>match us,hl with | [_,_],_=>rfl⟩
 exact qw (N:=["thing","store"]) (O:=[]) (body:=qaX) F qfm (by decide) fun cdv A outer s H E B hr=>(qj (qA (qa7 (dC C_is_count hr (qd (qc 0) qf)) (ww (ud qg0 qd1 (qc 0) (qM zf zg rfl T.b_len ui (qd (qc 1) qf)) (qJ _))))))
theorem qgO:qp ["store","place"] ["store","place"] (qe uP):=⟨rfl,rfl,rfl,by decide +kernel,rfl,by decide +kernel,by decide +kernel⟩
theorem q16 (F:Fun K "without" "without" uP f fd) (m:mg "without"=some (.ref f)) (T:Txt K mg) (C_is_place:Q15 P w K mg base) (C_need_store:Q11 P w K mg base):Q16 P w K mg base:=by
 refine ⟨f,fd,?_,m,F.kp,F.binds fun _ _ _ _ _ _ us hl=>match us,hl with | [_,_],_=>rfl⟩
 exact qw (N:=["store","place"]) (O:=[]) (body:=qck) F qgO (by decide) fun cdv A outer s H E B hr=>(qh (zk (dC C_need_store hr (qd (qc 0) qf)))
   (qh (yD (uK (jZ (dC C_is_place hr (qd (qc 1) (qd (qc 0) qf))))) (qj yr) qI)
   (qj (qA (qx qU qV (qah (qc 0) qc3 (qc4 (qc 1))) (qah (qc 0) (qc4 (qx qU qV (qc 1) qv)) qc3))))))
theorem z0:qp ["store","product","kind"] ["store"] (qe zb):=⟨rfl,rfl,rfl,by decide +kernel,rfl,by decide +kernel,by decide +kernel⟩
theorem q17 (F:Fun K "weights_product" "weights_product" zb f fd) (m:mg "weights_product"=some (.ref f)) (T:Txt K mg):Q17 P w K mg base:=by
 refine ⟨f,fd,?_,m,F.kp,F.binds fun _ _ _ _ _ _ us hl=>match us,hl with | [_],_=>rfl⟩
 exact qw (N:=["store","product","kind"]) (O:=[]) (body:=yi) F z0 (by decide) fun cdv A outer s H E B hr=>(qh (ze (i:=1) z0.nd qv)
   (qh (vy PassesOwn.never rfl (vx (qc 0)) (qL (i:=2) z0.nd) (qj (ze (i:=1) z0.nd (qx zu qR (qc 1) (qE qr qq (qc 2) (gI T.c_WEIGHT))))))
   (qj (qA (qc 1)))))
theorem yH:qp ["store","product","places"] ["store"] (qe qN):=⟨rfl,rfl,rfl,by decide +kernel,rfl,by decide +kernel,by decide +kernel⟩
theorem q18 (F:Fun K "dearest_first" "dearest_first" qN f fd) (m:mg "dearest_first"=some (.ref f)) (T:Txt K mg) {c0 Pt:Addr} (hcc:fd.code = .ref c0) (hch:PySem.W.codeHdIn K c0 Pt=true) (hlm:qcu K=some (c0,Pt,⟨76,30,76,100⟩)) (C_weights_product:Q17 P w K mg base):Q18 P w K mg base:=by
 refine ⟨f,fd,?_,m,F.kp,F.binds fun _ _ _ _ _ _ us hl=>match us,hl with | [_],_=>rfl⟩
 show qct P w K mg base CX0 2 f fd ["store"] (spD K (dfn (["store","product","places"]:List Str).length (["store"]:List Str).length jP))
 refine qjJ (N:=["store","product","places"]) (ps:=["store"]) (k:=1) (O:=[]) (body:=jP) F yH ?a ?b
 case a=>decide
 intro A outer s H E B hr
 exact (qh (ze (i:=1) yH.nd (dC C_weights_product hr (qd (qc 0) qf)))
   (qh (qhJ (i:=2) yH.nd (qhI (fo:=none) rfl (qe0 rfl T.b_enumerate (qd (qc 0) qf)) (cs ["store","product","places"] ["place","kind"] 2 [] (qe qN)) (f0 [] []) (fun _ _ _ _ _ _ _ _ _ _ _=>⟨(qdZ (n:=2) rfl (yo (qL (i:=0) (nd ["place","kind"])) (yo (qL (i:=1) (nd ["place","kind"])) qbM))),(qcP (zy qdK qa8 (qE qr qq (qc 1) (gI T.c_WORTH)) qv (qJ _))),(qc 0)⟩)) rfl (cs ["store","product","places"] ["place","kind"] 2 [] (qe qN)))
   (qj (qA (qjH (N':=["place","product","store"]) (fr:=[1,0]) (qc 2) (cs ["store","product","places"] ["place","product","store"] 1 [1,0] (qe qN)) (f0 (nt:=0) [1,0] []) hr rfl T.b_sorted hcc hch hlm (fun _ _ _ _ _ _=>(qx zu qR (qnY (qE qr qq (qE qr qq (qc 2) (qc 0)) (gI T.c_WORTH))) (qx qaB vY (qc 1) (qE qr qq (qE qr qq (qc 2) (qc 0)) (gI T.c_WEIGHT))))))))))
theorem qeG:qp ["kind","room"] ["kind","room"] (qe ya):=⟨rfl,rfl,rfl,by decide +kernel,rfl,by decide +kernel,by decide +kernel⟩
theorem q19 (F:Fun K "all_go_in" "all_go_in" ya f fd) (m:mg "all_go_in"=some (.ref f)) (T:Txt K mg):Q19 P w K mg base:=by
 refine ⟨f,fd,?_,m,F.kp,F.binds fun _ _ _ _ _ _ us hl=>match us,hl with | [_,_],_=>rfl⟩
 exact qw (N:=["kind","room"]) (O:=[]) (body:=wS) F qeG (by decide) fun cdv A outer s H E B hr=>(qj (qA (qa7 (ud qlc qi5 (qE qr qq (qc 0) (gI T.c_MOST)) wn (qJ _)) (ww (ud qnf qkl (qx zu qR (qE qr qq (qc 0) (gI T.c_MOST)) (qE qr qq (qc 0) (gI T.c_WEIGHT))) (qc 1) (qJ _))))))
theorem qcF:qp ["kind","room"] ["kind","room"] (qe jd):=⟨rfl,rfl,rfl,by decide +kernel,rfl,by decide +kernel,by decide +kernel⟩
theorem q20 (F:Fun K "room_behind" "room_behind" jd f fd) (m:mg "room_behind"=some (.ref f)) (T:Txt K mg) (C_all_go_in:Q19 P w K mg base):Q20 P w K mg base:=by
 refine ⟨f,fd,?_,m,F.kp,F.binds fun _ _ _ _ _ _ us hl=>match us,hl with | [_,_],_=>rfl⟩
 exact qw (N:=["kind","room"]) (O:=[]) (body:=vg) F qcF (by decide) fun cdv A outer s H E B hr=>(qj (qA (qi2 (jZ (dC C_all_go_in hr (qd (qc 0) (qd (qc 1) qf)))) (qx qdJ qbO (qc 1) (qx zu qR (qE qr qq (qc 0) (gI T.c_MOST)) (qE qr qq (qc 0) (gI T.c_WEIGHT)))) qv)))
theorem zJ:qp ["one","other","rest"] ["one","other"] (qe qT):=⟨rfl,rfl,rfl,by decide +kernel,rfl,by decide +kernel,by decide +kernel⟩
theorem q21 (F:Fun K "greatest_divisor" "greatest_divisor" qT f fd) (m:mg "greatest_divisor"=some (.ref f)) (T:Txt K mg):Q21 P w K mg base:=by
 refine ⟨f,fd,?_,m,F.kp,F.binds fun _ _ _ _ _ _ us hl=>match us,hl with | [_,_],_=>rfl⟩
 exact qw (N:=["one","other","rest"]) (O:=[]) (body:=jR) F zJ (by decide) fun cdv A outer s H E B hr=>(qh (qfG PassesOwn.never (zy qdK qa8 (qc 1) qv (qJ _)) (qh (ze (i:=2) zJ.nd (qx qcI qaE (qc 0) (qc 1)))
   (qh (ze (i:=0) zJ.nd (qc 1))
   (qj (ze (i:=1) zJ.nd (qc 2))))))
   (qj (qA (qc 0))))
theorem vV:qp ["top","bottom","divisor"] ["top","bottom"] (qe zU):=⟨rfl,rfl,rfl,by decide +kernel,rfl,by decide +kernel,by decide +kernel⟩
theorem q22 (F:Fun K "lowest_terms" "lowest_terms" zU f fd) (m:mg "lowest_terms"=some (.ref f)) (T:Txt K mg) (C_greatest_divisor:Q21 P w K mg base):Q22 P w K mg base:=by
 refine ⟨f,fd,?_,m,F.kp,F.binds fun _ _ _ _ _ _ us hl=>match us,hl with | [_,_],_=>rfl⟩
 exact qw (N:=["top","bottom","divisor"]) (O:=[]) (body:=uF) F vV (by decide) fun cdv A outer s H E B hr=>(qh (ze (i:=2) vV.nd (dC C_greatest_divisor hr (qd (qc 0) (qd (qc 1) qf))))
   (qj (qA (wv (qd (qx qaB vY (qc 0) (qc 2)) (qd (qx qaB vY (qc 1) (qc 2)) qf))))))
theorem qdE:qp ["kind","room"] ["kind","room"] (qe jE):=⟨rfl,rfl,rfl,by decide +kernel,rfl,by decide +kernel,by decide +kernel⟩
theorem q23 (F:Fun K "best_share" "best_share" jE f fd) (m:mg "best_share"=some (.ref f)) (T:Txt K mg) (C_all_go_in:Q19 P w K mg base) (C_lowest_terms:Q22 P w K mg base):Q23 P w K mg base:=by
 refine ⟨f,fd,?_,m,F.kp,F.binds fun _ _ _ _ _ _ us hl=>match us,hl with | [_,_],_=>rfl⟩
 exact qw (N:=["kind","room"]) (O:=[]) (body:=vP) F qdE (by decide) fun cdv A outer s H E B hr=>(qj (qA (qi2 (jZ (dC C_all_go_in hr (qd (qc 0) (qd (qc 1) qf)))) (wv (qd (qE qr qq (qc 0) (gI T.c_MOST)) (qd qv qf))) (dC C_lowest_terms hr (qd (qc 1) (qd (qE qr qq (qc 0) (gI T.c_WEIGHT)) qf))))))
theorem jr:qp ["store","room","shares","left","place"] ["store","room"] (qe je):=⟨rfl,rfl,rfl,by decide +kernel,rfl,by decide +kernel,by decide +kernel⟩
theorem q24 (F:Fun K "best_shares" "best_shares" je f fd) (m:mg "best_shares"=some (.ref f)) (T:Txt K mg) (C_dearest_first:Q18 P w K mg base) (C_room_behind:Q20 P w K mg base) (C_best_share:Q23 P w K mg base) (C_need_count:Q8 P w K mg base) (C_need_store:Q11 P w K mg base):Q24 P w K mg base:=by
 refine ⟨f,fd,?_,m,F.kp,F.binds fun _ _ _ _ _ _ us hl=>match us,hl with | [_,_],_=>rfl⟩
 exact qw (N:=["store","room","shares","left","place"]) (O:=[2]) (body:=vh) F jr (by decide) fun cdv A outer s H E B hr=>(qh (zk (dC C_need_store hr (qd (qc 0) qf)))
   (qh (zk (dC C_need_count hr (qd (qc 1) qf)))
   (qh (wK (i:=2) jr.nd (qof (qbK (qd (gT (ns:=[0,1]) T.c_NOTHING) qf)) (qM zf zg rfl T.b_len ui (qd (qc 0) qf))))
   (qh (ze (i:=3) jr.nd (qc 1))
   (qh (vy PassesOwn.never rfl (vx (dC C_dearest_first hr (qd (qc 0) qf))) (qL (i:=4) jr.nd) (qh (qhm (i:=2) (dC C_best_share hr (qd (qE qr qq (qc 0) (qc 4)) (qd (qc 3) qf))) (qc 4))
   (qj (ze (i:=3) jr.nd (dC C_room_behind hr (qd (qE qr qq (qc 0) (qc 4)) (qd (qc 3) qf)))))))
   (qj (qA (qc7 (i:=2) rfl T.b_tuple uz))))))))
theorem qj6:qp ["one","other"] ["one","other"] (qe qaR):=⟨rfl,rfl,rfl,by decide +kernel,rfl,by decide +kernel,by decide +kernel⟩
theorem q25 (F:Fun K "added" "added" qaR f fd) (m:mg "added"=some (.ref f)) (T:Txt K mg) (C_lowest_terms:Q22 P w K mg base):Q25 P w K mg base:=by
 refine ⟨f,fd,?_,m,F.kp,F.binds fun _ _ _ _ _ _ us hl=>match us,hl with | [_,_],_=>rfl⟩
 exact qw (N:=["one","other"]) (O:=[]) (body:=qfd) F qj6 (by decide) fun cdv A outer s H E B hr=>(qj (qA (dC C_lowest_terms hr (qd (qx qU qV (qx zu qR (qE qr qq (qc 0) (gI T.c_TOP)) (qE qr qq (qc 1) (gI T.c_BOTTOM))) (qx zu qR (qE qr qq (qc 1) (gI T.c_TOP)) (qE qr qq (qc 0) (gI T.c_BOTTOM)))) (qd (qx zu qR (qE qr qq (qc 0) (gI T.c_BOTTOM)) (qE qr qq (qc 1) (gI T.c_BOTTOM))) qf)))))
theorem js:qp ["store","room","total","kind","share"] ["store","room"] (qe jf):=⟨rfl,rfl,rfl,by decide +kernel,rfl,by decide +kernel,by decide +kernel⟩
theorem q26 (F:Fun K "share_worth" "share_worth" jf f fd) (m:mg "share_worth"=some (.ref f)) (T:Txt K mg) (C_best_shares:Q24 P w K mg base) (C_added:Q25 P w K mg base):Q26 P w K mg base:=by
 refine ⟨f,fd,?_,m,F.kp,F.binds fun _ _ _ _ _ _ us hl=>match us,hl with | [_,_],_=>rfl⟩
 exact qw (N:=["store","room","total","kind","share"]) (O:=[]) (body:=vi) F js (by decide) fun cdv A outer s H E B hr=>(qh (ze (i:=2) js.nd (gT (ns:=[0,1]) T.c_NOTHING))
   (qh (vy PassesOwn.never rfl (qnU rfl T.b_zip (qd (qc 0) (qd (dC C_best_shares hr (qd (qc 0) (qd (qc 1) qf))) qf))) (qdZ (n:=2) rfl (yo (qL (i:=3) js.nd) (yo (qL (i:=4) js.nd) qbM))) (qj (ze (i:=2) js.nd (dC C_added hr (qd (qc 2) (qd (wv (qd (qx zu qR (qE qr qq (qc 4) (gI T.c_TOP)) (qE qr qq (qc 3) (gI T.c_WORTH))) (qd (qE qr qq (qc 4) (gI T.c_BOTTOM)) qf))) qf))))))
   (qj (qA (qc 2)))))
theorem wE:qp ["store","room","total"] ["store","room"] (qe jg):=⟨rfl,rfl,rfl,by decide +kernel,rfl,by decide +kernel,by decide +kernel⟩
theorem q27 (F:Fun K "whole_bound" "whole_bound" jg f fd) (m:mg "whole_bound"=some (.ref f)) (T:Txt K mg) (C_share_worth:Q26 P w K mg base):Q27 P w K mg base:=by
 refine ⟨f,fd,?_,m,F.kp,F.binds fun _ _ _ _ _ _ us hl=>match us,hl with | [_,_],_=>rfl⟩
 exact qw (N:=["store","room","total"]) (O:=[]) (body:=vj) F wE (by decide) fun cdv A outer s H E B hr=>(qh (ze (i:=2) wE.nd (dC C_share_worth hr (qd (qc 0) (qd (qc 1) qf))))
   (qj (qA (qx qaB vY (qE qr qq (qc 2) (gI T.c_TOP)) (qE qr qq (qc 2) (gI T.c_BOTTOM))))))
theorem qeH:qp ["store","place","kind"] ["store","place","kind"] (qe yb):=⟨rfl,rfl,rfl,by decide +kernel,rfl,by decide +kernel,by decide +kernel⟩
theorem q28 (F:Fun K "with_kind" "with_kind" yb f fd) (m:mg "with_kind"=some (.ref f)) (T:Txt K mg):Q28 P w K mg base:=by
 refine ⟨f,fd,?_,m,F.kp,F.binds fun _ _ _ _ _ _ us hl=>match us,hl with | [_,_,_],_=>rfl⟩
 exact qw (N:=["store","place","kind"]) (O:=[]) (body:=wT) F qeH (by decide) fun cdv A outer s H E B hr=>(qj (qA (qx qU qV (qx qU qV (qah (qc 0) qc3 (qc4 (qc 1))) (wv (qd (qc 2) qf))) (qah (qc 0) (qc4 (qx qU qV (qc 1) qv)) qc3))))
theorem qeI:qp ["kind","most"] ["kind","most"] (qe yc):=⟨rfl,rfl,rfl,by decide +kernel,rfl,by decide +kernel,by decide +kernel⟩
theorem q29 (F:Fun K "with_most" "with_most" yc f fd) (m:mg "with_most"=some (.ref f)) (T:Txt K mg):Q29 P w K mg base:=by
 refine ⟨f,fd,?_,m,F.kp,F.binds fun _ _ _ _ _ _ us hl=>match us,hl with | [_,_],_=>rfl⟩
 exact qw (N:=["kind","most"]) (O:=[]) (body:=vk) F qeI (by decide) fun cdv A outer s H E B hr=>(qj (qA (wv (qd (qE qr qq (qc 0) (gI T.c_WEIGHT)) (qd (qE qr qq (qc 0) (gI T.c_WORTH)) (qd (qc 1) qf))))))
theorem qeJ:qp ["kind","times"] ["kind","times"] (qe yd):=⟨rfl,rfl,rfl,by decide +kernel,rfl,by decide +kernel,by decide +kernel⟩
theorem q30 (F:Fun K "most_left" "most_left" yd f fd) (m:mg "most_left"=some (.ref f)) (T:Txt K mg):Q30 P w K mg base:=by
 refine ⟨f,fd,?_,m,F.kp,F.binds fun _ _ _ _ _ _ us hl=>match us,hl with | [_,_],_=>rfl⟩
 exact qw (N:=["kind","times"]) (O:=[]) (body:=wU) F qeJ (by decide) fun cdv A outer s H E B hr=>(qj (qA (qi2 (zy qcJ qaF (qE qr qq (qc 0) (gI T.c_MOST)) wn (qJ _)) wn (qx qdJ qbO (qE qr qq (qc 0) (gI T.c_MOST)) (qc 1)))))
theorem qfn:qp ["kind"] ["kind"] (qe y9):=⟨rfl,rfl,rfl,by decide +kernel,rfl,by decide +kernel,by decide +kernel⟩
theorem q31 (F:Fun K "is_there" "is_there" y9 f fd) (m:mg "is_there"=some (.ref f)) (T:Txt K mg):Q31 P w K mg base:=by
 refine ⟨f,fd,?_,m,F.kp,F.binds fun _ _ _ _ _ _ us hl=>match us,hl with | [_],_=>rfl⟩
 exact qw (N:=["kind"]) (O:=[]) (body:=qaZ) F qfn (by decide) fun cdv A outer s H E B hr=>(qj (qA (qls (ud qcJ qaF (qE qr qq (qc 0) (gI T.c_MOST)) wn (qJ _)) (ww (ud qdK qa8 (qE qr qq (qc 0) (gI T.c_MOST)) qv (qJ _))))))
theorem vW:qp ["store","place","room","u","kind","left"] ["store","place","room","u"] (qe ye):=⟨rfl,rfl,rfl,by decide +kernel,rfl,by decide +kernel,by decide +kernel⟩
theorem q32 (F:Fun K "may_be_in" "may_be_in" ye f fd) (m:mg "may_be_in"=some (.ref f)) (T:Txt K mg) (C_whole_bound:Q27 P w K mg base) (C_with_kind:Q28 P w K mg base) (C_with_most:Q29 P w K mg base) (C_most_left:Q30 P w K mg base) (C_is_there:Q31 P w K mg base):Q32 P w K mg base:=by
 refine ⟨f,fd,?_,m,F.kp,F.binds fun _ _ _ _ _ _ us hl=>match us,hl with | [_,_,_,_],_=>rfl⟩
 exact qw (N:=["store","place","room","u","kind","left"]) (O:=[]) (body:=wV) F vW (by decide) fun cdv A outer s H E B hr=>(qh (ze (i:=4) vW.nd (qE qr qq (qc 0) (qc 1)))
   (qh (yD (DW.dt (qdX (uK (jZ (dC C_is_there hr (qd (qc 4) qf)))) (qa6 (zy qdK qa8 (qE qr qq (qc 4) (gI T.c_WEIGHT)) (qc 2) (qJ _))))) (qj (qA qaC)) qI)
   (qh (ze (i:=5) vW.nd (dC C_with_kind hr (qd (qc 0) (qd (qc 1) (qd (dC C_with_most hr (qd (qc 4) (qd (dC C_most_left hr (qd (qc 4) (qd qv qf))) qf))) qf)))))
   (qj (qA (ud qlb qhg (qx qU qV (qE qr qq (qc 4) (gI T.c_WORTH)) (dC C_whole_bound hr (qd (qc 5) (qd (qx qdJ qbO (qc 2) (qE qr qq (qc 4) (gI T.c_WEIGHT))) qf)))) (qc 3) (qJ _)))))))
theorem qdF:qp ["thing"] ["thing"] (qe jF):=⟨rfl,rfl,rfl,by decide +kernel,rfl,by decide +kernel,by decide +kernel⟩
theorem q33 (F:Fun K "need_whole" "need_whole" jF f fd) (m:mg "need_whole"=some (.ref f)) (T:Txt K mg) (C_is_whole:Q6 P w K mg base):Q33 P w K mg base:=by
 refine ⟨f,fd,?_,m,F.kp,F.binds fun _ _ _ _ _ _ us hl=>match us,hl with | [_],_=>rfl⟩
 exact qw (N:=["thing"]) (O:=[]) (body:=yz) F qdF (by decide) fun cdv A outer s H E B hr=>(qj (yD (uK (jZ (dC C_is_whole hr (qd (qc 0) qf)))) (qj yr) qI))
theorem qfo:qp ["store","room","u"] ["store","room","u"] (qe yf):=⟨rfl,rfl,rfl,by decide +kernel,rfl,by decide +kernel,by decide +kernel⟩
theorem q34 (F:Fun K "never_in" "never_in" yf f fd) (m:mg "never_in"=some (.ref f)) (T:Txt K mg) (C_may_be_in:Q32 P w K mg base) (C_need_whole:Q33 P w K mg base) (C_need_count:Q8 P w K mg base) (C_need_store:Q11 P w K mg base):Q34 P w K mg base:=by
 refine ⟨f,fd,?_,m,F.kp,F.binds fun _ _ _ _ _ _ us hl=>match us,hl with | [_,_,_],_=>rfl⟩
 exact qw (N:=["store","room","u"]) (O:=[]) (body:=qa0) F qfo (by decide) fun cdv A outer s H E B hr=>(qh (zk (dC C_need_store hr (qd (qc 0) qf)))
   (qh (zk (dC C_need_count hr (qd (qc 1) qf)))
   (qh (zk (dC C_need_whole hr (qd (qc 2) qf)))
   (qj (qA (yE (fo:=none) rfl (jJ rfl T.b_range (qd (qM zf zg rfl T.b_len ui (qd (qc 0) qf)) qf)) (cs ["store","room","u"] ["place","store","room","u"] 1 [0,1,2] (qe yf)) (f0 [0,1,2] []) (fun _ _ _ _ _ _ _ _ _ _ _=>⟨(qL (i:=0) (nd ["place","store","room","u"])),(qcP (uK (jZ (dC C_may_be_in hr (qd (qc 1) (qd (qc 0) (qd (qc 2) (qd (qc 3) qf)))))))),(qc 0)⟩)))))))
theorem yk:qp ["kind","best","row","room","times"] ["kind","best","row","room"] (qe zl):=⟨rfl,rfl,rfl,by decide +kernel,rfl,by decide +kernel,by decide +kernel⟩
theorem q35 (F:Fun K "fewest_of_best" "fewest_of_best" zl f fd) (m:mg "fewest_of_best"=some (.ref f)) (T:Txt K mg) (C_worth_with:Q2 P w K mg base):Q35 P w K mg base:=by
 refine ⟨f,fd,?_,m,F.kp,F.binds fun _ _ _ _ _ _ us hl=>match us,hl with | [_,_,_,_],_=>rfl⟩
 exact qw (N:=["kind","best","row","room","times"]) (O:=[]) (body:=yG) F yk (by decide) fun cdv A outer s H E B hr=>(qh (ze (i:=4) yk.nd qv)
   (qh (qfG PassesOwn.never (zy qg0 qd1 (dC C_worth_with hr (qd (qc 0) (qd (qc 4) (qd (qc 2) (qd (qc 3) qf))))) (qc 1) (qJ _)) (qj (ze (i:=4) yk.nd (qx qU qV (qc 4) qv))))
   (qj (qA (qc 4)))))
theorem zG:qp ["store","room","rows","load","left","place","kind","times"] ["store","room"] (qe yg):=⟨rfl,rfl,rfl,by decide +kernel,rfl,by decide +kernel,by decide +kernel⟩
theorem q36 (F:Fun K "best_load" "best_load" yg f fd) (m:mg "best_load"=some (.ref f)) (T:Txt K mg) (C_room_left:Q1 P w K mg base) (C_fewest_of_best:Q35 P w K mg base) (C_best_rows:Q4 P w K mg base) (C_need_asked:Q12 P w K mg base):Q36 P w K mg base:=by
 refine ⟨f,fd,?_,m,F.kp,F.binds fun _ _ _ _ _ _ us hl=>match us,hl with | [_,_],_=>rfl⟩
 exact qw (N:=["store","room","rows","load","left","place","kind","times"]) (O:=[3]) (body:=wW) F zG (by decide) fun cdv A outer s H E B hr=>(qh (zk (dC C_need_asked hr (qd (qc 0) (qd (qc 1) qf))))
   (qh (ze (i:=2) zG.nd (dC C_best_rows hr (qd (qc 0) (qd (qc 1) qf))))
   (qh (wK (i:=3) zG.nd (qfz qf))
   (qh (ze (i:=4) zG.nd (qc 1))
   (qh (vy PassesOwn.never rfl (qe0 rfl T.b_enumerate (qd (qc 0) qf)) (qdZ (n:=2) rfl (yo (qL (i:=5) zG.nd) (yo (qL (i:=6) zG.nd) qbM))) (qh (ze (i:=7) zG.nd (dC C_fewest_of_best hr (qd (qc 6) (qd (qE qr qq (qE qr qq (qc 2) (qc 5)) (qc 4)) (qd (qE qr qq (qc 2) (qx qU qV (qc 5) qv)) (qd (qc 4) qf))))))
   (qh (zk (qab (i:=3) (qc 7)))
   (qj (ze (i:=4) zG.nd (dC C_room_left hr (qd (qc 6) (qd (qc 7) (qd (qc 4) qf)))))))))
   (qj (qA (qc7 (i:=3) rfl T.b_tuple uz))))))))
theorem qiI:qp ["store","kind"] ["store","kind"] (qe v9):=⟨rfl,rfl,rfl,by decide +kernel,rfl,by decide +kernel,by decide +kernel⟩
theorem q37 (F:Fun K "put_to" "put_to" v9 f fd) (m:mg "put_to"=some (.ref f)) (T:Txt K mg) (C_is_kind:Q9 P w K mg base) (C_need_store:Q11 P w K mg base):Q37 P w K mg base:=by
 refine ⟨f,fd,?_,m,F.kp,F.binds fun _ _ _ _ _ _ us hl=>match us,hl with | [_,_],_=>rfl⟩
 exact qw (N:=["store","kind"]) (O:=[]) (body:=qds) F qiI (by decide) fun cdv A outer s H E B hr=>(qh (zk (dC C_need_store hr (qd (qc 0) qf)))
   (qh (yD (uK (jZ (dC C_is_kind hr (qd (qc 1) qf)))) (qj yr) qI)
   (qh (yD (zy (qbc hr) vz (qM zf zg rfl T.b_len ui (qd (qc 0) qf)) (gI T.c_KINDS_AT_MOST) (qJ _)) (qj yr) qI)
   (qj (qA (qx qU qV (qc 0) (wv (qd (qc 1) qf))))))))
theorem vX:qp ["box","many","left","digit"] ["box","many"] (qe yh):=⟨rfl,rfl,rfl,by decide +kernel,rfl,by decide +kernel,by decide +kernel⟩
theorem q38 (F:Fun K "_law_take" "_law_take" yh f fd) (m:mg "_law_take"=some (.ref f)) (T:Txt K mg):Q38 P w K mg base:=by
 refine ⟨f,fd,?_,m,F.kp,F.binds fun _ _ _ _ _ _ us hl=>match us,hl with | [_,_],_=>rfl⟩
 show qct P w K mg base CX0 1 f fd ["box","many"] (qkr K (qc8 (["box","many","left","digit"]:List Str).length (["box","many"]:List Str).length vo))
 refine qnM (N:=["box","many","left","digit"]) (ps:=["box","many"]) (k:=0) (O:=[0]) (body:=vo) F vX ?a ?a0 ?b
 case a=>decide
 case a0=>decide
 intro cdv A outer s H E B Io S hr
 exact (qh (qnz (qM qeO qd3 rfl T.b_divmod qhv (qd (qkq (i:=0) qv) (qd (qc 1) qf))) (qdZ (n:=2) rfl (yo (qL (i:=2) vX.nd) (yo (qL (i:=3) vX.nd) qbM))))
   (qh (qhm (i:=0) (qc 2) qv)
   (qj (qA (qc 3)))))
theorem qcG:qp ["thing"] ["thing"] (qe jh):=⟨rfl,rfl,rfl,by decide +kernel,rfl,by decide +kernel,by decide +kernel⟩
theorem q39 (F:Fun K "need_growth" "need_growth" jh f fd) (m:mg "need_growth"=some (.ref f)) (T:Txt K mg) (C_is_count:Q7 P w K mg base):Q39 P w K mg base:=by
 refine ⟨f,fd,?_,m,F.kp,F.binds fun _ _ _ _ _ _ us hl=>match us,hl with | [_],_=>rfl⟩
 exact qw (N:=["thing"]) (O:=[]) (body:=jT) F qcG (by decide) fun cdv A outer s H E B hr=>(qj (yD (DW.dt (qdX (uK (jZ (dC C_is_count hr (qd (qc 0) qf)))) (qa6 (zy (qbc hr) vz (qc 0) qv (qJ _))))) (qj yr) qI))
theorem qj7:qp ["store","weight","worth"] ["store","weight","worth"] (qe wP):=⟨rfl,rfl,rfl,by decide +kernel,rfl,by decide +kernel,by decide +kernel⟩
theorem q40 (F:Fun K "grown" "grown" wP f fd) (m:mg "grown"=some (.ref f)) (T:Txt K mg) (C_need_growth:Q39 P w K mg base) (C_need_store:Q11 P w K mg base):Q40 P w K mg base:=by
 refine ⟨f,fd,?_,m,F.kp,F.binds fun _ _ _ _ _ _ us hl=>match us,hl with | [_,_,_],_=>rfl⟩
 exact qw (N:=["store","weight","worth"]) (O:=[]) (body:=qfe) F qj7 (by decide) fun cdv A outer s H E B hr=>(qh (zk (dC C_need_store hr (qd (qc 0) qf)))
   (qh (zk (dC C_need_growth hr (qd (qc 1) qf)))
   (qh (zk (dC C_need_growth hr (qd (qc 2) qf)))
   (qj (qA (qdY u4 qbQ rfl T.b_tuple uz (qd (yE (fo:=none) rfl (vx (qc 0)) (cs ["store","weight","worth"] ["kind","weight","worth"] 1 [1,2] (qe wP)) (f0 [1,2] []) (fun _ _ _ _ _ _ _ _ _ _ _=>⟨(qL (i:=0) (nd ["kind","weight","worth"])),qba,(wv (qd (qx zu qR (qE qr qq (qc 0) (gI T.c_WEIGHT)) (qc 1)) (qd (qx zu qR (qE qr qq (qc 0) (gI T.c_WORTH)) (qc 2)) (qd (qE qr qq (qc 0) (gI T.c_MOST)) qf))))⟩)) qf)))))))
theorem qcq:qp ["one","other"] ["one","other"] (qe zV):=⟨rfl,rfl,rfl,by decide +kernel,rfl,by decide +kernel,by decide +kernel⟩
theorem q41 (F:Fun K "does_as_well" "does_as_well" zV f fd) (m:mg "does_as_well"=some (.ref f)) (T:Txt K mg):Q41 P w K mg base:=by
 refine ⟨f,fd,?_,m,F.kp,F.binds fun _ _ _ _ _ _ us hl=>match us,hl with | [_,_],_=>rfl⟩
 exact qw (N:=["one","other"]) (O:=[]) (body:=uG) F qcq (by decide) fun cdv A outer s H E B hr=>(qj (qA (qa7 (ud qcJ qaF (qE qr qq (qc 0) (gI T.c_MOST)) wn (qJ _)) (qa7 (ud qnf qkl (qE qr qq (qc 0) (gI T.c_WEIGHT)) (qE qr qq (qc 1) (gI T.c_WEIGHT)) (qJ _)) (ww (ud qlb qhg (qE qr qq (qc 0) (gI T.c_WORTH)) (qE qr qq (qc 1) (gI T.c_WORTH)) (qJ _)))))))
theorem qj8:qp ["store","by","place"] ["store","by","place"] (qe qaS):=⟨rfl,rfl,rfl,by decide +kernel,rfl,by decide +kernel,by decide +kernel⟩
theorem q42 (F:Fun K "beats" "beats" qaS f fd) (m:mg "beats"=some (.ref f)) (T:Txt K mg) (C_does_as_well:Q41 P w K mg base):Q42 P w K mg base:=by
 refine ⟨f,fd,?_,m,F.kp,F.binds fun _ _ _ _ _ _ us hl=>match us,hl with | [_,_,_],_=>rfl⟩
 exact qw (N:=["store","by","place"]) (O:=[]) (body:=qff) F qj8 (by decide) fun cdv A outer s H E B hr=>(qh (yD (DW.dt (qdX (zy (qbc hr) vz (qc 1) (qc 2) (qJ _)) (qa6 (uK (jZ (dC C_does_as_well hr (qd (qE qr qq (qc 0) (qc 1)) (qd (qE qr qq (qc 0) (qc 2)) qf)))))))) (qj (qA qaC)) qI)
   (qj (qA (qls (ud qg0 qd1 (qc 1) (qc 2) (qJ _)) (ww (qkj (dC C_does_as_well hr (qd (qE qr qq (qc 0) (qc 2)) (qd (qE qr qq (qc 0) (qc 1)) qf)))))))))
theorem qaz:qp ["store","pairs","place","beating"] ["store"] (qe uB):=⟨rfl,rfl,rfl,by decide +kernel,rfl,by decide +kernel,by decide +kernel⟩
theorem q43 (F:Fun K "beaten" "beaten" uB f fd) (m:mg "beaten"=some (.ref f)) (T:Txt K mg) (C_beats:Q42 P w K mg base) (C_need_store:Q11 P w K mg base):Q43 P w K mg base:=by
 refine ⟨f,fd,?_,m,F.kp,F.binds fun _ _ _ _ _ _ us hl=>match us,hl with | [_],_=>rfl⟩
 exact qw (N:=["store","pairs","place","beating"]) (O:=[1]) (body:=qdt) F qaz (by decide) fun cdv A outer s H E B hr=>(qh (zk (dC C_need_store hr (qd (qc 0) qf)))
   (qh (wK (i:=1) qaz.nd (qfz qf))
   (qh (vy PassesOwn.never rfl (jJ rfl T.b_range (qd (qM zf zg rfl T.b_len ui (qd (qc 0) qf)) qf)) (qL (i:=2) qaz.nd) (qh (qhJ (i:=3) qaz.nd (qhI (fo:=none) rfl (jJ rfl T.b_range (qd (qM zf zg rfl T.b_len ui (qd (qc 0) qf)) qf)) (cs ["store","pairs","place","beating"] ["by","store","place"] 1 [0,2] (qe uB)) (f0 [0,2] [1]) (fun _ _ _ _ _ _ _ _ _ _ _=>⟨(qL (i:=0) (nd ["by","store","place"])),(qcP (jZ (dC C_beats hr (qd (qc 1) (qd (qc 0) (qd (qc 2) qf)))))),(qc 0)⟩)) rfl (cs ["store","pairs","place","beating"] ["by","store","place"] 1 [0,2] (qe uB)))
   (qj (yD (zy (qaf hr) u6 (qc 3) (qbK qf) (qJ _)) (qj (zk (qab (i:=1) (wv (qd (qc 2) (qd (qE qr qq (qc 3) qv) qf)))))) qI))))
   (qj (qho (i:=1))))))
theorem qcr:qp ["store","out"] ["store"] (qe jG):=⟨rfl,rfl,rfl,by decide +kernel,rfl,by decide +kernel,by decide +kernel⟩
theorem q44 (F:Fun K "unbeaten" "unbeaten" jG f fd) (m:mg "unbeaten"=some (.ref f)) (T:Txt K mg) (C_beaten:Q43 P w K mg base):Q44 P w K mg base:=by
 refine ⟨f,fd,?_,m,F.kp,F.binds fun _ _ _ _ _ _ us hl=>match us,hl with | [_],_=>rfl⟩
 exact qw (N:=["store","out"]) (O:=[]) (body:=qa2) F qcr (by decide) fun cdv A outer s H E B hr=>(qh (ze (i:=1) qcr.nd (yE (fo:=none) rfl (vx (dC C_beaten hr (qd (qc 0) qf))) (cs ["store","out"] ["pair"] 1 [] (qe jG)) (f0 [] []) (fun _ _ _ _ _ _ _ _ _ _ _=>⟨(qL (i:=0) (nd ["pair"])),qba,(qE qr qq (qc 0) qv)⟩)))
   (qj (qA (qdY u4 qbQ rfl T.b_tuple uz (qd (yE (fo:=none) rfl (qe0 rfl T.b_enumerate (qd (qc 0) qf)) (cs ["store","out"] ["place","kind","out"] 2 [1] (qe jG)) (f0 [1] []) (fun _ _ _ _ _ _ _ _ _ _ _=>⟨(qdZ (n:=2) rfl (yo (qL (i:=0) (nd ["place","kind","out"])) (yo (qL (i:=1) (nd ["place","kind","out"])) qbM))),(qcP (zy (ql1 hr) qjw (qc 0) (qc 2) rfl)),(qc 1)⟩)) qf)))))
theorem qgP:qp ["one","other"] ["one","other"] (qe uQ):=⟨rfl,rfl,rfl,by decide +kernel,rfl,by decide +kernel,by decide +kernel⟩
theorem q45 (F:Fun K "is_like" "is_like" uQ f fd) (m:mg "is_like"=some (.ref f)) (T:Txt K mg):Q45 P w K mg base:=by
 refine ⟨f,fd,?_,m,F.kp,F.binds fun _ _ _ _ _ _ us hl=>match us,hl with | [_,_],_=>rfl⟩
 exact qw (N:=["one","other"]) (O:=[]) (body:=qcl) F qgP (by decide) fun cdv A outer s H E B hr=>(qj (qA (qa7 (ud (qbc hr) vz (qE qr qq (qc 0) (gI T.c_WEIGHT)) (qE qr qq (qc 1) (gI T.c_WEIGHT)) (qJ _)) (ww (ud (qbc hr) vz (qE qr qq (qc 0) (gI T.c_WORTH)) (qE qr qq (qc 1) (gI T.c_WORTH)) (qJ _))))))
theorem qbt:qp ["kinds"] ["kinds"] (qe qS):=⟨rfl,rfl,rfl,by decide +kernel,rfl,by decide +kernel,by decide +kernel⟩
theorem q46 (F:Fun K "most_together" "most_together" qS f fd) (m:mg "most_together"=some (.ref f)) (T:Txt K mg):Q46 P w K mg base:=by
 refine ⟨f,fd,?_,m,F.kp,F.binds fun _ _ _ _ _ _ us hl=>match us,hl with | [_],_=>rfl⟩
 exact qw (N:=["kinds"]) (O:=[]) (body:=uu) F qbt (by decide) fun cdv A outer s H E B hr=>(qh (yD (jZ (qM (qfx rfl) qd6 rfl T.b_any qkw (qd (yE (fo:=none) rfl (vx (qc 0)) (cs ["kinds"] ["kind"] 1 [] (qe qS)) (f0 [] []) (fun _ _ _ _ _ _ _ _ _ _ _=>⟨(qL (i:=0) (nd ["kind"])),qba,(ud qcJ qaF (qE qr qq (qc 0) (gI T.c_MOST)) wn (qJ _))⟩)) qf))) (qj (qA wn)) qI)
   (qj (qA (qM (qjd rfl) qhj rfl T.b_sum qn0 (qd (yE (fo:=none) rfl (vx (qc 0)) (cs ["kinds"] ["kind"] 1 [] (qe qS)) (f0 [] []) (fun _ _ _ _ _ _ _ _ _ _ _=>⟨(qL (i:=0) (nd ["kind"])),qba,(qE qr qq (qc 0) (gI T.c_MOST))⟩)) qf)))))
theorem uI:qp ["store","joined","kind"] ["store"] (qe zr):=⟨rfl,rfl,rfl,by decide +kernel,rfl,by decide +kernel,by decide +kernel⟩
theorem q47 (F:Fun K "like_joined" "like_joined" zr f fd) (m:mg "like_joined"=some (.ref f)) (T:Txt K mg) (C_is_like:Q45 P w K mg base) (C_with_most:Q29 P w K mg base) (C_most_together:Q46 P w K mg base) (C_need_store:Q11 P w K mg base):Q47 P w K mg base:=by
 refine ⟨f,fd,?_,m,F.kp,F.binds fun _ _ _ _ _ _ us hl=>match us,hl with | [_],_=>rfl⟩
 exact qw (N:=["store","joined","kind"]) (O:=[1]) (body:=vp) F uI (by decide) fun cdv A outer s H E B hr=>(qh (zk (dC C_need_store hr (qd (qc 0) qf)))
   (qh (wK (i:=1) uI.nd (qfz qf))
   (qh (vy PassesOwn.never rfl (vx (qc 0)) (qL (i:=2) uI.nd) (qj (yD (uK (jZ (qlY (i:=1) (qM (qfx rfl) qd6 rfl T.b_any qkw (qd (yE (fo:=none) rfl (vx (qc 1)) (cs ["store","joined","kind"] ["other","kind"] 1 [2] (qe zr)) (f0 [2] []) (fun _ _ _ _ _ _ _ _ _ _ _=>⟨(qL (i:=0) (nd ["other","kind"])),qba,(dC C_is_like hr (qd (qc 1) (qd (qc 0) qf)))⟩)) qf))))) (qj (zk (qab (i:=1) (dC C_with_most hr (qd (qc 2) (qd (dC C_most_together hr (qd (yE (fo:=none) rfl (vx (qc 0)) (cs ["store","joined","kind"] ["other","kind"] 1 [2] (qe zr)) (f0 [2] [1]) (fun _ _ _ _ _ _ _ _ _ _ _=>⟨(qL (i:=0) (nd ["other","kind"])),(qcP (jZ (dC C_is_like hr (qd (qc 1) (qd (qc 0) qf))))),(qc 0)⟩)) qf)) qf)))))) qI)))
   (qj (qA (qc7 (i:=1) rfl T.b_tuple uz))))))
theorem yV:qp ["box","most","found","k","heft","gain"] ["box","most"] (qe jH):=⟨rfl,rfl,rfl,by decide +kernel,rfl,by decide +kernel,by decide +kernel⟩
theorem q48 (F:Fun K "_law_store" "_law_store" jH f fd) (m:mg "_law_store"=some (.ref f)) (T:Txt K mg) (C__law_take:Q38 P w K mg base):Q48 P w K mg base:=by
 refine ⟨f,fd,?_,m,F.kp,F.binds fun _ _ _ _ _ _ us hl=>match us,hl with | [_,_],_=>rfl⟩
 show qct P w K mg base CX0 2 f fd ["box","most"] (qkr K (qc8 (["box","most","found","k","heft","gain"]:List Str).length (["box","most"]:List Str).length uC))
 refine qnM (N:=["box","most","found","k","heft","gain"]) (ps:=["box","most"]) (k:=1) (O:=[0,2]) (body:=uC) F yV ?a ?a0 ?b
 case a=>decide
 case a0=>decide
 intro cdv A outer s H E B Io S hr
 exact (qh (wK (i:=2) yV.nd (qfz qf))
   (qh (vy PassesOwn.never rfl (jJ rfl T.b_range (qd (iC (i:=0) C__law_take hr (qd (qx qU qV (qc 1) qv) qf)) qf)) (qL (i:=3) yV.nd) (qh (qht (i:=4) (j:=5) yV.nd (qd (qx qU qV qv (iC (i:=0) C__law_take hr (qd qv qf))) (qd (iC (i:=0) C__law_take hr (qd qv qf)) qf)) rfl)
   (qj (zk (qab (i:=2) (wv (qd (qc 4) (qd (qc 5) (qd (qE qr qq (qbK (qd wn (qd qv (qd qv (qd qv (qd qv (qd qv (qd qv qf)))))))) (iC (i:=0) C__law_take hr (qd qv qf))) qf)))))))))
   (qj (qA (qc7 (i:=2) rfl T.b_tuple uz)))))
theorem z9:qp ["script","k","here","number","j","part"] ["script","k"] (qe ua):=⟨rfl,rfl,rfl,by decide +kernel,rfl,by decide +kernel,by decide +kernel⟩
theorem q49 (F:Fun K "_law_box" "_law_box" ua f fd) (m:mg "_law_box"=some (.ref f)) (T:Txt K mg):Q49 P w K mg base:=by
 refine ⟨f,fd,?_,m,F.kp,F.binds fun _ _ _ _ _ _ us hl=>match us,hl with | [_,_],_=>rfl⟩
 exact qw (N:=["script","k","here","number","j","part"]) (O:=[]) (body:=wf) F z9 (by decide) fun cdv A outer s H E B hr=>(qh (ze (i:=2) z9.nd (qx qU qV (qx zu qR qv (qc 1)) qv))
   (qh (yD (zy qg0 qd1 (qc 1) (qM zf zg rfl T.b_len ui (qd (qc 0) qf)) (qJ _)) (qj (ze (i:=2) z9.nd (qE qr qq (qc 0) (qc 1)))) qI)
   (qh (yD (zy (qbc hr) vz (qx qcI qaE (qc 2) qv) qv (qJ _)) (qj (qA (qbK (qd (qx qaB vY (qc 2) qv) qf)))) qI)
   (qh (ze (i:=3) z9.nd qv)
   (qh (vy PassesOwn.never rfl (jJ rfl T.b_range (qd qv qf)) (qL (i:=4) z9.nd) (qh (ze (i:=5) z9.nd (qx qcI qaE (qx qU qV (qx qU qV (qx zu qR (qx qcI qaE (qc 2) qv) qv) (qx zu qR qv (qc 4))) qv) qv))
   (qh (ze (i:=5) z9.nd (qx qcI qaE (qx zu qR (qc 5) (qc 5)) qv))
   (qj (ze (i:=3) z9.nd (qx qU qV (qx zu qR (qc 3) qv) (qx qcI qaE (qx zu qR (qc 5) (qx qU qV (qc 5) qv)) qv)))))))
   (qj (qA (qbK (qd (qc 3) qf)))))))))
theorem qaA:qp ["script","k","box","store","room","best","heavy","dear","more","load","place"] ["script"] (qe qcx):=⟨rfl,rfl,rfl,by decide +kernel,rfl,by decide +kernel,by decide +kernel⟩
theorem qoN (F:Fun K "law" "law" qcx f fd) (T:Txt K mg) (C_best_worth:Q14 P w K mg base) (C_without:Q16 P w K mg base) (C_never_in:Q34 P w K mg base) (C_best_load:Q36 P w K mg base) (C_put_to:Q37 P w K mg base) (C__law_take:Q38 P w K mg base) (C_grown:Q40 P w K mg base) (C_unbeaten:Q44 P w K mg base) (C_beaten:Q43 P w K mg base) (C_like_joined:Q47 P w K mg base) (C__law_store:Q48 P w K mg base) (C__law_box:Q49 P w K mg base):qct P w K mg base CX0 11 f fd ["script"] (spD K qfg):=by
 exact qw (N:=["script","k","box","store","room","best","heavy","dear","more","load","place"]) (O:=[2]) (body:=qmo) F qaA (by decide) fun cdv A outer s H E B hr=>(qh (vy PassesOwn.never rfl (jJ rfl T.b_range (qd (qM (qg1 rfl) qhh rfl T.b_max qku (qd qv (qd (qM (qdL rfl) qd2 rfl T.b_min qkv (qd (qM zf zg rfl T.b_len ui (qd (qc 0) qf)) (qd qv qf))) qf))) qf)) (qL (i:=1) qaA.nd) (qh (wK (i:=2) qaA.nd (nC C__law_box hr (qd (qc 0) (qd (qc 1) qf))))
   (qh (qht (i:=3) (j:=4) qaA.nd (qd (iC (i:=2) C__law_store hr (qd qv qf)) (qd (iC (i:=2) C__law_take hr (qd qv qf)) qf)) rfl)
   (qh (ze (i:=5) qaA.nd (dC C_best_worth hr (qd (qc 3) (qd (qc 4) qf))))
   (qh (yD (DW.dt (qdX (zy (qaf hr) u6 (dC C_best_worth hr (qd (dC C_unbeaten hr (qd (qc 3) qf)) (qd (qc 4) qf))) (qc 5) (qJ _)) (qa6 (zy (qaf hr) u6 (dC C_best_worth hr (qd (dC C_like_joined hr (qd (qc 3) qf)) (qd (qc 4) qf))) (qc 5) (qJ _))))) (qj (qA qaC)) qI)
   (qh (yD (zy (qaf hr) u6 (qM zf zg rfl T.b_len ui (qd (dC C_unbeaten hr (qd (qc 3) qf)) qf)) (qx qdJ qbO (qM zf zg rfl T.b_len ui (qd (qc 3) qf)) (qM zf zg rfl T.b_len ui (qd (dC C_beaten hr (qd (qc 3) qf)) qf))) (qJ _)) (qj (qA qaC)) qI)
   (qh (qht (i:=6) (j:=7) qaA.nd (qd (qx qU qV qv (iC (i:=2) C__law_take hr (qd qv qf))) (qd (qx qU qV qv (iC (i:=2) C__law_take hr (qd qv qf))) qf)) rfl)
   (qh (yD (zy (qaf hr) u6 (dC C_best_worth hr (qd (dC C_grown hr (qd (qc 3) (qd (qc 6) (qd (qc 7) qf)))) (qd (qx qU qV (qx zu qR (qc 4) (qc 6)) (iC (i:=2) C__law_take hr (qd (qc 6) qf))) qf))) (qx zu qR (qc 5) (qc 7)) (qJ _)) (qj (qA qaC)) qI)
   (qh (ze (i:=8) qaA.nd (dC C_put_to hr (qd (qc 3) (qd (wv (qd (qx qU qV qv (iC (i:=2) C__law_take hr (qd qv qf))) (qd (iC (i:=2) C__law_take hr (qd qv qf)) (qd qv qf)))) qf))))
   (qh (yD (DW.dt (qdX (zy qg0 qd1 (dC C_best_worth hr (qd (qc 8) (qd (qc 4) qf))) (qc 5) (qJ _)) (qa6 (zy (qaf hr) u6 (dC C_without hr (qd (qc 8) (qd (qM zf zg rfl T.b_len ui (qd (qc 3) qf)) qf))) (qc 3) (qJ _))))) (qj (qA qaC)) qI)
   (qh (ze (i:=9) qaA.nd (dC C_best_load hr (qd (qc 3) (qd (qc 4) qf))))
   (qh (yD (zy (qaf hr) u6 (yE (fo:=none) rfl (vx (dC C_never_in hr (qd (qc 3) (qd (qc 4) (qd (qc 5) qf))))) (cs ["script","k","box","store","room","best","heavy","dear","more","load","place"] ["place","load"] 1 [9] (qe qcx)) (f0 [9] [2]) (fun _ _ _ _ _ _ _ _ _ _ _=>⟨(qL (i:=0) (nd ["place","load"])),(qcP (zy qdK qa8 (qE qr qq (qc 1) (qc 0)) qv (qJ _))),(qc 0)⟩)) (qbK qf) (qJ _)) (qj (qA qaC)) qI)
   (qj (vy PassesOwn.never rfl (jJ rfl T.b_range (qd (qM zf zg rfl T.b_len ui (qd (qc 3) qf)) qf)) (qL (i:=10) qaA.nd) (qh (yD (zy qdK qa8 (dC C_best_worth hr (qd (dC C_without hr (qd (qc 3) (qd (qc 10) qf))) (qd (qc 4) qf))) (qc 5) (qJ _)) (qj (qA qaC)) qI)
   (qj (yD (DW.dt (qnw (zy (qbc hr) vz (qE qr qq (qc 9) (qc 10)) qv (qJ _)) (qlr (zy (qaf hr) u6 (dC C_best_worth hr (qd (dC C_without hr (qd (qc 3) (qd (qc 10) qf))) (qd (qc 4) qf))) (qc 5) (qJ _))))) (qj (qA qaC)) qI)))))))))))))))))
   (qj (qA qaC)))
end
theorem all_mk {l:PySem.W.OpenLaw} {w:World} {K:PySem.W.Frag} {h:Heap} {mg:Str->Option Value} {fa f0 f1 f2 f3 f4 f5 f6 f7 f8 f9 f10 f11 f12 f13 f14 f15 f16 f17 f18 f19 f20 f21 f22 f23 f24 f25 f26 f27 f28 f29 f30 f31 f32 f33 f34 f35 f36 f37 f38 f39 f40 f41 f42 f43 f44 f45 f46 f47 f48 f49 f50:Addr} (X:K.In h) (G:h.Ns mainGlobals mg) (hfa:mg "law"=some (.ref fa))
  {od0 an0 od1 an1 od2 an2 od3 an3 od4 an4 od5 an5 od6 an6 od7 an7 od8 an8 od9 an9 od10 an10 od11 an11 od12 an12 od13 an13 od14 an14 od15 an15 od16 an16 od17 an17 od18 an18 od19 an19 od20 an20 od21 an21 od22 an22 od23 an23 od24 an24 od25 an25 od26 an26 od27 an27 od28 an28 od29 an29 od30 an30 od31 an31 od32 an32 od33 an33 od34 an34 od35 an35 od36 an36 od37 an37 od38 an38 od39 an39 od40 an40 od41 an41 od42 an42 od43 an43 od44 an44 od45 an45 od46 an46 od47 an47 od48 an48 od49 an49 od50 an50:Option Addr} {sl0 sl1 sl2 sl3 sl4 sl5 sl6 sl7 sl8 sl9 sl10 sl11 sl12 sl13 sl14 sl15 sl16 sl17 sl18 sl19 sl20 sl21 sl22 sl23 sl24 sl25 sl26 sl27 sl28 sl29 sl30 sl31 sl32 sl33 sl34 sl35 sl36 sl37 sl38 sl39 sl40 sl41 sl42 sl43 sl44 sl45 sl46 sl47 sl48 sl49 sl50:Array (Option Value)} {oc0 kV0 dc0 pm0 cd0 ct0 oc1 kV1 dc1 pm1 cd1 ct1 oc2 kV2 dc2 pm2 cd2 ct2 oc3 kV3 dc3 pm3 cd3 ct3 oc4 kV4 dc4 pm4 cd4 ct4 oc5 kV5 dc5 pm5 cd5 ct5 oc6 kV6 dc6 pm6 cd6 ct6 oc7 kV7 dc7 pm7 cd7 ct7 oc8 kV8 dc8 pm8 cd8 ct8 oc9 kV9 dc9 pm9 cd9 ct9 oc10 kV10 dc10 pm10 cd10 ct10 oc11 kV11 dc11 pm11 cd11 ct11 oc12 kV12 dc12 pm12 cd12 ct12 oc13 kV13 dc13 pm13 cd13 ct13 oc14 kV14 dc14 pm14 cd14 ct14 oc15 kV15 dc15 pm15 cd15 ct15 oc16 kV16 dc16 pm16 cd16 ct16 oc17 kV17 dc17 pm17 cd17 ct17 oc18 kV18 dc18 pm18 cd18 ct18 oc19 kV19 dc19 pm19 cd19 ct19 oc20 kV20 dc20 pm20 cd20 ct20 oc21 kV21 dc21 pm21 cd21 ct21 oc22 kV22 dc22 pm22 cd22 ct22 oc23 kV23 dc23 pm23 cd23 ct23 oc24 kV24 dc24 pm24 cd24 ct24 oc25 kV25 dc25 pm25 cd25 ct25 oc26 kV26 dc26 pm26 cd26 ct26 oc27 kV27 dc27 pm27 cd27 ct27 oc28 kV28 dc28 pm28 cd28 ct28 oc29 kV29 dc29 pm29 cd29 ct29 oc30 kV30 dc30 pm30 cd30 ct30 oc31 kV31 dc31 pm31 cd31 ct31 oc32 kV32 dc32 pm32 cd32 ct32 oc33 kV33 dc33 pm33 cd33 ct33 oc34 kV34 dc34 pm34 cd34 ct34 oc35 kV35 dc35 pm35 cd35 ct35 oc36 kV36 dc36 pm36 cd36 ct36 oc37 kV37 dc37 pm37 cd37 ct37 oc38 kV38 dc38 pm38 cd38 ct38 oc39 kV39 dc39 pm39 cd39 ct39 oc40 kV40 dc40 pm40 cd40 ct40 oc41 kV41 dc41 pm41 cd41 ct41 oc42 kV42 dc42 pm42 cd42 ct42 oc43 kV43 dc43 pm43 cd43 ct43 oc44 kV44 dc44 pm44 cd44 ct44 oc45 kV45 dc45 pm45 cd45 ct45 oc46 kV46 dc46 pm46 cd46 ct46 oc47 kV47 dc47 pm47 cd47 ct47 oc48 kV48 dc48 pm48 cd48 ct48 oc49 kV49 dc49 pm49 cd49 ct49 oc50 kV50 dc50 pm50 cd50 ct50:Value} {tk_ASKED_AT_MOST:Tok} {tk_BOTTOM:Tok} {tk_KINDS_AT_MOST:Tok} {tk_MOST:Tok} {qa_NOTHING:Addr} {qd_NOTHING:Option Addr} {qi_NOTHING:Array Value} {qn_NOTHING:Nat} {qs_NOTHING:Array (Option Value)} {tk_NOTHING_0:Tok} {tk_NOTHING_1:Tok} {tk_TOP:Tok} {tk_WEIGHT:Tok} {tk_WORTH:Tok} {lc0 Pt:Addr} {kc1:Value} {kc2:Option Addr} {kvs:Array Value} {kc3:Array (Option Value)}
  (a0:PySem.W.nsIn K mainGlobals "most_within"=some (some (.ref f0))) (l0:K.lookup f0=some ⟨oc0,od0,.func (PySem.W.fnOf "most_within" "most_within" (qs jb) (qo jb) (qe jb) .none kV0 dc0 pm0 an0 cd0 ct0),sl0⟩) (c0:PySem.W.codeIn K cd0 "most_within"=true) (k0:PySem.W.keepIn K (.ref f0)=true)
  (a1:PySem.W.nsIn K mainGlobals "room_left"=some (some (.ref f1))) (l1:K.lookup f1=some ⟨oc1,od1,.func (PySem.W.fnOf "room_left" "room_left" (qs j8) (qo j8) (qe j8) .none kV1 dc1 pm1 an1 cd1 ct1),sl1⟩) (c1:PySem.W.codeIn K cd1 "room_left"=true) (k1:PySem.W.keepIn K (.ref f1)=true)
  (a2:PySem.W.nsIn K mainGlobals "worth_with"=some (some (.ref f2))) (l2:K.lookup f2=some ⟨oc2,od2,.func (PySem.W.fnOf "worth_with" "worth_with" (qs jz) (qo jz) (qe jz) .none kV2 dc2 pm2 an2 cd2 ct2),sl2⟩) (c2:PySem.W.codeIn K cd2 "worth_with"=true) (k2:PySem.W.keepIn K (.ref f2)=true)
  (a3:PySem.W.nsIn K mainGlobals "best_with"=some (some (.ref f3))) (l3:K.lookup f3=some ⟨oc3,od3,.func (PySem.W.fnOf "best_with" "best_with" (qs ju) (qo ju) (qe ju) .none kV3 dc3 pm3 an3 cd3 ct3),sl3⟩) (c3:PySem.W.codeIn K cd3 "best_with"=true) (k3:PySem.W.keepIn K (.ref f3)=true)
  (a4:PySem.W.nsIn K mainGlobals "best_rows"=some (some (.ref f4))) (l4:K.lookup f4=some ⟨oc4,od4,.func (PySem.W.fnOf "best_rows" "best_rows" (qs jv) (qo jv) (qe jv) .none kV4 dc4 pm4 an4 cd4 ct4),sl4⟩) (c4:PySem.W.codeIn K cd4 "best_rows"=true) (k4:PySem.W.keepIn K (.ref f4)=true)
  (a5:PySem.W.nsIn K mainGlobals "need_few"=some (some (.ref f5))) (l5:K.lookup f5=some ⟨oc5,od5,.func (PySem.W.fnOf "need_few" "need_few" (qs yY) (qo yY) (qe yY) .none kV5 dc5 pm5 an5 cd5 ct5),sl5⟩) (c5:PySem.W.codeIn K cd5 "need_few"=true) (k5:PySem.W.keepIn K (.ref f5)=true)
  (a6:PySem.W.nsIn K mainGlobals "is_whole"=some (some (.ref f6))) (l6:K.lookup f6=some ⟨oc6,od6,.func (PySem.W.fnOf "is_whole" "is_whole" (qs yZ) (qo yZ) (qe yZ) .none kV6 dc6 pm6 an6 cd6 ct6),sl6⟩) (c6:PySem.W.codeIn K cd6 "is_whole"=true) (k6:PySem.W.keepIn K (.ref f6)=true)
  (a7:PySem.W.nsIn K mainGlobals "is_count"=some (some (.ref f7))) (l7:K.lookup f7=some ⟨oc7,od7,.func (PySem.W.fnOf "is_count" "is_count" (qs y7) (qo y7) (qe y7) .none kV7 dc7 pm7 an7 cd7 ct7),sl7⟩) (c7:PySem.W.codeIn K cd7 "is_count"=true) (k7:PySem.W.keepIn K (.ref f7)=true)
  (a8:PySem.W.nsIn K mainGlobals "need_count"=some (some (.ref f8))) (l8:K.lookup f8=some ⟨oc8,od8,.func (PySem.W.fnOf "need_count" "need_count" (qs jA) (qo jA) (qe jA) .none kV8 dc8 pm8 an8 cd8 ct8),sl8⟩) (c8:PySem.W.codeIn K cd8 "need_count"=true) (k8:PySem.W.keepIn K (.ref f8)=true)
  (a9:PySem.W.nsIn K mainGlobals "is_kind"=some (some (.ref f9))) (l9:K.lookup f9=some ⟨oc9,od9,.func (PySem.W.fnOf "is_kind" "is_kind" (qs uO) (qo uO) (qe uO) .none kV9 dc9 pm9 an9 cd9 ct9),sl9⟩) (c9:PySem.W.codeIn K cd9 "is_kind"=true) (k9:PySem.W.keepIn K (.ref f9)=true)
  (a10:PySem.W.nsIn K mainGlobals "is_store"=some (some (.ref f10))) (l10:K.lookup f10=some ⟨oc10,od10,.func (PySem.W.fnOf "is_store" "is_store" (qs j9) (qo j9) (qe j9) .none kV10 dc10 pm10 an10 cd10 ct10),sl10⟩) (c10:PySem.W.codeIn K cd10 "is_store"=true) (k10:PySem.W.keepIn K (.ref f10)=true)
  (a11:PySem.W.nsIn K mainGlobals "need_store"=some (some (.ref f11))) (l11:K.lookup f11=some ⟨oc11,od11,.func (PySem.W.fnOf "need_store" "need_store" (qs jB) (qo jB) (qe jB) .none kV11 dc11 pm11 an11 cd11 ct11),sl11⟩) (c11:PySem.W.codeIn K cd11 "need_store"=true) (k11:PySem.W.keepIn K (.ref f11)=true)
  (a12:PySem.W.nsIn K mainGlobals "need_asked"=some (some (.ref f12))) (l12:K.lookup f12=some ⟨oc12,od12,.func (PySem.W.fnOf "need_asked" "need_asked" (qs jC) (qo jC) (qe jC) .none kV12 dc12 pm12 an12 cd12 ct12),sl12⟩) (c12:PySem.W.codeIn K cd12 "need_asked"=true) (k12:PySem.W.keepIn K (.ref f12)=true)
  (a13:PySem.W.nsIn K mainGlobals "best_worths"=some (some (.ref f13))) (l13:K.lookup f13=some ⟨oc13,od13,.func (PySem.W.fnOf "best_worths" "best_worths" (qs jc) (qo jc) (qe jc) .none kV13 dc13 pm13 an13 cd13 ct13),sl13⟩) (c13:PySem.W.codeIn K cd13 "best_worths"=true) (k13:PySem.W.keepIn K (.ref f13)=true)
  (a14:PySem.W.nsIn K mainGlobals "best_worth"=some (some (.ref f14))) (l14:K.lookup f14=some ⟨oc14,od14,.func (PySem.W.fnOf "best_worth" "best_worth" (qs jD) (qo jD) (qe jD) .none kV14 dc14 pm14 an14 cd14 ct14),sl14⟩) (c14:PySem.W.codeIn K cd14 "best_worth"=true) (k14:PySem.W.keepIn K (.ref f14)=true)
  (a15:PySem.W.nsIn K mainGlobals "is_place"=some (some (.ref f15))) (l15:K.lookup f15=some ⟨oc15,od15,.func (PySem.W.fnOf "is_place" "is_place" (qs y8) (qo y8) (qe y8) .none kV15 dc15 pm15 an15 cd15 ct15),sl15⟩) (c15:PySem.W.codeIn K cd15 "is_place"=true) (k15:PySem.W.keepIn K (.ref f15)=true)
  (a16:PySem.W.nsIn K mainGlobals "without"=some (some (.ref f16))) (l16:K.lookup f16=some ⟨oc16,od16,.func (PySem.W.fnOf "without" "without" (qs uP) (qo uP) (qe uP) .none kV16 dc16 pm16 an16 cd16 ct16),sl16⟩) (c16:PySem.W.codeIn K cd16 "without"=true) (k16:PySem.W.keepIn K (.ref f16)=true)
  (a17:PySem.W.nsIn K mainGlobals "weights_product"=some (some (.ref f17))) (l17:K.lookup f17=some ⟨oc17,od17,.func (PySem.W.fnOf "weights_product" "weights_product" (qs zb) (qo zb) (qe zb) .none kV17 dc17 pm17 an17 cd17 ct17),sl17⟩) (c17:PySem.W.codeIn K cd17 "weights_product"=true) (k17:PySem.W.keepIn K (.ref f17)=true)
  (a18:PySem.W.nsIn K mainGlobals "dearest_first"=some (some (.ref f18))) (l18:K.lookup f18=some ⟨oc18,od18,.func (PySem.W.fnOf "dearest_first" "dearest_first" (qs qN) (qo qN) (qe qN) .none kV18 dc18 pm18 an18 cd18 ct18),sl18⟩) (c18:PySem.W.codeIn K cd18 "dearest_first"=true) (k18:PySem.W.keepIn K (.ref f18)=true)
  (a19:PySem.W.nsIn K mainGlobals "all_go_in"=some (some (.ref f19))) (l19:K.lookup f19=some ⟨oc19,od19,.func (PySem.W.fnOf "all_go_in" "all_go_in" (qs ya) (qo ya) (qe ya) .none kV19 dc19 pm19 an19 cd19 ct19),sl19⟩) (c19:PySem.W.codeIn K cd19 "all_go_in"=true) (k19:PySem.W.keepIn K (.ref f19)=true)
  (a20:PySem.W.nsIn K mainGlobals "room_behind"=some (some (.ref f20))) (l20:K.lookup f20=some ⟨oc20,od20,.func (PySem.W.fnOf "room_behind" "room_behind" (qs jd) (qo jd) (qe jd) .none kV20 dc20 pm20 an20 cd20 ct20),sl20⟩) (c20:PySem.W.codeIn K cd20 "room_behind"=true) (k20:PySem.W.keepIn K (.ref f20)=true)
  (a21:PySem.W.nsIn K mainGlobals "greatest_divisor"=some (some (.ref f21))) (l21:K.lookup f21=some ⟨oc21,od21,.func (PySem.W.fnOf "greatest_divisor" "greatest_divisor" (qs qT) (qo qT) (qe qT) .none kV21 dc21 pm21 an21 cd21 ct21),sl21⟩) (c21:PySem.W.codeIn K cd21 "greatest_divisor"=true) (k21:PySem.W.keepIn K (.ref f21)=true)
  (a22:PySem.W.nsIn K mainGlobals "lowest_terms"=some (some (.ref f22))) (l22:K.lookup f22=some ⟨oc22,od22,.func (PySem.W.fnOf "lowest_terms" "lowest_terms" (qs zU) (qo zU) (qe zU) .none kV22 dc22 pm22 an22 cd22 ct22),sl22⟩) (c22:PySem.W.codeIn K cd22 "lowest_terms"=true) (k22:PySem.W.keepIn K (.ref f22)=true)
  (a23:PySem.W.nsIn K mainGlobals "best_share"=some (some (.ref f23))) (l23:K.lookup f23=some ⟨oc23,od23,.func (PySem.W.fnOf "best_share" "best_share" (qs jE) (qo jE) (qe jE) .none kV23 dc23 pm23 an23 cd23 ct23),sl23⟩) (c23:PySem.W.codeIn K cd23 "best_share"=true) (k23:PySem.W.keepIn K (.ref f23)=true)
  (a24:PySem.W.nsIn K mainGlobals "best_shares"=some (some (.ref f24))) (l24:K.lookup f24=some ⟨oc24,od24,.func (PySem.W.fnOf "best_shares" "best_shares" (qs je) (qo je) (qe je) .none kV24 dc24 pm24 an24 cd24 ct24),sl24⟩) (c24:PySem.W.codeIn K cd24 "best_shares"=true) (k24:PySem.W.keepIn K (.ref f24)=true)
  (a25:PySem.W.nsIn K mainGlobals "added"=some (some (.ref f25))) (l25:K.lookup f25=some ⟨oc25,od25,.func (PySem.W.fnOf "added" "added" (qs qaR) (qo qaR) (qe qaR) .none kV25 dc25 pm25 an25 cd25 ct25),sl25⟩) (c25:PySem.W.codeIn K cd25 "added"=true) (k25:PySem.W.keepIn K (.ref f25)=true)
  (a26:PySem.W.nsIn K mainGlobals "share_worth"=some (some (.ref f26))) (l26:K.lookup f26=some ⟨oc26,od26,.func (PySem.W.fnOf "share_worth" "share_worth" (qs jf) (qo jf) (qe jf) .none kV26 dc26 pm26 an26 cd26 ct26),sl26⟩) (c26:PySem.W.codeIn K cd26 "share_worth"=true) (k26:PySem.W.keepIn K (.ref f26)=true)
  (a27:PySem.W.nsIn K mainGlobals "whole_bound"=some (some (.ref f27))) (l27:K.lookup f27=some ⟨oc27,od27,.func (PySem.W.fnOf "whole_bound" "whole_bound" (qs jg) (qo jg) (qe jg) .none kV27 dc27 pm27 an27 cd27 ct27),sl27⟩) (c27:PySem.W.codeIn K cd27 "whole_bound"=true) (k27:PySem.W.keepIn K (.ref f27)=true)
  (a28:PySem.W.nsIn K mainGlobals "with_kind"=some (some (.ref f28))) (l28:K.lookup f28=some ⟨oc28,od28,.func (PySem.W.fnOf "with_kind" "with_kind" (qs yb) (qo yb) (qe yb) .none kV28 dc28 pm28 an28 cd28 ct28),sl28⟩) (c28:PySem.W.codeIn K cd28 "with_kind"=true) (k28:PySem.W.keepIn K (.ref f28)=true)
  (a29:PySem.W.nsIn K mainGlobals "with_most"=some (some (.ref f29))) (l29:K.lookup f29=some ⟨oc29,od29,.func (PySem.W.fnOf "with_most" "with_most" (qs yc) (qo yc) (qe yc) .none kV29 dc29 pm29 an29 cd29 ct29),sl29⟩) (c29:PySem.W.codeIn K cd29 "with_most"=true) (k29:PySem.W.keepIn K (.ref f29)=true)
  (a30:PySem.W.nsIn K mainGlobals "most_left"=some (some (.ref f30))) (l30:K.lookup f30=some ⟨oc30,od30,.func (PySem.W.fnOf "most_left" "most_left" (qs yd) (qo yd) (qe yd) .none kV30 dc30 pm30 an30 cd30 ct30),sl30⟩) (c30:PySem.W.codeIn K cd30 "most_left"=true) (k30:PySem.W.keepIn K (.ref f30)=true)
  (a31:PySem.W.nsIn K mainGlobals "is_there"=some (some (.ref f31))) (l31:K.lookup f31=some ⟨oc31,od31,.func (PySem.W.fnOf "is_there" "is_there" (qs y9) (qo y9) (qe y9) .none kV31 dc31 pm31 an31 cd31 ct31),sl31⟩) (c31:PySem.W.codeIn K cd31 "is_there"=true) (k31:PySem.W.keepIn K (.ref f31)=true)
  (a32:PySem.W.nsIn K mainGlobals "may_be_in"=some (some (.ref f32))) (l32:K.lookup f32=some ⟨oc32,od32,.func (PySem.W.fnOf "may_be_in" "may_be_in" (qs ye) (qo ye) (qe ye) .none kV32 dc32 pm32 an32 cd32 ct32),sl32⟩) (c32:PySem.W.codeIn K cd32 "may_be_in"=true) (k32:PySem.W.keepIn K (.ref f32)=true)
  (a33:PySem.W.nsIn K mainGlobals "need_whole"=some (some (.ref f33))) (l33:K.lookup f33=some ⟨oc33,od33,.func (PySem.W.fnOf "need_whole" "need_whole" (qs jF) (qo jF) (qe jF) .none kV33 dc33 pm33 an33 cd33 ct33),sl33⟩) (c33:PySem.W.codeIn K cd33 "need_whole"=true) (k33:PySem.W.keepIn K (.ref f33)=true)
  (a34:PySem.W.nsIn K mainGlobals "never_in"=some (some (.ref f34))) (l34:K.lookup f34=some ⟨oc34,od34,.func (PySem.W.fnOf "never_in" "never_in" (qs yf) (qo yf) (qe yf) .none kV34 dc34 pm34 an34 cd34 ct34),sl34⟩) (c34:PySem.W.codeIn K cd34 "never_in"=true) (k34:PySem.W.keepIn K (.ref f34)=true)
  (a35:PySem.W.nsIn K mainGlobals "fewest_of_best"=some (some (.ref f35))) (l35:K.lookup f35=some ⟨oc35,od35,.func (PySem.W.fnOf "fewest_of_best" "fewest_of_best" (qs zl) (qo zl) (qe zl) .none kV35 dc35 pm35 an35 cd35 ct35),sl35⟩) (c35:PySem.W.codeIn K cd35 "fewest_of_best"=true) (k35:PySem.W.keepIn K (.ref f35)=true)
  (a36:PySem.W.nsIn K mainGlobals "best_load"=some (some (.ref f36))) (l36:K.lookup f36=some ⟨oc36,od36,.func (PySem.W.fnOf "best_load" "best_load" (qs yg) (qo yg) (qe yg) .none kV36 dc36 pm36 an36 cd36 ct36),sl36⟩) (c36:PySem.W.codeIn K cd36 "best_load"=true) (k36:PySem.W.keepIn K (.ref f36)=true)
  (a37:PySem.W.nsIn K mainGlobals "put_to"=some (some (.ref f37))) (l37:K.lookup f37=some ⟨oc37,od37,.func (PySem.W.fnOf "put_to" "put_to" (qs v9) (qo v9) (qe v9) .none kV37 dc37 pm37 an37 cd37 ct37),sl37⟩) (c37:PySem.W.codeIn K cd37 "put_to"=true) (k37:PySem.W.keepIn K (.ref f37)=true)
  (a38:PySem.W.nsIn K mainGlobals "_law_take"=some (some (.ref f38))) (l38:K.lookup f38=some ⟨oc38,od38,.func (PySem.W.fnOf "_law_take" "_law_take" (qs yh) (qo yh) (qe yh) .none kV38 dc38 pm38 an38 cd38 ct38),sl38⟩) (c38:PySem.W.codeIn K cd38 "_law_take"=true) (k38:PySem.W.keepIn K (.ref f38)=true)
  (a39:PySem.W.nsIn K mainGlobals "need_growth"=some (some (.ref f39))) (l39:K.lookup f39=some ⟨oc39,od39,.func (PySem.W.fnOf "need_growth" "need_growth" (qs jh) (qo jh) (qe jh) .none kV39 dc39 pm39 an39 cd39 ct39),sl39⟩) (c39:PySem.W.codeIn K cd39 "need_growth"=true) (k39:PySem.W.keepIn K (.ref f39)=true)
  (a40:PySem.W.nsIn K mainGlobals "grown"=some (some (.ref f40))) (l40:K.lookup f40=some ⟨oc40,od40,.func (PySem.W.fnOf "grown" "grown" (qs wP) (qo wP) (qe wP) .none kV40 dc40 pm40 an40 cd40 ct40),sl40⟩) (c40:PySem.W.codeIn K cd40 "grown"=true) (k40:PySem.W.keepIn K (.ref f40)=true)
  (a41:PySem.W.nsIn K mainGlobals "does_as_well"=some (some (.ref f41))) (l41:K.lookup f41=some ⟨oc41,od41,.func (PySem.W.fnOf "does_as_well" "does_as_well" (qs zV) (qo zV) (qe zV) .none kV41 dc41 pm41 an41 cd41 ct41),sl41⟩) (c41:PySem.W.codeIn K cd41 "does_as_well"=true) (k41:PySem.W.keepIn K (.ref f41)=true)
  (a42:PySem.W.nsIn K mainGlobals "beats"=some (some (.ref f42))) (l42:K.lookup f42=some ⟨oc42,od42,.func (PySem.W.fnOf "beats" "beats" (qs qaS) (qo qaS) (qe qaS) .none kV42 dc42 pm42 an42 cd42 ct42),sl42⟩) (c42:PySem.W.codeIn K cd42 "beats"=true) (k42:PySem.W.keepIn K (.ref f42)=true)
  (a43:PySem.W.nsIn K mainGlobals "beaten"=some (some (.ref f43))) (l43:K.lookup f43=some ⟨oc43,od43,.func (PySem.W.fnOf "beaten" "beaten" (qs uB) (qo uB) (qe uB) .none kV43 dc43 pm43 an43 cd43 ct43),sl43⟩) (c43:PySem.W.codeIn K cd43 "beaten"=true) (k43:PySem.W.keepIn K (.ref f43)=true)
  (a44:PySem.W.nsIn K mainGlobals "unbeaten"=some (some (.ref f44))) (l44:K.lookup f44=some ⟨oc44,od44,.func (PySem.W.fnOf "unbeaten" "unbeaten" (qs jG) (qo jG) (qe jG) .none kV44 dc44 pm44 an44 cd44 ct44),sl44⟩) (c44:PySem.W.codeIn K cd44 "unbeaten"=true) (k44:PySem.W.keepIn K (.ref f44)=true)
  (a45:PySem.W.nsIn K mainGlobals "is_like"=some (some (.ref f45))) (l45:K.lookup f45=some ⟨oc45,od45,.func (PySem.W.fnOf "is_like" "is_like" (qs uQ) (qo uQ) (qe uQ) .none kV45 dc45 pm45 an45 cd45 ct45),sl45⟩) (c45:PySem.W.codeIn K cd45 "is_like"=true) (k45:PySem.W.keepIn K (.ref f45)=true)
  (a46:PySem.W.nsIn K mainGlobals "most_together"=some (some (.ref f46))) (l46:K.lookup f46=some ⟨oc46,od46,.func (PySem.W.fnOf "most_together" "most_together" (qs qS) (qo qS) (qe qS) .none kV46 dc46 pm46 an46 cd46 ct46),sl46⟩) (c46:PySem.W.codeIn K cd46 "most_together"=true) (k46:PySem.W.keepIn K (.ref f46)=true)
  (a47:PySem.W.nsIn K mainGlobals "like_joined"=some (some (.ref f47))) (l47:K.lookup f47=some ⟨oc47,od47,.func (PySem.W.fnOf "like_joined" "like_joined" (qs zr) (qo zr) (qe zr) .none kV47 dc47 pm47 an47 cd47 ct47),sl47⟩) (c47:PySem.W.codeIn K cd47 "like_joined"=true) (k47:PySem.W.keepIn K (.ref f47)=true)
  (a48:PySem.W.nsIn K mainGlobals "_law_store"=some (some (.ref f48))) (l48:K.lookup f48=some ⟨oc48,od48,.func (PySem.W.fnOf "_law_store" "_law_store" (qs jH) (qo jH) (qe jH) .none kV48 dc48 pm48 an48 cd48 ct48),sl48⟩) (c48:PySem.W.codeIn K cd48 "_law_store"=true) (k48:PySem.W.keepIn K (.ref f48)=true)
  (a49:PySem.W.nsIn K mainGlobals "_law_box"=some (some (.ref f49))) (l49:K.lookup f49=some ⟨oc49,od49,.func (PySem.W.fnOf "_law_box" "_law_box" (qs ua) (qo ua) (qe ua) .none kV49 dc49 pm49 an49 cd49 ct49),sl49⟩) (c49:PySem.W.codeIn K cd49 "_law_box"=true) (k49:PySem.W.keepIn K (.ref f49)=true)
  (a50:PySem.W.nsIn K mainGlobals "law"=some (some (.ref f50))) (l50:K.lookup f50=some ⟨oc50,od50,.func (PySem.W.fnOf "law" "law" (qs qcx) (qo qcx) (qe qcx) .none kV50 dc50 pm50 an50 cd50 ct50),sl50⟩) (c50:PySem.W.codeIn K cd50 "law"=true) (k50:PySem.W.keepIn K (.ref f50)=true)
  (zb_all:PySem.W.nsIn K mainGlobals "all"=some none)
  (zb_any:PySem.W.nsIn K mainGlobals "any"=some none)
  (zb_bool:PySem.W.nsIn K mainGlobals "bool"=some none)
  (zb_divmod:PySem.W.nsIn K mainGlobals "divmod"=some none)
  (zb_enumerate:PySem.W.nsIn K mainGlobals "enumerate"=some none)
  (zb_int:PySem.W.nsIn K mainGlobals "int"=some none)
  (zb_isinstance:PySem.W.nsIn K mainGlobals "isinstance"=some none)
  (zb_len:PySem.W.nsIn K mainGlobals "len"=some none)
  (zb_max:PySem.W.nsIn K mainGlobals "max"=some none)
  (zb_min:PySem.W.nsIn K mainGlobals "min"=some none)
  (zb_range:PySem.W.nsIn K mainGlobals "range"=some none)
  (zb_reversed:PySem.W.nsIn K mainGlobals "reversed"=some none)
  (zb_sorted:PySem.W.nsIn K mainGlobals "sorted"=some none)
  (zb_sum:PySem.W.nsIn K mainGlobals "sum"=some none)
  (zb_tuple:PySem.W.nsIn K mainGlobals "tuple"=some none)
  (zb_zip:PySem.W.nsIn K mainGlobals "zip"=some none)
  (zg_ASKED_AT_MOST:PySem.W.nsIn K mainGlobals "ASKED_AT_MOST"=some (some (.int 200 tk_ASKED_AT_MOST)))
  (zg_BOTTOM:PySem.W.nsIn K mainGlobals "BOTTOM"=some (some (.int 1 tk_BOTTOM)))
  (zg_KINDS_AT_MOST:PySem.W.nsIn K mainGlobals "KINDS_AT_MOST"=some (some (.int 12 tk_KINDS_AT_MOST)))
  (zg_MOST:PySem.W.nsIn K mainGlobals "MOST"=some (some (.int 2 tk_MOST)))
  (zg_NOTHING:PySem.W.nsIn K mainGlobals "NOTHING"=some (some (.ref qa_NOTHING))) (zl_NOTHING:K.lookup qa_NOTHING=some ⟨.type "tuple",qd_NOTHING,.seq qi_NOTHING qn_NOTHING,qs_NOTHING⟩) (zv_NOTHING:qi_NOTHING.toList=[.int 0 tk_NOTHING_0,.int 1 tk_NOTHING_1])
  (zg_TOP:PySem.W.nsIn K mainGlobals "TOP"=some (some (.int 0 tk_TOP)))
  (zg_WEIGHT:PySem.W.nsIn K mainGlobals "WEIGHT"=some (some (.int 0 tk_WEIGHT)))
  (zg_WORTH:PySem.W.nsIn K mainGlobals "WORTH"=some (some (.int 1 tk_WORTH)))
  (zc:cd18 = .ref lc0) (zo:K.lookup lc0=some ⟨kc1,kc2,.fields kvs,kc3⟩) (zp:kvs[11]? = some (.ref Pt)) (zm:qcu K=some (lc0,Pt,⟨76,30,76,100⟩)) (zh:PySem.W.codeHdIn K lc0 Pt=true) :
  ∃ fd:FuncData,(∀ (s:Shared) (v:Value),BindsTo s fd ⟨[v],[]⟩ [("script",v)])/\∀ base:Heap,K.In base->base.Ns mainGlobals mg->qct l.prog w K mg base CX0 11 fa fd ["script"] (spD K qfg):=by
 have e:=hfa.symm.trans (PySem.W.mg_of X G a50)
 cases e
 have T:Txt K mg:=⟨PySem.W.mg_none_of X G zb_all,PySem.W.mg_none_of X G zb_any,PySem.W.mg_none_of X G zb_bool,PySem.W.mg_none_of X G zb_divmod,PySem.W.mg_none_of X G zb_enumerate,PySem.W.mg_none_of X G zb_int,PySem.W.mg_none_of X G zb_isinstance,PySem.W.mg_none_of X G zb_len,PySem.W.mg_none_of X G zb_max,PySem.W.mg_none_of X G zb_min,PySem.W.mg_none_of X G zb_range,PySem.W.mg_none_of X G zb_reversed,PySem.W.mg_none_of X G zb_sorted,PySem.W.mg_none_of X G zb_sum,PySem.W.mg_none_of X G zb_tuple,PySem.W.mg_none_of X G zb_zip,⟨_,PySem.W.mg_of X G zg_ASKED_AT_MOST⟩,⟨_,PySem.W.mg_of X G zg_BOTTOM⟩,⟨_,PySem.W.mg_of X G zg_KINDS_AT_MOST⟩,⟨_,PySem.W.mg_of X G zg_MOST⟩,⟨_,PySem.W.mg_of X G zg_NOTHING,qpt zl_NOTHING zv_NOTHING⟩,⟨_,PySem.W.mg_of X G zg_TOP⟩,⟨_,PySem.W.mg_of X G zg_WEIGHT⟩,⟨_,PySem.W.mg_of X G zg_WORTH⟩⟩
 refine ⟨PySem.W.fnOf "law" "law" (qs qcx) (qo qcx) (qe qcx) .none kV50 dc50 pm50 an50 cd50 ct50,fun s v => .of_eq rfl,fun base hB _ => ?_⟩
 have C_most_within:=q0 (P:=l.prog) (w:=w) (base:=base) (qD (st:=jb) l0 c0 k0) (PySem.W.mg_of X G a0) T
 have C_room_left:=q1 (P:=l.prog) (w:=w) (base:=base) (qD (st:=j8) l1 c1 k1) (PySem.W.mg_of X G a1) T
 have C_worth_with:=q2 (P:=l.prog) (w:=w) (base:=base) (qD (st:=jz) l2 c2 k2) (PySem.W.mg_of X G a2) T C_room_left
 have C_best_with:=q3 (P:=l.prog) (w:=w) (base:=base) (qD (st:=ju) l3 c3 k3) (PySem.W.mg_of X G a3) T C_most_within C_worth_with
 have C_best_rows:=q4 (P:=l.prog) (w:=w) (base:=base) (qD (st:=jv) l4 c4 k4) (PySem.W.mg_of X G a4) T C_best_with
 have C_need_few:=q5 (P:=l.prog) (w:=w) (base:=base) (qD (st:=yY) l5 c5 k5) (PySem.W.mg_of X G a5) T
 have C_is_whole:=q6 (P:=l.prog) (w:=w) (base:=base) (qD (st:=yZ) l6 c6 k6) (PySem.W.mg_of X G a6) T
 have C_is_count:=q7 (P:=l.prog) (w:=w) (base:=base) (qD (st:=y7) l7 c7 k7) (PySem.W.mg_of X G a7) T C_is_whole
 have C_need_count:=q8 (P:=l.prog) (w:=w) (base:=base) (qD (st:=jA) l8 c8 k8) (PySem.W.mg_of X G a8) T C_is_count
 have C_is_kind:=q9 (P:=l.prog) (w:=w) (base:=base) (qD (st:=uO) l9 c9 k9) (PySem.W.mg_of X G a9) T C_is_count
 have C_is_store:=q10 (P:=l.prog) (w:=w) (base:=base) (qD (st:=j9) l10 c10 k10) (PySem.W.mg_of X G a10) T C_is_kind
 have C_need_store:=q11 (P:=l.prog) (w:=w) (base:=base) (qD (st:=jB) l11 c11 k11) (PySem.W.mg_of X G a11) T C_is_store
 have C_need_asked:=q12 (P:=l.prog) (w:=w) (base:=base) (qD (st:=jC) l12 c12 k12) (PySem.W.mg_of X G a12) T C_need_few C_need_count C_need_store
 have C_best_worths:=q13 (P:=l.prog) (w:=w) (base:=base) (qD (st:=jc) l13 c13 k13) (PySem.W.mg_of X G a13) T C_best_rows C_need_asked
 have C_best_worth:=q14 (P:=l.prog) (w:=w) (base:=base) (qD (st:=jD) l14 c14 k14) (PySem.W.mg_of X G a14) T C_best_worths
 have C_is_place:=q15 (P:=l.prog) (w:=w) (base:=base) (qD (st:=y8) l15 c15 k15) (PySem.W.mg_of X G a15) T C_is_count
 have C_without:=q16 (P:=l.prog) (w:=w) (base:=base) (qD (st:=uP) l16 c16 k16) (PySem.W.mg_of X G a16) T C_is_place C_need_store
 have C_weights_product:=q17 (P:=l.prog) (w:=w) (base:=base) (qD (st:=zb) l17 c17 k17) (PySem.W.mg_of X G a17) T
 have C_dearest_first:=q18 (P:=l.prog) (w:=w) (base:=base) (qD (st:=qN) l18 c18 k18) (PySem.W.mg_of X G a18) T zc zh zm C_weights_product
 have C_all_go_in:=q19 (P:=l.prog) (w:=w) (base:=base) (qD (st:=ya) l19 c19 k19) (PySem.W.mg_of X G a19) T
 have C_room_behind:=q20 (P:=l.prog) (w:=w) (base:=base) (qD (st:=jd) l20 c20 k20) (PySem.W.mg_of X G a20) T C_all_go_in
 have C_greatest_divisor:=q21 (P:=l.prog) (w:=w) (base:=base) (qD (st:=qT) l21 c21 k21) (PySem.W.mg_of X G a21) T
 have C_lowest_terms:=q22 (P:=l.prog) (w:=w) (base:=base) (qD (st:=zU) l22 c22 k22) (PySem.W.mg_of X G a22) T C_greatest_divisor
 have C_best_share:=q23 (P:=l.prog) (w:=w) (base:=base) (qD (st:=jE) l23 c23 k23) (PySem.W.mg_of X G a23) T C_all_go_in C_lowest_terms
 have C_best_shares:=q24 (P:=l.prog) (w:=w) (base:=base) (qD (st:=je) l24 c24 k24) (PySem.W.mg_of X G a24) T C_dearest_first C_room_behind C_best_share C_need_count C_need_store
 have C_added:=q25 (P:=l.prog) (w:=w) (base:=base) (qD (st:=qaR) l25 c25 k25) (PySem.W.mg_of X G a25) T C_lowest_terms
 have C_share_worth:=q26 (P:=l.prog) (w:=w) (base:=base) (qD (st:=jf) l26 c26 k26) (PySem.W.mg_of X G a26) T C_best_shares C_added
 have C_whole_bound:=q27 (P:=l.prog) (w:=w) (base:=base) (qD (st:=jg) l27 c27 k27) (PySem.W.mg_of X G a27) T C_share_worth
 have C_with_kind:=q28 (P:=l.prog) (w:=w) (base:=base) (qD (st:=yb) l28 c28 k28) (PySem.W.mg_of X G a28) T
 have C_with_most:=q29 (P:=l.prog) (w:=w) (base:=base) (qD (st:=yc) l29 c29 k29) (PySem.W.mg_of X G a29) T
 have C_most_left:=q30 (P:=l.prog) (w:=w) (base:=base) (qD (st:=yd) l30 c30 k30) (PySem.W.mg_of X G a30) T
 have C_is_there:=q31 (P:=l.prog) (w:=w) (base:=base) (qD (st:=y9) l31 c31 k31) (PySem.W.mg_of X G a31) T
 have C_may_be_in:=q32 (P:=l.prog) (w:=w) (base:=base) (qD (st:=ye) l32 c32 k32) (PySem.W.mg_of X G a32) T C_whole_bound C_with_kind C_with_most C_most_left C_is_there
 have C_need_whole:=q33 (P:=l.prog) (w:=w) (base:=base) (qD (st:=jF) l33 c33 k33) (PySem.W.mg_of X G a33) T C_is_whole
 have C_never_in:=q34 (P:=l.prog) (w:=w) (base:=base) (qD (st:=yf) l34 c34 k34) (PySem.W.mg_of X G a34) T C_may_be_in C_need_whole C_need_count C_need_store
 have C_fewest_of_best:=q35 (P:=l.prog) (w:=w) (base:=base) (qD (st:=zl) l35 c35 k35) (PySem.W.mg_of X G a35) T C_worth_with
 have C_best_load:=q36 (P:=l.prog) (w:=w) (base:=base) (qD (st:=yg) l36 c36 k36) (PySem.W.mg_of X G a36) T C_room_left C_fewest_of_best C_best_rows C_need_asked
 have C_put_to:=q37 (P:=l.prog) (w:=w) (base:=base) (qD (st:=v9) l37 c37 k37) (PySem.W.mg_of X G a37) T C_is_kind C_need_store
 have C__law_take:=q38 (P:=l.prog) (w:=w) (base:=base) (qD (st:=yh) l38 c38 k38) (PySem.W.mg_of X G a38) T
 have C_need_growth:=q39 (P:=l.prog) (w:=w) (base:=base) (qD (st:=jh) l39 c39 k39) (PySem.W.mg_of X G a39) T C_is_count
 have C_grown:=q40 (P:=l.prog) (w:=w) (base:=base) (qD (st:=wP) l40 c40 k40) (PySem.W.mg_of X G a40) T C_need_growth C_need_store
 have C_does_as_well:=q41 (P:=l.prog) (w:=w) (base:=base) (qD (st:=zV) l41 c41 k41) (PySem.W.mg_of X G a41) T
 have C_beats:=q42 (P:=l.prog) (w:=w) (base:=base) (qD (st:=qaS) l42 c42 k42) (PySem.W.mg_of X G a42) T C_does_as_well
 have C_beaten:=q43 (P:=l.prog) (w:=w) (base:=base) (qD (st:=uB) l43 c43 k43) (PySem.W.mg_of X G a43) T C_beats C_need_store
 have C_unbeaten:=q44 (P:=l.prog) (w:=w) (base:=base) (qD (st:=jG) l44 c44 k44) (PySem.W.mg_of X G a44) T C_beaten
 have C_is_like:=q45 (P:=l.prog) (w:=w) (base:=base) (qD (st:=uQ) l45 c45 k45) (PySem.W.mg_of X G a45) T
 have C_most_together:=q46 (P:=l.prog) (w:=w) (base:=base) (qD (st:=qS) l46 c46 k46) (PySem.W.mg_of X G a46) T
 have C_like_joined:=q47 (P:=l.prog) (w:=w) (base:=base) (qD (st:=zr) l47 c47 k47) (PySem.W.mg_of X G a47) T C_is_like C_with_most C_most_together C_need_store
 have C__law_store:=q48 (P:=l.prog) (w:=w) (base:=base) (qD (st:=jH) l48 c48 k48) (PySem.W.mg_of X G a48) T C__law_take
 have C__law_box:=q49 (P:=l.prog) (w:=w) (base:=base) (qD (st:=ua) l49 c49 k49) (PySem.W.mg_of X G a49) T
 exact qoN (P:=l.prog) (w:=w) (base:=base) (qD (st:=qcx) l50 c50 k50) T C_best_worth C_without C_never_in C_best_load C_put_to C__law_take C_grown C_unbeaten C_beaten C_like_joined C__law_store C__law_box
theorem qpW {K:Fr0} {H:Hp} {a:Addr} {ns:List Int} (hO:qoP H) (hS:SqL K H a (ns.map V.int)):qnv K H a (ns.map V.int):=by
 rcases hS with (h | h) | h
 ·rcases hO a with z | z
  ·rw [h] at z;cases z
  ·rcases z with ⟨_,_,z⟩ | ⟨_,_,z⟩<;>(rw [h] at z;cases z)
 ·exact .inl h
 ·exact .inr h
theorem walk {l:PySem.W.OpenLaw} {q:Program} {loose:List Str} {XP:(Str->Option Value)->Heap->Prop} {YP:World->Heap->Prop} {d:DefRec} {K:Params->PySem.W.Frag} (hn:l.most=some 63) (hdf:d.params.defaults=[])
  (hY:∀ (w:World) (h:Heap),YP w h->(K w.params).In h) (hlm:∀ (w:World) (mean:ExcName->Option Value) (mg mb:Str->Option Value) (h:Heap) (c Pt:Addr) (pos:Pos),Top q (PySem.W.looseW q loose) mean mg mb h->(K w.params).In h->qcu (K w.params)=some (c,Pt,pos)->PySem.W.CodeHd h c Pt/\h.get? Pt=some (PySem.W.tabObj #[])/\(K w.params).lookup Pt=none) (hlaw:∀ ns:List Int,ns.length<=63->qfg [.fz ns] = .ok (.bl true))
  (F:∀ (w:World) (mg:Str->Option Value) (fa:Addr) (h:Heap),(K w.params).In h->h.Ns mainGlobals mg->mg d.name=some (.ref fa) ->
   ∃ fd:FuncData,(∀ (s:Shared) (u:Value),BindsTo s fd ⟨[u],[]⟩ [("script",u)])/\∀ base:Heap,(K w.params).In base->base.Ns mainGlobals mg->qct l.prog w (K w.params) mg base CX0 11 fa fd ["script"] (spD (K w.params) qfg)) :
  PySem.W.WalkO q loose XP YP l.row.toRowW d [] (fun f vs=>PySem.call f vs) :=
 L2.walk_lam (n:=63) (k:=11) (x:="script") (CX:=fun _=>CX0) (sp:=fun w=>spD (K w.params) qfg) (lm:=fun w=>(qcu (K w.params)).map fun z=>(z.1,z.2.1,z.2.2,qmE)) hn (by decide) hdf ⟨rfl,by decide,by decide,rfl⟩ hY (fun w mean mg mb h c Pt pos z T X e=>by
  cases el:qcu (K w.params) with
  | none=>rw [el] at e;cases e
  | some p=>obtain ⟨c',P',pos'⟩:=p;rw [el] at e;cases e;exact hlm w mean mg mb h _ _ _ T X el) F (fun w H a ns hl hO hT hS=>by
  refine ⟨[.fz ns],fun _=>False,⟨.ref a,[],rfl,⟨a,rfl,qpW hO hS⟩,rfl⟩,fun c P pos e=>⟨hT c P pos qmE (by rw [e];rfl),fun z=>z⟩,?_⟩
  rw [hlaw ns hl]
  exact fun v H' _ h=>h) fun _ _ _ _ _ z=>z
end Law
end L2.Sk
open PySem PySem.W PyProof.Rows
set_option maxRecDepth 100000 in
set_option maxHeartbeats 0 in
theorem PySem.Challenge.cw_sackloads_k76_whole_stores_changed_holds : PySem.Challenge.rw_sackloads_k76_whole_stores_changed.Holds := by
 w_on;o_law;k_head;(case hw=>w_witness2)
 k_fill
 refine L2.Sk.Law.walk (l:=PySem.Challenge.rw_sackloads_k76_whole_stores_changed) rfl rfl (fun w h Y=>by first | exact PySem.W.kIn_of Y | exact PySem.W.km_in_of Y) ?hlm0 L2.Sk.Law.law_true ?F
 case hlm0 =>
  intro w mean mg mb h c Pt pos T X e
  refine L2.Sk.lam_table T X e (d := ?d) ?e1 ?e2
  (case e1=>rfl)
  (case e2=>kernel_rfl)
 case F =>
  intro w mg fa h KX G hmg
  refine' L2.Sk.Law.all_mk KX G hmg ?a0 ?l0 ?c0 ?k0 ?a1 ?l1 ?c1 ?k1 ?a2 ?l2 ?c2 ?k2 ?a3 ?l3 ?c3 ?k3 ?a4 ?l4 ?c4 ?k4 ?a5 ?l5 ?c5 ?k5 ?a6 ?l6 ?c6 ?k6 ?a7 ?l7 ?c7 ?k7 ?a8 ?l8 ?c8 ?k8 ?a9 ?l9 ?c9 ?k9 ?a10 ?l10 ?c10 ?k10 ?a11 ?l11 ?c11 ?k11 ?a12 ?l12 ?c12 ?k12 ?a13 ?l13 ?c13 ?k13 ?a14 ?l14 ?c14 ?k14 ?a15 ?l15 ?c15 ?k15 ?a16 ?l16 ?c16 ?k16 ?a17 ?l17 ?c17 ?k17 ?a18 ?l18 ?c18 ?k18 ?a19 ?l19 ?c19 ?k19 ?a20 ?l20 ?c20 ?k20 ?a21 ?l21 ?c21 ?k21 ?a22 ?l22 ?c22 ?k22 ?a23 ?l23 ?c23 ?k23 ?a24 ?l24 ?c24 ?k24 ?a25 ?l25 ?c25 ?k25 ?a26 ?l26 ?c26 ?k26 ?a27 ?l27 ?c27 ?k27 ?a28 ?l28 ?c28 ?k28 ?a29 ?l29 ?c29 ?k29 ?a30 ?l30 ?c30 ?k30 ?a31 ?l31 ?c31 ?k31 ?a32 ?l32 ?c32 ?k32 ?a33 ?l33 ?c33 ?k33 ?a34 ?l34 ?c34 ?k34 ?a35 ?l35 ?c35 ?k35 ?a36 ?l36 ?c36 ?k36 ?a37 ?l37 ?c37 ?k37 ?a38 ?l38 ?c38 ?k38 ?a39 ?l39 ?c39 ?k39 ?a40 ?l40 ?c40 ?k40 ?a41 ?l41 ?c41 ?k41 ?a42 ?l42 ?c42 ?k42 ?a43 ?l43 ?c43 ?k43 ?a44 ?l44 ?c44 ?k44 ?a45 ?l45 ?c45 ?k45 ?a46 ?l46 ?c46 ?k46 ?a47 ?l47 ?c47 ?k47 ?a48 ?l48 ?c48 ?k48 ?a49 ?l49 ?c49 ?k49 ?a50 ?l50 ?c50 ?k50 ?zb_all ?zb_any ?zb_bool ?zb_divmod ?zb_enumerate ?zb_int ?zb_isinstance ?zb_len ?zb_max ?zb_min ?zb_range ?zb_reversed ?zb_sorted ?zb_sum ?zb_tuple ?zb_zip ?zg_ASKED_AT_MOST ?zg_BOTTOM ?zg_KINDS_AT_MOST ?zg_MOST ?zg_NOTHING ?zl_NOTHING ?zv_NOTHING ?zg_TOP ?zg_WEIGHT ?zg_WORTH ?zc ?zo ?zp ?zm ?zh
  (case a0=>k_is)
  (case l0=>k_is)
  (case c0=>k_is)
  (case k0=>k_is)
  (case a1=>k_is)
  (case l1=>k_is)
  (case c1=>k_is)
  (case k1=>k_is)
  (case a2=>k_is)
  (case l2=>k_is)
  (case c2=>k_is)
  (case k2=>k_is)
  (case a3=>k_is)
  (case l3=>k_is)
  (case c3=>k_is)
  (case k3=>k_is)
  (case a4=>k_is)
  (case l4=>k_is)
  (case c4=>k_is)
  (case k4=>k_is)
  (case a5=>k_is)
  (case l5=>k_is)
  (case c5=>k_is)
  (case k5=>k_is)
  (case a6=>k_is)
  (case l6=>k_is)
  (case c6=>k_is)
  (case k6=>k_is)
  (case a7=>k_is)
  (case l7=>k_is)
  (case c7=>k_is)
  (case k7=>k_is)
  (case a8=>k_is)
  (case l8=>k_is)
  (case c8=>k_is)
  (case k8=>k_is)
  (case a9=>k_is)
  (case l9=>k_is)
  (case c9=>k_is)
  (case k9=>k_is)
  (case a10=>k_is)
  (case l10=>k_is)
  (case c10=>k_is)
  (case k10=>k_is)
  (case a11=>k_is)
  (case l11=>k_is)
  (case c11=>k_is)
  (case k11=>k_is)
  (case a12=>k_is)
  (case l12=>k_is)
  (case c12=>k_is)
  (case k12=>k_is)
  (case a13=>k_is)
  (case l13=>k_is)
  (case c13=>k_is)
  (case k13=>k_is)
  (case a14=>k_is)
  (case l14=>k_is)
  (case c14=>k_is)
  (case k14=>k_is)
  (case a15=>k_is)
  (case l15=>k_is)
  (case c15=>k_is)
  (case k15=>k_is)
  (case a16=>k_is)
  (case l16=>k_is)
  (case c16=>k_is)
  (case k16=>k_is)
  (case a17=>k_is)
  (case l17=>k_is)
  (case c17=>k_is)
  (case k17=>k_is)
  (case a18=>k_is)
  (case l18=>k_is)
  (case c18=>k_is)
  (case k18=>k_is)
  (case a19=>k_is)
  (case l19=>k_is)
  (case c19=>k_is)
  (case k19=>k_is)
  (case a20=>k_is)
  (case l20=>k_is)
  (case c20=>k_is)
  (case k20=>k_is)
  (case a21=>k_is)
  (case l21=>k_is)
  (case c21=>k_is)
  (case k21=>k_is)
  (case a22=>k_is)
  (case l22=>k_is)
  (case c22=>k_is)
  (case k22=>k_is)
  (case a23=>k_is)
  (case l23=>k_is)
  (case c23=>k_is)
  (case k23=>k_is)
  (case a24=>k_is)
  (case l24=>k_is)
  (case c24=>k_is)
  (case k24=>k_is)
  (case a25=>k_is)
  (case l25=>k_is)
  (case c25=>k_is)
  (case k25=>k_is)
  (case a26=>k_is)
  (case l26=>k_is)
  (case c26=>k_is)
  (case k26=>k_is)
  (case a27=>k_is)
  (case l27=>k_is)
  (case c27=>k_is)
  (case k27=>k_is)
  (case a28=>k_is)
  (case l28=>k_is)
  (case c28=>k_is)
  (case k28=>k_is)
  (case a29=>k_is)
  (case l29=>k_is)
  (case c29=>k_is)
  (case k29=>k_is)
  (case a30=>k_is)
  (case l30=>k_is)
  (case c30=>k_is)
  (case k30=>k_is)
  (case a31=>k_is)
  (case l31=>k_is)
  (case c31=>k_is)
  (case k31=>k_is)
  (case a32=>k_is)
  (case l32=>k_is)
  (case c32=>k_is)
  (case k32=>k_is)
  (case a33=>k_is)
  (case l33=>k_is)
  (case c33=>k_is)
  (case k33=>k_is)
  (case a34=>k_is)
  (case l34=>k_is)
  (case c34=>k_is)
  (case k34=>k_is)
  (case a35=>k_is)
  (case l35=>k_is)
  (case c35=>k_is)
  (case k35=>k_is)
  (case a36=>k_is)
  (case l36=>k_is)
  (case c36=>k_is)
  (case k36=>k_is)
  (case a37=>k_is)
  (case l37=>k_is)
  (case c37=>k_is)
  (case k37=>k_is)
  (case a38=>k_is)
  (case l38=>k_is)
  (case c38=>k_is)
  (case k38=>k_is)
  (case a39=>k_is)
  (case l39=>k_is)
  (case c39=>k_is)
  (case k39=>k_is)
  (case a40=>k_is)
  (case l40=>k_is)
  (case c40=>k_is)
  (case k40=>k_is)
  (case a41=>k_is)
  (case l41=>k_is)
  (case c41=>k_is)
  (case k41=>k_is)
  (case a42=>k_is)
  (case l42=>k_is)
  (case c42=>k_is)
  (case k42=>k_is)
  (case a43=>k_is)
  (case l43=>k_is)
  (case c43=>k_is)
  (case k43=>k_is)
  (case a44=>k_is)
  (case l44=>k_is)
  (case c44=>k_is)
  (case k44=>k_is)
  (case a45=>k_is)
  (case l45=>k_is)
  (case c45=>k_is)
  (case k45=>k_is)
  (case a46=>k_is)
  (case l46=>k_is)
  (case c46=>k_is)
  (case k46=>k_is)
  (case a47=>k_is)
  (case l47=>k_is)
  (case c47=>k_is)
  (case k47=>k_is)
  (case a48=>k_is)
  (case l48=>k_is)
  (case c48=>k_is)
  (case k48=>k_is)
  (case a49=>k_is)
  (case l49=>k_is)
  (case c49=>k_is)
  (case k49=>k_is)
  (case a50=>k_is)
  (case l50=>k_is)
  (case c50=>k_is)
  (case k50=>k_is)
  (case zb_all=>k_is)
  (case zb_any=>k_is)
  (case zb_bool=>k_is)
  (case zb_divmod=>k_is)
  (case zb_enumerate=>k_is)
  (case zb_int=>k_is)
  (case zb_isinstance=>k_is)
  (case zb_len=>k_is)
  (case zb_max=>k_is)
  (case zb_min=>k_is)
  (case zb_range=>k_is)
  (case zb_reversed=>k_is)
  (case zb_sorted=>k_is)
  (case zb_sum=>k_is)
  (case zb_tuple=>k_is)
  (case zb_zip=>k_is)
  (case zg_ASKED_AT_MOST=>k_is)
  (case zg_BOTTOM=>k_is)
  (case zg_KINDS_AT_MOST=>k_is)
  (case zg_MOST=>k_is)
  (case zg_NOTHING=>k_is)
  (case zl_NOTHING=>k_is)
  (case zv_NOTHING=>rfl)
  (case zg_TOP=>k_is)
  (case zg_WEIGHT=>k_is)
  (case zg_WORTH=>k_is)
  (case zc=>rfl)
  (case zo=>k_is)
  (case zp=>rfl)
  (case zm=>kernel_rfl)
  (case zh=>kernel_rfl)
