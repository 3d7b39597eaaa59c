import PyProof.Rows.All
import Wide.All
import OpenK.AllK
import Wide.FinOn
import Lean
import PyProof.EqAt
import PyProof.EqKinds
import PyProof.TupleCall
import KE.KUnpack
import PySem.Challenge.RW_sackloads_k65_whole_two_sacks
def PySem.W.Fast.tw482089293555671260 : Nat := 0
def PySem.W.Fast.tw931554072234921739 : Nat := 0
def PySem.W.Fast.tw15103162697267829189 : Nat := 0
def PySem.W.Fast.tw15984244296367670402 : Nat := 0
def PySem.W.Fast.tw2301934976382696355 : Nat := 0
def PySem.W.Fast.tw16681342324953176115 : Nat := 0
def PySem.W.Fast.tw1158316850030943420 : Nat := 0
set_option linter.all false
set_option Elab.async false
set_option maxRecDepth 100000
open List renaming mem_cons_of_mem → mM, mem_cons_self → mS_, getElem?_eq_getElem → gG, length_cons → lC_, length_map → lM_, length_append → lA_, getElem?_map → gM_, map_cons → mC_, mem_append → mA_, length_range → lR_, length_nil → lN_, size_toArray → sT_, mem_range → mR_, mem_map → mP_, map_map → mm_, replicate_succ → rS_, length_set → lS_, not_mem_nil → nN_, append_assoc → aA_, getElem?_eq_some_iff → gI_, flatMap_cons → fC_, foldl_cons → fo_, mem_singleton → ms_, mem_append_right → mr_, filter_cons → ft_
namespace L2
open PySem PySem.Spec PyProof.Rows
abbrev Key:=Sum Int Str
def qlT:Key->Value->Bool
 | .inl k,v=>Value.isInt k v
 | .inr x,v=>Value.isStrOf x v
def qpt (w:World):Key->Int
 | .inl k=>hashInt k
 | .inr x=>hashStr w x
theorem zm:∀ {k:Key} {v:Value},qlT k v=true->(∃ i t,k=Sum.inl i/\v=Value.int i t)\/(∃ x t,k=Sum.inr x/\v=Value.str x t)
 | .inl i,v,h=>by
  obtain ⟨t,e⟩:=Value.isInt_shape (k:=i) (v:=v) h
  exact .inl ⟨i,t,rfl,e⟩
 | .inr x,v,h=>by
  obtain ⟨t,e⟩:=Value.isStrOf_shape (x:=x) (v:=v) h
  exact .inr ⟨x,t,rfl,e⟩
theorem qlU (a b:Int):decide ((Sum.inl a:Key)=Sum.inl b)=(a==b):=by
 by_cases e:a=b
 ·subst e;simp
 ·have h:¬ (Sum.inl a:Key)=Sum.inl b:=fun q=>e (Sum.inl.inj q)
  rw [decide_eq_false h]
  exact (beq_eq_false_iff_ne.mpr e).symm
theorem qlV (a b:Str):decide ((Sum.inr a:Key)=Sum.inr b)=decide (a=b):=by
 by_cases e:a=b
 ·subst e;simp
 ·have h:¬ (Sum.inr a:Key)=Sum.inr b:=fun q=>e (Sum.inr.inj q)
  rw [decide_eq_false h,decide_eq_false e]
theorem qlW (a:Int) (b:Str):decide ((Sum.inl a:Key)=Sum.inr b)=false:=decide_eq_false (fun q=>nomatch q)
theorem qlX (a:Str) (b:Int):decide ((Sum.inr a:Key)=Sum.inl b)=false:=decide_eq_false (fun q=>nomatch q)
def qcB (prog:Program) (w:World):PySem.KeyKind prog w Key where
 is:=qlT
 hash:=qpt w
 inj:=fun v a b ha hb=>by
  rcases zm ha with ⟨i,t,rfl,rfl⟩ | ⟨x,t,rfl,rfl⟩
  ·rcases zm hb with ⟨j,u,rfl,e⟩ | ⟨y,u,rfl,e⟩
   ·injection e with e1 _;rw [e1]
   ·exact nomatch e
  ·rcases zm hb with ⟨j,u,rfl,e⟩ | ⟨y,u,rfl,e⟩
   ·exact nomatch e
   ·injection e with e1 _;rw [e1]
 byValue:=fun k v h=>by
  rcases zm h with ⟨i,t,rfl,rfl⟩ | ⟨x,t,rfl,rfl⟩<;>rfl
 pyHash:=fun hv h=>by
  rcases zm hv with ⟨i,t,rfl,rfl⟩ | ⟨x,t,rfl,rfl⟩
  ·exact wpAny_pyHash_int h
  ·exact wpAny_pyHash_str h
 eqBool:=fun hu hv h=>by
  rcases zm hu with ⟨i,t,rfl,rfl⟩ | ⟨x,t,rfl,rfl⟩
  ·rcases zm hv with ⟨j,u,rfl,rfl⟩ | ⟨y,u,rfl,rfl⟩
   ·rw [qlU] at h;exact wpAny_eqBool_int h
   ·rw [qlW] at h;exact SeqAt.EqAt.int_str i t y u _ _ _ _ h
  ·rcases zm hv with ⟨j,u,rfl,rfl⟩ | ⟨y,u,rfl,rfl⟩
   ·rw [qlX] at h;exact SeqAt.EqAt.str_int x t j u _ _ _ _ h
   ·rw [qlV] at h;exact wpAny_eqBool_str h
 «strs»:=fun k x t v h=>by
  rcases zm h with ⟨i,u,rfl,e⟩ | ⟨y,u,rfl,e⟩
  ·exact nomatch e
  ·injection e with e1 _
   subst e1
   cases v<;>rfl
end L2
namespace L2
open PySem PySem.Spec PyProof.Rows
inductive V where
 | non | bl (b:Bool) | int (i:Int) | str (x:Str) | byt (b:Array UInt8) | flt (b:UInt64) | ref (a:Addr) | ty (n:String)
 deriving DecidableEq
def jN:V->Value->Prop
 | .non,u=>u=Value.none
 | .bl b,u=>u=Value.bool b
 | .int i,u=>∃ t,u=Value.int i t
 | .str x,u=>∃ t,u=Value.str x t
 | .byt b,u=>∃ t,u=Value.bytes b t
 | .flt b,u=>∃ t,u=Value.float b t
 | .ref a,u=>u=Value.ref a
 | .ty n,u=>u=Value.type n
abbrev zb:List V->List Value->Prop:=Paired jN
theorem zb.length {xs:List V} {us:List Value} (r:zb xs us):xs.length=us.length:=Paired.length r
theorem zb.get:∀ {xs:List V} {us:List Value} {i:Nat} {x:V},zb xs us->xs[i]? = some x->∃ u,us[i]? = some u/\jN x u
 | _,_,_,_,.nil,e=>by simp at e
 | _,_,0,_,.cons r _,e=>by simp at e;subst e;exact ⟨_,rfl,r⟩
 | _,_,i+1,x,.cons _ t,e=>by
  obtain ⟨u,h1,h2⟩:=zb.get (i:=i) (x:=x) t (by simpa using e)
  exact ⟨u,by simpa using h1,h2⟩
theorem zb.set {x:V} {u:Value} (r:jN x u):∀ {xs:List V} {us:List Value} (i:Nat),zb xs us->zb (xs.set i x) (us.set i u)
 | _,_,_,.nil => .nil
 | _,_,0,.cons _ t => .cons r t
 | _,_,i+1,.cons q t => .cons q (zb.set r i t)
theorem zb.append:∀ {xs ys:List V} {us ws:List Value},zb xs us->zb ys ws->zb (xs++ys) (us++ws)
 | _,_,_,_,.nil,s=>s
 | _,_,_,_,.cons r t,s => .cons r (zb.append t s)
theorem zb.take:∀ {xs:List V} {us:List Value} (n:Nat),zb xs us->zb (xs.take n) (us.take n)
 | _,_,0,_ => .nil
 | _,_,_+1,.nil => .nil
 | _,_,n+1,.cons r t => .cons r (zb.take n t)
theorem zb.drop:∀ {xs:List V} {us:List Value} (n:Nat),zb xs us->zb (xs.drop n) (us.drop n)
 | _,_,0,r=>r
 | _,_,_+1,.nil => .nil
 | _,_,n+1,.cons _ t=>zb.drop n t
def qn2:Option V->Option Value->Prop
 | some v,some u=>jN v u
 | none,none=>True
 | _,_=>False
def KV {κ:Type}:List (κ×V)->List (κ×Value)->Prop:=Paired fun (p:κ×V) (q:κ×Value)=>p.1=q.1/\jN p.2 q.2
def kV:Key->V
 | .inl i => .int i
 | .inr x => .str x
inductive HO where
 /-- a list -/
 | lst (xs:List V)
 /-- a tuple (never changes) -/
 | tup (xs:List V)
 /-- a dict whose keys are ints and texts;one whose keys are tuples of ints and texts (the empty one is both) -/
 | dK (kvs:List (Key×V)) | dT (kvs:List (List Key×V))
 /-- a set of ints: its members,its size -/
 | set (S:Int->Bool) (n:Nat)
 /-- an instance of the class at C,its dict at dx,its attributes -/
 | ins (C dx:Addr) (fs:List (Str×V))
 /-- the dict of the instance at x -/
 | own (x:Addr)
 /-- the dict of an exception -/
 | xd (fs:List (Str×V))
 /-- a bound method,f of x -/
 | met (f x:Addr)
 /-- a range object lo,lo+1,.. below hi -/
 | rng (lo hi:Int)
 /-- a thing that is known to the object (the script;a dict while a loop walks it): read,never written while it is so -/
 | frz (o:Obj) (u:HO)
 /-- a code object's table -/
 | tbl (ps:Array Value)
 /-- any other thing,by what is true of its one object (a def of one's own: SetO a S n:=HO.ext fun h => ..) -/
 | ext (φ:Heap->Prop)
 /-- the table of a code object in which at most one lambda's code stands -/
 | lam (pos:Pos) (q:Str)
abbrev Hp:=Addr->Option HO
def upd (H:Hp) (a:Addr) (o:HO):Hp:=fun b=>if b=a then some o else H b
theorem qA {H:Hp} {a:Addr} {o:HO}:upd H a o a=some o:=by unfold upd;rw [if_pos rfl]
theorem qx {H:Hp} {a b:Addr} {o:HO} (h:b≠a):upd H a o b=H b:=by unfold upd;rw [if_neg h]
theorem wD {H:Hp} {a b:Addr} {o u:HO} (h:H a=some o) (h':H b=some u) (d:o≠u):a≠b:=by
 intro e;subst e;rw [h] at h';exact d (Option.some.inj h')
theorem qK {H:Hp} {a b:Addr} {o:HO} (h:H a=some o) (h':H b=none):a≠b:=by
 intro e;subst e;rw [h] at h';cases h'
section
variable (P:Program) (w:World)
def uh (H:Hp) (h:Heap) (a:Addr):HO->Prop
 | .lst xs=>xs.length<=sizeLine/\∃ (its:List Value) (n:Nat),zb xs its/\h.get? a=some { cls := .type "list",data := .seq its.toArray n }
 | .tup xs=>xs.length<=sizeLine/\∃ its:List Value,zb xs its/\IsTup h a its.toArray
 | .dK kvs=>kvs.length<=sizeLine/\(a==sysModules)=false/\∃ vs,KV kvs vs/\h.DictOf (qcB P w) a vs
 | .dT kvs=>kvs.length<=sizeLine/\(a==sysModules)=false/\∃ xs:List (List Key×Addr×Value),
   Paired (fun (p:List Key×V) (q:List Key×Addr×Value)=>p.1=q.1/\H q.2.1=some (.tup (p.1.map kV))/\jN p.2 q.2.2) kvs xs /\
   ∃ o es ep,h.get? a=some o/\o.ExactDict/\o.data = .dict es ep/\es.toList=xs.map (entryOfKey (tupleKind (qcB P w)))/\(xs.map (·.1)).Nodup
 | .set S n=>h.SetOf (intKind P w) a S n
 | .ins C dx fs=>H dx=some (.own a)/\fs.length<=1000/\dx≠a/\h.get? a=some (PySem.W.instObj C dx) /\
   ∃ mA,h.Ns1 dx mA/\(∀ f,qn2 (fs.lookup f) (mA f))/\PySem.Within mA (fs.map (·.1))
 | .own _=>∃ o,h.get? a=some o
 | .xd fs=>∃ mA,h.Ns1 a mA/\∀ f,qn2 (fs.lookup f) (mA f)
 | .rng lo hi=>∃ t u v,h.get? a=some { cls := .type "range",data := .fields #[.int lo t,.int hi u,.int 1 v] }
 | .frz o u=>h.get? a=some o/\uh H h a u
 | .tbl ps=>h.get? a=some { cls := .none,data := .fields ps }
 | .met f x=>h.get? a=some (PySem.W.methodObj (.ref f) (.ref x))
 | .lam pos q=>h.get? a=some { cls := .none,data := .fields #[] }\/∃ (c:Addr) (oc:Obj) (vs:Array Value) (t:Tok),H c=some (.frz oc (.own c))/\oc.data = .fields vs/\vs[1]? = some (.str q t) /\
   h.get? a=some { cls := .none,data := .fields #[rawInt pos.line,rawInt pos.col,.ref c] }
 | .ext φ=>φ h/\(∃ o,h.get? a=some o)/\∀ h1 h2:Heap,φ h1->(∀ o,h1.get? a=some o->h2.get? a=some o)->φ h2
def HOk (H:Hp) (h:Heap):Prop:=∀ a o,H a=some o->uh P w H h a o
end
section
variable {P:Program} {w:World} {H H':Hp} {h h':Heap} {a:Addr} {o:HO}
theorem uh.lt (x:uh P w H h a o):a<h.objs.size:=by
 cases o with
 | lst xs=>obtain ⟨_,_,_,_,e⟩:=x;exact Heap.lt_size e
 | tup xs=>obtain ⟨_,_,_,p⟩:=x;exact p.lt
 | dK kvs=>obtain ⟨_,_,_,_,o,_,_,e,_⟩:=x;exact Heap.lt_size e
 | dT kvs=>obtain ⟨_,_,_,_,o,_,_,e,_⟩:=x;exact Heap.lt_size e
 | set S n=>obtain ⟨o,_,_,_,e,_⟩:=x;exact Heap.lt_size e
 | ins C dx fs=>obtain ⟨_,_,_,e,_⟩:=x;exact Heap.lt_size e
 | own y=>obtain ⟨_,e⟩:=x;exact Heap.lt_size e
 | xd fs=>obtain ⟨_,⟨_,_,_,e,_⟩,_⟩:=x;exact Heap.lt_size e
 | rng lo hi=>obtain ⟨_,_,_,e⟩:=x;exact Heap.lt_size e
 | frz ob u=>obtain ⟨e,_⟩:=x;exact Heap.lt_size e
 | tbl ps=>exact Heap.lt_size (show h.get? a=some _ from x)
 | met f y=>exact Heap.lt_size (show h.get? a=some _ from x)
 | ext φ=>obtain ⟨_,⟨_,e⟩,_⟩:=x;exact Heap.lt_size e
 | lam pos q =>
  rcases x with e | ⟨_,_,_,_,_,_,_,e⟩
  ·exact Heap.lt_size e
  ·exact Heap.lt_size e
theorem Paired.mapP {α β:Type} {F G:α->β->Prop}:∀ {lQ:List α} {lK:List β},Paired F lQ lK->(∀ a b,F a b->G a b)->Paired G lQ lK
 | _,_,.nil,_ => .nil
 | _,_,.cons r t,f => .cons (f _ _ r) (Paired.mapP t f)
theorem uh.stay (x:uh P w H h a o) (k:∀ b u,(b=a\/H b=some (.own a))->h.get? b=some u->h'.get? b=some u)
  (ho:∀ b,H b=some (.own a)->H' b=some (.own a)) (ht:∀ b xs,H b=some (.tup xs)->H' b=some (.tup xs)) (hz:∀ b ob u,H b=some (.frz ob u)->H' b=some (.frz ob u):=by exact fun _ _ _ q=>q):uh P w H' h' a o:=by
 induction o with
 | lst xs=>obtain ⟨z,its,n,r,e⟩:=x;exact ⟨z,its,n,r,k _ _ (.inl rfl) e⟩
 | tup xs=>obtain ⟨z,its,r,ob,e,c⟩:=x;exact ⟨z,its,r,ob,k _ _ (.inl rfl) e,c⟩
 | dK kvs=>obtain ⟨z,y,vs,r,ob,es,ep,e,c⟩:=x;exact ⟨z,y,vs,r,ob,es,ep,k _ _ (.inl rfl) e,c⟩
 | dT kvs =>
  obtain ⟨z,y,xs,r,ob,es,ep,e,c⟩:=x
  exact ⟨z,y,xs,Paired.mapP r fun p q z=>⟨z.1,ht _ _ z.2.1,z.2.2⟩,ob,es,ep,k _ _ (.inl rfl) e,c⟩
 | set S n=>obtain ⟨ob,es,ep,t,e,c⟩:=x;exact ⟨ob,es,ep,t,k _ _ (.inl rfl) e,c⟩
 | ins C dx fs =>
  obtain ⟨d,z,ne,e,mA,⟨od,es,ep,e2,c⟩,r⟩:=x
  exact ⟨ho _ d,z,ne,k _ _ (.inl rfl) e,mA,⟨od,es,ep,k _ _ (.inr d) e2,c⟩,r⟩
 | own y=>obtain ⟨ob,e⟩:=x;exact ⟨ob,k _ _ (.inl rfl) e⟩
 | xd fs=>obtain ⟨mA,⟨od,es,ep,e,c⟩,r⟩:=x;exact ⟨mA,⟨od,es,ep,k _ _ (.inl rfl) e,c⟩,r⟩
 | rng lo hi=>obtain ⟨t,u,v,e⟩:=x;exact ⟨t,u,v,k _ _ (.inl rfl) e⟩
 | frz ob u ih=>obtain ⟨e,q⟩:=x;exact ⟨k _ _ (.inl rfl) e,ih q⟩
 | tbl ps =>
  have e:h.get? a=some { cls := .none,data := .fields ps }:=x
  show h'.get? a=some { cls := .none,data := .fields ps }
  exact k a _ (.inl rfl) e
 | met f y =>
  have e:h.get? a=some (PySem.W.methodObj (.ref f) (.ref y)):=x
  show h'.get? a=some (PySem.W.methodObj (.ref f) (.ref y))
  exact k a _ (.inl rfl) e
 | ext φ=>obtain ⟨p,⟨o,e⟩,st⟩:=x;exact ⟨st _ _ p fun o q=>k _ _ (.inl rfl) q,⟨o,k _ _ (.inl rfl) e⟩,st⟩
 | lam pos q =>
  rcases x with e | ⟨c,oc,vs,t,h1,h2,h3,e⟩
  ·exact .inl (k _ _ (.inl rfl) e)
  ·exact .inr ⟨c,oc,vs,t,hz _ _ _ h1,h2,h3,k _ _ (.inl rfl) e⟩
theorem HOk.lt (x:HOk P w H h) (e:H a=some o):a<h.objs.size:=(x a o e).lt
theorem HOk.fresh (x:HOk P w H h) (e:h.objs.size<=a):H a=none:=by
 cases q:H a with
 | none=>rfl
 | some u=>exact absurd (Nat.lt_of_lt_of_le (x.lt q) e) (Nat.lt_irrefl _)
theorem HOk.kept (x:HOk P w H h) (k:∀ b u,h.get? b=some u->h'.get? b=some u):HOk P w H h':=fun a o e =>
 (x a o e).stay (fun b u _ q=>k b u q) (fun _ q=>q) fun _ _ q=>q
theorem HOk.laid (x:HOk P w H h) (k:∀ b u,h.get? b=some u->h'.get? b=some u) (hp:h.objs.size<=a) (new:uh P w (upd H a o) h' a o):HOk P w (upd H a o) h':=fun b u e=>by
 have hn:=x.fresh hp
 by_cases hb:b=a
 ·subst hb;rw [qA] at e;cases e;exact new
 ·rw [qx hb] at e
  exact (x b u e).stay (fun c v _ q=>k c v q) (fun c q=>by rw [qx (qK q hn)];exact q) (fun c xs q=>by rw [qx (qK q hn)];exact q) fun c ob z q=>by rw [qx (qK q hn)];exact q
end
def Rd (H:Hp) (a:Addr) (u:HO):Prop:=H a=some u\/∃ o,H a=some (.frz o u)
theorem Rd.ok {P:Program} {w:World} {H:Hp} {h:Heap} {a:Addr} {u:HO} (r:Rd H a u) (x:HOk P w H h):uh P w H h a u:=by
 rcases r with r | ⟨o,r⟩
 ·exact x a u r
 ·obtain ⟨_,q⟩:=x a _ r
  exact q
def Mut:Option HO->Prop
 | some (.lst _)=>True
 | some (.dK _)=>True
 | some (.dT _)=>True
 | some (.set _ _)=>True
 | some (.ins _ _ _)=>True
 | some (.ext _)=>True
 | _=>False
section
variable {P:Program} {w:World} {H:Hp} {h h':Heap} {x e:Addr} {o':HO}
theorem HOk.write (ok:HOk P w H h) (mu:Mut (H x)) (he:e=x\/H e=some (.own x)) (k:∀ b u,b≠e->h.get? b=some u->h'.get? b=some u) (heo:∃ u,h'.get? e=some u)
  (new:uh P w (upd H x o') h' x o'):HOk P w (upd H x o') h':=fun b u q=>by
 have nown:∀ c y,H c=some (.own y)->c≠x:=fun c y r z=>by subst z;rw [r] at mu;exact mu
 have ntup:∀ c xs,H c=some (.tup xs)->c≠x:=fun c xs r z=>by subst z;rw [r] at mu;exact mu
 have nfrz:∀ c ob y,H c=some (.frz ob y)->c≠x:=fun c ob y r z=>by subst z;rw [r] at mu;exact mu
 by_cases hb:b=x
 ·subst hb;rw [qA] at q;cases q;exact new
 ·rw [qx hb] at q
  by_cases hbe:b=e
  ·have q':H b=some (.own x):=by
    rcases he with z | z
    ·exact absurd (hbe.trans z) hb
    ·rw [hbe];exact z
   rw [q] at q';cases q'
   obtain ⟨v,hv⟩:=heo
   exact ⟨v,by rw [hbe];exact hv⟩
  ·refine (ok b u q).stay (fun c v hc r=>k c v ?_ r) (fun c r=>by rw [qx (nown c b r)];exact r) (fun c xs r=>by rw [qx (ntup c xs r)];exact r) fun c ob z r=>by rw [qx (nfrz c ob z r)];exact r
   rcases hc with rfl | hc
   ·exact hbe
   ·rintro rfl
    rcases he with z | z
    ·exact nown c b hc z
    ·rw [hc] at z;cases z;exact hb rfl
end
structure Un (fs ex:List Addr) (H H':Hp) (h h':Heap):Prop where
 keep:∀ b o,h.get? b=some o->H b=none->b ∉ fs->b ∉ ex->h'.get? b=some o
 slot:∀ b o,h.get? b=some o->H b=none->b∈fs->b ∉ ex->∃ sl,h'.get? b=some { o with slots:=sl }
 free:∀ b o,h.get? b=some o->H b=none->b ∉ ex->H' b=none
 there:∀ b o,h.get? b=some o->b ∉ ex->∃ o',h'.get? b=some o'
 tups:∀ b xs,H b=some (.tup xs)->H' b=some (.tup xs)
 frzs:∀ b o u,H b=some (.frz o u)->H' b=some (.frz o u)
 tbls:∀ b pos q,H b=some (.lam pos q)->H' b=some (.lam pos q)
section
variable {fs fs' ex ex':List Addr} {H H1 H2:Hp} {h h1 h2 h':Heap} {a x e:Addr} {o:HO}
theorem Un.any (u:Un fs ex H H1 h h1) {b:Addr} {ob:Obj} (q:h.get? b=some ob) (n:H b=none) (hx:b ∉ ex):∃ sl,h1.get? b=some { ob with slots:=sl }:=by
 by_cases hb:b∈fs
 ·exact u.slot b ob q n hb hx
 ·exact ⟨ob.slots,u.keep b ob q n hb hx⟩
theorem Un.trans (a:Un fs ex H H1 h h1) (b:Un fs ex H1 H2 h1 h2):Un fs ex H H2 h h2 where
 keep:=fun c ob q n hc hx=>b.keep c ob (a.keep c ob q n hc hx) (a.free c ob q n hx) hc hx
 slot:=fun c ob q n hc hx=>by
  obtain ⟨sl,e1⟩:=a.slot c ob q n hc hx
  obtain ⟨sl',e2⟩:=b.slot c _ e1 (a.free c ob q n hx) hc hx
  exact ⟨sl',e2⟩
 free:=fun c ob q n hx=>by
  obtain ⟨o',e1⟩:=a.there c ob q hx
  exact b.free c o' e1 (a.free c ob q n hx) hx
 there:=fun c ob q hx=>by
  obtain ⟨o',e1⟩:=a.there c ob q hx
  exact b.there c o' e1 hx
 tups:=fun c xs q=>b.tups c xs (a.tups c xs q)
 frzs:=fun c ob xs q=>b.frzs c ob xs (a.frzs c ob xs q)
 tbls:=fun c ps x q=>b.tbls c ps x (a.tbls c ps x q)
theorem Un.kept (k:∀ b u,h.get? b=some u->h'.get? b=some u):Un fs ex H H h h' :=
 ⟨fun b ob q _ _ _=>k b ob q,fun b ob q _ _ _=>⟨ob.slots,k b ob q⟩,fun _ _ _ n _=>n,fun b ob q _=>⟨ob,k b ob q⟩,fun _ _ q=>q,fun _ _ _ q=>q,fun _ _ _ q=>q⟩
theorem Un.refl:Un fs ex H H h h:=Un.kept fun _ _ q=>q
theorem Un.laid (k:∀ b u,h.get? b=some u->h'.get? b=some u) (hp:h.objs.size<=a) (hn:H a=none):Un fs ex H (upd H a o) h h' where
 keep:=fun b u q _ _ _=>k b u q
 slot:=fun b u q _ _ _=>⟨u.slots,k b u q⟩
 free:=fun b u q n _=>by rw [qx (Nat.ne_of_lt (Nat.lt_of_lt_of_le (Heap.lt_size q) hp))];exact n
 there:=fun b u q _=>⟨u,k b u q⟩
 tups:=fun b xs q=>by rw [qx (qK q hn)];exact q
 frzs:=fun b u xs q=>by rw [qx (qK q hn)];exact q
 tbls:=fun b ps x q=>by rw [qx (qK q hn)];exact q
theorem Un.write (mu:Mut (H x)) (he:e=x\/H e=some (.own x)) (k:∀ b u,b≠e->h.get? b=some u->h'.get? b=some u) (heo:∃ u,h'.get? e=some u):Un fs ex H (upd H x o) h h':=by
 have hx:∀ b,H b=none->b≠x:=fun b n z=>by subst z;rw [n] at mu;exact mu
 have hb:∀ b,H b=none->b≠e:=fun b n z=>by
  subst z
  rcases he with r | r
  ·exact hx b n r
  ·rw [n] at r;cases r
 have hm:∀ b u,H b=some u->¬ Mut (some u)->b≠x:=fun b u q nm z=>by subst z;rw [q] at mu;exact nm mu
 refine ⟨fun b u q n _ _=>k b u (hb b n) q,fun b u q n _ _=>⟨u.slots,k b u (hb b n) q⟩,fun b u q n _=>by rw [qx (hx b n)];exact n,fun b u q _ => ?_,
  fun b xs q=>by rw [qx (hm b _ q fun z=>z)];exact q,fun b u xs q=>by rw [qx (hm b _ q fun z=>z)];exact q,fun b ps x q=>by rw [qx (hm b _ q fun z=>z)];exact q⟩
 by_cases hbe:b=e
 ·subst hbe;exact heo
 ·exact ⟨u,k b u hbe q⟩
end
def trk (h:Heap) (H:Hp):List Addr:=(List.range h.objs.size).filter fun a=>(H a).isSome
def qif (h:Heap) (H:Hp):Heap:=PySem.W.hideAll h (trk h H)
theorem qgx (h:Heap) (H:Hp):(qif h H).objs.size=h.objs.size:=PySem.W.hideAll_size _ _
theorem qig {h:Heap} {H:Hp} {b:Addr} {o:Obj} (e:h.get? b=some o) (n:H b=none):(qif h H).get? b=some o :=
 PySem.W.hideAll_get _ e fun hm=>by
  have q:(H b).isSome=true:=(List.mem_filter.mp hm).2
  rw [n] at q;simp at q
theorem qkc {h:Heap} {H:Hp} {b:Addr} {o:Obj} (e:(qif h H).get? b=some o):h.get? b=some o/\H b=none:=by
 have e':h.get? b=some o:=PySem.W.of_hideAll (trk h H) e
 refine ⟨e',?_⟩
 cases q:H b with
 | none=>rfl
 | some x =>
  have hm:b∈trk h H:=List.mem_filter.mpr ⟨mR_.mpr (Heap.lt_size e'),by simp [q]⟩
  have z:(qif h H).get? b=none:=PySem.W.hideAll_none (trk h H) hm
  rw [z] at e;cases e
def qkd (g h:Heap) (L:Addr):List (Addr×Obj):=(List.range h.objs.size).filterMap fun a=>if a=L\/(g.get? a).isSome=true then none else (h.get? a).map fun o=>(a,o)
def wA (g h:Heap) (L d:Addr):List (Addr×Obj):=(qkd g h L).filter fun p=>decide (p.1≠d)
end L2
namespace L2
open PySem PySem.Spec PyProof.Rows
structure Mod (K:PySem.W.Frag) (mg:Str->Option Value) (base:Heap):Prop where
 kin:K.In base
 glob:base.Ns mainGlobals mg
 blt:∃ mb,base.Ns builtinsNs mb/\∀ x:Str,x≠"__name__"->mb x=bootBuiltins x
 nolimit:base.NoLimit
 bm:∃ bm ob,mg "__builtins__"=some (.ref bm)/\bm≠builtinsNs/\base.get? bm=some ob/\ob.cls = .type "module"/\ob.dict=some builtinsNs/\ob.data = .plain
structure Cx where
 prog:Program
 w:World
 K:PySem.W.Frag
 mg:Str->Option Value
 base:Heap
 A:Around
 N:List Str
 s₀:Shared
 H₀:Hp
 env:Env
 outer:List Env
 stack:List Env
 ex:List Addr
 fn:Str->Bool
 calm:Bool
 pn:List (Addr×Obj)
 xe:Value->Shared->Prop
def frs (l:List Env):List Addr:=l.filterMap (·.frame)
abbrev Cx.fs (X:Cx):List Addr:=frs X.outer
def Vis (sc:Scope) (x:Str):Prop:=sc.names.lookup x=some .local\/sc.names.lookup x=some .cell\/sc.names.lookup x=some .free
def Loc (sc:Scope) (x:Str):Prop:=sc.names.lookup x=some .local\/sc.names.lookup x=some .cell
def qpu (env:Env) (h:Heap) (m:Str->Option Value) (x:Str) (u:Value):Prop :=
 (env.kindOf x=some .local/\m x=some u)\/((env.kindOf x=some .cell\/env.kindOf x=some .free)/\∃ c,env.cells.lookup x=some c/\h.IsCell c (some u))
structure Cx.Ok (X:Cx):Prop where
 mod:Mod X.K X.mg X.base
 kind:X.env.scope.kind = .function
 glob:X.env.globals=mainGlobals
 blt:X.env.builtins=builtinsNs
 above:X.s₀.heap.objs.size<=X.env.locals
 inj:∀ x y c,X.env.cells.lookup x=some c->X.env.cells.lookup y=some c->x=y
 has:∀ x,(X.env.kindOf x=some .cell\/X.env.kindOf x=some .free)->∃ c,X.env.cells.lookup x=some c
 cab:∀ x c,X.fn x=true->X.env.cells.lookup x=some c->X.s₀.heap.objs.size<=c
 hd:X.calm=true->X.A.handled=none
 frames:X.A.frames=some X.stack
 stk:X.stack=X.outer\/(X.stack=X.env::X.outer/\X.env.frame=some X.env.locals)
 exf:∀ b∈X.ex,b≠X.env.locals/\∀ x c,X.env.cells.lookup x=some c->c≠b
 bs:∀ b o,X.base.get? b=some o->X.s₀.heap.get? b=some o/\X.H₀ b=none
 bsz:X.base.objs.size<=X.s₀.heap.objs.size
 noex:∀ b o,X.base.get? b=some o->b ∉ X.ex
 exfs:∀ b∈X.ex,b ∉ X.fs
 funs:X.s₀.heap.FunFrames X.base X.outer
 frf:∀ b∈X.fs,X.H₀ b=none
structure Inv (X:Cx) (pins:List (Addr×Obj)) (Z:List (Option V)) (H:Hp) (s:Shared):Prop where
 ok:X.Ok
 os:s.os=X.s₀.os
 bare:AllBare s.gens
 base:Un X.fs X.ex X.H₀ H X.s₀.heap s.heap
 loc:∃ m,s.heap.Ns X.env.locals m/\∀ (i:Nat) (x:Str) (v:V),X.N[i]? = some x->Z[i]? = some (some v)->Vis X.env.scope x->∃ u,jN v u/\qpu X.env s.heap m x u
 cell:∀ x c,X.env.cells.lookup x=some c->∃ v,s.heap.IsCell c v
 free:H X.env.locals=none
 freeC:∀ x c,X.env.cells.lookup x=some c->H c=none
 pin:∀ p∈X.pn++pins,s.heap.get? p.1=some p.2/\H p.1=none/\p.1≠X.env.locals/\p.1 ∉ X.fs/\∀ v,p.2.data ≠ .cell v
 hok:HOk X.prog X.w H s.heap
 len:Z.length=X.N.length
section
variable {X:Cx} {pins:List (Addr×Obj)} {Z:List (Option V)} {H H':Hp} {s:Shared} {h':Heap}
theorem Cx.Ok.nofr (ok:X.Ok) {b:Addr} {o:Obj} (e:X.base.get? b=some o):b ∉ X.fs:=fun hb=>by
 have:=(ok.funs.mem hb).1
 rw [e] at this;cases this
theorem Inv.bs (I:Inv X pins Z H s):∀ b o,X.base.get? b=some o->s.heap.get? b=some o/\H b=none:=fun b o e =>
 ⟨I.base.keep b o (I.ok.bs b o e).1 (I.ok.bs b o e).2 (I.ok.nofr e) (I.ok.noex b o e),I.base.free b o (I.ok.bs b o e).1 (I.ok.bs b o e).2 (I.ok.noex b o e)⟩
theorem Inv.bk (I:Inv X pins Z H s):∀ b o,X.base.get? b=some o->s.heap.get? b=some o:=fun b o e=>(I.bs b o e).1
theorem Inv.mod (I:Inv X pins Z H s):Mod X.K X.mg X.base:=I.ok.mod
theorem Inv.kIn (I:Inv X pins Z H s):X.K.In s.heap:=I.ok.mod.kin.keeps I.bk
theorem Inv.lt (I:Inv X pins Z H s):X.env.locals<s.heap.objs.size:=let ⟨_,hn,_⟩:=I.loc;hn.lt
theorem Inv.sz (I:Inv X pins Z H s):X.s₀.heap.objs.size<=s.heap.objs.size:=Nat.le_trans I.ok.above (Nat.le_of_lt I.lt)
theorem Inv.nofs (I:Inv X pins Z H s) {a:Addr} (h:s.heap.objs.size<=a):a ∉ X.fs:=fun hb=>by
 obtain ⟨_,o,ho,_⟩:=I.ok.funs.mem hb
 exact absurd (Nat.lt_of_lt_of_le (Heap.lt_size ho) (Nat.le_trans I.sz h)) (Nat.lt_irrefl _)
theorem Inv.cne (I:Inv X pins Z H s):∀ x c,X.env.cells.lookup x=some c->c≠X.env.locals:=fun x c e z=>by
 obtain ⟨v,o,ho,hd⟩:=I.cell x c e
 obtain ⟨m,⟨o',es,ep,ho',hd',_⟩,_⟩:=I.loc
 rw [z,ho'] at ho;cases ho;rw [hd'] at hd;cases hd
theorem Inv.funs (I:Inv X pins Z H s):s.heap.FunFrames X.base X.outer:=by
 have all:∀ (l:List Env),(∀ b∈frs l,b∈X.fs)->X.s₀.heap.FunFrames X.base l->s.heap.FunFrames X.base l:=by
  intro l
  induction l with
  | nil=>intro _ _;trivial
  | cons env r ih =>
   intro hs hl
   obtain ⟨hk,⟨L,o,hf,hn,ho,hd⟩,hr⟩:=hl
   have hL:L∈X.fs:=hs L (by unfold frs;rw [List.filterMap_cons,hf];exact mS_)
   obtain ⟨sl,e⟩:=I.base.slot L o ho (I.ok.frf L hL) hL fun z=>I.ok.exfs L z hL
   exact ⟨hk,⟨L,_,hf,hn,e,hd⟩,ih (fun b hb=>hs b (by unfold frs;rw [List.filterMap_cons,hf];exact mM _ hb)) hr⟩
 exact all X.outer (fun _ hb=>hb) I.ok.funs
theorem Inv.stack (I:Inv X pins Z H s):s.heap.FunFrames X.base X.stack:=by
 rcases I.ok.stk with e | ⟨e,hf⟩
 ·rw [e];exact I.funs
 ·rw [e]
  obtain ⟨m,hn,_⟩:=I.loc
  refine .cons (by rw [I.ok.kind];decide) hf hn ?_ I.funs
  exact Heap.get?_none_of_le (Nat.le_trans I.ok.bsz I.ok.above)
theorem Inv.stkSub (I:Inv X pins Z H s):∀ b∈frs X.stack,b∈X.env.locals::X.fs:=fun b hb=>by
 rcases I.ok.stk with e | ⟨e,hf⟩
 ·rw [e] at hb;exact mM _ hb
 ·rw [e] at hb
  unfold frs at hb
  rw [List.filterMap_cons,hf] at hb
  exact hb
theorem Inv.stkFree (I:Inv X pins Z H s):∀ b∈frs X.stack,H b=none:=fun b hb=>by
 rcases List.mem_cons.mp (I.stkSub b hb) with e | hb
 ·rw [e];exact I.free
 ·obtain ⟨_,o,ho,_⟩:=I.ok.funs.mem hb
  exact I.base.free b o ho (I.ok.frf b hb) fun z=>I.ok.exfs b z hb
theorem Inv.step {g':Array GenState} {t':Nat} {d':Drawn} {ch:List Addr} (I:Inv X pins Z H s)
  (hch:∀ b∈ch,(b∈X.ex\/X.s₀.heap.objs.size<=b)/\b≠X.env.locals/\(∀ x c,X.env.cells.lookup x=some c->c≠b)/\∀ p∈X.pn++pins,p.1≠b)
  (keep:∀ b o,b≠X.env.locals->b ∉ X.fs->b ∉ ch->s.heap.get? b=some o->H b=none->h'.get? b=some o)
  (slot:∀ b o,b≠X.env.locals->b∈X.fs->b ∉ ch->s.heap.get? b=some o->H b=none->∃ sl,h'.get? b=some { o with slots:=sl }) (free:∀ b o,b ∉ ch->s.heap.get? b=some o->H b=none->H' b=none)
  (there:∀ b o,b ∉ ch->s.heap.get? b=some o->∃ o',h'.get? b=some o')
  (tups:∀ b xs,H b=some (.tup xs)->H' b=some (.tup xs)) (frzs:∀ b o u,H b=some (.frz o u)->H' b=some (.frz o u)) (tbls:∀ b pos q,H b=some (.lam pos q)->H' b=some (.lam pos q))
  (ns:∀ m,s.heap.Ns X.env.locals m->h'.Ns X.env.locals m) (hok:HOk X.prog X.w H' h') (hg:AllBare g') :
  Inv X pins Z H' { s with heap:=h',gens:=g',drawn:=d',toks:=t' }:=by
 have neL:∀ b o,X.s₀.heap.get? b=some o->b≠X.env.locals:=fun b o e=>Nat.ne_of_lt (Nat.lt_of_lt_of_le (Heap.lt_size e) I.ok.above)
 have neC:∀ b o,X.s₀.heap.get? b=some o->b ∉ X.ex->b ∉ ch:=fun b o e hx hb=>by
  rcases (hch b hb).1 with z | z
  ·exact hx z
  ·exact absurd (Nat.lt_of_lt_of_le (Heap.lt_size e) z) (Nat.lt_irrefl _)
 have cellK:∀ x c,X.env.cells.lookup x=some c->∀ v,s.heap.IsCell c v->h'.IsCell c v:=fun x c e v ⟨o,ho,hd⟩=>by
  have nch:c ∉ ch:=fun z=>(hch c z).2.2.1 x c e rfl
  by_cases hc:c∈X.fs
  ·obtain ⟨sl,q⟩:=slot c o (I.cne x c e) hc nch ho (I.freeC x c e)
   exact ⟨_,q,hd⟩
  ·exact ⟨o,keep c o (I.cne x c e) hc nch ho (I.freeC x c e),hd⟩
 refine ⟨I.ok,I.os,hg,⟨fun b o e n hb hx => ?_,fun b o e n hb hx => ?_,fun b o e n hx => ?_,fun b o e hx => ?_,fun b xs e=>tups b xs (I.base.tups b xs e),fun b o xs e=>frzs b o xs (I.base.frzs b o xs e),fun b ps x e=>tbls b ps x (I.base.tbls b ps x e)⟩,?_,fun x c e => ?_,?_,fun x c e => ?_,fun p hp => ?_,hok,I.len⟩
 ·exact keep b o (neL b o e) hb (neC b o e hx) (I.base.keep b o e n hb hx) (I.base.free b o e n hx)
 ·obtain ⟨sl,e1⟩:=I.base.slot b o e n hb hx
  obtain ⟨sl',e2⟩:=slot b _ (neL b o e) hb (neC b o e hx) e1 (I.base.free b o e n hx)
  exact ⟨sl',e2⟩
 ·obtain ⟨o',e1⟩:=I.base.there b o e hx
  exact free b o' (neC b o e hx) e1 (I.base.free b o e n hx)
 ·obtain ⟨o',e1⟩:=I.base.there b o e hx
  exact there b o' (neC b o e hx) e1
 ·obtain ⟨m,hn,hl⟩:=I.loc
  refine ⟨m,ns m hn,fun i x v e1 e2 e3 => ?_⟩
  obtain ⟨u,r,l⟩:=hl i x v e1 e2 e3
  refine ⟨u,r,?_⟩
  rcases l with l | ⟨k,c,e,z⟩
  ·exact .inl l
  ·exact .inr ⟨k,c,e,cellK x c e _ z⟩
 ·obtain ⟨v,z⟩:=I.cell x c e
  exact ⟨v,cellK x c e v z⟩
 ·obtain ⟨m,⟨o,_,_,ho,_⟩,_⟩:=I.loc
  exact free _ o (fun z=>(hch _ z).2.1 rfl) ho I.free
 ·obtain ⟨v,o,ho,hd⟩:=I.cell x c e
  exact free c o (fun z=>(hch c z).2.2.1 x c e rfl) ho (I.freeC x c e)
 ·obtain ⟨e,n,ne,nf,d⟩:=I.pin p hp
  have nch:p.1 ∉ ch:=fun z=>(hch p.1 z).2.2.2 p hp rfl
  exact ⟨keep p.1 p.2 ne nf nch e n,free p.1 p.2 nch e n,ne,nf,d⟩
theorem Inv.un {t':Nat} (I:Inv X pins Z H s) (u:Un X.fs [] H H' s.heap h') (hok:HOk X.prog X.w H' h'):Inv X pins Z H' { s with heap:=h',toks:=t' }:=by
 obtain ⟨m,⟨o,es,ep,ho,r⟩,_⟩:=id I.loc
 obtain ⟨sl,hL⟩:=u.any ho I.free (by simp)
 exact I.step (g':=s.gens) (d':=s.drawn) (ch:=[]) (fun _ z=>nomatch z) (fun b o _ hb _ e n=>u.keep b o e n hb (by simp)) (fun b o _ hb _ e n=>u.slot b o e n hb (by simp)) (fun b o _ e n=>u.free b o e n (by simp)) (fun b o _ e=>u.there b o e (by simp)) u.tups u.frzs u.tbls (fun m' hm=>by
  obtain ⟨o',es',ep',ho',r'⟩:=hm
  rw [ho] at ho';cases ho'
  exact ⟨_,es',ep',hL,r'⟩) hok I.bare
theorem Inv.call {g':Array GenState} {t':Nat} {d':Drawn} {ch:List Addr} (I:Inv X pins Z H s) (u:Un (frs X.stack) ch H H' s.heap h') (hok:HOk X.prog X.w H' h') (hg:AllBare g')
  (hch:∀ b∈ch,(b∈X.ex\/X.s₀.heap.objs.size<=b)/\b≠X.env.locals/\(∀ x c,X.env.cells.lookup x=some c->c≠b)/\∀ p∈X.pn++pins,p.1≠b) :
  Inv X pins Z H' { s with heap:=h',gens:=g',drawn:=d',toks:=t' }:=by
 obtain ⟨m,⟨o,es,ep,ho,r⟩,_⟩:=id I.loc
 obtain ⟨sl,hL⟩:=u.any ho I.free fun z=>(hch _ z).2.1 rfl
 exact I.step (ch:=ch) hch (fun b o hL hb hc e n=>u.keep b o e n (fun z=>(List.mem_cons.mp (I.stkSub b z)).elim hL hb) hc) (fun b o _ _ hc e n=>u.any e n hc) (fun b o hc e n=>u.free b o e n hc) (fun b o hc e=>u.there b o e hc) u.tups u.frzs u.tbls (fun m' hm=>by
  obtain ⟨o',es',ep',ho',r'⟩:=hm
  rw [ho] at ho';cases ho'
  exact ⟨_,es',ep',hL,r'⟩) hok hg
theorem Inv.turned {t':Nat} {it:Addr} (I:Inv X pins Z H s) (k:∀ b o,b≠it->s.heap.get? b=some o->h'.get? b=some o) (hn:H it=none) (hL:it≠X.env.locals)
  (h1:it∈X.ex\/X.s₀.heap.objs.size<=it) (h2:∀ x c,X.env.cells.lookup x=some c->c≠it) (h3:∀ p∈X.pn++pins,p.1≠it):Inv X pins Z H { s with heap:=h',toks:=t' }:=by
 have nit:∀ b u,H b=some u->b≠it:=fun b u e z=>by rw [z,hn] at e;cases e
 refine I.step (g':=s.gens) (d':=s.drawn) (ch:=[it]) (fun b hb => ?_) (fun b o _ _ hc e _=>k b o (fun z=>hc (by simp [z])) e) (fun b o _ _ hc e _=>⟨o.slots,k b o (fun z=>hc (by simp [z])) e⟩) (fun _ _ _ _ n=>n)
  (fun b o hc e=>⟨o,k b o (fun z=>hc (by simp [z])) e⟩) (fun _ _ e=>e) (fun _ _ _ e=>e) (fun _ _ _ e=>e) (fun m hm => ?_) (fun b u e => ?_) I.bare
 ·have e:b=it:=by simpa using hb
  subst e
  exact ⟨h1,hL,h2,h3⟩
 ·obtain ⟨o,es,ep,ho,r⟩:=hm
  exact ⟨o,es,ep,k _ o (Ne.symm hL) ho,r⟩
 ·refine (I.hok b u e).stay (fun c v hc q=>k c v ?_ q) (fun _ q=>q) fun _ _ q=>q
  rcases hc with z | z
  ·rw [z];exact nit b u e
  ·exact nit c _ z
theorem Inv.tok (I:Inv X pins Z H s) (t:Nat):Inv X pins Z H { s with toks:=t }:=I.un (h':=s.heap) (t':=t) Un.refl I.hok
theorem Inv.kept {t':Nat} (I:Inv X pins Z H s) (k:∀ b u,s.heap.get? b=some u->h'.get? b=some u):Inv X pins Z H { s with heap:=h',toks:=t' }:=I.un (Un.kept k) (I.hok.kept k)
theorem Inv.laid {a:Addr} {o:HO} {t':Nat} (I:Inv X pins Z H s) (k:∀ b u,s.heap.get? b=some u->h'.get? b=some u) (hp:s.heap.objs.size<=a) (new:uh X.prog X.w (upd H a o) h' a o) :
  Inv X pins Z (upd H a o) { s with heap:=h',toks:=t' }:=I.un (Un.laid k hp (I.hok.fresh hp)) (I.hok.laid k hp new)
theorem Inv.write {x e:Addr} {o:HO} {t':Nat} (I:Inv X pins Z H s) (mu:Mut (H x)) (he:e=x\/H e=some (.own x)) (k:∀ b u,b≠e->s.heap.get? b=some u->h'.get? b=some u) (heo:∃ u,h'.get? e=some u)
  (new:uh X.prog X.w (upd H x o) h' x o):Inv X pins Z (upd H x o) { s with heap:=h',toks:=t' }:=I.un (Un.write mu he k heo) (I.hok.write mu he k heo new)
theorem Inv.pins_of {pins':List (Addr×Obj)} (I:Inv X pins Z H s) (h:∀ p∈pins',s.heap.get? p.1=some p.2/\H p.1=none/\p.1≠X.env.locals/\p.1 ∉ X.fs/\∀ v,p.2.data ≠ .cell v):Inv X pins' Z H s :=
 ⟨I.ok,I.os,I.bare,I.base,I.loc,I.cell,I.free,I.freeC,fun p hp=>(mA_.mp hp).elim (fun z=>I.pin p (List.mem_append_left _ z)) (h p),I.hok,I.len⟩
theorem qfa {N:List Str} (hN:N.Nodup) {i j:Nat} {x:Str} (a:N[i]? = some x) (b:N[j]? = some x):i=j:=by
 obtain ⟨h1,e1⟩:=gI_.mp a
 obtain ⟨h2,e2⟩:=gI_.mp b
 exact (List.getElem_inj hN).mp (e1.trans e2.symm)
theorem qdy {M:Model} {A:Around} {E:Value->Shared->Prop} {i:Nat} {x:Str} {v:V} {u:Value} {Q:Unit->Shared->Prop} (I:Inv X pins Z H s) (hN:X.N.Nodup) (hi:X.N[i]? = some x) (hx:Loc X.env.scope x) (r:jN v u)
  (h:∀ s',Inv X pins (Z.set i (some v)) H s'->(∃ a,Heap.SameBut a s.heap s'.heap/\(a=X.env.locals\/X.env.cells.lookup x=some a))->Q () s') (hf:X.fn x=true\/X.env.scope.names.lookup x=some .local:=by first | exact .inl rfl | exact .inr rfl | assumption):wpAny M A (storeName X.env x u) Q E s:=by
 obtain ⟨m,hn,hl⟩:=id I.loc
 have hcls:(X.env.scope.kind == .class||(X.env.scope.kind == .module&&X.env.locals != X.env.globals))=false:=by rw [I.ok.kind];rfl
 have hiσ:i<Z.length:=by rw [I.len];exact (gI_.mp hi).1
 have cne:=I.cne
 have tracked:∀ {a:Addr} {h':Heap},(∃ o,s.heap.get? a=some o/\H a=none)->Heap.SameBut a s.heap h'->HOk X.prog X.w H h':=fun {a h'} ha hs b ob e=>by
  obtain ⟨_,_,hfree⟩:=ha
  refine (I.hok b ob e).stay (fun c w' hc q=>(hs.2 c ?_).trans q) (fun _ q=>q) fun _ _ q=>q
  rintro rfl
  rcases hc with rfl | hc
  ·rw [hfree] at e;cases e
  ·rw [hfree] at hc;cases hc
 rcases hx with hk | hk
 ·refine wpAny_storeName_local hk hn (fun h' hn' hs => ?_) hcls
  obtain ⟨oL,_,_,hoL,_⟩:=id hn
  refine h _ ⟨I.ok,I.os,I.bare,⟨fun b o e n hb hx => ?_,fun b o e n hb hx => ?_,I.base.free,fun b o e hx => ?_,I.base.tups,I.base.frzs,I.base.tbls⟩,⟨_,hn',fun j y v' e1 e2 e3 => ?_⟩,fun y c e => ?_,I.free,I.freeC,fun p hp => ?_,tracked ⟨oL,hoL,I.free⟩ hs,by simpa using I.len⟩ ⟨_,hs,.inl rfl⟩
  ·exact (hs.2 b (Nat.ne_of_lt (Nat.lt_of_lt_of_le (Heap.lt_size e) I.ok.above))).trans (I.base.keep b o e n hb hx)
  ·obtain ⟨sl,e1⟩:=I.base.slot b o e n hb hx
   exact ⟨sl,(hs.2 b (Nat.ne_of_lt (Nat.lt_of_lt_of_le (Heap.lt_size e) I.ok.above))).trans e1⟩
  ·obtain ⟨o',e1⟩:=I.base.there b o e hx
   exact ⟨o',(hs.2 b (Nat.ne_of_lt (Nat.lt_of_lt_of_le (Heap.lt_size e) I.ok.above))).trans e1⟩
  ·by_cases hj:j=i
   ·subst hj
    rw [hi] at e1;cases e1
    rw [List.getElem?_set_self hiσ] at e2
    cases e2
    exact ⟨u,r,.inl ⟨hk,by simp⟩⟩
   ·rw [List.getElem?_set_ne (Ne.symm hj)] at e2
    obtain ⟨u',r',q⟩:=hl j y v' e1 e2 e3
    refine ⟨u',r',?_⟩
    rcases q with ⟨k,e⟩ | ⟨k,c,e,z⟩
    ·refine .inl ⟨k,?_⟩
     have:y≠x:=fun e=>hj (qfa hN e1 (e▸hi))
     simp [this,e]
    ·exact .inr ⟨k,c,e,z.sameBut hs (cne y c e)⟩
  ·obtain ⟨w',z⟩:=I.cell y c e
   exact ⟨w',z.sameBut hs (cne y c e)⟩
  ·obtain ⟨e,n,ne,nf,d⟩:=I.pin p hp
   exact ⟨(hs.2 p.1 ne).trans e,n,ne,nf,d⟩
 ·have hfn:X.fn x=true:=by
   rcases hf with z | z
   ·exact z
   ·rw [z] at hk;cases hk
  obtain ⟨c,hc⟩:=I.ok.has x (.inl hk)
  obtain ⟨w',z⟩:=I.cell x c hc
  refine wpAny_storeName_cell I.ok.kind hk hc z (fun h' hc' hs => ?_)
  obtain ⟨oc,hoc,hocd⟩:=id z
  refine h { s with heap:=h' } ⟨I.ok,I.os,I.bare,⟨fun b o e n hb hx => ?_,fun b o e n hb hx => ?_,I.base.free,fun b o e hx => ?_,I.base.tups,I.base.frzs,I.base.tbls⟩,⟨m,hn.sameBut hs (Ne.symm (cne x c hc)),fun j y v' e1 e2 e3 => ?_⟩,fun y c' e => ?_,I.free,I.freeC,fun p hp => ?_,tracked ⟨oc,hoc,I.freeC x c hc⟩ hs,by simpa using I.len⟩ ⟨c,hs,.inr hc⟩
  ·exact (hs.2 b (Nat.ne_of_lt (Nat.lt_of_lt_of_le (Heap.lt_size e) (I.ok.cab x c hfn hc)))).trans (I.base.keep b o e n hb hx)
  ·obtain ⟨sl,e1⟩:=I.base.slot b o e n hb hx
   exact ⟨sl,(hs.2 b (Nat.ne_of_lt (Nat.lt_of_lt_of_le (Heap.lt_size e) (I.ok.cab x c hfn hc)))).trans e1⟩
  ·obtain ⟨o',e1⟩:=I.base.there b o e hx
   exact ⟨o',(hs.2 b (Nat.ne_of_lt (Nat.lt_of_lt_of_le (Heap.lt_size e) (I.ok.cab x c hfn hc)))).trans e1⟩
  ·by_cases hj:j=i
   ·subst hj
    rw [hi] at e1;cases e1
    rw [List.getElem?_set_self hiσ] at e2
    cases e2
    exact ⟨u,r,.inr ⟨.inl hk,c,hc,hc'⟩⟩
   ·rw [List.getElem?_set_ne (Ne.symm hj)] at e2
    obtain ⟨u',r',q⟩:=hl j y v' e1 e2 e3
    refine ⟨u',r',?_⟩
    rcases q with q | ⟨k,c',e,z'⟩
    ·exact .inl q
    ·refine .inr ⟨k,c',e,z'.sameBut hs ?_⟩
     rintro rfl
     exact hj (qfa hN e1 (I.ok.inj _ _ _ e hc▸hi))
  ·by_cases hcc:c'=c
   ·subst hcc;exact ⟨_,hc'⟩
   ·obtain ⟨w2,z2⟩:=I.cell y c' e
    exact ⟨w2,z2.sameBut hs hcc⟩
  ·obtain ⟨e,n,ne,nf,d⟩:=I.pin p hp
   refine ⟨(hs.2 p.1 ?_).trans e,n,ne,nf,d⟩
   intro q
   rw [q,hoc] at e
   have q':oc=p.2:=Option.some.inj e
   exact d w' (by rw [<- q'];exact hocd)
theorem qaZ {M:Model} {A:Around} {E:Value->Shared->Prop} {i:Nat} {x:Str} {v:V} {u:Value} {Q:Unit->Shared->Prop} (I:Inv X pins Z H s) (hN:X.N.Nodup) (hi:X.N[i]? = some x) (hx:Loc X.env.scope x) (r:jN v u)
  (h:∀ s',Inv X pins (Z.set i (some v)) H s'->Q () s') (hf:X.fn x=true\/X.env.scope.names.lookup x=some .local:=by first | exact .inl rfl | exact .inr rfl | assumption):wpAny M A (storeName X.env x u) Q E s :=
 qdy I hN hi hx r (fun s' I' _=>h s' I') hf
theorem Inv.call' {s':Shared} {ch:List Addr} (I:Inv X pins Z H s) (ho:s'.os=s.os) (u:Un (frs X.stack) ch H H' s.heap s'.heap) (hok:HOk X.prog X.w H' s'.heap) (hg:AllBare s'.gens)
  (hch:∀ b∈ch,(b∈X.ex\/X.s₀.heap.objs.size<=b)/\b≠X.env.locals/\(∀ x c,X.env.cells.lookup x=some c->c≠b)/\∀ p∈X.pn++pins,p.1≠b):Inv X pins Z H' s':=by
 obtain ⟨h',g',d',t',o'⟩:=s'
 have e:o'=s.os:=ho
 subst e
 exact I.call (g':=g') (t':=t') (d':=d') u hok hg hch
end
abbrev XK:=Value->Option Addr->Hp->Prop
abbrev St:=List (Option V)
abbrev VK:=V->Hp->Prop
abbrev TE:=St->Hp->VK->Prop
abbrev TT:=St->Hp->(Bool->Hp->Prop)->Prop
abbrev TA:=St->Hp->(List V->Hp->Prop)->Prop
structure qgy where
 nx:St->Hp->Prop
 rt:VK
 bk:St->Hp->Prop:=fun _ _=>False
 ct:St->Hp->Prop:=fun _ _=>False
abbrev TS:=qgy->St->Hp->Prop
def EP (X:Cx) (pins:List (Addr×Obj)) (Z:St) (Q:VK) (u:Value) (s':Shared):Prop:=∃ v H',Inv X pins Z H' s'/\jN v u/\Q v H'
def TP (X:Cx) (pins:List (Addr×Obj)) (Z:St) (Q:Bool->Hp->Prop) (b:Bool) (s':Shared):Prop:=∃ H',Inv X pins Z H' s'/\Q b H'
def AP (X:Cx) (pins:List (Addr×Obj)) (Z:St) (Q:List V->Hp->Prop) (us:List Value) (s':Shared):Prop:=∃ vs H',Inv X pins Z H' s'/\zb vs us/\Q vs H'
def SP (X:Cx) (pins:List (Addr×Obj)) (D:qgy) (f:Flow) (s':Shared):Prop :=
 match f with
 | .next=>∃ Z' H',Inv X pins Z' H' s'/\D.nx Z' H'
 | .brk=>∃ Z' H',Inv X pins Z' H' s'/\D.bk Z' H'
 | .cont=>∃ Z' H',Inv X pins Z' H' s'/\D.ct Z' H'
 | .ret u=>∃ v Z' H',Inv X pins Z' H' s'/\jN v u/\D.rt v H'
def PE (X:Cx) (e:Expr) (t:TE):Prop :=
 ∀ (pins:List (Addr×Obj)) (s:Shared) (Z:St) (H:Hp) (Q:VK),Inv X pins Z H s->t Z H Q->wpAny (model X.prog X.w) X.A (eval e X.env) (EP X pins Z Q) X.xe s
def PT (X:Cx) (e:Expr) (t:TT):Prop :=
 ∀ (pins:List (Addr×Obj)) (s:Shared) (Z:St) (H:Hp) (Q:Bool->Hp->Prop),Inv X pins Z H s->t Z H Q->wpAny (model X.prog X.w) X.A (isTrue e X.env (eval e X.env)) (TP X pins Z Q) X.xe s
def PW (X:Cx) (e:Expr) (t:TT):Prop :=
 ∀ (whole:Sem Value) (pins:List (Addr×Obj)) (s:Shared) (Z:St) (H:Hp) (Q:Bool->Hp->Prop),Inv X pins Z H s->t Z H Q->wpAny (model X.prog X.w) X.A (isTrue e X.env whole) (TP X pins Z Q) X.xe s
theorem PW.pt {X:Cx} {e:Expr} {t:TT} (h:PW X e t):PT X e t:=h _
def PA (X:Cx) (es:List Expr) (t:TA):Prop :=
 ∀ (pos:Pos) (pins:List (Addr×Obj)) (s:Shared) (Z:St) (H:Hp) (Q:List V->Hp->Prop),Inv X pins Z H s->t Z H Q->wpAny (model X.prog X.w) X.A (spliced (backTo pos (starEach es X.env))) (AP X pins Z Q) X.xe s
def PS (X:Cx) (st:Stmt) (t:TS):Prop :=
 ∀ (pins:List (Addr×Obj)) (s:Shared) (Z:St) (H:Hp) (D:qgy),Inv X pins Z H s->t D Z H->wpAny (model X.prog X.w) X.A (exec st X.env) (SP X pins D) X.xe s
def PSs (X:Cx) (st:List Stmt) (t:TS):Prop :=
 ∀ (pins:List (Addr×Obj)) (s:Shared) (Z:St) (H:Hp) (D:qgy),Inv X pins Z H s->t D Z H->wpAny (model X.prog X.w) X.A (execs st X.env) (SP X pins D) X.xe s
theorem thn {α:Type} {t:Sem α} {Q Q':α->Shared->Prop} {M:Model} {A:Around} {E:Value->Shared->Prop} {s:Shared} (h:wpAny M A t Q E s) (hQ:∀ a s,Q a s->Q' a s):wpAny M A t Q' E s:=wpAny_mono h hQ fun _ _ x=>x
end L2
namespace L2
open PySem PySem.Spec PyProof.Rows
section
variable {X:Cx}
theorem bin {a b:Expr} {ta tb:TE} (ha:PE X a ta) (hb:PE X b tb) {pins:List (Addr×Obj)} {s:Shared} {Z:St} {H:Hp} {R:V->V->Hp->Prop} (I:Inv X pins Z H s) (h:ta Z H fun x H1=>tb Z H1 fun y H2=>R x y H2)
  {α:Type} {Q:α->Shared->Prop} {f:Value->Value->Sem α}
  (hf:∀ v u s2 x y H2,Inv X pins Z H2 s2->jN x v->jN y u->R x y H2->wpAny (model X.prog X.w) X.A (f v u) Q X.xe s2) :
  wpAny (model X.prog X.w) X.A (eval a X.env) (fun v sQ=>wpAny (model X.prog X.w) X.A (eval b X.env) (fun u sV=>wpAny (model X.prog X.w) X.A (f v u) Q X.xe sV) X.xe sQ) X.xe s:=by
 refine thn (ha pins s Z H _ I h) fun v s1 ⟨x,H1,I1,r1,q1⟩ => ?_
 refine thn (hb pins s1 Z H1 _ I1 q1) fun u s2 ⟨y,H2,I2,r2,q2⟩ => ?_
 exact hf v u s2 x y H2 I2 r1 r2 q2
def qpv (i:Nat):TE:=fun Z H Q=>∃ v,Z[i]? = some (some v)/\Q v H
def tC (v:V):TE:=fun _ H Q=>Q v H
theorem wE {i:Nat} {x:Str} {pos:Pos} (hN:X.N[i]? = some x) (hv:Vis X.env.scope x) (hd:(x==("__debug__":Str))=false:=by decide) (hcd:(x==("__classdict__":Str))=false:=by decide):PE X (.Name x pos) (qpv i):=by
 intro pins s Z H Q I h
 obtain ⟨v,e,h⟩:=h
 obtain ⟨m,hn,hl⟩:=I.loc
 obtain ⟨u,r,l⟩:=hl i x v hN e hv
 have fin:EP X pins Z Q u s:=⟨v,H,I,r,h⟩
 rcases l with ⟨hk,hm⟩ | ⟨hk,c,hc,hcell⟩
 ·exact wpAny_Name (wpAny_loadName_local I.ok.kind hk hn hm fin) hd
 ·rcases hk with hk | hk
  ·exact wpAny_Name (wpAny_loadName_cell I.ok.kind hk hc hcell fin) hd
  ·exact wpAny_Name (wpAny_loadName_free I.ok.kind hk hc hcell fin hcd) hd
theorem qlY {i j pos}:PE X (.Constant (.int i) j pos) (tC (.int i)):=fun _ _ _ H _ I h=>wpAny_Constant_int ⟨.int i,H,I.tok _,⟨_,rfl⟩,h⟩
theorem qn3 {b j pos}:PE X (.Constant (.bool b) j pos) (tC (.bl b)):=fun _ _ _ H _ I h=>Constant_bool ⟨.bl b,H,I,rfl,h⟩
theorem qlZ {j pos}:PE X (.Constant .none j pos) (tC .non):=fun _ _ _ H _ I h=>Constant_none ⟨.non,H,I,rfl,h⟩
def Gl (X:Cx) (x:Str):Prop:=X.env.kindOf x=some .globalImplicit
theorem qez {E:Value->Shared->Prop} {pins:List (Addr×Obj)} {s:Shared} {Z:St} {H:Hp} {x:Str} {u:Value} {pos:Pos} {Q:Value->Shared->Prop} (I:Inv X pins Z H s) (hg:Gl X x) (hm:X.mg x=some u) (h:Q u s)
  (hd:(x==("__debug__":Str))=false:=by decide):wpAny (model X.prog X.w) X.A (eval (.Name x pos) X.env) Q E s :=
 Calls.Name_function_global I.ok.kind hg (Calls.loadGlobal_global (by rw [I.ok.glob];exact I.mod.glob.keeps I.bk) hm h) hd
theorem qb9 {E:Value->Shared->Prop} {pins:List (Addr×Obj)} {s:Shared} {Z:St} {H:Hp} {x:Str} {u:Value} {pos:Pos} {Q:Value->Shared->Prop} (I:Inv X pins Z H s) (hg:Gl X x) (hm:X.mg x=none) (hv:bootBuiltins x=some u) (h:Q u s)
  (hn:x≠"__name__":=by decide) (hd:(x==("__debug__":Str))=false:=by decide):wpAny (model X.prog X.w) X.A (eval (.Name x pos) X.env) Q E s:=by
 obtain ⟨mb,h1,h2⟩:=I.mod.blt
 exact Calls.Name_function_global I.ok.kind hg (Calls.loadGlobal_builtin (by rw [I.ok.glob];exact I.mod.glob.keeps I.bk) hm (by rw [I.ok.blt];exact h1.keeps I.bk) ((h2 x hn).trans hv) h) hd
theorem qgz {x:Str} {v:V} {u:Value} {pos:Pos} (hg:Gl X x) (hm:X.mg x=some u) (r:jN v u) (hd:(x==("__debug__":Str))=false:=by decide):PE X (.Name x pos) (tC v) :=
 fun _ _ _ H _ I h=>qez I hg hm ⟨v,H,I,r,h⟩ hd
theorem qke {x:Str} {v:V} {u:Value} {pos:Pos} (hg:Gl X x) (hm:X.mg x=none) (hv:bootBuiltins x=some u) (r:jN v u) (hn:x≠"__name__":=by decide) (hd:(x==("__debug__":Str))=false:=by decide):PE X (.Name x pos) (tC v) :=
 fun _ _ _ H _ I h=>qb9 I hg hm hv ⟨v,H,I,r,h⟩ hn hd
variable {a b:Expr} {ta tb:TE} {pos:Pos}
def PC (X:Cx) (op:CmpOp) (a b:Expr) (t:TE):Prop :=
 ∀ (pins:List (Addr×Obj)) (s:Shared) (Z:St) (H:Hp) (Q:VK),Inv X pins Z H s->t Z H Q ->
  wpAny (model X.prog X.w) X.A (eval a X.env) (fun v sQ=>wpAny (model X.prog X.w) X.A (eval b X.env) (fun u sV=>wpAny (model X.prog X.w) X.A (compareOp op v u) (EP X pins Z Q) X.xe sV) X.xe sQ) X.xe s
theorem qih (b:Expr) {op:CmpOp} (h:op ≠ .In) (h2:op ≠ .NotIn):behindInMarks op b=false:=by
 have e1:(op==CmpOp.In)=false:=by cases op<;>first | rfl | exact absurd rfl h
 have e2:(op==CmpOp.NotIn)=false:=by cases op<;>first | rfl | exact absurd rfl h2
 cases b<;>simp [behindInMarks,e1,e2]
def tB (t:TE):TT:=fun Z H Q=>t Z H fun x H1=>∃ c,x = .bl c/\Q c H1
theorem qoW {op:CmpOp} {t:TE} (h:PC X op a b t) (h1:behindInMarks op b=false:=by first | exact qih _ (by decide) (by decide) | rfl):PT X (.Compare a [op] [b] pos) (tB t):=by
 intro pins s Z H Q I hw
 refine wpAny_isTrue_Compare1 (thn (h pins s Z H _ I hw) fun v s1 h1=>thn h1 fun u s2 h2=>thn h2 fun c s3 ⟨x,H1,I1,r1,q1⟩ => ?_) h1
 obtain ⟨d,rfl,q⟩:=q1
 cases r1
 exact wpAny_truthy_bool ⟨H1,I1,q⟩
theorem ql0 {e:Expr} {t:TE} (h:PE X e t) (he:∀ whole,isTrue e X.env whole=(do let v <- whole;standAt e.pos;holding [v] (truthy v)):=by intro _;rfl):PT X e (tB t):=by
 intro pins s Z H Q I hw
 refine isTrue_plain (thn (h pins s Z H _ I hw) fun v s1 ⟨x,H1,I1,r1,q1⟩ => ?_) (he _)
 obtain ⟨d,rfl,q⟩:=q1
 cases r1
 exact wpAny_truthy_bool ⟨H1,I1,q⟩
variable {tA tB':TT} {wA:List Expr}
def qpw (t u:TT):TT:=fun Z H Q=>t Z H fun c H1=>if c=true then u Z H1 Q else Q false H1
def tOr (t u:TT):TT:=fun Z H Q=>t Z H fun c H1=>if c=true then Q true H1 else u Z H1 Q
def qpx (t:TT):TT:=fun Z H Q=>t Z H fun c H1=>Q (!c) H1
theorem qkf (ha:PT X a tA):PW X (.BoolOp .And [a] pos) tA:=by
 intro wh pins s Z H Q I h
 refine isTrue_and (thn (ha pins s Z H Q I h) fun c s1 e => ?_)
 cases c with
 | true=>exact isTrue_and_nil e
 | false=>exact e
theorem ql1 (ha:PT X a tA):PW X (.BoolOp .Or [a] pos) tA:=by
 intro wh pins s Z H Q I h
 refine isTrue_or (thn (ha pins s Z H Q I h) fun c s1 e => ?_)
 cases c with
 | false=>exact isTrue_or_nil e
 | true=>exact e
theorem ql2 (ha:PT X a tA) (hb:PW X (.BoolOp .And (b::wA) pos) tB'):PW X (.BoolOp .And (a::b::wA) pos) (qpw tA tB'):=by
 intro wh pins s Z H Q I h
 refine isTrue_and (thn (ha pins s Z H _ I h) fun c s1 ⟨H1,I1,q1⟩ => ?_)
 cases c with
 | true=>exact hb wh pins s1 Z H1 Q I1 q1
 | false=>exact ⟨H1,I1,q1⟩
theorem qn4 (ha:PT X a tA) (hb:PW X (.BoolOp .Or (b::wA) pos) tB'):PW X (.BoolOp .Or (a::b::wA) pos) (tOr tA tB'):=by
 intro wh pins s Z H Q I h
 refine isTrue_or (thn (ha pins s Z H _ I h) fun c s1 ⟨H1,I1,q1⟩ => ?_)
 cases c with
 | true=>exact ⟨H1,I1,q1⟩
 | false=>exact hb wh pins s1 Z H1 Q I1 q1
theorem ql3 (ha:PT X a tA):PT X (.UnaryOp .Not a pos) (qpx tA):=by
 intro pins s Z H Q I h
 exact isTrue_not (ha pins s Z H (fun c H1=>Q (!c) H1) I h)
def qn5 (ta tb:TE):TE:=fun Z H Q=>ta Z H fun x H1=>∃ c,x = .bl c/\if c=true then tb Z H1 Q else Q (.bl false) H1
def qpy (ta tb:TE):TE:=fun Z H Q=>ta Z H fun x H1=>∃ c,x = .bl c/\if c=true then Q (.bl true) H1 else tb Z H1 Q
def qn6 (ta:TE):TE:=fun Z H Q=>ta Z H fun x H1=>∃ c,x = .bl c/\Q (.bl (!c)) H1
theorem ql4 {op} {t:TE} (h:PE X a t):PE X (.BoolOp op [a] pos) t:=fun pins s Z H Q I hw=>BoolOp_one (h pins s Z H Q I hw)
theorem ql5 (ha:PE X a ta) (hb:PE X (.BoolOp .And (b::wA) pos) tb):PE X (.BoolOp .And (a::b::wA) pos) (qn5 ta tb):=by
 intro pins s Z H Q I h
 refine BoolOp_and (thn (ha pins s Z H _ I h) fun v s1 ⟨x,H1,I1,r1,q1⟩ => ?_)
 obtain ⟨c,rfl,q1⟩:=q1
 cases r1
 refine wpAny_truthy_bool ?_
 cases c with
 | true=>exact hb pins s1 Z H1 Q I1 q1
 | false=>exact ⟨.bl false,H1,I1,rfl,q1⟩
theorem qn7 (ha:PE X a ta) (hb:PE X (.BoolOp .Or (b::wA) pos) tb):PE X (.BoolOp .Or (a::b::wA) pos) (qpy ta tb):=by
 intro pins s Z H Q I h
 refine BoolOp_or (thn (ha pins s Z H _ I h) fun v s1 ⟨x,H1,I1,r1,q1⟩ => ?_)
 obtain ⟨c,rfl,q1⟩:=q1
 cases r1
 refine wpAny_truthy_bool ?_
 cases c with
 | false=>exact hb pins s1 Z H1 Q I1 q1
 | true=>exact ⟨.bl true,H1,I1,rfl,q1⟩
theorem ql6 (ha:PE X a ta):PE X (.UnaryOp .Not a pos) (qn6 ta):=by
 intro pins s Z H Q I h
 refine UnaryOp_ (thn (ha pins s Z H _ I h) fun v s1 ⟨x,H1,I1,r1,q1⟩ => ?_)
 obtain ⟨c,rfl,q1⟩:=q1
 cases r1
 exact not_of (wpAny_truthy_bool ⟨.bl (!c),H1,I1,rfl,q1⟩)
def tIf (t:TT) (ta tb:TE):TE:=fun Z H Q=>t Z H fun c H1=>if c=true then ta Z H1 Q else tb Z H1 Q
theorem qii {c:Expr} (hc:PT X c tA) (ha:PE X a ta) (hb:PE X b tb):PE X (.IfExp c a b pos) (tIf tA ta tb):=by
 intro pins s Z H Q I h
 refine wpAny_IfExp (thn (hc pins s Z H _ I h) fun d s1 ⟨H1,I1,q1⟩ => ?_)
 cases d with
 | true=>exact ha pins s1 Z H1 Q I1 q1
 | false=>exact hb pins s1 Z H1 Q I1 q1
end
end L2
namespace L2
open PySem PySem.Spec PyProof.Rows
def SqL (K:PySem.W.Frag) (H:Hp) (a:Addr) (xs:List V):Prop :=
 Rd H a (.lst xs) \/
  ∃ (o:Obj) (its:Array Value) (n:Nat),K.lookup a=some o/\o.cls = .type "list"/\o.dict=none/\o.data = .seq its n/\its.size<=sizeLine/\zb xs its.toList
def SqT (K:PySem.W.Frag) (H:Hp) (a:Addr) (xs:List V):Prop :=
 Rd H a (.tup xs) \/
  ∃ (o:Obj) (its:Array Value) (n:Nat),K.lookup a=some o/\o.cls = .type "tuple"/\o.data = .seq its n/\its.size<=sizeLine/\zb xs its.toList
def qpz:Value->Option V
 | .none=>some .non
 | .bool b=>some (.bl b)
 | .int i _=>some (.int i)
 | .str x _=>some (.str x)
 | .bytes b _=>some (.byt b)
 | .float b _=>some (.flt b)
 | .ref a=>some (.ref a)
 | .type n=>some (.ty n)
 | _=>none
theorem jN.abs {x:V} {u:Value} (r:jN x u):qpz u=some x:=by
 cases x with
 | non=>cases r;rfl
 | bl _=>cases r;rfl
 | int _=>obtain ⟨t,rfl⟩:=r;rfl
 | str _=>obtain ⟨t,rfl⟩:=r;rfl
 | byt _=>obtain ⟨t,rfl⟩:=r;rfl
 | flt _=>obtain ⟨t,rfl⟩:=r;rfl
 | ref _=>cases r;rfl
 | ty _=>cases r;rfl
theorem jN.inj {x y:V} {u:Value} (r:jN x u) (q:jN y u):x=y:=Option.some.inj (r.abs.symm.trans q.abs)
theorem zb.inj:∀ {xs ys:List V} {us:List Value},zb xs us->zb ys us->xs=ys
 | _,_,_,.nil,.nil=>rfl
 | _,_,_,.cons r t,.cons r' t'=>by rw [r.inj r',zb.inj t t']
section
variable {X:Cx} {pins:List (Addr×Obj)} {Z:St} {H:Hp} {s:Shared} {a:Addr} {xs ys:List V}
theorem SqL.of {K:PySem.W.Frag} (h:H a=some (.lst xs)):SqL K H a xs := .inl (.inl h)
theorem Inv.list (I:Inv X pins Z H s) (h:SqL X.K H a xs):∃ its:List Value,zb xs its/\PlainL s.heap a its.toArray/\xs.length<=sizeLine:=by
 rcases h with h | ⟨o,its,n,hk,hc,hd,hs,hz,r⟩
 ·obtain ⟨z,its,n,r,e⟩:=h.ok I.hok
  exact ⟨its,r,⟨_,n,e,rfl,rfl,rfl⟩,z⟩
 ·refine ⟨its.toList,r,⟨o,n,I.kIn a o hk,hc,hd,by simpa using hs⟩,?_⟩
  have e:=r.length
  simp only [Array.length_toList] at e
  omega
theorem Inv.tuple (I:Inv X pins Z H s) (h:SqT X.K H a xs):∃ its:List Value,zb xs its/\IsTup s.heap a its.toArray/\xs.length<=sizeLine:=by
 rcases h with h | ⟨o,its,n,hk,hc,hs,hz,r⟩
 ·obtain ⟨z,its,r,p⟩:=h.ok I.hok
  exact ⟨its,r,p,z⟩
 ·refine ⟨its.toList,r,⟨o,I.kIn a o hk,hc,n,by simpa using hs⟩,?_⟩
  have e:=r.length
  simp only [Array.length_toList] at e
  omega
theorem Inv.list_inj (I:Inv X pins Z H s) (h:SqL X.K H a xs) (h':SqL X.K H a ys):xs=ys:=by
 obtain ⟨its,r,⟨o,n,e,_,_,d⟩,_⟩:=I.list h
 obtain ⟨its',r',⟨o',n',e',_,_,d'⟩,_⟩:=I.list h'
 rw [e] at e';cases e'
 rw [d] at d'
 injection d' with d1 _
 have:its=its':=by simpa using congrArg Array.toList d1
 subst this
 exact r.inj r'
theorem Inv.tuple_inj (I:Inv X pins Z H s) (h:SqT X.K H a xs) (h':SqT X.K H a ys):xs=ys:=by
 obtain ⟨its,r,⟨o,e,_,n,d⟩,_⟩:=I.tuple h
 obtain ⟨its',r',⟨o',e',_,n',d'⟩,_⟩:=I.tuple h'
 rw [e] at e';cases e'
 rw [d] at d'
 injection d' with d1 _
 have:its=its':=by simpa using congrArg Array.toList d1
 subst this
 exact r.inj r'
end
abbrev Cx.wish (X:Cx) (E:Value->Shared->Prop):Cx:={ X with xe:=E }
abbrev Cx.nox (X:Cx):Cx:=X.wish fun _ _=>False
theorem Cx.Ok.wish {X:Cx} (ok:X.Ok) (E:Value->Shared->Prop):(X.wish E).Ok :=
 ⟨ok.mod,ok.kind,ok.glob,ok.blt,ok.above,ok.inj,ok.has,ok.cab,ok.hd,ok.frames,ok.stk,ok.exf,ok.bs,ok.bsz,ok.noex,ok.exfs,ok.funs,ok.frf⟩
theorem Cx.Ok.unwish {X:Cx} {E:Value->Shared->Prop} (ok:(X.wish E).Ok):X.Ok :=
 ⟨ok.mod,ok.kind,ok.glob,ok.blt,ok.above,ok.inj,ok.has,ok.cab,ok.hd,ok.frames,ok.stk,ok.exf,ok.bs,ok.bsz,ok.noex,ok.exfs,ok.funs,ok.frf⟩
section
variable {X:Cx} {pins:List (Addr×Obj)} {Z:St} {H:Hp} {s:Shared} {E:Value->Shared->Prop}
theorem Inv.wish (I:Inv X pins Z H s) (E:Value->Shared->Prop):Inv (X.wish E) pins Z H s:=⟨I.ok.wish E,I.os,I.bare,I.base,I.loc,I.cell,I.free,I.freeC,I.pin,I.hok,I.len⟩
theorem Inv.unwish (I:Inv (X.wish E) pins Z H s):Inv X pins Z H s:=⟨I.ok.unwish,I.os,I.bare,I.base,I.loc,I.cell,I.free,I.freeC,I.pin,I.hok,I.len⟩
theorem SP.unwish {D:qgy} {f:Flow} {s':Shared} (h:SP (X.wish E) pins D f s'):SP X pins D f s':=by
 cases f with
 | next=>obtain ⟨Z',H',I,q⟩:=h;exact ⟨Z',H',I.unwish,q⟩
 | brk=>obtain ⟨Z',H',I,q⟩:=h;exact ⟨Z',H',I.unwish,q⟩
 | cont=>obtain ⟨Z',H',I,q⟩:=h;exact ⟨Z',H',I.unwish,q⟩
 | ret u=>obtain ⟨v,Z',H',I,r,q⟩:=h;exact ⟨v,Z',H',I.unwish,r,q⟩
theorem PE.nox {e:Expr} {t:TE} (h:PE X.nox e t):PE X e t:=fun pins s Z H Q I hw =>
 wpAny_mono (h pins s Z H Q (I.wish _) hw) (fun _ _ ⟨v,H',I',r,q⟩=>⟨v,H',I'.unwish,r,q⟩) fun _ _ z=>False.elim z
theorem PT.nox {e:Expr} {t:TT} (h:PT X.nox e t):PT X e t:=fun pins s Z H Q I hw =>
 wpAny_mono (h pins s Z H Q (I.wish _) hw) (fun _ _ ⟨H',I',q⟩=>⟨H',I'.unwish,q⟩) fun _ _ z=>False.elim z
theorem PSs.nox {st:List Stmt} {t:TS} (h:PSs X.nox st t):PSs X st t:=fun pins s Z H D I hw =>
 wpAny_mono (h pins s Z H D (I.wish _) hw) (fun _ _ q=>q.unwish) fun _ _ z=>False.elim z
end
section
variable {X:Cx} {st:Stmt} {wA:List Stmt} {t u:TS} {e:Expr} {te:TE} {pos:Pos}
def qn8:TS:=fun D Z H=>D.nx Z H
def qpA (t u:TS):TS:=fun D Z H=>t { D with nx:=u D } Z H
theorem qkg:PSs X [] qn8:=fun _ _ Z H _ I h=>wpAny_execs_nil ⟨Z,H,I,h⟩
theorem qij (h1:PS X st t) (h2:PSs X wA u):PSs X (st::wA) (qpA t u):=by
 intro pins s Z H D I h
 refine wpAny_execs_cons (thn (h1 pins s Z H { D with nx:=u D } I h) fun f s1 q => ?_)
 cases f with
 | next =>
  obtain ⟨Z',H',I',q⟩:=q
  exact h2 pins s1 Z' H' D I' q
 | ret v=>exact q
 | brk=>exact q
 | cont=>exact q
theorem qkh (h1:PS X st t):PSs X [st] t:=by
 intro pins s Z H D I h
 refine wpAny_execs_cons (thn (h1 pins s Z H D I h) fun f s1 q => ?_)
 cases f with
 | next=>exact wpAny_execs_nil q
 | ret v=>exact q
 | brk=>exact q
 | cont=>exact q
theorem Inv.quiet {pins:List (Addr×Obj)} {Z:St} {H:Hp} {s:Shared} (I:Inv X pins Z H s):interactive X.env=false:=by simp [interactive,I.ok.kind]
def qn9 (te:TE):TS:=fun D Z H=>te Z H fun _ H1=>D.nx Z H1
theorem qki (he:PE X e te) (hs:swapsWith e none pos.line X.env=pure false:=by rfl):PS X (.Expr e pos) (qn9 te):=by
 intro pins s Z H D I h
 exact wpAny_Expr_any (thn (he pins s Z H _ I h) fun v s1 ⟨x,H1,I1,r1,q1⟩=>⟨Z,H1,I1,q1⟩) I.quiet hs
def qpB (te:TE):TS:=fun D Z H=>te Z H D.rt
theorem qju (he:PE X e te):PS X (.Return (some e) pos) (qpB te):=by
 intro pins s Z H D I h
 exact wpAny_Return_some (thn (he pins s Z H _ I h) fun v s1 ⟨x,H1,I1,r1,q1⟩=>⟨x,Z,H1,I1,r1,q1⟩)
def qpC (c:TT) (t u:TS):TS:=fun D Z H=>c Z H fun b H1=>if b=true then t D Z H1 else u D Z H1
theorem qoa {c:Expr} {a b:List Stmt} {tc:TT} (hc:PT X c tc) (ha:PSs X a t) (hb:PSs X b u):PS X (.If c a b pos) (qpC tc t u):=by
 intro pins s Z H D I h
 refine wpAny_If (thn (hc pins s Z H _ I h) fun d s1 ⟨H1,I1,q1⟩ => ?_)
 cases d with
 | true=>exact ha pins s1 Z H1 D I1 q1
 | false=>exact hb pins s1 Z H1 D I1 q1
def ql7:TS:=fun _ _ _=>False
theorem qik:PS X st ql7:=fun _ _ _ _ _ _ h=>h.elim
end
abbrev TG:=V->St->Hp->(St->Hp->Prop)->Prop
abbrev TGs:=List V->St->Hp->(St->Hp->Prop)->Prop
def PG (X:Cx) (target:Expr) (t:TG):Prop :=
 ∀ (pins:List (Addr×Obj)) (s:Shared) (Z:St) (H:Hp) (v:V) (u:Value) (Q:St->Hp->Prop),Inv X pins Z H s->jN v u->t v Z H Q ->
  wpAny (model X.prog X.w) X.A (assign target X.env u) (fun _ s'=>∃ Z' H',Inv X pins Z' H' s'/\Q Z' H') X.xe s
def PGs (X:Cx) (ts:List Expr) (t:TGs):Prop :=
 ∀ (pins:List (Addr×Obj)) (s:Shared) (Z:St) (H:Hp) (vs:List V) (us:List Value) (Q:St->Hp->Prop),Inv X pins Z H s->zb vs us->t vs Z H Q ->
  wpAny (model X.prog X.w) X.A (assignInOrder ((assignEach ts X.env).map (·.2)) us) (fun _ s'=>∃ Z' H',Inv X pins Z' H' s'/\Q Z' H') X.xe s
abbrev qob:=V->V->V->Hp->(Hp->Prop)->Prop
def qoX (X:Cx) (t:qob):Prop :=
 ∀ (pins:List (Addr×Obj)) (s:Shared) (Z:St) (H:Hp) (o i v:V) (ov iv u:Value) (Q:Hp->Prop),Inv X pins Z H s->jN o ov->jN i iv->jN v u->t o i v H Q ->
  wpAny (model X.prog X.w) X.A (setItem ov iv u) (fun _ s'=>∃ H',Inv X pins Z H' s'/\Q H') X.xe s
section
variable {X:Cx} {pos:Pos}
def ql8 (i:Nat):TG:=fun v Z H Q=>Q (Z.set i (some v)) H
theorem qkj {i:Nat} {x:Str} (hN:X.N.Nodup) (hi:X.N[i]? = some x) (hx:Loc X.env.scope x) (hf:X.fn x=true\/X.env.scope.names.lookup x=some .local:=by first | exact .inl rfl | exact .inr rfl | assumption):PG X (.Name x pos) (ql8 i):=by
 intro pins s Z H v u Q I r h
 exact wpAny_assign_Name (qaZ I hN hi hx r (fun s' I'=>⟨_,H,I',h⟩) hf)
def qpD:TGs:=fun vs Z H Q=>vs=[]/\Q Z H
def qoc (t:TG) (u:TGs):TGs:=fun vs Z H Q=>∃ v r,vs=v::r/\t v Z H fun Z' H'=>u r Z' H' Q
theorem qkk:PGs X [] qpD:=by
 intro pins s Z H vs us Q I r h
 obtain ⟨e,h⟩:=h
 subst e
 cases r
 exact assignInOrder_nil ⟨Z,H,I,h⟩
theorem qil {e:Expr} {es:List Expr} {t:TG} {u:TGs} (h1:PG X e t) (h2:PGs X es u)
  (hs:(assignEach (e::es) X.env).map (·.2)=assign e X.env::(assignEach es X.env).map (·.2):=by rfl):PGs X (e::es) (qoc t u):=by
 intro pins s Z H vs us Q I r h
 obtain ⟨v,vr,e1,h⟩:=h
 subst e1
 cases r with
 | cons r rr =>
  rw [hs]
  refine assignInOrder_cons (thn (h1 pins s Z H _ _ _ I r h) fun _ s1 ⟨Z1,H1,I1,q1⟩ => ?_)
  exact h2 pins s1 Z1 H1 _ _ Q I1 rr q1
def qpE (K:PySem.W.Frag) (n:Nat) (t:TGs):TG:=fun v Z H Q=>∃ a xs,v = .ref a/\SqT K H a xs/\xs.length=n/\t xs Z H Q
theorem ql9 {es:List Expr} {k:Nat} {t:TGs} {n:Nat} (hc:X.calm=true) (h:PGs X es t)
  (hn:(assignEach es X.env).length=n:=by rfl) (hst:(assignEach es X.env).findIdx? (·.1)=none:=by rfl):PG X (.Tuple es k pos) (qpE X.K n t):=by
 intro pins s Z H v u Q I r hw
 obtain ⟨a,xs,e1,hq,hl,hw⟩:=hw
 subst e1
 cases r
 obtain ⟨its,rv,ht,hz⟩:=I.tuple hq
 refine assign_Tuple_tuple (I.ok.hd hc) ht (by simp [hn,<- hl,rv.length]) hst fun h' hx => ?_
 have I1:Inv X pins Z H { s with heap:=h' }:=I.kept (t':=s.toks) fun b o e=>hx b o (Nat.ne_of_lt (Heap.lt_size e)) e
 exact h pins _ Z H xs _ Q I1 (by simpa using rv) hw
def qpF (to ti:TE) (t:qob):TG:=fun v Z H Q=>to Z H fun o H1=>ti Z H1 fun i H2=>t o i v H2 fun H3=>Q Z H3
theorem qma {o i:Expr} {to ti:TE} {t:qob} (ho:PE X o to) (hi:PE X i ti) (hs:qoX X t)
  (ha:∀ v,assign (.Subscript o i pos) X.env v=(do
   let ov <- holding [v] (eval o X.env)
   let iv <- holding [v,ov] (eval i X.env)
   standAt pos
   holding [v,ov,iv] (setItem ov iv v)
   release [v,ov,iv] []):=by intro _;rfl):PG X (.Subscript o i pos) (qpF to ti t):=by
 intro pins s Z H v u Q I r h
 rw [ha]
 refine wpAny_bind (wpAny_holding (thn (ho pins s Z H _ I h) fun ov s1 ⟨x,H1,I1,r1,q1⟩ => ?_))
 refine wpAny_bind (wpAny_holding (thn (hi pins s1 Z H1 _ I1 q1) fun iv s2 ⟨y,H2,I2,r2,q2⟩ => ?_))
 refine wpAny_bind (wpAny_standAt (wpAny_bind (wpAny_holding (thn (hs pins s2 Z H2 x y v ov iv u _ I2 r1 r2 r q2) fun _ s3 ⟨H3,I3,q3⟩ => ?_))))
 exact wpAny_release ⟨Z,H3,I3,q3⟩
def qoY (te:TE) (g:TG):TS:=fun D Z H=>te Z H fun x H1=>g x Z H1 D.nx
theorem qjv {tg e:Expr} {te:TE} {g:TG} (he:PE X e te) (hg:PG X tg g) (hs:swapsWithSole [tg] e pos.line X.env=pure false:=by rfl) (hw:swappedStores [tg] e X.env=pure none:=by rfl)
  (h1:(assignEach [tg] X.env).map (·.2)=[assign tg X.env]:=by rfl):PS X (.Assign [tg] e pos) (qoY te g):=by
 intro pins s Z H D I h
 refine wpAny_Assign_stores (thn (he pins s Z H _ I h) fun v s1 ⟨x,H1,I1,r1,q1⟩ => ?_) hs hw
 rw [h1]
 exact thn (hg pins s1 Z H1 x v _ I1 r1 q1) fun _ s2 q=>q
theorem qgA {i:Nat} {x:Str} {e:Expr} {te:TE} {pos':Pos} (hN:X.N.Nodup) (hi:X.N[i]? = some x) (hx:Loc X.env.scope x) (he:PE X e te) (hs:swapsWith e (some (.Name x pos')) pos.line X.env=pure false:=by rfl) (hf:X.fn x=true\/X.env.scope.names.lookup x=some .local:=by first | exact .inl rfl | exact .inr rfl | assumption) :
  PS X (.Assign [.Name x pos'] e pos) (qoY te (ql8 i)):=by
 intro pins s Z H D I h
 refine wpAny_Assign_Name (thn (he pins s Z H _ I h) fun v s1 ⟨y,H1,I1,r1,q1⟩ => ?_) hs
 exact qaZ I1 hN hi hx r1 (fun s2 I2=>⟨_,H1,I2,q1⟩) hf
def qpG (i j:Nat) (ta:TA):TS:=fun D Z H=>ta Z H fun vs H1=>∃ v w,vs=[v,w]/\D.nx ((Z.set i (some v)).set j (some w)) H1
theorem qmb {i j:Nat} {x y:Str} {a b:Expr} {ta:TA} {px py pt:Pos} {kt k2 pt2} (hc:X.calm=true) (hN:X.N.Nodup) (hi:X.N[i]? = some x) (hj:X.N[j]? = some y) (hij:i≠j)
  (hx:X.env.scope.names.lookup x=some .local) (hy:X.env.scope.names.lookup y=some .local) (ha:PA X [a,b] ta)
  (hw:swappedStores [.Tuple [.Name x px,.Name y py] kt pt] (.Tuple [a,b] k2 pt2) X.env=pure (some [x,y]))
  (hs:swapsWithSole [.Tuple [.Name x px,.Name y py] kt pt] (.Tuple [a,b] k2 pt2) pos.line X.env=pure false:=by rfl) :
  PS X (.Assign [.Tuple [.Name x px,.Name y py] kt pt] (.Tuple [a,b] k2 pt2) pos) (qpG i j ta):=by
 intro pins s Z H D I h
 rw [exec_Assign_arm]
 refine wpAny_bind (wpAny_standAt ?_)
 rw [hs]
 refine wpAny_bind (wpAny_pure ?_)
 rw [if_neg (by decide)]
 refine wpAny_bind (Tuple_ (thn (ha _ pins s Z H _ I h) fun us s1 ⟨vs,H1,I1,r1,q1⟩ => ?_))
 obtain ⟨v,w,e1,q1⟩:=q1
 subst e1
 obtain ⟨u1,u2,rfl,rv,rw'⟩:∃ u1 u2,us=[u1,u2]/\jN v u1/\jN w u2:=by
  cases r1 with
  | cons p q =>
   cases q with
   | cons p' q' =>
    cases q'
    exact ⟨_,_,rfl,p,p'⟩
 refine wpAny_newObj_type ?_ (by show 2<=sizeLine;decide)
 have I2:Inv X pins Z H1 { s1 with heap:=s1.heap.push { cls := .type "tuple",data := .seq [u1,u2].toArray } }:=I1.kept (t':=s1.toks) fun b o e=>Heap.get?_push_of_some _ e
 rw [hw]
 refine wpAny_bind (wpAny_pure ?_)
 show wpAny (model X.prog X.w) X.A (do rule "assign.swapped-stores";let items <- unpackItems (.ref s1.heap.objs.size) 2 none;assignInOrder [fun v=>bindName X.env y v,fun v=>bindName X.env x v] items.reverse;pure Flow.next) _ _ _
 refine wpAny_bind (wpAny_rule (wpAny_bind (unpackItems_tuple (items := #[u1,u2]) (I.ok.hd hc) (IsTup.new s1.heap _) fun h' hx' => ?_)))
 have I3:=I2.kept (h':=h') (t':=s1.toks) fun b o e=>hx' b o (Nat.ne_of_lt (Heap.lt_size e)) e
 show wpAny _ _ (assignInOrder [fun v=>bindName X.env y v,fun v=>bindName X.env x v] [u2,u1] >>= fun _=>pure Flow.next) _ _ _
 refine wpAny_bind (assignInOrder_cons (wpAny_bindName (qaZ I3 hN hj (.inl hy) rw' (fun s2 I4 => ?_) (.inr hy))))
 refine assignInOrder_cons (wpAny_bindName (qaZ I4 hN hi (.inl hx) rv (fun s3 I5=>assignInOrder_nil (wpAny_pure ?_)) (.inr hx)))
 rw [List.set_comm _ _ (Ne.symm hij)] at I5
 exact ⟨_,H1,I5,q1⟩
end
section
variable {X:Cx} {pos:Pos}
def qmc (c:TT) (tb:TS):TS:=fun D Z H=>∃ W:Nat->St->Hp->Prop,(∃ m,W m Z H)/\∀ m Z H,W m Z H ->
 c Z H fun b H1=>if b=true then ∃ N:St->Hp->Prop,(∀ Z' H',N Z' H'->∃ m',m'<m/\W m' Z' H')/\tb { D with nx:=N,ct:=N,bk:=D.nx } Z H1 else D.nx Z H1
theorem qim {c:Expr} {body:List Stmt} {tc:TT} {tb:TS} (hp:PassesOwn (model X.prog X.w) X.A X.env X.xe) (hc:PT X c tc) (hb:PSs X body tb):PS X (.While c body [] pos) (qmc tc tb):=by
 intro pins s Z H D I h
 obtain ⟨W,⟨m0,w0⟩,turn⟩:=h
 refine wpAny_While (codeAny_whileLoop (fun n s'=>∃ Z' H',Inv X pins Z' H' s'/\W n Z' H') ?_ m0 ⟨Z,H,I,w0⟩)
 rintro n s1 ⟨Z1,H1,I1,w1⟩
 refine wpAny_passesOwn hp (thn (hc pins s1 Z1 H1 _ I1 (turn n Z1 H1 w1)) fun b s2 ⟨H2,I2,q2⟩ => ?_)
 cases b with
 | true =>
  obtain ⟨N,hN,q2⟩:=q2
  rw [if_pos rfl]
  refine wpAny_passesOwn hp (thn (hb pins s2 Z1 H2 _ I2 q2) fun f s3 q3 => ?_)
  cases f with
  | next =>
   obtain ⟨Z3,H3,I3,n3⟩:=q3
   obtain ⟨m',hm,w3⟩:=hN Z3 H3 n3
   exact ⟨m',hm,Z3,H3,I3,w3⟩
  | cont =>
   obtain ⟨Z3,H3,I3,n3⟩:=q3
   obtain ⟨m',hm,w3⟩:=hN Z3 H3 n3
   exact ⟨m',hm,Z3,H3,I3,w3⟩
  | brk=>exact q3
  | ret v=>exact q3
 | false =>
  rw [if_neg Bool.false_ne_true]
  exact wpAny_execs_nil ⟨Z1,H2,I2,q2⟩
end
structure It where
 go:Nat->Hp->Prop
 yld:Nat->Hp->V->Hp->Prop
 stop:Nat->Hp->Prop
def qey (X:Cx) (pins:List (Addr×Obj)) (H:Hp) (b:Addr):Prop :=
 H b=none/\b≠X.env.locals/\b ∉ X.fs/\(b∈X.ex\/X.s₀.heap.objs.size<=b)/\(∀ x c,X.env.cells.lookup x=some c->c≠b)/\∀ p∈X.pn++pins,p.1≠b
theorem Inv.fpOk {X:Cx} {pins:List (Addr×Obj)} {Z:St} {H H':Hp} {s:Shared} {b:Addr} (I:Inv X pins Z H s) (hb:s.heap.objs.size<=b) (hn:H' b=none):qey X pins H' b:=by
 refine ⟨hn,Nat.ne_of_gt (Nat.lt_of_lt_of_le I.lt hb),I.nofs hb,.inr (Nat.le_trans I.sz hb),fun x c e z => ?_,fun p hp z => ?_⟩
 ·obtain ⟨v,q⟩:=I.cell x c e
  exact absurd (Nat.lt_of_lt_of_le q.lt (by rw [z];exact hb)) (Nat.lt_irrefl _)
 ·exact absurd (Nat.lt_of_lt_of_le (Heap.lt_size (I.pin p hp).1) (by rw [z];exact hb)) (Nat.lt_irrefl _)
structure qmd (P:Program) (w:World) (K:PySem.W.Frag) (tg:Expr) (J:It) (fp:List Addr) (it:Addr) (tn:Nat->Heap->Prop):Prop where
 mem:it∈fp
 obj:∀ i h,tn i h->∀ b∈fp,∃ o,h.get? b=some o/\∀ v,o.data ≠ .cell v
 keep:∀ i h h',tn i h->(∀ b∈fp,∀ o,h.get? b=some o->h'.get? b=some o)->tn i h'
 item:∀ (X:Cx),X.prog=P->X.w=w->X.K=K->X.calm=true->∀ (i:Nat) (pins:List (Addr×Obj)) (s:Shared) (Z:St) (H:Hp) (E:Value->Shared->Prop),Inv X pins Z H s->(∀ b∈fp,qey X pins H b)->tn i s.heap->J.go i H ->
  wpAny (model P w) X.A (pyNext (.ref it)) (fun r s1=>∃ u,r=some u /\
   wpAny (model P w) X.A (letOwnedTupleGo tg (.ref it) u) (fun _ s2=>∃ x H',Inv X pins Z H' s2/\jN x u/\J.yld i H x H'/\tn (i+1) s2.heap/\∀ b∈fp,H' b=none) E s1) E s
 done:∀ (X:Cx),X.prog=P->X.w=w->X.K=K->X.calm=true->∀ (i:Nat) (pins:List (Addr×Obj)) (s:Shared) (Z:St) (H:Hp) (E:Value->Shared->Prop),Inv X pins Z H s->(∀ b∈fp,qey X pins H b)->tn i s.heap->J.stop i H ->
  wpAny (model P w) X.A (pyNext (.ref it)) (fun r s1=>r=none/\Inv X pins Z H s1) E s
 self:∀ (A:Around) (i:Nat) (s:Shared) (Q:Value->Shared->Prop) (E:Value->Shared->Prop),tn i s.heap->Q (.ref it) s->wpAny (model P w) A (pyIter (.ref it)) Q E s
abbrev TI:=St->Hp->(It->Hp->Prop)->Prop
def PIE (X:Cx) (pins:List (Addr×Obj)) (Z:St) (tg:Expr) (R:It->Hp->Prop) (itv:Value) (s2:Shared):Prop :=
 ∃ (it:Addr) (fp:List Addr) (tn:Nat->Heap->Prop) (J:It) (H':Hp),itv = .ref it/\Inv X pins Z H' s2/\qmd X.prog X.w X.K tg J fp it tn/\tn 0 s2.heap/\(∀ b∈fp,qey X pins H' b)/\R J H'
def PI (X:Cx) (tg iter:Expr) (wi:TI):Prop :=
 ∀ (pins:List (Addr×Obj)) (s:Shared) (Z:St) (H:Hp) (R:It->Hp->Prop),Inv X pins Z H s->wi Z H R ->
  wpAny (model X.prog X.w) X.A (eval iter X.env) (fun v s1=>wpAny (model X.prog X.w) X.A (pyIter v) (PIE X pins Z tg R) X.xe s1) X.xe s
theorem qkl {M:Model} {A:Around} {E:Value->Shared->Prop} {s:Shared} {tg:Expr} {it:Addr} {u:Value} {o:Obj} {n:String} {vs:Array Value} {Q:Unit->Shared->Prop} (ho:s.heap.get? it=some o) (hc:o.cls = .type n) (hd:o.data = .fields vs)
  (hn:["enumerate","zip","dict_itemiterator","dict_reverseitemiterator","odict_iterator","itertools.zip_longest","itertools.pairwise"].contains n=false) (hQ:Q () s):wpAny M A (letOwnedTupleGo tg (.ref it) u) Q E s:=by
 unfold letOwnedTupleGo
 cases tg<;>first
  | exact wpAny_pure hQ
  | (cases u<;>first
    | exact wpAny_pure hQ
    | (refine wpAny_bind (wpAny_load ho ?_)
       rw [hc,hd]
       show wpAny M A (if (["enumerate","zip","dict_itemiterator","dict_reverseitemiterator","odict_iterator","itertools.zip_longest","itertools.pairwise"].contains n&&vs[0]? == some (rawInt _))=true then _ else _) Q E s
       rw [if_neg (by intro h;rw [hn,Bool.false_and] at h;cases h)]
       exact wpAny_pure hQ))
def Itl (K:PySem.W.Frag) (a:Addr):It :=
 ⟨fun i H=>∃ xs x,SqL K H a xs/\xs[i]? = some x,fun i H x H'=>H'=H/\∀ xs,SqL K H a xs->xs[i]? = some x,fun i H=>∃ xs,SqL K H a xs/\xs.length<=i⟩
def Itt (K:PySem.W.Frag) (a:Addr):It :=
 ⟨fun i H=>∃ xs x,SqT K H a xs/\xs[i]? = some x,fun i H x H'=>H'=H/\∀ xs,SqT K H a xs->xs[i]? = some x,fun i H=>∃ xs,SqT K H a xs/\xs.length<=i⟩
def Itr (lo:Int) (n:Nat):It:=⟨fun i _=>i<n,fun i H x H'=>H'=H/\x = .int (lo+i),fun i _=>n<=i⟩
theorem qgB {P:Program} {w:World} {K:PySem.W.Frag} {tg:Expr} (a it:Addr):qmd P w K tg (Itl K a) [it] it (fun i h=>h.IsListIter it a i) where
 mem:=by simp
 obj:=fun i h st b hb=>by
  have e:b=it:=by simpa using hb
  subst e
  obtain ⟨o,e,c,d⟩:=st
  exact ⟨o,e,fun v z=>by rw [d] at z;cases z⟩
 keep:=fun i h h' st k=>st.at fun o e=>k it (by simp) o e
 item:=by
  intro X hP hw hK hc i pins s Z H E I hf st hg
  subst hP hw hK
  obtain ⟨xs,x,hq,hx⟩:=hg
  obtain ⟨its,rv,p,hz⟩:=I.list hq
  obtain ⟨u,hu,ru⟩:=rv.get hx
  obtain ⟨f0,f1,f2,f3,f4,f5⟩:=hf it (by simp)
  refine wpAny_pyNext_list_item st p.isList (x:=u) (by simpa using hu) fun h' st' sb => ?_
  have I1:Inv X pins Z H { s with heap:=h' }:=I.turned (t':=s.toks) (fun b o hb e=>(sb.2 b hb).trans e) f0 f1 f3 f4 f5
  obtain ⟨o,e,c,d⟩:=id st'
  exact ⟨u,rfl,qkl (s:={ s with heap:=h' }) e c d (by decide) ⟨x,H,I1,ru,⟨rfl,fun ys hy=>by rw [I.list_inj hy hq];exact hx⟩,st',fun b hb=>(hf b hb).1⟩⟩
 done:=by
  intro X hP hw hK hc i pins s Z H E I hf st hg
  subst hP hw hK
  obtain ⟨xs,hq,hx⟩:=hg
  obtain ⟨its,rv,p,hz⟩:=I.list hq
  obtain ⟨f0,f1,f2,f3,f4,f5⟩:=hf it (by simp)
  have hl:=rv.length
  exact wpAny_pyNext_list_end (I.ok.hd hc) st p.isList (by simp;omega) fun h' eb=>⟨rfl,I.turned (t':=s.toks) (fun b o hb e=>eb b o hb e) f0 f1 f3 f4 f5⟩
 self:=fun _ _ _ _ _ st h=>wpAny_pyIter_listiter st h
theorem qfU {P:Program} {w:World} {K:PySem.W.Frag} {tg:Expr} (a it:Addr):qmd P w K tg (Itt K a) [it] it (fun i h=>h.IsTupleIter it a i) where
 mem:=by simp
 obj:=fun i h st b hb=>by
  have e:b=it:=by simpa using hb
  subst e
  obtain ⟨o,e,c,d⟩:=st
  exact ⟨o,e,fun v z=>by rw [d] at z;cases z⟩
 keep:=fun i h h' st k=>st.at fun o e=>k it (by simp) o e
 item:=by
  intro X hP hw hK hc i pins s Z H E I hf st hg
  subst hP hw hK
  obtain ⟨xs,x,hq,hx⟩:=hg
  obtain ⟨its,rv,p,hz⟩:=I.tuple hq
  obtain ⟨u,hu,ru⟩:=rv.get hx
  obtain ⟨f0,f1,f2,f3,f4,f5⟩:=hf it (by simp)
  refine wpAny_pyNext_tuple_item st (show s.heap.IsTuple a its.toArray from p) (x:=u) (by simpa using hu) fun h' st' sb => ?_
  have I1:Inv X pins Z H { s with heap:=h' }:=I.turned (t':=s.toks) (fun b o hb e=>(sb.2 b hb).trans e) f0 f1 f3 f4 f5
  obtain ⟨o,e,c,d⟩:=id st'
  exact ⟨u,rfl,qkl (s:={ s with heap:=h' }) e c d (by decide) ⟨x,H,I1,ru,⟨rfl,fun ys hy=>by rw [I.tuple_inj hy hq];exact hx⟩,st',fun b hb=>(hf b hb).1⟩⟩
 done:=by
  intro X hP hw hK hc i pins s Z H E I hf st hg
  subst hP hw hK
  obtain ⟨xs,hq,hx⟩:=hg
  obtain ⟨its,rv,p,hz⟩:=I.tuple hq
  obtain ⟨f0,f1,f2,f3,f4,f5⟩:=hf it (by simp)
  have hl:=rv.length
  exact wpAny_pyNext_tuple_end (I.ok.hd hc) st (show s.heap.IsTuple a its.toArray from p) (by simp;omega) fun h' eb=>⟨rfl,I.turned (t':=s.toks) (fun b o hb e=>eb b o hb e) f0 f1 f3 f4 f5⟩
 self:=fun _ _ _ _ _ st h=>wpAny_pyIter_tupleiter st h
theorem qfV {P:Program} {w:World} {K:PySem.W.Frag} {tg:Expr} (it:Addr) (lo:Int) (n:Nat):qmd P w K tg (Itr lo n) [it] it (fun i h=>IsRangeIter h it (lo+(i:Nat)*1) ((n:Int)-(i:Nat)) 1) where
 mem:=by simp
 obj:=fun i h st b hb=>by
  have e:b=it:=by simpa using hb
  subst e
  exact ⟨_,st,fun v z=>by
   have z':Data.fields _=Data.cell v:=z
   cases z'⟩
 keep:=fun i h h' st k=>k it (by simp) _ st
 item:=by
  intro X hP hw hK hc i pins s Z H E I hf st hg
  subst hP hw hK
  obtain ⟨f0,f1,f2,f3,f4,f5⟩:=hf it (by simp)
  have W:=Walks.range (prog:=X.prog) (w:=X.w) (I.ok.hd hc) it lo 1 n
  refine W.item i s _ _ hg st fun v h' tk hv st' kk => ?_
  obtain ⟨t,rfl⟩:=hv
  have I1:Inv X pins Z H { s with heap:=h',toks:=tk }:=I.turned (fun b o hb e=>kk b o (by simpa using hb) e) f0 f1 f3 f4 f5
  refine ⟨_,rfl,qkl (s:={ s with heap:=h',toks:=tk }) (n:="range_iterator") st' rfl rfl (by decide) ⟨.int (lo+i),H,I1,⟨t,?_⟩,⟨rfl,rfl⟩,st',fun b hb=>(hf b hb).1⟩⟩
  rw [Int.mul_one]
 done:=by
  intro X hP hw hK hc i pins s Z H E I hf st hg
  subst hP hw hK
  obtain ⟨f0,f1,f2,f3,f4,f5⟩:=hf it (by simp)
  exact wpAny_pyNext_range_end (I.ok.hd hc) st (by have:n<=i:=hg;omega) fun h' eb=>⟨rfl,I.turned (t':=s.toks) (fun b o hb e=>eb b o hb e) f0 f1 f3 f4 f5⟩
 self:=fun _ _ _ _ _ st h=>wpAny_pyIter_rangeiter st h
end L2
namespace L2
open PySem PySem.Spec PyProof.Rows
section
variable {X:Cx} {tg:Expr}
theorem qin {pins:List (Addr×Obj)} {Z:St} {H:Hp} {s:Shared} {R:It->Hp->Prop} {E:Value->Shared->Prop} {lo hi:Int} {t u v:Tok} {tk:Nat} (I:Inv X pins Z H s) (h1 : -(2 ^ 62)<=lo) (h2:lo<2 ^ 62) (h3 : -(2 ^ 62)<=hi) (h4:hi<2 ^ 62)
  (q:R (Itr lo (hi-lo).toNat) H):wpAny (model X.prog X.w) X.A (pyIter (.ref s.heap.objs.size)) (PIE X pins Z tg R) E { s with heap:=s.heap.push { cls := .type "range",data := .fields #[.int lo t,.int hi u,.int 1 v] },toks:=tk }:=by
 refine wpAny_pyIter_range (IsRange.new ..) (small_one h1 h2 h3 h4) ?_
 have I1:Inv X pins Z H { s with heap:=s.heap.push { cls := .type "range",data := .fields #[.int lo t,.int hi u,.int 1 v] },toks:=tk }:=I.kept fun b o e=>Heap.get?_push_of_some _ e
 refine ⟨(s.heap.push { cls := .type "range",data := .fields #[.int lo t,.int hi u,.int 1 v] }).objs.size,[(s.heap.push { cls := .type "range",data := .fields #[.int lo t,.int hi u,.int 1 v] }).objs.size],_,_,H,rfl,
  I1.kept (t':=tk) fun b o e=>Heap.get?_push_of_some _ e,qfV _ lo (hi-lo).toNat,?_,fun b hb => ?_,q⟩
 ·have e1:lo+((0:Nat):Int)*1=lo:=by simp
  have e2:(((hi-lo).toNat:Nat):Int)-((0:Nat):Int)=Builtin.Range.rangeSize lo hi 1:=by rw [rangeSize_one];split<;>omega
  show IsRangeIter _ _ (lo+((0:Nat):Int)*1) ((((hi-lo).toNat:Nat):Int)-((0:Nat):Int)) 1
  rw [e1,e2]
  exact Heap.get?_push_size _ rfl
 ·have e:b=(s.heap.push { cls := .type "range",data := .fields #[.int lo t,.int hi u,.int 1 v] }).objs.size:=by simpa using hb
  subst e
  exact I1.fpOk (Nat.le_refl _) (I1.hok.fresh (Nat.le_refl _))
def qod (ta:TA):TI:=fun Z H R=>ta Z H fun vs H1=>∃ j:Int,vs=[.int j] /\ -(2 ^ 62)<=j/\j<2 ^ 62/\R (Itr 0 j.toNat) H1
theorem qgC {a:Expr} {ta:TA} {p pos:Pos} (hg:Gl X "range") (hm:X.mg "range"=none) (ha:PA X [a] ta) (hs:starEach [a] X.env=[(false,eval a X.env)]:=by rfl):PI X tg (.Call (.Name "range" p) [a] [] pos) (qod ta):=by
 intro pins s Z H R I h
 refine Call_ (qb9 I hg hm boot_range (PyProof.Rows.callWith_type1 (thn (ha pos pins s Z H _ I h) fun us s1 ⟨vs,H1,I1,r1,q1⟩ => ?_) hs rfl))
 obtain ⟨j,e,q1,q2,q⟩:=q1
 subst e
 cases r1 with
 | cons r rr =>
  cases rr
  obtain ⟨t,rfl⟩:=r
  exact call_range_1 (qin I1 (by omega) (by omega) q1 q2 (by simpa using q))
def qpH (wi:TI) (g:TG) (tb:TS):TS:=fun D Z H=>wi Z H fun J H1=>∃ W:Nat->Nat->St->Hp->Prop,(∃ m,W 0 m Z H1)/\∀ i m Z H,W i m Z H ->
 (J.stop i H/\D.nx Z H)\/(J.go i H/\∃ N:St->Hp->Prop,(∀ Z' H',N Z' H'->∃ m',m'<m/\W (i+1) m' Z' H')/\∀ x H',J.yld i H x H'->g x Z H' fun Z2 H2=>tb { D with nx:=N,ct:=N,bk:=D.nx } Z2 H2)
def qca (fp:List Addr) (h:Heap):List (Addr×Obj):=fp.filterMap fun b=>(h.get? b).map fun o=>(b,o)
theorem yF {fp:List Addr} {h:Heap} {b:Addr} {o:Obj} (hb:b∈fp) (e:h.get? b=some o):(b,o)∈qca fp h:=List.mem_filterMap.mpr ⟨b,hb,by rw [e];rfl⟩
theorem qgD {fp:List Addr} {h:Heap} {p:Addr×Obj} (hp:p∈qca fp h):p.1∈fp/\h.get? p.1=some p.2:=by
 obtain ⟨b,hb,e⟩:=List.mem_filterMap.mp hp
 cases q:h.get? b with
 | none=>rw [q] at e;cases e
 | some o =>
  rw [q] at e
  have e':(b,o)=p:=Option.some.inj e
  subst e'
  exact ⟨hb,q⟩
theorem Inv.pinned {pins:List (Addr×Obj)} {Z:St} {H:Hp} {s:Shared} {fp:List Addr} (I:Inv X pins Z H s) (hf:∀ b∈fp,qey X pins H b) (ho:∀ b∈fp,∃ o,s.heap.get? b=some o/\∀ v,o.data ≠ .cell v):Inv X (pins++qca fp s.heap) Z H s :=
 I.pins_of fun p hp=>(mA_.mp hp).elim (fun z=>I.pin p (mr_ _ z)) fun z=>by
  obtain ⟨hb,e⟩:=qgD z
  obtain ⟨f0,f1,f2,_⟩:=hf p.1 hb
  obtain ⟨o,e',d⟩:=ho p.1 hb
  rw [e] at e';cases e'
  exact ⟨e,f0,f1,f2,d⟩
theorem Inv.unpinned {pins pl:List (Addr×Obj)} {Z:St} {H:Hp} {s:Shared} (I:Inv X (pins++pl) Z H s):Inv X pins Z H s:=I.pins_of fun p hp=>I.pin p (mr_ _ (List.mem_append_left _ hp))
theorem qme {iter:Expr} {body:List Stmt} {wi:TI} {g:TG} {tb:TS} {pos:Pos} (hp:PassesOwn (model X.prog X.w) X.A X.env X.xe) (hc:X.calm=true) (hi:PI X tg iter wi) (hg:PG X tg g) (hb:PSs X body tb)
  (hs:∀ x,foldedSetIterable iter X.env x=pure x:=by intro _;rfl):PS X (.For tg iter body [] pos) (qpH wi g tb):=by
 intro pins s Z H D I h
 refine wpAny_For (thn (hi pins s Z H _ I h) fun v s1 h1=>thn h1 fun itv s2 h2 => ?_) hs
 obtain ⟨it,fp,tn,J,H2,e,I2,T,st2,f2,W,⟨m0,w0⟩,turn⟩:=h2
 subst e
 have stat:∀ {H':Hp},(∀ b∈fp,H' b=none)->∀ b∈fp,qey X pins H' b:=fun hn b hb=>⟨hn b hb,(f2 b hb).2⟩
 refine codeAny_forLoop_any (fun n s'=>∃ i Z' H',Inv X pins Z' H' s'/\tn i s'.heap/\(∀ b∈fp,H' b=none)/\W i n Z' H') ?_ m0 ⟨0,Z,H2,I2,st2,fun b hb=>(f2 b hb).1,w0⟩
 rintro n s3 ⟨i,Z3,H3,I3,st3,fr3,w3⟩
 rcases turn i n Z3 H3 w3 with ⟨stop,qn⟩ | ⟨go,N,hN,step⟩
 ·refine wpAny_passesOwn hp (thn (T.done X rfl rfl rfl hc i pins s3 Z3 H3 X.xe I3 (stat fr3) st3 stop) fun r s4 ⟨hr,I4⟩ => ?_)
  subst hr
  exact wpAny_execs_nil ⟨Z3,H3,I4,qn⟩
 ·refine wpAny_passesOwn hp (thn (T.item X rfl rfl rfl hc i pins s3 Z3 H3 X.xe I3 (stat fr3) st3 go) fun r s4 ⟨u,hr,h4⟩ => ?_)
  subst hr
  refine wpAny_passesOwn hp (thn h4 fun _ s5 ⟨x,H5,I5,r5,y5,st5,fr5⟩ => ?_)
  have I5':=I5.pinned (stat fr5) (T.obj _ _ st5)
  refine wpAny_passesOwn hp (thn (hg _ s5 Z3 H5 x u _ I5' r5 (step x H5 y5)) fun _ s6 ⟨Z6,H6,I6,q6⟩ => ?_)
  refine wpAny_passesOwn hp (thn (hb _ s6 Z6 H6 _ I6 q6) fun f s7 q7 => ?_)
  have again:∀ {Z7:St} {H7:Hp},Inv X (pins++qca fp s5.heap) Z7 H7 s7->N Z7 H7->∃ m,m<n/\∃ i Z' H',Inv X pins Z' H' s7/\tn i s7.heap/\(∀ b∈fp,H' b=none)/\W i m Z' H':=fun {Z7 H7} I7 n7=>by
   obtain ⟨m',hm,w7⟩:=hN Z7 H7 n7
   refine ⟨m',hm,i+1,Z7,H7,I7.unpinned,T.keep _ _ _ st5 fun b hb o e=>(I7.pin (b,o) (mr_ _ (mr_ _ (yF hb e)))).1,fun b hb => ?_,w7⟩
   obtain ⟨o,e,d⟩:=T.obj _ _ st5 b hb
   exact (I7.pin (b,o) (mr_ _ (mr_ _ (yF hb e)))).2.1
  cases f with
  | next=>obtain ⟨Z7,H7,I7,n7⟩:=q7;exact again I7 n7
  | cont=>obtain ⟨Z7,H7,I7,n7⟩:=q7;exact again I7 n7
  | brk=>obtain ⟨Z7,H7,I7,q7⟩:=q7;exact ⟨Z7,H7,I7.unpinned,q7⟩
  | ret v=>obtain ⟨x7,Z7,H7,I7,r7,q7⟩:=q7;exact ⟨x7,Z7,H7,I7.unpinned,r7,q7⟩
end
end L2
namespace L2
open PySem PySem.Spec PyProof.Rows
abbrev R2:=V->V->Hp->VK->Prop
def OpR (X:Cx) (f:Value->Value->Sem Value) (r:R2):Prop :=
 ∀ (pins:List (Addr×Obj)) (s:Shared) (Z:St) (H:Hp) (x y:V) (v u:Value) (Q:VK),Inv X pins Z H s->jN x v->jN y u->r x y H Q ->
  wpAny (model X.prog X.w) X.A (f v u) (EP X pins Z Q) X.xe s
def UnR (X:Cx) (f:Value->Sem Value) (r:V->Hp->VK->Prop):Prop :=
 ∀ (pins:List (Addr×Obj)) (s:Shared) (Z:St) (H:Hp) (x:V) (v:Value) (Q:VK),Inv X pins Z H s->jN x v->r x H Q ->
  wpAny (model X.prog X.w) X.A (f v) (EP X pins Z Q) X.xe s
def yR (X:Cx) (f:Value) (r:List V->Hp->VK->Prop):Prop :=
 ∀ (pins:List (Addr×Obj)) (s:Shared) (Z:St) (H:Hp) (xs:List V) (us:List Value) (Q:VK),Inv X pins Z H s->zb xs us->r xs H Q ->
  wpAny (model X.prog X.w) X.A (call f us) (EP X pins Z Q) X.xe s
def tOp (r:R2) (ta tb:TE):TE:=fun Z H Q=>ta Z H fun x H1=>tb Z H1 fun y H2=>r x y H2 Q
def tUn (r:V->Hp->VK->Prop) (ta:TE):TE:=fun Z H Q=>ta Z H fun x H1=>r x H1 Q
def rI (C:Int->Int->Prop) (g:Int->Int->V):R2:=fun x y H Q=>∃ i j,x = .int i/\y = .int j/\C i j/\Q (g i j) H
def rI0 (g:Int->Int->V):R2:=fun x y H Q=>∃ i j,x = .int i/\y = .int j/\Q (g i j) H
def rU (g:Int->V):V->Hp->VK->Prop:=fun x H Q=>∃ i,x = .int i/\Q (g i) H
section
variable {X:Cx} {a b c:Expr} {ta tb tc:TE} {pos:Pos}
theorem qoe (ha:PE X a ta) (hb:PE X b tb) {pins:List (Addr×Obj)} {s:Shared} {Z:St} {H:Hp} {R:V->V->Hp->Prop} (I:Inv X pins Z H s)
  (h:ta Z H fun x H1=>tb Z H1 fun y H2=>R x y H2) {Q:Value->Shared->Prop} {f:Value->Value->Sem Value}
  (hf:∀ v u s2 x y H2,Inv X pins Z H2 s2->jN x v->jN y u->R x y H2->wpAny (model X.prog X.w) X.A (f v u) Q X.xe s2) :
  wpAny (model X.prog X.w) X.A (eval a X.env) (fun v sQ=>wpAny (model X.prog X.w) X.A (eval b X.env) (fun u sV=>wpAny (model X.prog X.w) X.A (f v u) Q X.xe sV) X.xe sQ) X.xe s:=by
 refine thn (ha pins s Z H _ I h) fun v s1 ⟨x,H1,I1,r1,q1⟩ => ?_
 refine thn (hb pins s1 Z H1 _ I1 q1) fun u s2 ⟨y,H2,I2,r2,q2⟩ => ?_
 exact hf v u s2 x y H2 I2 r1 r2 q2
theorem qof {op:Operator} {r:R2} (ho:OpR X (binaryOp op) r) (ha:PE X a ta) (hb:PE X b tb):PE X (.BinOp a op b pos) (tOp r ta tb):=by
 intro pins s Z H Q I h
 exact wpAny_BinOp (qoe ha hb I h fun v u s2 x y H2 I2 rx ry q=>ho pins s2 Z H2 x y v u Q I2 rx ry q)
theorem qog {op:UnaryOp} {r:V->Hp->VK->Prop} (ho:UnR X (unaryOp op) r) (ha:PE X a ta):PE X (.UnaryOp op a pos) (tUn r ta):=by
 intro pins s Z H Q I h
 exact UnaryOp_ (thn (ha pins s Z H _ I h) fun v s1 ⟨x,H1,I1,r1,q1⟩=>ho pins s1 Z H1 x v Q I1 r1 q1)
theorem opI {f:Value->Value->Sem Value} {C:Int->Int->Prop} {g:Int->Int->Int}
  (rule:∀ (i j:Int) (t u:Tok) (s:Shared) (Q:Value->Shared->Prop) (E:Value->Shared->Prop),C i j->Q (.int (g i j) s.toks) { s with toks:=s.toks+1 }->wpAny (model X.prog X.w) X.A (f (.int i t) (.int j u)) Q E s) :
  OpR X f (rI C fun i j => .int (g i j)):=by
 intro pins s Z H x y v u Q I rx ry h
 obtain ⟨i,j,rfl,rfl,hc,q⟩:=h
 obtain ⟨t,rfl⟩:=rx
 obtain ⟨t',rfl⟩:=ry
 exact rule i j t t' s _ _ hc ⟨.int (g i j),H,I.tok _,⟨_,rfl⟩,q⟩
theorem qoZ {f:Value->Value->Sem Value} {g:Int->Int->Int}
  (rule:∀ (i j:Int) (t u:Tok) (s:Shared) (Q:Value->Shared->Prop) (E:Value->Shared->Prop),Q (.int (g i j) s.toks) { s with toks:=s.toks+1 }->wpAny (model X.prog X.w) X.A (f (.int i t) (.int j u)) Q E s) :
  OpR X f (rI0 fun i j => .int (g i j)):=by
 intro pins s Z H x y v u Q I rx ry h
 obtain ⟨i,j,rfl,rfl,q⟩:=h
 obtain ⟨t,rfl⟩:=rx
 obtain ⟨t',rfl⟩:=ry
 exact rule i j t t' s _ _ ⟨.int (g i j),H,I.tok _,⟨_,rfl⟩,q⟩
theorem qnR {f:Value->Value->Sem Value} {g:Int->Int->Bool}
  (rule:∀ (i j:Int) (t u:Tok) (s:Shared) (Q:Value->Shared->Prop) (E:Value->Shared->Prop),Q (.bool (g i j)) s->wpAny (model X.prog X.w) X.A (f (.int i t) (.int j u)) Q E s) :
  OpR X f (rI0 fun i j => .bl (g i j)):=by
 intro pins s Z H x y v u Q I rx ry h
 obtain ⟨i,j,rfl,rfl,q⟩:=h
 obtain ⟨t,rfl⟩:=rx
 obtain ⟨t',rfl⟩:=ry
 exact rule i j t t' s _ _ ⟨.bl (g i j),H,I,rfl,q⟩
def qmf (i j:Int):Prop:=0<j/\j<1606938044258990275541962092341162602522202993782792835301376
theorem qo0 {i j:Int} (h1:0<j) (h2:j<1606938044258990275541962092341162602522202993782792835301376):Builtin.divisionGoesByPylong i j=false:=by
 refine PyProof.noPylong_of_log2 ?_
 have h0:j.natAbs≠0:=by omega
 have h3:j.natAbs<2 ^ 200:=by
   have:(2:Nat) ^ 200=1606938044258990275541962092341162602522202993782792835301376:=by decide +kernel
   omega
 have:=(Nat.log2_lt h0).mpr h3
 omega
def qo1 (i j:Int):Prop:=0<=j/\j<=1000000/\i.natAbs<2 ^ 64
def qmg (i j:Int):Prop:=(-(2 ^ 64)<i/\i<2 ^ 64)\/(-(2 ^ 64)<j/\j<2 ^ 64)
theorem qmg.ok {i j:Int} (h:qmg i j):IntMulOk i j:=by
 rcases h with ⟨h1,h2⟩ | ⟨h1,h2⟩
 ·exact .of_left (intBits_le_64 h1 h2)
 ·exact .of_right (intBits_le_64 h1 h2)
theorem qmh:OpR X (binaryOp .Add) (rI0 fun i j => .int (i+j)):=qoZ fun _ _ _ _ _ _ _ q=>add_int q
theorem qdz:OpR X (binaryOp .Sub) (rI0 fun i j => .int (i-j)):=qoZ fun _ _ _ _ _ _ _ q=>sub_int q
theorem qmi:OpR X (binaryOp .Mult) (rI qmg fun i j => .int (i*j)):=opI fun _ _ _ _ _ _ _ hc q=>mul_int q hc.ok
theorem vY:OpR X (binaryOp .FloorDiv) (rI qmf fun i j => .int (i/j)):=opI fun i j _ _ _ _ _ hc q=>by
 have h1:(0:Int)<j:=hc.1
 have h2:j<1606938044258990275541962092341162602522202993782792835301376:=hc.2
 exact floordiv_int (by omega) (by rw [Int.fdiv_eq_ediv_of_nonneg i (by omega)];exact q) (.inl (qo0 h1 h2))
theorem qbd:OpR X (binaryOp .Mod) (rI (fun _ j=>0<j) fun i j => .int (i%j)):=opI fun i j _ _ _ _ _ hc q=>by
 have h1:(0:Int)<j:=hc
 exact mod_int' (by omega) (by rw [Int.fmod_eq_emod_of_nonneg i (by omega)];exact q)
theorem qmj:OpR X (binaryOp .Pow) (rI qo1 fun i j => .int (i ^ j.toNat)):=opI fun _ _ _ _ _ _ _ hc q=>pow_int_small hc.1 hc.2.1 hc.2.2 q
theorem unI {f:Value->Sem Value} {g:Int->Int}
  (rule:∀ (i:Int) (t:Tok) (s:Shared) (Q:Value->Shared->Prop) (E:Value->Shared->Prop),Q (.int (g i) s.toks) { s with toks:=s.toks+1 }->wpAny (model X.prog X.w) X.A (f (.int i t)) Q E s) :
  UnR X f (rU fun i => .int (g i)):=by
 intro pins s Z H x v Q I rx h
 obtain ⟨i,rfl,q⟩:=h
 obtain ⟨t,rfl⟩:=rx
 exact rule i t s _ _ ⟨.int (g i),H,I.tok _,⟨_,rfl⟩,q⟩
theorem qmk:UnR X (unaryOp .USub) (rU fun i => .int (-i)):=unI fun _ _ _ _ _ q=>neg_int q
end
def qoh:V->V->Bool
 | .non,.non=>true | .non,.int _=>true | .int _,.non=>true | .non,.bl _=>true | .bl _,.non=>true | .non,.str _=>true | .str _,.non=>true
 | .int _,.int _=>true | .bl _,.bl _=>true | .str _,.str _=>true | .byt _,.byt _=>true
 | .int _,.str _=>true | .str _,.int _=>true | .bl _,.str _=>true | .str _,.bl _=>true
 | _,_=>false
def rEq:R2:=fun x y H Q=>qoh x y=true/\Q (.bl (decide (x=y))) H
def rNe:R2:=fun x y H Q=>qoh x y=true/\Q (.bl (!decide (x=y))) H
theorem qgE {i j:Int}:decide (V.int i=V.int j)=(i==j):=by
 rw [Bool.eq_iff_iff]
 simp
theorem qjw {i j:Bool}:decide (V.bl i=V.bl j)=(i==j):=by
 rw [Bool.eq_iff_iff]
 simp
theorem qgF {i j:Str}:decide (V.str i=V.str j)=(i==j):=by
 rw [Bool.eq_iff_iff]
 simp
theorem qgG {i j:Array UInt8}:decide (V.byt i=V.byt j)=(i.toList==j.toList):=by
 rw [Bool.eq_iff_iff]
 cases i
 cases j
 simp
section
variable {X:Cx} {a b c:Expr} {ta tb tc:TE} {pos:Pos}
theorem ze {pins:List (Addr×Obj)} {Z:St} {H:Hp} {s:Shared} {Q:VK} {k k':Bool} (I:Inv X pins Z H s) (q:Q (.bl k) H) (e:k=k'):EP X pins Z Q (.bool k') s:=by
 subst e
 exact ⟨.bl k,H,I,rfl,q⟩
theorem qoi:OpR X (compareOp .Eq) rEq:=by
 intro pins s Z H x y v u Q I rx ry h
 obtain ⟨hs,q⟩:=h
 cases x with
 | non =>
  cases rx
  cases y with
  | non=>cases ry;exact PySem.EqNone.eq_none_none (ze I q (by simp))
  | bl j=>cases ry;exact PySem.EqNone.eq_none_bool (ze I q (by simp))
  | int j=>obtain ⟨t',rfl⟩:=ry;exact PySem.EqNone.eq_none_int (ze I q (by simp))
  | str j=>obtain ⟨t',rfl⟩:=ry;exact PySem.EqNone.eq_none_str (ze I q (by simp))
  | _=>exact absurd (show false=true from hs) Bool.false_ne_true
 | bl i =>
  cases rx
  cases y with
  | non=>cases ry;exact PySem.EqNone.eq_bool_none (ze I q (by simp))
  | bl j=>cases ry;exact eq_bool (ze I q qjw)
  | str j=>obtain ⟨t',rfl⟩:=ry;exact PySem.EqMixed.eq_bool_str (ze I q (by simp))
  | _=>exact absurd (show false=true from hs) Bool.false_ne_true
 | int i =>
  obtain ⟨t,rfl⟩:=rx
  cases y with
  | non=>cases ry;exact PySem.EqNone.eq_int_none (ze I q (by simp))
  | int j=>obtain ⟨t',rfl⟩:=ry;exact eq_int (ze I q qgE)
  | str j=>obtain ⟨t',rfl⟩:=ry;exact PySem.EqMixed.eq_int_str (ze I q (by simp))
  | _=>exact absurd (show false=true from hs) Bool.false_ne_true
 | str i =>
  obtain ⟨t,rfl⟩:=rx
  cases y with
  | non=>cases ry;exact PySem.EqNone.eq_str_none (ze I q (by simp))
  | bl j=>cases ry;exact PySem.EqMixed.eq_str_bool (ze I q (by simp))
  | int j=>obtain ⟨t',rfl⟩:=ry;exact PySem.EqMixed.eq_str_int (ze I q (by simp))
  | str j=>obtain ⟨t',rfl⟩:=ry;exact eq_str (ze I q qgF)
  | _=>exact absurd (show false=true from hs) Bool.false_ne_true
 | byt i =>
  obtain ⟨t,rfl⟩:=rx
  cases y with
  | byt j=>obtain ⟨t',rfl⟩:=ry;exact PySem.W.eq_bytes (ze I q qgG)
  | _=>exact absurd (show false=true from hs) Bool.false_ne_true
 | _=>cases y<;>exact absurd (show false=true from hs) Bool.false_ne_true
theorem qoj:OpR X (compareOp .NotEq) rNe:=by
 intro pins s Z H x y v u Q I rx ry h
 obtain ⟨hs,q⟩:=h
 cases x with
 | non =>
  cases rx
  cases y with
  | non=>cases ry;exact PySem.EqNone.ne_none_none (ze I q (by simp))
  | bl j=>cases ry;exact PySem.EqNone.ne_none_bool (ze I q (by simp))
  | int j=>obtain ⟨t',rfl⟩:=ry;exact PySem.EqNone.ne_none_int (ze I q (by simp))
  | str j=>obtain ⟨t',rfl⟩:=ry;exact PySem.EqNone.ne_none_str (ze I q (by simp))
  | _=>exact absurd (show false=true from hs) Bool.false_ne_true
 | bl i =>
  cases rx
  cases y with
  | non=>cases ry;exact PySem.EqNone.ne_bool_none (ze I q (by simp))
  | bl j=>cases ry;exact ne_bool (ze I q (congrArg not qjw))
  | str j=>obtain ⟨t',rfl⟩:=ry;exact PySem.EqMixed.ne_bool_str (ze I q (by simp))
  | _=>exact absurd (show false=true from hs) Bool.false_ne_true
 | int i =>
  obtain ⟨t,rfl⟩:=rx
  cases y with
  | non=>cases ry;exact PySem.EqNone.ne_int_none (ze I q (by simp))
  | int j=>obtain ⟨t',rfl⟩:=ry;exact ne_int (ze I q (congrArg not qgE))
  | str j=>obtain ⟨t',rfl⟩:=ry;exact PySem.EqMixed.ne_int_str (ze I q (by simp))
  | _=>exact absurd (show false=true from hs) Bool.false_ne_true
 | str i =>
  obtain ⟨t,rfl⟩:=rx
  cases y with
  | non=>cases ry;exact PySem.EqNone.ne_str_none (ze I q (by simp))
  | bl j=>cases ry;exact PySem.EqMixed.ne_str_bool (ze I q (by simp))
  | int j=>obtain ⟨t',rfl⟩:=ry;exact PySem.EqMixed.ne_str_int (ze I q (by simp))
  | str j=>obtain ⟨t',rfl⟩:=ry;exact ne_str (ze I q (congrArg not qgF))
  | _=>exact absurd (show false=true from hs) Bool.false_ne_true
 | byt i =>
  obtain ⟨t,rfl⟩:=rx
  cases y with
  | byt j=>obtain ⟨t',rfl⟩:=ry;exact PySem.W.ne_bytes (ze I q (congrArg not qgG))
  | _=>exact absurd (show false=true from hs) Bool.false_ne_true
 | _=>cases y<;>exact absurd (show false=true from hs) Bool.false_ne_true
theorem qml:OpR X (compareOp .Lt) (rI0 fun i j => .bl (decide (i<j))):=qnR fun _ _ _ _ _ _ _ q=>lt_int q
theorem qeA:OpR X (compareOp .LtE) (rI0 fun i j => .bl (decide (i<=j))):=qnR fun _ _ _ _ _ _ _ q=>le_int q
theorem qad:OpR X (compareOp .Gt) (rI0 fun i j => .bl (decide (j<i))):=qnR fun _ _ _ _ _ _ _ q=>gt_int q
theorem qkm:OpR X (compareOp .GtE) (rI0 fun i j => .bl (decide (j<=i))):=qnR fun _ _ _ _ _ _ _ q=>ge_int q
theorem qdA:OpR X (compareOp .Is) (fun x y H Q=>y = .non/\Q (.bl (decide (x = .non))) H):=by
 intro pins s Z H x y v u Q I rx ry h
 obtain ⟨rfl,q⟩:=h
 cases ry
 refine is_none_gen (ze I q ?_)
 cases x<;>first
  | (cases rx;rfl)
  | (obtain ⟨t,rfl⟩:=rx;rfl)
theorem OpR.or {f:Value->Value->Sem Value} {r r':R2} (h:OpR X f r) (h':OpR X f r'):OpR X f (fun x y H Q=>r x y H Q\/r' x y H Q):=by
 intro pins s Z H x y v u Q I rx ry q
 rcases q with q | q
 ·exact h pins s Z H x y v u Q I rx ry q
 ·exact h' pins s Z H x y v u Q I rx ry q
theorem qH (b:Expr) {op:CmpOp} (h:op ≠ .In:=by decide) (h2:op ≠ .NotIn:=by decide):behindInMarks op b=false:=by
 have e1:(op==CmpOp.In)=false:=by cases op<;>first | rfl | exact absurd rfl h
 have e2:(op==CmpOp.NotIn)=false:=by cases op<;>first | rfl | exact absurd rfl h2
 cases b<;>simp [behindInMarks,e1,e2]
theorem qkn {op:CmpOp} {r:R2} (ho:OpR X (compareOp op) r) (ha:PE X a ta) (hb:PE X b tb) (hm:behindInMarks op b=false):PE X (.Compare a [op] [b] pos) (tOp r ta tb):=by
 intro pins s Z H Q I h
 exact wpAny_Compare1 (qoe ha hb I h fun v u s2 x y H2 I2 rx ry q=>ho pins s2 Z H2 x y v u Q I2 rx ry q) hm
def qmm (t:TE):TT:=fun Z H Q=>t Z H fun x H'=>∃ k,x = .bl k/\Q k H'
theorem qko {op:CmpOp} {r:R2} (ho:OpR X (compareOp op) r) (ha:PE X a ta) (hb:PE X b tb) (hm:behindInMarks op b=false):PT X (.Compare a [op] [b] pos) (qmm (tOp r ta tb)):=by
 intro pins s Z H Q I h
 refine wpAny_isTrue_Compare1 (thn (ha pins s Z H _ I h) fun v s1 ⟨x,H1,I1,r1,q1⟩=>thn (hb pins s1 Z H1 _ I1 q1) fun u s2 ⟨y,H2,I2,r2,q2⟩ =>
  thn (ho pins s2 Z H2 x y v u _ I2 r1 r2 q2) fun c s3 ⟨z,H3,I3,r3,k,e,q3⟩ => ?_) hm
 subst e
 cases r3
 exact wpAny_truthy_bool ⟨H3,I3,q3⟩
def qjx (r r':R2) (ta tb tc:TE):TE:=fun Z H Q=>ta Z H fun x H1=>tb Z H1 fun y H2=>r x y H2 fun z H3=>∃ k,z = .bl k /\
 (if k=true then tc Z H3 fun w' H4=>r' y w' H4 Q else Q (.bl false) H3)
theorem qio {op op':CmpOp} {r r':R2} (ho:OpR X (compareOp op) r) (ho':OpR X (compareOp op') r') (ha:PE X a ta) (hb:PE X b tb) (hc:PE X c tc)
  (hm:lastMarks [op,op'] [b,c]=false:=by with_unfolding_all rfl):PT X (.Compare a [op,op'] [b,c] pos) (qmm (qjx r r' ta tb tc)):=by
 intro pins s Z H Q I h
 refine isTrue_chain (thn (ha pins s Z H _ I h) fun v s1 ⟨x,H1,I1,r1,q1⟩=>test_link (thn (hb pins s1 Z H1 _ I1 q1) fun u s2 ⟨y,H2,I2,r2,q2⟩ =>
  thn (ho pins s2 Z H2 x y v u _ I2 r1 r2 q2) fun d s3 ⟨z,H3,I3,r3,k,e,q3⟩ => ?_)) hm
 subst e
 cases r3
 refine wpAny_truthy_bool ?_
 cases k with
 | false =>
  obtain ⟨k',e',q'⟩:=q3
  cases e'
  exact ite_ff ⟨H3,I3,q'⟩
 | true =>
  refine ite_tt (test_last (thn (hc pins s3 Z H3 _ I3 q3) fun w' s4 ⟨z',H4,I4,r4,q4⟩=>thn (ho' pins s4 Z H4 y z' u w' _ I4 r2 r4 q4) fun d' s5 ⟨z2,H5,I5,r5,k2,e2,q5⟩ => ?_))
  subst e2
  cases r5
  exact wpAny_truthy_bool ⟨H5,I5,q5⟩
theorem qdB:(sizeLine:Nat)<2 ^ 63:=by rw [sizeLine_eq];decide
theorem qfW:OpR X (binaryOp .Add) (fun x y H Q=>∃ i j,x = .str i/\y = .str j/\i.length+j.length<=sizeLine/\Q (.str (i++j)) H):=by
 intro pins s Z H x y v u Q I rx ry h
 obtain ⟨i,j,rfl,rfl,hz,q⟩:=h
 obtain ⟨t,rfl⟩:=rx
 obtain ⟨t',rfl⟩:=ry
 exact add_str (fun t' tk=>⟨.str (i++j),H,I.tok _,⟨_,rfl⟩,q⟩) hz
theorem qfX {x:V} {us:List Value} (r:zb [x] us):∃ u,us=[u]/\jN x u:=by
 cases r with
 | cons r1 r2=>cases r2;exact ⟨_,rfl,r1⟩
theorem qkp {x y:V} {us:List Value} (r:zb [x,y] us):∃ u w',us=[u,w']/\jN x u/\jN y w':=by
 cases r with
 | cons r1 r2 =>
  cases r2 with
  | cons r3 r4=>cases r4;exact ⟨_,_,rfl,r1,r3⟩
theorem qfb:yR X (.builtin "abs") (fun xs H Q=>∃ i,xs=[.int i]/\Q (.int (if i<0 then -i else i)) H):=by
 intro pins s Z H xs us Q I r h
 obtain ⟨i,rfl,q⟩:=h
 obtain ⟨u,rfl,t,rfl⟩:=qfX r
 exact call_abs_int fun u tk=>⟨.int (if i<0 then -i else i),H,I.tok _,⟨_,rfl⟩,q⟩
theorem qdC (hc:X.calm=true):yR X (.builtin "max") (fun xs H Q=>∃ i j,xs=[.int i,.int j]/\Q (.int (if j>i then j else i)) H):=by
 intro pins s Z H xs us Q I r h
 obtain ⟨i,j,rfl,q⟩:=h
 obtain ⟨u,w',rfl,⟨t,rfl⟩,⟨t',rfl⟩⟩:=qkp r
 refine max_two_ints (I.ok.hd hc) fun h' tk k=>⟨_,H,I.kept k,?_,q⟩
 by_cases hj:j>i
 ·rw [if_pos hj,if_pos hj];exact ⟨_,rfl⟩
 ·rw [if_neg hj,if_neg hj];exact ⟨_,rfl⟩
theorem qgH (hc:X.calm=true):yR X (.builtin "min") (fun xs H Q=>∃ i j,xs=[.int i,.int j]/\Q (.int (if j<i then j else i)) H):=by
 intro pins s Z H xs us Q I r h
 obtain ⟨i,j,rfl,q⟩:=h
 obtain ⟨u,w',rfl,⟨t,rfl⟩,⟨t',rfl⟩⟩:=qkp r
 refine min_two_ints (I.ok.hd hc) fun h' tk k=>⟨_,H,I.kept k,?_,q⟩
 by_cases hj:j<i
 ·rw [if_pos hj,if_pos hj];exact ⟨_,rfl⟩
 ·rw [if_neg hj,if_neg hj];exact ⟨_,rfl⟩
theorem qgI:yR X (.type "int") (fun xs H Q=>(∃ i,xs=[.int i]/\Q (.int i) H)\/∃ k,xs=[.bl k]/\Q (.int (if k then 1 else 0)) H):=by
 intro pins s Z H xs us Q I r h
 rcases h with ⟨i,rfl,q⟩ | ⟨k,rfl,q⟩
 ·obtain ⟨u,rfl,t,rfl⟩:=qfX r
  exact call_int_int ⟨.int i,H,I,⟨_,rfl⟩,q⟩
 ·obtain ⟨u,rfl,r1⟩:=qfX r
  cases r1
  exact call_int_bool ⟨.int (if k then 1 else 0),H,I.tok _,⟨_,rfl⟩,q⟩
theorem qeB:yR X (.builtin "divmod") (fun xs H Q=>∃ i j,xs=[.int i,.int j]/\qmf i j/\∀ p,H p=none->Q (.ref p) (upd H p (.tup [.int (i/j),.int (i%j)]))):=by
 intro pins s Z H xs us Q I r h
 obtain ⟨i,j,rfl,⟨h1,h2⟩,q⟩:=h
 obtain ⟨u,w',rfl,⟨t,rfl⟩,⟨t',rfl⟩⟩:=qkp r
 refine divmod_int (by omega) ?_ (.inl (qo0 h1 h2))
 rw [Int.fdiv_eq_ediv_of_nonneg i (by omega),Int.fmod_eq_emod_of_nonneg i (by omega)]
 have hn:H s.heap.objs.size=none:=I.hok.fresh (Nat.le_refl _)
 refine ⟨.ref s.heap.objs.size,_,?_,rfl,q _ hn⟩
 refine I.laid (fun b o e=>Heap.get?_push_of_some _ e) (Nat.le_refl _) ⟨by simp only [lC_,lN_];rw [sizeLine_eq];decide,[.int (i/j) s.toks,.int (i%j) (s.toks+1)],.cons ⟨_,rfl⟩ (.cons ⟨_,rfl⟩ .nil),?_⟩
 exact ⟨_,Heap.get?_push_size s.heap rfl,rfl,0,rfl⟩
end
end L2
namespace L2
open PySem PySem.Spec PyProof.Rows
structure qok (h:Heap) (x dx C:Addr) (mA:Str->Option Value):Prop where
 obj:h.get? x=some (PySem.W.instObj C dx)
 ns:h.Ns1 dx mA
 ne:dx≠x
theorem qgJ {h:Heap} {dx:Addr} {mA:Str->Option Value} (n:h.Ns1 dx mA):∃ od,h.get? dx=some od/\∀ name,PySem.W.lookIn name od=some (mA name):=by
 obtain ⟨o,es,ep,ho,hd,hk,_,hm⟩:=n
 refine ⟨o,ho,fun name => ?_⟩
 have e:=hm name
 unfold nsFind findBy at e
 rw [<- Array.find?_toList] at e
 unfold PySem.W.lookIn
 rw [hd]
 dsimp only
 split
 ·rename_i y q
  rw [q] at e
  exact congrArg some e
 ·rename_i q
  rw [q] at e
  have a:es.toList.any (·.refKey)=false:=by
   rw [List.any_eq_false]
   intro y hy
   obtain ⟨z,t,hkey⟩:=hk y (Array.mem_toList_iff.mp hy)
   simp [DictEntry.refKey,hkey]
  have a':¬ es.toList.any (·.refKey)=true:=by rw [a];exact Bool.false_ne_true
  rw [if_neg a']
  exact congrArg some e
theorem qok.look {h:Heap} {x dx C:Addr} {mA:Str->Option Value} (I:qok h x dx C mA):∃ od,PySem.W.InstAt h x (PySem.W.instObj C dx) C (some od)/\∀ name,PySem.W.lookIn name od=some (mA name) :=
 let ⟨od,ho,hl⟩:=qgJ I.ns
 ⟨od,⟨I.obj,rfl,rfl,ho⟩,hl⟩
section
variable {prog:Program} {w:World} {A:Around} {E:Value->Shared->Prop} {s:Shared} {K:PySem.W.Frag} {x dx C f:Addr} {mA:Str->Option Value} {name:Str} {v:Value}
end
def qpI (f:Str) (v:V):List (Str×V)->List (Str×V)
 | []=>[(f,v)]
 | (g,x)::r=>if g=f then (g,v)::r else (g,x)::qpI f v r
section
variable {P:Program} {w:World} {H H':Hp} {h h':Heap} {a C dx:Addr} {fs fs':List (Str×V)}
theorem qkq (hok:HOk P w H h) (e:H a=some (.ins C dx fs)):∃ mA,qok h a dx C mA/\(∀ f,qn2 (fs.lookup f) (mA f))/\PySem.Within mA (fs.map (·.1))/\fs.length<=1000/\H dx=some (.own a):=by
 obtain ⟨d,z,ne,ob,mA,n,r,q⟩:=(show uh P w H h a (.ins C dx fs) from hok a _ e)
 exact ⟨mA,⟨ob,n,ne⟩,r,q,z,d⟩
end
structure Cls (K:PySem.W.Frag) (C:Addr):Prop where
 pg:PySem.W.plainGet K C Str.empty=true
 hd:PySem.W.hasDictIn K C=true
 po:PySem.W.plainOver K C=true
 sa:PySem.W.findIn K (.ref C) "__setattr__"=some (some (.builtin "object.__setattr__"))
theorem Cls.get {K:PySem.W.Frag} {C:Addr} (c:Cls K C) (f:Str):PySem.W.plainGet K C f=true:=c.pg
structure Con (K:PySem.W.Frag) (C:Addr) (f:Str) (v:V) (u:Value):Prop where
 at_:PySem.W.findIn K (.ref C) f=some (some u)
 rel:jN v u
 get:PySem.W.specialIn K u "__get__"=some none
 cp:PySem.W.copiedNames.contains f=false
structure qp4 (K:PySem.W.Frag) (C:Addr) (m:Str) (f:Addr):Prop where
 at_:PySem.W.findIn K (.ref C) m=some (some (.ref f))
 fn:PySem.W.isFn K (.ref f)=true
 kp:PySem.W.keepIn K (.ref f)=true
section
variable {X:Cx} {pins:List (Addr×Obj)} {Z:St} {H:Hp} {s:Shared} {a C dx:Addr} {fs:List (Str×V)} {f:Str} {v:V} {A:Around} {E:Value->Shared->Prop}
end
section
variable {X:Cx} {o e value:Expr} {f:Str} {pos pos' tpos:Pos} {ta tv:TE}
end
section
variable {X:Cx} {pins:List (Addr×Obj)} {Z:St} {H:Hp} {s:Shared} {A:Around} {E:Value->Shared->Prop} {Q:Value->Shared->Prop} {c:Value} {b:Bool}
inductive qgs (K:PySem.W.Frag) (H:Hp):V->Value->Prop where
 | non:qgs K H .non (.type "NoneType")
 | bl (x:Bool):qgs K H (.bl x) (.type "bool")
 | int (i:Int):qgs K H (.int i) (.type "int")
 | str (x:Str):qgs K H (.str x) (.type "str")
 | flt (x:UInt64):qgs K H (.flt x) (.type "float")
 | lst {a:Addr} {xs:List V} (e:H a=some (.lst xs)):qgs K H (.ref a) (.type "list")
 | frz {a:Addr} {o:Obj} {xs:List V} (e:H a=some (.frz o (.lst xs))):qgs K H (.ref a) (.type "list")
 | tup {a:Addr} {xs:List V} (e:H a=some (.tup xs)):qgs K H (.ref a) (.type "tuple")
 | dK {a:Addr} {kvs:List (Key×V)} (e:H a=some (.dK kvs)):qgs K H (.ref a) (.type "dict")
 | dT {a:Addr} {kvs:List (List Key×V)} (e:H a=some (.dT kvs)):qgs K H (.ref a) (.type "dict")
 | ins {a C dx:Addr} {fs:List (Str×V)} (e:H a=some (.ins C dx fs)) (cl:Cls K C) (ha:PySem.W.findIn K (.ref C) "__class__"=some (some (.builtin "object.__class__")))
   (hn:PySem.W.specialIn K (.builtin "object.__class__") "__get__"=some (some (.builtin "getset_descriptor.__get__"))) (htk:PySem.W.takesIn K (.builtin "object.__class__")=some true)
   (hm:PySem.W.mroIn K C (.type "object")=some true):qgs K H (.ref a) (.ref C)
theorem uC {x:V} {u t:Value} (I:Inv X pins Z H s) (rx:jN x u) (ty:qgs X.K H x t) (e:PySem.W.kitOne X.K t c=some b) (h:∀ tk,Q (.bool b) { s with toks:=tk }) :
  wpAny (model X.prog X.w) A (call (.builtin "isinstance") [u,c]) Q E s:=by
 cases ty with
 | non=>cases (show u=Value.none from rx);exact PySem.W.kia_one PySem.W.kitx_none I.kIn True.intro e (fun z=>nomatch z) h
 | bl y=>cases (show u=Value.bool y from rx);exact PySem.W.kia_one PySem.W.kitx_bool I.kIn True.intro e (fun z=>nomatch z) h
 | int i=>obtain ⟨t,q⟩:=(show ∃ t,u=Value.int i t from rx);cases q;exact PySem.W.kia_one PySem.W.kitx_int I.kIn True.intro e (fun z=>nomatch z) h
 | str y=>obtain ⟨t,q⟩:=(show ∃ t,u=Value.str y t from rx);cases q;exact PySem.W.kia_one PySem.W.kitx_str I.kIn True.intro e (fun z=>nomatch z) h
 | flt y=>obtain ⟨t,q⟩:=(show ∃ t,u=Value.float y t from rx);cases q;exact PySem.W.kia_one PySem.W.kitx_float I.kIn True.intro e (fun z=>nomatch z) h
 | @lst a xs ea =>
  cases (show u=Value.ref a from rx)
  obtain ⟨_,_,n,_,h1⟩:=(show uh X.prog X.w H s.heap a (.lst xs) from I.hok a _ ea)
  exact PySem.W.kia_one PySem.W.kitx_list I.kIn ⟨_,h1,rfl⟩ e (fun z=>nomatch z) h
 | @frz a ob xs ea =>
  cases (show u=Value.ref a from rx)
  obtain ⟨_,_,_,n,_,h1⟩:=(show uh X.prog X.w H s.heap a (.frz ob (.lst xs)) from I.hok a _ ea)
  exact PySem.W.kia_one PySem.W.kitx_list I.kIn ⟨_,h1,rfl⟩ e (fun z=>nomatch z) h
 | @tup a xs ea =>
  cases (show u=Value.ref a from rx)
  obtain ⟨_,_,_,p⟩:=(show uh X.prog X.w H s.heap a (.tup xs) from I.hok a _ ea)
  obtain ⟨o,h1,h2,_⟩:=p
  exact PySem.W.kia_one PySem.W.kitx_tuple I.kIn ⟨o,h1,h2⟩ e (fun z=>nomatch z) h
 | @dK a kvs ea =>
  cases (show u=Value.ref a from rx)
  obtain ⟨_,_,vs,_,p⟩:=(show uh X.prog X.w H s.heap a (.dK kvs) from I.hok a _ ea)
  obtain ⟨o,es,ep,h1,h2,_⟩:=p
  exact PySem.W.kia_one PySem.W.kitx_dict I.kIn ⟨o,h1,h2.1⟩ e (fun z=>nomatch z) h
 | @dT a kvs ea =>
  cases (show u=Value.ref a from rx)
  obtain ⟨_,_,xs,_,o,es,ep,h1,h2,_⟩:=(show uh X.prog X.w H s.heap a (.dT kvs) from I.hok a _ ea)
  exact PySem.W.kia_one PySem.W.kitx_dict I.kIn ⟨o,h1,h2.1⟩ e (fun z=>nomatch z) h
 | @ins a C dx fs ea cl ha hn htk hm =>
  cases (show u=Value.ref a from rx)
  obtain ⟨mA,O,_⟩:=qkq I.hok ea
  obtain ⟨od,J,_⟩:=O.look
  exact PySem.W.kia_one (PySem.W.kitx_own (cl.get _) cl.hd ha hn htk hm) I.kIn J e (fun z=>nomatch z) h
end
end L2
namespace L2
open PySem PySem.Spec PyProof.Rows
structure uD (k:Nat) (A:Around):Prop where
 hd:A.handled=none
 dp:A.depth+3*k+5<recursionLimit
 un:A.units+16*k+200<cLine
 gd:A.guards=some []
theorem uD.mono {j k:Nat} {A:Around} (r:uD k A) (h:j<=k):uD j A:=⟨r.hd,by have:=r.dp;omega,by have:=r.un;omega,r.gd⟩
theorem uD.deeper {k:Nat} {A:Around} (r:uD (k+1) A) (env:Env):uD k (A.deeper env) :=
 ⟨r.hd,by have:=r.dp;show A.depth+1+3*k+5<_;omega,by have:=r.un;show A.units+3+16*k+200<_;omega,r.gd⟩
theorem uD.in1 {k:Nat} {A:Around} (r:uD (k+1) A):uD k A.in1 :=
 ⟨r.hd,by have:=r.dp;show A.depth+3*k+5<_;omega,by have:=r.un;show A.units+1+16*k+200<_;omega,r.gd⟩
theorem uD.depth {k:Nat} {A:Around} (r:uD k A):A.depth<recursionLimit:=by have:=r.dp;omega
theorem uD.units {k:Nat} {A:Around} (r:uD k A):A.units+64<cLine:=by have:=r.un;omega
theorem uD.units0 {k:Nat} {A:Around} (r:uD k A):A.units<cLine:=by have:=r.un;omega
def qo2:TA:=fun _ H Q=>Q [] H
def qmn (ta:TE) (tr:TA):TA:=fun Z H Q=>ta Z H fun x H1=>tr Z H1 fun xs H2=>Q (x::xs) H2
section
variable {X:Cx} {e:Expr} {es:List Expr} {te:TE} {t:TA} {pos:Pos}
theorem qcb:PA X [] qo2:=fun _ _ _ _ H Q I h=>Calls.spliced_nil ⟨[],H,I,.nil,h⟩
theorem vb (ha:PE X e te) (hr:PA X es t) (hs:starEach (e::es) X.env=(false,eval e X.env)::starEach es X.env:=by rfl):PA X (e::es) (qmn te t):=by
 intro pos pins s Z H Q I h
 rw [hs]
 show wpAny _ _ (spliced ((false,eval e X.env)::backTo pos (starEach es X.env))) _ _ s
 refine Calls.spliced_cons (thn (ha pins s Z H _ I h) fun u s1 ⟨x,H1,I1,r1,q1⟩ => ?_)
 exact thn (hr pos pins s1 Z H1 _ I1 q1) fun us s2 ⟨xs,H2,I2,r2,q2⟩=>⟨x::xs,H2,I2,.cons r1 r2,q2⟩
def qpJ (t:TA):TE:=fun Z H Q=>t Z H fun xs H1=>xs.length<=sizeLine/\∀ p,H1 p=none->Q (.ref p) (upd H1 p (.tup xs))
def qpK (t:TA):TE:=fun Z H Q=>t Z H fun xs H1=>xs.length<=sizeLine/\∀ p,H1 p=none->Q (.ref p) (upd H1 p (.lst xs))
theorem qmo {x1} (h:PA X es t):PE X (.Tuple es x1 pos) (qpJ t):=by
 intro pins s Z H Q I hq
 refine wpAny_Tuple_spliced (thn (h pos pins s Z H _ I hq) fun us s1 ⟨xs,H1,I1,r,z,q⟩=>⟨by rw [<- r.length];exact z,?_⟩)
 have hf:H1 s1.heap.objs.size=none:=I1.hok.fresh (Nat.le_refl _)
 refine ⟨.ref s1.heap.objs.size,upd H1 s1.heap.objs.size (.tup xs),I1.laid (t':=s1.toks) (fun b u e=>Heap.get?_push_of_some _ e) (Nat.le_refl _) ?_,rfl,q _ hf⟩
 exact ⟨z,us,r,⟨_,Heap.get?_push_size _ rfl,rfl,_,rfl⟩⟩
theorem qjy (h:PA X es t):PE X (.List es pos) (qpK t):=by
 intro pins s Z H Q I hq
 refine wpAny_List_spliced (thn (h pos pins s Z H _ I hq) fun us s1 ⟨xs,H1,I1,r,z,q⟩=>⟨by rw [<- r.length];exact z,?_⟩)
 have hf:H1 s1.heap.objs.size=none:=I1.hok.fresh (Nat.le_refl _)
 refine ⟨.ref s1.heap.objs.size,upd H1 s1.heap.objs.size (.lst xs),I1.laid (t':=s1.toks) (fun b u e=>Heap.get?_push_of_some _ e) (Nat.le_refl _) ?_,rfl,q _ hf⟩
 exact ⟨z,us,0,r,Heap.get?_push_size _ rfl⟩
end
abbrev Sp:=List V->Hp->VK->XK->Prop
abbrev CXT:=List Env->Hp->Shared->XK->Value->Shared->Prop
structure qip (P:Program) (w:World) (K:PySem.W.Frag) (mg:Str->Option Value) (base:Heap) (A:Around) (outer:List Env) (s:Shared) (H:Hp):Prop where
 frames:A.frames=some outer
 mod:Mod K mg base
 bs:∀ b o,base.get? b=some o->s.heap.get? b=some o/\H b=none
 bsz:base.objs.size<=s.heap.objs.size
 funs:s.heap.FunFrames base outer
 frf:∀ b∈frs outer,H b=none
 hok:HOk P w H s.heap
 bare:AllBare s.gens
def CE (outer:List Env) (P:Program) (w:World) (H:Hp) (s:Shared) (Q:VK) (u:Value) (s':Shared):Prop :=
 ∃ v H',s'.os=s.os/\AllBare s'.gens/\Un (frs outer) [] H H' s.heap s'.heap/\HOk P w H' s'.heap/\jN v u/\Q v H'
def CR (CX:CXT) (outer:List Env) (P:Program) (w:World) (H:Hp) (s:Shared) (Q:VK) (E:XK) (r:Result) (s':Shared):Prop :=
 match r with
 | .ok (.ret u)=>CE outer P w H s Q u s'
 | .ok _=>False
 | .error e=>CX outer H s E e s'
structure qcc (P:Program) (w:World) (K:PySem.W.Frag) (mg:Str->Option Value) (base:Heap) (CX:CXT) (k:Nat) (f:Addr) (fd:FuncData) (ps:List Str) (sp:Sp):Prop where
 len:∀ vs H Q E,sp vs H Q E->vs.length=ps.length
 run:∀ (A:Around) (outer:List Env) (s:Shared) (H:Hp) (args:Args) (us:List Value) (vs:List V) (Q:VK) (E:XK),uD k A->qip P w K mg base A outer s H->BindsTo s fd args (ps.zip us)->zb vs us->sp vs H Q E ->
  codeAny (model P w) A (.call (.ref f) args) (CR CX outer P w H s Q E) s
theorem qip.in1 {P:Program} {w:World} {K:PySem.W.Frag} {mg:Str->Option Value} {base:Heap} {A:Around} {outer:List Env} {s:Shared} {H:Hp} (e:qip P w K mg base A outer s H) :
  qip P w K mg base A.in1 outer s H:=⟨e.frames,e.mod,e.bs,e.bsz,e.funs,e.frf,e.hok,e.bare⟩
section
variable {X:Cx} {pins:List (Addr×Obj)} {Z:St} {H:Hp} {s s':Shared}
theorem Inv.env0 (I:Inv X pins Z H s):qip X.prog X.w X.K X.mg X.base X.A X.stack s H :=
 ⟨I.ok.frames,I.ok.mod,I.bs,Nat.le_trans I.ok.bsz I.sz,I.stack,I.stkFree,I.hok,I.bare⟩
theorem Inv.after {Q:VK} {u:Value} (I:Inv X pins Z H s) (h:CE X.stack X.prog X.w H s Q u s'):EP X pins Z Q u s':=by
 obtain ⟨v,H',os,bare,un,hok,r,q⟩:=h
 obtain ⟨hh,g,d,t,os'⟩:=s'
 obtain rfl:os'=s.os:=os
 exact ⟨v,H',I.call (h':=hh) (g':=g) (d':=d) (t':=t) (ch:=[]) un hok bare (fun b z=>absurd z (by simp)),r,q⟩
end
def qol (sp:Sp) (dvs:List V) (E:XK) (t:TA):TE:=fun Z H Q=>t Z H fun vs H1=>sp (vs++dvs) H1 Q E
def vQ (K:PySem.W.Frag) (fd:FuncData) (ps:List Str) (ds:List Value):Prop :=
 ∀ (s:Shared) (us:List Value),K.In s.heap->(us++ds).length=ps.length->BindsTo s fd ⟨us,[]⟩ (ps.zip (us++ds))
theorem vQ.all {K:PySem.W.Frag} {fd:FuncData} {ps:List Str} (h:∀ us:List Value,us.length=ps.length->bindArgs fd ⟨us,[]⟩=pure (ps.zip us)):vQ K fd ps []:=fun s us _ hl=>by
 rw [List.append_nil] at hl |-
 exact .of_eq (h us hl)
def qcd (CX:CXT) (X:Cx) (E:XK):Prop:=∀ (pins:List (Addr×Obj)) (Z:St) (H:Hp) (s:Shared) (e:Value) (s':Shared),Inv X pins Z H s->CX X.stack H s E e s'->X.xe e s'
section
variable {X:Cx} {CX:CXT} {k:Nat} {f C:Addr} {fd:FuncData} {ps:List Str} {sp:Sp} {dvs:List V} {ds:List Value} {E:XK} {x m:Str} {p pos apos:Pos} {e o:Expr} {es:List Expr} {ta:TE} {t:TA}
theorem qmp {pins:List (Addr×Obj)} {Z:St} {H:Hp} {s:Shared} {Q:VK} {us:List Value} {vs:List V} (F:qcc X.prog X.w X.K X.mg X.base CX k f fd ps sp) (hr:uD k X.A) (hb:vQ X.K fd ps ds) (hd:zb dvs ds) (hx:qcd CX X E)
  (I:Inv X pins Z H s) (r:zb vs us) (h:sp (vs++dvs) H Q E):wpAny (model X.prog X.w) X.A (call (.ref f) us) (EP X pins Z Q) X.xe s:=by
 have r2:zb (vs++dvs) (us++ds):=r.append hd
 have hl:(us++ds).length=ps.length:=by rw [<- r2.length];exact F.len _ _ _ _ h
 refine wpAny_call (codeAny_mono (F.run X.A X.stack s H ⟨us,[]⟩ (us++ds) (vs++dvs) Q E hr I.env0 (hb s us I.kIn hl) r2 h) fun r s' hq => ?_)
 cases r with
 | error e=>exact hx pins Z H s e s' I hq
 | ok fl =>
  cases fl with
  | ret u=>exact I.after hq
  | next=>exact False.elim hq
  | brk=>exact False.elim hq
  | cont=>exact False.elim hq
theorem qcC (F:qcc X.prog X.w X.K X.mg X.base CX k f fd ps sp) (hr:uD k X.A) (hg:Gl X x) (hm:X.mg x=some (.ref f)) (hk:PySem.W.keepIn X.K (.ref f)=true) (hb:vQ X.K fd ps ds) (hd:zb dvs ds) (hx:qcd CX X E)
  (ha:PA X (e::es) t) (hdb:(x==("__debug__":Str))=false:=by decide) (he:starEach (e::es) X.env=(false,eval e X.env)::starEach es X.env:=by rfl) (hpl:(backTo pos (starEach es X.env)).any (·.1)=false:=by rfl) :
  PE X (.Call (.Name x p) (e::es) [] pos) (qol sp dvs E t):=by
 intro pins s Z H Q I h
 refine wpAny_Call_Name_kw (qez I hg hm ?_ hdb)
 refine PySem.W.callWith_K (h₀:=X.base) I.ok.mod.kin hk (thn (ha pos pins s Z H _ I h) fun us s1 ⟨vs,H1,I1,r,q⟩=>⟨I1.kIn,?_⟩) he hpl
 exact qmp F hr hb hd hx I1 r q
structure Mk (K:PySem.W.Frag) (C f:Addr):Prop where
 makes:PySem.W.makesIn K C=true
 init:PySem.W.findIn K (.ref C) "__init__"=some (some (.ref f))
 fn:PySem.W.isFn K (.ref f)=true
 kp:PySem.W.keepIn K (.ref C)=true
end
def PK (X:Cx) (kws:List Keyword) (t:TA):Prop :=
 ∀ (pos:Pos) (pins:List (Addr×Obj)) (s:Shared) (Z:St) (H:Hp) (Q:List V->Hp->Prop),Inv X pins Z H s->t Z H Q->wpAny (model X.prog X.w) X.A (evalAll ((backToKw pos (keywordEach kws X.env)).map (·.2))) (AP X pins Z Q) X.xe s
section
variable {X:Cx} {CX:CXT} {k:Nat} {f C:Addr} {fd:FuncData} {ps ks:List Str} {sp:Sp} {E:XK} {x m:Str} {p pos apos kpos:Pos} {e o:Expr} {es:List Expr} {kws:List Keyword} {te ta:TE} {t tk:TA} {nm:Option Str}
theorem qmq:PK X [] qo2:=fun _ _ _ _ H Q I h=>wpAny_evalAll_nil ⟨[],H,I,.nil,h⟩
theorem qkr (ha:PE X e te) (hr:PK X kws t):PK X (⟨nm,e,kpos⟩::kws) (qmn te t):=by
 intro pos pins s Z H Q I h
 show wpAny _ _ (evalAll ((do let v <- eval e X.env;standAt pos;pure v)::(backToKw pos (keywordEach kws X.env)).map (·.2))) _ _ s
 refine wpAny_evalAll_cons (wpAny_bind (thn (ha pins s Z H _ I h) fun u s1 ⟨x,H1,I1,r1,q1⟩=>wpAny_bind (wpAny_standAt (wpAny_pure ?_))))
 exact thn (hr pos pins s1 Z H1 _ I1 q1) fun us s2 ⟨xs,H2,I2,r2,q2⟩=>⟨x::xs,H2,I2,.cons r1 r2,q2⟩
variable {g:List Value->List Value->List Value} {gV:List V->List V->List V}
end
structure qp (N P:List Str) (sc:Scope):Prop where
 kind:sc.kind = .function
 co:sc.isCoroutine=false
 gen:sc.isGenerator=false
 nd:N.Nodup
 pre:N.take P.length=P
 par:∀ x∈P,sc.names.lookup x=some .local\/sc.names.lookup x=some .cell
 nofree:∀ y∈sc.names,y.2 ≠ .free
theorem qdD {kindOf:Str->Option NameKind} {x:Str}:∀ {binds:List (Str×Value)} {m:Str->Option Value},(∀ v,(x,v) ∉ binds)->bindL kindOf binds m x=m x
 | [],_,_=>rfl
 | (n,v)::r,m,h=>by
  unfold bindL
  rw [qdD fun w hw=>h w (mM _ hw)]
  split
  ·have:x≠n:=by rintro rfl;exact h v mS_
   simp [this]
  ·rfl
theorem qdE {kindOf:Str->Option NameKind} {x:Str}:∀ {binds:List (Str×Value)} {m:Str->Option Value},(∀ v,(x,v) ∉ binds)->bindC kindOf binds m x=m x
 | [],_,_=>rfl
 | (n,v)::r,m,h=>by
  unfold bindC
  rw [qdE fun w hw=>h w (mM _ hw)]
  split
  ·rfl
  ·have:x≠n:=by rintro rfl;exact h v mS_
   simp [this]
theorem qdF {kindOf:Str->Option NameKind} {x:Str} {v:Value}:∀ {P:List Str} {vs:List Value} {i:Nat} {m:Str->Option Value},P.Nodup->P[i]? = some x->vs[i]? = some v->kindOf x=some .local ->
  bindL kindOf (P.zip vs) m x=some v
 | [],_,_,_,_,h,_,_=>by simp at h
 | _::_,[],_,_,_,_,h,_=>by simp at h
 | p::P,w::vs,0,m,nd,h1,h2,hk=>by
  simp at h1 h2;subst h1;subst h2
  show bindL kindOf ((p,w)::P.zip vs) m p=_
  unfold bindL
  rw [qdD fun v hv=>(List.nodup_cons.mp nd).1 (List.of_mem_zip hv).1,if_pos hk]
  simp
 | p::P,w::vs,i+1,m,nd,h1,h2,hk=>by
  show bindL kindOf ((p,w)::P.zip vs) m x=_
  unfold bindL
  exact qdF (i:=i) (List.nodup_cons.mp nd).2 (by simpa using h1) (by simpa using h2) hk
theorem qdG {kindOf:Str->Option NameKind} {x:Str} {v:Value}:∀ {P:List Str} {vs:List Value} {i:Nat} {m:Str->Option Value},P.Nodup->P[i]? = some x->vs[i]? = some v->kindOf x≠some .local ->
  bindC kindOf (P.zip vs) m x=some v
 | [],_,_,_,_,h,_,_=>by simp at h
 | _::_,[],_,_,_,_,h,_=>by simp at h
 | p::P,w::vs,0,m,nd,h1,h2,hk=>by
  simp at h1 h2;subst h1;subst h2
  show bindC kindOf ((p,w)::P.zip vs) m p=_
  unfold bindC
  rw [qdE fun v hv=>(List.nodup_cons.mp nd).1 (List.of_mem_zip hv).1,if_neg hk]
  simp
 | p::P,w::vs,i+1,m,nd,h1,h2,hk=>by
  show bindC kindOf ((p,w)::P.zip vs) m x=_
  unfold bindC
  exact qdG (i:=i) (List.nodup_cons.mp nd).2 (by simpa using h1) (by simpa using h2) hk
def jY (N:List Str) (vs:List V):St:=vs.map some++List.replicate (N.length-vs.length) none
def qjz (CX:CXT) (P:Program) (w:World) (K:PySem.W.Frag) (mg:Str->Option Value) (base:Heap) (N:List Str) (qual:Str) (scope:Scope) (f:Addr) (cd:Value) (A:Around) (outer:List Env) (s:Shared) (H:Hp) (E:XK):Cx where
 prog:=P
 w:=w
 K:=K
 mg:=mg
 base:=base
 A:=A.deeper (envOfC qual scope s.heap.objs.size f cd)
 N:=N
 s₀:=s
 H₀:=H
 env:=envOfC qual scope s.heap.objs.size f cd
 outer:=outer
 stack:=envOfC qual scope s.heap.objs.size f cd::outer
 ex:=[]
 calm:=true
 fn:=fun _=>true
 pn:=[]
 xe:=fun e s'=>wpAny (model P w) (A.deeper (envOfC qual scope s.heap.objs.size f cd)) (leaving (envOfC qual scope s.heap.objs.size f cd) e) (fun _ s''=>CX outer H s E e s'') (fun e' s''=>CX outer H s E e' s'') s'
theorem qfc {sc:Scope} {n:Nat} {x:Str} (h:sc.names.lookup x=some .cell):∃ c,(cellsFrom n sc.names []).lookup x=some c:=by
 have q:=PySem.W.cellsFrom_some sc.names n [] (.inl h)
 exact Option.isSome_iff_exists.mp q
theorem qgK {CX:CXT} {P:Program} {w:World} {K:PySem.W.Frag} {mg:Str->Option Value} {base:Heap} {N ps:List Str} {qual:Str} {scope:Scope} {f:Addr} {cd:Value} {A:Around} {outer:List Env} {s s1:Shared} {H:Hp} {E:XK} {us:List Value} {vs:List V}
  (S:qp N ps scope) (hd:A.handled=none) (e0:qip P w K mg base A outer s H) (hl:vs.length=ps.length) (r:zb vs us)
  (x:InCallC s s.heap.objs.size (bindL (envOfC qual scope s.heap.objs.size f cd).kindOf (ps.zip us) fun _=>none) (cellsFrom (s.heap.objs.size+1) scope.names []) (bindC (envOfC qual scope s.heap.objs.size f cd).kindOf (ps.zip us) fun _=>none) s1) :
  Inv (qjz CX P w K mg base N qual scope f cd A outer s H E) [] (jY N vs) H s1:=by
 have hpl:ps.length<=N.length:=by have:=congrArg List.length S.pre;rw [List.length_take] at this;omega
 obtain ⟨h1,tk,rfl,hk⟩:=x.done
 have noA:∀ b:Addr,b ∉ (qjz CX P w K mg base N qual scope f cd A outer s H E).ex:=fun b z=>absurd (show b∈([]:List Addr) from z) (by simp)
 refine ⟨⟨e0.mod,S.kind,rfl,rfl,Nat.le_refl _,fun y z c h1 h2 => ?_,fun y hy => ?_,fun y c _ h => ?_,fun _=>hd,Around.frames_deeper e0.frames,.inr ⟨rfl,rfl⟩,fun b z=>absurd z (noA b),e0.bs,e0.bsz,fun b _ _=>noA b,fun b z=>absurd z (noA b),e0.funs,e0.frf⟩,
  rfl,e0.bare,Un.kept hk,⟨_,x.toInCall.ns,fun i y v h1 h2 h3 => ?_⟩,fun y c h=>⟨_,x.cell y c h⟩,e0.hok.fresh (Nat.le_refl _),fun y c h => ?_,fun p hp=>absurd (show p∈([]:List (Addr×Obj)) from hp) (by simp),e0.hok.kept hk,?_⟩
 ·exact name_of_addr x.apart (PySem.mem_of_lookup h1) (PySem.mem_of_lookup h2)
 ·have hy:scope.names.lookup y=some .cell\/scope.names.lookup y=some .free:=hy
  rcases hy with hy | hy
  ·exact qfc hy
  ·exact absurd rfl (S.nofree _ (PySem.mem_of_lookup hy))
 ·exact Nat.le_of_lt (x.above y c (PySem.mem_of_lookup h))
 ·have hi:i<vs.length:=by
   unfold jY at h2
   by_cases hi:i<vs.length
   ·exact hi
   ·rw [List.getElem?_append_right (by simpa using hi)] at h2
    rw [List.getElem?_replicate] at h2
    split at h2<;>cases h2
  have ha:vs[i]? = some v:=by
   unfold jY at h2
   rw [List.getElem?_append_left (by simpa using hi),gM_] at h2
   cases e:vs[i]? with
   | none=>rw [e] at h2;cases h2
   | some a=>rw [e] at h2;cases h2;rfl
  obtain ⟨u,hu,rv⟩:=r.get ha
  have hp:ps[i]? = some y:=by
   rw [<- S.pre,List.getElem?_take_of_lt (by omega)];exact h1
  have ndP:ps.Nodup:=by rw [<- S.pre];exact S.nd.sublist (List.take_sublist _ _)
  refine ⟨u,rv,?_⟩
  rcases S.par y (List.mem_of_getElem? hp) with k | k
  ·exact .inl ⟨k,qdF ndP hp hu k⟩
  ·obtain ⟨c,e⟩:=qfc (n:=s.heap.objs.size+1) k
   refine .inr ⟨.inl k,c,e,?_⟩
   have q:=x.cell y c e
   rw [qdG ndP hp hu (by show scope.names.lookup y≠_;rw [k];decide)] at q
   exact q
 ·exact e0.hok.fresh (Nat.le_of_lt (x.above y c (PySem.mem_of_lookup h)))
 ·unfold jY
  show _=N.length
  rw [lA_,lM_,List.length_replicate]
  omega
theorem qom {CX:CXT} {P:Program} {w:World} {K:PySem.W.Frag} {mg:Str->Option Value} {base:Heap} {k:Nat} {f:Addr} {name qual:Str} {params:Arguments} {body:List Stmt} {scope:Scope} {dV kV doc pm cdv ct oc:Value} {an od:Option Addr}
  {osl:Array (Option Value)} {N ps:List Str} {sp:Sp} (lk:K.lookup f=some ⟨oc,od,.func (PySem.W.fnOf name qual params body scope dV kV doc pm an cdv ct),osl⟩) (hcd:PySem.W.codeIn K cdv qual=true) (S:qp N ps scope)
  (len:∀ vs H Q E,sp vs H Q E->vs.length=ps.length)
  (hbody:∀ (A:Around) (outer:List Env) (s:Shared) (H:Hp) (vs:List V) (Q:VK) (E:XK),uD k (A.deeper (envOfC qual scope s.heap.objs.size f cdv))->sp vs H Q E ->
   ∃ t,PSs (qjz CX P w K mg base N qual scope f cdv A outer s H E) body t/\t { nx:=fun _ H'=>Q .non H',rt:=Q } (jY N vs) H) :
  qcc P w K mg base CX (k+1) f (PySem.W.fnOf name qual params body scope dV kV doc pm an cdv ct) ps sp:=by
 refine ⟨len,fun A outer s H args us vs Q E hr e0 hb r hsp => ?_⟩
 have hl:=len _ _ _ _ hsp
 have KX:K.In s.heap:=e0.mod.kin.keeps fun b o e=>(e0.bs b o e).1
 have lim:s.heap.NoLimit:=e0.mod.nolimit.keeps fun b o e=>(e0.bs b o e).1
 have hkind:∀ y∈ps.zip us,scope.names.lookup y.1=some .local\/(scope.names.lookup y.1=some .cell/\((cellsFrom (s.heap.objs.size+1) scope.names []).lookup y.1).isSome=true):=fun ⟨n,v⟩ hy=>by
  rcases S.par n (List.of_mem_zip hy).1 with q | q
  ·exact .inl q
  ·exact .inr ⟨q,PySem.W.cellsFrom_some _ _ _ (.inl q)⟩
 refine codeAny_call_function hr.depth (KX _ _ lk) rfl S.co S.gen rfl (PySem.W.codeRec_of KX hcd) (hb _ _ _ _ ?_)
 refine wpAny_newFunctionEnv_cells S.kind hkind fun env he s1 x => ?_
 subst he
 refine ⟨lim.keeps x.toInCall.keep,codeAny_func ?_⟩
 obtain ⟨t,ht,hq⟩:=hbody A outer s H vs Q E (hr.deeper _) hsp
 have I:Inv (qjz CX P w K mg base N qual scope f cdv A outer s H E) [] (jY N vs) H s1:=qgK S hr.hd e0 hl r x
 refine wpAny_mono (ht [] s1 (jY N vs) H _ I hq) (fun fl s' hs => ?_) fun e s' hs=>hs
 have fin:∀ {Z':St} {H':Hp} {v:V} {u:Value},Inv (qjz CX P w K mg base N qual scope f cdv A outer s H E) [] Z' H' s'->jN v u->Q v H'->CE outer P w H s Q u s' :=
  fun {Z' H' v u} J rv q=>⟨v,H',J.os,J.bare,J.base,J.hok,rv,q⟩
 cases fl with
 | ret u =>
  obtain ⟨v,Z',H',J,rv,q⟩:=hs
  exact fin J rv q
 | next =>
  obtain ⟨Z',H',J,q⟩:=hs
  exact fin (v:=V.non) (u:=Value.none) J rfl q
 | brk =>
  obtain ⟨_,_,_,q⟩:=hs
  exact False.elim q
 | cont =>
  obtain ⟨_,_,_,q⟩:=hs
  exact False.elim q
end L2
namespace L2
open PySem PySem.Spec PyProof.Rows
section
variable {X:Cx} {x:Str} {p pos:Pos} {e:Expr} {es:List Expr} {t:TA} {id T:String} {r:List V->Hp->VK->Prop}
def tCB (r:List V->Hp->VK->Prop) (t:TA):TE:=fun Z H Q=>t Z H fun vs H1=>r vs H1 Q
theorem qfd (hc:yR X (.builtin id) r) (hg:Gl X x) (hm:X.mg x=none) (hv:bootBuiltins x=some (.builtin id)) (ha:PA X (e::es) t) (hn:x≠"__name__":=by decide) (hdb:(x==("__debug__":Str))=false:=by decide)
  (he:starEach (e::es) X.env=(false,eval e X.env)::starEach es X.env:=by rfl) (hpl:(backTo pos (starEach es X.env)).any (·.1)=false:=by rfl):PE X (.Call (.Name x p) (e::es) [] pos) (tCB r t):=by
 intro pins s Z H Q I h
 refine wpAny_Call_Name_kw (qb9 I hg hm hv ?_ hn hdb)
 exact PyProof.Rows.callWith_builtin1 (thn (ha pos pins s Z H _ I h) fun us s1 ⟨vs,H1,I1,r1,q1⟩=>hc pins s1 Z H1 vs us Q I1 r1 q1) he hpl
theorem qdH (hc:yR X (.type T) r) (hg:Gl X x) (hm:X.mg x=none) (hv:bootBuiltins x=some (.type T)) (ha:PA X (e::es) t) (hn:x≠"__name__":=by decide) (hdb:(x==("__debug__":Str))=false:=by decide)
  (he:starEach (e::es) X.env=(false,eval e X.env)::starEach es X.env:=by rfl) (hpl:(backTo pos (starEach es X.env)).any (·.1)=false:=by rfl):PE X (.Call (.Name x p) (e::es) [] pos) (tCB r t):=by
 intro pins s Z H Q I h
 refine wpAny_Call_Name_kw (qb9 I hg hm hv ?_ hn hdb)
 exact PyProof.Rows.callWith_type1 (thn (ha pos pins s Z H _ I h) fun us s1 ⟨vs,H1,I1,r1,q1⟩=>hc pins s1 Z H1 vs us Q I1 r1 q1) he hpl
end
end L2
namespace HT
open PySem PyProof.Rows
def lexLt:List Int->List Int->Bool
 | [],[]=>false
 | [],_::_=>true
 | _::_,[]=>false
 | x::xs,y::ys=>if x=y then lexLt xs ys else decide (x<y)
theorem lexLt_cons (x y:Int) (xs ys:List Int):lexLt (x::xs) (y::ys)=if x=y then lexLt xs ys else decide (x<y):=rfl
theorem qcD:lexLt [] []=false:=rfl
theorem qbV (y:Int) (ys:List Int):lexLt [] (y::ys)=true:=rfl
theorem qbW (x:Int) (xs:List Int):lexLt (x::xs) []=false:=rfl
theorem qiq (A:Around) (s:Shared) (a:Int) (t:Tok) (c:Int) (u:Tok):∃ e,SeqAt.EqAt A s (.int a t) (.int c u) e/\(e=true ↔ a=c) :=
 ⟨(a==c),SeqAt.EqAt.int_int a t c u,by simp⟩
theorem qir (A:Around) (s:Shared) (a:Int) (t:Tok) (c:Int) (u:Tok) (prog:Program) (w:World) (E:Value->Shared->Prop) (Q:Value->Shared->Prop) (h:Q (.bool (decide (a<c))) s) :
  wpAny (model prog w) A (richCompare .Lt (.int a t) (.int c u)) Q E s :=
 (PyProof.Rows.lt_int h:wpAny (model prog w) A (compareOp .Lt (.int a t) (.int c u)) Q E s)
section
open PySem.SeqAt
open PySem.AutoSeq1 (wpAny_loadPart')
open PySem.MeetsSeq PySem.MeetsSeq2 PySem.MeetsSeq3
theorem qcE (l b:Addr) (items items2:Array Value) (n n2:Nat) (dd dd2:Option Addr) (sl sl2:Array (Option Value)) (ns ms:List Int) (hi:IntsAre items.toList ns) (hj:IntsAre items2.toList ms) :
  Meets (Builtin.«tuple.__lt__» ⟨[.ref l,.ref b],[]⟩)
   (fun _ R s=>s.heap.get? l=some { cls := .type "tuple",dict:=dd,data := .seq items n,slots:=sl }/\s.heap.get? b=some { cls := .type "tuple",dict:=dd2,data := .seq items2 n2,slots:=sl2 } /\
    R (.ok (.ret (.bool (lexLt ns ms)))) s) :=
 .of_wp fun prog w A R s h=>by
  obtain ⟨hp,g,d,tk,os⟩:=s;obtain ⟨hl,hb,h⟩:=h
  have f2:=AutoSeq1.sub_tuple_tuple
  have z1:items.size=ns.length:=by rw [<- hi.length];simp
  have z2:items2.size=ms.length:=by rw [<- hj.length];simp
  wp_walk using wpAny_loadPart' hl,wpAny_loadPart' hb,wpAny_forIn_list _ (fun wA b s'=>b.1=none/\s'=⟨hp,g,d,tk,os⟩/\∃ (vs ws:List Value) (ns' ms':List Int),wA=vs.zip ws /\
   IntsAre vs ns'/\IntsAre ws ms'/\ns'.length+items2.size=ms'.length+items.size/\R (.ok (.ret (.bool (lexLt ns' ms')))) ⟨hp,g,d,tk,os⟩) _
  case turn =>
   rintro ⟨y,x⟩ wA b s' ⟨hb',rfl,vs,ws,ns',ms',hz,hvi,hwi,hlen,hR⟩
   cases hvi with
   | nil=>rw [List.zip_nil_left] at hz;cases hz
   | cons a t hvi' =>
    cases hwi with
    | nil=>rw [List.zip_nil_right] at hz;cases hz
    | cons c u hwi' =>
     rw [List.zip_cons_cons] at hz
     injection hz with hyx hrest
     injection hyx with hy hx
     subst hy hx
     rw [lexLt_cons] at hR
     simp only [lC_] at hlen
     obtain ⟨e,he,hiff⟩:=qiq A.in1 ⟨hp,g,d,tk,os⟩ a t c u
     refine wpAny_bind (he prog w _ _ ?_)
     cases e with
     | true =>
      rw [if_pos (hiff.mp rfl)] at hR
      wp_walk
      exact ⟨rfl,rfl,_,_,_,_,hrest,hvi',hwi',by omega,hR⟩
     | false =>
      rw [if_neg (fun q=>absurd (hiff.mpr q) Bool.false_ne_true)] at hR
      have hri:=qir A.in1 ⟨hp,g,d,tk,os⟩ a t c u prog w
      wp_walk using hri
      exact ⟨_,rfl,by simpa using hR⟩
  case fin =>
   rintro ⟨b1,b2⟩ s' ⟨hb',rfl,vs,ws,ns',ms',hz,hvi,hwi,hlen,hR⟩
   simp only at hb'
   subst hb'
   have hv:lexLt ns' ms'=decide (items.size<items2.size):=by
    cases hvi with
    | nil =>
     cases hwi with
     | nil =>
      simp only [lN_] at hlen
      rw [qcD]
      exact (decide_eq_false (by omega)).symm
     | cons c u hw =>
      simp only [lN_,lC_] at hlen
      rw [qbV]
      exact (decide_eq_true (by omega)).symm
    | cons a t hv =>
     cases hwi with
     | nil =>
      simp only [lN_,lC_] at hlen
      rw [qbW]
      exact (decide_eq_false (by omega)).symm
     | cons c u hw =>
      rw [List.zip_cons_cons] at hz
      cases hz
   rw [hv] at hR
   wp_walk
   exact ⟨_,rfl,by simpa [Builtin.Tuple.tupleCompareSizes] using hR⟩
  case h =>
   exact ⟨rfl,rfl,items.toList,items2.toList,ns,ms,rfl,hi,hj,by omega,h⟩
end
section
variable {prog:Program} {w:World} {A:Around} {E:Value->Shared->Prop} {s:Shared}
theorem lt_tupInts {l b:Addr} {items items2:Array Value} {ns ms:List Int} {Q:Value->Shared->Prop} (hl:IsTup s.heap l items) (hb:IsTup s.heap b items2) (hi:IntsAre items.toList ns) (hj:IntsAre items2.toList ms)
  (hu:A.units<cLine) (h:Q (.bool (lexLt ns ms)) s):wpAny (model prog w) A (compareOp .Lt (.ref l) (.ref b)) Q E s:=by
 obtain ⟨⟨cls,dd,data,sl⟩,ho,hc,n,hd⟩:=id hl
 obtain ⟨⟨cls2,dd2,data2,sl2⟩,ho2,hc2,n2,hd2⟩:=id hb
 simp only at hc hd hc2 hd2
 subst hc hd hc2 hd2
 exact richCompare_meets_room (op := .Lt) ⟨_,ho,rfl⟩ ⟨_,ho2,rfl⟩ PySem.F.slot_tuple_lt PySem.F.entry_tuple_lt (PySem.F.args_tuple_lt_2 _ _) (qcE l b items items2 n n2 dd dd2 sl sl2 ns ms hi hj)
  ⟨ho,ho2,show Value.bool (lexLt ns ms)≠Value.notImplemented/\Q (.bool (lexLt ns ms)) s from ⟨(fun x=>nomatch x),h⟩⟩ hu
theorem cat_tup {t b:Addr} {vs ws:List Value} {Q:Value->Shared->Prop} (ht:IsTup s.heap t vs.toArray) (hb:IsTup s.heap b ws.toArray) (hv:vs≠[])
  (h1:ws=[]->Q (.ref t) s) (h2:ws≠[]->Q (.ref s.heap.objs.size) { s with heap:=s.heap.push { cls := .type "tuple",data := .seq (vs++ws).toArray } })
  (hsz:vs.length+ws.length<=sizeLine):wpAny (model prog w) A (binaryOp .Add (.ref t) (.ref b)) Q E s:=by
 obtain ⟨⟨cls,dd,data,sl⟩,ho,hc,n,hd⟩:=id ht
 obtain ⟨⟨cls2,dd2,data2,sl2⟩,ho2,hc2,n2,hd2⟩:=id hb
 simp only at hc hd hc2 hd2
 subst hc hd hc2 hd2
 have e:vs.toArray++ws.toArray=(vs++ws).toArray:=by simp
 by_cases hw:ws=[]
 ·exact concat_meets ⟨_,ho,rfl⟩ ⟨_,ho2,rfl⟩ noFill_tuple_add seq_tuple_add PySem.F.slot_tuple_add PySem.F.entry_tuple_add (PySem.F.args_tuple_add_2 _ _)
   (tuple_addW1 t b vs.toArray ws.toArray n n2 dd dd2 sl sl2 (by simpa using hv) (by simp [hw])) ⟨ho,ho2,h1 hw⟩
 ·refine concat_meets ⟨_,ho,rfl⟩ ⟨_,ho2,rfl⟩ noFill_tuple_add seq_tuple_add PySem.F.slot_tuple_add PySem.F.entry_tuple_add (PySem.F.args_tuple_add_2 _ _)
   (tuple_addW2 t b vs.toArray ws.toArray n n2 dd dd2 sl sl2 (by simpa using hv) (by simpa using hw) (by rw [sT_,sT_];exact hsz)) ⟨ho,ho2,?_⟩
  rw [e]
  exact h2 hw
def sIx (n d:Nat):Option Int->Nat
 | none=>d
 | some v=>if v<0 then (v+(n:Int)).toNat else min v.toNat n
theorem sIx_none (n d:Nat):sIx n d none=d:=rfl
theorem sIx_nat (n d k:Nat):sIx n d (some (k:Int))=min k n:=by
 show (if (k:Int)<0 then ((k:Int)+(n:Int)).toNat else min (k:Int).toNat n)=min k n
 rw [if_neg (by omega),Int.toNat_natCast]
theorem qmr (n d:Nat) (hd:d<=n) (o:Option Int):sIx n d o<=n:=by
 cases o with
 | none=>exact hd
 | some v =>
  show (if v<0 then (v+(n:Int)).toNat else min v.toNat n)<=n
  by_cases hv:v<0
  ·rw [if_pos hv];omega
  ·rw [if_neg hv];exact Nat.min_le_right _ _
theorem qgL (v:Int) (n d:Nat):(if v<0 then max (v+(n:Int)) 0 else min v (n:Int))=((sIx n d (some v):Nat):Int):=by
 show (if v<0 then max (v+(n:Int)) 0 else min v (n:Int))=(((if v<0 then (v+(n:Int)).toNat else min v.toNat n):Nat):Int)
 by_cases hv:v<0
 ·simp only [if_pos hv];omega
 ·simp only [if_neg hv];omega
theorem qfY (lo hi:Option Int) (n:Nat):Builtin.Slice.sliceAdjust lo hi 1 (n:Int)=(((sIx n 0 lo:Nat):Int),((sIx n n hi:Nat):Int)):=by
 have h1:¬ ((1:Int)<0):=by omega
 unfold Builtin.Slice.sliceAdjust
 simp only [h1,if_false]
 refine Prod.ext ?_ ?_
 ·cases lo with
  | none=>rfl
  | some v=>exact qgL v n 0
 ·cases hi with
  | none=>rfl
  | some v=>exact qgL v n n
theorem qfZ (i j:Nat):Builtin.Slice.slicePlaces (i:Int) (j:Int) 1=j-i:=by
 unfold Builtin.Slice.slicePlaces
 have h1:(1:Int)>0:=by omega
 simp only [h1,if_true,Int.ediv_one]
 split<;>omega
theorem qce {v:Value} {o:Option Int} {Q:Option Int->Shared->Prop} (p:IsPart v o) (h:Q o s):wpAny (model prog w) A (Builtin.Slice.slicePartIndex v) Q E s:=by
 cases p with
 | none=>exact slicePart_none h
 | int i t=>exact slicePart_int h
theorem sliceApplied_gen {sl:Addr} {vl vu:Value} {lo hi:Option Int} {n:Nat} {Q:Int×Int×Nat->Shared->Prop} (hs:s.heap.IsSliceOf sl vl vu .none) (pl:IsPart vl lo) (pu:IsPart vu hi)
  (h:Q (((sIx n 0 lo:Nat):Int),1,sIx n n hi-sIx n 0 lo) s):wpAny (model prog w) A (Builtin.Slice.sliceApplied (.ref sl) (pure (n:Int))) Q E s:=by
 obtain ⟨os,hos,hcs,hds⟩:=id hs
 unfold Builtin.Slice.sliceApplied Builtin.Slice.sliceFields
 refine wpAny_bind (wpAny_bind (wpAny_field hos hds (x:=vl) rfl (wpAny_bind (wpAny_field hos hds (x:=vu) rfl (wpAny_bind (wpAny_field hos hds (x := .none) rfl (wpAny_pure ?_)))))))
 refine wpAny_bind (slicePart_none ?_)
 show wpAny _ _ (if ((1:Int)==0)=true then _ else _) _ _ s
 rw [if_neg (by decide)]
 refine wpAny_bind (qce pl (wpAny_bind (qce pu (wpAny_bind (wpAny_pure ?_)))))
 show wpAny _ _ (match Builtin.Slice.sliceAdjust lo hi 1 (n:Int) with | (lo,hi)=>pure (lo,(1:Int),Builtin.Slice.slicePlaces lo hi 1)) _ _ s
 rw [qfY lo hi n]
 show wpAny _ _ (pure (((sIx n 0 lo:Nat):Int),(1:Int),Builtin.Slice.slicePlaces ((sIx n 0 lo:Nat):Int) ((sIx n n hi:Nat):Int) 1)) _ _ s
 rw [qfZ]
 exact wpAny_pure h
theorem qis (xs:Array Value) (i k:Nat):((List.range k).filterMap fun (m:Nat)=>xs[((i:Int)+(m:Int)*1).toNat]?).toArray=((xs.toList.drop i).take k).toArray:=by
 have e:(fun (m:Nat)=>xs[((i:Int)+(m:Int)*1).toNat]?)=fun m=>xs[i+m]? := by
  funext m
  have:((i:Int)+(m:Int)*1).toNat=i+m:=by omega
  rw [this]
 rw [e]
 have:=pick_run xs i k
 rw [List.filterMap_map] at this
 have e2:((fun x=>xs[x]?)∘fun x=>i+x)=fun m=>xs[i+m]? := rfl
 rw [e2] at this
 rw [this]
theorem getItem_tuple_cut {t sl:Addr} {items:Array Value} {vl vu:Value} {lo hi:Option Int} {Q:Value->Shared->Prop} (ht:IsTup s.heap t items) (hs:s.heap.IsSliceOf sl vl vu .none) (pl:IsPart vl lo) (pu:IsPart vu hi)
  (hw:¬ (sIx items.size 0 lo=0/\sIx items.size items.size hi=items.size))
  (h:Q (.ref s.heap.objs.size) { s with heap:=s.heap.push { cls := .type "tuple",data := .seq ((items.toList.drop (sIx items.size 0 lo)).take (sIx items.size items.size hi-sIx items.size 0 lo)).toArray } })
  (hsz:items.size<=sizeLine):wpAny (model prog w) A (getItem (.ref t) (.ref sl)) Q E s:=by
 have htake:sizeOk (.seq ((items.toList.drop (sIx items.size 0 lo)).take (sIx items.size items.size hi-sIx items.size 0 lo)).toArray):=by
  show ((items.toList.drop (sIx items.size 0 lo)).take (sIx items.size items.size hi-sIx items.size 0 lo)).toArray.size<=sizeLine
  rw [sT_,List.length_take,List.length_drop,Array.length_toList]
  omega
 have hj:sIx items.size items.size hi<=items.size:=qmr _ _ (Nat.le_refl _) hi
 obtain ⟨os,hos,hcs,hds⟩:=id hs
 have hTs:s.TypeIs (.ref sl) "slice":=⟨os,hos,hcs⟩
 unfold getItem
 try with_reducible refine wpAny_holding ?_
 first | refine wpAny_bind (wpAny_pure ?_) | skip
 refine wpAny_bind (wpAny_sequenceKey ht.typeIs (by decide) ?_)
 refine wpAny_bind (wpAny_callSpecial?_slot (name:=Str.ofString "__getitem__") ht.typeIs PyProof.Rows.slot_tuple_getitem
  (wpAny_call_entry PyProof.Rows.slot_tuple_getitem ht.typeIs entry_tuple_getitem ?_ (args_tuple_getitem _ _)))
 show wpAny _ _ (Builtin.Tuple.tupleItemsOf (.ref t) >>= _) _ _ s
 refine wpAny_bind (tupleItemsOf_ ht ?_)
 refine wpAny_bind (wpAny_typeOf hTs ?_)
 rw [if_pos (by decide)]
 refine wpAny_bind (sliceApplied_gen hs pl pu ?_)
 have hno:¬ ((((sIx items.size 0 lo:Nat):Int)==0&&(1:Int)==1&&(sIx items.size items.size hi-sIx items.size 0 lo)==items.size)=true):=by
  intro q
  rw [Bool.and_eq_true,Bool.and_eq_true] at q
  have q1:((sIx items.size 0 lo:Nat):Int)=0:=eq_of_beq q.1.1
  have q2:sIx items.size items.size hi-sIx items.size 0 lo=items.size:=eq_of_beq q.2
  exact hw ⟨by omega,by omega⟩
 show wpAny _ _ (if (((sIx items.size 0 lo:Nat):Int)==0&&(1:Int)==1&&(sIx items.size items.size hi-sIx items.size 0 lo)==items.size)=true then _ else _) _ _ s
 rw [if_neg hno,qis]
 first
  | exact wpAny_bind (m:=Builtin.Tuple.tupleExact _) (wpAny_newObj_type (wpAny_pure ⟨_,rfl,wpAny_pure h⟩) htake)
  | exact wpAny_bind (m:=Builtin.Tuple.tupleExact _) (wpAny_newObj_type (wpAny_bind (wpAny_pure (wpAny_pure ⟨_,rfl,wpAny_pure h⟩))) htake)
  | exact wpAny_bind (wpAny_bind (m:=Builtin.Tuple.tupleExact _) (wpAny_newObj_type (wpAny_pure (wpAny_pure ⟨_,rfl,wpAny_pure h⟩)) htake))
  | exact wpAny_bind (wpAny_bind (m:=Builtin.Tuple.tupleExact _) (wpAny_newObj_type (wpAny_pure ⟨_,rfl,wpAny_pure h⟩) htake))
end
end HT
namespace L2
open PySem PySem.Spec PyProof.Rows
abbrev TO:=St->Hp->(Option Int->Hp->Prop)->Prop
def PO (X:Cx) (e:Option Expr) (t:TO):Prop :=
 ∀ (pins:List (Addr×Obj)) (s:Shared) (Z:St) (H:Hp) (Q:Option Int->Hp->Prop),Inv X pins Z H s->t Z H Q ->
  wpAny (model X.prog X.w) X.A (evalPart e X.env) (fun u s'=>∃ o H',Inv X pins Z H' s'/\IsPart u o/\Q o H') X.xe s
def qks:TO:=fun _ H Q=>Q none H
def qon (t:TE):TO:=fun Z H Q=>t Z H fun x H1=>∃ i,x = .int i/\Q (some i) H1
theorem qae {ns:List Int}:∀ {us:List Value},zb (ns.map V.int) us->IntsAre us ns:=by
 induction ns with
 | nil=>intro us r;rw [List.map_nil] at r;cases r;exact .nil
 | cons n ns ih =>
  intro us r
  rw [mC_] at r
  cases r with
  | cons r1 r2 =>
   obtain ⟨t,e⟩:=r1
   subst e
   exact .cons n t (ih r2)
section
variable {X:Cx} {e:Expr} {te:TE} {lo hi:Option Expr} {tl th:TO} {pos p2:Pos}
theorem qkt:PO X none qks:=by
 intro pins s Z H Q I h
 rw [evalPart_none]
 exact wpAny_pure ⟨none,H,I,.none,h⟩
theorem qku (h:PE X e te):PO X (some e) (qon te):=by
 intro pins s Z H Q I hw
 rw [evalPart_some]
 refine thn (h pins s Z H _ I hw) fun u s1 ⟨x,H1,I1,r1,q1⟩ => ?_
 obtain ⟨i,rfl,q⟩:=q1
 obtain ⟨t,rfl⟩:=r1
 exact ⟨some i,H1,I1,.int i t,q⟩
def SlR (X:Cx) (r:V->Option Int->Option Int->Hp->VK->Prop):Prop :=
 ∀ (pins:List (Addr×Obj)) (s:Shared) (Z:St) (H:Hp) (x:V) (v vl vu:Value) (lo hi:Option Int) (sl:Addr) (Q:VK),Inv X pins Z H s->jN x v->s.heap.IsSliceOf sl vl vu .none->IsPart vl lo->IsPart vu hi->r x lo hi H Q ->
  ∃ T id,typeLookup (.type T) "__getitem__"=pure (some (.builtin id))/\s.TypeIs v T/\wpAny (model X.prog X.w) X.A (getItem v (.ref sl)) (EP X pins Z Q) X.xe s
theorem SlR.or {r r':V->Option Int->Option Int->Hp->VK->Prop} (h:SlR X r) (h':SlR X r'):SlR X (fun x lo hi H Q=>r x lo hi H Q\/r' x lo hi H Q):=by
 intro pins s Z H x v vl vu lo hi sl Q I rx hs pl pu q
 rcases q with q | q
 ·exact h pins s Z H x v vl vu lo hi sl Q I rx hs pl pu q
 ·exact h' pins s Z H x v vl vu lo hi sl Q I rx hs pl pu q
def tSl (r:V->Option Int->Option Int->Hp->VK->Prop) (te:TE) (tl th:TO):TE:=fun Z H Q=>te Z H fun x H1=>tl Z H1 fun l H2=>th Z H2 fun u H3=>r x l u H3 Q
theorem qit {r:V->Option Int->Option Int->Hp->VK->Prop} (hr:SlR X r) (he:PE X e te) (hl:PO X lo tl) (hu:PO X hi th):PE X (.Subscript e (.Slice lo hi none p2) pos) (tSl r te tl th):=by
 intro pins s Z H Q I h
 refine Subscript_ (thn (he pins s Z H _ I h) fun v s1 ⟨x,H1,I1,r1,q1⟩ => ?_)
 refine wpAny_Slice (thn (hl pins s1 Z H1 _ I1 q1) fun vl s2 ⟨l,H2,I2,pl,q2⟩=>thn (hu pins s2 Z H2 _ I2 q2) fun vu s3 ⟨u,H3,I3,pu,q3⟩ => ?_)
 rw [evalPart_none]
 refine wpAny_pure ?_
 have I4:Inv X pins Z H3 { s3 with heap:=s3.heap.push { cls := .type "slice",data := .fields #[vl,vu,.none] } }:=I3.kept (t':=s3.toks) fun b ob q=>Heap.get?_push_of_some _ q
 obtain ⟨T,id,hT,ht,hg⟩:=hr pins { s3 with heap:=s3.heap.push { cls := .type "slice",data := .fields #[vl,vu,.none] } } Z H3 x v vl vu l u s3.heap.objs.size Q I4 r1 (Heap.IsSliceOf.new ..) pl pu q3
 show wpAny (model X.prog X.w) X.A (subscriptTail e (.Slice lo hi none p2) v (.ref s3.heap.objs.size)) (EP X pins Z Q) X.xe { s3 with heap:=s3.heap.push { cls := .type "slice",data := .fields #[vl,vu,.none] } }
 exact tail_any (ops:=[.ref s3.heap.objs.size,v]) ht hT hg (by with_unfolding_all rfl)
def qic (xs:List V) (lo hi:Option Int):List V:=(xs.drop (HT.sIx xs.length 0 lo)).take (HT.sIx xs.length xs.length hi-HT.sIx xs.length 0 lo)
theorem qbe (xs:List V) (lo hi:Option Int):(qic xs lo hi).length<=xs.length:=by
 unfold qic
 rw [List.length_take,List.length_drop]
 omega
def qo3 (K:PySem.W.Frag):V->Option Int->Option Int->Hp->VK->Prop:=fun x lo hi H Q=>∃ a xs,x = .ref a/\SqT K H a xs /\
 ¬ (HT.sIx xs.length 0 lo=0/\HT.sIx xs.length xs.length hi=xs.length)/\∀ p,H p=none->Q (.ref p) (upd H p (.tup (qic xs lo hi)))
theorem sl_tup:SlR X (qo3 X.K):=by
 intro pins s Z H x v vl vu lo hi sl Q I rx hs pl pu h
 obtain ⟨a,xs,rfl,hx,hw,q⟩:=h
 cases rx
 obtain ⟨its,r,ht,hz⟩:=I.tuple hx
 have hlen:its.toArray.size=xs.length:=by rw [sT_];exact r.length.symm
 refine ⟨"tuple",_,PyProof.Rows.slot_tuple_getitem.lookup,ht.typeIs,?_⟩
 refine HT.getItem_tuple_cut ht hs pl pu (by rw [hlen];exact hw) ?_ (by rw [hlen];exact hz)
 rw [hlen]
 refine ⟨.ref s.heap.objs.size,_,I.laid (t':=s.toks) (o := .tup (qic xs lo hi)) (fun b ob q=>Heap.get?_push_of_some _ q) (Nat.le_refl _) ?_,rfl,q _ (I.hok.fresh (Nat.le_refl _))⟩
 exact ⟨Nat.le_trans (qbe xs lo hi) hz,_,(r.drop (HT.sIx xs.length 0 lo)).take (HT.sIx xs.length xs.length hi-HT.sIx xs.length 0 lo),IsTup.new _ _⟩
def qms (K:PySem.W.Frag):R2:=fun x y H Q=>∃ a b xs ys,x = .ref a/\y = .ref b/\SqT K H a xs/\SqT K H b ys/\xs≠[]/\xs.length+ys.length<=sizeLine /\
 (ys=[]->Q (.ref a) H)/\(ys≠[]->∀ p,H p=none->Q (.ref p) (upd H p (.tup (xs++ys))))
theorem zb.nil_iff {xs:List V} {us:List Value} (r:zb xs us):us=[] ↔ xs=[]:=by
 cases r with
 | nil=>simp
 | cons _ _=>simp
theorem qkv:OpR X (binaryOp .Add) (qms X.K):=by
 intro pins s Z H x y v u Q I rx ry h
 obtain ⟨a,b,xs,ys,rfl,rfl,ha,hb,hx,hz,q1,q2⟩:=h
 cases rx
 cases ry
 obtain ⟨its,r1,p1,_⟩:=I.tuple ha
 obtain ⟨its2,r2,p2,_⟩:=I.tuple hb
 refine HT.cat_tup p1 p2 (fun z=>hx (r1.nil_iff.mp z)) (fun z=>⟨.ref a,H,I,rfl,q1 (r2.nil_iff.mp z)⟩) (fun z => ?_) (by rw [<- r1.length,<- r2.length];exact hz)
 refine ⟨.ref s.heap.objs.size,_,I.laid (t':=s.toks) (o := .tup (xs++ys)) (fun b ob q=>Heap.get?_push_of_some _ q) (Nat.le_refl _) ?_,rfl,q2 (fun w=>z (r2.nil_iff.mpr w)) _ (I.hok.fresh (Nat.le_refl _))⟩
 exact ⟨by rw [lA_];exact hz,_,r1.append r2,IsTup.new _ _⟩
end
end L2
namespace L2
open PySem PySem.Spec PyProof.Rows
def ixN (n:Nat) (i:Int):Option Nat:=if 0<=i then (if i<n then some i.toNat else none) else if -(n:Int)<=i then some (i+n).toNat else none
def atI {α:Type} (xs:List α) (i:Int):Option α:=(ixN xs.length i).bind fun j=>xs[j]?
theorem qgM {n:Nat} {i:Int} {j:Nat} (h:ixN n i=some j):seqIndex? i n=some j/\j<n /\ -(n:Int)<=i/\i<n:=by
 unfold ixN at h
 by_cases h0:0<=i
 ·rw [if_pos h0] at h
  by_cases h1:i<n
  ·rw [if_pos h1] at h
   have e:i.toNat=j:=Option.some.inj h
   exact ⟨by rw [seqIndex_of h0 h1,e],by omega,by omega,h1⟩
  ·rw [if_neg h1] at h;cases h
 ·rw [if_neg h0] at h
  by_cases h1 : -(n:Int)<=i
  ·rw [if_pos h1] at h
   have e:(i+n).toNat=j:=Option.some.inj h
   exact ⟨by rw [seqIndex_neg (by omega) h1,e],by omega,h1,by omega⟩
  ·rw [if_neg h1] at h;cases h
theorem qgN {α:Type} {xs:List α} {i:Int} {v:α} (h:atI xs i=some v):∃ j,seqIndex? i xs.length=some j/\xs[j]? = some v/\j<xs.length /\ -(xs.length:Int)<=i/\i<xs.length:=by
 unfold atI at h
 cases e:ixN xs.length i with
 | none=>rw [e] at h;cases h
 | some j =>
  rw [e] at h
  obtain ⟨h1,h2,h3,h4⟩:=qgM e
  exact ⟨j,h1,h,h2,h3,h4⟩
def qeC (b:Expr):Prop:=∀ o i,subscripted b false o i=operate [o,i] (getItem o i)
def IxR (X:Cx) (r:R2):Prop :=
 ∀ (value slice:Expr) (pins:List (Addr×Obj)) (s:Shared) (Z:St) (H:Hp) (x y:V) (v u:Value) (Q:VK),Inv X pins Z H s->jN x v->jN y u->r x y H Q ->
  subscripted slice false v u=operate [v,u] (getItem v u)->wpAny (model X.prog X.w) X.A (subscriptTail value slice v u) (EP X pins Z Q) X.xe s
def MtR (X:Cx) (id:String) (r:V->List V->Hp->VK->Prop):Prop :=
 ∀ (pins:List (Addr×Obj)) (s:Shared) (Z:St) (H:Hp) (x:V) (xs:List V) (v:Value) (us:List Value) (Q:VK),Inv X pins Z H s->jN x v->zb xs us->r x xs H Q ->
  wpAny (model X.prog X.w) X.A (call (.builtin id) (v::us)) (EP X pins Z Q) X.xe s
section
variable {X:Cx} {a b:Expr} {ta tb:TE} {pos:Pos}
theorem IxR.or {r r':R2} (h:IxR X r) (h':IxR X r'):IxR X (fun x y H Q=>r x y H Q\/r' x y H Q):=by
 intro value slice pins s Z H x y v u Q I rx ry q hs
 rcases q with q | q
 ·exact h value slice pins s Z H x y v u Q I rx ry q hs
 ·exact h' value slice pins s Z H x y v u Q I rx ry q hs
theorem MtR.or {id:String} {r r':V->List V->Hp->VK->Prop} (h:MtR X id r) (h':MtR X id r'):MtR X id (fun x xs H Q=>r x xs H Q\/r' x xs H Q):=by
 intro pins s Z H x xs v us Q I rx rs q
 rcases q with q | q
 ·exact h pins s Z H x xs v us Q I rx rs q
 ·exact h' pins s Z H x xs v us Q I rx rs q
theorem qmt {r:R2} (hr:IxR X r) (ha:PE X a ta) (hb:PE X b tb) (hs:qeC b):PE X (.Subscript a b pos) (tOp r ta tb):=by
 intro pins s Z H Q I h
 exact Subscript_ (qoe ha hb I h fun v u s2 x y H2 I2 rx ry q=>hr a b pins s2 Z H2 x y v u Q I2 rx ry q (hs _ _))
def qoo (K:PySem.W.Frag):R2:=fun x y H Q=>∃ p xs i v,x = .ref p/\y = .int i/\SqL K H p xs/\atI xs i=some v/\Q v H
def qop (K:PySem.W.Frag):R2:=fun x y H Q=>∃ p xs i v,x = .ref p/\y = .int i/\SqT K H p xs/\atI xs i=some v/\Q v H
theorem qgO:IxR X (qoo X.K):=by
 intro value slice pins s Z H x y v u Q I rx ry h hs
 obtain ⟨p,xs,i,z,rfl,rfl,hq,he,q⟩:=h
 cases rx
 obtain ⟨t,rfl⟩:=ry
 obtain ⟨its,r,pl,hz⟩:=I.list hq
 obtain ⟨j,h1,h2,h3,h4,h5⟩:=qgN he
 obtain ⟨w,ew,rw'⟩:=r.get h2
 have hl:=r.length
 have hn:=qdB
 have fin:EP X pins Z Q w s:=⟨z,H,I,rw',q⟩
 by_cases h0:0<=i
 ·have hj:i.toNat=j:=by
   rw [seqIndex_of h0 h5] at h1
   exact Option.some.inj h1
  exact item_listR pl.isList h0 (by omega) (by rw [hj];simpa using ew) fin hs
 ·have hj:(i+(its.toArray.size:Int)).toNat=j:=by
   rw [seqIndex_neg (by omega) h4] at h1
   rw [sT_,<- hl]
   exact Option.some.inj h1
  exact subscriptTail_builtinR (x:=w) pl.isList.typeIs slot_list_getitem.lookup
   (wpAny_getItem_list_neg (Q:=fun r s'=>r=w/\EP X pins Z Q r s') pl.isList (by omega) (by rw [sT_]<;>omega) (by omega) (by rw [hj];simpa using ew) ⟨rfl,fin⟩) hs
theorem qmu:IxR X (qop X.K):=by
 intro value slice pins s Z H x y v u Q I rx ry h hs
 obtain ⟨p,xs,i,z,rfl,rfl,hq,he,q⟩:=h
 cases rx
 obtain ⟨t,rfl⟩:=ry
 obtain ⟨its,r,pl,hz⟩:=I.tuple hq
 obtain ⟨j,h1,h2,h3,h4,h5⟩:=qgN he
 obtain ⟨w,ew,rw'⟩:=r.get h2
 have hl:=r.length
 have hn:=qdB
 have fin:EP X pins Z Q w s:=⟨z,H,I,rw',q⟩
 exact subscriptTail_builtinR (x:=w) pl.typeIs slot_tuple_getitem.lookup
  (getItem_tuple (j:=j) (Q:=fun r s'=>r=w/\EP X pins Z Q r s') pl (by omega) (by omega) (by rw [sT_,<- hl];exact h1) (by simpa using ew) ⟨rfl,fin⟩) hs
theorem qf0 (its:List Value) (n j:Nat) (u:Value):Obj.mapSeq (·.setIfInBounds j u) { cls := .type "list",data := .seq its.toArray n }={ cls := .type "list",data := .seq (its.set j u).toArray n }:=by
 simp [Obj.mapSeq]
theorem Inv.lst {pins:List (Addr×Obj)} {Z:St} {H:Hp} {s:Shared} {p:Addr} {xs:List V} (I:Inv X pins Z H s) (h:H p=some (.lst xs)) :
  ∃ (its:List Value) (n:Nat),zb xs its/\s.heap.get? p=some { cls := .type "list",data := .seq its.toArray n }/\xs.length<=sizeLine:=by
 obtain ⟨z,its,n,r,e⟩:=I.hok p _ h
 exact ⟨its,n,r,e,z⟩
theorem Inv.lstUpd {pins:List (Addr×Obj)} {Z:St} {H:Hp} {s:Shared} {p:Addr} {xs ys:List V} {its its':List Value} {n n':Nat} {f:Obj->Obj} (I:Inv X pins Z H s) (h:H p=some (.lst xs))
  (ho:s.heap.get? p=some { cls := .type "list",data := .seq its.toArray n }) (hf:f { cls := .type "list",data := .seq its.toArray n }={ cls := .type "list",data := .seq its'.toArray n' }) (r:zb ys its') (hz:ys.length<=sizeLine) (t:Nat) :
  Inv X pins Z (upd H p (.lst ys)) { s with heap:=s.heap.update p f,toks:=t }:=by
 have e:(s.heap.update p f).get? p=some { cls := .type "list",data := .seq its'.toArray n' }:=by
  rw [Heap.get?_update_self f ho (by rw [hf]<;>rfl),hf]
 refine I.write (x:=p) (e:=p) (by rw [h];trivial) (.inl rfl) (fun b u hb q=>(Heap.get?_update_other _ _ (Ne.symm hb)).trans q) ⟨_,e⟩ ?_
 exact ⟨hz,its',n',r,e⟩
def qoq:V->V->V->Hp->(Hp->Prop)->Prop:=fun o i v H Q=>∃ p xs k j,o = .ref p/\i = .int k/\H p=some (.lst xs)/\ixN xs.length k=some j/\Q (upd H p (.lst (xs.set j v)))
theorem qiu:qoX X qoq:=by
 intro pins s Z H o i v ov iv u Q I ro ri rv h
 obtain ⟨p,xs,k,j,rfl,rfl,hp,hj,q⟩:=h
 cases ro
 obtain ⟨t,rfl⟩:=ri
 obtain ⟨its,n,r,ho,hz⟩:=I.lst hp
 obtain ⟨h1,h2,h3,h4⟩:=qgM hj
 have hl:=r.length
 have hn:=qdB
 have I':Inv X pins Z (upd H p (.lst (xs.set j v))) { s with heap:=s.heap.update p (Obj.mapSeq (·.setIfInBounds j u)) } :=
  I.lstUpd hp ho (qf0 its n j u) (r.set rv j) (by rw [lS_];exact hz) s.toks
 by_cases h0:0<=k
 ·have hk:k.toNat=j:=by
   rw [seqIndex_of h0 h4] at h1
   exact Option.some.inj h1
  exact PySem.W.ki_setAt ho h0 (by omega) (by rw [sT_,<- hl];exact h4) (by rw [hk];exact ⟨_,I',q⟩)
 ·have hk:(k+(its.toArray.size:Int)).toNat=j:=by
   rw [seqIndex_neg (by omega) h3] at h1
   rw [sT_,<- hl]
   exact Option.some.inj h1
  exact PySem.W.ki_setBack ho (by omega) (by rw [sT_,<- hl];exact h3) (by omega) (by rw [hk];exact ⟨_,I',q⟩)
theorem qdI (lo hi:Option Int) (n:Nat):(sliceBounds lo hi none n).1=((HT.sIx n 0 lo:Nat):Int)/\(sliceBounds lo hi none n).2.1=((HT.sIx n n hi:Nat):Int)/\(sliceBounds lo hi none n).2.2=1:=by
 refine ⟨?_,?_,rfl⟩
 ·cases lo with
  | none=>simp [sliceBounds,HT.sIx]
  | some i =>
   simp only [sliceBounds,HT.sIx,Option.getD_none,show (1:Int)>0 by decide,if_true]
   by_cases h:i<0
   ·simp only [h,if_true]<;>omega
   ·simp only [h,if_false]<;>omega
 ·cases hi with
  | none=>simp [sliceBounds,HT.sIx]
  | some i =>
   simp only [sliceBounds,HT.sIx,Option.getD_none,show (1:Int)>0 by decide,if_true]
   by_cases h:i<0
   ·simp only [h,if_true]<;>omega
   ·simp only [h,if_false]<;>omega
theorem qcF (its:List Value) (lo hi:Option Int):slicePick its.toArray lo hi none=((its.drop (HT.sIx its.length 0 lo)).take (HT.sIx its.length its.length hi-HT.sIx its.length 0 lo)).toArray:=by
 obtain ⟨h1,h2,h3⟩:=qdI lo hi its.toArray.size
 unfold slicePick
 rw [h1,h2,h3]
 simp only [sliceRange_one,pick_run,sT_]<;>rfl
def qpL (K:PySem.W.Frag):V->Option Int->Option Int->Hp->VK->Prop:=fun x lo hi H Q=>∃ a xs,x = .ref a/\SqL K H a xs/\∀ p,H p=none->Q (.ref p) (upd H p (.lst (qic xs lo hi)))
theorem qkw:SlR X (qpL X.K):=by
 intro pins s Z H x v vl vu lo hi sl Q I rx hs pl pu h
 obtain ⟨a,xs,rfl,hx,q⟩:=h
 cases rx
 obtain ⟨its,r,ht,hz⟩:=I.list hx
 have hlen:=r.length
 refine ⟨"list",_,slot_list_getitem.lookup,ht.isList.typeIs,?_⟩
 refine wpAny_getItem_list_slice ht.isList hs pl pu .none (by simp) ?_ (by rw [sT_]<;>omega)
 rw [qcF,<- hlen]
 refine ⟨.ref s.heap.objs.size,_,I.laid (t':=s.toks) (o := .lst (qic xs lo hi)) (fun b ob q=>Heap.get?_push_of_some _ q) (Nat.le_refl _) ?_,rfl,q _ (I.hok.fresh (Nat.le_refl _))⟩
 exact ⟨Nat.le_trans (qbe xs lo hi) hz,_,0,(r.drop (HT.sIx xs.length 0 lo)).take (HT.sIx xs.length xs.length hi-HT.sIx xs.length 0 lo),Heap.get?_push_size _ rfl⟩
def qaQ:V->Bool
 | .non=>true
 | .bl _=>true
 | .int _=>true
 | .str _=>true
 | _=>false
def eqV:V->V->Bool
 | .non,.non=>true
 | .bl a,.bl b=>a==b
 | .bl a,.int b=>(if a then 1 else 0)==b
 | .int a,.bl b=>a==(if b then 1 else 0)
 | .int a,.int b=>a==b
 | .str a,.str b=>a==b
 | _,_=>false
theorem qmv {A:Around} {s:Shared} {y x:V} {u v:Value} (ry:jN y u) (rx:jN x v) (fy:qaQ y=true) (fx:qaQ x=true):SeqAt.EqAt A s u v (eqV y x):=by
 cases y with
 | non =>
  cases ry
  cases x with
  | non=>cases rx;exact SeqAt.EqAt.same _
  | bl b=>cases rx;exact SeqAt.EqAt.none_bool b
  | int b=>obtain ⟨t,rfl⟩:=rx;exact SeqAt.EqAt.none_int b t
  | str b=>obtain ⟨t,rfl⟩:=rx;exact SeqAt.EqAt.none_str b t
  | _=>exact absurd (show false=true from fx) Bool.false_ne_true
 | bl a =>
  cases ry
  cases x with
  | non=>cases rx;exact SeqAt.EqAt.bool_none a
  | bl b=>cases rx;exact SeqAt.EqAt.bool_bool a b
  | int b=>obtain ⟨t,rfl⟩:=rx;exact SeqAt.EqAt.bool_int a b t
  | str b=>obtain ⟨t,rfl⟩:=rx;exact SeqAt.EqAt.bool_str a b t
  | _=>exact absurd (show false=true from fx) Bool.false_ne_true
 | int a =>
  obtain ⟨t',rfl⟩:=ry
  cases x with
  | non=>cases rx;exact SeqAt.EqAt.int_none a t'
  | bl b=>cases rx;exact SeqAt.EqAt.int_bool a t' b
  | int b=>obtain ⟨t,rfl⟩:=rx;exact SeqAt.EqAt.int_int a t' b t
  | str b=>obtain ⟨t,rfl⟩:=rx;exact SeqAt.EqAt.int_str a t' b t
  | _=>exact absurd (show false=true from fx) Bool.false_ne_true
 | str a =>
  obtain ⟨t',rfl⟩:=ry
  cases x with
  | non=>cases rx;exact SeqAt.EqAt.str_none a t'
  | bl b=>cases rx;exact SeqAt.EqAt.str_bool a t' b
  | int b=>obtain ⟨t,rfl⟩:=rx;exact SeqAt.EqAt.str_int a t' b t
  | str b=>obtain ⟨t,rfl⟩:=rx;exact SeqAt.EqAt.str_str a t' b t
  | _=>exact absurd (show false=true from fx) Bool.false_ne_true
 | _=>exact absurd (show false=true from fy) Bool.false_ne_true
def eqU (x:V) (u:Value):Bool:=match u with
 | .none=>eqV .non x
 | .bool b=>eqV (.bl b) x
 | .int i _=>eqV (.int i) x
 | .str z _=>eqV (.str z) x
 | _=>false
theorem qjA {x y:V} {u:Value} (r:jN y u) (f:qaQ y=true):eqU x u=eqV y x:=by
 cases y with
 | non=>cases r;rfl
 | bl b=>cases r;rfl
 | int i=>obtain ⟨t,rfl⟩:=r;rfl
 | str z=>obtain ⟨t,rfl⟩:=r;rfl
 | _=>exact absurd (show false=true from f) Bool.false_ne_true
theorem qeD {x:V}:∀ {xs:List V} {us:List Value},zb xs us->xs.all qaQ=true->us.any (eqU x)=xs.any fun y=>eqV y x
 | _,_,.nil,_=>rfl
 | y::xs,u::us,.cons r t,f=>by
  rw [List.all_cons,Bool.and_eq_true] at f
  rw [List.any_cons,List.any_cons,qjA r f.1,qeD t f.2]
theorem qcG {A:Around} {s:Shared} {x:V} {v:Value} (rx:jN x v) (fx:qaQ x=true):∀ {xs:List V} {us:List Value},zb xs us->xs.all qaQ=true->∀ u∈us,SeqAt.EqAt A s u v (eqU x u)
 | _,_,.nil,_=>fun u hu=>by cases hu
 | y::xs,u::us,.cons r t,f=>fun u' hu=>by
  rw [List.all_cons,Bool.and_eq_true] at f
  rcases List.mem_cons.mp hu with rfl | hu
  ·rw [qjA r f.1];exact qmv r rx f.1 fx
  ·exact qcG rx fx t f.2 u' hu
def inV (x:V) (xs:List V):Bool:=xs.any fun y=>eqV y x
def rIn (K:PySem.W.Frag) (neg:Bool):R2:=fun x y H Q=>∃ p xs,y = .ref p/\(SqL K H p xs\/SqT K H p xs)/\qaQ x=true/\xs.all qaQ=true/\Q (.bl (if neg then !inV x xs else inV x xs)) H
theorem qgP:OpR X (compareOp .In) (rIn X.K false):=by
 intro pins s Z H x y v u Q I rx ry h
 obtain ⟨p,xs,rfl,hq,fx,fs,q⟩:=h
 cases ry
 rcases hq with hq | hq
 ·obtain ⟨its,r,pl,hz⟩:=I.list hq
  refine SeqAt.in_listAt (eqU x) pl.isList (fun w hw=>qcG rx fx r fs w (by simpa using hw)) ⟨.bl _,H,I,rfl,?_⟩
  rw [show its.toArray.any (eqU x)=its.any (eqU x) by simp,qeD r fs]
  exact q
 ·obtain ⟨its,r,pl,hz⟩:=I.tuple hq
  refine SeqAt.in_tupleAt (eqU x) pl (fun w hw=>qcG rx fx r fs w (by simpa using hw)) ⟨.bl _,H,I,rfl,?_⟩
  rw [show its.toArray.any (eqU x)=its.any (eqU x) by simp,qeD r fs]
  exact q
theorem qdJ:yR X (.builtin "len") (fun xs H Q=>∃ p ys,xs=[.ref p]/\(SqL X.K H p ys\/SqT X.K H p ys)/\Q (.int ys.length) H):=by
 intro pins s Z H xs us Q I r h
 obtain ⟨p,ys,rfl,hq,q⟩:=h
 obtain ⟨u,rfl,rx⟩:=qfX r
 cases rx
 have hn:=qdB
 rcases hq with hq | hq
 ·obtain ⟨its,r',pl,hz⟩:=I.list hq
  have hlen:=r'.length
  exact Calls.call_len_list pl.isList (by simp only [sT_]<;>omega) ⟨.int ys.length,H,I.tok _,⟨s.toks+1,by rw [sT_,hlen]⟩,q⟩
 ·obtain ⟨its,r',pl,hz⟩:=I.tuple hq
  have hlen:=r'.length
  exact len_tuple pl (by simp only [sT_]<;>omega) ⟨.int ys.length,H,I.tok _,⟨s.toks+1,by rw [sT_,hlen]⟩,q⟩
theorem qdK:yR X (.builtin "len") (fun xs H Q=>∃ z,xs=[.str z]/\z.length<=sizeLine/\Q (.int z.length) H):=by
 intro pins s Z H xs us Q I r h
 obtain ⟨z,rfl,hz,q⟩:=h
 obtain ⟨u,rfl,t,rfl⟩:=qfX r
 have hn:=qdB
 exact len_str (by omega) ⟨.int z.length,H,I.tok _,⟨_,rfl⟩,q⟩
theorem yR.or {f:Value} {r r':List V->Hp->VK->Prop} (h:yR X f r) (h':yR X f r'):yR X f (fun xs H Q=>r xs H Q\/r' xs H Q):=by
 intro pins s Z H xs us Q I rs q
 rcases q with q | q
 ·exact h pins s Z H xs us Q I rs q
 ·exact h' pins s Z H xs us Q I rs q
theorem wF:yR X (.type "tuple") (fun xs H Q=>∃ p ys,xs=[.ref p]/\((SqL X.K H p ys/\∀ l,H l=none->Q (.ref l) (upd H l (.tup ys)))\/(SqT X.K H p ys/\Q (.ref p) H))):=by
 intro pins s Z H xs us Q I r h
 obtain ⟨p,ys,rfl,h⟩:=h
 obtain ⟨u,rfl,rx⟩:=qfX r
 cases rx
 rcases h with ⟨hq,q⟩ | ⟨hq,q⟩
 ·obtain ⟨its,r',pl,hz⟩:=I.list hq
  have hlen:=r'.length
  refine call_tuple_list pl.isList (fun h' kp => ?_) (by simp only [sT_]<;>omega)
  have I1:Inv X pins Z H { s with heap:=h' }:=I.kept (t':=s.toks) kp
  have I2:Inv X pins Z (upd H h'.objs.size (.tup ys)) { s with heap:=h'.push { cls := .type "tuple",data := .seq its.toArray } } :=
   I1.laid (t':=s.toks) (fun b o e=>Heap.get?_push_of_some _ e) (Nat.le_refl _) (show uh X.prog X.w _ _ _ (.tup ys) from ⟨hz,its,r',IsTup.new _ _⟩)
  exact ⟨.ref h'.objs.size,_,I2,rfl,q _ (I1.hok.fresh (Nat.le_refl _))⟩
 ·obtain ⟨its,r',pl,hz⟩:=I.tuple hq
  exact call_tuple_same pl ⟨.ref p,H,I,rfl,q⟩
def tyV (K:PySem.W.Frag) (T:String) (x:V) (H:Hp):Prop:=match x with
 | .str _=>T="str"
 | .int _=>T="int"
 | .ref p=>(T="list"/\∃ xs,SqL K H p xs)\/(T="tuple"/\∃ o,K.lookup p=some o/\o.cls = .type "tuple"/\o.dict=none) \/
   (T="dict"/\((∃ kvs,H p=some (.dK kvs))\/∃ kvs,H p=some (.dT kvs)))\/(T="set"/\∃ S n,H p=some (.set S n))
 | _=>False
theorem qmw {pins:List (Addr×Obj)} {Z:St} {H:Hp} {s:Shared} {T:String} {x:V} {v:Value} (I:Inv X pins Z H s) (r:jN x v) (ty:tyV X.K T x H) :
  s.TypeIs v T/\∀ a,v = .ref a->∃ ob,s.heap.get? a=some ob/\ob.dict=none:=by
 cases x with
 | str z =>
  obtain ⟨t,rfl⟩:=r
  cases (show T="str" from ty)
  exact ⟨typeIs_str s z t,fun _ e=>nomatch e⟩
 | int i =>
  obtain ⟨t,rfl⟩:=r
  cases (show T="int" from ty)
  exact ⟨typeIs_int s i t,fun _ e=>nomatch e⟩
 | ref p =>
  cases r
  rcases ty with ⟨rfl,xs,hq⟩ | ⟨rfl,o,hk,hc,hd⟩ | ⟨rfl,hk⟩ | ⟨rfl,S,n,hk⟩
  ·obtain ⟨its,_,pl,_⟩:=I.list hq
   refine ⟨pl.isList.typeIs,fun a e => ?_⟩
   cases e
   obtain ⟨o,n,e,c,hd,_⟩:=pl
   exact ⟨o,e,hd⟩
  ·refine ⟨⟨o,I.kIn p o hk,hc⟩,fun a e => ?_⟩
   cases e
   exact ⟨o,I.kIn _ o hk,hd⟩
  ·have z:∃ o,s.heap.get? p=some o/\o.ExactDict:=by
    rcases hk with ⟨kvs,hk⟩ | ⟨kvs,hk⟩
    ·obtain ⟨_,_,_,_,o,_,_,e,ex,_⟩:=I.hok p _ hk
     exact ⟨o,e,ex⟩
    ·obtain ⟨_,_,_,_,o,_,_,e,ex,_⟩:=I.hok p _ hk
     exact ⟨o,e,ex⟩
   obtain ⟨o,e,ex⟩:=z
   refine ⟨⟨o,e,ex.1⟩,fun a e2 => ?_⟩
   cases e2
   exact ⟨o,e,ex.2.1⟩
  ·obtain ⟨o,_,_,_,e,ex,_⟩:=I.hok p _ hk
   refine ⟨⟨o,e,ex.1⟩,fun a e2 => ?_⟩
   cases e2
   exact ⟨o,e,ex.2.1⟩
 | _=>exact False.elim ty
def tBM (K:PySem.W.Frag) (T:String) (r:V->List V->Hp->VK->Prop) (to:TE) (t:TA):TE:=fun Z H Q=>to Z H fun x H1=>tyV K T x H1/\t Z H1 fun xs H2=>r x xs H2 Q
variable {o e:Expr} {es:List Expr} {to:TE} {t:TA} {name:Str} {apos cpos:Pos} {T id:String} {r:V->List V->Hp->VK->Prop}
theorem qmx (pa:PlainAttrs T) (slot:Slot T name id) (hty:typeOf (.builtin id)=pure (.type "method_descriptor")) (hm:MtR X id r) (ho:PE X o to) (ha:PA X (e::es) t)
  (hbase:attributeBase o name X.env (eval o X.env)=eval o X.env:=by rfl)
  (hfew:((backTo cpos (starEach (e::es) X.env)).all (fun x => !x.1)&&(backToKw cpos (keywordEach [] X.env)).all (fun x=>x.1.isSome)
   && decide ((e::es).length+([]:List Keyword).length+(if ([]:List Keyword).isEmpty then 0 else 1)<30))=true:=by rfl)
  (hline:(apos.endLine==cpos.line)=true:=by rfl) (hs:starEach (e::es) X.env=(false,eval e X.env)::starEach es X.env:=by rfl) (hplain:(backTo cpos (starEach es X.env)).any (·.1)=false:=by rfl) :
  PE X (.Call (.Attribute o name apos) (e::es) [] cpos) (tBM X.K T r to t):=by
 intro pins s Z H Q I h
 refine wpAny_Call_method_late hbase hfew hline rfl (thn (ho pins s Z H _ I h) fun v s1 ⟨x,H1,I1,r1,ty,q1⟩ => ?_)
 obtain ⟨h1,h2⟩:=qmw I1 r1 ty
 refine ⟨T,id,pa,slot,hty,h1,h2,?_⟩
 have hA:=ha cpos pins s1 Z H1 _ I1 q1
 rw [hs] at hA |-
 refine Calls.callWith_builtin (by show (false||(backTo cpos (starEach es X.env)).any (·.1))=false;rw [hplain]<;>rfl) (Calls.evalArgs_plain ?_)
 exact thn hA fun us s2 ⟨vs,H2,I2,r2,q2⟩=>hm pins s2 Z H2 x vs v us Q I2 r1 r2 q2
/- xs.append(e),list.index on a module's tuple .. are MtR facts of 06m -/
end
end L2
namespace L2
open PySem PySem.Spec PyProof.Rows
def MtM (X:Cx) (id:String) (r:V->List V->Hp->VK->Prop):Prop :=
 ∀ (pins:List (Addr×Obj)) (s:Shared) (Z:St) (H:Hp) (x:V) (xs:List V) (v:Value) (us:List Value) (Q:VK),Inv X pins Z H s->jN x v->zb xs us->r x xs H Q ->
  wpAny (model X.prog X.w) X.A (call (.builtin id) (v::us)) (EP X pins Z Q) X.xe s
theorem zb.one:∀ {x:V} {us:List Value},zb [x] us->∃ u,us=[u]/\jN x u
 | _,_,.cons r .nil=>⟨_,rfl,r⟩
theorem zb.two:∀ {x y:V} {us:List Value},zb [x,y] us->∃ u v,us=[u,v]/\jN x u/\jN y v
 | _,_,_,.cons r (.cons q .nil)=>⟨_,_,rfl,r,q⟩
theorem zb.dropLast {xs:List V} {us:List Value} (h:zb xs us):zb xs.dropLast us.dropLast:=by
 induction h with
 | nil=>exact .nil
 | cons r t ih =>
  cases t with
  | nil=>exact .nil
  | cons q t'=>exact .cons r ih
theorem zb.eraseIdx:∀ {xs:List V} {us:List Value} (i:Nat),zb xs us->zb (xs.eraseIdx i) (us.eraseIdx i)
 | _,_,_,.nil => .nil
 | _,_,0,.cons _ t=>t
 | _,_,i+1,.cons r t => .cons r (zb.eraseIdx i t)
theorem zb.reverse {xs:List V} {us:List Value} (h:zb xs us):zb xs.reverse us.reverse:=by
 induction h with
 | nil=>exact .nil
 | cons r t ih=>rw [List.reverse_cons,List.reverse_cons];exact zb.append ih (.cons r .nil)
theorem zb.rep {xs:List V} {us:List Value} (h:zb xs us):∀ k:Nat,zb (List.replicate k xs).flatten (List.replicate k us).flatten
 | 0 => .nil
 | k+1=>by
  rw [rS_,rS_,List.flatten_cons,List.flatten_cons]
  exact zb.append h (zb.rep h k)
theorem qbf (its:List Value):∀ (k:Nat) (acc:List Value),
  List.foldl (fun x1 x2=>x1++x2) acc.toArray (List.replicate k its.toArray)=(acc++(List.replicate k its).flatten).toArray
 | 0,acc=>by simp
 | k+1,acc=>by
  have e:acc.toArray++its.toArray=(acc++its).toArray:=by simp
  have e2:(acc++its)++(List.replicate k its).flatten=acc++(List.replicate (k+1) its).flatten:=by
   rw [rS_,List.flatten_cons,aA_]
  rw [<- e2,<- qbf its k (acc++its),<- e,rS_,fo_]
section
variable {X:Cx} {pins:List (Addr×Obj)} {Z:St} {H:Hp} {s:Shared} {l b:Addr} {xs ys zs:List V}
theorem Inv.lset {its its':List Value} {n:Nat} {f:Array Value->Array Value} {t':Nat} (I:Inv X pins Z H s) (hH:H l=some (.lst xs))
  (e:s.heap.get? l=some { cls := .type "list",data := .seq its.toArray n }) (hf:f its.toArray=its'.toArray) (hv:zb ys its') (hz:ys.length<=sizeLine) :
  Inv X pins Z (upd H l (.lst ys)) { s with heap:=s.heap.update l (Obj.mapSeq f),toks:=t' }:=by
 have q:=PySem.IsL.update e f
 rw [hf] at q
 refine I.write (x:=l) (e:=l) (by rw [hH];exact trivial) (.inl rfl) (fun b' u hb hu=>(Heap.get?_update_other s.heap (Obj.mapSeq f) (Ne.symm hb)).trans hu) ⟨_,q⟩ ?_
 exact ⟨hz,its',_,hv,q⟩
theorem Inv.lnew {its:List Value} {t':Nat} (I:Inv X pins Z H s) (hv:zb ys its) (hz:ys.length<=sizeLine) :
  Inv X pins Z (upd H s.heap.objs.size (.lst ys)) { s with heap:=s.heap.push { cls := .type "list",data := .seq its.toArray },toks:=t' } :=
 I.laid (fun _ _ q=>Heap.get?_push_of_some _ q) (Nat.le_refl _) ⟨hz,its,0,hv,Heap.get?_push_size _ rfl⟩
theorem Inv.fresh (I:Inv X pins Z H s):H s.heap.objs.size=none:=I.hok.fresh (Nat.le_refl _)
theorem Inv.lstM (I:Inv X pins Z H s) (hH:H l=some (.lst xs)):xs.length<=sizeLine/\∃ (its:List Value) (n:Nat),zb xs its/\xs.length=its.length/\s.heap.get? l=some { cls := .type "list",data := .seq its.toArray n }:=by
 obtain ⟨z,its,n,r,e⟩:=I.hok l _ hH
 exact ⟨z,its,n,r,r.length,e⟩
theorem qfe {n:Nat} (h:n<=sizeLine):Builtin.List.listTooLong n=false:=by
 unfold Builtin.List.listTooLong
 exact decide_eq_false (by omega)
end
section
variable {X:Cx}
def qkx:V->List V->Hp->VK->Prop:=fun x vs H Q=>∃ l xs y,x = .ref l/\vs=[y]/\H l=some (.lst xs)/\xs.length<sizeLine/\Q .non (upd H l (.lst (xs++[y])))
theorem qbg:MtM X "list.append" qkx:=by
 intro pins s Z H x vs v us Q I rx rv h
 obtain ⟨l,xs,y,rfl,rfl,hH,hz,q⟩:=h
 cases rx
 obtain ⟨u,rfl,ru⟩:=rv.one
 obtain ⟨z,its,n,r,hl,e⟩:=I.lstM hH
 refine call_meets F.slot_list_append ⟨_,e,rfl⟩ F.entry_list_append (F.args_list_append_2 _ _) (PySem.list_append l its.toArray n u (by rw [sT_];omega)) ⟨e,?_⟩
 refine ⟨.non,_,I.lset (its':=its++[u]) hH e (by simp) (r.append (.cons ru .nil)) ?_,rfl,q⟩
 rw [lA_,List.length_singleton]
 omega
def qky:V->List V->Hp->VK->Prop:=fun x vs H Q=>∃ l b xs zs,x = .ref l/\vs=[.ref b]/\H l=some (.lst xs)/\H b=some (.lst zs)/\xs.length+zs.length<=sizeLine/\Q .non (upd H l (.lst (xs++zs)))
theorem qgQ:MtM X "list.extend" qky:=by
 intro pins s Z H x vs v us Q I rx rv h
 obtain ⟨l,b,xs,zs,rfl,rfl,hH,hB,hz,q⟩:=h
 cases rx
 obtain ⟨u,rfl,ru⟩:=rv.one
 cases ru
 obtain ⟨z,its,n,r,hl,e⟩:=I.lstM hH
 obtain ⟨z2,its2,n2,r2,hl2,e2⟩:=I.lstM hB
 have hsz:its.toArray.size+its2.toArray.size<=sizeLine:=by rw [sT_,sT_];omega
 have hlong:¬ (!its.toArray.isEmpty&&Builtin.List.listTooLong (its.toArray.size+its2.toArray.size))=true:=by
  rw [qfe hsz,Bool.and_false]
  exact Bool.false_ne_true
 refine call_meets F.slot_list_extend ⟨_,e,rfl⟩ F.entry_list_extend (F.args_list_extend_2 _ _)
  (AutoSeq1.list_extend_list_list_0 l its.toArray n b its2.toArray n2 hlong (by rw [sT_];omega) (by omega)) ⟨e,e2,?_⟩
 refine ⟨.non,_,I.lset (its':=its++its2) hH e (by simp) (r.append r2) ?_,rfl,q⟩
 rw [lA_]
 omega
def qo4:R2:=fun x y H Q=>∃ l b xs zs,x = .ref l/\y = .ref b/\H l=some (.lst xs)/\H b=some (.lst zs)/\xs.length+zs.length<=sizeLine/\∀ p,H p=none->Q (.ref p) (upd H p (.lst (xs++zs)))
theorem qmy:OpR X (binaryOp .Add) qo4:=by
 intro pins s Z H x y v u Q I rx ry h
 obtain ⟨l,b,xs,zs,rfl,rfl,hH,hB,hz,q⟩:=h
 cases rx
 cases ry
 obtain ⟨z,its,n,r,hl,e⟩:=I.lstM hH
 obtain ⟨z2,its2,n2,r2,hl2,e2⟩:=I.lstM hB
 refine PySem.P.add_list e e2 ?_ (by rw [sT_,sT_];omega)
 have ea:its.toArray++its2.toArray=(its++its2).toArray:=by simp
 rw [ea]
 exact ⟨.ref _,_,I.lnew (t':=s.toks) (r.append r2) (by rw [lA_];omega),rfl,q _ I.fresh⟩
def qo5:R2:=fun x y H Q=>∃ l k xs,x = .ref l/\y = .int k/\H l=some (.lst xs) /\ -(2 ^ 63)<=k/\k<2 ^ 63/\xs.length*k.toNat<=sizeLine /\
 ∀ p,H p=none->Q (.ref p) (upd H p (.lst (List.replicate k.toNat xs).flatten))
theorem qeE {α:Type} (xs:List α) (k:Nat):(List.replicate k xs).flatten.length=k*xs.length:=by
 induction k with
 | zero=>simp
 | succ k ih=>rw [rS_,List.flatten_cons,lA_,ih,Nat.succ_mul,Nat.add_comm]
theorem qmz:OpR X (binaryOp .Mult) qo5:=by
 intro pins s Z H x y v u Q I rx ry h
 obtain ⟨l,k,xs,rfl,rfl,hH,h1,h2,hz,q⟩:=h
 cases rx
 obtain ⟨t,rfl⟩:=ry
 obtain ⟨z,its,n,r,hl,e⟩:=I.lstM hH
 have hlen:its.toArray.size*k.toNat<=sizeLine:=by rw [sT_,<- hl];exact hz
 have hcap:¬ its.toArray.size*k.toNat>(2 ^ 63-1)/8:=by
  have:(sizeLine:Nat)<=(2 ^ 63-1)/8:=by decide
  omega
 have hfit:¬ (!Builtin.List.listFitsIndex k)=true:=by
  rw [fitsIndex_both h1 h2]
  exact Bool.false_ne_true
 have hlong:¬ Builtin.List.listTooLong (its.toArray.size*k.toNat)=true:=by
  rw [qfe hlen]
  exact Bool.false_ne_true
 have hnew:List.foldl (fun x1 x2=>x1++x2) #[] (List.replicate (if its.toArray.isEmpty=true then 0 else k.toNat) its.toArray)=(List.replicate k.toNat its).flatten.toArray:=by
  have f0:∀ m:Nat,List.foldl (fun x1 x2=>x1++x2) #[] (List.replicate m its.toArray)=(List.replicate m its).flatten.toArray:=fun m=>by
   have:=qbf its m []
   rw [List.nil_append] at this
   exact this
  rw [f0]
  cases its with
  | nil=>simp
  | cons a r'=>rw [if_neg (by simp)]
 refine wpAny_binaryOp_repeat_ref (T:="list") (U:="int") (by decide) ⟨_,e,rfl⟩ (fun s'=>typeIs_int s' k t) noFill_list_mul F.fills_int_mul F.slot_int_rmul repeat_list F.slot_int_index.lookup
  (call_meets F.slot_int_rmul (typeIs_int s k t) F.entry_int_rmul (F.args_int_rmul_2 _ _) (int___rmul___int_list k t l its.toArray n)
   ⟨e,rfl,⟨_,e,rfl⟩,call_meets F.slot_list_mul ⟨_,e,rfl⟩ F.entry_list_mul (F.args_list_mul_2 _ _) (AutoListH.list___mul___list_int_3 l its.toArray n k t hfit hcap hlong) ⟨e,?_⟩⟩)
 rw [hnew]
 exact ⟨.ref _,_,I.lnew (t':=s.toks) (r.rep k.toNat) (by rw [qeE,Nat.mul_comm];exact hz),rfl,q _ I.fresh⟩
end
section
variable {prog:Program} {w:World} {A:Around} {E:Value->Shared->Prop} {s:Shared}
set_option maxRecDepth 100000 in
end
section
variable {X:Cx}
end
end L2
namespace Att
open PySem PySem.W PySem.Calls PyProof.Rows
theorem qbh {P:Params} {h:Heap}:∀ (ns:List Int) (vs:List Value),WellAll P h vs (ns.map WData.int)->IntsAre vs ns:=by
 intro ns
 induction ns with
 | nil =>
  intro vs w
  rw [List.map_nil] at w
  cases w
  exact .nil
 | cons n ns ih =>
  intro vs w
  rw [mC_] at w
  cases w with
  | cons a b =>
   cases a
   exact .cons _ _ (ih _ b)
theorem qgR {l:OpenLaw} {n:Nat} (hn:l.most=some n) {P:Params} {h:Heap} {args:List WData} {vals:List Value}
  (hpre:l.row.toRowW.claim.pre args=true) (hwl:WellAll P h vals args) :
  ∃ a vs ns,vals=[Value.ref a]/\args=[WData.list (ns.map WData.int)]/\h.get? a=some { cls := .type "list",data := .seq vs.toArray }/\IntsAre vs ns/\ns.length<=n:=by
 have hsh:WShape.hasAll [] args [.list .int]=true:=(pre_splitW hpre).1
 have hc:l.pre.holds [] { args:=args }=true:=(pre_splitW hpre).2
 obtain ⟨d,r,rfl,h1,h2⟩:=hasAllW_cons hsh
 obtain rfl:=hasAllW_nil h2
 obtain ⟨xs,rfl,h3⟩:=hasW_list h1
 obtain ⟨ns,rfl⟩:=items_int h3
 have hlen:ns.length<=n:=by
  unfold OpenLaw.pre at hc
  have h4:(WTm.not (.lt (.lit (.int (n:Int))) (.len (.arg 0)))).holds [] { args:=[.list (ns.map .int)] }=true:=by
   have h4:=(holds_andW hc).1
   rw [hn] at h4
   exact h4
  have h5:=condW_of h4 (w_not (w_lt w_lit (w_len_list (w_arg rfl))))
  rw [lM_] at h5
  refine Nat.le_of_not_lt fun q => ?_
  have q':(n:Int)<((ns.length:Nat):Int):=by omega
  first
   | (rw [decide_eq_true q'] at h5;exact absurd h5 (by decide))
   | (simp at h5;omega)
 cases hwl with
 | cons w1 w2 =>
  cases w2
  cases w1 with
  | list ho hall=>exact ⟨_,_,ns,rfl,rfl,ho,qbh ns _ hall,hlen⟩
theorem qgS (l:OpenLaw) (args:List WData):l.row.toRowW.claim.post args (.bool true) args=true :=
 postW_of (r:=l.row.toRowW) (X:=(true==true))
  (show WShape.has [] (.bool true) .bool=true by first | rfl | decide | simp [WShape.has,WShape.arms,WShape.armsAll])
  (show (WTm.eq .res (.lit (.bool true))).value [] { args:=args,res:=some (.bool true),after:=args }=some (.bool (true==true)) from w_eq_bool (w_res rfl) w_lit) rfl
theorem attach_call {l:OpenLaw} {n:Nat} {q:Program} {loose:List Str} {XP:(Str->Option Value)->Heap->Prop} {YP:World->Heap->Prop} {d:DefRec}
  (hn:l.most=some n) (hdf:d.params.defaults=[])
  (call:∀ (w:World) (s₀ sQ:Shared) (mg mb:Str->Option Value) (fa:Addr) (o:Obj) (pm cd doc:Value) (a:Addr) (vs:List Value) (ns:List Int),
   Ground q loose [] XP w s₀ mg mb sQ.heap->YP w sQ.heap ->
   sQ.heap.get? fa=some o->o.data = .func (docDef d.name d.params d.body d.scope pm cd doc)->sQ.heap.CodeRec cd d.name->mg d.name=some (.ref fa) ->
   sQ.heap.get? a=some { cls := .type "list",data := .seq vs.toArray }->IntsAre vs ns->ns.length<=n->sQ.gens = #[] ->
   codeAny (model l.prog w) callerA (.call (.ref fa) ⟨[.ref a],[]⟩) (fun r s'=>r = .ok (.ret (.bool true))/\OldK sQ.heap s'.heap/\s'.os=sQ.os/\AllBare s'.gens) sQ) :
  WalkO q loose XP YP l.row.toRowW d [] (fun f vs=>PySem.call f vs):=by
 intro w s₀ sQ mg mb G Y fa o pm cd doc dV kV ho hd hcd hD hmg hg args vals as hpre hlay hrd hwl hlo
 obtain rfl:dV = .none:=Dflts.none hD hdf
 obtain rfl:kV = .none:=Dflts.noKw hD
 obtain ⟨a,vs,ns,rfl,rfl,hobj,hints,hlen⟩:=qgR hn hpre hwl
 refine enter_call (codeAny_mono (call w s₀ sQ mg mb fa o pm cd doc a vs ns G Y ho (fd_plain hd) hcd hmg hobj hints hlen hg) fun r s' hq => ?_)
 obtain ⟨rfl,h2,h3,h4⟩:=hq
 exact ⟨.inl ⟨.bool true,.bool true,[],rfl,fun _=>rfl,.bool true,qgS l _,fun _=>⟨List.Pairwise.nil,fun _ hm=>(nomatch hm)⟩⟩,h2,h3,h4⟩
section
variable {prog:Program} {w:World} {A:Around} {E:Value->Shared->Prop} {s:Shared} {K:Frag}
end
end Att
namespace L2
open PySem PySem.Spec PyProof.Rows
theorem qdL:∀ {vs:List Value} {ns:List Int},IntsAre vs ns->zb (ns.map V.int) vs
 | _,_,.nil => .nil
 | _,_,.cons n t h => .cons ⟨t,rfl⟩ (qdL h)
def qnS (H:Hp):Prop:=∀ b,H b=none\/(∃ o xs,H b=some (.frz o (.lst xs)))\/∃ pos q,H b=some (.lam pos q)
def qnT:Option (Addr×Addr×Pos×Str)->Hp
 | some (_,Pt,pos,q)=>fun b=>if b=Pt then some (.lam pos q) else none
 | none=>fun _=>none
theorem qiv {P:Program} {w:World} {K:PySem.W.Frag} {mg mb:Str->Option Value} {CX:CXT} {k:Nat} {fa a:Addr} {fd:FuncData} {x:Str} {sp:Sp} {sQ:Shared} {vs:List Value} {ns:List Int} {lm:Option (Addr×Addr×Pos×Str)}
  (KX:K.In sQ.heap) (hns:sQ.heap.Ns mainGlobals mg) (hb:sQ.heap.Ns builtinsNs mb) (hbb:∀ x:Str,x≠"__name__"->mb x=bootBuiltins x) (hlim:sQ.heap.NoLimit)
  (hbm:∃ bm ob,mg "__builtins__"=some (.ref bm)/\bm≠builtinsNs/\sQ.heap.get? bm=some ob/\ob.cls = .type "module"/\ob.dict=some builtinsNs/\ob.data = .plain)
  (hlm:∀ c Pt pos q,lm=some (c,Pt,pos,q)->PySem.W.CodeHd sQ.heap c Pt/\sQ.heap.get? Pt=some (PySem.W.tabObj #[])/\K.lookup Pt=none)
  (hg:sQ.gens = #[])
  (ha:sQ.heap.get? a=some { cls := .type "list",data := .seq vs.toArray }) (hi:IntsAre vs ns) (hl:ns.length<=sizeLine) (hr:uD k callerA)
  (F:∀ base:Heap,K.In base->base.Ns mainGlobals mg->qcc P w K mg base CX k fa fd [x] sp) (hbind:∀ (s:Shared) (u:Value),BindsTo s fd ⟨[u],[]⟩ [(x,u)])
  (hsp:∀ H:Hp,qnS H->(∀ c Pt pos q,lm=some (c,Pt,pos,q)->H Pt=some (.lam pos q))->SqL K H a (ns.map V.int)->sp [.ref a] H (fun v _=>v = .bl true) fun _ _ _=>False)
  (hCX:∀ H e s',CX [] H sQ (fun _ _ _=>False) e s'->False) :
  codeAny (model P w) callerA (.call (.ref fa) ⟨[.ref a],[]⟩) (fun r s'=>r = .ok (.ret (.bool true))/\OldK sQ.heap s'.heap/\s'.os=sQ.os/\AllBare s'.gens) sQ:=by
 have rv:=qdL hi
 have lenV:=hi.length
 have core:∀ H:Hp,qnS H->(∀ c Pt pos q,lm=some (c,Pt,pos,q)->H Pt=some (.lam pos q))->SqL K H a (ns.map V.int)->HOk P w H sQ.heap ->
   (∀ b u,H b=some u->K.lookup b=none/\((∃ o xs,u = .frz o (.lst xs))\/∃ c pos q,lm=some (c,b,pos,q)/\u = .lam pos q)) ->
   codeAny (model P w) callerA (.call (.ref fa) ⟨[.ref a],[]⟩) (fun r s'=>r = .ok (.ret (.bool true))/\OldK sQ.heap s'.heap/\s'.os=sQ.os/\AllBare s'.gens) sQ:=by
  intro H hO hT hS hok hA
  have base_of:∀ {b:Addr} {o:Obj},sQ.heap.get? b=some o->H b=none->(qif sQ.heap H).get? b=some o:=fun e n=>qig e n
  have noD:∀ {b:Addr} {o:Obj},sQ.heap.get? b=some o->(∀ its n,o.data ≠ .seq its n)->(∀ f,o.data ≠ .fields f)->H b=none:=fun {b o} e d1 d2=>by
   cases q:H b with
   | none=>rfl
   | some u =>
    rcases (hA b u q).2 with ⟨ob,xs,rfl⟩ | ⟨c,pos,q',hl2,rfl⟩
    ·obtain ⟨e1,_,its,n,_,e2⟩:=hok b _ q
     rw [e] at e2;cases e2
     exact (d1 _ _ rfl).elim
    ·have e2:=(hlm _ _ _ _ hl2).2.1
     rw [e] at e2;cases e2
     exact (d2 _ rfl).elim
  have nsK:∀ {b:Addr} {m:Str->Option Value},sQ.heap.Ns b m->(qif sQ.heap H).Ns b m:=fun {b m} ⟨o,es,ep,e,d,r⟩=>⟨o,es,ep,base_of e (noD e (fun _ _ z=>by rw [d] at z;cases z) fun _ z=>by rw [d] at z;cases z),d,r⟩
  have hKb:K.In (qif sQ.heap H):=fun b o e=>base_of (KX b o e) (by
   cases q:H b with
   | none=>rfl
   | some u=>rw [(hA b u q).1] at e;cases e)
  have hM:Mod K mg (qif sQ.heap H):=⟨hKb,nsK hns,⟨mb,nsK hb,hbb⟩,let ⟨mc,h1,h2⟩:=hlim;⟨mc,nsK h1,h2⟩,
   let ⟨bm,ob,b1,b2,b3,b4,b5,b6⟩:=hbm;⟨bm,ob,b1,b2,base_of b3 (noD b3 (fun _ _ z=>by rw [b6] at z;cases z) fun _ z=>by rw [b6] at z;cases z),b4,b5,b6⟩⟩
  have e0:qip P w K mg (qif sQ.heap H) callerA [] sQ H:=⟨rfl,hM,fun b o e=>qkc e,Nat.le_of_eq (qgx _ _),trivial,fun b hb=>absurd (show b∈([]:List Addr) from hb) (by simp),hok,.of_eq hg⟩
  refine codeAny_mono ((F _ hKb (nsK hns)).run callerA [] sQ H ⟨[.ref a],[]⟩ [.ref a] [.ref a] _ _ hr e0 (hbind sQ (.ref a)) (.cons rfl .nil) (hsp H hO hT hS)) fun r s' h => ?_
  cases r with
  | error e=>exact (hCX H e s' h).elim
  | ok fl =>
   cases fl with
   | next=>exact False.elim h
   | brk=>exact False.elim h
   | cont=>exact False.elim h
   | ret u =>
    obtain ⟨v,H',os,bare,un,hok',r',q⟩:=h
    have q':v = .bl true:=q
    subst q'
    obtain rfl:u=Value.bool true:=r'
    have asIt:∀ b o,sQ.heap.get? b=some o->asItWas sQ.heap s'.heap b o:=fun b o e=>by
     cases q:H b with
     | none=>exact .inl (un.keep b o e q (by intro z;exact absurd (show b∈([]:List Addr) from z) (by simp)) (by simp))
     | some u =>
      rcases (hA b u q).2 with ⟨ob,xs,rfl⟩ | ⟨c,pos,q2,hl2,rfl⟩
      ·have z2:=un.frzs b ob _ q
       obtain ⟨e1,_⟩:=hok b _ q
       obtain ⟨e2,_⟩:=hok' b _ z2
       rw [e] at e1;cases e1
       exact .inl e2
      ·obtain ⟨hc,e2,_⟩:=hlm _ _ _ _ hl2
       rw [e] at e2;cases e2
       rcases hok' b _ (un.tbls b pos q2 q) with z | ⟨c',oc,vs',t,_,_,_,z⟩
       ·exact .inl z
       ·exact .inr (.inl ⟨(hc.tab e).isCodeTable,rfl,#[],_,rfl,by rw [Array.empty_append];exact z⟩)
    exact ⟨rfl,⟨asIt,fun b o e=>un.there b o e (by simp)⟩,os,bare⟩
 let T:Hp:=qnT lm
 have hTb:∀ b u,T b=some u->∃ c pos q,lm=some (c,b,pos,q)/\u = .lam pos q:=fun b u z=>by
  cases hq:lm with
  | none=>simp only [T,hq,qnT] at z;cases z
  | some p =>
   obtain ⟨c,Pt,pos,q⟩:=p
   simp only [T,hq,qnT] at z
   by_cases hbp:b=Pt
   ·rw [if_pos hbp] at z;cases z
    exact ⟨c,pos,q,by rw [hbp],rfl⟩
   ·rw [if_neg hbp] at z;cases z
 have hTa:T a=none:=by
  cases q:T a with
  | none=>rfl
  | some u =>
   obtain ⟨c,pos,q2,hl2,_⟩:=hTb a u q
   have:=(hlm _ _ _ _ hl2).2.1
   rw [ha] at this;cases this
 have hTt:∀ c Pt pos q,lm=some (c,Pt,pos,q)->T Pt=some (.lam pos q):=fun c Pt pos q e=>by
  simp only [T,e,qnT,if_true]
 cases hk:K.lookup a with
 | some o =>
  have e:=KX a o hk
  rw [ha] at e
  cases e
  refine core T (fun b => ?_) hTt (.inr ⟨_,vs.toArray,_,hk,rfl,rfl,rfl,by rw [sT_,lenV];exact hl,by simpa using rv⟩) (fun b u z => ?_) (fun b u z => ?_)
  ·cases q:T b with
   | none=>exact .inl rfl
   | some u=>obtain ⟨_,pos,q2,_,rfl⟩:=hTb b u q;exact .inr (.inr ⟨pos,q2,rfl⟩)
  ·obtain ⟨c,pos,q2,hl2,rfl⟩:=hTb b u z
   exact .inl (hlm _ _ _ _ hl2).2.1
  ·obtain ⟨c,pos,q2,hl2,rfl⟩:=hTb b u z
   exact ⟨(hlm _ _ _ _ hl2).2.2,.inr ⟨c,pos,q2,hl2,rfl⟩⟩
 | none =>
  refine core (upd T a (.frz { cls := .type "list",data := .seq vs.toArray } (.lst (ns.map V.int)))) (fun b => ?_) (fun c Pt pos q e => ?_) (.inl (.inr ⟨{ cls := .type "list",data := .seq vs.toArray },qA⟩)) (fun b u z => ?_) (fun b u z => ?_)
  ·by_cases hb:b=a
   ·subst hb;exact .inr (.inl ⟨_,_,qA⟩)
   ·rw [qx hb]
    cases q:T b with
    | none=>exact .inl rfl
    | some u=>obtain ⟨_,pos,q2,_,rfl⟩:=hTb b u q;exact .inr (.inr ⟨pos,q2,rfl⟩)
  ·have h1:=hTt c Pt pos q e
   rw [qx (qK h1 hTa)]
   exact h1
  ·by_cases hb:b=a
   ·subst hb
    rw [qA] at z;cases z
    exact ⟨ha,by rw [lM_];exact hl,vs,_,rv,ha⟩
   ·rw [qx hb] at z
    obtain ⟨c,pos,q2,hl2,rfl⟩:=hTb b u z
    exact .inl (hlm _ _ _ _ hl2).2.1
  ·by_cases hb:b=a
   ·subst hb
    rw [qA] at z;cases z
    exact ⟨hk,.inl ⟨_,_,rfl⟩⟩
   ·rw [qx hb] at z
    obtain ⟨c,pos,q2,hl2,rfl⟩:=hTb b u z
    exact ⟨(hlm _ _ _ _ hl2).2.2,.inr ⟨c,pos,q2,hl2,rfl⟩⟩
end L2
namespace L2
open PySem PySem.Spec PyProof.Rows
end L2
/- THE LAST THEOREM (shape;LID,My.* are yours):
   My.Adr: a structure of the addresses that your layer names (classes,functions);My.Txt K t: a structure (Prop) of the equations over K;
   My.txt_mk:{K} {implicit addresses ..} (e1:nsIn K mainGlobals "law"=some (some (.ref f))) (e2:K.lookup f=some ⟨oc,od,.func (fnOf "law" "law" params body scope dV kV doc pm an cdv ct),sl⟩) (e3:codeIn K cdv "law"=true) .. : ∃ t,My.Txt K t
set_option maxRecDepth 100000 in
set_option maxHeartbeats 0 in
theorem PySem.Challenge.cw_LID_holds : PySem.Challenge.rw_LID.Holds := by
 w_on;o_law;k_head;(case hw=>w_witness2)
 k_fill
 refine L2.walk_of (l:=PySem.Challenge.rw_LID) (n:=63) (k:=40) (x:="script") (CX:=fun w => ..) (sp:=fun _=>My.sp_law) rfl (by decide) rfl ⟨rfl,by decide,by decide⟩ (fun w h Y=>PySem.W.kIn_of Y) ?F ?S ?C
 case F =>
  intro w mg fa h KX G hmg
  have T:∃ t,My.Txt (L2.KOf KX) t:=by
   dsimp only [L2.KOf]                          -- K must stand as «<heap const> w.params» for k_is
   refine' My.txt_mk ?e1 ?e2 ?e3 ..
   (case e1=>PySem.W.k_is)                    -- in the order: a name->its address->its object->its parts
   (case e2=>PySem.W.k_is)
   ..
  obtain ⟨t,T⟩:=T
  have e0:=hmg.symm.trans (PySem.W.mg_of KX G T.law)
  cases e0                                       -- fa is the law's own address
  exact ⟨_,fun s u => .of_eq rfl,fun base kb nb=>My.law_fn T kb nb⟩     -- if «.of_eq rfl» comes too early: refine' ⟨_,?b,fun base kb nb=>My.law_fn T kb nb⟩;exact fun s u => .of_eq rfl
 case S=>exact fun w H a ns hl hO hS => ..
 case C=>exact ..
(the tactic k_is has no namespace: write k_is) -/
namespace L2
open PySem PySem.Spec PyProof.Rows
def qq (s:Stmt):Arguments:=match s with
 | .FunctionDef _ a _ _ _ _ _ _ _ _=>a
 | _=>{ posonlyargs:=[],args:=[],vararg:=none,kwonlyargs:=[],kw_defaults:=[],kwarg:=none,defaults:=[] }
def qo (s:Stmt):List Stmt:=match s with
 | .FunctionDef _ _ b _ _ _ _ _ _ _=>b
 | _=>[]
def qd (s:Stmt):Scope:=match s with
 | .FunctionDef _ _ _ _ _ _ sc _ _ _=>sc
 | _=>{ kind := .function,names:=[],isGenerator:=false,isCoroutine:=false }
abbrev CX0:CXT:=fun _ _ _ _ _ _=>False
abbrev E0:XK:=fun _ _ _=>False
theorem qkz {X:Cx}:qcd CX0 X E0:=fun _ _ _ _ _ _ _ h=>h.elim
structure Fun (K:PySem.W.Frag) (x qual:Str) (st:Stmt) (f:Addr) (fd:FuncData):Prop where
 ex:∃ (oc:Value) (od:Option Addr) (kV doc pm:Value) (an:Option Addr) (cdv ct:Value) (osl:Array (Option Value)),
  fd=PySem.W.fnOf x qual (qq st) (qo st) (qd st) .none kV doc pm an cdv ct/\K.lookup f=some ⟨oc,od,.func fd,osl⟩/\PySem.W.codeIn K cdv qual=true
 kp:PySem.W.keepIn K (.ref f)=true
section
variable {P:Program} {w:World} {K:PySem.W.Frag} {mg:Str->Option Value} {base:Heap}
theorem Fun.ok {x qual:Str} {st:Stmt} {f:Addr} {fd:FuncData} {N ps:List Str} {k:Nat} {sp:Sp} (F:Fun K x qual st f fd) (S:qp N ps (qd st)) (len:∀ vs H Q E,sp vs H Q E->vs.length=ps.length)
  (hbody:∀ (cdv:Value) (A:Around) (outer:List Env) (s:Shared) (H:Hp) (vs:List V) (Q:VK) (E:XK),uD k (A.deeper (envOfC qual (qd st) s.heap.objs.size f cdv))->sp vs H Q E ->
   ∃ t,PSs (qjz CX0 P w K mg base N qual (qd st) f cdv A outer s H E).nox (qo st) t/\t { nx:=fun _ H'=>Q .non H',rt:=Q } (jY N vs) H):qcc P w K mg base CX0 (k+1) f fd ps sp:=by
 obtain ⟨oc,od,kV,doc,pm,an,cdv,ct,osl,rfl,lk,hcd⟩:=F.ex
 refine qom lk hcd S len fun A outer s H vs Q E hr hsp => ?_
 obtain ⟨t,h,q⟩:=hbody cdv A outer s H vs Q E hr hsp
 exact ⟨t,h.nox,q⟩
theorem Fun.binds {x qual:Str} {st:Stmt} {f:Addr} {fd:FuncData} {ps:List Str} (F:Fun K x qual st f fd)
  (h:∀ (kV doc pm:Value) (an:Option Addr) (cdv ct:Value) (us:List Value),us.length=ps.length->bindArgs (PySem.W.fnOf x qual (qq st) (qo st) (qd st) .none kV doc pm an cdv ct) ⟨us,[]⟩=pure (ps.zip us)):vQ K fd ps []:=by
 obtain ⟨oc,od,kV,doc,pm,an,cdv,ct,osl,rfl,lk,hcd⟩:=F.ex
 exact .all (h kV doc pm an cdv ct)
theorem qF {x qual:Str} {st:Stmt} {f:Addr} {oc:Value} {od an:Option Addr} {osl:Array (Option Value)} {kV doc pm cdv ct:Value} (l:K.lookup f=some ⟨oc,od,.func (PySem.W.fnOf x qual (qq st) (qo st) (qd st) .none kV doc pm an cdv ct),osl⟩)
  (c:PySem.W.codeIn K cdv qual=true) (k:PySem.W.keepIn K (.ref f)=true):Fun K x qual st f (PySem.W.fnOf x qual (qq st) (qo st) (qd st) .none kV doc pm an cdv ct):=⟨⟨oc,od,kV,doc,pm,an,cdv,ct,osl,rfl,l,c⟩,k⟩
end
section
variable {X:Cx}
end
theorem qlP {A B:Prop} (h:B):if false=true then A else B:=by
 rw [if_neg Bool.false_ne_true]
 exact h
theorem qlQ {A B:Prop} (h:A):if true=true then A else B:=by
 rw [if_pos rfl]
 exact h
def ji (H H':Hp):Prop:=∀ b o,H b=some o->H' b=some o
theorem ji.refl (H:Hp):ji H H:=fun _ _ h=>h
theorem ji.trans {H H1 H2:Hp} (a:ji H H1) (b:ji H1 H2):ji H H2:=fun c o h=>b c o (a c o h)
theorem ji.free {H H':Hp} (e:ji H H') {l:Addr} (h:H' l=Option.none):H l=Option.none:=by
 cases q:H l with
 | none=>rfl
 | some o =>
  rw [e l o q] at h
  cases h
end L2
namespace L2.Sk
open PySem PySem.Spec PyProof.Rows
inductive D where
 | non | bl (b:Bool) | int (i:Int) | str (x:Str) | tup (xs:List D) | lst (xs:List D) | dic (kvs:List (Key×Int)) | fz (ns:List Int)
 | exc (n:Str)
abbrev Fr0:=PySem.W.Frag
def qmA:FuncBody->Option Pos
 | .stmts [_,_,.Return (some (.Call _ _ [⟨_,.Lambda _ _ _ pos,_⟩] _)) _]=>some pos
 | _=>none
def lamOf (K:Fr0):Option (Addr×Addr×Pos):=match PySem.W.tabIn K "dearest_first",PySem.W.nsIn K mainGlobals "dearest_first" with
 | some (c,P),some (some (.ref f))=>(match K.lookup f with
  | some ⟨_,_,.func fd,_⟩=>(qmA fd.body).map fun pos=>(c,P,pos)
  | _=>none)
 | _,_=>none
abbrev qor:Str:="dearest_first.<locals>.<lambda>"
def qo6 (K:Fr0) (H:Hp) (Io:Addr->Prop):Prop:=∀ c P pos,lamOf K=some (c,P,pos)->H P=some (.lam pos qor)/\¬ Io P
abbrev qgT (K:Fr0) (H:Hp):Prop:=qo6 K H fun _=>False
structure XK6 (K:Fr0) (D:Addr):Prop where
 ga:PySem.W.findIn K (.ref D) "__getattribute__"=some (some (.builtin "BaseException.__getattribute__"))
 gt:PySem.W.findIn K (.ref D) "__getattr__"=some none
 cl:PySem.W.findIn K (.ref D) "__class__"=some (some (.builtin "object.__class__"))
 ob:PySem.W.mroIn K D (.type "object")=some true
 be:PySem.W.subIn K (.ref D) (.type "BaseException")=some true
 is:(PySem.W.clsIn K D).isSome=true
 no:∀ T∈["int","bool","str","tuple","list","dict"],PySem.W.kitOne K (.ref D) (.type T)=some false
def qbi (K:Fr0) (n:Str):Option Addr:=match PySem.W.nsIn K mainGlobals n with
 | some (some (.ref C))=>some C
 | _=>none
def clR (K:Fr0) (RN:List Str) (n:Str):Option Addr:=if RN.contains n then qbi K n else none
def qpM (K:Fr0) (H:Hp) (a:Addr) (n:Str):Prop:=∃ C,qbi K n=some C/\XK6 K C/\∃ o vs,H a=some (.frz o (.own a))/\o.cls = .ref C/\o.data = .fields vs
def TupAt (K:Fr0) (H:Hp) (a:Addr) (xs:List V):Prop :=
 H a=some (.tup xs)\/∃ (o:Obj) (its:Array Value) (n:Nat),K.lookup a=some o/\o.cls = .type "tuple"/\o.data = .seq its n/\its.size<=sizeLine/\zb xs its.toList
def qmB (K:Fr0) (H:Hp) (a:Addr) (xs:List V):Prop :=
 (∃ o,H a=some (.frz o (.lst xs)))\/∃ (o:Obj) (its:Array Value) (n:Nat),K.lookup a=some o/\o.cls = .type "list"/\o.dict=none/\o.data = .seq its n/\its.size<=sizeLine/\zb xs its.toList
theorem TupAt.sq {K:Fr0} {H:Hp} {a:Addr} {xs:List V} (h:TupAt K H a xs):SqT K H a xs:=by
 rcases h with h | h
 ·exact .inl (.inl h)
 ·exact .inr h
theorem qmB.sq {K:Fr0} {H:Hp} {a:Addr} {xs:List V} (h:qmB K H a xs):SqL K H a xs:=by
 rcases h with h | h
 ·exact .inl (.inr h)
 ·exact .inr h
mutual
def Is (K:Fr0) (A:Addr->Prop) (H:Hp):D->V->Prop
 | .non,v=>v = .non
 | .bl b,v=>v = .bl b
 | .int i,v=>v = .int i
 | .str x,v=>v = .str x
 | .tup ds,v=>∃ a xs,v = .ref a/\TupAt K H a xs/\IsL K A H ds xs
 | .lst ds,v=>∃ a xs,v = .ref a/\A a/\H a=some (.lst xs)/\IsL K A H ds xs
 | .dic kvs,v=>∃ a,v = .ref a/\A a/\H a=some (.dK (kvs.map fun p=>(p.1,V.int p.2)))
 | .fz ns,v=>∃ a,v = .ref a/\qmB K H a (ns.map V.int)
 | .exc n,v=>∃ a,v = .ref a/\qpM K H a n
def IsL (K:Fr0) (A:Addr->Prop) (H:Hp):List D->List V->Prop
 | [],xs=>xs=[]
 | d::ds,xs=>∃ x ys,xs=x::ys/\Is K A H d x/\IsL K A H ds ys
end
mutual
def imm:D->Bool
 | .tup ds=>immL ds
 | .lst _=>false
 | .dic _=>false
 | .fz _=>false
 | _=>true
def immL:List D->Bool
 | []=>true
 | d::ds=>imm d&&immL ds
end
structure Ext (A:Addr->Prop) (H H':Hp):Prop where
 tup:∀ b xs,H b=some (.tup xs)->H' b=some (.tup xs)
 frz:∀ b o u,H b=some (.frz o u)->H' b=some (.frz o u)
 at_:∀ b o,A b->H b=some o->H' b=some o
theorem Ext.refl {A:Addr->Prop} {H:Hp}:Ext A H H:=⟨fun _ _ h=>h,fun _ _ _ h=>h,fun _ _ _ h=>h⟩
theorem Ext.of_same {A:Addr->Prop} {H H':Hp} (s:ji H H'):Ext A H H':=⟨fun b xs h=>s b _ h,fun b o u h=>s b _ h,fun b o _ h=>s b o h⟩
mutual
theorem Is.ext {K:Fr0} {A B:Addr->Prop} {H H':Hp} (e:Ext A H H') (hAB:∀ a,A a->(H a).isSome=true->B a):∀ {d:D} {v:V},Is K A H d v->Is K B H' d v
 | .non,_,h=>h
 | .bl _,_,h=>h
 | .int _,_,h=>h
 | .str _,_,h=>h
 | .tup ds,_,⟨a,xs,hv,h,r⟩=>⟨a,xs,hv,h.elim (fun h => .inl (e.tup _ _ h)) .inr,IsL.ext e hAB r⟩
 | .lst ds,_,⟨a,xs,hv,hA,h,r⟩=>⟨a,xs,hv,hAB a hA (by rw [h];rfl),e.at_ _ _ hA h,IsL.ext e hAB r⟩
 | .dic kvs,_,⟨a,hv,hA,h⟩=>⟨a,hv,hAB a hA (by rw [h];rfl),e.at_ _ _ hA h⟩
 | .fz ns,_,⟨a,hv,h⟩=>⟨a,hv,h.elim (fun ⟨o,h⟩ => .inl ⟨o,e.frz _ _ _ h⟩) .inr⟩
 | .exc n,_,⟨a,hv,C,hc,hk,o,vs,h,r⟩=>⟨a,hv,C,hc,hk,o,vs,e.frz _ _ _ h,r⟩
theorem IsL.ext {K:Fr0} {A B:Addr->Prop} {H H':Hp} (e:Ext A H H') (hAB:∀ a,A a->(H a).isSome=true->B a):∀ {ds:List D} {xs:List V},IsL K A H ds xs->IsL K B H' ds xs
 | [],_,h=>h
 | _::_,_,⟨x,ys,hx,h,r⟩=>⟨x,ys,hx,Is.ext e hAB h,IsL.ext e hAB r⟩
end
mutual
theorem Is.imm {K:Fr0} {A B:Addr->Prop} {H:Hp}:∀ {d:D} {v:V},imm d=true->Is K A H d v->Is K B H d v
 | .non,_,_,h=>h
 | .bl _,_,_,h=>h
 | .int _,_,_,h=>h
 | .str _,_,_,h=>h
 | .tup ds,_,i,⟨a,xs,hv,h,r⟩=>⟨a,xs,hv,h,IsL.imm (by simpa [Sk.imm] using i) r⟩
 | .lst _,_,i,_=>by simp [Sk.imm] at i
 | .dic _,_,i,_=>by simp [Sk.imm] at i
 | .fz _,_,i,_=>by simp [Sk.imm] at i
 | .exc _,_,_,h=>h
theorem IsL.imm {K:Fr0} {A B:Addr->Prop} {H:Hp}:∀ {ds:List D} {xs:List V},immL ds=true->IsL K A H ds xs->IsL K B H ds xs
 | [],_,_,h=>h
 | d::ds,_,i,⟨x,ys,hx,h,r⟩=>by
  have i':Sk.imm d=true/\immL ds=true:=by simpa [immL] using i
  exact ⟨x,ys,hx,Is.imm i'.1 h,IsL.imm i'.2 r⟩
end
theorem IsL.length {K:Fr0} {A:Addr->Prop} {H:Hp}:∀ {ds:List D} {xs:List V},IsL K A H ds xs->xs.length=ds.length
 | [],_,h=>by rw [h];rfl
 | _::_,_,⟨x,ys,hx,_,r⟩=>by rw [hx,lC_,lC_,IsL.length r]
theorem IsL.get {K:Fr0} {A:Addr->Prop} {H:Hp}:∀ {ds:List D} {xs:List V} {i:Nat} {d:D},IsL K A H ds xs->ds[i]? = some d->∃ x,xs[i]? = some x/\Is K A H d x
 | [],_,_,_,_,h=>by simp at h
 | e::_,_,0,d,⟨x,ys,hx,h,r⟩,hd=>by
  have e1:e=d:=by simpa using hd
  subst e1
  exact ⟨x,by rw [hx];rfl,h⟩
 | _::ds,_,i+1,d,⟨x,ys,hx,h,r⟩,hd=>by
  obtain ⟨y,h1,h2⟩:=IsL.get (i:=i) (d:=d) r (by simpa using hd)
  exact ⟨y,by rw [hx];simpa using h1,h2⟩
theorem IsL.append {K:Fr0} {A:Addr->Prop} {H:Hp}:∀ {ds es:List D} {xs ys:List V},IsL K A H ds xs->IsL K A H es ys->IsL K A H (ds++es) (xs++ys)
 | [],_,_,_,h,g=>by rw [h];exact g
 | _::_,_,_,_,⟨x,zs,hx,h,r⟩,g=>⟨x,zs++_,by rw [hx];rfl,h,IsL.append r g⟩
theorem IsL.take {K:Fr0} {A:Addr->Prop} {H:Hp}:∀ {ds:List D} {xs:List V} (n:Nat),IsL K A H ds xs->IsL K A H (ds.take n) (xs.take n)
 | _,_,0,_=>by simp [IsL]
 | [],_,_+1,h=>by rw [h];simp [IsL]
 | _::_,_,n+1,⟨x,ys,hx,h,r⟩=>by rw [hx];exact ⟨x,ys.take n,rfl,h,IsL.take n r⟩
theorem IsL.drop {K:Fr0} {A:Addr->Prop} {H:Hp}:∀ {ds:List D} {xs:List V} (n:Nat),IsL K A H ds xs->IsL K A H (ds.drop n) (xs.drop n)
 | _,_,0,h=>h
 | [],_,_+1,h=>by rw [h];simp [IsL]
 | _::_,_,n+1,⟨x,ys,hx,h,r⟩=>by rw [hx];exact IsL.drop n r
theorem IsL.one {K:Fr0} {A:Addr->Prop} {H:Hp} {d:D} {v:V} (h:Is K A H d v):IsL K A H [d] [v]:=⟨v,[],rfl,h,rfl⟩
theorem IsL.set {K:Fr0} {A:Addr->Prop} {H:Hp} {d:D} {v:V} (hd:Is K A H d v):∀ {ds:List D} {xs:List V} (n:Nat),IsL K A H ds xs->IsL K A H (ds.set n d) (xs.set n v)
 | [],_,_,h=>by rw [h];simp [IsL]
 | _::_,_,0,⟨x,ys,hx,h,r⟩=>by rw [hx];exact ⟨v,ys,rfl,hd,r⟩
 | _::_,_,n+1,⟨x,ys,hx,h,r⟩=>by rw [hx];exact ⟨x,ys.set n v,rfl,h,IsL.set hd n r⟩
abbrev Env:=List (Option D)
structure Exn where
 cls:Str
 val:D
inductive R (α:Type) where
 | ok (a:α) | exc (x:Exn) (U:Env) | bad
structure Fc where
 O:List Nat
 P:List Nat
 B:Addr->Prop
 H0:Hp
 Io:Addr->Prop
 E:Exn->Hp->Prop
 S:Nat->Option (Option V)
def Cl (O:List Nat) (Z:St) (a:Addr):Prop:=∀ j∈O,Z[j]? ≠ some (some (.ref a))
def Cn (c:Fc) (Z:St) (a:Addr):Prop:=c.B a/\Cl c.O Z a
structure Rep (K:Fr0) (c:Fc) (U:Env) (Z:St) (H:Hp):Prop where
 len:U.length=Z.length
 val:∀ i d,U[i]? = some (some d)->∃ v,Z[i]? = some (some v) /\
  ((i∈c.O/\∃ ds a xs,d = .lst ds/\v = .ref a/\H a=some (.lst xs)/\IsL K (Cn c Z) H ds xs)\/(i ∉ c.O/\Is K (Cn c Z) H d v))
 own:∀ j∈c.O,∀ v,Z[j]? = some (some v)->∃ a xs,v = .ref a/\H a=some (.lst xs)/\(c.H0 a=none\/(j∈c.P/\c.Io a))
 inj:∀ i j a,i∈c.O->j∈c.O->Z[i]? = some (some (.ref a))->Z[j]? = some (some (.ref a))->i=j
 b0:(∀ a,c.H0 a=none->c.B a)/\qo6 K c.H0 c.Io
 kp:∀ b o,c.H0 b=some o->¬ c.Io b->H b=some o
 dm:∀ b,H b=none->c.H0 b=none
 pO:∀ j∈c.P,j∈c.O
 ps:∀ j∈c.P,Z[j]? = c.S j
theorem Rep.tb {K:Fr0} {c:Fc} {U:Env} {Z:St} {H:Hp} (r:Rep K c U Z H):qgT K H:=fun q P pos e=>⟨r.kp P _ (r.b0.2 q P pos e).1 (r.b0.2 q P pos e).2,fun z=>z⟩
structure Gr (O:List Nat) (Z:St) (H H':Hp):Prop where
 ext:Ext (Cl O Z) H H'
 dom:∀ b,H' b=none->H b=none
theorem Gr.refl {O:List Nat} {Z:St} {H:Hp}:Gr O Z H H:=⟨Ext.refl,fun _ h=>h⟩
theorem Gr.of_same {O:List Nat} {Z:St} {H H':Hp} (s:ji H H'):Gr O Z H H':=⟨Ext.of_same s,fun _ h=>s.free h⟩
theorem Gr.trans {O:List Nat} {Z:St} {H H1 H2:Hp} (a:Gr O Z H H1) (b:Gr O Z H1 H2):Gr O Z H H2 :=
 ⟨⟨fun c xs h=>b.ext.tup c xs (a.ext.tup c xs h),fun c o u h=>b.ext.frz c o u (a.ext.frz c o u h),fun c o hc h=>b.ext.at_ c o hc (a.ext.at_ c o hc h)⟩,fun c h=>a.dom c (b.dom c h)⟩
theorem Gr.cn {c:Fc} {Z:St} {H H':Hp} (g:Gr c.O Z H H'):Ext (Cn c Z) H H':=⟨g.ext.tup,g.ext.frz,fun b o hb h=>g.ext.at_ b o hb.2 h⟩
theorem Gr.is {K:Fr0} {c:Fc} {Z:St} {H H':Hp} {d:D} {v:V} (g:Gr c.O Z H H') (h:Is K (Cn c Z) H d v):Is K (Cn c Z) H' d v:=Is.ext g.cn (fun _ h _=>h) h
theorem Gr.isL {K:Fr0} {c:Fc} {Z:St} {H H':Hp} {d:List D} {v:List V} (g:Gr c.O Z H H') (h:IsL K (Cn c Z) H d v):IsL K (Cn c Z) H' d v:=IsL.ext g.cn (fun _ h _=>h) h
theorem Rep.new {K:Fr0} {c:Fc} {U:Env} {Z:St} {H:Hp} (r:Rep K c U Z H) {a:Addr} (h:H a=none):Cn c Z a :=
 ⟨r.b0.1 a (r.dm a h),fun j hj e=>by obtain ⟨b,xs,e1,e2,_⟩:=r.own j hj _ e;cases e1;rw [h] at e2;cases e2⟩
theorem Rep.same {K:Fr0} {c:Fc} {U:Env} {Z:St} {H H':Hp} (r:Rep K c U Z H) (s:ji H H'):Rep K c U Z H' where
 len:=r.len
 val:=fun i d h=>by
  obtain ⟨v,h1,h2⟩:=r.val i d h
  refine ⟨v,h1,?_⟩
  rcases h2 with ⟨hi,ds,a,xs,h3,h5,h6,h7⟩ | ⟨hi,h3⟩
  ·exact .inl ⟨hi,ds,a,xs,h3,h5,s _ _ h6,IsL.ext (Ext.of_same s) (fun _ h _=>h) h7⟩
  ·exact .inr ⟨hi,Is.ext (Ext.of_same s) (fun _ h _=>h) h3⟩
 own:=fun j hj v h=>by
  obtain ⟨a,xs,h1,h2,h3⟩:=r.own j hj v h
  exact ⟨a,xs,h1,s _ _ h2,h3⟩
 inj:=r.inj
 b0:=r.b0
 kp:=fun b o h1 h2=>s _ _ (r.kp b o h1 h2)
 dm:=fun b h=>r.dm b (s.free h)
 pO:=r.pO
 ps:=r.ps
theorem Rep.get {K:Fr0} {c:Fc} {U:Env} {Z:St} {H:Hp} (r:Rep K c U Z H) {i:Nat} {d:D} (hi:i ∉ c.O) (h:U[i]? = some (some d)):∃ v,Z[i]? = some (some v)/\Is K (Cn c Z) H d v:=by
 obtain ⟨v,h1,h2⟩:=r.val i d h
 rcases h2 with ⟨h3,_⟩ | ⟨_,h3⟩
 ·exact absurd h3 hi
 ·exact ⟨v,h1,h3⟩
theorem Rep.getO {K:Fr0} {c:Fc} {U:Env} {Z:St} {H:Hp} (r:Rep K c U Z H) {i:Nat} {d:D} (hi:i∈c.O) (h:U[i]? = some (some d)) :
  ∃ ds a xs,d = .lst ds/\Z[i]? = some (some (.ref a))/\H a=some (.lst xs)/\IsL K (Cn c Z) H ds xs:=by
 obtain ⟨v,h1,h2⟩:=r.val i d h
 rcases h2 with ⟨_,ds,a,xs,h3,h5,h6,h7⟩ | ⟨h3,_⟩
 ·subst h5;exact ⟨ds,a,xs,h3,h1,h6,h7⟩
 ·exact absurd hi h3
abbrev M (α:Type):=Env->R (α×Env)
def Wp (K:Fr0) (c:Fc) (Z:St) (H:Hp) (Q:VK):R (D×Env)->Prop
 | .ok (d,U)=>∀ v H',Rep K c U Z H'->Is K (Cn c Z) H' d v->Gr c.O Z H H'->Q v H'
 | .exc x U=>∀ H',Rep K c U Z H'->Gr c.O Z H H'->c.E x H'
 | .bad=>False
def WpB (K:Fr0) (c:Fc) (Z:St) (H:Hp) (Q:Bool->Hp->Prop):R (Bool×Env)->Prop
 | .ok (b,U)=>∀ H',Rep K c U Z H'->Gr c.O Z H H'->Q b H'
 | .exc x U=>∀ H',Rep K c U Z H'->Gr c.O Z H H'->c.E x H'
 | .bad=>False
def WpL (K:Fr0) (c:Fc) (Z:St) (H:Hp) (Q:List V->Hp->Prop):R (List D×Env)->Prop
 | .ok (ds,U)=>∀ vs H',Rep K c U Z H'->IsL K (Cn c Z) H' ds vs->Gr c.O Z H H'->Q vs H'
 | .exc x U=>∀ H',Rep K c U Z H'->Gr c.O Z H H'->c.E x H'
 | .bad=>False
def DE (X:Cx) (c:Fc) (e:Expr) (f:M D):Prop:=∃ t,PE X e t/\∀ U Z H Q,Rep X.K c U Z H->Wp X.K c Z H Q (f U)->t Z H Q
def DT (X:Cx) (c:Fc) (e:Expr) (f:M Bool):Prop:=∃ t,PT X e t/\∀ U Z H Q,Rep X.K c U Z H->WpB X.K c Z H Q (f U)->t Z H Q
def DA (X:Cx) (c:Fc) (es:List Expr) (f:M (List D)):Prop:=∃ t,PA X es t/\∀ U Z H Q,Rep X.K c U Z H->WpL X.K c Z H Q (f U)->t Z H Q
def ret {α:Type} (a:α):M α:=fun U => .ok (a,U)
def bnd {α β:Type} (f:M α) (k:α->M β):M β:=fun U=>match f U with
 | .ok (a,U')=>k a U'
 | .exc x U' => .exc x U'
 | .bad => .bad
def lift {α:Type}:Option α->M α
 | some a=>ret a
 | none=>fun _ => .bad
theorem qdM {α β:Type} {f:M α} {k:α->M β} {U U':Env} {a:α} (h:f U = .ok (a,U')):bnd f k U=k a U':=by unfold bnd;rw [h]
section
variable {K:Fr0} {c:Fc} {Z:St} {H H1:Hp} {Q:VK} {QB:Bool->Hp->Prop} {QL:List V->Hp->Prop} {r:R (D×Env)}
theorem Wp.gr:∀ {r:R (D×Env)},Wp K c Z H Q r->Gr c.O Z H H1->Wp K c Z H1 Q r
 | .ok (d,U),h,g=>fun v H' hr hi hg=>h v H' hr hi (g.trans hg)
 | .exc x U,h,g=>fun H' hr hg=>h H' hr (g.trans hg)
 | .bad,h,_=>h
theorem WpB.gr:∀ {r:R (Bool×Env)},WpB K c Z H QB r->Gr c.O Z H H1->WpB K c Z H1 QB r
 | .ok (d,U),h,g=>fun H' hr hg=>h H' hr (g.trans hg)
 | .exc x U,h,g=>fun H' hr hg=>h H' hr (g.trans hg)
 | .bad,h,_=>h
theorem WpL.gr:∀ {r:R (List D×Env)},WpL K c Z H QL r->Gr c.O Z H H1->WpL K c Z H1 QL r
 | .ok (d,U),h,g=>fun v H' hr hi hg=>h v H' hr hi (g.trans hg)
 | .exc x U,h,g=>fun H' hr hg=>h H' hr (g.trans hg)
 | .bad,h,_=>h
theorem Wp.bnd {f:M D} {k:D->M D} {U:Env} {Q':VK} (h:Wp K c Z H Q (bnd f k U)) (hQ:∀ d U' v H',Rep K c U' Z H'->Is K (Cn c Z) H' d v->Gr c.O Z H H'->Wp K c Z H' Q (k d U')->Q' v H'):Wp K c Z H Q' (f U):=by
 unfold Sk.bnd at h
 cases e:f U with
 | ok p=>rw [e] at h;exact fun v H' hr hi hg=>hQ p.1 p.2 v H' hr hi hg (h.gr hg)
 | exc x U'=>rw [e] at h;exact h
 | bad=>rw [e] at h;exact h
theorem Wp.bndB {f:M D} {k:D->M Bool} {U:Env} {Q':VK} (h:WpB K c Z H QB (Sk.bnd f k U)) (hQ:∀ d U' v H',Rep K c U' Z H'->Is K (Cn c Z) H' d v->Gr c.O Z H H'->WpB K c Z H' QB (k d U')->Q' v H'):Wp K c Z H Q' (f U):=by
 unfold Sk.bnd at h
 cases e:f U with
 | ok p=>rw [e] at h;exact fun v H' hr hi hg=>hQ p.1 p.2 v H' hr hi hg (h.gr hg)
 | exc x U'=>rw [e] at h;exact h
 | bad=>rw [e] at h;exact h
theorem Wp.bndL {f:M D} {k:D->M (List D)} {U:Env} {Q':VK} (h:WpL K c Z H QL (Sk.bnd f k U)) (hQ:∀ d U' v H',Rep K c U' Z H'->Is K (Cn c Z) H' d v->Gr c.O Z H H'->WpL K c Z H' QL (k d U')->Q' v H'):Wp K c Z H Q' (f U):=by
 unfold Sk.bnd at h
 cases e:f U with
 | ok p=>rw [e] at h;exact fun v H' hr hi hg=>hQ p.1 p.2 v H' hr hi hg (h.gr hg)
 | exc x U'=>rw [e] at h;exact h
 | bad=>rw [e] at h;exact h
theorem WpB.bnd {f:M Bool} {k:Bool->M D} {U:Env} {Q':Bool->Hp->Prop} (h:Wp K c Z H Q (Sk.bnd f k U)) (hQ:∀ d U' H',Rep K c U' Z H'->Gr c.O Z H H'->Wp K c Z H' Q (k d U')->Q' d H'):WpB K c Z H Q' (f U):=by
 unfold Sk.bnd at h
 cases e:f U with
 | ok p=>rw [e] at h;exact fun H' hr hg=>hQ p.1 p.2 H' hr hg (h.gr hg)
 | exc x U'=>rw [e] at h;exact h
 | bad=>rw [e] at h;exact h
theorem WpB.bndB {f:M Bool} {k:Bool->M Bool} {U:Env} {Q':Bool->Hp->Prop} (h:WpB K c Z H QB (Sk.bnd f k U)) (hQ:∀ d U' H',Rep K c U' Z H'->Gr c.O Z H H'->WpB K c Z H' QB (k d U')->Q' d H'):WpB K c Z H Q' (f U):=by
 unfold Sk.bnd at h
 cases e:f U with
 | ok p=>rw [e] at h;exact fun H' hr hg=>hQ p.1 p.2 H' hr hg (h.gr hg)
 | exc x U'=>rw [e] at h;exact h
 | bad=>rw [e] at h;exact h
theorem WpL.bnd {f:M (List D)} {k:List D->M D} {U:Env} {Q':List V->Hp->Prop} (h:Wp K c Z H Q (Sk.bnd f k U)) (hQ:∀ d U' v H',Rep K c U' Z H'->IsL K (Cn c Z) H' d v->Gr c.O Z H H'->Wp K c Z H' Q (k d U')->Q' v H'):WpL K c Z H Q' (f U):=by
 unfold Sk.bnd at h
 cases e:f U with
 | ok p=>rw [e] at h;exact fun v H' hr hi hg=>hQ p.1 p.2 v H' hr hi hg (h.gr hg)
 | exc x U'=>rw [e] at h;exact h
 | bad=>rw [e] at h;exact h
theorem WpL.bndL {f:M (List D)} {k:List D->M (List D)} {U:Env} {Q':List V->Hp->Prop} (h:WpL K c Z H QL (Sk.bnd f k U)) (hQ:∀ d U' v H',Rep K c U' Z H'->IsL K (Cn c Z) H' d v->Gr c.O Z H H'->WpL K c Z H' QL (k d U')->Q' v H'):WpL K c Z H Q' (f U):=by
 unfold Sk.bnd at h
 cases e:f U with
 | ok p=>rw [e] at h;exact fun v H' hr hi hg=>hQ p.1 p.2 v H' hr hi hg (h.gr hg)
 | exc x U'=>rw [e] at h;exact h
 | bad=>rw [e] at h;exact h
theorem Wp.lift {o:Option D} {U:Env} (h:Wp K c Z H Q (Sk.lift o U)):∃ d,o=some d/\∀ v H',Rep K c U Z H'->Is K (Cn c Z) H' d v->Gr c.O Z H H'->Q v H':=by
 cases o with
 | none=>exact h.elim
 | some d=>exact ⟨d,rfl,h⟩
end
section
variable {X:Cx} {c:Fc} {a b e:Expr} {pos:Pos}
theorem ql {i j pos}:DE X c (.Constant (.int i) j pos) (ret (.int i)):=⟨_,qlY,fun _ _ H Q r h=>h _ H r rfl .refl⟩
theorem wG {i j pos}:DE X c (.Constant (.bool i) j pos) (ret (.bl i)):=⟨_,qn3,fun _ _ H Q r h=>h _ H r rfl .refl⟩
theorem qbj {j pos}:DE X c (.Constant .none j pos) (ret .non):=⟨_,qlZ,fun _ _ H Q r h=>h _ H r rfl .refl⟩
def dv (i:Nat):M D:=fun U=>match U[i]? with
 | some (some d) => .ok (d,U)
 | _ => .bad
theorem qc (i:Nat) {x:Str} (ho:i ∉ c.O:=by exact of_decide_eq_false rfl) (hN:X.N[i]? = some x:=by rfl) (hv:Vis X.env.scope x:=by first | exact Or.inl rfl | exact Or.inr (Or.inl rfl) | exact Or.inr (Or.inr rfl)) (hd:(x==("__debug__":Str))=false:=by decide)
  (hcd:(x==("__classdict__":Str))=false:=by decide):DE X c (.Name x pos) (dv i):=by
 refine ⟨_,wE hN hv hd hcd,fun U Z H Q r h => ?_⟩
 unfold dv at h
 split at h
 ·rename_i d e
  obtain ⟨v,h1,h2⟩:=r.get ho e
  exact ⟨v,h1,h v H r h2 .refl⟩
 ·exact h.elim
theorem qkA {x:Str} {v:V} {u:Value} {d:D} (hg:Gl X x) (hm:X.mg x=some u) (rv:jN v u) (hd:∀ H A,Is X.K A H d v) (hdb:(x==("__debug__":Str))=false:=by decide):DE X c (.Name x pos) (ret d) :=
 ⟨_,qgz hg hm rv hdb,fun _ _ H Q r h=>h _ H r (hd _ _) .refl⟩
theorem qf:DA X c [] (ret []):=⟨_,qcb,fun _ _ H Q r h=>h _ H r rfl .refl⟩
def qa (f:M D) (g:M (List D)):M (List D):=bnd f fun d=>bnd g fun ds=>ret (d::ds)
theorem qb {es:List Expr} {f:M D} {g:M (List D)} (ha:DE X c e f) (hr:DA X c es g) (hs:starEach (e::es) X.env=(false,eval e X.env)::starEach es X.env:=by rfl):DA X c (e::es) (qa f g):=by
 obtain ⟨ta,pa,wa⟩:=ha
 obtain ⟨tr,pr,wr⟩:=hr
 refine ⟨_,vb pa pr hs,fun U Z H Q r h=>wa U Z H _ r (Wp.bndL h fun d U1 v H1 r1 i1 g1 h1=>wr U1 Z H1 _ r1 (WpL.bndL h1 fun ds U2 vs H2 r2 i2 g2 h2 => ?_))⟩
 exact h2 _ H2 r2 ⟨v,vs,rfl,g2.is i1,i2⟩ .refl
def qT (n:Nat):Bool:=decide (n<=sizeLine)
def vS (f:M (List D)):M D:=bnd f fun ds=>lift (if qT ds.length then some (.tup ds) else none)
def qdN (f:M (List D)):M D:=bnd f fun ds=>lift (if qT ds.length then some (.lst ds) else none)
theorem qD {H:Hp} {p:Addr} (h:H p=none) (o:HO):ji H (upd H p o):=fun b u q=>by rw [qx (qK q h)];exact q
theorem Rep.laid {K:Fr0} {U:Env} {Z:St} {H:Hp} (r:Rep K c U Z H) {p:Addr} (h:H p=none) (o:HO):Rep K c U Z (upd H p o):=r.same (qD h o)
theorem jo {p:Bool} {d e:D} (h:(if p then some d else none)=some e):p=true/\d=e:=by
 cases p with
 | true=>exact ⟨rfl,by simpa using h⟩
 | false=>simp at h
theorem yS {es:List Expr} {x1} {f:M (List D)} (h:DA X c es f):DE X c (.Tuple es x1 pos) (vS f):=by
 obtain ⟨t,p,w⟩:=h
 refine ⟨_,qmo p,fun U Z H Q r h=>w U Z H _ r (WpL.bnd h fun ds U1 vs H1 r1 i1 g1 h1 => ?_)⟩
 obtain ⟨d,e,h2⟩:=h1.lift
 obtain ⟨e1,e2⟩:=jo e
 subst e2
 refine ⟨by rw [i1.length];exact of_decide_eq_true e1,fun p hp=>h2 _ _ (r1.laid hp _) ⟨p,vs,rfl,.inl qA,IsL.ext (Ext.of_same (qD hp _)) (fun _ h _=>h) i1⟩ (.of_same (qD hp _))⟩
theorem qbk {es:List Expr} {f:M (List D)} (h:DA X c es f):DE X c (.List es pos) (qdN f):=by
 obtain ⟨t,p,w⟩:=h
 refine ⟨_,qjy p,fun U Z H Q r h=>w U Z H _ r (WpL.bnd h fun ds U1 vs H1 r1 i1 g1 h1 => ?_)⟩
 obtain ⟨d,e,h2⟩:=h1.lift
 obtain ⟨e1,e2⟩:=jo e
 subst e2
 refine ⟨by rw [i1.length];exact of_decide_eq_true e1,fun p hp=>h2 _ _ (r1.laid hp _) ⟨p,vs,rfl,r1.new hp,qA,IsL.ext (Ext.of_same (qD hp _)) (fun _ h _=>h) i1⟩ (.of_same (qD hp _))⟩
def OpS (K:Fr0) (F:D->D->Option D) (r:R2):Prop:=∀ (A:Addr->Prop) (H:Hp) (x y d:D) (v u:V) (Q:VK),(∀ a,H a=none->A a)->Is K A H x v->Is K A H y u->F x y=some d ->
 (∀ w H',ji H H'->Is K A H' d w->Q w H')->r v u H Q
def d2 (F:D->D->Option D) (f g:M D):M D:=bnd f fun x=>bnd g fun y=>lift (F x y)
theorem op2 {r:R2} {F:D->D->Option D} {f g:M D} {ta tb:TE} (hF:OpS X.K F r) (wa:∀ U Z H Q,Rep X.K c U Z H->Wp X.K c Z H Q (f U)->ta Z H Q) (wb:∀ U Z H Q,Rep X.K c U Z H->Wp X.K c Z H Q (g U)->tb Z H Q) :
  ∀ U Z H Q,Rep X.K c U Z H->Wp X.K c Z H Q (d2 F f g U)->tOp r ta tb Z H Q:=fun U Z H Q rp h=>wa U Z H _ rp (Wp.bnd h fun x U1 v H1 r1 i1 g1 h1=>wb U1 Z H1 _ r1 (Wp.bnd h1 fun y U2 u H2 r2 i2 g2 h2=>by
 obtain ⟨d,e,h3⟩:=h2.lift
 exact hF _ H2 x y d v u Q (fun a ha=>r2.new ha) (g2.is i1) i2 e fun w H' s i=>h3 w H' (r2.same s) i (.of_same s)))
theorem qw {op:Operator} {r:R2} {F:D->D->Option D} {f g:M D} (ho:OpR X (binaryOp op) r) (hF:OpS X.K F r) (ha:DE X c a f) (hb:DE X c b g):DE X c (.BinOp a op b pos) (d2 F f g):=by
 obtain ⟨ta,pa,wa⟩:=ha
 obtain ⟨tb,pb,wb⟩:=hb
 exact ⟨_,qof ho pa pb,op2 hF wa wb⟩
theorem vc {op:CmpOp} {r:R2} {F:D->D->Option D} {f g:M D} (ho:OpR X (compareOp op) r) (hF:OpS X.K F r) (ha:DE X c a f) (hb:DE X c b g) (hm:behindInMarks op b=false):DE X c (.Compare a [op] [b] pos) (d2 F f g):=by
 obtain ⟨ta,pa,wa⟩:=ha
 obtain ⟨tb,pb,wb⟩:=hb
 exact ⟨_,qkn ho pa pb hm,op2 hF wa wb⟩
def asB:D->Option Bool
 | .bl b=>some b
 | _=>none
def tst (f:M D):M Bool:=bnd f fun d=>lift (asB d)
theorem qcH {K:Fr0} {Z:St} {H:Hp} {QB:Bool->Hp->Prop} {o:Option Bool} {U:Env} (h:WpB K c Z H QB (lift o U)):∃ b,o=some b/\∀ H',Rep K c U Z H'->Gr c.O Z H H'->QB b H':=by
 cases o with
 | none=>exact h.elim
 | some d=>exact ⟨d,rfl,h⟩
theorem wH {d:D} {b:Bool} (h:asB d=some b):d = .bl b:=by
 cases d<;>simp [asB] at h
 subst h;rfl
theorem qS {op:CmpOp} {r:R2} {F:D->D->Option D} {f g:M D} (ho:OpR X (compareOp op) r) (hF:OpS X.K F r) (ha:DE X c a f) (hb:DE X c b g) (hm:behindInMarks op b=false):DT X c (.Compare a [op] [b] pos) (tst (d2 F f g)):=by
 obtain ⟨ta,pa,wa⟩:=ha
 obtain ⟨tb,pb,wb⟩:=hb
 refine ⟨_,qko ho pa pb hm,fun U Z H Q rp h=>op2 hF wa wb U Z H _ rp (Wp.bndB h fun d U1 v H1 r1 i1 g1 h1 => ?_)⟩
 obtain ⟨b,e,h2⟩:=qcH h1
 have:=wH e
 subst this
 exact ⟨b,i1,h2 H1 r1 .refl⟩
theorem yf {f:M D} (h:DE X c e f) (he:∀ whole,isTrue e X.env whole=(do let v <- whole;standAt e.pos;holding [v] (truthy v)):=by intro _;rfl):DT X c e (tst f):=by
 obtain ⟨t,p,w⟩:=h
 refine ⟨_,ql0 p he,fun U Z H Q rp h=>w U Z H _ rp (Wp.bndB h fun d U1 v H1 r1 i1 g1 h1 => ?_)⟩
 obtain ⟨b,e,h2⟩:=qcH h1
 have:=wH e
 subst this
 exact ⟨b,i1,h2 H1 r1 .refl⟩
def qaE (f:M Bool):M Bool:=bnd f fun b=>ret (!b)
theorem yA {f:M Bool} (h:DT X c a f):DT X c (.UnaryOp .Not a pos) (qaE f):=by
 obtain ⟨t,p,w⟩:=h
 exact ⟨_,ql3 p,fun U Z H Q rp h=>w U Z H _ rp (WpB.bndB h fun d U1 H1 r1 g1 h1=>h1 H1 r1 .refl)⟩
def DW (X:Cx) (c:Fc) (e:Expr) (f:M Bool):Prop:=∃ t,PW X e t/\∀ U Z H Q,Rep X.K c U Z H->WpB X.K c Z H Q (f U)->t Z H Q
theorem DW.dt {f:M Bool} (h:DW X c e f):DT X c e f:=by
 obtain ⟨t,p,w⟩:=h
 exact ⟨t,p.pt,w⟩
def qjB (f g:M Bool):M Bool:=bnd f fun b=>if b then g else ret false
def tor (f g:M Bool):M Bool:=bnd f fun b=>if b then ret true else g
variable {wA:List Expr}
theorem qgU {f:M Bool} (h:DT X c a f):DW X c (.BoolOp .And [a] pos) f:=by
 obtain ⟨t,p,w⟩:=h
 exact ⟨t,qkf p,w⟩
theorem vT {f:M Bool} (h:DT X c a f):DW X c (.BoolOp .Or [a] pos) f:=by
 obtain ⟨t,p,w⟩:=h
 exact ⟨t,ql1 p,w⟩
theorem qjC {f g:M Bool} (ha:DT X c a f) (hb:DW X c (.BoolOp .And (b::wA) pos) g):DW X c (.BoolOp .And (a::b::wA) pos) (qjB f g):=by
 obtain ⟨ta,pa,wa⟩:=ha
 obtain ⟨tb,pb,wb⟩:=hb
 refine ⟨_,ql2 pa pb,fun U Z H Q rp h=>wa U Z H _ rp (WpB.bndB h fun d U1 H1 r1 g1 h1 => ?_)⟩
 cases d with
 | true=>exact qlQ (wb U1 Z H1 Q r1 (by simpa using h1))
 | false=>exact qlP ((by simpa using h1:WpB X.K c Z H1 Q (ret false U1)) H1 r1 .refl)
theorem qaR {f g:M Bool} (ha:DT X c a f) (hb:DW X c (.BoolOp .Or (b::wA) pos) g):DW X c (.BoolOp .Or (a::b::wA) pos) (tor f g):=by
 obtain ⟨ta,pa,wa⟩:=ha
 obtain ⟨tb,pb,wb⟩:=hb
 refine ⟨_,qn4 pa pb,fun U Z H Q rp h=>wa U Z H _ rp (WpB.bndB h fun d U1 H1 r1 g1 h1 => ?_)⟩
 cases d with
 | true=>exact qlQ ((by simpa using h1:WpB X.K c Z H1 Q (ret true U1)) H1 r1 .refl)
 | false=>exact qlP (wb U1 Z H1 Q r1 (by simpa using h1))
def qnU (f:M D):M D:=bnd f fun d=>bnd (lift (asB d)) fun b=>ret (.bl (!b))
def qiw (f g:M D):M D:=bnd f fun d=>bnd (lift (asB d)) fun b=>if b then g else ret (.bl false)
def dor (f g:M D):M D:=bnd f fun d=>bnd (lift (asB d)) fun b=>if b then ret (.bl true) else g
theorem qgV {K:Fr0} {Z:St} {H:Hp} {Q:VK} {d:D} {k:Bool->M D} {U:Env} (h:Wp K c Z H Q (bnd (lift (asB d)) k U)):∃ b,d = .bl b/\Wp K c Z H Q (k b U):=by
 unfold bnd at h
 cases e:asB d with
 | none=>rw [e] at h;exact h.elim
 | some b=>rw [e] at h;exact ⟨b,wH e,h⟩
theorem qaF {op} {f:M D} (h:DE X c a f):DE X c (.BoolOp op [a] pos) f:=by
 obtain ⟨t,p,w⟩:=h
 exact ⟨t,ql4 p,w⟩
theorem qmC {f:M D} (h:DE X c a f):DE X c (.UnaryOp .Not a pos) (qnU f):=by
 obtain ⟨t,p,w⟩:=h
 refine ⟨_,ql6 p,fun U Z H Q rp h=>w U Z H _ rp (Wp.bnd h fun d U1 v H1 r1 i1 g1 h1 => ?_)⟩
 obtain ⟨b,e,h2⟩:=qgV h1
 subst e
 exact ⟨b,i1,h2 _ H1 r1 rfl .refl⟩
theorem qdO {f g:M D} (ha:DE X c a f) (hb:DE X c (.BoolOp .And (b::wA) pos) g):DE X c (.BoolOp .And (a::b::wA) pos) (qiw f g):=by
 obtain ⟨ta,pa,wa⟩:=ha
 obtain ⟨tb,pb,wb⟩:=hb
 refine ⟨_,ql5 pa pb,fun U Z H Q rp h=>wa U Z H _ rp (Wp.bnd h fun d U1 v H1 r1 i1 g1 h1 => ?_)⟩
 obtain ⟨k,e,h2⟩:=qgV h1
 subst e
 refine ⟨k,i1,?_⟩
 cases k with
 | true=>exact qlQ (wb U1 Z H1 Q r1 (by simpa using h2))
 | false=>exact qlP ((by simpa using h2:Wp X.K c Z H1 Q (ret (.bl false) U1)) _ H1 r1 rfl .refl)
theorem qkB {f g:M D} (ha:DE X c a f) (hb:DE X c (.BoolOp .Or (b::wA) pos) g):DE X c (.BoolOp .Or (a::b::wA) pos) (dor f g):=by
 obtain ⟨ta,pa,wa⟩:=ha
 obtain ⟨tb,pb,wb⟩:=hb
 refine ⟨_,qn7 pa pb,fun U Z H Q rp h=>wa U Z H _ rp (Wp.bnd h fun d U1 v H1 r1 i1 g1 h1 => ?_)⟩
 obtain ⟨k,e,h2⟩:=qgV h1
 subst e
 refine ⟨k,i1,?_⟩
 cases k with
 | true=>exact qlQ ((by simpa using h2:Wp X.K c Z H1 Q (ret (.bl true) U1)) _ H1 r1 rfl .refl)
 | false=>exact qlP (wb U1 Z H1 Q r1 (by simpa using h2))
def dif (f:M Bool) (g k:M D):M D:=bnd f fun b=>if b then g else k
theorem qgW {t:Expr} {f:M Bool} {g k:M D} (ht:DT X c t f) (ha:DE X c a g) (hb:DE X c b k):DE X c (.IfExp t a b pos) (dif f g k):=by
 obtain ⟨tt,pt,wt⟩:=ht
 obtain ⟨ta,pa,wa⟩:=ha
 obtain ⟨tb,pb,wb⟩:=hb
 refine ⟨_,qii pt pa pb,fun U Z H Q rp h=>wt U Z H _ rp (WpB.bnd h fun d U1 H1 r1 g1 h1 => ?_)⟩
 cases d with
 | true=>exact qlQ (wa U1 Z H1 Q r1 (by simpa using h1))
 | false=>exact qlP (wb U1 Z H1 Q r1 (by simpa using h1))
def wJ (K:Fr0) (F:List D->Option D) (r:List V->Hp->VK->Prop):Prop:=∀ (A:Addr->Prop) (H:Hp) (xs:List D) (d:D) (vs:List V) (Q:VK),(∀ a,H a=none->A a)->IsL K A H xs vs->F xs=some d ->
 (∀ w H',ji H H'->Is K A H' d w->Q w H')->r vs H Q
def qQ (F:List D->Option D) (f:M (List D)):M D:=bnd f fun ds=>lift (F ds)
theorem qmD {r:List V->Hp->VK->Prop} {F:List D->Option D} {f:M (List D)} {t:TA} (hF:wJ X.K F r) (w:∀ U Z H Q,Rep X.K c U Z H->WpL X.K c Z H Q (f U)->t Z H Q) :
  ∀ U Z H Q,Rep X.K c U Z H->Wp X.K c Z H Q (qQ F f U)->tCB r t Z H Q:=fun U Z H Q rp h=>w U Z H _ rp (WpL.bnd h fun ds U1 vs H1 r1 i1 g1 h1=>by
 obtain ⟨d,e,h3⟩:=h1.lift
 exact hF _ H1 ds d vs Q (fun a ha=>r1.new ha) i1 e fun w H' s i=>h3 w H' (r1.same s) i (.of_same s))
theorem qB {id:String} {x:Str} {p:Pos} {es:List Expr} {r:List V->Hp->VK->Prop} {F:List D->Option D} {f:M (List D)} (hc:yR X (.builtin id) r) (hF:wJ X.K F r) (hg:Gl X x) (hm:X.mg x=none) (hv:bootBuiltins x=some (.builtin id)) (ha:DA X c (e::es) f) (hn:x≠"__name__":=by decide) (hdb:(x==("__debug__":Str))=false:=by decide)
  (he:starEach (e::es) X.env=(false,eval e X.env)::starEach es X.env:=by rfl) (hpl:(backTo pos (starEach es X.env)).any (·.1)=false:=by rfl):DE X c (.Call (.Name x p) (e::es) [] pos) (qQ F f):=by
 obtain ⟨t,pa,w⟩:=ha
 exact ⟨_,qfd hc hg hm hv pa hn hdb he hpl,qmD hF w⟩
theorem qdP {T:String} {x:Str} {p:Pos} {es:List Expr} {r:List V->Hp->VK->Prop} {F:List D->Option D} {f:M (List D)} (hc:yR X (.type T) r) (hF:wJ X.K F r) (hg:Gl X x) (hm:X.mg x=none) (hv:bootBuiltins x=some (.type T)) (ha:DA X c (e::es) f) (hn:x≠"__name__":=by decide) (hdb:(x==("__debug__":Str))=false:=by decide)
  (he:starEach (e::es) X.env=(false,eval e X.env)::starEach es X.env:=by rfl) (hpl:(backTo pos (starEach es X.env)).any (·.1)=false:=by rfl):DE X c (.Call (.Name x p) (e::es) [] pos) (qQ F f):=by
 obtain ⟨t,pa,w⟩:=ha
 exact ⟨_,qdH hc hg hm hv pa hn hdb he hpl,qmD hF w⟩
theorem qG {r:R2} {F:D->D->Option D} {f g:M D} (hr:IxR X r) (hF:OpS X.K F r) (ha:DE X c a f) (hb:DE X c b g) (hs:qeC b:=by intro _ _;rfl):DE X c (.Subscript a b pos) (d2 F f g):=by
 obtain ⟨ta,pa,wa⟩:=ha
 obtain ⟨tb,pb,wb⟩:=hb
 exact ⟨_,qmt hr pa pb hs,op2 hF wa wb⟩
end
inductive Fl where
 | nx (U:Env) | rt (d:D) (U:Env) | bk (U:Env) | ct (U:Env)
structure GrS (O:List Nat) (Z:St) (H:Hp) (Z':St) (H':Hp):Prop where
 ext:Ext (Cl O Z) H H'
 cl:∀ b,Cl O Z b->(H b).isSome=true->Cl O Z' b
 dom:∀ b,H' b=none->H b=none
theorem qf1 {H H':Hp} {b:Addr} (dom:H' b=none->H b=none) (h:(H b).isSome=true):(H' b).isSome=true:=by
 cases e:H' b with
 | none=>rw [dom e] at h;cases h
 | some o=>rfl
theorem GrS.refl {O:List Nat} {Z:St} {H:Hp}:GrS O Z H Z H:=⟨Ext.refl,fun _ h _=>h,fun _ h=>h⟩
theorem Gr.s {O:List Nat} {Z:St} {H H':Hp} (g:Gr O Z H H'):GrS O Z H Z H':=⟨g.ext,fun _ h _=>h,g.dom⟩
theorem GrS.trans {O:List Nat} {Z Z1 Z2:St} {H H1 H2:Hp} (a:GrS O Z H Z1 H1) (b:GrS O Z1 H1 Z2 H2):GrS O Z H Z2 H2 :=
 ⟨⟨fun c xs h=>b.ext.tup c xs (a.ext.tup c xs h),fun c o u h=>b.ext.frz c o u (a.ext.frz c o u h),fun c o hc h=>b.ext.at_ c o (a.cl c hc (by rw [h];rfl)) (a.ext.at_ c o hc h)⟩,
  fun c hc h=>b.cl c (a.cl c hc h) (qf1 (a.dom c) h),fun c h=>a.dom c (b.dom c h)⟩
theorem GrS.is {K:Fr0} {c:Fc} {Z Z':St} {H H':Hp} {d:D} {v:V} (g:GrS c.O Z H Z' H') (h:Is K (Cn c Z) H d v):Is K (Cn c Z') H' d v :=
 Is.ext ⟨g.ext.tup,g.ext.frz,fun b o hb h=>g.ext.at_ b o hb.2 h⟩ (fun a ha hs=>⟨ha.1,g.cl a ha.2 hs⟩) h
theorem GrS.isL {K:Fr0} {c:Fc} {Z Z':St} {H H':Hp} {d:List D} {v:List V} (g:GrS c.O Z H Z' H') (h:IsL K (Cn c Z) H d v):IsL K (Cn c Z') H' d v :=
 IsL.ext ⟨g.ext.tup,g.ext.frz,fun b o hb h=>g.ext.at_ b o hb.2 h⟩ (fun a ha hs=>⟨ha.1,g.cl a ha.2 hs⟩) h
def WpS (K:Fr0) (c:Fc) (Z:St) (H:Hp) (D:qgy):R Fl->Prop
 | .ok (.nx U)=>∀ Z' H',Rep K c U Z' H'->GrS c.O Z H Z' H'->D.nx Z' H'
 | .ok (.rt d U)=>∀ v Z' H',Rep K c U Z' H'->Is K c.B H' d v->GrS c.O Z H Z' H'->D.rt v H'
 | .ok (.bk U)=>∀ Z' H',Rep K c U Z' H'->GrS c.O Z H Z' H'->D.bk Z' H'
 | .ok (.ct U)=>∀ Z' H',Rep K c U Z' H'->GrS c.O Z H Z' H'->D.ct Z' H'
 | .exc x U=>∀ Z' H',Rep K c U Z' H'->GrS c.O Z H Z' H'->c.E x H'
 | .bad=>False
abbrev MS:=Env->R Fl
def DS (X:Cx) (c:Fc) (st:Stmt) (f:MS):Prop:=∃ t,PS X st t/\∀ U Z H D,Rep X.K c U Z H->WpS X.K c Z H D (f U)->t D Z H
def DSs (X:Cx) (c:Fc) (st:List Stmt) (f:MS):Prop:=∃ t,PSs X st t/\∀ U Z H D,Rep X.K c U Z H->WpS X.K c Z H D (f U)->t D Z H
theorem WpS.gr {K:Fr0} {c:Fc} {Z Z1:St} {H H1:Hp} {D:qgy}:∀ {r:R Fl},WpS K c Z H D r->GrS c.O Z H Z1 H1->WpS K c Z1 H1 D r
 | .ok (.nx U),h,g=>fun Z' H' hr hg=>h Z' H' hr (g.trans hg)
 | .ok (.rt d U),h,g=>fun v Z' H' hr hi hg=>h v Z' H' hr hi (g.trans hg)
 | .ok (.bk U),h,g=>fun Z' H' hr hg=>h Z' H' hr (g.trans hg)
 | .ok (.ct U),h,g=>fun Z' H' hr hg=>h Z' H' hr (g.trans hg)
 | .exc x U,h,g=>fun Z' H' hr hg=>h Z' H' hr (g.trans hg)
 | .bad,h,_=>h
def sbnd {α:Type} (f:M α) (k:α->MS):MS:=fun U=>match f U with
 | .ok (a,U')=>k a U'
 | .exc x U' => .exc x U'
 | .bad => .bad
section
variable {K:Fr0} {c:Fc} {Z:St} {H:Hp} {D:qgy}
theorem Wp.sbnd {f:M Sk.D} {k:Sk.D->MS} {U:Env} {Q':VK} (h:WpS K c Z H D (sbnd f k U)) (hQ:∀ d U' v H',Rep K c U' Z H'->Is K (Cn c Z) H' d v->Gr c.O Z H H'->WpS K c Z H' D (k d U')->Q' v H'):Wp K c Z H Q' (f U):=by
 unfold Sk.sbnd at h
 cases e:f U with
 | ok p=>rw [e] at h;exact fun v H' hr hi hg=>hQ p.1 p.2 v H' hr hi hg (h.gr hg.s)
 | exc x U'=>rw [e] at h;exact fun H' hr hg=>h Z H' hr hg.s
 | bad=>rw [e] at h;exact h
theorem WpB.sbnd {f:M Bool} {k:Bool->MS} {U:Env} {Q':Bool->Hp->Prop} (h:WpS K c Z H D (sbnd f k U)) (hQ:∀ d U' H',Rep K c U' Z H'->Gr c.O Z H H'->WpS K c Z H' D (k d U')->Q' d H'):WpB K c Z H Q' (f U):=by
 unfold Sk.sbnd at h
 cases e:f U with
 | ok p=>rw [e] at h;exact fun H' hr hg=>hQ p.1 p.2 H' hr hg (h.gr hg.s)
 | exc x U'=>rw [e] at h;exact fun H' hr hg=>h Z H' hr hg.s
 | bad=>rw [e] at h;exact h
theorem WpL.sbnd {f:M (List Sk.D)} {k:List Sk.D->MS} {U:Env} {Q':List V->Hp->Prop} (h:WpS K c Z H D (sbnd f k U)) (hQ:∀ d U' v H',Rep K c U' Z H'->IsL K (Cn c Z) H' d v->Gr c.O Z H H'->WpS K c Z H' D (k d U')->Q' v H'):WpL K c Z H Q' (f U):=by
 unfold Sk.sbnd at h
 cases e:f U with
 | ok p=>rw [e] at h;exact fun v H' hr hi hg=>hQ p.1 p.2 v H' hr hi hg (h.gr hg.s)
 | exc x U'=>rw [e] at h;exact fun H' hr hg=>h Z H' hr hg.s
 | bad=>rw [e] at h;exact h
end
def qC (f g:MS):MS:=fun U=>match f U with
 | .ok (.nx U')=>g U'
 | r=>r
theorem WpS.mono_nx {K:Fr0} {c:Fc} {Z:St} {H:Hp} {D:qgy} {f g:MS} {U:Env} {N:St->Hp->Prop} (h:WpS K c Z H D (qC f g U)) (hN:∀ U' Z' H',Rep K c U' Z' H'->GrS c.O Z H Z' H'->WpS K c Z' H' D (g U')->N Z' H') :
  WpS K c Z H { D with nx:=N } (f U):=by
 unfold qC at h
 cases e:f U with
 | ok fl =>
  rw [e] at h
  cases fl with
  | nx U'=>exact fun Z' H' hr hg=>hN U' Z' H' hr hg (h.gr hg)
  | rt d U'=>exact h
  | bk U'=>exact h
  | ct U'=>exact h
 | exc x U'=>rw [e] at h;exact h
 | bad=>rw [e] at h;exact h
section
variable {X:Cx} {c:Fc} {a b e:Expr} {pos:Pos} {st:Stmt} {sts:List Stmt}
theorem qkC:DSs X c [] (fun U => .ok (.nx U)):=⟨_,qkg,fun U Z H D r h=>h Z H r .refl⟩
theorem qi {f:MS} (h:DS X c st f):DSs X c [st] f:=by
 obtain ⟨t,p,w⟩:=h
 exact ⟨t,qkh p,w⟩
theorem qg {f g:MS} (h:DS X c st f) (hr:DSs X c sts g):DSs X c (st::sts) (qC f g):=by
 obtain ⟨t,p,w⟩:=h
 obtain ⟨t2,p2,w2⟩:=hr
 exact ⟨_,qij p p2,fun U Z H D r h=>w U Z H _ r (h.mono_nx fun U' Z' H' r' g' h'=>w2 U' Z' H' D r' h')⟩
def zn (f:M D):MS:=sbnd f fun d U => .ok (.rt d U)
theorem Is.cn {K:Fr0} {Z:St} {H:Hp} {d:D} {v:V} (h:Is K (Cn c Z) H d v):Is K c.B H d v:=Is.ext Ext.refl (fun _ h _=>h.1) h
theorem qy {f:M D} (h:DE X c e f):DS X c (.Return (some e) pos) (zn f):=by
 obtain ⟨t,p,w⟩:=h
 exact ⟨_,qju p,fun U Z H D r h=>w U Z H _ r (Wp.sbnd h fun d U1 v H1 r1 i1 g1 h1=>h1 v Z H1 r1 i1.cn .refl)⟩
def zj (f:M D):MS:=sbnd f fun _ U => .ok (.nx U)
theorem qU {f:M D} (h:DE X c e f) (hs:swapsWith e none pos.line X.env=pure false:=by rfl):DS X c (.Expr e pos) (zj f):=by
 obtain ⟨t,p,w⟩:=h
 exact ⟨_,qki p hs,fun U Z H D r h=>w U Z H _ r (Wp.sbnd h fun d U1 v H1 r1 i1 g1 h1=>h1 Z H1 r1 .refl)⟩
def sif (f:M Bool) (g k:MS):MS:=sbnd f fun b=>if b then g else k
theorem yg {t:Expr} {s1 s2:List Stmt} {f:M Bool} {g k:MS} (ht:DT X c t f) (ha:DSs X c s1 g) (hb:DSs X c s2 k):DS X c (.If t s1 s2 pos) (sif f g k):=by
 obtain ⟨tt,pt,wt⟩:=ht
 obtain ⟨ta,pa,wa⟩:=ha
 obtain ⟨tb,pb,wb⟩:=hb
 refine ⟨_,qoa pt pa pb,fun U Z H D rp h=>wt U Z H _ rp (WpB.sbnd h fun d U1 H1 r1 g1 h1 => ?_)⟩
 cases d with
 | true=>exact qlQ (wa U1 Z H1 D r1 (by simpa using h1))
 | false=>exact qlP (wb U1 Z H1 D r1 (by simpa using h1))
theorem qix:DS X c st (fun _ => .bad):=⟨_,qik,fun U Z H D rp h=>h.elim⟩
theorem zx {α:Type} {l:List α} {i j:Nat} {v:α} (h:j≠i):(l.set i v)[j]? = l[j]? := List.getElem?_set_ne (Ne.symm h)
theorem Cl.set {O:List Nat} {Z:St} {i:Nat} {v:Option V} (hi:i ∉ O) (a:Addr):Cl O (Z.set i v) a ↔ Cl O Z a:=by
 constructor
 ·intro h j hj
  have e:j≠i:=fun e=>hi (e▸hj)
  have:=h j hj
  rw [zx e] at this
  exact this
 ·intro h j hj
  have e:j≠i:=fun e=>hi (e▸hj)
  rw [zx e]
  exact h j hj
theorem Rep.set {K:Fr0} {U:Env} {Z:St} {H:Hp} {i:Nat} {d:D} {v:V} (r:Rep K c U Z H) (hi:i ∉ c.O) (h:Is K (Cn c Z) H d v):Rep K c (U.set i (some d)) (Z.set i (some v)) H where
 len:=by rw [lS_,lS_];exact r.len
 val := fun j e hj=>by
  have up:∀ {d':D} {v':V},Is K (Cn c Z) H d' v'->Is K (Cn c (Z.set i (some v))) H d' v':=fun h=>Is.ext Ext.refl (fun a ha _=>⟨ha.1,(Cl.set hi a).mpr ha.2⟩) h
  by_cases e1:j=i
  ·subst e1
   have hl:j<U.length:=by
    have:=(gI_.mp hj).1
    rwa [lS_] at this
   rw [List.getElem?_set_self hl] at hj
   cases hj
   refine ⟨v,List.getElem?_set_self (by rw [<- r.len];exact hl),.inr ⟨hi,up h⟩⟩
  ·rw [zx e1] at hj
   obtain ⟨w,h1,h2⟩:=r.val j e hj
   refine ⟨w,by rw [zx e1];exact h1,?_⟩
   rcases h2 with ⟨hj2,ds,a,xs,h3,h5,h6,h7⟩ | ⟨h3,h4⟩
   ·exact .inl ⟨hj2,ds,a,xs,h3,h5,h6,IsL.ext Ext.refl (fun a ha _=>⟨ha.1,(Cl.set hi a).mpr ha.2⟩) h7⟩
   ·exact .inr ⟨h3,up h4⟩
 own:=fun j hj w h=>by
  have e1:j≠i:=fun e=>hi (e▸hj)
  rw [zx e1] at h
  exact r.own j hj w h
 inj:=fun j k a hj hk h1 h2=>by
  have e1:j≠i:=fun e=>hi (e▸hj)
  have e2:k≠i:=fun e=>hi (e▸hk)
  rw [zx e1] at h1
  rw [zx e2] at h2
  exact r.inj j k a hj hk h1 h2
 b0:=r.b0
 kp:=r.kp
 dm:=r.dm
 pO:=r.pO
 ps:=fun j hj=>by
  have e:j≠i:=fun e=>hi (e▸r.pO j hj)
  rw [zx e];exact r.ps j hj
theorem GrS.set {O:List Nat} {Z:St} {H:Hp} {i:Nat} {v:Option V} (hi:i ∉ O):GrS O Z H (Z.set i v) H:=⟨Ext.refl,fun b h _=>(Cl.set hi b).mpr h,fun _ h=>h⟩
def z7 (i:Nat) (f:M D):MS:=sbnd f fun d U => .ok (.nx (U.set i (some d)))
theorem zf {i:Nat} {x:Str} {pos':Pos} {f:M D} (hN:X.N.Nodup) (he:DE X c e f) (ho:i ∉ c.O:=by exact of_decide_eq_false rfl) (hi:X.N[i]? = some x:=by rfl) (hx:Loc X.env.scope x:=by first | exact Or.inl rfl | exact Or.inr rfl) (hs:swapsWith e (some (.Name x pos')) pos.line X.env=pure false:=by rfl) (hf:X.fn x=true\/X.env.scope.names.lookup x=some .local:=by first | exact .inl rfl | exact .inr rfl | assumption) :
  DS X c (.Assign [.Name x pos'] e pos) (z7 i f):=by
 obtain ⟨t,p,w⟩:=he
 refine ⟨_,qgA hN hi hx p hs hf,fun U Z H D r h=>w U Z H _ r (Wp.sbnd h fun d U1 v H1 r1 i1 g1 h1 => ?_)⟩
 exact h1 _ H1 (r1.set ho i1) (.set ho)
def DG (X:Cx) (c:Fc) (tg:Expr) (f:D->Env->Option Env):Prop:=∃ g,PG X tg g/\∀ U Z H d v U' (N:St->Hp->Prop),Rep X.K c U Z H->Is X.K (Cn c Z) H d v->f d U=some U' ->
 (∀ Z',Rep X.K c U' Z' H->GrS c.O Z H Z' H->(∀ j∈c.O,Z'[j]? = Z[j]?)->N Z' H)->g v Z H N
def qv (i:Nat):D->Env->Option Env:=fun d U=>some (U.set i (some d))
theorem qE {i:Nat} {x:Str} (hN:X.N.Nodup) (ho:i ∉ c.O:=by exact of_decide_eq_false rfl) (hi:X.N[i]? = some x:=by rfl) (hx:Loc X.env.scope x:=by first | exact Or.inl rfl | exact Or.inr rfl) (hf:X.fn x=true\/X.env.scope.names.lookup x=some .local:=by first | exact .inl rfl | exact .inr rfl | assumption) {p:Pos}:DG X c (.Name x p) (qv i):=by
 refine ⟨_,qkj hN hi hx hf,fun U Z H d v U' N r h e k => ?_⟩
 cases e
 exact k _ (r.set ho h) (.set ho) fun j hj=>zx fun e=>ho (e▸hj)
def DGs (X:Cx) (c:Fc) (tgs:List Expr) (f:List D->Env->Option Env):Prop:=∃ g,PGs X tgs g/\∀ U Z H ds vs U' (N:St->Hp->Prop),Rep X.K c U Z H->IsL X.K (Cn c Z) H ds vs->f ds U=some U' ->
 (∀ Z',Rep X.K c U' Z' H->GrS c.O Z H Z' H->(∀ j∈c.O,Z'[j]? = Z[j]?)->N Z' H)->g vs Z H N
def qbl:List D->Env->Option Env
 | [],U=>some U
 | _,_=>none
def zo (f:D->Env->Option Env) (g:List D->Env->Option Env):List D->Env->Option Env
 | d::ds,U=>(f d U).bind (g ds)
 | _,_=>none
theorem vd:DGs X c [] qbl:=by
 refine ⟨_,qkk,fun U Z H ds vs U' N r h e k => ?_⟩
 cases ds with
 | nil =>
  cases e
  exact ⟨h,k Z r .refl fun _ _=>rfl⟩
 | cons d ds=>cases e
theorem zw {tg:Expr} {tgs:List Expr} {f:D->Env->Option Env} {g:List D->Env->Option Env} (h1:DG X c tg f) (h2:DGs X c tgs g)
  (hs:(assignEach (tg::tgs) X.env).map (·.2)=assign tg X.env::(assignEach tgs X.env).map (·.2):=by rfl):DGs X c (tg::tgs) (zo f g):=by
 obtain ⟨t1,p1,w1⟩:=h1
 obtain ⟨t2,p2,w2⟩:=h2
 refine ⟨_,qil p1 p2 hs,fun U Z H ds vs U' N r h e k => ?_⟩
 cases ds with
 | nil=>cases e
 | cons d ds =>
  obtain ⟨v,ws,rfl,i1,i2⟩:=h
  have e':(f d U).bind (g ds)=some U':=e
  cases e1:f d U with
  | none=>rw [e1] at e';cases e'
  | some U1 =>
   rw [e1] at e'
   exact ⟨v,ws,rfl,w1 U Z H d v U1 _ r i1 e1 fun Z1 r1 g1 o1=>w2 U1 Z1 H ds ws U' N r1 (g1.isL i2) e' fun Z2 r2 g2 o2=>k Z2 r2 (g1.trans g2) fun j hj=>(o2 j hj).trans (o1 j hj)⟩
def qbm (n:Nat) (g:List D->Env->Option Env):D->Env->Option Env
 | .tup ds,U=>if ds.length=n then g ds U else none
 | _,_=>none
theorem qaG {es:List Expr} {k n:Nat} {p:Pos} {g:List D->Env->Option Env} (hc:X.calm=true) (h:DGs X c es g) (hn:(assignEach es X.env).length=n:=by rfl) (hst:(assignEach es X.env).findIdx? (·.1)=none:=by rfl):DG X c (.Tuple es k p) (qbm n g):=by
 obtain ⟨t,p,w⟩:=h
 refine ⟨_,ql9 (n:=n) hc p hn hst,fun U Z H d v U' N r h e q => ?_⟩
 cases d with
 | tup ds =>
  obtain ⟨a,xs,rfl,ta,il⟩:=h
  have e':(if ds.length=n then g ds U else none)=some U':=e
  by_cases hl:ds.length=n
  ·rw [if_pos hl] at e'
   exact ⟨a,xs,rfl,ta.sq,by rw [il.length];exact hl,w U Z H ds xs U' N r il e' q⟩
  ·rw [if_neg hl] at e';cases e'
 | _=>cases e
def qff (f:M D) (g:D->Env->Option Env):MS:=sbnd f fun d U=>match g d U with
 | some U' => .ok (.nx U')
 | none => .bad
theorem qgX {tg:Expr} {f:M D} {g:D->Env->Option Env} (he:DE X c e f) (hg:DG X c tg g) (hs:swapsWithSole [tg] e pos.line X.env=pure false:=by rfl) (hw:swappedStores [tg] e X.env=pure none:=by rfl) (h1:(assignEach [tg] X.env).map (·.2)=[assign tg X.env]:=by rfl):DS X c (.Assign [tg] e pos) (qff f g):=by
 obtain ⟨t,p,w⟩:=he
 obtain ⟨t2,p2,w2⟩:=hg
 refine ⟨_,qjv p p2 hs hw h1,fun U Z H D r h=>w U Z H _ r (Wp.sbnd h fun d U1 v H1 r1 i1 g1 h1 => ?_)⟩
 cases e:g d U1 with
 | none=>rw [e] at h1;exact h1.elim
 | some U2 =>
  rw [e] at h1
  exact w2 U1 Z H1 d v U2 _ r1 i1 e fun Z' r2 g2 _=>h1 Z' H1 r2 g2
end
section
variable {K:Fr0}
def iiD (g:Int->Int->D):D->D->Option D
 | .int i,.int j=>some (g i j)
 | _,_=>none
def qjD (C:Int->Int->Bool) (g:Int->Int->D):D->D->Option D
 | .int i,.int j=>if C i j then some (g i j) else none
 | _,_=>none
theorem qbn {g:Int->Int->V} {gD:Int->Int->D} (hg:∀ A H i j,Is K A H (gD i j) (g i j)):OpS K (iiD gD) (rI0 g):=by
 intro A H x y d v u Q hn ix iy e k
 cases x<;>cases y<;>simp only [iiD] at e<;>try (cases e;done)
 rename_i i j
 cases (Option.some.inj e)
 cases (show v = .int i from ix)
 cases (show u = .int j from iy)
 exact ⟨i,j,rfl,rfl,k _ H (ji.refl H) (hg _ _ _ _)⟩
theorem qgY {C:Int->Int->Prop} {CB:Int->Int->Bool} {g:Int->Int->V} {gD:Int->Int->D} (hC:∀ i j,CB i j=true->C i j) (hg:∀ A H i j,Is K A H (gD i j) (g i j)):OpS K (qjD CB gD) (rI C g):=by
 intro A H x y d v u Q hn ix iy e k
 cases x<;>cases y<;>simp only [qjD] at e<;>try (cases e;done)
 rename_i i j
 obtain ⟨e1,e2⟩:=jo e
 subst e2
 cases (show v = .int i from ix)
 cases (show u = .int j from iy)
 exact ⟨i,j,rfl,rfl,hC i j e1,k _ H (ji.refl H) (hg _ _ _ _)⟩
def qgt:D->D->Option D:=iiD fun i j => .int (i-j)
theorem qbo:OpS K qgt (rI0 fun i j => .int (i-j)):=qbn fun _ _ _ _=>rfl
def jz (i:Int):Bool:=decide (-(2 ^ 64)<i)&&decide (i<2 ^ 64)
theorem qdQ {i:Int} (h:jz i=true) : -(2 ^ 64)<i/\i<2 ^ 64:=by
 unfold jz at h
 rw [Bool.and_eq_true] at h
 exact ⟨of_decide_eq_true h.1,of_decide_eq_true h.2⟩
def qgZ (i j:Int):Bool:=jz i||jz j
theorem qiy {i j:Int} (h:qgZ i j=true):qmg i j:=by
 unfold qgZ at h
 rw [Bool.or_eq_true] at h
 rcases h with h | h
 ·exact .inl (qdQ h)
 ·exact .inr (qdQ h)
def qf2 (i j:Int):Bool:=decide (0<j)&&decide (j<1606938044258990275541962092341162602522202993782792835301376)
theorem qfg {i j:Int} (h:qf2 i j=true):qmf i j:=by
 unfold qf2 at h
 rw [Bool.and_eq_true] at h
 exact ⟨of_decide_eq_true h.1,of_decide_eq_true h.2⟩
def ve:D->D->Option D:=qjD qf2 fun i j => .int (i/j)
theorem uT:OpS K ve (rI qmf fun i j => .int (i/j)):=qgY (fun _ _=>qfg) fun _ _ _ _=>rfl
def qbp:D->D->Option D:=qjD (fun _ j=>decide (0<j)) fun i j => .int (i%j)
theorem vZ:OpS K qbp (rI (fun _ j=>0<j) fun i j => .int (i%j)):=qgY (fun _ _ h=>of_decide_eq_true h) fun _ _ _ _=>rfl
def ltD:D->D->Option D:=iiD fun i j => .bl (decide (i<j))
def leD:D->D->Option D:=iiD fun i j => .bl (decide (i<=j))
def gtD:D->D->Option D:=iiD fun i j => .bl (decide (j<i))
def geD:D->D->Option D:=iiD fun i j => .bl (decide (j<=i))
theorem qjE:OpS K ltD (rI0 fun i j => .bl (decide (i<j))):=qbn fun _ _ _ _=>rfl
theorem qbq:OpS K leD (rI0 fun i j => .bl (decide (i<=j))):=qbn fun _ _ _ _=>rfl
theorem uE:OpS K gtD (rI0 fun i j => .bl (decide (j<i))):=qbn fun _ _ _ _=>rfl
theorem qg0:OpS K geD (rI0 fun i j => .bl (decide (j<=i))):=qbn fun _ _ _ _=>rfl
def sc2:D->D->Option Bool
 | .non,.non=>some true | .non,.int _=>some false | .int _,.non=>some false | .non,.bl _=>some false | .bl _,.non=>some false | .non,.str _=>some false | .str _,.non=>some false
 | .int i,.int j=>some (decide (i=j)) | .bl i,.bl j=>some (decide (i=j)) | .str i,.str j=>some (decide (i=j))
 | .int _,.str _=>some false | .str _,.int _=>some false | .bl _,.str _=>some false | .str _,.bl _=>some false
 | _,_=>none
def eqS (x y:D):Option D:=(sc2 x y).map D.bl
def neS (x y:D):Option D:=(sc2 x y).map fun b=>D.bl (!b)
theorem qjF {A:Addr->Prop} {H:Hp} {x y:D} {v u:V} {b:Bool} (ix:Is K A H x v) (iy:Is K A H y u) (e:sc2 x y=some b):qoh v u=true/\decide (v=u)=b:=by
 cases x<;>cases y<;>simp only [sc2] at e<;>first
  | (cases e;done)
  | (cases ix;cases iy;cases e;exact ⟨rfl,rfl⟩)
  | (cases ix;cases iy;cases e;exact ⟨rfl,by simp⟩)
  | (cases ix;cases iy;cases e;exact ⟨rfl,by rw [Bool.eq_iff_iff];simp⟩)
theorem qkD:OpS K eqS rEq:=by
 intro A H x y d v u Q hn ix iy e k
 unfold eqS at e
 cases e1:sc2 x y with
 | none=>rw [e1] at e;cases e
 | some b =>
  rw [e1] at e
  cases e
  obtain ⟨h1,h2⟩:=qjF ix iy e1
  exact ⟨h1,by rw [h2];exact k _ H (ji.refl H) rfl⟩
theorem qkE:OpS K neS rNe:=by
 intro A H x y d v u Q hn ix iy e k
 unfold neS at e
 cases e1:sc2 x y with
 | none=>rw [e1] at e;cases e
 | some b =>
  rw [e1] at e
  cases e
  obtain ⟨h1,h2⟩:=qjF ix iy e1
  exact ⟨h1,by rw [h2];exact k _ H (ji.refl H) rfl⟩
def uF:D->Bool
 | .non=>true
 | _=>false
theorem qfh {A:Addr->Prop} {H:Hp} {x:D} {v:V} (ix:Is K A H x v):decide (v=V.non)=uF x:=by
 cases x with
 | non=>cases ix;rfl
 | bl b=>cases ix;rfl
 | int i=>cases ix;rfl
 | str s=>cases ix;rfl
 | tup ds=>obtain ⟨a,xs,rfl,_⟩:=ix;rfl
 | lst ds=>obtain ⟨a,xs,rfl,_⟩:=ix;rfl
 | dic ds=>obtain ⟨a,rfl,_⟩:=ix;rfl
 | fz ds=>obtain ⟨a,rfl,_⟩:=ix;rfl
 | exc ds=>obtain ⟨a,rfl,_⟩:=ix;rfl
def isN (x y:D):Option D:=if uF y then some (.bl (uF x)) else none
def qpN (x y:D):Option D:=if uF y then some (.bl (!uF x)) else none
theorem qbr:OpS K isN (fun x y H Q=>y = .non/\Q (.bl (decide (x = .non))) H):=by
 intro A H x y d v u Q hn ix iy e k
 obtain ⟨e1,e2⟩:=jo e
 subst e2
 have h:=qfh iy
 rw [e1] at h
 refine ⟨of_decide_eq_true h,?_⟩
 rw [qfh ix]
 exact k _ H (ji.refl H) rfl
def ixD:D->D->Option D
 | .tup ds,.int i=>atI ds i
 | .lst ds,.int i=>atI ds i
 | .fz ns,.int i=>(atI ns i).map D.int
 | _,_=>none
theorem IsL.atI {A:Addr->Prop} {H:Hp} {ds:List D} {xs:List V} {i:Int} {d:D} (h:IsL K A H ds xs) (e:L2.atI ds i=some d):∃ v,L2.atI xs i=some v/\Is K A H d v:=by
 unfold L2.atI at e |-
 rw [h.length]
 cases e1:ixN ds.length i with
 | none=>rw [e1] at e;cases e
 | some j =>
  rw [e1] at e
  exact h.get e
theorem qs:OpS K ixD (fun x y H Q=>qoo K x y H Q\/qop K x y H Q):=by
 intro A H x y d v u Q hn ix iy e k
 cases x<;>cases y<;>simp only [ixD] at e<;>try (cases e;done)
 ·rename_i ds i
  cases iy
  obtain ⟨a,xs,rfl,ta,il⟩:=ix
  obtain ⟨w,h1,h2⟩:=il.atI e
  exact .inr ⟨a,xs,i,w,rfl,rfl,ta.sq,h1,k w H (ji.refl H) h2⟩
 ·rename_i ds i
  cases iy
  obtain ⟨a,xs,rfl,_,ta,il⟩:=ix
  obtain ⟨w,h1,h2⟩:=il.atI e
  exact .inl ⟨a,xs,i,w,rfl,rfl,.inl (.inl ta),h1,k w H (ji.refl H) h2⟩
 ·rename_i ns i
  cases iy
  obtain ⟨a,rfl,ta⟩:=ix
  cases e1:L2.atI ns i with
  | none=>rw [e1] at e;cases e
  | some m =>
   rw [e1] at e
   cases e
   have h1:L2.atI (ns.map V.int) i=some (V.int m):=by
    unfold L2.atI at e1 |-
    rw [lM_]
    cases e2:ixN ns.length i with
    | none=>rw [e2] at e1;cases e1
    | some j =>
     rw [e2] at e1
     have e3:ns[j]? = some m:=e1
     show (ns.map V.int)[j]? = some (V.int m)
     rw [gM_,e3];rfl
   exact .inl ⟨a,_,i,.int m,rfl,rfl,ta.sq,h1,k _ H (ji.refl H) rfl⟩
theorem IsL.inv1 {A:Addr->Prop} {H:Hp} {d:D} {vs:List V} (h:IsL K A H [d] vs):∃ v,vs=[v]/\Is K A H d v:=by
 obtain ⟨x,ys,e1,e2,e3⟩:=h
 have e3':ys=[]:=e3
 exact ⟨x,by rw [e1,e3'],e2⟩
theorem IsL.inv2 {A:Addr->Prop} {H:Hp} {d d':D} {vs:List V} (h:IsL K A H [d,d'] vs):∃ v w,vs=[v,w]/\Is K A H d v/\Is K A H d' w:=by
 obtain ⟨x,ys,e1,e2,e3⟩:=h
 obtain ⟨w,e4,e5⟩:=IsL.inv1 e3
 exact ⟨x,w,by rw [e1,e4],e2,e5⟩
def qmE:List D->Option D
 | [.int i]=>some (.int (if i<0 then -i else i))
 | _=>none
theorem qdR:wJ K qmE (fun xs H Q=>∃ i,xs=[.int i]/\Q (.int (if i<0 then -i else i)) H):=by
 intro A H xs d vs Q hn h e k
 unfold qmE at e
 split at e
 ·rename_i i
  obtain ⟨v,rfl,e2⟩:=IsL.inv1 h
  cases e2;cases e
  exact ⟨i,rfl,k _ H (ji.refl H) rfl⟩
 ·cases e
def qdS:List D->Option D
 | [.int i,.int j]=>some (.int (if j>i then j else i))
 | _=>none
def qkF:List D->Option D
 | [.int i,.int j]=>some (.int (if j<i then j else i))
 | _=>none
theorem qdT:wJ K qdS (fun xs H Q=>∃ i j,xs=[.int i,.int j]/\Q (.int (if j>i then j else i)) H):=by
 intro A H xs d vs Q hn h e k
 unfold qdS at e
 split at e
 ·rename_i i j
  obtain ⟨v,w,rfl,e2,e3⟩:=IsL.inv2 h
  cases e2;cases e3;cases e
  exact ⟨i,j,rfl,k _ H (ji.refl H) rfl⟩
 ·cases e
theorem qg1:wJ K qkF (fun xs H Q=>∃ i j,xs=[.int i,.int j]/\Q (.int (if j<i then j else i)) H):=by
 intro A H xs d vs Q hn h e k
 unfold qkF at e
 split at e
 ·rename_i i j
  obtain ⟨v,w,rfl,e2,e3⟩:=IsL.inv2 h
  cases e2;cases e3;cases e
  exact ⟨i,j,rfl,k _ H (ji.refl H) rfl⟩
 ·cases e
def qbs:List D->Option D
 | [.int i,.int j]=>if qf2 i j then some (.tup [.int (i/j),.int (i%j)]) else none
 | _=>none
theorem qdU:wJ K qbs (fun xs H Q=>∃ i j,xs=[.int i,.int j]/\qmf i j/\∀ p,H p=none->Q (.ref p) (upd H p (.tup [.int (i/j),.int (i%j)]))):=by
 intro A H xs d vs Q hn h e k
 unfold qbs at e
 split at e
 ·rename_i i j
  obtain ⟨v,w,rfl,e2,e3⟩:=IsL.inv2 h
  cases e2;cases e3
  obtain ⟨e6,e7⟩:=jo e
  subst e7
  exact ⟨i,j,rfl,qfg e6,fun p hp=>k _ _ (qD hp _) ⟨p,_,rfl,.inl qA,_,_,rfl,rfl,_,_,rfl,rfl,rfl⟩⟩
 ·cases e
def qf3:List D->Option D
 | [.int i]=>some (.int i)
 | [.bl b]=>some (.int (if b then 1 else 0))
 | _=>none
theorem qf4:wJ K qf3 (fun xs H Q=>(∃ i,xs=[.int i]/\Q (.int i) H)\/∃ k,xs=[.bl k]/\Q (.int (if k then 1 else 0)) H):=by
 intro A H xs d vs Q hn h e k
 unfold qf3 at e
 split at e
 ·rename_i i
  obtain ⟨v,rfl,e2⟩:=IsL.inv1 h
  cases e2;cases e
  exact .inl ⟨i,rfl,k _ H (ji.refl H) rfl⟩
 ·rename_i b
  obtain ⟨v,rfl,e2⟩:=IsL.inv1 h
  cases e2;cases e
  exact .inr ⟨b,rfl,k _ H (ji.refl H) rfl⟩
 ·cases e
def qaH:List D->Option D
 | [.tup ds]=>some (.int ds.length)
 | [.lst ds]=>some (.int ds.length)
 | [.fz ns]=>some (.int ns.length)
 | [.str x]=>if qT x.length then some (.int x.length) else none
 | _=>none
def qo7 (K:Fr0):List V->Hp->VK->Prop:=fun xs H Q=>(∃ p ys,xs=[.ref p]/\(SqL K H p ys\/SqT K H p ys)/\Q (.int ys.length) H)\/(∃ z,xs=[.str z]/\z.length<=sizeLine/\Q (.int z.length) H)
theorem zy {X:Cx}:yR X (.builtin "len") (qo7 X.K):=yR.or qdJ qdK
theorem zA:wJ K qaH (qo7 K):=by
 intro A H xs d vs Q hn h e k
 unfold qaH at e
 split at e
 ·obtain ⟨v,rfl,a,zs,rfl,ta,il⟩:=IsL.inv1 h
  cases e
  exact .inl ⟨a,zs,rfl,.inr ta.sq,by rw [il.length];exact k _ H (ji.refl H) rfl⟩
 ·obtain ⟨v,rfl,a,zs,rfl,_,ta,il⟩:=IsL.inv1 h
  cases e
  exact .inl ⟨a,zs,rfl,.inl (.inl (.inl ta)),by rw [il.length];exact k _ H (ji.refl H) rfl⟩
 ·obtain ⟨v,rfl,a,rfl,ta⟩:=IsL.inv1 h
  cases e
  exact .inl ⟨a,_,rfl,.inl ta.sq,by rw [lM_];exact k _ H (ji.refl H) rfl⟩
 ·rename_i z
  obtain ⟨v,rfl,e2⟩:=IsL.inv1 h
  cases e2
  obtain ⟨e4,e5⟩:=jo e
  subst e5
  exact .inr ⟨z,rfl,of_decide_eq_true e4,k _ H (ji.refl H) rfl⟩
 ·cases e
def qg2:List D->Option D
 | [.tup ds]=>some (.tup ds)
 | [.lst ds]=>some (.tup ds)
 | _=>none
theorem qeF:wJ K qg2 (fun xs H Q=>∃ p ys,xs=[.ref p]/\((SqL K H p ys/\∀ l,H l=none->Q (.ref l) (upd H l (.tup ys)))\/(SqT K H p ys/\Q (.ref p) H))):=by
 intro A H xs d vs Q hn h e k
 unfold qg2 at e
 split at e
 ·obtain ⟨v,rfl,a,zs,rfl,ta,il⟩:=IsL.inv1 h
  cases e
  exact ⟨a,zs,rfl,.inr ⟨ta.sq,k _ H (ji.refl H) ⟨a,zs,rfl,ta,il⟩⟩⟩
 ·obtain ⟨v,rfl,a,zs,rfl,_,ta,il⟩:=IsL.inv1 h
  cases e
  exact ⟨a,zs,rfl,.inl ⟨.inl (.inl ta),fun l hl=>k _ _ (qD hl _) ⟨l,zs,rfl,.inl qA,IsL.ext (Ext.of_same (qD hl _)) (fun _ h _=>h) il⟩⟩⟩
 ·cases e
end
end L2.Sk
namespace L2.Sk
open PySem PySem.Spec PySem.Calls PyProof.Rows PySem.W
def qjG (h:Heap) (a D:Addr):Prop:=∃ o,h.get? a=some o/\o.cls = .ref D
theorem qjG.looks {M:Model} {h:Heap} {a D:Addr} (I:qjG h a D):Looks M h (typeOf (.ref a)) (.ref D):=by
 obtain ⟨o,h1,h2⟩:=I
 rw [<- h2]
 exact (Looks.ld h1).andThen .now
section
variable {prog:Program} {w:World} {A:Around} {E:Value->Shared->Prop} {K:Frag} {h:Heap} {g:Array GenState} {d:Drawn} {t:Nat} {os:OsState} {a D:Addr}
theorem qmF (hm:mroIn K D (.type "object")=some true) {tp:Value} {R:Result->Shared->Prop} (X:K.In h) (I:qjG h a D) (hq:R (.ok (.ret (.ref D))) ⟨h,g,d,t,os⟩) :
  codeAny (model prog w) A (.call (.builtin "getset_descriptor.__get__") ⟨[.builtin "object.__class__",.ref a,tp],[]⟩) R ⟨h,g,d,t,os⟩:=by
 have L0:=I.looks (M:=model prog w)
 have L1:=looks_mroIn (M:=model prog w) X hm
 have hT5:(⟨h,g,d,t,os⟩:Shared).TypeIs (.builtin "object.__class__") "getset_descriptor":=F.typeOf_object_class
 refine codeAny_call_builtin F.slot_gs_get.plain F.entry_gs_get (F.slot_gs_get.check _ _ _ _ _ _ _ _ hT5 (F.args_gs_get _ _ _) ?_)
 have eo:".".intercalate ("object.__class__".cutAt '.').dropLast="object":=by decide +kernel
 repeat (any_goals (first | assumption | with_reducible refine L0.at ?_ | with_reducible refine L1.at ?_ | wp_step))
 rw [eo]
 refine L1.at ?_
 repeat (any_goals (first | assumption | with_reducible refine L0.at ?_ | wp_step))
 refine ⟨Code.quiet_builtin _ (by decide +kernel),codeAny_builtin F.entry_object_class ?_⟩
 repeat (any_goals (first | assumption | with_reducible refine L0.at ?_ | wp_step))
theorem qiz (ha:findIn K (.ref D) "__class__"=some (some (.builtin "object.__class__"))) (hm:mroIn K D (.type "object")=some true) {tk:Tok} {Q:Fin->Shared->Prop} (X:K.In h) (I:qjG h a D) (hq:Q (.done (.ret (.ref D))) ⟨h,g,d,t,os⟩) :
  wpAny (model prog w) A (Builtin.«object.__getattribute__» ⟨[.ref a,.str "__class__" tk],[]⟩) Q E ⟨h,g,d,t,os⟩:=by
 have L0:=I.looks (M:=model prog w)
 have L1:=looks_findIn (M:=model prog w) X ha
 have hT5:(⟨h,g,d,t,os⟩:Shared).TypeIs (.builtin "object.__class__") "getset_descriptor":=F.typeOf_object_class
 have f5:=F.typeOf_object_class
 have f6:=F.slot_gs_get.lookup
 have f7:=F.slot_gs_set.lookup
 repeat (any_goals (first | assumption | with_reducible refine L0.at ?_ | with_reducible refine L1.at ?_ | wp_step))
 refine qmF hm X I ?_
 repeat (any_goals (first | assumption | wp_step))
theorem qiA (hb:Looks (model prog w) h (isSubtype (.ref D) (.type "BaseException")) true) {nameV:Value} {Q:Unit->Shared->Prop} (I:qjG h a D) (hq:Q () ⟨h,g,d,t,os⟩):wpAny (model prog w) A (checkBuiltinCall "BaseException.__getattribute__" ⟨[.ref a,nameV],[]⟩) Q E ⟨h,g,d,t,os⟩:=by
 have hk:builtinKind "BaseException.__getattribute__"=some .slot:=by decide +kernel
 have hsplit:splitId "BaseException.__getattribute__"=some ("BaseException","__getattribute__"):=by decide +kernel
 have L0:=I.looks (M:=model prog w)
 have ha:=F.args_bexc_ga (.ref a) nameV
 simp only [checkBuiltinCall,hk,hsplit]
 refine wpAny_bind ?_
 ·unfold isInstance
  repeat (first | with_reducible refine L0.at ?_ | with_reducible refine hb.at ?_ | wp_step)
  exact hq
theorem qos (FA:ExcAttrFacts "ValueError") (hga:findIn K (.ref D) "__getattribute__"=some (some (.builtin "BaseException.__getattribute__"))) (hgt:findIn K (.ref D) "__getattr__"=some none) (ha:findIn K (.ref D) "__class__"=some (some (.builtin "object.__class__"))) (hm:mroIn K D (.type "object")=some true)
  (hb:Looks (model prog w) h (isSubtype (.ref D) (.type "BaseException")) true) {tk:Tok} {fill expr:Bool} {Q:Value->Shared->Prop} (X:K.In h) (I:qjG h a D) (hq:Q (.ref D) ⟨h,g,d,t,os⟩) :
  wpAny (model prog w) A (getAttrBy (.ref a) (.str "__class__" tk) fill expr) Q E ⟨h,g,d,t,os⟩:=by
 have L0:=I.looks (M:=model prog w)
 have L1:=looks_findIn (M:=model prog w) X hga
 have L2:=looks_findIn (M:=model prog w) X hgt
 have f3:=FA.ga.bind (.ref a)
 have hx0:(expr&&onTheHeap (Value.builtin "BaseException.__getattribute__"))=false:=by cases expr<;>rfl
 have hx2:(Value.builtin "BaseException.__getattribute__"==Value.builtin "object.__getattribute__")=false:=by decide +kernel
 have hx1:(onTheHeap (Value.ref D)&&Value.builtin "BaseException.__getattribute__"==Value.builtin "object.__getattribute__")=false:=by rw [hx2];rfl
 repeat (any_goals (first | assumption | with_reducible refine L0.at ?_ | with_reducible refine L1.at ?_ | with_reducible refine L2.at ?_ | wp_step))
 refine codeAny_call_builtin FA.ga.plain F.entry_bexc_ga (qiA hb I (qiz ha hm X I ?_))
 repeat (any_goals (first | assumption | wp_step))
theorem qkG (FA:ExcAttrFacts "ValueError") (hga:findIn K (.ref D) "__getattribute__"=some (some (.builtin "BaseException.__getattribute__"))) (hgt:findIn K (.ref D) "__getattr__"=some none) (ha:findIn K (.ref D) "__class__"=some (some (.builtin "object.__class__"))) (hm:mroIn K D (.type "object")=some true)
  (hb:Looks (model prog w) h (isSubtype (.ref D) (.type "BaseException")) true) {Q:Option Value->Shared->Prop} (X:K.In h) (I:qjG h a D) (hq:Q (some (.ref D)) ⟨h,g,d,t+1,os⟩) :
  wpAny (model prog w) A (getAttr? (.ref a) "__class__") Q E ⟨h,g,d,t,os⟩:=by
 unfold getAttr? getAttrBy?
 repeat (any_goals (first | assumption | with_reducible apply qos FA hga hgt ha hm hb X I | wp_step))
end
theorem qiB {K:Frag} {a D:Addr} (c:XK6 K D):KitX K (.ref a) (.ref D) (fun h=>qjG h a D) where
 ty:=fun _ _ _ I=>I.looks
 it := fun _ _ X _=>by
  obtain ⟨cdD,hcD⟩:=Option.isSome_iff_exists.mp c.is
  unfold clsIn at hcD
  split at hcD
  ·rename_i c' d' cd' sl' ho
   intro A' Q' E' s' k q
   unfold isType loadHead
   exact wpAny_bind (wpAny_loadPart (k _ _ (X _ _ ho)) (wpAny_pure q))
  ·cases hcD
 ne := fun h tp dd its n sl X htp=>by
  obtain ⟨cdD,hcD⟩:=Option.isSome_iff_exists.mp c.is
  refine Bool.eq_false_iff.mpr fun q => ?_
  have e:D=tp:=Value.ref.inj (beq_iff_eq.mp q)
  subst e
  unfold clsIn at hcD
  split at hcD
  ·rename_i c' d' cd' sl' ho
   have z:=(X _ _ ho).symm.trans htp
   cases z
  ·cases hcD
 ca:=fun {prog w A E Q s} X p k=>by
  have I:=p
  obtain ⟨h,g,d,t,os⟩:=s
  exact qkG PySem.F.attrBase_ValueError.toExcAttrFacts c.ga c.gt c.cl c.ob (looks_subIn X c.be) X I k
theorem qf5 {X:Cx} {pins:List (Addr×Obj)} {Z:St} {H:Hp} {s:Shared} {A:Around} {E:Value->Shared->Prop} {Q:Value->Shared->Prop} {a C:Addr} {c:Value} {b:Bool} (I:Inv X pins Z H s) (xc:XK6 X.K C) (hH:∃ o vs,H a=some (.frz o (.own a))/\o.cls = .ref C/\o.data = .fields vs)
  (e:kitOne X.K (.ref C) c=some b) (h:∀ tk,Q (.bool b) { s with toks:=tk }):wpAny (model X.prog X.w) A (call (.builtin "isinstance") [.ref a,c]) Q E s:=by
 obtain ⟨o,vs,h1,h2,_⟩:=hH
 obtain ⟨p,_⟩:=(show uh X.prog X.w H s.heap a (.frz o (.own a)) from I.hok a _ h1)
 exact kia_one (qiB xc) I.kIn ⟨o,p,h2⟩ e (fun z=>nomatch z) h
end L2.Sk
namespace L2.Sk
open PySem PySem.Spec PyProof.Rows
def tyD:D->String
 | .non=>"NoneType"
 | .bl _=>"bool"
 | .int _=>"int"
 | .str _=>"str"
 | .tup _=>"tuple"
 | .lst _=>"list"
 | .dic _=>"dict"
 | .fz _=>"list"
 | .exc _=>"exc"
def qeG (t T:String):Bool:=t==T||(t=="bool"&&T=="int")
def qf6:List String:=["NoneType","bool","int","str","tuple","list","dict"]
theorem qkH (d:D) (h:∀ C,d ≠ .exc C):tyD d∈qf6:=by
 cases d<;>first | (simp [tyD,qf6];done) | exact absurd rfl (h _)
structure qlR (K:Fr0) (T:String):Prop where
 ok:∀ t∈qf6,PySem.W.kitOne K (.type t) (.type T)=some (qeG t T)
 ex:T∈["int","bool","str","tuple","list","dict"]
 nx:qeG "exc" T=false
theorem qkI {K:Fr0}:qlR K "int":=⟨fun t ht=>by
 simp only [qf6,List.mem_cons,nN_,or_false] at ht
 rcases ht with rfl | rfl | rfl | rfl | rfl | rfl | rfl<;>kernel_rfl,by decide,by decide⟩
theorem qiC {K:Fr0}:qlR K "bool":=⟨fun t ht=>by
 simp only [qf6,List.mem_cons,nN_,or_false] at ht
 rcases ht with rfl | rfl | rfl | rfl | rfl | rfl | rfl<;>kernel_rfl,by decide,by decide⟩
theorem vf {K:Fr0}:qlR K "tuple":=⟨fun t ht=>by
 simp only [qf6,List.mem_cons,nN_,or_false] at ht
 rcases ht with rfl | rfl | rfl | rfl | rfl | rfl | rfl<;>kernel_rfl,by decide,by decide⟩
section
variable {X:Cx} {pins:List (Addr×Obj)} {Z:St} {H:Hp} {s:Shared} {A:Addr->Prop} {E:Value->Shared->Prop} {Q:Value->Shared->Prop}
theorem qmG {d:D} {v:V} {u:Value} {T:String} (I:Inv X pins Z H s) (h:Is X.K A H d v) (rv:jN v u) (kt:qlR X.K T) (hQ:∀ tk,Q (.bool (qeG (tyD d) T)) { s with toks:=tk }) :
  wpAny (model X.prog X.w) X.A (call (.builtin "isinstance") [u,.type T]) Q E s:=by
 by_cases hx:∃ C,d = .exc C
 ·obtain ⟨C,rfl⟩:=hx
  obtain ⟨a,rfl,xa⟩:=h
  cases (show u=Value.ref a from rv)
  have q:∀ tk,Q (.bool false) { s with toks:=tk }:=fun tk=>by
   have:=hQ tk
   rw [show tyD (.exc C)="exc" from rfl,kt.nx] at this
   exact this
  obtain ⟨D0,h0,h1,h2⟩:=xa
  exact qf5 I h1 h2 (h1.no T kt.ex) q
 have e:=kt.ok (tyD d) (qkH d fun C hC=>hx ⟨C,hC⟩)
 cases d with
 | exc C=>exact absurd ⟨C,rfl⟩ hx
 | non=>cases h;exact uC I rv .non e hQ
 | bl b=>cases h;exact uC I rv (.bl b) e hQ
 | int i=>cases h;exact uC I rv (.int i) e hQ
 | str x=>cases h;exact uC I rv (.str x) e hQ
 | tup ds =>
  obtain ⟨a,xs,rfl,ta,il⟩:=h
  cases (show u=Value.ref a from rv)
  obtain ⟨its,r,p,z⟩:=I.tuple ta.sq
  obtain ⟨o,h1,h2,_⟩:=p
  exact PySem.W.kia_one PySem.W.kitx_tuple I.kIn ⟨o,h1,h2⟩ e (fun z=>nomatch z) hQ
 | lst ds =>
  obtain ⟨a,xs,rfl,hA,ta,il⟩:=h
  exact uC I rv (.lst ta) e hQ
 | dic kvs =>
  obtain ⟨a,rfl,hA,ta⟩:=h
  exact uC I rv (.dK ta) e hQ
 | fz ns =>
  obtain ⟨a,rfl,ta⟩:=h
  cases (show u=Value.ref a from rv)
  obtain ⟨its,r,p,z⟩:=I.list ta.sq
  obtain ⟨o,h1,h2,_⟩:=p.isList
  exact PySem.W.kia_one PySem.W.kitx_list I.kIn ⟨o,h1,h2⟩ e (fun z=>nomatch z) hQ
end
def qid (T:String) (f:M D):M D:=bnd f fun d=>ret (.bl (qeG (tyD d) T))
section
variable {X:Cx} {c:Fc} {a b e:Expr} {pos:Pos}
def qpO (K:Fr0) (T:String):List V->Hp->VK->Prop:=fun xs H Q=>∃ v d A,xs=[v,.ty T]/\Is K A H d v/\Q (.bl (qeG (tyD d) T)) H
theorem qiD {T:String} (kt:qlR X.K T):yR X (.builtin "isinstance") (qpO X.K T):=by
 intro pins s Z H xs us Q I r h
 obtain ⟨v,d,A,rfl,hi,q⟩:=h
 obtain ⟨u,w,rfl,r1,r2⟩:=zb.two r
 cases (show w=Value.type T from r2)
 exact qmG I hi r1 kt fun tk=>⟨.bl _,H,I.tok tk,rfl,q⟩
theorem qbt {T:String} {x:Str} {p p2:Pos} {f:M D} (kt:qlR X.K T) (hg:Gl X "isinstance") (hm:X.mg "isinstance"=none) (hg2:Gl X x) (hm2:X.mg x=none) (hv2:bootBuiltins x=some (.type T)) (ha:DE X c a f)
  (hv:bootBuiltins "isinstance"=some (.builtin "isinstance"):=by first | rfl | exact PySem.boot_isinstance) (hn2:x≠"__name__":=by decide) (hdb2:(x==("__debug__":Str))=false:=by decide)
  (he:starEach [a,.Name x p2] X.env=(false,eval a X.env)::starEach [.Name x p2] X.env:=by rfl) (hpl:(backTo pos (starEach [.Name x p2] X.env)).any (·.1)=false:=by rfl):DE X c (.Call (.Name "isinstance" p) [a,.Name x p2] [] pos) (qid T f):=by
 obtain ⟨t,pa,w⟩:=ha
 refine ⟨_,qfd (qiD kt) hg hm hv (vb pa (vb (qke (v := .ty T) hg2 hm2 hv2 rfl hn2 hdb2) qcb (by rfl)) he) (by decide) (by decide) he hpl,fun U Z H Q r h=>w U Z H _ r (Wp.bnd h fun d U1 v H1 r1 i1 g1 h1 => ?_)⟩
 exact ⟨v,d,_,rfl,i1,h1 _ H1 r1 rfl .refl⟩
end
def uk:List D->Option (List Bool)
 | []=>some []
 | .bl b::r=>(uk r).map (b::·)
 | _=>none
def v3:List D->Option (List Int)
 | []=>some []
 | .int i::r=>(v3 r).map (i::·)
 | _=>none
theorem v4 {K:Fr0} {A:Addr->Prop} {H:Hp}:∀ {ds:List D} {xs:List V} {bs:List Bool},IsL K A H ds xs->uk ds=some bs->xs=bs.map V.bl
 | [],_,_,h,e=>by cases e;exact h
 | .bl b::r,_,bs,⟨x,ys,hx,h1,h2⟩,e=>by
  cases h1
  cases e1:uk r with
  | none=>simp [uk,e1] at e
  | some l =>
   simp [uk,e1] at e
   subst e
   rw [hx,v4 h2 e1];rfl
 | .non::_,_,_,_,e=>by cases e
 | .int _::_,_,_,_,e=>by cases e
 | .str _::_,_,_,_,e=>by cases e
 | .tup _::_,_,_,_,e=>by cases e
 | .lst _::_,_,_,_,e=>by cases e
 | .dic _::_,_,_,_,e=>by cases e
 | .fz _::_,_,_,_,e=>by cases e
 | .exc _::_,_,_,_,e=>by cases e
theorem vF {K:Fr0} {A:Addr->Prop} {H:Hp}:∀ {ds:List D} {xs:List V} {bs:List Int},IsL K A H ds xs->v3 ds=some bs->xs=bs.map V.int
 | [],_,_,h,e=>by cases e;exact h
 | .int b::r,_,bs,⟨x,ys,hx,h1,h2⟩,e=>by
  cases h1
  cases e1:v3 r with
  | none=>simp [v3,e1] at e
  | some l =>
   simp [v3,e1] at e
   subst e
   rw [hx,vF h2 e1];rfl
 | .non::_,_,_,_,e=>by cases e
 | .bl _::_,_,_,_,e=>by cases e
 | .str _::_,_,_,_,e=>by cases e
 | .tup _::_,_,_,_,e=>by cases e
 | .lst _::_,_,_,_,e=>by cases e
 | .dic _::_,_,_,_,e=>by cases e
 | .fz _::_,_,_,_,e=>by cases e
 | .exc _::_,_,_,_,e=>by cases e
theorem qfi {bs:List Bool}:∀ {us:List Value},zb (bs.map V.bl) us->LSm.BoolsAre us bs:=by
 induction bs with
 | nil=>intro us r;rw [List.map_nil] at r;cases r;exact .nil
 | cons b bs ih =>
  intro us r
  rw [mC_] at r
  cases r with
  | cons r1 r2 =>
   cases (show _=Value.bool b from r1)
   exact .cons b (ih r2)
section
variable {X:Cx}
theorem qa0 (hc:X.calm=true):yR X (.builtin "all") (fun xs H Q=>∃ (p:Addr) (bs:List Bool),xs=[.ref p]/\H p=some (.lst (bs.map V.bl))/\Q (.bl (bs.all id)) H):=by
 intro pins s Z H xs us Q I r h
 obtain ⟨p,bs,rfl,hp,q⟩:=h
 obtain ⟨u,rfl,ru⟩:=zb.one r
 cases ru
 obtain ⟨its,rv,pl,hz⟩:=I.list (SqL.of hp)
 have hl:=pl.isList
 have hb:=qfi rv
 have hlt:p<s.heap.objs.size:=by obtain ⟨_,e,_⟩:=hl;exact Heap.lt_size e
 refine call_all_walk (wpAny_pyIter_list hl ?_)
 refine ⟨s.heap.objs.size,[s.heap.objs.size,p],[s.heap.objs.size],its.toArray.size,_,_,fun i=>(bs[i]?).getD true,rfl,Walks.list (A:=X.A.in1) (I.ok.hd hc) _ p (Nat.ne_of_lt hlt) its.toArray,
  ⟨⟨_,Heap.get?_push_size _ rfl,rfl,rfl⟩,hl.push _⟩,fun i v s' Q' E' hP hQ => ?_,fun h' tk hk => ?_⟩
 ·obtain ⟨b,e,rfl⟩:=hb.get i v (by simpa using hP)
  simp only [e,Option.getD_some] at hQ
  exact wpAny_truthy_bool hQ
 ·have e:((List.range its.toArray.size).all fun i=>(bs[i]?).getD true)=bs.all id:=by
   rw [sT_,hb.length];exact LSm.range_all bs
  rw [e]
  exact ⟨.bl _,H,I.kept (LSm.kept_iter hk),rfl,q⟩
theorem qiE (hc:X.calm=true):yR X (.builtin "any") (fun xs H Q=>∃ (p:Addr) (bs:List Bool),xs=[.ref p]/\H p=some (.lst (bs.map V.bl))/\Q (.bl (bs.any id)) H):=by
 intro pins s Z H xs us Q I r h
 obtain ⟨p,bs,rfl,hp,q⟩:=h
 obtain ⟨u,rfl,ru⟩:=zb.one r
 cases ru
 obtain ⟨its,rv,pl,hz⟩:=I.list (SqL.of hp)
 have hl:=pl.isList
 have hb:=qfi rv
 have hlt:p<s.heap.objs.size:=by obtain ⟨_,e,_⟩:=hl;exact Heap.lt_size e
 refine call_any_walk (wpAny_pyIter_list hl ?_)
 refine ⟨s.heap.objs.size,[s.heap.objs.size,p],[s.heap.objs.size],its.toArray.size,_,_,fun i=>(bs[i]?).getD false,rfl,Walks.list (A:=X.A.in1) (I.ok.hd hc) _ p (Nat.ne_of_lt hlt) its.toArray,
  ⟨⟨_,Heap.get?_push_size _ rfl,rfl,rfl⟩,hl.push _⟩,fun i v s' Q' E' hP hQ => ?_,fun h' tk hk => ?_⟩
 ·obtain ⟨b,e,rfl⟩:=hb.get i v (by simpa using hP)
  simp only [e,Option.getD_some] at hQ
  exact wpAny_truthy_bool hQ
 ·have e:((List.range its.toArray.size).any fun i=>(bs[i]?).getD false)=bs.any id:=by
   rw [sT_,hb.length];exact LSm.range_any bs
  rw [e]
  exact ⟨.bl _,H,I.kept (LSm.kept_iter hk),rfl,q⟩
theorem qa1 (hc:X.calm=true):yR X (.builtin "sum") (fun xs H Q=>∃ (p:Addr) (ns:List Int),xs=[.ref p]/\H p=some (.lst (ns.map V.int))/\Q (.int ns.sum) H):=by
 intro pins s Z H xs us Q I r h
 obtain ⟨p,ns,rfl,hp,q⟩:=h
 obtain ⟨u,rfl,ru⟩:=zb.one r
 cases ru
 obtain ⟨its,rv,pl,hz⟩:=I.list (SqL.of hp)
 have hl:=pl.isList
 have hi:IntsAre its ns:=qae rv
 obtain ⟨zs,hx⟩:=hi.allInts.items
 have hl':s.heap.IsList p (intItems zs):=hx▸hl
 refine sum_intListG (I.ok.hd hc) hl' fun h' tk t' hk => ?_
 have e1:ns=zs.toList.map (·.1):=by
  rw [<- nums_intItems,<- hx]
  exact (show numsOf its.toArray.toList=ns from hi.numsOf).symm
 have e2:preSum (numAt zs) zs.size=ns.sum:=by
  rw [preSum_eq,List.take_of_length_le (by simp),e1]
 rw [e2]
 exact ⟨.int _,H,I.kept hk,⟨_,rfl⟩,q⟩
end
def qeH:List D->Option D
 | [.lst ds]=>(uk ds).map fun bs => .bl (bs.all id)
 | _=>none
def qmH:List D->Option D
 | [.lst ds]=>(uk ds).map fun bs => .bl (bs.any id)
 | _=>none
def qgu:List D->Option D
 | [.lst ds]=>(v3 ds).map fun bs => .int bs.sum
 | _=>none
section
variable {K:Fr0}
theorem wK:wJ K qeH (fun xs H Q=>∃ (p:Addr) (bs:List Bool),xs=[.ref p]/\H p=some (.lst (bs.map V.bl))/\Q (.bl (bs.all id)) H):=by
 intro A H xs d vs Q hn h e k
 unfold qeH at e
 split at e
 ·obtain ⟨v,rfl,a,zs,rfl,_,ta,il⟩:=IsL.inv1 h
  obtain ⟨bs,h1,h2⟩:=Option.map_eq_some_iff.mp e
  subst h2
  rw [v4 il h1] at ta
  exact ⟨a,bs,rfl,ta,k _ H (ji.refl H) rfl⟩
 ·cases e
theorem qg3:wJ K qmH (fun xs H Q=>∃ (p:Addr) (bs:List Bool),xs=[.ref p]/\H p=some (.lst (bs.map V.bl))/\Q (.bl (bs.any id)) H):=by
 intro A H xs d vs Q hn h e k
 unfold qmH at e
 split at e
 ·obtain ⟨v,rfl,a,zs,rfl,_,ta,il⟩:=IsL.inv1 h
  obtain ⟨bs,h1,h2⟩:=Option.map_eq_some_iff.mp e
  subst h2
  rw [v4 il h1] at ta
  exact ⟨a,bs,rfl,ta,k _ H (ji.refl H) rfl⟩
 ·cases e
theorem wL:wJ K qgu (fun xs H Q=>∃ (p:Addr) (ns:List Int),xs=[.ref p]/\H p=some (.lst (ns.map V.int))/\Q (.int ns.sum) H):=by
 intro A H xs d vs Q hn h e k
 unfold qgu at e
 split at e
 ·obtain ⟨v,rfl,a,zs,rfl,_,ta,il⟩:=IsL.inv1 h
  obtain ⟨bs,h1,h2⟩:=Option.map_eq_some_iff.mp e
  subst h2
  rw [vF il h1] at ta
  exact ⟨a,bs,rfl,ta,k _ H (ji.refl H) rfl⟩
 ·cases e
end
section
variable {X:Cx}
def qjH (K:Fr0):R2:=fun x y H Q=>∃ a b ys,x = .ref a/\y = .ref b/\SqT K H a []/\SqT K H b ys/\Q (.ref b) H
theorem qiF:OpR X (binaryOp .Add) (qjH X.K):=by
 intro pins s Z H x y v u Q I rx ry h
 obtain ⟨a,b,ys,rfl,rfl,ha,hb,q⟩:=h
 cases rx
 cases ry
 obtain ⟨its,r1,p1,_⟩:=I.tuple ha
 obtain ⟨its2,r2,p2,_⟩:=I.tuple hb
 cases r1
 obtain ⟨⟨cls,dd,data,sl⟩,ho,hc,n,hd⟩:=id p1
 obtain ⟨⟨cls2,dd2,data2,sl2⟩,ho2,hc2,n2,hd2⟩:=id p2
 simp only at hc hd hc2 hd2
 subst hc hd hc2 hd2
 exact concat_meets ⟨_,ho,rfl⟩ ⟨_,ho2,rfl⟩ noFill_tuple_add seq_tuple_add PySem.F.slot_tuple_add PySem.F.entry_tuple_add (PySem.F.args_tuple_add_2 _ _)
   (tuple_addW0 a b [].toArray its2.toArray n n2 dd dd2 sl sl2 (by simp)) ⟨ho,ho2,⟨.ref b,H,I,rfl,q⟩⟩
def qmI (K:Fr0):R2:=fun x y H Q=>(∃ i j,x = .int i/\y = .int j/\Q (.int (i+j)) H)\/((∃ i j,x = .str i/\y = .str j/\i.length+j.length<=sizeLine/\Q (.str (i++j)) H)\/(qjH K x y H Q\/(qms K x y H Q\/qo4 x y H Q)))
theorem zp:OpR X (binaryOp .Add) (qmI X.K):=OpR.or qmh (OpR.or qfW (OpR.or qiF (OpR.or qkv qmy)))
end
def z4:D->D->Option D
 | .int i,.int j=>some (.int (i+j))
 | .str x,.str y=>if qT (x.length+y.length) then some (.str (x++y)) else none
 | .tup xs,.tup ys=>if qT (xs.length+ys.length) then some (.tup (xs++ys)) else none
 | .lst xs,.lst ys=>if qT (xs.length+ys.length) then some (.lst (xs++ys)) else none
 | _,_=>none
theorem zq {K:Fr0}:OpS K z4 (qmI K):=by
 intro A H x y d v u Q hn ix iy e k
 cases x<;>cases y<;>simp only [z4] at e<;>try (cases e;done)
 ·rename_i i j
  cases ix;cases iy;cases e
  exact .inl ⟨i,j,rfl,rfl,k _ H (ji.refl H) rfl⟩
 ·rename_i i j
  cases ix;cases iy
  obtain ⟨e1,e2⟩:=jo e
  subst e2
  exact .inr (.inl ⟨i,j,rfl,rfl,of_decide_eq_true e1,k _ H (ji.refl H) rfl⟩)
 ·rename_i ds es
  obtain ⟨a,xs,rfl,ta,il⟩:=ix
  obtain ⟨b,ys,rfl,tb,jl⟩:=iy
  obtain ⟨e1,e2⟩:=jo e
  subst e2
  have hs:xs.length+ys.length<=sizeLine:=by rw [il.length,jl.length];exact of_decide_eq_true e1
  refine .inr (.inr ?_)
  cases ds with
  | nil =>
   have hx:xs=[]:=il
   subst hx
   exact .inl ⟨a,b,ys,rfl,rfl,ta.sq,tb.sq,k _ H (ji.refl H) ⟨b,ys,rfl,tb,jl⟩⟩
  | cons d0 ds =>
   refine .inr (.inl ⟨a,b,xs,ys,rfl,rfl,ta.sq,tb.sq,?_,hs,fun hy => ?_,fun hy p hp => ?_⟩)
   ·obtain ⟨x,zs,hx,_⟩:=il
    rw [hx];simp
   ·subst hy
    cases es with
    | nil=>rw [List.append_nil] at k;exact k _ H (ji.refl H) ⟨a,xs,rfl,ta,il⟩
    | cons e0 es=>obtain ⟨_,_,hx,_⟩:=jl;cases hx
   ·exact k _ _ (qD hp _) ⟨p,xs++ys,rfl,.inl qA,IsL.ext (Ext.of_same (qD hp _)) (fun _ h _=>h) (IsL.append il jl)⟩
 ·rename_i ds es
  obtain ⟨a,xs,rfl,hA,ta,il⟩:=ix
  obtain ⟨b,ys,rfl,hB,tb,jl⟩:=iy
  obtain ⟨e1,e2⟩:=jo e
  subst e2
  have hs:xs.length+ys.length<=sizeLine:=by rw [il.length,jl.length];exact of_decide_eq_true e1
  exact .inr (.inr (.inr (.inr ⟨a,b,xs,ys,rfl,rfl,ta,tb,hs,fun p hp=>k _ _ (qD hp _) ⟨p,xs++ys,rfl,hn p hp,qA,IsL.ext (Ext.of_same (qD hp _)) (fun _ h _=>h) (IsL.append il jl)⟩⟩)))
section
variable {X:Cx}
def qo8 (K:Fr0):V->Option Int->Option Int->Hp->VK->Prop:=fun x lo hi H Q=>∃ a xs,x = .ref a/\SqT K H a xs/\(HT.sIx xs.length 0 lo=0/\HT.sIx xs.length xs.length hi=xs.length)/\Q (.ref a) H
theorem v5 {prog:Program} {w:World} {A:Around} {E:Value->Shared->Prop} {s:Shared} {t sl:Addr} {items:Array Value} {vl vu:Value} {lo hi:Option Int} {Q:Value->Shared->Prop} (ht:IsTup s.heap t items) (hs:s.heap.IsSliceOf sl vl vu .none) (pl:IsPart vl lo) (pu:IsPart vu hi)
  (hw:HT.sIx items.size 0 lo=0/\HT.sIx items.size items.size hi=items.size) (h:Q (.ref t) s):wpAny (model prog w) A (getItem (.ref t) (.ref sl)) Q E s:=by
 obtain ⟨os,hos,hcs,hds⟩:=id hs
 have hTs:s.TypeIs (.ref sl) "slice":=⟨os,hos,hcs⟩
 unfold getItem
 try with_reducible refine wpAny_holding ?_
 first | refine wpAny_bind (wpAny_pure ?_) | skip
 refine wpAny_bind (wpAny_sequenceKey ht.typeIs (by decide) ?_)
 refine wpAny_bind (wpAny_callSpecial?_slot (name:=Str.ofString "__getitem__") ht.typeIs PyProof.Rows.slot_tuple_getitem
  (wpAny_call_entry PyProof.Rows.slot_tuple_getitem ht.typeIs entry_tuple_getitem ?_ (args_tuple_getitem _ _)))
 show wpAny _ _ (Builtin.Tuple.tupleItemsOf (.ref t) >>= _) _ _ s
 refine wpAny_bind (tupleItemsOf_ ht ?_)
 refine wpAny_bind (wpAny_typeOf hTs ?_)
 rw [if_pos (by decide)]
 refine wpAny_bind (HT.sliceApplied_gen hs pl pu ?_)
 have hyes:(((HT.sIx items.size 0 lo:Nat):Int)==0&&(1:Int)==1&&(HT.sIx items.size items.size hi-HT.sIx items.size 0 lo)==items.size)=true:=by
  rw [hw.1,hw.2];simp
 show wpAny _ _ (if (((HT.sIx items.size 0 lo:Nat):Int)==0&&(1:Int)==1&&(HT.sIx items.size items.size hi-HT.sIx items.size 0 lo)==items.size)=true then _ else _) _ _ s
 rw [if_pos hyes]
 refine wpAny_bind (m:=Builtin.Tuple.tupleIsExact (.ref t)) ?_
 unfold Builtin.Tuple.tupleIsExact
 refine wpAny_bind (wpAny_typeOf ht.typeIs ?_)
 refine wpAny_pure ?_
 rw [if_pos (by decide)]
 exact wpAny_bind (wpAny_rule (wpAny_pure ⟨_,rfl,wpAny_pure h⟩))
theorem qiG:SlR X (qo8 X.K):=by
 intro pins s Z H x v vl vu lo hi sl Q I rx hs pl pu h
 obtain ⟨a,xs,rfl,hx,hw,q⟩:=h
 cases rx
 obtain ⟨its,r,ht,hz⟩:=I.tuple hx
 have hlen:its.toArray.size=xs.length:=by rw [sT_];exact r.length.symm
 refine ⟨"tuple",_,PyProof.Rows.slot_tuple_getitem.lookup,ht.typeIs,?_⟩
 exact v5 ht hs pl pu (by rw [hlen];exact hw) ⟨.ref a,H,I,rfl,q⟩
theorem qmJ:SlR X (fun x lo hi H Q=>qo8 X.K x lo hi H Q\/qo3 X.K x lo hi H Q):=SlR.or qiG sl_tup
end
def qgv (xs:List D) (lo hi:Option Int):List D:=(xs.drop (HT.sIx xs.length 0 lo)).take (HT.sIx xs.length xs.length hi-HT.sIx xs.length 0 lo)
def slD (x:D) (lo hi:Option Int):Option D:=match x with
 | .tup ds=>some (.tup (qgv ds lo hi))
 | _=>none
section
variable {X:Cx} {c:Fc} {a b e:Expr} {pos p2:Pos}
def DO (X:Cx) (c:Fc) (e:Option Expr) (f:M (Option Int)):Prop:=∃ t,PO X e t/\∀ U Z H Q,Rep X.K c U Z H->(∀ o U',f U = .ok (o,U')->∀ H',Rep X.K c U' Z H'->Gr c.O Z H H'->Q o H')->(∀ x U',f U = .exc x U'->∀ H',Rep X.K c U' Z H'->Gr c.O Z H H'->c.E x H')->f U ≠ .bad->t Z H Q
theorem qg4:DO X c none (ret none):=⟨_,qkt,fun U Z H Q r h _ _=>h none U rfl H r .refl⟩
def asI:D->Option Int
 | .int i=>some i
 | _=>none
def qbX (f:M D):M (Option Int):=bnd f fun d=>match d with
 | .int i=>ret (some i)
 | _=>fun _ => .bad
theorem qg5 {f:M D} (h:DE X c e f):DO X c (some e) (qbX f):=by
 obtain ⟨t,p,w⟩:=h
 refine ⟨_,qku p,fun U Z H Q r h1 h2 h3=>w U Z H _ r ?_⟩
 unfold qbX bnd at h1 h2 h3
 cases e1:f U with
 | ok q =>
  obtain ⟨d,U'⟩:=q
  rw [e1] at h1 h2 h3
  intro v H' r' i' g'
  cases d<;>simp only [ret] at h1 h2 h3<;>try (exact absurd rfl h3)
  rename_i i
  exact ⟨i,i',h1 (some i) U' rfl H' r' g'⟩
 | exc x U'=>rw [e1] at h2;exact fun H' r' g'=>h2 x U' rfl H' r' g'
 | bad=>rw [e1] at h3;exact absurd rfl h3
def dsl (f:M D) (g k:M (Option Int)):M D:=bnd f fun d=>bnd g fun l=>bnd k fun u=>lift (slD d l u)
end
def zU (X:Cx) (scope:Scope) (N':List Str) (fp:List Addr) (cl:List (Str×Addr)) (C:Addr) (s₀:Shared) (H₀:Hp) (pn:List (Addr×Obj)):Cx where
 prog:=X.prog
 w:=X.w
 K:=X.K
 mg:=X.mg
 base:=X.base
 A:=X.A
 N:=N'
 s₀:=s₀
 H₀:=H₀
 env:=compEnvC scope cl C X.env
 outer:=X.stack
 stack:=X.stack
 ex:=fp
 fn:=fun _=>false
 calm:=X.calm
 pn:=pn
 xe:=fun _ _=>False
def PF (X:Cx) (ifs:List Expr) (t:TT):Prop:=∀ (pins:List (Addr×Obj)) (s:Shared) (Z:St) (H:Hp) (Q:Bool->Hp->Prop),Inv X pins Z H s->t Z H Q ->
 wpAny (model X.prog X.w) X.A (forIn ifs true fun c r=>if r=true then do let ok <- isTrue c X.env (eval c X.env);pure (ForInStep.yield ok) else pure (ForInStep.yield r)) (TP X pins Z Q) X.xe s
theorem qmK {X:Cx}:PF X [] (fun _ H Q=>Q true H):=fun pins s Z H Q I h=>wpAny_tests_nil ⟨H,I,h⟩
theorem qmL {X:Cx} {e:Expr} {t:TT} (h:PT X e t):PF X [e] t:=fun pins s Z H Q I hw=>wpAny_tests_one (h pins s Z H Q I hw)
structure yh (X:Cx) (scope:Scope) (N':List Str) (nt:Nat) (fr:List Nat):Prop where
 kind:scope.kind = .function
 nocell:∀ y∈scope.names,y.2 ≠ .cell
 names:∀ y∈scope.names,y.2 = .local->scope.names.lookup y.1=some .local
 frees:∀ y∈scope.names,y.2 = .free->X.env.kindOf y.1=some .cell
 len:N'.length=nt+fr.length
 slot:∀ i j,fr[i]? = some j->∃ x,N'[nt+i]? = some x/\X.N[j]? = some x/\scope.names.lookup x=some .free
theorem qaf {env:PySem.Env}:∀ (names:List (Str×NameKind)) (cs:List (Str×Addr)),(∀ y∈names,y.2 = .free->∃ a,env.cells.lookup y.1=some a)->(∀ n a,cs.lookup n=some a->env.cells.lookup n=some a) ->
  ∃ cl,(forIn names cs fun x r=>match x with | (name,kind)=>if (kind==NameKind.free)=true then do let a <- cellOf env name;pure (ForInStep.yield ((name,a)::r)) else pure (ForInStep.yield r):Sem (List (Str×Addr)))=pure cl /\
   (∀ n a,cl.lookup n=some a->env.cells.lookup n=some a)/\(∀ n,(∃ a,cs.lookup n=some a)->∃ a,cl.lookup n=some a)/\∀ y∈names,y.2 = .free->∃ a,cl.lookup y.1=some a
 | [],cs,_,h=>⟨cs,rfl,h,fun _ h=>h,fun y hy=>by cases hy⟩
 | (n,k)::r,cs,hf,h=>by
  have hr:∀ y∈r,y.2 = .free->∃ a,env.cells.lookup y.1=some a:=fun y hy=>hf y (mM _ hy)
  rw [List.forIn_cons]
  by_cases hk:k = .free
  ·subst hk
   obtain ⟨a,ha⟩:=hf (n,.free) mS_ rfl
   have ha':env.cells.lookup n=some a:=ha
   have hcell:cellOf env n=pure a:=by unfold cellOf;rw [ha']
   obtain ⟨cl,e1,e2,e3,e4⟩:=qaf r ((n,a)::cs) hr (fun m b hm=>by
    rw [List.lookup_cons] at hm
    cases e:m==n with
    | true=>rw [e] at hm;cases hm;rw [eq_of_beq e];exact ha'
    | false=>rw [e] at hm;exact h m b hm)
   refine ⟨cl,?_,e2,fun m ⟨b,hm⟩=>e3 m ?_,fun y hy hyf => ?_⟩
   ·show ((if (NameKind.free==NameKind.free)=true then _ else _) >>= _)=_
    rw [if_pos (by rfl),hcell]
    exact e1
   ·rw [List.lookup_cons]
    cases e:m==n with
    | true=>exact ⟨a,rfl⟩
    | false=>exact ⟨b,hm⟩
   ·rcases List.mem_cons.mp hy with rfl | hy
    ·exact e3 n ⟨a,by rw [List.lookup_cons];simp⟩
    ·exact e4 y hy hyf
  ·have hb:(k==NameKind.free)=false:=by simpa using hk
   obtain ⟨cl,e1,e2,e3,e4⟩:=qaf r cs hr h
   refine ⟨cl,?_,e2,e3,fun y hy hyf => ?_⟩
   ·show ((if (k==NameKind.free)=true then _ else _) >>= _)=_
    rw [hb,if_neg Bool.false_ne_true]
    exact e1
   ·rcases List.mem_cons.mp hy with rfl | hy
    ·exact absurd hyf hk
    ·exact e4 y hy hyf
theorem wM {env:PySem.Env} {scope:Scope} (hf:∀ y∈scope.names,y.2 = .free->∃ a,env.cells.lookup y.1=some a) :
  ∃ cl,closureFor scope env=pure cl/\(∀ n a,cl.lookup n=some a->env.cells.lookup n=some a)/\∀ y∈scope.names,y.2 = .free->∃ a,cl.lookup y.1=some a:=by
 obtain ⟨cl,e1,e2,_,e4⟩:=qaf scope.names [] hf (fun n a h=>by cases h)
 refine ⟨cl,?_,e2,e4⟩
 unfold closureFor
 show (forIn scope.names [] _ >>= _)=_
 have e5:(forIn scope.names [] fun x r=>match x with | (name,kind)=>if (kind==NameKind.free)=true then do let a <- cellOf env name;pure (ForInStep.yield ((name,a)::r)) else pure (ForInStep.yield r):Sem (List (Str×Addr)))=pure cl:=e1
 first
  | (rw [e5];rfl)
  | (simp only [bind_pure_comp,e5];rfl)
theorem yT {env:PySem.Env}:∀ {names:List (Str×NameKind)} {x:Str},names.lookup x=some .free->env.scope.kind = .function->env.kindOf x=some .cell ->
  (names.map fun (n,k)=>if (k==NameKind.free&&env.scope.kind == .function&&env.kindOf n==some .cell) then (n,NameKind.cell) else (n,k)).lookup x=some .cell
 | [],_,h,_,_=>by simp at h
 | (n,k)::r,x,h,hk,hx=>by
  have ih := @yT env r x
  show List.lookup x ((if (k==NameKind.free&&env.scope.kind == .function&&env.kindOf n==some .cell)=true then (n,NameKind.cell) else (n,k))::_)=_
  cases hxn:x==n with
  | true =>
   have e:x=n:=eq_of_beq hxn
   subst e
   simp only [List.lookup_cons,hxn] at h
   cases h
   rw [if_pos (by rw [hk,hx];rfl)]
   simp only [List.lookup_cons,hxn]
  | false =>
   simp only [List.lookup_cons,hxn] at h
   by_cases hc:(k==NameKind.free&&env.scope.kind == .function&&env.kindOf n==some .cell)=true
   ·rw [if_pos hc];simp only [List.lookup_cons,hxn];exact ih h hk hx
   ·rw [if_neg hc];simp only [List.lookup_cons,hxn];exact ih h hk hx
theorem jZ {env:PySem.Env}:∀ {names:List (Str×NameKind)} {x:Str} {q:NameKind},(names.map fun (n,k)=>if (k==NameKind.free&&env.scope.kind == .function&&env.kindOf n==some .cell) then (n,NameKind.cell) else (n,k)).lookup x=some q ->
  q = .cell\/q = .free->(∀ y∈names,y.2 ≠ .cell)->∃ k,(x,k)∈names/\k = .free
 | [],_,_,h,_,_=>by simp at h
 | (n,k)::r,x,q,h,hq,hc=>by
  have ih := @jZ env r x q
  have h':List.lookup x ((if (k==NameKind.free&&env.scope.kind == .function&&env.kindOf n==some .cell)=true then (n,NameKind.cell) else (n,k))::(r.map fun (n,k)=>if (k==NameKind.free&&env.scope.kind == .function&&env.kindOf n==some .cell) then (n,NameKind.cell) else (n,k)))=some q:=h
  have hr:∀ y∈r,y.2 ≠ .cell:=fun y hy=>hc y (mM _ hy)
  by_cases hcd:(k==NameKind.free&&env.scope.kind == .function&&env.kindOf n==some .cell)=true
  ·rw [if_pos hcd] at h'
   cases hxn:x==n with
   | true =>
    have e:x=n:=eq_of_beq hxn
    subst e
    refine ⟨k,mS_,?_⟩
    rw [Bool.and_eq_true,Bool.and_eq_true] at hcd
    exact eq_of_beq hcd.1.1
   | false =>
    simp only [List.lookup_cons,hxn] at h'
    obtain ⟨k',m,e⟩:=ih h' hq hr
    exact ⟨k',mM _ m,e⟩
  ·rw [if_neg hcd] at h'
   cases hxn:x==n with
   | true =>
    have e:x=n:=eq_of_beq hxn
    subst e
    simp only [List.lookup_cons,hxn] at h'
    cases h'
    rcases hq with rfl | rfl
    ·exact absurd rfl (hc (x,.cell) mS_)
    ·exact ⟨.free,mS_,rfl⟩
   | false =>
    simp only [List.lookup_cons,hxn] at h'
    obtain ⟨k',m,e⟩:=ih h' hq hr
    exact ⟨k',mM _ m,e⟩
def qM (nt:Nat) (fr:List Nat) (Z:St):St:=List.replicate nt none++fr.map fun j=>(Z[j]?).join
def qkJ (X:Cx) (tg:Expr) (ifs:List Expr) (elt:Expr) (scope:Scope) (N':List Str) (wi:TI) (nt:Nat) (fr:List Nat):TE:=fun Z H Q=>wi Z H fun J H1=>∀ acc fp cl C s₀ H₀ pn,H1 acc=none ->
 ∃ (g:TG) (tt:TT) (te:TE),PG (zU X scope N' fp cl C s₀ H₀ pn) tg g/\PF (zU X scope N' fp cl C s₀ H₀ pn) ifs tt/\PE (zU X scope N' fp cl C s₀ H₀ pn) elt te /\
 ∃ W:Nat->Nat->St->Hp->Prop,(∃ m,W 0 m (qM nt fr Z) (upd H1 acc (.lst []))) /\
 ∀ i m Z' H',W i m Z' H'->(J.stop i H'/\Q (.ref acc) H')\/(J.go i H'/\∀ x H'',J.yld i H' x H''->g x Z' H'' fun Z2 H2=>tt Z2 H2 fun b H3 =>
  if b=true then te Z2 H3 fun y H4=>∃ ys,H4 acc=some (.lst ys)/\ys.length<sizeLine/\∃ m',m'<m/\W (i+1) m' Z2 (upd H4 acc (.lst (ys++[y]))) else ∃ m',m'<m/\W (i+1) m' Z2 H3)
section
variable {X:Cx} {tg iter elt:Expr} {ifs:List Expr} {scope:Scope} {pos:Pos} {wi:TI} {N':List Str} {nt:Nat} {fr:List Nat}
theorem qbu {prog:Program} {w:World} {A:Around} {R:Result->Shared->Prop} {s:Shared} {it acc:Value} {env:PySem.Env} (I:Nat->Shared->Prop)
  (turn : ∀ n s,I n s->wpAny (model prog w) A (pyNext it) (fun r sQ=>match r with
   | none=>R (.ok .next) sQ
   | some v=>wpAny (model prog w) A (letOwnedTupleGo tg it v) (fun _ s1'=>wpAny (model prog w) A (assign tg env v) (fun _ sV =>
     wpAny (model prog w) A (forIn ifs true fun c r=>if r=true then do let ok <- isTrue c env (eval c env);pure (ForInStep.yield ok) else pure (ForInStep.yield r)) (fun ok sK =>
      if ok=true then wpAny (model prog w) A (eval elt env) (fun x sY =>
       wpAny (model prog w) A (call (.builtin "list.append") [acc,x]) (fun _ sJ=>∃ m,m<n/\I m sJ) (fun _ _=>False) sY) (fun _ _=>False) sK
      else ∃ m,m<n/\I m sK) (fun _ _=>False) sV) (fun _ _=>False) s1') (fun _ _=>False) sQ) (fun _ _=>False) s)
  (n:Nat) (h:I n s):codeAny (model prog w) A (.compLoop (.ListComp elt [⟨tg,iter,ifs,0⟩] scope pos) 0 it acc env) R s:=by
 refine codeAny_loop rfl I (fun n s hI => ?_) n h
 show wpAny _ A ((compTurn (.ListComp elt [⟨tg,iter,ifs,0⟩] scope pos) 0 it acc env).onRaise (fun x=>do noteFrame x env;theTreesLotGoes x)) _ _ s
 refine wpAny_noted ?_
 rw [compTurn_list]
 refine wpAny_bind (wpAny_standAt (wpAny_bind (wpAny_mono (turn n s hI) (fun r sQ hV => ?_) fun _ _ h'=>h'.elim)))
 cases r with
 | none=>exact wpAny_pure hV
 | some v =>
  refine wpAny_bind (wpAny_mono hV (fun _ s1' hK' => ?_) fun _ _ h'=>h'.elim)
  refine wpAny_bind (wpAny_mono hK' (fun _ sV h₂=>wpAny_bind (wpAny_mono h₂ (fun ok sK hG => ?_) fun _ _ h'=>h'.elim)) fun _ _ h'=>h'.elim)
  cases ok with
  | false=>exact wpAny_pure ⟨rfl,hG⟩
  | true =>
   exact wpAny_bind (wpAny_bind (wpAny_mono hG (fun x sY hJ=>wpAny_bind (wpAny_mono hJ (fun _ sJ h₅=>wpAny_pure (wpAny_pure ⟨rfl,h₅⟩)) fun _ _ h'=>h'.elim)) fun _ _ h'=>h'.elim))
theorem qcf {pins:List (Addr×Obj)} {Z:St} {H:Hp} {s:Shared} {hV:Heap} {tk:Nat} {fp:List Addr} {cl:List (Str×Addr)} (S:yh X scope N' nt fr) (I:Inv X pins Z H s) (hfp:∀ b∈fp,qey X pins H b)
  (hex:∀ b∈fp,∃ o,s.heap.get? b=some o) (cl1:∀ n a,cl.lookup n=some a->X.env.cells.lookup n=some a) (cl2:∀ y∈scope.names,y.2 = .free->∃ a,cl.lookup y.1=some a)
  (hns:∃ m,hV.Ns s.heap.objs.size m) (old:∀ b o,s.heap.get? b=some o->hV.get? b=some o) :
  Inv (zU X scope N' fp cl s.heap.objs.size s H (X.pn++pins)) [] (qM nt fr Z) H { s with heap:=hV,toks:=tk }:=by
 have stkB:∀ b∈frs X.stack,b=X.env.locals\/b∈X.fs:=fun b hb=>List.mem_cons.mp (I.stkSub b hb)
 have hC:∀ b o,s.heap.get? b=some o->b≠s.heap.objs.size:=fun b o e=>Nat.ne_of_lt (Heap.lt_size e)
 obtain ⟨m,hn⟩:=hns
 refine ⟨⟨I.ok.mod,S.kind,I.ok.glob,I.ok.blt,Nat.le_refl _,fun x y c h1 h2=>I.ok.inj x y c (cl1 x c h1) (cl1 y c h2),fun x hx => ?_,fun x c hx => ?_,I.ok.hd,I.ok.frames,.inl rfl,fun b hb=>⟨?_,fun x c hx=>(hfp b hb).2.2.2.2.1 x c (cl1 x c hx)⟩,I.bs,Nat.le_trans I.ok.bsz I.sz,fun b o e hb => ?_,fun b hb hb2 => ?_,I.stack,I.stkFree⟩,
  rfl,I.bare,Un.kept old,⟨m,hn,fun i x v h1 h2 h3 => ?_⟩,fun x c hx => ?_,I.hok.fresh (Nat.le_refl _),fun x c hx=>I.freeC x c (cl1 x c hx),fun p hp => ?_,I.hok.kept old,?_⟩
 ·have hx':∃ k,(x,k)∈scope.names/\k = .free:=by
   rcases hx with hx | hx
   ·exact jZ (env:=X.env) (q := .cell) hx (.inl rfl) S.nocell
   ·exact jZ (env:=X.env) (q := .free) hx (.inr rfl) S.nocell
  obtain ⟨k,m,rfl⟩:=hx'
  exact cl2 (x,.free) m rfl
 ·have hx':false=true:=hx
  cases hx'
 ·obtain ⟨o,e⟩:=hex b hb
  exact hC b o e
 ·obtain ⟨f0,f1,f2,f3,f4,f5⟩:=hfp b hb
  rcases f3 with z | z
  ·exact I.ok.noex b o e z
  ·exact absurd (Nat.lt_of_lt_of_le (Heap.lt_size e) (Nat.le_trans I.ok.bsz z)) (Nat.lt_irrefl _)
 ·obtain ⟨f0,f1,f2,f3,f4,f5⟩:=hfp b hb
  rcases stkB b hb2 with z | z
  ·exact f1 z
  ·exact f2 z
 ·-- names
  have hi:nt<=i:=by
   apply Nat.le_of_not_lt
   intro hlt
   unfold qM at h2
   rw [List.getElem?_append_left (by simpa using hlt),List.getElem?_replicate] at h2
   split at h2<;>cases h2
  have h2':(fr.map fun j=>(Z[j]?).join)[i-nt]? = some (some v):=by
   unfold qM at h2
   rw [List.getElem?_append_right (by simpa using hi),List.length_replicate] at h2
   exact h2
  rw [gM_] at h2'
  cases ej:fr[i-nt]? with
  | none=>rw [ej] at h2';cases h2'
  | some j =>
   rw [ej] at h2'
   have hσ:(Z[j]?).join=some v:=by simpa using h2'
   have hσ':Z[j]? = some (some v):=by
    cases e:Z[j]? with
    | none=>rw [e] at hσ;cases hσ
    | some o =>
     rw [e] at hσ
     have:o=some v:=hσ
     rw [this]
   obtain ⟨y,hy1,hy2,hy3⟩:=S.slot (i-nt) j ej
   have hii:nt+(i-nt)=i:=by omega
   rw [hii] at hy1
   have exy:y=x:=by
    have h1':N'[i]? = some x:=h1
    rw [h1'] at hy1
    exact (Option.some.inj hy1).symm
   subst exy
   have hmem:(y,NameKind.free)∈scope.names:=PySem.mem_of_lookup hy3
   have hcellk:X.env.kindOf y=some .cell:=S.frees (y,.free) hmem rfl
   obtain ⟨m0,hn0,hl0⟩:=I.loc
   obtain ⟨u,ru,lk⟩:=hl0 j y v hy2 hσ' (.inr (.inl hcellk))
   refine ⟨u,ru,.inr ⟨.inl (yT hy3 I.ok.kind hcellk),?_⟩⟩
   rcases lk with ⟨k1,_⟩ | ⟨_,c,e,z⟩
   ·rw [hcellk] at k1;cases k1
   ·obtain ⟨a,ea⟩:=cl2 (y,.free) hmem rfl
    have ea':=cl1 y a ea
    rw [e] at ea'
    cases ea'
    obtain ⟨o,ho,hd⟩:=z
    exact ⟨c,ea,o,old _ _ ho,hd⟩
 ·obtain ⟨v,o,ho,hd⟩:=I.cell x c (cl1 x c hx)
  exact ⟨v,o,old _ _ ho,hd⟩
 ·have hp':p∈X.pn++pins:=by
   rcases mA_.mp (show p∈(X.pn++pins)++[] from hp) with z | z
   ·exact z
   ·cases z
  obtain ⟨e,n,ne,nf,d⟩:=I.pin p hp'
  refine ⟨old _ _ e,n,hC _ _ e,fun z => ?_,d⟩
  rcases stkB p.1 z with z | z
  ·exact ne z
  ·exact nf z
 ·show (qM nt fr Z).length=N'.length
  unfold qM
  rw [lA_,List.length_replicate,lM_,S.len]
theorem qfj {pins:List (Addr×Obj)} {Z Z':St} {H H':Hp} {s s':Shared} {h':Heap} {fp:List Addr} {cl:List (Str×Addr)} (I:Inv X pins Z H s) (hfp:∀ b∈fp,qey X pins H b)
  (J:Inv (zU X scope N' fp cl s.heap.objs.size s H (X.pn++pins)) [] Z' H' s') (sb:Heap.SameBut s.heap.objs.size s'.heap h'):Inv X pins Z H' { s' with heap:=h' }:=by
 have hC:H' s.heap.objs.size=none:=J.free
 have u:=J.base
 have big:∀ b o,s.heap.get? b=some o->b≠s.heap.objs.size:=fun b o e=>Nat.ne_of_lt (Heap.lt_size e)
 have get':∀ b,b≠s.heap.objs.size->h'.get? b=s'.heap.get? b:=fun b hb=>sb.2 b hb
 have u2:Un (frs X.stack) fp H H' s.heap h' :=
  ⟨fun b o e n hb hx=>(get' b (big b o e)).trans (u.keep b o e n hb hx),fun b o e n hb hx=>by
   obtain ⟨sl,q⟩:=u.slot b o e n hb hx
   exact ⟨sl,(get' b (big b o e)).trans q⟩,u.free,fun b o e hx=>by
   obtain ⟨o',q⟩:=u.there b o e hx
   exact ⟨o',(get' b (big b o e)).trans q⟩,u.tups,u.frzs,u.tbls⟩
 refine I.call' (s':={ s' with heap:=h' }) (ch:=fp) J.os u2 (fun b o e => ?_) J.bare (fun b hb => ?_)
 ·refine (J.hok b o e).stay (fun c v hc q => ?_) (fun _ q=>q) fun _ _ q=>q
  refine (get' c ?_).trans q
  rintro rfl
  rcases hc with hc | hc
  ·rw [<- hc,hC] at e;cases e
  ·rw [hC] at hc;cases hc
 ·obtain ⟨f0,f1,f2,f3,f4,f5⟩:=hfp b hb
  exact ⟨f3,f1,f4,f5⟩
theorem qkK (hc:X.calm=true) (hi:PI X tg iter wi) (S:yh X scope N' nt fr)
  (hs:∀ x,foldedSetIterable iter X.env x=pure x:=by intro _;rfl):PE X (.ListComp elt [⟨tg,iter,ifs,0⟩] scope pos) (qkJ X tg ifs elt scope N' wi nt fr):=by
 intro pins s Z H Q I hw
 obtain ⟨cl,hcl,cl1,cl2⟩:=wM (env:=X.env) (scope:=scope) (fun y hy hf=>I.ok.has y.1 (.inl (S.frees y hy hf)))
 rw [eval_ListComp]
 refine wpAny_comprehension_free (use:=none) rfl hs hcl S.kind S.names (thn (hi pins s Z H _ I hw) fun v s1 h1=>thn h1 fun itv s2 h2 => ?_)
 obtain ⟨it,fp,tn,J,H2,e,I2,T,st2,f2,hR⟩:=h2
 subst e
 have hacc:H2 s2.heap.objs.size=none:=I2.hok.fresh (Nat.le_refl _)
 refine wpAny_newObj_type (wpAny_newFunctionEnv S.nocell (by intro y hy;simp at hy) (fun hV hns1 hsb1 => ?_) S.kind)
 dsimp only at hns1 hsb1 |-
 have I3:Inv X pins Z (upd H2 s2.heap.objs.size (.lst [])) { s2 with heap:=s2.heap.push { cls := .type "list",dict:=none,data := .seq ([]:List Value).toArray } } :=
  I2.lnew (t':=s2.toks) (its:=[]) .nil (Nat.zero_le _)
 generalize hs3:({ s2 with heap:=s2.heap.push { cls := .type "list",dict:=none,data := .seq ([]:List Value).toArray } }:Shared)=s3 at I3
 have hh3:s2.heap.push { cls := .type "list",dict:=none,data := .seq ([]:List Value).toArray }=s3.heap:=by rw [<- hs3]
 rw [hh3] at hns1 hsb1
 have old:∀ b o,s3.heap.get? b=some o->hV.get? b=some o:=fun b o q=>hsb1.extBut b o (Nat.ne_of_lt (Heap.lt_size q)) (Heap.get?_push_of_some _ q)
 have objs2:∀ b∈fp,∃ o,s2.heap.get? b=some o:=fun b hb=>by
  obtain ⟨o,q,_⟩:=T.obj 0 _ st2 b hb
  exact ⟨o,q⟩
 have keep23:∀ b o,s2.heap.get? b=some o->s3.heap.get? b=some o:=fun b o q=>by rw [<- hh3];exact Heap.get?_push_of_some _ q
 have fpne:∀ b∈fp,b≠s2.heap.objs.size:=fun b hb=>by
  obtain ⟨o,q⟩:=objs2 b hb
  exact Nat.ne_of_lt (Heap.lt_size q)
 have f3:∀ b∈fp,qey X pins (upd H2 s2.heap.objs.size (.lst [])) b:=fun b hb=>⟨by rw [qx (fpne b hb)];exact (f2 b hb).1,(f2 b hb).2⟩
 have J0:Inv (zU X scope N' fp cl s3.heap.objs.size s3 (upd H2 s2.heap.objs.size (.lst [])) (X.pn++pins)) [] (qM nt fr Z) (upd H2 s2.heap.objs.size (.lst [])) { s3 with heap:=hV,toks:=s3.toks } :=
  qcf S I3 f3 (fun b hb=>(objs2 b hb).imp fun o q=>keep23 b o q) cl1 cl2 ⟨_,hns1⟩ old
 obtain ⟨g,tt,te,hg,hf,he,W,⟨m0,w0⟩,turn⟩:=hR s2.heap.objs.size fp cl s3.heap.objs.size s3 (upd H2 s2.heap.objs.size (.lst [])) (X.pn++pins) hacc
 have T0:tn 0 hV:=T.keep 0 _ _ st2 fun b hb o q=>old b o (keep23 b o q)
 have s3e:∀ tk:Nat,({ s2 with heap:=hV,toks:=tk }:Shared)={ s3 with heap:=hV,toks:=tk }:=fun tk=>by rw [<- hs3]
 have loop:∀ tk:Nat,codeAny (model X.prog X.w) X.A (.compLoop (.ListComp elt [⟨tg,iter,ifs,0⟩] scope pos) 0 (.ref it) (.ref s2.heap.objs.size) (compEnvC scope cl s3.heap.objs.size X.env))
   (compPost (model X.prog X.w) X.A X.xe none (EP X pins Z Q) (.ref s2.heap.objs.size) s3.heap.objs.size) { s3 with heap:=hV,toks:=tk }:=fun tk=>by
  have stat:∀ {H':Hp},(∀ b∈fp,H' b=none)->∀ b∈fp,qey (zU X scope N' fp cl s3.heap.objs.size s3 (upd H2 s2.heap.objs.size (.lst [])) (X.pn++pins)) [] H' b:=fun {H'} hn b hb=>by
   obtain ⟨o,q⟩:=objs2 b hb
   have hbC:b≠s3.heap.objs.size:=Nat.ne_of_lt (Heap.lt_size (keep23 b o q))
   refine ⟨hn b hb,hbC,fun z => ?_,.inl hb,fun x c hx=>(f2 b hb).2.2.2.2.1 x c (cl1 x c hx),fun p hp => ?_⟩
   ·rcases List.mem_cons.mp (I2.stkSub b z) with z | z
    ·exact (f2 b hb).2.1 z
    ·exact (f2 b hb).2.2.1 z
   ·have hp':p∈X.pn++pins:=by
     rcases mA_.mp (show p∈(X.pn++pins)++[] from hp) with z | z
     ·exact z
     ·cases z
    exact (f2 b hb).2.2.2.2.2 p hp'
  have fr0:∀ b∈fp,upd H2 s2.heap.objs.size (.lst []) b=none:=fun b hb=>(f3 b hb).1
  refine qbu (fun n s'=>∃ i Z' H',Inv (zU X scope N' fp cl s3.heap.objs.size s3 (upd H2 s2.heap.objs.size (.lst [])) (X.pn++pins)) [] Z' H' s'/\tn i s'.heap/\(∀ b∈fp,H' b=none)/\W i n Z' H') ?_ m0
   ⟨0,qM nt fr Z,_,J0.tok tk,T0,fr0,w0⟩
  rintro n s4 ⟨i,Z4,H4,J4,st4,fr4,w4⟩
  rcases turn i n Z4 H4 w4 with ⟨stop,qn⟩ | ⟨go,step⟩
  ·refine thn (T.done (zU X scope N' fp cl s3.heap.objs.size s3 (upd H2 s2.heap.objs.size (.lst [])) (X.pn++pins)) rfl rfl rfl hc i [] s4 Z4 H4 _ J4 (stat fr4) st4 stop) fun r s5 ⟨hr,J5⟩ => ?_
   subst hr
   obtain ⟨m5,n5,_⟩:=J5.loc
   refine ⟨m5,n5,fun h' sb=>⟨.ref s2.heap.objs.size,H4,qfj I3 f3 J5 sb,rfl,qn⟩⟩
  ·refine thn (T.item (zU X scope N' fp cl s3.heap.objs.size s3 (upd H2 s2.heap.objs.size (.lst [])) (X.pn++pins)) rfl rfl rfl hc i [] s4 Z4 H4 _ J4 (stat fr4) st4 go) fun r s5 ⟨u,hr,h5⟩ => ?_
   subst hr
   refine thn h5 fun _ s6 ⟨x,H6,J6,r6,y6,st6,fr6⟩ => ?_
   have J6':=J6.pinned (stat fr6) (T.obj _ _ st6)
   have again:∀ {Z7:St} {H7:Hp} {s7:Shared},Inv (zU X scope N' fp cl s3.heap.objs.size s3 (upd H2 s2.heap.objs.size (.lst [])) (X.pn++pins)) ([]++qca fp s6.heap) Z7 H7 s7->(∃ m',m'<n/\W (i+1) m' Z7 H7) ->
     ∃ m,m<n/\∃ i Z' H',Inv (zU X scope N' fp cl s3.heap.objs.size s3 (upd H2 s2.heap.objs.size (.lst [])) (X.pn++pins)) [] Z' H' s7/\tn i s7.heap/\(∀ b∈fp,H' b=none)/\W i m Z' H':=fun {Z7 H7 s7} I7 hm=>by
    obtain ⟨m',hm,w7⟩:=hm
    refine ⟨m',hm,i+1,Z7,H7,I7.unpinned,T.keep _ _ _ st6 fun b hb o q=>(I7.pin (b,o) (mr_ _ (mr_ _ (yF hb q)))).1,fun b hb => ?_,w7⟩
    obtain ⟨o,q,d⟩:=T.obj _ _ st6 b hb
    exact (I7.pin (b,o) (mr_ _ (mr_ _ (yF hb q)))).2.1
   refine thn (hg _ s6 Z4 H6 x u _ J6' r6 (step x H6 y6)) fun _ s7 ⟨Z7,H7,J7,q7⟩ => ?_
   refine thn (hf _ s7 Z7 H7 _ J7 q7) fun ok s8 ⟨H8,J8,q8⟩ => ?_
   cases ok with
   | false =>
    rw [if_neg Bool.false_ne_true] at q8 |-
    exact again J8 q8
   | true =>
    rw [if_pos rfl] at q8 |-
    refine thn (he _ s8 Z7 H8 _ J8 q8) fun z s9 ⟨y,H9,J9,r9,ys,hys,hz,hm⟩ => ?_
    refine thn (qbg _ s9 Z7 H9 (.ref s2.heap.objs.size) [y] (.ref s2.heap.objs.size) [z] (fun _ H'=>H'=upd H9 s2.heap.objs.size (.lst (ys++[y]))) J9 rfl (.cons r9 .nil) ⟨_,ys,y,rfl,rfl,hys,hz,rfl⟩) fun _ s10 ⟨_,H10,J10,_,e10⟩ => ?_
    subst e10
    exact again J10 hm
 have jY:∀ tk:Nat,codeAny (model X.prog X.w) X.A (.compStart (.ListComp elt [⟨tg,iter,ifs,0⟩] scope pos) 0 (.ref it) (.ref s2.heap.objs.size) (compEnvC scope cl s3.heap.objs.size X.env))
   (compPost (model X.prog X.w) X.A X.xe none (EP X pins Z Q) (.ref s2.heap.objs.size) s3.heap.objs.size) { s3 with heap:=hV,toks:=tk }:=fun tk =>
  codeAny_compStart_list (loop tk) (T.self X.A 0 _ _ _ T0 (loop tk))
 have fin:=jY (s2.toks+([]:List (Str×Value)).length)
 rw [<- s3e] at fin
 rw [<- hh3] at fin
 rw [hh3] at fin |-
 exact fin
end
structure qjI (K:Fr0) (A:Addr->Prop) (H:Hp) (ds:List D) (J:It):Prop where
 go:∀ H' i d,Ext A H H'->ds[i]? = some d->J.go i H'
 yl:∀ H' i d x H'',Ext A H H'->ds[i]? = some d->J.yld i H' x H''->ji H' H''/\Is K A H'' d x
 stop:∀ H',Ext A H H'->J.stop ds.length H'
def CnT (c:Fc) (Z:St) (H:Hp) (a:Addr):Prop:=Cn c Z a/\(H a).isSome=true
def WpI (K:Fr0) (c:Fc) (Z:St) (H:Hp) (Q:It->Hp->Prop):R (List D×Env)->Prop
 | .ok (ds,U)=>∀ J H',Rep K c U Z H'->qjI K (CnT c Z H') H' ds J->Gr c.O Z H H'->Q J H'
 | .exc x U=>∀ H',Rep K c U Z H'->Gr c.O Z H H'->c.E x H'
 | .bad=>False
def DI (X:Cx) (c:Fc) (tg it:Expr) (f:M (List D)):Prop:=∃ w,PI X tg it w/\∀ U Z H Q,Rep X.K c U Z H->WpI X.K c Z H Q (f U)->w Z H Q
section
variable {X:Cx} {c:Fc} {tg a b e:Expr} {pos:Pos}
def qpP (K:Fr0) (tl:TE):TI:=fun Z H R=>tl Z H fun x H1=>(∃ a,x = .ref a/\(∃ xs,SqL K H1 a xs)/\R (Itl K a) H1)\/(∃ a,x = .ref a/\(∃ xs,SqT K H1 a xs)/\R (Itt K a) H1)
theorem qmM {tl:TE} (hl:PE X e tl):PI X tg e (qpP X.K tl):=by
 intro pins s Z H R I h
 refine thn (hl pins s Z H _ I h) fun v s1 ⟨x,H1,I1,r1,q1⟩ => ?_
 rcases q1 with ⟨a,e,⟨xs,hq⟩,q⟩ | ⟨a,e,⟨xs,hq⟩,q⟩
 ·subst e
  cases r1
  obtain ⟨its,rv,p,hz⟩:=I1.list hq
  refine wpAny_pyIter_list p.isList ?_
  refine ⟨s1.heap.objs.size,[s1.heap.objs.size],_,_,H1,rfl,I1.kept (t':=s1.toks) fun b o e=>Heap.get?_push_of_some _ e,qgB a _,⟨_,Heap.get?_push_size _ rfl,rfl,rfl⟩,fun b hb => ?_,q⟩
  have e:b=s1.heap.objs.size:=by simpa using hb
  subst e
  exact I1.fpOk (Nat.le_refl _) (I1.hok.fresh (Nat.le_refl _))
 ·subst e
  cases r1
  obtain ⟨its,rv,p,hz⟩:=I1.tuple hq
  refine wpAny_pyIter_tuple (show s1.heap.IsTuple a its.toArray from p) ?_
  refine ⟨s1.heap.objs.size,[s1.heap.objs.size],_,_,H1,rfl,I1.kept (t':=s1.toks) fun b o e=>Heap.get?_push_of_some _ e,qfU a _,⟨_,Heap.get?_push_size _ rfl,rfl,rfl⟩,fun b hb => ?_,q⟩
  have e:b=s1.heap.objs.size:=by simpa using hb
  subst e
  exact I1.fpOk (Nat.le_refl _) (I1.hok.fresh (Nat.le_refl _))
def qnV:D->Option (List D)
 | .tup ds=>some ds
 | .lst ds=>some ds
 | .fz ns=>some (ns.map .int)
 | _=>none
theorem SqL.inj {K:Fr0} {H:Hp} {a:Addr} {xs ys:List V} (h:H a=some (.lst xs)) (q:SqL K H a ys) (hk:∀ o,K.lookup a=some o->False):ys=xs:=by
 rcases q with (q | ⟨o,q⟩) | ⟨o,_,_,q,_⟩
 ·rw [h] at q;cases q;rfl
 ·rw [h] at q;cases q
 ·exact (hk o q).elim
theorem qfk {K:Fr0} {A:Addr->Prop} {H:Hp}:∀ ns:List Int,IsL K A H (ns.map .int) (ns.map V.int)
 | []=>rfl
 | n::ns=>⟨.int n,ns.map V.int,rfl,rfl,qfk ns⟩
theorem qg6 {K:Fr0} {A:Addr->Prop} {H:Hp} {ds:List D} {xs:List V} {a:Addr} (hs:∀ H',Ext A H H'->SqL K H' a xs) (il:IsL K A H ds xs):qjI K A H ds (Itl K a) where
 go:=fun H' i d ex hd=>by
  obtain ⟨x,h1,h2⟩:=il.get hd
  exact ⟨xs,x,hs H' ex,h1⟩
 yl:=fun H' i d x H'' ex hd y=>by
  obtain ⟨e,y⟩:=y
  subst e
  obtain ⟨x',h1,h2⟩:=il.get hd
  have h3:=y xs (hs _ ex)
  rw [h1] at h3
  cases h3
  exact ⟨ji.refl _,Is.ext ex (fun _ h _=>h) h2⟩
 stop:=fun H' ex=>⟨xs,hs H' ex,by rw [il.length];exact Nat.le_refl _⟩
theorem qmN {K:Fr0} {A:Addr->Prop} {H:Hp} {ds:List D} {xs:List V} {a:Addr} (hs:TupAt K H a xs) (il:IsL K A H ds xs):qjI K A H ds (Itt K a) where
 go:=fun H' i d ex hd=>by
  obtain ⟨x,h1,h2⟩:=il.get hd
  exact ⟨xs,x,(hs.elim (fun h => .inl (ex.tup _ _ h)) .inr:TupAt K H' a xs).sq,h1⟩
 yl:=fun H' i d x H'' ex hd y=>by
  obtain ⟨e,y⟩:=y
  subst e
  obtain ⟨x',h1,h2⟩:=il.get hd
  have h3:=y xs (hs.elim (fun h => .inl (ex.tup _ _ h)) .inr:TupAt K _ a xs).sq
  rw [h1] at h3
  cases h3
  exact ⟨ji.refl _,Is.ext ex (fun _ h _=>h) h2⟩
 stop:=fun H' ex=>⟨xs,(hs.elim (fun h => .inl (ex.tup _ _ h)) .inr:TupAt K H' a xs).sq,by rw [il.length];exact Nat.le_refl _⟩
def uG (f:M D):M (List D):=bnd f fun d=>lift (qnV d)
theorem qcI {K:Fr0} {Z:St} {H:Hp} {Q:It->Hp->Prop} {o:Option (List D)} {U:Env} (h:WpI K c Z H Q (lift o U)):∃ ds,o=some ds/\∀ J H',Rep K c U Z H'->qjI K (CnT c Z H') H' ds J->Gr c.O Z H H'->Q J H':=by
 cases o with
 | none=>exact h.elim
 | some d=>exact ⟨d,rfl,h⟩
theorem WpI.gr {K:Fr0} {Z:St} {H H1:Hp} {Q:It->Hp->Prop}:∀ {r:R (List D×Env)},WpI K c Z H Q r->Gr c.O Z H H1->WpI K c Z H1 Q r
 | .ok (d,U),h,g=>fun v H' hr hi hg=>h v H' hr hi (g.trans hg)
 | .exc x U,h,g=>fun H' hr hg=>h H' hr (g.trans hg)
 | .bad,h,_=>h
theorem Wp.bndI {K:Fr0} {Z:St} {H:Hp} {Q:It->Hp->Prop} {f:M D} {k:D->M (List D)} {U:Env} {Q':VK} (h:WpI K c Z H Q (Sk.bnd f k U)) (hQ:∀ d U' v H',Rep K c U' Z H'->Is K (Cn c Z) H' d v->Gr c.O Z H H'->WpI K c Z H' Q (k d U')->Q' v H'):Wp K c Z H Q' (f U):=by
 unfold Sk.bnd at h
 cases e:f U with
 | ok p=>rw [e] at h;exact fun v H' hr hi hg=>hQ p.1 p.2 v H' hr hi hg (h.gr hg)
 | exc x U'=>rw [e] at h;exact h
 | bad=>rw [e] at h;exact h
theorem WpL.bndI {K:Fr0} {Z:St} {H:Hp} {Q:It->Hp->Prop} {f:M (List D)} {k:List D->M (List D)} {U:Env} {Q':List V->Hp->Prop} (h:WpI K c Z H Q (Sk.bnd f k U)) (hQ:∀ d U' v H',Rep K c U' Z H'->IsL K (Cn c Z) H' d v->Gr c.O Z H H'->WpI K c Z H' Q (k d U')->Q' v H'):WpL K c Z H Q' (f U):=by
 unfold Sk.bnd at h
 cases e:f U with
 | ok p=>rw [e] at h;exact fun v H' hr hi hg=>hQ p.1 p.2 v H' hr hi hg (h.gr hg)
 | exc x U'=>rw [e] at h;exact h
 | bad=>rw [e] at h;exact h
theorem Is.tr {K:Fr0} {A:Addr->Prop} {H:Hp} {d:D} {v:V} (h:Is K A H d v):Is K (fun a=>A a/\(H a).isSome=true) H d v:=Is.ext Ext.refl (fun a h1 h2=>⟨h1,h2⟩) h
theorem jX {f:M D} (h:DE X c e f):DI X c tg e (uG f):=by
 obtain ⟨t,p,w⟩:=h
 refine ⟨_,qmM p,fun U Z H Q r h=>w U Z H _ r (Wp.bndI h fun d U1 v H1 r1 i1 g1 h1 => ?_)⟩
 obtain ⟨ds,e,h2⟩:=qcI h1
 have i2:Is X.K (CnT c Z H1) H1 d v:=i1.tr
 cases d<;>simp only [qnV] at e<;>try (cases e;done)
 ·cases e
  obtain ⟨a,xs,rfl,ta,il⟩:=i2
  exact .inr ⟨a,rfl,⟨xs,ta.sq⟩,h2 _ H1 r1 (qmN ta il) .refl⟩
 ·cases e
  obtain ⟨a,xs,rfl,hA,ta,il⟩:=i2
  exact .inl ⟨a,rfl,⟨xs,.inl (.inl ta)⟩,h2 _ H1 r1 (qg6 (fun H' ex => .inl (.inl (ex.at_ _ _ hA ta))) il) .refl⟩
 ·cases e
  obtain ⟨a,rfl,ta⟩:=i2
  exact .inl ⟨a,rfl,⟨_,ta.sq⟩,h2 _ H1 r1 (qg6 (fun H' ex=>(ta.elim (fun ⟨o,h⟩ => .inl ⟨o,ex.frz _ _ _ h⟩) .inr:qmB X.K H' a _).sq) (qfk _)) .refl⟩
def qcg (lo:Int) (n:Nat):List D:=(List.range n).map fun i => .int (lo+(i:Nat))
theorem qmO {K:Fr0} {A:Addr->Prop} {H:Hp} (lo:Int) (n:Nat):qjI K A H (qcg lo n) (Itr lo n) where
 go:=fun H' i d ex hd=>by
  have:i<(qcg lo n).length:=(gI_.mp hd).1
  show i<n
  simpa [qcg] using this
 yl := fun H' i d x H'' ex hd y=>by
  obtain ⟨e,y⟩:=y
  subst e
  subst y
  refine ⟨ji.refl _,?_⟩
  unfold qcg at hd
  rw [gM_] at hd
  cases e2:(List.range n)[i]? with
  | none=>rw [e2] at hd;cases hd
  | some j =>
   rw [e2] at hd
   have hj:j=i:=by
    have:=(gI_.mp e2).2
    simpa using this.symm
   subst hj
   cases hd
   rfl
 stop:=fun H' ex=>by show n<=(qcg lo n).length;simp [qcg]
def qjJ:List D->Option (List D)
 | [.int j]=>if decide (-(2 ^ 62)<=j)&&decide (j<2 ^ 62) then some (qcg 0 j.toNat) else none
 | _=>none
def vR (f:M (List D)):M (List D):=bnd f fun ds=>lift (qjJ ds)
theorem vg {f:M (List D)} {p:Pos} (hg:Gl X "range") (hm:X.mg "range"=none) (ha:DA X c [a] f) (hs:starEach [a] X.env=[(false,eval a X.env)]:=by rfl):DI X c tg (.Call (.Name "range" p) [a] [] pos) (vR f):=by
 obtain ⟨t,p,w⟩:=ha
 refine ⟨_,qgC hg hm p hs,fun U Z H Q r h=>w U Z H _ r (WpL.bndI h fun ds U1 vs H1 r1 i1 g1 h1 => ?_)⟩
 obtain ⟨es,e,h2⟩:=qcI h1
 unfold qjJ at e
 split at e
 ·rename_i j
  obtain ⟨v,rfl,e2⟩:=IsL.inv1 i1
  cases e2
  by_cases hb:(decide (-(2 ^ 62)<=j)&&decide (j<2 ^ 62))=true
  ·rw [if_pos hb] at e
   cases e
   rw [Bool.and_eq_true] at hb
   exact ⟨j,rfl,of_decide_eq_true hb.1,of_decide_eq_true hb.2,h2 _ H1 r1 (qmO 0 _) .refl⟩
  ·rw [if_neg hb] at e
   cases e
 ·cases e
def v6 (g:D->Env->Option Env) (b:MS):List D->MS
 | [],U => .ok (.nx U)
 | d::ds,U=>match g d U with
  | none => .bad
  | some U1=>match b U1 with
   | .ok (.nx U2)=>v6 g b ds U2
   | .ok (.ct U2)=>v6 g b ds U2
   | .ok (.bk U2) => .ok (.nx U2)
   | .ok (.rt r U2) => .ok (.rt r U2)
   | .exc x U2 => .exc x U2
   | .bad => .bad
def qfl (f:M (List D)) (g:D->Env->Option Env) (b:MS):MS:=sbnd f fun ds=>v6 g b ds
theorem WpI.sbnd {K:Fr0} {Z:St} {H:Hp} {D':qgy} {f:M (List D)} {k:List D->MS} {U:Env} {Q':It->Hp->Prop} (h:WpS K c Z H D' (Sk.sbnd f k U))
  (hQ:∀ ds U' J H',Rep K c U' Z H'->qjI K (CnT c Z H') H' ds J->Gr c.O Z H H'->WpS K c Z H' D' (k ds U')->Q' J H'):WpI K c Z H Q' (f U):=by
 unfold Sk.sbnd at h
 cases e:f U with
 | ok p=>rw [e] at h;exact fun v H' hr hi hg=>hQ p.1 p.2 v H' hr hi hg (h.gr hg.s)
 | exc x U'=>rw [e] at h;exact fun H' hr hg=>h Z H' hr hg.s
 | bad=>rw [e] at h;exact h
theorem GrS.extT {Z Z':St} {H H':Hp} (g:GrS c.O Z H Z' H'):Ext (CnT c Z H) H H':=⟨g.ext.tup,g.ext.frz,fun b o hb h=>g.ext.at_ b o hb.1.2 h⟩
theorem GrS.cnT {Z Z':St} {H H':Hp} (g:GrS c.O Z H Z' H') {a:Addr} (h:CnT c Z H a):Cn c Z' a:=⟨h.1.1,g.cl a h.1.2 h.2⟩
theorem qag {α:Type} {l:List α} {i:Nat} (h:i<l.length):l.drop i=l[i]::l.drop (i+1):=List.drop_eq_getElem_cons h
theorem wN {it:Expr} {body:List Stmt} {f:M (List D)} {g:D->Env->Option Env} {b:MS} (hp:PassesOwn (model X.prog X.w) X.A X.env X.xe) (hc:X.calm=true) (hi:DI X c tg it f) (hg:DG X c tg g) (hb:DSs X c body b)
  (hs:∀ x,foldedSetIterable it X.env x=pure x:=by intro _;rfl):DS X c (.For tg it body [] pos) (qfl f g b):=by
 obtain ⟨wi,pi,wI⟩:=hi
 obtain ⟨tg',pg,wg⟩:=hg
 obtain ⟨tb,pb,wb⟩:=hb
 refine ⟨_,qme hp hc pi pg pb hs,fun U Z H D' r h=>wI U Z H _ r (WpI.sbnd h fun ds U1 J H1 r1 iok g1 h1 => ?_)⟩
 refine ⟨fun i m Z' H'=>m=ds.length-i/\i<=ds.length/\∃ U',Rep X.K c U' Z' H'/\GrS c.O Z H1 Z' H'/\WpS X.K c Z' H' D' (v6 g b (ds.drop i) U'),⟨ds.length,by simp,Nat.zero_le _,U1,r1,.refl,by simpa using h1⟩,?_⟩
 rintro i m Z' H' ⟨rfl,hi,U',r',gs,w⟩
 by_cases hlt:i<ds.length
 ·refine .inr ⟨iok.go H' i ds[i] gs.extT (by simp [hlt]),fun Z2 H2=>∃ U2,Rep X.K c U2 Z2 H2/\GrS c.O Z H1 Z2 H2/\WpS X.K c Z2 H2 D' (v6 g b (ds.drop (i+1)) U2),fun Z2 H2 n=>⟨ds.length-(i+1),by omega,rfl,hlt,n⟩,fun x H'' y => ?_⟩
  obtain ⟨sm,ix⟩:=iok.yl H' i ds[i] x H'' gs.extT (by simp [hlt]) y
  rw [qag hlt] at w
  unfold v6 at w
  have gs2:GrS c.O Z H1 Z' H'':=gs.trans (Gr.of_same sm).s
  have ix2:Is X.K (Cn c Z') H'' ds[i] x:=Is.ext Ext.refl (fun a ha _=>gs2.cnT ha) ix
  cases e1:g ds[i] U' with
  | none=>simp only [e1] at w;exact w.elim
  | some U2 =>
   simp only [e1] at w
   refine wg U' Z' H'' ds[i] x U2 _ (r'.same sm) ix2 e1 fun Z2 r2 g2 _=>wb U2 Z2 H'' _ r2 ?_
   have w2:=w.gr ((Gr.of_same sm).s.trans g2)
   have gs3:GrS c.O Z H1 Z2 H'':=gs2.trans g2
   cases e2:b U2 with
   | ok fl =>
    cases fl with
    | nx U3=>simp only [e2] at w2;exact fun Z3 H3 r3 g3=>⟨U3,r3,gs3.trans g3,w2.gr g3⟩
    | ct U3=>simp only [e2] at w2;exact fun Z3 H3 r3 g3=>⟨U3,r3,gs3.trans g3,w2.gr g3⟩
    | bk U3=>simp only [e2] at w2;exact w2
    | rt d U3=>simp only [e2] at w2;exact w2
   | exc x U3=>simp only [e2] at w2;exact w2
   | bad=>simp only [e2] at w2;exact w2
 ·have hie:i=ds.length:=by omega
  subst hie
  rw [List.drop_of_length_le (Nat.le_refl _)] at w
  exact .inl ⟨iok.stop H' gs.extT,w Z' H' r' .refl⟩
end
def cin (B0:Addr->Prop) (H1:Hp) (O':List Nat) (Io':Addr->Prop) (acc:Addr) (S':Nat->Option (Option V)):Fc where
 O:=O'
 P:=O'
 B:=fun a=>B0 a/\a≠acc
 H0:=upd H1 acc (.lst [])
 Io:=fun a=>Io' a\/a=acc
 E:=fun _ _=>False
 S:=S'
def zv (g:D->Env->Option Env) (t:M Bool) (e:M D):List D->List D->Env->R (List D×Env)
 | [],acc,U => .ok (acc,U)
 | d :: ds,acc,U=>match g d U with
  | none => .bad
  | some U1=>match t U1 with
   | .ok (true,U2)=>match e U2 with
    | .ok (y,U3)=>if qT (acc.length+1) then zv g t e ds (acc++[y]) U3 else .bad
    | _ => .bad
   | .ok (false,U2)=>zv g t e ds acc U2
   | _ => .bad
def yi (nt:Nat) (fr:List Nat) (U:Env):Env:=List.replicate nt none++fr.map fun j=>(U[j]?).join
def qlS (fo:Option (Nat×Nat)) (Ue U:Env):Env:=match fo with
 | none=>U
 | some (i,j)=>U.set j (Ue[i]?).join
def z5 (nt:Nat) (fr:List Nat) (fo:Option (Nat×Nat)) (f:M (List D)) (g:D->Env->Option Env) (t:M Bool) (e:M D):M D:=bnd f fun ds U=>match zv g t e ds [] (yi nt fr U) with
 | .ok (ys,Ue) => .ok (.lst ys,qlS fo Ue U)
 | _ => .bad
def DF (X:Cx) (c:Fc) (ifs:List Expr) (f:M Bool):Prop:=∃ t,PF X ifs t/\∀ U Z H Q,Rep X.K c U Z H->WpB X.K c Z H Q (f U)->t Z H Q
def foO (fo:Option (Nat×Nat)):List Nat:=match fo with
 | none=>[]
 | some (i,_)=>[i]
section
variable {X:Cx} {c:Fc} {tg a b e:Expr} {pos:Pos}
theorem u9:DF X c [] (ret true):=⟨_,qmK,fun U Z H Q r h=>h H r .refl⟩
theorem qbv {f:M Bool} (h:DT X c e f):DF X c [e] f:=by
 obtain ⟨t,p,w⟩:=h
 exact ⟨_,qmL p,w⟩
theorem WpI.bnd {K:Fr0} {Z:St} {H:Hp} {Q:VK} {f:M (List D)} {k:List D->M D} {U:Env} {Q':It->Hp->Prop} (h:Wp K c Z H Q (Sk.bnd f k U))
  (hQ:∀ ds U' J H',Rep K c U' Z H'->qjI K (CnT c Z H') H' ds J->Gr c.O Z H H'->Wp K c Z H' Q (k ds U')->Q' J H'):WpI K c Z H Q' (f U):=by
 unfold Sk.bnd at h
 cases e:f U with
 | ok p=>rw [e] at h;exact fun v H' hr hi hg=>hQ p.1 p.2 v H' hr hi hg (h.gr hg)
 | exc x U'=>rw [e] at h;exact h
 | bad=>rw [e] at h;exact h
theorem Rep.grow {K:Fr0} {B0:Addr->Prop} {H1:Hp} {O':List Nat} {Io':Addr->Prop} {acc:Addr} {S':Nat->Option (Option V)} {U:Env} {Z:St} {H:Hp} {xs ys:List V} (r:Rep K (cin B0 H1 O' Io' acc S') U Z H) (h:H acc=some (.lst xs)) (ho:∀ j∈O',Z[j]? ≠ some (some (.ref acc))) :
  Rep K (cin B0 H1 O' Io' acc S') U Z (upd H acc (.lst ys)):=by
 have ext:Ext (fun a=>a≠acc) H (upd H acc (.lst ys)):=⟨fun b zs hb=>by rw [qx (wD hb h (by intro z;cases z))];exact hb,fun b o u hb=>by rw [qx (wD hb h (by intro z;cases z))];exact hb,fun b o hb hq=>by rw [qx hb];exact hq⟩
 have cnext:Ext (Cn (cin B0 H1 O' Io' acc S') Z) H (upd H acc (.lst ys)):=⟨ext.tup,ext.frz,fun b o hb hq=>ext.at_ b o hb.1.2 hq⟩
 refine ⟨r.len,fun i d hd => ?_,fun j hj v hv => ?_,r.inj,r.b0,fun b o hb hio => ?_,fun b hb => ?_,r.pO,r.ps⟩
 ·obtain ⟨v,h1,h2⟩:=r.val i d hd
  refine ⟨v,h1,?_⟩
  rcases h2 with ⟨hi,ds,a,zs,h3,h5,h6,h7⟩ | ⟨hi,h3⟩
  ·subst h5
   have ne:a≠acc:=fun e=>ho i hi (by rw [h1,e])
   exact .inl ⟨hi,ds,a,zs,h3,rfl,by rw [qx ne];exact h6,IsL.ext cnext (fun _ h _=>h) h7⟩
  ·exact .inr ⟨hi,Is.ext cnext (fun _ h _=>h) h3⟩
 ·obtain ⟨a,zs,h1,h2,h3⟩:=r.own j hj v hv
  subst h1
  have ne:a≠acc:=fun e=>ho j hj (by rw [hv,e])
  exact ⟨a,zs,rfl,by rw [qx ne];exact h2,h3⟩
 ·have ne:b≠acc:=fun e=>hio (.inr e)
  rw [qx ne]
  exact r.kp b o hb hio
 ·by_cases e:b=acc
  ·subst e;rw [qA] at hb;cases hb
  ·rw [qx e] at hb;exact r.dm b hb
theorem qbw {α:Type} {o:Option (Option α)} {a:α} (h:o.join=some a):o=some (some a):=by
 cases o with
 | none=>cases h
 | some x=>have:x=some a:=h;rw [this]
def qkL (c:Fc) (nt:Nat) (fr:List Nat) (fo:Option (Nat×Nat)):Prop:=match fo with
 | none=>∀ j∈fr,j ∉ c.O
 | some (i,j)=>j∈c.O/\nt<=i/\fr[i-nt]? = some j/\∀ k j',fr[k]? = some j'->nt+k≠i->j' ∉ c.O
def qdx (Z:St) (fo:Option (Nat×Nat)) (a:Addr):Prop:=match fo with
 | none=>False
 | some (_,j)=>Z[j]? = some (some (.ref a))
theorem qah {nt:Nat} {fr:List Nat} {Z:St} {k j:Nat} (h:fr[k]? = some j):(qM nt fr Z)[nt+k]? = some (Z[j]?).join:=by
 unfold qM
 rw [List.getElem?_append_right (by simp),List.length_replicate,gM_,show nt+k-nt=k by omega,h]
 rfl
theorem qf7 {nt:Nat} {fr:List Nat} {U:Env} {i:Nat} {d:D} (hd:(yi nt fr U)[i]? = some (some d)):∃ k j,i=nt+k/\fr[k]? = some j/\U[j]? = some (some d):=by
 have hi:nt<=i:=by
  apply Nat.le_of_not_lt
  intro hlt
  unfold yi at hd
  rw [List.getElem?_append_left (by simpa using hlt),List.getElem?_replicate] at hd
  split at hd<;>cases hd
 unfold yi at hd
 rw [List.getElem?_append_right (by simpa using hi),List.length_replicate,gM_] at hd
 cases ej:fr[i-nt]? with
 | none=>rw [ej] at hd;cases hd
 | some j =>
  rw [ej] at hd
  exact ⟨i-nt,j,by omega,ej,qbw (by simpa using hd)⟩
theorem yG {nt:Nat} {fr:List Nat} {Z:St} {i:Nat} {d:V} (hd:(qM nt fr Z)[i]? = some (some d)):∃ k j,i=nt+k/\fr[k]? = some j/\Z[j]? = some (some d):=by
 have hi:nt<=i:=by
  apply Nat.le_of_not_lt
  intro hlt
  unfold qM at hd
  rw [List.getElem?_append_left (by simpa using hlt),List.getElem?_replicate] at hd
  split at hd<;>cases hd
 unfold qM at hd
 rw [List.getElem?_append_right (by simpa using hi),List.length_replicate,gM_] at hd
 cases ej:fr[i-nt]? with
 | none=>rw [ej] at hd;cases hd
 | some j =>
  rw [ej] at hd
  exact ⟨i-nt,j,by omega,ej,qbw (by simpa using hd)⟩
theorem Rep.entry {K:Fr0} {nt:Nat} {fr:List Nat} {fo:Option (Nat×Nat)} {acc:Addr} {U:Env} {Z:St} {H:Hp} (r:Rep K c U Z H) (hn:H acc=none) (hfo:qkL c nt fr fo) :
  Rep K (cin (Cn c Z) H (foO fo) (qdx Z fo) acc fun j=>(qM nt fr Z)[j]?) (yi nt fr U) (qM nt fr Z) (upd H acc (.lst [])):=by
 have sm:ji H (upd H acc (.lst [])):=qD hn _
 have ownI:∀ i∈foO fo,∀ v,(qM nt fr Z)[i]? = some (some v)->∃ j,fo=some (i,j)/\j∈c.O/\Z[j]? = some (some v):=fun i hi v hv=>by
  cases fo with
  | none=>cases hi
  | some p =>
   obtain ⟨i',j'⟩:=p
   have e:i=i':=by simpa [foO] using hi
   subst e
   obtain ⟨h1,h2,h3,h4⟩:=hfo
   obtain ⟨k,j,e1,e2,e3⟩:=yG hv
   have hk:k=i-nt:=by omega
   subst hk
   rw [h3] at e2
   cases e2
   exact ⟨j',rfl,h1,e3⟩
 have clI:∀ a,Cl c.O Z a->Cl (foO fo) (qM nt fr Z) a:=fun a ha i hi e=>by
  obtain ⟨j,_,hj,e2⟩:=ownI i hi _ e
  exact ha j hj e2
 refine ⟨by simp [yi,qM],fun i d hd => ?_,fun i hi v hv => ?_,fun i j a hi hj h1 h2 => ?_,⟨fun a ha => ?_,fun q P pos eP => ?_⟩,fun b o hb hio => ?_,fun b hb => ?_,fun _ h=>h,fun _ _=>rfl⟩
 ·obtain ⟨k,j,e1,e2,e3⟩:=qf7 hd
  subst e1
  by_cases hO:nt+k∈foO fo
  ·obtain ⟨v,hv⟩:∃ v,Z[j]? = some (some v):=by
    obtain ⟨v,h1,_⟩:=r.val j d e3
    exact ⟨v,h1⟩
   have hc:(qM nt fr Z)[nt+k]? = some (some v):=by rw [qah e2,hv];rfl
   obtain ⟨j',f1,f2,f3⟩:=ownI _ hO v hc
   subst f1
   obtain ⟨g1,g2,g3,g4⟩:=hfo
   rw [show nt+k-nt=k by omega,e2] at g3
   cases g3
   obtain ⟨ds,a,xs,h1,h3,h4,h5⟩:=r.getO g1 e3
   rw [hv] at h3
   cases h3
   exact ⟨.ref a,hc,.inl ⟨hO,ds,a,xs,h1,rfl,sm _ _ h4,IsL.ext (Ext.of_same sm) (fun b hb hs=>⟨⟨hb,fun e=>by subst e;rw [hn] at hs;cases hs⟩,clI b hb.2⟩) h5⟩⟩
  ·have hj:j ∉ c.O:=by
    cases fo with
    | none=>exact hfo j (List.mem_of_getElem? e2)
    | some p =>
     obtain ⟨i',j'⟩:=p
     exact hfo.2.2.2 k j e2 (fun e=>hO (by simp [foO,e]))
   obtain ⟨v,h1,h2⟩:=r.get hj e3
   refine ⟨v,by rw [qah e2,h1];rfl,.inr ⟨hO,?_⟩⟩
   refine Is.ext (Ext.of_same sm) (fun a ha hs=>⟨⟨ha,fun e => ?_⟩,clI a ha.2⟩) h2
   subst e;rw [hn] at hs;cases hs
 ·obtain ⟨j,f1,f2,f3⟩:=ownI i hi v hv
  obtain ⟨a,xs,h1,h2,h3⟩:=r.own j f2 v f3
  subst h1 f1
  exact ⟨a,xs,rfl,sm _ _ h2,.inr ⟨hi,.inl f3⟩⟩
 ·cases fo with
  | none=>cases hi
  | some p =>
   obtain ⟨i',j'⟩:=p
   have e:i=i':=by simpa [foO,cin] using hi
   have e2:j=i':=by simpa [foO,cin] using hj
   rw [e,e2]
 ·have ha':upd H acc (.lst []) a=none:=ha
  by_cases e:a=acc
  ·subst e;rw [qA] at ha';cases ha'
  ·rw [qx e] at ha';exact ⟨r.new ha',e⟩
 ·have hP:=(r.tb q P pos eP).1
  refine ⟨sm _ _ hP,fun z => ?_⟩
  rcases z with z | z
  ·cases fo with
   | none=>exact z
   | some p =>
    obtain ⟨b,xs,e1,e2,_⟩:=r.own _ hfo.1 _ z
    cases e1
    rw [hP] at e2;cases e2
  ·rw [z,hn] at hP;cases hP
 ·exact hb
 ·exact hb
theorem Rep.leave {K:Fr0} {nt:Nat} {fr:List Nat} {fo:Option (Nat×Nat)} {acc:Addr} {U Ue:Env} {Z Ze:St} {H H':Hp} (r:Rep K c U Z H) (hn:H acc=none) (hfo:qkL c nt fr fo) (hf:∀ i j,fo=some (i,j)->Ze[i]? = (qM nt fr Z)[i]?)
  (q:Rep K (cin (Cn c Z) H (foO fo) (qdx Z fo) acc fun j=>(qM nt fr Z)[j]?) Ue Ze H'):Rep K c (qlS fo Ue U) Z H'/\Gr c.O Z H H':=by
 have kp:∀ b o,H b=some o->¬ qdx Z fo b->H' b=some o:=fun b o hb hio=>q.kp b o (by show upd H acc (.lst []) b=some o;rw [qx (qK hb hn)];exact hb) fun z=>z.elim hio fun e=>absurd e (qK hb hn)
 have clean:∀ b,Cl c.O Z b->¬ qdx Z fo b:=fun b hb hio=>by
  cases fo with
  | none=>exact hio
  | some p=>exact hb p.2 hfo.1 hio
 have dom:∀ b,H' b=none->H b=none:=fun b hb=>by
  have:=q.dm b hb
  by_cases e:b=acc
  ·subst e;exact hn
  ·have this:upd H acc (.lst []) b=none:=this
   rw [qx e] at this;exact this
 have notT:∀ b xs,H b=some (.tup xs)->¬ qdx Z fo b:=fun b xs hb hio=>by
  cases fo with
  | none=>exact hio
  | some p =>
   obtain ⟨a,ys,e1,e2,_⟩:=r.own p.2 hfo.1 _ hio
   cases e1;rw [hb] at e2;cases e2
 have notF:∀ b o u,H b=some (.frz o u)->¬ qdx Z fo b:=fun b o u hb hio=>by
  cases fo with
  | none=>exact hio
  | some p =>
   obtain ⟨a,ys,e1,e2,_⟩:=r.own p.2 hfo.1 _ hio
   cases e1;rw [hb] at e2;cases e2
 have gr:Gr c.O Z H H':=⟨⟨fun b xs hb=>kp b _ hb (notT b xs hb),fun b o u hb=>kp b _ hb (notF b o u hb),fun b o hc hb=>kp b o hb (clean b hc)⟩,dom⟩
 refine ⟨⟨?_,fun k d hd => ?_,fun j hj v hv => ?_,r.inj,r.b0,fun b o hb hio => ?_,fun b hb=>r.dm b (dom b hb),r.pO,r.ps⟩,gr⟩
 ·cases fo with
  | none=>exact r.len
  | some p=>show (U.set _ _).length=_;rw [lS_];exact r.len
 ·-- an old slot,or the one that came qlS
  have oldSlot:U[k]? = some (some d)->(∀ i,fo≠some (i,k))->∃ v,Z[k]? = some (some v)/\((k∈c.O/\∃ ds a xs,d = .lst ds/\v = .ref a/\H' a=some (.lst xs)/\IsL K (Cn c Z) H' ds xs)\/(k ∉ c.O/\Is K (Cn c Z) H' d v)):=fun hk hne=>by
   obtain ⟨v,h1,h2⟩:=r.val k d hk
   refine ⟨v,h1,?_⟩
   rcases h2 with ⟨hi,ds,a,xs,h3,h5,h6,h7⟩ | ⟨hi,h3⟩
   ·subst h5
    refine .inl ⟨hi,ds,a,xs,h3,rfl,kp a _ h6 (fun hio => ?_),gr.isL h7⟩
    cases fo with
    | none=>exact hio
    | some p =>
     obtain ⟨i',j'⟩:=p
     have e:=r.inj k j' a hi hfo.1 h1 hio
     exact hne i' (by rw [e])
   ·exact .inr ⟨hi,gr.is h3⟩
  cases fo with
  | none=>exact oldSlot hd (fun i e=>by cases e)
  | some p =>
   obtain ⟨i',j'⟩:=p
   have hd':(U.set j' (Ue[i']?).join)[k]? = some (some d):=hd
   by_cases e:k=j'
   ·subst e
    have hl:k<U.length:=by
     have:=(gI_.mp hd').1
     rwa [lS_] at this
    rw [List.getElem?_set_self hl] at hd'
    have he:Ue[i']? = some (some d):=qbw (Option.some.inj hd')
    obtain ⟨ds,a,xs,h1,h3,h4,h5⟩:=q.getO (show i'∈foO (some (i',k)) by simp [foO]) he
    have h3':=hf i' k rfl
    rw [h3] at h3'
    obtain ⟨k2,j2,e1,e2,e3⟩:=yG h3'.symm
    have hk2:k2=i'-nt:=by omega
    subst hk2
    rw [hfo.2.2.1] at e2
    cases e2
    exact ⟨.ref a,e3,.inl ⟨hfo.1,ds,a,xs,h1,rfl,h4,IsL.ext Ext.refl (fun b hb _=>hb.1.1) h5⟩⟩
   ·rw [zx e] at hd'
    exact oldSlot hd' (fun i e2=>e (by cases e2;rfl))
 ·obtain ⟨a,xs,h1,h2,h3⟩:=r.own j hj v hv
  subst h1
  by_cases hio:qdx Z fo a
  ·cases fo with
   | none=>exact hio.elim
   | some p =>
    obtain ⟨i',j'⟩:=p
    have hc:(qM nt fr Z)[i']? = some (some (.ref a)):=by
     have:=qah (Z:=Z) (nt:=nt) hfo.2.2.1
     rw [show nt+(i'-nt)=i' by have:=hfo.2.1;omega] at this
     rw [this]
     have hio':Z[j']? = some (some (.ref a)):=hio
     rw [hio'];rfl
    have h3':=hf i' j' rfl
    rw [hc] at h3'
    obtain ⟨a',ys,e1,e2,_⟩:=q.own i' (by simp [foO,cin]) _ h3'
    cases e1
    exact ⟨a,ys,rfl,e2,h3⟩
  ·exact ⟨a,xs,rfl,kp a _ h2 hio,h3⟩
 ·by_cases hio2:qdx Z fo b
  ·cases fo with
   | none=>exact hio2.elim
   | some p =>
    obtain ⟨a,ys,e1,e2,e3⟩:=r.own p.2 hfo.1 _ hio2
    cases e1
    rcases e3 with e3 | e3
    ·rw [hb] at e3;cases e3
    ·exact absurd e3.2 hio
  ·exact kp b o (r.kp b o hb hio) hio2
theorem z6 {it elt:Expr} {ifs:List Expr} {scope:Scope} {N':List Str} {nt:Nat} {fr:List Nat} {fo:Option (Nat×Nat)} {f:M (List D)} {g:D->Env->Option Env} {t:M Bool} {k:M D} (hc:X.calm=true) (hi:DI X c tg it f) (S:yh X scope N' nt fr)
  (hfo:qkL c nt fr fo)
  (hb:∀ fp cl C s₀ H₀ pn B0 H1 Io' acc S',DG (zU X scope N' fp cl C s₀ H₀ pn) (cin B0 H1 (foO fo) Io' acc S') tg g/\DF (zU X scope N' fp cl C s₀ H₀ pn) (cin B0 H1 (foO fo) Io' acc S') ifs t/\DE (zU X scope N' fp cl C s₀ H₀ pn) (cin B0 H1 (foO fo) Io' acc S') elt k)
  (hs:∀ x,foldedSetIterable it X.env x=pure x:=by intro _;rfl):DE X c (.ListComp elt [⟨tg,it,ifs,0⟩] scope pos) (z5 nt fr fo f g t k):=by
 obtain ⟨wi,pi,wI⟩:=hi
 refine ⟨_,qkK hc pi S hs,fun U Z H Q r h=>wI U Z H _ r (WpI.bnd h fun ds U1 J H1 r1 iok g1 h1 => ?_)⟩
 intro acc fp cl C s₀ H₀ pn hn
 obtain ⟨⟨tg',pg,wg⟩,⟨tt,pt,wt⟩,⟨te,pe,we⟩⟩:=hb fp cl C s₀ H₀ pn (Cn c Z) H1 (qdx Z fo) acc fun j=>(qM nt fr Z)[j]?
 refine ⟨tg',tt,te,pg,pt,pe,?_⟩
 cases ew:zv g t k ds [] (yi nt fr U1) with
 | exc x U'=>rw [ew] at h1;exact h1.elim
 | bad=>rw [ew] at h1;exact h1.elim
 | ok p =>
  rw [ew] at h1
  obtain ⟨ys,Ue⟩:=p
  have h1:∀ v H',Rep X.K c (qlS fo Ue U1) Z H'->Is X.K (Cn c Z) H' (.lst ys) v->Gr c.O Z H1 H'->Q v H':=h1
  have accO:∀ j∈foO fo,(qM nt fr Z)[j]? ≠ some (some (.ref acc)):=fun j hj e=>by
   have r0:=r1.entry (acc:=acc) hn hfo
   cases fo with
   | none=>cases hj
   | some p =>
    obtain ⟨i',j'⟩:=p
    have e2:j=i':=by simpa [foO] using hj
    subst e2
    obtain ⟨k2,j2,e1,e2,e3⟩:=yG e
    have hk2:k2=j-nt:=by omega
    subst hk2
    rw [hfo.2.2.1] at e2
    cases e2
    obtain ⟨a,us,e4,e5,_⟩:=r1.own j' hfo.1 _ e3
    cases e4;rw [hn] at e5;cases e5
  refine ⟨fun i m Z' H'=>m=ds.length-i/\i<=ds.length/\∃ U' zs xs,Rep X.K (cin (Cn c Z) H1 (foO fo) (qdx Z fo) acc fun j=>(qM nt fr Z)[j]?) U' Z' H'/\(∀ j∈foO fo,Z'[j]? = (qM nt fr Z)[j]?)/\H' acc=some (.lst xs)/\IsL X.K (Cn (cin (Cn c Z) H1 (foO fo) (qdx Z fo) acc fun j=>(qM nt fr Z)[j]?) Z') H' zs xs/\zv g t k (ds.drop i) zs U' = .ok (ys,Ue),
   ⟨ds.length,by simp,Nat.zero_le _,yi nt fr U1,[],[],r1.entry hn hfo,fun _ _=>rfl,qA,rfl,by simpa using ew⟩,?_⟩
  rintro i m Z' H' ⟨rfl,hi,U',zs,xs,r',so,ha,iz,w⟩
  obtain ⟨_,gr⟩:=r1.leave hn hfo (fun i j e=>so i (by rw [e];simp [foO])) r'
  have ex:Ext (CnT c Z H1) H1 H':=⟨gr.ext.tup,gr.ext.frz,fun b o hb hq=>gr.ext.at_ b o hb.1.2 hq⟩
  have accC:∀ τ:St,(∀ j∈foO fo,τ[j]? = (qM nt fr Z)[j]?)->Cl (foO fo) τ acc:=fun τ hτ j hj e=>accO j hj (by rw [<- hτ j hj];exact e)
  by_cases hlt:i<ds.length
  ·refine .inr ⟨iok.go H' i ds[i] ex (by simp [hlt]),fun x H'' y => ?_⟩
   obtain ⟨sm,ix⟩:=iok.yl H' i ds[i] x H'' ex (by simp [hlt]) y
   rw [qag hlt] at w
   unfold zv at w
   have ix2:Is X.K (Cn (cin (Cn c Z) H1 (foO fo) (qdx Z fo) acc fun j=>(qM nt fr Z)[j]?) Z') H'' ds[i] x:=Is.ext Ext.refl (fun a ha _=>⟨⟨ha.1,fun e=>by
    have:=ha.2
    rw [e,hn] at this;cases this⟩,fun j hj e=>by
     rw [so j hj] at e
     cases fo with
     | none=>cases hj
     | some p =>
      obtain ⟨i',j'⟩:=p
      have e2:j=i':=by simpa [foO,cin] using hj
      subst e2
      obtain ⟨k2,j2,e1,e2,e3⟩:=yG e
      have hk2:k2=j-nt:=by omega
      subst hk2
      rw [hfo.2.2.1] at e2
      cases e2
      exact ha.1.2 j' hfo.1 e3⟩) ix
   cases e1:g ds[i] U' with
   | none=>simp only [e1] at w;cases w
   | some U2 =>
    simp only [e1] at w
    refine wg U' Z' H'' ds[i] x U2 _ (r'.same sm) ix2 e1 fun Z2 r2 g2 o2 => ?_
    have so2:∀ j∈foO fo,Z2[j]? = (qM nt fr Z)[j]? := fun j hj=>(o2 j hj).trans (so j hj)
    have ha2:H'' acc=some (.lst xs):=sm _ _ ha
    have iz2:=g2.isL (IsL.ext (Ext.of_same sm) (fun _ h _=>h) iz)
    cases e2:t U2 with
    | exc x U3=>simp only [e2] at w;cases w
    | bad=>simp only [e2] at w;cases w
    | ok p2 =>
     obtain ⟨bb,U3⟩:=p2
     refine wt U2 Z2 H'' _ r2 ?_
     rw [e2]
     intro H3 r3 g3
     have ha3:H3 acc=some (.lst xs):=g3.ext.at_ _ _ (accC Z2 so2) ha2
     have iz3:=g3.isL iz2
     cases bb with
     | false =>
      rw [if_neg Bool.false_ne_true]
      simp only [e2] at w
      exact ⟨ds.length-(i+1),by omega,rfl,hlt,U3,zs,xs,r3,so2,ha3,iz3,w⟩
     | true =>
      rw [if_pos rfl]
      simp only [e2] at w
      cases e3:k U3 with
      | exc x U4=>simp only [e3] at w;cases w
      | bad=>simp only [e3] at w;cases w
      | ok p3 =>
       obtain ⟨d4,U4⟩:=p3
       simp only [e3] at w
       refine we U3 Z2 H3 _ r3 ?_
       rw [e3]
       intro y4 H4 r4 i4 g4
       have ha4:H4 acc=some (.lst xs):=g4.ext.at_ _ _ (accC Z2 so2) ha3
       have hsz:qT (zs.length+1)=true:=by
        cases e5:qT (zs.length+1) with
        | true=>rfl
        | false=>rw [e5] at w;simp at w
       rw [if_pos hsz] at w
       have hsz':zs.length+1<=sizeLine:=of_decide_eq_true hsz
       have r5:=r4.grow (ys:=xs++[y4]) ha4 (fun j hj e=>accC Z2 so2 j hj e)
       have ext5:Ext (Cn (cin (Cn c Z) H1 (foO fo) (qdx Z fo) acc fun j=>(qM nt fr Z)[j]?) Z2) H4 (upd H4 acc (.lst (xs++[y4]))):=⟨fun b us hb=>by rw [qx (wD hb ha4 (by intro z;cases z))];exact hb,fun b o u hb=>by rw [qx (wD hb ha4 (by intro z;cases z))];exact hb,fun b o hb hq=>by rw [qx hb.1.2];exact hq⟩
       refine ⟨xs,ha4,by rw [iz3.length];omega,ds.length-(i+1),by omega,rfl,hlt,U4,zs++[d4],xs++[y4],r5,so2,qA,?_,w⟩
       exact IsL.append (IsL.ext ext5 (fun _ h _=>h) (g4.isL iz3)) (IsL.one (Is.ext ext5 (fun _ h _=>h) i4))
  ·have hie:i=ds.length:=by omega
   subst hie
   rw [List.drop_of_length_le (Nat.le_refl _)] at w
   unfold zv at w
   cases w
   obtain ⟨r6,g6⟩:=r1.leave hn hfo (fun i j e=>so i (by rw [e];simp [foO])) r'
   exact .inl ⟨iok.stop H' ex,h1 _ H' r6 ⟨acc,xs,rfl,r1.new hn,ha,IsL.ext Ext.refl (fun a ha hs=>ha.1.1) iz⟩ g6⟩
end
theorem Rep.io {K:Fr0} {c:Fc} {U:Env} {Z:St} {H H':Hp} {i:Nat} {a:Addr} {bs:List D} {xs:List V} (r:Rep K c U Z H) (hi:i∈c.O) (hs:Z[i]? = some (some (.ref a))) (kp:∀ b o,b≠a->H b=some o->H' b=some o)
  (ha:H' a=some (.lst xs)) (him:True) (il:IsL K (Cn c Z) H' bs xs) (dm:∀ b,H' b=none->H b=none):Rep K c (U.set i (some (.lst bs))) Z H'/\Gr c.O Z H H':=by
 obtain ⟨a',xs0,e0,h0,hown⟩:=r.own i hi _ hs
 cases e0
 have gr:Gr c.O Z H H':=⟨⟨fun b us hb=>kp b _ (wD hb h0 (by intro z;cases z)) hb,fun b o u hb=>kp b _ (wD hb h0 (by intro z;cases z)) hb,fun b o hc hb=>kp b o (fun e=>hc i hi (by rw [hs,e])) hb⟩,dm⟩
 refine ⟨⟨by rw [lS_];exact r.len,fun k d hk => ?_,fun j hj v hv => ?_,r.inj,r.b0,fun b o hb hio => ?_,fun b hb=>r.dm b (dm b hb),r.pO,r.ps⟩,gr⟩
 ·by_cases e:k=i
  ·subst e
   have hl:k<U.length:=by
    have:=(gI_.mp hk).1
    rwa [lS_] at this
   rw [List.getElem?_set_self hl] at hk
   cases hk
   exact ⟨.ref a,hs,.inl ⟨hi,bs,a,xs,rfl,rfl,ha,il⟩⟩
  ·rw [zx e] at hk
   obtain ⟨v,h1,h2⟩:=r.val k d hk
   refine ⟨v,h1,?_⟩
   rcases h2 with ⟨hk2,ds,b,ys,h3,h5,h6,h7⟩ | ⟨hk2,h3⟩
   ·subst h5
    have ne:b≠a:=fun e2=>e (r.inj k i a hk2 hi (by rw [h1,e2]) hs)
    exact .inl ⟨hk2,ds,b,ys,h3,rfl,kp b _ ne h6,gr.isL h7⟩
   ·exact .inr ⟨hk2,gr.is h3⟩
 ·obtain ⟨b,ys,h1,h2,h3⟩:=r.own j hj v hv
  subst h1
  by_cases e:b=a
  ·subst e;exact ⟨b,xs,rfl,ha,h3⟩
  ·exact ⟨b,ys,rfl,kp b _ e h2,h3⟩
 ·have ne:b≠a:=fun e=>by
   subst e
   rcases hown with z | z
   ·rw [hb] at z;cases z
   ·exact hio z.2
  exact kp b o ne (r.kp b o hb hio)
def zB (i:Nat) (U:Env):Option (List D):=match U[i]? with
 | some (some (.lst ds))=>some ds
 | _=>none
theorem qg7 {i:Nat} {U:Env} {ds:List D} (h:zB i U=some ds):U[i]? = some (some (.lst ds)):=by
 unfold zB at h
 split at h
 ·rename_i e;cases h;exact e
 ·cases h
theorem Rep.getLO {K:Fr0} {c:Fc} {U:Env} {Z:St} {H:Hp} (r:Rep K c U Z H) {i:Nat} {ds:List D} (hi:i∈c.O) (h:zB i U=some ds) :
  ∃ a xs,True/\Z[i]? = some (some (.ref a))/\H a=some (.lst xs)/\IsL K (Cn c Z) H ds xs:=by
 obtain ⟨ds',a,xs,h1,h3,h4,h5⟩:=r.getO hi (qg7 h)
 cases h1
 exact ⟨a,xs,trivial,h3,h4,h5⟩
theorem zV {H:Hp} {a b:Addr} {o u:HO} (h:b≠a) (hb:H b=some o):upd H a u b=some o:=by rw [qx h];exact hb
theorem qeI {H:Hp} {a b:Addr} {u:HO} (h:upd H a u b=none):H b=none:=by
 by_cases e:b=a
 ·subst e;rw [qA] at h;cases h
 ·rw [qx e] at h;exact h
section
variable {X:Cx} {c:Fc} {a b e:Expr} {pos:Pos}
def yu (i:Nat) (f:M D):M D:=fun U=>match zB i U with
 | none => .bad
 | some _=>(bnd f fun d U=>match zB i U with
  | some ds=>if imm d&&qT (ds.length+1) then .ok (.non,U.set i (some (.lst (ds++[d])))) else .bad
  | none => .bad) U
theorem qdV {i:Nat} {x:Str} {p1 apos:Pos} {f:M D} (he:DE X c e f) (ho:i∈c.O:=by exact of_decide_eq_true rfl) (hN:X.N[i]? = some x:=by rfl) (hv:Vis X.env.scope x:=by first | exact Or.inl rfl | exact Or.inr (Or.inl rfl) | exact Or.inr (Or.inr rfl)) (hd:(x==("__debug__":Str))=false:=by decide) (hcd:(x==("__classdict__":Str))=false:=by decide)
  (hbase:attributeBase (.Name x p1) "append" X.env (eval (.Name x p1) X.env)=eval (.Name x p1) X.env:=by rfl)
  (hfew:((backTo pos (starEach [e] X.env)).all (fun x => !x.1)&&(backToKw pos (keywordEach [] X.env)).all (fun x=>x.1.isSome)
   && decide ([e].length+([]:List Keyword).length+(if ([]:List Keyword).isEmpty then 0 else 1)<30))=true:=by rfl)
  (hline:(apos.endLine==pos.line)=true:=by rfl) (hs:starEach [e] X.env=(false,eval e X.env)::starEach [] X.env:=by rfl) (hplain:(backTo pos (starEach [] X.env)).any (·.1)=false:=by rfl) :
  DE X c (.Call (.Attribute (.Name x p1) "append" apos) [e] [] pos) (yu i f):=by
 obtain ⟨t,p,w⟩:=he
 refine ⟨_,qmx PySem.F.plainAttrs_list PySem.F.slot_list_append PySem.F.type_list_append qbg (wE hN hv hd hcd) (vb p qcb hs) hbase hfew hline hs hplain,fun U Z H Q r h => ?_⟩
 unfold yu at h
 cases e0:zB i U with
 | none=>rw [e0] at h;exact h.elim
 | some ds0 =>
  simp only [e0] at h
  obtain ⟨l,xs0,_,hl,hH,_⟩:=r.getLO ho e0
  refine ⟨.ref l,hl,.inl ⟨rfl,xs0,.inl (.inl hH)⟩,w U Z H _ r (Wp.bnd h fun d U1 v H1 r1 i1 g1 h1 => ?_)⟩
  cases e1:zB i U1 with
  | none=>simp only [e1] at h1;exact h1.elim
  | some ds =>
   simp only [e1] at h1
   by_cases hb:(imm d&&qT (ds.length+1))=true
   ·rw [if_pos hb] at h1
    rw [Bool.and_eq_true] at hb
    obtain ⟨l',xs,him,hl',hH',il⟩:=r1.getLO ho e1
    rw [hl] at hl'
    cases hl'
    have hsz:ds.length+1<=sizeLine:=of_decide_eq_true hb.2
    have ext:Ext (Cn c Z) H1 (upd H1 l (.lst (xs++[v]))):=⟨fun b us hb=>zV (wD hb hH' (by intro z;cases z)) hb,fun b o u hb=>zV (wD hb hH' (by intro z;cases z)) hb,fun b o hb hq=>zV (fun e=>hb.2 i ho (by rw [hl,e])) hq⟩
    obtain ⟨r2,g2⟩:=r1.io (H':=upd H1 l (.lst (xs++[v]))) (bs:=ds++[d]) ho hl (fun b o hb ho=>zV hb ho) qA trivial
     (IsL.append (IsL.ext ext (fun _ h _=>h) il) (IsL.one (Is.ext ext (fun _ h _=>h) i1))) (fun b hb=>qeI hb)
    exact ⟨l,xs,v,rfl,rfl,hH',by rw [il.length];omega,h1 _ _ r2 rfl g2⟩
   ·rw [if_neg hb] at h1;exact h1.elim
def qiH (i:Nat) (k f:M D):MS:=sbnd f fun d U=>match zB i U with
 | none => .bad
 | some _=>(sbnd k fun j U=>match j,zB i U with
  | .int n,some ds=>match ixN ds.length n with
   | some q=>if imm d then .ok (.nx (U.set i (some (.lst (ds.set q d))))) else .bad
   | none => .bad
  | _,_ => .bad) U
theorem qkM {i:Nat} {x:Str} {p1 p2:Pos} {ke:Expr} {f k:M D} (he:DE X c e f) (hk:DE X c ke k) (ho:i∈c.O:=by exact of_decide_eq_true rfl) (hN:X.N[i]? = some x:=by rfl) (hv:Vis X.env.scope x:=by first | exact Or.inl rfl | exact Or.inr (Or.inl rfl) | exact Or.inr (Or.inr rfl)) (hd:(x==("__debug__":Str))=false:=by decide) (hcd:(x==("__classdict__":Str))=false:=by decide)
  (ha:∀ v,assign (.Subscript (.Name x p1) ke p2) X.env v=(do
   let ov <- holding [v] (eval (.Name x p1) X.env)
   let iv <- holding [v,ov] (eval ke X.env)
   standAt p2
   holding [v,ov,iv] (setItem ov iv v)
   release [v,ov,iv] []):=by intro _;rfl)
  (hs:swapsWithSole [.Subscript (.Name x p1) ke p2] e pos.line X.env=pure false:=by rfl) (hw:swappedStores [.Subscript (.Name x p1) ke p2] e X.env=pure none:=by rfl) (h1:(assignEach [.Subscript (.Name x p1) ke p2] X.env).map (·.2)=[assign (.Subscript (.Name x p1) ke p2) X.env]:=by rfl) :
  DS X c (.Assign [.Subscript (.Name x p1) ke p2] e pos) (qiH i k f):=by
 obtain ⟨t,p,w⟩:=he
 obtain ⟨tk,pk,wk⟩:=hk
 refine ⟨_,qjv p (qma (wE hN hv hd hcd) pk qiu ha) hs hw h1,fun U Z H D r h=>w U Z H _ r (Wp.sbnd h fun d U1 v H1 r1 i1 g1 h1 => ?_)⟩
 cases e0:zB i U1 with
 | none=>simp only [e0] at h1;exact h1.elim
 | some ds0 =>
  simp only [e0] at h1
  obtain ⟨l,xs0,_,hl,hH,_⟩:=r1.getLO ho e0
  refine ⟨.ref l,hl,wk U1 Z H1 _ r1 (Wp.sbnd h1 fun j U2 u H2 r2 i2 g2 h2 => ?_)⟩
  cases j with
  | int n =>
   cases e1:zB i U2 with
   | none=>simp only [e1] at h2;exact h2.elim
   | some ds =>
    simp only [e1] at h2
    cases e2:ixN ds.length n with
    | none=>simp only [e2] at h2;exact h2.elim
    | some q =>
     simp only [e2] at h2
     by_cases hb:imm d=true
     ·rw [if_pos hb] at h2
      obtain ⟨l',xs,him,hl',hH',il⟩:=r2.getLO ho e1
      rw [hl] at hl'
      cases hl'
      cases i2
      have i3:=g2.is i1
      have ext:Ext (Cn c Z) H2 (upd H2 l (.lst (xs.set q v))):=⟨fun b us hb=>zV (wD hb hH' (by intro z;cases z)) hb,fun b o u hb=>zV (wD hb hH' (by intro z;cases z)) hb,fun b o hb hq=>zV (fun e=>hb.2 i ho (by rw [hl,e])) hq⟩
      obtain ⟨r3,g3⟩:=r2.io (H':=upd H2 l (.lst (xs.set q v))) (bs:=ds.set q d) ho hl (fun b o hb ho=>zV hb ho) qA trivial
       (IsL.set (Is.ext ext (fun _ h _=>h) i3) q (IsL.ext ext (fun _ h _=>h) il)) (fun b hb=>qeI hb)
      exact ⟨l,xs,n,q,rfl,rfl,hH',by rw [il.length];exact e2,h2 Z _ r3 g3.s⟩
     ·rw [if_neg hb] at h2;exact h2.elim
  | _=>exact h2.elim
structure qiI (K:Fr0) (c:Fc) (U:Env) (Z:St) (H:Hp) (a:Addr):Prop where
 val:∀ i d v,U[i]? = some (some d)->i ∉ c.O->Z[i]? = some (some v)->Is K (fun b=>Cn c Z b/\b≠a) H d v
 cont:∀ i ds b xs,U[i]? = some (some (.lst ds))->i∈c.O->Z[i]? = some (some (.ref b))->H b=some (.lst xs)->IsL K (Cn c Z) H ds xs->IsL K (fun b=>Cn c Z b/\b≠a) H ds xs
 own:∀ j∈c.O,Z[j]? ≠ some (some (.ref a))
 new:c.H0 a=none
theorem Is.fresh {K:Fr0} {A:Addr->Prop} {H:Hp} {d:D} {v:V} {a:Addr} (h:Is K A H d v) (hn:H a=none):Is K (fun b=>A b/\b≠a) H d v:=Is.ext Ext.refl (fun b h1 h2=>⟨h1,fun e=>by rw [e,hn] at h2;cases h2⟩) h
theorem Rep.apart {K:Fr0} {U:Env} {Z:St} {H:Hp} {a:Addr} {o:HO} (r:Rep K c U Z H) (hn:H a=none):qiI K c U Z (upd H a o) a where
 val:=fun i d v h1 h2 h3=>by
  obtain ⟨w,h4,h5⟩:=r.get h2 h1
  rw [h3] at h4
  cases h4
  exact Is.ext (Ext.of_same (qD hn _)) (fun _ h _=>h) (h5.fresh hn)
 cont:=fun i ds b xs h1 h2 h3 h4 _=>by
  obtain ⟨ds',a',ys,e1,e2,e3,e4⟩:=r.getO h2 h1
  cases e1
  rw [h3] at e2
  cases e2
  have:=qD hn o _ _ e3
  rw [h4] at this
  cases this
  exact IsL.ext (Ext.of_same (qD hn _)) (fun b hb hs=>⟨hb,fun e=>by rw [e,hn] at hs;cases hs⟩) e4
 own:=fun j hj e=>(r.new hn).2 j hj e
 new:=r.dm a hn
theorem Rep.apart_same {K:Fr0} {U:Env} {Z:St} {H H':Hp} {a:Addr} (r:Rep K c U Z H) (hn:H a=none) (sm:ji H H'):qiI K c U Z H' a where
 val:=fun i d v h1 h2 h3=>by
  obtain ⟨w,h4,h5⟩:=r.get h2 h1
  rw [h3] at h4
  cases h4
  exact Is.ext (Ext.of_same sm) (fun _ h _=>h) (h5.fresh hn)
 cont:=fun i ds b xs h1 h2 h3 h4 _=>by
  obtain ⟨ds',a',ys,e1,e2,e3,e4⟩:=r.getO h2 h1
  cases e1
  rw [h3] at e2
  cases e2
  have:=sm _ _ e3
  rw [h4] at this
  cases this
  exact IsL.ext (Ext.of_same sm) (fun b hb hs=>⟨hb,fun e=>by rw [e,hn] at hs;cases hs⟩) e4
 own:=fun j hj e=>(r.new hn).2 j hj e
 new:=r.dm a hn
def WpN (K:Fr0) (c:Fc) (Z:St) (H:Hp) (Q:VK):R (List D×Env)->Prop
 | .ok (ds,U)=>∀ a xs H',H a=none->Rep K c U Z H'->qiI K c U Z H' a->H' a=some (.lst xs)->True->IsL K (fun b=>Cn c Z b/\b≠a) H' ds xs->Gr c.O Z H H'->Q (.ref a) H'
 | .exc x U=>∀ H',Rep K c U Z H'->Gr c.O Z H H'->c.E x H'
 | .bad=>False
def DN (X:Cx) (c:Fc) (e:Expr) (f:M (List D)):Prop:=∃ t,PE X e t/\∀ U Z H Q,Rep X.K c U Z H->WpN X.K c Z H Q (f U)->t Z H Q
theorem WpN.gr {K:Fr0} {Z:St} {H H1:Hp} {Q:VK}:∀ {r:R (List D×Env)},WpN K c Z H Q r->Gr c.O Z H H1->WpN K c Z H1 Q r
 | .ok (d,U),h,g=>fun a xs H' hn h1 h2 h3 h4 h5 hg=>h a xs H' (g.dom a hn) h1 h2 h3 h4 h5 (g.trans hg)
 | .exc x U,h,g=>fun H' hr hg=>h H' hr (g.trans hg)
 | .bad,h,_=>h
theorem WpL.bndN {K:Fr0} {Z:St} {H:Hp} {Q:VK} {f:M (List D)} {k:List D->M (List D)} {U:Env} {Q':List V->Hp->Prop} (h:WpN K c Z H Q (Sk.bnd f k U)) (hQ:∀ d U' v H',Rep K c U' Z H'->IsL K (Cn c Z) H' d v->Gr c.O Z H H'->WpN K c Z H' Q (k d U')->Q' v H'):WpL K c Z H Q' (f U):=by
 unfold Sk.bnd at h
 cases e:f U with
 | ok p=>rw [e] at h;exact fun v H' hr hi hg=>hQ p.1 p.2 v H' hr hi hg (h.gr hg)
 | exc x U'=>rw [e] at h;exact h
 | bad=>rw [e] at h;exact h
def qiJ (f:M (List D)):M (List D):=bnd f fun ds=>lift (if immL ds&&qT ds.length then some ds else none)
theorem qfm {es:List Expr} {f:M (List D)} (h:DA X c es f):DN X c (.List es pos) (qiJ f):=by
 obtain ⟨t,p,w⟩:=h
 refine ⟨_,qjy p,fun U Z H Q r h=>w U Z H _ r (WpL.bndN h fun ds U1 vs H1 r1 i1 g1 h1 => ?_)⟩
 by_cases hb:(immL ds&&qT ds.length)=true
 ·rw [if_pos hb] at h1
  rw [Bool.and_eq_true] at hb
  refine ⟨by rw [i1.length];exact of_decide_eq_true hb.2,fun p hp => ?_⟩
  exact h1 p vs _ hp (r1.laid hp _) (r1.apart hp) qA trivial (IsL.ext (Ext.of_same (qD hp _)) (fun b h hs=>⟨h,fun e=>by rw [e,hp] at hs;cases hs⟩) i1) (.of_same (qD hp _))
 ·rw [if_neg hb] at h1;exact h1.elim
theorem Cl.setO {O:List Nat} {Z:St} {i:Nat} {a b:Addr} (h:Cl O Z b) (hb:b≠a):Cl O (Z.set i (some (.ref a))) b:=fun j hj e=>by
 by_cases hji:j=i
 ·subst hji
  have hl:j<Z.length:=by
   have:=(gI_.mp e).1
   rwa [lS_] at this
  rw [List.getElem?_set_self hl] at e
  cases e
  exact hb rfl
 ·rw [zx hji] at e
  exact h j hj e
theorem Rep.setO {K:Fr0} {U:Env} {Z:St} {H:Hp} {i:Nat} {a:Addr} {ds:List D} {xs:List V} (r:Rep K c U Z H) (hi:i∈c.O) (hP:i ∉ c.P) (ap:qiI K c U Z H a) (ha:H a=some (.lst xs)) (him:True) (il:IsL K (fun b=>Cn c Z b/\b≠a) H ds xs) :
  Rep K c (U.set i (some (.lst ds))) (Z.set i (some (.ref a))) H where
 len:=by rw [lS_,lS_];exact r.len
 val := fun j e hj=>by
  by_cases e1:j=i
  ·subst e1
   have hl:j<U.length:=by
    have:=(gI_.mp hj).1
    rwa [lS_] at this
   rw [List.getElem?_set_self hl] at hj
   cases hj
   exact ⟨.ref a,List.getElem?_set_self (by rw [<- r.len];exact hl),.inl ⟨hi,ds,a,xs,rfl,rfl,ha,IsL.ext Ext.refl (fun b hb _=>⟨hb.1.1,hb.1.2.setO hb.2⟩) il⟩⟩
  ·rw [zx e1] at hj
   obtain ⟨w,h1,h2⟩:=r.val j e hj
   refine ⟨w,by rw [zx e1];exact h1,?_⟩
   rcases h2 with ⟨g1,ds',b',xs',g3,g5,g6,g7⟩ | ⟨h3,h4⟩
   ·subst g3 g5
    exact .inl ⟨g1,ds',b',xs',rfl,rfl,g6,IsL.ext Ext.refl (fun b hb _=>⟨hb.1.1,hb.1.2.setO hb.2⟩) (ap.cont j ds' b' xs' hj g1 h1 g6 g7)⟩
   ·exact .inr ⟨h3,Is.ext Ext.refl (fun b hb _=>⟨hb.1.1,hb.1.2.setO hb.2⟩) (ap.val j e w hj h3 h1)⟩
 own := fun j hj w h=>by
  by_cases e1:j=i
  ·subst e1
   have hl:j<Z.length:=by
    have:=(gI_.mp h).1
    rwa [lS_] at this
   rw [List.getElem?_set_self hl] at h
   cases h
   exact ⟨a,xs,rfl,ha,.inl ap.new⟩
  ·rw [zx e1] at h
   exact r.own j hj w h
 inj := fun j k b hj hk h1 h2=>by
  by_cases e1:j=i
  ·by_cases e2:k=i
   ·rw [e1,e2]
   ·subst e1
    have hl:j<Z.length:=by
     have:=(gI_.mp h1).1
     rwa [lS_] at this
    rw [List.getElem?_set_self hl] at h1
    cases h1
    rw [zx e2] at h2
    exact absurd h2 (ap.own k hk)
  ·by_cases e2:k=i
   ·subst e2
    have hl:k<Z.length:=by
     have:=(gI_.mp h2).1
     rwa [lS_] at this
    rw [List.getElem?_set_self hl] at h2
    cases h2
    rw [zx e1] at h1
    exact absurd h1 (ap.own j hj)
   ·rw [zx e1] at h1
    rw [zx e2] at h2
    exact r.inj j k b hj hk h1 h2
 b0:=r.b0
 kp:=r.kp
 dm:=r.dm
 pO:=r.pO
 ps:=fun j hj=>by
  have e:j≠i:=fun e=>hP (e▸hj)
  rw [zx e];exact r.ps j hj
def wO (i:Nat) (f:M (List D)):MS:=sbnd f fun ds U => .ok (.nx (U.set i (some (.lst ds))))
theorem qbx {i:Nat} {x:Str} {pos':Pos} {f:M (List D)} (hN:X.N.Nodup) (he:DN X c e f) (ho:i∈c.O:=by exact of_decide_eq_true rfl) (hP:i ∉ c.P:=by exact of_decide_eq_false rfl) (hi:X.N[i]? = some x:=by rfl) (hx:Loc X.env.scope x:=by first | exact Or.inl rfl | exact Or.inr rfl) (hs:swapsWith e (some (.Name x pos')) pos.line X.env=pure false:=by rfl) (hf:X.fn x=true\/X.env.scope.names.lookup x=some .local:=by first | exact .inl rfl | exact .inr rfl | assumption) :
  DS X c (.Assign [.Name x pos'] e pos) (wO i f):=by
 obtain ⟨t,p,w⟩:=he
 refine ⟨_,qgA hN hi hx p hs hf,fun U Z H D r h=>w U Z H _ r ?_⟩
 unfold wO sbnd at h
 cases ef:f U with
 | bad=>rw [ef] at h;exact h
 | exc z U'=>rw [ef] at h;exact fun H' hr hg=>h Z H' hr hg.s
 | ok q =>
  rw [ef] at h
  intro a xs H' hn r' ap ha him il g'
  exact h _ H' (r'.setO ho hP ap ha him il) ⟨g'.ext,fun b hb hs=>hb.setO (fun e=>by rw [e,hn] at hs;exact absurd hs (by simp)),g'.dom⟩
def qmP (i:Nat):M D:=fun U=>match zB i U with
 | some ds => .ok (.int ds.length,U)
 | none => .bad
def qg8 (i:Nat):M D:=fun U=>match zB i U with
 | some ds => .ok (.tup ds,U)
 | none => .bad
theorem qkN {i:Nat} {x:Str} {p p1:Pos} (hg:Gl X "tuple") (hm:X.mg "tuple"=none) (hb:bootBuiltins "tuple"=some (.type "tuple"):=by first | rfl | exact PySem.boot_tuple) (ho:i∈c.O:=by exact of_decide_eq_true rfl) (hN:X.N[i]? = some x:=by rfl) (hv:Vis X.env.scope x:=by first | exact Or.inl rfl | exact Or.inr (Or.inl rfl) | exact Or.inr (Or.inr rfl)) (hd:(x==("__debug__":Str))=false:=by decide) (hcd:(x==("__classdict__":Str))=false:=by decide) :
  DE X c (.Call (.Name "tuple" p) [.Name x p1] [] pos) (qg8 i):=by
 refine ⟨_,qdH wF hg hm hb (vb (wE hN hv hd hcd) qcb),fun U Z H Q r h => ?_⟩
 unfold qg8 at h
 cases e0:zB i U with
 | none=>simp only [e0] at h;exact h.elim
 | some ds =>
  simp only [e0] at h
  obtain ⟨l,xs,him,hl,hH,il⟩:=r.getLO ho e0
  refine ⟨.ref l,hl,l,xs,rfl,.inl ⟨.inl (.inl hH),fun p hp=>h _ _ (r.laid hp _) ⟨p,xs,rfl,.inl qA,?_⟩ (.of_same (qD hp _))⟩⟩
  exact IsL.ext (Ext.of_same (qD hp _)) (fun _ h _=>h) il
def qg9 (i:Nat) (g:M D):M D:=fun U=>match zB i U with
 | none => .bad
 | some _=>(bnd g fun k U=>match k,zB i U with
  | .int n,some ds=>match atI ds n with
   | some d => .ok (d,U)
   | none => .bad
  | _,_ => .bad) U
theorem qjK {i:Nat} {x:Str} {p1:Pos} {g:M D} (hb:DE X c b g) (hs:qeC b:=by intro _ _;rfl) (ho:i∈c.O:=by exact of_decide_eq_true rfl) (hN:X.N[i]? = some x:=by rfl) (hv:Vis X.env.scope x:=by first | exact Or.inl rfl | exact Or.inr (Or.inl rfl) | exact Or.inr (Or.inr rfl)) (hd:(x==("__debug__":Str))=false:=by decide) (hcd:(x==("__classdict__":Str))=false:=by decide) :
  DE X c (.Subscript (.Name x p1) b pos) (qg9 i g):=by
 obtain ⟨tb,pb,wb⟩:=hb
 refine ⟨_,qmt qgO (wE hN hv hd hcd) pb hs,fun U Z H Q r h => ?_⟩
 unfold qg9 at h
 cases e0:zB i U with
 | none=>simp only [e0] at h;exact h.elim
 | some ds0 =>
  simp only [e0] at h
  obtain ⟨l,xs0,_,hl,hH,_⟩:=r.getLO ho e0
  refine ⟨.ref l,hl,wb U Z H _ r (Wp.bnd h fun k U1 v H1 r1 i1 g1 h1 => ?_)⟩
  cases k with
  | int n =>
   cases e1:zB i U1 with
   | none=>simp only [e1] at h1;exact h1.elim
   | some ds =>
    simp only [e1] at h1
    cases e2:atI ds n with
    | none=>simp only [e2] at h1;exact h1.elim
    | some d =>
     simp only [e2] at h1
     obtain ⟨l',xs,him,hl',hH',il⟩:=r1.getLO ho e1
     rw [hl] at hl'
     cases hl'
     cases i1
     obtain ⟨w,h3,h4⟩:=il.atI e2
     exact ⟨l,xs,n,w,rfl,rfl,.inl (.inl hH'),h3,h1 w H1 r1 h4 .refl⟩
  | _=>exact h1.elim
def qkO (i:Nat):MS:=fun U=>match zB i U with
 | some ds => .ok (.rt (.lst ds) U)
 | none => .bad
theorem qkP {i:Nat} {x:Str} {p1:Pos} (ho:i∈c.O:=by exact of_decide_eq_true rfl) (hP:i ∉ c.P:=by exact of_decide_eq_false rfl) (hN:X.N[i]? = some x:=by rfl) (hv:Vis X.env.scope x:=by first | exact Or.inl rfl | exact Or.inr (Or.inl rfl) | exact Or.inr (Or.inr rfl)) (hd:(x==("__debug__":Str))=false:=by decide) (hcd:(x==("__classdict__":Str))=false:=by decide) :
  DS X c (.Return (some (.Name x p1)) pos) (qkO i):=by
 refine ⟨_,qju (wE hN hv hd hcd),fun U Z H D r h => ?_⟩
 unfold qkO at h
 cases e0:zB i U with
 | none=>simp only [e0] at h;exact h.elim
 | some ds =>
  simp only [e0] at h
  obtain ⟨l,xs,him,hl,hH,il⟩:=r.getLO ho e0
  obtain ⟨a,ys,e1,e2,e3⟩:=r.own i ho _ hl
  cases e1
  have hB:c.B l:=by
   rcases e3 with z | z
   ·exact r.b0.1 l z
   ·exact absurd z.1 hP
  exact ⟨.ref l,hl,h (.ref l) Z H r ⟨l,xs,rfl,hB,hH,IsL.ext Ext.refl (fun _ h _=>h.1) il⟩ .refl⟩
end
def cfn (O P:List Nat) (A:Addr->Prop) (H:Hp) (Io:Addr->Prop) (E:Exn->Hp->Prop) (S:Nat->Option (Option V)):Fc where
 O:=O
 P:=P
 B:=fun a=>A a\/H a=none
 H0:=H
 Io:=Io
 E:=E
 S:=S
def uU (n:Nat) (ds:List D):Env:=ds.map some++List.replicate (n-ds.length) none
def spD (K:Fr0) (F:List D->R D):Sp:=fun vs H Q _=>∃ ds A,IsL K A H ds vs/\qgT K H/\match F ds with
 | .ok d=>∀ v H',ji H H'->Is K (fun a=>A a\/H a=none) H' d v->Q v H'
 | _=>False
def qjL (K:Fr0) (F:List D->List D->R (D×List D)):Sp:=fun vs H Q _=>∃ (bs ds:List D) (A:Addr->Prop) (a:Addr) (xs vs':List V),vs = .ref a::vs'/\H a=some (.lst xs)/\qgT K H/\IsL K A H bs xs/\¬ A a/\IsL K A H ds vs'/\match F bs ds with
 | .ok (d,bs')=>∀ v H' xs',(∀ b o,b≠a->H b=some o->H' b=some o)->(∀ b,H' b=none->H b=none)->H' a=some (.lst xs')->True->IsL K (fun b=>A b\/H b=none) H' bs' xs'->Is K (fun b=>A b\/H b=none) H' d v->Q v H'
 | _=>False
def dfn (n p:Nat) (body:MS) (ds:List D):R D:=if ds.length=p then match body (uU n ds) with
 | .ok (.rt d _) => .ok d
 | .ok (.nx _) => .ok .non
 | _ => .bad else .bad
def qcJ (n p:Nat) (body:MS) (bs ds:List D):R (D×List D):=if ds.length+1=p then match body (uU n (.lst bs::ds)) with
 | .ok (.rt d U)=>match zB 0 U with
  | some bs' => .ok (d,bs')
  | none => .bad
 | .ok (.nx U)=>match zB 0 U with
  | some bs' => .ok (.non,bs')
  | none => .bad
 | _ => .bad else .bad
theorem wP {N:List Str} {vs:List V} {i:Nat} {v:V} (h:(jY N vs)[i]? = some (some v)):vs[i]? = some v:=by
 unfold jY at h
 by_cases hi:i<vs.length
 ·rw [List.getElem?_append_left (by simpa using hi),gM_] at h
  cases e:vs[i]? with
  | none=>rw [e] at h;cases h
  | some w=>rw [e] at h;cases h;rfl
 ·rw [List.getElem?_append_right (by simpa using hi),List.getElem?_replicate] at h
  split at h<;>cases h
theorem qa2 {N:List Str} {vs:List V} {i:Nat} {v:V} (h:vs[i]? = some v):(jY N vs)[i]? = some (some v):=by
 unfold jY
 have hi:i<vs.length:=(gI_.mp h).1
 rw [List.getElem?_append_left (by simpa using hi),gM_,h];rfl
theorem qdW {n:Nat} {ds:List D} {i:Nat} {d:D} (h:(uU n ds)[i]? = some (some d)):ds[i]? = some d:=by
 unfold uU at h
 by_cases hi:i<ds.length
 ·rw [List.getElem?_append_left (by simpa using hi),gM_] at h
  cases e:ds[i]? with
  | none=>rw [e] at h;cases h
  | some w=>rw [e] at h;cases h;rfl
 ·rw [List.getElem?_append_right (by simpa using hi),List.getElem?_replicate] at h
  split at h<;>cases h
theorem qha {K:Fr0} {N:List Str} {O:List Nat} {A:Addr->Prop} {H:Hp} {E:Exn->Hp->Prop} {ds:List D} {vs:List V} (il:IsL K A H ds vs) (tb:qgT K H) (hO:∀ i∈O,ds.length<=i) :
  Rep K (cfn O [] A H (fun _=>False) E fun _=>none) (uU N.length ds) (jY N vs) H where
 len:=by unfold uU jY;simp [il.length]
 val:=fun i d h=>by
  have h1:=qdW h
  obtain ⟨v,h2,h3⟩:=il.get h1
  have hi:i ∉ O:=fun z=>by
   have:=(gI_.mp h1).1
   have:=hO i z
   omega
  refine ⟨v,qa2 h2,.inr ⟨hi,Is.ext Ext.refl (fun a ha _=>⟨.inl ha,fun j hj e => ?_⟩) h3⟩⟩
  have:=(gI_.mp (wP e)).1
  have:=hO j hj
  rw [il.length] at *
  omega
 own:=fun j hj v h=>by
  have:=(gI_.mp (wP h)).1
  have:=hO j hj
  rw [il.length] at *
  omega
 inj:=fun i j a hi hj h1 h2=>by
  have:=(gI_.mp (wP h1)).1
  have:=hO i hi
  rw [il.length] at *
  omega
 b0:=⟨fun a h => .inr h,tb⟩
 kp:=fun b o h _=>h
 dm:=fun b h=>h
 pO:=fun j hj=>by cases hj
 ps:=fun j hj=>by cases hj
section
variable {P:Program} {w:World} {K:PySem.W.Frag} {mg:Str->Option Value} {base:Heap}
theorem qu {x qual:Str} {st:Stmt} {f:Addr} {fd:FuncData} {N ps:List Str} {k:Nat} {O:List Nat} {body:MS} (F:Fun K x qual st f fd) (S:qp N ps (qd st)) (hO:∀ i∈O,ps.length<=i)
  (hb:∀ (cdv:Value) (A:Around) (outer:List PySem.Env) (s:Shared) (H:Hp) (E:XK) (B:Addr->Prop),uD k (A.deeper (envOfC qual (qd st) s.heap.objs.size f cdv)) ->
   DSs (qjz CX0 P w K mg base N qual (qd st) f cdv A outer s H E).nox (cfn O [] B H (fun _=>False) (fun _ _=>False) fun _=>none) (qo st) body) :
  qcc P w K mg base CX0 (k+1) f fd ps (spD K (dfn N.length ps.length body)):=by
 refine F.ok S (fun vs H Q E h => ?_) (fun cdv A outer s H vs Q E hr h => ?_)
 ·obtain ⟨ds,B,il,_,h⟩:=h
  unfold dfn at h
  by_cases e:ds.length=ps.length
  ·rw [il.length];exact e
  ·rw [if_neg e] at h;exact h.elim
 ·obtain ⟨ds,B,il,tb,h⟩:=h
  obtain ⟨t,p,wt⟩:=hb cdv A outer s H E B hr
  refine ⟨t,p,?_⟩
  unfold dfn at h
  by_cases e:ds.length=ps.length
  ·rw [if_pos e] at h
   refine wt (uU N.length ds) (jY N vs) H _ (qha il tb (fun i hi=>by rw [e];exact hO i hi)) ?_
   have same:∀ {U:Env} {Z:St} {H':Hp},Rep K (cfn O [] B H (fun _=>False) (fun _ _=>False) fun _=>none) U Z H'->ji H H':=fun r b o hb=>r.kp b o hb fun z=>z
   cases eb:body (uU N.length ds) with
   | bad=>rw [eb] at h;exact h.elim
   | exc z U=>rw [eb] at h;exact h.elim
   | ok fl =>
    rw [eb] at h
    cases fl with
    | nx U=>exact fun Z' H' r' _=>h .non H' (same r') rfl
    | rt d U=>exact fun v Z' H' r' i' _=>h v H' (same r') i'
    | bk U=>exact h.elim
    | ct U=>exact h.elim
  ·rw [if_neg e] at h;exact h.elim
theorem qmQ {x qual:Str} {st:Stmt} {f:Addr} {fd:FuncData} {N ps:List Str} {k:Nat} {O:List Nat} {body:MS} (F:Fun K x qual st f fd) (S:qp N ps (qd st)) (hO:∀ i∈O,i=0\/ps.length<=i) (h0:0∈O)
  (hb:∀ (cdv:Value) (A:Around) (outer:List PySem.Env) (s:Shared) (H:Hp) (E:XK) (B Io:Addr->Prop) (S:Nat->Option (Option V)),uD k (A.deeper (envOfC qual (qd st) s.heap.objs.size f cdv)) ->
   DSs (qjz CX0 P w K mg base N qual (qd st) f cdv A outer s H E).nox (cfn O [0] B H Io (fun _ _=>False) S) (qo st) body) :
  qcc P w K mg base CX0 (k+1) f fd ps (qjL K (qcJ N.length ps.length body)):=by
 refine F.ok S (fun vs H Q E h => ?_) (fun cdv A outer s H vs Q E hr h => ?_)
 ·obtain ⟨bs,ds,B,a,xs,vs',rfl,ha,him,ib,nA,il,h⟩:=h
  unfold qcJ at h
  by_cases e:ds.length+1=ps.length
  ·rw [lC_,il.length];exact e
  ·rw [if_neg e] at h;exact h.elim
 ·obtain ⟨bs,ds,B,a,xs,vs',rfl,ha,him,ib,nA,il,h⟩:=h
  obtain ⟨t,p,wt⟩:=hb cdv A outer s H E B (fun b=>b=a) (fun j=>(jY N (.ref a::vs'))[j]?) hr
  refine ⟨t,p,?_⟩
  unfold qcJ at h
  by_cases e:ds.length+1=ps.length
  ·rw [if_pos e] at h
   have only:∀ j∈O,∀ v,(jY N (.ref a::vs'))[j]? = some (some v)->j=0/\v = .ref a:=fun j hj v hv=>by
    have h1:=wP hv
    rcases hO j hj with z | z
    ·subst z;cases h1;exact ⟨rfl,rfl⟩
    ·have:=(gI_.mp h1).1
     rw [lC_,il.length] at this
     omega
   have r0:Rep K (cfn O [0] B H (fun b=>b=a) (fun _ _=>False) fun j=>(jY N (.ref a::vs'))[j]?) (uU N.length (.lst bs::ds)) (jY N (.ref a::vs')) H:=by
    refine ⟨by unfold uU jY;simp [il.length],fun i d hd => ?_,fun j hj v hv => ?_,fun i j b hi hj h1 h2 => ?_,⟨fun b hb => .inr hb,fun q P pos eP=>⟨(him q P pos eP).1,fun z=>by have:=(him q P pos eP).1;rw [z,ha] at this;cases this⟩⟩,fun b o hb _=>hb,fun b hb=>hb,fun j hj => ?_,fun _ _=>rfl⟩
    ·have h1:=qdW hd
     cases i with
     | zero =>
      cases h1
      exact ⟨.ref a,qa2 rfl,.inl ⟨h0,bs,a,xs,rfl,rfl,ha,IsL.ext Ext.refl (fun b hb _=>⟨.inl hb,fun j hj e2=>by obtain ⟨_,e3⟩:=only j hj _ e2;cases e3;exact nA hb⟩) ib⟩⟩
     | succ i =>
      have h1':ds[i]? = some d:=by simpa using h1
      obtain ⟨v,h2,h3⟩:=il.get h1'
      have hi:i+1 ∉ O:=fun z=>by
       have h4:=(gI_.mp h1').1
       rcases hO _ z with q | q
       ·cases q
       ·omega
      refine ⟨v,qa2 (by simpa using h2),.inr ⟨hi,Is.ext Ext.refl (fun b hb _=>⟨.inl hb,fun j hj e2 => ?_⟩) h3⟩⟩
      obtain ⟨_,e3⟩:=only j hj _ e2
      cases e3
      exact nA hb
    ·obtain ⟨rfl,rfl⟩:=only j hj v hv
     exact ⟨a,xs,rfl,ha,.inr ⟨by simp [cfn],rfl⟩⟩
    ·rw [(only i hi _ h1).1,(only j hj _ h2).1]
    ·have:j=0:=by simpa [cfn] using hj
     rw [this];exact h0
   refine wt _ _ H _ r0 ?_
   have fin:∀ {U:Env} {Z:St} {H':Hp} {bs':List D},Rep K (cfn O [0] B H (fun b=>b=a) (fun _ _=>False) fun j=>(jY N (.ref a::vs'))[j]?) U Z H'->zB 0 U=some bs' ->
     ∃ xs',H' a=some (.lst xs')/\True/\IsL K (fun b=>B b\/H b=none) H' bs' xs':=fun {U Z H' bs'} r e1=>by
    obtain ⟨l,ys,h1,h2,h3,h4⟩:=r.getLO h0 e1
    have h5:=r.ps 0 (by simp [cfn])
    have h6:(cfn O [0] B H (fun b=>b=a) (fun _ _=>False) fun j=>(jY N (.ref a::vs'))[j]?).S 0=some (some (.ref a)):=qa2 rfl
    rw [h2,h6] at h5
    cases h5
    exact ⟨ys,h3,h1,IsL.ext Ext.refl (fun b hb _=>hb.1) h4⟩
   have kps:∀ {U:Env} {Z:St} {H':Hp},Rep K (cfn O [0] B H (fun b=>b=a) (fun _ _=>False) fun j=>(jY N (.ref a::vs'))[j]?) U Z H'->∀ b o,b≠a->H b=some o->H' b=some o:=fun r b o hb ho=>r.kp b o ho hb
   cases eb:body (uU N.length (.lst bs::ds)) with
   | bad=>rw [eb] at h;exact h.elim
   | exc z U=>rw [eb] at h;exact h.elim
   | ok fl =>
    rw [eb] at h
    cases fl with
    | nx U =>
     cases eg:zB 0 U with
     | none=>simp only [eg] at h
     | some bs' =>
      simp only [eg] at h
      exact fun Z' H' r' _=>by
       obtain ⟨xs',h1,h2,h3⟩:=fin r' eg
       exact h .non H' xs' (kps r') (fun b hb=>r'.dm b hb) h1 h2 h3 rfl
    | rt d U =>
     cases eg:zB 0 U with
     | none=>simp only [eg] at h
     | some bs' =>
      simp only [eg] at h
      exact fun v Z' H' r' i' _=>by
       obtain ⟨xs',h1,h2,h3⟩:=fin r' eg
       exact h v H' xs' (kps r') (fun b hb=>r'.dm b hb) h1 h2 h3 i'
    | bk U=>exact h.elim
    | ct U=>exact h.elim
  ·rw [if_neg e] at h;exact h.elim
end
section
variable {X:Cx} {c:Fc} {a b e:Expr} {pos:Pos}
def qe (F:List D->R D) (g:M (List D)):M D:=bnd g fun ds U=>match F ds with
 | .ok d => .ok (d,U)
 | _ => .bad
theorem qkQ {k:Nat} {f:Addr} {fd:FuncData} {ps:List Str} {F:List D->R D} {x:Str} {p:Pos} {es:List Expr} {g:M (List D)} (G:qcc X.prog X.w X.K X.mg X.base CX0 k f fd ps (spD X.K F)) (hr:uD k X.A) (hg:Gl X x) (hm:X.mg x=some (.ref f)) (hk:PySem.W.keepIn X.K (.ref f)=true) (hb:vQ X.K fd ps [])
  (ha:DA X c (e::es) g) (hd:(x==("__debug__":Str))=false:=by decide) (he:starEach (e::es) X.env=(false,eval e X.env)::starEach es X.env:=by rfl) (hpl:(backTo pos (starEach es X.env)).any (·.1)=false:=by rfl):DE X c (.Call (.Name x p) (e::es) [] pos) (qe F g):=by
 obtain ⟨t,pa,w⟩:=ha
 refine ⟨_,qcC G hr hg hm hk hb .nil qkz pa hd he hpl,fun U Z H Q r h=>w U Z H _ r (WpL.bnd h fun ds U1 vs H1 r1 i1 g1 h1 => ?_)⟩
 rw [List.append_nil]
 refine ⟨ds,Cn c Z,i1,r1.tb,?_⟩
 cases ef:F ds with
 | bad=>simp only [ef] at h1;exact h1.elim
 | exc z U'=>simp only [ef] at h1;exact h1.elim
 | ok d =>
  simp only [ef] at h1
  exact fun v H' sm i=>h1 v H' (r1.same sm) (Is.ext Ext.refl (fun a ha _=>ha.elim id r1.new) i) (.of_same sm)
def qr (F:List D->List D->R (D×List D)) (i:Nat) (g:M (List D)):M D:=fun U=>match zB i U with
 | none => .bad
 | some _=>(bnd g fun ds U=>match zB i U with
  | none => .bad
  | some bs=>match F bs ds with
   | .ok (d,bs') => .ok (d,U.set i (some (.lst bs')))
   | _ => .bad) U
theorem qhb {k i:Nat} {f:Addr} {fd:FuncData} {ps:List Str} {F:List D->List D->R (D×List D)} {x y:Str} {p p1:Pos} {es:List Expr} {g:M (List D)} (G:qcc X.prog X.w X.K X.mg X.base CX0 k f fd ps (qjL X.K F)) (hr:uD k X.A) (hg:Gl X x) (hm:X.mg x=some (.ref f)) (hk:PySem.W.keepIn X.K (.ref f)=true) (hb:vQ X.K fd ps [])
  (ha:DA X c es g) (ho:i∈c.O:=by exact of_decide_eq_true rfl) (hN:X.N[i]? = some y:=by rfl) (hv:Vis X.env.scope y:=by first | exact Or.inl rfl | exact Or.inr (Or.inl rfl) | exact Or.inr (Or.inr rfl)) (hdy:(y==("__debug__":Str))=false:=by decide) (hcd:(y==("__classdict__":Str))=false:=by decide)
  (hd:(x==("__debug__":Str))=false:=by decide) (he:starEach (.Name y p1::es) X.env=(false,eval (.Name y p1) X.env)::starEach es X.env:=by rfl) (hpl:(backTo pos (starEach es X.env)).any (·.1)=false:=by rfl):DE X c (.Call (.Name x p) (.Name y p1::es) [] pos) (qr F i g):=by
 obtain ⟨t,pa,w⟩:=ha
 refine ⟨_,qcC G hr hg hm hk hb .nil qkz (vb (wE hN hv hdy hcd) pa he) hd he hpl,fun U Z H Q r h => ?_⟩
 unfold qr at h
 cases e0:zB i U with
 | none=>simp only [e0] at h;exact h.elim
 | some ds0 =>
  simp only [e0] at h
  obtain ⟨l,xs0,_,hl,hH,_⟩:=r.getLO ho e0
  refine ⟨.ref l,hl,w U Z H _ r (WpL.bnd h fun ds U1 vs H1 r1 i1 g1 h1 => ?_)⟩
  show qjL X.K F (.ref l::vs++[]) H1 Q E0
  rw [List.append_nil]
  cases e1:zB i U1 with
  | none=>simp only [e1] at h1;exact h1.elim
  | some bs =>
   simp only [e1] at h1
   obtain ⟨l',xs,him,hl',hH',il⟩:=r1.getLO ho e1
   rw [hl] at hl'
   cases hl'
   refine ⟨bs,ds,Cn c Z,l,xs,vs,rfl,hH',r1.tb,il,fun hc=>hc.2 i ho hl,i1,?_⟩
   cases ef:F bs ds with
   | bad=>simp only [ef] at h1;exact h1.elim
   | exc z U'=>simp only [ef] at h1;exact h1.elim
   | ok q =>
    obtain ⟨d,bs'⟩:=q
    simp only [ef] at h1
    intro v H' xs' kp dm ha2 him2 il2 i2
    obtain ⟨r2,g2⟩:=r1.io (bs:=bs') ho hl kp ha2 him2 (IsL.ext Ext.refl (fun a ha _=>ha.elim id r1.new) il2) dm
    exact h1 v H' r2 (Is.ext Ext.refl (fun a ha _=>ha.elim id r1.new) i2) g2
end
def qiK:Key->PyData
 | .inl i => .int i
 | .inr x => .str x
mutual
def ui:D->PyData
 | .non => .none
 | .bl b => .bool b
 | .int i => .int i
 | .str x => .str x
 | .tup ds => .tuple (toPDs ds)
 | .lst ds => .list (toPDs ds)
 | .dic kvs => .dict (kvs.map fun p=>(qiK p.1,.int p.2))
 | .fz ns => .list (ns.map .int)
 | .exc _ => .dict [(.int (2 ^ 2000),.none)]
def toPDs:List D->List PyData
 | []=>[]
 | d::ds=>ui d::toPDs ds
end
mutual
def noL:D->Bool
 | .tup ds=>noLs ds
 | .lst _=>false
 | .fz _=>false
 | _=>true
def noLs:List D->Bool
 | []=>true
 | d::ds=>noL d&&noLs ds
end
mutual
def noX:D->Bool
 | .tup ds=>noXs ds
 | .lst ds=>noXs ds
 | .exc _=>false
 | _=>true
def noXs:List D->Bool
 | []=>true
 | d::ds=>noX d&&noXs ds
end
mutual
theorem qhc:∀ {d:D},(ui d).canLay0=true->noX d=true
 | .non,_=>rfl
 | .bl _,_=>rfl
 | .int _,_=>rfl
 | .str _,_=>rfl
 | .tup ds,h=>by unfold noX;exact noXs_lay (by simpa [ui,PyData.canLay0] using h)
 | .lst ds,h=>by unfold noX;exact noXs_lay (by simpa [ui,PyData.canLay0] using h)
 | .dic _,_=>rfl
 | .fz _,_=>rfl
 | .exc _,h=>by simp [ui,PyData.canLay0] at h
theorem noXs_lay:∀ {ds:List D},PyData.canLayAll0 (toPDs ds)=true->noXs ds=true
 | [],_=>rfl
 | d::ds,h=>by
  have h':(ui d).canLay0=true/\PyData.canLayAll0 (toPDs ds)=true:=by simpa [toPDs,PyData.canLayAll0] using h
  unfold noXs
  rw [qhc h'.1,noXs_lay h'.2];rfl
end
theorem wQ {h:Heap}:∀ {ns:List Int} {us:List Value},zb (ns.map V.int) us->∃ as,ReadsAll h us (ns.map .int) as
 | [],us,r=>by
  rw [List.map_nil] at r;cases r;exact ⟨[],.nil⟩
 | n::ns,us,r=>by
  rw [mC_] at r
  cases r with
  | cons r1 r2 =>
   obtain ⟨t,e⟩:=r1
   subst e
   obtain ⟨as,q⟩:=wQ (ns:=ns) r2
   exact ⟨[]++as,.cons (.int n t) q⟩
theorem qeJ {α:Type} {x:α} {l l':List α} (h1:x ∉ l) (h2:x ∉ l'):x ∉ l++l':=fun h=>(mA_.mp h).elim h1 h2
theorem qby {P:Program} {w:World} {h:Heap}:∀ {kvs:List (Key×Int)} {es:List DictEntry} {vs:List (Key×Value)},KV (kvs.map fun p=>(p.1,V.int p.2)) vs->Pairs (qcB P w) es vs ->
  ReadsAll h (es.map (·.key)) ((kvs.map fun p=>(qiK p.1,PyData.int p.2)).map (·.1)) []/\ReadsAll h (es.map (·.val)) ((kvs.map fun p=>(qiK p.1,PyData.int p.2)).map (·.2)) []
 | [],es,vs,r,p=>by
  have r':KV ([]:List (Key×V)) vs:=r
  unfold KV at r'
  cases r'
  cases p
  exact ⟨.nil,.nil⟩
 | (k,i)::kvs,es,vs,r,p=>by
  have r':KV ((k,V.int i)::kvs.map fun p=>(p.1,V.int p.2)) vs:=r
  unfold KV at r'
  cases r' with
  | cons r1 r2 =>
   cases p with
   | cons p1 p2 p3 =>
    obtain ⟨q1,q2⟩:=qby (h:=h) (kvs:=kvs) r2 p3
    obtain ⟨e1,t,e2⟩:=r1
    have hk:∀ {e:DictEntry} {kv:Key×Value},k=kv.1->(qcB P w).is kv.1 e.key=true->Reads h e.key (qiK k) []:=fun {e kv} hk hi=>by
     subst hk
     rcases zm hi with ⟨i,t,e1,e2⟩ | ⟨x,t,e1,e2⟩
     ·rw [e1,e2];exact .int i t
     ·rw [e1,e2];exact .str x t
    refine ⟨.cons (as:=[]) (bs:=[]) (hk e1 p1) q1,.cons (as:=[]) (bs:=[]) ?_ q2⟩
    show Reads h _ (.int i) []
    dsimp only
    rw [p2,e2]
    exact .int i t
section
variable {X:Cx} {pins:List (Addr×Obj)} {Z:St} {H:Hp} {s:Shared} {A:Addr->Prop}
mutual
theorem uV (I:Inv X pins Z H s):∀ {d:D} {v:V} {u:Value},noX d=true->Is X.K A H d v->jN v u->∃ as,Reads s.heap u (ui d) as/\(noL d=true->sysModules ∉ as)
 | .non,_,_,_,h,r=>by cases h;cases r;exact ⟨[],.none,by simp⟩
 | .bl b,_,_,_,h,r=>by cases h;cases r;exact ⟨[],.bool b,by simp⟩
 | .int i,_,_,_,h,r=>by cases h;obtain ⟨t,rfl⟩:=r;exact ⟨[],.int i t,by simp⟩
 | .str x,_,_,_,h,r=>by cases h;obtain ⟨t,rfl⟩:=r;exact ⟨[],.str x t,by simp⟩
 | .tup ds,_,_,nx,⟨a,xs,hv,ta,il⟩,r=>by
  subst hv
  cases r
  obtain ⟨its,rv,p,_⟩:=I.tuple ta.sq
  obtain ⟨o,h1,h2,n,h3⟩:=p
  obtain ⟨as,q,nl⟩:=readsL_of I (by simpa [noX] using nx) il rv
  exact ⟨as,.tuple h1 h2 h3 (by simpa using q),fun z=>nl (by simpa [noL] using z)⟩
 | .lst ds,_,_,nx,⟨a,xs,hv,_,ta,il⟩,r=>by
  subst hv
  cases r
  obtain ⟨its,rv,p,_⟩:=I.list (SqL.of ta)
  obtain ⟨o,h1,h2,n,h3⟩:=p.isList
  obtain ⟨as,q,nl⟩:=readsL_of I (by simpa [noX] using nx) il rv
  exact ⟨a::as,.list h1 h2 h3 (by simpa using q),fun z=>by simp [noL] at z⟩
 | .dic kvs,_,_,_,⟨a,hv,_,ta⟩,r=>by
  subst hv
  cases r
  obtain ⟨hz,hS,vs,rk,o,es,ep,h1,h2,h3,h4,h5,h6⟩:=(show uh X.prog X.w H s.heap a (.dK _) from I.hok a _ ta)
  obtain ⟨q1,q2⟩:=qby (h:=s.heap) rk h5
  refine ⟨_,Reads.dict (as:=[]) (bs:=[]) h1 h2.1 h3 q1 q2,fun _ hm => ?_⟩
  have:sysModules=a:=by simpa using hm
  rw [<- this] at hS
  simp at hS
 | .exc _,_,_,nx,_,_=>by simp [noX] at nx
 | .fz ns,_,_,_,⟨a,hv,ta⟩,r=>by
  subst hv
  cases r
  obtain ⟨its,rv,p,_⟩:=I.list ta.sq
  obtain ⟨o,h1,h2,n,h3⟩:=p.isList
  obtain ⟨as,q⟩:=wQ rv
  exact ⟨a::as,.list h1 h2 h3 (by simpa using q),fun z=>by simp [noL] at z⟩
theorem readsL_of (I:Inv X pins Z H s):∀ {ds:List D} {xs:List V} {us:List Value},noXs ds=true->IsL X.K A H ds xs->zb xs us->∃ as,ReadsAll s.heap us (toPDs ds) as/\(noLs ds=true->sysModules ∉ as)
 | [],_,_,_,h,r=>by cases h;cases r;exact ⟨[],.nil,by simp⟩
 | d :: ds,_,_,nx,⟨x,ys,hx,h1,h2⟩,r=>by
  subst hx
  cases r with
  | cons r1 r2 =>
   have nx':noX d=true/\noXs ds=true:=by simpa [noXs] using nx
   obtain ⟨as,q1,n1⟩:=uV I nx'.1 h1 r1
   obtain ⟨bs,q2,n2⟩:=readsL_of I nx'.2 h2 r2
   exact ⟨as++bs,.cons q1 q2,fun z=>by
    have z':noL d=true/\noLs ds=true:=by simpa [noLs] using z
    exact qeJ (n1 z'.1) (n2 z'.2)⟩
end
end
def qmR (d:D):Bool:=(ui d).showable&&decide ((ui d).shown.length<=sizeLine)&&decide ((ui d).depth<=50)&&(!(ui d).hasDict||noL d)
section
variable {X:Cx}
end
def qpQ:List D->Option D
 | [d]=>if qmR d then some (.str (ui d).shown) else none
 | _=>none
def qaS (d:D):Bool:=(ui d).canLay0&&decide ((ui d).depth<=50)
def qjM (K:Fr0) (neg:Bool):R2:=fun x y H Q=>∃ d e A,Is K A H d x/\Is K A H e y/\qaS d=true/\qaS e=true/\Q (.bl (if neg then !PyData.eqv (ui d) (ui e) else PyData.eqv (ui d) (ui e))) H
section
variable {X:Cx}
theorem qcK {d:D} (h:qaS d=true):SeqAt.shaped (ui d)=true:=by
 unfold qaS at h
 unfold SeqAt.shaped
 simp only [Bool.and_eq_true,decide_eq_true_eq] at h |-
 exact ⟨h.1,by omega⟩
theorem qch {d:D} (h:qaS d=true):noX d=true:=by
 unfold qaS at h
 rw [Bool.and_eq_true] at h
 exact qhc h.1
theorem qmS {k:Nat} (hr:uD k X.A):OpR X (compareOp .Eq) (qjM X.K false):=by
 intro pins s Z H x y v u Q I rx ry h
 obtain ⟨d,e,A,h1,h2,o1,o2,q⟩:=h
 obtain ⟨as,r1,_⟩:=uV I (qch o1) h1 rx
 obtain ⟨bs,r2,_⟩:=uV I (qch o2) h2 ry
 exact SeqAt.compareEq_shaped r1 r2 (qcK o1) (qcK o2) hr.units ⟨.bl _,H,I,rfl,by simpa using q⟩
theorem qmT {k:Nat} (hr:uD k X.A):OpR X (compareOp .NotEq) (qjM X.K true):=by
 intro pins s Z H x y v u Q I rx ry h
 obtain ⟨d,e,A,h1,h2,o1,o2,q⟩:=h
 obtain ⟨as,r1,_⟩:=uV I (qch o1) h1 rx
 obtain ⟨bs,r2,_⟩:=uV I (qch o2) h2 ry
 exact SeqAt.compareNe_shaped r1 r2 (qcK o1) (qcK o2) hr.units ⟨.bl _,H,I,rfl,by simpa using q⟩
end
def eqA (x y:D):Option D:=if qaS x&&qaS y then some (.bl (PyData.eqv (ui x) (ui y))) else none
def neA (x y:D):Option D:=if qaS x&&qaS y then some (.bl (!PyData.eqv (ui x) (ui y))) else none
theorem qkR {K:Fr0}:OpS K eqA (qjM K false):=by
 intro A H x y d v u Q hn ix iy e k
 obtain ⟨e1,e2⟩:=jo e
 rw [Bool.and_eq_true] at e1
 subst e2
 exact ⟨x,y,A,ix,iy,e1.1,e1.2,k _ H (ji.refl H) rfl⟩
theorem qkS {K:Fr0}:OpS K neA (qjM K true):=by
 intro A H x y d v u Q hn ix iy e k
 obtain ⟨e1,e2⟩:=jo e
 rw [Bool.and_eq_true] at e1
 subst e2
 exact ⟨x,y,A,ix,iy,e1.1,e1.2,k _ H (ji.refl H) rfl⟩
section
variable {X:Cx} {c:Fc} {a b e:Expr} {pos:Pos}
def qo9 (i:Nat) (g:M D):M D:=fun U=>match zB i U with
 | none => .bad
 | some _=>(bnd g fun y U=>match zB i U with
  | none => .bad
  | some ds=>lift (neA (.lst ds) y) U) U
end
section
variable {prog:Program} {w:World} {A:Around} {E:Value->Shared->Prop} {s:Shared}
theorem qkT {it tu:Addr} {k:Nat} {arr:Array Value} {x:Value} {Q:Value->Shared->Prop} (hI:s.heap.IsTupleIter it tu k) (hT:s.heap.IsTuple tu arr) (hx:arr[k]? = some x)
  (q:∀ h',h'.IsTupleIter it tu (k+1)->Heap.SameBut it s.heap h'->Q x { s with heap:=h' }):wpAny (model prog w) A (Builtin.SmallTypes.nextOf (.ref it)) Q E s:=by
 obtain ⟨ob,e1,e2,e3⟩:=id hI
 obtain ⟨ot,f1,_,m,f2⟩:=hT
 unfold Builtin.SmallTypes.nextOf
 refine wpAny_bind (wpAny_callSpecial?_slot (name:=Str.ofString "__next__") hI.typeIs F.slot_tuple_iterator_next (wpAny_call_entry F.slot_tuple_iterator_next hI.typeIs F.entry_tuple_iterator_next ?_ (F.args_tuple_iterator_next_1 _)))
 show wpAny (model prog w) _ (field (Value.ref it) 0 >>= _) _ _ s
 refine wpAny_bind (wpAny_field e1 e3 (x:=Value.ref tu) rfl ?_)
 show wpAny (model prog w) _ (if (Value.ref tu==Value.none)=true then _ else _) _ _ s
 rw [if_neg (show ¬ ((Value.ref tu==Value.none)=true) from Bool.false_ne_true)]
 show wpAny (model prog w) _ (field (Value.ref it) 1 >>= _) _ _ s
 refine wpAny_bind (wpAny_field e1 e3 (x:=Value.int k 0) rfl ?_)
 show wpAny (model prog w) _ (seqItems? (Value.ref tu) >>= _) _ _ s
 refine wpAny_bind (wpAny_seqItems f1 f2 ?_)
 simp only [Int.toNat_natCast,hx]
 refine wpAny_bind (wpAny_setField e1 e3 (by simp) (wpAny_pure ⟨x,rfl,wpAny_pure (q _ ?_ (Heap.SameBut.update ..))⟩))
 exact ⟨_,Heap.get?_update_self _ e1 (Obj.isFreed_of_fields (Obj.data_mapFields e3 _)),(Obj.cls_mapFields ..).trans e2,by rw [Obj.data_mapFields e3];simp [rawInt]⟩
theorem qkU {it tu:Addr} {k:Nat} {arr:Array Value} {Q:Value->Shared->Prop} (hh:A.handled=none) (hI:s.heap.IsTupleIter it tu k) (hT:s.heap.IsTuple tu arr) (hx:arr[k]? = none)
  (q:∀ h' e,Heap.ExtBut it s.heap h'->(∃ o,h'.get? e=some o/\o.cls = .type "StopIteration")->E (.ref e) { s with heap:=h' }):wpAny (model prog w) A (Builtin.SmallTypes.nextOf (.ref it)) Q E s:=by
 obtain ⟨ob,e1,e2,e3⟩:=id hI
 obtain ⟨ot,f1,_,m,f2⟩:=hT
 unfold Builtin.SmallTypes.nextOf
 refine wpAny_bind (wpAny_callSpecial?_slot (name:=Str.ofString "__next__") hI.typeIs F.slot_tuple_iterator_next (wpAny_call_entry F.slot_tuple_iterator_next hI.typeIs F.entry_tuple_iterator_next ?_ (F.args_tuple_iterator_next_1 _)))
 show wpAny (model prog w) _ (field (Value.ref it) 0 >>= _) _ _ s
 refine wpAny_bind (wpAny_field e1 e3 (x:=Value.ref tu) rfl ?_)
 show wpAny (model prog w) _ (if (Value.ref tu==Value.none)=true then _ else _) _ _ s
 rw [if_neg (show ¬ ((Value.ref tu==Value.none)=true) from Bool.false_ne_true)]
 show wpAny (model prog w) _ (field (Value.ref it) 1 >>= _) _ _ s
 refine wpAny_bind (wpAny_field e1 e3 (x:=Value.int k 0) rfl ?_)
 show wpAny (model prog w) _ (seqItems? (Value.ref tu) >>= _) _ _ s
 refine wpAny_bind (wpAny_seqItems f1 f2 ?_)
 simp only [Int.toNat_natCast,hx]
 refine wpAny_bind (wpAny_rule (wpAny_bind (wpAny_setField e1 e3 (by simp) ?_)))
 show wpAny (model prog w) _ (newExc (Value.type "StopIteration") [] >>= _) _ _ _
 refine wpAny_bind ?_
 simp only [newExc,newTuple]
 refine wpAny_bind (wpAny_newObj_type ?_ (by size_fits))
 refine wpAny_bind (m:=firstArgMember _ _) (wpAny_of_eq (a:=Value.none) (by first | rfl | (simp only [firstArgMember];rfl)) ?_)
 refine wpAny_newObj_type ?_ (by size_fits)
 simp only [raiseNew]
 refine wpAny_bind (wpAny_handled ?_)
 first | rw [show A.in1.handled=none from hh] | rw [hh]
 exact wpAny_bind (wpAny_pure (wpAny_throw (q _ _ (((Heap.SameBut.update ..).extBut.push _).push _) ⟨_,Heap.get?_push_size _ rfl,rfl⟩)))
end
theorem qa3 {prog:Program} {w:World} {A:Around} (hh:A.handled=none) (it tu:Addr) (hne:tu≠it) (arr:Array Value) :
  Draws prog w A it [it,tu] arr.size (fun i x=>arr[i]? = some x) (fun i h=>h.IsTupleIter it tu i/\h.IsTuple tu arr) where
 live:=fun i h st=>by obtain ⟨⟨o,e,_⟩,_⟩:=st;exact ⟨o,e⟩
 frame:=fun i h h' st k=>by
  obtain ⟨h1,o,e,r⟩:=st
  exact ⟨h1.at fun o q=>k it (by simp) o q,o,k tu (by simp) o e,r⟩
 item:=fun i s Q E hi st q=>qkT st.1 st.2 (Array.getElem?_eq_getElem hi) fun h' h1 sb=>q _ h' s.toks (Array.getElem?_eq_getElem hi) ⟨h1,by
  obtain ⟨o,e,r⟩:=st.2
  exact ⟨o,sb.extBut _ _ hne e,r⟩⟩ sb
 done:=fun s Q E st q=>qkU hh st.1 st.2 (Array.getElem?_eq_none (Nat.le_refl _)) q
structure ZAp (z TI TO i1 i2:Addr) (fp1 fp2:List Addr):Prop where
 zTI:z≠TI
 zTO:z≠TO
 zi1:z≠i1
 zi2:z≠i2
 IO:TI≠TO
 Ii1:TI≠i1
 Ii2:TI≠i2
 Oi1:TO≠i1
 Oi2:TO≠i2
 ii:i1≠i2
 z1:z ∉ fp1
 z2:z ∉ fp2
 O1:TO ∉ fp1
 O2:TO ∉ fp2
 i21:i2 ∉ fp1
 i12:i1 ∉ fp2
section
variable {prog:Program} {w:World} {A:Around} {E:Value->Shared->Prop} {s:Shared} {z TI TO i1 i2:Addr} {fp1 fp2:List Addr} {n1 n2 k:Nat} {P1 P2:Nat->Value->Prop} {S1 S2:Nat->Heap->Prop}
theorem yw {fp:List Addr} {a:Addr} {h h':Heap} (sb:Heap.SameBut a h h') (ha:a ∉ fp):∀ b∈fp,∀ o,h.get? b=some o->h'.get? b=some o:=fun b hb o e=>sb.extBut _ _ (fun q=>ha (q▸hb)) e
theorem qmU (D1:Draws prog w A i1 fp1 n1 P1 S1) (D2:Draws prog w A i2 fp2 n2 P2 S2) (ap:ZAp z TI TO i1 i2 fp1 fp2) {p q:Value} (zz:IsZip s.heap z TI TO .none) (zI:IsPair s.heap TI (.ref i1) (.ref i2)) (zO:IsPair s.heap TO p q)
  (t1:S1 k s.heap) (t2:S2 k s.heap) (l1:k<n1) (l2:k<n2) {Q:Value->Shared->Prop}
  (fin:∀ x y h' tk,P1 k x->P2 k y->IsZip h' z TI TO (rawInt s.heap.objs.size)->IsPair h' TO x y->S1 (k+1) h'->S2 (k+1) h'->IsPair h' s.heap.objs.size x y ->
   (∀ c o,c≠z->c≠TO->c≠i1->c≠i2->s.heap.get? c=some o->h'.get? c=some o)->Q (.ref s.heap.objs.size) { s with heap:=h',toks:=tk }) :
  wpAny (model prog w) A (Builtin.«zip.__next__» ⟨[.ref z],[]⟩) (fun r s'=>∃ v,r = .done (.ret v)/\Q v s') E s:=by
 show wpAny (model prog w) A (field (Value.ref z) 2 >>= _) _ _ _
 refine wpAny_bind (wpAny_field zz rfl (x:=Value.bool false) rfl ?_)
 show wpAny (model prog w) A (field (Value.ref z) 3 >>= _) _ _ _
 refine wpAny_bind (wpAny_field zz rfl (x:=Value.ref TI) rfl (wpAny_bind (wpAny_seqItems zI rfl ?_)))
 show wpAny (model prog w) A (Builtin.SmallTypes.ownedTupleIsFree (Value.ref z) >>= _) _ _ _
 refine wpAny_bind ?_
 unfold Builtin.SmallTypes.ownedTupleIsFree
 refine wpAny_bind (wpAny_field zz rfl (x:=Value.none) rfl (wpAny_pure ?_))
 simp only [if_true]
 refine wpAny_bind (wpAny_rule (wpAny_bind (wpAny_field zz rfl (x:=Value.ref TO) rfl (wpAny_bind (wpAny_setField_rec zz (by simp) fun h1 zz1 b1 => ?_)))))
 replace zz1:IsZip h1 z TI TO .ellipsis:=zz1
 refine wpAny_bind ?_
 simp only [List.zipIdx_cons,List.zipIdx_nil,List.forIn_cons,List.forIn_nil]
 refine wpAny_bind (wpAny_bind (wpAny_onRaise ?_))
 show wpAny (model prog w) A (Builtin.SmallTypes.nextOf (Value.ref i1) >>= _) _ _ _
 refine wpAny_bind (D1.item k _ _ _ l1 (D1.frame _ _ _ t1 (yw b1 ap.z1)) fun x h2 tk2 px u1 b2=>wpAny_pure ?_)
 have zO2:IsPair h2 TO p q:=b2.extBut _ _ ap.Oi1 (b1.extBut _ _ ap.zTO.symm zO)
 refine wpAny_bind (wpAny_seqItems zO2 rfl (wpAny_bind (wpAny_updateSeq_pair zO2 fun h3 zO3 b3 => ?_)))
 replace zO3:IsPair h3 TO x q:=zO3
 refine wpAny_bind (wpAny_letGo (wpAny_pure (wpAny_bind (wpAny_bind (wpAny_onRaise ?_)))))
 show wpAny (model prog w) A (Builtin.SmallTypes.nextOf (Value.ref i2) >>= _) _ _ _
 have t2':S2 k h3:=D2.frame _ _ _ (D2.frame _ _ _ (D2.frame _ _ _ t2 (yw b1 ap.z2)) (yw b2 ap.i12)) (yw b3 ap.O2)
 refine wpAny_bind (D2.item k _ _ _ l2 t2' fun y h4 tk4 py u2 b4=>wpAny_pure ?_)
 have zO4:IsPair h4 TO x q:=b4.extBut _ _ ap.Oi2 zO3
 refine wpAny_bind (wpAny_seqItems zO4 rfl (wpAny_bind (wpAny_updateSeq_pair zO4 fun h5 zO5 b5 => ?_)))
 replace zO5:IsPair h5 TO x y:=zO5
 refine wpAny_bind (wpAny_letGo (wpAny_pure (wpAny_pure (wpAny_bind (wpAny_seqItems zO5 rfl (wpAny_bind (wpAny_newTuple ?_)))))))
 have sz:h5.objs.size=s.heap.objs.size:=by rw [b5.1,b4.1,b3.1,b2.1,b1.1]
 have zz5:IsZip h5 z TI TO .ellipsis:=b5.extBut _ _ ap.zTO (b4.extBut _ _ ap.zi2 (b3.extBut _ _ ap.zTO (b2.extBut _ _ ap.zi1 zz1)))
 have keep5:∀ c o,c≠z->c≠TO->c≠i1->c≠i2->s.heap.get? c=some o->h5.get? c=some o:=fun c o c1 c2 c3 c4 e=>b5.extBut _ _ c2 (b4.extBut _ _ c4 (b3.extBut _ _ c2 (b2.extBut _ _ c3 (b1.extBut _ _ c1 e))))
 have v1:S1 (k+1) h5:=D1.frame _ _ _ (D1.frame _ _ _ (D1.frame _ _ _ u1 (yw b3 ap.O1)) (yw b4 ap.i21)) (yw b5 ap.O1)
 have v2:S2 (k+1) h5:=D2.frame _ _ _ u2 (yw b5 ap.O2)
 have lz:z<h5.objs.size:=Heap.lt_size zz5
 show wpAny (model prog w) A (Builtin.SmallTypes.ownedTupleHandOut (Value.ref z) (Value.ref h5.objs.size) >>= _) _ _ _
 refine wpAny_bind ?_
 unfold Builtin.SmallTypes.ownedTupleHandOut
 have zz6:IsZip (h5.push { cls := .type "tuple",data := .seq #[x,y] }) z TI TO .ellipsis:=Heap.get?_push_of_some _ zz5
 refine wpAny_bind (wpAny_setField_rec zz6 (by simp) fun h7 zz7 b7 => ?_)
 replace zz7:IsZip h7 z TI TO (rawInt h5.objs.size):=zz7
 refine wpAny_setField_rec zz7 (by simp) fun h8 zz8 b8 => ?_
 replace zz8:IsZip h8 z TI TO (rawInt h5.objs.size):=zz8
 have up:∀ c o,c≠z->h5.get? c=some o->h8.get? c=some o:=fun c o c1 e=>b8.extBut _ _ c1 (b7.extBut _ _ c1 (Heap.get?_push_of_some _ e))
 have new8:IsPair h8 h5.objs.size x y:=b8.extBut _ _ (Nat.ne_of_gt lz) (b7.extBut _ _ (Nat.ne_of_gt lz) (Heap.get?_push_size _ rfl))
 rw [sz] at zz8 new8
 refine wpAny_pure ⟨_,rfl,?_⟩
 show Q (Value.ref h5.objs.size) _
 rw [sz]
 exact fin x y h8 tk4 px py zz8 (up _ _ ap.zTO.symm zO5) (D1.frame _ _ _ v1 fun b hb o e=>up b o (fun q=>ap.z1 (q▸hb)) e) (D2.frame _ _ _ v2 fun b hb o e=>up b o (fun q=>ap.z2 (q▸hb)) e) new8 fun c o c1 c2 c3 c4 e=>up c o c1 (keep5 c o c1 c2 c3 c4 e)
theorem qiL (hh:A.handled=none) (D1:Draws prog w A i1 fp1 n1 P1 S1) (D2:Draws prog w A i2 fp2 n2 P2 S2) (ap:ZAp z TI TO i1 i2 fp1 fp2) {p q:Value} (zz:IsZip s.heap z TI TO .none) (zI:IsPair s.heap TI (.ref i1) (.ref i2)) (zO:IsPair s.heap TO p q)
  (t1:S1 k s.heap) (t2:S2 k s.heap) (hk:k=min n1 n2) {Q:Fin->Shared->Prop}
  (fin:∀ h' tk e,(∀ c o,c≠z->c≠TO->c≠i1->c≠i2->s.heap.get? c=some o->h'.get? c=some o)->(∃ o,h'.get? e=some o/\o.cls = .type "StopIteration")->E (.ref e) { s with heap:=h',toks:=tk }) :
  wpAny (model prog w) A (Builtin.«zip.__next__» ⟨[.ref z],[]⟩) Q E s:=by
 show wpAny (model prog w) A (field (Value.ref z) 2 >>= _) _ _ _
 refine wpAny_bind (wpAny_field zz rfl (x:=Value.bool false) rfl ?_)
 show wpAny (model prog w) A (field (Value.ref z) 3 >>= _) _ _ _
 refine wpAny_bind (wpAny_field zz rfl (x:=Value.ref TI) rfl (wpAny_bind (wpAny_seqItems zI rfl ?_)))
 show wpAny (model prog w) A (Builtin.SmallTypes.ownedTupleIsFree (Value.ref z) >>= _) _ _ _
 refine wpAny_bind ?_
 unfold Builtin.SmallTypes.ownedTupleIsFree
 refine wpAny_bind (wpAny_field zz rfl (x:=Value.none) rfl (wpAny_pure ?_))
 simp only [if_true]
 refine wpAny_bind (wpAny_rule (wpAny_bind (wpAny_field zz rfl (x:=Value.ref TO) rfl (wpAny_bind (wpAny_setField_rec zz (by simp) fun h1 zz1 b1 => ?_)))))
 replace zz1:IsZip h1 z TI TO .ellipsis:=zz1
 refine wpAny_bind ?_
 simp only [List.zipIdx_cons,List.zipIdx_nil,List.forIn_cons,List.forIn_nil]
 refine wpAny_bind (wpAny_bind (wpAny_onRaise ?_))
 show wpAny (model prog w) A (Builtin.SmallTypes.nextOf (Value.ref i1) >>= _) _ _ _
 have t1':S1 k h1:=D1.frame _ _ _ t1 (yw b1 ap.z1)
 by_cases h12:n1<=n2
 ·have e1:k=n1:=by rw [hk];exact Nat.min_eq_left h12
  rw [e1] at t1'
  refine wpAny_bind (D1.done _ _ _ t1' fun h2 e b2 he => ?_)
  obtain ⟨oe,f1,f2⟩:=he
  have zz2:IsZip h2 z TI TO .ellipsis:=b2 _ _ ap.zi1 zz1
  have ez:e≠z:=fun x=>by subst x;rw [zz2] at f1;cases f1;simp at f2
  refine wpAny_setField_rec zz2 (by simp) fun h3 _ b3 => ?_
  exact fin h3 s.toks e (fun c o c1 _ c3 _ x=>b3.extBut _ _ c1 (b2 _ _ c3 (b1.extBut _ _ c1 x))) ⟨oe,b3.extBut _ _ ez f1,f2⟩
 ·have e1:k=n2:=by rw [hk];exact Nat.min_eq_right (by omega)
  refine wpAny_bind (D1.item k _ _ _ (by omega) t1' fun x h2 tk2 px u1 b2=>wpAny_pure ?_)
  have zO2:IsPair h2 TO p q:=b2.extBut _ _ ap.Oi1 (b1.extBut _ _ ap.zTO.symm zO)
  refine wpAny_bind (wpAny_seqItems zO2 rfl (wpAny_bind (wpAny_updateSeq_pair zO2 fun h3 zO3 b3 => ?_)))
  refine wpAny_bind (wpAny_letGo (wpAny_pure (wpAny_bind (wpAny_bind (wpAny_onRaise ?_)))))
  show wpAny (model prog w) A (Builtin.SmallTypes.nextOf (Value.ref i2) >>= _) _ _ _
  have t2':S2 k h3:=D2.frame _ _ _ (D2.frame _ _ _ (D2.frame _ _ _ t2 (yw b1 ap.z2)) (yw b2 ap.i12)) (yw b3 ap.O2)
  rw [e1] at t2'
  refine wpAny_bind (D2.done _ _ _ t2' fun h4 e b4 he => ?_)
  obtain ⟨oe,f1,f2⟩:=he
  have zz4:IsZip h4 z TI TO .ellipsis:=b4 _ _ ap.zi2 (b3.extBut _ _ ap.zTO (b2.extBut _ _ ap.zi1 zz1))
  have ez:e≠z:=fun x=>by subst x;rw [zz4] at f1;cases f1;simp at f2
  refine wpAny_setField_rec zz4 (by simp) fun h5 _ b5 => ?_
  exact fin h5 tk2 e (fun c o c1 c2 c3 c4 x=>b5.extBut _ _ c1 (b4 _ _ c4 (b3.extBut _ _ c2 (b2.extBut _ _ c3 (b1.extBut _ _ c1 x))))) ⟨oe,b5.extBut _ _ ez f1,f2⟩
theorem qiM {l1 l2:Addr} {xs ys:Array Value} {Q:Value->Shared->Prop} (t1:s.heap.IsTuple l1 xs) (t2:s.heap.IsTuple l2 ys)
  (fin:∀ h',IsZip h' (s.heap.objs.size+4) (s.heap.objs.size+2) (s.heap.objs.size+3) .none->IsPair h' (s.heap.objs.size+2) (.ref s.heap.objs.size) (.ref (s.heap.objs.size+1))->IsPair h' (s.heap.objs.size+3) .none .none ->
   h'.IsTupleIter s.heap.objs.size l1 0->h'.IsTupleIter (s.heap.objs.size+1) l2 0->(∀ c o,s.heap.get? c=some o->h'.get? c=some o)->Q (.ref (s.heap.objs.size+4)) { s with heap:=h' }) :
  wpAny (model prog w) A (call (.type "zip") [.ref l1,.ref l2]) Q E s:=by
 have meets:Meets (Builtin.«zip.__new__» ⟨[.type "zip",.ref l1,.ref l2],[]⟩) (fun _ R s=>s.heap.IsTuple l1 xs/\s.heap.IsTuple l2 ys /\
   R (.ok (.ret (.ref (s.heap.objs.size+4)))) { s with heap:=((((s.heap.push { cls := .type "tuple_iterator",data := .fields #[.ref l1,.int 0 0] }).push { cls := .type "tuple_iterator",data := .fields #[.ref l2,.int 0 0] }).push { cls := .type "tuple",data := .seq #[.ref s.heap.objs.size,.ref (s.heap.objs.size+1)] }).push { cls := .type "tuple",data := .seq #[.none,.none] }).push { cls := .type "zip",data := .fields #[.none,.bool false,.bool false,.ref (s.heap.objs.size+2),.ref (s.heap.objs.size+3)] } }) :=
  .of_wp fun prog w A R s h=>by
   obtain ⟨hp,g,d,tk,os⟩:=s
   obtain ⟨ha,hb,h⟩:=h
   have hsub:=sub_zip
   have hA:Heap.IsTuple (Shared.heap ⟨hp,g,d,tk,os⟩) l1 xs:=ha
   have hB:Heap.IsTuple (Shared.heap ⟨hp.push { cls := .type "tuple_iterator",data := .fields #[.ref l1,.int 0 0] },g,d,tk,os⟩) l2 ys:=by
    obtain ⟨o,e,r⟩:=hb
    exact ⟨o,Heap.get?_push_of_some _ e,r⟩
   wp_walk using wpAny_pyIter_tuple hA,wpAny_pyIter_tuple hB
   simp only [Heap.size_push] at *
   exact ⟨_,rfl,h⟩
 refine callType_new F.called_zip (by decide) (F.typeCall_zip_2 _ _) (F.newCall_zip_2 _ _) (fun obj=>F.args_object_init_3 obj _ _) F.entry_zip_new meets ⟨t1,t2,?_⟩
 generalize e1:s.heap.push { cls := .type "tuple_iterator",data := .fields #[.ref l1,.int 0 0] }=m1
 have s1:m1.objs.size=s.heap.objs.size+1:=by rw [<- e1,Heap.size_push]
 have q1:m1.get? s.heap.objs.size=some { cls := .type "tuple_iterator",data := .fields #[.ref l1,.int 0 0] }:=by rw [<- e1];exact Heap.get?_push_size _ rfl
 have k1:∀ c o,s.heap.get? c=some o->m1.get? c=some o:=fun c o x=>by rw [<- e1];exact Heap.get?_push_of_some _ x
 generalize e2:m1.push { cls := .type "tuple_iterator",data := .fields #[.ref l2,.int 0 0] }=m2
 have s2:m2.objs.size=s.heap.objs.size+2:=by rw [<- e2,Heap.size_push,s1]
 have q2:m2.get? (s.heap.objs.size+1)=some { cls := .type "tuple_iterator",data := .fields #[.ref l2,.int 0 0] }:=by rw [<- e2,<- s1];exact Heap.get?_push_size _ rfl
 have k2:∀ c o,m1.get? c=some o->m2.get? c=some o:=fun c o x=>by rw [<- e2];exact Heap.get?_push_of_some _ x
 generalize e3:m2.push { cls := .type "tuple",data := .seq #[.ref s.heap.objs.size,.ref (s.heap.objs.size+1)] }=m3
 have s3:m3.objs.size=s.heap.objs.size+3:=by rw [<- e3,Heap.size_push,s2]
 have q3:m3.get? (s.heap.objs.size+2)=some { cls := .type "tuple",data := .seq #[.ref s.heap.objs.size,.ref (s.heap.objs.size+1)] }:=by rw [<- e3,<- s2];exact Heap.get?_push_size _ rfl
 have k3:∀ c o,m2.get? c=some o->m3.get? c=some o:=fun c o x=>by rw [<- e3];exact Heap.get?_push_of_some _ x
 generalize e4:m3.push { cls := .type "tuple",data := .seq #[.none,.none] }=m4
 have s4:m4.objs.size=s.heap.objs.size+4:=by rw [<- e4,Heap.size_push,s3]
 have q4:m4.get? (s.heap.objs.size+3)=some { cls := .type "tuple",data := .seq #[.none,.none] }:=by rw [<- e4,<- s3];exact Heap.get?_push_size _ rfl
 have k4:∀ c o,m3.get? c=some o->m4.get? c=some o:=fun c o x=>by rw [<- e4];exact Heap.get?_push_of_some _ x
 generalize e5:m4.push { cls := .type "zip",data := .fields #[.none,.bool false,.bool false,.ref (s.heap.objs.size+2),.ref (s.heap.objs.size+3)] }=m5
 have q5:m5.get? (s.heap.objs.size+4)=some { cls := .type "zip",data := .fields #[.none,.bool false,.bool false,.ref (s.heap.objs.size+2),.ref (s.heap.objs.size+3)] }:=by rw [<- e5,<- s4];exact Heap.get?_push_size _ rfl
 have k5:∀ c o,m4.get? c=some o->m5.get? c=some o:=fun c o x=>by rw [<- e5];exact Heap.get?_push_of_some _ x
 show _/\_
 exact ⟨⟨_,q5,rfl⟩,fin m5 q5 (k5 _ _ (k4 _ _ q3)) (k5 _ _ q4) ⟨_,k5 _ _ (k4 _ _ (k3 _ _ (k2 _ _ q1))),rfl,rfl⟩ ⟨_,k5 _ _ (k4 _ _ (k3 _ _ q2)),rfl,rfl⟩ fun c o x=>k5 _ _ (k4 _ _ (k3 _ _ (k2 _ _ (k1 _ _ x))))⟩
end
section
variable {X:Cx} {pins:List (Addr×Obj)} {Z:St} {H:Hp} {s:Shared} {h':Heap}
theorem qkV {ch:List Addr} {T:Addr} {o:HO} {t':Nat} (I:Inv X pins Z H s) (k:∀ b u,b ∉ ch->s.heap.get? b=some u->h'.get? b=some u) (hf:∀ b∈ch,qey X pins H b) (hT:s.heap.objs.size<=T) (new:uh X.prog X.w (upd H T o) h' T o) :
  Inv X pins Z (upd H T o) { s with heap:=h',toks:=t' }:=by
 have hn:H T=none:=I.hok.fresh hT
 have nch:∀ b u,H b=some u->b ∉ ch:=fun b u e z=>by rw [(hf b z).1] at e;cases e
 refine I.step (g':=s.gens) (d':=s.drawn) (ch:=ch) (fun b hb=>⟨(hf b hb).2.2.2.1,(hf b hb).2.1,(hf b hb).2.2.2.2.1,(hf b hb).2.2.2.2.2⟩) (fun b u _ _ hc e _=>k b u hc e) (fun b u _ _ hc e _=>⟨u.slots,k b u hc e⟩) (fun b u hc e n => ?_)
  (fun b u hc e=>⟨u,k b u hc e⟩) (fun b xs e=>by rw [qx (qK e hn)];exact e) (fun b u xs e=>by rw [qx (qK e hn)];exact e) (fun b ps y e=>by rw [qx (qK e hn)];exact e) (fun m hm => ?_) (fun b u e => ?_) I.bare
 ·rw [qx (Nat.ne_of_lt (Nat.lt_of_lt_of_le (Heap.lt_size e) hT))];exact n
 ·obtain ⟨ob,es,ep,ho,r⟩:=hm
  exact ⟨ob,es,ep,k _ ob (fun z=>(hf _ z).2.1 rfl) ho,r⟩
 ·by_cases hb:b=T
  ·subst hb;rw [qA] at e;cases e;exact new
  ·rw [qx hb] at e
   refine (I.hok b u e).stay (fun c v hc q=>k c v ?_ q) (fun c q=>by rw [qx (qK q hn)];exact q) (fun c xs q=>by rw [qx (qK q hn)];exact q) fun c ob y q=>by rw [qx (qK q hn)];exact q
   rcases hc with z | z
   ·rw [z];exact nch b u e
   ·exact nch c _ z
theorem qkW {ch:List Addr} {t':Nat} (I:Inv X pins Z H s) (k:∀ b u,b ∉ ch->s.heap.get? b=some u->h'.get? b=some u) (hf:∀ b∈ch,qey X pins H b):Inv X pins Z H { s with heap:=h',toks:=t' }:=by
 have nch:∀ b u,H b=some u->b ∉ ch:=fun b u e z=>by rw [(hf b z).1] at e;cases e
 refine I.step (g':=s.gens) (d':=s.drawn) (ch:=ch) (fun b hb=>⟨(hf b hb).2.2.2.1,(hf b hb).2.1,(hf b hb).2.2.2.2.1,(hf b hb).2.2.2.2.2⟩) (fun b u _ _ hc e _=>k b u hc e) (fun b u _ _ hc e _=>⟨u.slots,k b u hc e⟩) (fun b u hc e n=>n)
  (fun b u hc e=>⟨u,k b u hc e⟩) (fun b xs e=>e) (fun b u xs e=>e) (fun _ _ _ e=>e) (fun m hm => ?_) (fun b u e => ?_) I.bare
 ·obtain ⟨ob,es,ep,ho,r⟩:=hm
  exact ⟨ob,es,ep,k _ ob (fun z=>(hf _ z).2.1 rfl) ho,r⟩
 ·refine (I.hok b u e).stay (fun c v hc q=>k c v ?_ q) (fun c q=>q) fun c xs q=>q
  rcases hc with z | z
  ·rw [z];exact nch b u e
  ·exact nch c _ z
end
def Itz (K:Fr0) (a1 a2:Addr) (xs ys:List V):It :=
 ⟨fun i H=>i<min xs.length ys.length/\SqT K H a1 xs/\SqT K H a2 ys,fun i H x H'=>∃ p u v,H p=none/\xs[i]? = some u/\ys[i]? = some v/\x = .ref p/\H'=upd H p (.tup [u,v]),fun i H=>i=min xs.length ys.length/\SqT K H a1 xs/\SqT K H a2 ys⟩
def ZSt (z TI TO i1 i2 a1 a2:Addr) (i:Nat) (h:Heap):Prop:=IsZip h z TI TO .none/\IsPair h TI (.ref i1) (.ref i2)/\(∃ p q,IsPair h TO p q)/\h.IsTupleIter i1 a1 i/\h.IsTupleIter i2 a2 i
theorem qiN {P:Program} {w:World} {K:Fr0} {es:List Expr} {kk:Nat} {pos:Pos} {z TI TO i1 i2 a1 a2:Addr} {xs ys:List V} (ap:ZAp z TI TO i1 i2 [i1,a1] [i2,a2]) (n1:a1≠i1) (n2:a2≠i2) :
  qmd P w K (.Tuple es kk pos) (Itz K a1 a2 xs ys) [z,TI,TO,i1,i2] z (ZSt z TI TO i1 i2 a1 a2) where
 mem:=by simp
 obj:=fun i h st b hb=>by
  obtain ⟨h1,h2,⟨p,q,h3⟩,⟨o4,h4,c4,d4⟩,⟨o5,h5,c5,d5⟩⟩:=st
  simp only [List.mem_cons,nN_,or_false] at hb
  rcases hb with rfl | rfl | rfl | rfl | rfl
  ·exact ⟨_,h1,fun v e=>by cases (show Data.fields _=Data.cell v from e)⟩
  ·exact ⟨_,h2,fun v e=>by cases (show Data.seq _ _=Data.cell v from e)⟩
  ·exact ⟨_,h3,fun v e=>by cases (show Data.seq _ _=Data.cell v from e)⟩
  ·exact ⟨_,h4,fun v e=>by rw [d4] at e;cases e⟩
  ·exact ⟨_,h5,fun v e=>by rw [d5] at e;cases e⟩
 keep:=fun i h h' st k=>by
  obtain ⟨h1,h2,⟨p,q,h3⟩,h4,h5⟩:=st
  exact ⟨k z (by simp) _ h1,k TI (by simp) _ h2,⟨p,q,k TO (by simp) _ h3⟩,h4.at fun o e=>k i1 (by simp) o e,h5.at fun o e=>k i2 (by simp) o e⟩
 item:=by
  intro X hP hw hK hc i pins s Z H E I hf st hg
  subst hP hw hK
  obtain ⟨hlt,hx,hy⟩:=hg
  obtain ⟨h1,h2,⟨p,q,h3⟩,h4,h5⟩:=st
  obtain ⟨it1,r1,p1,z1⟩:=I.tuple hx
  obtain ⟨it2,r2,p2,z2⟩:=I.tuple hy
  have l1:i<it1.toArray.size:=by rw [sT_,<- r1.length];omega
  have l2:i<it2.toArray.size:=by rw [sT_,<- r2.length];omega
  have hT:s.TypeIs (.ref z) "zip":=⟨_,h1,rfl⟩
  have hh:X.A.in1.handled=none:=I.ok.hd hc
  unfold pyNext
  refine wpAny_bind (wpAny_attempt (wpAny_callSpecial?_slot (name:=Str.ofString "__next__") hT F.slot_zip_next (wpAny_call_entry F.slot_zip_next hT F.entry_zip_next
   (qmU (qa3 hh i1 a1 n1 it1.toArray) (qa3 hh i2 a2 n2 it2.toArray) ap h1 h2 h3 ⟨h4,p1⟩ ⟨h5,p2⟩ l1 l2 fun x y h' tk px py zz zO u1 u2 new kp=>wpAny_pure ?_) (F.args_zip_next_1 _))))
  refine ⟨.ref s.heap.objs.size,rfl,wpAny_letOwnedTupleGo_zip zz fun h2' zz2 sb => ?_⟩
  obtain ⟨xv,hxv⟩:∃ v,xs[i]? = some v:=⟨xs[i]'(by omega),gG (by omega)⟩
  obtain ⟨yv,hyv⟩:∃ v,ys[i]? = some v:=⟨ys[i]'(by omega),gG (by omega)⟩
  obtain ⟨x',ex,rx⟩:=r1.get hxv
  obtain ⟨y',ey,ry⟩:=r2.get hyv
  have exx:x'=x:=by
   have:it1.toArray[i]? = some x:=px
   rw [List.getElem?_toArray,ex] at this
   exact Option.some.inj this
  have eyy:y'=y:=by
   have:it2.toArray[i]? = some y:=py
   rw [List.getElem?_toArray,ey] at this
   exact Option.some.inj this
  subst exx eyy
  have lz:z<s.heap.objs.size:=Heap.lt_size h1
  have keep:∀ b u,b ∉ [z,TI,TO,i1,i2]->s.heap.get? b=some u->h2'.get? b=some u:=fun b u hb e=>by
   simp only [List.mem_cons,nN_,or_false,not_or] at hb
   exact sb.extBut _ _ hb.1 (kp b u hb.1 hb.2.2.1 hb.2.2.2.1 hb.2.2.2.2 e)
  have I2:Inv X pins Z (upd H s.heap.objs.size (.tup [xv,yv])) { s with heap:=h2',toks:=tk } :=
   qkV I keep hf (Nat.le_refl _) ⟨by show 2<=sizeLine;decide,[x',y'],.cons rx (.cons ry .nil),⟨_,sb.extBut _ _ (Nat.ne_of_gt lz) new,rfl,_,rfl⟩⟩
  refine ⟨.ref s.heap.objs.size,upd H s.heap.objs.size (.tup [xv,yv]),I2,rfl,⟨s.heap.objs.size,xv,yv,I.hok.fresh (Nat.le_refl _),hxv,hyv,rfl,rfl⟩,?_,fun b hb => ?_⟩
  ·exact ⟨zz2,sb.extBut _ _ ap.zTI.symm (kp _ _ ap.zTI.symm ap.IO ap.Ii1 ap.Ii2 h2),⟨_,_,sb.extBut _ _ ap.zTO.symm zO⟩,u1.1.at fun o e=>sb.extBut _ _ ap.zi1.symm e,u2.1.at fun o e=>sb.extBut _ _ ap.zi2.symm e⟩
  ·have hb1:b≠s.heap.objs.size:=by
    simp only [List.mem_cons,nN_,or_false] at hb
    obtain ⟨o4,g4,_⟩:=h4
    obtain ⟨o5,g5,_⟩:=h5
    rcases hb with rfl | rfl | rfl | rfl | rfl
    ·exact Nat.ne_of_lt (Heap.lt_size h1)
    ·exact Nat.ne_of_lt (Heap.lt_size h2)
    ·exact Nat.ne_of_lt (Heap.lt_size h3)
    ·exact Nat.ne_of_lt (Heap.lt_size g4)
    ·exact Nat.ne_of_lt (Heap.lt_size g5)
   rw [qx hb1]
   exact (hf b hb).1
 done:=by
  intro X hP hw hK hc i pins s Z H E I hf st hg
  subst hP hw hK
  obtain ⟨hlt,hx,hy⟩:=hg
  obtain ⟨h1,h2,⟨p,q,h3⟩,h4,h5⟩:=st
  obtain ⟨it1,r1,p1,z1⟩:=I.tuple hx
  obtain ⟨it2,r2,p2,z2⟩:=I.tuple hy
  have hT:s.TypeIs (.ref z) "zip":=⟨_,h1,rfl⟩
  have hh:X.A.in1.handled=none:=I.ok.hd hc
  unfold pyNext
  refine wpAny_bind (wpAny_attempt (wpAny_callSpecial?_slot (name:=Str.ofString "__next__") hT F.slot_zip_next (wpAny_call_entry F.slot_zip_next hT F.entry_zip_next
   (qiL hh (qa3 hh i1 a1 n1 it1.toArray) (qa3 hh i2 a2 n2 it2.toArray) ap h1 h2 h3 ⟨h4,p1⟩ ⟨h5,p2⟩ (by rw [sT_,sT_,<- r1.length,<- r2.length];exact hlt) fun h' tk e kp he => ?_) (F.args_zip_next_1 _))))
  obtain ⟨o,ho,hcl⟩:=he
  refine wpAny_bind (wpAny_isInstance (T:="StopIteration") (b:=true) ⟨o,ho,hcl⟩ isSubtype_stop (wpAny_pure ⟨rfl,qkW I (fun b u hb e => ?_) hf⟩))
  simp only [List.mem_cons,nN_,or_false,not_or] at hb
  exact kp b u hb.1 hb.2.2.1 hb.2.2.2.1 hb.2.2.2.2 e
 self:=fun A i s Q E st h=>wpAny_pyIter_zip st.1 h
section
variable {X:Cx} {c:Fc} {a b e:Expr} {pos:Pos} {es:List Expr} {kk:Nat} {tp:Pos}
theorem qkX (n l1 l2:Nat) (h1:l1<n) (h2:l2<n):ZAp (n+4) (n+2) (n+3) n (n+1) [n,l1] [n+1,l2]:=by
 refine ⟨?_,?_,?_,?_,?_,?_,?_,?_,?_,?_,?_,?_,?_,?_,?_,?_⟩<;>simp only [List.mem_cons,nN_,or_false,not_or,ne_eq]<;>(unfold Addr at *)<;>omega
def qpR (K:Fr0) (ta:TA):TI:=fun Z H R=>ta Z H fun vs H1=>∃ a1 a2 xs ys,vs=[.ref a1,.ref a2]/\SqT K H1 a1 xs/\SqT K H1 a2 ys/\R (Itz K a1 a2 xs ys) H1
theorem qmV {ta:TA} {p:Pos} (hg:Gl X "zip") (hm:X.mg "zip"=none) (ha:PA X [a,b] ta) (hs:starEach [a,b] X.env=[(false,eval a X.env),(false,eval b X.env)]:=by rfl) (hs2:starEach [b] X.env=[(false,eval b X.env)]:=by rfl) :
  PI X (.Tuple es kk tp) (.Call (.Name "zip" p) [a,b] [] pos) (qpR X.K ta):=by
 intro pins s Z H R I h
 refine Call_ (qb9 I hg hm PyProof.Rows.boot_zip (PyProof.Rows.callWith_type1 (thn (ha pos pins s Z H _ I h) fun us s1 ⟨vs,H1,I1,r1,q1⟩ => ?_) (by rw [hs,hs2]) (by rw [hs2];rfl)))
 obtain ⟨a1,a2,xs,ys,e1,hx,hy,q⟩:=q1
 subst e1
 obtain ⟨u1,u2,rfl,ru1,ru2⟩:=zb.two r1
 cases (show u1=Value.ref a1 from ru1)
 cases (show u2=Value.ref a2 from ru2)
 obtain ⟨it1,v1,p1,z1⟩:=I1.tuple hx
 obtain ⟨it2,v2,p2,z2⟩:=I1.tuple hy
 refine qiM (show s1.heap.IsTuple a1 it1.toArray from p1) (show s1.heap.IsTuple a2 it2.toArray from p2) fun h' zz zI zO g1 g2 kp => ?_
 refine wpAny_pyIter_zip zz ?_
 have la1:a1<s1.heap.objs.size:=by obtain ⟨o,e,_⟩:=p1;exact Heap.lt_size e
 have la2:a2<s1.heap.objs.size:=by obtain ⟨o,e,_⟩:=p2;exact Heap.lt_size e
 have ap:ZAp (s1.heap.objs.size+4) (s1.heap.objs.size+2) (s1.heap.objs.size+3) s1.heap.objs.size (s1.heap.objs.size+1) [s1.heap.objs.size,a1] [s1.heap.objs.size+1,a2]:=by
  exact qkX _ _ _ la1 la2
 refine ⟨s1.heap.objs.size+4,[s1.heap.objs.size+4,s1.heap.objs.size+2,s1.heap.objs.size+3,s1.heap.objs.size,s1.heap.objs.size+1],_,_,H1,rfl,I1.kept (t':=s1.toks) kp,qiN (xs:=xs) (ys:=ys) ap (Nat.ne_of_lt la1) (Nat.ne_of_lt (Nat.lt_succ_of_lt la2)),⟨zz,zI,⟨_,_,zO⟩,g1,g2⟩,fun b hb => ?_,q⟩
 simp only [List.mem_cons,nN_,or_false] at hb
 have hb2:s1.heap.objs.size<=b:=by
  rcases hb with e | e | e | e | e<;>rw [e]
  ·exact Nat.le_add_right _ _
  ·exact Nat.le_add_right _ _
  ·exact Nat.le_add_right _ _
  ·exact Nat.le_refl _
  ·exact Nat.le_add_right _ _
 exact I1.fpOk hb2 (I1.hok.fresh hb2)
def qai:List D->List D->List D
 | x::xs,y::ys => .tup [x,y]::qai xs ys
 | _,_=>[]
theorem qfn:∀ {xs ys:List D} {i:Nat} {d:D},(qai xs ys)[i]? = some d->∃ x y,xs[i]? = some x/\ys[i]? = some y/\d = .tup [x,y]
 | [],_,_,_,h=>by simp [qai] at h
 | _::_,[],_,_,h=>by simp [qai] at h
 | x::xs,y::ys,0,d,h=>by
  have:D.tup [x,y]=d:=by simpa [qai] using h
  exact ⟨x,y,rfl,rfl,this.symm⟩
 | x::xs,y::ys,i+1,d,h=>by
  obtain ⟨u,v,h1,h2,h3⟩:=qfn (xs:=xs) (ys:=ys) (i:=i) (d:=d) (by simpa [qai] using h)
  exact ⟨u,v,by simpa using h1,by simpa using h2,h3⟩
theorem qcL:∀ (xs ys:List D),(qai xs ys).length=min xs.length ys.length
 | [],ys=>by simp [qai]
 | _::_,[]=>by simp [qai]
 | x::xs,y::ys=>by simp [qai,qcL xs ys]
theorem qmW {K:Fr0} {A:Addr->Prop} {H:Hp} {ds es:List D} {xs ys:List V} {a1 a2:Addr} (t1:TupAt K H a1 xs) (t2:TupAt K H a2 ys) (i1:IsL K A H ds xs) (i2:IsL K A H es ys):qjI K A H (qai ds es) (Itz K a1 a2 xs ys) where
 go:=fun H' i d ex hd=>by
  have hl:i<(qai ds es).length:=(gI_.mp hd).1
  rw [qcL,<- i1.length,<- i2.length] at hl
  exact ⟨hl,(t1.elim (fun h => .inl (ex.tup _ _ h)) .inr:TupAt K H' a1 xs).sq,(t2.elim (fun h => .inl (ex.tup _ _ h)) .inr:TupAt K H' a2 ys).sq⟩
 yl:=fun H' i d x H'' ex hd y=>by
  obtain ⟨p,u,v,hp,hu,hv,rfl,rfl⟩:=y
  obtain ⟨dx,dy,h1,h2,rfl⟩:=qfn hd
  obtain ⟨u',g1,g2⟩:=i1.get h1
  obtain ⟨v',g3,g4⟩:=i2.get h2
  rw [hu] at g1
  rw [hv] at g3
  cases g1
  cases g3
  have sm:=qD hp (.tup [u,v])
  exact ⟨sm,p,[u,v],rfl,.inl qA,u,[v],rfl,Is.ext (Ext.of_same sm) (fun _ h _=>h) (Is.ext ex (fun _ h _=>h) g2),v,[],rfl,Is.ext (Ext.of_same sm) (fun _ h _=>h) (Is.ext ex (fun _ h _=>h) g4),rfl⟩
 stop:=fun H' ex=>⟨by rw [qcL,i1.length,i2.length],(t1.elim (fun h => .inl (ex.tup _ _ h)) .inr:TupAt K H' a1 xs).sq,(t2.elim (fun h => .inl (ex.tup _ _ h)) .inr:TupAt K H' a2 ys).sq⟩
def qiO:List D->Option (List D)
 | [.tup xs,.tup ys]=>some (qai xs ys)
 | _=>none
def qf8 (f:M (List D)):M (List D):=bnd f fun ds=>lift (qiO ds)
theorem qdX {f:M (List D)} {p:Pos} (hg:Gl X "zip") (hm:X.mg "zip"=none) (ha:DA X c [a,b] f) (hs:starEach [a,b] X.env=[(false,eval a X.env),(false,eval b X.env)]:=by rfl) (hs2:starEach [b] X.env=[(false,eval b X.env)]:=by rfl) :
  DI X c (.Tuple es kk tp) (.Call (.Name "zip" p) [a,b] [] pos) (qf8 f):=by
 obtain ⟨t,pa,w⟩:=ha
 refine ⟨_,qmV hg hm pa hs hs2,fun U Z H Q r h=>w U Z H _ r (WpL.bndI h fun ds U1 vs H1 r1 i1 g1 h1 => ?_)⟩
 obtain ⟨es',e,h2⟩:=qcI h1
 unfold qiO at e
 split at e
 ·obtain ⟨v,u,rfl,j1,j2⟩:=IsL.inv2 i1
  cases e
  obtain ⟨a1,xs,rfl,t1,il1⟩:=Is.tr j1
  obtain ⟨a2,ys,rfl,t2,il2⟩:=Is.tr j2
  exact ⟨a1,a2,xs,ys,rfl,t1.sq,t2.sq,h2 _ H1 r1 (qmW t1 t2 il1 il2) .refl⟩
 ·cases e
end
theorem qcM:fillsNumberSlot (.type "tuple") "mul"=pure false:=by
 first | kernel_rfl | (unfold fillsNumberSlot;kernel_rfl) | decide +kernel
theorem qf9:seqRepeat? (.type "tuple")=pure (some (.builtin "tuple.__mul__")):=by
 first | kernel_rfl | (unfold seqRepeat?;kernel_rfl) | decide +kernel
theorem qdY (a:Int) (t:Tok) (l:Addr) (dd:Option Addr) (items:Array Value) (n:Nat) (sl:Array (Option Value)) :
  Meets (Builtin.«int.__rmul__» ⟨[.int a t,.ref l],[]⟩) (fun _ R s=>s.heap.get? l=some { cls := .type "tuple",dict:=dd,data := .seq items n,slots:=sl }/\R (.ok (.ret .notImplemented)) s) :=
 .of_wp fun prog w A R s h=>by
  obtain ⟨hp,g,d,tk,os⟩:=s
  obtain ⟨hl,h⟩:=h
  wp_walk using wpAny_loadPart' hl
  exact ⟨_,rfl,h⟩
theorem qmX (l:Addr) (dd:Option Addr) (items:Array Value) (n:Nat) (sl:Array (Option Value)) (k:Int) (t:Tok) (h0:¬ items.isEmpty=true) (h1:¬ (k==1)=true) (h2:¬ k<=0) (h3:¬ (decide (k < -(2 ^ 63))||decide (k >= 2 ^ 63))=true)
  (h4:¬ (items.size:Int)*k>(2 ^ 63-1)/8) (h5:¬ Builtin.Tuple.tupleTooMany ((items.size:Int)*k)=true) (h6:((List.replicate k.toNat items).foldl (·++·) #[]).size<=sizeLine) :
  Meets (Builtin.«tuple.__mul__» ⟨[.ref l,.int k t],[]⟩) (fun _ R s=>s.heap.get? l=some { cls := .type "tuple",dict:=dd,data := .seq items n,slots:=sl } /\
   R (.ok (.ret (.ref s.heap.objs.size))) { s with heap:=s.heap.push { cls := .type "tuple",data := .seq ((List.replicate k.toNat items).foldl (·++·) #[]) } }) :=
 .of_wp fun prog w A R s h=>by
  obtain ⟨hp,g,d,tk,os⟩:=s
  obtain ⟨hl,h⟩:=h
  have f1:=AutoSeq1.idx_int
  have f2:=AutoSeq1.sub_tuple_tuple
  have h01:¬ (items.isEmpty||k==1)=true:=by simp only [Bool.or_eq_true,not_or];exact ⟨h0,h1⟩
  have h02:¬ (decide (k<=0)||items.isEmpty)=true:=by simp only [Bool.or_eq_true,decide_eq_true_eq,not_or];exact ⟨h2,h0⟩
  wp_walk using wpAny_loadPart' hl
  rw [if_neg h3]
  wp_walk using wpAny_loadPart' hl
  rw [if_neg h4]
  wp_walk using wpAny_loadPart' hl
  exact ⟨_,rfl,h⟩
section
variable {X:Cx}
def qmY (K:Fr0):R2:=fun x y H Q=>∃ a xs k,x = .ref a/\y = .int k/\SqT K H a xs/\xs≠[]/\2<=k/\xs.length*k.toNat<=sizeLine/\∀ p,H p=none->Q (.ref p) (upd H p (.tup (List.replicate k.toNat xs).flatten))
theorem qkY:OpR X (binaryOp .Mult) (qmY X.K):=by
 intro pins s Z H x y v u Q I rx ry h
 obtain ⟨a,xs,k,rfl,rfl,hx,hne,hk,hz,q⟩:=h
 cases rx
 obtain ⟨t,rfl⟩:=ry
 obtain ⟨its,r,p1,_⟩:=I.tuple hx
 obtain ⟨⟨cls,dd,data,sl⟩,ho,hc,n,hd⟩:=id p1
 simp only at hc hd
 subst hc hd
 have hl:=r.length
 have hnew:List.foldl (fun x1 x2=>x1++x2) #[] (List.replicate k.toNat its.toArray)=(List.replicate k.toNat its).flatten.toArray:=by
  have:=qbf its k.toNat []
  rw [List.nil_append] at this
  exact this
 have hlen:(List.replicate k.toNat its).flatten.length=k.toNat*its.length:=qeE its k.toNat
 have hsl:(sizeLine:Nat)=16777216:=sizeLine_eq
 have e0:¬ its.toArray.isEmpty=true:=by
  intro e
  have:its=[]:=by simpa using e
  rw [this] at hl
  exact hne (List.length_eq_zero_iff.mp hl)
 have pos1:1<=its.length:=by
  cases its with
  | nil=>simp at e0
  | cons z zs=>simp
 have kk:((k.toNat:Nat):Int)=k:=Int.toNat_of_nonneg (by omega)
 have mm:(its.toArray.size:Int)*k=((its.length*k.toNat:Nat):Int):=by rw [sT_,Int.natCast_mul,kk]
 have zz:its.length*k.toNat<=sizeLine:=by rw [<- hl];exact hz
 have kle:k.toNat<=its.length*k.toNat:=Nat.le_mul_of_pos_left _ pos1
 have T1:s.TypeIs (.ref a) "tuple":=⟨_,ho,rfl⟩
 refine wpAny_binaryOp_repeat_ref (T:="tuple") (U:="int") (by decide) T1 (fun s'=>typeIs_int s' k t) qcM F.fills_int_mul F.slot_int_rmul qf9 F.slot_int_index.lookup
  (call_meets F.slot_int_rmul (typeIs_int s k t) F.entry_int_rmul (F.args_int_rmul_2 _ _) (qdY k t a dd its.toArray n sl)
   ⟨ho,rfl,T1,call_meets F.slot_tuple_mul T1 F.entry_tuple_mul (F.args_tuple_mul_2 _ _) (qmX a dd its.toArray n sl k t e0 (by simp;omega) (by omega) (by simp;omega) (by rw [mm];omega) ?_ (by rw [hnew,sT_,hlen,Nat.mul_comm];exact zz)) ⟨ho,?_⟩⟩)
 ·rw [mm]
  show ¬ decide (((its.length*k.toNat:Nat):Int)>(sizeLine:Int))=true
  rw [decide_eq_true_eq]
  omega
 ·rw [hnew]
  refine ⟨.ref s.heap.objs.size,_,I.laid (t':=s.toks) (o := .tup (List.replicate k.toNat xs).flatten) (fun b ob q=>Heap.get?_push_of_some _ q) (Nat.le_refl _) ?_,rfl,q _ (I.hok.fresh (Nat.le_refl _))⟩
  exact ⟨by rw [qeE,Nat.mul_comm];exact hz,_,r.rep k.toNat,IsTup.new _ _⟩
def qmZ (K:Fr0):R2:=fun x y H Q=>(rI qmg (fun i j => .int (i*j))) x y H Q\/(qmY K x y H Q\/qo5 x y H Q)
theorem zC:OpR X (binaryOp .Mult) (qmZ X.K):=OpR.or qmi (OpR.or qkY qmz)
end
def jV:D->D->Option D
 | .int i,.int j=>if qgZ i j then some (.int (i*j)) else none
 | .tup ds,.int k=>if (!ds.isEmpty&&decide (2<=k))&&qT (ds.length*k.toNat) then some (.tup (List.replicate k.toNat ds).flatten) else none
 | .lst ds,.int k=>if (decide (-(2 ^ 62)<=k)&&decide (k<2 ^ 62))&&qT (ds.length*k.toNat) then some (.lst (List.replicate k.toNat ds).flatten) else none
 | _,_=>none
theorem IsL.rep {K:Fr0} {A:Addr->Prop} {H:Hp} {ds:List D} {xs:List V} (h:IsL K A H ds xs):∀ k:Nat,IsL K A H (List.replicate k ds).flatten (List.replicate k xs).flatten
 | 0=>by simp [IsL]
 | k+1=>by
  rw [rS_,rS_,List.flatten_cons,List.flatten_cons]
  exact IsL.append h (IsL.rep h k)
theorem qW {K:Fr0}:OpS K jV (qmZ K):=by
 intro A H x y d v u Q hn ix iy e k
 cases x<;>cases y<;>simp only [jV] at e<;>try (cases e;done)
 ·rename_i i j
  obtain ⟨e1,e2⟩:=jo e
  subst e2
  cases ix;cases iy
  exact .inl ⟨i,j,rfl,rfl,qiy e1,k _ H (ji.refl H) rfl⟩
 ·rename_i ds j
  obtain ⟨a,xs,rfl,ta,il⟩:=ix
  cases iy
  obtain ⟨e1,e2⟩:=jo e
  subst e2
  rw [Bool.and_eq_true,Bool.and_eq_true] at e1
  obtain ⟨⟨e3,e4⟩,e5⟩:=e1
  refine .inr (.inl ⟨a,xs,j,rfl,rfl,ta.sq,fun z => ?_,of_decide_eq_true e4,by rw [il.length];exact of_decide_eq_true e5,fun p hp=>k _ _ (qD hp _) ⟨p,_,rfl,.inl qA,IsL.ext (Ext.of_same (qD hp _)) (fun _ h _=>h) (IsL.rep il _)⟩⟩)
  have:=il.length
  rw [z] at this
  have:ds=[]:=List.length_eq_zero_iff.mp this.symm
  rw [this] at e3
  simp at e3
 ·rename_i ds j
  obtain ⟨a,xs,rfl,_,ta,il⟩:=ix
  cases iy
  obtain ⟨e1,e2⟩:=jo e
  subst e2
  rw [Bool.and_eq_true,Bool.and_eq_true] at e1
  obtain ⟨⟨e3,e4⟩,e5⟩:=e1
  have e3':=of_decide_eq_true e3
  have e4':=of_decide_eq_true e4
  refine .inr (.inr ⟨a,j,xs,rfl,rfl,ta,by omega,by omega,by rw [il.length];exact of_decide_eq_true e5,fun p hp=>k _ _ (qD hp _) ⟨p,_,rfl,hn p hp,qA,IsL.ext (Ext.of_same (qD hp _)) (fun _ h _=>h) (IsL.rep il _)⟩⟩)
def qgw:D->Option D
 | .int i=>some (.int (-i))
 | _=>none
def d1 (F:D->Option D) (f:M D):M D:=bnd f fun x=>lift (F x)
def qkZ (i j:Int):Bool:=decide (0<=j)&&decide (j<=1000000)&&decide (i.natAbs<2 ^ 64)
def qnW:D->D->Option D:=qjD qkZ fun i j => .int (i ^ j.toNat)
theorem qk0 {K:Fr0}:OpS K qnW (rI qo1 fun i j => .int (i ^ j.toNat)):=qgY (fun i j h=>by
 unfold qkZ at h
 rw [Bool.and_eq_true,Bool.and_eq_true] at h
 exact ⟨of_decide_eq_true h.1.1,of_decide_eq_true h.1.2,of_decide_eq_true h.2⟩) fun _ _ _ _=>rfl
section
variable {X:Cx} {c:Fc} {a b e:Expr} {pos:Pos}
theorem qjN {f:M D} (h:DE X c a f):DE X c (.UnaryOp .USub a pos) (d1 qgw f):=by
 obtain ⟨t,p,w⟩:=h
 refine ⟨_,qog qmk p,fun U Z H Q r h=>w U Z H _ r (Wp.bnd h fun d U1 v H1 r1 i1 g1 h1 => ?_)⟩
 obtain ⟨d',e,h2⟩:=h1.lift
 cases d<;>simp only [qgw] at e<;>try (cases e;done)
 rename_i i
 cases e
 cases i1
 exact ⟨i,rfl,h2 _ H1 r1 rfl .refl⟩
def qci (i j:Nat) (f:M (List D)):MS:=sbnd f fun ds U=>match ds with
 | [d,e] => .ok (.nx ((U.set i (some d)).set j (some e)))
 | _ => .bad
theorem qdZ {i j:Nat} {x y:Str} {f:M (List D)} {px py pt:Pos} {kt k2 pt2} (hN:X.N.Nodup) (ha:DA X c [a,b] f) (hw:swappedStores [.Tuple [.Name x px,.Name y py] kt pt] (.Tuple [a,b] k2 pt2) X.env=pure (some [x,y])) (hc:X.calm=true:=by rfl) (hi:X.N[i]? = some x:=by rfl) (hj:X.N[j]? = some y:=by rfl) (hij:i≠j:=by decide)
  (hx:X.env.scope.names.lookup x=some .local:=by rfl) (hy:X.env.scope.names.lookup y=some .local:=by rfl) (ho:i ∉ c.O:=by exact of_decide_eq_false rfl) (hp:j ∉ c.O:=by exact of_decide_eq_false rfl)
  (hs:swapsWithSole [.Tuple [.Name x px,.Name y py] kt pt] (.Tuple [a,b] k2 pt2) pos.line X.env=pure false:=by rfl) :
  DS X c (.Assign [.Tuple [.Name x px,.Name y py] kt pt] (.Tuple [a,b] k2 pt2) pos) (qci i j f):=by
 obtain ⟨t,p,w⟩:=ha
 refine ⟨_,qmb hc hN hi hj hij hx hy p hw hs,fun U Z H D r h=>w U Z H _ r (WpL.sbnd h fun ds U1 vs H1 r1 i1 g1 h1 => ?_)⟩
 match ds,i1,h1 with
 | [],_,h1=>exact h1.elim
 | [_],_,h1=>exact h1.elim
 | [d,e],i1,h1 =>
  obtain ⟨v,u,rfl,j1,j2⟩:=IsL.inv2 i1
  refine ⟨v,u,rfl,h1 _ H1 ((r1.set ho j1).set hp ?_) ((GrS.set ho).trans (GrS.set hp))⟩
  exact (GrS.set (H:=H1) ho).is j2
 | _::_::_::_,_,h1=>exact h1.elim
mutual
def immF:D->Bool
 | .tup ds=>immFs ds
 | .lst _=>false
 | .dic _=>false
 | _=>true
def immFs:List D->Bool
 | []=>true
 | d::ds=>immF d&&immFs ds
end
mutual
theorem Is.immF {K:Fr0} {A B:Addr->Prop} {H:Hp}:∀ {d:D} {v:V},immF d=true->Is K A H d v->Is K B H d v
 | .non,_,_,h=>h
 | .bl _,_,_,h=>h
 | .int _,_,_,h=>h
 | .str _,_,_,h=>h
 | .tup ds,_,i,⟨a,xs,hv,h,r⟩=>⟨a,xs,hv,h,IsL.immF (by simpa [Sk.immF] using i) r⟩
 | .lst _,_,i,_=>by simp [Sk.immF] at i
 | .dic _,_,i,_=>by simp [Sk.immF] at i
 | .fz _,_,_,h=>h
 | .exc _,_,_,h=>h
theorem IsL.immF {K:Fr0} {A B:Addr->Prop} {H:Hp}:∀ {ds:List D} {xs:List V},immFs ds=true->IsL K A H ds xs->IsL K B H ds xs
 | [],_,_,h=>h
 | d::ds,_,i,⟨x,ys,hx,h,r⟩=>by
  have i':Sk.immF d=true/\immFs ds=true:=by simpa [immFs] using i
  exact ⟨x,ys,hx,Is.immF i'.1 h,IsL.immF i'.2 r⟩
end
def qd0 (F:List D->R D) (g:M (List D)):M (List D):=bnd g fun ds U=>if immFs ds then match F ds with
 | .ok (.lst bs)=>if immL bs then .ok (bs,U) else .bad
 | _ => .bad else .bad
theorem qk1 {k:Nat} {f:Addr} {fd:FuncData} {ps:List Str} {F:List D->R D} {x:Str} {p:Pos} {es:List Expr} {g:M (List D)} (G:qcc X.prog X.w X.K X.mg X.base CX0 k f fd ps (spD X.K F)) (hr:uD k X.A) (hg:Gl X x) (hm:X.mg x=some (.ref f)) (hk:PySem.W.keepIn X.K (.ref f)=true) (hb:vQ X.K fd ps [])
  (ha:DA X c (e::es) g) (hd:(x==("__debug__":Str))=false:=by decide) (he:starEach (e::es) X.env=(false,eval e X.env)::starEach es X.env:=by rfl) (hpl:(backTo pos (starEach es X.env)).any (·.1)=false:=by rfl):DN X c (.Call (.Name x p) (e::es) [] pos) (qd0 F g):=by
 obtain ⟨t,pa,w⟩:=ha
 refine ⟨_,qcC G hr hg hm hk hb .nil qkz pa hd he hpl,fun U Z H Q r h=>w U Z H _ r (WpL.bndN h fun ds U1 vs H1 r1 i1 g1 h1 => ?_)⟩
 rw [List.append_nil]
 by_cases him:immFs ds=true
 ·rw [if_pos him] at h1
  refine ⟨ds,fun _=>False,IsL.immF him i1,r1.tb,?_⟩
  cases ef:F ds with
  | bad=>simp only [ef] at h1;exact h1.elim
  | exc z U'=>simp only [ef] at h1;exact h1.elim
  | ok d =>
   cases d with
   | lst bs =>
    simp only [ef] at h1
    by_cases hb2:immL bs=true
    ·rw [if_pos hb2] at h1
     intro v H' sm i
     obtain ⟨a,xs,rfl,hA,ha2,il⟩:=i
     have hn:H1 a=none:=hA.elim False.elim id
     exact h1 a xs H' hn (r1.same sm) (r1.apart_same hn sm) ha2 trivial (IsL.imm hb2 il) (.of_same sm)
    ·rw [if_neg hb2] at h1;exact h1.elim
   | _=>simp only [ef] at h1;exact h1.elim
 ·rw [if_neg him] at h1;exact h1.elim
end
structure qk2 (outer:Scope) (N:List Str) (scope:Scope) (N':List Str) (nt:Nat) (fr:List Nat):Prop where
 kind:scope.kind = .function
 nocell:∀ y∈scope.names,y.2 ≠ .cell
 names:∀ y∈scope.names,y.2 = .local->scope.names.lookup y.1=some .local
 frees:∀ y∈scope.names,y.2 = .free->outer.names.lookup y.1=some .cell
 len:N'.length=nt+fr.length
 slots:∀ p∈fr.zipIdx,N'[nt+p.2]? = N[p.1]? /\ ((N[p.1]?).bind fun x=>scope.names.lookup x)=some .free
theorem qk2.ok {X:Cx} {outer:Scope} {N:List Str} {scope:Scope} {N':List Str} {nt:Nat} {fr:List Nat} (S:qk2 outer N scope N' nt fr) (h1:X.env.scope=outer) (h2:X.N=N):yh X scope N' nt fr:=by
 subst h1 h2
 refine ⟨S.kind,S.nocell,S.names,S.frees,S.len,fun i j h => ?_⟩
 have hm:(j,i)∈fr.zipIdx:=by
  rw [List.mem_iff_getElem?]
  refine ⟨i,?_⟩
  rw [List.getElem?_zipIdx,h]
  simp
 obtain ⟨h3,h4⟩:=S.slots (j,i) hm
 cases e:X.N[j]? with
 | none =>
  have h4':((X.N[j]?).bind fun x=>scope.names.lookup x)=some .free:=h4
  rw [e] at h4';cases h4'
 | some x =>
  have h4':((X.N[j]?).bind fun x=>scope.names.lookup x)=some .free:=h4
  rw [e] at h4'
  exact ⟨x,by
    have h3':N'[nt+i]? = X.N[j]? := h3
    rw [h3',e],rfl,h4'⟩
structure qz (P:Program) (w:World) (K:PySem.W.Frag) (mg:Str->Option Value) (base:Heap) (k:Nat) (x:Str) (ps:List Str) (sp:Sp):Prop where
 ex:∃ f fd,qcc P w K mg base CX0 k f fd ps sp/\mg x=some (.ref f)/\PySem.W.keepIn K (.ref f)=true/\vQ K fd ps []
theorem uH:bootBuiltins "len"=some (.builtin "len"):=by decide +kernel
theorem qjO:bootBuiltins "abs"=some (.builtin "abs"):=by decide +kernel
theorem qcj:bootBuiltins "max"=some (.builtin "max"):=by decide +kernel
theorem qm0:bootBuiltins "min"=some (.builtin "min"):=by decide +kernel
theorem qfo:bootBuiltins "all"=some (.builtin "all"):=by decide +kernel
theorem qm1:bootBuiltins "any"=some (.builtin "any"):=by decide +kernel
theorem qfp:bootBuiltins "sum"=some (.builtin "sum"):=by decide +kernel
theorem qhd:bootBuiltins "divmod"=some (.builtin "divmod"):=by decide +kernel
theorem qjP:bootBuiltins "int"=some (.type "int"):=by decide +kernel
theorem qk3:bootBuiltins "bool"=some (.type "bool"):=by decide +kernel
theorem uW:bootBuiltins "tuple"=some (.type "tuple"):=by decide +kernel
theorem zM:bootBuiltins "isinstance"=some (.builtin "isinstance"):=by decide +kernel
def yj:MS:=fun U => .ok (.nx U)
def qaI:MS:=fun _ => .bad
theorem qJ {X:Cx} {c:Fc}:DSs X c [] yj:=qkC
theorem yU {X:Cx} {c:Fc} {st:Stmt}:DS X c st qaI:=qix
theorem qt {X:Cx}:IxR X (fun x y H Q=>qoo X.K x y H Q\/qop X.K x y H Q):=qgO.or qmu
theorem qk4 {c:Fc} {nt:Nat} {fr:List Nat} {i j:Nat} (h1:j∈c.O) (h2:nt<=i) (h3:fr[i-nt]? = some j) (h4:∀ p∈fr.zipIdx,nt+p.2≠i->p.1 ∉ c.O):qkL c nt fr (some (i,j)) :=
 ⟨h1,h2,h3,fun k j' h hk=>h4 (j',k) (by rw [List.mem_iff_getElem?];exact ⟨k,by rw [List.getElem?_zipIdx,h];simp⟩) hk⟩
def eqB (x y:D):Option D:=match sc2 x y with
 | some b=>some (.bl b)
 | none=>eqA x y
def neB (x y:D):Option D:=match sc2 x y with
 | some b=>some (.bl (!b))
 | none=>neA x y
theorem vU {X:Cx} {k:Nat} (hr:uD k X.A):OpR X (compareOp .Eq) (fun x y H Q=>rEq x y H Q\/qjM X.K false x y H Q):=OpR.or qoi (qmS hr)
theorem qaJ {X:Cx} {k:Nat} (hr:uD k X.A):OpR X (compareOp .NotEq) (fun x y H Q=>rNe x y H Q\/qjM X.K true x y H Q):=OpR.or qoj (qmT hr)
theorem ut {K:Fr0}:OpS K eqB (fun x y H Q=>rEq x y H Q\/qjM K false x y H Q):=by
 intro A H x y d v u Q hn ix iy e k
 unfold eqB at e
 cases e1:sc2 x y with
 | some b=>simp only [e1] at e;exact .inl (qkD A H x y d v u Q hn ix iy (by unfold eqS;rw [e1];exact e) k)
 | none=>simp only [e1] at e;exact .inr (qkR A H x y d v u Q hn ix iy e k)
theorem vh {K:Fr0}:OpS K neB (fun x y H Q=>rNe x y H Q\/qjM K true x y H Q):=by
 intro A H x y d v u Q hn ix iy e k
 unfold neB at e
 cases e1:sc2 x y with
 | some b=>simp only [e1] at e;exact .inl (qkE A H x y d v u Q hn ix iy (by unfold neS;rw [e1];exact e) k)
 | none=>simp only [e1] at e;exact .inr (qkS A H x y d v u Q hn ix iy e k)
end L2.Sk
namespace L2.Sk
section
variable {α β:Type} {U:Env} {f g k:M D} {t u:M Bool} {l m:M (List D)} {p q r:MS}
theorem qbY (a:α):ret a U = .ok (a,U):=rfl
theorem qhe (o:Option α):lift o U=match o with | some a => .ok (a,U) | none => .bad:=by cases o<;>rfl
theorem qot {f:M α} {k:α->M β}:bnd f k U=match f U with | .ok (a,U')=>k a U' | .exc x U' => .exc x U' | .bad => .bad:=rfl
theorem qou (i:Nat):dv i U=match U[i]? with | some (some d) => .ok (d,U) | _ => .bad:=rfl
theorem zD:qa f l U=match f U with | .ok (d,U1)=>(match l U1 with | .ok (ds,U2) => .ok (d::ds,U2) | .exc x U' => .exc x U' | .bad => .bad) | .exc x U' => .exc x U' | .bad => .bad:=by
 simp only [qa,bnd,sbnd]
 cases f U with
 | ok z =>
  obtain ⟨z1,U1⟩:=z
  simp only [ret]
  cases l U1 with
  | ok z=>obtain ⟨z2,U2⟩:=z;rfl
  | exc x U'=>rfl
  | bad=>rfl
 | exc x U'=>rfl
 | bad=>rfl
theorem qd1:vS l U=match l U with | .ok (ds,U1)=>(if qT ds.length then .ok (.tup ds,U1) else .bad) | .exc x U' => .exc x U' | .bad => .bad:=by
 simp only [vS,bnd,sbnd]
 cases l U with
 | ok z =>
  obtain ⟨z1,U1⟩:=z
  cases h:qT z1.length<;>simp [h,lift,ret]
 | exc x U'=>rfl
 | bad=>rfl
theorem qhf:qdN l U=match l U with | .ok (ds,U1)=>(if qT ds.length then .ok (.lst ds,U1) else .bad) | .exc x U' => .exc x U' | .bad => .bad:=by
 simp only [qdN,bnd,sbnd]
 cases l U with
 | ok z =>
  obtain ⟨z1,U1⟩:=z
  cases h:qT z1.length<;>simp [h,lift,ret]
 | exc x U'=>rfl
 | bad=>rfl
theorem qjQ:qiJ l U=match l U with | .ok (ds,U1)=>(if immL ds&&qT ds.length then .ok (ds,U1) else .bad) | .exc x U' => .exc x U' | .bad => .bad:=by
 simp only [qiJ,bnd,sbnd]
 cases l U with
 | ok z =>
  obtain ⟨z1,U1⟩:=z
  cases h:(immL z1&&qT z1.length)<;>simp [h,lift,ret]
 | exc x U'=>rfl
 | bad=>rfl
theorem qnX (F:D->D->Option D):d2 F f g U=match f U with | .ok (x,U1)=>(match g U1 with | .ok (y,U2)=>(match F x y with | some d => .ok (d,U2) | none => .bad) | .exc x U' => .exc x U' | .bad => .bad) | .exc x U' => .exc x U' | .bad => .bad:=by
 simp only [d2,bnd,sbnd]
 cases f U with
 | ok z =>
  obtain ⟨z1,U1⟩:=z
  dsimp only <;>
  cases g U1 with
  | ok z=>obtain ⟨z2,U2⟩:=z;(dsimp only;cases F z1 z2<;>rfl)
  | exc x U'=>rfl
  | bad=>rfl
 | exc x U'=>rfl
 | bad=>rfl
theorem qov (F:D->Option D):d1 F f U=match f U with | .ok (x,U1)=>(match F x with | some d => .ok (d,U1) | none => .bad) | .exc x U' => .exc x U' | .bad => .bad:=by
 simp only [d1,bnd,sbnd]
 cases f U with
 | ok z =>
  obtain ⟨z1,U1⟩:=z
  (dsimp only;cases F z1<;>rfl)
 | exc x U'=>rfl
 | bad=>rfl
theorem qaj (F:List D->Option D):qQ F l U=match l U with | .ok (xs,U1)=>(match F xs with | some d => .ok (d,U1) | none => .bad) | .exc x U' => .exc x U' | .bad => .bad:=by
 simp only [qQ,bnd,sbnd]
 cases l U with
 | ok z =>
  obtain ⟨z1,U1⟩:=z
  (dsimp only;cases F z1<;>rfl)
 | exc x U'=>rfl
 | bad=>rfl
theorem yd (F:List D->R D):qe F l U=match l U with | .ok (xs,U1)=>(match F xs with | .ok d => .ok (d,U1) | _ => .bad) | .exc x U' => .exc x U' | .bad => .bad:=by
 simp only [qe,bnd,sbnd]
 cases l U with
 | ok z =>
  obtain ⟨z1,U1⟩:=z
  cases F z1<;>rfl
 | exc x U'=>rfl
 | bad=>rfl
theorem qjR (T:String):qid T f U=match f U with | .ok (d,U1) => .ok (.bl (qeG (tyD d) T),U1) | .exc x U' => .exc x U' | .bad => .bad:=by
 simp only [qid,bnd,sbnd]
 cases f U with
 | ok z =>
  obtain ⟨z1,U1⟩:=z
  rfl
 | exc x U'=>rfl
 | bad=>rfl
theorem qd2:tst f U=match f U with | .ok (d,U1)=>(match asB d with | some b => .ok (b,U1) | none => .bad) | .exc x U' => .exc x U' | .bad => .bad:=by
 simp only [tst,bnd,sbnd]
 cases f U with
 | ok z =>
  obtain ⟨z1,U1⟩:=z
  (dsimp only;cases asB z1<;>rfl)
 | exc x U'=>rfl
 | bad=>rfl
theorem yk (b:Bool):asB (.bl b)=some b:=rfl
theorem qbz:qaE t U=match t U with | .ok (b,U1) => .ok (!b,U1) | .exc x U' => .exc x U' | .bad => .bad:=by
 simp only [qaE,bnd,sbnd]
 cases t U with
 | ok z =>
  obtain ⟨z1,U1⟩:=z
  rfl
 | exc x U'=>rfl
 | bad=>rfl
theorem qfq:qjB t u U=match t U with | .ok (b,U1)=>(bif b then u U1 else .ok (false,U1)) | .exc x U' => .exc x U' | .bad => .bad:=by
 simp only [qjB,bnd,sbnd]
 cases t U with
 | ok z =>
  obtain ⟨z1,U1⟩:=z
  cases z1<;>rfl
 | exc x U'=>rfl
 | bad=>rfl
theorem qga:tor t u U=match t U with | .ok (b,U1)=>(bif b then .ok (true,U1) else u U1) | .exc x U' => .exc x U' | .bad => .bad:=by
 simp only [tor,bnd,sbnd]
 cases t U with
 | ok z =>
  obtain ⟨z1,U1⟩:=z
  cases z1<;>rfl
 | exc x U'=>rfl
 | bad=>rfl
theorem qhg:qiw f g U=match f U with | .ok (d,U1)=>(match asB d with | some b=>(bif b then g U1 else .ok (.bl false,U1)) | none => .bad) | .exc x U' => .exc x U' | .bad => .bad:=by
 simp only [qiw,bnd,sbnd]
 cases f U with
 | ok z =>
  obtain ⟨z1,U1⟩:=z
  simp only [qhe]
  cases asB z1 with
  | none=>rfl
  | some b=>cases b<;>rfl
 | exc x U'=>rfl
 | bad=>rfl
theorem qm2:dor f g U=match f U with | .ok (d,U1)=>(match asB d with | some b=>(bif b then .ok (.bl true,U1) else g U1) | none => .bad) | .exc x U' => .exc x U' | .bad => .bad:=by
 simp only [dor,bnd,sbnd]
 cases f U with
 | ok z =>
  obtain ⟨z1,U1⟩:=z
  simp only [qhe]
  cases asB z1 with
  | none=>rfl
  | some b=>cases b<;>rfl
 | exc x U'=>rfl
 | bad=>rfl
theorem qjS:qnU f U=match f U with | .ok (d,U1)=>(match asB d with | some b => .ok (.bl (!b),U1) | none => .bad) | .exc x U' => .exc x U' | .bad => .bad:=by
 simp only [qnU,bnd,sbnd]
 cases f U with
 | ok z =>
  obtain ⟨z1,U1⟩:=z
  simp only [qhe]
  cases asB z1 with
  | none=>rfl
  | some b=>cases b<;>rfl
 | exc x U'=>rfl
 | bad=>rfl
theorem qk5:dif t f g U=match t U with | .ok (b,U1)=>(bif b then f U1 else g U1) | .exc x U' => .exc x U' | .bad => .bad:=by
 simp only [dif,bnd,sbnd]
 cases t U with
 | ok z =>
  obtain ⟨z1,U1⟩:=z
  cases z1<;>rfl
 | exc x U'=>rfl
 | bad=>rfl
theorem qcN:sif t p q U=match t U with | .ok (b,U1)=>(bif b then p U1 else q U1) | .exc x U' => .exc x U' | .bad => .bad:=by
 simp only [sif,bnd,sbnd]
 cases t U with
 | ok z =>
  obtain ⟨z1,U1⟩:=z
  cases z1<;>rfl
 | exc x U'=>rfl
 | bad=>rfl
theorem qjT:qC p q U=match p U with | .ok (.nx U')=>q U' | z=>z:=by
 unfold qC
 cases p U with
 | ok z=>cases z<;>rfl
 | exc x U'=>rfl
 | bad=>rfl
theorem uI:zn f U=match f U with | .ok (d,U1) => .ok (.rt d U1) | .exc x U' => .exc x U' | .bad => .bad:=by
 simp only [zn,bnd,sbnd]
 cases f U with
 | ok z =>
  obtain ⟨z1,U1⟩:=z
  rfl
 | exc x U'=>rfl
 | bad=>rfl
theorem vi (i:Nat):z7 i f U=match f U with | .ok (d,U1) => .ok (.nx (U1.set i (some d))) | .exc x U' => .exc x U' | .bad => .bad:=by
 simp only [z7,bnd,sbnd]
 cases f U with
 | ok z =>
  obtain ⟨z1,U1⟩:=z
  rfl
 | exc x U'=>rfl
 | bad=>rfl
theorem qhh (i:Nat):wO i l U=match l U with | .ok (ds,U1) => .ok (.nx (U1.set i (some (.lst ds)))) | .exc x U' => .exc x U' | .bad => .bad:=by
 simp only [wO,bnd,sbnd]
 cases l U with
 | ok z =>
  obtain ⟨z1,U1⟩:=z
  rfl
 | exc x U'=>rfl
 | bad=>rfl
theorem uu:zj f U=match f U with | .ok (_,U1) => .ok (.nx U1) | .exc x U' => .exc x U' | .bad => .bad:=by
 simp only [zj,bnd,sbnd]
 cases f U with
 | ok z =>
  obtain ⟨z1,U1⟩:=z
  rfl
 | exc x U'=>rfl
 | bad=>rfl
theorem qck:yj U = .ok (.nx U):=rfl
theorem qd3 (i j:Nat):qci i j l U=match l U with | .ok ([d,e],U1) => .ok (.nx ((U1.set i (some d)).set j (some e))) | .ok _ => .bad | .exc x U' => .exc x U' | .bad => .bad:=by
 simp only [qci,bnd,sbnd]
 cases l U with
 | ok z =>
  obtain ⟨z1,U1⟩:=z
  match z1 with
  | []=>rfl
  | [_]=>rfl
  | [_,_]=>rfl
  | _::_::_::_=>rfl
 | exc x U'=>rfl
 | bad=>rfl
theorem qfr (G:D->Env->Option Env):qff f G U=match f U with | .ok (d,U1)=>(match G d U1 with | some U2 => .ok (.nx U2) | none => .bad) | .exc x U' => .exc x U' | .bad => .bad:=by
 simp only [qff,bnd,sbnd]
 cases f U with
 | ok z =>
  obtain ⟨z1,U1⟩:=z
  dsimp only <;>
  cases G z1 U1<;>rfl
 | exc x U'=>rfl
 | bad=>rfl
theorem vj (G:D->Env->Option Env) (b:MS):qfl l G b U=match l U with | .ok (ds,U1)=>v6 G b ds U1 | .exc x U' => .exc x U' | .bad => .bad:=by
 simp only [qfl,bnd,sbnd]
 cases l U with
 | ok z =>
  obtain ⟨z1,U1⟩:=z
  rfl
 | exc x U'=>rfl
 | bad=>rfl
theorem qd4:uG f U=match f U with | .ok (d,U1)=>(match qnV d with | some ds => .ok (ds,U1) | none => .bad) | .exc x U' => .exc x U' | .bad => .bad:=by
 simp only [uG,bnd,sbnd]
 cases f U with
 | ok z =>
  obtain ⟨z1,U1⟩:=z
  (dsimp only;cases qnV z1<;>rfl)
 | exc x U'=>rfl
 | bad=>rfl
theorem qhi:vR l U=match l U with | .ok (d,U1)=>(match qjJ d with | some ds => .ok (ds,U1) | none => .bad) | .exc x U' => .exc x U' | .bad => .bad:=by
 simp only [vR,bnd,sbnd]
 cases l U with
 | ok z =>
  obtain ⟨z1,U1⟩:=z
  (dsimp only;cases qjJ z1<;>rfl)
 | exc x U'=>rfl
 | bad=>rfl
theorem qbA:qf8 l U=match l U with | .ok (d,U1)=>(match qiO d with | some ds => .ok (ds,U1) | none => .bad) | .exc x U' => .exc x U' | .bad => .bad:=by
 simp only [qf8,bnd,sbnd]
 cases l U with
 | ok z =>
  obtain ⟨z1,U1⟩:=z
  (dsimp only;cases qiO z1<;>rfl)
 | exc x U'=>rfl
 | bad=>rfl
theorem qcO {nt:Nat} {fr:List Nat} {fo:Option (Nat×Nat)} {G:D->Env->Option Env} {e:M D}:z5 nt fr fo l G t e U=match l U with
  | .ok (ds,U1)=>(match zv G t e ds [] (yi nt fr U1) with | .ok (ys,Ue) => .ok (.lst ys,qlS fo Ue U1) | _ => .bad) | .exc x U' => .exc x U' | .bad => .bad:=by
 simp only [z5,bnd,sbnd]
 cases l U with
 | ok z =>
  obtain ⟨z1,U1⟩:=z
  dsimp only <;>
  cases zv G t e z1 [] (yi nt fr U1) with
  | ok z=>obtain ⟨z2,U2⟩:=z;rfl
  | exc x U'=>rfl
  | bad=>rfl
 | exc x U'=>rfl
 | bad=>rfl
theorem qbB (F:List D->List D->R (D×List D)) (i:Nat):qr F i l U=match zB i U with
  | none => .bad
  | some _=>(match l U with
   | .ok (ds,U1)=>(match zB i U1 with
    | none => .bad
    | some bs=>(match F bs ds with | .ok (d,bs') => .ok (d,U1.set i (some (.lst bs'))) | _ => .bad))
   | .exc x U' => .exc x U' | .bad => .bad):=by
 simp only [qr,bnd]
 cases zB i U with
 | none=>rfl
 | some _ =>
  dsimp only <;>
  cases l U with
  | ok z =>
   obtain ⟨z1,U1⟩:=z
   dsimp only <;>
   cases zB i U1 with
   | none=>rfl
   | some bs =>
    dsimp only <;>
    cases F bs z1 with
    | ok z=>obtain ⟨z2,z3⟩:=z;rfl
    | exc x U'=>rfl
    | bad=>rfl
  | exc x U'=>rfl
  | bad=>rfl
theorem qhj (F:List D->R D):qd0 F l U=match l U with
  | .ok (ds,U1)=>(if immFs ds then (match F ds with | .ok (.lst bs)=>(if immL bs then .ok (bs,U1) else .bad) | _ => .bad) else .bad) | .exc x U' => .exc x U' | .bad => .bad:=by
 simp only [qd0,bnd,sbnd]
 cases l U with
 | ok z =>
  obtain ⟨z1,U1⟩:=z
  dsimp only <;>
  cases immFs z1 with
  | false=>rfl
  | true =>
   simp only [if_true]
   cases F z1 with
   | ok z=>cases z<;>rfl
   | exc x U'=>rfl
   | bad=>rfl
 | exc x U'=>rfl
 | bad=>rfl
theorem qhk (i:Nat):qg9 i f U=match zB i U with
  | none => .bad
  | some _=>(match f U with
   | .ok (k,U1)=>(match k,zB i U1 with
    | .int n,some ds=>(match atI ds n with | some d => .ok (d,U1) | none => .bad)
    | _,_ => .bad)
   | .exc x U' => .exc x U' | .bad => .bad):=by
 simp only [qg9,bnd]
 cases zB i U with
 | none=>rfl
 | some _ =>
  dsimp only <;>
  cases f U with
  | ok z =>
   obtain ⟨z1,U1⟩:=z
   dsimp only <;>
   cases z1<;>cases zB i U1<;>try rfl
  | exc x U'=>rfl
  | bad=>rfl
theorem qhl (i:Nat):qiH i k f U=match f U with
  | .ok (d,U1)=>(match zB i U1 with
   | none => .bad
   | some _=>(match k U1 with
    | .ok (j,U2)=>(match j,zB i U2 with
     | .int n,some ds=>(match ixN ds.length n with
      | some q=>if imm d then .ok (.nx (U2.set i (some (.lst (ds.set q d))))) else .bad
      | none => .bad)
     | _,_ => .bad)
    | .exc x U' => .exc x U' | .bad => .bad))
  | .exc x U' => .exc x U' | .bad => .bad:=by
 simp only [qiH,bnd,sbnd]
 cases f U with
 | ok z =>
  obtain ⟨z1,U1⟩:=z
  dsimp only <;>
  cases zB i U1 with
  | none=>rfl
  | some _ =>
   dsimp only <;>
   cases k U1 with
   | ok z =>
    obtain ⟨z2,U2⟩:=z
    dsimp only <;>
    cases z2<;>cases zB i U2<;>try rfl
   | exc x U'=>rfl
   | bad=>rfl
 | exc x U'=>rfl
 | bad=>rfl
theorem qhm (i:Nat):qmP i U=match zB i U with | some ds => .ok (.int ds.length,U) | none => .bad:=by
 unfold qmP
 cases zB i U<;>rfl
theorem qhn (i:Nat):qg8 i U=match zB i U with | some ds => .ok (.tup ds,U) | none => .bad:=by
 unfold qg8
 cases zB i U<;>rfl
theorem qjU (i:Nat):qo9 i f U=match zB i U with
  | none => .bad
  | some _=>(match f U with
   | .ok (y,U1)=>(match zB i U1 with
    | none => .bad
    | some ds=>(match neA (.lst ds) y with | some d => .ok (d,U1) | none => .bad))
   | .exc x U' => .exc x U' | .bad => .bad):=by
 simp only [qo9,bnd]
 cases zB i U with
 | none=>rfl
 | some _ =>
  dsimp only <;>
  cases f U with
  | ok z =>
   obtain ⟨z1,U1⟩:=z
   dsimp only <;>
   cases zB i U1 with
   | none=>rfl
   | some ds=>(dsimp only;cases neA (.lst ds) z1<;>rfl)
  | exc x U'=>rfl
  | bad=>rfl
theorem qbC (i:Nat):yu i f U=match zB i U with
  | none => .bad
  | some _=>(match f U with
   | .ok (d,U1)=>(match zB i U1 with
    | some ds=>if imm d&&qT (ds.length+1) then .ok (.non,U1.set i (some (.lst (ds++[d])))) else .bad
    | none => .bad)
   | .exc x U' => .exc x U' | .bad => .bad):=by
 simp only [yu,bnd]
 cases zB i U with
 | none=>rfl
 | some _ =>
  dsimp only <;>
  cases f U with
  | ok z =>
   obtain ⟨z1,U1⟩:=z
   dsimp only <;>
   cases zB i U1<;>rfl
  | exc x U'=>rfl
  | bad=>rfl
theorem qm3 {g k:M (Option Int)}:dsl f g k U=match f U with
  | .ok (d,U1)=>(match g U1 with
   | .ok (lo,U2)=>(match k U2 with
    | .ok (hi,U3)=>(match slD d lo hi with | some x => .ok (x,U3) | none => .bad)
    | .exc x U' => .exc x U' | .bad => .bad)
   | .exc x U' => .exc x U' | .bad => .bad)
  | .exc x U' => .exc x U' | .bad => .bad:=by
 simp only [dsl,bnd,sbnd]
 cases f U with
 | ok z =>
  obtain ⟨z1,U1⟩:=z
  dsimp only <;>
  cases g U1 with
  | ok z =>
   obtain ⟨z2,U2⟩:=z
   dsimp only <;>
   cases k U2 with
   | ok z=>obtain ⟨z3,U3⟩:=z;(dsimp only;cases slD z1 z2 z3<;>rfl)
   | exc x U'=>rfl
   | bad=>rfl
  | exc x U'=>rfl
  | bad=>rfl
 | exc x U'=>rfl
 | bad=>rfl
theorem qcP:qbX f U=match f U with | .ok (.int i,U1) => .ok (some i,U1) | .ok _ => .bad | .exc x U' => .exc x U' | .bad => .bad:=by
 simp only [qbX,bnd,sbnd]
 cases f U with
 | ok z =>
  obtain ⟨z1,U1⟩:=z
  cases z1<;>rfl
 | exc x U'=>rfl
 | bad=>rfl
end
theorem jW {n:Nat} (h:n<=1000000):qT n=true:=by
 unfold qT
 exact decide_eq_true (Nat.le_trans h (by rw [PySem.sizeLine_eq];decide))
theorem qk6 {n p:Nat} {body:MS} {ds:List D} {d:D} {U:Env} (h:ds.length=p) (e:body (uU n ds) = .ok (.rt d U)):dfn n p body ds = .ok d:=by
 unfold dfn;rw [if_pos h,e]
theorem qjV {n p:Nat} {body:MS} {bs ds bs':List D} {d:D} {U:Env} (h:ds.length+1=p) (e:body (uU n (.lst bs::ds)) = .ok (.rt d U)) (g:zB 0 U=some bs'):qcJ n p body bs ds = .ok (d,bs'):=by
 unfold qcJ;rw [if_pos h,e];simp only [g]
end L2.Sk
namespace L2.Sk
open PySem PySem.Spec PyProof.Rows
section
variable {prog:Program} {w:World} {A:Around} {E:Value->Shared->Prop} {s:Shared}
end
section
variable {X:Cx} {c:Fc} {a b e:Expr} {pos:Pos} {es:List Expr} {kk:Nat} {tp:Pos}
def qk7 (k:Nat):List D->List D
 | []=>[]
 | x::xs => .tup [.int (k:Nat),x]::qk7 (k+1) xs
def qk8:List D->Option (List D)
 | [.tup xs]=>some (qk7 0 xs)
 | _=>none
def qk9 (f:M (List D)):M (List D):=bnd f fun ds=>lift (qk8 ds)
end
def vD:D->V
 | .bl b => .bl b
 | .int i => .int i
 | .str x => .str x
 | _ => .non
def flD:D->Bool
 | .non=>true
 | .bl _=>true
 | .int _=>true
 | .str _=>true
 | _=>false
def sqD:D->Option (List D)
 | .tup ds=>some ds
 | .lst ds=>some ds
 | _=>none
def inD (x y:D):Option D:=match sqD y with
 | some ds=>if flD x&&ds.all flD then some (.bl (ds.any fun d=>eqV (vD d) (vD x))) else none
 | none=>none
theorem qjW {K:Fr0} {A:Addr->Prop} {H:Hp} {d:D} {v:V} (h:Is K A H d v) (f:flD d=true):v=vD d/\qaQ v=true:=by
 cases d<;>first | (cases h;exact ⟨rfl,rfl⟩) | cases f
theorem qeK {K:Fr0} {A:Addr->Prop} {H:Hp}:∀ {ds:List D} {vs:List V},IsL K A H ds vs->ds.all flD=true->vs=ds.map vD/\vs.all qaQ=true
 | [],_,h,_=>by cases h;exact ⟨rfl,rfl⟩
 | d::ds,_,⟨x,ys,hx,h1,h2⟩,f=>by
  rw [List.all_cons,Bool.and_eq_true] at f
  obtain ⟨e1,e2⟩:=qjW h1 f.1
  obtain ⟨e3,e4⟩:=qeK h2 f.2
  subst hx
  rw [mC_,<- e1,<- e3,List.all_cons,e2,e4]
  exact ⟨rfl,rfl⟩
theorem qm4 {K:Fr0} {A:Addr->Prop} {H:Hp} {x y:D} {ds:List D} {v u:V} (ix:Is K A H x v) (iy:Is K A H y u) (e:sqD y=some ds) (f:(flD x&&ds.all flD)=true) :
  ∃ p xs,u = .ref p/\(SqL K H p xs\/SqT K H p xs)/\qaQ v=true/\xs.all qaQ=true/\inV v xs=ds.any fun d=>eqV (vD d) (vD x):=by
 rw [Bool.and_eq_true] at f
 obtain ⟨e1,e2⟩:=qjW ix f.1
 cases y<;>simp only [sqD] at e<;>try (cases e;done)
 ·cases e
  obtain ⟨a,zs,rfl,ta,il⟩:=iy
  obtain ⟨e3,e4⟩:=qeK il f.2
  exact ⟨a,zs,rfl,.inr ta.sq,e2,e4,by rw [e3,e1];unfold inV;rw [List.any_map];rfl⟩
 ·cases e
  obtain ⟨a,zs,rfl,_,ta,il⟩:=iy
  obtain ⟨e3,e4⟩:=qeK il f.2
  exact ⟨a,zs,rfl,.inl (SqL.of ta),e2,e4,by rw [e3,e1];unfold inV;rw [List.any_map];rfl⟩
theorem qm5 {K:Fr0}:OpS K inD (rIn K false):=by
 intro A H x y d v u Q hn ix iy e k
 unfold inD at e
 split at e
 ·rename_i ds es
  obtain ⟨e1,e2⟩:=jo e
  subst e2
  obtain ⟨p,xs,h1,h2,h3,h4,h5⟩:=qm4 ix iy es e1
  exact ⟨p,xs,h1,h2,h3,h4,by rw [<- h5] at k;exact k _ H (ji.refl H) rfl⟩
 ·cases e
theorem qho {l:M (List D)} {U:Env}:qk9 l U=match l U with | .ok (d,U1)=>(match qk8 d with | some ds => .ok (ds,U1) | none => .bad) | .exc x U' => .exc x U' | .bad => .bad:=by
 simp only [qk9,bnd]
 cases l U with
 | ok z=>obtain ⟨z1,U1⟩:=z;(dsimp only;cases qk8 z1<;>rfl)
 | exc x U'=>rfl
 | bad=>rfl
section
variable {X:Cx} {tg iter elt:Expr} {ifs:List Expr} {scope:Scope} {pos:Pos} {wi:TI} {N':List Str} {nt:Nat} {fr:List Nat}
theorem qla {i:Nat} {x:Str} {pos' spos:Pos} (hN:X.N.Nodup) (hix:X.N[i]? = some x) (hx:Loc X.env.scope x) (hfx:X.fn x=true\/X.env.scope.names.lookup x=some .local) (hc:X.calm=true) (hi:PI X tg iter wi) (S:yh X scope N' nt fr)
  (hsw:swapsWith (.ListComp elt [⟨tg,iter,ifs,0⟩] scope pos) (some (.Name x pos')) spos.line X.env=pure true)
  (hs:∀ x,foldedSetIterable iter X.env x=pure x:=by intro _;rfl):PS X (.Assign [.Name x pos'] (.ListComp elt [⟨tg,iter,ifs,0⟩] scope pos) spos) (fun D Z H=>qkJ X tg ifs elt scope N' wi nt fr Z H fun v H'=>D.nx (Z.set i (some v)) H'):=by
 intro pins s Z H D I hw
 obtain ⟨cl,hcl,cl1,cl2⟩:=wM (env:=X.env) (scope:=scope) (fun y hy hf=>I.ok.has y.1 (.inl (S.frees y hy hf)))
 rw [exec_Assign_Name_used _ _ _ _ hsw]
 refine wpAny_bind (wpAny_standAt (wpAny_bind ?_))
 show wpAny (model X.prog X.w) X.A (comprehension (.ListComp elt [⟨tg,iter,ifs,0⟩] scope pos) scope X.env _ (newList []) false (eval iter X.env) (some (assign (.Name x pos') X.env)) >>= fun _=>pure ()) _ _ s
 refine wpAny_bind (thn (Q:=fun _ s'=>SP X pins D .next s') ?_ fun _ s' q=>wpAny_pure (wpAny_pure q))
 refine wpAny_comprehension_free (use:=some (assign (.Name x pos') X.env)) rfl hs hcl S.kind S.names (thn (hi pins s Z H _ I hw) fun v s1 h1=>thn h1 fun itv s2 h2 => ?_)
 obtain ⟨it,fp,tn,J,H2,e,I2,T,st2,f2,hR⟩:=h2
 subst e
 have hacc:H2 s2.heap.objs.size=none:=I2.hok.fresh (Nat.le_refl _)
 refine wpAny_newObj_type (wpAny_newFunctionEnv S.nocell (by intro y hy;simp at hy) (fun hV hns1 hsb1 => ?_) S.kind)
 dsimp only at hns1 hsb1 |-
 have I3:Inv X pins Z (upd H2 s2.heap.objs.size (.lst [])) { s2 with heap:=s2.heap.push { cls := .type "list",dict:=none,data := .seq ([]:List Value).toArray } } :=
  I2.lnew (t':=s2.toks) (its:=[]) .nil (Nat.zero_le _)
 generalize hs3:({ s2 with heap:=s2.heap.push { cls := .type "list",dict:=none,data := .seq ([]:List Value).toArray } }:Shared)=s3 at I3
 have hh3:s2.heap.push { cls := .type "list",dict:=none,data := .seq ([]:List Value).toArray }=s3.heap:=by rw [<- hs3]
 rw [hh3] at hns1 hsb1
 have old:∀ b o,s3.heap.get? b=some o->hV.get? b=some o:=fun b o q=>hsb1.extBut b o (Nat.ne_of_lt (Heap.lt_size q)) (Heap.get?_push_of_some _ q)
 have objs2:∀ b∈fp,∃ o,s2.heap.get? b=some o:=fun b hb=>by
  obtain ⟨o,q,_⟩:=T.obj 0 _ st2 b hb
  exact ⟨o,q⟩
 have keep23:∀ b o,s2.heap.get? b=some o->s3.heap.get? b=some o:=fun b o q=>by rw [<- hh3];exact Heap.get?_push_of_some _ q
 have fpne:∀ b∈fp,b≠s2.heap.objs.size:=fun b hb=>by
  obtain ⟨o,q⟩:=objs2 b hb
  exact Nat.ne_of_lt (Heap.lt_size q)
 have f3:∀ b∈fp,qey X pins (upd H2 s2.heap.objs.size (.lst [])) b:=fun b hb=>⟨by rw [qx (fpne b hb)];exact (f2 b hb).1,(f2 b hb).2⟩
 have J0:Inv (zU X scope N' fp cl s3.heap.objs.size s3 (upd H2 s2.heap.objs.size (.lst [])) (X.pn++pins)) [] (qM nt fr Z) (upd H2 s2.heap.objs.size (.lst [])) { s3 with heap:=hV,toks:=s3.toks } :=
  qcf S I3 f3 (fun b hb=>(objs2 b hb).imp fun o q=>keep23 b o q) cl1 cl2 ⟨_,hns1⟩ old
 obtain ⟨g,tt,te,hg,hf,he,W,⟨m0,w0⟩,turn⟩:=hR s2.heap.objs.size fp cl s3.heap.objs.size s3 (upd H2 s2.heap.objs.size (.lst [])) (X.pn++pins) hacc
 have T0:tn 0 hV:=T.keep 0 _ _ st2 fun b hb o q=>old b o (keep23 b o q)
 have s3e:∀ tk:Nat,({ s2 with heap:=hV,toks:=tk }:Shared)={ s3 with heap:=hV,toks:=tk }:=fun tk=>by rw [<- hs3]
 have loop:∀ tk:Nat,codeAny (model X.prog X.w) X.A (.compLoop (.ListComp elt [⟨tg,iter,ifs,0⟩] scope pos) 0 (.ref it) (.ref s2.heap.objs.size) (compEnvC scope cl s3.heap.objs.size X.env))
   (compPost (model X.prog X.w) X.A X.xe (some (assign (.Name x pos') X.env)) (fun _ s'=>SP X pins D .next s') (.ref s2.heap.objs.size) s3.heap.objs.size) { s3 with heap:=hV,toks:=tk }:=fun tk=>by
  have stat:∀ {H':Hp},(∀ b∈fp,H' b=none)->∀ b∈fp,qey (zU X scope N' fp cl s3.heap.objs.size s3 (upd H2 s2.heap.objs.size (.lst [])) (X.pn++pins)) [] H' b:=fun {H'} hn b hb=>by
   obtain ⟨o,q⟩:=objs2 b hb
   have hbC:b≠s3.heap.objs.size:=Nat.ne_of_lt (Heap.lt_size (keep23 b o q))
   refine ⟨hn b hb,hbC,fun z => ?_,.inl hb,fun x c hx=>(f2 b hb).2.2.2.2.1 x c (cl1 x c hx),fun p hp => ?_⟩
   ·rcases List.mem_cons.mp (I2.stkSub b z) with z | z
    ·exact (f2 b hb).2.1 z
    ·exact (f2 b hb).2.2.1 z
   ·have hp':p∈X.pn++pins:=by
     rcases mA_.mp (show p∈(X.pn++pins)++[] from hp) with z | z
     ·exact z
     ·cases z
    exact (f2 b hb).2.2.2.2.2 p hp'
  have fr0:∀ b∈fp,upd H2 s2.heap.objs.size (.lst []) b=none:=fun b hb=>(f3 b hb).1
  refine qbu (fun n s'=>∃ i Z' H',Inv (zU X scope N' fp cl s3.heap.objs.size s3 (upd H2 s2.heap.objs.size (.lst [])) (X.pn++pins)) [] Z' H' s'/\tn i s'.heap/\(∀ b∈fp,H' b=none)/\W i n Z' H') ?_ m0
   ⟨0,qM nt fr Z,_,J0.tok tk,T0,fr0,w0⟩
  rintro n s4 ⟨i,Z4,H4,J4,st4,fr4,w4⟩
  rcases turn i n Z4 H4 w4 with ⟨stop,qn⟩ | ⟨go,step⟩
  ·refine thn (T.done (zU X scope N' fp cl s3.heap.objs.size s3 (upd H2 s2.heap.objs.size (.lst [])) (X.pn++pins)) rfl rfl rfl hc i [] s4 Z4 H4 _ J4 (stat fr4) st4 stop) fun r s5 ⟨hr,J5⟩ => ?_
   subst hr
   obtain ⟨m5,n5,_⟩:=J5.loc
   have I5:Inv X pins Z H4 s5:=qfj I3 f3 J5 (Heap.SameBut.refl ..)
   have lC:X.env.locals≠s3.heap.objs.size:=Nat.ne_of_lt I3.lt
   have cC:∀ y c,X.env.cells.lookup y=some c->c≠s3.heap.objs.size:=fun y c hy=>by
    obtain ⟨v,o,ho,_⟩:=I3.cell y c hy
    exact Nat.ne_of_lt (Heap.lt_size ho)
   have pC:∀ p∈X.pn++pins,p.1≠s3.heap.objs.size:=fun p hp=>Nat.ne_of_lt (Heap.lt_size (I3.pin p hp).1)
   refine wpAny_assign_Name (qdy (v := .ref s2.heap.objs.size) I5 hN hix hx rfl (fun s'' I6 ⟨a,sb,ha⟩ => ?_) hfx)
   have aC:s3.heap.objs.size≠a:=by
    rcases ha with rfl | ha
    ·exact lC.symm
    ·exact (cC _ _ ha).symm
   exact ⟨m5,n5.sameBut sb aC,fun h' sb'=>⟨_,H4,I6.turned (t':=s''.toks) (fun b o hb q=>(sb'.2 b hb).trans q) J5.free lC.symm (.inr I3.sz) cC pC,qn⟩⟩
  ·refine thn (T.item (zU X scope N' fp cl s3.heap.objs.size s3 (upd H2 s2.heap.objs.size (.lst [])) (X.pn++pins)) rfl rfl rfl hc i [] s4 Z4 H4 _ J4 (stat fr4) st4 go) fun r s5 ⟨u,hr,h5⟩ => ?_
   subst hr
   refine thn h5 fun _ s6 ⟨x,H6,J6,r6,y6,st6,fr6⟩ => ?_
   have J6':=J6.pinned (stat fr6) (T.obj _ _ st6)
   have again:∀ {Z7:St} {H7:Hp} {s7:Shared},Inv (zU X scope N' fp cl s3.heap.objs.size s3 (upd H2 s2.heap.objs.size (.lst [])) (X.pn++pins)) ([]++qca fp s6.heap) Z7 H7 s7->(∃ m',m'<n/\W (i+1) m' Z7 H7) ->
     ∃ m,m<n/\∃ i Z' H',Inv (zU X scope N' fp cl s3.heap.objs.size s3 (upd H2 s2.heap.objs.size (.lst [])) (X.pn++pins)) [] Z' H' s7/\tn i s7.heap/\(∀ b∈fp,H' b=none)/\W i m Z' H':=fun {Z7 H7 s7} I7 hm=>by
    obtain ⟨m',hm,w7⟩:=hm
    refine ⟨m',hm,i+1,Z7,H7,I7.unpinned,T.keep _ _ _ st6 fun b hb o q=>(I7.pin (b,o) (mr_ _ (mr_ _ (yF hb q)))).1,fun b hb => ?_,w7⟩
    obtain ⟨o,q,d⟩:=T.obj _ _ st6 b hb
    exact (I7.pin (b,o) (mr_ _ (mr_ _ (yF hb q)))).2.1
   refine thn (hg _ s6 Z4 H6 x u _ J6' r6 (step x H6 y6)) fun _ s7 ⟨Z7,H7,J7,q7⟩ => ?_
   refine thn (hf _ s7 Z7 H7 _ J7 q7) fun ok s8 ⟨H8,J8,q8⟩ => ?_
   cases ok with
   | false =>
    rw [if_neg Bool.false_ne_true] at q8 |-
    exact again J8 q8
   | true =>
    rw [if_pos rfl] at q8 |-
    refine thn (he _ s8 Z7 H8 _ J8 q8) fun z s9 ⟨y,H9,J9,r9,ys,hys,hz,hm⟩ => ?_
    refine thn (qbg _ s9 Z7 H9 (.ref s2.heap.objs.size) [y] (.ref s2.heap.objs.size) [z] (fun _ H'=>H'=upd H9 s2.heap.objs.size (.lst (ys++[y]))) J9 rfl (.cons r9 .nil) ⟨_,ys,y,rfl,rfl,hys,hz,rfl⟩) fun _ s10 ⟨_,H10,J10,_,e10⟩ => ?_
    subst e10
    exact again J10 hm
 have jY:∀ tk:Nat,codeAny (model X.prog X.w) X.A (.compStart (.ListComp elt [⟨tg,iter,ifs,0⟩] scope pos) 0 (.ref it) (.ref s2.heap.objs.size) (compEnvC scope cl s3.heap.objs.size X.env))
   (compPost (model X.prog X.w) X.A X.xe (some (assign (.Name x pos') X.env)) (fun _ s'=>SP X pins D .next s') (.ref s2.heap.objs.size) s3.heap.objs.size) { s3 with heap:=hV,toks:=tk }:=fun tk =>
  codeAny_compStart_list (loop tk) (T.self X.A 0 _ _ _ T0 (loop tk))
 have fin:=jY (s2.toks+([]:List (Str×Value)).length)
 rw [<- s3e] at fin
 rw [<- hh3] at fin
 rw [hh3] at fin |-
 exact fin
end
section
variable {X:Cx} {c:Fc}
def DC (X:Cx) (c:Fc) (tg it elt:Expr) (ifs:List Expr) (scope:Scope) (N':List Str) (nt:Nat) (fr:List Nat) (f:M D):Prop:=∃ wi,PI X tg it wi/\∀ U Z H Q,Rep X.K c U Z H->Wp X.K c Z H Q (f U)->qkJ X tg ifs elt scope N' wi nt fr Z H Q
theorem qlb {it elt tg:Expr} {ifs:List Expr} {scope:Scope} {N':List Str} {nt:Nat} {fr:List Nat} {fo:Option (Nat×Nat)} {f:M (List D)} {g:D->Env->Option Env} {t:M Bool} {k:M D} (hc:X.calm=true) (hi:DI X c tg it f) (S:yh X scope N' nt fr)
  (hfo:qkL c nt fr fo)
  (hb:∀ fp cl C s₀ H₀ pn B0 H1 Io' acc S',DG (zU X scope N' fp cl C s₀ H₀ pn) (cin B0 H1 (foO fo) Io' acc S') tg g/\DF (zU X scope N' fp cl C s₀ H₀ pn) (cin B0 H1 (foO fo) Io' acc S') ifs t/\DE (zU X scope N' fp cl C s₀ H₀ pn) (cin B0 H1 (foO fo) Io' acc S') elt k)
  : DC X c tg it elt ifs scope N' nt fr (z5 nt fr fo f g t k):=by
 obtain ⟨wi,pi,wI⟩:=hi
 refine ⟨wi,pi,fun U Z H Q r h=>wI U Z H _ r (WpI.bnd h fun ds U1 J H1 r1 iok g1 h1 => ?_)⟩
 intro acc fp cl C s₀ H₀ pn hn
 obtain ⟨⟨tg',pg,wg⟩,⟨tt,pt,wt⟩,⟨te,pe,we⟩⟩:=hb fp cl C s₀ H₀ pn (Cn c Z) H1 (qdx Z fo) acc fun j=>(qM nt fr Z)[j]?
 refine ⟨tg',tt,te,pg,pt,pe,?_⟩
 cases ew:zv g t k ds [] (yi nt fr U1) with
 | exc x U'=>rw [ew] at h1;exact h1.elim
 | bad=>rw [ew] at h1;exact h1.elim
 | ok p =>
  rw [ew] at h1
  obtain ⟨ys,Ue⟩:=p
  have h1:∀ v H',Rep X.K c (qlS fo Ue U1) Z H'->Is X.K (Cn c Z) H' (.lst ys) v->Gr c.O Z H1 H'->Q v H':=h1
  have accO:∀ j∈foO fo,(qM nt fr Z)[j]? ≠ some (some (.ref acc)):=fun j hj e=>by
   have r0:=r1.entry (acc:=acc) hn hfo
   cases fo with
   | none=>cases hj
   | some p =>
    obtain ⟨i',j'⟩:=p
    have e2:j=i':=by simpa [foO] using hj
    subst e2
    obtain ⟨k2,j2,e1,e2,e3⟩:=yG e
    have hk2:k2=j-nt:=by omega
    subst hk2
    rw [hfo.2.2.1] at e2
    cases e2
    obtain ⟨a,us,e4,e5,_⟩:=r1.own j' hfo.1 _ e3
    cases e4;rw [hn] at e5;cases e5
  refine ⟨fun i m Z' H'=>m=ds.length-i/\i<=ds.length/\∃ U' zs xs,Rep X.K (cin (Cn c Z) H1 (foO fo) (qdx Z fo) acc fun j=>(qM nt fr Z)[j]?) U' Z' H'/\(∀ j∈foO fo,Z'[j]? = (qM nt fr Z)[j]?)/\H' acc=some (.lst xs)/\IsL X.K (Cn (cin (Cn c Z) H1 (foO fo) (qdx Z fo) acc fun j=>(qM nt fr Z)[j]?) Z') H' zs xs/\zv g t k (ds.drop i) zs U' = .ok (ys,Ue),
   ⟨ds.length,by simp,Nat.zero_le _,yi nt fr U1,[],[],r1.entry hn hfo,fun _ _=>rfl,qA,rfl,by simpa using ew⟩,?_⟩
  rintro i m Z' H' ⟨rfl,hi,U',zs,xs,r',so,ha,iz,w⟩
  obtain ⟨_,gr⟩:=r1.leave hn hfo (fun i j e=>so i (by rw [e];simp [foO])) r'
  have ex:Ext (CnT c Z H1) H1 H':=⟨gr.ext.tup,gr.ext.frz,fun b o hb hq=>gr.ext.at_ b o hb.1.2 hq⟩
  have accC:∀ τ:St,(∀ j∈foO fo,τ[j]? = (qM nt fr Z)[j]?)->Cl (foO fo) τ acc:=fun τ hτ j hj e=>accO j hj (by rw [<- hτ j hj];exact e)
  by_cases hlt:i<ds.length
  ·refine .inr ⟨iok.go H' i ds[i] ex (by simp [hlt]),fun x H'' y => ?_⟩
   obtain ⟨sm,ix⟩:=iok.yl H' i ds[i] x H'' ex (by simp [hlt]) y
   rw [qag hlt] at w
   unfold zv at w
   have ix2:Is X.K (Cn (cin (Cn c Z) H1 (foO fo) (qdx Z fo) acc fun j=>(qM nt fr Z)[j]?) Z') H'' ds[i] x:=Is.ext Ext.refl (fun a ha _=>⟨⟨ha.1,fun e=>by
    have:=ha.2
    rw [e,hn] at this;cases this⟩,fun j hj e=>by
     rw [so j hj] at e
     cases fo with
     | none=>cases hj
     | some p =>
      obtain ⟨i',j'⟩:=p
      have e2:j=i':=by simpa [foO,cin] using hj
      subst e2
      obtain ⟨k2,j2,e1,e2,e3⟩:=yG e
      have hk2:k2=j-nt:=by omega
      subst hk2
      rw [hfo.2.2.1] at e2
      cases e2
      exact ha.1.2 j' hfo.1 e3⟩) ix
   cases e1:g ds[i] U' with
   | none=>simp only [e1] at w;cases w
   | some U2 =>
    simp only [e1] at w
    refine wg U' Z' H'' ds[i] x U2 _ (r'.same sm) ix2 e1 fun Z2 r2 g2 o2 => ?_
    have so2:∀ j∈foO fo,Z2[j]? = (qM nt fr Z)[j]? := fun j hj=>(o2 j hj).trans (so j hj)
    have ha2:H'' acc=some (.lst xs):=sm _ _ ha
    have iz2:=g2.isL (IsL.ext (Ext.of_same sm) (fun _ h _=>h) iz)
    cases e2:t U2 with
    | exc x U3=>simp only [e2] at w;cases w
    | bad=>simp only [e2] at w;cases w
    | ok p2 =>
     obtain ⟨bb,U3⟩:=p2
     refine wt U2 Z2 H'' _ r2 ?_
     rw [e2]
     intro H3 r3 g3
     have ha3:H3 acc=some (.lst xs):=g3.ext.at_ _ _ (accC Z2 so2) ha2
     have iz3:=g3.isL iz2
     cases bb with
     | false =>
      rw [if_neg Bool.false_ne_true]
      simp only [e2] at w
      exact ⟨ds.length-(i+1),by omega,rfl,hlt,U3,zs,xs,r3,so2,ha3,iz3,w⟩
     | true =>
      rw [if_pos rfl]
      simp only [e2] at w
      cases e3:k U3 with
      | exc x U4=>simp only [e3] at w;cases w
      | bad=>simp only [e3] at w;cases w
      | ok p3 =>
       obtain ⟨d4,U4⟩:=p3
       simp only [e3] at w
       refine we U3 Z2 H3 _ r3 ?_
       rw [e3]
       intro y4 H4 r4 i4 g4
       have ha4:H4 acc=some (.lst xs):=g4.ext.at_ _ _ (accC Z2 so2) ha3
       have hsz:qT (zs.length+1)=true:=by
        cases e5:qT (zs.length+1) with
        | true=>rfl
        | false=>rw [e5] at w;simp at w
       rw [if_pos hsz] at w
       have hsz':zs.length+1<=sizeLine:=of_decide_eq_true hsz
       have r5:=r4.grow (ys:=xs++[y4]) ha4 (fun j hj e=>accC Z2 so2 j hj e)
       have ext5:Ext (Cn (cin (Cn c Z) H1 (foO fo) (qdx Z fo) acc fun j=>(qM nt fr Z)[j]?) Z2) H4 (upd H4 acc (.lst (xs++[y4]))):=⟨fun b us hb=>by rw [qx (wD hb ha4 (by intro z;cases z))];exact hb,fun b o u hb=>by rw [qx (wD hb ha4 (by intro z;cases z))];exact hb,fun b o hb hq=>by rw [qx hb.1.2];exact hq⟩
       refine ⟨xs,ha4,by rw [iz3.length];omega,ds.length-(i+1),by omega,rfl,hlt,U4,zs++[d4],xs++[y4],r5,so2,qA,?_,w⟩
       exact IsL.append (IsL.ext ext5 (fun _ h _=>h) (g4.isL iz3)) (IsL.one (Is.ext ext5 (fun _ h _=>h) i4))
  ·have hie:i=ds.length:=by omega
   subst hie
   rw [List.drop_of_length_le (Nat.le_refl _)] at w
   unfold zv at w
   cases w
   obtain ⟨r6,g6⟩:=r1.leave hn hfo (fun i j e=>so i (by rw [e];simp [foO])) r'
   exact .inl ⟨iok.stop H' ex,h1 _ H' r6 ⟨acc,xs,rfl,r1.new hn,ha,IsL.ext Ext.refl (fun a ha hs=>ha.1.1) iz⟩ g6⟩
theorem qlc {i:Nat} {x:Str} {pos' spos pos:Pos} {tg it elt:Expr} {ifs:List Expr} {scope:Scope} {N':List Str} {nt:Nat} {fr:List Nat} {f:M D} (hN:X.N.Nodup) (h:DC X c tg it elt ifs scope N' nt fr f) (hc:X.calm=true) (S:yh X scope N' nt fr)
  (ho:i ∉ c.O:=by exact of_decide_eq_false rfl) (hix:X.N[i]? = some x:=by rfl) (hx:Loc X.env.scope x:=by first | exact Or.inl rfl | exact Or.inr rfl) (hfx:X.fn x=true\/X.env.scope.names.lookup x=some .local:=by first | exact .inl rfl | exact .inr rfl | assumption)
  (hsw:swapsWith (.ListComp elt [⟨tg,it,ifs,0⟩] scope pos) (some (.Name x pos')) spos.line X.env=pure true:=by rfl) (hs:∀ x,foldedSetIterable it X.env x=pure x:=by intro _;rfl) :
  DS X c (.Assign [.Name x pos'] (.ListComp elt [⟨tg,it,ifs,0⟩] scope pos) spos) (z7 i f):=by
 obtain ⟨wi,pi,w⟩:=h
 refine ⟨_,qla hN hix hx hfx hc pi S hsw hs,fun U Z H D r h=>w U Z H _ r (Wp.sbnd h fun d U1 v H1 r1 i1 g1 h1 => ?_)⟩
 exact h1 _ H1 (r1.set ho i1) (.set ho)
end
def qac:List Int->Int
 | []=>0
 | [n]=>n
 | n::m::ns=>max n (qac (m::ns))
theorem qa4:∀ (n:Int) (ns:List Int),qac (n::ns)∈n::ns
 | n,[]=>mS_
 | n,m::ns=>by
  have h:=qa4 m ns
  show max n (qac (m::ns))∈_
  rw [Int.max_def]
  split
  ·exact mM _ h
  ·exact mS_
theorem qeL:∀ (n:Int) (ns:List Int),∀ k∈n::ns,k<=qac (n::ns)
 | n,[]=>fun k hk=>by
  have:k=n:=by simpa using hk
  rw [this];exact Int.le_refl _
 | n,m::ns=>fun k hk=>by
  have h:=qeL m ns
  show k<=max n (qac (m::ns))
  rcases List.mem_cons.mp hk with rfl | hk
  ·exact Int.le_max_left ..
  ·exact Int.le_trans (h k hk) (Int.le_max_right ..)
theorem qld {ns:List Int} {z:Int} (h1:z∈ns) (h2:∀ n∈ns,n<=z):qac ns=z:=by
 cases ns with
 | nil=>cases h1
 | cons n ns=>exact Int.le_antisymm (h2 _ (qa4 n ns)) (qeL n ns z h1)
theorem qd5 {zs:Array (Int×Tok)} {i:Nat} (h:i<zs.size):(zs.toList.map (·.1))[i]? = some (numAt zs i):=by
 have h':i<zs.toList.length:=by simpa using h
 rw [gM_,gG h']
 simp [numAt,h]
section
variable {X:Cx}
theorem wR (hc:X.calm=true):yR X (.builtin "max") (fun xs H Q=>∃ (p:Addr) (ns:List Int),xs=[.ref p]/\H p=some (.lst (ns.map V.int))/\ns≠[]/\Q (.int (qac ns)) H):=by
 intro pins s Z H xs us Q I r h
 obtain ⟨p,ns,rfl,hp,hne,q⟩:=h
 obtain ⟨u,rfl,ru⟩:=zb.one r
 cases ru
 obtain ⟨its,rv,pl,hz⟩:=I.list (SqL.of hp)
 have hl:=pl.isList
 have hi:IntsAre its ns:=qae rv
 obtain ⟨zs,hx⟩:=hi.allInts.items
 have hl':s.heap.IsList p (intItems zs):=hx▸hl
 have e1:ns=zs.toList.map (·.1):=by
  rw [<- nums_intItems,<- hx]
  exact (show numsOf its.toArray.toList=ns from hi.numsOf).symm
 have hsz:0<zs.size:=by
  cases hzz:zs.toList with
  | nil=>rw [hzz] at e1;exact absurd e1 hne
  | cons a b =>
   have:zs.size=zs.toList.length:=by simp
   rw [this,hzz];simp
 refine max_intList (I.ok.hd hc) hl' hsz fun v h' tk hv hk => ?_
 obtain ⟨t,rfl⟩:=intItems_at hv
 obtain ⟨b1,b2⟩:=argBest_gt (numAt zs) (zs.size-1)
 have e2:qac ns=numAt zs (argBest (fun i j=>decide (numAt zs i>numAt zs j)) (zs.size-1)):=by
  refine qld ?_ fun n hn => ?_
  ·rw [e1]
   exact List.mem_of_getElem? (qd5 (by omega))
  ·rw [e1] at hn
   obtain ⟨j,hj⟩:=List.mem_iff_getElem?.mp hn
   have hj2:j<zs.size:=by
    have:=(gI_.mp hj).1
    simpa using this
   rw [qd5 hj2] at hj
   cases hj
   exact b2 j (by omega)
 rw [<- e2]
 exact ⟨.int _,H,I.kept hk,⟨_,rfl⟩,q⟩
end
def qbZ:List D->Option D
 | [.lst ds]=>match v3 ds with
  | some (n::ns)=>some (.int (qac (n::ns)))
  | _=>none
 | _=>none
theorem vG {K:Fr0}:wJ K qbZ (fun xs H Q=>∃ (p:Addr) (ns:List Int),xs=[.ref p]/\H p=some (.lst (ns.map V.int))/\ns≠[]/\Q (.int (qac ns)) H):=by
 intro A H xs d vs Q hn h e k
 unfold qbZ at e
 split at e
 ·obtain ⟨v,rfl,a,zs,rfl,_,ta,il⟩:=IsL.inv1 h
  split at e
  ·rename_i n ns hi
   cases e
   rw [vF il hi] at ta
   exact ⟨a,n::ns,rfl,ta,by simp,k _ H (ji.refl H) rfl⟩
  ·cases e
 ·cases e
def uJ (t:M Bool) (b:MS):Nat->MS
 | 0,_ => .bad
 | n+1,U=>match t U with
  | .ok (true,U1)=>match b U1 with
   | .ok (.nx U2)=>uJ t b n U2
   | .ok (.ct U2)=>uJ t b n U2
   | .ok (.bk U2) => .ok (.nx U2)
   | .ok (.rt d U2) => .ok (.rt d U2)
   | .exc x U2 => .exc x U2
   | .bad => .bad
  | .ok (false,U1) => .ok (.nx U1)
  | .exc x U1 => .exc x U1
  | .bad => .bad
open Classical in
noncomputable def qbD (t:M Bool) (b:MS):MS:=fun U=>if h:∃ n,uJ t b n U ≠ .bad then uJ t b h.choose U else .bad
theorem vH {t:M Bool} {b:MS}:∀ {n:Nat} {U:Env} (k:Nat),uJ t b n U ≠ .bad->uJ t b (n+k) U=uJ t b n U
 | 0,U,k,h=>absurd rfl h
 | n + 1,U,k,h=>by
  have e:n+1+k=(n+k)+1:=by omega
  rw [e]
  unfold uJ at h |-
  cases et:t U with
  | ok p =>
   obtain ⟨v,U1⟩:=p
   rw [et] at h
   cases v with
   | false=>rfl
   | true =>
    dsimp only at h |-
    cases eb:b U1 with
    | ok fl =>
     rw [eb] at h
     cases fl with
     | nx U2=>exact vH k h
     | ct U2=>exact vH k h
     | bk U2=>rfl
     | rt d U2=>rfl
    | exc x U2=>rfl
    | bad=>rfl
  | exc x U1=>rfl
  | bad=>rfl
theorem qd6 {t:M Bool} {b:MS} {n:Nat} {U:Env} {r:R Fl} (h:uJ t b n U=r) (hb:r ≠ .bad):qbD t b U=r:=by
 have hx:∃ n,uJ t b n U ≠ .bad:=⟨n,by rw [h];exact hb⟩
 unfold qbD
 rw [dif_pos hx]
 have hc:=hx.choose_spec
 generalize hx.choose=m at hc
 rcases Nat.le_total m n with hl | hl
 ·obtain ⟨k,rfl⟩:=Nat.exists_eq_add_of_le hl
  rw [<- vH k hc];exact h
 ·obtain ⟨k,rfl⟩:=Nat.exists_eq_add_of_le hl
  rw [vH k (by rw [h];exact hb)];exact h
theorem qgb {t:M Bool} {b:MS} {U:Env}:∃ n,qbD t b U=uJ t b n U:=by
 unfold qbD
 split
 ·exact ⟨_,rfl⟩
 ·exact ⟨0,rfl⟩
section
variable {X:Cx} {c:Fc} {pos:Pos}
theorem qfs {e:Expr} {body:List Stmt} {t:M Bool} {b:MS} (hp:PassesOwn (model X.prog X.w) X.A X.env X.xe) (ht:DT X c e t) (hb:DSs X c body b):DS X c (.While e body [] pos) (qbD t b):=by
 obtain ⟨tc,pc,wc⟩:=ht
 obtain ⟨tb,pb,wb⟩:=hb
 refine ⟨_,qim hp pc pb,fun U Z H D' r h => ?_⟩
 obtain ⟨n,en⟩:=qgb (t:=t) (b:=b) (U:=U)
 rw [en] at h
 refine ⟨fun m Z' H'=>∃ U',Rep X.K c U' Z' H'/\WpS X.K c Z' H' D' (uJ t b m U'),⟨n,U,r,h⟩,?_⟩
 rintro m Z' H' ⟨U',r',w⟩
 cases m with
 | zero=>exact w.elim
 | succ m =>
  unfold uJ at w
  refine wc U' Z' H' _ r' ?_
  cases et:t U' with
  | bad=>rw [et] at w;exact w
  | exc x U1=>rw [et] at w;exact fun H1 r1 g1=>w Z' H1 r1 g1.s
  | ok p =>
   obtain ⟨v,U1⟩:=p
   rw [et] at w
   intro H1 r1 g1
   cases v with
   | false =>
    rw [if_neg Bool.false_ne_true]
    exact w Z' H1 r1 g1.s
   | true =>
    rw [if_pos rfl]
    dsimp only at w
    refine ⟨fun Z2 H2=>∃ U2,Rep X.K c U2 Z2 H2/\WpS X.K c Z2 H2 D' (uJ t b m U2),fun Z2 H2 q=>⟨m,Nat.lt_succ_self m,q⟩,wb U1 Z' H1 _ r1 ?_⟩
    have w2:=w.gr g1.s
    cases e2:b U1 with
    | ok fl =>
     cases fl with
     | nx U3=>simp only [e2] at w2;exact fun Z3 H3 r3 g3=>⟨U3,r3,w2.gr g3⟩
     | ct U3=>simp only [e2] at w2;exact fun Z3 H3 r3 g3=>⟨U3,r3,w2.gr g3⟩
     | bk U3=>simp only [e2] at w2;exact w2
     | rt d U3=>simp only [e2] at w2;exact w2
    | exc x U3=>simp only [e2] at w2;exact w2
    | bad=>simp only [e2] at w2;exact w2
end
end L2.Sk
namespace L2.Sk
open PySem PySem.Spec PyProof.Rows
def qow (h:Heap) (e T:Addr) (cls:Value):Prop :=
 ∃ oe vs oT ts a0,h.get? e=some oe/\(oe.cls=cls/\vs[2]? = some .none/\vs[0]? = some a0)/\oe.data = .fields vs/\vs[1]? = some (.ref T)/\T≠e/\h.get? T=some oT/\oT.data = .fields ts/\ts[3]? = some .none
def CX1 (P:Program) (w:World):CXT:=fun outer H s E u s'=>∃ e T C H',u = .ref e/\s'.os=s.os/\AllBare s'.gens/\Un (frs outer) [] H H' s.heap s'.heap/\HOk P w H' s'.heap /\
 s.heap.get? e=none/\s.heap.get? T=none/\H' e=none/\H' T=none/\qow s'.heap e T (.ref C)/\E (.ref C) none H'
structure Lft (h h':Heap) (ch fs:List Addr):Prop where
 keep:∀ b o,b ∉ ch->b ∉ fs->h.get? b=some o->h'.get? b=some o
 slot:∀ b o,b∈fs->h.get? b=some o->∃ sl,h'.get? b=some { o with slots:=sl }
section
variable {M:Model} {A:Around} {E:Value->Shared->Prop} {s:Shared}
end
section
variable {X:Cx} {pins:List (Addr×Obj)} {Z:St} {H:Hp} {s:Shared}
end
structure XC (base:Heap) (C:Addr) (bm:List Value):Prop where
 hasBase:bm.contains (.type "BaseException")=true
 ex:∃ nm q N bs hdct sn sub ab col dd k0 k1 k2 k3 k5 newId initId B bmB mN,base.get? C=some (excClassObj nm q C N bs bm hdct sn sub ab col dd k0 k1 k2 k3 k5 newId)/\base.Ns N mN/\mN "__init__"=none/\OwnTail base bmB bm/\ExcBaseFacts B newId initId bmB
def qpa (n p:Nat) (body:MS) (ds:List D):R D:=if ds.length=p then match body (uU n ds) with
 | .ok (.rt d _) => .ok d
 | .ok (.nx _) => .ok .non
 | .exc x U => .exc x U
 | _ => .bad else .bad
section
variable {X:Cx} {c:Fc} {e:Expr} {es:List Expr} {pos cpos np:Pos}
structure XL2 (X:Cx) (c:Fc) (cl:Str->Option Addr) (E:XK):Prop where
 pass:qcd (CX1 X.prog X.w) X E
 wish:∀ x C H',cl x.cls=some C->c.E x H'->E (.ref C) none H'
def qm6 (x:Str) (f:M (List D)):MS:=fun U=>match f U with
 | .ok (ds,U')=>if qT ds.length then .exc ⟨x,.non⟩ U' else .bad
 | .exc z U' => .exc z U'
 | .bad => .bad
def spX (K:Fr0) (cl:Str->Option Addr) (F:List D->R D):Sp:=fun vs H Q E=>∃ ds A,IsL K A H ds vs/\qgT K H/\match F ds with
 | .ok d=>∀ v H',ji H H'->Is K (fun a=>A a\/H a=none) H' d v->Q v H'
 | .exc x _=>∃ C,cl x.cls=some C/\∀ H',ji H H'->E (.ref C) none H'
 | .bad=>False
def qjX (RN:List Str) (F:List D->R D) (g:M (List D)):M D:=bnd g fun ds U=>match F ds with
 | .ok d => .ok (d,U)
 | .exc x _=>if RN.contains x.cls then .exc x U else .bad
 | .bad => .bad
def qft (F:List D->R D) (g:M (List D)):M D:=bnd g fun ds U=>match F ds with
 | .ok d => .ok (d,U)
 | _ => .bad
theorem qiP {k:Nat} {f:Addr} {fd:FuncData} {ps:List Str} {F:List D->R D} {x:Str} {p:Pos} {g:M (List D)} {cl:Str->Option Addr}
  (G:qcc X.prog X.w X.K X.mg X.base (CX1 X.prog X.w) k f fd ps (spX X.K cl F)) (hr:uD k X.A) (hg:Gl X x) (hm:X.mg x=some (.ref f)) (hk:PySem.W.keepIn X.K (.ref f)=true) (hb:vQ X.K fd ps [])
  (ha:DA X c (e::es) g) (hd:(x==("__debug__":Str))=false:=by decide) (he:starEach (e::es) X.env=(false,eval e X.env)::starEach es X.env:=by rfl) (hpl:(backTo pos (starEach es X.env)).any (·.1)=false:=by rfl):DE X c (.Call (.Name x p) (e::es) [] pos) (qft F g):=by
 obtain ⟨t,pa,w⟩:=ha
 refine ⟨_,qcC (E:=fun _ _ _=>False) G hr hg hm hk hb .nil (fun _ _ _ _ _ _ _ ⟨_,_,_,_,_,_,_,_,_,_,_,_,_,_,z⟩=>z.elim) pa hd he hpl,fun U Z H Q r h=>w U Z H _ r (WpL.bnd h fun ds U1 vs H1 r1 i1 g1 h1 => ?_)⟩
 rw [List.append_nil]
 refine ⟨ds,Cn c Z,i1,r1.tb,?_⟩
 cases ef:F ds with
 | bad=>simp only [ef] at h1;exact h1.elim
 | exc z U'=>simp only [ef] at h1;exact h1.elim
 | ok d =>
  simp only [ef] at h1
  exact fun v H' sm i=>h1 v H' (r1.same sm) (Is.ext Ext.refl (fun a ha _=>ha.elim id r1.new) i) (.of_same sm)
end
section
variable {P:Program} {w:World} {K:PySem.W.Frag} {mg:Str->Option Value} {base:Heap}
structure qle (P:Program) (w:World) (K:PySem.W.Frag) (mg:Str->Option Value) (base:Heap) (k:Nat) (x:Str) (ps:List Str) (sp:Sp):Prop where
 ex:∃ f fd,qcc P w K mg base (CX1 P w) k f fd ps sp/\mg x=some (.ref f)/\PySem.W.keepIn K (.ref f)=true/\vQ K fd ps []
end
section
variable {M:Model} {A:Around} {E:Value->Shared->Prop}
variable {nm q nm' q':Str} {C S N N':Addr} {bs bm bs' bm':List Value} {hdct hdct':Bool} {sn sn':List Str} {sub sub':List Value} {ab ab':Bool} {col col':Option Bool} {dd dd':Option Addr} {k0 k1 k2 k3 k5 j0 j1 j2 j3 j5:Option Value} {newId newId':String}
end
end L2.Sk
namespace L2
open PySem PySem.Spec PyProof.Rows
def uK (A:Around) (H:Hp):Prop:=∃ e oe u vs,A.handled=some (.ref e)/\H e=some (.frz oe u)/\oe.data = .fields vs/\vs[2]? = some .none
def qm7 (A:Around) (sp:Sp) (dvs:List V) (E:XK) (t:TA):TE:=fun Z H Q=>t Z H fun vs H1=>uK A H1/\sp (vs++dvs) H1 Q E
structure v7 (k:Nat) (A:Around):Prop where
 dp:A.depth+3*k+5<recursionLimit
 un:A.units+16*k+200<cLine
 gd:A.guards=some []
theorem v7.mono {j k:Nat} {A:Around} (r:v7 k A) (h:j<=k):v7 j A:=⟨by have:=r.dp;omega,by have:=r.un;omega,r.gd⟩
theorem v7.deeper {k:Nat} {A:Around} (r:v7 (k+1) A) (env:Env):v7 k (A.deeper env) :=
 ⟨by have:=r.dp;show A.depth+1+3*k+5<_;omega,by have:=r.un;show A.units+3+16*k+200<_;omega,r.gd⟩
theorem v7.depth {k:Nat} {A:Around} (r:v7 k A):A.depth<recursionLimit:=by have:=r.dp;omega
structure qiQ (P:Program) (w:World) (K:PySem.W.Frag) (mg:Str->Option Value) (base:Heap) (CX:CXT) (k:Nat) (f:Addr) (fd:FuncData) (ps:List Str) (sp:Sp):Prop where
 len:∀ vs H Q E,sp vs H Q E->vs.length=ps.length
 run:∀ (A:Around) (outer:List Env) (s:Shared) (H:Hp) (args:Args) (us:List Value) (vs:List V) (Q:VK) (E:XK),v7 k A->uK A H->qip P w K mg base A outer s H->BindsTo s fd args (ps.zip us)->zb vs us->sp vs H Q E ->
  codeAny (model P w) A (.call (.ref f) args) (CR CX outer P w H s Q E) s
section
variable {X:Cx} {CX:CXT} {k:Nat} {f C:Addr} {fd:FuncData} {ps:List Str} {sp:Sp} {dvs:List V} {ds:List Value} {E:XK} {x m:Str} {p pos apos:Pos} {e o:Expr} {es:List Expr} {ta:TE} {t:TA}
theorem qlf {pins:List (Addr×Obj)} {Z:St} {H:Hp} {s:Shared} {Q:VK} {us:List Value} {vs:List V} (F:qiQ X.prog X.w X.K X.mg X.base CX k f fd ps sp) (hr:v7 k X.A) (hb:vQ X.K fd ps ds) (hd:zb dvs ds) (hx:qcd CX X E)
  (I:Inv X pins Z H s) (r:zb vs us) (al:uK X.A H) (h:sp (vs++dvs) H Q E):wpAny (model X.prog X.w) X.A (call (.ref f) us) (EP X pins Z Q) X.xe s:=by
 have r2:zb (vs++dvs) (us++ds):=r.append hd
 have hl:(us++ds).length=ps.length:=by rw [<- r2.length];exact F.len _ _ _ _ h
 refine wpAny_call (codeAny_mono (F.run X.A X.stack s H ⟨us,[]⟩ (us++ds) (vs++dvs) Q E hr al I.env0 (hb s us I.kIn hl) r2 h) fun r s' hq => ?_)
 cases r with
 | error e=>exact hx pins Z H s e s' I hq
 | ok fl =>
  cases fl with
  | ret u=>exact I.after hq
  | next=>exact False.elim hq
  | brk=>exact False.elim hq
  | cont=>exact False.elim hq
theorem qiR (F:qiQ X.prog X.w X.K X.mg X.base CX k f fd ps sp) (hr:v7 k X.A) (hg:Gl X x) (hm:X.mg x=some (.ref f)) (hk:PySem.W.keepIn X.K (.ref f)=true) (hb:vQ X.K fd ps ds) (hd:zb dvs ds) (hx:qcd CX X E)
  (ha:PA X (e::es) t) (hdb:(x==("__debug__":Str))=false:=by decide) (he:starEach (e::es) X.env=(false,eval e X.env)::starEach es X.env:=by rfl) (hpl:(backTo pos (starEach es X.env)).any (·.1)=false:=by rfl) :
  PE X (.Call (.Name x p) (e::es) [] pos) (qm7 X.A sp dvs E t):=by
 intro pins s Z H Q I h
 refine wpAny_Call_Name_kw (qez I hg hm ?_ hdb)
 refine PySem.W.callWith_K (h₀:=X.base) I.ok.mod.kin hk (thn (ha pos pins s Z H _ I h) fun us s1 ⟨vs,H1,I1,r,q⟩=>⟨I1.kIn,?_⟩) he hpl
 exact qlf F hr hb hd hx I1 r q.1 q.2
end
end L2
namespace L2.Sk
open PySem PySem.Spec PyProof.Rows
def isT (b:Bool):Value->Bool
 | .bool a=>a==b
 | _=>false
section
variable {X:Cx}
end
def qpb (x:D) (ys:List D):Option D:=match x,ys with
 | .lst ds,[.bl b]=>(uk ds).map fun bs => .int (bs.countP (·==b))
 | _,_=>none
def qm8 (F:D->List D->Option D) (f:M D) (g:M (List D)):M D:=bnd f fun x=>match x with
 | .lst ds=>bnd g fun ys=>lift (F (.lst ds) ys)
 | _=>fun _ => .bad
section
variable {X:Cx} {c:Fc} {o e:Expr} {es:List Expr} {apos cpos:Pos}
end
def isI (b:Int):Value->Bool
 | .int a _=>a==b
 | _=>false
section
variable {X:Cx}
end
def qpc (x:D) (ys:List D):Option D:=match x,ys with
 | .lst ds,[.int b]=>(v3 ds).map fun ns => .int (ns.countP (·==b))
 | _,_=>none
section
variable {X:Cx} {pins:List (Addr×Obj)} {Z:St} {H:Hp} {s:Shared} {xe:Value->Shared->Prop}
theorem un_held {H':Hp} {h':Heap} {e:Addr} {o:HO} (u:Un (frs X.stack) [] H H' s.heap h') (he:s.heap.get? e=none) (hHe:H' e=none):Un (frs X.stack) [] H (upd H' e o) s.heap h':=by
 have ne:∀ b ob,s.heap.get? b=some ob->b≠e:=fun b ob q z=>by rw [z,he] at q;cases q
 have ne':∀ b u,H' b=some u->b≠e:=fun b u q z=>by rw [z,hHe] at q;cases q
 refine ⟨u.keep,u.slot,fun b ob q n hx=>by rw [qx (ne b ob q)];exact u.free b ob q n hx,u.there,fun b xs q => ?_,fun b ob w q => ?_,fun b ps y q => ?_⟩
 ·have:=u.tups b xs q
  rw [qx (ne' b _ this)];exact this
 ·have:=u.frzs b ob w q
  rw [qx (ne' b _ this)];exact this
 ·have:=u.tbls b ps y q
  rw [qx (ne' b _ this)];exact this
end
structure qp5 (K:Fr0) (base:Heap) (RN:List Str) (S:Addr):Prop where
 sup:∃ bm,XC base S bm
 own:∀ n C,clR K RN n=some C->∃ bm,XC base C bm/\(Value.ref C::bm).contains (.ref S)=true
 ki:∀ n C,clR K RN n=some C->XK6 K C
def ch (H6:Hp):Fc:=⟨[],[],fun a=>H6 a=none,H6,fun _=>False,fun _ _=>False,fun _=>none⟩
section
variable {X:Cx} {c:Fc} {pos np hpos p1 p2 p3 p4:Pos} {body:List Stmt}
end
end L2.Sk
namespace L2.Sk
open PySem PySem.Spec PyProof.Rows PySem.W
def bmV:List Value:=[.type "ValueError",.type "Exception",.type "BaseException",.type "object"]
def qgc (K:Fr0) (C S:Addr):Bool:=match K.lookup C with
 | some ⟨_,_,.cls cd,_⟩=>cd.mro.contains (.ref S)
 | _=>false
theorem qnY {K:Fr0} {h:Heap} {C S:Addr} (X:K.In h) (q:excIn K C bmV "ValueError.__new__"=true) (hs:qgc K C S=true):∃ bm,XC h C bm/\(Value.ref C::bm).contains (.ref S)=true:=by
 unfold excIn at q
 split at q
 ·rename_i dd cd sl ho
  split at q
  ·rename_i C' bm k0 k1 k2 k3 n k5 hm hl
   simp only [Bool.and_eq_true,beq_iff_eq,Bool.not_eq_true'] at q
   obtain ⟨⟨⟨⟨⟨e1,e2⟩,hdel⟩,ht⟩,hok⟩,hni⟩:=q
   subst e1 e2
   unfold qgc at hs
   rw [ho] at hs
   dsimp only at hs
   rw [hm] at hs
   obtain ⟨nm,bs,mro,ns,qn,hd,sn,sub,ab,col,del⟩:=cd
   dsimp only at hm hdel hok hni
   subst hm hdel
   have hz:sl = #[k0,k1,k2,k3,some (.builtin _),k5]:=Array.toList_inj.mp hl
   subst hz
   have hT:=tail_of_in X ht
   refine ⟨bm,⟨hT.hasType (by decide +kernel),nm,qn,ns,bs,hd,sn,sub,ab,col,dd,k0,k1,k2,k3,k5,_,"ValueError.__init__","ValueError",bmV,_,X _ _ ho,.of_isNs (isNs_of_in X hok),nsMap_none_of_in X hok hni,hT,PySem.F.excBase_ValueError⟩,hs⟩
  ·cases q
 ·cases q
def qlg (K:Fr0) (D:Addr):Bool :=
 findIn K (.ref D) "__getattribute__"==some (some (.builtin "BaseException.__getattribute__"))&&findIn K (.ref D) "__getattr__"==some none &&
 findIn K (.ref D) "__class__"==some (some (.builtin "object.__class__"))&&mroIn K D (.type "object")==some true&&subIn K (.ref D) (.type "BaseException")==some true&&(clsIn K D).isSome &&
 (["int","bool","str","tuple","list","dict"].all fun T=>kitOne K (.ref D) (.type T)==some false)
theorem qm9 {K:Fr0} {D:Addr} (h:qlg K D=true):XK6 K D:=by
 unfold qlg at h
 simp only [Bool.and_eq_true,beq_iff_eq] at h
 obtain ⟨⟨⟨⟨⟨⟨h1,h2⟩,h3⟩,h4⟩,h5⟩,h6⟩,h7⟩:=h
 exact ⟨h1,h2,h3,h4,h5,h6,fun T hT=>by simpa using List.all_eq_true.mp h7 T hT⟩
def qiS (n m:Str):Bool:=n==m||m=="SackError"
def qna (K:Fr0) (S:Addr) (TN:List Str) (n:Str):Bool:=match qbi K n with
 | some C=>excIn K C bmV "ValueError.__new__"&&qgc K C S&&qlg K C&&kitOne K (.ref C) (.type "ValueError")==some true &&
  TN.all fun m=>match qbi K m with
   | some Cm=>kitOne K (.ref C) (.ref Cm)==some (qiS n m)
   | none=>false
 | none=>false
def qpd (K:Fr0) (RN TN:List Str):Bool:=match qbi K "SackError" with
 | some S=>excIn K S bmV "ValueError.__new__"&&qgc K S S&&RN.all (qna K S TN)
 | none=>false
structure XT (K:Fr0) (mg:Str->Option Value) (RN TN:List Str):Prop where
 all:qpd K RN TN=true
 mgc:∀ n C,qbi K n=some C->mg n=some (.ref C)
section
variable {K:Fr0} {mg:Str->Option Value} {RN TN:List Str}
theorem XT.sup (t:XT K mg RN TN):∃ S,qbi K "SackError"=some S/\excIn K S bmV "ValueError.__new__"=true/\qgc K S S=true/\RN.all (qna K S TN)=true:=by
 have h:=t.all
 unfold qpd at h
 split at h
 ·rename_i S e
  simp only [Bool.and_eq_true] at h
  exact ⟨S,e,h.1.1,h.1.2,h.2⟩
 ·cases h
theorem XT.row (t:XT K mg RN TN) {S:Addr} (hS:qbi K "SackError"=some S) {n:Str} (hn:RN.contains n=true):qna K S TN n=true:=by
 obtain ⟨S',e,_,_,h⟩:=t.sup
 rw [hS] at e
 cases e
 exact List.all_eq_true.mp h n (by simpa using hn)
theorem XT.cls (t:XT K mg RN TN) {n:Str} {C:Addr} (h:clR K RN n=some C):qbi K n=some C/\∃ S,qbi K "SackError"=some S/\excIn K C bmV "ValueError.__new__"=true/\qgc K C S=true/\XK6 K C/\kitOne K (.ref C) (.type "ValueError")=some true /\
  ∀ m∈TN,∃ Cm,qbi K m=some Cm/\kitOne K (.ref C) (.ref Cm)=some (qiS n m):=by
 unfold clR at h
 split at h
 ·rename_i hn
  obtain ⟨S,hS,_⟩:=t.sup
  have r:=t.row hS hn
  unfold qna at r
  rw [h] at r
  simp only [Bool.and_eq_true,beq_iff_eq] at r
  obtain ⟨⟨⟨⟨r1,r2⟩,r3⟩,r4⟩,r5⟩:=r
  refine ⟨h,S,hS,r1,r2,qm9 r3,r4,fun m hm => ?_⟩
  have:=List.all_eq_true.mp r5 m hm
  split at this
  ·rename_i Cm e
   exact ⟨Cm,e,by simpa using this⟩
  ·cases this
 ·cases h
theorem XT.has (t:XT K mg RN TN) {n:Str} (hn:RN.contains n=true):∃ C,clR K RN n=some C:=by
 obtain ⟨S,hS,_⟩:=t.sup
 have r:=t.row hS hn
 unfold qna at r
 split at r
 ·rename_i C e
  exact ⟨C,by unfold clR;rw [if_pos hn];exact e⟩
 ·cases r
end
def qpe (RN:List Str) (m:Str) (f:M D):M D:=bnd f fun d=>match d with
 | .exc n=>if RN.contains n then ret (.bl (m=="ValueError"||qiS n m)) else fun _ => .bad
 | _=>fun _ => .bad
section
variable {X:Cx} {c:Fc} {a b e:Expr} {pos:Pos} {RN TN:List Str}
end
section
variable {P:Program} {w:World} {K:PySem.W.Frag} {mg:Str->Option Value} {base:Heap}
structure qlh (P:Program) (w:World) (K:PySem.W.Frag) (mg:Str->Option Value) (base:Heap) (k:Nat) (x:Str) (ps:List Str) (sp:Sp):Prop where
 ex:∃ f fd,qiQ P w K mg base CX0 k f fd ps sp/\mg x=some (.ref f)/\PySem.W.keepIn K (.ref f)=true/\vQ K fd ps []
end
end L2.Sk
namespace L2.Sk
open PySem PySem.Spec PyProof.Rows
section
variable {U:Env} {f g:M D} {l:M (List D)} {p q:MS} {RN:List Str}
theorem qfu (F:List D->R D):qjX RN F l U=match l U with | .ok (xs,U1)=>(match F xs with | .ok d => .ok (d,U1) | .exc x _=>(if RN.contains x.cls then .exc x U1 else .bad) | .bad => .bad) | .exc x U' => .exc x U' | .bad => .bad:=by
 simp only [qjX,bnd]
 cases l U with
 | ok z=>obtain ⟨z1,U1⟩:=z;cases F z1<;>rfl
 | exc x U'=>rfl
 | bad=>rfl
theorem qfv (F:List D->R D):qft F l U=match l U with | .ok (xs,U1)=>(match F xs with | .ok d => .ok (d,U1) | _ => .bad) | .exc x U' => .exc x U' | .bad => .bad:=by
 simp only [qft,bnd]
 cases l U with
 | ok z=>obtain ⟨z1,U1⟩:=z;cases F z1<;>rfl
 | exc x U'=>rfl
 | bad=>rfl
theorem qfw (x:Str):qm6 x l U=match l U with | .ok (ds,U')=>(if qT ds.length then .exc ⟨x,.non⟩ U' else .bad) | .exc z U' => .exc z U' | .bad => .bad:=rfl
theorem qjY (m:Str):qpe RN m f U=match f U with | .ok (.exc n,U1)=>(if RN.contains n then .ok (.bl (m=="ValueError"||qiS n m),U1) else .bad) | .ok _ => .bad | .exc x U' => .exc x U' | .bad => .bad:=by
 simp only [qpe,bnd]
 cases f U with
 | ok z =>
  obtain ⟨z1,U1⟩:=z
  cases z1<;>first | rfl | (dsimp only;split<;>rfl)
 | exc x U'=>rfl
 | bad=>rfl
theorem qhp (F:D->List D->Option D):qm8 F f l U=match f U with
  | .ok (.lst ds,U1)=>(match l U1 with | .ok (ys,U2)=>(match F (.lst ds) ys with | some d => .ok (d,U2) | none => .bad) | .exc x U' => .exc x U' | .bad => .bad)
  | .ok _ => .bad | .exc x U' => .exc x U' | .bad => .bad:=by
 simp only [qm8,bnd]
 cases f U with
 | ok z =>
  obtain ⟨z1,U1⟩:=z
  cases z1 with
  | lst ds =>
   show bnd l (fun ys=>lift (F (D.lst ds) ys)) U1=(match l U1 with | .ok (ys,U2)=>(match F (.lst ds) ys with | some d => .ok (d,U2) | none => .bad) | .exc x U' => .exc x U' | .bad => .bad)
   unfold bnd
   cases l U1 with
   | ok z=>obtain ⟨z2,U2⟩:=z;(dsimp only;cases F (.lst ds) z2<;>rfl)
   | exc x U'=>rfl
   | bad=>rfl
  | _=>rfl
 | exc x U'=>rfl
 | bad=>rfl
end
theorem qnb {n p:Nat} {body:MS} {ds:List D} (h:ds.length=p) (e:∃ U,body (uU n ds) = .ok (.nx U)):qpa n p body ds = .ok .non:=by
 obtain ⟨U,e⟩:=e
 unfold qpa;rw [if_pos h,e]
def unO (_:Nat) (c:Fc):Fc:={ c with O:=[],P:=[],B:=fun _=>True }
theorem Gr.unSame {c:Fc} {Z:St} {H H':Hp} {i:Nat} (g:Gr (unO i c).O Z H H'):ji H H':=fun b o h=>g.ext.at_ b o (fun j hj=>by cases hj) h
theorem Rep.un {K:Fr0} {c:Fc} {U:Env} {Z:St} {H:Hp} {i:Nat} (r:Rep K c U Z H) (_:i∈c.O):Rep K (unO i c) U Z H:=by
 have all:∀ b:Addr,Cn (unO i c) Z b:=fun b=>⟨trivial,fun j hj=>by cases hj⟩
 refine ⟨r.len,fun k d hk => ?_,fun j hj=>(by cases hj),fun k j a hk=>(by cases hk),⟨fun _ _=>trivial,r.b0.2⟩,r.kp,r.dm,fun j hj=>(by cases hj),fun j hj=>(by cases hj)⟩
 obtain ⟨v,h1,h2⟩:=r.val k d hk
 refine ⟨v,h1,.inr ⟨fun z=>(by cases z),?_⟩⟩
 rcases h2 with ⟨hk2,ds,a,xs,h3,h5,h6,h7⟩ | ⟨hk2,h3⟩
 ·subst h3 h5
  exact ⟨a,xs,rfl,all a,h6,IsL.ext Ext.refl (fun b _ _=>all b) h7⟩
 ·exact Is.ext Ext.refl (fun b _ _=>all b) h3
theorem Gr.un {c:Fc} {Z:St} {H H':Hp} {i:Nat} (g:Gr (unO i c).O Z H H'):Gr c.O Z H H' := .of_same g.unSame
theorem Rep.re {K:Fr0} {c:Fc} {U:Env} {Z:St} {H H':Hp} {i:Nat} (r:Rep K c U Z H) (_:i∈c.O) (_:Rep K (unO i c) U Z H') (g:Gr (unO i c).O Z H H'):Rep K c U Z H':=r.same g.unSame
open Classical in
open Classical in
noncomputable def qcQ (f:M Bool):M Bool:=fun U=>match f U with
 | .ok (d,U')=>if U'=U then .ok (d,U) else .bad
 | .exc x U'=>if U'=U then .exc x U else .bad
 | .bad => .bad
open Classical in
section
variable {X:Cx} {c:Fc} {e:Expr} {pos:Pos}
theorem qli {i:Nat} {f:M Bool} (h:DT X (unO i c) e f) (ho:i∈c.O:=by exact of_decide_eq_true rfl):DT X c e (qcQ f):=by
 obtain ⟨t,p,w⟩:=h
 refine ⟨t,p,fun U Z H Q r h=>w U Z H Q (r.un ho) ?_⟩
 unfold qcQ at h
 cases ef:f U with
 | bad=>rw [ef] at h;exact h.elim
 | exc x U' =>
  rw [ef] at h
  simp only at h
  split at h
  ·rename_i e1
   subst e1
   exact fun H' r' g'=>h H' (r.re ho r' g') g'.un
  ·exact h.elim
 | ok q =>
  obtain ⟨d,U'⟩:=q
  rw [ef] at h
  simp only at h
  split at h
  ·rename_i e2
   subst e2
   exact fun H' r' g'=>h H' (r.re ho r' g') g'.un
  ·exact h.elim
def qp6:List D->Option (List D)
 | [.int i,.int j]=>if decide (-(2 ^ 62)<=i)&&decide (i<2 ^ 62)&&decide (-(2 ^ 62)<=j)&&decide (j<2 ^ 62) then some (qcg i (j-i).toNat) else none
 | _=>none
theorem XL2.un {i:Nat} {cl:Str->Option Addr} {E:XK} (L:XL2 X c cl E):XL2 X (unO i c) cl E:=⟨L.pass,L.wish⟩
def qjZ (i n:Nat) (g:D->Env->Option Env) (b:MS):Nat->MS
 | 0,U=>match zB i U with
  | some ds=>if ds.length<=n then .ok (.nx U) else .bad
  | none => .bad
 | m + 1,U=>match zB i U with
  | some ds=>match ds[n-(m+1)]? with
   | none => .bad
   | some d=>match g d U with
    | none => .bad
    | some U1=>match b U1 with
     | .ok (.nx U2)=>qjZ i n g b m U2
     | .ok (.ct U2)=>qjZ i n g b m U2
     | .ok (.bk U2) => .ok (.nx U2)
     | .ok (.rt r U2) => .ok (.rt r U2)
     | .exc x U2 => .exc x U2
     | .bad => .bad
  | none => .bad
end
section
variable {U:Env} {f:M D} {t:M Bool} {n:M (List D)}
open Classical in
open Classical in
theorem qlj:qcQ t U=match t U with | .ok (d,U')=>(if U'=U then .ok (d,U) else .bad) | .exc x U'=>(if U'=U then .exc x U else .bad) | .bad => .bad:=rfl
open Classical in
end
theorem qox {f:M Bool} {U:Env} {b:Bool} (h:f U = .ok (b,U)):qcQ f U = .ok (b,U):=by
 rw [qlj,h]
 exact if_pos rfl
def qnZ (K:Fr0) (neg:Bool):R2:=fun x y H Q=>∃ d e ds A,Is K A H d x/\Is K A H e y/\sqD e=some ds/\qaS d=true/\qaS e=true/\Q (.bl (if neg then !((toPDs ds).any fun y=>PyData.eqv y (ui d)) else (toPDs ds).any fun y=>PyData.eqv y (ui d))) H
def inA (x y:D):Option D:=match sqD y with
 | some ds=>if qaS x&&qaS y then some (.bl ((toPDs ds).any fun y=>PyData.eqv y (ui x))) else none
 | none=>none
section
variable {X:Cx}
theorem qcR {d:D} (h:qaS d=true):(ui d).canLay0=true/\(ui d).depth<=50:=by
 unfold qaS at h
 rw [Bool.and_eq_true,decide_eq_true_eq] at h
 exact h
theorem qnc {k:Nat} (hr:uD k X.A):OpR X (compareOp .In) (qnZ X.K false):=by
 intro pins s Z H x y v u Q I rx ry h
 obtain ⟨d,e,ds,A,h1,h2,es,o1,o2,q⟩:=h
 obtain ⟨as,r1,_⟩:=uV I (qch o1) h1 rx
 obtain ⟨bs,r2,_⟩:=uV I (qch o2) h2 ry
 have c1:=(qcR o1).1
 have c2:=(qcR o2).1
 have u1:=(qcR o1).2
 have u:=hr.units
 cases e<;>simp only [sqD] at es<;>try (cases es;done)
 ·cases es
  exact SeqAt.in_tuple_reads r2 r1 (by simpa [ui,PyData.canLay0] using c2) c1 (by omega) ⟨.bl _,H,I,rfl,by simpa using q⟩
 ·cases es
  exact SeqAt.in_list_reads r2 r1 (by simpa [ui,PyData.canLay0] using c2) c1 (by omega) ⟨.bl _,H,I,rfl,by simpa using q⟩
end
theorem qlk {K:Fr0}:OpS K inA (qnZ K false):=by
 intro A H x y d v u Q hn ix iy e k
 unfold inA at e
 split at e
 ·rename_i ds es
  obtain ⟨e1,e2⟩:=jo e
  subst e2
  rw [Bool.and_eq_true] at e1
  exact ⟨x,y,ds,A,ix,iy,es,e1.1,e1.2,k _ H (ji.refl H) rfl⟩
 ·cases e
def inB (x y:D):Option D:=(inD x y).or (inA x y)
theorem qnd {X:Cx} {k:Nat} (hr:uD k X.A):OpR X (compareOp .In) (fun x y H Q=>rIn X.K false x y H Q\/qnZ X.K false x y H Q):=OpR.or qgP (qnc hr)
theorem qll {K:Fr0}:OpS K inB (fun x y H Q=>rIn K false x y H Q\/qnZ K false x y H Q):=by
 intro A H x y d v u Q hn ix iy e k
 unfold inB at e
 cases e1:inD x y with
 | some b=>rw [e1] at e;exact .inl (qm5 A H x y d v u Q hn ix iy (by rw [e1];exact e) k)
 | none=>rw [e1] at e;exact .inr (qlk A H x y d v u Q hn ix iy e k)
section
variable {prog:Program} {w:World} {A:Around} {R:Result->Shared->Prop} {I:Addr} {fp wr:List Addr} {n:Nat} {P:Nat->Value->Prop} {St:Nat->Heap->Prop}
end
section
variable {prog:Program} {w:World} {A:Around} {E:Value->Shared->Prop} {s:Shared}
end
def qne:List D->Option (List (List Int))
 | []=>some []
 | .tup ts::r=>match v3 ts,qne r with
  | some n,some ns=>some (n::ns)
  | _,_=>none
 | _=>none
def qoy (ns:List (List Int)) (i:Nat):List Int:=(ns[i]?).getD []
def qoz (ns:List (List Int)):Nat:=argBest (fun i j=>HT.lexLt (qoy ns i) (qoy ns j)) (ns.length-1)
def qpS:List D->Option D
 | [.lst ds]=>match qne ds with
  | some (n::ns)=>some (.tup ((qoy (n::ns) (qoz (n::ns))).map .int))
  | _=>none
 | _=>none
section
variable {X:Cx}
end
def qpf (x:D) (ys:List D):Option D:=match x,ys with
 | .lst ds,[d]=>if ds.all qaS&&qaS d then (ds.findIdx? fun e=>PyData.eqv (ui e) (ui d)).map fun j => .int j else none
 | _,_=>none
section
variable {prog:Program} {w:World} {A:Around} {E:Value->Shared->Prop} {s:Shared}
end
section
variable {X:Cx} {c:Fc} {a b e:Expr} {pos:Pos} {es:List Expr} {kk:Nat} {tp:Pos}
end
section
variable {X:Cx} {c:Fc} {a b e:Expr} {pos:Pos} {es:List Expr} {kk:Nat} {tp:Pos}
def qnf:List D->Option (List D)
 | [.lst xs]=>some (qk7 0 xs)
 | _=>none
def qng (f:M (List D)):M (List D):=bnd f fun ds=>lift (qnf ds)
end
section
variable {X:Cx} {c:Fc} {pos:Pos}
end
section
variable {prog:Program} {w:World} {A:Around} {E:Value->Shared->Prop} {s:Shared}
end
theorem uK.laid {A:Around} {H:Hp} {p:Addr} {o:HO} (x:uK A H) (h:H p=none):uK A (upd H p o):=by
 obtain ⟨e,oe,u,vs,h1,h2,h3⟩:=x
 exact ⟨e,oe,u,vs,h1,by rw [qx (qK h2 h)];exact h2,h3⟩
theorem uK.rep {K:Fr0} {c:Fc} {A:Around} (x:uK A c.H0) (hio:∀ a,¬ c.Io a) (U:Env) (Z:St) (H:Hp) (r:Rep K c U Z H):uK A H:=by
 obtain ⟨e,oe,u,vs,h1,h2,h3⟩:=x
 exact ⟨e,oe,u,vs,h1,r.kp _ _ h2 (hio e),h3⟩
end L2.Sk
namespace L2
open PySem PySem.Spec PyProof.Rows L2.Sk
structure qpT (P:Program) (w:World) (K:PySem.W.Frag) (tg:Expr) (J:It) (fp:List Addr) (it:Addr) (tn:Nat->Heap->Prop):Prop where
 mem:it∈fp
 obj:∀ i h,tn i h->∀ b∈fp,∃ o,h.get? b=some o/\∀ v,o.data ≠ .cell v
 keep:∀ i h h',tn i h->(∀ b∈fp,∀ o,h.get? b=some o->h'.get? b=some o)->tn i h'
 item:∀ (X:Cx),X.prog=P->X.w=w->X.K=K->uK X.A X.H₀->∀ (i:Nat) (pins:List (Addr×Obj)) (s:Shared) (Z:St) (H:Hp) (E:Value->Shared->Prop),Inv X pins Z H s->(∀ b∈fp,qey X pins H b)->tn i s.heap->J.go i H ->
  wpAny (model P w) X.A (pyNext (.ref it)) (fun r s1=>∃ u,r=some u /\
   wpAny (model P w) X.A (letOwnedTupleGo tg (.ref it) u) (fun _ s2=>∃ x H',Inv X pins Z H' s2/\jN x u/\J.yld i H x H'/\tn (i+1) s2.heap/\∀ b∈fp,H' b=none) E s1) E s
 done:∀ (X:Cx),X.prog=P->X.w=w->X.K=K->uK X.A X.H₀->∀ (i:Nat) (pins:List (Addr×Obj)) (s:Shared) (Z:St) (H:Hp) (E:Value->Shared->Prop),Inv X pins Z H s->(∀ b∈fp,qey X pins H b)->tn i s.heap->J.stop i H ->
  wpAny (model P w) X.A (pyNext (.ref it)) (fun r s1=>r=none/\Inv X pins Z H s1) E s
 self:∀ (A:Around) (i:Nat) (s:Shared) (Q:Value->Shared->Prop) (E:Value->Shared->Prop),tn i s.heap->Q (.ref it) s->wpAny (model P w) A (pyIter (.ref it)) Q E s
section
variable {X:Cx} {tg:Expr}
end
end L2
namespace L2.Sk
open PySem PySem.Spec PyProof.Rows
section
variable {X:Cx} {tg iter elt:Expr} {ifs:List Expr} {scope:Scope} {pos:Pos} {wi:TI} {N':List Str} {nt:Nat} {fr:List Nat}
end
section
variable {X:Cx} {c:Fc} {tg a b e:Expr} {pos:Pos}
end
theorem v7.units {k:Nat} {A:Around} (r:v7 k A):A.units+64<cLine:=by have:=r.un;omega
section
variable {X:Cx} {c:Fc} {e:Expr} {es:List Expr} {pos:Pos}
theorem qiT {k:Nat} {f:Addr} {fd:FuncData} {ps:List Str} {F:List D->R D} {x:Str} {p:Pos} {g:M (List D)} (hal:∀ U Z H,Rep X.K c U Z H->uK X.A H)
  (G:qiQ X.prog X.w X.K X.mg X.base CX0 k f fd ps (spD X.K F)) (hr:v7 k X.A) (hg:Gl X x) (hm:X.mg x=some (.ref f)) (hk:PySem.W.keepIn X.K (.ref f)=true) (hb:vQ X.K fd ps [])
  (ha:DA X c (e::es) g) (hd:(x==("__debug__":Str))=false:=by decide) (he:starEach (e::es) X.env=(false,eval e X.env)::starEach es X.env:=by rfl) (hpl:(backTo pos (starEach es X.env)).any (·.1)=false:=by rfl):DE X c (.Call (.Name x p) (e::es) [] pos) (qe F g):=by
 obtain ⟨t,pa,w⟩:=ha
 refine ⟨_,qiR (E:=fun _ _ _=>False) G hr hg hm hk hb .nil (fun _ _ _ _ _ _ _ z=>z.elim) pa hd he hpl,fun U Z H Q r h=>w U Z H _ r (WpL.bnd h fun ds U1 vs H1 r1 i1 g1 h1=>⟨hal _ _ _ r1,?_⟩)⟩
 rw [List.append_nil]
 refine ⟨ds,Cn c Z,i1,r1.tb,?_⟩
 cases ef:F ds with
 | bad=>simp only [ef] at h1;exact h1.elim
 | exc z U'=>simp only [ef] at h1;exact h1.elim
 | ok d =>
  simp only [ef] at h1
  exact fun v H' sm i=>h1 v H' (r1.same sm) (Is.ext Ext.refl (fun a ha _=>ha.elim id r1.new) i) (.of_same sm)
end
section
variable {prog:Program} {w:World} {A:Around} {R:Result->Shared->Prop} {I:Addr} {fp wr:List Addr} {n:Nat} {P:Nat->Value->Prop} {St:Nat->Heap->Prop} {dv:Value}
end
section
variable {prog:Program} {w:World} {A:Around} {E:Value->Shared->Prop} {s:Shared}
end
section
variable {prog:Program} {w:World} {A:Around} {R:Result->Shared->Prop} {I:Addr} {fp wr:List Addr} {n:Nat} {P:Nat->Value->Prop} {St:Nat->Heap->Prop} {dv:Value}
end
section
variable {prog:Program} {w:World} {A:Around} {E:Value->Shared->Prop} {s:Shared}
end
section
variable {prog:Program} {w:World} {A:Around} {E:Value->Shared->Prop} {s:Shared}
end
section
variable {X:Cx}
end
section
variable {X:Cx} {c:Fc} {a b e:Expr} {pos:Pos}
def qj0 (F:List D->List D->Option D) (f g:M (List D)):M D:=bnd f fun xs=>bnd g fun zs=>lift (F xs zs)
def CallKS (K:Fr0) (F:List D->List D->Option D) (r:List V->List V->Hp->VK->Prop):Prop:=∀ A H xs zs d vs ws (Q:VK),(∀ a,H a=none->A a)->IsL K A H xs vs->IsL K A H zs ws->F xs zs=some d->(∀ u H',ji H H'->Is K A H' d u->Q u H')->r vs ws H Q
end
def qpU (xs zs:List D):Option D:=match xs,zs with
 | [.lst ds],[z]=>(v3 ds).map fun ns=>if ns=[] then z else .int (qac ns)
 | _,_=>none
def slB (x:D) (lo hi:Option Int):Option D:=match x with
 | .tup ds=>some (.tup (qgv ds lo hi))
 | .lst ds=>some (.lst (qgv ds lo hi))
 | _=>none
def qlm (f:M D) (g k:M (Option Int)):M D:=bnd f fun d=>bnd g fun l=>bnd k fun u=>lift (slB d l u)
section
variable {X:Cx} {c:Fc} {a b e:Expr} {pos p2:Pos}
theorem qd7 {lo hi:Option Expr} {f:M D} {g k:M (Option Int)} (ha:DE X c a f) (hl:DO X c lo g) (hu:DO X c hi k):DE X c (.Subscript a (.Slice lo hi none p2) pos) (qlm f g k):=by
 obtain ⟨ta,pa,wa⟩:=ha
 obtain ⟨tl,pl,wl⟩:=hl
 obtain ⟨tu,pu,wu⟩:=hu
 refine ⟨_,qit (SlR.or qmJ qkw) pa pl pu,fun U Z H Q r h=>wa U Z H _ r (Wp.bnd h fun d U1 v H1 r1 i1 g1 h1 => ?_)⟩
 refine wl U1 Z H1 _ r1 (fun l U2 e2 H2 r2 g2 => ?_) (fun x U2 e2 H2 r2 g2 => ?_) (fun e2 => ?_)
 ·rw [qdM e2] at h1
  have h1:=h1.gr g2
  refine wu U2 Z H2 _ r2 (fun u U3 e3 H3 r3 g3 => ?_) (fun x U3 e3 H3 r3 g3 => ?_) (fun e3 => ?_)
  ·rw [qdM e3] at h1
   obtain ⟨d',e4,h4⟩:=h1.lift
   have i3:=g3.is (g2.is i1)
   clear h1
   cases d<;>simp only [slB] at e4<;>try (cases e4;done)
   ·rename_i ds
    cases e4
    obtain ⟨a,xs,rfl,ta,il⟩:=i3
    refine .inl ?_
    by_cases hw:HT.sIx xs.length 0 l=0/\HT.sIx xs.length xs.length u=xs.length
    ·refine .inl ⟨a,xs,rfl,ta.sq,hw,h4 _ H3 r3 ⟨a,xs,rfl,ta,?_⟩ g3⟩
     have e5:qgv ds l u=ds:=by
      unfold qgv
      rw [<- il.length,hw.1,hw.2]
      simp [il.length]
     rw [e5];exact il
    ·refine .inr ⟨a,xs,rfl,ta.sq,hw,fun p hp=>h4 _ _ (r3.laid hp _) ⟨p,qic xs l u,rfl,.inl qA,?_⟩ (g3.trans (.of_same (qD hp _)))⟩
     refine IsL.ext (Ext.of_same (qD hp _)) (fun _ h _=>h) ?_
     unfold qgv qic
     rw [<- il.length]
     exact IsL.take _ (IsL.drop _ il)
   ·rename_i ds
    cases e4
    obtain ⟨a,xs,rfl,hA,ta,il⟩:=i3
    refine .inr ⟨a,xs,rfl,.inl (.inl ta),fun p hp=>h4 _ _ (r3.laid hp _) ⟨p,qic xs l u,rfl,r3.new hp,qA,?_⟩ (g3.trans (.of_same (qD hp _)))⟩
    refine IsL.ext (Ext.of_same (qD hp _)) (fun _ h _=>h) ?_
    unfold qgv qic
    rw [<- il.length]
    exact IsL.take _ (IsL.drop _ il)
  ·unfold bnd at h1;rw [e3] at h1;exact h1 H3 r3 g3
  ·unfold bnd at h1;rw [e3] at h1;exact h1
 ·unfold bnd at h1;rw [e2] at h1;exact h1 H2 r2 g2
 ·unfold bnd at h1;rw [e2] at h1;exact h1
def qoA (x y:D):Option (List D):=match x,y with
 | .lst ds,.int k=>if (decide (-(2 ^ 62)<=k)&&decide (k<2 ^ 62))&&(qT (ds.length*k.toNat)&&immL ds) then some (List.replicate k.toNat ds).flatten else none
 | _,_=>none
def qpg (f g:M D):M (List D):=bnd f fun x=>bnd g fun y=>lift (qoA x y)
def qpV (f:M D):M (List D):=bnd f fun x=>lift (match x with
 | .lst ds=>if immL ds then some ds else none
 | .tup ds=>if immL ds then some ds else none
 | _=>none)
def yV (i:Nat) (f:M D):M D:=fun U=>match zB i U with
 | none => .bad
 | some _=>(bnd f fun d U=>match d,zB i U with
  | .lst es,some ds=>if immL es&&qT (ds.length+es.length) then .ok (.non,U.set i (some (.lst (ds++es)))) else .bad
  | _,_ => .bad) U
theorem qd8 {i:Nat} {x:Str} {p1 apos:Pos} {f:M D} (he:DE X c e f) (ho:i∈c.O:=by exact of_decide_eq_true rfl) (hN:X.N[i]? = some x:=by rfl) (hv:Vis X.env.scope x:=by first | exact Or.inl rfl | exact Or.inr (Or.inl rfl) | exact Or.inr (Or.inr rfl)) (hd:(x==("__debug__":Str))=false:=by decide) (hcd:(x==("__classdict__":Str))=false:=by decide)
  (hbase:attributeBase (.Name x p1) "extend" X.env (eval (.Name x p1) X.env)=eval (.Name x p1) X.env:=by rfl)
  (hfew:((backTo pos (starEach [e] X.env)).all (fun x => !x.1)&&(backToKw pos (keywordEach [] X.env)).all (fun x=>x.1.isSome)
   && decide ([e].length+([]:List Keyword).length+(if ([]:List Keyword).isEmpty then 0 else 1)<30))=true:=by rfl)
  (hline:(apos.endLine==pos.line)=true:=by rfl) (hs:starEach [e] X.env=(false,eval e X.env)::starEach [] X.env:=by rfl) (hplain:(backTo pos (starEach [] X.env)).any (·.1)=false:=by rfl) :
  DE X c (.Call (.Attribute (.Name x p1) "extend" apos) [e] [] pos) (yV i f):=by
 obtain ⟨t,p,w⟩:=he
 refine ⟨_,qmx PySem.F.plainAttrs_list PySem.F.slot_list_extend PySem.F.type_list_extend qgQ (wE hN hv hd hcd) (vb p qcb hs) hbase hfew hline hs hplain,fun U Z H Q r h => ?_⟩
 unfold yV at h
 cases e0:zB i U with
 | none=>rw [e0] at h;exact h.elim
 | some ds0 =>
  simp only [e0] at h
  obtain ⟨l,xs0,_,hl,hH,_⟩:=r.getLO ho e0
  refine ⟨.ref l,hl,.inl ⟨rfl,xs0,.inl (.inl hH)⟩,w U Z H _ r (Wp.bnd h fun d U1 v H1 r1 i1 g1 h1 => ?_)⟩
  cases e1:zB i U1 with
  | none=>cases d<;>simp only [e1] at h1<;>exact h1.elim
  | some ds =>
   cases d with
   | lst es =>
    simp only [e1] at h1
    by_cases hb:(immL es&&qT (ds.length+es.length))=true
    ·rw [if_pos hb] at h1
     rw [Bool.and_eq_true] at hb
     obtain ⟨l',xs,him,hl',hH',il⟩:=r1.getLO ho e1
     rw [hl] at hl'
     cases hl'
     obtain ⟨b,zs,rfl,hA,hB,iz⟩:=i1
     have hsz:ds.length+es.length<=sizeLine:=of_decide_eq_true hb.2
     have ext:Ext (Cn c Z) H1 (upd H1 l (.lst (xs++zs))):=⟨fun b us hb=>zV (wD hb hH' (by intro z;cases z)) hb,fun b o u hb=>zV (wD hb hH' (by intro z;cases z)) hb,fun b o hb hq=>zV (fun e=>hb.2 i ho (by rw [hl,e])) hq⟩
     obtain ⟨r2,g2⟩:=r1.io (H':=upd H1 l (.lst (xs++zs))) (bs:=ds++es) ho hl (fun b o hb ho=>zV hb ho) qA trivial
      (IsL.append (IsL.ext ext (fun _ h _=>h) il) (IsL.ext ext (fun _ h _=>h) iz)) (fun b hb=>qeI hb)
     exact ⟨l,b,xs,zs,rfl,rfl,hH',hB,by rw [il.length,iz.length];exact hsz,h1 _ _ r2 rfl g2⟩
    ·rw [if_neg hb] at h1;exact h1.elim
   | _=>simp only [e1] at h1;exact h1.elim
theorem qiU {pins:List (Addr×Obj)} {Z:St} {H:Hp} {s:Shared} (I:Inv X pins Z H s) (j:Nat):Inv X pins (Z.set j none) H s:=by
 refine ⟨I.ok,I.os,I.bare,I.base,?_,I.cell,I.free,I.freeC,I.pin,I.hok,by rw [lS_];exact I.len⟩
 obtain ⟨m,hn,hl⟩:=I.loc
 refine ⟨m,hn,fun i x v e1 e2 e3 => ?_⟩
 by_cases hij:j=i
 ·subst hij
  rw [List.getElem?_set] at e2
  simp only [if_true] at e2
  split at e2<;>cases e2
 ·rw [List.getElem?_set_ne hij] at e2
  exact hl i x v e1 e2 e3
def qgd (i j:Nat):MS:=fun U=>match zB j U with
 | some ds => .ok (.nx ((U.set i (some (.lst ds))).set j none))
 | none => .bad
theorem Rep.moved {K:Fr0} {U:Env} {Z:St} {H:Hp} {i j:Nat} {ds:List D} (r:Rep K c U Z H) (hj:j∈c.O) (hP:j ∉ c.P) (hi:i ∉ c.O) (hd:U[j]? = some (some (.lst ds))) (hil:i<Z.length):∃ a,Z[j]? = some (some (.ref a)) /\
  Rep K c ((U.set i (some (.lst ds))).set j none) ((Z.set i (some (.ref a))).set j none) H/\GrS c.O Z H ((Z.set i (some (.ref a))).set j none) H:=by
 obtain ⟨ds',a,xs,e1,hσ,hH,il⟩:=r.getO hj hd
 cases e1
 have hij:i≠j:=fun e=>hi (e▸hj)
 have hB:c.B a:=by
  obtain ⟨a',_,e2,_,e3⟩:=r.own j hj _ hσ
  cases e2
  exact r.b0.1 a (e3.resolve_right fun z=>hP z.1)
 have get:∀ k,k≠i->k≠j->((Z.set i (some (.ref a))).set j none)[k]? = Z[k]? := fun k h1 h2=>by
  rw [List.getElem?_set_ne (Ne.symm h2),List.getElem?_set_ne (Ne.symm h1)]
 have getj:∀ {v:V},((Z.set i (some (.ref a))).set j none)[j]? ≠ some (some v):=fun {v} e=>by
  rw [List.getElem?_set] at e
  simp only [if_true] at e
  split at e<;>cases e
 have cl:∀ b,Cl c.O Z b->Cl c.O ((Z.set i (some (.ref a))).set j none) b:=fun b hb k hk e=>by
  by_cases h2:k=j
  ·subst h2;exact getj e
  ·exact hb k hk (by rw [<- get k (fun e=>hi (e▸hk)) h2];exact e)
 have cla:Cl c.O ((Z.set i (some (.ref a))).set j none) a:=fun k hk e=>by
  by_cases h2:k=j
  ·subst h2;exact getj e
  ·rw [get k (fun e=>hi (e▸hk)) h2] at e
   exact h2 (r.inj k j a hk hj e hσ)
 refine ⟨a,hσ,⟨?_,fun k d hk => ?_,fun k hk v hv => ?_,fun k l b hk hl h1 h2 => ?_,r.b0,r.kp,r.dm,r.pO,fun k hk => ?_⟩,⟨Ext.refl,fun b hb _=>cl b hb,fun _ h=>h⟩⟩
 ·simp only [lS_];exact r.len
 ·have kj:k≠j:=fun e=>by
   subst e
   rw [List.getElem?_set] at hk
   simp only [if_true] at hk
   split at hk<;>cases hk
  rw [List.getElem?_set_ne (Ne.symm kj)] at hk
  by_cases ki:k=i
  ·subst ki
   rw [List.getElem?_set_self (by rw [r.len];exact hil)] at hk
   cases hk
   refine ⟨.ref a,by rw [List.getElem?_set_ne (Ne.symm kj),List.getElem?_set_self hil],.inr ⟨hi,a,xs,rfl,⟨hB,cla⟩,hH,IsL.ext Ext.refl (fun b hb _=>⟨hb.1,cl b hb.2⟩) il⟩⟩
  ·rw [List.getElem?_set_ne (Ne.symm ki)] at hk
   obtain ⟨v,h1,h2⟩:=r.val k d hk
   refine ⟨v,by rw [get k ki kj];exact h1,?_⟩
   rcases h2 with ⟨g1,ds2,b2,xs2,g3,g5,g6,g7⟩ | ⟨h3,h4⟩
   ·exact .inl ⟨g1,ds2,b2,xs2,g3,g5,g6,IsL.ext Ext.refl (fun b hb _=>⟨hb.1,cl b hb.2⟩) g7⟩
   ·exact .inr ⟨h3,Is.ext Ext.refl (fun b hb _=>⟨hb.1,cl b hb.2⟩) h4⟩
 ·have kj:k≠j:=fun e=>by subst e;exact getj hv
  rw [get k (fun e=>hi (e▸hk)) kj] at hv
  exact r.own k hk v hv
 ·have kj:k≠j:=fun e=>by subst e;exact getj h1
  have lj:l≠j:=fun e=>by subst e;exact getj h2
  rw [get k (fun e=>hi (e▸hk)) kj] at h1
  rw [get l (fun e=>hi (e▸hl)) lj] at h2
  exact r.inj k l b hk hl h1 h2
 ·have kO:=r.pO k hk
  rw [get k (fun e=>hi (e▸kO)) (fun e=>hP (e▸hk))]
  exact r.ps k hk
theorem qhq {i j:Nat} {x y:Str} {pos' p1:Pos} (hN:X.N.Nodup) (hj:j∈c.O:=by exact of_decide_eq_true rfl) (hP:j ∉ c.P:=by exact of_decide_eq_false rfl) (ho:i ∉ c.O:=by exact of_decide_eq_false rfl) (hi:X.N[i]? = some x:=by rfl) (hjN:X.N[j]? = some y:=by rfl) (hx:Loc X.env.scope x:=by first | exact Or.inl rfl | exact Or.inr rfl)
  (hv:Vis X.env.scope y:=by first | exact Or.inl rfl | exact Or.inr (Or.inl rfl) | exact Or.inr (Or.inr rfl)) (hd:(y==("__debug__":Str))=false:=by decide) (hcd:(y==("__classdict__":Str))=false:=by decide)
  (hs:swapsWith (.Name y p1) (some (.Name x pos')) pos.line X.env=pure false:=by rfl) (hf:X.fn x=true\/X.env.scope.names.lookup x=some .local:=by first | exact .inl rfl | exact .inr rfl | assumption) :
  DS X c (.Assign [.Name x pos'] (.Name y p1) pos) (qgd i j):=by
 refine ⟨fun D Z H=>Z.length=X.N.length->∃ v,Z[j]? = some (some v)/\D.nx ((Z.set i (some v)).set j none) H,?_,fun U Z H D r h hl => ?_⟩
 ·intro pins s Z H D I hq
  obtain ⟨v,hσ,q⟩:=hq I.len
  have p:=qgA (pos:=pos) (pos':=pos') hN hi hx (wE (pos:=p1) hjN hv hd hcd) hs hf pins s Z H ({ D with nx:=fun Z' H'=>Z'=Z.set i (some v)/\H'=H }:qgy) I ⟨v,hσ,rfl,rfl⟩
  refine wpAny_mono p (fun fl s1 h1 => ?_) (fun _ _ z=>z)
  cases fl with
  | next =>
   obtain ⟨Z1,H1,I1,rfl,rfl⟩:=h1
   exact ⟨_,_,qiU I1 j,q⟩
  | brk=>exact h1
  | cont=>exact h1
  | ret u=>exact h1
 ·unfold qgd at h
  cases e0:zB j U with
  | none=>rw [e0] at h;exact h.elim
  | some ds =>
   rw [e0] at h
   have hd:U[j]? = some (some (.lst ds)):=by
    unfold zB at e0
    split at e0
    ·rename_i z e;cases e0;exact e
    ·cases e0
   have hil:i<Z.length:=by rw [hl];exact (gI_.mp hi).1
   obtain ⟨a,hσ,r2,g2⟩:=r.moved hj hP ho hd hil
   exact ⟨.ref a,hσ,h _ H r2 g2⟩
def qph (f:M (List D)):M (List D):=fun U=>match f U with
 | .ok ([.tup _],_)=>qk9 f U
 | _=>qng f U
end
section
variable {U:Env} {f g:M D} {l k:M (List D)}
theorem qn0 (F:List D->List D->Option D):qj0 F l k U=match l U with | .ok (xs,U1)=>(match k U1 with | .ok (zs,U2)=>(match F xs zs with | some d => .ok (d,U2) | none => .bad) | .exc x U' => .exc x U' | .bad => .bad) | .exc x U' => .exc x U' | .bad => .bad:=by
 simp only [qj0,bnd]
 cases l U with
 | ok z =>
  obtain ⟨z1,U1⟩:=z
  dsimp only
  cases k U1 with
  | ok z=>obtain ⟨z2,U2⟩:=z;(dsimp only;cases F z1 z2<;>rfl)
  | exc x U'=>rfl
  | bad=>rfl
 | exc x U'=>rfl
 | bad=>rfl
theorem qpi:qpg f g U=match f U with | .ok (x,U1)=>(match g U1 with | .ok (y,U2)=>(match qoA x y with | some ds => .ok (ds,U2) | none => .bad) | .exc x U' => .exc x U' | .bad => .bad) | .exc x U' => .exc x U' | .bad => .bad:=by
 simp only [qpg,bnd]
 cases f U with
 | ok z =>
  obtain ⟨z1,U1⟩:=z
  dsimp only
  cases g U1 with
  | ok z=>obtain ⟨z2,U2⟩:=z;(dsimp only;cases qoA z1 z2<;>rfl)
  | exc x U'=>rfl
  | bad=>rfl
 | exc x U'=>rfl
 | bad=>rfl
theorem qd9 (i:Nat):yV i f U=match zB i U with
  | none => .bad
  | some _=>(match f U with | .ok (d,U1)=>(match d,zB i U1 with | .lst es,some ds=>(if immL es&&qT (ds.length+es.length) then .ok (.non,U1.set i (some (.lst (ds++es)))) else .bad) | _,_ => .bad) | .exc x U' => .exc x U' | .bad => .bad):=by
 unfold yV
 cases zB i U with
 | none=>rfl
 | some z =>
  simp only [bnd]
  cases f U with
  | ok z=>obtain ⟨z1,U1⟩:=z;rfl
  | exc x U'=>rfl
  | bad=>rfl
theorem qj1 (p q:M (Option Int)):qlm f p q U=match f U with | .ok (d,U1)=>(match p U1 with | .ok (l,U2)=>(match q U2 with | .ok (u,U3)=>(match slB d l u with | some r => .ok (r,U3) | none => .bad) | .exc x U' => .exc x U' | .bad => .bad) | .exc x U' => .exc x U' | .bad => .bad) | .exc x U' => .exc x U' | .bad => .bad:=by
 simp only [qlm,bnd]
 cases f U with
 | ok z =>
  obtain ⟨z1,U1⟩:=z
  dsimp only
  cases p U1 with
  | ok z =>
   obtain ⟨z2,U2⟩:=z
   dsimp only
   cases q U2 with
   | ok z=>obtain ⟨z3,U3⟩:=z;(dsimp only;cases slB z1 z2 z3<;>rfl)
   | exc x U'=>rfl
   | bad=>rfl
  | exc x U'=>rfl
  | bad=>rfl
 | exc x U'=>rfl
 | bad=>rfl
end
section
variable {X:Cx} {c:Fc} {e:Expr} {es:List Expr} {pos:Pos}
theorem dC {k j:Nat} {ps:List Str} {F:List D->R D} {x:Str} {p:Pos} {g:M (List D)} (C:qz X.prog X.w X.K X.mg X.base k x ps (spD X.K F)) (hr:uD j X.A) (ha:DA X c (e::es) g)
  (hk:k<=j:=by decide) (hg:Gl X x:=by rfl) (hd:(x==("__debug__":Str))=false:=by decide) (he:starEach (e::es) X.env=(false,eval e X.env)::starEach es X.env:=by rfl) (hpl:(backTo pos (starEach es X.env)).any (·.1)=false:=by rfl):DE X c (.Call (.Name x p) (e::es) [] pos) (qe F g):=by
 obtain ⟨f,fd,G,m,kk,b⟩:=C.ex
 exact qkQ G (hr.mono hk) hg m kk b ha hd he hpl
theorem nC {k j:Nat} {ps:List Str} {F:List D->R D} {x:Str} {p:Pos} {g:M (List D)} (C:qz X.prog X.w X.K X.mg X.base k x ps (spD X.K F)) (hr:uD j X.A) (ha:DA X c (e::es) g)
  (hk:k<=j:=by decide) (hg:Gl X x:=by rfl) (hd:(x==("__debug__":Str))=false:=by decide) (he:starEach (e::es) X.env=(false,eval e X.env)::starEach es X.env:=by rfl) (hpl:(backTo pos (starEach es X.env)).any (·.1)=false:=by rfl):DN X c (.Call (.Name x p) (e::es) [] pos) (qd0 F g):=by
 obtain ⟨f,fd,G,m,kk,b⟩:=C.ex
 exact qk1 G (hr.mono hk) hg m kk b ha hd he hpl
theorem iC {k j i:Nat} {ps:List Str} {F:List D->List D->R (D×List D)} {x y:Str} {p p1:Pos} {g:M (List D)} (C:qz X.prog X.w X.K X.mg X.base k x ps (qjL X.K F)) (hr:uD j X.A) (ha:DA X c es g)
  (hk:k<=j:=by decide) (hg:Gl X x:=by rfl) (ho:i∈c.O:=by exact of_decide_eq_true rfl) (hN:X.N[i]? = some y:=by rfl) (hv:Vis X.env.scope y:=by first | exact Or.inl rfl | exact Or.inr (Or.inl rfl) | exact Or.inr (Or.inr rfl)) (hdy:(y==("__debug__":Str))=false:=by decide) (hcd:(y==("__classdict__":Str))=false:=by decide)
  (hd:(x==("__debug__":Str))=false:=by decide) (he:starEach (.Name y p1::es) X.env=(false,eval (.Name y p1) X.env)::starEach es X.env:=by rfl) (hpl:(backTo pos (starEach es X.env)).any (·.1)=false:=by rfl):DE X c (.Call (.Name x p) (.Name y p1::es) [] pos) (qr F i g):=by
 obtain ⟨f,fd,G,m,kk,b⟩:=C.ex
 exact qhb G (hr.mono hk) hg m kk b ha ho hN hv hdy hcd hd he hpl
theorem pC {k j:Nat} {ps:List Str} {F:List D->R D} {x:Str} {p:Pos} {g:M (List D)} {cl:Str->Option Addr} (C:qle X.prog X.w X.K X.mg X.base k x ps (spX X.K cl F)) (hr:uD j X.A) (ha:DA X c (e::es) g)
  (hk:k<=j:=by decide) (hg:Gl X x:=by rfl) (hd:(x==("__debug__":Str))=false:=by decide) (he:starEach (e::es) X.env=(false,eval e X.env)::starEach es X.env:=by rfl) (hpl:(backTo pos (starEach es X.env)).any (·.1)=false:=by rfl):DE X c (.Call (.Name x p) (e::es) [] pos) (qft F g):=by
 obtain ⟨f,fd,G,m,kk,b⟩:=C.ex
 exact qiP G (hr.mono hk) hg m kk b ha hd he hpl
theorem lC {k j:Nat} {ps:List Str} {F:List D->R D} {x:Str} {p:Pos} {g:M (List D)} (hal:∀ U Z H,Rep X.K c U Z H->uK X.A H) (C:qlh X.prog X.w X.K X.mg X.base k x ps (spD X.K F)) (hr:v7 j X.A) (ha:DA X c (e::es) g)
  (hk:k<=j:=by decide) (hg:Gl X x:=by rfl) (hd:(x==("__debug__":Str))=false:=by decide) (he:starEach (e::es) X.env=(false,eval e X.env)::starEach es X.env:=by rfl) (hpl:(backTo pos (starEach es X.env)).any (·.1)=false:=by rfl):DE X c (.Call (.Name x p) (e::es) [] pos) (qe F g):=by
 obtain ⟨f,fd,G,m,kk,b⟩:=C.ex
 exact qiT hal G (hr.mono hk) hg m kk b ha hd he hpl
theorem gI {x:Str} {i:Int} (h:∃ t,X.mg x=some (.int i t)) (hg:Gl X x:=by rfl) (hd:(x==("__debug__":Str))=false:=by decide):DE X c (.Name x pos) (ret (.int i)):=by
 obtain ⟨t,h⟩:=h
 exact qkA (v := .int i) (d := .int i) hg h ⟨_,rfl⟩ (fun _ _=>rfl) hd
end
theorem nd (N:List Str) (h:N.Nodup:=by decide +kernel):N.Nodup:=h
theorem cs {X:Cx} (N N':List Str) (nt:Nat) (fr:List Nat) (outer:Scope) {scope:Scope} (h0:scope.kind = .function:=by rfl) (h1:∀ y∈scope.names,y.2 ≠ .cell:=by decide +kernel) (h2:∀ y∈scope.names,y.2 = .local->scope.names.lookup y.1=some .local:=by decide +kernel)
  (h3:∀ y∈scope.names,y.2 = .free->outer.names.lookup y.1=some .cell:=by decide +kernel) (h4:N'.length=nt+fr.length:=by rfl) (h5:∀ p∈fr.zipIdx,N'[nt+p.2]? = N[p.1]? /\ ((N[p.1]?).bind fun x=>scope.names.lookup x)=some .free:=by decide +kernel)
  (h6:X.env.scope=outer:=by rfl) (h7:X.N=N:=by rfl):yh X scope N' nt fr:=qk2.ok (outer:=outer) (N:=N) ⟨h0,h1,h2,h3,h4,h5⟩ h6 h7
theorem f0 {c:Fc} {nt:Nat} (fr O:List Nat) (e:c.O=O:=by rfl) (h:∀ j∈fr,j ∉ O:=by decide):qkL c nt fr none:=fun j hj=>by rw [e];exact h j hj
theorem f1 {c:Fc} (nt:Nat) (fr O:List Nat) (i j:Nat) (e:c.O=O:=by rfl) (h1:j∈O:=by decide) (h2:nt<=i:=by decide) (h3:fr[i-nt]? = some j:=by rfl) (h4:∀ p∈fr.zipIdx,nt+p.2≠i->p.1 ∉ O:=by decide):qkL c nt fr (some (i,j)) :=
 qk4 (by rw [e];exact h1) h2 h3 (by rw [e];exact h4)
section
variable {X:Cx} {c:Fc}
end
end L2.Sk
namespace L2.Sk
open PySem PySem.Spec PyProof.Rows
section
variable {X:Cx} {c:Fc} {a b e:Expr} {pos:Pos}
def qhr (i:Nat) (f:M D):M D:=fun U=>match zB i U with
 | none => .bad
 | some _=>(bnd f fun d U=>match zB i U with
  | some ds=>if qT (ds.length+1) then .ok (.non,U.set i (some (.lst (d::ds)))) else .bad
  | none => .bad) U
end
section
variable {prog:Program} {w:World} {A:Around} {E:Value->Shared->Prop} {s:Shared}
end
section
variable {X:Cx} {c:Fc} {a e:Expr} {pos:Pos} {tg:Expr}
def qoB:List D->Option (List D)
 | [.tup xs]=>some xs.reverse
 | _=>none
def qpj (f:M (List D)):M (List D):=bnd f fun ds=>lift (qoB ds)
theorem qpk {l:M (List D)} {U:Env}:qpj l U=match l U with | .ok (d,U1)=>(match qoB d with | some ds => .ok (ds,U1) | none => .bad) | .exc x U' => .exc x U' | .bad => .bad:=by
 simp only [qpj,bnd]
 cases l U with
 | ok z=>obtain ⟨z1,U1⟩:=z;(dsimp only;cases qoB z1<;>rfl)
 | exc x U'=>rfl
 | bad=>rfl
theorem qnh {f:M D} {U:Env} (i:Nat):qhr i f U=match zB i U with
  | none => .bad
  | some _=>(match f U with
   | .ok (d,U1)=>(match zB i U1 with | some ds=>(if qT (ds.length+1) then .ok (.non,U1.set i (some (.lst (d::ds)))) else .bad) | none => .bad)
   | .exc x U' => .exc x U' | .bad => .bad):=by
 unfold qhr
 cases zB i U with
 | none=>rfl
 | some z =>
  simp only [bnd]
  cases f U with
  | ok z=>obtain ⟨z1,U1⟩:=z;rfl
  | exc x U'=>rfl
  | bad=>rfl
end
end L2.Sk
namespace HT
open PySem PySem.Spec PyProof.Rows
section
variable {prog:Program} {w:World} {A:Around} {E:Value->Shared->Prop} {s:Shared}
end
end HT
namespace L2
open PySem PySem.Spec PyProof.Rows
section
variable {X:Cx} {e:Expr} {te:TE} {ste:Expr} {ts:TO} {pos p2:Pos}
end
end L2
namespace L2.Sk
open PySem PySem.Spec PyProof.Rows
theorem IsL.rev {K:Fr0} {A:Addr->Prop} {H:Hp}:∀ {ds:List D} {xs:List V},IsL K A H ds xs->IsL K A H ds.reverse xs.reverse:=by
 intro ds
 induction ds with
 | nil =>
  intro xs h
  cases xs with
  | nil=>exact h
  | cons x xs=>exact absurd h.length (by simp)
 | cons d ds ih =>
  intro xs h
  obtain ⟨x,ys,rfl,h1,h2⟩:=h
  rw [List.reverse_cons,List.reverse_cons]
  have one:IsL K A H [d] [x]:=⟨x,[],rfl,h1,IsL.take 0 h2⟩
  exact IsL.append (ih h2) one
def qoC:D->Option D
 | .tup ds=>some (.tup ds.reverse)
 | .lst ds=>some (.lst ds.reverse)
 | _=>none
def qni (f:M D):M D:=bnd f fun d=>lift (qoC d)
section
variable {X:Cx} {c:Fc} {a:Expr} {pos p2 p3 p4:Pos} {cj:Nat}
theorem qoD {f:M D} {U:Env}:qni f U=match f U with | .ok (d,U1)=>(match qoC d with | some x => .ok (x,U1) | none => .bad) | .exc x U' => .exc x U' | .bad => .bad:=by
 simp only [qni,bnd]
 cases f U with
 | ok z=>obtain ⟨z1,U1⟩:=z;(dsimp only;cases qoC z1<;>rfl)
 | exc x U'=>rfl
 | bad=>rfl
end
section
variable {X:Cx} {c:Fc}
end
end L2.Sk
namespace L2
open PySem PySem.Spec PyProof.Rows
section
variable {X:Cx} {pins:List (Addr×Obj)} {Z:St} {H:Hp} {s:Shared}
theorem qiV {H:Hp} {a:Addr} {o:HO} (h:H a=none):ji H (upd H a o):=fun b u q=>by rw [qx (qK q h)];exact q
end
end L2
namespace L2.Srt
open PySem PySem.W PyProof.Rows
def runK {α:Type} (cmp:Nat->Nat->Bool):KasT α->α
 | .ret a=>a
 | .ask i j k=>runK cmp (k (cmp i j))
theorem uL {α β:Type} {cmp:Nat->Nat->Bool} {f:α->KasT β}:∀ t:KasT α,runK cmp (t.bind f)=runK cmp (f (runK cmp t))
 | .ret _=>rfl
 | .ask i j k=>uL (k (cmp i j))
def Fits {α:Type} (n:Nat) (R:α->Prop):KasT α->Prop
 | .ret a=>R a
 | .ask i j k=>i<n/\j<n/\∀ b,Fits n R (k b)
theorem Fits.bind {α β:Type} {n:Nat} {R:α->Prop} {R':β->Prop} {f:α->KasT β} (hf:∀ a,R a->Fits n R' (f a)):∀ {t:KasT α},Fits n R t->Fits n R' (t.bind f)
 | .ret _,h=>hf _ h
 | .ask _ _ _,⟨h1,h2,h3⟩=>⟨h1,h2,fun b=>Fits.bind hf (h3 b)⟩
theorem Fits.run {α:Type} {n:Nat} {R:α->Prop} {cmp:Nat->Nat->Bool}:∀ {t:KasT α},Fits n R t->R (runK cmp t)
 | .ret _,h=>h
 | .ask i j k,h=>Fits.run (t:=k (cmp i j)) (h.2.2 (cmp i j))
def Pl (n:Nat) (p:Array Nat):Prop:=p.size=n/\p.toList.Perm (List.range n)
theorem Pl.of_perm {n:Nat} {p q:Array Nat} (h:Pl n p) (hq:q.Perm p):Pl n q:=⟨hq.size_eq.trans h.1,(Array.perm_iff_toList_perm.mp hq).trans h.2⟩
theorem Pl.lt {n:Nat} {p:Array Nat} (h:Pl n p) (hn:0<n) (k:Nat):p.getD k 0<n:=by
 by_cases hk:k<p.size
 ·have e:p.getD k 0=p[k]:=by simp [Array.getD,hk]
  rw [e]
  have hm:p[k]∈p.toList:=by simp
  exact mR_.mp (h.2.mem_iff.mp hm)
 ·have e:p.getD k 0=0:=by simp [Array.getD,hk]
  rw [e];exact hn
theorem Pl.rev {n:Nat} {p:Array Nat} (h:Pl n p) (i j:Nat):Pl n (kas_rev p i j):=h.of_perm (mirror_perm _ _ _ _)
theorem qcS {n:Nat} (hn:0<n) {p:Array Nat} (h:Pl n p):∀ f m,Fits n (fun _=>True) (kas_asc p f m)
 | 0,_=>True.intro
 | f+1,m=>⟨h.lt hn _,h.lt hn _,fun c=>by
  dsimp only
  split
  ·exact True.intro
  ·exact qcS hn h f (m+1)⟩
theorem wS {n:Nat} (hn:0<n):∀ f {p:Array Nat} (_:Pl n p) m q,Fits n (fun r=>Pl n r.1) (kas_desc f p m q)
 | 0,_,h,_,_=>h
 | f+1,p,h,m,q=>⟨h.lt hn _,h.lt hn _,fun c=>by
  dsimp only
  split
  ·split
   ·exact wS hn f (h.rev _ _) _ _
   ·exact wS hn f h _ _
  ·refine ⟨h.lt hn _,h.lt hn _,fun d => ?_⟩
   dsimp only
   split
   ·exact h
   ·exact wS hn f h _ _⟩
theorem qcl {n:Nat} (hn:0<n) {p:Array Nat} (h:Pl n p) (m nrem:Nat):Fits n (fun r=>Pl n r.2) (kas_tail3 m nrem p) :=
 Fits.bind (R:=fun _=>True) (n:=n) (R':=fun r:Nat×Array Nat=>Pl n r.2) (f:=fun k => .ret (k,kas_rev p 0 m)) (fun _ _=>h.rev 0 m) (qcS hn (h.rev _ _) _ _)
theorem wT {n:Nat} (hn:0<n) {p:Array Nat} (h:Pl n p) (m nrem:Nat):Fits n (fun r=>Pl n r.2) (kas_descPart m nrem p) :=
 Fits.bind (R:=fun r=>Pl n r.1) (fun r hr=>by
  split
  ·exact qcl hn (hr.rev _ _) _ _
  ·exact qcl hn hr _ _) (wS hn _ h _ _)
theorem qge {n:Nat} (hn:0<n) {p:Array Nat} (h:Pl n p) (nrem:Nat):Fits n (fun r=>Pl n r.2) (kas_count nrem p) :=
 Fits.bind (R:=fun _=>True) (fun m _=>by
  split
  ·exact h
  ·split
   ·refine ⟨h.lt hn _,h.lt hn _,fun c => ?_⟩
    dsimp only
    split
    ·exact h
    ·exact wT hn (h.rev _ _) _ _
   ·exact wT hn h _ _) (qcS hn h _ _)
theorem qak {n:Nat} (hn:0<n) {p:Array Nat} (h:Pl n p) (k:Nat):∀ f l r,Fits n (fun _=>True) (kas_place p k f l r)
 | 0,_,_=>True.intro
 | f+1,l,r=>by
  unfold kas_place
  split
  ·exact True.intro
  ·refine ⟨h.lt hn _,h.lt hn _,fun c => ?_⟩
   dsimp only
   split
   ·exact qak hn h k f _ _
   ·exact qak hn h k f _ _
theorem qfx {n:Nat} (hn:0<n):∀ f {p:Array Nat} (_:Pl n p) k,Fits n (Pl n) (kas_bin f p k)
 | 0,_,h,_=>h
 | f+1,p,h,k=>Fits.bind (R:=fun _=>True) (fun l _=>qfx hn f (h.of_perm (bubble_perm _ _ _)) _) (qak hn h k _ _ _)
theorem fits_sort {n:Nat} (hn:0<n):Fits n (Pl n) (kas_sort n) :=
 Fits.bind (R:=fun r=>Pl n r.2) (fun r hr=>by
  split
  ·exact qfx hn _ hr _
  ·exact hr) (qge hn ⟨by simp,by simp⟩ _)
def ord (ks:List Int):List Nat:=if ks.length<2 then List.range ks.length else (runK (fun i j=>decide (ks.getD i 0<ks.getD j 0)) (kas_sort ks.length)).toList
theorem ord_perm (ks:List Int):(ord ks).Perm (List.range ks.length):=by
 unfold ord
 split
 ·exact .refl _
 ·exact (Fits.run (fits_sort (by omega))).2
theorem map_getD_range {α:Type} (d:α) (xs:List α):(List.range xs.length).map (fun i=>xs.getD i d)=xs:=by
 refine List.ext_getElem (by simp) fun i h1 h2 => ?_
 simp at h1 |-
 simp [h1]
section
variable {prog:Program} {w:World} {A:Around} {s:Shared}
end
end L2.Srt
set_option maxHeartbeats 1000000
namespace L2
open PySem PySem.Spec PyProof.Rows
structure SS (X:Cx) (H0:Hp) (s0:Shared) (H:Hp) (s:Shared):Prop where
 os:s.os=s0.os
 bare:AllBare s.gens
 un:Un (frs X.stack) [] H0 H s0.heap s.heap
 hok:HOk X.prog X.w H s.heap
 same:ji H0 H
section
variable {X:Cx} {pins:List (Addr×Obj)} {Z:St} {H0 H:Hp} {s0 s:Shared} {h':Heap} {b a kS:Addr}
theorem SS.inv (z:SS X H0 s0 H s) (I:Inv X pins Z H0 s0):Inv X pins Z H s:=by
 obtain ⟨hh,g,d,t,os'⟩:=s
 obtain rfl:os'=s0.os:=z.os
 exact I.call (h':=hh) (g':=g) (d':=d) (t':=t) (ch:=[]) z.un z.hok z.bare (fun b z=>absurd z (by simp))
theorem SS.of (I:Inv X pins Z H s):SS X H s H s:=⟨rfl,I.bare,.refl,I.hok,fun _ _ h=>h⟩
theorem SS.kept (z:SS X H0 s0 H s) (k:∀ b u,s.heap.get? b=some u->h'.get? b=some u) (tk:Nat):SS X H0 s0 H { s with heap:=h',toks:=tk } :=
 ⟨z.os,z.bare,z.un.trans (Un.kept k),z.hok.kept k,z.same⟩
theorem SS.poke (z:SS X H0 s0 H s) (hb:H b=none) (hb0:s0.heap.objs.size<=b) (sb:Heap.SameBut b s.heap h') (tk:Nat):SS X H0 s0 H { s with heap:=h',toks:=tk }:=by
 have ne:∀ c o,s0.heap.get? c=some o->c≠b:=fun c o e=>Nat.ne_of_lt (Nat.lt_of_lt_of_le (Heap.lt_size e) hb0)
 refine ⟨z.os,z.bare,⟨fun c o e n f x=>(sb.2 c (ne c o e)).trans (z.un.keep c o e n f x),fun c o e n f x => ?_,z.un.free,fun c o e x => ?_,z.un.tups,z.un.frzs,z.un.tbls⟩,fun c u q => ?_,z.same⟩
 ·obtain ⟨sl,q⟩:=z.un.slot c o e n f x
  exact ⟨sl,(sb.2 c (ne c o e)).trans q⟩
 ·obtain ⟨o',q⟩:=z.un.there c o e x
  exact ⟨o',(sb.2 c (ne c o e)).trans q⟩
 ·refine (z.hok c u q).stay (fun d v hd r=>(sb.2 d ?_).trans r) (fun _ q=>q) fun _ _ q=>q
  rintro rfl
  rcases hd with rfl | hd
  ·rw [hb] at q;cases q
  ·rw [hb] at hd;cases hd
theorem SS.call {Q:VK} {u:Value} {s':Shared} (z:SS X H0 s0 H s) (h:CE X.stack X.prog X.w H s Q u s') (hq:∀ v H',Q v H'->ji H H'):∃ v H',jN v u/\Q v H'/\SS X H0 s0 H' s'/\Un (frs X.stack) [] H H' s.heap s'.heap:=by
 obtain ⟨v,H',os,bare,un,hok,r,q⟩:=h
 exact ⟨v,H',r,q,⟨os.trans z.os,bare,z.un.trans un,hok,fun b o e=>hq v H' q b o (z.same b o e)⟩,un⟩
end
section
variable {X:Cx} {H0 H:Hp} {s0 s:Shared} {a kS:Addr} {A:Around} {E:Value->Shared->Prop} {f:Value} {vs:List Value} {ks:List Int} {e1:Nat} {P:PySem.Fin->Shared->Prop}
abbrev qln (ks:List Int) (vs:List Value):List Value:=(Srt.ord ks).map fun i=>vs.getD i Value.none
theorem qfy (h:ks.length=vs.length):(qln ks vs).length=vs.length:=by
 rw [lM_,(Srt.ord_perm ks).length_eq,lR_,h]
abbrev qfz (X:Cx) (H0:Hp) (s0:Shared) (a:Addr) (out:List Value) (P:PySem.Fin->Shared->Prop):Prop :=
 ∀ H' s' c,SS X H0 s0 H' s'->H' a=none->s'.heap.get? a=some (seqObj "list" out.toArray c)->P (.done (.ret .none)) s'
theorem qfA {st:SortSt} {out:List Value} {kA:Array Value} {e:Nat} (z:SS X H0 s0 H s) (gk:s.heap.get? kS=some (seqObj "list" kA e)) (ga:s.heap.get? a=some (seqObj "list" #[] e1)) (nk:H kS=none) (na:H a=none)
  (lk:s0.heap.objs.size<=kS) (la:s0.heap.objs.size<=a) (hka:kS≠a) (hkz:kA.size<64) (hoz:out.length<64) (ho:(arrOf st).map (·.2)=out.toArray) (hf:failedOf st=none) (fin:qfz X H0 s0 a out P) :
  wpAny (model X.prog X.w) A (ksk_tail a false e1 (.ref kS) st) P E s:=by
 have sb1:=Heap.SameBut.update s.heap kS (Obj.mapSeq fun _=>(#[]:Array Value))
 have ga1:=(sb1.2 a hka.symm).trans ga
 have z1:=z.poke nk lk sb1 s.toks
 have sb2:=Heap.SameBut.update (s.heap.update kS (Obj.mapSeq fun _=>(#[]:Array Value))) a (Obj.mapSeq fun _=>out.toArray)
 have z2:=z1.poke na la sb2 s.toks
 unfold ksk_tail
 dsimp only
 rw [ho]
 refine wpAny_bind (listUpdate_at gk rfl ?_ (by rw [sizeLine_eq];omega) (Nat.zero_le _))
 refine wpAny_bind (wpAny_letGo (wpAny_bind (seqEpoch_at ga1 rfl ?_)))
 refine wpAny_bind (listUpdate_at ga1 rfl ?_ (Nat.zero_le _) (by show (out.toArray).size<=_;rw [sT_,sizeLine_eq];omega))
 rw [hf]
 simp only [bne_self_eq_false,Bool.false_eq_true,if_false]
 exact wpAny_pure (fin H _ _ z2 na (get?_update_seq ga1 fun _=>out.toArray))
end
section
variable {X:Cx} {pins:List (Addr×Obj)} {Z:St} {H:Hp} {s:Shared} {l f:Addr} {vs:List Value} {ks:List Int} {Q:Value->Shared->Prop} {E:Value->Shared->Prop}
end
end L2
set_option maxHeartbeats 1000000
namespace L2
open PySem PySem.Spec PyProof.Rows
def CallKS (X:Cx) (f:Value) (ks:List Str) (r:St->List V->List V->Hp->VK->Prop):Prop:=∀ (pins:List (Addr×Obj)) (s:Shared) (Z:St) (H:Hp) (xs:List V) (us:List Value) (zs:List V) (ws:List Value) (Q:VK),
 Inv X pins Z H s->zb xs us->zb zs ws->r Z xs zs H Q->wpAny (model X.prog X.w) X.A (call f us (ks.zip ws)) (EP X pins Z Q) X.xe s
theorem qhs {X:Cx} {x:Str} {p pos:Pos} {e:Expr} {es:List Expr} {kws:List Keyword} {t tk:TA} {id:String} {ks:List Str} {r:St->List V->List V->Hp->VK->Prop} (hc:CallKS X (.builtin id) ks r) (hg:Gl X x) (hm:X.mg x=none) (hv:bootBuiltins x=some (.builtin id)) (ha:PA X (e::es) t) (hkw:PK X kws tk)
  (hall:(backToKw pos (keywordEach kws X.env)).all (·.1.isSome)=true:=by rfl) (hks:(backToKw pos (keywordEach kws X.env)).filterMap (·.1)=ks:=by rfl) (hn:x≠"__name__":=by decide) (hdb:(x==("__debug__":Str))=false:=by decide)
  (he:starEach (e::es) X.env=(false,eval e X.env)::starEach es X.env:=by rfl) (hpl:((backTo pos (starEach (e::es) X.env)).any (·.1)||(backToKw pos (keywordEach kws X.env)).any (·.1.isNone))=false:=by rfl) :
  PE X (.Call (.Name x p) (e::es) kws pos) (fun Z H Q=>t Z H fun vs H1=>tk Z H1 fun zs H2=>r Z vs zs H2 Q):=by
 intro pins s Z H Q I h
 refine wpAny_Call_Name_kw (qb9 I hg hm hv ?_ hn hdb)
 refine PySem.W.callWith_of (P:=fun _=>True) hpl (fun _ _=>⟨.machine,.inr (.inl rfl),.now⟩) (evalArgs_kw2 hall (thn (ha pos pins s Z H _ I h) fun us s1 ⟨vs,H1,I1,r1,q1⟩ => ?_) he)
 refine thn (hkw pos pins s1 Z H1 _ I1 q1) fun ws s2 ⟨zs,H2,I2,rz,q2⟩=>⟨trivial,?_⟩
 rw [hks,List.nil_append]
 exact hc pins s2 Z H2 vs us zs ws Q I2 r1 rz q2
theorem qea {ys:List V} {its:List Value} (r:zb ys its):∀ l:List Nat,(∀ i∈l,i<ys.length)->zb (l.map fun i=>ys.getD i .non) (l.map fun i=>its.getD i Value.none)
 | [],_ => .nil
 | i::l,h=>by
  refine .cons ?_ (qea r l fun j hj=>h j (mM _ hj))
  have hi:=h i mS_
  obtain ⟨u,hu,rv⟩:=r.get (gG hi)
  have e1:ys.getD i V.non=ys[i]:=by simp [hi]
  have e2:its.getD i Value.none=u:=by simp [List.getD,hu]
  show jN (ys.getD i V.non) (its.getD i Value.none)
  rw [e1,e2]
  exact rv
section
variable {X:Cx} {N':List Str} {fr:List Nat} {q x:Str} {params:Arguments} {body:Expr} {scope:Scope} {k:Nat}
end
end L2
namespace L2.Sk
open PySem PySem.Spec PyProof.Rows
def qpl (U:Env):List Nat->Option (List D)
 | []=>some []
 | j::fr=>match U[j]?,qpl U fr with
  | some (some d),some ds=>some (d::ds)
  | _,_=>none
def qnj (g:M D) (n:Nat) (cs:List D):List D->Option (List Int)
 | []=>some []
 | d::ds=>match g (uU n (d::cs)),qnj g n cs ds with
  | .ok (.int k,_),some ks=>some (k::ks)
  | _,_=>none
def qgf (l:List Nat) (ds:List D):List D:=l.map fun i=>ds.getD i .non
def qpm (n:Nat) (fr:List Nat) (f g:M D):M D:=bnd f fun d U=>match d with
 | .lst ds=>if ds.length<64 then match qpl U fr with
   | some cs=>match qnj g n cs ds with
    | some ks => .ok (.lst (qgf (Srt.ord ks) ds),U)
    | none => .bad
   | none => .bad
  else .bad
 | _ => .bad
theorem IsL.pick {K:Fr0} {A:Addr->Prop} {H:Hp} {ds:List D} {xs:List V} (il:IsL K A H ds xs):∀ l:List Nat,(∀ i∈l,i<ds.length)->IsL K A H (qgf l ds) (l.map fun i=>xs.getD i .non)
 | [],_=>rfl
 | i::l,h=>by
  have hi:=h i mS_
  obtain ⟨y,hy,iy⟩:=il.get (gG hi)
  refine ⟨xs.getD i .non,_,rfl,?_,IsL.pick il l fun j hj=>h j (mM _ hj)⟩
  have e1:ds.getD i D.non=ds[i]:=by simp [hi]
  have e2:xs.getD i V.non=y:=by simp [List.getD,hy]
  rw [e2]
  show Is K A H (ds.getD i D.non) y
  rw [e1]
  exact iy
section
variable {X:Cx} {c:Fc} {e:Expr} {p pos kpos lpos:Pos} {N':List Str} {fr:List Nat} {x:Str} {params:Arguments} {body:Expr} {scope:Scope} {k:Nat} {c0 Pt:Addr}
end
end L2.Sk
namespace L2
open PySem PySem.Spec PyProof.Rows
theorem walk_lam {l:PySem.W.OpenLaw} {n k:Nat} {q:Program} {loose:List Str} {XP:(Str->Option Value)->Heap->Prop} {YP:World->Heap->Prop} {d:DefRec} {K:Params->PySem.W.Frag} {CX:World->CXT} {sp:World->Sp} {x:Str}
  (hn:l.most=some n) (hn2:n<=sizeLine) (hdf:d.params.defaults=[]) (hr:uD k callerA)
  (hY:∀ (w:World) (h:Heap),YP w h->(K w.params).In h) {lm:World->Option (Addr×Addr×Pos×Str)}
  (hlm:∀ (w:World) (mean:ExcName->Option Value) (mg mb:Str->Option Value) (h:Heap) (c Pt:Addr) (pos:Pos) (z:Str),Top q (PySem.W.looseW q loose) mean mg mb h->(K w.params).In h->lm w=some (c,Pt,pos,z) ->
   PySem.W.CodeHd h c Pt/\h.get? Pt=some (PySem.W.tabObj #[])/\(K w.params).lookup Pt=none)
  (F : ∀ (w:World) (mg:Str->Option Value) (fa:Addr) (h:Heap),(K w.params).In h->h.Ns mainGlobals mg->mg d.name=some (.ref fa) ->
   ∃ fd:FuncData,(∀ (s:Shared) (u:Value),BindsTo s fd ⟨[u],[]⟩ [(x,u)]) /\
    ∀ base:Heap,(K w.params).In base->base.Ns mainGlobals mg->qcc l.prog w (K w.params) mg base (CX w) k fa fd [x] (sp w))
  (hsp:∀ (w:World) (H:Hp) (a:Addr) (ns:List Int),ns.length<=n->qnS H->(∀ c Pt pos z,lm w=some (c,Pt,pos,z)->H Pt=some (.lam pos z))->SqL (K w.params) H a (ns.map V.int)->sp w [.ref a] H (fun v _=>v = .bl true) fun _ _ _=>False)
  (hCX:∀ (w:World) (H:Hp) (s:Shared) (e:Value) (s':Shared),CX w [] H s (fun _ _ _=>False) e s'->False) :
  PySem.W.WalkO q loose XP YP l.row.toRowW d [] (fun f vs=>PySem.call f vs):=by
 refine Att.attach_call hn hdf fun w s₀ sQ mg mb fa o pm cd doc a vs ns G Y ho hd hcd hmg hobj hints hlen hg => ?_
 have KX:=hY w _ Y
 obtain ⟨fd,hb,hF⟩:=F w mg fa _ KX G.T.g hmg
 exact qiv (lm:=lm w) KX G.T.g G.T.b G.T.builtins G.T.nolimit G.T.bmain (fun c Pt pos z=>hlm w _ mg mb _ c Pt pos z G.T KX) hg hobj hints (Nat.le_trans hlen hn2) hr hF hb (fun H hO hT hS=>hsp w H a ns hlen hO hT hS) fun H e s'=>hCX w H sQ e s'
end L2
namespace L2.Sk
open PySem PySem.Spec PyProof.Rows
section
variable {P:Program} {w:World} {K:PySem.W.Frag} {mg:Str->Option Value} {base:Heap}
end
section
variable {X:Cx} {c:Fc} {a b e:Expr} {pos:Pos}
def qoE (i:Nat) (f:M D):M D:=fun U=>match zB i U with
 | none => .bad
 | some _=>(bnd f fun d U=>match d,(zB i U).bind v3 with
  | .int b,some ns=>match ns.findIdx? (·==b) with
   | some j => .ok (.non,U.set i (some (.lst ((ns.eraseIdx j).map D.int))))
   | none => .bad
  | _,_ => .bad) U
end
end L2.Sk
namespace L2.Sk
open PySem PySem.Spec PyProof.Rows
section
variable {X:Cx}
end
def qp7:D->D->Option D
 | .bl a,.bl b=>some (.bl (a==b))
 | _,_=>none
end L2.Sk
namespace L2
open PySem PySem.Spec PyProof.Rows
section
variable {X:Cx} {pos:Pos}
end
end L2
namespace L2.Sk
open PySem PySem.Spec PyProof.Rows
section
variable {X:Cx} {c:Fc}
end
end L2.Sk
set_option maxHeartbeats 1000000
namespace L2
open PySem PySem.Spec PyProof.Rows
abbrev yB:=Int×Int×List Int
def lt3 (x y:yB):Bool:=if x.1=y.1 then if x.2.1=y.2.1 then HT.lexLt x.2.2 y.2.2 else decide (x.2.1<y.2.1) else decide (x.1<y.1)
theorem qeM:∀ a:List Int,HT.lexLt a a=false
 | []=>rfl
 | x::a=>by rw [HT.lexLt_cons,if_pos rfl];exact qeM a
theorem qfB:∀ a b:List Int,HT.lexLt a b=true->HT.lexLt b a=false
 | [],[],_=>rfl
 | [],_::_,_=>rfl
 | _::_,[],h=>by cases h
 | x::a,y::b,h=>by
  rw [HT.lexLt_cons] at h |-
  by_cases c:x=y
  ·subst c
   rw [if_pos rfl] at h |-
   exact qfB a b h
  ·rw [if_neg c] at h
   rw [if_neg fun z=>c z.symm]
   have:=of_decide_eq_true h
   exact decide_eq_false (by omega)
theorem qht:∀ a b c:List Int,HT.lexLt a c=true->HT.lexLt a b=true\/HT.lexLt b c=true
 | a,[],[],h=>by cases a<;>cases h
 | _,[],_::_,_ => .inr rfl
 | [],_::_,_,_ => .inl rfl
 | _::_,_::_,[],h=>by cases h
 | x :: a,y::b,z::c,h=>by
  rw [HT.lexLt_cons] at h
  rw [HT.lexLt_cons,HT.lexLt_cons]
  by_cases e1:x=y
  ·subst e1
   by_cases e2:x=z
   ·rw [if_pos e2] at h |-
    rw [if_pos rfl]
    exact qht a b c h
   ·rw [if_neg e2] at h |-
    exact .inr h
  ·by_cases e2:y=z
   ·subst e2
    rw [if_neg e1] at h |-
    exact .inl h
   ·rw [if_neg e1,if_neg e2]
    by_cases e3:x=z
    ·subst e3
     simp only [decide_eq_true_eq]
     omega
    ·rw [if_neg e3] at h
     simp only [decide_eq_true_eq] at h |-
     omega
theorem qlo (x:yB):lt3 x x=false:=by unfold lt3;rw [if_pos rfl,if_pos rfl];exact qeM _
theorem qiW (x y:yB) (h:lt3 x y=true):lt3 y x=false:=by
 unfold lt3 at h |-
 by_cases c:x.1=y.1
 ·rw [if_pos c] at h;rw [if_pos c.symm]
  by_cases d:x.2.1=y.2.1
  ·rw [if_pos d] at h;rw [if_pos d.symm];exact qfB _ _ h
  ·rw [if_neg d] at h;rw [if_neg fun z=>d z.symm]
   have:=of_decide_eq_true h
   exact decide_eq_false (by omega)
 ·rw [if_neg c] at h;rw [if_neg fun z=>c z.symm]
  have:=of_decide_eq_true h
  exact decide_eq_false (by omega)
theorem qhu (x y z:yB) (h:lt3 x z=true):lt3 x y=true\/lt3 y z=true:=by
 obtain ⟨x1,x2,x3⟩:=x
 obtain ⟨y1,y2,y3⟩:=y
 obtain ⟨z1,z2,z3⟩:=z
 unfold lt3 at h |-
 dsimp only at h |-
 by_cases e1:x1=y1
 ·subst e1
  by_cases e2:x1=z1
  ·rw [if_pos e2] at h |-
   rw [if_pos rfl]
   by_cases f1:x2=y2
   ·subst f1
    by_cases f2:x2=z2
    ·rw [if_pos f2] at h |-
     rw [if_pos rfl]
     exact qht _ _ _ h
    ·rw [if_neg f2] at h |-
     exact .inr h
   ·by_cases f2:y2=z2
    ·subst f2
     rw [if_neg f1] at h |-
     exact .inl h
    ·rw [if_neg f1,if_neg f2]
     by_cases f3:x2=z2
     ·subst f3
      simp only [decide_eq_true_eq]
      omega
     ·rw [if_neg f3] at h
      simp only [decide_eq_true_eq] at h |-
      omega
  ·rw [if_neg e2] at h |-
   exact .inr h
 ·by_cases e2:y1=z1
  ·subst e2
   rw [if_neg e1] at h |-
   exact .inl h
  ·rw [if_neg e1,if_neg e2]
   by_cases e3:x1=z1
   ·subst e3
    simp only [decide_eq_true_eq]
    omega
   ·rw [if_neg e3] at h
    simp only [decide_eq_true_eq] at h |-
    omega
def qcT (ks:List yB) (k:yB):Int:=((ks.countP fun y=>lt3 y k:Nat):Int)
def zh (ks:List yB):List Int:=ks.map (qcT ks)
theorem qhv {ks:List yB} {x y:yB} (hx:x∈ks):decide (qcT ks x<qcT ks y)=lt3 x y:=by
 have mono:∀ (p q:yB->Bool) (l:List yB),(∀ z,p z=true->q z=true)->l.countP p<=l.countP q:=fun p q l h=>List.countP_mono_left fun z _=>h z
 cases c:lt3 x y with
 | true =>
  apply decide_eq_true
  have sub:∀ z,lt3 z x=true->lt3 z y=true:=fun z hz=>by
   rcases qhu z y x hz with h | h
   ·exact h
   ·rw [qiW x y c] at h;cases h
  have strict:∀ l:List yB,x∈l->l.countP (fun z=>lt3 z x)<l.countP (fun z=>lt3 z y):=fun l=>by
   induction l with
   | nil=>intro h;cases h
   | cons a l ih =>
    intro h
    rw [List.countP_cons,List.countP_cons]
    rcases List.mem_cons.mp h with rfl | h
    ·rw [qlo,c]
     have:=mono (fun z=>lt3 z x) (fun z=>lt3 z y) l sub
     simp only [Bool.false_eq_true,if_false,if_true]
     omega
    ·have:=ih h
     cases d:lt3 a x with
     | true=>rw [sub a d];simp only [if_true];omega
     | false=>simp only [Bool.false_eq_true,if_false];split<;>omega
  have:=strict ks hx
  unfold qcT
  omega
 | false =>
  apply decide_eq_false
  have sub:∀ z,lt3 z y=true->lt3 z x=true:=fun z hz=>by
   rcases qhu z x y hz with h | h
   ·exact h
   ·rw [c] at h;cases h
  have:=mono (fun z=>lt3 z y) (fun z=>lt3 z x) ks sub
  unfold qcT
  omega
theorem jO (ks:List yB):(zh ks).length=ks.length:=lM_ _
def KAt (K:PySem.W.Frag) (H:Hp) (k:yB) (v:V):Prop:=∃ p q,v = .ref p/\Sk.TupAt K H p [.int k.1,.int k.2.1,.ref q]/\Sk.TupAt K H q (k.2.2.map V.int)
inductive qgg (K:PySem.W.Frag) (H:Hp):List yB->List V->Prop
 | nil:qgg K H [] []
 | cons {k:yB} {v:V} {ks:List yB} {vs:List V}:KAt K H k v->qgg K H ks vs->qgg K H (k::ks) (v::vs)
theorem qcm {K:PySem.W.Frag} {H H':Hp} {a:Addr} {xs:List V} (sm:ji H H') (h:Sk.TupAt K H a xs):Sk.TupAt K H' a xs:=by
 rcases h with h | h
 ·exact .inl (sm _ _ h)
 ·exact .inr h
theorem KAt.same {K:PySem.W.Frag} {H H':Hp} {k:yB} {v:V} (sm:ji H H') (h:KAt K H k v):KAt K H' k v:=by
 obtain ⟨p,q,e,h1,h2⟩:=h
 exact ⟨p,q,e,qcm sm h1,qcm sm h2⟩
theorem qgg.same {K:PySem.W.Frag} {H H':Hp} {ks:List yB} {vs:List V} (sm:ji H H') (h:qgg K H ks vs):qgg K H' ks vs:=by
 induction h with
 | nil=>exact .nil
 | cons a _ ih=>exact .cons (a.same sm) ih
theorem qgg.snoc {K:PySem.W.Frag} {H:Hp} {k:yB} {v:V} {ks:List yB} {vs:List V} (h:qgg K H ks vs) (a:KAt K H k v):qgg K H (ks++[k]) (vs++[v]):=by
 induction h with
 | nil=>exact .cons a .nil
 | cons b _ ih=>exact .cons b ih
def K3V (h:Heap) (k:yB) (u:Value):Prop:=∃ p q t1 t2 its,u = .ref p/\IsTup h p #[.int k.1 t1,.int k.2.1 t2,.ref q]/\IsTup h q its/\IntsAre its.toList k.2.2
inductive qie (h:Heap):List yB->List Value->Prop
 | nil:qie h [] []
 | cons {k:yB} {v:Value} {ks:List yB} {vs:List Value}:K3V h k v->qie h ks vs->qie h (k::ks) (v::vs)
theorem qie.length {h:Heap} {ks:List yB} {vs:List Value} (x:qie h ks vs):ks.length=vs.length:=by
 induction x with
 | nil=>rfl
 | cons _ _ ih=>rw [lC_,lC_,ih]
theorem qie.get {h:Heap} {ks:List yB} {vs:List Value} (x:qie h ks vs):∀ {i:Nat},i<ks.length->K3V h (ks.getD i (0,0,[])) (vs.getD i Value.none):=by
 induction x with
 | nil=>intro i hi;exact absurd hi (Nat.not_lt_zero _)
 | cons a _ ih =>
  intro i hi
  cases i with
  | zero=>exact a
  | succ i=>exact ih (by simpa using hi)
section
variable {X:Cx} {pins:List (Addr×Obj)} {Z:St} {H:Hp} {s:Shared}
theorem qoF (I:Inv X pins Z H s) {k:yB} {v:V} {u:Value} (r:jN v u) (h:KAt X.K H k v):K3V s.heap k u:=by
 obtain ⟨p,q,rfl,h1,h2⟩:=h
 cases r
 obtain ⟨its,r1,t1,_⟩:=I.tuple h1.sq
 obtain ⟨its2,r2,t2,_⟩:=I.tuple h2.sq
 cases r1 with
 | cons ra rr =>
 cases rr with
 | cons rb rr =>
 cases rr with
 | cons rc rr =>
 cases rr
 obtain ⟨ta,rfl⟩:=ra
 obtain ⟨tb,rfl⟩:=rb
 cases rc
 exact ⟨p,q,ta,tb,its2.toArray,rfl,t1,t2,by simpa using qae r2⟩
theorem qnk (I:Inv X pins Z H s) {ks:List yB} {vs:List V} (h:qgg X.K H ks vs):∀ {us:List Value},zb vs us->qie s.heap ks us:=by
 induction h with
 | nil=>intro us r;cases r;exact .nil
 | cons a _ ih=>intro us r;cases r with | cons ra rr=>exact .cons (qoF I ra a) (ih rr)
end
theorem qcn {prog:Program} {w:World} {vs:List Value} {ns:List Int} (h:IntsAre vs ns):ItemsAre (intKind prog w) ns vs:=by
 induction h with
 | nil=>exact .nil
 | cons n t _ ih=>exact .cons (by simp [intKind,Value.isInt]) ih
section
variable {prog:Program} {w:World} {A:Around} {E:Value->Shared->Prop} {s:Shared}
theorem qnl {kx ky:yB} {u v:Value} {Q:Bool->Shared->Prop} (hu:A.units<cLine) (hx:K3V s.heap kx u) (hy:K3V s.heap ky v) (h:Q (lt3 kx ky) s) :
  wpAny (model prog w) A (PyProof.Rows.keyLt' (PyProof.Rows.tuples' true) u v) Q E s:=by
 obtain ⟨p,q,t1,t2,its,rfl,hp,hq,hi⟩:=hx
 obtain ⟨p',q',t1',t2',its',rfl,hp',hq',hi'⟩:=hy
 obtain ⟨o,ho,hc,n,hd⟩:=id hp
 obtain ⟨o',ho',hc',n',hd'⟩:=id hp'
 refine PySem.W.kat_lt ho hd ho' hd' ?_
 show PySem.W.KatLex prog w A true (decide (3<3)) Q [(.int kx.1 t1,.int ky.1 t1'),(.int kx.2.1 t2,.int ky.2.1 t2'),(.ref q,.ref q')] 0 s
 unfold lt3 at h
 refine PySem.W.kat_cons (wpAny_eqBool_int ?_)
 by_cases c:kx.1=ky.1
 ·rw [if_pos c] at h
  rw [show (kx.1==ky.1)=true by simp [c]]
  refine PySem.W.kat_yes (PySem.W.kat_cons (wpAny_eqBool_int ?_))
  by_cases d:kx.2.1=ky.2.1
  ·rw [if_pos d] at h
   rw [show (kx.2.1==ky.2.1)=true by simp [d]]
   refine PySem.W.kat_yes (PySem.W.kat_cons ?_)
   have kq:IsTupleKey (intKind prog w) s.heap kx.2.2 q:=by
    obtain ⟨o2,a1,a2,n2,a3⟩:=hq
    exact ⟨o2,its,n2,a1,a2,a3,qcn hi⟩
   have kq':IsTupleKey (intKind prog w) s.heap ky.2.2 q':=by
    obtain ⟨o2,a1,a2,n2,a3⟩:=hq'
    exact ⟨o2,its',n2,a1,a2,a3,qcn hi'⟩
   refine wpAny_eqBool_tuple hu kq kq' ?_
   by_cases e:kx.2.2=ky.2.2
   ·rw [decide_eq_true e]
    rw [e,qeM] at h
    exact PySem.W.kat_yes (PySem.W.kat_nil h)
   ·rw [decide_eq_false e]
    exact PySem.W.kat_no (PySem.W.kat_one _ _ (HT.lt_tupInts hq hq' hi hi' hu h))
  ·rw [if_neg d] at h
   rw [show (kx.2.1==ky.2.1)=false by simp [d]]
   exact PySem.W.kat_no (PySem.W.kat_one _ _ (lt_int h))
 ·rw [if_neg c] at h
  rw [show (kx.1==ky.1)=false by simp [c]]
  exact PySem.W.kat_no (oneLt_int h)
theorem qiX {ks:List yB} {vs:List Value} (x:qie s.heap ks vs):∃ fs:List Value,PySem.W.KatTups s.heap vs fs/\fs.length=ks.length/\∀ v∈fs,∃ i t,v=Value.int i t:=by
 induction x with
 | nil=>exact ⟨[],.nil,rfl,fun v hv=>by cases hv⟩
 | @cons k v ks vs a _ ih =>
  obtain ⟨fs,h1,h2,h3⟩:=ih
  obtain ⟨p,q,t1,t2,its,rfl,⟨o,ho,hc,n,hd⟩,_,_⟩:=a
  refine ⟨.int k.1 t1::fs,.cons ho hc hd rfl h1,by rw [lC_,lC_,h2],fun v hv => ?_⟩
  rcases List.mem_cons.mp hv with rfl | hv
  ·exact ⟨_,_,rfl⟩
  ·exact h3 v hv
theorem qhw {α:Type} {vs:List Value} {ks:List yB} {R:α->Prop} {G:α->Shared->Prop} (hu:A.units<cLine) (hk:qie s.heap ks vs):∀ {t:PySem.W.KasT α},Srt.Fits ks.length R t ->
  G (Srt.runK (fun i j=>decide ((zh ks).getD i 0<(zh ks).getD j 0)) t) s->t.kasWp (PySem.W.kas_ask prog w A (PyProof.Rows.tuples' true) vs) G s
 | .ret _,_,h=>h
 | .ask i j k,⟨h1,h2,h3⟩,h=>by
  have e1:(zh ks).getD i 0=qcT ks (ks.getD i (0,0,[])):=by unfold zh;simp [h1]
  have e2:(zh ks).getD j 0=qcT ks (ks.getD j (0,0,[])):=by unfold zh;simp [h2]
  have hm:ks.getD i (0,0,[])∈ks:=by simp [h1]
  have h':G (Srt.runK (fun i j=>decide ((zh ks).getD i 0<(zh ks).getD j 0)) (k (decide ((zh ks).getD i 0<(zh ks).getD j 0)))) s:=h
  rw [e1,e2,qhv hm] at h'
  show wpAny (model prog w) A (PyProof.Rows.keyLt' (PyProof.Rows.tuples' true) (vs.getD i Value.none) (vs.getD j Value.none)) _ _ s
  exact qnl hu (hk.get h1) (hk.get h2) (qhw hu hk (h3 _) h')
end
section
variable {X:Cx} {pins:List (Addr×Obj)} {Z:St} {H0 H:Hp} {s0 s:Shared} {a kS:Addr} {A:Around} {E:Value->Shared->Prop} {f:Value} {vs:List Value} {ks:List yB} {e1:Nat} {P:PySem.Fin->Shared->Prop}
theorem qiY {kA:Array Value} {e:Nat} {vk:List V} (I0:Inv X pins Z H0 s0) (hu:A.units<cLine) (z:SS X H0 s0 H s) (gk:s.heap.get? kS=some (seqObj "list" kA e)) (ga:s.heap.get? a=some (seqObj "list" #[] e1)) (nk:H kS=none) (na:H a=none)
  (lk:s0.heap.objs.size<=kS) (la:s0.heap.objs.size<=a) (hka:kS≠a) (hkv:zb vk kA.toList) (hk:qgg X.K H ks vk) (hlen:ks.length=vs.length) (h64:vs.length<64) (fin:qfz X H0 s0 a (qln (zh ks) vs) P) :
  wpAny (model X.prog X.w) A (ksk_end a false vs.toArray e1 (.ref kS) kA) P E s:=by
 have kv:=qnk (z.inv I0) hk hkv
 have hrl:(zh ks).length=vs.length:=(jO ks).trans hlen
 have hkz:kA.size=vs.length:=by
  have h1:=kv.length
  rw [<- Array.length_toList,<- h1,hlen]
 unfold ksk_end
 dsimp only
 rw [if_neg (by decide)]
 by_cases h2:vs.length<2
 ·have h2':vs.toArray.size<2:=by rw [sT_];exact h2
  rw [if_pos h2',if_pos h2']
  refine wpAny_bind (wpAny_pure ?_)
  rw [StateT.run_pure]
  refine wpAny_bind (wpAny_pure ?_)
  dsimp only
  refine qfA z gk ga nk na lk la hka (by omega) (by rw [qfy hrl];exact h64) ?_ rfl fin
  have e0:qln (zh ks) vs=vs:=by
   show (Srt.ord (zh ks)).map _=vs
   unfold Srt.ord
   rw [if_pos (by omega),hrl]
   exact Srt.map_getD_range _ vs
  rw [e0]
  apply Array.toList_inj.mp
  show ((kA.zip vs.toArray).map (·.2)).toList=vs.toArray.toList
  rw [Array.toList_map,ksk_zip,List.map_snd_zip (Nat.le_of_eq (by rw [Array.length_toList];exact hkz.symm))]
 ·have h2':¬ vs.toArray.size<2:=by rw [sT_];exact h2
  rw [if_neg h2',if_neg h2']
  have ekA:kA=kA.toList.toArray:=by simp
  obtain ⟨fs,t1,t2,t3⟩:=qiX kv
  refine wpAny_bind ?_
  rw [ekA]
  refine PySem.W.kat_kind (T := .type "int") t1 (by omega) (fun v hv => ?_) rfl ?_
  ·obtain ⟨i,t,rfl⟩:=t3 v hv
   exact .now
  have hl:kA.toList.length=vs.length:=by rw [Array.length_toList];exact hkz
  show wpAny _ _ _ _ _ _
  refine wpAny_bind (wpAny_mono (PySem.W.kat_run (κ:=PyProof.Rows.tuples' true) (Q:=fun st' s'=>s'=s/\(arrOf st').map (·.2)=(qln (zh ks) vs).toArray/\failedOf st'=none) (G:=fun p s'=>s'=s/\p.toList=Srt.ord (zh ks)) hl (by omega) h64 (fun p st' s' a1 a2 a3 a4 => ?_) ?_) ?_ fun _ _ x=>x)
  ·refine ⟨a4.1,?_,a3⟩
   rw [PySem.W.kat_snds hl a2,a4.2]
  ·have ft:=Srt.fits_sort (n:=ks.length) (by omega)
   rw [<- hlen]
   refine qhw hu kv ft ⟨rfl,?_⟩
   unfold Srt.ord
   rw [if_neg (by omega),jO]
  ·rintro ⟨⟨⟩,st'⟩ s' ⟨rfl,h3,h4⟩
   dsimp only
   exact qfA z gk ga nk na lk la hka (by omega) (by rw [qfy hrl];exact h64) h3 h4 fin
abbrev qhx (X:Cx) (H0:Hp) (s0:Shared) (A:Around) (f v:Value) (k:yB):Prop:=∀ s' H',SS X H0 s0 H' s' ->
 wpAny (model X.prog X.w) A (call f [v]) (fun u s2=>∃ x H2,jN x u/\KAt X.K H2 k x/\SS X H0 s0 H2 s2/\Un (frs X.stack) [] H' H2 s'.heap s2.heap/\ji H' H2) (fun _ _=>False) s'
theorem qhy (I0:Inv X pins Z H0 s0) (hu:A.units<cLine) (z:SS X H0 s0 H s) (gk:s.heap.get? kS=some (seqObj "list" #[] 0)) (ga:s.heap.get? a=some (seqObj "list" #[] e1)) (nk:H kS=none) (na:H a=none)
  (lk:s0.heap.objs.size<=kS) (la:s0.heap.objs.size<=a) (hka:kS≠a) (hlen:ks.length=vs.length) (h64:vs.length<64) (hfr:∀ b∈frs X.stack,b<s0.heap.objs.size)
  (turn:∀ (i:Nat) (v:Value) (k:yB),vs[i]? = some v->ks[i]? = some k->qhx X H0 s0 A f v k) (fin:qfz X H0 s0 a (qln (zh ks) vs) P):wpAny (model X.prog X.w) A (ksk_rest a f false vs.toArray e1 (.ref kS)) P E s:=by
 have nf:∀ c,s0.heap.objs.size<=c->c ∉ frs X.stack:=fun c hc hm=>absurd (Nat.lt_of_lt_of_le (hfr c hm) hc) (Nat.lt_irrefl _)
 unfold ksk_rest
 refine wpAny_bind (wpAny_rule ?_)
 rw [List.forIn_toArray]
 refine wpAny_bind (ksk_fold (fun i s'=>∃ H' kA e vk,SS X H0 s0 H' s'/\H' kS=none/\H' a=none/\s'.heap.get? kS=some (seqObj "list" kA e)/\s'.heap.get? a=some (seqObj "list" #[] e1)/\zb vk kA.toList/\qgg X.K H' (ks.take i) vk/\kA.size=min i vs.length) vs 0 s
  ⟨H,#[],0,[],z,nk,na,gk,ga,.nil,by simpa using qgg.nil,by simp⟩ ?step ?done)
 case step =>
  rintro j x s' hx ⟨H',kA,e,vk,z',k1,a1,g1,g2,hi,hki,hz0⟩
  rw [Nat.zero_add] at hki hz0 |-
  have hj:j<vs.length:=(gI_.mp hx).1
  obtain ⟨k,hkj⟩:∃ k,ks[j]? = some k:=⟨_,gG (by omega)⟩
  have hz:kA.size<=vs.length:=by omega
  refine wpAny_bind (wpAny_attempt (wpAny_mono (turn j x k hx hkj s' H' z') (fun v s2 hv => ?_) fun _ _ hF=>hF.elim))
  obtain ⟨y,H2,ry,ky,z2,u2,sm2⟩:=hv
  dsimp only
  have gk2:=u2.keep kS _ g1 k1 (nf kS lk) (by simp)
  have ga2:=u2.keep a _ g2 a1 (nf a la) (by simp)
  have nk2:=u2.free kS _ g1 k1 (by simp)
  have na2:=u2.free a _ g2 a1 (by simp)
  have sb:=Heap.SameBut.update s2.heap kS (Obj.mapSeq (·.push v))
  refine wpAny_bind (listUpdate_at gk2 rfl ?_ (by rw [sizeLine_eq];omega) (by show (kA.push _).size<=_;rw [Array.size_push,sizeLine_eq];omega))
  refine wpAny_pure ⟨rfl,H2,kA.push v,_,vk++[y],z2.poke nk2 lk sb s2.toks,nk2,na2,get?_update_seq gk2 (·.push v),(sb.2 a hka.symm).trans ga2,?_,?_,?_⟩
  ·have ea:(kA.push v).toList=kA.toList++[v]:=by simp
   rw [ea]
   exact hi.append (.cons ry .nil)
  ·have ek:ks.take (j+1)=ks.take j++[k]:=by rw [List.take_add_one,hkj];simp
   rw [ek]
   exact (hki.same sm2).snoc ky
  ·rw [Array.size_push];omega
 case done =>
  rintro s' ⟨H',kA,e,vk,z',k1,a1,g1,g2,hi,hki,hz0⟩
  have e3:ks.take (0+vs.length)=ks:=List.take_of_length_le (by omega)
  rw [e3] at hki
  refine wpAny_bind (listItems_at g1 rfl ?_)
  exact qiY I0 hu z' g1 g2 k1 a1 lk la hka hi hki hlen h64 fin
theorem qhz {n:Nat} (I0:Inv X pins Z H0 s0) (hu:A.units<cLine) (z:SS X H0 s0 H s) (ho:s.heap.get? a=some (seqObj "list" vs.toArray n)) (na:H a=none) (la:s0.heap.objs.size<=a) (hs0:s0.heap.objs.size<=s.heap.objs.size) (hlen:ks.length=vs.length) (h64:vs.length<64) (hfr:∀ b∈frs X.stack,b<s0.heap.objs.size)
  (turn:∀ (i:Nat) (v:Value) (k:yB),vs[i]? = some v->ks[i]? = some k->qhx X H0 s0 A f v k) (fin:qfz X H0 s0 a (qln (zh ks) vs) P):wpAny (model X.prog X.w) A (ksk_tree a f false) P E s:=by
 have hlt:a<s.heap.objs.size:=Heap.lt_size ho
 have sb:=Heap.SameBut.update s.heap a (Obj.mapSeq fun _=>(#[]:Array Value))
 obtain ⟨e1,ho1⟩:∃ e1,(s.heap.update a (Obj.mapSeq fun _=>(#[]:Array Value))).get? a=some (seqObj "list" #[] e1):=⟨_,get?_update_seq ho fun _ => #[]⟩
 have z1:=z.poke na la sb s.toks
 have hsz:((s.heap.update a (Obj.mapSeq fun _=>(#[]:Array Value))).push (seqObj "tuple" vs.toArray 0)).objs.size=s.heap.objs.size+1:=by rw [size_push',Heap.size_update]
 unfold ksk_tree
 refine wpAny_bind (listItems_at ho rfl (wpAny_bind (listUpdate_at ho rfl ?_ (by rw [sT_,sizeLine_eq];omega) (Nat.zero_le _))))
 refine wpAny_bind (seqEpoch_at ho1 rfl (wpAny_bind (wpAny_newTuple ?_ (by show vs.length<=_;rw [sizeLine_eq];omega))))
 refine wpAny_bind (wpAny_newList (wpAny_holding ?_) (Nat.zero_le _))
 have kp:∀ b u,(s.heap.update a (Obj.mapSeq fun _=>(#[]:Array Value))).get? b=some u->(((s.heap.update a (Obj.mapSeq fun _=>(#[]:Array Value))).push (seqObj "tuple" vs.toArray 0)).push (seqObj "list" #[] 0)).get? b=some u :=
  fun b u q=>Heap.get?_push_of_some _ (Heap.get?_push_of_some _ q)
 have z3:=z1.kept kp s.toks
 refine qhy I0 hu (kS:=((s.heap.update a (Obj.mapSeq fun _=>(#[]:Array Value))).push (seqObj "tuple" vs.toArray 0)).objs.size) z3 (Heap.get?_push_size _ rfl) (kp _ _ ho1) ?_ na (by rw [hsz];omega) la (by rw [hsz];exact Nat.ne_of_gt (Nat.lt_succ_of_lt hlt)) hlen h64 hfr turn fin
 cases q:H ((s.heap.update a (Obj.mapSeq fun _=>(#[]:Array Value))).push (seqObj "tuple" vs.toArray 0)).objs.size with
 | none=>rfl
 | some u =>
  have:=z.hok.lt q
  rw [hsz] at this
  exact absurd (Nat.lt_of_succ_lt this) (Nat.lt_irrefl _)
end
section
variable {X:Cx} {pins:List (Addr×Obj)} {Z:St} {H:Hp} {s:Shared} {l f:Addr} {vs:List Value} {ks:List yB} {Q:Value->Shared->Prop} {E:Value->Shared->Prop}
theorem qeN (hu:X.A.in1.in1.units<cLine) (I:Inv X pins Z H s) (hl:s.heap.IsList l vs.toArray) (hlen:ks.length=vs.length) (h64:vs.length<64) (turn:∀ (i:Nat) (v:Value) (k:yB),vs[i]? = some v->ks[i]? = some k->qhx X H s X.A.in1.in1 (.ref f) v k)
  (fin:∀ D H' s' c,s.heap.objs.size<=D->SS X H s H' s'->H' D=none->s'.heap.get? D=some (seqObj "list" (qln (zh ks) vs).toArray c)->Q (.ref D) s'):wpAny (model X.prog X.w) X.A (call (.builtin "sorted") [.ref l] [(Str.ofString "key",.ref f)]) Q E s:=by
 refine call_function_entry_kw kind_sorted plain_sorted entry_sorted (ksk_s1 _ _) ?_
 unfold Builtin.«sorted»
 refine wpAny_bind (m:=checkCount "sorted" 1 1 _) (wpAny_pure (wpAny_bind (collect_list hl ?_ (by rw [sizeLine_eq];omega))))
 refine wpAny_bind (wpAny_newList ?_ (by rw [sizeLine_eq];omega))
 have hsz:((s.heap.push (seqObj "list" #[] 0)).update s.heap.objs.size (Obj.mapSeq (·++vs.toArray))).objs.size=s.heap.objs.size+1:=by rw [Heap.size_update,size_push']
 have hD:(((s.heap.push (seqObj "list" #[] 0)).update s.heap.objs.size (Obj.mapSeq (·++vs.toArray))).push (seqObj "list" vs.toArray 0)).get? (s.heap.objs.size+1)=some (seqObj "list" vs.toArray 0):=by rw [<- hsz];exact Heap.get?_push_size _ rfl
 have keep:∀ b o,s.heap.get? b=some o->(((s.heap.push (seqObj "list" #[] 0)).update s.heap.objs.size (Obj.mapSeq (·++vs.toArray))).push (seqObj "list" vs.toArray 0)).get? b=some o:=fun b o q=>by
  have hb:=Heap.lt_size q
  rw [Heap.get?_push_ne _ _ _ (by rw [hsz];exact Nat.ne_of_lt (Nat.lt_succ_of_lt hb)),Heap.get?_update_ne _ _ _ _ (Nat.ne_of_lt hb),Heap.get?_push_ne _ _ _ (Nat.ne_of_lt hb)]
  exact q
 have z:=(SS.of I).kept keep s.toks
 have hfr:∀ b∈frs X.stack,b<s.heap.objs.size:=fun b hb=>by
  obtain ⟨_,o,ho,_⟩:=I.stack.mem hb
  exact Heap.lt_size ho
 have hszs:s.heap.objs.size<=(((s.heap.push (seqObj "list" #[] 0)).update s.heap.objs.size (Obj.mapSeq (·++vs.toArray))).push (seqObj "list" vs.toArray 0)).objs.size:=by rw [size_push',hsz];omega
 show wpAny _ _ _ _ _ { s with heap:=((s.heap.push (seqObj "list" #[] 0)).update s.heap.objs.size (Obj.mapSeq (·++vs.toArray))).push (seqObj "list" vs.toArray 0) }
 rw [hsz]
 refine wpAny_bind (wpAny_holding (wpAny_call_entry_kw slot_list_sort ⟨_,hD,rfl⟩ entry_list_sort ?body (ksk_l1 _ _)))
 case body =>
  show wpAny (model X.prog X.w) X.A.in1.in1 (Builtin.«list.sort» ⟨[.ref (s.heap.objs.size+1)],[(Str.ofString "key",.ref f)]⟩) _ _ _
  rw [ksk_t1]
  refine qhz I hu (X:=X) (H0:=H) (s0:=s) (H:=H) z hD (I.hok.fresh (Nat.le_succ _)) (Nat.le_succ _) hszs hlen h64 hfr turn fun H' s' c z' n' g'=>⟨_,rfl,?_⟩
  exact wpAny_pure ⟨_,rfl,fin _ H' s' c (Nat.le_succ _) z' n' g'⟩
end
end L2
namespace L2
open PySem PySem.Spec PyProof.Rows
def qnm (X:Cx) (f:Addr) (F:List Sk.D->Sk.R Sk.D):St->List V->List V->Hp->VK->Prop:=fun Z xs zs H Q =>
 ∃ (a:Addr) (ys:List V) (ks:List yB),xs=[.ref a]/\zs=[.ref f]/\SqL X.K H a ys/\ys.length<64/\ks.length=ys.length /\
  (∀ (i:Nat) (y:V) (k:yB),ys[i]? = some y->ks[i]? = some k->∀ H',ji H H'->Sk.spD X.K F [y] H' (fun v H2=>KAt X.K H2 k v/\ji H' H2) E0) /\
  ∀ H' p,ji H H'->H' p=none->Q (.ref p) (upd H' p (.lst ((Srt.ord (zh ks)).map fun i=>ys.getD i .non)))
section
variable {X:Cx} {k:Nat} {f:Addr} {fd:FuncData} {x:Str} {F:List Sk.D->Sk.R Sk.D}
theorem qgh (G:qcc X.prog X.w X.K X.mg X.base CX0 k f fd [x] (Sk.spD X.K F)) (hb:vQ X.K fd [x] []) (hr:uD (k+2) X.A):CallKS X (.builtin "sorted") [Str.ofString "key"] (qnm X f F):=by
 intro pins s Z H xs us zs wz Q I rx rz h
 obtain ⟨a,ys,ks,rfl,rfl,hs,h64,hlen,key,hq⟩:=h
 cases rx with
 | cons ra rr =>
 cases rr
 cases rz with
 | cons rf rr =>
 cases rr
 cases ra
 cases rf
 obtain ⟨its,r,ht,hz⟩:=I.list hs
 have hl:=r.length
 have hr2:uD k X.A.in1.in1:=hr.in1.in1
 refine qeN (ks:=ks) hr2.units0 I ht.isList (by omega) (by omega) (fun i v k' hvi hki s' H' z => ?_) fun D H' s' c hD z' n' g' => ?_
 ·have hi:i<ys.length:=by rw [hl];exact (gI_.mp hvi).1
  obtain ⟨u,hu,ry⟩:=r.get (gG hi)
  rw [hvi] at hu;cases hu
  have sp:=key i ys[i] k' (gG hi) hki H' z.same
  have I':=z.inv I
  have e0:qip X.prog X.w X.K X.mg X.base X.A.in1.in1 X.stack s' H':=by
   obtain ⟨a1,a2,a3,a4,a5,a6,a7,a8⟩:=I'.env0
   exact ⟨a1,a2,a3,a4,a5,a6,a7,a8⟩
  refine wpAny_call (codeAny_mono (G.run X.A.in1.in1 X.stack s' H' ⟨[v],[]⟩ [v] [ys[i]] (fun v H2=>KAt X.K H2 k' v/\ji H' H2) E0 hr2 e0 (by
   have:=hb s' [v] I'.kIn rfl
   simpa using this) (.cons ry .nil) sp) fun r' s2 hq' => ?_)
  cases r' with
  | error e=>exact hq'.elim
  | ok fl =>
   cases fl with
   | ret u =>
    obtain ⟨v',H2,r2,⟨ka,sm⟩,z2,u2⟩:=z.call hq' fun v H' q=>q.2
    exact ⟨v',H2,r2,ka,z2,u2,sm⟩
   | next=>exact False.elim hq'
   | brk=>exact False.elim hq'
   | cont=>exact False.elim hq'
 ·have hpl:∀ i∈Srt.ord (zh ks),i<ys.length:=fun i hi=>by
   have:=(Srt.ord_perm (zh ks)).mem_iff.mp hi
   rw [jO] at this
   rw [<- hlen];exact mR_.mp this
  have hnone:s.heap.get? D=none:=Heap.get?_none_of_le hD
  have rp:=qea r (Srt.ord (zh ks)) hpl
  have ol:((Srt.ord (zh ks)).map fun i=>ys.getD i V.non).length<=sizeLine:=by
   rw [lM_,(Srt.ord_perm (zh ks)).length_eq,lR_,jO,sizeLine_eq];omega
  have ne':∀ c u,H' c=some u->c≠D:=fun c u q z=>by rw [z,n'] at q;cases q
  have hok:HOk X.prog X.w (upd H' D (.lst ((Srt.ord (zh ks)).map fun i=>ys.getD i .non))) s'.heap:=fun b u e=>by
   by_cases hbD:b=D
   ·subst hbD
    rw [qA] at e;cases e
    exact ⟨ol,_,_,rp,g'⟩
   ·rw [qx hbD] at e
    exact (z'.hok b u e).stay (fun _ _ _ q=>q) (fun c q=>by rw [qx (ne' c _ q)];exact q) (fun c xs q=>by rw [qx (ne' c _ q)];exact q) fun c ob y q=>by rw [qx (ne' c _ q)];exact q
  have un:=Sk.un_held (o := .lst ((Srt.ord (zh ks)).map fun i=>ys.getD i .non)) z'.un hnone n'
  have zz:SS X H s (upd H' D (.lst ((Srt.ord (zh ks)).map fun i=>ys.getD i .non))) s':=⟨z'.os,z'.bare,un,hok,fun b o e=>qiV n' b o (z'.same b o e)⟩
  exact ⟨.ref D,_,zz.inv I,rfl,hq H' D z'.same n'⟩
end
end L2
namespace L2.Sk
open PySem PySem.Spec PyProof.Rows
def qlp:D->Option yB
 | .tup [.int a,.int b,.tup ts]=>match v3 ts with
  | some ns=>some (a,b,ns)
  | none=>none
 | _=>none
def qbE (F:List D->R D):List D->Option (List yB)
 | []=>some []
 | d::ds=>match F [d],qbE F ds with
  | .ok k,some ks=>match qlp k with
   | some k=>some (k::ks)
   | none=>none
  | _,_=>none
def qeb (F:List D->R D) (f:M D):M D:=bnd f fun d U=>match d with
 | .lst ds=>if ds.length<64 then match qbE F ds with
   | some ks => .ok (.lst (qgf (Srt.ord (zh ks)) ds),U)
   | none => .bad
  else .bad
 | _ => .bad
theorem qco {F:List D->R D} {d:D} {ds:List D} {ks:List yB} (h:qbE F (d::ds)=some ks):∃ k k3 ks',F [d] = .ok k/\qlp k=some k3/\qbE F ds=some ks'/\ks=k3::ks':=by
 unfold qbE at h
 split at h
 ·rename_i k ks' e1 e2
  split at h
  ·rename_i k3 e3
   cases h
   exact ⟨k,k3,ks',e1,e3,e2,rfl⟩
  ·cases h
 ·cases h
theorem qec {F:List D->R D}:∀ {ds:List D} {ks:List yB},qbE F ds=some ks->ks.length=ds.length
 | [],ks,h=>by cases h;rfl
 | d::ds,ks,h=>by
  obtain ⟨k,k3,ks',_,_,e,rfl⟩:=qco h
  rw [lC_,lC_,qec e]
theorem qed {F:List D->R D}:∀ {ds:List D} {ks:List yB} {i:Nat} {d:D} {k:yB},qbE F ds=some ks->ds[i]? = some d->ks[i]? = some k->∃ e,F [d] = .ok e/\qlp e=some k
 | [],_,_,_,_,_,h,_=>by simp at h
 | d0::ds,ks,i,d,k,h,h1,h2=>by
  obtain ⟨e0,k0,ks',a1,a2,a3,rfl⟩:=qco h
  cases i with
  | zero =>
   have b1:d0=d:=by simpa using h1
   have b2:k0=k:=by simpa using h2
   subst b1 b2
   exact ⟨_,a1,a2⟩
  | succ i=>exact qed a3 (by simpa using h1) (by simpa using h2)
theorem qoG {K:Fr0} {A:Addr->Prop} {H:Hp} {d:D} {k:yB} {v:V} (e:qlp d=some k) (h:Is K A H d v):KAt K H k v:=by
 unfold qlp at e
 split at e
 ·rename_i a b ts
  split at e
  ·rename_i ns hns
   cases e
   obtain ⟨p,xs,rfl,tp,il⟩:=h
   obtain ⟨x1,y1,rfl,i1,il⟩:=il
   obtain ⟨x2,y2,rfl,i2,il⟩:=il
   obtain ⟨x3,y3,rfl,i3,il⟩:=il
   have il':y3=[]:=il
   subst il'
   have i1':x1=V.int a:=i1
   have i2':x2=V.int b:=i2
   subst i1' i2'
   obtain ⟨q,zs,rfl,tq,iz⟩:=i3
   rw [vF iz hns] at tq
   exact ⟨p,q,rfl,tp,tq⟩
  ·cases e
 ·cases e
section
variable {X:Cx} {c:Fc} {e:Expr} {p pos kpos p2:Pos} {x:Str} {k:Nat}
theorem qiZ {j:Nat} {F:List D->R D} {y:Str} {f:M D} (he:DE X c e f) (C:qz X.prog X.w X.K X.mg X.base k x [y] (spD X.K F)) (hr:uD j X.A) (hg:Gl X "sorted") (hm:X.mg "sorted"=none)
  (hk:k+2<=j:=by decide) (hgx:Gl X x:=by rfl) (hdx:(x==("__debug__":Str))=false:=by decide)
  (hst:starEach [e] X.env=(false,eval e X.env)::starEach [] X.env:=by rfl) (hpl:((backTo pos (starEach [e] X.env)).any (·.1)||(backToKw pos (keywordEach [⟨some "key",.Name x p2,kpos⟩] X.env)).any (·.1.isNone))=false:=by rfl) :
  DE X c (.Call (.Name "sorted" p) [e] [⟨some "key",.Name x p2,kpos⟩] pos) (qeb F f):=by
 obtain ⟨te,pe,we⟩:=he
 obtain ⟨fa,fd,G,m,kk,b⟩:=C.ex
 refine ⟨_,qhs (qgh G b (hr.mono hk)) hg hm rfl (vb pe qcb hst) (qkr (qgz (v := .ref fa) hgx m rfl hdx) qmq) (he:=hst) (hpl:=hpl),fun U Z H Q r h => ?_⟩
 refine we U Z H _ r (Wp.bnd h fun d U1 v H1 r1 i1 g1 h1 => ?_)
 cases d<;>try exact h1.elim
 rename_i ds
 by_cases h64:ds.length<64
 case neg=>simp only [h64,if_false] at h1;exact h1.elim
 simp only [h64,if_true] at h1
 cases hks:qbE F ds with
 | none=>simp only [hks] at h1;exact h1.elim
 | some ks =>
  simp only [hks] at h1
  have hl:=qec hks
  obtain ⟨a,ys,rfl,hA,ta,il⟩:=i1
  have hyl:=il.length
  refine ⟨a,ys,ks,rfl,rfl,.inl (.inl ta),by omega,by omega,fun i y' k' hy hki H' sm' => ?_,fun H' p' sm' hp => ?_⟩
  ·have hi:i<ds.length:=by rw [<- hyl];exact (gI_.mp hy).1
   obtain ⟨z,e1,e2⟩:=il.get (gG hi)
   rw [hy] at e1;cases e1
   obtain ⟨e',eg,et⟩:=qed hks (gG hi) hki
   have r2:=r1.same sm'
   refine ⟨[ds[i]],Cn c Z,⟨y',[],rfl,Is.ext (Ext.of_same sm') (fun _ h _=>h) e2,rfl⟩,r2.tb,?_⟩
   rw [eg]
   exact fun v' H3 sm3 i3=>⟨qoG et i3,sm3⟩
  ·have r3:=r1.same sm'
   have hpl:∀ i∈Srt.ord (zh ks),i<ds.length:=fun i hi=>by
    have:=(Srt.ord_perm (zh ks)).mem_iff.mp hi
    rw [jO] at this
    rw [<- hl];exact mR_.mp this
   have ip:=IsL.pick (IsL.ext (Ext.of_same sm') (fun _ h _=>h) il) (Srt.ord (zh ks)) hpl
   have smA:ji H1 (upd H' p' (.lst ((Srt.ord (zh ks)).map fun i=>ys.getD i .non))):=fun b o q=>qD hp _ b o (sm' b o q)
   exact h1 _ _ (r3.laid hp _) ⟨p',_,rfl,r3.new hp,qA,IsL.ext (Ext.of_same (qD hp _)) (fun _ h _=>h) ip⟩ (.of_same smA)
theorem qi0 {F:List D->R D} {f:M D} {U U1:Env} {ds:List D} {ks:List yB} (h:f U = .ok (.lst ds,U1)) (h64:ds.length<64) (hk:qbE F ds=some ks):qeb F f U = .ok (.lst (qgf (Srt.ord (zh ks)) ds),U1):=by
 unfold qeb bnd
 simp only [h,h64,if_true,hk]
end
end L2.Sk
set_option maxHeartbeats 1000000
namespace L2.Sk
open PySem PySem.Spec PyProof.Rows
def qaK (F F':D->D->Option D) (f g k:M D):M D:=bnd f fun x=>bnd g fun y=>bnd (lift (F x y)) fun z=>bnd (lift (asB z)) fun b=>if b then bnd k fun w=>lift (F' y w) else ret (.bl false)
section
variable {X:Cx} {c:Fc} {a b e:Expr} {pos:Pos}
theorem qnn {r r':R2} {F F':D->D->Option D} {f g k:M D} {ta tb tc:TE} (hF:OpS X.K F r) (hF':OpS X.K F' r') (wa:∀ U Z H Q,Rep X.K c U Z H->Wp X.K c Z H Q (f U)->ta Z H Q) (wb:∀ U Z H Q,Rep X.K c U Z H->Wp X.K c Z H Q (g U)->tb Z H Q) (wc:∀ U Z H Q,Rep X.K c U Z H->Wp X.K c Z H Q (k U)->tc Z H Q) :
  ∀ U Z H Q,Rep X.K c U Z H->Wp X.K c Z H Q (qaK F F' f g k U)->qjx r r' ta tb tc Z H Q:=fun U Z H Q rp h=>by
 refine wa U Z H _ rp (Wp.bnd h fun x U1 v H1 r1 i1 g1 h1=>wb U1 Z H1 _ r1 (Wp.bnd h1 fun y U2 u H2 r2 i2 g2 h2 => ?_))
 cases ez:F x y with
 | none=>rw [ez] at h2;exact h2.elim
 | some z =>
  rw [ez] at h2
  cases eb:asB z with
  | none =>
   have h3:Wp X.K c Z H2 Q (bnd (lift (asB z)) (fun b=>if b then bnd k fun w=>lift (F' y w) else ret (.bl false)) U2):=h2
   rw [eb] at h3
   exact h3.elim
  | some q =>
   have h3:Wp X.K c Z H2 Q (bnd (lift (asB z)) (fun b=>if b then bnd k fun w=>lift (F' y w) else ret (.bl false)) U2):=h2
   rw [eb] at h3
   have hz:=wH eb
   subst hz
   refine hF _ H2 x y (.bl q) v u _ (fun a ha=>r2.new ha) (g2.is i1) i2 ez fun w H' s i=>⟨q,i,?_⟩
   cases q with
   | false =>
    rw [if_neg (by simp)]
    have h4:Wp X.K c Z H2 Q (.ok (.bl false,U2)):=h3
    exact h4 _ H' (r2.same s) rfl (.of_same s)
   | true =>
    rw [if_pos rfl]
    have h4:Wp X.K c Z H2 Q (bnd k (fun w=>lift (F' y w)) U2):=h3
    refine wc U2 Z H' _ (r2.same s) (Wp.bnd (h4.gr (.of_same s)) fun w' U3 u3 H3 r3 i3 g3 h5 => ?_)
    obtain ⟨d,e,h6⟩:=h5.lift
    exact hF' _ H3 y w' d u u3 Q (fun a ha=>r3.new ha) (g3.is (Gr.is (.of_same s) i2)) i3 e fun w2 H4 s4 i4=>h6 w2 H4 (r3.same s4) i4 (.of_same s4)
theorem qi1 {op op':CmpOp} {e':Expr} {r r':R2} {F F':D->D->Option D} {f g k:M D} (ho:OpR X (compareOp op) r) (hF:OpS X.K F r) (ho':OpR X (compareOp op') r') (hF':OpS X.K F' r') (ha:DE X c a f) (hb:DE X c b g) (hc:DE X c e' k)
  (hm:lastMarks [op,op'] [b,e']=false:=by with_unfolding_all rfl):DT X c (.Compare a [op,op'] [b,e'] pos) (tst (qaK F F' f g k)):=by
 obtain ⟨ta,pa,wa⟩:=ha
 obtain ⟨tb,pb,wb⟩:=hb
 obtain ⟨tc,pc,wc⟩:=hc
 refine ⟨_,qio ho ho' pa pb pc hm,fun U Z H Q rp h=>qnn hF hF' wa wb wc U Z H _ rp (Wp.bndB h fun d U1 v H1 r1 i1 g1 h1 => ?_)⟩
 obtain ⟨b,e,h2⟩:=qcH h1
 have:=wH e
 subst this
 exact ⟨b,i1,h2 H1 r1 .refl⟩
end
theorem qi2 {F F':D->D->Option D} {f g k:M D} {U:Env} {x y w d:D} (hf:f U = .ok (x,U)) (hg:g U = .ok (y,U)) (h1:F x y=some (.bl true)) (hk:k U = .ok (w,U)) (h2:F' y w=some d):qaK F F' f g k U = .ok (d,U):=by
 unfold qaK
 rw [qdM hf,qdM hg,h1]
 show bnd k _ U=_
 rw [qdM hk,h2]
 rfl
end L2.Sk
namespace L2.Sk
namespace Law
open PySem PySem.Spec PyProof.Rows
set_option maxHeartbeats 4000000
theorem qj2 (ds:List D) (r:Env):zB 0 (some (.lst ds)::r)=some ds:=rfl
theorem qj3 (i:Nat) (o:Option D) (r:Env):zB (i+1) (o::r)=zB i r:=rfl
theorem ix0 (a b c:D):ixD (.tup [a,b,c]) (.int 0)=some a:=rfl
theorem ix1 (a b c:D):ixD (.tup [a,b,c]) (.int 1)=some b:=rfl
theorem ix2 (a b c:D):ixD (.tup [a,b,c]) (.int 2)=some c:=rfl
theorem qal (i j:Int):neB (.int i) (.int j)=some (.bl (!decide (i=j))):=rfl
theorem v8 (i j:Int):eqB (.int i) (.int j)=some (.bl (decide (i=j))):=rfl
theorem v9 (ds:List D):qeG (tyD (.tup ds)) "tuple"=true:=rfl
theorem jt (ds:List D):qaH [.tup ds]=some (.int ds.length):=rfl
theorem qfC (d:D):isN d .non=some (.bl (uF d)):=rfl
theorem qhA (d:D):qpN d .non=some (.bl (!uF d)):=rfl
theorem yW (i j:Int):gtD (.int i) (.int j)=some (.bl (decide (j<i))):=rfl
theorem qeO (i j:Int):ltD (.int i) (.int j)=some (.bl (decide (i<j))):=rfl
theorem vm (i j:Int):leD (.int i) (.int j)=some (.bl (decide (i<=j))):=rfl
local macro_rules | `(tactic| push_cast [$xs,*]) => `(tactic| simp only [uU, qbY, qou, zD, qd1, qhf, qjQ, qnX, qov, qaj, yd, qjR, qd2, yk, qbz, qfq, qga, qhg, qm2, qjS, qk5, qcN, uI, vi, qhh, uu, qck, qd3, qfr, vj, qd4, qhi, qbA, qbB, qhj, qhk, qhl, qhm, qhn, qjU, qbC, qm3, qcP, lC_, lN_, mC_, List.map_nil, List.replicate, List.nil_append, List.cons_append, List.append_nil, List.getElem?_cons_zero, List.getElem?_cons_succ, List.set_cons_zero, List.set_cons_succ, Nat.reduceAdd, Nat.reduceSub, Nat.sub_self, Nat.zero_add, reduceIte, Bool.not_true, Bool.not_false, Bool.false_eq_true, if_true, if_false, ite_true, ite_false, cond_true, cond_false, decide_true, decide_false, ix0, ix1, ix2, v9, jt, qal, v8, qfC, qhA, yW, qeO, vm, qj2, qj3, qfu, qfv, qfw, qjY, qhp, qho, $xs,*])
theorem uB {n p:Nat} {body:MS} {ds:List D} {d:D} (h:ds.length=p) (e:∃ U,body (uU n ds) = .ok (.rt d U)):dfn n p body ds = .ok d:=by
 obtain ⟨U,e⟩:=e
 exact qk6 h e
def qlq:D->Bool
 | .int _=>true
 | _=>false
def jp:D->Bool
 | .int i=>decide (0<=i)
 | _=>false
def qhB:D->Bool
 | .int i=>decide (0<i)
 | _=>false
def va:D->Bool
 | .tup [a,b,c]=>qhB a&&jp b&&(uF c||jp c)
 | _=>false
theorem qpn {ds:List D} (h:ds.length=3):∃ a b c,ds=[a,b,c]:=by
 match ds,h with
 | [a,b,c],_=>exact ⟨a,b,c,rfl⟩
theorem qcp {ds:List D} (h:ds.length≠3):va (.tup ds)=false:=by
 match ds,h with
 | [],_=>rfl
 | [_],_=>rfl
 | [_,_],_=>rfl
 | [a,b,c],h=>exact absurd rfl h
 | _::_::_::_::_,_=>rfl
theorem qk {p q:MS} {U U':Env} (h:p U = .ok (.nx U')):qC p q U=q U':=by rw [qjT,h]
theorem qee {p q:MS} {U U':Env} {d:D} (h:p U = .ok (.rt d U')):qC p q U = .ok (.rt d U'):=by rw [qjT,h]
theorem qno {e:M D} {f:D->D}:∀ (ds acc:List D) (o:Option D),(∀ d∈ds,e [some d] = .ok (f d,[some d]))->acc.length+ds.length<=1000->∃ U',zv (qv 0) (ret true) e ds acc [o] = .ok (acc++ds.map f,U')
 | [],acc,o,_,_=>⟨[o],by simp [zv]⟩
 | d::ds,acc,o,h,hl=>by
  have hl':acc.length+(ds.length+1)<=1000:=hl
  obtain ⟨U',q⟩:=qno ds (acc++[f d]) (some d) (fun x hx=>h x (mM _ hx)) (by rw [lA_,List.length_singleton];omega)
  refine ⟨U',?_⟩
  unfold zv
  simp only [qv,List.set_cons_zero,ret,h d mS_,jW (show acc.length+1<=1000000 by omega),if_true,q]
  simp
theorem qef (f:D->Bool):∀ ds:List D,uk (ds.map fun d=>D.bl (f d))=some (ds.map f)
 | []=>rfl
 | d::ds=>by simp [uk,qef f ds]
theorem all_map {ds:List D} {f:D->Bool}:qeH [.lst (ds.map fun d=>D.bl (f d))]=some (.bl (ds.all f)):=by
 simp only [qeH,qef,Option.map_some]
 congr 2
 rw [List.all_map]
 rfl
theorem qlr {F:List D->R D} {f:D->Bool} {xs:M (List D)} {ds:List D} {U:Env} (hx:xs U = .ok (ds,U)) (hF:∀ d∈ds,F [d] = .ok (.bl (f d))) (hl:ds.length<=1000) :
  qQ qeH (qa (z5 1 [] none xs (qv 0) (ret true) (qe F (qa (dv 0) (ret [])))) (ret [])) U = .ok (.bl (ds.all f),U):=by
 obtain ⟨U',q⟩:=qno (e:=qe F (qa (dv 0) (ret []))) (f:=fun d=>D.bl (f d)) ds [] none (fun x hm=>by push_cast [];rw [hF x hm]) (by simpa using hl)
 have q':zv (qv 0) (ret true) (qe F (qa (dv 0) (ret []))) ds [] (yi 1 [] U) = .ok ([]++ds.map fun d=>D.bl (f d),U'):=q
 simp only [qaj,zD,qcO,hx,q',qbY,List.nil_append,all_map]
 rfl
def uv:D->Bool
 | .tup ds=>decide (ds.length<=12)&&ds.all va
 | _=>false
def leI:D->D->Bool
 | .int i,.int j=>decide (i<=j)
 | _,_=>false
def qgi (k x:D):Bool:=match k with
 | .tup [_,_,m]=>jp x&&(uF m||leI x m)
 | _=>false
def uX:List D->List D->Bool
 | k::ks,x::xs=>qgi k x&&uX ks xs
 | _,_=>true
def qfD:D->D->Bool
 | .tup xs,.tup ks=>decide (xs.length=ks.length)&&uX ks xs
 | _,_=>false
theorem qfE {e:M D} {f:D->D->Bool}:∀ (ks xs acc:List D) (o o':Option D),(∀ k∈ks,∀ x,e [some k,some x] = .ok (.bl (f k x),[some k,some x]))->acc.length+ks.length<=1000 ->
  ∃ (bs:List Bool) (U':Env),zv (qbm 2 (zo (qv 0) (zo (qv 1) qbl))) (ret true) e (qai ks xs) acc [o,o'] = .ok (acc++bs.map D.bl,U')/\bs.all id=(qai ks xs).all fun p=>match p with | .tup [k,x]=>f k x | _=>false
 | [],xs,acc,o,o',_,_=>⟨[],[o,o'],by simp [qai,zv],rfl⟩
 | k::ks,[],acc,o,o',_,_=>⟨[],[o,o'],by simp [qai,zv],rfl⟩
 | k::ks,x::xs,acc,o,o',h,hl=>by
  have hl':acc.length+(ks.length+1)<=1000:=hl
  obtain ⟨bs,U',q,r⟩:=qfE ks xs (acc++[.bl (f k x)]) (some k) (some x) (fun y hy=>h y (mM _ hy)) (by rw [lA_,List.length_singleton];omega)
  refine ⟨f k x::bs,U',?_,?_⟩
  ·unfold qai zv
   simp only [qbm,zo,qv,qbl,lC_,lN_,Nat.reduceAdd,Nat.zero_add,if_true,Option.bind_some,List.set_cons_zero,List.set_cons_succ,ret,h k mS_,jW (show acc.length+1<=1000000 by omega),q]
   simp
  ·unfold qai
   rw [List.all_cons,List.all_cons,r]
   rfl
theorem qa5:∀ bs:List Bool,uk (bs.map D.bl)=some bs
 | []=>rfl
 | b::bs=>by simp [uk,qa5 bs]
theorem qaL:∀ (ks xs:List D),((qai ks xs).all fun p=>match p with | .tup [k,x]=>qgi k x | _=>false)=uX ks xs
 | [],_=>rfl
 | _::_,[]=>rfl
 | k::ks,x::xs=>by
  unfold qai uX
  rw [List.all_cons,qaL ks xs]
theorem wU {l:M (List D)} {U U1:Env} {j:Int} (e:l U = .ok ([.int j],U1)) (h0:0<=j) (h:j<=1000000):vR l U = .ok (qcg 0 j.toNat,U1):=by
 have h1:(-(2 ^ 62)<=j):=by omega
 have h2:(j<2 ^ 62):=by omega
 have e2:qjJ [.int j]=some (qcg 0 j.toNat):=by
  simp only [qjJ,h1,h2,decide_true,Bool.and_self,if_true]
 have e3:vR l U=lift (qjJ [.int j]) U1:=by
  show bnd l (fun ds=>lift (qjJ ds)) U=_
  rw [qot,e]
 rw [e3,e2]
 rfl
theorem qhC {n m:Int} (h0:0<m) (h1:m<1606938044258990275541962092341162602522202993782792835301376):qbs [.int n,.int m]=some (.tup [.int (n/m),.int (n%m)]):=by
 simp only [qbs,qf2,h0,h1,decide_true,Bool.and_self,if_true]
theorem at0 (d:D) (r:List D):atI (d::r) 0=some d:=by
 unfold atI ixN
 rw [if_pos (by omega),if_pos (by simp)]
 rfl
theorem qpW:ixN 1 0=some 0:=by decide
theorem z8 (i j:Int):z4 (.int i) (.int j)=some (.int (i+j)):=rfl
theorem qcU (i j:Int):qgt (.int i) (.int j)=some (.int (i-j)):=rfl
theorem qnp {ds:List D} {k:Int} (h0:0<=k) (h1:k<ds.length):∃ d∈ds,ixD (.lst ds) (.int k)=some d:=by
 obtain ⟨i,rfl⟩:=Int.eq_ofNat_of_zero_le h0
 have hi:i<ds.length:=by omega
 refine ⟨ds[i],List.getElem_mem hi,?_⟩
 show atI ds (i:Int)=_
 unfold atI ixN
 rw [if_pos (by omega),if_pos (by omega)]
 show ds[(i:Int).toNat]? = _
 rw [Int.toNat_natCast,gG hi]
theorem qi3 (j:Nat):(qcg 0 j).length=j:=by simp [qcg]
theorem vI {i j:Int} (h:0<j):qbp (.int i) (.int j)=some (.int (i%j)):=by
 simp only [qbp,qjD,h,decide_true,if_true]
theorem wV {i j:Int} (h:0<j) (h1:j<1606938044258990275541962092341162602522202993782792835301376):ve (.int i) (.int j)=some (.int (i/j)):=by
 simp only [ve,qjD,qf2,h,h1,decide_true,Bool.and_self,if_true]
theorem qb0 {i j:Int} (h:jz i=true):jV (.int i) (.int j)=some (.int (i*j)):=by
 simp only [jV,qgZ,h,Bool.true_or,if_true]
theorem qgj {i j:Int} (h:jz j=true):jV (.int i) (.int j)=some (.int (i*j)):=by
 simp only [jV,qgZ,h,Bool.or_true,if_true]
theorem qhD {i:Int} (h0:0<=i) (h1:i<2000000000):jz i=true:=by
 unfold jz
 rw [Bool.and_eq_true,decide_eq_true_eq,decide_eq_true_eq]
 constructor<;>omega
def facts:List Int:=[48271,69621,16807,39373,30269,40014,40692,50021,61687,71993,83869,95561,30307]
structure qp8 (w e:Nat) (d:D):Prop where
 lv:(ui d).leavesShort 40=true
 sh:(ui d).showable=true
 wt:(ui d).weight<=w
 dp:(ui d).depth<=e
def plain (d:D):Bool := !(ui d).hasDict&&noL d
theorem neg_int (i:Int):qgw (.int i)=some (.int (-i)):=rfl
theorem qi4 {xs ys:List D} (h:xs.length+ys.length<=1000000):z4 (.tup xs) (.tup ys)=some (.tup (xs++ys)):=by
 simp only [z4,jW h,if_true]
def pt (p:Int):D->Int
 | .tup [.int a,.int b,_]=>if p=0 then a else b
 | _=>0
def num:D->Int
 | .int x=>x
 | _=>0
def qoH (p:Int):List D->List D->List Int
 | k::ks,x::xs=>(pt p k*num x)::qoH p ks xs
 | _,_=>[]
theorem wW:∀ ns:List Int,v3 (ns.map D.int)=some ns
 | []=>rfl
 | n::ns=>by simp [v3,wW ns]
theorem qnq {F:List D->R D} {f g h:M D} {U:Env} {a b c d:D} (hf:f U = .ok (a,U)) (hg:g U = .ok (b,U)) (hh:h U = .ok (c,U)) (e:F [a,b,c] = .ok d):qe F (qa f (qa g (qa h (ret [])))) U = .ok (d,U):=by
 have e1:qa h (ret []) U = .ok ([c],U):=by rw [zD,hh];rfl
 have e2:qa g (qa h (ret [])) U = .ok ([b,c],U):=by rw [zD,hg];dsimp only;rw [e1]
 have e3:qa f (qa g (qa h (ret []))) U = .ok ([a,b,c],U):=by rw [zD,hf];dsimp only;rw [e2]
 rw [yd,e3]
 dsimp only
 rw [e]
theorem jq {F:List D->Option D} {f:M D} {U:Env} {a d:D} (hf:f U = .ok (a,U)) (e:F [a]=some d):qQ F (qa f (ret [])) U = .ok (d,U):=by
 have e0:qa f (ret []) U = .ok ([a],U):=by rw [zD,hf];rfl
 rw [qaj,e0]
 dsimp only
 rw [e]
theorem qi5 (i j:Int):qdS [.int i,.int j]=some (.int (if j>i then j else i)):=rfl
theorem sl_tup (xs:List D) (a b:Option Int):slD (.tup xs) a b=some (.tup (qgv xs a b)):=rfl
theorem qls {α:Type} {e:M D} {t:M Bool} {k f:α->D} {p:α->Bool} {r:Env}:∀ (as:List α) (acc:List D) (o:Option D),(∀ a∈as,t (some (k a)::r) = .ok (p a,some (k a)::r))->(∀ a∈as,p a=true->e (some (k a)::r) = .ok (f a,some (k a)::r))->acc.length+as.length<=1000000 ->
  ∃ o',zv (qv 0) t e (as.map k) acc (o::r) = .ok (acc++(as.filter p).map f,o'::r)
 | [],acc,o,_,_,_=>⟨o,by simp [zv]⟩
 | a::as,acc,o,ht,he,hl=>by
  have hl':acc.length+(as.length+1)<=1000000:=hl
  have h1:=ht a mS_
  rw [mC_]
  unfold zv
  simp only [qv,List.set_cons_zero,h1]
  cases hp:p a with
  | false =>
   obtain ⟨o',q⟩:=qls as acc (some (k a)) (fun x hx=>ht x (mM _ hx)) (fun x hx=>he x (mM _ hx)) (by omega)
   refine ⟨o',?_⟩
   simp only [q,ft_,hp,Bool.false_eq_true,if_false]
  | true =>
   obtain ⟨o',q⟩:=qls as (acc++[f a]) (some (k a)) (fun x hx=>ht x (mM _ hx)) (fun x hx=>he x (mM _ hx)) (by rw [lA_,List.length_singleton];omega)
   refine ⟨o',?_⟩
   simp only [he a mS_ hp,jW (show acc.length+1<=1000000 by omega),if_true,q,ft_,hp,mC_,aA_,List.singleton_append]
theorem qcq {α:Type} {e:M D} {t:M Bool} {k:α->D} {xs:M (List D)} {U r:Env} {fr:List Nat} (as:List α) (p:α->Bool) (f:α->D) (hx:xs U = .ok (as.map k,U)) (hr:yi 1 fr U=none::r) (hl:as.length<=1000000)
  (ht:∀ a∈as,t (some (k a)::r) = .ok (p a,some (k a)::r)) (he:∀ a∈as,p a=true->e (some (k a)::r) = .ok (f a,some (k a)::r)):z5 1 fr none xs (qv 0) t e U = .ok (.lst ((as.filter p).map f),U):=by
 obtain ⟨o',q⟩:=qls as [] none ht he (by simpa using hl)
 rw [qcO,hx]
 simp only [hr,q,List.nil_append]
 rfl
theorem wd {α:Type} (as:List α):as.filter (fun _=>true)=as:=by simp
theorem wX {α:Type} {e:M D} {k:α->D} {xs:M (List D)} {U r:Env} {fr:List Nat} (as:List α) (f:α->D) (hx:xs U = .ok (as.map k,U)) (hr:yi 1 fr U=none::r) (hl:as.length<=1000000)
  (he:∀ a∈as,e (some (k a)::r) = .ok (f a,some (k a)::r)):z5 1 fr none xs (qv 0) (ret true) e U = .ok (.lst (as.map f),U):=by
 rw [qcq as (fun _=>true) f hx hr hl (fun _ _=>rfl) fun a ha _=>he a ha,wd]
theorem yX {α β:Type} {G:D->Env->Option Env} {b:MS} {k:α->D} {step:β->α->β} {Inv:Nat->β->Env->Prop}:∀ (as:List α) (n:Nat) (s:β) (U:Env),Inv n s U ->
  (∀ a∈as,∀ m s U,n<=m->m<n+as.length->Inv m s U->∃ U1 U2,G (k a) U=some U1/\b U1 = .ok (.nx U2)/\Inv (m+1) (step s a) U2) ->
  ∃ U',v6 G b (as.map k) U = .ok (.nx U')/\Inv (n+as.length) (as.foldl step s) U'
 | [],n,s,U,h,_=>⟨U,rfl,h⟩
 | a::as,n,s,U,h,H=>by
  obtain ⟨U1,U2,h1,h2,h3⟩:=H a mS_ n s U (Nat.le_refl _) (by rw [lC_];omega) h
  obtain ⟨U',q,w⟩:=yX as (n+1) (step s a) U2 h3 fun x hx m s U m1 m2=>H x (mM _ hx) m s U (by omega) (by rw [lC_];omega)
  refine ⟨U',?_,?_⟩
  ·rw [mC_]
   unfold v6
   simp only [h1,h2]
   exact q
  ·rw [lC_,show n+(as.length+1)=n+1+as.length by omega]
   exact w
theorem qcV {f:M D} {U:Env} {a:D} (hf:f U = .ok (a,U)):qa f (ret []) U = .ok ([a],U):=by rw [zD,hf];rfl
theorem qbF {f g:M D} {U:Env} {a b:D} (hf:f U = .ok (a,U)) (hg:g U = .ok (b,U)):qa f (qa g (ret [])) U = .ok ([a,b],U):=by rw [zD,hf];simp only [qcV hg]
theorem qoI {f g h:M D} {U:Env} {a b c:D} (hf:f U = .ok (a,U)) (hg:g U = .ok (b,U)) (hh:h U = .ok (c,U)):qa f (qa g (qa h (ret []))) U = .ok ([a,b,c],U):=by rw [zD,hf];simp only [qbF hg hh]
theorem qlt {f g:M D} {U:Env} {a b:D} (hf:f U = .ok (a,U)) (hg:g U = .ok (b,U)):vS (qa f (qa g (ret []))) U = .ok (.tup [a,b],U):=by rw [qd1,qbF hf hg];simp only [lC_,lN_,jW (show 0+1+1<=1000000 by omega),if_true]
theorem qpo {f g h:M D} {U:Env} {a b c:D} (hf:f U = .ok (a,U)) (hg:g U = .ok (b,U)) (hh:h U = .ok (c,U)):vS (qa f (qa g (qa h (ret [])))) U = .ok (.tup [a,b,c],U):=by rw [qd1,qoI hf hg hh];simp only [lC_,lN_,jW (show 0+1+1+1<=1000000 by omega),if_true]
theorem jn {F:List D->R D} {f:M D} {U:Env} {a d:D} (hf:f U = .ok (a,U)) (e:F [a] = .ok d):qe F (qa f (ret [])) U = .ok (d,U):=by rw [yd,qcV hf];simp only [e]
theorem z9 {F:List D->R D} {f g:M D} {U:Env} {a b d:D} (hf:f U = .ok (a,U)) (hg:g U = .ok (b,U)) (e:F [a,b] = .ok d):qe F (qa f (qa g (ret []))) U = .ok (d,U):=by rw [yd,qbF hf hg];simp only [e]
theorem qj {F:D->D->Option D} {f g:M D} {U:Env} {a b d:D} (hf:f U = .ok (a,U)) (hg:g U = .ok (b,U)) (e:F a b=some d):d2 F f g U = .ok (d,U):=by rw [qnX,hf];simp only [hg,e]
theorem zc {f:M D} {U:Env} {b:Bool} (hf:f U = .ok (.bl b,U)):tst f U = .ok (b,U):=by rw [qd2,hf];rfl
theorem qoJ {t:M Bool} {p q:MS} {U:Env} (h:t U = .ok (true,U)):sif t p q U=p U:=by rw [qcN,h];rfl
theorem qgk {t:M Bool} {p q:MS} {U:Env} (h:t U = .ok (false,U)):sif t p q U=q U:=by rw [qcN,h];rfl
theorem qhE {i:Nat} {f:M D} {U:Env} {ds:List D} {d:D} (h:zB i U=some ds) (hf:f U = .ok (d,U)) (hi:imm d=true) (hl:ds.length<1000000):zj (yu i f) U = .ok (.nx (U.set i (some (.lst (ds++[d]))))):=by
 simp only [uu,qbC,h,hf,hi,jW (show ds.length+1<=1000000 by omega),Bool.and_self,if_true]
theorem io1 {F:List D->List D->R (D×List D)} {i:Nat} {f:M D} {U:Env} {ds ds':List D} {a d:D} (h:zB i U=some ds) (hf:f U = .ok (a,U)) (e:F ds [a] = .ok (d,ds')):qr F i (qa f (ret [])) U = .ok (d,U.set i (some (.lst ds'))):=by
 simp only [qbB,h,qcV hf,e]
theorem qpp {i j:Nat} {f g:M D} {U U1 U2:Env} {a b:D} (hf:f U = .ok (a,U1)) (hg:g U1 = .ok (b,U2)):qci i j (qa f (qa g (ret []))) U = .ok (.nx ((U2.set i (some a)).set j (some b))):=by
 rw [qd3,zD,hf]
 simp only [zD,hg,qbY]
def mD:Option Int->D
 | none => .non
 | some j => .int j
abbrev Kd:=Int×Int×Option Int
def kD (x:Kd):D := .tup [.int x.1,.int x.2.1,mD x.2.2]
theorem wY {α:Type} {f:α->D}:∀ {as:List α},(∀ a∈as,imm (f a)=true)->immL (as.map f)=true
 | [],_=>rfl
 | a::as,h=>by simp only [mC_,immL,h a mS_,wY fun x hx=>h x (mM _ hx),Bool.and_self]
def okK (x:Kd):Prop:=0<x.1/\0<=x.2.1/\(∀ j,x.2.2=some j->0<=j)
theorem qhF {x:Kd} (h:okK x):va (kD x)=true:=by
 obtain ⟨a,b,m⟩:=x
 obtain ⟨h1,h2,h3⟩:=h
 have e1:qhB (.int a)=true:=decide_eq_true h1
 have e2:jp (.int b)=true:=decide_eq_true h2
 cases m with
 | none=>simp only [kD,mD,va,e1,e2,uF,Bool.true_and,Bool.true_or]
 | some j =>
  have e3:jp (.int j)=true:=decide_eq_true (h3 j rfl)
  simp only [kD,mD,va,e1,e2,e3,Bool.true_and,Bool.or_true]
theorem uM {ks:List Kd} (h:∀ x∈ks,okK x) (hl:ks.length<=12):uv (.tup (ks.map kD))=true:=by
 have:(ks.map kD).all va=true:=by
  rw [List.all_map]
  exact List.all_eq_true.mpr fun x hx=>qhF (h x hx)
 simp only [uv,lM_,hl,decide_true,this,Bool.true_and]
theorem qlu (x:Kd):ixD (kD x) (.int 0)=some (.int x.1):=rfl
theorem qnr (x:Kd):ixD (kD x) (.int 1)=some (.int x.2.1):=rfl
theorem qlv (x:Kd):ixD (kD x) (.int 2)=some (mD x.2.2):=rfl
theorem qj4 {α:Type} {ds:List α} {n:Nat} {d:α} (h:ds[n]? = some d):atI ds (n:Int)=some d:=by
 unfold atI ixN
 have hl:=(gI_.mp h).1
 rw [if_pos (by omega),if_pos (by omega)]
 show ds[(n:Int).toNat]? = _
 rw [Int.toNat_natCast];exact h
theorem qi6 {α:Type} {as:List α} {f:α->Bool}:qmH [.lst (as.map fun a=>D.bl (f a))]=some (.bl (as.any f)):=by
 have:uk (as.map fun a=>D.bl (f a))=some (as.map f):=by
  have:=qa5 (as.map f)
  rw [mm_] at this
  exact this
 simp only [qmH,this,Option.map_some]
 congr 2
 rw [List.any_map]
 rfl
theorem qcW {α:Type} {as:List α} {f:α->Bool}:qeH [.lst (as.map fun a=>D.bl (f a))]=some (.bl (as.all f)):=by
 have:uk (as.map fun a=>D.bl (f a))=some (as.map f):=by
  have:=qa5 (as.map f)
  rw [mm_] at this
  exact this
 simp only [qeH,this,Option.map_some]
 congr 2
 rw [List.all_map]
 rfl
theorem qa6 {α:Type} {as:List α} {f:α->Int}:qgu [.lst (as.map fun a=>D.int (f a))]=some (.int (as.map f).sum):=by
 have:v3 (as.map fun a=>D.int (f a))=some (as.map f):=by
  have:=wW (as.map f)
  rw [mm_] at this
  exact this
 simp only [qgu,this,Option.map_some]
theorem qhG {ns:List Int}:qaS (.tup (ns.map D.int))=true:=by
 have h:∀ ns:List Int,PyData.canLayAll0 (toPDs (ns.map D.int))=true/\PyData.depthAll (toPDs (ns.map D.int))=0:=fun ns=>by
  induction ns with
  | nil=>exact ⟨rfl,rfl⟩
  | cons n ns ih=>exact ⟨by simp only [mC_,toPDs,ui,PyData.canLayAll0,PyData.canLay0,ih.1,Bool.and_self],by simp only [mC_,toPDs,ui,PyData.depthAll,PyData.depth,ih.2];rfl⟩
 obtain ⟨h1,h2⟩:=h ns
 simp only [qaS,ui,PyData.canLay0,PyData.depth,h1,h2]
 rfl
theorem qhH {α:Type} {e:M D} {t:M Bool} {u v f:α->D} {p:α->Bool} {r:Env}:∀ (as:List α) (acc:List D) (o o':Option D),(∀ a∈as,t (some (u a)::some (v a)::r) = .ok (p a,some (u a)::some (v a)::r))->(∀ a∈as,p a=true->e (some (u a)::some (v a)::r) = .ok (f a,some (u a)::some (v a)::r))->acc.length+as.length<=1000000 ->
  ∃ o1 o2,zv (qbm 2 (zo (qv 0) (zo (qv 1) qbl))) t e (as.map fun a => .tup [u a,v a]) acc (o::o'::r) = .ok (acc++(as.filter p).map f,o1::o2::r)
 | [],acc,o,o',_,_,_=>⟨o,o',by simp [zv]⟩
 | a::as,acc,o,o',ht,he,hl=>by
  have hl':acc.length+(as.length+1)<=1000000:=hl
  have h1:=ht a mS_
  rw [mC_]
  unfold zv
  have hg:qbm 2 (zo (qv 0) (zo (qv 1) qbl)) (.tup [u a,v a]) (o::o'::r)=some (some (u a)::some (v a)::r):=rfl
  simp only [hg,h1]
  cases hp:p a with
  | false =>
   obtain ⟨o1,o2,q⟩:=qhH as acc (some (u a)) (some (v a)) (fun x hx=>ht x (mM _ hx)) (fun x hx=>he x (mM _ hx)) (by omega)
   refine ⟨o1,o2,?_⟩
   simp only [q,ft_,hp,Bool.false_eq_true,if_false]
  | true =>
   obtain ⟨o1,o2,q⟩:=qhH as (acc++[f a]) (some (u a)) (some (v a)) (fun x hx=>ht x (mM _ hx)) (fun x hx=>he x (mM _ hx)) (by rw [lA_,List.length_singleton];omega)
   refine ⟨o1,o2,?_⟩
   simp only [he a mS_ hp,jW (show acc.length+1<=1000000 by omega),if_true,q,ft_,hp,mC_,aA_,List.singleton_append]
theorem qcX {α:Type} {e:M D} {t:M Bool} {u v:α->D} {xs:M (List D)} {U r:Env} {fr:List Nat} (as:List α) (p:α->Bool) (f:α->D) (hx:xs U = .ok (as.map fun a => .tup [u a,v a],U)) (hr:yi 2 fr U=none::none::r) (hl:as.length<=1000000)
  (ht:∀ a∈as,t (some (u a)::some (v a)::r) = .ok (p a,some (u a)::some (v a)::r)) (he:∀ a∈as,p a=true->e (some (u a)::some (v a)::r) = .ok (f a,some (u a)::some (v a)::r)):z5 2 fr none xs (qbm 2 (zo (qv 0) (zo (qv 1) qbl))) t e U = .ok (.lst ((as.filter p).map f),U):=by
 obtain ⟨o1,o2,q⟩:=qhH as [] none none ht he (by simpa using hl)
 rw [qcO,hx]
 simp only [hr,q,List.nil_append]
 rfl
theorem qpq (n:Nat):qcg 0 n=(List.range n).map fun i=>D.int (i:Nat):=by
 unfold qcg
 refine List.map_congr_left fun i _ => ?_
 rw [Int.zero_add]
end Law
end L2.Sk
namespace L2.Sk.Law
def qpX:Nat->(Nat->Nat)->Nat
 | 0,_=>0
 | n+1,f=>qpX n f+f n
structure Kw where
 w:Int
 v:Int
 m:Option Int
def okT (k:Kw) (t:Nat) (r:Int):Bool:=decide ((t:Int)*k.w<=r)&&(match k.m with | none=>true | some j=>decide ((t:Int)<=j))
def ofn (k:Kw) (r:Int):Nat:=(match k.m with | none=>r/k.w | some j=>if j<r/k.w then j else r/k.w).toNat
theorem qhI {k:Kw} (hw:1<=k.w) (hm:∀ j,k.m=some j->0<=j) {r:Int} (hr:0<=r) (t:Nat):okT k t r=decide (t<=ofn k r):=by
 have hd:0<=r/k.w:=Int.ediv_nonneg hr (by omega)
 have he:((t:Int)*k.w<=r) ↔ ((t:Int)<=r/k.w):=(Int.le_ediv_iff_mul_le (by omega)).symm
 unfold okT ofn
 cases hk:k.m with
 | none =>
  dsimp only
  rw [Bool.and_true,Bool.eq_iff_iff,decide_eq_true_eq,decide_eq_true_eq,he]
  omega
 | some j =>
  have hj:=hm j hk
  dsimp only
  rw [Bool.eq_iff_iff,Bool.and_eq_true,decide_eq_true_eq,decide_eq_true_eq,decide_eq_true_eq,he]
  split<;>omega
theorem qns {k:Kw} (hw:1<=k.w) (hm:∀ j,k.m=some j->0<=j) {r:Int} (hr:0<=r) {t:Nat} (h:t<=ofn k r):(t:Int)*k.w<=r/\(t:Int)<=r:=by
 have h1:okT k t r=true:=by rw [qhI hw hm hr];exact decide_eq_true h
 unfold okT at h1
 rw [Bool.and_eq_true,decide_eq_true_eq] at h1
 refine ⟨h1.1,Int.le_trans ?_ h1.1⟩
 have:=Int.mul_le_mul_of_nonneg_left hw (show (0:Int)<=t by omega)
 omega
def qP:List Kw->List Int->Int
 | k::ks,t::ts=>t*k.v+qP ks ts
 | _,_=>0
def qnt (k:Kw):Prop:=1<=k.w/\∀ j,k.m=some j->0<=j
end L2.Sk.Law
namespace L2.Sk
namespace Law
open PySem PySem.Spec PyProof.Rows
set_option maxHeartbeats 4000000
def qaT (T B:Nat):Nat:=T/Nat.gcd T B
def wB (T B:Nat):Nat:=B/Nat.gcd T B
def frD (t b:Nat):D := .tup [.int (t:Nat),.int (b:Nat)]
def qeg (T B:Nat):D:=frD (qaT T B) (wB T B)
theorem vJ (T:Nat) {B:Nat} (hB:0<B):∃ g,0<g/\T=g*qaT T B/\B=g*wB T B/\0<wB T B/\wB T B<=B/\qaT T B<=T:=by
 have hg:0<Nat.gcd T B:=Nat.gcd_pos_of_pos_right _ hB
 have h1:T=Nat.gcd T B*qaT T B:=(Nat.mul_div_cancel' (Nat.gcd_dvd_left T B)).symm
 have h2:B=Nat.gcd T B*wB T B:=(Nat.mul_div_cancel' (Nat.gcd_dvd_right T B)).symm
 refine ⟨Nat.gcd T B,hg,h1,h2,?_,Nat.div_le_self _ _,Nat.div_le_self _ _⟩
 apply Nat.pos_of_ne_zero
 intro z
 rw [z,Nat.mul_zero] at h2
 omega
theorem qnu {T B T' B':Nat} (hB:0<B) (hB':0<B') (h:T*B'=T'*B):qaT T B=qaT T' B'/\wB T B=wB T' B':=by
 have hg:0<Nat.gcd T B:=Nat.gcd_pos_of_pos_right _ hB
 have hg':0<Nat.gcd T' B':=Nat.gcd_pos_of_pos_right _ hB'
 have t1:T=Nat.gcd T B*qaT T B:=(Nat.mul_div_cancel' (Nat.gcd_dvd_left T B)).symm
 have b1:B=Nat.gcd T B*wB T B:=(Nat.mul_div_cancel' (Nat.gcd_dvd_right T B)).symm
 have t2:T'=Nat.gcd T' B'*qaT T' B':=(Nat.mul_div_cancel' (Nat.gcd_dvd_left T' B')).symm
 have b2:B'=Nat.gcd T' B'*wB T' B':=(Nat.mul_div_cancel' (Nat.gcd_dvd_right T' B')).symm
 have key:Nat.gcd T B*B'=Nat.gcd T' B'*B:=by
  rw [<- Nat.gcd_mul_right T B' B,<- Nat.gcd_mul_right T' B B',h,Nat.mul_comm B B']
 generalize Nat.gcd T B=g at *
 generalize Nat.gcd T' B'=g' at *
 generalize qaT T B=t at *
 generalize wB T B=b at *
 generalize qaT T' B'=t' at *
 generalize wB T' B'=b' at *
 subst t1 b1 t2 b2
 have hgg:0<g*g':=Nat.mul_pos hg hg'
 have eb:b=b':=by
  refine Nat.eq_of_mul_eq_mul_left hgg ?_
  grind
 subst eb
 have hb:0<b:=by
  apply Nat.pos_of_ne_zero
  intro z
  subst z
  simp at hB
 refine ⟨?_,rfl⟩
 refine Nat.eq_of_mul_eq_mul_left (Nat.mul_pos hgg hb) ?_
 grind
theorem qhJ {T B T' B':Nat} (hB:0<B) (hB':0<B') (h:T*B'=T'*B):qeg T B=qeg T' B':=by
 obtain ⟨e1,e2⟩:=qnu hB hB' h
 unfold qeg
 rw [e1,e2]
theorem qi7 (A x:Nat) {C b:Nat} (hC:0<C) (hb:0<b):qeg (qaT A C*wB x b+qaT x b*wB A C) (wB A C*wB x b)=qeg (A*b+x*C) (C*b):=by
 obtain ⟨g,g0,e1,e2,e3,_,_⟩:=vJ A hC
 obtain ⟨h,h0,e4,e5,e6,_,_⟩:=vJ x hb
 refine qhJ (Nat.mul_pos e3 e6) (Nat.mul_pos hC hb) ?_
 generalize qaT A C=t at *
 generalize wB A C=c at *
 generalize qaT x b=xt at *
 generalize wB x b=xb at *
 rw [e1,e2,e4,e5]
 grind
theorem qfF (a:Nat) {b:Nat} (h:0<b):qbp (.int (a:Nat)) (.int (b:Nat))=some (.int ((a%b:Nat):Int)):=by
 rw [vI (by omega)]
 rfl
theorem wZ (a:Nat) {b:Nat} (h:0<b) (h1:b<1606938044258990275541962092341162602522202993782792835301376):ve (.int (a:Nat)) (.int (b:Nat))=some (.int ((a/b:Nat):Int)):=by
 rw [wV (by omega) (by omega)]
 rfl
theorem qhK {n:Nat} (h:n<=18000000000000000000):jz (n:Int)=true:=by
 unfold jz
 rw [Bool.and_eq_true,decide_eq_true_eq,decide_eq_true_eq]
 constructor<;>omega
theorem qhL {a:Nat} (b:Nat) (h:a<=18000000000000000000):jV (.int (a:Nat)) (.int (b:Nat))=some (.int ((a*b:Nat):Int)):=by
 rw [qb0 (qhK h)]
 rfl
theorem qfG (a:Nat) {b:Nat} (h:b<=18000000000000000000):jV (.int (a:Nat)) (.int (b:Nat))=some (.int ((a*b:Nat):Int)):=by
 rw [qgj (qhK h)]
 rfl
theorem qpY (a b:Nat):z4 (.int (a:Nat)) (.int (b:Nat))=some (.int ((a+b:Nat):Int)):=rfl
theorem qcY (t b:Nat):ixD (frD t b) (.int 0)=some (.int (t:Nat)):=rfl
theorem qaU (t b:Nat):ixD (frD t b) (.int 1)=some (.int (b:Nat)):=rfl
theorem qnv {t u:M Bool} {U:Env} (h1:t U = .ok (false,U)) (h2:u U = .ok (false,U)):tor t u U = .ok (false,U):=by rw [qga,h1];exact h2
theorem qpZ {t u:M Bool} {U:Env} (h1:t U = .ok (true,U)):tor t u U = .ok (true,U):=by rw [qga,h1];rfl
theorem yY {F:List D->R D} {f g h:M D} {U:Env} {a b c d:D} (hf:f U = .ok (a,U)) (hg:g U = .ok (b,U)) (hh:h U = .ok (c,U)) (e:F [a,b,c] = .ok d):qe F (qa f (qa g (qa h (ret [])))) U = .ok (d,U):=qnq hf hg hh e
theorem qnw {F:List D->R D} {f g h k l:M D} {U:Env} {a b c z y d:D} (hf:f U = .ok (a,U)) (hg:g U = .ok (b,U)) (hh:h U = .ok (c,U)) (hk:k U = .ok (z,U)) (hl:l U = .ok (y,U)) (e:F [a,b,c,z,y] = .ok d):qe F (qa f (qa g (qa h (qa k (qa l (ret [])))))) U = .ok (d,U):=by
 have e0:qa g (qa h (qa k (qa l (ret [])))) U = .ok ([b,c,z,y],U):=by
  have e1:qa k (qa l (ret [])) U = .ok ([z,y],U):=qbF hk hl
  have e2:qa h (qa k (qa l (ret []))) U = .ok ([c,z,y],U):=by rw [zD,hh];simp only [e1]
  rw [zD,hg];simp only [e2]
 have e3:qa f (qa g (qa h (qa k (qa l (ret []))))) U = .ok ([a,b,c,z,y],U):=by rw [zD,hf];simp only [e0]
 rw [yd,e3]
 simp only [e]
theorem qnx {F:List D->Option D} {f g:M D} {U:Env} {a b d:D} (hf:f U = .ok (a,U)) (hg:g U = .ok (b,U)) (e:F [a,b]=some d):qQ F (qa f (qa g (ret []))) U = .ok (d,U):=by
 rw [qaj,qbF hf hg]
 simp only [e]
theorem qi8 (xs:List D) (j:Nat) (h:j<=xs.length):qgv xs none (some (j:Int))=xs.take j:=by
 unfold qgv
 rw [HT.sIx_none,HT.sIx_nat,Nat.min_eq_left h]
 simp
theorem qi9 (xs:List D) (j:Nat) (h:j<=xs.length):qgv xs (some (j:Int)) none=xs.drop j:=by
 unfold qgv
 rw [HT.sIx_none,HT.sIx_nat,Nat.min_eq_left h]
 exact List.take_of_length_le (by simp)
theorem w5 {i:Nat} {f:M D} {U U1:Env} {d:D} (h:f U = .ok (d,U1)):z7 i f U = .ok (.nx (U1.set i (some d))):=by rw [vi,h]
theorem jA {f:M D} {U U1:Env} {d:D} (h:f U = .ok (d,U1)):zn f U = .ok (.rt d U1):=by rw [uI,h]
theorem uY {f:M D} {U U1:Env} {d:D} (h:f U = .ok (d,U1)):zj f U = .ok (.nx U1):=by rw [uu,h]
end Law
end L2.Sk
namespace L2.Sk.Law
def vn:List Kw->Int->List (List Int)
 | [],_=>[[]]
 | k::ks,r=>(List.range (ofn k r+1)).flatMap fun t:Nat=>(vn ks (r-(t:Int)*k.w)).map fun l=>(t:Int)::l
def mxZ:List Int->Int
 | []=>0
 | a::l=>l.foldl max a
theorem qbG:∀ (l:List Int) (a:Int),a<=l.foldl max a/\(∀ x∈l,x<=l.foldl max a)/\(l.foldl max a=a\/l.foldl max a∈l)
 | [],a=>⟨Int.le_refl _,(fun _ h=>by cases h),.inl rfl⟩
 | b :: l,a=>by
  obtain ⟨h1,h2,h3⟩:=qbG l (max a b)
  rw [fo_]
  refine ⟨by omega,fun x hx => ?_,?_⟩
  ·rcases List.mem_cons.mp hx with rfl | hx
   ·omega
   ·exact h2 x hx
  ·rcases h3 with h3 | h3
   ·rw [h3]
    rcases Int.le_total a b with h | h
    ·right;rw [Int.max_eq_right h];exact mS_
    ·left;exact Int.max_eq_left h
   ·exact .inr (mM _ h3)
theorem qny {l:List Int} {x:Int} (h:x∈l):x<=mxZ l:=by
 cases l with
 | nil=>cases h
 | cons a l =>
  obtain ⟨h1,h2,_⟩:=qbG l a
  rcases List.mem_cons.mp h with rfl | h
  ·exact h1
  ·exact h2 x h
theorem qlw {l:List Int} (h:l≠[]):mxZ l∈l:=by
 cases l with
 | nil=>exact absurd rfl h
 | cons a l =>
  rcases (qbG l a).2.2 with e | e
  ·show l.foldl max a∈_
   rw [e];exact mS_
  ·exact mM _ e
def zr:List Kw->Int->Int
 | [],_=>0
 | k::ks,r=>mxZ ((List.range (ofn k r+1)).map fun t:Nat=>(t:Int)*k.v+zr ks (r-(t:Int)*k.w))
theorem qhM {k:Kw} {ks:List Kw} {r:Int} {t:Nat} (h:t<=ofn k r):(t:Int)*k.v+zr ks (r-(t:Int)*k.w)<=zr (k::ks) r:=qny (mP_.mpr ⟨t,mR_.mpr (by omega),rfl⟩)
theorem qlx (k:Kw) (ks:List Kw) (r:Int):∃ t,t<=ofn k r/\(t:Int)*k.v+zr ks (r-(t:Int)*k.w)=zr (k::ks) r:=by
 have h:=qlw (l:=(List.range (ofn k r+1)).map fun t:Nat=>(t:Int)*k.v+zr ks (r-(t:Int)*k.w)) (by simp)
 obtain ⟨t,ht,e⟩:=mP_.mp h
 exact ⟨t,by have:=mR_.mp ht;omega,e⟩
theorem qa7:∀ (ks:List Kw) (r:Int) (l:List Int),l∈vn ks r->qP ks l<=zr ks r
 | [],r,l,h=>by
  have:l=[]:=ms_.mp h
  subst this
  exact Int.le_refl _
 | k::ks,r,l,h=>by
  obtain ⟨t,ht,h2⟩:=List.mem_flatMap.mp h
  obtain ⟨l',hl',rfl⟩:=mP_.mp h2
  have h3:=qa7 ks _ l' hl'
  have h4:=qhM (k:=k) (ks:=ks) (r:=r) (t:=t) (by have:=mR_.mp ht;omega)
  show (t:Int)*k.v+qP ks l'<=_
  omega
def jB (k:Kw) (ks:List Kw) (r:Int):Nat:=(List.range (ofn k r+1)).findIdx fun t:Nat=>decide ((t:Int)*k.v+zr ks (r-(t:Int)*k.w)=zr (k::ks) r)
def qja:List Kw->Int->List Int
 | [],_=>[]
 | k::ks,r=>(jB k ks r:Int)::qja ks (r-(jB k ks r:Int)*k.w)
theorem qgl (k:Kw) (ks:List Kw) (r:Int):jB k ks r<=ofn k r/\(jB k ks r:Int)*k.v+zr ks (r-(jB k ks r:Int)*k.w)=zr (k::ks) r/\∀ t,t<jB k ks r->(t:Int)*k.v+zr ks (r-(t:Int)*k.w)<zr (k::ks) r:=by
 obtain ⟨t0,h0,e0⟩:=qlx k ks r
 have hlt:jB k ks r<(List.range (ofn k r+1)).length:=by
  unfold jB
  rw [List.findIdx_lt_length]
  exact ⟨t0,mR_.mpr (by omega),decide_eq_true e0⟩
 rw [lR_] at hlt
 refine ⟨by omega,?_,fun t ht => ?_⟩
 ·have:=List.findIdx_getElem (xs:=List.range (ofn k r+1)) (p:=fun t:Nat=>decide ((t:Int)*k.v+zr ks (r-(t:Int)*k.w)=zr (k::ks) r)) (w:=by rw [lR_];exact hlt)
  have:=of_decide_eq_true this
  rw [List.getElem_range] at this
  exact this
 ·have hn:=List.not_of_lt_findIdx (xs:=List.range (ofn k r+1)) (p:=fun t:Nat=>decide ((t:Int)*k.v+zr ks (r-(t:Int)*k.w)=zr (k::ks) r)) (i:=t) ht
  rw [List.getElem_range] at hn
  have h1:=qhM (k:=k) (ks:=ks) (r:=r) (t:=t) (by omega)
  have h2:¬ ((t:Int)*k.v+zr ks (r-(t:Int)*k.w)=zr (k::ks) r):=by simpa using hn
  omega
theorem qam:∀ (ks:List Kw) (r:Int),∃ wA,(vn ks r).filter (fun l=>decide (qP ks l=zr ks r))=qja ks r::wA
 | [],r=>⟨[],rfl⟩
 | k::ks,r=>by
  obtain ⟨h1,h2,h3⟩:=qgl k ks r
  obtain ⟨wA,ih⟩:=qam ks (r-(jB k ks r:Int)*k.w)
  have split:List.range (ofn k r+1)=List.range (jB k ks r)++(jB k ks r::(List.range' (jB k ks r+1) (ofn k r-jB k ks r))):=by
   rw [List.range_eq_range',List.range_eq_range',<- List.range'_succ]
   have:=List.range'_append_1 (s:=0) (m:=jB k ks r) (n:=ofn k r-jB k ks r+1)
   rw [Nat.zero_add] at this
   rw [this]
   congr 1
   omega
  simp only [vn]
  rw [split,List.flatMap_append,fC_,List.filter_append,List.filter_append]
  have z:((List.range (jB k ks r)).flatMap fun t:Nat=>(vn ks (r-(t:Int)*k.w)).map fun l=>(t:Int)::l).filter (fun l=>decide (qP (k::ks) l=zr (k::ks) r))=[]:=by
   rw [List.filter_eq_nil_iff]
   intro l hl
   obtain ⟨t,ht,h4⟩:=List.mem_flatMap.mp hl
   obtain ⟨l',hl',rfl⟩:=mP_.mp h4
   have h5:=h3 t (mR_.mp ht)
   have h6:=qa7 ks _ l' hl'
   have e:qP (k::ks) ((t:Int)::l')=(t:Int)*k.v+qP ks l':=rfl
   rw [e]
   simp
   omega
  rw [z,List.nil_append,List.filter_map]
  have e:(fun l=>decide (qP (k::ks) l=zr (k::ks) r))∘(fun l=>(jB k ks r:Int)::l)=fun l=>decide (qP ks l=zr ks (r-(jB k ks r:Int)*k.w)):=by
   funext l
   have e1:qP (k::ks) ((jB k ks r:Int)::l)=(jB k ks r:Int)*k.v+qP ks l:=rfl
   simp only [Function.comp_def,e1,<- h2]
   rw [decide_eq_decide]
   omega
  rw [e,ih]
  exact ⟨_,rfl⟩
end L2.Sk.Law
namespace L2.Srt
open PySem PySem.W PyProof.Rows
section
variable (ks:List Int)
abbrev kk (i:Nat):Int:=ks.getD i 0
abbrev cm (i j:Nat):Bool:=decide (ks.getD i 0<ks.getD j 0)
def Lx (i j:Nat):Prop:=kk ks i<kk ks j\/(kk ks i=kk ks j/\i<j)
theorem Lx.le {i j:Nat} (h:Lx ks i j):kk ks i<=kk ks j:=by rcases h with h | h<;>omega
structure qfH (n m:Nat) (p:Array Nat):Prop where
 sz:p.size=n
 mn:m<=n
 id:∀ k,m<=k->k<n->p.getD k 0=k
 lo:∀ k,k<m->p.getD k 0<m
 so:∀ i j,i<j->j<m->Lx ks (p.getD i 0) (p.getD j 0)
end
theorem qan {p q:Array Nat} {k j:Nat} (h:p[k]? = q[j]?):p.getD k 0=q.getD j 0:=by
 rw [Array.getD_eq_getD_getElem?,Array.getD_eq_getD_getElem?,h]
theorem qcZ {p:Array Nat} {i j:Nat} (hj:j<=p.size) (hij:i<=j) (k:Nat):(kas_rev p i j).getD k 0=if i<=k/\k<j then p.getD (i+j-1-k) 0 else p.getD k 0:=by
 have h:=getElem?_mirror (xs:=p) (i:=i) (j:=j) hj ((j-i)/2) (by omega) k
 unfold kas_rev
 by_cases hk:i<=k/\k<j
 ·rw [if_pos hk]
  by_cases hm:(i<=k/\k<i+(j-i)/2)\/(j-(j-i)/2<=k/\k<j)
  ·rw [if_pos hm] at h
   exact qan h
  ·rw [if_neg hm] at h
   have e:i+j-1-k=k:=by omega
   rw [e]
   exact qan h
 ·rw [if_neg hk]
  rw [if_neg (by omega)] at h
  exact qan h
theorem qc0 (p:Array Nat) (i j:Nat):(kas_rev p i j).size=p.size:=mirror_size _ _ _ _
theorem qly {p:Array Nat} {k l:Nat} (hk:k<p.size) (hl:l<=k) (j:Nat):(bubble p k (k-l)).getD j 0=if j=l then p.getD k 0 else if l<j/\j<=k then p.getD (j-1) 0 else p.getD j 0:=by
 have h:=getElem?_bubble (xs:=p) (src:=k) hk (k-l) (by omega) j
 rw [show k-(k-l)=l by omega] at h
 by_cases h1:j=l
 ·rw [if_pos h1] at h |-
  exact qan h
 ·rw [if_neg h1] at h |-
  by_cases h2:l<j/\j<=k
  ·rw [if_pos h2] at h |-
   exact qan h
  ·rw [if_neg h2] at h |-
   exact qan h
section
variable {ks:List Int}
theorem qhN {n:Nat} {p:Array Nat}:∀ (f m:Nat),f=n-m->1<=m->qfH ks n m p->∃ m',runK (cm ks) (kas_asc p f m)=m'/\m<=m'/\qfH ks n m' p/\(m'<n->kk ks (p.getD m' 0)<kk ks (p.getD (m'-1) 0))
 | 0,m,hf,h1,S=>⟨m,rfl,Nat.le_refl _,S,fun h=>by omega⟩
 | f + 1,m,hf,h1,S=>by
  show ∃ m',runK (cm ks) (if cm ks (p.getD m 0) (p.getD (m-1) 0)=true then KasT.ret m else kas_asc p f (m+1))=m'/\_
  by_cases c:kk ks (p.getD m 0)<kk ks (p.getD (m-1) 0)
  ·rw [if_pos (decide_eq_true c)]
   exact ⟨m,rfl,Nat.le_refl _,S,fun _=>c⟩
  ·rw [if_neg (by simpa using c)]
   have hid:p.getD m 0=m:=S.id m (Nat.le_refl _) (by omega)
   have S':qfH ks n (m+1) p:=by
    refine ⟨S.sz,by omega,fun k a b=>S.id k (by omega) b,fun k a => ?_,fun i j a b => ?_⟩
    ·by_cases e:k<m
     ·have:=S.lo k e;omega
     ·have:k=m:=by omega
      rw [this,hid];omega
    ·by_cases e:j<m
     ·exact S.so i j a e
     ·have ej:j=m:=by omega
      subst ej
      have l1:=S.lo i a
      have k1:kk ks (p.getD i 0)<=kk ks (p.getD (j-1) 0):=by
       by_cases e2:i=j-1
       ·rw [e2];exact Int.le_refl _
       ·exact (S.so i (j-1) (by omega) (by omega)).le
      have c':kk ks (p.getD (j-1) 0)<=kk ks (p.getD j 0):=Int.not_lt.mp c
      unfold Lx
      rw [hid] at c' |-
      omega
   obtain ⟨m',e1,e2,e3,e4⟩:=qhN f (m+1) (by omega) (by omega) S'
   exact ⟨m',e1,by omega,e3,e4⟩
structure Dwn (ks:List Int) (n m q:Nat) (p:Array Nat):Prop where
 sz:p.size=n
 mn:m<=n
 qm:q+1<=m
 id:∀ k,m<=k->k<n->p.getD k 0=k
 lo:∀ k,k<m->p.getD k 0<m
 a1:∀ i j,i<m-(q+1)->m-(q+1)<=j->j<m->kk ks (p.getD j 0)<kk ks (p.getD i 0)
 a2:∀ i j,i<j->j<m-(q+1)->Lx ks (p.getD j 0) (p.getD i 0)
 bl:∀ i j,m-(q+1)<=i->i<j->j<m->kk ks (p.getD i 0)=kk ks (p.getD j 0)/\p.getD i 0<p.getD j 0
theorem Dwn.turned {n m q:Nat} {p:Array Nat} (d:Dwn ks n m q p):(kas_rev p (m-(q+1)) m).size=n/\(∀ k,m<=k->k<n->(kas_rev p (m-(q+1)) m).getD k 0=k)/\(∀ k,k<m->(kas_rev p (m-(q+1)) m).getD k 0<m) /\
  (∀ i j,i<j->j<m->Lx ks ((kas_rev p (m-(q+1)) m).getD j 0) ((kas_rev p (m-(q+1)) m).getD i 0))/\(∀ i,i<m->kk ks (p.getD (m-1) 0)<=kk ks ((kas_rev p (m-(q+1)) m).getD i 0)):=by
 have hqm:=d.qm
 have hs:m<=p.size:=by rw [d.sz];exact d.mn
 have g:=fun k=>qcZ (p:=p) (i:=m-(q+1)) (j:=m) hs (by omega) k
 refine ⟨by rw [qc0,d.sz],fun k a b => ?_,fun k a => ?_,fun i j a b => ?_,fun i a => ?_⟩
 ·rw [g,if_neg (by omega)];exact d.id k a b
 ·rw [g]
  split
  ·exact d.lo _ (by omega)
  ·exact d.lo k a
 ·rw [g i,g j]
  by_cases hi:m-(q+1)<=i
  ·rw [if_pos ⟨by omega,b⟩,if_pos ⟨hi,by omega⟩]
   have:=d.bl (m-(q+1)+m-1-j) (m-(q+1)+m-1-i) (by omega) (by omega) (by omega)
   exact .inr ⟨this.1,this.2⟩
  ·rw [if_neg (show ¬ (m-(q+1)<=i/\i<m) by omega)]
   by_cases hj:m-(q+1)<=j
   ·rw [if_pos ⟨hj,b⟩]
    exact .inl (d.a1 i _ (by omega) (by omega) (by omega))
   ·rw [if_neg (by omega)]
    exact d.a2 i j a (by omega)
 ·have key:∀ j,m-(q+1)<=j->j<m->kk ks (p.getD (m-1) 0)=kk ks (p.getD j 0):=fun j h1 h2=>by
   by_cases e:j=m-1
   ·rw [e]
   ·exact (d.bl j (m-1) h1 (by omega) (by omega)).1.symm
  rw [g i]
  by_cases hi:m-(q+1)<=i
  ·rw [if_pos ⟨hi,a⟩]
   exact Int.le_of_eq (key _ (by omega) (by omega))
  ·rw [if_neg (by omega)]
   exact Int.le_of_lt (d.a1 i (m-1) (by omega) (by omega) (by omega))
theorem Dwn.next {n m:Nat} {p:Array Nat} (hsz:p.size=n) (hm:1<=m) (hmn:m<n) (hid:∀ k,m<=k->k<n->p.getD k 0=k) (hlo:∀ k,k<m->p.getD k 0<m) (ho:∀ i j,i<j->j<m->Lx ks (p.getD j 0) (p.getD i 0))
  (hk:∀ i,i<m->kk ks (p.getD m 0)<kk ks (p.getD i 0)):Dwn ks n (m+1) 0 p:=by
 refine ⟨hsz,hmn,by omega,fun k a b=>hid k (by omega) b,fun k a => ?_,fun i j a b c => ?_,fun i j a b=>ho i j a (by omega),fun i j a b c=>by omega⟩
 ·by_cases e:k<m
  ·have:=hlo k e;omega
  ·have:k=m:=by omega
   rw [this,hid m (Nat.le_refl _) hmn];omega
 ·have:j=m:=by omega
  subst this
  exact hk i (by omega)
theorem qpr {n m:Nat} {p:Array Nat} (d:Dwn ks n m 0 p):∀ k,(kas_rev p (m-(0+1)) m).getD k 0=p.getD k 0:=fun k=>by
 have hqm:=d.qm
 rw [qcZ (by rw [d.sz];exact d.mn) (by omega)]
 split
 ·congr 1;omega
 ·rfl
theorem qc1 {n:Nat}:∀ (f m q:Nat) {p:Array Nat},f=n-m->Dwn ks n m q p->∃ r,runK (cm ks) (kas_desc f p m q)=r/\Dwn ks n r.2.1 r.2.2 r.1
 | 0,m,q,p,hf,d=>⟨(p,m,q),rfl,d⟩
 | f + 1,m,q,p,hf,d=>by
  show ∃ r,runK (cm ks) (if cm ks (p.getD m 0) (p.getD (m-1) 0)=true then (if q>0 then kas_desc f (kas_rev p (m-(q+1)) m) (m+1) 0 else kas_desc f p (m+1) 0)
   else .ask (p.getD (m-1) 0) (p.getD m 0) fun c=>if c=true then .ret (p,m,q) else kas_desc f p (m+1) (q+1))=r/\_
  have hmn:m<n:=by have:=d.mn;omega
  have hqm:=d.qm
  have hid:=d.id m (Nat.le_refl _) hmn
  obtain ⟨t1,t2,t3,t4,t5⟩:=d.turned
  by_cases c:kk ks (p.getD m 0)<kk ks (p.getD (m-1) 0)
  ·rw [if_pos (decide_eq_true c)]
   by_cases hq:q>0
   ·rw [if_pos hq]
    have hm':(kas_rev p (m-(q+1)) m).getD m 0=p.getD m 0:=by rw [t2 m (Nat.le_refl _) hmn,hid]
    exact qc1 f (m+1) 0 (by omega) (Dwn.next t1 (by omega) hmn t2 t3 t4 fun i hi=>by rw [hm'];exact Int.lt_of_lt_of_le c (t5 i hi))
   ·rw [if_neg hq]
    have e:q=0:=by omega
    subst e
    have g:=qpr d
    refine qc1 f (m+1) 0 (by omega) (Dwn.next d.sz (by omega) hmn d.id d.lo (fun i j a b => ?_) fun i hi => ?_)
    ·have:=t4 i j a b
     rw [g,g] at this
     exact this
    ·have:=t5 i hi
     rw [g] at this
     exact Int.lt_of_lt_of_le c this
  ·rw [if_neg (by simpa using c)]
   show ∃ r,runK (cm ks) (if cm ks (p.getD (m-1) 0) (p.getD m 0)=true then .ret (p,m,q) else kas_desc f p (m+1) (q+1))=r/\_
   by_cases c2:kk ks (p.getD (m-1) 0)<kk ks (p.getD m 0)
   ·rw [if_pos (decide_eq_true c2)]
    exact ⟨(p,m,q),rfl,d⟩
   ·rw [if_neg (by simpa using c2)]
    have ek:kk ks (p.getD (m-1) 0)=kk ks (p.getD m 0):=by
     have a1:kk ks (p.getD (m-1) 0)<=kk ks (p.getD m 0):=Int.not_lt.mp c
     have a2:kk ks (p.getD m 0)<=kk ks (p.getD (m-1) 0):=Int.not_lt.mp c2
     omega
    refine qc1 f (m+1) (q+1) (by omega) ⟨d.sz,hmn,by omega,fun k a b=>d.id k (by omega) b,fun k a => ?_,fun i j a b c => ?_,fun i j a b=>d.a2 i j a (by omega),fun i j a b c => ?_⟩
    ·by_cases e:k<m
     ·have:=d.lo k e;omega
     ·have:k=m:=by omega
      rw [this,hid];omega
    ·by_cases e:j<m
     ·exact d.a1 i j (by omega) (by omega) e
     ·have:j=m:=by omega
      subst this
      rw [<- ek]
      exact d.a1 i (j-1) (by omega) (by omega) (by omega)
    ·by_cases e:j<m
     ·exact d.bl i j (by omega) b e
     ·have:j=m:=by omega
      subst this
      have l1:=d.lo i b
      refine ⟨?_,by rw [hid];exact l1⟩
      rw [<- ek]
      by_cases e2:i=j-1
      ·rw [e2]
      ·exact (d.bl i (j-1) (by omega) (by omega) (by omega)).1
theorem qfI {n m:Nat} {p:Array Nat} (hsz:p.size=n) (hm:1<=m) (hmn:m<=n) (hid:∀ k,m<=k->k<n->p.getD k 0=k) (hlo:∀ k,k<m->p.getD k 0<m) (ho:∀ i j,i<j->j<m->Lx ks (p.getD j 0) (p.getD i 0)) :
  qfH ks n (runK (cm ks) (kas_tail3 m n p)).1 (runK (cm ks) (kas_tail3 m n p)).2/\1<=(runK (cm ks) (kas_tail3 m n p)).1:=by
 have g:=fun k=>qcZ (p:=p) (i:=0) (j:=m) (by rw [hsz];exact hmn) (Nat.zero_le _) k
 have S:qfH ks n m (kas_rev p 0 m):=by
  refine ⟨by rw [qc0,hsz],hmn,fun k a b => ?_,fun k a => ?_,fun i j a b => ?_⟩
  ·rw [g,if_neg (by omega)];exact hid k a b
  ·rw [g,if_pos ⟨Nat.zero_le _,a⟩];exact hlo _ (by omega)
  ·rw [g,g,if_pos ⟨Nat.zero_le _,by omega⟩,if_pos ⟨Nat.zero_le _,b⟩]
   exact ho _ _ (by omega) (by omega)
 obtain ⟨m',e1,e2,e3,_⟩:=qhN (n-m) m rfl hm S
 have e:runK (cm ks) (kas_tail3 m n p)=(m',kas_rev p 0 m):=by
  unfold kas_tail3
  rw [uL,e1]
  rfl
 rw [e]
 exact ⟨e3,by show 1<=m';omega⟩
theorem qbH {n m:Nat} {p:Array Nat} (d:Dwn ks n (m+1) 0 p):qfH ks n (runK (cm ks) (kas_descPart m n p)).1 (runK (cm ks) (kas_descPart m n p)).2/\1<=(runK (cm ks) (kas_descPart m n p)).1:=by
 obtain ⟨r,e1,e2⟩:=qc1 (n-(m+1)) (m+1) 0 rfl d
 obtain ⟨t1,t2,t3,t4,_⟩:=e2.turned
 have hqm:=e2.qm
 unfold kas_descPart
 rw [uL,e1]
 by_cases hq:r.2.2>0
 ·rw [if_pos hq]
  exact qfI t1 (by omega) e2.mn t2 t3 t4
 ·rw [if_neg hq]
  obtain ⟨p',m',q'⟩:=r
  have e:q'=0:=by show q'=0;have:¬ q'>0:=hq;omega
  subst e
  have g:=qpr e2
  refine qfI e2.sz (by omega) e2.mn e2.id e2.lo fun i j a b => ?_
  have:=t4 i j a b
  rw [g,g] at this
  exact this
theorem qjb {n:Nat} (hn:1<=n):qfH ks n (runK (cm ks) (kas_count n (List.toArray (List.range n)))).1 (runK (cm ks) (kas_count n (List.toArray (List.range n)))).2/\1<=(runK (cm ks) (kas_count n (List.toArray (List.range n)))).1:=by
 have hr:∀ k,k<n->(List.toArray (List.range n)).getD k 0=k:=fun k hk=>by simp [Array.getD,hk]
 have S1:qfH ks n 1 (List.toArray (List.range n)):=⟨by simp,hn,fun k _ b=>hr k b,fun k a=>by rw [hr k (by omega)];exact a,fun i j a b=>by omega⟩
 obtain ⟨m,e1,e2,e3,e4⟩:=qhN (n-1) 1 rfl (Nat.le_refl _) S1
 unfold kas_count
 rw [uL,e1]
 by_cases h1:m=n
 ·rw [if_pos (by rw [h1];simp)]
  exact ⟨e3,e2⟩
 ·rw [if_neg (by simpa using h1)]
  have hmn:m<n:=by have:=e3.mn;omega
  have hk:=e4 hmn
  by_cases h2:m>1
  ·rw [if_pos h2]
   show qfH ks n (runK (cm ks) (if cm ks ((List.toArray (List.range n)).getD 0 0) ((List.toArray (List.range n)).getD (m-1) 0)=true then .ret (m,List.toArray (List.range n)) else kas_descPart m n (kas_rev (List.toArray (List.range n)) 0 m))).1 _/\_
   by_cases c:kk ks ((List.toArray (List.range n)).getD 0 0)<kk ks ((List.toArray (List.range n)).getD (m-1) 0)
   ·rw [show runK (cm ks) (KasT.ask ((List.toArray (List.range n)).getD 0 0) ((List.toArray (List.range n)).getD (m-1) 0) fun c=>if c=true then .ret (m,List.toArray (List.range n)) else kas_descPart m n (kas_rev (List.toArray (List.range n)) 0 m))=runK (cm ks) (if cm ks ((List.toArray (List.range n)).getD 0 0) ((List.toArray (List.range n)).getD (m-1) 0)=true then .ret (m,List.toArray (List.range n)) else kas_descPart m n (kas_rev (List.toArray (List.range n)) 0 m)) from rfl,if_pos (decide_eq_true c)]
    exact ⟨e3,e2⟩
   ·rw [show runK (cm ks) (KasT.ask ((List.toArray (List.range n)).getD 0 0) ((List.toArray (List.range n)).getD (m-1) 0) fun c=>if c=true then .ret (m,List.toArray (List.range n)) else kas_descPart m n (kas_rev (List.toArray (List.range n)) 0 m))=runK (cm ks) (if cm ks ((List.toArray (List.range n)).getD 0 0) ((List.toArray (List.range n)).getD (m-1) 0)=true then .ret (m,List.toArray (List.range n)) else kas_descPart m n (kas_rev (List.toArray (List.range n)) 0 m)) from rfl,if_neg (by simpa using c)]
    generalize hp:List.toArray (List.range n)=p at *
    have g:=fun k=>qcZ (p:=p) (i:=0) (j:=m) (by rw [e3.sz];omega) (Nat.zero_le _) k
    have al:∀ i,i<m->kk ks (p.getD i 0)=kk ks (p.getD 0 0):=fun i hi=>by
     have c':kk ks (p.getD (m-1) 0)<=kk ks (p.getD 0 0):=Int.not_lt.mp c
     have a1:kk ks (p.getD 0 0)<=kk ks (p.getD i 0):=by
      by_cases e:i=0
      ·rw [e];exact Int.le_refl _
      ·exact (e3.so 0 i (by omega) hi).le
     have a2:kk ks (p.getD i 0)<=kk ks (p.getD (m-1) 0):=by
      by_cases e:i=m-1
      ·rw [e];exact Int.le_refl _
      ·exact (e3.so i (m-1) (by omega) (by omega)).le
     omega
    refine qbH (Dwn.next (by rw [qc0,e3.sz]) (by omega) hmn (fun k a b=>by rw [g,if_neg (by omega)];exact e3.id k a b) (fun k a=>by rw [g,if_pos ⟨Nat.zero_le _,a⟩];exact e3.lo _ (by omega)) (fun i j a b => ?_) fun i hi => ?_)
    ·rw [g,g,if_pos ⟨Nat.zero_le _,b⟩,if_pos ⟨Nat.zero_le _,by omega⟩]
     exact e3.so _ _ (by omega) (by omega)
    ·have h9:=al (m-1) (by omega)
     rw [g m,g i,if_neg (by omega),if_pos ⟨Nat.zero_le _,hi⟩,al (0+m-1-i) (by omega),<- h9]
     exact hk
  ·rw [if_neg h2]
   have em:m=1:=by omega
   subst em
   exact qbH (Dwn.next e3.sz (Nat.le_refl _) hmn e3.id e3.lo (fun i j a b=>by omega) fun i hi=>by
    have:i=0:=by omega
    subst this
    exact hk)
theorem qc2 {n k:Nat} {p:Array Nat} (S:qfH ks n k p):∀ (f l r:Nat),r-l<=f->l<=r->r<=k->(∀ i,i<l->kk ks (p.getD i 0)<=kk ks (p.getD k 0))->(∀ i,r<=i->i<k->kk ks (p.getD k 0)<kk ks (p.getD i 0)) ->
  ∃ l',runK (cm ks) (kas_place p k f l r)=l'/\l'<=k/\(∀ i,i<l'->kk ks (p.getD i 0)<=kk ks (p.getD k 0))/\(∀ i,l'<=i->i<k->kk ks (p.getD k 0)<kk ks (p.getD i 0))
 | 0,l,r,hf,h1,h2,a,b=>⟨l,rfl,by omega,a,fun i c d=>b i (by omega) d⟩
 | f + 1,l,r,hf,h1,h2,a,b=>by
  have mono:∀ i j,i<=j->j<k->kk ks (p.getD i 0)<=kk ks (p.getD j 0):=fun i j hij hj=>by
   by_cases e:i=j
   ·rw [e];exact Int.le_refl _
   ·exact (S.so i j (by omega) hj).le
  unfold kas_place
  by_cases hge:l >= r
  ·rw [if_pos hge]
   exact ⟨l,rfl,by omega,a,fun i c d=>b i (by omega) d⟩
  ·rw [if_neg hge]
   show ∃ l',runK (cm ks) (if cm ks (p.getD k 0) (p.getD ((l+r)/2) 0)=true then kas_place p k f l ((l+r)/2) else kas_place p k f ((l+r)/2+1) r)=l'/\_
   by_cases c:kk ks (p.getD k 0)<kk ks (p.getD ((l+r)/2) 0)
   ·rw [if_pos (decide_eq_true c)]
    exact qc2 S f l ((l+r)/2) (by omega) (by omega) (by omega) a fun i x y=>Int.lt_of_lt_of_le c (mono _ _ x y)
   ·rw [if_neg (by simpa using c)]
    exact qc2 S f ((l+r)/2+1) r (by omega) (by omega) h2 (fun i x=>Int.le_trans (mono i ((l+r)/2) (by omega) (by omega)) (Int.not_lt.mp c)) b
theorem qj5 {n:Nat}:∀ (f k:Nat) {p:Array Nat},f=n-k->qfH ks n k p->qfH ks n n (runK (cm ks) (kas_bin f p k))
 | 0,k,p,hf,S=>by
  have:k=n:=by have:=S.mn;omega
  subst this
  exact S
 | f + 1,k,p,hf,S=>by
  have hkn:k<n:=by omega
  have hid:=S.id k (Nat.le_refl _) hkn
  obtain ⟨l,e1,e2,e3,e4⟩:=qc2 S k 0 k (by omega) (Nat.zero_le _) (Nat.le_refl _) (fun i h=>by omega) (fun i h1 h2=>by omega)
  show qfH ks n n (runK (cm ks) ((kas_place p k k 0 k).bind fun l=>kas_bin f (bubble p k (k-l)) (k+1)))
  rw [uL,e1]
  have g:=fun j=>qly (p:=p) (k:=k) (l:=l) (by rw [S.sz];exact hkn) e2 j
  refine qj5 f (k+1) (by omega) ⟨by rw [bubble_size,S.sz],hkn,fun j a b => ?_,fun j a => ?_,fun i j a b => ?_⟩
  ·rw [g,if_neg (by omega),if_neg (by omega)];exact S.id j (by omega) b
  ·rw [g]
   split
   ·rw [hid];omega
   ·split
    ·have:=S.lo (j-1) (by omega);omega
    ·have:=S.lo j (by omega);omega
  ·rw [g i,g j]
   have lk:∀ z,z<k->z<l->Lx ks (p.getD z 0) (p.getD k 0):=fun z hz hl=>by
    have h1:=e3 z hl
    have h2:=S.lo z hz
    unfold Lx
    rw [hid] at h1 |-
    omega
   have gk:∀ z,l<=z->z<k->Lx ks (p.getD k 0) (p.getD z 0):=fun z hl hz => .inl (e4 z hl hz)
   by_cases hi:i=l
   ·rw [if_pos hi,if_neg (by omega),if_pos ⟨by omega,by omega⟩]
    exact gk _ (by omega) (by omega)
   ·rw [if_neg hi]
    by_cases hj:j=l
    ·rw [if_pos hj,if_neg (by omega)]
     exact lk i (by omega) (by omega)
    ·rw [if_neg hj]
     by_cases hi2:l<i/\i<=k
     ·rw [if_pos hi2,if_pos ⟨by omega,by omega⟩]
      exact S.so _ _ (by omega) (by omega)
     ·rw [if_neg hi2]
      by_cases hj2:l<j/\j<=k
      ·rw [if_pos hj2]
       exact S.so _ _ (by omega) (by omega)
      ·rw [if_neg hj2]
       exact S.so _ _ a (by omega)
theorem qlz {n:Nat} (hn:1<=n):qfH ks n n (runK (cm ks) (kas_sort n)):=by
 obtain ⟨S,h1⟩:=qjb (ks:=ks) hn
 unfold kas_sort
 rw [uL]
 by_cases h:(runK (cm ks) (kas_count n (List.toArray (List.range n)))).1<n
 ·rw [if_pos h]
  have e:max (runK (cm ks) (kas_count n (List.toArray (List.range n)))).1 1=(runK (cm ks) (kas_count n (List.toArray (List.range n)))).1:=by omega
  rw [e]
  exact qj5 _ _ rfl S
 ·rw [if_neg h]
  have e:(runK (cm ks) (kas_count n (List.toArray (List.range n)))).1=n:=by have:=S.mn;omega
  rw [e] at S
  exact S
end
theorem ord_sorted (ks:List Int):(ord ks).Pairwise (Lx ks):=by
 unfold ord
 split
 ·rename_i h
  match hk:ks.length,h with
  | 0,_=>exact List.Pairwise.nil
  | 1,_=>exact List.pairwise_singleton _ _
 ·have S:=qlz (ks:=ks) (n:=ks.length) (by omega)
  rw [List.pairwise_iff_getElem]
  intro i j hi hj hij
  have hz:=S.sz
  rw [Array.length_toList] at hi hj
  have:=S.so i j hij (by rw [<- hz];exact hj)
  have e1:(runK (cm ks) (kas_sort ks.length)).getD i 0=(runK (cm ks) (kas_sort ks.length)).toList[i]'(by rw [Array.length_toList];exact hi):=by simp [Array.getD,hi]
  have e2:(runK (cm ks) (kas_sort ks.length)).getD j 0=(runK (cm ks) (kas_sort ks.length)).toList[j]'(by rw [Array.length_toList];exact hj):=by simp [Array.getD,hj]
  rw [e1,e2] at this
  exact this
end L2.Srt
namespace L2.Sk.Law
def sgK (k:Kw):Prop:=1<=k.w/\0<=k.v/\(k.m=some 0\/k.m=some 1)
theorem sgK.kd {k:Kw} (h:sgK k):qnt k:=⟨h.1,fun j e=>by rcases h.2.2 with q | q<;>rw [q] at e<;>cases e<;>decide⟩
def tm (k:Kw):Nat:=(k.m.getD 0).toNat
theorem qgm {k:Kw} (h:sgK k):tm k<=1:=by unfold tm;rcases h.2.2 with q | q<;>rw [q]<;>decide
def qeP (L:List (List Int)) (k:Kw):List (List Int):=L.flatMap fun l=>(List.range (tm k+1)).map fun t:Nat=>l++[(t:Int)]
def zN:List Kw->List (List Int)
 | []=>[[]]
 | k::ks=>(List.range (tm k+1)).flatMap fun t:Nat=>(zN ks).map fun l=>(t:Int)::l
theorem qeh:∀ (ks:List Kw) (F:List (List Int)),ks.foldl qeP F=F.flatMap fun p=>(zN ks).map fun l=>p++l
 | [],F=>by simp [zN]
 | k::ks,F=>by
  rw [fo_,qeh ks]
  unfold qeP
  rw [List.flatMap_assoc]
  congr 1
  funext p
  simp only [zN]
  rw [List.flatMap_map,List.map_flatMap]
  congr 1
  funext t
  rw [mm_]
  congr 1
  funext l
  simp
theorem qjc (ks:List Kw):ks.foldl qeP [[]]=zN ks:=by rw [qeh];simp
def qI:List Kw->List Int->Int
 | k::ks,t::ts=>t*k.w+qI ks ts
 | _,_=>0
theorem qa8:∀ {ks:List Kw} {l:List Int},l∈zN ks->l.length=ks.length
 | [],l,h=>by rw [ms_.mp h];rfl
 | k::ks,l,h=>by
  obtain ⟨t,_,h2⟩:=List.mem_flatMap.mp h
  obtain ⟨l',hl',rfl⟩:=mP_.mp h2
  rw [lC_,lC_,qa8 hl']
theorem qc3:∀ {ks:List Kw} {l:List Int},(∀ k∈ks,sgK k)->l∈zN ks->∀ t∈l,t=0\/t=1
 | [],l,_,h=>by rw [ms_.mp h];intro t ht;cases ht
 | k::ks,l,hk,h=>by
  obtain ⟨t,ht,h2⟩:=List.mem_flatMap.mp h
  obtain ⟨l',hl',rfl⟩:=mP_.mp h2
  intro x hx
  have:=qgm (hk k mS_)
  have h3:=mR_.mp ht
  rcases List.mem_cons.mp hx with rfl | hx
  ·omega
  ·exact qc3 (fun k hk'=>hk k (mM _ hk')) hl' x hx
theorem qei:∀ {ks:List Kw} {l:List Int},(∀ k∈ks,sgK k)->(∀ t∈l,t=0\/t=1)->0<=qI ks l/\0<=qP ks l
 | [],_,_,_=>⟨by simp [qI],by simp [qP]⟩
 | k::ks,[],_,_=>⟨by simp [qI],by simp [qP]⟩
 | k::ks,t::l,hk,hl=>by
  obtain ⟨h1,h2⟩:=qei (fun k hk'=>hk k (mM _ hk')) (fun x hx=>hl x (mM _ hx)) (ks:=ks) (l:=l)
  obtain ⟨g1,g2,_⟩:=hk k mS_
  have ht:0<=t:=by rcases hl t mS_ with e | e<;>omega
  have a1:0<=t*k.w:=Int.mul_nonneg ht (by omega)
  have a2:0<=t*k.v:=Int.mul_nonneg ht g2
  exact ⟨by show 0<=t*k.w+qI ks l;omega,by show 0<=t*k.v+qP ks l;omega⟩
theorem qeQ {ks:List Kw} {l:List Int} (hk:∀ k∈ks,sgK k) (h:l∈zN ks):0<=qI ks l/\0<=qP ks l:=qei hk (qc3 hk h)
theorem qfJ {α:Type} {f:Nat->List α} {m:Nat}:∀ n,m<=n->(∀ t,m<t->t<=n->f t=[])->(List.range (n+1)).flatMap f=(List.range (m+1)).flatMap f
 | 0,h,_=>by
  have:m=0:=by omega
  rw [this]
 | n+1,h,hf=>by
  by_cases c:m=n+1
  ·rw [c]
  ·rw [List.range_succ,List.flatMap_append,qfJ n (by omega) fun t h1 h2=>hf t h1 (by omega)]
   simp [hf (n+1) (by omega) (Nat.le_refl _)]
theorem qcr {α β:Type} {f g:α->List β}:∀ {l:List α},(∀ a∈l,f a=g a)->l.flatMap f=l.flatMap g
 | [],_=>rfl
 | a::l,h=>by rw [fC_,fC_,h a mS_,qcr fun x hx=>h x (mM _ hx)]
theorem qbI {α β:Type} {f:α->List β} {p:β->Bool}:∀ l:List α,(l.flatMap f).filter p=l.flatMap fun a=>(f a).filter p
 | []=>rfl
 | a::l=>by rw [fC_,List.filter_append,qbI l,fC_]
theorem qeR {α β:Type} {f:α->β} {p:β->Bool} (l:List α):(l.map f).filter p=(l.filter fun a=>p (f a)).map f:=by
 rw [List.filter_map]
 rfl
theorem uN:∀ {ks:List Kw} {r:Int},(∀ k∈ks,sgK k)->0<=r->vn ks r=(zN ks).filter fun l=>decide (qI ks l<=r)
 | [],r,_,hr=>by simp [vn,zN,qI,hr]
 | k :: ks,r,hk,hr=>by
  have gk:=hk k mS_
  have hk':∀ k∈ks,sgK k:=fun x hx=>hk x (mM _ hx)
  simp only [vn,zN]
  rw [qbI]
  have hw:=gk.1
  have hle:ofn k r<=tm k:=by
   unfold ofn tm
   rcases gk.2.2 with q | q<;>rw [q]<;>simp only [Option.getD_some]<;>split<;>omega
  rw [qfJ (m:=ofn k r) (tm k) hle fun t h1 h2 => ?_]
  ·have e:∀ t∈List.range (ofn k r+1),((vn ks (r-(t:Int)*k.w)).map fun l=>(t:Int)::l)=((zN ks).map fun l=>(t:Int)::l).filter fun l=>decide (qI (k::ks) l<=r):=fun t ht=>by
    have h1:=mR_.mp ht
    obtain ⟨g1,_⟩:=qns gk.kd.1 gk.kd.2 hr (show t<=ofn k r by omega)
    rw [uN hk' (show 0<=r-(t:Int)*k.w by omega),qeR]
    congr 1
    refine List.filter_congr fun l _ => ?_
    have:qI (k::ks) ((t:Int)::l)=(t:Int)*k.w+qI ks l:=rfl
    rw [this]
    apply decide_eq_decide.mpr
    omega
   rw [qcr fun t ht=>e t ht]
  ·rw [List.filter_eq_nil_iff]
   intro l hl
   obtain ⟨l',hl',rfl⟩:=mP_.mp hl
   have:=(qeQ hk' hl').1
   have hx:¬ okT k t r=true:=by
    rw [qhI gk.kd.1 gk.kd.2 hr,decide_eq_true_eq]
    omega
   have hx:¬ (t:Int)*k.w<=r:=fun hw'=>hx (by
    unfold okT
    unfold tm at h2
    rw [decide_eq_true hw',Bool.true_and]
    rcases gk.2.2 with q | q<;>rw [q] at h2 |- <;> simp only [Option.getD_some] at h2<;>exact decide_eq_true (by omega))
   have e:qI (k::ks) ((t:Int)::l')=(t:Int)*k.w+qI ks l':=rfl
   rw [e,decide_eq_true_eq]
   omega
theorem qc4:∀ a b:List Kw,zN (a++b)=(zN a).flatMap fun l=>(zN b).map fun m=>l++m
 | [],b=>by simp [zN]
 | k::a,b=>by
  simp only [List.cons_append,zN]
  rw [List.flatMap_assoc]
  congr 1
  funext t
  rw [qc4 a b,List.map_flatMap,List.flatMap_map]
  congr 1
  funext l
  rw [mm_]
  congr 1
theorem qao:∀ (a b:List Kw) (l m:List Int),l.length=a.length->qI (a++b) (l++m)=qI a l+qI b m/\qP (a++b) (l++m)=qP a l+qP b m
 | [],b,[],m,_=>⟨by simp [qI],by simp [qP]⟩
 | k::a,b,t::l,m,h=>by
  obtain ⟨h1,h2⟩:=qao a b l m (by simpa using h)
  refine ⟨?_,?_⟩
  ·show t*k.w+qI (a++b) (l++m)=t*k.w+qI a l+_
   omega
  ·show t*k.v+qP (a++b) (l++m)=t*k.v+qP a l+_
   omega
theorem qbJ:∀ ks:List Kw,List.replicate ks.length (0:Int)∈zN ks/\qI ks (List.replicate ks.length 0)=0
 | []=>⟨ms_.mpr rfl,rfl⟩
 | k::ks=>by
  obtain ⟨h1,h2⟩:=qbJ ks
  refine ⟨List.mem_flatMap.mpr ⟨0,mR_.mpr (by omega),mP_.mpr ⟨_,h1,rfl⟩⟩,?_⟩
  show 0*k.w+qI ks (List.replicate ks.length 0)=0
  rw [h2]
  omega
abbrev T3:=Int×Int×List Int
def wg (ks:List Kw) (l:List Int):T3:=(qI ks l,qP ks l,l)
def wC (ks:List Kw):List T3:=(zN ks).map (wg ks)
def kyT (x:T3):yB:=(x.1,-x.2.1,x.2.2)
def qaV (kept:List T3) (x:T3):List T3:=match kept.getLast? with
 | none=>[x]
 | some y=>if y.2.1<x.2.1 then kept++[x] else kept
def Bo (x y:T3):Prop:=lt3 (kyT y) (kyT x)=false
def srt (L:List T3):List T3:=(Srt.ord (zh (L.map kyT))).map fun i=>L.getD i (0,0,[])
def nbL (ks:List Kw):List T3:=(srt (wC ks)).foldl qaV []
theorem qa9 (L:List T3):(srt L).Perm L:=by
 have h:=(Srt.ord_perm (zh (L.map kyT))).map fun i=>L.getD i ((0,0,[]):T3)
 rw [jO,lM_] at h
 have e:(List.range L.length).map (fun i=>L.getD i ((0,0,[]):T3))=L:=Srt.map_getD_range _ L
 rw [e] at h
 exact h
theorem qgn (L:List T3):(srt L).Pairwise Bo:=by
 unfold srt
 rw [List.pairwise_map]
 have hp:=Srt.ord_perm (zh (L.map kyT))
 have hs:=Srt.ord_sorted (zh (L.map kyT))
 refine (List.pairwise_iff_forall_sublist.mpr fun {i j} hij => ?_)
 have hij':=(List.pairwise_iff_forall_sublist.mp hs) hij
 have hi:i<L.length:=by
  have:=hp.mem_iff.mp (hij.subset (mS_))
  rw [mR_,jO,lM_] at this
  exact this
 have hj:j<L.length:=by
  have:=hp.mem_iff.mp (hij.subset (mM _ mS_))
  rw [mR_,jO,lM_] at this
  exact this
 have hle:=hij'.le
 unfold Bo
 have e1:Srt.kk (zh (L.map kyT)) i=qcT (L.map kyT) (kyT (L.getD i (0,0,[]))):=by unfold Srt.kk zh;simp [hi]
 have e2:Srt.kk (zh (L.map kyT)) j=qcT (L.map kyT) (kyT (L.getD j (0,0,[]))):=by unfold Srt.kk zh;simp [hj]
 rw [e1,e2] at hle
 have hm:kyT (L.getD j (0,0,[]))∈L.map kyT:=mP_.mpr ⟨_,by simp [hj],rfl⟩
 rw [<- qhv hm]
 exact decide_eq_false (by omega)
theorem Bo.wle {x y:T3} (h:Bo x y):x.1<=y.1/\(x.1=y.1->y.2.1<=x.2.1):=by
 unfold Bo lt3 kyT at h
 dsimp only at h
 by_cases c:y.1=x.1
 ·refine ⟨by omega,fun _ => ?_⟩
  rw [if_pos c] at h
  by_cases d : -y.2.1 = -x.2.1
  ·omega
  ·rw [if_neg d] at h
   have:=of_decide_eq_false h
   omega
 ·rw [if_neg c] at h
  have:=of_decide_eq_false h
  exact ⟨by omega,fun e=>by omega⟩
structure Kp (P kept:List T3):Prop where
 sub:∀ x∈kept,x∈P
 dom:∀ x∈P,∃ y∈kept,y.1<=x.1/\x.2.1<=y.2.1
 top:∀ y,kept.getLast? = some y->∀ x∈P,x.2.1<=y.2.1
 rise:kept.Pairwise fun x y=>x.1<y.1/\x.2.1<y.2.1
theorem Kp.step {P kept:List T3} {x:T3} (h:Kp P kept) (hs:∀ y∈P,Bo y x):Kp (P++[x]) (qaV kept x):=by
 unfold qaV
 cases e:kept.getLast? with
 | none =>
  have hk:kept=[]:=List.getLast?_eq_none_iff.mp e
  have hP:P=[]:=by
   cases P with
   | nil=>rfl
   | cons p P =>
    obtain ⟨y,hy,_⟩:=h.dom p mS_
    rw [hk] at hy;cases hy
  subst hP
  refine ⟨fun y hy=>by simpa using hy,fun y hy=>⟨x,by simp,?_⟩,fun y hy z hz => ?_,by simp⟩
  ·have:y=x:=by simpa using hy
   subst this
   exact ⟨Int.le_refl _,Int.le_refl _⟩
  ·have a:x=y:=by simpa using hy
   have b:z=x:=by simpa using hz
   subst a b
   exact Int.le_refl _
 | some l =>
  have hl:l∈kept:=List.mem_of_getLast? e
  have hlP:=h.sub l hl
  have hb:=(hs l hlP).wle
  dsimp only
  by_cases c:l.2.1<x.2.1
  ·rw [if_pos c]
   refine ⟨fun y hy => ?_,fun y hy => ?_,fun y hy z hz => ?_,?_⟩
   ·rcases mA_.mp hy with hy | hy
    ·exact List.mem_append_left _ (h.sub y hy)
    ·exact mr_ _ hy
   ·rcases mA_.mp hy with hy | hy
    ·obtain ⟨z,hz,h1,h2⟩:=h.dom y hy
     exact ⟨z,List.mem_append_left _ hz,h1,h2⟩
    ·have:y=x:=by simpa using hy
     subst this
     exact ⟨y,by simp,Int.le_refl _,Int.le_refl _⟩
   ·have a:x=y:=by simpa using hy
    subst a
    rcases mA_.mp hz with hz | hz
    ·have:=h.top l e z hz
     omega
    ·have:z=x:=by simpa using hz
     subst this
     exact Int.le_refl _
   ·rw [List.pairwise_append]
    refine ⟨h.rise,by simp,fun y hy z hz => ?_⟩
    have a:z=x:=by simpa using hz
    subst a
    have h1:=h.top l e y (h.sub y hy)
    have h2:=(hs y (h.sub y hy)).wle
    have h3:y.2.1<z.2.1:=by omega
    refine ⟨?_,h3⟩
    rcases Int.lt_or_eq_of_le h2.1 with g | g
    ·exact g
    ·have:=h2.2 g
     omega
  ·rw [if_neg c]
   refine ⟨fun y hy=>List.mem_append_left _ (h.sub y hy),fun y hy => ?_,fun y hy z hz => ?_,h.rise⟩
   ·rcases mA_.mp hy with hy | hy
    ·exact h.dom y hy
    ·have:y=x:=by simpa using hy
     subst this
     exact ⟨l,hl,hb.1,by omega⟩
   ·rw [e] at hy
    cases hy
    rcases mA_.mp hz with hz | hz
    ·exact h.top _ e z hz
    ·have:z=x:=by simpa using hz
     subst this
     omega
theorem qhO:∀ (L P kept:List T3),(P++L).Pairwise Bo->Kp P kept->Kp (P++L) (L.foldl qaV kept)
 | [],P,kept,_,h=>by rw [List.append_nil];exact h
 | x::L,P,kept,hs,h=>by
  rw [fo_]
  have e:P++x::L=(P++[x])++L:=by simp
  rw [e] at hs |-
  refine qhO L (P++[x]) _ hs (h.step fun y hy => ?_)
  have:=(List.pairwise_append.mp (List.pairwise_append.mp hs).1).2.2 y hy x (by simp)
  exact this
theorem qnz (ks:List Kw):Kp (srt (wC ks)) (nbL ks):=by
 have:=qhO (srt (wC ks)) [] [] (by simpa using qgn (wC ks)) ⟨(fun x hx=>absurd hx nN_),(fun x hx=>absurd hx nN_),(fun y hy=>by simp at hy),List.Pairwise.nil⟩
 simpa [nbL] using this
theorem qhP {ks:List Kw} {x:T3} (h:x∈nbL ks):x∈wC ks:=(qa9 _).mem_iff.mp ((qnz ks).sub x h)
theorem qfK {ks:List Kw} {x:T3} (h:x∈wC ks):∃ y∈nbL ks,y.1<=x.1/\x.2.1<=y.2.1:=(qnz ks).dom x ((qa9 _).mem_iff.mpr h)
theorem qc5 {ks:List Kw} {x:T3}:x∈wC ks ↔ ∃ l∈zN ks,wg ks l=x:=mP_
theorem qhQ {ks:List Kw} (hk:∀ k∈ks,sgK k) {x:T3} (h:x∈wC ks):0<=x.1/\0<=x.2.1:=by
 obtain ⟨l,hl,rfl⟩:=qc5.mp h
 exact qeQ hk hl
theorem qfL (ks:List Kw):∃ x∈wC ks,x.1=0:=⟨_,mP_.mpr ⟨_,(qbJ ks).1,rfl⟩,(qbJ ks).2⟩
theorem qhR {l:List Int} {x:Int} (h:x∈l):x<=qac l:=by
 cases l with
 | nil=>cases h
 | cons a l=>exact qeL a l x h
theorem qeS {l:List Int} (h:l≠[]):qac l∈l:=by
 cases l with
 | nil=>exact absurd rfl h
 | cons a l=>exact qa4 a l
def bb (one:T3) (S:List T3) (r:Int):Int:=one.2.1+qac ((S.filter fun o=>decide (o.1<=r-one.1)).map fun o=>o.2.1)
theorem qoK {one o:T3} {S:List T3} {r:Int} (ho:o∈S) (h:o.1<=r-one.1):one.2.1+o.2.1<=bb one S r:=by
 have:=qhR (mP_.mpr ⟨o,List.mem_filter.mpr ⟨ho,decide_eq_true h⟩,rfl⟩:o.2.1∈(S.filter fun o=>decide (o.1<=r-one.1)).map fun o=>o.2.1)
 unfold bb
 omega
theorem qnA {one o:T3} {S:List T3} {r:Int} (ho:o∈S) (h:o.1<=r-one.1):∃ z∈S,z.1<=r-one.1/\bb one S r=one.2.1+z.2.1:=by
 have hne:((S.filter fun o=>decide (o.1<=r-one.1)).map fun o=>o.2.1)≠[]:=fun e=>by
  have:o∈S.filter fun o=>decide (o.1<=r-one.1):=List.mem_filter.mpr ⟨ho,decide_eq_true h⟩
  rw [List.map_eq_nil_iff.mp e] at this
  cases this
 obtain ⟨z,hz,e⟩:=mP_.mp (qeS hne)
 obtain ⟨z1,z2⟩:=List.mem_filter.mp hz
 exact ⟨z,z1,of_decide_eq_true z2,by unfold bb;rw [<- e]⟩
section
variable {a b:List Kw} (ha:∀ k∈a,sgK k) (hb:∀ k∈b,sgK k) {r:Int} (hr:0<=r)
include ha hb hr
theorem qhS:∀ k∈a++b,sgK k:=fun k hk=>(mA_.mp hk).elim (ha k) (hb k)
theorem qlA {x y:T3} (hx:x∈wC a) (hy:y∈wC b) (h:x.1+y.1<=r):x.2.1+y.2.1<=zr (a++b) r:=by
 obtain ⟨l,hl,rfl⟩:=qc5.mp hx
 obtain ⟨m,hm,rfl⟩:=qc5.mp hy
 obtain ⟨e1,e2⟩:=qao a b l m (qa8 hl)
 have:=qa7 (a++b) r (l++m) (by
  rw [uN (qhS ha hb hr) hr,List.mem_filter]
  refine ⟨?_,decide_eq_true (by rw [e1];exact h)⟩
  rw [qc4]
  exact List.mem_flatMap.mpr ⟨l,hl,mP_.mpr ⟨m,hm,rfl⟩⟩)
 rw [e2] at this
 exact this
theorem qjd:∃ x∈wC a,∃ y∈wC b,x.1+y.1<=r/\x.2.1+y.2.1=zr (a++b) r:=by
 obtain ⟨wA,e⟩:=qam (a++b) r
 have hm:qja (a++b) r∈(vn (a++b) r).filter fun l=>decide (qP (a++b) l=zr (a++b) r):=by rw [e];exact mS_
 obtain ⟨h1,h2⟩:=List.mem_filter.mp hm
 rw [uN (qhS ha hb hr) hr,List.mem_filter] at h1
 obtain ⟨h3,h4⟩:=h1
 rw [qc4] at h3
 obtain ⟨l,hl,h5⟩:=List.mem_flatMap.mp h3
 obtain ⟨m,hm',e2⟩:=mP_.mp h5
 obtain ⟨e3,e4⟩:=qao a b l m (qa8 hl)
 rw [<- e2] at h2 h4
 refine ⟨wg a l,mP_.mpr ⟨l,hl,rfl⟩,wg b m,mP_.mpr ⟨m,hm',rfl⟩,?_,?_⟩
 ·have:=of_decide_eq_true h4
  rw [e3] at this
  exact this
 ·have:=of_decide_eq_true h2
  rw [e4] at this
  exact this
theorem qoL {S:List T3} (hS:∀ x∈S,x∈wC b) (hd:∀ x∈wC b,∃ y∈S,y.1<=x.1/\x.2.1<=y.2.1) {x:T3} (hx:x∈wC a) (h:x.1<=r):bb x S r<=zr (a++b) r:=by
 obtain ⟨z,hz,z0⟩:=qfL b
 obtain ⟨y,hy,y1,_⟩:=hd z hz
 obtain ⟨o,ho,o1,e⟩:=qnA (one:=x) (r:=r) hy (by omega)
 rw [e]
 exact qlA ha hb hr hx (hS o ho) (by omega)
theorem qnB {S:List T3} (hd:∀ x∈wC b,∃ y∈S,y.1<=x.1/\x.2.1<=y.2.1) {x y:T3} (hy:y∈wC b) (h:x.1+y.1<=r):x.2.1+y.2.1<=bb x S r:=by
 obtain ⟨z,hz,h1,h2⟩:=hd y hy
 have:=qoK (one:=x) (r:=r) hz (by omega)
 omega
theorem qje:qac (((nbL a).filter fun x=>decide (x.1<=r)).map fun x=>bb x (nbL b) r)=zr (a++b) r:=by
 obtain ⟨x,hx,y,hy,h1,h2⟩:=qjd ha hb hr
 obtain ⟨x',hx',g1,g2⟩:=qfK hx
 have yn:=(qhQ hb hy).1
 have xf:x'.1<=r:=by omega
 have hm:x'∈(nbL a).filter fun x=>decide (x.1<=r):=List.mem_filter.mpr ⟨hx',decide_eq_true xf⟩
 have hb1:=qnB ha hb hr (S:=nbL b) (fun z hz=>qfK hz) (x:=x') hy (by omega)
 have ge:=qhR (mP_.mpr ⟨x',hm,rfl⟩:bb x' (nbL b) r∈((nbL a).filter fun x=>decide (x.1<=r)).map fun x=>bb x (nbL b) r)
 obtain ⟨z,hz,e⟩:=mP_.mp (qeS (l:=((nbL a).filter fun x=>decide (x.1<=r)).map fun x=>bb x (nbL b) r) fun e=>by
  rw [List.map_eq_nil_iff.mp e] at hm;cases hm)
 obtain ⟨z1,z2⟩:=List.mem_filter.mp hz
 have le:=qoL ha hb hr (S:=nbL b) (fun x hx=>qhP hx) (fun x hx=>qfK hx) (qhP z1) (of_decide_eq_true z2)
 rw [e] at le
 omega
end
section
variable {a b:List Kw} (ha:∀ k∈a,sgK k) (hb:∀ k∈b,sgK k) {r:Int} (hr:0<=r)
include ha hb hr
end
end L2.Sk.Law
namespace L2.Sk
namespace Law
open PySem PySem.Spec PyProof.Rows
def top (i:Nat):Stmt:=PySem.Challenge.pw_sackloads_k65_whole_two_sacks.main.body.getD i (.Pass ⟨0,0,0,0⟩)
abbrev yH:Stmt:=top 23
abbrev j4:Stmt:=top 53
abbrev vK:Stmt:=top 60
abbrev qL:Stmt:=top 61
abbrev zP:Stmt:=top 27
abbrev yI:Stmt:=top 12
abbrev yJ:Stmt:=top 13
abbrev uO:Stmt:=top 14
abbrev j6:Stmt:=top 15
abbrev jC:Stmt:=top 16
abbrev zE:Stmt:=top 52
abbrev jD:Stmt:=top 17
abbrev zW:Stmt:=top 62
abbrev ju:Stmt:=top 63
abbrev j7:Stmt:=top 71
abbrev za:Stmt:=top 21
abbrev yK:Stmt:=top 18
abbrev yZ:Stmt:=top 19
abbrev j8:Stmt:=top 20
abbrev qap:Stmt:=top 22
abbrev zK:Stmt:=top 24
abbrev qX:Stmt:=top 40
abbrev zX:Stmt:=top 41
abbrev qaq:Stmt:=top 42
abbrev yL:Stmt:=top 45
abbrev vL:Stmt:=top 66
abbrev jj:Stmt:=top 67
abbrev yM:Stmt:=top 43
abbrev jE:Stmt:=top 44
abbrev j9:Stmt:=top 68
abbrev zY:Stmt:=top 73
abbrev yN:Stmt:=top 74
abbrev zQ:Stmt:=top 35
abbrev zF:Stmt:=top 32
abbrev jv:Stmt:=top 30
abbrev zR:Stmt:=top 31
abbrev jF:Stmt:=top 33
abbrev jk:Stmt:=top 29
abbrev jG:Stmt:=top 28
abbrev jH:Stmt:=top 34
abbrev jw:Stmt:=top 36
abbrev jI:Stmt:=top 65
abbrev jx:Stmt:=top 57
abbrev yO:Stmt:=top 54
abbrev y7:Stmt:=top 55
abbrev ya:Stmt:=top 56
abbrev zZ:Stmt:=top 58
abbrev ja:Stmt:=top 59
abbrev jJ:Stmt:=top 64
abbrev jm:Stmt:=top 72
abbrev yP:Stmt:=top 70
abbrev qb1:Stmt:=top 76
structure Txt (K:PySem.W.Frag) (mg:Str->Option Value):Prop where
 b_abs:mg "abs"=none
 b_all:mg "all"=none
 b_any:mg "any"=none
 b_bool:mg "bool"=none
 b_divmod:mg "divmod"=none
 b_int:mg "int"=none
 b_isinstance:mg "isinstance"=none
 b_len:mg "len"=none
 b_max:mg "max"=none
 b_min:mg "min"=none
 b_range:mg "range"=none
 b_sorted:mg "sorted"=none
 b_sum:mg "sum"=none
 b_tuple:mg "tuple"=none
 b_zip:mg "zip"=none
 c_BOTTOM:∃ t,mg "BOTTOM"=some (.int 1 t)
 c_KINDS_AT_MOST:∃ t,mg "KINDS_AT_MOST"=some (.int 12 t)
 c_KINDS_STOWED_AT_MOST:∃ t,mg "KINDS_STOWED_AT_MOST"=some (.int 8 t)
 c_LEFT_ONE:∃ t,mg "LEFT_ONE"=some (.int 1 t)
 c_LEFT_OTHER:∃ t,mg "LEFT_OTHER"=some (.int 2 t)
 c_LOAD:∃ t,mg "LOAD"=some (.int 2 t)
 c_MOST:∃ t,mg "MOST"=some (.int 2 t)
 c_STOW:∃ t,mg "STOW"=some (.int 0 t)
 c_STOW_WORTH:∃ t,mg "STOW_WORTH"=some (.int 3 t)
 c_TOP:∃ t,mg "TOP"=some (.int 0 t)
 c_WEIGHT:∃ t,mg "WEIGHT"=some (.int 0 t)
 c_WORTH:∃ t,mg "WORTH"=some (.int 1 t)
noncomputable def qcs:MS :=
  (zn (dor (d2 isN (d2 ixD (dv 0) (ret (.int 2))) (ret .non)) (d2 gtD (d2 ixD (dv 0) (ret (.int 2))) (ret (.int 0)))))
noncomputable def qct:List D->R D:=dfn 1 1 qcs
noncomputable def qbK:MS :=
  (zn (dif (tst (qe qct (qa (dv 0) (ret [])))) (ret (.int 2)) (ret (.int 0))))
noncomputable def jy:List D->R D:=dfn 1 1 qbK
noncomputable def qc6:MS :=
  (qC (z7 3 (dif (tst (d2 eqB (dv 2) (ret (.int 1)))) (d2 ixD (dv 0) (ret (.int 0))) (ret (.int 0))))
  (qC (z7 4 (dif (tst (d2 eqB (dv 2) (ret (.int 2)))) (d2 ixD (dv 0) (ret (.int 0))) (ret (.int 0))))
  (qC (z7 5 (dif (tst (d2 gtD (dv 2) (ret (.int 0)))) (d2 ixD (dv 0) (ret (.int 1))) (ret (.int 0))))
  (qC (z7 6 (d2 z4 (d2 ixD (dv 1) (ret (.int 0))) (vS (qa (dv 2) (ret [])))))
  (zn (vS (qa (dv 6) (qa (d2 qgt (d2 ixD (dv 1) (ret (.int 1))) (dv 3)) (qa (d2 qgt (d2 ixD (dv 1) (ret (.int 2))) (dv 4)) (qa (d2 z4 (d2 ixD (dv 1) (ret (.int 3))) (dv 5)) (ret [])))))))))))
noncomputable def w6:List D->R D:=dfn 7 3 qc6
noncomputable def yx:MS :=
  (qC (z7 2 (z5 1 [0,1] none (vR (qa (d2 z4 (qe jy (qa (dv 0) (ret []))) (ret (.int 1))) (ret []))) (qv 0) (ret true) (qe w6 (qa (dv 1) (qa (dv 2) (qa (dv 0) (ret [])))))))
  (zn (z5 1 [] none (uG (dv 2)) (qv 0) (qjB (tst (d2 geD (d2 ixD (dv 0) (ret (.int 1))) (ret (.int 0)))) (tst (d2 geD (d2 ixD (dv 0) (ret (.int 2))) (ret (.int 0))))) (dv 0))))
noncomputable def zi:List D->R D:=dfn 3 2 yx
noncomputable def zk:MS :=
  (sif (qaE (tst (qQ qeH (qa (z5 1 [] none (uG (dv 0)) (qv 0) (ret true) (d2 inB (d2 ixD (dv 0) (ret (.int 2))) (vS (qa (ret (.int 0)) (qa (ret (.int 1)) (ret [])))))) (ret []))))) qaI yj)
noncomputable def jP:List D->R D:=dfn 1 1 zk
noncomputable def qar:MS :=
  (zn (qiw (qid "int" (dv 0)) (qnU (qid "bool" (dv 0)))))
noncomputable def vM:List D->R D:=dfn 1 1 qar
noncomputable def qas:MS :=
  (zn (qiw (qe vM (qa (dv 0) (ret []))) (d2 geD (dv 0) (ret (.int 0)))))
noncomputable def qY:List D->R D:=dfn 1 1 qas
noncomputable def qbL:MS :=
  (qC (sif (tor (qaE (tst (qid "tuple" (dv 0)))) (tst (d2 neB (qQ qaH (qa (dv 0) (ret []))) (ret (.int 3))))) (zn (ret (.bl false))) yj)
  (qC (sif (tor (qaE (tst (qe qY (qa (d2 ixD (dv 0) (ret (.int 0))) (ret []))))) (tst (d2 eqB (d2 ixD (dv 0) (ret (.int 0))) (ret (.int 0))))) (zn (ret (.bl false))) yj)
  (zn (qiw (qe qY (qa (d2 ixD (dv 0) (ret (.int 1))) (ret []))) (dor (d2 isN (d2 ixD (dv 0) (ret (.int 2))) (ret .non)) (qe qY (qa (d2 ixD (dv 0) (ret (.int 2))) (ret []))))))))
noncomputable def vo:List D->R D:=dfn 1 1 qbL
noncomputable def qat:MS :=
  (qC (sif (tor (qaE (tst (qid "tuple" (dv 0)))) (tst (d2 gtD (qQ qaH (qa (dv 0) (ret []))) (ret (.int 12))))) (zn (ret (.bl false))) yj)
  (zn (qQ qeH (qa (z5 1 [] none (uG (dv 0)) (qv 0) (ret true) (qe vo (qa (dv 0) (ret [])))) (ret [])))))
noncomputable def vN:List D->R D:=dfn 1 1 qat
noncomputable def ym:MS :=
  (sif (qaE (tst (qe vN (qa (dv 0) (ret []))))) qaI yj)
noncomputable def zd:List D->R D:=dfn 1 1 ym
noncomputable def jb:MS :=
  (qC (zj (qe zd (qa (dv 0) (ret []))))
  (qC (zj (qe jP (qa (dv 0) (ret []))))
  (sif (tst (d2 gtD (qQ qaH (qa (dv 0) (ret []))) (ret (.int 8)))) qaI yj)))
noncomputable def jc:List D->R D:=dfn 1 1 jb
noncomputable def yo:MS :=
  (sif (qaE (tst (qe qY (qa (dv 0) (ret []))))) qaI yj)
noncomputable def zL:List D->R D:=dfn 1 1 yo
noncomputable def uw:MS :=
  (qC (zj (qe zd (qa (dv 0) (ret []))))
  (qC (zj (qe zL (qa (dv 1) (ret []))))
  (qC (zj (qe zL (qa (dv 2) (ret []))))
  (qC (zj (qe jc (qa (dv 0) (ret []))))
  (qC (z7 3 (qdN (qa (vS (qa (vS (ret [])) (qa (dv 1) (qa (dv 2) (qa (ret (.int 0)) (ret [])))))) (ret []))))
  (qC (qfl (uG (dv 0)) (qv 4) (qC (wO 5 (qiJ (ret [])))
  (qC (qfl (uG (dv 3)) (qv 6) (zj (yV 5 (qe zi (qa (dv 4) (qa (dv 6) (ret [])))))))
  (qgd 3 5))))
  (zn (dv 3))))))))
noncomputable def zt:List D->R D:=dfn 7 3 uw
noncomputable def wf:MS :=
  (zn (qQ qbZ (qa (z5 1 [] none (uG (qe zt (qa (dv 0) (qa (dv 1) (qa (dv 2) (ret [])))))) (qv 0) (ret true) (d2 ixD (dv 0) (ret (.int 3)))) (ret []))))
noncomputable def qN:List D->R D:=dfn 3 3 wf
noncomputable def uZ:MS :=
  (qC (qff (qQ qbs (qa (qg9 0 (ret (.int 0))) (qa (dv 1) (ret [])))) (qbm 2 (zo (qv 2) (zo (qv 3) qbl))))
  (qC (qiH 0 (ret (.int 0)) (dv 2))
  (zn (dv 3))))
noncomputable def qh:List D->List D->R (D×List D):=qcJ 4 2 uZ
noncomputable def yy:MS :=
  (zn (qQ qgu (qa (z5 2 [2] none (qf8 (qa (dv 0) (qa (dv 1) (ret [])))) (qbm 2 (zo (qv 0) (zo (qv 1) qbl))) (ret true) (d2 jV (d2 ixD (dv 0) (dv 2)) (dv 1))) (ret []))))
noncomputable def qR:List D->R D:=dfn 3 3 yy
noncomputable def qau:MS :=
  (zn (qiw (qe qY (qa (dv 1) (ret []))) (dor (d2 isN (d2 ixD (dv 0) (ret (.int 2))) (ret .non)) (d2 leD (dv 1) (d2 ixD (dv 0) (ret (.int 2)))))))
noncomputable def yQ:List D->R D:=dfn 2 2 qau
noncomputable def qbM:MS :=
  (qC (zj (qe zd (qa (dv 1) (ret []))))
  (qC (sif (tor (qaE (tst (qid "tuple" (dv 0)))) (tst (d2 neB (qQ qaH (qa (dv 0) (ret []))) (qQ qaH (qa (dv 1) (ret [])))))) (zn (ret (.bl false))) yj)
  (zn (qQ qeH (qa (z5 2 [] none (qf8 (qa (dv 1) (qa (dv 0) (ret [])))) (qbm 2 (zo (qv 0) (zo (qv 1) qbl))) (ret true) (qe yQ (qa (dv 0) (qa (dv 1) (ret []))))) (ret []))))))
noncomputable def w8:List D->R D:=dfn 2 2 qbM
noncomputable def y8:MS :=
  (sif (qaE (tst (qe w8 (qa (dv 1) (qa (dv 0) (ret [])))))) qaI yj)
noncomputable def wj:List D->R D:=dfn 2 2 y8
noncomputable def qeT:MS :=
  (qC (zj (qe wj (qa (dv 0) (qa (dv 1) (ret [])))))
  (zn (qe qR (qa (dv 0) (qa (dv 1) (qa (ret (.int 1)) (ret [])))))))
noncomputable def wm:List D->R D:=dfn 2 2 qeT
noncomputable def vp:MS :=
  (qC (zj (qe zd (qa (dv 0) (ret []))))
  (qC (sif (tst (qQ qmH (qa (z5 1 [] none (uG (dv 0)) (qv 0) (ret true) (d2 isN (d2 ixD (dv 0) (ret (.int 2))) (ret .non))) (ret [])))) (zn (ret .non)) yj)
  (zn (qQ qg2 (qa (z5 1 [] none (uG (dv 0)) (qv 0) (ret true) (d2 ixD (dv 0) (ret (.int 2)))) (ret []))))))
noncomputable def jd:List D->R D:=dfn 1 1 vp
noncomputable def jQ:MS :=
  (qC (qbD (tst (d2 gtD (dv 1) (ret (.int 0)))) (qC (z7 2 (d2 qbp (dv 0) (dv 1)))
  (qC (z7 0 (dv 1))
  (z7 1 (dv 2)))))
  (zn (dv 0)))
noncomputable def qZ:List D->R D:=dfn 3 2 jQ
noncomputable def ux:MS :=
  (qC (z7 2 (qe qZ (qa (dv 0) (qa (dv 1) (ret [])))))
  (zn (vS (qa (d2 ve (dv 0) (dv 2)) (qa (d2 ve (dv 1) (dv 2)) (ret []))))))
noncomputable def jr:List D->R D:=dfn 3 2 ux
noncomputable def qeU:MS :=
  (zn (qe jr (qa (d2 z4 (d2 jV (d2 ixD (dv 0) (ret (.int 0))) (d2 ixD (dv 1) (ret (.int 1)))) (d2 jV (d2 ixD (dv 1) (ret (.int 0))) (d2 ixD (dv 0) (ret (.int 1))))) (qa (d2 jV (d2 ixD (dv 0) (ret (.int 1))) (d2 ixD (dv 1) (ret (.int 1)))) (ret [])))))
noncomputable def qav:List D->R D:=dfn 2 2 qeU
noncomputable def qaw:MS :=
  (qC (z7 3 (d2 jV (dv 1) (d2 ixD (dv 2) (ret (.int 0)))))
  (qC (qfl (uG (dv 0)) (qv 4) (qC (z7 5 (d2 qgt (d2 jV (d2 ixD (dv 4) (ret (.int 1))) (d2 ixD (dv 2) (ret (.int 1)))) (d2 jV (d2 ixD (dv 4) (ret (.int 0))) (d2 ixD (dv 2) (ret (.int 0))))))
  (qC (sif (qjB (tst (d2 gtD (dv 5) (ret (.int 0)))) (tst (d2 isN (d2 ixD (dv 4) (ret (.int 2))) (ret .non)))) (zn (ret .non)) yj)
  (sif (tst (d2 gtD (dv 5) (ret (.int 0)))) (z7 3 (d2 z4 (dv 3) (d2 jV (dv 5) (d2 ixD (dv 4) (ret (.int 2)))))) yj))))
  (zn (qe jr (qa (dv 3) (qa (d2 ixD (dv 2) (ret (.int 1))) (ret [])))))))
noncomputable def vO:List D->R D:=dfn 6 3 qaw
noncomputable def qc7:MS :=
  (zn (dif (tst (d2 leD (d2 jV (d2 ixD (dv 0) (ret (.int 0))) (d2 ixD (dv 1) (ret (.int 1)))) (d2 jV (d2 ixD (dv 1) (ret (.int 0))) (d2 ixD (dv 0) (ret (.int 1)))))) (dv 0) (dv 1)))
noncomputable def qba:List D->R D:=dfn 2 2 qc7
noncomputable def u0:MS :=
  (zn (vS (qa (d2 jV (dv 0) (d2 ixD (dv 1) (ret (.int 0)))) (qa (d2 ixD (dv 1) (ret (.int 1))) (ret [])))))
noncomputable def jR:List D->R D:=dfn 2 2 u0
noncomputable def qax:MS :=
  (qC (sif (tor (qaE (tst (qid "tuple" (dv 0)))) (tst (d2 neB (qQ qaH (qa (dv 0) (ret []))) (ret (.int 2))))) (zn (ret (.bl false))) yj)
  (qC (sif (tor (qaE (tst (qe qY (qa (d2 ixD (dv 0) (ret (.int 0))) (ret []))))) (tor (qaE (tst (qe qY (qa (d2 ixD (dv 0) (ret (.int 1))) (ret []))))) (tst (d2 eqB (d2 ixD (dv 0) (ret (.int 1))) (ret (.int 0)))))) (zn (ret (.bl false))) yj)
  (zn (d2 eqB (qe qZ (qa (d2 ixD (dv 0) (ret (.int 0))) (qa (d2 ixD (dv 0) (ret (.int 1))) (ret [])))) (ret (.int 1))))))
noncomputable def uP:List D->R D:=dfn 1 1 qax
noncomputable def yp:MS :=
  (sif (qaE (tst (qe uP (qa (dv 0) (ret []))))) qaI yj)
noncomputable def ul:List D->R D:=dfn 1 1 yp
noncomputable def wn:MS :=
  (qC (zj (qe zd (qa (dv 0) (ret []))))
  (qC (zj (qe zL (qa (dv 1) (ret []))))
  (qC (zj (qe zL (qa (dv 2) (ret []))))
  (qC (zj (qe ul (qa (dv 3) (ret []))))
  (qC (zj (qe ul (qa (dv 4) (ret []))))
  (qC (zj (qe jc (qa (dv 0) (ret []))))
  (qC (z7 5 (qe qav (qa (qe jR (qa (dv 1) (qa (dv 3) (ret [])))) (qa (qe jR (qa (dv 2) (qa (dv 4) (ret [])))) (ret [])))))
  (zn (qe qav (qa (dv 5) (qa (qe vO (qa (dv 0) (qa (ret (.int 0)) (qa (qe qba (qa (dv 3) (qa (dv 4) (ret [])))) (ret []))))) (ret []))))))))))))
noncomputable def je:List D->R D:=dfn 6 5 wn
noncomputable def uy:MS :=
  (qC (qci 0 1 (qa (qQ qmE (qa (dv 0) (ret []))) (qa (qQ qmE (qa (dv 1) (ret []))) (ret []))))
  (qC (qbD (tst (d2 gtD (dv 1) (ret (.int 0)))) (qci 0 1 (qa (dv 1) (qa (d2 qbp (dv 0) (dv 1)) (ret [])))))
  (zn (dv 0))))
noncomputable def ye:List D->R D:=dfn 2 2 uy
noncomputable def qay:MS :=
  (qC (z7 2 (qe ye (qa (dv 0) (qa (dv 1) (ret [])))))
  (zn (vS (qa (d2 ve (dv 0) (dv 2)) (qa (d2 ve (dv 1) (dv 2)) (ret []))))))
noncomputable def zG:List D->R D:=dfn 3 2 qay
noncomputable def u4:MS :=
  (qC (z7 3 (d2 qgt (dv 2) (d2 ixD (dv 0) (ret (.int 0)))))
  (zn (d2 z4 (d2 ixD (dv 0) (ret (.int 1))) (qQ qbZ (qa (z5 1 [3] none (uG (dv 1)) (qv 0) (tst (d2 leD (d2 ixD (dv 0) (ret (.int 0))) (dv 1))) (d2 ixD (dv 0) (ret (.int 1)))) (ret []))))))
noncomputable def jS:List D->R D:=dfn 4 3 u4
noncomputable def y9:MS :=
  (zn (vS (qa (d2 ixD (dv 0) (ret (.int 0))) (qa (d1 qgw (d2 ixD (dv 0) (ret (.int 1)))) (qa (d2 ixD (dv 0) (ret (.int 2))) (ret []))))))
noncomputable def zH:List D->R D:=dfn 1 1 y9
noncomputable def wo:MS :=
  (qC (z7 1 (qdN (qa (vS (ret [])) (ret []))))
  (qC (qfl (uG (dv 0)) (qv 2) (qC (wO 3 (qiJ (ret [])))
  (qC (qfl (uG (dv 1)) (qv 4) (zj (yV 3 (z5 1 [4] none (vR (qa (d2 z4 (d2 ixD (dv 2) (ret (.int 2))) (ret (.int 1))) (ret []))) (qv 0) (ret true) (d2 z4 (dv 1) (vS (qa (dv 0) (ret []))))))))
  (qgd 1 3))))
  (zn (dv 1))))
noncomputable def ua:List D->R D:=dfn 5 1 wo
noncomputable def u5:MS :=
  (zn (z5 1 [0] none (uG (qe ua (qa (dv 0) (ret [])))) (qv 0) (ret true) (vS (qa (qe qR (qa (dv 1) (qa (dv 0) (qa (ret (.int 0)) (ret []))))) (qa (qe qR (qa (dv 1) (qa (dv 0) (qa (ret (.int 1)) (ret []))))) (qa (dv 0) (ret [])))))))
noncomputable def jT:List D->R D:=dfn 1 1 u5
noncomputable def vq:MS :=
  (qC (wO 1 (qiJ (ret [])))
  (qC (qfl (uG (qeb zH (qe jT (qa (dv 0) (ret []))))) (qv 2) (sif (tor (qcQ (tst (d2 eqB (dv 1) (qdN (ret []))))) (tst (d2 gtD (d2 ixD (dv 2) (ret (.int 1))) (d2 ixD (qg9 1 (d1 qgw (ret (.int 1)))) (ret (.int 1)))))) (zj (yu 1 (dv 2))) yj))
  (qkO 1)))
noncomputable def yq:List D->R D:=dfn 3 1 vq
noncomputable def u6:MS :=
  (zn (qlm (dv 0) (qbX (d2 ve (qQ qaH (qa (dv 0) (ret []))) (ret (.int 2)))) (ret none)))
noncomputable def yC:List D->R D:=dfn 1 1 u6
noncomputable def vt:MS :=
  (zn (qlm (dv 0) (ret none) (qbX (d2 ve (qQ qaH (qa (dv 0) (ret []))) (ret (.int 2))))))
noncomputable def um:List D->R D:=dfn 1 1 vt
noncomputable def vv:MS :=
  (qC (zj (qe zd (qa (dv 0) (ret []))))
  (qC (zj (qe jP (qa (dv 0) (ret []))))
  (zn (vS (qa (qe yq (qa (qe um (qa (dv 0) (ret []))) (ret []))) (qa (qe yq (qa (qe yC (qa (dv 0) (ret []))) (ret []))) (ret [])))))))
noncomputable def uo:List D->R D:=dfn 1 1 vv
noncomputable def wp:MS :=
  (qC (zj (qe zd (qa (dv 0) (ret []))))
  (qC (zj (qe zL (qa (dv 1) (ret []))))
  (qC (z7 2 (qe uo (qa (dv 0) (ret []))))
  (zn (qQ qbZ (qa (z5 1 [1,2] none (uG (d2 ixD (dv 2) (ret (.int 0)))) (qv 0) (tst (d2 leD (d2 ixD (dv 0) (ret (.int 0))) (dv 1))) (qe jS (qa (dv 0) (qa (d2 ixD (dv 2) (ret (.int 1))) (qa (dv 1) (ret [])))))) (ret [])))))))
noncomputable def qO:List D->R D:=dfn 3 2 wp
noncomputable def vw:MS :=
  (zn (qQ qaH (qa (qe zt (qa (dv 0) (qa (dv 1) (qa (dv 2) (ret []))))) (ret []))))
noncomputable def qV:List D->R D:=dfn 3 3 vw
noncomputable def wv:MS :=
  (zn (qQ qgu (qa (z5 2 [2] none (qf8 (qa (dv 0) (qa (dv 1) (ret [])))) (qbm 2 (zo (qv 0) (zo (qv 1) qbl))) (tst (d2 eqB (dv 1) (dv 2))) (d2 ixD (dv 0) (ret (.int 0)))) (ret []))))
noncomputable def ub:List D->R D:=dfn 3 3 wv
noncomputable def qaz:MS :=
  (zn (qiw (qe qY (qa (dv 1) (ret []))) (d2 leD (dv 1) (qe jy (qa (dv 0) (ret []))))))
noncomputable def uQ:List D->R D:=dfn 2 2 qaz
noncomputable def qbN:MS :=
  (qC (zj (qe jc (qa (dv 1) (ret []))))
  (qC (sif (tor (qaE (tst (qid "tuple" (dv 0)))) (tst (d2 neB (qQ qaH (qa (dv 0) (ret []))) (qQ qaH (qa (dv 1) (ret [])))))) (zn (ret (.bl false))) yj)
  (zn (qQ qeH (qa (z5 2 [] none (qf8 (qa (dv 1) (qa (dv 0) (ret [])))) (qbm 2 (zo (qv 0) (zo (qv 1) qbl))) (ret true) (qe uQ (qa (dv 0) (qa (dv 1) (ret []))))) (ret []))))))
noncomputable def yr:List D->R D:=dfn 2 2 qbN
noncomputable def uc:MS :=
  (sif (qaE (tst (qe yr (qa (dv 1) (qa (dv 0) (ret [])))))) qaI yj)
noncomputable def u7:List D->R D:=dfn 2 2 uc
noncomputable def uz:MS :=
  (qC (zj (qe u7 (qa (dv 0) (qa (dv 1) (ret [])))))
  (zn (vS (qa (qe ub (qa (dv 0) (qa (dv 1) (qa (ret (.int 1)) (ret []))))) (qa (qe ub (qa (dv 0) (qa (dv 1) (qa (ret (.int 2)) (ret []))))) (ret []))))))
noncomputable def zu:List D->R D:=dfn 2 2 uz
noncomputable def vx:MS :=
  (qC (zj (qe u7 (qa (dv 0) (qa (dv 1) (ret [])))))
  (zn (qQ qgu (qa (z5 2 [] none (qf8 (qa (dv 0) (qa (dv 1) (ret [])))) (qbm 2 (zo (qv 0) (zo (qv 1) qbl))) (tst (d2 gtD (dv 1) (ret (.int 0)))) (d2 ixD (dv 0) (ret (.int 1)))) (ret [])))))
noncomputable def jf:List D->R D:=dfn 2 2 vx
noncomputable def qaA:MS :=
  (qC (z7 3 (qe zt (qa (dv 0) (qa (dv 1) (qa (dv 2) (ret []))))))
  (qC (z7 4 (qQ qbZ (qa (z5 1 [] none (uG (dv 3)) (qv 0) (ret true) (d2 ixD (dv 0) (ret (.int 3)))) (ret []))))
  (zn (d2 ixD (z5 1 [4] none (uG (dv 3)) (qv 0) (tst (d2 eqB (d2 ixD (dv 0) (ret (.int 3))) (dv 1))) (d2 ixD (dv 0) (ret (.int 0)))) (ret (.int 0))))))
noncomputable def yb:List D->R D:=dfn 5 3 qaA
noncomputable def yD:MS :=
  (qC (z7 2 (d2 ixD (qdN (qa (ret (.int 1)) (qa (ret (.int 1)) (qa (d2 qnW (ret (.int 10)) (ret (.int 15))) (ret []))))) (qr qh 0 (qa (ret (.int 3)) (ret [])))))
  (qC (wO 3 (qiJ (ret [])))
  (qC (qfl (vR (qa (qr qh 0 (qa (d2 z4 (dv 1) (ret (.int 1))) (ret []))) (ret []))) (qv 4) (qC (qci 5 6 (qa (d2 z4 (d2 jV (dv 2) (d2 z4 (ret (.int 1)) (qr qh 0 (qa (ret (.int 9)) (ret []))))) (d2 jV (dv 4) (d2 qgt (dv 2) (ret (.int 1))))) (qa (qr qh 0 (qa (ret (.int 12)) (ret []))) (ret []))))
  (zj (yu 3 (vS (qa (dv 5) (qa (dv 6) (qa (qQ qf3 (qa (d2 gtD (qr qh 0 (qa (ret (.int 5)) (ret []))) (ret (.int 0))) (ret []))) (ret [])))))))))
  (zn (qg8 3)))))
noncomputable def zS:List D->List D->R (D×List D):=qcJ 7 2 yD
noncomputable def vP:MS :=
  (qC (z7 2 (d2 z4 (d2 jV (ret (.int 7919)) (dv 1)) (ret (.int 13))))
  (qC (sif (tst (d2 ltD (dv 1) (qQ qaH (qa (dv 0) (ret []))))) (z7 2 (d2 ixD (dv 0) (dv 1))) yj)
  (qC (sif (tst (d2 eqB (d2 qbp (dv 2) (ret (.int 2))) (ret (.int 0)))) (zn (qdN (qa (d2 ve (dv 2) (ret (.int 2))) (ret [])))) yj)
  (qC (z7 3 (ret (.int 0)))
  (qC (qfl (vR (qa (ret (.int 16)) (ret []))) (qv 4) (qC (z7 5 (d2 qbp (d2 z4 (d2 z4 (d2 jV (d2 qbp (dv 2) (ret (.int 2147483647))) (ret (.int 48271))) (d2 jV (ret (.int 7919)) (dv 4))) (ret (.int 1))) (ret (.int 2147483647))))
  (qC (z7 5 (d2 qbp (d2 jV (dv 5) (dv 5)) (ret (.int 2147483629))))
  (z7 3 (d2 z4 (d2 jV (dv 3) (ret (.int 2147483647))) (d2 qbp (d2 jV (dv 5) (d2 z4 (dv 5) (ret (.int 13)))) (ret (.int 2147483647))))))))
  (zn (qdN (qa (dv 3) (ret [])))))))))
noncomputable def jK:List D->R D:=dfn 6 2 vP
noncomputable def qlB:MS :=
  (qC (qfl (vR (qa (qQ qdS (qa (ret (.int 1)) (qa (qQ qkF (qa (qQ qaH (qa (dv 0) (ret []))) (qa (ret (.int 3)) (ret [])))) (ret [])))) (ret []))) (qv 1) (qC (wO 2 (qd0 jK (qa (dv 0) (qa (dv 1) (ret [])))))
  (qC (z7 3 (qr zS 2 (qa (d2 ixD (qdN (qa (ret (.int 7)) (qa (ret (.int 6)) (qa (ret (.int 6)) (ret []))))) (dv 1)) (ret []))))
  (qC (z7 4 (qQ qgu (qa (z5 1 [] none (uG (dv 3)) (qv 0) (tst (d2 eqB (d2 ixD (dv 0) (ret (.int 2))) (ret (.int 1)))) (d2 ixD (dv 0) (ret (.int 0)))) (ret []))))
  (qC (qci 5 6 (qa (qr qh 2 (qa (d2 z4 (dv 4) (ret (.int 2))) (ret []))) (qa (qr qh 2 (qa (d2 z4 (dv 4) (ret (.int 2))) (ret []))) (ret []))))
  (qC (qci 7 8 (qa (qe qN (qa (dv 3) (qa (dv 5) (qa (dv 6) (ret []))))) (qa (qe yb (qa (dv 3) (qa (dv 5) (qa (dv 6) (ret []))))) (ret []))))
  (qC (sif (tor (qaE (tst (qe yr (qa (dv 8) (qa (dv 3) (ret [])))))) (tst (d2 neB (qe jf (qa (dv 3) (qa (dv 8) (ret [])))) (dv 7)))) (zn (ret (.bl false))) yj)
  (qC (qff (qe zu (qa (dv 3) (qa (dv 8) (ret [])))) (qbm 2 (zo (qv 9) (zo (qv 10) qbl))))
  (qC (sif (tor (tst (d2 gtD (dv 9) (dv 5))) (tor (tst (d2 gtD (dv 10) (dv 6))) (tst (d2 neB (qe qN (qa (dv 3) (qa (dv 6) (qa (dv 5) (ret []))))) (dv 7))))) (zn (ret (.bl false))) yj)
  (qC (sif (tst (d2 neB (qe qV (qa (dv 3) (qa (dv 5) (qa (dv 6) (ret []))))) (qe qV (qa (dv 3) (qa (dv 6) (qa (dv 5) (ret []))))))) (zn (ret (.bl false))) yj)
  (qC (z7 11 (qQ qdS (qa (qe qO (qa (dv 3) (qa (dv 5) (ret [])))) (qa (qe qO (qa (dv 3) (qa (dv 6) (ret [])))) (ret [])))))
  (qC (sif (qaE (tst (qaK leD leD (dv 11) (dv 7) (qe qO (qa (dv 3) (qa (d2 z4 (dv 5) (dv 6)) (ret []))))))) (zn (ret (.bl false))) yj)
  (qC (z7 12 (qe zG (qa (qr qh 2 (qa (ret (.int 9)) (ret []))) (qa (d2 z4 (ret (.int 1)) (qr qh 2 (qa (ret (.int 9)) (ret [])))) (ret [])))))
  (qC (z7 13 (qe zG (qa (qr qh 2 (qa (ret (.int 9)) (ret []))) (qa (d2 z4 (ret (.int 1)) (qr qh 2 (qa (ret (.int 9)) (ret [])))) (ret [])))))
  (qC (qff (qe je (qa (dv 3) (qa (dv 5) (qa (dv 6) (qa (dv 12) (qa (dv 13) (ret []))))))) (qbm 2 (zo (qv 14) (zo (qv 15) qbl))))
  (qC (sif (tst (d2 ltD (dv 14) (d2 jV (dv 7) (dv 15)))) (zn (ret (.bl false))) yj)
  (sif (tst (d2 neB (qe qN (qa (dv 3) (qa (dv 4) (qa (qr qh 2 (qa (ret (.int 9)) (ret []))) (ret []))))) (qe wm (qa (dv 3) (qa (qe jd (qa (dv 3) (ret []))) (ret [])))))) (zn (ret (.bl false))) yj)))))))))))))))))
  (zn (ret (.bl true))))
noncomputable def qeV:List D->R D:=dfn 16 1 qlB
local macro_rules | `(tactic| push_cast [$xs,*]) => `(tactic| simp only [uU, qbY, qou, zD, qd1, qhf, qjQ, qnX, qov, qaj, yd, qjR, qd2, yk, qbz, qfq, qga, qhg, qm2, qjS, qk5, qcN, uI, vi, qhh, uu, qck, qd3, qfr, vj, qd4, qhi, qbA, qbB, qhj, qhk, qhl, qhm, qhn, qjU, qbC, qm3, qcP, lC_, lN_, mC_, List.map_nil, List.replicate, List.nil_append, List.cons_append, List.append_nil, List.getElem?_cons_zero, List.getElem?_cons_succ, List.set_cons_zero, List.set_cons_succ, Nat.reduceAdd, Nat.reduceSub, Nat.sub_self, Nat.zero_add, reduceIte, Bool.not_true, Bool.not_false, Bool.false_eq_true, if_true, if_false, ite_true, ite_false, cond_true, cond_false, decide_true, decide_false, ix0, ix1, ix2, v9, jt, qal, v8, qfC, qhA, yW, qeO, vm, qj2, qj3, qfu, qfv, qfw, qjY, qhp, qho, $xs,*])
theorem qc8 (d:D):vM [d] = .ok (.bl (qlq d)):=by
 unfold vM qar
 refine uB rfl ⟨[some d],?_⟩
 push_cast []
 cases d<;>rfl
theorem zl (d:D):qY [d] = .ok (.bl (jp d)):=by
 unfold qY qas
 refine uB rfl ⟨[some d],?_⟩
 push_cast []
 rw [qc8]
 cases d<;>rfl
theorem qej (d:D):vo [d] = .ok (.bl (va d)):=by
 unfold vo qbL
 refine uB rfl ⟨[some d],?_⟩
 cases d with
 | tup ds =>
  by_cases h:ds.length=3
  ·obtain ⟨a,b,c,rfl⟩:=qpn h
   refine (qk (U':=[some (.tup [a,b,c])]) rfl).trans ?_
   by_cases hp:qhB a=true
   ·refine (qk (U':=[some (.tup [a,b,c])]) ?_).trans ?_
    ·cases a with
     | int i =>
      have h2:0<i:=of_decide_eq_true hp
      have h0:0<=i:=by omega
      have h1:¬ i=0:=by omega
      push_cast [ix0,zl,jp,v8,yk,h0,h1,decide_true,decide_false]
     | _=>exact absurd hp (by simp [qhB])
    ·push_cast [ix1,ix2,zl,qfC,va,hp,yk,Bool.true_and]
     cases hb:jp b<;>cases hc:uF c<;>rfl
   ·refine (qee (d := .bl false) (U':=[some (.tup [a,b,c])]) ?_).trans ?_
    ·cases a with
     | int i =>
      have h2:¬ 0<i:=fun z=>hp (decide_eq_true z)
      push_cast [ix0,zl,jp,v8,yk]
      by_cases h0:0<=i
      ·have h1:i=0:=by omega
       subst h1;rfl
      ·simp only [h0,decide_false]
       rfl
     | _=>rfl
    ·have hp':qhB a=false:=by simpa using hp
     simp only [va,hp',Bool.false_and]
  ·refine (qee (d := .bl false) (U':=[some (.tup ds)]) ?_).trans ?_
   ·push_cast []
    have h3:¬ ((ds.length:Int)=3):=by omega
    simp only [v9,jt,qal,h3,decide_false,yk]
    rfl
   ·rw [qcp h]
 | _=>rfl
theorem qc9 (d:D):vN [d] = .ok (.bl (uv d)):=by
 unfold vN qat
 refine uB rfl ⟨[some d],?_⟩
 cases d with
 | tup ds =>
  by_cases h:ds.length<=12
  ·have h2:¬ ((12:Int)<(ds.length:Int)):=by omega
   refine (qk (U':=[some (.tup ds)]) ?_).trans ?_
   ·push_cast [v9,jt,yW,h2,decide_false,yk]
   ·rw [uI,qlr (F:=vo) (f:=va) (xs:=uG (dv 0)) (ds:=ds) (U:=[some (.tup ds)]) rfl (fun d _=>qej d) (by omega)]
    simp only [uv,h,decide_true,Bool.true_and]
  ·have h2:((12:Int)<(ds.length:Int)):=by omega
   refine (qee (d := .bl false) (U':=[some (.tup ds)]) ?_).trans ?_
   ·push_cast [v9,jt,yW,h2,decide_true,yk]
   ·simp only [uv,h,decide_false,Bool.false_and]
 | _=>rfl
theorem qda (k x:D) (hk:va k=true):yQ [k,x] = .ok (.bl (qgi k x)):=by
 cases k with
 | tup ds =>
  by_cases h:ds.length=3
  ·obtain ⟨a,b,c,rfl⟩:=qpn h
   unfold yQ qau
   refine uB rfl ⟨[some (.tup [a,b,c]),some x],?_⟩
   push_cast [ix2,zl,qfC,yk,qgi]
   cases hx:jp x with
   | false=>rfl
   | true =>
    cases hc:uF c with
    | true=>rfl
    | false =>
     have hcc:jp c=true:=by
      simp only [va,hc,Bool.false_or,Bool.and_eq_true] at hk
      exact hk.2
     cases x with
     | int i =>
      cases c with
      | int j=>rfl
      | _=>cases hcc
     | _=>cases hx
  ·rw [qcp h] at hk;cases hk
 | _=>cases hk
theorem zg (d:D) (h:uv d=true):zd [d] = .ok .non:=by
 have e:ym [some d] = .ok (.nx [some d]):=by
  unfold ym
  push_cast [qc9,h,yk]
 show (match ym [some d] with | .ok (.rt d _)=>R.ok d | .ok (.nx _) => .ok .non | _ => .bad)=_
 rw [e]
theorem qek (t s:D) (hs:uv s=true):w8 [t,s] = .ok (.bl (qfD t s)):=by
 cases s with
 | tup ks =>
  have hs2:=hs
  simp only [uv,Bool.and_eq_true,decide_eq_true_eq] at hs2
  obtain ⟨hl,ha⟩:=hs2
  unfold w8 qbM
  refine uB rfl ⟨[some t,some (.tup ks)],?_⟩
  refine (qk (U':=[some t,some (.tup ks)]) ?_).trans ?_
  ·push_cast [zg _ hs]
  cases t with
  | tup xs =>
   by_cases h:xs.length=ks.length
   ·refine (qk (U':=[some (.tup xs),some (.tup ks)]) ?_).trans ?_
    ·push_cast [v9,jt,qal,h,decide_true,yk]
    ·obtain ⟨bs,U',q,r⟩:=qfE (e:=qe yQ (qa (dv 0) (qa (dv 1) (ret [])))) (f:=qgi) ks xs [] none none (fun k hk x=>by
      push_cast [qda k x (List.all_eq_true.mp ha k hk)]) (by simp;omega)
     have q':zv (qbm 2 (zo (qv 0) (zo (qv 1) qbl))) (ret true) (qe yQ (qa (dv 0) (qa (dv 1) (ret [])))) (qai ks xs) [] (yi 2 [] [some (.tup xs),some (.tup ks)]) = .ok ([]++bs.map D.bl,U'):=q
     rw [qaL] at r
     simp only [uI,qaj,zD,qcO,qbA,qou,qbY,List.getElem?_cons_zero,List.getElem?_cons_succ,qiO,q',List.nil_append,qeH,qa5,Option.map_some,r,qfD,h,decide_true,Bool.true_and]
     rfl
   ·refine (qee (d := .bl false) (U':=[some (.tup xs),some (.tup ks)]) ?_).trans ?_
    ·have h2:¬ ((xs.length:Int)=(ks.length:Int)):=by omega
     push_cast [v9,jt,qal,h2,decide_false,yk]
    ·simp only [qfD,h,decide_false,Bool.false_and]
  | _=>rfl
 | _=>cases hs
theorem jg (n:Nat):zL [.int (n:Nat)] = .ok .non:=by
 have h:jp (.int (n:Nat))=true:=by
  show decide (0<=(n:Int))=true
  exact decide_eq_true (by omega)
 have e:yo [some (.int (n:Nat))] = .ok (.nx [some (.int (n:Nat))]):=by
  unfold yo
  push_cast [zl,h,yk]
 show (match yo [some (.int (n:Nat))] with | .ok (.rt d _)=>R.ok d | .ok (.nx _) => .ok .non | _ => .bad)=_
 rw [e]
theorem yz {n m:Int} (h0:0<m) (h1:m<1606938044258990275541962092341162602522202993782792835301376):qh [.int n] [.int m] = .ok (.int (n%m),[.int (n/m)]):=by
 unfold qh
 refine qjV (U:=[some (.lst [.int (n/m)]),some (.int m),some (.int (n/m)),some (.int (n%m))]) rfl ?_ rfl
 unfold uZ
 refine (qk (U':=[some (.lst [.int n]),some (.int m),some (.int (n/m)),some (.int (n%m))]) ?_).trans ?_
 ·push_cast [at0,qhC h0 h1,qbm,zo,qv,qbl,Option.bind_some]
 ·refine (qk (U':=[some (.lst [.int (n/m)]),some (.int m),some (.int (n/m)),some (.int (n%m))]) ?_).trans rfl
  push_cast [qpW,imm]
theorem qdb {i:Int} (h0:0<=i) (h1:i<3000000000):jz i=true:=by
 unfold jz
 rw [Bool.and_eq_true,decide_eq_true_eq,decide_eq_true_eq]
 constructor<;>omega
theorem qfM (A B:Option D) (x:Int):∀ (ds:List D) (s:Int) (o o':Option D),(∀ d∈ds,∃ j:Int,d = .int j)->∃ s' o1 o2,v6 (qv 4) (qC (z7 5 (d2 qbp (d2 z4 (d2 z4 (d2 jV (d2 qbp (dv 2) (ret (.int 2147483647))) (ret (.int 48271))) (d2 jV (ret (.int 7919)) (dv 4))) (ret (.int 1))) (ret (.int 2147483647)))) (qC (z7 5 (d2 qbp (d2 jV (dv 5) (dv 5)) (ret (.int 2147483629)))) (z7 3 (d2 z4 (d2 jV (dv 3) (ret (.int 2147483647))) (d2 qbp (d2 jV (dv 5) (d2 z4 (dv 5) (ret (.int 13)))) (ret (.int 2147483647))))))) ds [A,B,some (.int x),some (.int s),o,o'] = .ok (.nx [A,B,some (.int x),some (.int s'),o1,o2])
 | [],s,o,o',_=>⟨s,o,o',rfl⟩
 | d::ds,s,o,o',h=>by
  obtain ⟨j,rfl⟩:=h d mS_
  let p:Int:=(x%2147483647*48271+7919*j+1)%2147483647
  let q:Int:=p*p%2147483629
  have f48:jz 48271=true:=by decide
  have f79:jz 7919=true:=by decide
  have f21:jz 2147483647=true:=by decide
  have fp:jz p=true:=qdb (Int.emod_nonneg _ (by omega)) (by have:=Int.emod_lt_of_pos (x%2147483647*48271+7919*j+1) (show (0:Int)<2147483647 by omega);simp only [p];omega)
  have fq:jz q=true:=qdb (Int.emod_nonneg _ (by omega)) (by have:=Int.emod_lt_of_pos (p*p) (show (0:Int)<2147483629 by omega);simp only [q];omega)
  obtain ⟨s',o1,o2,e⟩:=qfM A B x ds (s*2147483647+q*(q+13)%2147483647) (some (.int j)) (some (.int q)) fun y hy=>h y (mM _ hy)
  refine ⟨s',o1,o2,?_⟩
  have st:(qC (z7 5 (d2 qbp (d2 z4 (d2 z4 (d2 jV (d2 qbp (dv 2) (ret (.int 2147483647))) (ret (.int 48271))) (d2 jV (ret (.int 7919)) (dv 4))) (ret (.int 1))) (ret (.int 2147483647)))) (qC (z7 5 (d2 qbp (d2 jV (dv 5) (dv 5)) (ret (.int 2147483629)))) (z7 3 (d2 z4 (d2 jV (dv 3) (ret (.int 2147483647))) (d2 qbp (d2 jV (dv 5) (d2 z4 (dv 5) (ret (.int 13)))) (ret (.int 2147483647))))))) [A,B,some (.int x),some (.int s),some (.int j),o'] = .ok (.nx [A,B,some (.int x),some (.int (s*2147483647+q*(q+13)%2147483647)),some (.int j),some (.int q)]):=by
   refine (qk (U':=[A,B,some (.int x),some (.int s),some (.int j),some (.int p)]) ?_).trans ?_
   ·push_cast [vI (j:=2147483647) (by decide),qgj f48,qb0 f79,z8,p]
   refine (qk (U':=[A,B,some (.int x),some (.int s),some (.int j),some (.int q)]) ?_).trans ?_
   ·push_cast [qb0 fp,vI (j:=2147483629) (by decide),q]
   ·push_cast [qgj f21,z8,qb0 fq,vI (j:=2147483647) (by decide)]
  unfold v6
  simp only [qv,List.set_cons_zero,List.set_cons_succ,st]
  exact e
theorem qnC (ns:List Int) (i:Int) (h0:0<=i):∃ n,jK [.fz ns,.int i] = .ok (.lst [.int n]):=by
 have f79:jz 7919=true:=by decide
 have s1:∃ x,(sif (tst (d2 ltD (dv 1) (qQ qaH (qa (dv 0) (ret []))))) (z7 2 (d2 ixD (dv 0) (dv 1))) yj) [some (.fz ns),some (.int i),some (.int (7919*i+13)),none,none,none] = .ok (.nx [some (.fz ns),some (.int i),some (.int x),none,none,none]):=by
  by_cases h:i<ns.length
  ·obtain ⟨j,rfl⟩:=Int.eq_ofNat_of_zero_le h0
   have hj:j<ns.length:=by omega
   have e:ixD (.fz ns) (.int (j:Int))=some (.int ns[j]):=by
    show (atI ns (j:Int)).map D.int=_
    rw [qj4 (gG hj)];rfl
   refine ⟨ns[j],?_⟩
   push_cast [e,qaH,h]
  ·refine ⟨7919*i+13,?_⟩
   push_cast [qaH,h]
 obtain ⟨x,e1⟩:=s1
 have s0:(z7 2 (d2 z4 (d2 jV (ret (.int 7919)) (dv 1)) (ret (.int 13)))) [some (.fz ns),some (.int i),none,none,none,none] = .ok (.nx [some (.fz ns),some (.int i),some (.int (7919*i+13)),none,none,none]):=by
  push_cast [qb0 f79,z8]
 by_cases hx:x%2=0
 ·refine ⟨x/2,?_⟩
  unfold jK vP
  refine uB rfl ⟨[some (.fz ns),some (.int i),some (.int x),none,none,none],?_⟩
  refine (qk s0).trans ((qk e1).trans (qee ?_))
  push_cast [vI (j:=2) (by decide),hx,wV (j:=2) (by decide) (by decide),jW (show 1<=1000000 by omega)]
 ·obtain ⟨s',o1,o2,q⟩:=qfM (some (.fz ns)) (some (.int i)) x (qcg 0 16) 0 none none fun d hd=>by
   unfold qcg at hd
   obtain ⟨k,hk,rfl⟩:=mP_.mp hd
   exact ⟨_,rfl⟩
  refine ⟨s',?_⟩
  unfold jK vP
  refine uB rfl ⟨[some (.fz ns),some (.int i),some (.int x),some (.int s'),o1,o2],?_⟩
  refine (qk s0).trans ((qk e1).trans ?_)
  refine (qk (U':=[some (.fz ns),some (.int i),some (.int x),none,none,none]) ?_).trans ?_
  ·push_cast [vI (j:=2) (by decide),hx]
  refine (qk (U':=[some (.fz ns),some (.int i),some (.int x),some (.int 0),none,none]) ?_).trans ?_
  ·push_cast []
  refine (qk (U':=[some (.fz ns),some (.int i),some (.int x),some (.int s'),o1,o2]) ?_).trans ?_
  ·rw [vj,wU (j:=16) (U1:=[some (.fz ns),some (.int i),some (.int x),some (.int 0),none,none]) rfl (by omega) (by omega)]
   exact q
  ·push_cast [jW (show 1<=1000000 by omega)]
def kw (k:Kw):D := .tup [.int k.w,.int k.v,mD k.m]
theorem qoM (k:Kw):ixD (kw k) (.int 0)=some (.int k.w):=rfl
theorem qnD (k:Kw):ixD (kw k) (.int 1)=some (.int k.v):=rfl
theorem qnE (k:Kw):ixD (kw k) (.int 2)=some (mD k.m):=rfl
def ldD (l:List Int):D := .tup (l.map D.int)
def t3D (x:T3):D := .tup [.int x.1,.int x.2.1,ldD x.2.2]
theorem qj6 (l:List Int):imm (ldD l)=true:=by
 unfold ldD
 simp only [imm]
 exact wY fun _ _=>rfl
theorem qnF (x:T3):imm (t3D x)=true:=by
 unfold t3D
 simp only [imm,immL,qj6,Bool.and_self]
theorem qjf (x:T3):ixD (t3D x) (.int 0)=some (.int x.1):=rfl
theorem qhT (x:T3):ixD (t3D x) (.int 1)=some (.int x.2.1):=rfl
theorem qoN (x:T3):ixD (t3D x) (.int 2)=some (ldD x.2.2):=rfl
theorem qfN {α β:Type} (g:α->List β):∀ (l:List α) (acc:List β),l.foldl (fun acc a=>acc++g a) acc=acc++l.flatMap g
 | [],acc=>by simp
 | a::l,acc=>by rw [fo_,qfN g l,fC_,aA_]
theorem qjg (L:List (List Int)) (k:Kw):qeP L k=L.flatMap fun l=>(List.range (tm k+1)).map fun t:Nat=>l++[(t:Int)]:=rfl
theorem qn1 {k:Kw} (h:sgK k):k.m=some ((tm k:Nat):Int):=by
 unfold tm
 rcases h.2.2 with q | q<;>rw [q]<;>rfl
theorem qp0 {k:Kw} (h:sgK k):ixD (kw k) (.int 2)=some (.int (tm k:Nat)):=by rw [qnE,qn1 h];rfl
theorem qel {α:Type} {l:List α} {f:α->Int} (h:l≠[]):qbZ [.lst (l.map fun a=>D.int (f a))]=some (.int (qac (l.map f))):=by
 cases l with
 | nil=>exact absurd rfl h
 | cons a l =>
  have:=wW ((a::l).map f)
  rw [mm_] at this
  simp only [Function.comp_def,mC_] at this
  simp only [mC_,qbZ,this]
theorem qbO:∀ {ks:List Kw},(∀ k∈ks,sgK k)->(zN ks).length<=2 ^ ks.length
 | [],_=>Nat.le_refl _
 | k::ks,h=>by
  have ih:=qbO fun x hx=>h x (mM _ hx)
  have ht:=qgm (h k mS_)
  simp only [zN]
  have:∀ n,((List.range n).flatMap fun t:Nat=>(zN ks).map fun l=>(t:Int)::l).length=n*(zN ks).length:=fun n=>by
   induction n with
   | zero=>simp
   | succ n ihn=>rw [List.range_succ,List.flatMap_append,lA_,ihn,Nat.succ_mul];simp
  rw [this,lC_,Nat.pow_succ]
  have h2:(tm k+1)*(zN ks).length<=2*2 ^ ks.length:=Nat.mul_le_mul (by omega) ih
  omega
theorem qjh {k:Kw} (h:sgK k) (T Ls:Option D) {acc:List (List Int)} {l:List Int} (ha:acc.length<=1000) (hl:l.length<=20) :
  (zj (yV 3 (z5 1 [4] none (vR (qa (d2 z4 (d2 ixD (dv 2) (ret (.int 2))) (ret (.int 1))) (ret []))) (qv 0) (ret true) (d2 z4 (dv 1) (vS (qa (dv 0) (ret []))))))) [T,Ls,some (kw k),some (.lst (acc.map ldD)),some (ldD l)] = .ok (.nx [T,Ls,some (kw k),some (.lst ((acc++(List.range (tm k+1)).map fun t:Nat=>l++[(t:Int)]).map ldD)),some (ldD l)]):=by
 have ht:=qgm h
 let U:Env:=[T,Ls,some (kw k),some (.lst (acc.map ldD)),some (ldD l)]
 have rg:vR (qa (d2 z4 (d2 ixD (dv 2) (ret (.int 2))) (ret (.int 1))) (ret [])) U = .ok ((List.range (tm k+1)).map fun t:Nat=>D.int (t:Nat),U):=by
  have e:qa (d2 z4 (d2 ixD (dv 2) (ret (.int 2))) (ret (.int 1))) (ret []) U = .ok ([.int ((tm k:Nat)+1)],U):=qcV (qj (qj rfl rfl (qp0 h)) rfl (z8 _ _))
  rw [wU e (by omega) (by omega)]
  have:((tm k:Nat)+1:Int).toNat=tm k+1:=by omega
  rw [this,qpq]
 have c:=wX (e:=d2 z4 (dv 1) (vS (qa (dv 0) (ret [])))) (fr:=[4]) (r:=[some (ldD l)]) (k:=fun t:Nat=>D.int (t:Nat)) (List.range (tm k+1)) (fun t=>ldD (l++[(t:Int)])) rg rfl (by rw [lR_];omega) fun t _=>by
  have t1:vS (qa (dv 0) (ret [])) [some (.int (t:Nat)),some (ldD l)] = .ok (.tup [.int (t:Nat)],[some (.int (t:Nat)),some (ldD l)]):=by
   rw [qd1,qcV rfl]
   simp only [lC_,lN_,Nat.zero_add,jW (show 1<=1000000 by omega),if_true]
  exact qj rfl t1 (by unfold ldD;rw [qi4 (by rw [lM_];simp;omega),List.map_append];rfl)
 have gl:zB 3 U=some (acc.map ldD):=rfl
 have im:immL ((List.range (tm k+1)).map fun t:Nat=>ldD (l++[(t:Int)]))=true:=wY fun _ _=>qj6 _
 show zj _ U=_
 rw [uu,qd9]
 simp only [gl,c,im,Bool.true_and]
 rw [jW (by rw [lM_,lM_,lR_];omega),if_pos rfl,List.map_append,mm_]
 rfl
theorem qem {ks:List Kw} (h:∀ k∈ks,sgK k) (hl:ks.length<=6):ua [.tup (ks.map kw)] = .ok (.lst ((zN ks).map ldD)):=by
 let T:Option D:=some (.tup (ks.map kw))
 have p2:∀ n,n<=6->2 ^ n<=64:=fun n hn=>Nat.le_trans (Nat.pow_le_pow_right (by decide) hn) (by decide)
 obtain ⟨U',q,o2,o4,_,_,rfl⟩:=yX (G:=qv 2) (b:=(qC (wO 3 (qiJ (ret []))) (qC (qfl (uG (dv 1)) (qv 4) (zj (yV 3 (z5 1 [4] none (vR (qa (d2 z4 (d2 ixD (dv 2) (ret (.int 2))) (ret (.int 1))) (ret []))) (qv 0) (ret true) (d2 z4 (dv 1) (vS (qa (dv 0) (ret [])))))))) (qgd 1 3)))) (k:=kw) (step:=qeP)
  (Inv:=fun n L U=>∃ o2 o4,L.length<=2 ^ n/\(∀ l∈L,l.length=n)/\U=[T,some (.lst (L.map ldD)),o2,none,o4]) ks 0 [[]] [T,some (.lst (([[]]:List (List Int)).map ldD)),none,none,none] ⟨none,none,Nat.le_refl _,fun l hl=>by rw [ms_.mp hl];rfl,rfl⟩ (fun k hk n L U _ hn=>by
  rintro ⟨o2,o4,hL,hLl,rfl⟩
  have gk:=h k hk
  have ht:=qgm gk
  have hn6:n<6:=by omega
  have hL2:=p2 n (by omega)
  let Ls:Option D:=some (.lst (L.map ldD))
  obtain ⟨U2,q2,o4',hacc,hal,rfl⟩:=yX (G:=qv 4) (b:=(zj (yV 3 (z5 1 [4] none (vR (qa (d2 z4 (d2 ixD (dv 2) (ret (.int 2))) (ret (.int 1))) (ret []))) (qv 0) (ret true) (d2 z4 (dv 1) (vS (qa (dv 0) (ret [])))))))) (k:=ldD) (step:=fun (acc:List (List Int)) (l:List Int)=>acc++(List.range (tm k+1)).map fun t:Nat=>l++[(t:Int)])
   (Inv:=fun m acc U=>∃ o4,acc.length<=2*m/\(∀ l∈acc,l.length=n+1)/\U=[T,Ls,some (kw k),some (.lst (acc.map ldD)),o4]) L 0 [] [T,Ls,some (kw k),some (.lst []),o4] ⟨o4,Nat.le_refl _,fun l hl=>absurd hl nN_,rfl⟩ (fun l hl m acc U _ hm=>by
   rintro ⟨o4,ha,hal,rfl⟩
   have hll:=hLl l hl
   refine ⟨[T,Ls,some (kw k),some (.lst (acc.map ldD)),some (ldD l)],_,rfl,qjh gk T Ls (by omega) (by omega),some (ldD l),?_,fun x hx => ?_,rfl⟩
   ·rw [lA_,lM_,lR_]
    omega
   ·rcases mA_.mp hx with hx | hx
    ·exact hal x hx
    ·obtain ⟨t,_,rfl⟩:=mP_.mp hx
     rw [lA_,List.length_singleton,hll])
  rw [qfN,List.nil_append,<- qjg] at q2 hacc hal
  refine ⟨[T,Ls,some (kw k),none,o4],[T,some (.lst ((qeP L k).map ldD)),some (kw k),none,o4'],rfl,?_,some (kw k),o4',?_,hal,rfl⟩
  ·refine (qk (U':=[T,Ls,some (kw k),some (.lst []),o4]) ?_).trans ?_
   ·push_cast [immL,jW (show 0<=1000000 by omega),Bool.and_self]
   refine (qk (U':=[T,Ls,some (kw k),some (.lst ((qeP L k).map ldD)),o4']) ?_).trans rfl
   rw [vj]
   exact q2
  ·rw [Nat.pow_succ]
   omega)
 rw [qjc] at q
 unfold ua wo
 refine uB rfl ⟨[T,some (.lst ((zN ks).map ldD)),o2,none,o4],?_⟩
 refine (qk (U':=[T,some (.lst (([[]]:List (List Int)).map ldD)),none,none,none]) ?_).trans ?_
 ·push_cast [jW (show 0<=1000000 by omega),jW (show 1<=1000000 by omega),T]
  rfl
 refine (qk (U':=[T,some (.lst ((zN ks).map ldD)),o2,none,o4]) ?_).trans rfl
 rw [vj]
 exact q
theorem qj7:∀ (ks:List Kw) (l:List Int),qai (ks.map kw) (l.map D.int)=(ks.zip l).map fun z=>D.tup [kw z.1,.int z.2]
 | [],_=>by simp [qai]
 | _::_,[]=>by simp [qai]
 | k::ks,x::l=>by
  rw [mC_,mC_,List.zip_cons_cons,mC_,<- qj7 ks l]
  rfl
theorem qnG:∀ (ks:List Kw) (l:List Int),((ks.zip l).map fun z=>z.1.w*z.2).sum=qI ks l
 | [],_=>by simp [qI]
 | _::_,[]=>by simp [qI]
 | k::ks,x::l=>by
  rw [List.zip_cons_cons,mC_,List.sum_cons,qnG ks l]
  show k.w*x+_=x*k.w+_
  rw [Int.mul_comm]
theorem qlC:∀ (ks:List Kw) (l:List Int),((ks.zip l).map fun z=>z.1.v*z.2).sum=qP ks l
 | [],_=>by simp [qP]
 | _::_,[]=>by simp [qP]
 | k::ks,x::l=>by
  rw [List.zip_cons_cons,mC_,List.sum_cons,qlC ks l]
  show k.v*x+_=x*k.v+_
  rw [Int.mul_comm]
theorem qdc {ks:List Kw} {l:List Int} (h01:∀ t∈l,t=0\/t=1) (hl:ks.length<=12) (c:Int) (f:Kw->Int) (hf:∀ k,ixD (kw k) (.int c)=some (.int (f k))):qR [.tup (ks.map kw),ldD l,.int c] = .ok (.int ((ks.zip l).map fun z=>f z.1*z.2).sum):=by
 let U:Env:=[some (.tup (ks.map kw)),some (ldD l),some (.int c)]
 unfold qR yy
 refine uB rfl ⟨U,jA ?_⟩
 have c1:=qcX (e:=d2 jV (d2 ixD (dv 0) (dv 2)) (dv 1)) (t:=ret true) (xs:=qf8 (qa (dv 0) (qa (dv 1) (ret [])))) (fr:=[2]) (U:=U) (r:=[some (.int c)]) (u:=fun a:Kw×Int=>kw a.1) (v:=fun a=>D.int a.2) (ks.zip l) (fun _=>true) (fun a=>D.int (f a.1*a.2)) (by
  rw [qbA,qbF (a := .tup (ks.map kw)) (b := .tup (l.map D.int)) rfl rfl]
  simp only [qiO,qj7]) rfl (by rw [List.length_zip];omega) (fun _ _=>rfl) (fun a ha _=>by
   have h1:=h01 _ (List.of_mem_zip (show (a.1,a.2)∈ks.zip l from ha)).2
   exact qj (qj rfl rfl (hf _)) rfl (qgj (qhD (by rcases h1 with e | e<;>omega) (by rcases h1 with e | e<;>omega))))
 rw [wd] at c1
 refine jq c1 ?_
 rw [qa6]
theorem qb2 {ks:List Kw} (h:∀ k∈ks,sgK k) (hl:ks.length<=6):jT [.tup (ks.map kw)] = .ok (.lst ((wC ks).map t3D)):=by
 let U:Env:=[some (.tup (ks.map kw))]
 unfold jT u5
 refine uB rfl ⟨U,jA ?_⟩
 have p2:(zN ks).length<=64:=Nat.le_trans (qbO h) (Nat.le_trans (Nat.pow_le_pow_right (by decide) hl) (by decide))
 have c:=wX (e:=vS (qa (qe qR (qa (dv 1) (qa (dv 0) (qa (ret (.int 0)) (ret []))))) (qa (qe qR (qa (dv 1) (qa (dv 0) (qa (ret (.int 1)) (ret []))))) (qa (dv 0) (ret []))))) (fr:=[0]) (U:=U) (r:=[some (.tup (ks.map kw))]) (xs:=uG (qe ua (qa (dv 0) (ret [])))) (k:=ldD) (zN ks) (fun l=>t3D (wg ks l)) (by
  rw [qd4,jn rfl (qem h hl)]
  rfl) rfl (by omega) fun l hl'=>by
   have h01:=qc3 h hl'
   refine qpo (yY rfl rfl rfl ((qdc h01 (by omega) 0 (·.w) qoM).trans ?_)) (yY rfl rfl rfl ((qdc h01 (by omega) 1 (·.v) qnD).trans ?_)) rfl
   ·rw [qnG];rfl
   ·rw [qlC];rfl
 have e:(wC ks).map t3D=(zN ks).map fun l=>t3D (wg ks l):=by
  unfold wC
  rw [mm_]
  rfl
 rw [e]
 exact c
theorem qji (x:T3):zH [t3D x] = .ok (.tup [.int x.1,.int (-x.2.1),ldD x.2.2]):=by
 unfold zH y9
 let U:Env:=[some (t3D x)]
 have n1:d1 qgw (d2 ixD (dv 0) (ret (.int 1))) U = .ok (.int (-x.2.1),U):=by
  rw [qov,qj rfl rfl (qhT x)]
  rfl
 exact uB rfl ⟨U,jA (qpo (qj rfl rfl (qjf x)) n1 (qj rfl rfl (qoN x)))⟩
theorem qhU:∀ L:List T3,qbE zH (L.map t3D)=some (L.map kyT)
 | []=>rfl
 | x::L=>by
  have e:qlp (.tup [.int x.1,.int (-x.2.1),ldD x.2.2])=some (kyT x):=by
   unfold qlp ldD
   simp only [wW]
   rfl
  rw [mC_]
  unfold qbE
  rw [qji,qhU L]
  simp only [e,mC_]
theorem qjj (L:List T3):qgf (Srt.ord (zh (L.map kyT))) (L.map t3D)=(srt L).map t3D:=by
 unfold qgf srt
 rw [mm_]
 refine List.map_congr_left fun i hi => ?_
 have hi':=(Srt.ord_perm (zh (L.map kyT))).mem_iff.mp hi
 rw [mR_,jO,lM_] at hi'
 show (L.map t3D).getD i D.non=t3D (L.getD i (0,0,[]))
 simp [hi']
theorem qoO (l:List T3):eqB (.lst (l.map t3D)) (.lst [])=some (.bl l.isEmpty):=by
 have hx:∀ F:List T3,PyData.canLayAll0 (toPDs (F.map t3D))=true/\PyData.depthAll (toPDs (F.map t3D))<=2:=fun F=>by
  induction F with
  | nil=>exact ⟨rfl,Nat.zero_le _⟩
  | cons x F ih =>
   have o:=qhG (ns:=x.2.2)
   have e:qaS (.tup (x.2.2.map D.int))=(PyData.canLayAll0 (toPDs (x.2.2.map D.int))&&decide (PyData.depthAll (toPDs (x.2.2.map D.int))+1<=50)):=by
    simp only [qaS,ui,PyData.canLay0,PyData.depth]
   have dp:∀ l:List Int,PyData.depthAll (toPDs (l.map D.int))=0:=fun l=>by
    induction l with
    | nil=>rfl
    | cons a l ih=>simp only [mC_,toPDs,ui,PyData.depthAll,PyData.depth,ih];rfl
   rw [e,Bool.and_eq_true] at o
   refine ⟨?_,?_⟩
   ·simp only [mC_,t3D,ldD,toPDs,ui,PyData.canLayAll0,PyData.canLay0,o.1,ih.1,Bool.and_self]
   ·simp only [mC_,t3D,ldD,toPDs,ui,PyData.depthAll,PyData.depth,dp]
    have:=ih.2
    omega
 obtain ⟨h1,h2⟩:=hx l
 have o1:qaS (.lst (l.map t3D))=true:=by
  have e:qaS (.lst (l.map t3D))=(PyData.canLayAll0 (toPDs (l.map t3D))&&decide (PyData.depthAll (toPDs (l.map t3D))+1<=50)):=by
   simp only [qaS,ui,PyData.canLay0,PyData.depth]
  rw [e,h1,decide_eq_true (by omega)]
  rfl
 have e:eqB (.lst (l.map t3D)) (.lst [])=eqA (.lst (l.map t3D)) (.lst []):=rfl
 rw [e]
 unfold eqA
 rw [o1]
 cases l with
 | nil=>rfl
 | cons n l=>rfl
theorem qlD {l:List T3} {y:T3} (h:l.getLast? = some y):atI (l.map t3D) (-1)=some (t3D y):=by
 have hne:l≠[]:=fun e=>by rw [e] at h;cases h
 have hl:0<l.length:=List.length_pos_iff.mpr hne
 have e:l[l.length-1]? = some y:=by rw [<- List.getLast?_eq_getElem?];exact h
 unfold atI ixN
 rw [if_neg (by omega),lM_]
 split
 ·have e2:((-1:Int)+(l.length:Int)).toNat=l.length-1:=by omega
  show (l.map t3D)[((-1:Int)+(l.length:Int)).toNat]? = _
  rw [e2,gM_,e]
  rfl
 ·omega
theorem qhV (T:Option D) (kept:List T3) (x:T3) (hl:kept.length<=1000):(sif (tor (qcQ (tst (d2 eqB (dv 1) (qdN (ret []))))) (tst (d2 gtD (d2 ixD (dv 2) (ret (.int 1))) (d2 ixD (qg9 1 (d1 qgw (ret (.int 1)))) (ret (.int 1)))))) (zj (yu 1 (dv 2))) yj) [T,some (.lst (kept.map t3D)),some (t3D x)] = .ok (.nx [T,some (.lst ((qaV kept x).map t3D)),some (t3D x)]):=by
 let U:Env:=[T,some (.lst (kept.map t3D)),some (t3D x)]
 have ap:zj (yu 1 (dv 2)) U = .ok (.nx [T,some (.lst ((kept++[x]).map t3D)),some (t3D x)]):=by
  rw [qhE (ds:=kept.map t3D) (d:=t3D x) rfl rfl (qnF x) (by rw [lM_];omega),List.map_append]
  rfl
 have t1:qcQ (tst (d2 eqB (dv 1) (qdN (ret [])))) U = .ok (kept.isEmpty,U):=by
  refine qox (zc (qj rfl (b := .lst []) ?_ (qoO kept)))
  rw [qhf]
  simp only [qbY,lN_,jW (show 0<=1000000 by omega),if_true]
 show sif _ _ _ U=_
 unfold qaV
 cases e:kept.getLast? with
 | none =>
  have hk:kept=[]:=List.getLast?_eq_none_iff.mp e
  rw [hk] at t1 ap
  subst hk
  rw [qoJ (qpZ t1),ap]
  rfl
 | some y =>
  have hne:kept.isEmpty=false:=by
   cases kept with
   | nil=>cases e
   | cons a l=>rfl
  rw [hne] at t1
  have ix:d2 ixD (qg9 1 (d1 qgw (ret (.int 1)))) (ret (.int 1)) U = .ok (.int y.2.1,U):=by
   refine qj (a:=t3D y) ?_ rfl (qhT y)
   have n1:d1 qgw (ret (.int 1)) U = .ok (.int (-1),U):=rfl
   have gl:zB 1 U=some (kept.map t3D):=rfl
   rw [qhk]
   simp only [gl,n1,qlD e]
  have t2:tst (d2 gtD (d2 ixD (dv 2) (ret (.int 1))) (d2 ixD (qg9 1 (d1 qgw (ret (.int 1)))) (ret (.int 1)))) U = .ok (decide (y.2.1<x.2.1),U):=zc (qj (qj rfl rfl (qhT x)) ix (yW _ _))
  dsimp only
  by_cases c:y.2.1<x.2.1
  ·rw [decide_eq_true c] at t2
   rw [if_pos c]
   have:tor (qcQ (tst (d2 eqB (dv 1) (qdN (ret []))))) (tst (d2 gtD (d2 ixD (dv 2) (ret (.int 1))) (d2 ixD (qg9 1 (d1 qgw (ret (.int 1)))) (ret (.int 1))))) U = .ok (true,U):=by rw [qga,t1];exact t2
   rw [qoJ this,ap]
  ·rw [decide_eq_false c] at t2
   rw [if_neg c,qgk (qnv t1 t2)]
   rfl
theorem qdd:∀ (L kept:List T3),(L.foldl qaV kept).length<=kept.length+L.length
 | [],kept=>Nat.le_refl _
 | x :: L,kept=>by
  rw [fo_,lC_]
  have:=qdd L (qaV kept x)
  have h2:(qaV kept x).length<=kept.length+1:=by
   unfold qaV
   cases e:kept.getLast? with
   | none=>simp
   | some y =>
    dsimp only
    split<;>simp
  omega
theorem qfO {ks:List Kw} (h:∀ k∈ks,sgK k) (hl:ks.length<=5):(wC ks).length<=32:=by
 unfold wC
 rw [lM_]
 exact Nat.le_trans (qbO h) (Nat.le_trans (Nat.pow_le_pow_right (by decide) hl) (by decide))
theorem qhW {ks:List Kw} (h:∀ k∈ks,sgK k) (hl:ks.length<=5):(nbL ks).length<=32:=by
 have h1:=qdd (srt (wC ks)) []
 have h2:=(qa9 (wC ks)).length_eq
 have h3:=qfO h hl
 have:(nbL ks).length=((srt (wC ks)).foldl qaV []).length:=rfl
 simp only [lN_] at h1
 omega
theorem w9 {ks:List Kw} (h:∀ k∈ks,sgK k) (hl:ks.length<=5):yq [.tup (ks.map kw)] = .ok (.lst ((nbL ks).map t3D)):=by
 let T:Option D:=some (.tup (ks.map kw))
 have h32:=qfO h hl
 have hsl:=(qa9 (wC ks)).length_eq
 obtain ⟨U',q,o2,hk,rfl⟩:=yX (G:=qv 2) (b:=(sif (tor (qcQ (tst (d2 eqB (dv 1) (qdN (ret []))))) (tst (d2 gtD (d2 ixD (dv 2) (ret (.int 1))) (d2 ixD (qg9 1 (d1 qgw (ret (.int 1)))) (ret (.int 1)))))) (zj (yu 1 (dv 2))) yj)) (k:=t3D) (step:=qaV) (Inv:=fun n kept U=>∃ o2,kept.length<=n/\U=[T,some (.lst (kept.map t3D)),o2]) (srt (wC ks)) 0 [] [T,some (.lst []),none] ⟨none,Nat.le_refl _,rfl⟩ (fun x _ n kept U _ hn=>by
  rintro ⟨o2,hk,rfl⟩
  refine ⟨[T,some (.lst (kept.map t3D)),some (t3D x)],_,rfl,qhV T kept x (by omega),some (t3D x),?_,rfl⟩
  have:=qdd [x] kept
  simp only [fo_,List.foldl_nil,List.length_singleton] at this
  omega)
 unfold yq vq
 refine uB rfl ⟨[T,some (.lst ((nbL ks).map t3D)),o2],?_⟩
 refine (qk (U':=[T,some (.lst []),none]) ?_).trans ?_
 ·push_cast [immL,jW (show 0<=1000000 by omega),Bool.and_self,T]
 refine (qk (U':=[T,some (.lst ((nbL ks).map t3D)),o2]) ?_).trans ?_
 ·have c:qeb zH (qe jT (qa (dv 0) (ret []))) [T,some (.lst []),none] = .ok (.lst ((srt (wC ks)).map t3D),[T,some (.lst []),none]):=by
   rw [qi0 (jn rfl (qb2 h (by omega))) (by rw [lM_];omega) (qhU (wC ks)),qjj]
  rw [vj,qd4,c]
  exact q
 ·rfl
theorem qjk (ks:List Kw) (hl:ks.length<=12):um [.tup (ks.map kw)] = .ok (.tup ((ks.take (ks.length/2)).map kw)):=by
 unfold um vt
 let U:Env:=[some (.tup (ks.map kw))]
 refine uB rfl ⟨U,jA ?_⟩
 have n2:d2 ve (qQ qaH (qa (dv 0) (ret []))) (ret (.int 2)) U = .ok (.int ((ks.length/2:Nat):Int),U):=qj (jq rfl (by rw [jt,lM_])) rfl (by rw [wV (by decide) (by decide)];rfl)
 have p:qbX (d2 ve (qQ qaH (qa (dv 0) (ret []))) (ret (.int 2))) U = .ok (some ((ks.length/2:Nat):Int),U):=by rw [qcP,n2]
 have v:dv 0 U = .ok (.tup (ks.map kw),U):=rfl
 have c:=qi8 (ks.map kw) (ks.length/2) (by rw [lM_];omega)
 have z:qlm (dv 0) (ret none) (qbX (d2 ve (qQ qaH (qa (dv 0) (ret []))) (ret (.int 2)))) U = .ok (.tup ((ks.map kw).take (ks.length/2)),U):=by
  rw [qj1]
  simp only [v,qbY,p,slB,c]
 rw [List.map_take]
 exact z
theorem qhX (ks:List Kw) (hl:ks.length<=12):yC [.tup (ks.map kw)] = .ok (.tup ((ks.drop (ks.length/2)).map kw)):=by
 unfold yC u6
 let U:Env:=[some (.tup (ks.map kw))]
 refine uB rfl ⟨U,jA ?_⟩
 have n2:d2 ve (qQ qaH (qa (dv 0) (ret []))) (ret (.int 2)) U = .ok (.int ((ks.length/2:Nat):Int),U):=qj (jq rfl (by rw [jt,lM_])) rfl (by rw [wV (by decide) (by decide)];rfl)
 have p:qbX (d2 ve (qQ qaH (qa (dv 0) (ret []))) (ret (.int 2))) U = .ok (some ((ks.length/2:Nat):Int),U):=by rw [qcP,n2]
 have v:dv 0 U = .ok (.tup (ks.map kw),U):=rfl
 have c:=qi9 (ks.map kw) (ks.length/2) (by rw [lM_];omega)
 have z:qlm (dv 0) (qbX (d2 ve (qQ qaH (qa (dv 0) (ret []))) (ret (.int 2)))) (ret none) U = .ok (.tup ((ks.map kw).drop (ks.length/2)),U):=by
  rw [qj1]
  simp only [v,qbY,p,slB,c]
 rw [List.map_drop]
 exact z
theorem qhY (one:T3) (S:List T3) (r:Int) (hS:S.length<=1000) (hne:∃ o∈S,o.1<=r-one.1):jS [t3D one,.lst (S.map t3D),.int r] = .ok (.int (bb one S r)):=by
 unfold jS u4
 let U:Env:=[some (t3D one),some (.lst (S.map t3D)),some (.int r),some (.int (r-one.1))]
 refine uB rfl ⟨U,?_⟩
 refine (qk (U':=U) ?_).trans (jA ?_)
 ·show z7 3 _ [some (t3D one),some (.lst (S.map t3D)),some (.int r),none]=_
  rw [w5 (qj rfl (qj rfl rfl (qjf one)) (qcU _ _))]
  rfl
 have c:=qcq (e:=d2 ixD (dv 0) (ret (.int 1))) (t:=tst (d2 leD (d2 ixD (dv 0) (ret (.int 0))) (dv 1))) (xs:=uG (dv 1)) (fr:=[3]) (U:=U) (r:=[some (.int (r-one.1))]) (k:=t3D) S (fun o=>decide (o.1<=r-one.1)) (fun o=>D.int o.2.1) rfl rfl (by omega) (fun o _=>zc (qj (qj rfl rfl (qjf o)) rfl (vm _ _))) (fun o _ _=>qj rfl rfl (qhT o))
 refine qj (qj rfl rfl (qhT one)) (jq c (qel ?_)) (z8 _ _)
 obtain ⟨o,ho,h⟩:=hne
 intro e
 have:o∈S.filter fun o=>decide (o.1<=r-one.1):=List.mem_filter.mpr ⟨ho,decide_eq_true h⟩
 rw [e] at this
 cases this
theorem qhZ {ks:List Kw} (h:∀ k∈ks,sgK k):∃ y∈nbL ks,y.1=0:=by
 obtain ⟨z,hz,z0⟩:=qfL ks
 obtain ⟨y,hy,y1,_⟩:=qfK hz
 have:=(qhQ h (qhP hy)).1
 exact ⟨y,hy,by omega⟩
theorem xx1 {F:List D->R D} {l:M (List D)} {U:Env} {ds:List D} {d:D} (hl:l U = .ok (ds,U)) (h:F ds = .ok d):zj (qe F l) U = .ok (.nx U):=by
 rw [uu,yd,hl]
 simp only [h]
theorem xs1 {i:Nat} {F:List D->R D} {l:M (List D)} {U:Env} {ds:List D} {d:D} (hl:l U = .ok (ds,U)) (h:F ds = .ok d):z7 i (qe F l) U = .ok (.nx (U.set i (some d))):=by
 rw [vi,yd,hl]
 simp only [h]
theorem qjl {ks:List Kw} (h:∀ k∈ks,1<=k.w/\0<=k.v/\∀ j,k.m=some j->0<=j) (hl:ks.length<=12):uv (.tup (ks.map kw))=true:=by
 have e:ks.map kw=(ks.map fun k=>(k.w,k.v,k.m)).map kD:=by rw [mm_];rfl
 rw [e]
 refine uM (fun x hx => ?_) (by rw [lM_];exact hl)
 obtain ⟨k,hk,rfl⟩:=mP_.mp hx
 obtain ⟨h1,h2,h3⟩:=h k hk
 exact ⟨by show 0<k.w;omega,h2,h3⟩
theorem qde {ks:List Kw} (h:∀ k∈ks,sgK k) (hl:ks.length<=12):uv (.tup (ks.map kw))=true:=qjl (fun k hk=>⟨(h k hk).1,(h k hk).2.1,(h k hk).kd.2⟩) hl
def qnH (k:Kw):Bool:=decide (k.m=some 0)||decide (k.m=some 1)
theorem qeW {ks:List Kw} (h:∀ k∈ks,k.m=some 0\/k.m=some 1\/k.m=some 2\/k.m=none\/k.m=some 3) (hl:ks.length<=12) (U:Env) (hρ:U=[some (.tup (ks.map kw))]):tst (qQ qeH (qa (z5 1 [] none (uG (dv 0)) (qv 0) (ret true) (d2 inB (d2 ixD (dv 0) (ret (.int 2))) (vS (qa (ret (.int 0)) (qa (ret (.int 1)) (ret [])))))) (ret []))) U = .ok (ks.all qnH,U):=by
 subst hρ
 have c:=wX (e:=d2 inB (d2 ixD (dv 0) (ret (.int 2))) (vS (qa (ret (.int 0)) (qa (ret (.int 1)) (ret []))))) (fr:=[]) (U:=[some (.tup (ks.map kw))]) (r:=[]) (xs:=uG (dv 0)) (k:=kw) ks (fun k=>D.bl (qnH k)) rfl rfl (by omega) fun k hk=>by
  refine qj (qj rfl rfl (qnE k)) (qlt rfl rfl) ?_
  unfold qnH
  rcases h k hk with e | e | e | e | e<;>rw [e]<;>rfl
 exact zc (jq c qcW)
theorem qnI {ks:List Kw} (h:∀ k∈ks,sgK k):ks.all qnH=true:=by
 rw [List.all_eq_true]
 intro k hk
 unfold qnH
 rcases (h k hk).2.2 with e | e<;>rw [e]<;>rfl
theorem qjm {ks:List Kw} (h:∀ k∈ks,sgK k):∀ k∈ks,k.m=some 0\/k.m=some 1\/k.m=some 2\/k.m=none\/k.m=some 3:=fun k hk=>by
 rcases (h k hk).2.2 with e | e
 ·exact .inl e
 ·exact .inr (.inl e)
theorem qb3 {ks:List Kw} (h:∀ k∈ks,sgK k) (hl:ks.length<=12):jP [.tup (ks.map kw)] = .ok .non:=by
 have c:=qeW (qjm h) hl _ rfl
 rw [qnI h] at c
 have e:zk [some (.tup (ks.map kw))] = .ok (.nx [some (.tup (ks.map kw))]):=by
  unfold zk
  have tn:=(qbz (t:=tst (qQ qeH (qa (z5 1 [] none (uG (dv 0)) (qv 0) (ret true) (d2 inB (d2 ixD (dv 0) (ret (.int 2))) (vS (qa (ret (.int 0)) (qa (ret (.int 1)) (ret [])))))) (ret [])))) (U:=[some (.tup (ks.map kw))]))
  rw [c] at tn
  exact qgk tn
 first
 | exact qnb rfl ⟨_,e⟩
 | (show (match zk [some (.tup (ks.map kw))] with | .ok (.rt d _)=>R.ok d | .ok (.nx _) => .ok .non | _ => .bad)=_;rw [e])
theorem qoP {r:Int} (hr:0<=r):zL [.int r] = .ok .non:=by
 first
 | exact need_count_ok (.int r) (show jp (.int r)=true from decide_eq_true hr)
 | (obtain ⟨n,rfl⟩:=Int.eq_ofNat_of_zero_le hr;exact jg n)
section
variable {ks:List Kw} (h:∀ k∈ks,sgK k) (hl:ks.length<=10)
include h hl
theorem qen:(∀ k∈ks.take (ks.length/2),sgK k)/\(∀ k∈ks.drop (ks.length/2),sgK k)/\(ks.take (ks.length/2)).length<=5/\(ks.drop (ks.length/2)).length<=5:=by
 refine ⟨fun k hk=>h k (List.mem_of_mem_take hk),fun k hk=>h k (List.mem_of_mem_drop hk),?_,?_⟩
 ·rw [List.length_take];omega
 ·rw [List.length_drop];omega
theorem qdf:uo [.tup (ks.map kw)] = .ok (.tup [.lst ((nbL (ks.take (ks.length/2))).map t3D),.lst ((nbL (ks.drop (ks.length/2))).map t3D)]):=by
 obtain ⟨h1,h2,l1,l2⟩:=qen h hl
 unfold uo vv
 let U:Env:=[some (.tup (ks.map kw))]
 have g0:qa (dv 0) (ret []) U = .ok ([.tup (ks.map kw)],U):=qcV rfl
 refine uB rfl ⟨U,?_⟩
 refine (qk (U':=U) (xx1 g0 (zg _ (qde h (by omega))))).trans ?_
 refine (qk (U':=U) (xx1 g0 (qb3 h (by omega)))).trans ?_
 exact jA (qlt (jn (jn rfl (qjk ks (by omega))) (w9 h1 l1)) (jn (jn rfl (qhX ks (by omega))) (w9 h2 l2)))
theorem vy {r:Int} (hr:0<=r):qO [.tup (ks.map kw),.int r] = .ok (.int (zr ks r)):=by
 obtain ⟨h1,h2,l1,l2⟩:=qen h hl
 let a:=ks.take (ks.length/2)
 let b:=ks.drop (ks.length/2)
 have ab:a++b=ks:=List.take_append_drop _ _
 have mb:=qje h1 h2 hr
 rw [ab] at mb
 have n1:(nbL a).length<=32:=qhW h1 l1
 have n2:(nbL b).length<=32:=qhW h2 l2
 unfold qO wp
 let U0:Env:=[some (.tup (ks.map kw)),some (.int r),none]
 let U:Env:=[some (.tup (ks.map kw)),some (.int r),some (.tup [.lst ((nbL a).map t3D),.lst ((nbL b).map t3D)])]
 have g0:qa (dv 0) (ret []) U0 = .ok ([.tup (ks.map kw)],U0):=qcV rfl
 have g1:qa (dv 1) (ret []) U0 = .ok ([.int r],U0):=qcV rfl
 refine uB rfl ⟨U,?_⟩
 refine (qk (U':=U0) (xx1 g0 (zg _ (qde h (by omega))))).trans ?_
 refine (qk (U':=U0) (xx1 g1 (qoP hr))).trans ?_
 refine (qk (U':=U) (xs1 g0 (qdf h hl))).trans ?_
 obtain ⟨y0,hy0,y00⟩:=qhZ h2
 obtain ⟨x0,hx0,x00⟩:=qhZ h1
 have c:=qcq (e:=qe jS (qa (dv 0) (qa (d2 ixD (dv 2) (ret (.int 1))) (qa (dv 1) (ret []))))) (t:=tst (d2 leD (d2 ixD (dv 0) (ret (.int 0))) (dv 1))) (xs:=uG (d2 ixD (dv 2) (ret (.int 0)))) (fr:=[1,2]) (U:=U) (r:=[some (.int r),some (.tup [.lst ((nbL a).map t3D),.lst ((nbL b).map t3D)])]) (k:=t3D) (nbL a) (fun x=>decide (x.1<=r)) (fun x=>D.int (bb x (nbL b) r)) rfl rfl (by omega) (fun x _=>zc (qj (qj rfl rfl (qjf x)) rfl (vm _ _))) (fun x _ hp=>by
  have hp':=of_decide_eq_true hp
  exact yY rfl (qj rfl rfl rfl) rfl (qhY x (nbL b) r (by omega) ⟨y0,hy0,by omega⟩))
 refine jA (jq c ?_)
 rw [qel (fun e=>by
  have:x0∈(nbL a).filter fun x=>decide (x.1<=r):=List.mem_filter.mpr ⟨hx0,decide_eq_true (by omega)⟩
  rw [e] at this
  cases this),mb]
end
def sk (w v m:Nat):Kd:=((w:Int),(v:Int),some (m:Int))
def vV (x:Kd):Prop:=∃ w v m:Nat,x=sk w v m/\0<w/\w<=17000000000000000/\v<=11/\m<=1
theorem vV.ok {x:Kd} (h:vV x):okK x:=by
 obtain ⟨w,v,m,rfl,h1,h2,h3,h4⟩:=h
 exact ⟨by show (0:Int)<(w:Int);omega,by show (0:Int)<=(v:Int);omega,fun j e=>by
  have e':some (m:Int)=some j:=e
  cases e'
  omega⟩
theorem qh0 (n:Nat):jp (.int (n:Nat))=true:=by
 show decide ((0:Int)<=(n:Int))=true
 exact decide_eq_true (by omega)
theorem qp1 (m:Nat) (h:m<=1):inB (.int (m:Nat)) (.tup [.int 0,.int 1])=some (.bl true):=by
 have:m=0\/m=1:=by omega
 rcases this with rfl | rfl<;>rfl
theorem jU {ks:List Kd} (hk:∀ x∈ks,vV x) (hl:ks.length<=8):jc [.tup (ks.map kD)] = .ok .non:=by
 let U:Env:=[some (.tup (ks.map kD))]
 have g0:dv 0 U = .ok (.tup (ks.map kD),U):=rfl
 have ns:jP [.tup (ks.map kD)] = .ok .non:=by
  have e:zk U = .ok (.nx U):=by
   unfold zk
   have c1:z5 1 [] none (uG (dv 0)) (qv 0) (ret true) (d2 inB (d2 ixD (dv 0) (ret (.int 2))) (vS (qa (ret (.int 0)) (qa (ret (.int 1)) (ret []))))) U = .ok (.lst (ks.map fun _=>D.bl true),U):=by
    refine wX (r:=[]) (k:=kD) ks (fun _=>D.bl true) rfl rfl (by omega) fun x hx => ?_
    obtain ⟨w,v,m,rfl,h1,h2,h3,h4⟩:=hk x hx
    exact qj (qj rfl rfl (qlv _)) (qlt rfl rfl) (qp1 m h4)
   have c3:qeH [.lst (ks.map fun _=>D.bl true)]=some (.bl true):=by
    have:=qcW (as:=ks) (f:=fun _=>true)
    rw [this]
    congr 2
    exact List.all_eq_true.mpr fun _ _=>rfl
   have c4:=jq c1 c3
   simp only [qcN,qbz,qd2,c4,yk,cond_false,Bool.not_true,qck]
  show (match zk U with | .ok (.rt d _)=>R.ok d | .ok (.nx _) => .ok .non | _ => .bad)=_
  rw [e]
 have e:jb U = .ok (.nx U):=by
  unfold jb
  refine (qk (U':=U) ?_).trans ((qk (U':=U) ?_).trans ?_)
  ·rw [uu,jn g0 (zg _ (uM (fun k h=>(hk k h).ok) (by omega)))]
  ·rw [uu,jn g0 ns]
  ·have c:d2 gtD (qQ qaH (qa (dv 0) (ret []))) (ret (.int 8)) U = .ok (.bl false,U):=qj (jq (d := .int (ks.length:Nat)) g0 (by rw [jt,lM_])) rfl (by rw [yW,decide_eq_false (by omega)])
   rw [qgk (zc c)]
   rfl
 show (match jb U with | .ok (.rt d _)=>R.ok d | .ok (.nx _) => .ok .non | _ => .bad)=_
 rw [e]
def pk (c:Bool) (x y:Nat):Nat:=bif c then x else y
def le2 (t b u c:Nat):Bool:=decide (t*c<=u*b)
theorem qoQ:qnW (.int 10) (.int 15)=some (.int 1000000000000000):=by
 have h:qkZ 10 15=true:=by decide +kernel
 have e:(10:Int) ^ (15:Int).toNat=1000000000000000:=by decide +kernel
 simp only [qnW,qjD,h,if_true,e]
theorem qlE (i:Int):gtD (.int i) (.int 0)=some (.bl (decide (0<i))):=rfl
theorem qeX (f:Int) (hf:f=1\/f=1000000000000000) (j:Int) (hj:0<=j/\j<8) (M:Int) (n:Int) (ks:List Kd) (hl:ks.length<8) (o5 o6:Option D):∃ n' k p5 p6,vV k/\(qC (qci 5 6 (qa (d2 z4 (d2 jV (dv 2) (d2 z4 (ret (.int 1)) (qr qh 0 (qa (ret (.int 9)) (ret []))))) (d2 jV (dv 4) (d2 qgt (dv 2) (ret (.int 1))))) (qa (qr qh 0 (qa (ret (.int 12)) (ret []))) (ret [])))) (zj (yu 3 (vS (qa (dv 5) (qa (dv 6) (qa (qQ qf3 (qa (d2 gtD (qr qh 0 (qa (ret (.int 5)) (ret []))) (ret (.int 0))) (ret []))) (ret [])))))))) [some (.lst [.int n]),some (.int M),some (.int f),some (.lst (ks.map kD)),some (.int j),o5,o6] = .ok (.nx [some (.lst [.int n']),some (.int M),some (.int f),some (.lst ((ks++[k]).map kD)),some (.int j),p5,p6]):=by
 let a:=1+n%9
 let n1:=n/9
 let v:=n1%12
 let n2:=n1/12
 let n3:=n2/5
 have ha:1<=a/\a<=9:=by simp only [a];omega
 have hv:0<=v/\v<=11:=by simp only [v];omega
 let w:=f*a+j*(f-1)
 have hw:1<=w/\w<=17000000000000000:=by
  simp only [w]
  rcases hf with rfl | rfl
  ·simp only [Int.one_mul,Int.sub_self,Int.mul_zero,Int.add_zero];omega
  ·omega
 let m:Int:=if 0<n2%5 then 1 else 0
 have ff:jz f=true:=by rcases hf with rfl | rfl<;>decide
 have fj:jz j=true:=qdb hj.1 (by omega)
 have em:qf3 [.bl (decide (0<n2%5))]=some (.int m):=by
  simp only [m]
  by_cases h:0<n2%5
  ·rw [decide_eq_true h,if_pos h];rfl
  ·rw [decide_eq_false h,if_neg h];rfl
 have hm:m=0\/m=1:=by simp only [m];split<;>simp
 refine ⟨n3,(w,v,some m),some (.int w),some (.int v),⟨w.toNat,v.toNat,m.toNat,?_,by omega,by show w.toNat<=17000000000000000;omega,by omega,by omega⟩,?_⟩
 ·unfold sk
  have e1:((w.toNat:Nat):Int)=w:=by omega
  have e2:((v.toNat:Nat):Int)=v:=by omega
  have e3:((m.toNat:Nat):Int)=m:=by omega
  rw [e1,e2,e3]
 refine (qk (U':=[some (.lst [.int n2]),some (.int M),some (.int f),some (.lst (ks.map kD)),some (.int j),some (.int w),some (.int v)]) ?_).trans ?_
 ·push_cast [yz (m:=9) (by decide) (by decide),yz (m:=12) (by decide) (by decide),z8,qcU,qb0 ff,qb0 fj,w,a,v,n1,n2]
 ·push_cast [yz (m:=5) (by decide) (by decide),qlE,em,jW (show 3<=1000000 by omega),imm,immL,Bool.and_self,lM_,jW (show ks.length+1<=1000000 by omega),List.map_append]
  rfl
theorem qbP (f:Int) (hf:f=1\/f=1000000000000000) (M:Int):∀ (ds:List D) (n:Int) (ks:List Kd) (o4 o5 o6:Option D),(∀ d∈ds,∃ j:Int,d = .int j/\0<=j/\j<8)->(∀ k∈ks,vV k)->ks.length+ds.length<=8 ->
  ∃ (n':Int) (ks':List Kd) (p4 p5 p6:Option D),v6 (qv 4) (qC (qci 5 6 (qa (d2 z4 (d2 jV (dv 2) (d2 z4 (ret (.int 1)) (qr qh 0 (qa (ret (.int 9)) (ret []))))) (d2 jV (dv 4) (d2 qgt (dv 2) (ret (.int 1))))) (qa (qr qh 0 (qa (ret (.int 12)) (ret []))) (ret [])))) (zj (yu 3 (vS (qa (dv 5) (qa (dv 6) (qa (qQ qf3 (qa (d2 gtD (qr qh 0 (qa (ret (.int 5)) (ret []))) (ret (.int 0))) (ret []))) (ret [])))))))) ds [some (.lst [.int n]),some (.int M),some (.int f),some (.lst (ks.map kD)),o4,o5,o6] = .ok (.nx [some (.lst [.int n']),some (.int M),some (.int f),some (.lst (ks'.map kD)),p4,p5,p6])/\(∀ k∈ks',vV k)/\ks'.length<=8
 | [],n,ks,o4,o5,o6,_,h,hl=>⟨n,ks,o4,o5,o6,rfl,h,by simpa using hl⟩
 | d::ds,n,ks,o4,o5,o6,hd,h,hl=>by
  have hl':ks.length+(ds.length+1)<=8:=hl
  obtain ⟨j,rfl,hj⟩:=hd d mS_
  obtain ⟨n1,k,p5,p6,gk,e⟩:=qeX f hf j hj M n ks (by omega) o5 o6
  obtain ⟨n',ks',q4,q5,q6,q,g,l⟩:=qbP f hf M ds n1 (ks++[k]) (some (.int j)) p5 p6 (fun x hx=>hd x (mM _ hx)) (fun x hx=>(mA_.mp hx).elim (h x) fun hx=>by
   rw [ms_] at hx;subst hx;exact gk) (by rw [lA_,List.length_singleton];omega)
  refine ⟨n',ks',q4,q5,q6,?_,g,l⟩
  unfold v6
  simp only [qv,List.set_cons_zero,List.set_cons_succ,e]
  exact q
theorem qh1 (M:Int) (hM:0<=M/\M<=7) (n:Int):∃ (ks:List Kd) (n':Int),zS [.int n] [.int M] = .ok (.tup (ks.map kD),[.int n'])/\(∀ k∈ks,vV k)/\ks.length<=8:=by
 obtain ⟨fd,hfd,ef⟩:=qnp (ds:=[.int 1,.int 1,.int 1000000000000000]) (k:=n%3) (by omega) (by simp;omega)
 have hf:∃ f:Int,fd = .int f/\(f=1\/f=1000000000000000):=by
  simp only [List.mem_cons,nN_,or_false] at hfd
  rcases hfd with rfl | rfl | rfl
  ·exact ⟨_,rfl,.inl rfl⟩
  ·exact ⟨_,rfl,.inl rfl⟩
  ·exact ⟨_,rfl,.inr rfl⟩
 obtain ⟨f,rfl,hf⟩:=hf
 let n1:=n/3
 let n2:=n1/(M+1)
 have hq:=Int.emod_nonneg n1 (show M+1≠0 by omega)
 have hq2:=Int.emod_lt_of_pos n1 (show 0<M+1 by omega)
 obtain ⟨n',ks,p4,p5,p6,q,g,l⟩:=qbP f hf M (qcg 0 (n1%(M+1)).toNat) n2 [] none none none (fun d hd=>by
  unfold qcg at hd
  obtain ⟨i,hi,rfl⟩:=mP_.mp hd
  have:=mR_.mp hi
  exact ⟨_,rfl,by omega,by omega⟩) (fun _ h=>by cases h) (by rw [qi3];simp;omega)
 refine ⟨ks,n',?_,g,l⟩
 unfold zS
 refine qjV (U:=[some (.lst [.int n']),some (.int M),some (.int f),some (.lst (ks.map kD)),p4,p5,p6]) rfl ?_ rfl
 unfold yD
 refine (qk (U':=[some (.lst [.int n1]),some (.int M),some (.int f),none,none,none,none]) ?_).trans ?_
 ·push_cast [yz (m:=3) (by decide) (by decide),qoQ,jW (show 3<=1000000 by omega),ef,n1]
 refine (qk (U':=[some (.lst [.int n1]),some (.int M),some (.int f),some (.lst []),none,none,none]) ?_).trans ?_
 ·push_cast [immL,jW (show 0<=1000000 by omega),Bool.and_self]
 refine (qk (U':=[some (.lst [.int n']),some (.int M),some (.int f),some (.lst (ks.map kD)),p4,p5,p6]) ?_).trans ?_
 ·rw [vj,wU (j:=n1%(M+1)) (U1:=[some (.lst [.int n2]),some (.int M),some (.int f),some (.lst []),none,none,none]) ?_ (by omega) (by omega)]
  ·exact q
  ·push_cast [z8,yz (m:=M+1) (by omega) (by omega),n2]
 ·push_cast []
def nD (n:Nat):D := .int ((n:Nat):Int)
def stD (s:List Nat):D := .tup (s.map nD)
def nw (k:Kd):Nat:=if k.2.2=some 1 then 3 else 1
abbrev Zs:=List (Kd×Nat)
def wt (p:Nat) (z:Zs):Int:=((z.filter fun a=>decide (a.2=p)).map fun a=>a.1.1).sum
def gn (z:Zs):Int:=((z.filter fun a=>decide (0<a.2)).map fun a=>a.1.2.1).sum
theorem qdg (p:Nat) (z:Zs) (k:Kd) (x:Nat):wt p (z++[(k,x)])=wt p z+(if x=p then k.1 else 0):=by
 unfold wt
 rw [List.filter_append,List.map_append,List.sum_append]
 by_cases h:x=p
 ·simp [h]
 ·simp [h]
theorem qlF (z:Zs) (k:Kd) (x:Nat):gn (z++[(k,x)])=gn z+(if 0<x then k.2.1 else 0):=by
 unfold gn
 rw [List.filter_append,List.map_append,List.sum_append]
 by_cases h:0<x
 ·simp [h]
 ·simp [h]
def qeY (k:Kd) (s:List Nat):List (List Nat):=(List.range (nw k)).map fun x=>s++[x]
def qh2 (ks:List Kd):List (List Nat):=ks.foldl (fun ss k=>ss.flatMap (qeY k)) [[]]
theorem qbQ (ks:List Kd) (k:Kd):qh2 (ks++[k])=(qh2 ks).flatMap (qeY k):=by
 unfold qh2
 rw [List.foldl_append]
 rfl
theorem qbb:∀ (n:Nat) (ks:List Kd),ks.length=n->(∀ s∈qh2 ks,s.length=n/\∀ x∈s,x<3)/\(qh2 ks).length<=3 ^ n
 | 0,ks,h=>by
  have:ks=[]:=List.length_eq_zero_iff.mp h
  subst this
  refine ⟨fun s hs => ?_,Nat.le_refl _⟩
  have hs':s∈[([]:List Nat)]:=hs
  rw [ms_] at hs'
  subst hs'
  exact ⟨rfl,fun _ h=>by cases h⟩
 | n + 1,ks,h=>by
  have hne:ks≠[]:=fun e=>by rw [e] at h;simp at h
  obtain ⟨pre,k,rfl⟩:∃ pre k,ks=pre++[k]:=⟨ks.dropLast,ks.getLast hne,(List.dropLast_concat_getLast hne).symm⟩
  have hp:pre.length=n:=by rw [lA_,List.length_singleton] at h;omega
  obtain ⟨ih,il⟩:=qbb n pre hp
  rw [qbQ]
  have hn:nw k<=3:=by unfold nw;split<;>omega
  constructor
  ·intro s hs
   obtain ⟨t,ht,h2⟩:=List.mem_flatMap.mp hs
   obtain ⟨x,hx,rfl⟩:=mP_.mp h2
   have:=mR_.mp hx
   refine ⟨by rw [lA_,(ih t ht).1];rfl,fun y hy => ?_⟩
   rcases mA_.mp hy with hy | hy
   ·exact (ih t ht).2 y hy
   ·rw [ms_] at hy;omega
  ·have key:∀ l:List (List Nat),(l.flatMap (qeY k)).length<=3*l.length:=fun l=>by
    induction l with
    | nil=>exact Nat.le_refl _
    | cons a l ih =>
     rw [fC_,lA_,lC_]
     have:(qeY k a).length=nw k:=by unfold qeY;rw [lM_,lR_]
     omega
   have:=key (qh2 pre)
   rw [Nat.pow_succ]
   omega
theorem qnJ {ks:List Kd} (hl:ks.length<=8):(qh2 ks).length<=6561:=by
 have h1:=(qbb _ ks rfl).2
 have h2:3 ^ ks.length<=3 ^ 8:=Nat.pow_le_pow_right (by omega) hl
 have h3:3 ^ 8=6561:=by decide
 omega
def zz (ks:List Kd) (s:List Nat):Zs:=ks.zip s
theorem qdh {ks:List Kd} {s:List Nat} (h:s.length=ks.length) (k:Kd) (x:Nat):zz (ks++[k]) (s++[x])=zz ks s++[(k,x)]:=by
 unfold zz
 rw [List.zip_append h.symm]
 rfl
section
variable (a b:Int)
def fit (ks:List Kd) (s:List Nat):Bool:=decide (wt 1 (zz ks s)<=a)&&decide (wt 2 (zz ks s)<=b)
def fD (ks:List Kd) (s:List Nat):D := .tup [stD s,.int (a-wt 1 (zz ks s)),.int (b-wt 2 (zz ks s)),.int (gn (zz ks s))]
def ud (ks:List Kd):List (List Nat):=(qh2 ks).filter (fit a b ks)
def next (ks:List Kd) (k:Kd) (s:List Nat):List (List Nat):=(qeY k s).filter (fit a b (ks++[k]))
theorem qlG {ks:List Kd} {k:Kd} (hk:0<=k.1) {s:List Nat} (hs:s.length=ks.length) (h:fit a b ks s=false):next a b ks k s=[]:=by
 unfold next
 rw [List.filter_eq_nil_iff]
 intro t ht
 obtain ⟨x,_,rfl⟩:=mP_.mp ht
 unfold fit at h |-
 rw [qdh hs,qdg,qdg]
 rw [Bool.and_eq_false_iff] at h
 rw [Bool.and_eq_true]
 rintro ⟨h1,h2⟩
 have h1:=of_decide_eq_true h1
 have h2:=of_decide_eq_true h2
 rcases h with h | h
 ·have h:=of_decide_eq_false h
  split at h1<;>omega
 ·have h:=of_decide_eq_false h
  split at h2<;>omega
theorem qh3 (ks:List Kd) {k:Kd} (hk:0<=k.1):ud a b (ks++[k])=(ud a b ks).flatMap (next a b ks k):=by
 unfold ud
 rw [qbQ,List.filter_flatMap]
 have key:∀ l:List (List Nat),(∀ s∈l,s.length=ks.length)->l.flatMap (fun s=>(qeY k s).filter (fit a b (ks++[k])))=(l.filter (fit a b ks)).flatMap (next a b ks k):=fun l=>by
  induction l with
  | nil=>exact fun _=>rfl
  | cons s l ih =>
   intro h
   rw [fC_,ih fun x hx=>h x (mM _ hx),ft_]
   cases hf:fit a b ks s with
   | true=>simp only [if_true,fC_];rfl
   | false =>
    have:=qlG a b hk (h s mS_) hf
    unfold next at this
    simp only [this,List.nil_append,Bool.false_eq_true,if_false]
 exact key _ fun s hs=>((qbb _ ks rfl).1 s hs).1
theorem qeZ (p:Nat) (hp:0<p):∀ (ks:List Kd) (s:List Nat),(∀ x∈s,x=0)->wt p (zz ks s)=0
 | [],_,_=>rfl
 | _::_,[],_=>rfl
 | k::ks,x::s,h=>by
  have h1:=h x mS_
  have h2:=qeZ p hp ks s fun y hy=>h y (mM _ hy)
  unfold wt zz at *
  rw [List.zip_cons_cons,ft_,if_neg (by simp;omega)]
  exact h2
theorem qfP:∀ (n:Nat) (ks:List Kd),ks.length=n->∃ s∈qh2 ks,∀ x∈s,x=0
 | 0,ks,h=>by
  have:ks=[]:=List.length_eq_zero_iff.mp h
  subst this
  exact ⟨[],ms_.mpr rfl,fun _ h=>by cases h⟩
 | n+1,ks,h=>by
  have hne:ks≠[]:=fun e=>by rw [e] at h;simp at h
  obtain ⟨pre,k,rfl⟩:∃ pre k,ks=pre++[k]:=⟨ks.dropLast,ks.getLast hne,(List.dropLast_concat_getLast hne).symm⟩
  have hp:pre.length=n:=by rw [lA_,List.length_singleton] at h;omega
  obtain ⟨s,hs,h0⟩:=qfP n pre hp
  refine ⟨s++[0],?_,fun x hx => ?_⟩
  ·rw [qbQ]
   refine List.mem_flatMap.mpr ⟨s,hs,mP_.mpr ⟨0,mR_.mpr ?_,rfl⟩⟩
   unfold nw;split<;>omega
  ·rcases mA_.mp hx with hx | hx
   ·exact h0 x hx
   ·exact ms_.mp hx
theorem qdi (ks:List Kd) (ha:0<=a) (hb:0<=b):ud a b ks≠[]:=by
 obtain ⟨s,hs,h0⟩:=qfP _ ks rfl
 intro e
 have:s∈ud a b ks:=List.mem_filter.mpr ⟨hs,by
  unfold fit
  rw [qeZ 1 (by omega) ks s h0,qeZ 2 (by omega) ks s h0,decide_eq_true ha,decide_eq_true hb]
  rfl⟩
 rw [e] at this
 cases this
theorem qh4 {ks:List Kd} (hl:ks.length<=8):(ud a b ks).length<=6561:=Nat.le_trans (List.length_filter_le _ _) (qnJ hl)
theorem qjn {ks:List Kd} {s:List Nat} (h:s∈ud a b ks):s.length=ks.length/\∀ x∈s,x<3:=(qbb _ ks rfl).1 s (List.mem_filter.mp h).1
end
theorem vW {k:Kd} (h:vV k):jy [kD k] = .ok (.int ((nw k-1:Nat):Int)):=by
 obtain ⟨w,v,m,rfl,h1,h2,h3,h4⟩:=h
 have hm:m=0\/m=1:=by omega
 rcases hm with rfl | rfl<;>rfl
theorem qe0 (a b:Int) (ks:List Kd) (k:Kd) (s:List Nat) (hs:s.length=ks.length) (hl:ks.length<=8) (x:Nat) (hx:x<3):w6 [kD k,fD a b ks s,.int (x:Nat)] = .ok (fD a b (ks++[k]) (s++[x])):=by
 let K:Option D:=some (kD k)
 let F:Option D:=some (fD a b ks s)
 let X:Option D:=some (.int (x:Nat))
 let A:Option D:=some (.int (if x=1 then k.1 else 0))
 let B:Option D:=some (.int (if x=2 then k.1 else 0))
 let G:Option D:=some (.int (if 0<x then k.2.1 else 0))
 let S:Option D:=some (stD (s++[x]))
 have hx3:x=0\/x=1\/x=2:=by omega
 unfold w6 qc6
 refine uB rfl ⟨[K,F,X,A,B,G,S],?_⟩
 refine (qk (U':=[K,F,X,A,none,none,none]) ?_).trans ?_
 ·rcases hx3 with rfl | rfl | rfl<;>rfl
 refine (qk (U':=[K,F,X,A,B,none,none]) ?_).trans ?_
 ·rcases hx3 with rfl | rfl | rfl<;>rfl
 refine (qk (U':=[K,F,X,A,B,G,none]) ?_).trans ?_
 ·rcases hx3 with rfl | rfl | rfl<;>rfl
 refine (qk (U':=[K,F,X,A,B,G,S]) (w5 (qj (qj rfl rfl (d:=stD s) rfl) (b := .tup [.int (x:Nat)]) rfl ?_))).trans (jA ?_)
 ·show (if qT ((s.map nD).length+1) then some (D.tup (s.map nD++[.int (x:Nat)])) else none)=some (stD (s++[x]))
  rw [jW (by rw [lM_];omega),if_pos rfl]
  unfold stD
  rw [List.map_append]
  rfl
 ·have e1:a-wt 1 (zz ks s)-(if x=1 then k.1 else 0)=a-wt 1 (zz (ks++[k]) (s++[x])):=by rw [qdh hs,qdg];omega
  have e2:b-wt 2 (zz ks s)-(if x=2 then k.1 else 0)=b-wt 2 (zz (ks++[k]) (s++[x])):=by rw [qdh hs,qdg];omega
  have e3:gn (zz ks s)+(if 0<x then k.2.1 else 0)=gn (zz (ks++[k]) (s++[x])):=by rw [qdh hs,qlF]
  show _=R.ok (D.tup [stD (s++[x]),.int (a-wt 1 (zz (ks++[k]) (s++[x]))),.int (b-wt 2 (zz (ks++[k]) (s++[x]))),.int (gn (zz (ks++[k]) (s++[x])))],_)
  rw [<- e1,<- e2,<- e3]
  rfl
theorem ww (a b:Int) (ks:List Kd) (k:Kd) (hk:vV k) (s:List Nat) (hs:s.length=ks.length) (hl:ks.length<=8):zi [kD k,fD a b ks s] = .ok (.lst ((next a b ks k s).map (fD a b (ks++[k])))):=by
 have hn:nw k<=3/\1<=nw k:=by unfold nw;split<;>omega
 let K:Option D:=some (kD k)
 let F:Option D:=some (fD a b ks s)
 let V:Option D:=some (.lst ((qeY k s).map (fD a b (ks++[k]))))
 unfold zi yx
 refine uB rfl ⟨[K,F,V],?_⟩
 refine (qk (U':=[K,F,V]) (w5 (d := .lst ((qeY k s).map (fD a b (ks++[k])))) (U1:=[K,F,none]) ?_)).trans (jA ?_)
 ·have e0:d2 z4 (qe jy (qa (dv 0) (ret []))) (ret (.int 1)) [K,F,none] = .ok (.int ((nw k:Nat):Int),[K,F,none]):=qj (jn rfl (vW hk)) rfl (by rw [z8];congr 2;omega)
  have er:vR (qa (d2 z4 (qe jy (qa (dv 0) (ret []))) (ret (.int 1))) (ret [])) [K,F,none] = .ok ((List.range (nw k)).map nD,[K,F,none]):=by
   rw [wU (qcV e0) (by omega) (by omega),Int.toNat_natCast,qpq]
   rfl
  have c:=wX (r:=[K,F]) (k:=nD) (e:=qe w6 (qa (dv 1) (qa (dv 2) (qa (dv 0) (ret []))))) (xs:=vR (qa (d2 z4 (qe jy (qa (dv 0) (ret []))) (ret (.int 1))) (ret []))) (U:=[K,F,none]) (fr:=[0,1]) (List.range (nw k)) (fun x=>fD a b (ks++[k]) (s++[x])) er rfl (by rw [lR_];omega) (fun x hx=>yY rfl rfl rfl (qe0 a b ks k s hs hl x (by have:=mR_.mp hx;omega)))
  unfold qeY
  rw [mm_]
  exact c
 ·have c:=qcq (r:=[]) (k:=fD a b (ks++[k])) (e:=dv 0) (t:=qjB (tst (d2 geD (d2 ixD (dv 0) (ret (.int 1))) (ret (.int 0)))) (tst (d2 geD (d2 ixD (dv 0) (ret (.int 2))) (ret (.int 0))))) (xs:=uG (dv 2)) (U:=[K,F,V]) (fr:=[]) (qeY k s) (fit a b (ks++[k])) (fD a b (ks++[k])) rfl rfl (by unfold qeY;rw [lM_,lR_];omega) (fun t ht=>by
   have g1:d2 geD (d2 ixD (dv 0) (ret (.int 1))) (ret (.int 0)) [some (fD a b (ks++[k]) t)] = .ok (.bl (decide ((0:Int)<=a-wt 1 (zz (ks++[k]) t))),[some (fD a b (ks++[k]) t)]):=rfl
   have g2:d2 geD (d2 ixD (dv 0) (ret (.int 2))) (ret (.int 0)) [some (fD a b (ks++[k]) t)] = .ok (.bl (decide ((0:Int)<=b-wt 2 (zz (ks++[k]) t))),[some (fD a b (ks++[k]) t)]):=rfl
   have d1:decide ((0:Int)<=a-wt 1 (zz (ks++[k]) t))=decide (wt 1 (zz (ks++[k]) t)<=a):=by rw [decide_eq_decide];omega
   have d2:decide ((0:Int)<=b-wt 2 (zz (ks++[k]) t))=decide (wt 2 (zz (ks++[k]) t)<=b):=by rw [decide_eq_decide];omega
   rw [qfq,zc g1,d1]
   unfold fit
   cases decide (wt 1 (zz (ks++[k]) t)<=a) with
   | true=>rw [Bool.true_and,<- d2];exact zc g2
   | false=>rfl) (fun t _ _=>rfl)
  exact c
theorem qlH (s:List Nat):imm (stD s)=true:=wY fun _ _=>rfl
theorem qnK (a b:Int) (ks:List Kd) (s:List Nat):imm (fD a b ks s)=true:=by
 show immL [stD s,_,_,_]=true
 unfold immL
 rw [qlH]
 rfl
theorem qcu {α β:Type} (f:α->List β):∀ (l:List α) (acc:List β),l.foldl (fun acc a=>acc++f a) acc=acc++l.flatMap f
 | [],acc=>by simp
 | a::l,acc=>by rw [fo_,qcu f l,fC_,aA_]
theorem qcv {α:Type}:∀ (l acc:List α),l.foldl (fun s a=>s++[a]) acc=acc++l
 | [],acc=>by simp
 | a::l,acc=>by rw [fo_,qcv l,aA_];rfl
theorem yc (a b:Nat) (ks:List Kd) (hk:∀ k∈ks,vV k) (hl:ks.length<=8):zt [.tup (ks.map kD),.int (a:Nat),.int (b:Nat)] = .ok (.lst ((ud a b ks).map (fD a b ks))):=by
 let T:Option D:=some (.tup (ks.map kD))
 let A:Option D:=some (.int (a:Nat))
 let B:Option D:=some (.int (b:Nat))
 obtain ⟨U',q,o4,o5,o6,rfl,_⟩:=yX (G:=qv 4) (b:=(qC (wO 5 (qiJ (ret []))) (qC (qfl (uG (dv 3)) (qv 6) (zj (yV 5 (qe zi (qa (dv 4) (qa (dv 6) (ret []))))))) (qgd 3 5)))) (k:=kD) (step:=fun (s:List Kd) (x:Kd)=>s++[x])
  (Inv:=fun n s U=>∃ o4 o5 o6,U=[T,A,B,some (.lst ((ud a b s).map (fD a b s))),o4,o5,o6]/\s.length=n) ks 0 [] [T,A,B,some (.lst ((ud a b []).map (fD a b []))),none,none,none] ⟨none,none,none,rfl,rfl⟩ (fun k hx n s U hn1 hn2=>by
  rintro ⟨o4,o5,o6,rfl,hs⟩
  have hn8:n<8:=by omega
  have gk:=hk k hx
  have hk0:0<=k.1:=by
   obtain ⟨w,v,m,rfl,h1,h2,h3,h4⟩:=gk
   show (0:Int)<=(w:Int)
   omega
  let F:Option D:=some (.lst ((ud a b s).map (fD a b s)))
  obtain ⟨U2,q2,o6',rfl,_⟩:=yX (G:=qv 6) (b:=(zj (yV 5 (qe zi (qa (dv 4) (qa (dv 6) (ret []))))))) (k:=fD a b s) (step:=fun (acc:List (List Nat)) (t:List Nat)=>acc++next a b s k t)
   (Inv:=fun m acc U=>∃ o6,U=[T,A,B,F,some (kD k),some (.lst (acc.map (fD a b (s++[k])))),o6]/\acc.length<=3*m) (ud a b s) 0 [] [T,A,B,F,some (kD k),some (.lst []),o6] ⟨o6,rfl,Nat.le_refl _⟩ (fun t ht m acc U hm1 hm2=>by
   rintro ⟨o6,rfl,hacc⟩
   have hb:=qh4 (a:Int) (b:Int) (ks:=s) (by omega)
   have hnx:(next a b s k t).length<=3:=by
    unfold next
    refine Nat.le_trans (List.length_filter_le _ _) ?_
    unfold qeY
    rw [lM_,lR_]
    unfold nw
    split<;>omega
   refine ⟨[T,A,B,F,some (kD k),some (.lst (acc.map (fD a b (s++[k])))),some (fD a b s t)],[T,A,B,F,some (kD k),some (.lst ((acc++next a b s k t).map (fD a b (s++[k])))),some (fD a b s t)],rfl,?_,some (fD a b s t),rfl,by rw [lA_];omega⟩
   have e:=ww a b s k gk t (qjn (a:Int) (b:Int) ht).1 (by omega)
   have e2:=z9 (f:=dv 4) (g:=dv 6) (U:=[T,A,B,F,some (kD k),some (.lst (acc.map (fD a b (s++[k])))),some (fD a b s t)]) rfl rfl e
   have gl:zB 5 [T,A,B,F,some (kD k),some (.lst (acc.map (fD a b (s++[k])))),some (fD a b s t)]=some (acc.map (fD a b (s++[k]))):=rfl
   have im:immL ((next a b s k t).map (fD a b (s++[k])))=true:=wY fun _ _=>qnK _ _ _ _
   rw [uu,qd9]
   simp only [gl,e2,im,Bool.true_and]
   rw [jW (by rw [lM_,lM_];omega),if_pos rfl,<- List.map_append]
   rfl)
  rw [qcu,List.nil_append,<- qh3 (a:Int) (b:Int) s hk0] at q2
  refine ⟨[T,A,B,F,some (kD k),o5,o6],[T,A,B,some (.lst ((ud a b (s++[k])).map (fD a b (s++[k])))),some (kD k),none,o6'],rfl,?_,some (kD k),none,o6',rfl,by rw [lA_,hs];rfl⟩
  refine (qk (U':=[T,A,B,F,some (kD k),some (.lst []),o6]) ?_).trans ?_
  ·push_cast [immL,jW (show 0<=1000000 by omega),Bool.and_self]
  refine (qk (U':=[T,A,B,F,some (kD k),some (.lst ((ud a b (s++[k])).map (fD a b (s++[k])))),o6']) ?_).trans ?_
  ·rw [vj]
   exact q2
  ·rfl)
 rw [qcv,List.nil_append] at q
 unfold zt uw
 let U:Env:=[T,A,B,none,none,none,none]
 refine uB rfl ⟨[T,A,B,some (.lst ((ud a b ks).map (fD a b ks))),o4,o5,o6],?_⟩
 have g0:dv 0 U = .ok (.tup (ks.map kD),U):=rfl
 refine (qk (U':=U) (uY (jn g0 (zg _ (uM (fun k h=>(hk k h).ok) (by omega)))))).trans ?_
 refine (qk (U':=U) (uY (jn rfl (jg a)))).trans ?_
 refine (qk (U':=U) (uY (jn rfl (jg b)))).trans ?_
 refine (qk (U':=U) (uY (jn g0 (jU hk hl)))).trans ?_
 refine (qk (U':=[T,A,B,some (.lst ((ud a b []).map (fD a b []))),none,none,none]) ?_).trans ?_
 ·have e0:(ud (a:Int) (b:Int) []).map (fD a b [])=[.tup [.tup [],.int a,.int b,.int 0]]:=by
   have f1:fit (a:Int) (b:Int) [] []=true:=by
    show (decide ((0:Int)<=(a:Int))&&decide ((0:Int)<=(b:Int)))=true
    rw [decide_eq_true (by omega),decide_eq_true (by omega)];rfl
   have f2:ud (a:Int) (b:Int) []=[[]]:=by
    show List.filter _ [[]]=_
    rw [ft_,if_pos f1];rfl
   rw [f2]
   show [D.tup [.tup [],.int ((a:Int)-0),.int ((b:Int)-0),.int 0]]=_
   rw [Int.sub_zero,Int.sub_zero]
  rw [e0]
  push_cast [jW (show 0<=1000000 by omega),jW (show 1<=1000000 by omega),jW (show 4<=1000000 by omega),U,A,B,T]
 refine (qk (U':=[T,A,B,some (.lst ((ud a b ks).map (fD a b ks))),o4,o5,o6]) ?_).trans rfl
 rw [vj]
 exact q
abbrev gns (ks:List Kd) (l:List (List Nat)):List Int:=l.map fun s=>gn (zz ks s)
theorem qh5 {ks:List Kd} {l:List (List Nat)} (h:l≠[]):qbZ [.lst (l.map fun s=>D.int (gn (zz ks s)))]=some (.int (qac (gns ks l))):=by
 cases l with
 | nil=>exact absurd rfl h
 | cons s l =>
  have:=wW (gns ks (s::l))
  rw [mm_] at this
  unfold qbZ
  simp only [Function.comp_def,gns,mC_] at this |-
  simp only [this]
theorem uA (a b:Nat) (ks:List Kd) (hk:∀ k∈ks,vV k) (hl:ks.length<=8):qN [.tup (ks.map kD),.int (a:Nat),.int (b:Nat)] = .ok (.int (qac (gns ks (ud a b ks)))):=by
 have hb:=qh4 (a:Int) (b:Int) hl
 let U:Env:=[some (.tup (ks.map kD)),some (.int (a:Nat)),some (.int (b:Nat))]
 unfold qN wf
 refine uB rfl ⟨U,jA ?_⟩
 have c:=wX (r:=[]) (k:=fD a b ks) (e:=d2 ixD (dv 0) (ret (.int 3))) (xs:=uG (qe zt (qa (dv 0) (qa (dv 1) (qa (dv 2) (ret [])))))) (U:=U) (fr:=[]) (ud a b ks) (fun s=>D.int (gn (zz ks s))) (by
  rw [qd4,yY (f:=dv 0) (g:=dv 1) (h:=dv 2) (U:=U) rfl rfl rfl (yc a b ks hk hl)]
  rfl) rfl (by omega) (fun s _=>rfl)
 exact jq c (qh5 (qdi (a:Int) (b:Int) ks (by omega) (by omega)))
def first (ks:List Kd) (l:List (List Nat)):Nat:=l.findIdx fun s=>decide (gn (zz ks s)=qac (gns ks l))
theorem qjo {ks:List Kd} {l:List (List Nat)} (h:l≠[]):first ks l<l.length:=by
 unfold first
 rw [List.findIdx_lt_length]
 have hm:qac (gns ks l)∈gns ks l:=by
  cases l with
  | nil=>exact absurd rfl h
  | cons s l=>exact qa4 _ _
 obtain ⟨s,hs,e⟩:=mP_.mp hm
 exact ⟨s,hs,decide_eq_true e⟩
theorem qgo {ks:List Kd} {l:List (List Nat)} (h:l≠[]):∃ s r,l[first ks l]? = some s/\s∈l/\l.filter (fun s=>decide (gn (zz ks s)=qac (gns ks l)))=s::r:=by
 have hl:=qjo (ks:=ks) h
 have key:∀ (p:List Nat->Bool) (l:List (List Nat)),l.findIdx p<l.length->∃ s r,l[l.findIdx p]? = some s/\s∈l/\l.filter p=s::r:=fun p l=>by
  induction l with
  | nil=>intro h;simp at h
  | cons x l ih =>
   intro h
   rw [List.findIdx_cons] at h |-
   rw [ft_]
   cases hp:p x with
   | true=>exact ⟨x,l.filter p,rfl,mS_,by simp⟩
   | false =>
    rw [hp] at h
    simp only [cond_false,lC_,Nat.add_lt_add_iff_right] at h
    obtain ⟨s,r,e1,e2,e3⟩:=ih h
    exact ⟨s,r,by simpa using e1,mM _ e2,by simpa using e3⟩
 exact key _ l hl
theorem qdj (a b:Nat) (ks:List Kd) (hk:∀ k∈ks,vV k) (hl:ks.length<=8) {s:List Nat} {r:List (List Nat)} (hs:(ud a b ks).filter (fun s=>decide (gn (zz ks s)=qac (gns ks (ud a b ks))))=s::r):yb [.tup (ks.map kD),.int (a:Nat),.int (b:Nat)] = .ok (stD s):=by
 have hb:=qh4 (a:Int) (b:Int) hl
 have hne:=qdi (a:Int) (b:Int) ks (by omega) (by omega)
 let T:Option D:=some (.tup (ks.map kD))
 let A:Option D:=some (.int (a:Nat))
 let B:Option D:=some (.int (b:Nat))
 let F:Option D:=some (.lst ((ud a b ks).map (fD a b ks)))
 let M:Option D:=some (.int (qac (gns ks (ud a b ks))))
 unfold yb qaA
 refine uB rfl ⟨[T,A,B,F,M],?_⟩
 refine (qk (U':=[T,A,B,F,none]) (w5 (yY rfl rfl rfl (yc a b ks hk hl)))).trans ?_
 have c:=wX (r:=[]) (k:=fD a b ks) (e:=d2 ixD (dv 0) (ret (.int 3))) (xs:=uG (dv 3)) (U:=[T,A,B,F,none]) (fr:=[]) (ud a b ks) (fun s=>D.int (gn (zz ks s))) rfl rfl (by omega) (fun s _=>rfl)
 refine (qk (U':=[T,A,B,F,M]) (w5 (jq c (qh5 hne)))).trans (jA ?_)
 have c2:=qcq (r:=[M]) (k:=fD a b ks) (e:=d2 ixD (dv 0) (ret (.int 0))) (t:=tst (d2 eqB (d2 ixD (dv 0) (ret (.int 3))) (dv 1))) (xs:=uG (dv 3)) (U:=[T,A,B,F,M]) (fr:=[4]) (ud a b ks) (fun s=>decide (gn (zz ks s)=qac (gns ks (ud a b ks)))) stD rfl rfl (by omega) (fun s _=>zc (qj (qj rfl rfl (d := .int (gn (zz ks s))) rfl) rfl (v8 _ _))) (fun s _ _=>rfl)
 rw [hs] at c2
 refine qj c2 rfl ?_
 show atI (stD s::_) ((0:Nat):Int)=_
 exact qj4 rfl
theorem vz (a b:Nat) (ks:List Kd) (hk:∀ k∈ks,vV k) (hl:ks.length<=8):qV [.tup (ks.map kD),.int (a:Nat),.int (b:Nat)] = .ok (.int ((ud a b ks).length:Nat)):=by
 unfold qV vw
 refine uB rfl ⟨[some (.tup (ks.map kD)),some (.int (a:Nat)),some (.int (b:Nat))],jA (jq (yY rfl rfl rfl (yc a b ks hk hl)) ?_)⟩
 show some (D.int (((ud a b ks).map (fD a b ks)).length:Nat))=_
 rw [lM_]
theorem qfQ:∀ (ks:List Kd) (s:List Nat),qai (ks.map kD) (s.map nD)=(zz ks s).map fun z => .tup [kD z.1,nD z.2]
 | [],_=>rfl
 | _::_,[]=>rfl
 | k::ks,n::s=>by
  show D.tup [kD k,nD n]::qai (ks.map kD) (s.map nD)=_
  rw [qfQ ks s];rfl
theorem qnL {U:Env} {i j:Nat} {t:M Bool} (p:Nat->Bool) (c:D) (f:Kd->Int) (ks:List Kd) (hl:ks.length<=8) (s:List Nat) (e1:dv i U = .ok (.tup (ks.map kD),U)) (e2:dv j U = .ok (stD s,U)) (ht:∀ (k:Kd) (n:Nat),t [some (kD k),some (nD n)] = .ok (p n,[some (kD k),some (nD n)])) (hf:∀ k,ixD (kD k) c=some (.int (f k))) :
  qQ qgu (qa (z5 2 [] none (qf8 (qa (dv i) (qa (dv j) (ret [])))) (qbm 2 (zo (qv 0) (zo (qv 1) qbl))) t (d2 ixD (dv 0) (ret c))) (ret [])) U = .ok (.int (((zz ks s).filter fun z=>p z.2).map fun z=>f z.1).sum,U):=by
 have c1:=qcX (e:=d2 ixD (dv 0) (ret c)) (t:=t) (xs:=qf8 (qa (dv i) (qa (dv j) (ret [])))) (fr:=[]) (U:=U) (r:=[]) (u:=fun z:Kd×Nat=>kD z.1) (v:=fun z=>nD z.2) (zz ks s) (fun z=>p z.2) (fun z=>D.int (f z.1)) (by
  rw [qbA,qbF e1 e2]
  unfold stD
  simp only [qiO,qfQ]) rfl (by unfold zz;rw [List.length_zip];omega) (fun z _=>ht z.1 z.2) (fun z _ _=>qj rfl rfl (hf z.1))
 exact jq c1 qa6
theorem qoR (n p:Nat):eqB (nD n) (.int (p:Nat))=some (.bl (decide (n=p))):=by
 show some (D.bl (decide ((n:Int)=(p:Int))))=_
 congr 2
 rw [decide_eq_decide]
 omega
theorem gt0 (n:Nat):gtD (.int (n:Nat)) (.int 0)=some (.bl (decide (0<n))):=by
 rw [yW]
 congr 2
 rw [decide_eq_decide]
 omega
theorem qlI:∀ (b a:Nat) (o:Option D),∃ n o',uJ (tst (d2 gtD (dv 1) (ret (.int 0)))) (qC (z7 2 (d2 qbp (dv 0) (dv 1))) (qC (z7 0 (dv 1)) (z7 1 (dv 2)))) n [some (.int (a:Nat)),some (.int (b:Nat)),o] = .ok (.nx [some (.int (Nat.gcd a b:Nat)),some (.int 0),o']):=by
 intro b
 induction b using Nat.strongRecOn with
 | _ b ih =>
  intro a o
  by_cases h:0<b
  ·obtain ⟨n,o',q⟩:=ih (a%b) (Nat.mod_lt _ h) b (some (.int ((a%b:Nat):Int)))
   refine ⟨n+1,o',?_⟩
   unfold uJ
   have t:tst (d2 gtD (dv 1) (ret (.int 0))) [some (.int (a:Nat)),some (.int (b:Nat)),o] = .ok (true,[some (.int (a:Nat)),some (.int (b:Nat)),o]):=zc (qj rfl rfl (by rw [gt0,decide_eq_true h]))
   have s:(qC (z7 2 (d2 qbp (dv 0) (dv 1))) (qC (z7 0 (dv 1)) (z7 1 (dv 2)))) [some (.int (a:Nat)),some (.int (b:Nat)),o] = .ok (.nx [some (.int (b:Nat)),some (.int ((a%b:Nat):Int)),some (.int ((a%b:Nat):Int))]):=by
    refine (qk (U':=[some (.int (a:Nat)),some (.int (b:Nat)),some (.int ((a%b:Nat):Int))]) ?_).trans rfl
    rw [vi,qj rfl rfl (qfF a h)]
    rfl
   simp only [t,s]
   have e:Nat.gcd a b=Nat.gcd b (a%b):=by
    rw [Nat.gcd_comm a b,Nat.gcd_rec b a,Nat.gcd_comm]
   rw [e]
   exact q
  ·have e:b=0:=by omega
   subst e
   refine ⟨1,o,?_⟩
   unfold uJ
   have t:tst (d2 gtD (dv 1) (ret (.int 0))) [some (.int (a:Nat)),some (.int ((0:Nat):Int)),o] = .ok (false,[some (.int (a:Nat)),some (.int ((0:Nat):Int)),o]):=zc (qj rfl rfl (by rw [gt0];rfl))
   simp only [t]
   rw [Nat.gcd_zero_right]
   rfl
theorem yt (a b:Nat):qZ [.int (a:Nat),.int (b:Nat)] = .ok (.int (Nat.gcd a b:Nat)):=by
 unfold qZ jQ
 obtain ⟨n,o',q⟩:=qlI b a none
 refine uB rfl ⟨[some (.int (Nat.gcd a b:Nat)),some (.int 0),o'],?_⟩
 exact (qk (qd6 q (by intro z;cases z))).trans rfl
theorem qlJ:∀ (b a:Nat),∃ n,uJ (tst (d2 gtD (dv 1) (ret (.int 0)))) (qci 0 1 (qa (dv 1) (qa (d2 qbp (dv 0) (dv 1)) (ret [])))) n [some (.int (a:Nat)),some (.int (b:Nat))] = .ok (.nx [some (.int (Nat.gcd a b:Nat)),some (.int 0)]):=by
 intro b
 induction b using Nat.strongRecOn with
 | _ b ih =>
  intro a
  by_cases h:0<b
  ·obtain ⟨n,q⟩:=ih (a%b) (Nat.mod_lt _ h) b
   refine ⟨n+1,?_⟩
   unfold uJ
   have t:tst (d2 gtD (dv 1) (ret (.int 0))) [some (.int (a:Nat)),some (.int (b:Nat))] = .ok (true,[some (.int (a:Nat)),some (.int (b:Nat))]):=zc (qj rfl rfl (by rw [gt0,decide_eq_true h]))
   have s:(qci 0 1 (qa (dv 1) (qa (d2 qbp (dv 0) (dv 1)) (ret [])))) [some (.int (a:Nat)),some (.int (b:Nat))] = .ok (.nx [some (.int (b:Nat)),some (.int ((a%b:Nat):Int))]):=by
    rw [qd3,qbF rfl (qj rfl rfl (qfF a h))]
    rfl
   simp only [t,s]
   have e:Nat.gcd a b=Nat.gcd b (a%b):=by
    rw [Nat.gcd_comm a b,Nat.gcd_rec b a,Nat.gcd_comm]
   rw [e]
   exact q
  ·have e:b=0:=by omega
   subst e
   refine ⟨1,?_⟩
   unfold uJ
   have t:tst (d2 gtD (dv 1) (ret (.int 0))) [some (.int (a:Nat)),some (.int ((0:Nat):Int))] = .ok (false,[some (.int (a:Nat)),some (.int ((0:Nat):Int))]):=zc (qj rfl rfl (by rw [gt0];rfl))
   simp only [t]
   rw [Nat.gcd_zero_right]
   rfl
theorem qps (a:Nat):qmE [.int (a:Nat)]=some (.int (a:Nat)):=by
 show some (D.int (if (a:Int)<0 then -(a:Int) else (a:Int)))=_
 rw [if_neg (by omega)]
theorem qaB (a b:Nat):ye [.int (a:Nat),.int (b:Nat)] = .ok (.int (Nat.gcd a b:Nat)):=by
 unfold ye uy
 obtain ⟨n,q⟩:=qlJ b a
 refine uB rfl ⟨[some (.int (Nat.gcd a b:Nat)),some (.int 0)],?_⟩
 refine (qk (U':=[some (.int (a:Nat)),some (.int (b:Nat))]) ?_).trans ?_
 ·show qci 0 1 _ [some (.int (a:Nat)),some (.int (b:Nat))]=_
  rw [qd3,qbF (jq rfl (qps a)) (jq rfl (qps b))]
  rfl
 exact (qk (qd6 q (by intro z;cases z))).trans rfl
def big:Nat:=1606938044258990275541962092341162602522202993782792835301376
theorem uR (T:Nat) {B:Nat} (hB:0<B) (hb:B<big):jr [.int (T:Nat),.int (B:Nat)] = .ok (qeg T B):=by
 have hg:0<Nat.gcd T B:=Nat.gcd_pos_of_pos_right _ hB
 have hg2:Nat.gcd T B<big:=Nat.lt_of_le_of_lt (Nat.gcd_le_right _ hB) hb
 unfold jr ux
 refine uB rfl ⟨[some (.int (T:Nat)),some (.int (B:Nat)),some (.int (Nat.gcd T B:Nat))],?_⟩
 refine (qk (U':=[some (.int (T:Nat)),some (.int (B:Nat)),some (.int (Nat.gcd T B:Nat))]) ?_).trans ?_
 ·show z7 2 _ [some (.int (T:Nat)),some (.int (B:Nat)),none]=_
  rw [vi,z9 rfl rfl (yt T B)]
  rfl
 ·rw [uI,qlt (qj rfl rfl (wZ T hg hg2)) (qj rfl rfl (wZ B hg hg2))]
  rfl
theorem qaa (T:Nat) {B:Nat} (hB:0<B) (hb:B<big):zG [.int (T:Nat),.int (B:Nat)] = .ok (qeg T B):=by
 have hg:0<Nat.gcd T B:=Nat.gcd_pos_of_pos_right _ hB
 have hg2:Nat.gcd T B<big:=Nat.lt_of_le_of_lt (Nat.gcd_le_right _ hB) hb
 unfold zG qay
 refine uB rfl ⟨[some (.int (T:Nat)),some (.int (B:Nat)),some (.int (Nat.gcd T B:Nat))],?_⟩
 refine (qk (U':=[some (.int (T:Nat)),some (.int (B:Nat)),some (.int (Nat.gcd T B:Nat))]) ?_).trans ?_
 ·show z7 2 _ [some (.int (T:Nat)),some (.int (B:Nat)),none]=_
  rw [vi,z9 rfl rfl (qaB T B)]
  rfl
 ·rw [uI,qlt (qj rfl rfl (wZ T hg hg2)) (qj rfl rfl (wZ B hg hg2))]
  rfl
def Mx:Nat:=18000000000000000000
theorem qcw {t b u c:Nat} (h1:c<=Mx) (h2:u<=Mx\/b<=Mx) (hb:0<b) (hc:0<c) (hl:b*c<big):qav [frD t b,frD u c] = .ok (qeg (t*c+u*b) (b*c)):=by
 unfold qav qeU
 let U:Env:=[some (frD t b),some (frD u c)]
 refine uB rfl ⟨U,?_⟩
 show zn _ U=_
 have e2:jV (.int (u:Nat)) (.int (b:Nat))=some (.int ((u*b:Nat):Int)):=h2.elim (fun h=>qhL b h) (fun h=>qfG u h)
 rw [uI,z9 (qj (qj (qj rfl rfl (qcY t b)) (qj rfl rfl (qaU u c)) (qfG t h1)) (qj (qj rfl rfl (qcY u c)) (qj rfl rfl (qaU t b)) e2) (qpY _ _)) (qj (qj rfl rfl (qaU t b)) (qj rfl rfl (qaU u c)) (qfG b h1)) (uR _ (Nat.mul_pos hb hc) hl)]
def W:Nat:=17000000000000000
structure qeo (t b:Nat):Prop where
 t1:t<=11
 b0:0<b
 b1:b<=W
 g:Nat.gcd t b=1
def over (t b:Nat) (x:Kd):Nat:=if x.2.2=some 1 then (x.2.1*b-x.1*t).toNat else 0
theorem qlK {t b:Nat} {x:Kd} (h:vV x) (hb:b<=W):over t b x<=11*W:=by
 obtain ⟨w,v,m,rfl,h1,h2,h3,h4⟩:=h
 unfold over
 split
 ·show ((v:Int)*b-(w:Int)*t).toNat<=11*W
  have a1:(v:Int)*b<=11*W:=Int.mul_le_mul (by omega) (by omega) (by omega) (by omega)
  have a2:(0:Int)<=(w:Int)*t:=Int.mul_nonneg (by omega) (by omega)
  omega
 ·omega
theorem qdk {ks:List Kd} (hk:∀ x∈ks,vV x) (hl:ks.length<=8) {t b:Nat} (P:qeo t b):vO [.tup (ks.map kD),.int 0,frD t b] = .ok (qeg (ks.map (over t b)).sum b):=by
 unfold vO qaw
 let K:Option D:=some (.tup (ks.map kD))
 let Pr:Option D:=some (frD t b)
 have tM:t<=18000000000000000000:=by have:=P.t1;omega
 have hW:W=17000000000000000:=rfl
 obtain ⟨U',q,o4,o5,rfl⟩:=yX (G:=qv 4) (b:=(qC (z7 5 (d2 qgt (d2 jV (d2 ixD (dv 4) (ret (.int 1))) (d2 ixD (dv 2) (ret (.int 1)))) (d2 jV (d2 ixD (dv 4) (ret (.int 0))) (d2 ixD (dv 2) (ret (.int 0)))))) (qC (sif (qjB (tst (d2 gtD (dv 5) (ret (.int 0)))) (tst (d2 isN (d2 ixD (dv 4) (ret (.int 2))) (ret .non)))) (zn (ret .non)) yj) (sif (tst (d2 gtD (dv 5) (ret (.int 0)))) (z7 3 (d2 z4 (dv 3) (d2 jV (dv 5) (d2 ixD (dv 4) (ret (.int 2)))))) yj)))) (k:=kD) (step:=fun (s:Nat) (x:Kd)=>s+over t b x) (Inv:=fun n s U=>∃ o4 o5,U=[K,some (.int 0),Pr,some (.int (s:Nat)),o4,o5]) ks 0 0 [K,some (.int 0),Pr,some (.int 0),none,none] ⟨none,none,rfl⟩ (fun x hx n s U _ _=>by
  rintro ⟨o4,o5,rfl⟩
  obtain ⟨w,v,m,rfl,h1,h2,h3,h4⟩:=hk x hx
  let mo:Int:=(v:Int)*b-(w:Int)*t
  let U1:Env:=[K,some (.int 0),Pr,some (.int (s:Nat)),some (kD (sk w v m)),o5]
  let U2:Env:=[K,some (.int 0),Pr,some (.int (s:Nat)),some (kD (sk w v m)),some (.int mo)]
  have e1:(z7 5 (d2 qgt (d2 jV (d2 ixD (dv 4) (ret (.int 1))) (d2 ixD (dv 2) (ret (.int 1)))) (d2 jV (d2 ixD (dv 4) (ret (.int 0))) (d2 ixD (dv 2) (ret (.int 0)))))) U1 = .ok (.nx U2):=by
   have m1:(d2 qgt (d2 jV (d2 ixD (dv 4) (ret (.int 1))) (d2 ixD (dv 2) (ret (.int 1)))) (d2 jV (d2 ixD (dv 4) (ret (.int 0))) (d2 ixD (dv 2) (ret (.int 0))))) U1 = .ok (.int mo,U1):=qj (qj (qj rfl rfl (qnr _)) (qj rfl rfl (qaU t b)) (qb0 (qhK (n:=v) (by omega)))) (qj (qj rfl rfl (qlu _)) (qj rfl rfl (qcY t b)) (qgj (qhK (n:=t) tM))) (qcU _ _)
   rw [vi,m1]
   rfl
  have gt:d2 gtD (dv 5) (ret (.int 0)) U2 = .ok (.bl (decide (0<mo)),U2):=qj rfl rfl (yW _ _)
  have nn:d2 isN (d2 ixD (dv 4) (ret (.int 2))) (ret .non) U2 = .ok (.bl false,U2):=qj (qj rfl rfl (qlv _)) rfl rfl
  have e2:(sif (qjB (tst (d2 gtD (dv 5) (ret (.int 0)))) (tst (d2 isN (d2 ixD (dv 4) (ret (.int 2))) (ret .non)))) (zn (ret .non)) yj) U2 = .ok (.nx U2):=by
   simp only [qcN,qfq,qd2,gt,nn,yk,qck]
   cases decide (0<mo)<;>rfl
  let s':Nat:=s+over t b (sk w v m)
  refine ⟨U1,[K,some (.int 0),Pr,some (.int (s':Nat)),some (kD (sk w v m)),some (.int mo)],rfl,?_,_,_,rfl⟩
  refine (qk e1).trans ((qk e2).trans ?_)
  by_cases hp:0<mo
  ·rw [decide_eq_true hp] at gt
   rw [qoJ (zc gt)]
   have hm:m=0\/m=1:=by omega
   have ev:(s:Int)+mo*(m:Int)=((s':Nat):Int):=by
    simp only [s',over,sk]
    rcases hm with rfl | rfl
    ·simp
    ·simp only [mo] at hp |-
     simp
     omega
   have m2:d2 z4 (dv 3) (d2 jV (dv 5) (d2 ixD (dv 4) (ret (.int 2)))) U2 = .ok (.int ((s:Int)+mo*(m:Int)),U2):=qj rfl (qj rfl (qj rfl rfl (qlv _)) (qgj (qhK (n:=m) (by omega)))) (z8 _ _)
   rw [vi,m2,ev]
   rfl
  ·rw [decide_eq_false hp] at gt
   rw [qgk (zc gt)]
   have ev:s'=s:=by
    have:over t b (sk w v m)=0:=by
     unfold over sk
     by_cases hm:some (m:Int)=some (1:Int)
     ·rw [if_pos hm]
      show ((v:Int)*b-(w:Int)*t).toNat=0
      simp only [mo] at hp
      omega
     ·rw [if_neg hm]
    simp only [s',this,Nat.add_zero]
   rw [ev]
   rfl)
 have ef:∀ (l:List Kd) (s:Nat),l.foldl (fun (s:Nat) (x:Kd)=>s+over t b x) s=s+(l.map (over t b)).sum:=fun l=>by
  induction l with
  | nil=>intro s;simp
  | cons x l ih=>intro s;rw [fo_,ih,mC_,List.sum_cons];omega
 rw [ef,Nat.zero_add] at q
 let X:=(ks.map (over t b)).sum
 refine uB rfl ⟨[K,some (.int 0),Pr,some (.int (X:Nat)),o4,o5],?_⟩
 refine (qk (U':=[K,some (.int 0),Pr,some (.int 0),none,none]) ?_).trans ?_
 ·show z7 3 _ [K,some (.int 0),Pr,none,none,none]=_
  rw [vi,qj rfl (qj rfl rfl (qcY t b)) (qb0 (i:=0) (by decide)),Int.zero_mul]
  rfl
 refine (qk (U':=[K,some (.int 0),Pr,some (.int (X:Nat)),o4,o5]) ?_).trans ?_
 ·rw [vj]
  exact q
 ·rw [uI,z9 rfl (qj rfl rfl (qaU t b)) (uR X P.b0 (Nat.lt_of_le_of_lt P.b1 (by decide)))]
theorem vA {t b:Nat} (P:qeo t b):ul [frD t b] = .ok .non:=by
 let U:Env:=[some (frD t b)]
 have e0:uP [frD t b] = .ok (.bl true):=by
  unfold uP qax
  refine uB rfl ⟨U,?_⟩
  show qC _ _ U=_
  refine (qk (U':=U) rfl).trans ?_
  have c1:qe qY (qa (d2 ixD (dv 0) (ret (.int 0))) (ret [])) U = .ok (.bl true,U):=jn (qj rfl rfl (qcY t b)) (by rw [zl,qh0])
  have c2:qe qY (qa (d2 ixD (dv 0) (ret (.int 1))) (ret [])) U = .ok (.bl true,U):=jn (qj rfl rfl (qaU t b)) (by rw [zl,qh0])
  have c3:d2 eqB (d2 ixD (dv 0) (ret (.int 1))) (ret (.int 0)) U = .ok (.bl false,U):=qj (qj rfl rfl (qaU t b)) rfl (by rw [v8,decide_eq_false (by have:=P.b0;omega)])
  refine (qk (U':=U) ?_).trans ?_
  ·simp only [qcN,qga,qbz,qd2,c1,c2,c3,yk,cond_false,Bool.not_true,qck]
  ·have c4:d2 eqB (qe qZ (qa (d2 ixD (dv 0) (ret (.int 0))) (qa (d2 ixD (dv 0) (ret (.int 1))) (ret [])))) (ret (.int 1)) U = .ok (.bl true,U):=qj (z9 (qj rfl rfl (qcY t b)) (qj rfl rfl (qaU t b)) (yt t b)) rfl (by rw [P.g,v8,decide_eq_true (by omega)])
   rw [uI,c4]
 have e:yp U = .ok (.nx U):=by
  unfold yp
  have c:qe uP (qa (dv 0) (ret [])) U = .ok (.bl true,U):=jn rfl e0
  simp only [qcN,qbz,qd2,c,yk,cond_false,Bool.not_true,qck]
 show (match yp U with | .ok (.rt d _)=>R.ok d | .ok (.nx _) => .ok .non | _ => .bad)=_
 rw [e]
theorem leN (a b:Nat):leD (.int (a:Nat)) (.int (b:Nat))=some (.bl (decide (a<=b))):=by
 rw [vm]
 congr 2
 rw [decide_eq_decide]
 omega
theorem qe1 {t b u c:Nat} (P:qeo t b) (Q:qeo u c):qba [frD t b,frD u c] = .ok (frD (pk (le2 t b u c) t u) (pk (le2 t b u c) b c)):=by
 unfold qba qc7
 let U:Env:=[some (frD t b),some (frD u c)]
 refine uB rfl ⟨U,?_⟩
 show zn _ U=_
 have c1:d2 leD (d2 jV (d2 ixD (dv 0) (ret (.int 0))) (d2 ixD (dv 1) (ret (.int 1)))) (d2 jV (d2 ixD (dv 1) (ret (.int 0))) (d2 ixD (dv 0) (ret (.int 1)))) U = .ok (.bl (le2 t b u c),U):=qj (qj (qj rfl rfl (qcY t b)) (qj rfl rfl (qaU u c)) (qhL c (by have:=P.t1;omega))) (qj (qj rfl rfl (qcY u c)) (qj rfl rfl (qaU t b)) (qhL b (by have:=Q.t1;omega))) (leN _ _)
 have c2:=zc c1
 generalize le2 t b u c=q at c2 |-
 rw [uI,qk5,c2]
 cases q with
 | true=>rfl
 | false=>rfl
def RT (one other t b u c:Nat):Nat:=one*t*c+other*u*b
def qoS (one other t b u c X:Nat):D:=qeg (RT one other t b u c+X*pk (le2 t b u c) c b) (b*c)
theorem qj8 (q:Bool) (b c:Nat):pk q b c*pk q c b=b*c:=by
 cases q
 ·exact Nat.mul_comm _ _
 ·rfl
theorem qjp {R X x b m C:Nat} (hb:0<b) (hC:0<C) (h:b*m=C):qeg ((R+X*m)*b+x*C) (C*b)=qeg (R+(X+x)*m) C:=by
 refine qhJ (Nat.mul_pos hC hb) hC ?_
 subst h
 grind
theorem qb4 {ks:List Kd} (hk:∀ x∈ks,vV x) (hl:ks.length<=8) {one other t b u c:Nat} (P:qeo t b) (Q:qeo u c) :
  je [.tup (ks.map kD),.int (one:Nat),.int (other:Nat),frD t b,frD u c] = .ok (qoS one other t b u c (ks.map (over (pk (le2 t b u c) t u) (pk (le2 t b u c) b c))).sum):=by
 unfold je wn
 have hW:W=17000000000000000:=rfl
 have hM:Mx=18000000000000000000:=rfl
 have hB:big=1606938044258990275541962092341162602522202993782792835301376:=rfl
 have bc:b*c<=W*W:=Nat.mul_le_mul P.b1 Q.b1
 have bcp:0<b*c:=Nat.mul_pos P.b0 Q.b0
 have hWW:W*W<big:=by decide
 let K:Option D:=some (.tup (ks.map kD))
 let e1:Option D:=some (.int (one:Nat))
 let e2:Option D:=some (.int (other:Nat))
 let U:Env:=[K,e1,e2,some (frD t b),some (frD u c),none]
 let Rt:=RT one other t b u c
 let U2:Env:=[K,e1,e2,some (frD t b),some (frD u c),some (qeg Rt (b*c))]
 let q:=le2 t b u c
 let X:=(ks.map (over (pk q t u) (pk q b c))).sum
 refine uB rfl ⟨U2,?_⟩
 show qC _ _ U=_
 have st:zd [.tup (ks.map kD)] = .ok .non:=zg _ (uM (fun k h=>(hk k h).ok) (by omega))
 have call:∀ {F:List D->R D} {f:M D} {a:D},f U = .ok (a,U)->F [a] = .ok .non->zj (qe F (qa f (ret []))) U = .ok (.nx U):=fun h1 h2=>by rw [uu,jn h1 h2]
 refine (qk (call rfl st)).trans ?_
 refine (qk (call rfl (jg one))).trans ?_
 refine (qk (call rfl (jg other))).trans ?_
 refine (qk (call rfl (vA P))).trans ?_
 refine (qk (call rfl (vA Q))).trans ?_
 refine (qk (call rfl (jU hk hl))).trans ?_
 have tp:∀ {n t b:Nat},t<=11->jR [.int (n:Nat),frD t b] = .ok (frD (n*t) b):=fun {n t b} ht=>by
  unfold jR u0
  refine uB rfl ⟨[some (.int (n:Nat)),some (frD t b)],?_⟩
  show zn _ [some (.int (n:Nat)),some (frD t b)]=_
  rw [uI,qlt (qj rfl (qj rfl rfl (qcY t b)) (qfG n (by omega))) (qj rfl rfl (qaU t b))]
  rfl
 refine (qk (U':=U2) ?_).trans ?_
 ·rw [vi,z9 (z9 rfl rfl (tp P.t1)) (z9 rfl rfl (tp Q.t1)) (qcw (by have:=Q.b1;omega) (.inr (by have:=P.b1;omega)) P.b0 Q.b0 (by omega))]
  rfl
 ·have PQ:qeo (pk q t u) (pk q b c):=by cases q<;>assumption
  have hX:X<=8*(11*W):=by
   have:∀ l:List Kd,(∀ x∈l,vV x)->(l.map (over (pk q t u) (pk q b c))).sum<=l.length*(11*W):=fun l=>by
    induction l with
    | nil=>intro _;exact Nat.zero_le _
    | cons x l ih =>
     intro h
     have a:=qlK (t:=pk q t u) (h x mS_) PQ.b1
     have b':=ih fun y hy=>h y (mM _ hy)
     rw [mC_,List.sum_cons,lC_,Nat.succ_mul]
     omega
   exact Nat.le_trans (this ks hk) (Nat.mul_le_mul_right _ hl)
  obtain ⟨_,_,_,_,p3,p4,_⟩:=vJ Rt bcp
  obtain ⟨_,_,_,_,x3,x4,x5⟩:=vJ X PQ.b0
  have hpb:=PQ.b1
  have e:qav [qeg Rt (b*c),qeg X (pk q b c)] = .ok (qoS one other t b u c X):=by
   have:=qcw (t:=qaT Rt (b*c)) (b:=wB Rt (b*c)) (u:=qaT X (pk q b c)) (c:=wB X (pk q b c)) (by omega) (.inl (by omega)) p3 x3 (by
    have a:=Nat.mul_le_mul (Nat.le_trans p4 bc) (Nat.le_trans x4 hpb)
    have:W*W*W<big:=by decide
    omega)
   have st:=qjp (R:=Rt) (X:=0) (x:=X) (b:=pk q b c) (m:=pk q c b) (C:=b*c) PQ.b0 bcp (qj8 q b c)
   rw [Nat.zero_mul,Nat.add_zero,Nat.zero_add] at st
   have e4:qeg (Rt*pk q b c+X*(b*c)) (b*c*pk q b c)=qoS one other t b u c X:=st
   unfold qeg
   rw [this,qi7 Rt X bcp PQ.b0,e4]
  rw [uI,z9 rfl (qnq rfl rfl (z9 rfl rfl (qe1 P Q)) (qdk hk hl PQ)) e]
def uj:List Kd->List (List Nat)
 | []=>[[]]
 | k::ks=>(List.range (nw k)).flatMap fun x=>(uj ks).map fun s=>x::s
theorem qcx:∀ (ks:List Kd) (F:List (List Nat)),ks.foldl (fun ss k=>ss.flatMap (qeY k)) F=F.flatMap fun p=>(uj ks).map fun l=>p++l
 | [],F=>by simp [uj]
 | k::ks,F=>by
  rw [fo_,qcx ks,List.flatMap_assoc]
  congr 1
  funext p
  simp only [uj,qeY]
  rw [List.flatMap_map,List.map_flatMap]
  congr 1
  funext t
  rw [mm_]
  congr 1
  funext l
  simp
theorem qep (ks:List Kd):qh2 ks=uj ks:=by
 unfold qh2
 rw [qcx]
 simp
theorem ue (p:Nat) (k:Kd) (x:Nat) (ks:List Kd) (s:List Nat):wt p (zz (k::ks) (x::s))=(if x=p then k.1 else 0)+wt p (zz ks s):=by
 unfold wt zz
 rw [List.zip_cons_cons,ft_]
 by_cases h:x=p<;>simp [h]
theorem qaC (k:Kd) (x:Nat) (ks:List Kd) (s:List Nat):gn (zz (k::ks) (x::s))=(if 0<x then k.2.1 else 0)+gn (zz ks s):=by
 unfold gn zz
 rw [List.zip_cons_cons,ft_]
 by_cases h:0<x<;>simp [h]
theorem qoT {k:Kd} {x:Nat} (h:x<nw k):x<3/\(0<x->k.2.2=some 1):=by
 unfold nw at h
 split at h
 ·rename_i e;exact ⟨h,fun _=>e⟩
 ·exact ⟨by omega,fun _=>by omega⟩
def jM (k:Kd):Kw:=⟨k.1,k.2.1,k.2.2⟩
theorem qj9 (ks:List Kd):(ks.map jM).map kw=ks.map kD:=by rw [mm_];rfl
theorem vV.sg {k:Kd} (h:vV k):sgK (jM k):=by
 obtain ⟨w,v,m,rfl,h1,h2,h3,h4⟩:=h
 refine ⟨by show (1:Int)<=(w:Int);omega,by show (0:Int)<=(v:Int);omega,?_⟩
 have:m=0\/m=1:=by omega
 rcases this with e | e<;>subst e
 ·exact .inl rfl
 ·exact .inr rfl
theorem qbR {ks:List Kd} (h:∀ k∈ks,vV k):∀ k∈ks.map jM,sgK k:=fun k hk=>by
 obtain ⟨x,hx,rfl⟩:=mP_.mp hk
 exact (h x hx).sg
theorem qp2 {k:Kd} (h:k.2.2=some 1):tm (jM k)=1:=by
 unfold tm jM
 rw [h]
 rfl
def ldS (s:List Nat):List Int:=s.map fun x=>if 0<x then 1 else 0
theorem qh6:∀ {ks:List Kd} {s:List Nat},s∈uj ks->ldS s∈zN (ks.map jM)/\qI (ks.map jM) (ldS s)=wt 1 (zz ks s)+wt 2 (zz ks s)/\qP (ks.map jM) (ldS s)=gn (zz ks s)
 | [],s,h=>by rw [ms_.mp h];exact ⟨ms_.mpr rfl,rfl,rfl⟩
 | k::ks,s,h=>by
  obtain ⟨x,hx,h2⟩:=List.mem_flatMap.mp h
  obtain ⟨s',hs',rfl⟩:=mP_.mp h2
  obtain ⟨i1,i2,i3⟩:=qh6 hs'
  obtain ⟨x3,x1⟩:=qoT (mR_.mp hx)
  rw [ue,ue,qaC,mC_]
  refine ⟨List.mem_flatMap.mpr ⟨if 0<x then 1 else 0,mR_.mpr ?_,mP_.mpr ⟨ldS s',i1,?_⟩⟩,?_,?_⟩
  ·split
   ·rename_i hx0;rw [qp2 (x1 hx0)];decide
   ·exact Nat.succ_pos _
  ·show _=(if 0<x then (1:Int) else 0)::ldS s'
   by_cases c:0<x<;>simp [c]
  ·show (if 0<x then (1:Int) else 0)*k.1+qI (ks.map jM) (ldS s')=_
   rw [i2]
   have:x=0\/x=1\/x=2:=by omega
   rcases this with e | e | e<;>subst e<;>simp<;>omega
  ·show (if 0<x then (1:Int) else 0)*k.2.1+qP (ks.map jM) (ldS s')=_
   rw [i3]
   by_cases c:0<x<;>simp [c]
def stL (p:Nat) (l:List Int):List Nat:=l.map fun t=>if t=1 then p else 0
theorem qfR {p:Nat} (hp:p=1\/p=2):∀ {ks:List Kd} {l:List Int},(∀ k∈ks,vV k)->l∈zN (ks.map jM)->stL p l∈uj ks/\wt p (zz ks (stL p l))=qI (ks.map jM) l/\wt (3-p) (zz ks (stL p l))=0/\gn (zz ks (stL p l))=qP (ks.map jM) l
 | [],l,_,h=>by rw [ms_.mp h];exact ⟨ms_.mpr rfl,rfl,rfl,rfl⟩
 | k :: ks,l,hk,h=>by
  rw [mC_] at h
  obtain ⟨t,ht,h2⟩:=List.mem_flatMap.mp h
  obtain ⟨l',hl',rfl⟩:=mP_.mp h2
  obtain ⟨i1,i2,i3,i4⟩:=qfR hp (fun x hx=>hk x (mM _ hx)) hl'
  have gk:=(hk k mS_).sg
  have ht':=mR_.mp ht
  have h1:=qgm gk
  have e:stL p ((t:Int)::l')=(if t=1 then p else 0)::stL p l':=by
   show (if (t:Int)=1 then p else 0)::stL p l'=_
   congr 1
   by_cases c:t=1
   ·rw [if_pos c,if_pos (by omega)]
   ·rw [if_neg c,if_neg (by omega)]
  rw [e,ue,ue,qaC,i2,i3,i4,mC_]
  refine ⟨List.mem_flatMap.mpr ⟨if t=1 then p else 0,mR_.mpr ?_,mP_.mpr ⟨_,i1,rfl⟩⟩,?_,?_,?_⟩
  ·by_cases c:t=1
   ·rw [if_pos c]
    have hm:k.2.2=some 1:=by
     have hm:=qn1 gk
     have:tm (jM k)=1:=by omega
     rw [this] at hm
     exact hm
    unfold nw
    rw [if_pos hm]
    omega
   ·rw [if_neg c]
    unfold nw
    split<;>omega
  ·show _=(t:Int)*k.1+qI (ks.map jM) l'
   have:t=0\/t=1:=by omega
   rcases this with q | q<;>subst q<;>rcases hp with z | z<;>subst z<;>simp
  ·have:t=0\/t=1:=by omega
   rcases this with q | q<;>subst q<;>rcases hp with z | z<;>subst z<;>simp
  ·show _=(t:Int)*k.2.1+qP (ks.map jM) l'
   have:t=0\/t=1:=by omega
   rcases this with q | q<;>subst q<;>rcases hp with z | z<;>subst z<;>simp
def qaW (ks:List Kd) (a b:Int):Int:=qac (gns ks (ud a b ks))
theorem yE {ks:List Kd} {a b:Int} {s:List Nat}:s∈ud a b ks ↔ s∈uj ks/\wt 1 (zz ks s)<=a/\wt 2 (zz ks s)<=b:=by
 unfold ud fit
 rw [List.mem_filter,qep,Bool.and_eq_true,decide_eq_true_eq,decide_eq_true_eq]
theorem qbc {ks:List Kd} {a b:Int} {s:List Nat} (h:s∈ud a b ks):gn (zz ks s)<=qaW ks a b:=qhR (mP_.mpr ⟨s,h,rfl⟩)
theorem qab {ks:List Kd} {a b:Int} (ha:0<=a) (hb:0<=b):∃ s∈ud a b ks,gn (zz ks s)=qaW ks a b:=by
 have hne:=qdi a b ks ha hb
 obtain ⟨s,hs,e⟩:=mP_.mp (qeS (l:=gns ks (ud a b ks)) fun e=>hne (List.map_eq_nil_iff.mp e))
 exact ⟨s,hs,e⟩
section
variable {ks:List Kd} (hk:∀ k∈ks,vV k)
include hk
theorem qh7 (r:Int) (hr:0<=r):∃ l∈zN (ks.map jM),qI (ks.map jM) l<=r/\qP (ks.map jM) l=zr (ks.map jM) r:=by
 obtain ⟨wA,e⟩:=qam (ks.map jM) r
 have hm:qja (ks.map jM) r∈(vn (ks.map jM) r).filter fun l=>decide (qP (ks.map jM) l=zr (ks.map jM) r):=by rw [e];exact mS_
 obtain ⟨h1,h2⟩:=List.mem_filter.mp hm
 rw [uN (qbR hk) hr,List.mem_filter] at h1
 exact ⟨_,h1.1,of_decide_eq_true h1.2,of_decide_eq_true h2⟩
theorem qnM {r:Int} (hr:0<=r) {l:List Int} (hl:l∈zN (ks.map jM)) (hw:qI (ks.map jM) l<=r):qP (ks.map jM) l<=zr (ks.map jM) r:=qa7 _ _ _ (by
 rw [uN (qbR hk) hr,List.mem_filter]
 exact ⟨hl,decide_eq_true hw⟩)
theorem qlL {a b:Int} (ha:0<=a) (hb:0<=b):zr (ks.map jM) a<=qaW ks a b/\zr (ks.map jM) b<=qaW ks a b/\qaW ks a b<=zr (ks.map jM) (a+b):=by
 refine ⟨?_,?_,?_⟩
 ·obtain ⟨l,hl,h1,h2⟩:=qh7 hk a ha
  obtain ⟨g1,g2,g3,g4⟩:=qfR (.inl rfl) hk hl
  have g3':wt 2 (zz ks (stL 1 l))=0:=g3
  have:=qbc (yE.mpr ⟨g1,by omega,by omega⟩:stL 1 l∈ud a b ks)
  omega
 ·obtain ⟨l,hl,h1,h2⟩:=qh7 hk b hb
  obtain ⟨g1,g2,g3,g4⟩:=qfR (.inr rfl) hk hl
  have g3':wt 1 (zz ks (stL 2 l))=0:=g3
  have:=qbc (yE.mpr ⟨g1,by omega,by omega⟩:stL 2 l∈ud a b ks)
  omega
 ·obtain ⟨s,hs,e⟩:=qab (ks:=ks) ha hb
  obtain ⟨h1,h2,h3⟩:=yE.mp hs
  obtain ⟨g1,g2,g3⟩:=qh6 h1
  have:=qnM hk (show 0<=a+b by omega) g1 (by omega)
  omega
end
def sx (x:Nat):Nat:=if x=1 then 2 else if x=2 then 1 else x
def swS (s:List Nat):List Nat:=s.map sx
theorem qh8:∀ {ks:List Kd} {s:List Nat},s∈uj ks->wt 1 (zz ks (swS s))=wt 2 (zz ks s)/\wt 2 (zz ks (swS s))=wt 1 (zz ks s)/\gn (zz ks (swS s))=gn (zz ks s)
 | [],s,h=>by rw [ms_.mp h];exact ⟨rfl,rfl,rfl⟩
 | k::ks,s,h=>by
  obtain ⟨x,hx,h2⟩:=List.mem_flatMap.mp h
  obtain ⟨s',hs',rfl⟩:=mP_.mp h2
  obtain ⟨i1,i2,i3⟩:=qh8 hs'
  have x3:=(qoT (mR_.mp hx)).1
  have e:swS (x::s')=sx x::swS s':=rfl
  rw [e,ue,ue,ue,ue,qaC,qaC,i1,i2,i3]
  have:x=0\/x=1\/x=2:=by omega
  rcases this with q | q | q<;>subst q<;>simp [sx]
theorem qdl:∀ ks:List Kd,((uj ks).map swS).Perm (uj ks)
 | []=>by simp [uj,swS]
 | k::ks=>by
  have ih:=qdl ks
  have e:∀ x,((uj ks).map fun s=>x::s).map swS=((uj ks).map swS).map fun s=>sx x::s:=fun x=>by
   rw [mm_,mm_]
   rfl
  simp only [uj]
  unfold nw
  split
  ·have r3:List.range 3=[0,1,2]:=rfl
   rw [r3]
   simp only [fC_,List.flatMap_nil,List.append_nil,List.map_append,e]
   refine ((ih.map _).append ?_)
   have p1:=ih.map fun s=>sx 1::s
   have p2:=ih.map fun s=>sx 2::s
   exact (p1.append p2).trans List.perm_append_comm
  ·have r1:List.range 1=[0]:=rfl
   rw [r1]
   simp only [fC_,List.flatMap_nil,List.append_nil,e]
   exact ih.map _
theorem qnN {ks:List Kd} {s:List Nat} (h:s∈uj ks) (a b:Int):fit b a ks s=fit a b ks (swS s):=by
 obtain ⟨h1,h2,_⟩:=qh8 h
 unfold fit
 rw [h1,h2,Bool.and_comm]
theorem qlM (ks:List Kd) (a b:Int):(ud b a ks).length=(ud a b ks).length:=by
 unfold ud
 rw [qep,<- List.countP_eq_length_filter,<- List.countP_eq_length_filter]
 have e:(uj ks).countP (fit b a ks)=(uj ks).countP (fit a b ks∘swS):=List.countP_congr fun s hs=>by rw [qnN hs];exact Iff.rfl
 rw [e,<- List.countP_map]
 exact (qdl ks).countP_eq _
theorem qlN {ks:List Kd} {a b:Int} (ha:0<=a) (hb:0<=b):qaW ks b a=qaW ks a b:=by
 have one:∀ a b:Int,0<=a->0<=b->qaW ks b a<=qaW ks a b:=fun a b ha hb=>by
  obtain ⟨s,hs,e⟩:=qab (ks:=ks) hb ha
  obtain ⟨h1,h2,h3⟩:=yE.mp hs
  obtain ⟨g1,g2,g3⟩:=qh8 h1
  have hm:swS s∈uj ks:=(qdl ks).mem_iff.mp (mP_.mpr ⟨s,h1,rfl⟩)
  have:=qbc (yE.mpr ⟨hm,by omega,by omega⟩:swS s∈ud a b ks)
  omega
 have h1:=one a b ha hb
 have h2:=one b a hb ha
 omega
theorem qfS {t b:Nat}:∀ {ks:List Kd} {s:List Nat},(∀ k∈ks,vV k)->s∈uj ks->gn (zz ks s)*(b:Int)<=((ks.map (over t b)).sum:Nat)+(wt 1 (zz ks s)+wt 2 (zz ks s))*(t:Int)
 | [],s,_,h=>by rw [ms_.mp h];simp [zz,gn,wt]
 | k::ks,s,hk,h=>by
  obtain ⟨x,hx,h2⟩:=List.mem_flatMap.mp h
  obtain ⟨s',hs',rfl⟩:=mP_.mp h2
  have ih:=qfS (t:=t) (b:=b) (fun y hy=>hk y (mM _ hy)) hs'
  obtain ⟨x3,x1⟩:=qoT (mR_.mp hx)
  rw [ue,ue,qaC,mC_,List.sum_cons]
  have ho:x≠0->k.2.1*(b:Int)<=(over t b k:Nat)+k.1*(t:Int):=fun hx0=>by
   unfold over
   rw [if_pos (x1 (by omega))]
   omega
  generalize (ks.map (over t b)).sum=O at *
  generalize gn (zz ks s')=g at *
  generalize wt 1 (zz ks s')=w1 at *
  generalize wt 2 (zz ks s')=w2 at *
  have:x=0\/x=1\/x=2:=by omega
  rcases this with q | q | q
  ·subst q
   simp only [Nat.lt_irrefl,if_false,Int.zero_add,show ¬ ((0:Nat)=1) by decide,show ¬ ((0:Nat)=2) by decide]
   rw [Int.natCast_add]
   omega
  ·subst q
   have ho':=ho (by decide)
   simp only [show (0:Nat)<1 by decide,if_true,if_false,Int.zero_add,show ¬ ((1:Nat)=2) by decide]
   rw [Int.add_mul,Int.natCast_add,Int.add_assoc k.1,Int.add_mul k.1]
   omega
  ·subst q
   have ho':=ho (by decide)
   simp only [show (0:Nat)<2 by decide,if_true,if_false,Int.zero_add,show ¬ ((2:Nat)=1) by decide]
   rw [Int.add_mul,Int.natCast_add,show w1+(k.1+w2)=k.1+(w1+w2) by omega,Int.add_mul k.1]
   omega
theorem qoU {t b u c:Nat}:pk (le2 t b u c) t u*pk (le2 t b u c) c b<=t*c/\pk (le2 t b u c) t u*pk (le2 t b u c) c b<=u*b:=by
 unfold le2
 by_cases h:t*c<=u*b
 ·rw [decide_eq_true h]
  exact ⟨Nat.le_refl _,h⟩
 ·rw [decide_eq_false h]
  show u*b<=t*c/\u*b<=u*b
  exact ⟨by omega,Nat.le_refl _⟩
theorem qlO {p:Nat}:∀ {ks:List Kd} {s:List Nat},(∀ k∈ks,vV k)->0<=wt p (zz ks s)
 | [],_,_=>by simp [zz,wt]
 | _::_,[],_=>by simp [zz,wt]
 | k::ks,x::s,hk=>by
  have ih:=qlO (p:=p) (ks:=ks) (s:=s) fun y hy=>hk y (mM _ hy)
  obtain ⟨w,v,m,rfl,h1,_⟩:=hk k mS_
  rw [ue]
  have:(0:Int)<=(sk w v m).1:=by show (0:Int)<=(w:Int);omega
  split<;>omega
theorem qh9 {ks:List Kd} (hk:∀ k∈ks,vV k) {one other t b u c:Nat} (hb:0<b) (hc:0<c):qaW ks (one:Nat) (other:Nat)*((b*c:Nat):Int)<=((RT one other t b u c+(ks.map (over (pk (le2 t b u c) t u) (pk (le2 t b u c) b c))).sum*pk (le2 t b u c) c b:Nat):Int):=by
 obtain ⟨s,hs,e⟩:=qab (ks:=ks) (a:=((one:Nat):Int)) (b:=((other:Nat):Int)) (by omega) (by omega)
 obtain ⟨h1,h2,h3⟩:=yE.mp hs
 rw [<- e]
 have ov:=qfS (t:=pk (le2 t b u c) t u) (b:=pk (le2 t b u c) b c) hk h1
 obtain ⟨l1,l2⟩:=qoU (t:=t) (b:=b) (u:=u) (c:=c)
 have pm:=qj8 (le2 t b u c) b c
 have n1:=qlO (p:=1) (s:=s) hk
 have n2:=qlO (p:=2) (s:=s) hk
 generalize pk (le2 t b u c) t u=T at *
 generalize hO:(ks.map (over T (pk (le2 t b u c) b c))).sum=O at *
 generalize pk (le2 t b u c) b c=B at *
 generalize pk (le2 t b u c) c b=C at *
 generalize gn (zz ks s)=g at *
 generalize wt 1 (zz ks s)=w1 at *
 generalize wt 2 (zz ks s)=w2 at *
 obtain ⟨W1,rfl⟩:=Int.eq_ofNat_of_zero_le n1
 obtain ⟨W2,rfl⟩:=Int.eq_ofNat_of_zero_le n2
 have ov':g*(B:Int)<=((O+(W1+W2)*T:Nat):Int):=by
  rw [Int.natCast_add,Int.natCast_mul,Int.natCast_add]
  exact ov
 have m1:g*(B:Int)*(C:Int)<=((O+(W1+W2)*T:Nat):Int)*(C:Int):=Int.mul_le_mul_of_nonneg_right ov' (by omega)
 have e1:g*((b*c:Nat):Int)=g*(B:Int)*(C:Int):=by rw [<- pm,Int.natCast_mul,Int.mul_assoc]
 rw [e1]
 refine Int.le_trans m1 ?_
 rw [<- Int.natCast_mul]
 have q1:W1*(T*C)<=one*(t*c):=Nat.mul_le_mul (by omega) l1
 have q2:W2*(T*C)<=other*(u*b):=Nat.mul_le_mul (by omega) l2
 have q3:(O+(W1+W2)*T)*C=O*C+(W1*(T*C)+W2*(T*C)):=by
  rw [Nat.add_mul,Nat.mul_assoc,Nat.add_mul]
 have q4:RT one other t b u c=one*(t*c)+other*(u*b):=by unfold RT;rw [Nat.mul_assoc,Nat.mul_assoc]
 rw [q3,q4]
 omega
def uq (ks:List Kd):Int:=((ks.filter fun k=>decide (k.2.2=some 1)).map fun k=>k.1).sum
def wx (ks:List Kd):List Int:=ks.map fun k=>if k.2.2=some 1 then 1 else 0
theorem qdm:∀ {ks:List Kd},(∀ k∈ks,vV k)->wx ks∈zN (ks.map jM)/\qI (ks.map jM) (wx ks)=uq ks/\∀ l∈zN (ks.map jM),qP (ks.map jM) l<=qP (ks.map jM) (wx ks)
 | [],_=>⟨ms_.mpr rfl,rfl,fun l hl=>by rw [ms_.mp hl];exact Int.le_refl _⟩
 | k :: ks,hk=>by
  obtain ⟨i1,i2,i3⟩:=qdm fun x hx=>hk x (mM _ hx)
  have gk:=(hk k mS_).sg
  have h1:=qgm gk
  have hm:=qn1 gk
  have hm':k.2.2=some ((tm (jM k):Nat):Int):=hm
  have v0:0<=k.2.1:=gk.2.1
  have e:wx (k::ks)=((tm (jM k):Nat):Int)::wx ks:=by
   show (if k.2.2=some 1 then (1:Int) else 0)::wx ks=_
   congr 1
   have:tm (jM k)=0\/tm (jM k)=1:=by omega
   rcases this with q | q
   ·rw [hm',q];rfl
   ·rw [hm',q];rfl
  rw [e,mC_]
  refine ⟨List.mem_flatMap.mpr ⟨tm (jM k),mR_.mpr (Nat.lt_succ_self _),mP_.mpr ⟨_,i1,rfl⟩⟩,?_,fun l hl => ?_⟩
  ·show ((tm (jM k):Nat):Int)*k.1+qI (ks.map jM) (wx ks)=_
   rw [i2]
   unfold uq
   rw [ft_]
   have:tm (jM k)=0\/tm (jM k)=1:=by omega
   rcases this with q | q
   ·rw [q] at hm' |-
    rw [hm']
    simp
   ·rw [q] at hm' |-
    rw [hm']
    simp
  ·obtain ⟨t,ht,h2⟩:=List.mem_flatMap.mp hl
   obtain ⟨l',hl',rfl⟩:=mP_.mp h2
   have:=i3 l' hl'
   have ht':=mR_.mp ht
   have mm:(t:Int)*k.2.1<=((tm (jM k):Nat):Int)*k.2.1:=Int.mul_le_mul_of_nonneg_right (by omega) v0
   show (t:Int)*k.2.1+qP (ks.map jM) l'<=((tm (jM k):Nat):Int)*k.2.1+qP (ks.map jM) (wx ks)
   omega
theorem qcy {ks:List Kd} (hk:∀ k∈ks,vV k) {x:Int} (hx:0<=x):0<=uq ks/\qaW ks (uq ks) x=qP (ks.map jM) (wx ks):=by
 obtain ⟨m1,m2,m3⟩:=qdm hk
 have w0:=(qeQ (qbR hk) m1).1
 rw [m2] at w0
 refine ⟨w0,?_⟩
 obtain ⟨g1,g2,g3,g4⟩:=qfR (.inl rfl) hk m1
 have g3':wt 2 (zz ks (stL 1 (wx ks)))=0:=g3
 have ge:=qbc (yE.mpr ⟨g1,by omega,by omega⟩:stL 1 (wx ks)∈ud (uq ks) x ks)
 obtain ⟨s,hs,e⟩:=qab (ks:=ks) w0 hx
 obtain ⟨h1,_⟩:=yE.mp hs
 obtain ⟨k1,_,k3⟩:=qh6 h1
 have:=m3 _ k1
 omega
theorem ntn {t:M Bool} {U:Env} {b:Bool} (h:t U = .ok (b,U)):qaE t U = .ok (!b,U):=by rw [qbz,h]
theorem qnO (i:Int):neB (.int i) (.int i)=some (.bl false):=by
 rw [qal,decide_eq_true rfl]
 rfl
theorem qcz:∀ {ks:List Kw} {l:List Int},(∀ k∈ks,sgK k)->l∈zN ks->uX (ks.map kw) (l.map D.int)=true
 | [],l,_,h=>by rw [ms_.mp h];rfl
 | k::ks,l,hk,h=>by
  obtain ⟨t,ht,h2⟩:=List.mem_flatMap.mp h
  obtain ⟨l',hl',rfl⟩:=mP_.mp h2
  have gk:=hk k mS_
  have h3:=mR_.mp ht
  have e:qgi (kw k) (.int (t:Nat))=true:=by
   have em:=qn1 gk
   obtain ⟨w,v,m⟩:=k
   have em':m=some ((tm ⟨w,v,m⟩:Nat):Int):=em
   show (jp (.int (t:Nat))&&(uF (mD m)||leI (.int (t:Nat)) (mD m)))=true
   rw [em']
   show (decide ((0:Int)<=(t:Nat))&&(false||decide ((t:Int)<=((tm ⟨w,v,m⟩:Nat):Int))))=true
   rw [decide_eq_true (by omega),decide_eq_true (by omega)]
   rfl
  rw [mC_,mC_,uX,e,qcz (fun x hx=>hk x (mM _ hx)) hl']
  rfl
section
variable {ks:List Kw} (h:∀ k∈ks,sgK k) (hl:ks.length<=10) {l:List Int} (hb:l∈zN ks)
include h hl hb
theorem qeq:wj [.tup (ks.map kw),ldD l] = .ok .non:=by
 have hs:=qde h (show ks.length<=12 by omega)
 have il:qfD (ldD l) (.tup (ks.map kw))=true:=by
  show (decide ((l.map D.int).length=(ks.map kw).length)&&uX (ks.map kw) (l.map D.int))=true
  rw [lM_,lM_,decide_eq_true (qa8 hb),qcz h hb]
  rfl
 let U:Env:=[some (.tup (ks.map kw)),some (ldD l)]
 have e:y8 U = .ok (.nx U):=by
  unfold y8
  have c:=z9 (U:=U) (f:=dv 1) (g:=dv 0) rfl rfl (qek (ldD l) (.tup (ks.map kw)) hs)
  rw [il] at c
  exact qgk (ntn (b:=true) (zc c))
 show (match y8 U with | .ok (.rt d _)=>R.ok d | .ok (.nx _) => .ok .non | _ => .bad)=_
 rw [e]
theorem qjq:wm [.tup (ks.map kw),ldD l] = .ok (.int (qP ks l)):=by
 let U:Env:=[some (.tup (ks.map kw)),some (ldD l)]
 unfold wm qeT
 refine uB rfl ⟨U,?_⟩
 exact (qk (U':=U) (uY (z9 rfl rfl (qeq h hl hb)))).trans (jA (yY rfl rfl rfl ((qdc (qc3 h hb) (by omega) 1 (·.v) qnD).trans (by rw [qlC]))))
end
theorem qer {t b:Nat} (ht:t<=11) (hb:0<b) (hb1:b<=W):qeo (qaT t b) (wB t b):=by
 obtain ⟨g,g0,e1,e2,e3,e4,e5⟩:=vJ t hb
 refine ⟨by omega,e3,by omega,?_⟩
 have hg:0<Nat.gcd t b:=Nat.gcd_pos_of_pos_right _ hb
 have h1:t=Nat.gcd t b*qaT t b:=(Nat.mul_div_cancel' (Nat.gcd_dvd_left t b)).symm
 have h2:b=Nat.gcd t b*wB t b:=(Nat.mul_div_cancel' (Nat.gcd_dvd_right t b)).symm
 have h3:=Nat.gcd_mul_left (Nat.gcd t b) (qaT t b) (wB t b)
 rw [<- h1,<- h2] at h3
 refine Nat.eq_of_mul_eq_mul_left hg ?_
 omega
theorem qe2 {k:Kd} (h:vV k) (x:Nat):uQ [kD k,nD x] = .ok (.bl (decide (x<nw k))):=by
 have np:0<nw k:=by unfold nw;split<;>omega
 unfold uQ qaz
 let U:Env:=[some (kD k),some (nD x)]
 refine uB rfl ⟨U,jA ?_⟩
 have c1:qe qY (qa (dv 1) (ret [])) U = .ok (.bl true,U):=jn (a:=nD x) rfl (by rw [zl];show R.ok (D.bl (jp (.int (x:Nat))))=_;rw [qh0])
 show qiw _ _ U=_
 rw [qhg,c1]
 refine qj rfl (jn rfl (vW h)) ?_
 show leD (.int (x:Nat)) (.int ((nw k-1:Nat):Int))=_
 rw [vm]
 congr 2
 apply decide_eq_decide.mpr
 omega
theorem qia:∀ {ks:List Kd} {s:List Nat},s∈uj ks->s.length=ks.length/\∀ z∈zz ks s,z.2<nw z.1
 | [],s,h=>by rw [ms_.mp h];exact ⟨rfl,fun z hz=>by cases hz⟩
 | k::ks,s,h=>by
  obtain ⟨x,hx,h2⟩:=List.mem_flatMap.mp h
  obtain ⟨s',hs',rfl⟩:=mP_.mp h2
  obtain ⟨i1,i2⟩:=qia hs'
  refine ⟨by rw [lC_,lC_,i1],fun z hz => ?_⟩
  have hz':z∈(k,x)::zz ks s':=hz
  rcases List.mem_cons.mp hz' with rfl | hz'
  ·exact mR_.mp hx
  ·exact i2 z hz'
section
variable {ks:List Kd} (hk:∀ k∈ks,vV k) (hl:ks.length<=8) {s:List Nat} (hs:s∈uj ks)
include hk hl hs
theorem qcA:yr [stD s,.tup (ks.map kD)] = .ok (.bl true):=by
 obtain ⟨h1,h2⟩:=qia hs
 unfold yr qbN
 let U:Env:=[some (stD s),some (.tup (ks.map kD))]
 refine uB rfl ⟨U,?_⟩
 refine (qk (U':=U) (uY (jn rfl (jU hk hl)))).trans ?_
 refine (qk (U':=U) (qgk (qnv (ntn (b:=true) (zc rfl)) (zc (qj (jq (a:=stD s) rfl (by
  unfold stD
  rw [jt,lM_,h1])) (jq (a := .tup (ks.map kD)) rfl (by rw [jt,lM_])) (qnO _)))))).trans (jA ?_)
 have c1:=qcX (e:=qe uQ (qa (dv 0) (qa (dv 1) (ret [])))) (t:=ret true) (xs:=qf8 (qa (dv 1) (qa (dv 0) (ret [])))) (fr:=[]) (U:=U) (r:=[]) (u:=fun z:Kd×Nat=>kD z.1) (v:=fun z=>nD z.2) (zz ks s) (fun _=>true) (fun z=>D.bl (decide (z.2<nw z.1))) (by
  rw [qbA,qbF (a := .tup (ks.map kD)) (b:=stD s) rfl rfl]
  unfold stD
  simp only [qiO,qfQ]) rfl (by unfold zz;rw [List.length_zip];omega) (fun _ _=>rfl) (fun z hz _=>z9 rfl rfl (qe2 (hk z.1 (List.of_mem_zip (show (z.1,z.2)∈ks.zip s from hz)).1) z.2))
 rw [wd] at c1
 refine jq c1 ?_
 rw [qcW]
 congr 2
 rw [List.all_eq_true]
 exact fun z hz=>decide_eq_true (h2 z hz)
theorem qaM:u7 [.tup (ks.map kD),stD s] = .ok .non:=by
 let U:Env:=[some (.tup (ks.map kD)),some (stD s)]
 have e:uc U = .ok (.nx U):=by
  unfold uc
  exact qgk (ntn (b:=true) (zc (z9 rfl rfl (qcA hk hl hs))))
 show (match uc U with | .ok (.rt d _)=>R.ok d | .ok (.nx _) => .ok .non | _ => .bad)=_
 rw [e]
theorem qaN (p:Nat):ub [.tup (ks.map kD),stD s,.int (p:Nat)] = .ok (.int (wt p (zz ks s))):=by
 unfold ub wv
 let U:Env:=[some (.tup (ks.map kD)),some (stD s),some (.int (p:Nat))]
 refine uB rfl ⟨U,jA ?_⟩
 have c1:=qcX (e:=d2 ixD (dv 0) (ret (.int 0))) (t:=tst (d2 eqB (dv 1) (dv 2))) (xs:=qf8 (qa (dv 0) (qa (dv 1) (ret [])))) (fr:=[2]) (U:=U) (r:=[some (.int (p:Nat))]) (u:=fun z:Kd×Nat=>kD z.1) (v:=fun z=>nD z.2) (zz ks s) (fun z=>decide (z.2=p)) (fun z=>D.int z.1.1) (by
  rw [qbA,qbF (a := .tup (ks.map kD)) (b:=stD s) rfl rfl]
  unfold stD
  simp only [qiO,qfQ]) rfl (by unfold zz;rw [List.length_zip];omega) (fun z _=>zc (qj rfl rfl (qoR z.2 p))) (fun z _ _=>qj rfl rfl (qlu z.1))
 refine jq c1 ?_
 rw [qa6]
 rfl
theorem qbS:zu [.tup (ks.map kD),stD s] = .ok (.tup [.int (wt 1 (zz ks s)),.int (wt 2 (zz ks s))]):=by
 unfold zu uz
 let U:Env:=[some (.tup (ks.map kD)),some (stD s)]
 exact uB rfl ⟨U,(qk (U':=U) (uY (z9 rfl rfl (qaM hk hl hs)))).trans (jA (qlt (yY rfl rfl rfl (qaN hk hl hs 1)) (yY rfl rfl rfl (qaN hk hl hs 2))))⟩
theorem qdn:jf [.tup (ks.map kD),stD s] = .ok (.int (gn (zz ks s))):=by
 unfold jf vx
 let U:Env:=[some (.tup (ks.map kD)),some (stD s)]
 refine uB rfl ⟨U,(qk (U':=U) (uY (z9 rfl rfl (qaM hk hl hs)))).trans (jA ?_)⟩
 exact qnL (i:=0) (j:=1) (fun n=>decide (0<n)) (.int 1) (fun k=>k.2.1) ks hl s rfl rfl (fun k n=>zc (qj rfl rfl (by
  show gtD (.int (n:Nat)) (.int 0)=_
  rw [yW]
  congr 2
  apply decide_eq_decide.mpr
  omega))) qnr
end
theorem qdo {ks:List Kd} (hk:∀ k∈ks,vV k) (hl:ks.length<=8):jd [.tup (ks.map kD)] = .ok (ldD (wx ks)):=by
 unfold jd vp
 let U:Env:=[some (.tup (ks.map kD))]
 have m01:∀ k∈ks,ixD (kD k) (.int 2)=some (.int (if k.2.2=some 1 then 1 else 0)):=fun k hk'=>by
  obtain ⟨w,v,m,rfl,_,_,_,h4⟩:=hk k hk'
  have:m=0\/m=1:=by omega
  rcases this with e | e<;>subst e<;>rfl
 have c1:=wX (e:=d2 isN (d2 ixD (dv 0) (ret (.int 2))) (ret .non)) (fr:=[]) (U:=U) (r:=[]) (xs:=uG (dv 0)) (k:=kD) ks (fun _=>D.bl false) rfl rfl (by omega) fun k hk'=>qj (qj rfl rfl (m01 k hk')) rfl rfl
 have c2:=wX (e:=d2 ixD (dv 0) (ret (.int 2))) (fr:=[]) (U:=U) (r:=[]) (xs:=uG (dv 0)) (k:=kD) ks (fun k=>D.int (if k.2.2=some 1 then 1 else 0)) rfl rfl (by omega) fun k hk'=>qj rfl rfl (m01 k hk')
 refine uB rfl ⟨U,?_⟩
 refine (qk (U':=U) (uY (jn rfl (zg _ (uM (fun k h=>(hk k h).ok) (by omega)))))).trans ?_
 refine (qk (U':=U) (qgk (zc (jq c1 (by
  rw [qi6 (f:=fun _:Kd=>false)]
  congr 2
  rw [List.any_eq_false]
  intro _ _ z
  cases z))))).trans (jA (jq c2 ?_))
 show some (D.tup (ks.map fun k=>D.int (if k.2.2=some 1 then 1 else 0)))=some (D.tup ((wx ks).map D.int))
 unfold wx
 rw [mm_]
 rfl
theorem qka {F:List D->R D} {f g:M D} {U U1 U2:Env} {a b d:D} (hf:f U = .ok (a,U1)) (hg:g U1 = .ok (b,U2)) (e:F [a,b] = .ok d):qe F (qa f (qa g (ret []))) U = .ok (d,U2):=by
 rw [yd,zD,hf]
 simp only [zD,hg,qbY,e]
theorem qnP {F:List D->R D} {f g h:M D} {U U1 U2 U3:Env} {a b c d:D} (hf:f U = .ok (a,U1)) (hg:g U1 = .ok (b,U2)) (hh:h U2 = .ok (c,U3)) (e:F [a,b,c] = .ok d):qe F (qa f (qa g (qa h (ret [])))) U = .ok (d,U3):=by
 rw [yd,zD,hf]
 simp only [zD,hg,hh,qbY,e]
theorem qp3 {F:D->D->Option D} {f g:M D} {U U1 U2:Env} {a b d:D} (hf:f U = .ok (a,U1)) (hg:g U1 = .ok (b,U2)) (e:F a b=some d):d2 F f g U = .ok (d,U2):=by
 rw [qnX,hf]
 simp only [hg,e]
theorem ifM {f:M D} {p:MS} {U U1:Env} (h:f U = .ok (.bl false,U1)):sif (tst f) p yj U = .ok (.nx U1):=by
 rw [qcN,qd2,h]
 rfl
theorem qes:∀ {ks:List Kd},(∀ k∈ks,vV k)->uq ks<=17000000000000000*(ks.length:Int)
 | [],_=>by simp [uq]
 | k::ks,hk=>by
  have ih:=qes fun x hx=>hk x (mM _ hx)
  obtain ⟨w,v,m,rfl,_,h2,_⟩:=hk k mS_
  unfold uq at ih |-
  rw [ft_]
  have e:((sk w v m).1:Int)=(w:Int):=rfl
  rw [lC_]
  split
  ·rw [mC_,List.sum_cons,e]
   omega
  ·omega
theorem qkb:∀ {ks:List Kd} {s:List Nat},(∀ k∈ks,vV k)->0<=gn (zz ks s)/\gn (zz ks s)<=11*(ks.length:Int)
 | [],_,_=>by simp [zz,gn]
 | k::ks,[],_=>by
  have:gn (zz (k::ks) [])=0:=rfl
  rw [this]
  omega
 | k::ks,x::s,hk=>by
  obtain ⟨i1,i2⟩:=qkb (ks:=ks) (s:=s) fun y hy=>hk y (mM _ hy)
  obtain ⟨w,v,m,rfl,_,_,h3,_⟩:=hk k mS_
  have e:((sk w v m).2.1:Int)=(v:Int):=rfl
  rw [qaC,lC_,e]
  split<;>omega
theorem qjr (ns:List Int) (i:Int) (h0:0<=i) (h3:i<3) (r:Env) (hr:r.length=14):∃ r',r'.length=14/\(qC (wO 2 (qd0 jK (qa (dv 0) (qa (dv 1) (ret []))))) (qC (z7 3 (qr zS 2 (qa (d2 ixD (qdN (qa (ret (.int 7)) (qa (ret (.int 6)) (qa (ret (.int 6)) (ret []))))) (dv 1)) (ret [])))) (qC (z7 4 (qQ qgu (qa (z5 1 [] none (uG (dv 3)) (qv 0) (tst (d2 eqB (d2 ixD (dv 0) (ret (.int 2))) (ret (.int 1)))) (d2 ixD (dv 0) (ret (.int 0)))) (ret [])))) (qC (qci 5 6 (qa (qr qh 2 (qa (d2 z4 (dv 4) (ret (.int 2))) (ret []))) (qa (qr qh 2 (qa (d2 z4 (dv 4) (ret (.int 2))) (ret []))) (ret [])))) (qC (qci 7 8 (qa (qe qN (qa (dv 3) (qa (dv 5) (qa (dv 6) (ret []))))) (qa (qe yb (qa (dv 3) (qa (dv 5) (qa (dv 6) (ret []))))) (ret [])))) (qC (sif (tor (qaE (tst (qe yr (qa (dv 8) (qa (dv 3) (ret [])))))) (tst (d2 neB (qe jf (qa (dv 3) (qa (dv 8) (ret [])))) (dv 7)))) (zn (ret (.bl false))) yj) (qC (qff (qe zu (qa (dv 3) (qa (dv 8) (ret [])))) (qbm 2 (zo (qv 9) (zo (qv 10) qbl)))) (qC (sif (tor (tst (d2 gtD (dv 9) (dv 5))) (tor (tst (d2 gtD (dv 10) (dv 6))) (tst (d2 neB (qe qN (qa (dv 3) (qa (dv 6) (qa (dv 5) (ret []))))) (dv 7))))) (zn (ret (.bl false))) yj) (qC (sif (tst (d2 neB (qe qV (qa (dv 3) (qa (dv 5) (qa (dv 6) (ret []))))) (qe qV (qa (dv 3) (qa (dv 6) (qa (dv 5) (ret []))))))) (zn (ret (.bl false))) yj) (qC (z7 11 (qQ qdS (qa (qe qO (qa (dv 3) (qa (dv 5) (ret [])))) (qa (qe qO (qa (dv 3) (qa (dv 6) (ret [])))) (ret []))))) (qC (sif (qaE (tst (qaK leD leD (dv 11) (dv 7) (qe qO (qa (dv 3) (qa (d2 z4 (dv 5) (dv 6)) (ret []))))))) (zn (ret (.bl false))) yj) (qC (z7 12 (qe zG (qa (qr qh 2 (qa (ret (.int 9)) (ret []))) (qa (d2 z4 (ret (.int 1)) (qr qh 2 (qa (ret (.int 9)) (ret [])))) (ret []))))) (qC (z7 13 (qe zG (qa (qr qh 2 (qa (ret (.int 9)) (ret []))) (qa (d2 z4 (ret (.int 1)) (qr qh 2 (qa (ret (.int 9)) (ret [])))) (ret []))))) (qC (qff (qe je (qa (dv 3) (qa (dv 5) (qa (dv 6) (qa (dv 12) (qa (dv 13) (ret []))))))) (qbm 2 (zo (qv 14) (zo (qv 15) qbl)))) (qC (sif (tst (d2 ltD (dv 14) (d2 jV (dv 7) (dv 15)))) (zn (ret (.bl false))) yj) (sif (tst (d2 neB (qe qN (qa (dv 3) (qa (dv 4) (qa (qr qh 2 (qa (ret (.int 9)) (ret []))) (ret []))))) (qe wm (qa (dv 3) (qa (qe jd (qa (dv 3) (ret []))) (ret [])))))) (zn (ret (.bl false))) yj)))))))))))))))) ([some (.fz ns),some (.int i)]++r) = .ok (.nx ([some (.fz ns),some (.int i)]++r')):=by
 match r,hr with
 | [o2,o3,o4,o5,o6,o7,o8,o9,o10,o11,o12,o13,o14,o15],_ =>
  obtain ⟨n,eb⟩:=qnC ns i h0
  obtain ⟨M,hM,eM⟩:∃ M:Int,(0<=M/\M<=7)/\ixD (.lst [.int 7,.int 6,.int 6]) (.int i)=some (.int M):=by
   have:i=0\/i=1\/i=2:=by omega
   rcases this with e | e | e<;>subst e
   ·exact ⟨7,by omega,rfl⟩
   ·exact ⟨6,by omega,rfl⟩
   ·exact ⟨6,by omega,rfl⟩
  obtain ⟨ks,n1,es,hk,hl⟩:=qh1 M hM n
  obtain ⟨w0,wb⟩:=qcy hk (x:=0) (by omega)
  have wtop:=qes hk
  have wt8:uq ks<=136000000000000000:=by omega
  obtain ⟨Wn,eW⟩:=Int.eq_ofNat_of_zero_le w0
  let m2:Int:=uq ks+2
  have m2p:0<m2:=by show 0<uq ks+2;omega
  have m2b:m2<1606938044258990275541962092341162602522202993782792835301376:=by show uq ks+2<_;omega
  obtain ⟨A,eA⟩:=Int.eq_ofNat_of_zero_le (Int.emod_nonneg n1 (show m2≠0 by omega))
  let n2:=n1/m2
  obtain ⟨B,eB⟩:=Int.eq_ofNat_of_zero_le (Int.emod_nonneg n2 (show m2≠0 by omega))
  let n3:=n2/m2
  let n4:=n3/9
  let n5:=n4/9
  let n6:=n5/9
  let n7:=n6/9
  let n8:=n7/9
  obtain ⟨t,ht,et⟩:∃ t:Nat,t<=8/\n3%9=(t:Int):=⟨(n3%9).toNat,by omega,by omega⟩
  obtain ⟨b,hb0,hb9,ebb⟩:∃ b:Nat,0<b/\b<=9/\1+n4%9=(b:Int):=⟨(1+n4%9).toNat,by omega,by omega,by omega⟩
  obtain ⟨u,hu,eu⟩:∃ u:Nat,u<=8/\n5%9=(u:Int):=⟨(n5%9).toNat,by omega,by omega⟩
  obtain ⟨c,hc0,hc9,ecc⟩:∃ c:Nat,0<c/\c<=9/\1+n6%9=(c:Int):=⟨(1+n6%9).toNat,by omega,by omega,by omega⟩
  obtain ⟨x,hx,ex⟩:∃ x:Nat,x<=8/\n7%9=(x:Int):=⟨(n7%9).toNat,by omega,by omega⟩
  have hW:W=17000000000000000:=rfl
  have P1:=qer (t:=t) (b:=b) (by omega) hb0 (by omega)
  have P2:=qer (t:=u) (b:=c) (by omega) hc0 (by omega)
  have fl1:=qaa t hb0 (Nat.lt_of_le_of_lt hb9 (by decide))
  have fl2:=qaa u hc0 (Nat.lt_of_le_of_lt hc9 (by decide))
  let T1:=qaT t b
  let B1:=wB t b
  let T2:=qaT u c
  let B2:=wB u c
  let q:=le2 T1 B1 T2 B2
  let N:=RT A B T1 B1 T2 B2+(ks.map (over (pk q T1 T2) (pk q B1 B2))).sum*pk q B2 B1
  have tb:je [.tup (ks.map kD),.int (A:Nat),.int (B:Nat),frD T1 B1,frD T2 B2] = .ok (frD (qaT N (B1*B2)) (wB N (B1*B2))):=qb4 hk hl P1 P2
  have bt:=qh9 hk (one:=A) (other:=B) (t:=T1) (b:=B1) (u:=T2) (c:=B2) P1.b0 P2.b0
  let be:=qaW ks (A:Nat) (B:Nat)
  obtain ⟨s,wA,e1,hs,e3⟩:=qgo (ks:=ks) (qdi (A:Nat) (B:Nat) ks (by omega) (by omega))
  have hs2:=yE.mp hs
  have hbest:gn (zz ks s)=be:=by
   have:s∈(ud (A:Nat) (B:Nat) ks).filter (fun s=>decide (gn (zz ks s)=qac (gns ks (ud (A:Nat) (B:Nat) ks)))):=by rw [e3];exact mS_
   exact of_decide_eq_true (List.mem_filter.mp this).2
  obtain ⟨be0,beT⟩:=qkb (s:=s) hk
  rw [hbest] at be0 beT
  have tw:=uA A B ks hk hl
  have tw':=uA B A ks hk hl
  have esw:qac (gns ks (ud (B:Nat) (A:Nat) ks))=be:=qlN (by omega) (by omega)
  rw [esw] at tw'
  have ts:=qdj A B ks hk hl e3
  have sm1':=vz A B ks hk hl
  have sm2':=vz B A ks hk hl
  rw [qlM ks (A:Nat) (B:Nat)] at sm2'
  have hl10:(ks.map jM).length<=10:=by rw [lM_];omega
  have mA:=vy (qbR hk) hl10 (r:=(A:Nat)) (by omega)
  have mB:=vy (qbR hk) hl10 (r:=(B:Nat)) (by omega)
  have mAB:=vy (qbR hk) hl10 (r:=(A:Nat)+(B:Nat)) (by omega)
  rw [qj9] at mA mB mAB
  obtain ⟨o1,o2',o3'⟩:=qlL hk (a:=(A:Nat)) (b:=(B:Nat)) (by omega) (by omega)
  obtain ⟨_,wbx⟩:=qcy hk (x:=(x:Nat)) (by omega)
  have twW:=uA Wn x ks hk hl
  have eWx:qac (gns ks (ud (Wn:Nat) (x:Nat) ks))=qP (ks.map jM) (wx ks):=by
   rw [<- wbx,eW]
   rfl
  rw [eWx] at twW
  have wl:=qjq (qbR hk) hl10 (qdm hk).1
  rw [qj9] at wl
  let S:Option D:=some (.fz ns)
  let I:Option D:=some (.int i)
  let X1:Option D:=some (.lst [.int n1])
  let X3:Option D:=some (.lst [.int n3])
  let X5:Option D:=some (.lst [.int n5])
  let X7:Option D:=some (.lst [.int n7])
  let X8:Option D:=some (.lst [.int n8])
  let K:Option D:=some (.tup (ks.map kD))
  let Wh:Option D:=some (.int (Wn:Nat))
  let On:Option D:=some (.int (A:Nat))
  let Ot:Option D:=some (.int (B:Nat))
  let Be:Option D:=some (.int be)
  let St:Option D:=some (stD s)
  let F1:Option D:=some (.int (wt 1 (zz ks s)))
  let F2:Option D:=some (.int (wt 2 (zz ks s)))
  let al:Int:=if zr (ks.map jM) (B:Nat)>zr (ks.map jM) (A:Nat) then zr (ks.map jM) (B:Nat) else zr (ks.map jM) (A:Nat)
  have hal:al<=be:=by
   show (if zr (ks.map jM) (B:Nat)>zr (ks.map jM) (A:Nat) then zr (ks.map jM) (B:Nat) else zr (ks.map jM) (A:Nat))<=be
   split
   ·exact o2'
   ·exact o1
  let Al:Option D:=some (.int al)
  let Pr:Option D:=some (frD T1 B1)
  let Mo:Option D:=some (frD T2 B2)
  let To:Option D:=some (.int (qaT N (B1*B2):Nat))
  let Bo:Option D:=some (.int (wB N (B1*B2):Nat))
  refine ⟨[X8,K,Wh,On,Ot,Be,St,F1,F2,Al,Pr,Mo,To,Bo],rfl,?_⟩
  show (qC (wO 2 (qd0 jK (qa (dv 0) (qa (dv 1) (ret []))))) (qC (z7 3 (qr zS 2 (qa (d2 ixD (qdN (qa (ret (.int 7)) (qa (ret (.int 6)) (qa (ret (.int 6)) (ret []))))) (dv 1)) (ret [])))) (qC (z7 4 (qQ qgu (qa (z5 1 [] none (uG (dv 3)) (qv 0) (tst (d2 eqB (d2 ixD (dv 0) (ret (.int 2))) (ret (.int 1)))) (d2 ixD (dv 0) (ret (.int 0)))) (ret [])))) (qC (qci 5 6 (qa (qr qh 2 (qa (d2 z4 (dv 4) (ret (.int 2))) (ret []))) (qa (qr qh 2 (qa (d2 z4 (dv 4) (ret (.int 2))) (ret []))) (ret [])))) (qC (qci 7 8 (qa (qe qN (qa (dv 3) (qa (dv 5) (qa (dv 6) (ret []))))) (qa (qe yb (qa (dv 3) (qa (dv 5) (qa (dv 6) (ret []))))) (ret [])))) (qC (sif (tor (qaE (tst (qe yr (qa (dv 8) (qa (dv 3) (ret [])))))) (tst (d2 neB (qe jf (qa (dv 3) (qa (dv 8) (ret [])))) (dv 7)))) (zn (ret (.bl false))) yj) (qC (qff (qe zu (qa (dv 3) (qa (dv 8) (ret [])))) (qbm 2 (zo (qv 9) (zo (qv 10) qbl)))) (qC (sif (tor (tst (d2 gtD (dv 9) (dv 5))) (tor (tst (d2 gtD (dv 10) (dv 6))) (tst (d2 neB (qe qN (qa (dv 3) (qa (dv 6) (qa (dv 5) (ret []))))) (dv 7))))) (zn (ret (.bl false))) yj) (qC (sif (tst (d2 neB (qe qV (qa (dv 3) (qa (dv 5) (qa (dv 6) (ret []))))) (qe qV (qa (dv 3) (qa (dv 6) (qa (dv 5) (ret []))))))) (zn (ret (.bl false))) yj) (qC (z7 11 (qQ qdS (qa (qe qO (qa (dv 3) (qa (dv 5) (ret [])))) (qa (qe qO (qa (dv 3) (qa (dv 6) (ret [])))) (ret []))))) (qC (sif (qaE (tst (qaK leD leD (dv 11) (dv 7) (qe qO (qa (dv 3) (qa (d2 z4 (dv 5) (dv 6)) (ret []))))))) (zn (ret (.bl false))) yj) (qC (z7 12 (qe zG (qa (qr qh 2 (qa (ret (.int 9)) (ret []))) (qa (d2 z4 (ret (.int 1)) (qr qh 2 (qa (ret (.int 9)) (ret [])))) (ret []))))) (qC (z7 13 (qe zG (qa (qr qh 2 (qa (ret (.int 9)) (ret []))) (qa (d2 z4 (ret (.int 1)) (qr qh 2 (qa (ret (.int 9)) (ret [])))) (ret []))))) (qC (qff (qe je (qa (dv 3) (qa (dv 5) (qa (dv 6) (qa (dv 12) (qa (dv 13) (ret []))))))) (qbm 2 (zo (qv 14) (zo (qv 15) qbl)))) (qC (sif (tst (d2 ltD (dv 14) (d2 jV (dv 7) (dv 15)))) (zn (ret (.bl false))) yj) (sif (tst (d2 neB (qe qN (qa (dv 3) (qa (dv 4) (qa (qr qh 2 (qa (ret (.int 9)) (ret []))) (ret []))))) (qe wm (qa (dv 3) (qa (qe jd (qa (dv 3) (ret []))) (ret [])))))) (zn (ret (.bl false))) yj)))))))))))))))) [S,I,o2,o3,o4,o5,o6,o7,o8,o9,o10,o11,o12,o13,o14,o15]=_
  refine (qk (U':=[S,I,some (.lst [.int n]),o3,o4,o5,o6,o7,o8,o9,o10,o11,o12,o13,o14,o15]) ?_).trans ?_
  ·push_cast [S,I,eb,immFs,immF,immL,imm,Bool.and_self]
  refine (qk (U':=[S,I,X1,K,o4,o5,o6,o7,o8,o9,o10,o11,o12,o13,o14,o15]) ?_).trans ?_
  ·push_cast [I,jW (show 3<=1000000 by omega),eM,es]
   rfl
  refine (qk (U':=[S,I,X1,K,Wh,o5,o6,o7,o8,o9,o10,o11,o12,o13,o14,o15]) ?_).trans ?_
  ·let U:Env:=[S,I,X1,K,o4,o5,o6,o7,o8,o9,o10,o11,o12,o13,o14,o15]
   have c:=qcq (e:=d2 ixD (dv 0) (ret (.int 0))) (t:=tst (d2 eqB (d2 ixD (dv 0) (ret (.int 2))) (ret (.int 1)))) (xs:=uG (dv 3)) (fr:=[]) (U:=U) (r:=[]) (k:=kD) ks (fun k=>decide (k.2.2=some 1)) (fun k=>D.int k.1) rfl rfl (by omega) (fun k hk'=>by
    obtain ⟨w,v,m,rfl,_,_,_,h4⟩:=hk k hk'
    have:m=0\/m=1:=by omega
    rcases this with e | e<;>subst e<;>exact zc (qj (qj rfl rfl rfl) rfl rfl)) (fun k _ _=>qj rfl rfl (qlu k))
   refine w5 (U1:=U) (jq c ?_)
   rw [qa6]
   show some (D.int (uq ks))=_
   rw [eW]
  refine (qk (U':=[S,I,X3,K,Wh,On,Ot,o7,o8,o9,o10,o11,o12,o13,o14,o15]) ?_).trans ?_
  ·have em2:((Wn:Nat):Int)+2=m2:=by show _=uq ks+2;rw [eW]
   have t1:qr qh 2 (qa (d2 z4 (dv 4) (ret (.int 2))) (ret [])) [S,I,X1,K,Wh,o5,o6,o7,o8,o9,o10,o11,o12,o13,o14,o15] = .ok (.int (A:Nat),[S,I,some (.lst [.int n2]),K,Wh,o5,o6,o7,o8,o9,o10,o11,o12,o13,o14,o15]):=by
    have:=io1 (i:=2) (a := .int m2) (f:=d2 z4 (dv 4) (ret (.int 2))) (U:=[S,I,X1,K,Wh,o5,o6,o7,o8,o9,o10,o11,o12,o13,o14,o15]) rfl (qj rfl rfl (by rw [z8,em2])) (yz (n:=n1) m2p m2b)
    rw [eA] at this
    exact this
   have t2:qr qh 2 (qa (d2 z4 (dv 4) (ret (.int 2))) (ret [])) [S,I,some (.lst [.int n2]),K,Wh,o5,o6,o7,o8,o9,o10,o11,o12,o13,o14,o15] = .ok (.int (B:Nat),[S,I,X3,K,Wh,o5,o6,o7,o8,o9,o10,o11,o12,o13,o14,o15]):=by
    have:=io1 (i:=2) (a := .int m2) (f:=d2 z4 (dv 4) (ret (.int 2))) (U:=[S,I,some (.lst [.int n2]),K,Wh,o5,o6,o7,o8,o9,o10,o11,o12,o13,o14,o15]) rfl (qj rfl rfl (by rw [z8,em2])) (yz (n:=n2) m2p m2b)
    rw [eB] at this
    exact this
   exact qpp t1 t2
  refine (qk (U':=[S,I,X3,K,Wh,On,Ot,Be,St,o9,o10,o11,o12,o13,o14,o15]) (qpp (U1:=[S,I,X3,K,Wh,On,Ot,o7,o8,o9,o10,o11,o12,o13,o14,o15]) (yY rfl rfl rfl tw) (yY rfl rfl rfl ts))).trans ?_
  let U1:Env:=[S,I,X3,K,Wh,On,Ot,Be,St,o9,o10,o11,o12,o13,o14,o15]
  have swo:=qdn hk hl hs2.1
  rw [hbest] at swo
  refine (qk (U':=U1) (qgk (qnv (ntn (b:=true) (zc (z9 rfl rfl (qcA hk hl hs2.1)))) (zc (qj (z9 rfl rfl swo) rfl (qnO _)))))).trans ?_
  let U2:Env:=[S,I,X3,K,Wh,On,Ot,Be,St,F1,F2,o11,o12,o13,o14,o15]
  refine (qk (U':=U2) ?_).trans ?_
  ·show qff _ _ U1=_
   rw [qfr,z9 (U:=U1) rfl rfl (qbS hk hl hs2.1)]
   rfl
  refine (qk (U':=U2) (qgk (qnv (zc (qj rfl rfl (by rw [yW,decide_eq_false (by omega)]))) (qnv (zc (qj rfl rfl (by rw [yW,decide_eq_false (by omega)]))) (zc (qj (yY rfl rfl rfl tw') rfl (qnO _))))))).trans ?_
  refine (qk (U':=U2) (qgk (zc (qj (yY rfl rfl rfl sm1') (yY rfl rfl rfl sm2') (qnO _))))).trans ?_
  let U3:Env:=[S,I,X3,K,Wh,On,Ot,Be,St,F1,F2,Al,o12,o13,o14,o15]
  refine (qk (U':=U3) (w5 (U1:=U2) (qnx (z9 rfl rfl mA) (z9 rfl rfl mB) (qi5 _ _)))).trans ?_
  refine (qk (U':=U3) (qgk (ntn (b:=true) (zc (qi2 rfl rfl (by rw [vm,decide_eq_true hal]) (z9 rfl (qj rfl rfl (z8 _ _)) mAB) (by rw [vm,decide_eq_true o3'])))))).trans ?_
  let U4:Env:=[S,I,X5,K,Wh,On,Ot,Be,St,F1,F2,Al,Pr,o13,o14,o15]
  refine (qk (U':=U4) ?_).trans ?_
  ·have a1:qr qh 2 (qa (ret (.int 9)) (ret [])) U3 = .ok (.int (t:Nat),[S,I,some (.lst [.int n4]),K,Wh,On,Ot,Be,St,F1,F2,Al,o12,o13,o14,o15]):=by
    push_cast [U3,X3,yz (m:=9) (by decide) (by decide)]
    rw [et]
   have a2:d2 z4 (ret (.int 1)) (qr qh 2 (qa (ret (.int 9)) (ret []))) [S,I,some (.lst [.int n4]),K,Wh,On,Ot,Be,St,F1,F2,Al,o12,o13,o14,o15] = .ok (.int (b:Nat),[S,I,X5,K,Wh,On,Ot,Be,St,F1,F2,Al,o12,o13,o14,o15]):=by
    push_cast [yz (m:=9) (by decide) (by decide),z8]
    rw [ebb]
   exact w5 (qka a1 a2 fl1)
  let U5:Env:=[S,I,X7,K,Wh,On,Ot,Be,St,F1,F2,Al,Pr,Mo,o14,o15]
  refine (qk (U':=U5) ?_).trans ?_
  ·have a1:qr qh 2 (qa (ret (.int 9)) (ret [])) U4 = .ok (.int (u:Nat),[S,I,some (.lst [.int n6]),K,Wh,On,Ot,Be,St,F1,F2,Al,Pr,o13,o14,o15]):=by
    push_cast [U4,X5,yz (m:=9) (by decide) (by decide)]
    rw [eu]
   have a2:d2 z4 (ret (.int 1)) (qr qh 2 (qa (ret (.int 9)) (ret []))) [S,I,some (.lst [.int n6]),K,Wh,On,Ot,Be,St,F1,F2,Al,Pr,o13,o14,o15] = .ok (.int (c:Nat),[S,I,X7,K,Wh,On,Ot,Be,St,F1,F2,Al,Pr,o13,o14,o15]):=by
    push_cast [yz (m:=9) (by decide) (by decide),z8]
    rw [ecc]
   exact w5 (qka a1 a2 fl2)
  let U6:Env:=[S,I,X7,K,Wh,On,Ot,Be,St,F1,F2,Al,Pr,Mo,To,Bo]
  refine (qk (U':=U6) ?_).trans ?_
  ·show qff _ _ U5=_
   rw [qfr,qnw (U:=U5) rfl rfl rfl rfl rfl tb]
   rfl
  have bcp:0<B1*B2:=Nat.mul_pos P1.b0 P2.b0
  obtain ⟨g,g0,q1,q2,q3,q4,q5⟩:=vJ N bcp
  have key:be*((wB N (B1*B2):Nat):Int)<=((qaT N (B1*B2):Nat):Int):=by
   have bt':be*((B1*B2:Nat):Int)<=((N:Nat):Int):=bt
   have z1:((B1*B2:Nat):Int)=(g:Int)*((wB N (B1*B2):Nat):Int):=by rw [<- Int.natCast_mul,<- q2]
   have z2:((N:Nat):Int)=(g:Int)*((qaT N (B1*B2):Nat):Int):=by rw [<- Int.natCast_mul,<- q1]
   rw [z1,z2,show be*((g:Int)*((wB N (B1*B2):Nat):Int))=(g:Int)*(be*((wB N (B1*B2):Nat):Int)) by rw [<- Int.mul_assoc,Int.mul_comm be,Int.mul_assoc]] at bt'
   exact Int.le_of_mul_le_mul_left bt' (by omega)
  refine (qk (U':=U6) (qgk (zc (qj rfl (qj rfl rfl (qb0 (qhD be0 (by omega)))) (by rw [qeO,decide_eq_false (by omega)]))))).trans ?_
  have l1:qr qh 2 (qa (ret (.int 9)) (ret [])) U6 = .ok (.int (x:Nat),[S,I,X8,K,Wh,On,Ot,Be,St,F1,F2,Al,Pr,Mo,To,Bo]):=by
   push_cast [U6,X7,yz (m:=9) (by decide) (by decide)]
   rw [ex]
  exact ifM (qp3 (qnP (U1:=U6) (U2:=U6) rfl rfl l1 twW) (z9 rfl (jn rfl (qdo hk hl)) wl) (qnO _))
theorem qfT (ns:List Int):∀ (ds:List D) (o1:Option D) (r:Env),r.length=14->(∀ d∈ds,∃ i:Int,d = .int i/\0<=i/\i<3)->∃ U,v6 (qv 1) (qC (wO 2 (qd0 jK (qa (dv 0) (qa (dv 1) (ret []))))) (qC (z7 3 (qr zS 2 (qa (d2 ixD (qdN (qa (ret (.int 7)) (qa (ret (.int 6)) (qa (ret (.int 6)) (ret []))))) (dv 1)) (ret [])))) (qC (z7 4 (qQ qgu (qa (z5 1 [] none (uG (dv 3)) (qv 0) (tst (d2 eqB (d2 ixD (dv 0) (ret (.int 2))) (ret (.int 1)))) (d2 ixD (dv 0) (ret (.int 0)))) (ret [])))) (qC (qci 5 6 (qa (qr qh 2 (qa (d2 z4 (dv 4) (ret (.int 2))) (ret []))) (qa (qr qh 2 (qa (d2 z4 (dv 4) (ret (.int 2))) (ret []))) (ret [])))) (qC (qci 7 8 (qa (qe qN (qa (dv 3) (qa (dv 5) (qa (dv 6) (ret []))))) (qa (qe yb (qa (dv 3) (qa (dv 5) (qa (dv 6) (ret []))))) (ret [])))) (qC (sif (tor (qaE (tst (qe yr (qa (dv 8) (qa (dv 3) (ret [])))))) (tst (d2 neB (qe jf (qa (dv 3) (qa (dv 8) (ret [])))) (dv 7)))) (zn (ret (.bl false))) yj) (qC (qff (qe zu (qa (dv 3) (qa (dv 8) (ret [])))) (qbm 2 (zo (qv 9) (zo (qv 10) qbl)))) (qC (sif (tor (tst (d2 gtD (dv 9) (dv 5))) (tor (tst (d2 gtD (dv 10) (dv 6))) (tst (d2 neB (qe qN (qa (dv 3) (qa (dv 6) (qa (dv 5) (ret []))))) (dv 7))))) (zn (ret (.bl false))) yj) (qC (sif (tst (d2 neB (qe qV (qa (dv 3) (qa (dv 5) (qa (dv 6) (ret []))))) (qe qV (qa (dv 3) (qa (dv 6) (qa (dv 5) (ret []))))))) (zn (ret (.bl false))) yj) (qC (z7 11 (qQ qdS (qa (qe qO (qa (dv 3) (qa (dv 5) (ret [])))) (qa (qe qO (qa (dv 3) (qa (dv 6) (ret [])))) (ret []))))) (qC (sif (qaE (tst (qaK leD leD (dv 11) (dv 7) (qe qO (qa (dv 3) (qa (d2 z4 (dv 5) (dv 6)) (ret []))))))) (zn (ret (.bl false))) yj) (qC (z7 12 (qe zG (qa (qr qh 2 (qa (ret (.int 9)) (ret []))) (qa (d2 z4 (ret (.int 1)) (qr qh 2 (qa (ret (.int 9)) (ret [])))) (ret []))))) (qC (z7 13 (qe zG (qa (qr qh 2 (qa (ret (.int 9)) (ret []))) (qa (d2 z4 (ret (.int 1)) (qr qh 2 (qa (ret (.int 9)) (ret [])))) (ret []))))) (qC (qff (qe je (qa (dv 3) (qa (dv 5) (qa (dv 6) (qa (dv 12) (qa (dv 13) (ret []))))))) (qbm 2 (zo (qv 14) (zo (qv 15) qbl)))) (qC (sif (tst (d2 ltD (dv 14) (d2 jV (dv 7) (dv 15)))) (zn (ret (.bl false))) yj) (sif (tst (d2 neB (qe qN (qa (dv 3) (qa (dv 4) (qa (qr qh 2 (qa (ret (.int 9)) (ret []))) (ret []))))) (qe wm (qa (dv 3) (qa (qe jd (qa (dv 3) (ret []))) (ret [])))))) (zn (ret (.bl false))) yj)))))))))))))))) ds ([some (.fz ns),o1]++r) = .ok (.nx U)
 | [],o1,r,_,_=>⟨_,rfl⟩
 | d::ds,o1,r,hr,h=>by
  obtain ⟨i,rfl,h0,h1⟩:=h d mS_
  obtain ⟨r',hr',e⟩:=qjr ns i h0 h1 r hr
  obtain ⟨U,q⟩:=qfT ns ds (some (.int i)) r' hr' fun y hy=>h y (mM _ hy)
  refine ⟨U,?_⟩
  unfold v6
  simp only [qv,List.cons_append,List.nil_append,List.set_cons_zero,List.set_cons_succ] at e |-
  simp only [e]
  exact q
theorem law_true (ns:List Int) (hn:ns.length<=63):qeV [.fz ns] = .ok (.bl true):=by
 let j:Int:=if (if (3:Int)<(ns.length:Int) then (3:Int) else (ns.length:Int))>1 then (if (3:Int)<(ns.length:Int) then (3:Int) else (ns.length:Int)) else 1
 have hj0:0<=j:=by simp only [j];split<;>split<;>omega
 have hj2:j<=3:=by simp only [j];split<;>split<;>omega
 have hj1:j<=6:=by simp only [j];split<;>split<;>omega
 obtain ⟨U,q⟩:=qfT ns (qcg 0 j.toNat) none [none,none,none,none,none,none,none,none,none,none,none,none,none,none] rfl fun d hd=>by
  unfold qcg at hd
  obtain ⟨k,hk,rfl⟩:=mP_.mp hd
  have hk2:=mR_.mp hk
  exact ⟨_,rfl,by omega,by omega⟩
 unfold qeV
 refine uB rfl ⟨U,?_⟩
 unfold qlB
 refine (qk (U':=U) ?_).trans rfl
 rw [vj,wU (j:=j) (U1:=[some (.fz ns),none,none,none,none,none,none,none,none,none,none,none,none,none,none,none]) ?_ hj0 (by omega)]
 ·exact q
 ·rfl
section
variable {P:Program} {w:World} {K:PySem.W.Frag} {mg:Str->Option Value} {base:Heap}
variable {f:Addr} {fd:FuncData}
set_option maxHeartbeats 4000000
theorem qe3:qp ["kind"] ["kind"] (qd yH):=⟨rfl,rfl,rfl,by decide +kernel,rfl,by decide +kernel,by decide +kernel⟩
section
variable (P:Program) (w:World) (K:Fr0) (mg:Str->Option Value) (base:Heap)
abbrev Q0:Prop:=qz P w K mg base 1 "is_there" ["kind"] (spD K qct)
abbrev Q1:Prop:=qz P w K mg base 2 "sacks_for" ["kind"] (spD K jy)
abbrev Q2:Prop:=qz P w K mg base 1 "put_in" ["kind","front","sack"] (spD K w6)
abbrev Q3:Prop:=qz P w K mg base 3 "stowed_further" ["kind","front"] (spD K zi)
abbrev Q4:Prop:=qz P w K mg base 1 "need_single" ["store"] (spD K jP)
abbrev Q5:Prop:=qz P w K mg base 1 "is_whole" ["thing"] (spD K vM)
abbrev Q6:Prop:=qz P w K mg base 2 "is_count" ["thing"] (spD K qY)
abbrev Q7:Prop:=qz P w K mg base 3 "is_kind" ["thing"] (spD K vo)
abbrev Q8:Prop:=qz P w K mg base 4 "is_store" ["thing"] (spD K vN)
abbrev Q9:Prop:=qz P w K mg base 5 "need_store" ["thing"] (spD K zd)
abbrev Q10:Prop:=qz P w K mg base 6 "need_stowable" ["store"] (spD K jc)
abbrev Q11:Prop:=qz P w K mg base 3 "need_count" ["thing"] (spD K zL)
abbrev Q12:Prop:=qz P w K mg base 7 "all_that_fit" ["store","one","other"] (spD K zt)
abbrev Q13:Prop:=qz P w K mg base 8 "two_worth" ["store","one","other"] (spD K qN)
abbrev Q14:Prop:=qz P w K mg base 1 "_law_take" ["box","many"] (qjL K qh)
abbrev Q15:Prop:=qz P w K mg base 1 "taken_together" ["store","load","part"] (spD K qR)
abbrev Q16:Prop:=qz P w K mg base 3 "can_take" ["kind","times"] (spD K yQ)
abbrev Q17:Prop:=qz P w K mg base 6 "is_load" ["thing","store"] (spD K w8)
abbrev Q18:Prop:=qz P w K mg base 7 "need_load" ["store","thing"] (spD K wj)
abbrev Q19:Prop:=qz P w K mg base 8 "worth" ["store","load"] (spD K wm)
abbrev Q20:Prop:=qz P w K mg base 6 "whole_load" ["store"] (spD K jd)
abbrev Q21:Prop:=qz P w K mg base 1 "greatest_divisor" ["one","other"] (spD K qZ)
abbrev Q22:Prop:=qz P w K mg base 2 "lowest_terms" ["top","bottom"] (spD K jr)
abbrev Q23:Prop:=qz P w K mg base 3 "added" ["one","other"] (spD K qav)
abbrev Q24:Prop:=qz P w K mg base 3 "bound_of" ["store","room","price"] (spD K vO)
abbrev Q25:Prop:=qz P w K mg base 1 "lesser" ["price","more"] (spD K qba)
abbrev Q26:Prop:=qz P w K mg base 1 "times_price" ["room","price"] (spD K jR)
abbrev Q27:Prop:=qz P w K mg base 3 "is_price" ["thing"] (spD K uP)
abbrev Q28:Prop:=qz P w K mg base 4 "need_price" ["thing"] (spD K ul)
abbrev Q29:Prop:=qz P w K mg base 7 "two_bound" ["store","one","other","price","more"] (spD K je)
abbrev Q30:Prop:=qz P w K mg base 1 "_law_divisor" ["one","other"] (spD K ye)
abbrev Q31:Prop:=qz P w K mg base 2 "_law_low" ["top","bottom"] (spD K zG)
abbrev Q32:Prop:=qz P w K mg base 1 "best_beside" ["one","seconds","room"] (spD K jS)
abbrev Q33:Prop:=qz P w K mg base 1 "beating_order" ["weighed"] (spD K zH)
abbrev Q34:Prop:=qz P w K mg base 1 "all_loads" ["kinds"] (spD K ua)
abbrev Q35:Prop:=qz P w K mg base 2 "all_weighed" ["kinds"] (spD K jT)
abbrev Q36:Prop:=qz P w K mg base 4 "not_beaten" ["kinds"] (spD K yq)
abbrev Q37:Prop:=qz P w K mg base 1 "second_half" ["store"] (spD K yC)
abbrev Q38:Prop:=qz P w K mg base 1 "first_half" ["store"] (spD K um)
abbrev Q39:Prop:=qz P w K mg base 6 "half_loads" ["store"] (spD K uo)
abbrev Q40:Prop:=qz P w K mg base 7 "met_worth" ["store","room"] (spD K qO)
abbrev Q41:Prop:=qz P w K mg base 8 "stows_many" ["store","one","other"] (spD K qV)
abbrev Q42:Prop:=qz P w K mg base 1 "weight_in" ["store","stow","sack"] (spD K ub)
abbrev Q43:Prop:=qz P w K mg base 3 "can_stow" ["kind","sack"] (spD K uQ)
abbrev Q44:Prop:=qz P w K mg base 7 "is_stow" ["thing","store"] (spD K yr)
abbrev Q45:Prop:=qz P w K mg base 8 "need_stow" ["store","thing"] (spD K u7)
abbrev Q46:Prop:=qz P w K mg base 9 "stow_weights" ["store","stow"] (spD K zu)
abbrev Q47:Prop:=qz P w K mg base 9 "stow_worth" ["store","stow"] (spD K jf)
abbrev Q48:Prop:=qz P w K mg base 8 "two_stow" ["store","one","other"] (spD K yb)
abbrev Q49:Prop:=qz P w K mg base 2 "_law_single" ["box","most"] (qjL K zS)
abbrev Q50:Prop:=qz P w K mg base 1 "_law_box" ["script","k"] (spD K jK)
end
theorem q0 (F:Fun K "is_there" "is_there" yH f fd) (m:mg "is_there"=some (.ref f)) (T:Txt K mg):Q0 P w K mg base:=by
 refine ⟨f,fd,?_,m,F.kp,F.binds fun _ _ _ _ _ _ us hl=>match us,hl with | [_],_=>rfl⟩
 exact qu (N:=["kind"]) (O:=[]) (body:=qcs) F qe3 (by decide) fun cdv A outer s H E B hr=>(qi (qy (qkB (vc qdA qbr (qG qt qs (qc 0) (gI T.c_MOST)) qbj (qH _)) (qaF (vc qad uE (qG qt qs (qc 0) (gI T.c_MOST)) ql (qH _))))))
theorem qet:qp ["kind"] ["kind"] (qd j4):=⟨rfl,rfl,rfl,by decide +kernel,rfl,by decide +kernel,by decide +kernel⟩
theorem q1 (F:Fun K "sacks_for" "sacks_for" j4 f fd) (m:mg "sacks_for"=some (.ref f)) (T:Txt K mg) (C_is_there:Q0 P w K mg base):Q1 P w K mg base:=by
 refine ⟨f,fd,?_,m,F.kp,F.binds fun _ _ _ _ _ _ us hl=>match us,hl with | [_],_=>rfl⟩
 exact qu (N:=["kind"]) (O:=[]) (body:=qbK) F qet (by decide) fun cdv A outer s H E B hr=>(qi (qy (qgW (yf (dC C_is_there hr (qb (qc 0) qf))) ql ql)))
theorem vB:qp ["kind","front","sack","heavy_one","heavy_other","gain","stow"] ["kind","front","sack"] (qd vK):=⟨rfl,rfl,rfl,by decide +kernel,rfl,by decide +kernel,by decide +kernel⟩
theorem q2 (F:Fun K "put_in" "put_in" vK f fd) (m:mg "put_in"=some (.ref f)) (T:Txt K mg):Q2 P w K mg base:=by
 refine ⟨f,fd,?_,m,F.kp,F.binds fun _ _ _ _ _ _ us hl=>match us,hl with | [_,_,_],_=>rfl⟩
 exact qu (N:=["kind","front","sack","heavy_one","heavy_other","gain","stow"]) (O:=[]) (body:=qc6) F vB (by decide) fun cdv A outer s H E B hr=>(qg (zf (i:=3) vB.nd (qgW (qS (vU hr) ut (qc 2) ql (qH _)) (qG qt qs (qc 0) (gI T.c_WEIGHT)) ql))
   (qg (zf (i:=4) vB.nd (qgW (qS (vU hr) ut (qc 2) ql (qH _)) (qG qt qs (qc 0) (gI T.c_WEIGHT)) ql))
   (qg (zf (i:=5) vB.nd (qgW (qS qad uE (qc 2) ql (qH _)) (qG qt qs (qc 0) (gI T.c_WORTH)) ql))
   (qg (zf (i:=6) vB.nd (qw zp zq (qG qt qs (qc 1) (gI T.c_STOW)) (yS (qb (qc 2) qf))))
   (qi (qy (yS (qb (qc 6) (qb (qw qdz qbo (qG qt qs (qc 1) (gI T.c_LEFT_ONE)) (qc 3)) (qb (qw qdz qbo (qG qt qs (qc 1) (gI T.c_LEFT_OTHER)) (qc 4)) (qb (qw zp zq (qG qt qs (qc 1) (gI T.c_STOW_WORTH)) (qc 5)) qf)))))))))))
theorem uS:qp ["kind","front","ways"] ["kind","front"] (qd qL):=⟨rfl,rfl,rfl,by decide +kernel,rfl,by decide +kernel,by decide +kernel⟩
theorem q3 (F:Fun K "stowed_further" "stowed_further" qL f fd) (m:mg "stowed_further"=some (.ref f)) (T:Txt K mg) (C_sacks_for:Q1 P w K mg base) (C_put_in:Q2 P w K mg base):Q3 P w K mg base:=by
 refine ⟨f,fd,?_,m,F.kp,F.binds fun _ _ _ _ _ _ us hl=>match us,hl with | [_,_],_=>rfl⟩
 exact qu (N:=["kind","front","ways"]) (O:=[]) (body:=yx) F uS (by decide) fun cdv A outer s H E B hr=>(qg (qlc (i:=2) uS.nd (qlb (fo:=none) rfl (vg rfl T.b_range (qb (qw zp zq (dC C_sacks_for hr (qb (qc 0) qf)) ql) qf)) (cs ["kind","front","ways"] ["sack","kind","front"] 1 [0,1] (qd qL)) (f0 [0,1] []) (fun _ _ _ _ _ _ _ _ _ _ _=>⟨(qE (i:=0) (nd ["sack","kind","front"])),u9,(dC C_put_in hr (qb (qc 1) (qb (qc 2) (qb (qc 0) qf))))⟩)) rfl (cs ["kind","front","ways"] ["sack","kind","front"] 1 [0,1] (qd qL)))
   (qi (qy (z6 (fo:=none) rfl (jX (qc 2)) (cs ["kind","front","ways"] ["way"] 1 [] (qd qL)) (f0 [] []) (fun _ _ _ _ _ _ _ _ _ _ _=>⟨(qE (i:=0) (nd ["way"])),(qbv (DW.dt (qjC (qS qkm qg0 (qG qt qs (qc 0) (gI T.c_LEFT_ONE)) ql (qH _)) (qgU (qS qkm qg0 (qG qt qs (qc 0) (gI T.c_LEFT_OTHER)) ql (qH _)))))),(qc 0)⟩)))))
theorem qb5:qp ["store"] ["store"] (qd zP):=⟨rfl,rfl,rfl,by decide +kernel,rfl,by decide +kernel,by decide +kernel⟩
theorem q4 (F:Fun K "need_single" "need_single" zP f fd) (m:mg "need_single"=some (.ref f)) (T:Txt K mg):Q4 P w K mg base:=by
 refine ⟨f,fd,?_,m,F.kp,F.binds fun _ _ _ _ _ _ us hl=>match us,hl with | [_],_=>rfl⟩
 exact qu (N:=["store"]) (O:=[]) (body:=zk) F qb5 (by decide) fun cdv A outer s H E B hr=>(qi (yg (yA (yf (qB (qa0 rfl) wK rfl T.b_all qfo (qb (z6 (fo:=none) rfl (jX (qc 0)) (cs ["store"] ["kind"] 1 [] (qd zP)) (f0 [] []) (fun _ _ _ _ _ _ _ _ _ _ _=>⟨(qE (i:=0) (nd ["kind"])),u9,(vc (qnd hr) qll (qG qt qs (qc 0) (gI T.c_MOST)) (yS (qb ql (qb ql qf))) rfl)⟩)) qf)))) (qi yU) qJ))
theorem qe4:qp ["thing"] ["thing"] (qd yI):=⟨rfl,rfl,rfl,by decide +kernel,rfl,by decide +kernel,by decide +kernel⟩
theorem q5 (F:Fun K "is_whole" "is_whole" yI f fd) (m:mg "is_whole"=some (.ref f)) (T:Txt K mg):Q5 P w K mg base:=by
 refine ⟨f,fd,?_,m,F.kp,F.binds fun _ _ _ _ _ _ us hl=>match us,hl with | [_],_=>rfl⟩
 exact qu (N:=["thing"]) (O:=[]) (body:=qar) F qe4 (by decide) fun cdv A outer s H E B hr=>(qi (qy (qdO (qbt qkI rfl T.b_isinstance rfl T.b_int qjP (qc 0) zM) (qaF (qmC (qbt qiC rfl T.b_isinstance rfl T.b_bool qk3 (qc 0) zM))))))
theorem qe5:qp ["thing"] ["thing"] (qd yJ):=⟨rfl,rfl,rfl,by decide +kernel,rfl,by decide +kernel,by decide +kernel⟩
theorem q6 (F:Fun K "is_count" "is_count" yJ f fd) (m:mg "is_count"=some (.ref f)) (T:Txt K mg) (C_is_whole:Q5 P w K mg base):Q6 P w K mg base:=by
 refine ⟨f,fd,?_,m,F.kp,F.binds fun _ _ _ _ _ _ us hl=>match us,hl with | [_],_=>rfl⟩
 exact qu (N:=["thing"]) (O:=[]) (body:=qas) F qe5 (by decide) fun cdv A outer s H E B hr=>(qi (qy (qdO (dC C_is_whole hr (qb (qc 0) qf)) (qaF (vc qkm qg0 (qc 0) ql (qH _))))))
theorem qgp:qp ["thing"] ["thing"] (qd uO):=⟨rfl,rfl,rfl,by decide +kernel,rfl,by decide +kernel,by decide +kernel⟩
theorem q7 (F:Fun K "is_kind" "is_kind" uO f fd) (m:mg "is_kind"=some (.ref f)) (T:Txt K mg) (C_is_count:Q6 P w K mg base):Q7 P w K mg base:=by
 refine ⟨f,fd,?_,m,F.kp,F.binds fun _ _ _ _ _ _ us hl=>match us,hl with | [_],_=>rfl⟩
 exact qu (N:=["thing"]) (O:=[]) (body:=qbL) F qgp (by decide) fun cdv A outer s H E B hr=>(qg (yg (DW.dt (qaR (yA (yf (qbt vf rfl T.b_isinstance rfl T.b_tuple uW (qc 0) zM))) (vT (qS (qaJ hr) vh (qB zy zA rfl T.b_len uH (qb (qc 0) qf)) ql (qH _))))) (qi (qy wG)) qJ)
   (qg (yg (DW.dt (qaR (yA (yf (dC C_is_count hr (qb (qG qt qs (qc 0) (gI T.c_WEIGHT)) qf)))) (vT (qS (vU hr) ut (qG qt qs (qc 0) (gI T.c_WEIGHT)) ql (qH _))))) (qi (qy wG)) qJ)
   (qi (qy (qdO (dC C_is_count hr (qb (qG qt qs (qc 0) (gI T.c_WORTH)) qf)) (qaF (qkB (vc qdA qbr (qG qt qs (qc 0) (gI T.c_MOST)) qbj (qH _)) (qaF (dC C_is_count hr (qb (qG qt qs (qc 0) (gI T.c_MOST)) qf))))))))))
theorem qe6:qp ["thing"] ["thing"] (qd j6):=⟨rfl,rfl,rfl,by decide +kernel,rfl,by decide +kernel,by decide +kernel⟩
theorem q8 (F:Fun K "is_store" "is_store" j6 f fd) (m:mg "is_store"=some (.ref f)) (T:Txt K mg) (C_is_kind:Q7 P w K mg base):Q8 P w K mg base:=by
 refine ⟨f,fd,?_,m,F.kp,F.binds fun _ _ _ _ _ _ us hl=>match us,hl with | [_],_=>rfl⟩
 exact qu (N:=["thing"]) (O:=[]) (body:=qat) F qe6 (by decide) fun cdv A outer s H E B hr=>(qg (yg (DW.dt (qaR (yA (yf (qbt vf rfl T.b_isinstance rfl T.b_tuple uW (qc 0) zM))) (vT (qS qad uE (qB zy zA rfl T.b_len uH (qb (qc 0) qf)) (gI T.c_KINDS_AT_MOST) (qH _))))) (qi (qy wG)) qJ)
   (qi (qy (qB (qa0 rfl) wK rfl T.b_all qfo (qb (z6 (fo:=none) rfl (jX (qc 0)) (cs ["thing"] ["part"] 1 [] (qd j6)) (f0 [] []) (fun _ _ _ _ _ _ _ _ _ _ _=>⟨(qE (i:=0) (nd ["part"])),u9,(dC C_is_kind hr (qb (qc 0) qf))⟩)) qf)))))
theorem qdp:qp ["thing"] ["thing"] (qd jC):=⟨rfl,rfl,rfl,by decide +kernel,rfl,by decide +kernel,by decide +kernel⟩
theorem q9 (F:Fun K "need_store" "need_store" jC f fd) (m:mg "need_store"=some (.ref f)) (T:Txt K mg) (C_is_store:Q8 P w K mg base):Q9 P w K mg base:=by
 refine ⟨f,fd,?_,m,F.kp,F.binds fun _ _ _ _ _ _ us hl=>match us,hl with | [_],_=>rfl⟩
 exact qu (N:=["thing"]) (O:=[]) (body:=ym) F qdp (by decide) fun cdv A outer s H E B hr=>(qi (yg (yA (yf (dC C_is_store hr (qb (qc 0) qf)))) (qi yU) qJ))
theorem qaX:qp ["store"] ["store"] (qd zE):=⟨rfl,rfl,rfl,by decide +kernel,rfl,by decide +kernel,by decide +kernel⟩
theorem q10 (F:Fun K "need_stowable" "need_stowable" zE f fd) (m:mg "need_stowable"=some (.ref f)) (T:Txt K mg) (C_need_single:Q4 P w K mg base) (C_need_store:Q9 P w K mg base):Q10 P w K mg base:=by
 refine ⟨f,fd,?_,m,F.kp,F.binds fun _ _ _ _ _ _ us hl=>match us,hl with | [_],_=>rfl⟩
 exact qu (N:=["store"]) (O:=[]) (body:=jb) F qaX (by decide) fun cdv A outer s H E B hr=>(qg (qU (dC C_need_store hr (qb (qc 0) qf)))
   (qg (qU (dC C_need_single hr (qb (qc 0) qf)))
   (qi (yg (qS qad uE (qB zy zA rfl T.b_len uH (qb (qc 0) qf)) (gI T.c_KINDS_STOWED_AT_MOST) (qH _)) (qi yU) qJ))))
theorem qdq:qp ["thing"] ["thing"] (qd jD):=⟨rfl,rfl,rfl,by decide +kernel,rfl,by decide +kernel,by decide +kernel⟩
theorem q11 (F:Fun K "need_count" "need_count" jD f fd) (m:mg "need_count"=some (.ref f)) (T:Txt K mg) (C_is_count:Q6 P w K mg base):Q11 P w K mg base:=by
 refine ⟨f,fd,?_,m,F.kp,F.binds fun _ _ _ _ _ _ us hl=>match us,hl with | [_],_=>rfl⟩
 exact qu (N:=["thing"]) (O:=[]) (body:=yo) F qdq (by decide) fun cdv A outer s H E B hr=>(qi (yg (yA (yf (dC C_is_count hr (qb (qc 0) qf)))) (qi yU) qJ))
theorem zJ:qp ["store","one","other","fronts","kind","longer","front"] ["store","one","other"] (qd zW):=⟨rfl,rfl,rfl,by decide +kernel,rfl,by decide +kernel,by decide +kernel⟩
theorem q12 (F:Fun K "all_that_fit" "all_that_fit" zW f fd) (m:mg "all_that_fit"=some (.ref f)) (T:Txt K mg) (C_stowed_further:Q3 P w K mg base) (C_need_stowable:Q10 P w K mg base) (C_need_count:Q11 P w K mg base) (C_need_store:Q9 P w K mg base):Q12 P w K mg base:=by
 refine ⟨f,fd,?_,m,F.kp,F.binds fun _ _ _ _ _ _ us hl=>match us,hl with | [_,_,_],_=>rfl⟩
 exact qu (N:=["store","one","other","fronts","kind","longer","front"]) (O:=[5]) (body:=uw) F zJ (by decide) fun cdv A outer s H E B hr=>(qg (qU (dC C_need_store hr (qb (qc 0) qf)))
   (qg (qU (dC C_need_count hr (qb (qc 1) qf)))
   (qg (qU (dC C_need_count hr (qb (qc 2) qf)))
   (qg (qU (dC C_need_stowable hr (qb (qc 0) qf)))
   (qg (zf (i:=3) zJ.nd (qbk (qb (yS (qb (yS qf) (qb (qc 1) (qb (qc 2) (qb ql qf))))) qf)))
   (qg (wN PassesOwn.never rfl (jX (qc 0)) (qE (i:=4) zJ.nd) (qg (qbx (i:=5) zJ.nd (qfm qf))
   (qg (wN PassesOwn.never rfl (jX (qc 3)) (qE (i:=6) zJ.nd) (qi (qU (qd8 (i:=5) (dC C_stowed_further hr (qb (qc 4) (qb (qc 6) qf)))))))
   (qi (qhq (i:=3) (j:=5) zJ.nd)))))
   (qi (qy (qc 3)))))))))
theorem qeu:qp ["store","one","other"] ["store","one","other"] (qd ju):=⟨rfl,rfl,rfl,by decide +kernel,rfl,by decide +kernel,by decide +kernel⟩
theorem q13 (F:Fun K "two_worth" "two_worth" ju f fd) (m:mg "two_worth"=some (.ref f)) (T:Txt K mg) (C_all_that_fit:Q12 P w K mg base):Q13 P w K mg base:=by
 refine ⟨f,fd,?_,m,F.kp,F.binds fun _ _ _ _ _ _ us hl=>match us,hl with | [_,_,_],_=>rfl⟩
 exact qu (N:=["store","one","other"]) (O:=[]) (body:=wf) F qeu (by decide) fun cdv A outer s H E B hr=>(qi (qy (qB (wR rfl) vG rfl T.b_max qcj (qb (z6 (fo:=none) rfl (jX (dC C_all_that_fit hr (qb (qc 0) (qb (qc 1) (qb (qc 2) qf))))) (cs ["store","one","other"] ["way"] 1 [] (qd ju)) (f0 [] []) (fun _ _ _ _ _ _ _ _ _ _ _=>⟨(qE (i:=0) (nd ["way"])),u9,(qG qt qs (qc 0) (gI T.c_STOW_WORTH))⟩)) qf))))
theorem vC:qp ["box","many","left","digit"] ["box","many"] (qd j7):=⟨rfl,rfl,rfl,by decide +kernel,rfl,by decide +kernel,by decide +kernel⟩
theorem q14 (F:Fun K "_law_take" "_law_take" j7 f fd) (m:mg "_law_take"=some (.ref f)) (T:Txt K mg):Q14 P w K mg base:=by
 refine ⟨f,fd,?_,m,F.kp,F.binds fun _ _ _ _ _ _ us hl=>match us,hl with | [_,_],_=>rfl⟩
 show qcc P w K mg base CX0 1 f fd ["box","many"] (qjL K (qcJ (["box","many","left","digit"]:List Str).length (["box","many"]:List Str).length uZ))
 refine qmQ (N:=["box","many","left","digit"]) (ps:=["box","many"]) (k:=0) (O:=[0]) (body:=uZ) F vC ?a ?a0 ?b
 case a=>decide
 case a0=>decide
 intro cdv A outer s H E B Io S hr
 exact (qg (qgX (qB qeB qdU rfl T.b_divmod qhd (qb (qjK (i:=0) ql) (qb (qc 1) qf))) (qaG (n:=2) rfl (zw (qE (i:=2) vC.nd) (zw (qE (i:=3) vC.nd) vd))))
   (qg (qkM (i:=0) (qc 2) ql)
   (qi (qy (qc 3)))))
theorem qaD:qp ["store","load","part"] ["store","load","part"] (qd za):=⟨rfl,rfl,rfl,by decide +kernel,rfl,by decide +kernel,by decide +kernel⟩
theorem q15 (F:Fun K "taken_together" "taken_together" za f fd) (m:mg "taken_together"=some (.ref f)) (T:Txt K mg):Q15 P w K mg base:=by
 refine ⟨f,fd,?_,m,F.kp,F.binds fun _ _ _ _ _ _ us hl=>match us,hl with | [_,_,_],_=>rfl⟩
 exact qu (N:=["store","load","part"]) (O:=[]) (body:=yy) F qaD (by decide) fun cdv A outer s H E B hr=>(qi (qy (qB (qa1 rfl) wL rfl T.b_sum qfp (qb (z6 (fo:=none) rfl (qdX rfl T.b_zip (qb (qc 0) (qb (qc 1) qf))) (cs ["store","load","part"] ["kind","times","part"] 2 [2] (qd za)) (f0 [2] []) (fun _ _ _ _ _ _ _ _ _ _ _=>⟨(qaG (n:=2) rfl (zw (qE (i:=0) (nd ["kind","times","part"])) (zw (qE (i:=1) (nd ["kind","times","part"])) vd))),u9,(qw zC qW (qG qt qs (qc 0) (qc 2)) (qc 1))⟩)) qf))))
theorem qe7:qp ["kind","times"] ["kind","times"] (qd yK):=⟨rfl,rfl,rfl,by decide +kernel,rfl,by decide +kernel,by decide +kernel⟩
theorem q16 (F:Fun K "can_take" "can_take" yK f fd) (m:mg "can_take"=some (.ref f)) (T:Txt K mg) (C_is_count:Q6 P w K mg base):Q16 P w K mg base:=by
 refine ⟨f,fd,?_,m,F.kp,F.binds fun _ _ _ _ _ _ us hl=>match us,hl with | [_,_],_=>rfl⟩
 exact qu (N:=["kind","times"]) (O:=[]) (body:=qau) F qe7 (by decide) fun cdv A outer s H E B hr=>(qi (qy (qdO (dC C_is_count hr (qb (qc 1) qf)) (qaF (qkB (vc qdA qbr (qG qt qs (qc 0) (gI T.c_MOST)) qbj (qH _)) (qaF (vc qeA qbq (qc 1) (qG qt qs (qc 0) (gI T.c_MOST)) (qH _))))))))
theorem qgq:qp ["thing","store"] ["thing","store"] (qd yZ):=⟨rfl,rfl,rfl,by decide +kernel,rfl,by decide +kernel,by decide +kernel⟩
theorem q17 (F:Fun K "is_load" "is_load" yZ f fd) (m:mg "is_load"=some (.ref f)) (T:Txt K mg) (C_can_take:Q16 P w K mg base) (C_need_store:Q9 P w K mg base):Q17 P w K mg base:=by
 refine ⟨f,fd,?_,m,F.kp,F.binds fun _ _ _ _ _ _ us hl=>match us,hl with | [_,_],_=>rfl⟩
 exact qu (N:=["thing","store"]) (O:=[]) (body:=qbM) F qgq (by decide) fun cdv A outer s H E B hr=>(qg (qU (dC C_need_store hr (qb (qc 1) qf)))
   (qg (yg (DW.dt (qaR (yA (yf (qbt vf rfl T.b_isinstance rfl T.b_tuple uW (qc 0) zM))) (vT (qS (qaJ hr) vh (qB zy zA rfl T.b_len uH (qb (qc 0) qf)) (qB zy zA rfl T.b_len uH (qb (qc 1) qf)) (qH _))))) (qi (qy wG)) qJ)
   (qi (qy (qB (qa0 rfl) wK rfl T.b_all qfo (qb (z6 (fo:=none) rfl (qdX rfl T.b_zip (qb (qc 1) (qb (qc 0) qf))) (cs ["thing","store"] ["kind","times"] 2 [] (qd yZ)) (f0 [] []) (fun _ _ _ _ _ _ _ _ _ _ _=>⟨(qaG (n:=2) rfl (zw (qE (i:=0) (nd ["kind","times"])) (zw (qE (i:=1) (nd ["kind","times"])) vd))),u9,(dC C_can_take hr (qb (qc 0) (qb (qc 1) qf)))⟩)) qf))))))
theorem qev:qp ["store","thing"] ["store","thing"] (qd j8):=⟨rfl,rfl,rfl,by decide +kernel,rfl,by decide +kernel,by decide +kernel⟩
theorem q18 (F:Fun K "need_load" "need_load" j8 f fd) (m:mg "need_load"=some (.ref f)) (T:Txt K mg) (C_is_load:Q17 P w K mg base):Q18 P w K mg base:=by
 refine ⟨f,fd,?_,m,F.kp,F.binds fun _ _ _ _ _ _ us hl=>match us,hl with | [_,_],_=>rfl⟩
 exact qu (N:=["store","thing"]) (O:=[]) (body:=y8) F qev (by decide) fun cdv A outer s H E B hr=>(qi (yg (yA (yf (dC C_is_load hr (qb (qc 1) (qb (qc 0) qf))))) (qi yU) qJ))
theorem qjs:qp ["store","load"] ["store","load"] (qd qap):=⟨rfl,rfl,rfl,by decide +kernel,rfl,by decide +kernel,by decide +kernel⟩
theorem q19 (F:Fun K "worth" "worth" qap f fd) (m:mg "worth"=some (.ref f)) (T:Txt K mg) (C_taken_together:Q15 P w K mg base) (C_need_load:Q18 P w K mg base):Q19 P w K mg base:=by
 refine ⟨f,fd,?_,m,F.kp,F.binds fun _ _ _ _ _ _ us hl=>match us,hl with | [_,_],_=>rfl⟩
 exact qu (N:=["store","load"]) (O:=[]) (body:=qeT) F qjs (by decide) fun cdv A outer s H E B hr=>(qg (qU (dC C_need_load hr (qb (qc 0) (qb (qc 1) qf))))
   (qi (qy (dC C_taken_together hr (qb (qc 0) (qb (qc 1) (qb (gI T.c_WORTH) qf)))))))
theorem qdr:qp ["store"] ["store"] (qd zK):=⟨rfl,rfl,rfl,by decide +kernel,rfl,by decide +kernel,by decide +kernel⟩
theorem q20 (F:Fun K "whole_load" "whole_load" zK f fd) (m:mg "whole_load"=some (.ref f)) (T:Txt K mg) (C_need_store:Q9 P w K mg base):Q20 P w K mg base:=by
 refine ⟨f,fd,?_,m,F.kp,F.binds fun _ _ _ _ _ _ us hl=>match us,hl with | [_],_=>rfl⟩
 exact qu (N:=["store"]) (O:=[]) (body:=vp) F qdr (by decide) fun cdv A outer s H E B hr=>(qg (qU (dC C_need_store hr (qb (qc 0) qf)))
   (qg (yg (yf (qB (qiE rfl) qg3 rfl T.b_any qm1 (qb (z6 (fo:=none) rfl (jX (qc 0)) (cs ["store"] ["kind"] 1 [] (qd zK)) (f0 [] []) (fun _ _ _ _ _ _ _ _ _ _ _=>⟨(qE (i:=0) (nd ["kind"])),u9,(vc qdA qbr (qG qt qs (qc 0) (gI T.c_MOST)) qbj (qH _))⟩)) qf))) (qi (qy qbj)) qJ)
   (qi (qy (qdP wF qeF rfl T.b_tuple uW (qb (z6 (fo:=none) rfl (jX (qc 0)) (cs ["store"] ["kind"] 1 [] (qd zK)) (f0 [] []) (fun _ _ _ _ _ _ _ _ _ _ _=>⟨(qE (i:=0) (nd ["kind"])),u9,(qG qt qs (qc 0) (gI T.c_MOST))⟩)) qf))))))
theorem zT:qp ["one","other","rest"] ["one","other"] (qd qX):=⟨rfl,rfl,rfl,by decide +kernel,rfl,by decide +kernel,by decide +kernel⟩
theorem q21 (F:Fun K "greatest_divisor" "greatest_divisor" qX f fd) (m:mg "greatest_divisor"=some (.ref f)) (T:Txt K mg):Q21 P w K mg base:=by
 refine ⟨f,fd,?_,m,F.kp,F.binds fun _ _ _ _ _ _ us hl=>match us,hl with | [_,_],_=>rfl⟩
 exact qu (N:=["one","other","rest"]) (O:=[]) (body:=jQ) F zT (by decide) fun cdv A outer s H E B hr=>(qg (qfs PassesOwn.never (qS qad uE (qc 1) ql (qH _)) (qg (zf (i:=2) zT.nd (qw qbd vZ (qc 0) (qc 1)))
   (qg (zf (i:=0) zT.nd (qc 1))
   (qi (zf (i:=1) zT.nd (qc 2))))))
   (qi (qy (qc 0))))
theorem vE:qp ["top","bottom","divisor"] ["top","bottom"] (qd zX):=⟨rfl,rfl,rfl,by decide +kernel,rfl,by decide +kernel,by decide +kernel⟩
theorem q22 (F:Fun K "lowest_terms" "lowest_terms" zX f fd) (m:mg "lowest_terms"=some (.ref f)) (T:Txt K mg) (C_greatest_divisor:Q21 P w K mg base):Q22 P w K mg base:=by
 refine ⟨f,fd,?_,m,F.kp,F.binds fun _ _ _ _ _ _ us hl=>match us,hl with | [_,_],_=>rfl⟩
 exact qu (N:=["top","bottom","divisor"]) (O:=[]) (body:=ux) F vE (by decide) fun cdv A outer s H E B hr=>(qg (zf (i:=2) vE.nd (dC C_greatest_divisor hr (qb (qc 0) (qb (qc 1) qf))))
   (qi (qy (yS (qb (qw vY uT (qc 0) (qc 2)) (qb (qw vY uT (qc 1) (qc 2)) qf))))))
theorem qjt:qp ["one","other"] ["one","other"] (qd qaq):=⟨rfl,rfl,rfl,by decide +kernel,rfl,by decide +kernel,by decide +kernel⟩
theorem q23 (F:Fun K "added" "added" qaq f fd) (m:mg "added"=some (.ref f)) (T:Txt K mg) (C_lowest_terms:Q22 P w K mg base):Q23 P w K mg base:=by
 refine ⟨f,fd,?_,m,F.kp,F.binds fun _ _ _ _ _ _ us hl=>match us,hl with | [_,_],_=>rfl⟩
 exact qu (N:=["one","other"]) (O:=[]) (body:=qeU) F qjt (by decide) fun cdv A outer s H E B hr=>(qi (qy (dC C_lowest_terms hr (qb (qw zp zq (qw zC qW (qG qt qs (qc 0) (gI T.c_TOP)) (qG qt qs (qc 1) (gI T.c_BOTTOM))) (qw zC qW (qG qt qs (qc 1) (gI T.c_TOP)) (qG qt qs (qc 0) (gI T.c_BOTTOM)))) (qb (qw zC qW (qG qt qs (qc 0) (gI T.c_BOTTOM)) (qG qt qs (qc 1) (gI T.c_BOTTOM))) qf)))))
theorem uf:qp ["store","room","price","top","kind","more"] ["store","room","price"] (qd yL):=⟨rfl,rfl,rfl,by decide +kernel,rfl,by decide +kernel,by decide +kernel⟩
theorem q24 (F:Fun K "bound_of" "bound_of" yL f fd) (m:mg "bound_of"=some (.ref f)) (T:Txt K mg) (C_lowest_terms:Q22 P w K mg base):Q24 P w K mg base:=by
 refine ⟨f,fd,?_,m,F.kp,F.binds fun _ _ _ _ _ _ us hl=>match us,hl with | [_,_,_],_=>rfl⟩
 exact qu (N:=["store","room","price","top","kind","more"]) (O:=[]) (body:=qaw) F uf (by decide) fun cdv A outer s H E B hr=>(qg (zf (i:=3) uf.nd (qw zC qW (qc 1) (qG qt qs (qc 2) (gI T.c_TOP))))
   (qg (wN PassesOwn.never rfl (jX (qc 0)) (qE (i:=4) uf.nd) (qg (zf (i:=5) uf.nd (qw qdz qbo (qw zC qW (qG qt qs (qc 4) (gI T.c_WORTH)) (qG qt qs (qc 2) (gI T.c_BOTTOM))) (qw zC qW (qG qt qs (qc 4) (gI T.c_WEIGHT)) (qG qt qs (qc 2) (gI T.c_TOP)))))
   (qg (yg (DW.dt (qjC (qS qad uE (qc 5) ql (qH _)) (qgU (qS qdA qbr (qG qt qs (qc 4) (gI T.c_MOST)) qbj (qH _))))) (qi (qy qbj)) qJ)
   (qi (yg (qS qad uE (qc 5) ql (qH _)) (qi (zf (i:=3) uf.nd (qw zp zq (qc 3) (qw zC qW (qc 5) (qG qt qs (qc 4) (gI T.c_MOST)))))) qJ)))))
   (qi (qy (dC C_lowest_terms hr (qb (qc 3) (qb (qG qt qs (qc 2) (gI T.c_BOTTOM)) qf)))))))
theorem qib:qp ["price","more"] ["price","more"] (qd vL):=⟨rfl,rfl,rfl,by decide +kernel,rfl,by decide +kernel,by decide +kernel⟩
theorem q25 (F:Fun K "lesser" "lesser" vL f fd) (m:mg "lesser"=some (.ref f)) (T:Txt K mg):Q25 P w K mg base:=by
 refine ⟨f,fd,?_,m,F.kp,F.binds fun _ _ _ _ _ _ us hl=>match us,hl with | [_,_],_=>rfl⟩
 exact qu (N:=["price","more"]) (O:=[]) (body:=qc7) F qib (by decide) fun cdv A outer s H E B hr=>(qi (qy (qgW (qS qeA qbq (qw zC qW (qG qt qs (qc 0) (gI T.c_TOP)) (qG qt qs (qc 1) (gI T.c_BOTTOM))) (qw zC qW (qG qt qs (qc 1) (gI T.c_TOP)) (qG qt qs (qc 0) (gI T.c_BOTTOM))) (qH _)) (qc 0) (qc 1))))
theorem qb6:qp ["room","price"] ["room","price"] (qd jj):=⟨rfl,rfl,rfl,by decide +kernel,rfl,by decide +kernel,by decide +kernel⟩
theorem q26 (F:Fun K "times_price" "times_price" jj f fd) (m:mg "times_price"=some (.ref f)) (T:Txt K mg):Q26 P w K mg base:=by
 refine ⟨f,fd,?_,m,F.kp,F.binds fun _ _ _ _ _ _ us hl=>match us,hl with | [_,_],_=>rfl⟩
 exact qu (N:=["room","price"]) (O:=[]) (body:=u0) F qb6 (by decide) fun cdv A outer s H E B hr=>(qi (qy (yS (qb (qw zC qW (qc 0) (qG qt qs (qc 1) (gI T.c_TOP))) (qb (qG qt qs (qc 1) (gI T.c_BOTTOM)) qf)))))
theorem qe8:qp ["thing"] ["thing"] (qd yM):=⟨rfl,rfl,rfl,by decide +kernel,rfl,by decide +kernel,by decide +kernel⟩
theorem q27 (F:Fun K "is_price" "is_price" yM f fd) (m:mg "is_price"=some (.ref f)) (T:Txt K mg) (C_greatest_divisor:Q21 P w K mg base) (C_is_count:Q6 P w K mg base):Q27 P w K mg base:=by
 refine ⟨f,fd,?_,m,F.kp,F.binds fun _ _ _ _ _ _ us hl=>match us,hl with | [_],_=>rfl⟩
 exact qu (N:=["thing"]) (O:=[]) (body:=qax) F qe8 (by decide) fun cdv A outer s H E B hr=>(qg (yg (DW.dt (qaR (yA (yf (qbt vf rfl T.b_isinstance rfl T.b_tuple uW (qc 0) zM))) (vT (qS (qaJ hr) vh (qB zy zA rfl T.b_len uH (qb (qc 0) qf)) ql (qH _))))) (qi (qy wG)) qJ)
   (qg (yg (DW.dt (qaR (yA (yf (dC C_is_count hr (qb (qG qt qs (qc 0) (gI T.c_TOP)) qf)))) (qaR (yA (yf (dC C_is_count hr (qb (qG qt qs (qc 0) (gI T.c_BOTTOM)) qf)))) (vT (qS (vU hr) ut (qG qt qs (qc 0) (gI T.c_BOTTOM)) ql (qH _)))))) (qi (qy wG)) qJ)
   (qi (qy (vc (vU hr) ut (dC C_greatest_divisor hr (qb (qG qt qs (qc 0) (gI T.c_TOP)) (qb (qG qt qs (qc 0) (gI T.c_BOTTOM)) qf))) ql (qH _))))))
theorem qds:qp ["thing"] ["thing"] (qd jE):=⟨rfl,rfl,rfl,by decide +kernel,rfl,by decide +kernel,by decide +kernel⟩
theorem q28 (F:Fun K "need_price" "need_price" jE f fd) (m:mg "need_price"=some (.ref f)) (T:Txt K mg) (C_is_price:Q27 P w K mg base):Q28 P w K mg base:=by
 refine ⟨f,fd,?_,m,F.kp,F.binds fun _ _ _ _ _ _ us hl=>match us,hl with | [_],_=>rfl⟩
 exact qu (N:=["thing"]) (O:=[]) (body:=yp) F qds (by decide) fun cdv A outer s H E B hr=>(qi (yg (yA (yf (dC C_is_price hr (qb (qc 0) qf)))) (qi yU) qJ))
theorem qaO:qp ["store","one","other","price","more","rooms"] ["store","one","other","price","more"] (qd j9):=⟨rfl,rfl,rfl,by decide +kernel,rfl,by decide +kernel,by decide +kernel⟩
theorem q29 (F:Fun K "two_bound" "two_bound" j9 f fd) (m:mg "two_bound"=some (.ref f)) (T:Txt K mg) (C_added:Q23 P w K mg base) (C_bound_of:Q24 P w K mg base) (C_lesser:Q25 P w K mg base) (C_times_price:Q26 P w K mg base) (C_need_stowable:Q10 P w K mg base) (C_need_price:Q28 P w K mg base) (C_need_count:Q11 P w K mg base) (C_need_store:Q9 P w K mg base):Q29 P w K mg base:=by
 refine ⟨f,fd,?_,m,F.kp,F.binds fun _ _ _ _ _ _ us hl=>match us,hl with | [_,_,_,_,_],_=>rfl⟩
 exact qu (N:=["store","one","other","price","more","rooms"]) (O:=[]) (body:=wn) F qaO (by decide) fun cdv A outer s H E B hr=>(qg (qU (dC C_need_store hr (qb (qc 0) qf)))
   (qg (qU (dC C_need_count hr (qb (qc 1) qf)))
   (qg (qU (dC C_need_count hr (qb (qc 2) qf)))
   (qg (qU (dC C_need_price hr (qb (qc 3) qf)))
   (qg (qU (dC C_need_price hr (qb (qc 4) qf)))
   (qg (qU (dC C_need_stowable hr (qb (qc 0) qf)))
   (qg (zf (i:=5) qaO.nd (dC C_added hr (qb (dC C_times_price hr (qb (qc 1) (qb (qc 3) qf))) (qb (dC C_times_price hr (qb (qc 2) (qb (qc 4) qf))) qf))))
   (qi (qy (dC C_added hr (qb (qc 5) (qb (dC C_bound_of hr (qb (qc 0) (qb ql (qb (dC C_lesser hr (qb (qc 3) (qb (qc 4) qf))) qf)))) qf))))))))))))
theorem ug:qp ["one","other"] ["one","other"] (qd zY):=⟨rfl,rfl,rfl,by decide +kernel,rfl,by decide +kernel,by decide +kernel⟩
theorem q30 (F:Fun K "_law_divisor" "_law_divisor" zY f fd) (m:mg "_law_divisor"=some (.ref f)) (T:Txt K mg):Q30 P w K mg base:=by
 refine ⟨f,fd,?_,m,F.kp,F.binds fun _ _ _ _ _ _ us hl=>match us,hl with | [_,_],_=>rfl⟩
 exact qu (N:=["one","other"]) (O:=[]) (body:=uy) F ug (by decide) fun cdv A outer s H E B hr=>(qg (qdZ (i:=0) (j:=1) ug.nd (qb (qB qfb qdR rfl T.b_abs qjO (qb (qc 0) qf)) (qb (qB qfb qdR rfl T.b_abs qjO (qb (qc 1) qf)) qf)) rfl)
   (qg (qfs PassesOwn.never (qS qad uE (qc 1) ql (qH _)) (qi (qdZ (i:=0) (j:=1) ug.nd (qb (qc 1) (qb (qw qbd vZ (qc 0) (qc 1)) qf)) rfl)))
   (qi (qy (qc 0)))))
theorem qbT:qp ["top","bottom","by"] ["top","bottom"] (qd yN):=⟨rfl,rfl,rfl,by decide +kernel,rfl,by decide +kernel,by decide +kernel⟩
theorem q31 (F:Fun K "_law_low" "_law_low" yN f fd) (m:mg "_law_low"=some (.ref f)) (T:Txt K mg) (C__law_divisor:Q30 P w K mg base):Q31 P w K mg base:=by
 refine ⟨f,fd,?_,m,F.kp,F.binds fun _ _ _ _ _ _ us hl=>match us,hl with | [_,_],_=>rfl⟩
 exact qu (N:=["top","bottom","by"]) (O:=[]) (body:=qay) F qbT (by decide) fun cdv A outer s H E B hr=>(qg (zf (i:=2) qbT.nd (dC C__law_divisor hr (qb (qc 0) (qb (qc 1) qf))))
   (qi (qy (yS (qb (qw vY uT (qc 0) (qc 2)) (qb (qw vY uT (qc 1) (qc 2)) qf))))))
theorem vX:qp ["one","seconds","room","left"] ["one","seconds","room"] (qd zQ):=⟨rfl,rfl,rfl,by decide +kernel,rfl,by decide +kernel,by decide +kernel⟩
theorem q32 (F:Fun K "best_beside" "best_beside" zQ f fd) (m:mg "best_beside"=some (.ref f)) (T:Txt K mg):Q32 P w K mg base:=by
 refine ⟨f,fd,?_,m,F.kp,F.binds fun _ _ _ _ _ _ us hl=>match us,hl with | [_,_,_],_=>rfl⟩
 exact qu (N:=["one","seconds","room","left"]) (O:=[]) (body:=u4) F vX (by decide) fun cdv A outer s H E B hr=>(qg (zf (i:=3) vX.nd (qw qdz qbo (qc 2) (qG qt qs (qc 0) (gI T.c_WEIGHT))))
   (qi (qy (qw zp zq (qG qt qs (qc 0) (gI T.c_WORTH)) (qB (wR rfl) vG rfl T.b_max qcj (qb (z6 (fo:=none) rfl (jX (qc 1)) (cs ["one","seconds","room","left"] ["other","left"] 1 [3] (qd zQ)) (f0 [3] []) (fun _ _ _ _ _ _ _ _ _ _ _=>⟨(qE (i:=0) (nd ["other","left"])),(qbv (qS qeA qbq (qG qt qs (qc 0) (gI T.c_WEIGHT)) (qc 1) (qH _))),(qG qt qs (qc 0) (gI T.c_WORTH))⟩)) qf))))))
theorem qaY:qp ["weighed"] ["weighed"] (qd zF):=⟨rfl,rfl,rfl,by decide +kernel,rfl,by decide +kernel,by decide +kernel⟩
theorem q33 (F:Fun K "beating_order" "beating_order" zF f fd) (m:mg "beating_order"=some (.ref f)) (T:Txt K mg):Q33 P w K mg base:=by
 refine ⟨f,fd,?_,m,F.kp,F.binds fun _ _ _ _ _ _ us hl=>match us,hl with | [_],_=>rfl⟩
 exact qu (N:=["weighed"]) (O:=[]) (body:=y9) F qaY (by decide) fun cdv A outer s H E B hr=>(qi (qy (yS (qb (qG qt qs (qc 0) (gI T.c_WEIGHT)) (qb (qjN (qG qt qs (qc 0) (gI T.c_WORTH))) (qb (qG qt qs (qc 0) (gI T.c_LOAD)) qf))))))
theorem jL:qp ["kinds","loads","kind","longer","load"] ["kinds"] (qd jv):=⟨rfl,rfl,rfl,by decide +kernel,rfl,by decide +kernel,by decide +kernel⟩
theorem q34 (F:Fun K "all_loads" "all_loads" jv f fd) (m:mg "all_loads"=some (.ref f)) (T:Txt K mg):Q34 P w K mg base:=by
 refine ⟨f,fd,?_,m,F.kp,F.binds fun _ _ _ _ _ _ us hl=>match us,hl with | [_],_=>rfl⟩
 exact qu (N:=["kinds","loads","kind","longer","load"]) (O:=[3]) (body:=wo) F jL (by decide) fun cdv A outer s H E B hr=>(qg (zf (i:=1) jL.nd (qbk (qb (yS qf) qf)))
   (qg (wN PassesOwn.never rfl (jX (qc 0)) (qE (i:=2) jL.nd) (qg (qbx (i:=3) jL.nd (qfm qf))
   (qg (wN PassesOwn.never rfl (jX (qc 1)) (qE (i:=4) jL.nd) (qi (qU (qd8 (i:=3) (z6 (fo:=none) rfl (vg rfl T.b_range (qb (qw zp zq (qG qt qs (qc 2) (gI T.c_MOST)) ql) qf)) (cs ["kinds","loads","kind","longer","load"] ["times","load"] 1 [4] (qd jv)) (f0 [4] [3]) (fun _ _ _ _ _ _ _ _ _ _ _=>⟨(qE (i:=0) (nd ["times","load"])),u9,(qw zp zq (qc 1) (yS (qb (qc 0) qf)))⟩))))))
   (qi (qhq (i:=1) (j:=3) jL.nd)))))
   (qi (qy (qc 1)))))
theorem qb7:qp ["kinds"] ["kinds"] (qd zR):=⟨rfl,rfl,rfl,by decide +kernel,rfl,by decide +kernel,by decide +kernel⟩
theorem q35 (F:Fun K "all_weighed" "all_weighed" zR f fd) (m:mg "all_weighed"=some (.ref f)) (T:Txt K mg) (C_all_loads:Q34 P w K mg base) (C_taken_together:Q15 P w K mg base):Q35 P w K mg base:=by
 refine ⟨f,fd,?_,m,F.kp,F.binds fun _ _ _ _ _ _ us hl=>match us,hl with | [_],_=>rfl⟩
 exact qu (N:=["kinds"]) (O:=[]) (body:=u5) F qb7 (by decide) fun cdv A outer s H E B hr=>(qi (qy (z6 (fo:=none) rfl (jX (dC C_all_loads hr (qb (qc 0) qf))) (cs ["kinds"] ["load","kinds"] 1 [0] (qd zR)) (f0 [0] []) (fun _ _ _ _ _ _ _ _ _ _ _=>⟨(qE (i:=0) (nd ["load","kinds"])),u9,(yS (qb (dC C_taken_together hr (qb (qc 1) (qb (qc 0) (qb (gI T.c_WEIGHT) qf)))) (qb (dC C_taken_together hr (qb (qc 1) (qb (qc 0) (qb (gI T.c_WORTH) qf)))) (qb (qc 0) qf))))⟩))))
theorem u8:qp ["kinds","kept","weighed"] ["kinds"] (qd jF):=⟨rfl,rfl,rfl,by decide +kernel,rfl,by decide +kernel,by decide +kernel⟩
theorem q36 (F:Fun K "not_beaten" "not_beaten" jF f fd) (m:mg "not_beaten"=some (.ref f)) (T:Txt K mg) (C_beating_order:Q33 P w K mg base) (C_all_weighed:Q35 P w K mg base):Q36 P w K mg base:=by
 refine ⟨f,fd,?_,m,F.kp,F.binds fun _ _ _ _ _ _ us hl=>match us,hl with | [_],_=>rfl⟩
 exact qu (N:=["kinds","kept","weighed"]) (O:=[1]) (body:=vq) F u8 (by decide) fun cdv A outer s H E B hr=>(qg (qbx (i:=1) u8.nd (qfm qf))
   (qg (wN PassesOwn.never rfl (jX (qiZ (dC C_all_weighed hr (qb (qc 0) qf)) C_beating_order hr rfl T.b_sorted)) (qE (i:=2) u8.nd) (qi (yg (DW.dt (qaR (qli (i:=1) (qS (vU hr) ut (qc 1) (qbk qf) (qH _))) (vT (qS qad uE (qG qt qs (qc 2) (gI T.c_WORTH)) (qG qt qs (qjK (i:=1) (qjN ql)) (gI T.c_WORTH)) (qH _))))) (qi (qU (qdV (i:=1) (qc 2)))) qJ)))
   (qi (qkP (i:=1)))))
theorem qb8:qp ["store"] ["store"] (qd jk):=⟨rfl,rfl,rfl,by decide +kernel,rfl,by decide +kernel,by decide +kernel⟩
theorem q37 (F:Fun K "second_half" "second_half" jk f fd) (m:mg "second_half"=some (.ref f)) (T:Txt K mg):Q37 P w K mg base:=by
 refine ⟨f,fd,?_,m,F.kp,F.binds fun _ _ _ _ _ _ us hl=>match us,hl with | [_],_=>rfl⟩
 exact qu (N:=["store"]) (O:=[]) (body:=u6) F qb8 (by decide) fun cdv A outer s H E B hr=>(qi (qy (qd7 (qc 0) (qg5 (qw vY uT (qB zy zA rfl T.b_len uH (qb (qc 0) qf)) ql)) qg4)))
theorem qdt:qp ["store"] ["store"] (qd jG):=⟨rfl,rfl,rfl,by decide +kernel,rfl,by decide +kernel,by decide +kernel⟩
theorem q38 (F:Fun K "first_half" "first_half" jG f fd) (m:mg "first_half"=some (.ref f)) (T:Txt K mg):Q38 P w K mg base:=by
 refine ⟨f,fd,?_,m,F.kp,F.binds fun _ _ _ _ _ _ us hl=>match us,hl with | [_],_=>rfl⟩
 exact qu (N:=["store"]) (O:=[]) (body:=vt) F qdt (by decide) fun cdv A outer s H E B hr=>(qi (qy (qd7 (qc 0) qg4 (qg5 (qw vY uT (qB zy zA rfl T.b_len uH (qb (qc 0) qf)) ql)))))
theorem qdu:qp ["store"] ["store"] (qd jH):=⟨rfl,rfl,rfl,by decide +kernel,rfl,by decide +kernel,by decide +kernel⟩
theorem q39 (F:Fun K "half_loads" "half_loads" jH f fd) (m:mg "half_loads"=some (.ref f)) (T:Txt K mg) (C_not_beaten:Q36 P w K mg base) (C_second_half:Q37 P w K mg base) (C_first_half:Q38 P w K mg base) (C_need_single:Q4 P w K mg base) (C_need_store:Q9 P w K mg base):Q39 P w K mg base:=by
 refine ⟨f,fd,?_,m,F.kp,F.binds fun _ _ _ _ _ _ us hl=>match us,hl with | [_],_=>rfl⟩
 exact qu (N:=["store"]) (O:=[]) (body:=vv) F qdu (by decide) fun cdv A outer s H E B hr=>(qg (qU (dC C_need_store hr (qb (qc 0) qf)))
   (qg (qU (dC C_need_single hr (qb (qc 0) qf)))
   (qi (qy (yS (qb (dC C_not_beaten hr (qb (dC C_first_half hr (qb (qc 0) qf)) qf)) (qb (dC C_not_beaten hr (qb (dC C_second_half hr (qb (qc 0) qf)) qf)) qf)))))))
theorem qaP:qp ["store","room","both"] ["store","room"] (qd jw):=⟨rfl,rfl,rfl,by decide +kernel,rfl,by decide +kernel,by decide +kernel⟩
theorem q40 (F:Fun K "met_worth" "met_worth" jw f fd) (m:mg "met_worth"=some (.ref f)) (T:Txt K mg) (C_best_beside:Q32 P w K mg base) (C_half_loads:Q39 P w K mg base) (C_need_count:Q11 P w K mg base) (C_need_store:Q9 P w K mg base):Q40 P w K mg base:=by
 refine ⟨f,fd,?_,m,F.kp,F.binds fun _ _ _ _ _ _ us hl=>match us,hl with | [_,_],_=>rfl⟩
 exact qu (N:=["store","room","both"]) (O:=[]) (body:=wp) F qaP (by decide) fun cdv A outer s H E B hr=>(qg (qU (dC C_need_store hr (qb (qc 0) qf)))
   (qg (qU (dC C_need_count hr (qb (qc 1) qf)))
   (qg (zf (i:=2) qaP.nd (dC C_half_loads hr (qb (qc 0) qf)))
   (qi (qy (qB (wR rfl) vG rfl T.b_max qcj (qb (z6 (fo:=none) rfl (jX (qG qt qs (qc 2) ql)) (cs ["store","room","both"] ["one","room","both"] 1 [1,2] (qd jw)) (f0 [1,2] []) (fun _ _ _ _ _ _ _ _ _ _ _=>⟨(qE (i:=0) (nd ["one","room","both"])),(qbv (qS qeA qbq (qG qt qs (qc 0) (gI T.c_WEIGHT)) (qc 1) (qH _))),(dC C_best_beside hr (qb (qc 0) (qb (qG qt qs (qc 2) ql) (qb (qc 1) qf))))⟩)) qf)))))))
theorem qdv:qp ["store","one","other"] ["store","one","other"] (qd jI):=⟨rfl,rfl,rfl,by decide +kernel,rfl,by decide +kernel,by decide +kernel⟩
theorem q41 (F:Fun K "stows_many" "stows_many" jI f fd) (m:mg "stows_many"=some (.ref f)) (T:Txt K mg) (C_all_that_fit:Q12 P w K mg base):Q41 P w K mg base:=by
 refine ⟨f,fd,?_,m,F.kp,F.binds fun _ _ _ _ _ _ us hl=>match us,hl with | [_,_,_],_=>rfl⟩
 exact qu (N:=["store","one","other"]) (O:=[]) (body:=vw) F qdv (by decide) fun cdv A outer s H E B hr=>(qi (qy (qB zy zA rfl T.b_len uH (qb (dC C_all_that_fit hr (qb (qc 0) (qb (qc 1) (qb (qc 2) qf)))) qf))))
theorem qew:qp ["store","stow","sack"] ["store","stow","sack"] (qd jx):=⟨rfl,rfl,rfl,by decide +kernel,rfl,by decide +kernel,by decide +kernel⟩
theorem q42 (F:Fun K "weight_in" "weight_in" jx f fd) (m:mg "weight_in"=some (.ref f)) (T:Txt K mg):Q42 P w K mg base:=by
 refine ⟨f,fd,?_,m,F.kp,F.binds fun _ _ _ _ _ _ us hl=>match us,hl with | [_,_,_],_=>rfl⟩
 exact qu (N:=["store","stow","sack"]) (O:=[]) (body:=wv) F qew (by decide) fun cdv A outer s H E B hr=>(qi (qy (qB (qa1 rfl) wL rfl T.b_sum qfp (qb (z6 (fo:=none) rfl (qdX rfl T.b_zip (qb (qc 0) (qb (qc 1) qf))) (cs ["store","stow","sack"] ["kind","where","sack"] 2 [2] (qd jx)) (f0 [2] []) (fun _ _ _ _ _ _ _ _ _ _ _=>⟨(qaG (n:=2) rfl (zw (qE (i:=0) (nd ["kind","where","sack"])) (zw (qE (i:=1) (nd ["kind","where","sack"])) vd))),(qbv (qS (vU hr) ut (qc 1) (qc 2) (qH _))),(qG qt qs (qc 0) (gI T.c_WEIGHT))⟩)) qf))))
theorem qe9:qp ["kind","sack"] ["kind","sack"] (qd yO):=⟨rfl,rfl,rfl,by decide +kernel,rfl,by decide +kernel,by decide +kernel⟩
theorem q43 (F:Fun K "can_stow" "can_stow" yO f fd) (m:mg "can_stow"=some (.ref f)) (T:Txt K mg) (C_is_count:Q6 P w K mg base) (C_sacks_for:Q1 P w K mg base):Q43 P w K mg base:=by
 refine ⟨f,fd,?_,m,F.kp,F.binds fun _ _ _ _ _ _ us hl=>match us,hl with | [_,_],_=>rfl⟩
 exact qu (N:=["kind","sack"]) (O:=[]) (body:=qaz) F qe9 (by decide) fun cdv A outer s H E B hr=>(qi (qy (qdO (dC C_is_count hr (qb (qc 1) qf)) (qaF (vc qeA qbq (qc 1) (dC C_sacks_for hr (qb (qc 0) qf)) (qH _))))))
theorem qgr:qp ["thing","store"] ["thing","store"] (qd y7):=⟨rfl,rfl,rfl,by decide +kernel,rfl,by decide +kernel,by decide +kernel⟩
theorem q44 (F:Fun K "is_stow" "is_stow" y7 f fd) (m:mg "is_stow"=some (.ref f)) (T:Txt K mg) (C_can_stow:Q43 P w K mg base) (C_need_stowable:Q10 P w K mg base):Q44 P w K mg base:=by
 refine ⟨f,fd,?_,m,F.kp,F.binds fun _ _ _ _ _ _ us hl=>match us,hl with | [_,_],_=>rfl⟩
 exact qu (N:=["thing","store"]) (O:=[]) (body:=qbN) F qgr (by decide) fun cdv A outer s H E B hr=>(qg (qU (dC C_need_stowable hr (qb (qc 1) qf)))
   (qg (yg (DW.dt (qaR (yA (yf (qbt vf rfl T.b_isinstance rfl T.b_tuple uW (qc 0) zM))) (vT (qS (qaJ hr) vh (qB zy zA rfl T.b_len uH (qb (qc 0) qf)) (qB zy zA rfl T.b_len uH (qb (qc 1) qf)) (qH _))))) (qi (qy wG)) qJ)
   (qi (qy (qB (qa0 rfl) wK rfl T.b_all qfo (qb (z6 (fo:=none) rfl (qdX rfl T.b_zip (qb (qc 1) (qb (qc 0) qf))) (cs ["thing","store"] ["kind","sack"] 2 [] (qd y7)) (f0 [] []) (fun _ _ _ _ _ _ _ _ _ _ _=>⟨(qaG (n:=2) rfl (zw (qE (i:=0) (nd ["kind","sack"])) (zw (qE (i:=1) (nd ["kind","sack"])) vd))),u9,(dC C_can_stow hr (qb (qc 0) (qb (qc 1) qf)))⟩)) qf))))))
theorem qex:qp ["store","thing"] ["store","thing"] (qd ya):=⟨rfl,rfl,rfl,by decide +kernel,rfl,by decide +kernel,by decide +kernel⟩
theorem q45 (F:Fun K "need_stow" "need_stow" ya f fd) (m:mg "need_stow"=some (.ref f)) (T:Txt K mg) (C_is_stow:Q44 P w K mg base):Q45 P w K mg base:=by
 refine ⟨f,fd,?_,m,F.kp,F.binds fun _ _ _ _ _ _ us hl=>match us,hl with | [_,_],_=>rfl⟩
 exact qu (N:=["store","thing"]) (O:=[]) (body:=uc) F qex (by decide) fun cdv A outer s H E B hr=>(qi (yg (yA (yf (dC C_is_stow hr (qb (qc 1) (qb (qc 0) qf))))) (qi yU) qJ))
theorem qbU:qp ["store","stow"] ["store","stow"] (qd zZ):=⟨rfl,rfl,rfl,by decide +kernel,rfl,by decide +kernel,by decide +kernel⟩
theorem q46 (F:Fun K "stow_weights" "stow_weights" zZ f fd) (m:mg "stow_weights"=some (.ref f)) (T:Txt K mg) (C_weight_in:Q42 P w K mg base) (C_need_stow:Q45 P w K mg base):Q46 P w K mg base:=by
 refine ⟨f,fd,?_,m,F.kp,F.binds fun _ _ _ _ _ _ us hl=>match us,hl with | [_,_],_=>rfl⟩
 exact qu (N:=["store","stow"]) (O:=[]) (body:=uz) F qbU (by decide) fun cdv A outer s H E B hr=>(qg (qU (dC C_need_stow hr (qb (qc 0) (qb (qc 1) qf))))
   (qi (qy (yS (qb (dC C_weight_in hr (qb (qc 0) (qb (qc 1) (qb ql qf)))) (qb (dC C_weight_in hr (qb (qc 0) (qb (qc 1) (qb ql qf)))) qf))))))
theorem qdw:qp ["store","stow"] ["store","stow"] (qd ja):=⟨rfl,rfl,rfl,by decide +kernel,rfl,by decide +kernel,by decide +kernel⟩
theorem q47 (F:Fun K "stow_worth" "stow_worth" ja f fd) (m:mg "stow_worth"=some (.ref f)) (T:Txt K mg) (C_need_stow:Q45 P w K mg base):Q47 P w K mg base:=by
 refine ⟨f,fd,?_,m,F.kp,F.binds fun _ _ _ _ _ _ us hl=>match us,hl with | [_,_],_=>rfl⟩
 exact qu (N:=["store","stow"]) (O:=[]) (body:=vx) F qdw (by decide) fun cdv A outer s H E B hr=>(qg (qU (dC C_need_stow hr (qb (qc 0) (qb (qc 1) qf))))
   (qi (qy (qB (qa1 rfl) wL rfl T.b_sum qfp (qb (z6 (fo:=none) rfl (qdX rfl T.b_zip (qb (qc 0) (qb (qc 1) qf))) (cs ["store","stow"] ["kind","where"] 2 [] (qd ja)) (f0 [] []) (fun _ _ _ _ _ _ _ _ _ _ _=>⟨(qaG (n:=2) rfl (zw (qE (i:=0) (nd ["kind","where"])) (zw (qE (i:=1) (nd ["kind","where"])) vd))),(qbv (qS qad uE (qc 1) ql (qH _))),(qG qt qs (qc 0) (gI T.c_WORTH))⟩)) qf)))))
theorem wy:qp ["store","one","other","fitting","best"] ["store","one","other"] (qd jJ):=⟨rfl,rfl,rfl,by decide +kernel,rfl,by decide +kernel,by decide +kernel⟩
theorem q48 (F:Fun K "two_stow" "two_stow" jJ f fd) (m:mg "two_stow"=some (.ref f)) (T:Txt K mg) (C_all_that_fit:Q12 P w K mg base):Q48 P w K mg base:=by
 refine ⟨f,fd,?_,m,F.kp,F.binds fun _ _ _ _ _ _ us hl=>match us,hl with | [_,_,_],_=>rfl⟩
 exact qu (N:=["store","one","other","fitting","best"]) (O:=[]) (body:=qaA) F wy (by decide) fun cdv A outer s H E B hr=>(qg (zf (i:=3) wy.nd (dC C_all_that_fit hr (qb (qc 0) (qb (qc 1) (qb (qc 2) qf)))))
   (qg (zf (i:=4) wy.nd (qB (wR rfl) vG rfl T.b_max qcj (qb (z6 (fo:=none) rfl (jX (qc 3)) (cs ["store","one","other","fitting","best"] ["way"] 1 [] (qd jJ)) (f0 [] []) (fun _ _ _ _ _ _ _ _ _ _ _=>⟨(qE (i:=0) (nd ["way"])),u9,(qG qt qs (qc 0) (gI T.c_STOW_WORTH))⟩)) qf)))
   (qi (qy (qG qt qs (z6 (fo:=none) rfl (jX (qc 3)) (cs ["store","one","other","fitting","best"] ["way","best"] 1 [4] (qd jJ)) (f0 [4] []) (fun _ _ _ _ _ _ _ _ _ _ _=>⟨(qE (i:=0) (nd ["way","best"])),(qbv (qS (vU hr) ut (qG qt qs (qc 0) (gI T.c_STOW_WORTH)) (qc 1) (qH _))),(qG qt qs (qc 0) (gI T.c_STOW))⟩)) ql)))))
theorem js:qp ["box","most","far","found","k","heft","gain"] ["box","most"] (qd jm):=⟨rfl,rfl,rfl,by decide +kernel,rfl,by decide +kernel,by decide +kernel⟩
theorem q49 (F:Fun K "_law_single" "_law_single" jm f fd) (m:mg "_law_single"=some (.ref f)) (T:Txt K mg) (C__law_take:Q14 P w K mg base):Q49 P w K mg base:=by
 refine ⟨f,fd,?_,m,F.kp,F.binds fun _ _ _ _ _ _ us hl=>match us,hl with | [_,_],_=>rfl⟩
 show qcc P w K mg base CX0 2 f fd ["box","most"] (qjL K (qcJ (["box","most","far","found","k","heft","gain"]:List Str).length (["box","most"]:List Str).length yD))
 refine qmQ (N:=["box","most","far","found","k","heft","gain"]) (ps:=["box","most"]) (k:=1) (O:=[0,3]) (body:=yD) F js ?a ?a0 ?b
 case a=>decide
 case a0=>decide
 intro cdv A outer s H E B Io S hr
 exact (qg (zf (i:=2) js.nd (qG qt qs (qbk (qb ql (qb ql (qb (qw qmj qk0 ql ql) qf)))) (iC (i:=0) C__law_take hr (qb ql qf))))
   (qg (qbx (i:=3) js.nd (qfm qf))
   (qg (wN PassesOwn.never rfl (vg rfl T.b_range (qb (iC (i:=0) C__law_take hr (qb (qw zp zq (qc 1) ql) qf)) qf)) (qE (i:=4) js.nd) (qg (qdZ (i:=5) (j:=6) js.nd (qb (qw zp zq (qw zC qW (qc 2) (qw zp zq ql (iC (i:=0) C__law_take hr (qb ql qf)))) (qw zC qW (qc 4) (qw qdz qbo (qc 2) ql))) (qb (iC (i:=0) C__law_take hr (qb ql qf)) qf)) rfl)
   (qi (qU (qdV (i:=3) (yS (qb (qc 5) (qb (qc 6) (qb (qdP qgI qf4 rfl T.b_int qjP (qb (vc qad uE (iC (i:=0) C__law_take hr (qb ql qf)) ql (qH _)) qf)) qf)))))))))
   (qi (qy (qkN (i:=3) rfl T.b_tuple uW))))))
theorem jh:qp ["script","k","here","number","j","part"] ["script","k"] (qd yP):=⟨rfl,rfl,rfl,by decide +kernel,rfl,by decide +kernel,by decide +kernel⟩
theorem q50 (F:Fun K "_law_box" "_law_box" yP f fd) (m:mg "_law_box"=some (.ref f)) (T:Txt K mg):Q50 P w K mg base:=by
 refine ⟨f,fd,?_,m,F.kp,F.binds fun _ _ _ _ _ _ us hl=>match us,hl with | [_,_],_=>rfl⟩
 exact qu (N:=["script","k","here","number","j","part"]) (O:=[]) (body:=vP) F jh (by decide) fun cdv A outer s H E B hr=>(qg (zf (i:=2) jh.nd (qw zp zq (qw zC qW ql (qc 1)) ql))
   (qg (yg (qS qml qjE (qc 1) (qB zy zA rfl T.b_len uH (qb (qc 0) qf)) (qH _)) (qi (zf (i:=2) jh.nd (qG qt qs (qc 0) (qc 1)))) qJ)
   (qg (yg (qS (vU hr) ut (qw qbd vZ (qc 2) ql) ql (qH _)) (qi (qy (qbk (qb (qw vY uT (qc 2) ql) qf)))) qJ)
   (qg (zf (i:=3) jh.nd ql)
   (qg (wN PassesOwn.never rfl (vg rfl T.b_range (qb ql qf)) (qE (i:=4) jh.nd) (qg (zf (i:=5) jh.nd (qw qbd vZ (qw zp zq (qw zp zq (qw zC qW (qw qbd vZ (qc 2) ql) ql) (qw zC qW ql (qc 4))) ql) ql))
   (qg (zf (i:=5) jh.nd (qw qbd vZ (qw zC qW (qc 5) (qc 5)) ql))
   (qi (zf (i:=3) jh.nd (qw zp zq (qw zC qW (qc 3) ql) (qw qbd vZ (qw zC qW (qc 5) (qw zp zq (qc 5) ql)) ql)))))))
   (qi (qy (qbk (qb (qc 3) qf)))))))))
theorem ur:qp ["script","k","box","store","whole","one","other","best","stow","first","second","alone","price","more","top","bottom"] ["script"] (qd qb1):=⟨rfl,rfl,rfl,by decide +kernel,rfl,by decide +kernel,by decide +kernel⟩
theorem qnQ (F:Fun K "law" "law" qb1 f fd) (T:Txt K mg) (C_two_worth:Q13 P w K mg base) (C__law_take:Q14 P w K mg base) (C_worth:Q19 P w K mg base) (C_whole_load:Q20 P w K mg base) (C_two_bound:Q29 P w K mg base) (C__law_low:Q31 P w K mg base) (C_met_worth:Q40 P w K mg base) (C_stows_many:Q41 P w K mg base) (C_stow_weights:Q46 P w K mg base) (C_is_stow:Q44 P w K mg base) (C_stow_worth:Q47 P w K mg base) (C_two_stow:Q48 P w K mg base) (C__law_single:Q49 P w K mg base) (C__law_box:Q50 P w K mg base):qcc P w K mg base CX0 10 f fd ["script"] (spD K qeV):=by
 exact qu (N:=["script","k","box","store","whole","one","other","best","stow","first","second","alone","price","more","top","bottom"]) (O:=[2]) (body:=qlB) F ur (by decide) fun cdv A outer s H E B hr=>(qg (wN PassesOwn.never rfl (vg rfl T.b_range (qb (qB (qdC rfl) qdT rfl T.b_max qcj (qb ql (qb (qB (qgH rfl) qg1 rfl T.b_min qm0 (qb (qB zy zA rfl T.b_len uH (qb (qc 0) qf)) (qb ql qf))) qf))) qf)) (qE (i:=1) ur.nd) (qg (qbx (i:=2) ur.nd (nC C__law_box hr (qb (qc 0) (qb (qc 1) qf))))
   (qg (zf (i:=3) ur.nd (iC (i:=2) C__law_single hr (qb (qG qt qs (qbk (qb ql (qb ql (qb ql qf)))) (qc 1)) qf)))
   (qg (zf (i:=4) ur.nd (qB (qa1 rfl) wL rfl T.b_sum qfp (qb (z6 (fo:=none) rfl (jX (qc 3)) (cs ["script","k","box","store","whole","one","other","best","stow","first","second","alone","price","more","top","bottom"] ["kind"] 1 [] (qd qb1)) (f0 [] [2]) (fun _ _ _ _ _ _ _ _ _ _ _=>⟨(qE (i:=0) (nd ["kind"])),(qbv (qS (vU hr) ut (qG qt qs (qc 0) ql) ql (qH _))),(qG qt qs (qc 0) ql)⟩)) qf)))
   (qg (qdZ (i:=5) (j:=6) ur.nd (qb (iC (i:=2) C__law_take hr (qb (qw zp zq (qc 4) ql) qf)) (qb (iC (i:=2) C__law_take hr (qb (qw zp zq (qc 4) ql) qf)) qf)) rfl)
   (qg (qdZ (i:=7) (j:=8) ur.nd (qb (dC C_two_worth hr (qb (qc 3) (qb (qc 5) (qb (qc 6) qf)))) (qb (dC C_two_stow hr (qb (qc 3) (qb (qc 5) (qb (qc 6) qf)))) qf)) rfl)
   (qg (yg (DW.dt (qaR (yA (yf (dC C_is_stow hr (qb (qc 8) (qb (qc 3) qf))))) (vT (qS (qaJ hr) vh (dC C_stow_worth hr (qb (qc 3) (qb (qc 8) qf))) (qc 7) (qH _))))) (qi (qy wG)) qJ)
   (qg (qgX (dC C_stow_weights hr (qb (qc 3) (qb (qc 8) qf))) (qaG (n:=2) rfl (zw (qE (i:=9) ur.nd) (zw (qE (i:=10) ur.nd) vd))))
   (qg (yg (DW.dt (qaR (qS qad uE (qc 9) (qc 5) (qH _)) (qaR (qS qad uE (qc 10) (qc 6) (qH _)) (vT (qS (qaJ hr) vh (dC C_two_worth hr (qb (qc 3) (qb (qc 6) (qb (qc 5) qf)))) (qc 7) (qH _)))))) (qi (qy wG)) qJ)
   (qg (yg (qS (qaJ hr) vh (dC C_stows_many hr (qb (qc 3) (qb (qc 5) (qb (qc 6) qf)))) (dC C_stows_many hr (qb (qc 3) (qb (qc 6) (qb (qc 5) qf)))) (qH _)) (qi (qy wG)) qJ)
   (qg (zf (i:=11) ur.nd (qB (qdC rfl) qdT rfl T.b_max qcj (qb (dC C_met_worth hr (qb (qc 3) (qb (qc 5) qf))) (qb (dC C_met_worth hr (qb (qc 3) (qb (qc 6) qf))) qf))))
   (qg (yg (yA (qi1 qeA qbq qeA qbq (qc 11) (qc 7) (dC C_met_worth hr (qb (qc 3) (qb (qw zp zq (qc 5) (qc 6)) qf))))) (qi (qy wG)) qJ)
   (qg (zf (i:=12) ur.nd (dC C__law_low hr (qb (iC (i:=2) C__law_take hr (qb ql qf)) (qb (qw zp zq ql (iC (i:=2) C__law_take hr (qb ql qf))) qf))))
   (qg (zf (i:=13) ur.nd (dC C__law_low hr (qb (iC (i:=2) C__law_take hr (qb ql qf)) (qb (qw zp zq ql (iC (i:=2) C__law_take hr (qb ql qf))) qf))))
   (qg (qgX (dC C_two_bound hr (qb (qc 3) (qb (qc 5) (qb (qc 6) (qb (qc 12) (qb (qc 13) qf)))))) (qaG (n:=2) rfl (zw (qE (i:=14) ur.nd) (zw (qE (i:=15) ur.nd) vd))))
   (qg (yg (qS qml qjE (qc 14) (qw zC qW (qc 7) (qc 15)) (qH _)) (qi (qy wG)) qJ)
   (qi (yg (qS (qaJ hr) vh (dC C_two_worth hr (qb (qc 3) (qb (qc 4) (qb (iC (i:=2) C__law_take hr (qb ql qf)) qf)))) (dC C_worth hr (qb (qc 3) (qb (dC C_whole_load hr (qb (qc 3) qf)) qf))) (qH _)) (qi (qy wG)) qJ))))))))))))))))))
   (qi (qy wG)))
end
theorem all_mk {l:PySem.W.OpenLaw} {w:World} {K:PySem.W.Frag} {h:Heap} {mg:Str->Option Value} {fa f0 f1 f2 f3 f4 f5 f6 f7 f8 f9 f10 f11 f12 f13 f14 f15 f16 f17 f18 f19 f20 f21 f22 f23 f24 f25 f26 f27 f28 f29 f30 f31 f32 f33 f34 f35 f36 f37 f38 f39 f40 f41 f42 f43 f44 f45 f46 f47 f48 f49 f50 f51:Addr} (X:K.In h) (G:h.Ns mainGlobals mg) (hfa:mg "law"=some (.ref fa))
  {od0 an0 od1 an1 od2 an2 od3 an3 od4 an4 od5 an5 od6 an6 od7 an7 od8 an8 od9 an9 od10 an10 od11 an11 od12 an12 od13 an13 od14 an14 od15 an15 od16 an16 od17 an17 od18 an18 od19 an19 od20 an20 od21 an21 od22 an22 od23 an23 od24 an24 od25 an25 od26 an26 od27 an27 od28 an28 od29 an29 od30 an30 od31 an31 od32 an32 od33 an33 od34 an34 od35 an35 od36 an36 od37 an37 od38 an38 od39 an39 od40 an40 od41 an41 od42 an42 od43 an43 od44 an44 od45 an45 od46 an46 od47 an47 od48 an48 od49 an49 od50 an50 od51 an51:Option Addr} {sl0 sl1 sl2 sl3 sl4 sl5 sl6 sl7 sl8 sl9 sl10 sl11 sl12 sl13 sl14 sl15 sl16 sl17 sl18 sl19 sl20 sl21 sl22 sl23 sl24 sl25 sl26 sl27 sl28 sl29 sl30 sl31 sl32 sl33 sl34 sl35 sl36 sl37 sl38 sl39 sl40 sl41 sl42 sl43 sl44 sl45 sl46 sl47 sl48 sl49 sl50 sl51:Array (Option Value)} {oc0 kV0 dc0 pm0 cd0 ct0 oc1 kV1 dc1 pm1 cd1 ct1 oc2 kV2 dc2 pm2 cd2 ct2 oc3 kV3 dc3 pm3 cd3 ct3 oc4 kV4 dc4 pm4 cd4 ct4 oc5 kV5 dc5 pm5 cd5 ct5 oc6 kV6 dc6 pm6 cd6 ct6 oc7 kV7 dc7 pm7 cd7 ct7 oc8 kV8 dc8 pm8 cd8 ct8 oc9 kV9 dc9 pm9 cd9 ct9 oc10 kV10 dc10 pm10 cd10 ct10 oc11 kV11 dc11 pm11 cd11 ct11 oc12 kV12 dc12 pm12 cd12 ct12 oc13 kV13 dc13 pm13 cd13 ct13 oc14 kV14 dc14 pm14 cd14 ct14 oc15 kV15 dc15 pm15 cd15 ct15 oc16 kV16 dc16 pm16 cd16 ct16 oc17 kV17 dc17 pm17 cd17 ct17 oc18 kV18 dc18 pm18 cd18 ct18 oc19 kV19 dc19 pm19 cd19 ct19 oc20 kV20 dc20 pm20 cd20 ct20 oc21 kV21 dc21 pm21 cd21 ct21 oc22 kV22 dc22 pm22 cd22 ct22 oc23 kV23 dc23 pm23 cd23 ct23 oc24 kV24 dc24 pm24 cd24 ct24 oc25 kV25 dc25 pm25 cd25 ct25 oc26 kV26 dc26 pm26 cd26 ct26 oc27 kV27 dc27 pm27 cd27 ct27 oc28 kV28 dc28 pm28 cd28 ct28 oc29 kV29 dc29 pm29 cd29 ct29 oc30 kV30 dc30 pm30 cd30 ct30 oc31 kV31 dc31 pm31 cd31 ct31 oc32 kV32 dc32 pm32 cd32 ct32 oc33 kV33 dc33 pm33 cd33 ct33 oc34 kV34 dc34 pm34 cd34 ct34 oc35 kV35 dc35 pm35 cd35 ct35 oc36 kV36 dc36 pm36 cd36 ct36 oc37 kV37 dc37 pm37 cd37 ct37 oc38 kV38 dc38 pm38 cd38 ct38 oc39 kV39 dc39 pm39 cd39 ct39 oc40 kV40 dc40 pm40 cd40 ct40 oc41 kV41 dc41 pm41 cd41 ct41 oc42 kV42 dc42 pm42 cd42 ct42 oc43 kV43 dc43 pm43 cd43 ct43 oc44 kV44 dc44 pm44 cd44 ct44 oc45 kV45 dc45 pm45 cd45 ct45 oc46 kV46 dc46 pm46 cd46 ct46 oc47 kV47 dc47 pm47 cd47 ct47 oc48 kV48 dc48 pm48 cd48 ct48 oc49 kV49 dc49 pm49 cd49 ct49 oc50 kV50 dc50 pm50 cd50 ct50 oc51 kV51 dc51 pm51 cd51 ct51:Value} {tk_BOTTOM:Tok} {tk_KINDS_AT_MOST:Tok} {tk_KINDS_STOWED_AT_MOST:Tok} {tk_LEFT_ONE:Tok} {tk_LEFT_OTHER:Tok} {tk_LOAD:Tok} {tk_MOST:Tok} {tk_STOW:Tok} {tk_STOW_WORTH:Tok} {tk_TOP:Tok} {tk_WEIGHT:Tok} {tk_WORTH:Tok}
  (a0:PySem.W.nsIn K mainGlobals "is_there"=some (some (.ref f0))) (l0:K.lookup f0=some ⟨oc0,od0,.func (PySem.W.fnOf "is_there" "is_there" (qq yH) (qo yH) (qd yH) .none kV0 dc0 pm0 an0 cd0 ct0),sl0⟩) (c0:PySem.W.codeIn K cd0 "is_there"=true) (k0:PySem.W.keepIn K (.ref f0)=true)
  (a1:PySem.W.nsIn K mainGlobals "sacks_for"=some (some (.ref f1))) (l1:K.lookup f1=some ⟨oc1,od1,.func (PySem.W.fnOf "sacks_for" "sacks_for" (qq j4) (qo j4) (qd j4) .none kV1 dc1 pm1 an1 cd1 ct1),sl1⟩) (c1:PySem.W.codeIn K cd1 "sacks_for"=true) (k1:PySem.W.keepIn K (.ref f1)=true)
  (a2:PySem.W.nsIn K mainGlobals "put_in"=some (some (.ref f2))) (l2:K.lookup f2=some ⟨oc2,od2,.func (PySem.W.fnOf "put_in" "put_in" (qq vK) (qo vK) (qd vK) .none kV2 dc2 pm2 an2 cd2 ct2),sl2⟩) (c2:PySem.W.codeIn K cd2 "put_in"=true) (k2:PySem.W.keepIn K (.ref f2)=true)
  (a3:PySem.W.nsIn K mainGlobals "stowed_further"=some (some (.ref f3))) (l3:K.lookup f3=some ⟨oc3,od3,.func (PySem.W.fnOf "stowed_further" "stowed_further" (qq qL) (qo qL) (qd qL) .none kV3 dc3 pm3 an3 cd3 ct3),sl3⟩) (c3:PySem.W.codeIn K cd3 "stowed_further"=true) (k3:PySem.W.keepIn K (.ref f3)=true)
  (a4:PySem.W.nsIn K mainGlobals "need_single"=some (some (.ref f4))) (l4:K.lookup f4=some ⟨oc4,od4,.func (PySem.W.fnOf "need_single" "need_single" (qq zP) (qo zP) (qd zP) .none kV4 dc4 pm4 an4 cd4 ct4),sl4⟩) (c4:PySem.W.codeIn K cd4 "need_single"=true) (k4:PySem.W.keepIn K (.ref f4)=true)
  (a5:PySem.W.nsIn K mainGlobals "is_whole"=some (some (.ref f5))) (l5:K.lookup f5=some ⟨oc5,od5,.func (PySem.W.fnOf "is_whole" "is_whole" (qq yI) (qo yI) (qd yI) .none kV5 dc5 pm5 an5 cd5 ct5),sl5⟩) (c5:PySem.W.codeIn K cd5 "is_whole"=true) (k5:PySem.W.keepIn K (.ref f5)=true)
  (a6:PySem.W.nsIn K mainGlobals "is_count"=some (some (.ref f6))) (l6:K.lookup f6=some ⟨oc6,od6,.func (PySem.W.fnOf "is_count" "is_count" (qq yJ) (qo yJ) (qd yJ) .none kV6 dc6 pm6 an6 cd6 ct6),sl6⟩) (c6:PySem.W.codeIn K cd6 "is_count"=true) (k6:PySem.W.keepIn K (.ref f6)=true)
  (a7:PySem.W.nsIn K mainGlobals "is_kind"=some (some (.ref f7))) (l7:K.lookup f7=some ⟨oc7,od7,.func (PySem.W.fnOf "is_kind" "is_kind" (qq uO) (qo uO) (qd uO) .none kV7 dc7 pm7 an7 cd7 ct7),sl7⟩) (c7:PySem.W.codeIn K cd7 "is_kind"=true) (k7:PySem.W.keepIn K (.ref f7)=true)
  (a8:PySem.W.nsIn K mainGlobals "is_store"=some (some (.ref f8))) (l8:K.lookup f8=some ⟨oc8,od8,.func (PySem.W.fnOf "is_store" "is_store" (qq j6) (qo j6) (qd j6) .none kV8 dc8 pm8 an8 cd8 ct8),sl8⟩) (c8:PySem.W.codeIn K cd8 "is_store"=true) (k8:PySem.W.keepIn K (.ref f8)=true)
  (a9:PySem.W.nsIn K mainGlobals "need_store"=some (some (.ref f9))) (l9:K.lookup f9=some ⟨oc9,od9,.func (PySem.W.fnOf "need_store" "need_store" (qq jC) (qo jC) (qd jC) .none kV9 dc9 pm9 an9 cd9 ct9),sl9⟩) (c9:PySem.W.codeIn K cd9 "need_store"=true) (k9:PySem.W.keepIn K (.ref f9)=true)
  (a10:PySem.W.nsIn K mainGlobals "need_stowable"=some (some (.ref f10))) (l10:K.lookup f10=some ⟨oc10,od10,.func (PySem.W.fnOf "need_stowable" "need_stowable" (qq zE) (qo zE) (qd zE) .none kV10 dc10 pm10 an10 cd10 ct10),sl10⟩) (c10:PySem.W.codeIn K cd10 "need_stowable"=true) (k10:PySem.W.keepIn K (.ref f10)=true)
  (a11:PySem.W.nsIn K mainGlobals "need_count"=some (some (.ref f11))) (l11:K.lookup f11=some ⟨oc11,od11,.func (PySem.W.fnOf "need_count" "need_count" (qq jD) (qo jD) (qd jD) .none kV11 dc11 pm11 an11 cd11 ct11),sl11⟩) (c11:PySem.W.codeIn K cd11 "need_count"=true) (k11:PySem.W.keepIn K (.ref f11)=true)
  (a12:PySem.W.nsIn K mainGlobals "all_that_fit"=some (some (.ref f12))) (l12:K.lookup f12=some ⟨oc12,od12,.func (PySem.W.fnOf "all_that_fit" "all_that_fit" (qq zW) (qo zW) (qd zW) .none kV12 dc12 pm12 an12 cd12 ct12),sl12⟩) (c12:PySem.W.codeIn K cd12 "all_that_fit"=true) (k12:PySem.W.keepIn K (.ref f12)=true)
  (a13:PySem.W.nsIn K mainGlobals "two_worth"=some (some (.ref f13))) (l13:K.lookup f13=some ⟨oc13,od13,.func (PySem.W.fnOf "two_worth" "two_worth" (qq ju) (qo ju) (qd ju) .none kV13 dc13 pm13 an13 cd13 ct13),sl13⟩) (c13:PySem.W.codeIn K cd13 "two_worth"=true) (k13:PySem.W.keepIn K (.ref f13)=true)
  (a14:PySem.W.nsIn K mainGlobals "_law_take"=some (some (.ref f14))) (l14:K.lookup f14=some ⟨oc14,od14,.func (PySem.W.fnOf "_law_take" "_law_take" (qq j7) (qo j7) (qd j7) .none kV14 dc14 pm14 an14 cd14 ct14),sl14⟩) (c14:PySem.W.codeIn K cd14 "_law_take"=true) (k14:PySem.W.keepIn K (.ref f14)=true)
  (a15:PySem.W.nsIn K mainGlobals "taken_together"=some (some (.ref f15))) (l15:K.lookup f15=some ⟨oc15,od15,.func (PySem.W.fnOf "taken_together" "taken_together" (qq za) (qo za) (qd za) .none kV15 dc15 pm15 an15 cd15 ct15),sl15⟩) (c15:PySem.W.codeIn K cd15 "taken_together"=true) (k15:PySem.W.keepIn K (.ref f15)=true)
  (a16:PySem.W.nsIn K mainGlobals "can_take"=some (some (.ref f16))) (l16:K.lookup f16=some ⟨oc16,od16,.func (PySem.W.fnOf "can_take" "can_take" (qq yK) (qo yK) (qd yK) .none kV16 dc16 pm16 an16 cd16 ct16),sl16⟩) (c16:PySem.W.codeIn K cd16 "can_take"=true) (k16:PySem.W.keepIn K (.ref f16)=true)
  (a17:PySem.W.nsIn K mainGlobals "is_load"=some (some (.ref f17))) (l17:K.lookup f17=some ⟨oc17,od17,.func (PySem.W.fnOf "is_load" "is_load" (qq yZ) (qo yZ) (qd yZ) .none kV17 dc17 pm17 an17 cd17 ct17),sl17⟩) (c17:PySem.W.codeIn K cd17 "is_load"=true) (k17:PySem.W.keepIn K (.ref f17)=true)
  (a18:PySem.W.nsIn K mainGlobals "need_load"=some (some (.ref f18))) (l18:K.lookup f18=some ⟨oc18,od18,.func (PySem.W.fnOf "need_load" "need_load" (qq j8) (qo j8) (qd j8) .none kV18 dc18 pm18 an18 cd18 ct18),sl18⟩) (c18:PySem.W.codeIn K cd18 "need_load"=true) (k18:PySem.W.keepIn K (.ref f18)=true)
  (a19:PySem.W.nsIn K mainGlobals "worth"=some (some (.ref f19))) (l19:K.lookup f19=some ⟨oc19,od19,.func (PySem.W.fnOf "worth" "worth" (qq qap) (qo qap) (qd qap) .none kV19 dc19 pm19 an19 cd19 ct19),sl19⟩) (c19:PySem.W.codeIn K cd19 "worth"=true) (k19:PySem.W.keepIn K (.ref f19)=true)
  (a20:PySem.W.nsIn K mainGlobals "whole_load"=some (some (.ref f20))) (l20:K.lookup f20=some ⟨oc20,od20,.func (PySem.W.fnOf "whole_load" "whole_load" (qq zK) (qo zK) (qd zK) .none kV20 dc20 pm20 an20 cd20 ct20),sl20⟩) (c20:PySem.W.codeIn K cd20 "whole_load"=true) (k20:PySem.W.keepIn K (.ref f20)=true)
  (a21:PySem.W.nsIn K mainGlobals "greatest_divisor"=some (some (.ref f21))) (l21:K.lookup f21=some ⟨oc21,od21,.func (PySem.W.fnOf "greatest_divisor" "greatest_divisor" (qq qX) (qo qX) (qd qX) .none kV21 dc21 pm21 an21 cd21 ct21),sl21⟩) (c21:PySem.W.codeIn K cd21 "greatest_divisor"=true) (k21:PySem.W.keepIn K (.ref f21)=true)
  (a22:PySem.W.nsIn K mainGlobals "lowest_terms"=some (some (.ref f22))) (l22:K.lookup f22=some ⟨oc22,od22,.func (PySem.W.fnOf "lowest_terms" "lowest_terms" (qq zX) (qo zX) (qd zX) .none kV22 dc22 pm22 an22 cd22 ct22),sl22⟩) (c22:PySem.W.codeIn K cd22 "lowest_terms"=true) (k22:PySem.W.keepIn K (.ref f22)=true)
  (a23:PySem.W.nsIn K mainGlobals "added"=some (some (.ref f23))) (l23:K.lookup f23=some ⟨oc23,od23,.func (PySem.W.fnOf "added" "added" (qq qaq) (qo qaq) (qd qaq) .none kV23 dc23 pm23 an23 cd23 ct23),sl23⟩) (c23:PySem.W.codeIn K cd23 "added"=true) (k23:PySem.W.keepIn K (.ref f23)=true)
  (a24:PySem.W.nsIn K mainGlobals "bound_of"=some (some (.ref f24))) (l24:K.lookup f24=some ⟨oc24,od24,.func (PySem.W.fnOf "bound_of" "bound_of" (qq yL) (qo yL) (qd yL) .none kV24 dc24 pm24 an24 cd24 ct24),sl24⟩) (c24:PySem.W.codeIn K cd24 "bound_of"=true) (k24:PySem.W.keepIn K (.ref f24)=true)
  (a25:PySem.W.nsIn K mainGlobals "lesser"=some (some (.ref f25))) (l25:K.lookup f25=some ⟨oc25,od25,.func (PySem.W.fnOf "lesser" "lesser" (qq vL) (qo vL) (qd vL) .none kV25 dc25 pm25 an25 cd25 ct25),sl25⟩) (c25:PySem.W.codeIn K cd25 "lesser"=true) (k25:PySem.W.keepIn K (.ref f25)=true)
  (a26:PySem.W.nsIn K mainGlobals "times_price"=some (some (.ref f26))) (l26:K.lookup f26=some ⟨oc26,od26,.func (PySem.W.fnOf "times_price" "times_price" (qq jj) (qo jj) (qd jj) .none kV26 dc26 pm26 an26 cd26 ct26),sl26⟩) (c26:PySem.W.codeIn K cd26 "times_price"=true) (k26:PySem.W.keepIn K (.ref f26)=true)
  (a27:PySem.W.nsIn K mainGlobals "is_price"=some (some (.ref f27))) (l27:K.lookup f27=some ⟨oc27,od27,.func (PySem.W.fnOf "is_price" "is_price" (qq yM) (qo yM) (qd yM) .none kV27 dc27 pm27 an27 cd27 ct27),sl27⟩) (c27:PySem.W.codeIn K cd27 "is_price"=true) (k27:PySem.W.keepIn K (.ref f27)=true)
  (a28:PySem.W.nsIn K mainGlobals "need_price"=some (some (.ref f28))) (l28:K.lookup f28=some ⟨oc28,od28,.func (PySem.W.fnOf "need_price" "need_price" (qq jE) (qo jE) (qd jE) .none kV28 dc28 pm28 an28 cd28 ct28),sl28⟩) (c28:PySem.W.codeIn K cd28 "need_price"=true) (k28:PySem.W.keepIn K (.ref f28)=true)
  (a29:PySem.W.nsIn K mainGlobals "two_bound"=some (some (.ref f29))) (l29:K.lookup f29=some ⟨oc29,od29,.func (PySem.W.fnOf "two_bound" "two_bound" (qq j9) (qo j9) (qd j9) .none kV29 dc29 pm29 an29 cd29 ct29),sl29⟩) (c29:PySem.W.codeIn K cd29 "two_bound"=true) (k29:PySem.W.keepIn K (.ref f29)=true)
  (a30:PySem.W.nsIn K mainGlobals "_law_divisor"=some (some (.ref f30))) (l30:K.lookup f30=some ⟨oc30,od30,.func (PySem.W.fnOf "_law_divisor" "_law_divisor" (qq zY) (qo zY) (qd zY) .none kV30 dc30 pm30 an30 cd30 ct30),sl30⟩) (c30:PySem.W.codeIn K cd30 "_law_divisor"=true) (k30:PySem.W.keepIn K (.ref f30)=true)
  (a31:PySem.W.nsIn K mainGlobals "_law_low"=some (some (.ref f31))) (l31:K.lookup f31=some ⟨oc31,od31,.func (PySem.W.fnOf "_law_low" "_law_low" (qq yN) (qo yN) (qd yN) .none kV31 dc31 pm31 an31 cd31 ct31),sl31⟩) (c31:PySem.W.codeIn K cd31 "_law_low"=true) (k31:PySem.W.keepIn K (.ref f31)=true)
  (a32:PySem.W.nsIn K mainGlobals "best_beside"=some (some (.ref f32))) (l32:K.lookup f32=some ⟨oc32,od32,.func (PySem.W.fnOf "best_beside" "best_beside" (qq zQ) (qo zQ) (qd zQ) .none kV32 dc32 pm32 an32 cd32 ct32),sl32⟩) (c32:PySem.W.codeIn K cd32 "best_beside"=true) (k32:PySem.W.keepIn K (.ref f32)=true)
  (a33:PySem.W.nsIn K mainGlobals "beating_order"=some (some (.ref f33))) (l33:K.lookup f33=some ⟨oc33,od33,.func (PySem.W.fnOf "beating_order" "beating_order" (qq zF) (qo zF) (qd zF) .none kV33 dc33 pm33 an33 cd33 ct33),sl33⟩) (c33:PySem.W.codeIn K cd33 "beating_order"=true) (k33:PySem.W.keepIn K (.ref f33)=true)
  (a34:PySem.W.nsIn K mainGlobals "all_loads"=some (some (.ref f34))) (l34:K.lookup f34=some ⟨oc34,od34,.func (PySem.W.fnOf "all_loads" "all_loads" (qq jv) (qo jv) (qd jv) .none kV34 dc34 pm34 an34 cd34 ct34),sl34⟩) (c34:PySem.W.codeIn K cd34 "all_loads"=true) (k34:PySem.W.keepIn K (.ref f34)=true)
  (a35:PySem.W.nsIn K mainGlobals "all_weighed"=some (some (.ref f35))) (l35:K.lookup f35=some ⟨oc35,od35,.func (PySem.W.fnOf "all_weighed" "all_weighed" (qq zR) (qo zR) (qd zR) .none kV35 dc35 pm35 an35 cd35 ct35),sl35⟩) (c35:PySem.W.codeIn K cd35 "all_weighed"=true) (k35:PySem.W.keepIn K (.ref f35)=true)
  (a36:PySem.W.nsIn K mainGlobals "not_beaten"=some (some (.ref f36))) (l36:K.lookup f36=some ⟨oc36,od36,.func (PySem.W.fnOf "not_beaten" "not_beaten" (qq jF) (qo jF) (qd jF) .none kV36 dc36 pm36 an36 cd36 ct36),sl36⟩) (c36:PySem.W.codeIn K cd36 "not_beaten"=true) (k36:PySem.W.keepIn K (.ref f36)=true)
  (a37:PySem.W.nsIn K mainGlobals "second_half"=some (some (.ref f37))) (l37:K.lookup f37=some ⟨oc37,od37,.func (PySem.W.fnOf "second_half" "second_half" (qq jk) (qo jk) (qd jk) .none kV37 dc37 pm37 an37 cd37 ct37),sl37⟩) (c37:PySem.W.codeIn K cd37 "second_half"=true) (k37:PySem.W.keepIn K (.ref f37)=true)
  (a38:PySem.W.nsIn K mainGlobals "first_half"=some (some (.ref f38))) (l38:K.lookup f38=some ⟨oc38,od38,.func (PySem.W.fnOf "first_half" "first_half" (qq jG) (qo jG) (qd jG) .none kV38 dc38 pm38 an38 cd38 ct38),sl38⟩) (c38:PySem.W.codeIn K cd38 "first_half"=true) (k38:PySem.W.keepIn K (.ref f38)=true)
  (a39:PySem.W.nsIn K mainGlobals "half_loads"=some (some (.ref f39))) (l39:K.lookup f39=some ⟨oc39,od39,.func (PySem.W.fnOf "half_loads" "half_loads" (qq jH) (qo jH) (qd jH) .none kV39 dc39 pm39 an39 cd39 ct39),sl39⟩) (c39:PySem.W.codeIn K cd39 "half_loads"=true) (k39:PySem.W.keepIn K (.ref f39)=true)
  (a40:PySem.W.nsIn K mainGlobals "met_worth"=some (some (.ref f40))) (l40:K.lookup f40=some ⟨oc40,od40,.func (PySem.W.fnOf "met_worth" "met_worth" (qq jw) (qo jw) (qd jw) .none kV40 dc40 pm40 an40 cd40 ct40),sl40⟩) (c40:PySem.W.codeIn K cd40 "met_worth"=true) (k40:PySem.W.keepIn K (.ref f40)=true)
  (a41:PySem.W.nsIn K mainGlobals "stows_many"=some (some (.ref f41))) (l41:K.lookup f41=some ⟨oc41,od41,.func (PySem.W.fnOf "stows_many" "stows_many" (qq jI) (qo jI) (qd jI) .none kV41 dc41 pm41 an41 cd41 ct41),sl41⟩) (c41:PySem.W.codeIn K cd41 "stows_many"=true) (k41:PySem.W.keepIn K (.ref f41)=true)
  (a42:PySem.W.nsIn K mainGlobals "weight_in"=some (some (.ref f42))) (l42:K.lookup f42=some ⟨oc42,od42,.func (PySem.W.fnOf "weight_in" "weight_in" (qq jx) (qo jx) (qd jx) .none kV42 dc42 pm42 an42 cd42 ct42),sl42⟩) (c42:PySem.W.codeIn K cd42 "weight_in"=true) (k42:PySem.W.keepIn K (.ref f42)=true)
  (a43:PySem.W.nsIn K mainGlobals "can_stow"=some (some (.ref f43))) (l43:K.lookup f43=some ⟨oc43,od43,.func (PySem.W.fnOf "can_stow" "can_stow" (qq yO) (qo yO) (qd yO) .none kV43 dc43 pm43 an43 cd43 ct43),sl43⟩) (c43:PySem.W.codeIn K cd43 "can_stow"=true) (k43:PySem.W.keepIn K (.ref f43)=true)
  (a44:PySem.W.nsIn K mainGlobals "is_stow"=some (some (.ref f44))) (l44:K.lookup f44=some ⟨oc44,od44,.func (PySem.W.fnOf "is_stow" "is_stow" (qq y7) (qo y7) (qd y7) .none kV44 dc44 pm44 an44 cd44 ct44),sl44⟩) (c44:PySem.W.codeIn K cd44 "is_stow"=true) (k44:PySem.W.keepIn K (.ref f44)=true)
  (a45:PySem.W.nsIn K mainGlobals "need_stow"=some (some (.ref f45))) (l45:K.lookup f45=some ⟨oc45,od45,.func (PySem.W.fnOf "need_stow" "need_stow" (qq ya) (qo ya) (qd ya) .none kV45 dc45 pm45 an45 cd45 ct45),sl45⟩) (c45:PySem.W.codeIn K cd45 "need_stow"=true) (k45:PySem.W.keepIn K (.ref f45)=true)
  (a46:PySem.W.nsIn K mainGlobals "stow_weights"=some (some (.ref f46))) (l46:K.lookup f46=some ⟨oc46,od46,.func (PySem.W.fnOf "stow_weights" "stow_weights" (qq zZ) (qo zZ) (qd zZ) .none kV46 dc46 pm46 an46 cd46 ct46),sl46⟩) (c46:PySem.W.codeIn K cd46 "stow_weights"=true) (k46:PySem.W.keepIn K (.ref f46)=true)
  (a47:PySem.W.nsIn K mainGlobals "stow_worth"=some (some (.ref f47))) (l47:K.lookup f47=some ⟨oc47,od47,.func (PySem.W.fnOf "stow_worth" "stow_worth" (qq ja) (qo ja) (qd ja) .none kV47 dc47 pm47 an47 cd47 ct47),sl47⟩) (c47:PySem.W.codeIn K cd47 "stow_worth"=true) (k47:PySem.W.keepIn K (.ref f47)=true)
  (a48:PySem.W.nsIn K mainGlobals "two_stow"=some (some (.ref f48))) (l48:K.lookup f48=some ⟨oc48,od48,.func (PySem.W.fnOf "two_stow" "two_stow" (qq jJ) (qo jJ) (qd jJ) .none kV48 dc48 pm48 an48 cd48 ct48),sl48⟩) (c48:PySem.W.codeIn K cd48 "two_stow"=true) (k48:PySem.W.keepIn K (.ref f48)=true)
  (a49:PySem.W.nsIn K mainGlobals "_law_single"=some (some (.ref f49))) (l49:K.lookup f49=some ⟨oc49,od49,.func (PySem.W.fnOf "_law_single" "_law_single" (qq jm) (qo jm) (qd jm) .none kV49 dc49 pm49 an49 cd49 ct49),sl49⟩) (c49:PySem.W.codeIn K cd49 "_law_single"=true) (k49:PySem.W.keepIn K (.ref f49)=true)
  (a50:PySem.W.nsIn K mainGlobals "_law_box"=some (some (.ref f50))) (l50:K.lookup f50=some ⟨oc50,od50,.func (PySem.W.fnOf "_law_box" "_law_box" (qq yP) (qo yP) (qd yP) .none kV50 dc50 pm50 an50 cd50 ct50),sl50⟩) (c50:PySem.W.codeIn K cd50 "_law_box"=true) (k50:PySem.W.keepIn K (.ref f50)=true)
  (a51:PySem.W.nsIn K mainGlobals "law"=some (some (.ref f51))) (l51:K.lookup f51=some ⟨oc51,od51,.func (PySem.W.fnOf "law" "law" (qq qb1) (qo qb1) (qd qb1) .none kV51 dc51 pm51 an51 cd51 ct51),sl51⟩) (c51:PySem.W.codeIn K cd51 "law"=true) (k51:PySem.W.keepIn K (.ref f51)=true)
  (zb_abs:PySem.W.nsIn K mainGlobals "abs"=some none)
  (zb_all:PySem.W.nsIn K mainGlobals "all"=some none)
  (zb_any:PySem.W.nsIn K mainGlobals "any"=some none)
  (zb_bool:PySem.W.nsIn K mainGlobals "bool"=some none)
  (zb_divmod:PySem.W.nsIn K mainGlobals "divmod"=some none)
  (zb_int:PySem.W.nsIn K mainGlobals "int"=some none)
  (zb_isinstance:PySem.W.nsIn K mainGlobals "isinstance"=some none)
  (zb_len:PySem.W.nsIn K mainGlobals "len"=some none)
  (zb_max:PySem.W.nsIn K mainGlobals "max"=some none)
  (zb_min:PySem.W.nsIn K mainGlobals "min"=some none)
  (zb_range:PySem.W.nsIn K mainGlobals "range"=some none)
  (zb_sorted:PySem.W.nsIn K mainGlobals "sorted"=some none)
  (zb_sum:PySem.W.nsIn K mainGlobals "sum"=some none)
  (zb_tuple:PySem.W.nsIn K mainGlobals "tuple"=some none)
  (zb_zip:PySem.W.nsIn K mainGlobals "zip"=some none)
  (zg_BOTTOM:PySem.W.nsIn K mainGlobals "BOTTOM"=some (some (.int 1 tk_BOTTOM)))
  (zg_KINDS_AT_MOST:PySem.W.nsIn K mainGlobals "KINDS_AT_MOST"=some (some (.int 12 tk_KINDS_AT_MOST)))
  (zg_KINDS_STOWED_AT_MOST:PySem.W.nsIn K mainGlobals "KINDS_STOWED_AT_MOST"=some (some (.int 8 tk_KINDS_STOWED_AT_MOST)))
  (zg_LEFT_ONE:PySem.W.nsIn K mainGlobals "LEFT_ONE"=some (some (.int 1 tk_LEFT_ONE)))
  (zg_LEFT_OTHER:PySem.W.nsIn K mainGlobals "LEFT_OTHER"=some (some (.int 2 tk_LEFT_OTHER)))
  (zg_LOAD:PySem.W.nsIn K mainGlobals "LOAD"=some (some (.int 2 tk_LOAD)))
  (zg_MOST:PySem.W.nsIn K mainGlobals "MOST"=some (some (.int 2 tk_MOST)))
  (zg_STOW:PySem.W.nsIn K mainGlobals "STOW"=some (some (.int 0 tk_STOW)))
  (zg_STOW_WORTH:PySem.W.nsIn K mainGlobals "STOW_WORTH"=some (some (.int 3 tk_STOW_WORTH)))
  (zg_TOP:PySem.W.nsIn K mainGlobals "TOP"=some (some (.int 0 tk_TOP)))
  (zg_WEIGHT:PySem.W.nsIn K mainGlobals "WEIGHT"=some (some (.int 0 tk_WEIGHT)))
  (zg_WORTH:PySem.W.nsIn K mainGlobals "WORTH"=some (some (.int 1 tk_WORTH))) :
  ∃ fd:FuncData,(∀ (s:Shared) (v:Value),BindsTo s fd ⟨[v],[]⟩ [("script",v)])/\∀ base:Heap,K.In base->base.Ns mainGlobals mg->qcc l.prog w K mg base CX0 10 fa fd ["script"] (spD K qeV):=by
 have e:=hfa.symm.trans (PySem.W.mg_of X G a51)
 cases e
 have T:Txt K mg:=⟨PySem.W.mg_none_of X G zb_abs,PySem.W.mg_none_of X G zb_all,PySem.W.mg_none_of X G zb_any,PySem.W.mg_none_of X G zb_bool,PySem.W.mg_none_of X G zb_divmod,PySem.W.mg_none_of X G zb_int,PySem.W.mg_none_of X G zb_isinstance,PySem.W.mg_none_of X G zb_len,PySem.W.mg_none_of X G zb_max,PySem.W.mg_none_of X G zb_min,PySem.W.mg_none_of X G zb_range,PySem.W.mg_none_of X G zb_sorted,PySem.W.mg_none_of X G zb_sum,PySem.W.mg_none_of X G zb_tuple,PySem.W.mg_none_of X G zb_zip,⟨_,PySem.W.mg_of X G zg_BOTTOM⟩,⟨_,PySem.W.mg_of X G zg_KINDS_AT_MOST⟩,⟨_,PySem.W.mg_of X G zg_KINDS_STOWED_AT_MOST⟩,⟨_,PySem.W.mg_of X G zg_LEFT_ONE⟩,⟨_,PySem.W.mg_of X G zg_LEFT_OTHER⟩,⟨_,PySem.W.mg_of X G zg_LOAD⟩,⟨_,PySem.W.mg_of X G zg_MOST⟩,⟨_,PySem.W.mg_of X G zg_STOW⟩,⟨_,PySem.W.mg_of X G zg_STOW_WORTH⟩,⟨_,PySem.W.mg_of X G zg_TOP⟩,⟨_,PySem.W.mg_of X G zg_WEIGHT⟩,⟨_,PySem.W.mg_of X G zg_WORTH⟩⟩
 refine ⟨PySem.W.fnOf "law" "law" (qq qb1) (qo qb1) (qd qb1) .none kV51 dc51 pm51 an51 cd51 ct51,fun s v => .of_eq rfl,fun base hB _ => ?_⟩
 have C_is_there:=q0 (P:=l.prog) (w:=w) (base:=base) (qF (st:=yH) l0 c0 k0) (PySem.W.mg_of X G a0) T
 have C_sacks_for:=q1 (P:=l.prog) (w:=w) (base:=base) (qF (st:=j4) l1 c1 k1) (PySem.W.mg_of X G a1) T C_is_there
 have C_put_in:=q2 (P:=l.prog) (w:=w) (base:=base) (qF (st:=vK) l2 c2 k2) (PySem.W.mg_of X G a2) T
 have C_stowed_further:=q3 (P:=l.prog) (w:=w) (base:=base) (qF (st:=qL) l3 c3 k3) (PySem.W.mg_of X G a3) T C_sacks_for C_put_in
 have C_need_single:=q4 (P:=l.prog) (w:=w) (base:=base) (qF (st:=zP) l4 c4 k4) (PySem.W.mg_of X G a4) T
 have C_is_whole:=q5 (P:=l.prog) (w:=w) (base:=base) (qF (st:=yI) l5 c5 k5) (PySem.W.mg_of X G a5) T
 have C_is_count:=q6 (P:=l.prog) (w:=w) (base:=base) (qF (st:=yJ) l6 c6 k6) (PySem.W.mg_of X G a6) T C_is_whole
 have C_is_kind:=q7 (P:=l.prog) (w:=w) (base:=base) (qF (st:=uO) l7 c7 k7) (PySem.W.mg_of X G a7) T C_is_count
 have C_is_store:=q8 (P:=l.prog) (w:=w) (base:=base) (qF (st:=j6) l8 c8 k8) (PySem.W.mg_of X G a8) T C_is_kind
 have C_need_store:=q9 (P:=l.prog) (w:=w) (base:=base) (qF (st:=jC) l9 c9 k9) (PySem.W.mg_of X G a9) T C_is_store
 have C_need_stowable:=q10 (P:=l.prog) (w:=w) (base:=base) (qF (st:=zE) l10 c10 k10) (PySem.W.mg_of X G a10) T C_need_single C_need_store
 have C_need_count:=q11 (P:=l.prog) (w:=w) (base:=base) (qF (st:=jD) l11 c11 k11) (PySem.W.mg_of X G a11) T C_is_count
 have C_all_that_fit:=q12 (P:=l.prog) (w:=w) (base:=base) (qF (st:=zW) l12 c12 k12) (PySem.W.mg_of X G a12) T C_stowed_further C_need_stowable C_need_count C_need_store
 have C_two_worth:=q13 (P:=l.prog) (w:=w) (base:=base) (qF (st:=ju) l13 c13 k13) (PySem.W.mg_of X G a13) T C_all_that_fit
 have C__law_take:=q14 (P:=l.prog) (w:=w) (base:=base) (qF (st:=j7) l14 c14 k14) (PySem.W.mg_of X G a14) T
 have C_taken_together:=q15 (P:=l.prog) (w:=w) (base:=base) (qF (st:=za) l15 c15 k15) (PySem.W.mg_of X G a15) T
 have C_can_take:=q16 (P:=l.prog) (w:=w) (base:=base) (qF (st:=yK) l16 c16 k16) (PySem.W.mg_of X G a16) T C_is_count
 have C_is_load:=q17 (P:=l.prog) (w:=w) (base:=base) (qF (st:=yZ) l17 c17 k17) (PySem.W.mg_of X G a17) T C_can_take C_need_store
 have C_need_load:=q18 (P:=l.prog) (w:=w) (base:=base) (qF (st:=j8) l18 c18 k18) (PySem.W.mg_of X G a18) T C_is_load
 have C_worth:=q19 (P:=l.prog) (w:=w) (base:=base) (qF (st:=qap) l19 c19 k19) (PySem.W.mg_of X G a19) T C_taken_together C_need_load
 have C_whole_load:=q20 (P:=l.prog) (w:=w) (base:=base) (qF (st:=zK) l20 c20 k20) (PySem.W.mg_of X G a20) T C_need_store
 have C_greatest_divisor:=q21 (P:=l.prog) (w:=w) (base:=base) (qF (st:=qX) l21 c21 k21) (PySem.W.mg_of X G a21) T
 have C_lowest_terms:=q22 (P:=l.prog) (w:=w) (base:=base) (qF (st:=zX) l22 c22 k22) (PySem.W.mg_of X G a22) T C_greatest_divisor
 have C_added:=q23 (P:=l.prog) (w:=w) (base:=base) (qF (st:=qaq) l23 c23 k23) (PySem.W.mg_of X G a23) T C_lowest_terms
 have C_bound_of:=q24 (P:=l.prog) (w:=w) (base:=base) (qF (st:=yL) l24 c24 k24) (PySem.W.mg_of X G a24) T C_lowest_terms
 have C_lesser:=q25 (P:=l.prog) (w:=w) (base:=base) (qF (st:=vL) l25 c25 k25) (PySem.W.mg_of X G a25) T
 have C_times_price:=q26 (P:=l.prog) (w:=w) (base:=base) (qF (st:=jj) l26 c26 k26) (PySem.W.mg_of X G a26) T
 have C_is_price:=q27 (P:=l.prog) (w:=w) (base:=base) (qF (st:=yM) l27 c27 k27) (PySem.W.mg_of X G a27) T C_greatest_divisor C_is_count
 have C_need_price:=q28 (P:=l.prog) (w:=w) (base:=base) (qF (st:=jE) l28 c28 k28) (PySem.W.mg_of X G a28) T C_is_price
 have C_two_bound:=q29 (P:=l.prog) (w:=w) (base:=base) (qF (st:=j9) l29 c29 k29) (PySem.W.mg_of X G a29) T C_added C_bound_of C_lesser C_times_price C_need_stowable C_need_price C_need_count C_need_store
 have C__law_divisor:=q30 (P:=l.prog) (w:=w) (base:=base) (qF (st:=zY) l30 c30 k30) (PySem.W.mg_of X G a30) T
 have C__law_low:=q31 (P:=l.prog) (w:=w) (base:=base) (qF (st:=yN) l31 c31 k31) (PySem.W.mg_of X G a31) T C__law_divisor
 have C_best_beside:=q32 (P:=l.prog) (w:=w) (base:=base) (qF (st:=zQ) l32 c32 k32) (PySem.W.mg_of X G a32) T
 have C_beating_order:=q33 (P:=l.prog) (w:=w) (base:=base) (qF (st:=zF) l33 c33 k33) (PySem.W.mg_of X G a33) T
 have C_all_loads:=q34 (P:=l.prog) (w:=w) (base:=base) (qF (st:=jv) l34 c34 k34) (PySem.W.mg_of X G a34) T
 have C_all_weighed:=q35 (P:=l.prog) (w:=w) (base:=base) (qF (st:=zR) l35 c35 k35) (PySem.W.mg_of X G a35) T C_all_loads C_taken_together
 have C_not_beaten:=q36 (P:=l.prog) (w:=w) (base:=base) (qF (st:=jF) l36 c36 k36) (PySem.W.mg_of X G a36) T C_beating_order C_all_weighed
 have C_second_half:=q37 (P:=l.prog) (w:=w) (base:=base) (qF (st:=jk) l37 c37 k37) (PySem.W.mg_of X G a37) T
 have C_first_half:=q38 (P:=l.prog) (w:=w) (base:=base) (qF (st:=jG) l38 c38 k38) (PySem.W.mg_of X G a38) T
 have C_half_loads:=q39 (P:=l.prog) (w:=w) (base:=base) (qF (st:=jH) l39 c39 k39) (PySem.W.mg_of X G a39) T C_not_beaten C_second_half C_first_half C_need_single C_need_store
 have C_met_worth:=q40 (P:=l.prog) (w:=w) (base:=base) (qF (st:=jw) l40 c40 k40) (PySem.W.mg_of X G a40) T C_best_beside C_half_loads C_need_count C_need_store
 have C_stows_many:=q41 (P:=l.prog) (w:=w) (base:=base) (qF (st:=jI) l41 c41 k41) (PySem.W.mg_of X G a41) T C_all_that_fit
 have C_weight_in:=q42 (P:=l.prog) (w:=w) (base:=base) (qF (st:=jx) l42 c42 k42) (PySem.W.mg_of X G a42) T
 have C_can_stow:=q43 (P:=l.prog) (w:=w) (base:=base) (qF (st:=yO) l43 c43 k43) (PySem.W.mg_of X G a43) T C_is_count C_sacks_for
 have C_is_stow:=q44 (P:=l.prog) (w:=w) (base:=base) (qF (st:=y7) l44 c44 k44) (PySem.W.mg_of X G a44) T C_can_stow C_need_stowable
 have C_need_stow:=q45 (P:=l.prog) (w:=w) (base:=base) (qF (st:=ya) l45 c45 k45) (PySem.W.mg_of X G a45) T C_is_stow
 have C_stow_weights:=q46 (P:=l.prog) (w:=w) (base:=base) (qF (st:=zZ) l46 c46 k46) (PySem.W.mg_of X G a46) T C_weight_in C_need_stow
 have C_stow_worth:=q47 (P:=l.prog) (w:=w) (base:=base) (qF (st:=ja) l47 c47 k47) (PySem.W.mg_of X G a47) T C_need_stow
 have C_two_stow:=q48 (P:=l.prog) (w:=w) (base:=base) (qF (st:=jJ) l48 c48 k48) (PySem.W.mg_of X G a48) T C_all_that_fit
 have C__law_single:=q49 (P:=l.prog) (w:=w) (base:=base) (qF (st:=jm) l49 c49 k49) (PySem.W.mg_of X G a49) T C__law_take
 have C__law_box:=q50 (P:=l.prog) (w:=w) (base:=base) (qF (st:=yP) l50 c50 k50) (PySem.W.mg_of X G a50) T
 exact qnQ (P:=l.prog) (w:=w) (base:=base) (qF (st:=qb1) l51 c51 k51) T C_two_worth C__law_take C_worth C_whole_load C_two_bound C__law_low C_met_worth C_stows_many C_stow_weights C_is_stow C_stow_worth C_two_stow C__law_single C__law_box
theorem qoV {K:Fr0} {H:Hp} {a:Addr} {ns:List Int} (hO:qnS H) (hS:SqL K H a (ns.map V.int)):qmB K H a (ns.map V.int):=by
 rcases hS with (h | h) | h
 ·rcases hO a with z | z
  ·rw [h] at z;cases z
  ·rcases z with ⟨_,_,z⟩ | ⟨_,_,z⟩<;>(rw [h] at z;cases z)
 ·exact .inl h
 ·exact .inr h
theorem walk {l:PySem.W.OpenLaw} {q:Program} {loose:List Str} {XP:(Str->Option Value)->Heap->Prop} {YP:World->Heap->Prop} {d:DefRec} {K:Params->PySem.W.Frag} (hn:l.most=some 63) (hdf:d.params.defaults=[])
  (hY:∀ (w:World) (h:Heap),YP w h->(K w.params).In h) (hlm:∀ (w:World) (mean:ExcName->Option Value) (mg mb:Str->Option Value) (h:Heap) (c Pt:Addr) (pos:Pos),Top q (PySem.W.looseW q loose) mean mg mb h->(K w.params).In h->lamOf (K w.params)=some (c,Pt,pos)->PySem.W.CodeHd h c Pt/\h.get? Pt=some (PySem.W.tabObj #[])/\(K w.params).lookup Pt=none) (hlaw:∀ ns:List Int,ns.length<=63->qeV [.fz ns] = .ok (.bl true))
  (F:∀ (w:World) (mg:Str->Option Value) (fa:Addr) (h:Heap),(K w.params).In h->h.Ns mainGlobals mg->mg d.name=some (.ref fa) ->
   ∃ fd:FuncData,(∀ (s:Shared) (u:Value),BindsTo s fd ⟨[u],[]⟩ [("script",u)])/\∀ base:Heap,(K w.params).In base->base.Ns mainGlobals mg->qcc l.prog w (K w.params) mg base CX0 10 fa fd ["script"] (spD (K w.params) qeV)) :
  PySem.W.WalkO q loose XP YP l.row.toRowW d [] (fun f vs=>PySem.call f vs) :=
 L2.walk_lam (n:=63) (k:=10) (x:="script") (CX:=fun _=>CX0) (sp:=fun w=>spD (K w.params) qeV) (lm:=fun w=>(lamOf (K w.params)).map fun z=>(z.1,z.2.1,z.2.2,qor)) hn (by decide) hdf ⟨rfl,by decide,by decide,rfl⟩ hY (fun w mean mg mb h c Pt pos z T X e=>by
  cases el:lamOf (K w.params) with
  | none=>rw [el] at e;cases e
  | some p=>obtain ⟨c',P',pos'⟩:=p;rw [el] at e;cases e;exact hlm w mean mg mb h _ _ _ T X el) F (fun w H a ns hl hO hT hS=>by
  refine ⟨[.fz ns],fun _=>False,⟨.ref a,[],rfl,⟨a,rfl,qoV hO hS⟩,rfl⟩,fun c P pos e=>⟨hT c P pos qor (by rw [e];rfl),fun z=>z⟩,?_⟩
  rw [hlaw ns hl]
  exact fun v H' _ h=>h) fun _ _ _ _ _ z=>z
end Law
end L2.Sk
open PySem PySem.W PyProof.Rows
set_option maxRecDepth 100000 in
set_option maxHeartbeats 0 in
theorem PySem.Challenge.cw_sackloads_k65_whole_two_sacks_holds : PySem.Challenge.rw_sackloads_k65_whole_two_sacks.Holds := by
 w_on;o_law;k_head;(case hw=>w_witness2)
 k_fill
 refine L2.Sk.Law.walk (l:=PySem.Challenge.rw_sackloads_k65_whole_two_sacks) rfl rfl (fun w h Y=>by first | exact PySem.W.kIn_of Y | exact PySem.W.km_in_of Y) ?hlm0 L2.Sk.Law.law_true ?F
 case hlm0 =>
  intro w mean mg mb h c Pt pos T X e
  exact absurd ((show L2.Sk.lamOf _=none by kernel_rfl).symm.trans e) (by simp)
 case F =>
  intro w mg fa h KX G hmg
  refine' L2.Sk.Law.all_mk KX G hmg ?a0 ?l0 ?c0 ?k0 ?a1 ?l1 ?c1 ?k1 ?a2 ?l2 ?c2 ?k2 ?a3 ?l3 ?c3 ?k3 ?a4 ?l4 ?c4 ?k4 ?a5 ?l5 ?c5 ?k5 ?a6 ?l6 ?c6 ?k6 ?a7 ?l7 ?c7 ?k7 ?a8 ?l8 ?c8 ?k8 ?a9 ?l9 ?c9 ?k9 ?a10 ?l10 ?c10 ?k10 ?a11 ?l11 ?c11 ?k11 ?a12 ?l12 ?c12 ?k12 ?a13 ?l13 ?c13 ?k13 ?a14 ?l14 ?c14 ?k14 ?a15 ?l15 ?c15 ?k15 ?a16 ?l16 ?c16 ?k16 ?a17 ?l17 ?c17 ?k17 ?a18 ?l18 ?c18 ?k18 ?a19 ?l19 ?c19 ?k19 ?a20 ?l20 ?c20 ?k20 ?a21 ?l21 ?c21 ?k21 ?a22 ?l22 ?c22 ?k22 ?a23 ?l23 ?c23 ?k23 ?a24 ?l24 ?c24 ?k24 ?a25 ?l25 ?c25 ?k25 ?a26 ?l26 ?c26 ?k26 ?a27 ?l27 ?c27 ?k27 ?a28 ?l28 ?c28 ?k28 ?a29 ?l29 ?c29 ?k29 ?a30 ?l30 ?c30 ?k30 ?a31 ?l31 ?c31 ?k31 ?a32 ?l32 ?c32 ?k32 ?a33 ?l33 ?c33 ?k33 ?a34 ?l34 ?c34 ?k34 ?a35 ?l35 ?c35 ?k35 ?a36 ?l36 ?c36 ?k36 ?a37 ?l37 ?c37 ?k37 ?a38 ?l38 ?c38 ?k38 ?a39 ?l39 ?c39 ?k39 ?a40 ?l40 ?c40 ?k40 ?a41 ?l41 ?c41 ?k41 ?a42 ?l42 ?c42 ?k42 ?a43 ?l43 ?c43 ?k43 ?a44 ?l44 ?c44 ?k44 ?a45 ?l45 ?c45 ?k45 ?a46 ?l46 ?c46 ?k46 ?a47 ?l47 ?c47 ?k47 ?a48 ?l48 ?c48 ?k48 ?a49 ?l49 ?c49 ?k49 ?a50 ?l50 ?c50 ?k50 ?a51 ?l51 ?c51 ?k51 ?zb_abs ?zb_all ?zb_any ?zb_bool ?zb_divmod ?zb_int ?zb_isinstance ?zb_len ?zb_max ?zb_min ?zb_range ?zb_sorted ?zb_sum ?zb_tuple ?zb_zip ?zg_BOTTOM ?zg_KINDS_AT_MOST ?zg_KINDS_STOWED_AT_MOST ?zg_LEFT_ONE ?zg_LEFT_OTHER ?zg_LOAD ?zg_MOST ?zg_STOW ?zg_STOW_WORTH ?zg_TOP ?zg_WEIGHT ?zg_WORTH
  (case a0=>k_is)
  (case l0=>k_is)
  (case c0=>k_is)
  (case k0=>k_is)
  (case a1=>k_is)
  (case l1=>k_is)
  (case c1=>k_is)
  (case k1=>k_is)
  (case a2=>k_is)
  (case l2=>k_is)
  (case c2=>k_is)
  (case k2=>k_is)
  (case a3=>k_is)
  (case l3=>k_is)
  (case c3=>k_is)
  (case k3=>k_is)
  (case a4=>k_is)
  (case l4=>k_is)
  (case c4=>k_is)
  (case k4=>k_is)
  (case a5=>k_is)
  (case l5=>k_is)
  (case c5=>k_is)
  (case k5=>k_is)
  (case a6=>k_is)
  (case l6=>k_is)
  (case c6=>k_is)
  (case k6=>k_is)
  (case a7=>k_is)
  (case l7=>k_is)
  (case c7=>k_is)
  (case k7=>k_is)
  (case a8=>k_is)
  (case l8=>k_is)
  (case c8=>k_is)
  (case k8=>k_is)
  (case a9=>k_is)
  (case l9=>k_is)
  (case c9=>k_is)
  (case k9=>k_is)
  (case a10=>k_is)
  (case l10=>k_is)
  (case c10=>k_is)
  (case k10=>k_is)
  (case a11=>k_is)
  (case l11=>k_is)
  (case c11=>k_is)
  (case k11=>k_is)
  (case a12=>k_is)
  (case l12=>k_is)
  (case c12=>k_is)
  (case k12=>k_is)
  (case a13=>k_is)
  (case l13=>k_is)
  (case c13=>k_is)
  (case k13=>k_is)
  (case a14=>k_is)
  (case l14=>k_is)
  (case c14=>k_is)
  (case k14=>k_is)
  (case a15=>k_is)
  (case l15=>k_is)
  (case c15=>k_is)
  (case k15=>k_is)
  (case a16=>k_is)
  (case l16=>k_is)
  (case c16=>k_is)
  (case k16=>k_is)
  (case a17=>k_is)
  (case l17=>k_is)
  (case c17=>k_is)
  (case k17=>k_is)
  (case a18=>k_is)
  (case l18=>k_is)
  (case c18=>k_is)
  (case k18=>k_is)
  (case a19=>k_is)
  (case l19=>k_is)
  (case c19=>k_is)
  (case k19=>k_is)
  (case a20=>k_is)
  (case l20=>k_is)
  (case c20=>k_is)
  (case k20=>k_is)
  (case a21=>k_is)
  (case l21=>k_is)
  (case c21=>k_is)
  (case k21=>k_is)
  (case a22=>k_is)
  (case l22=>k_is)
  (case c22=>k_is)
  (case k22=>k_is)
  (case a23=>k_is)
  (case l23=>k_is)
  (case c23=>k_is)
  (case k23=>k_is)
  (case a24=>k_is)
  (case l24=>k_is)
  (case c24=>k_is)
  (case k24=>k_is)
  (case a25=>k_is)
  (case l25=>k_is)
  (case c25=>k_is)
  (case k25=>k_is)
  (case a26=>k_is)
  (case l26=>k_is)
  (case c26=>k_is)
  (case k26=>k_is)
  (case a27=>k_is)
  (case l27=>k_is)
  (case c27=>k_is)
  (case k27=>k_is)
  (case a28=>k_is)
  (case l28=>k_is)
  (case c28=>k_is)
  (case k28=>k_is)
  (case a29=>k_is)
  (case l29=>k_is)
  (case c29=>k_is)
  (case k29=>k_is)
  (case a30=>k_is)
  (case l30=>k_is)
  (case c30=>k_is)
  (case k30=>k_is)
  (case a31=>k_is)
  (case l31=>k_is)
  (case c31=>k_is)
  (case k31=>k_is)
  (case a32=>k_is)
  (case l32=>k_is)
  (case c32=>k_is)
  (case k32=>k_is)
  (case a33=>k_is)
  (case l33=>k_is)
  (case c33=>k_is)
  (case k33=>k_is)
  (case a34=>k_is)
  (case l34=>k_is)
  (case c34=>k_is)
  (case k34=>k_is)
  (case a35=>k_is)
  (case l35=>k_is)
  (case c35=>k_is)
  (case k35=>k_is)
  (case a36=>k_is)
  (case l36=>k_is)
  (case c36=>k_is)
  (case k36=>k_is)
  (case a37=>k_is)
  (case l37=>k_is)
  (case c37=>k_is)
  (case k37=>k_is)
  (case a38=>k_is)
  (case l38=>k_is)
  (case c38=>k_is)
  (case k38=>k_is)
  (case a39=>k_is)
  (case l39=>k_is)
  (case c39=>k_is)
  (case k39=>k_is)
  (case a40=>k_is)
  (case l40=>k_is)
  (case c40=>k_is)
  (case k40=>k_is)
  (case a41=>k_is)
  (case l41=>k_is)
  (case c41=>k_is)
  (case k41=>k_is)
  (case a42=>k_is)
  (case l42=>k_is)
  (case c42=>k_is)
  (case k42=>k_is)
  (case a43=>k_is)
  (case l43=>k_is)
  (case c43=>k_is)
  (case k43=>k_is)
  (case a44=>k_is)
  (case l44=>k_is)
  (case c44=>k_is)
  (case k44=>k_is)
  (case a45=>k_is)
  (case l45=>k_is)
  (case c45=>k_is)
  (case k45=>k_is)
  (case a46=>k_is)
  (case l46=>k_is)
  (case c46=>k_is)
  (case k46=>k_is)
  (case a47=>k_is)
  (case l47=>k_is)
  (case c47=>k_is)
  (case k47=>k_is)
  (case a48=>k_is)
  (case l48=>k_is)
  (case c48=>k_is)
  (case k48=>k_is)
  (case a49=>k_is)
  (case l49=>k_is)
  (case c49=>k_is)
  (case k49=>k_is)
  (case a50=>k_is)
  (case l50=>k_is)
  (case c50=>k_is)
  (case k50=>k_is)
  (case a51=>k_is)
  (case l51=>k_is)
  (case c51=>k_is)
  (case k51=>k_is)
  (case zb_abs=>k_is)
  (case zb_all=>k_is)
  (case zb_any=>k_is)
  (case zb_bool=>k_is)
  (case zb_divmod=>k_is)
  (case zb_int=>k_is)
  (case zb_isinstance=>k_is)
  (case zb_len=>k_is)
  (case zb_max=>k_is)
  (case zb_min=>k_is)
  (case zb_range=>k_is)
  (case zb_sorted=>k_is)
  (case zb_sum=>k_is)
  (case zb_tuple=>k_is)
  (case zb_zip=>k_is)
  (case zg_BOTTOM=>k_is)
  (case zg_KINDS_AT_MOST=>k_is)
  (case zg_KINDS_STOWED_AT_MOST=>k_is)
  (case zg_LEFT_ONE=>k_is)
  (case zg_LEFT_OTHER=>k_is)
  (case zg_LOAD=>k_is)
  (case zg_MOST=>k_is)
  (case zg_STOW=>k_is)
  (case zg_STOW_WORTH=>k_is)
  (case zg_TOP=>k_is)
  (case zg_WEIGHT=>k_is)
  (case zg_WORTH=>k_is)
