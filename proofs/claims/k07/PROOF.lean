import PyProof.Rows.All
import Wide.All
import OpenK.AllK
import Wide.FinOn
import Lean
import PyProof.EqAt
import PyProof.EqKinds
import PyProof.TupleCall
import KE.KUnpack
import PyProof.Rows.SetFrom
import KE.KRevIter
import KE.KIntText
import PyProof.Rows.StrPartPair
import PyProof.StrLawsTight
import PyProof.StrLawsChain
import PySem.Challenge.RW_sackloads_k07_whole_loads_and_what_they
open PySem renaming Shared→yaa,wpAny_bind→yab,mainGlobals→yad,starEach→yag,Program→yaj,wpAny_pure→yal,sizeLine→yaq,Around→yar,bootBuiltins→yaA,backTo→yaE,wpAny_field→yaG,compareOp→yaJ,FuncData→yaO,IsPair→yaR,strValues→yaU,wpAny_seqItems→yaZ,wpAny_truthy_bool→ya1,wpAny_holding→ya7,binaryOp→ya9,wpAny_setField_rec→ybb,sizeLine_eq→ybc,wpAny_mono→ybd,assignEach→ybe,behindInMarks→ybi,mem_of_lookup→ybj,wpAny_pyIter_tuple→ybl,wpAny_passesOwn→ybp,Keyword→ybr,wpAny_pyIter_list→ybw,call_meets→yby,wpAny_call_entry→ybC,Builtin→ybH,attributeBase→ybI,rawInt→ybK,letOwnedTupleGo→ybL,wpAny_loadPart'→ybN,wpAny_newObj_type→ybQ,builtinLookup_eq_fast→ybU,typeIs_str→ybV,pyNext→ybY,codeAny→yb1,sliceBounds→yb2,keywordEach→yb3,codeAny_builtin→yb6,builtinsNs→ycf,foldedSetIterable→ych,wpAny_pyIter_enum→yck,JoinOk→ycn,swapsWithSole→yco,swappedStores→ycp,NameKind→ycs,wpAny_isInstance→ycv,Env→ycy,wpAny_execs_nil→ycz,codeAny_call_builtin→ycC,wpAny_updateSeq_pair→ycD,typeLookup_type→ycE,wpAny_specialOf→ycF,holding→ycJ,recursionLimit→ycL,backToKw→ycM,assign→ycQ,Result→ycT,wpAny_Call_Name_kw→ycU,wpAny_onRaise→yc3,wpAny_attempt→yc4,wpAny_letOwnedTupleGo_enum→yc5,plainId_quiet→yc6,sysModules→ydi,wpAny_rule→ydj,typeLookup→ydk,typeIs_int→ydl,wpAny_binaryOp_repeat_ref→ydm,BindsTo→ydo,callerA→ydp,wpAny_eqBool_int→ydq,noFill_tuple_add→ydt,wpAny_pyIter_zip→ydu,wpAny_pyNext_enum_itemD→ydy,swapsWith→ydD,PassesOwn→ydE,wpAny_updateSeq→ydL,wpAny_Call_method_late→ydQ,wpAny_letGo→ydU,wpAny_pyNext_enum_endD→ydX,wpAny_isTrue_Compare1→ydY,wpAny_newTuple→yd3,isSubtype_stop→yd4,intText?→yd9,GenState→yec,wpAny_pyIter_revIter→yeh,assignInOrder→yei,wpAny_standAt→yej,seq_tuple_add→yek,codeAny_mono→yeu,cellsFrom→yev,Arguments→yew,concat_meets→yey,seqIndex_neg→yez,callType_new→yeE,Fin→yeH,wpAny_typeOf→yeJ,intKind→yeL,seqIndex_of→yeT,bindName→yeV,ReadsAll→yeW,wpAny_Name→yeX,call→yeY
open PySem.Heap renaming lt_size→yac,size_push→yaM,SameBut→ybA,size_update→ycw,IsTuple→yeD
open PySem.Value renaming ref→yae,none→yaD,bool→yaX,type→ybJ,builtin→ycq,int→ycP,str→yeq
open PySem.W renaming nsIn→yaf,Frag→yah,keepIn→yai,mg_of→yam,codeIn→yan,fnOf→yap,mg_none_of→yay,kia_one→yaH,findIn→ybk,methodObj→ydd,kitx_list→yde,kat_cons→ydv,instObj→ydC,OpenLaw→ydJ,kat_yes→ydK,cellsFrom_some→ydO,lookIn→ydZ,kitOne→yd0,CodeHd→yd1,tabObj→yd2,kat_no→yd8,kitx_tuple→yes,specialIn→yeN,kitx_dict→yeO
open Nat renaming le_refl→yak,ne_of_lt→yat,lt_of_lt_of_le→yaw,zero_le→yaV,le_trans→ya4,ne_of_gt→ya5,le_add_right→ybD,lt_irrefl→ybG,le_of_not_lt→yct,lt_succ_of_lt→ydf,le_of_lt→ydr,exists_eq_add_of_le→ydz,succ_mul→yeA,mul_comm→yeB,zero_add→yeG
open Bool renaming and_eq_true→yao,false_ne_true→yas,false_eq_true→yaN,true_and→yaW,and_self→ya8,not_eq_true'→ybR,eq_iff_iff→yb5,false_and→ycK,or_eq_true→ydH
open List renaming mem_cons→yau,replicate→yav,lookup_cons→yaP,length_singleton→yaQ,range→yaY,length_replicate→yba,set_cons_zero→ybo,append_nil→ybq,nil_append→ybt,flatten_cons→ybv,forIn_cons→yb7,map_nil→yca,set_cons_succ→ycd,reverse_cons→yci,mem_of_getElem?→ycA,all_map→ycG,filterMap_cons→ycH,forIn_nil→ycO,all_cons→yc7,sum_cons→yc9,length_range→ydg,map_reverse→ydx,of_mem_zip→ydG,take_of_length_le→ydS,drop_of_length_le→ydT,mem_iff_getElem?→yd5,singleton_append→yea,mem_append_left→yed,foldl→yef,zip_cons_cons→yex,ext_getElem?→yeS
open Option.some renaming inj→yax
open PySem.Builtin.SmallTypes renaming nextOf→yaz,ownedTupleIsFree→yaB,ownedTupleHandOut→ycb
open PySem.Obj renaming mapSeq→yaC,data_mapFields→yeC
open Or renaming inr→yaF,inl→ya0
open PySem.AutoSeq1 renaming wpAny_loadPart'→yaI,sub_tuple_tuple→yds
open PySem.Builtin.Str renaming occurrences→yaK,strSub→ybn,strKind→yeo,tooLong→yep
open PySem.NameKind renaming free→yaL,cell→ycr
open PyProof.Rows renaming callWith_type1→yaS,IntsAre→ybs,kindOf→ybS,tuples'→ybW,AllBare→yb0,seqObj→ycc,envOfC→ycl,assignInOrder_cons→ycR,boot_enumerate→ycW,subscriptTail_builtinR→ydP,listUpdate_at→yel,keyLt'→yem,assignInOrder_nil→yeM
open PySem.Str renaming ofString→yaT,join→yce,empty→ydF
open PySem.PyData renaming canLayAll0→ya2,eqv→ybg,canLay0→ybT,depthAll→yb8,eqvAll→yda,depth→yeK
open Array renaming length_toList→ya3,toList_append→ycI,forIn_toList→yeI
open False renaming elim→ya6
open ForInStep renaming yield→ybf
open PySem.F renaming slot_zip_next→ybh,slot_tuple_iterator_next→ybu,plain_extend_loop→ybF,args_tuple_add_2→yb9,entry_tuple_add→ycg,args_zip_next_1→ycj,slot_tuple_add→ycm,entry_zip_next→ycu,typeOf_object_class→ycx,slot_int_rmul→ycB,args_tuple_iterator_next_1→ycN,entry_tuple_iterator_next→ycV,args_str_split_2→ycY,slot_str_partition→ydb,type_str_partition→ydc,entry_str_split→ydh,slot_str_split→ydw,typeCall_enumerate_1→ydW,newCall_enumerate_1→yd6,entry_enumerate_new→yd7,args_object_init_2→yeg,entry_extend_loop→yen,called_enumerate→yeF,args_int_rmul_2→yeQ,plain_list_iadd→yeR
open PySem.Builtin.List renaming listExtendWith→ybm,listTooLong→ybB,listSameRef→ybE,listLengthHint→ycX,listUpdate→ydA
open Int renaming toNat_natCast→ybx,emod_lt_of_pos→ycZ,fdiv_eq_ediv_of_nonneg→yc1,fmod_eq_emod_of_nonneg→yc2,eq_ofNat_of_zero_le→ydB,emod_nonneg→ydM,le_refl→yeU
open Ne renaming symm→ybz
open True renaming intro→ybM
open Option renaming map_some→ybO
open PySem.PassesOwn renaming never→ybP
open PySem.Around renaming under_plainId→ybX
open Sum renaming inl→ybZ,inr→ydn
open PySem.Heap.SameBut renaming update→yb4
open PySem.Data renaming cell→ycS,fields→ydN
open PySem.Calls renaming Name_function_global→yc0,callWith_builtin→ydR,evalArgs_plain→yee,spliced_cons→yet,spliced_nil→yeP
open List.cons renaming inj→yc8
open LawfulBEq renaming eq_of_beq→ydI
open PySem.Shared renaming heap→ydV
open PySem.StrLaws renaming strSub_toList→yeb
open PyProof.Rows.IsTup renaming new→yer
def PySem.W.Fast.tw2247859543109884273 : Nat := 0
def PySem.W.Fast.tw11171014721248194040 : Nat := 0
def PySem.W.Fast.tw15040885403943199831 : Nat := 0
def PySem.W.Fast.tw1989124240115707099 : Nat := 0
def PySem.W.Fast.tw17103824700773228014 : Nat := 0
set_option linter.all false
set_option Elab.async false
set_option maxRecDepth 100000
open List renaming mem_cons_of_mem → mM, mem_cons_self → mS_, getElem?_eq_getElem → gG, length_cons → lC_, length_map → lM_, length_append → lA_, getElem?_map → gM_, map_cons → mC_, mem_append → mA_, length_nil → lN_, size_toArray → sT_, mem_range → mR_, mem_map → mP_, map_map → mm_, replicate_succ → rS_, length_set → lS_, not_mem_nil → nN_, map_congr_left → mL_, append_assoc → aA_, getElem?_eq_some_iff → gI_, mem_append_right → mr_, filter_cons → ft_
namespace L2
open PySem PySem.Spec PyProof.Rows
abbrev Key:=Sum Int Str
def qh3:Key->Value->Bool
 |.inl k,v=>Value.isInt k v
 |.inr x,v=>Value.isStrOf x v
def qlX (w:World):Key->Int
 |.inl k=>hashInt k
 |.inr x=>hashStr w x
theorem qY:∀{k:Key}{v:Value},qh3 k v=true->(∃i t,k=ybZ i/\v=ycP i t)\/(∃x t,k=ydn x/\v=yeq x t)
 |.inl i,v,h=>by
  obtain⟨t,e⟩:=Value.isInt_shape (k:=i) (v:=v) h
  exact .inl ⟨i,t,rfl,e⟩
 |.inr x,v,h=>by
  obtain⟨t,e⟩:=Value.isStrOf_shape (x:=x) (v:=v) h
  exact .inr ⟨x,t,rfl,e⟩
theorem qh4 (a b:Int):decide ((ybZ a:Key)=ybZ b)=(a==b):=by
 by_cases e:a=b
 ·subst e;simp
 ·have h:¬(ybZ a:Key)=ybZ b:=λq=>e (Sum.inl.inj q)
  rw[decide_eq_false h]
  exact(beq_eq_false_iff_ne.mpr e).symm
theorem qh5 (a b:Str):decide ((ydn a:Key)=ydn b)=decide (a=b):=by
 by_cases e:a=b
 ·subst e;simp
 ·have h:¬(ydn a:Key)=ydn b:=λq=>e (Sum.inr.inj q)
  rw[decide_eq_false h,decide_eq_false e]
theorem qh6(a:Int)(b:Str):decide ((ybZ a:Key)=ydn b)=false:=decide_eq_false (λq=>nomatch q)
theorem qh7(a:Str)(b:Int):decide ((ydn a:Key)=ybZ b)=false:=decide_eq_false (λq=>nomatch q)
def wS (prog:yaj) (w:World):PySem.KeyKind prog w Key where
 is:=qh3
 hash:=qlX w
 inj:=λv a b ha hb=>by
  rcases qY ha with⟨i,t,rfl,rfl⟩|⟨x,t,rfl,rfl⟩
  ·rcases qY hb with⟨j,u,rfl,e⟩|⟨y,u,rfl,e⟩
   ·injection e with e1 _;rw[e1]
   ·exact nomatch e
  ·rcases qY hb with⟨j,u,rfl,e⟩|⟨y,u,rfl,e⟩
   ·exact nomatch e
   ·injection e with e1 _;rw[e1]
 byValue:=λk v h=>by
  rcases qY h with⟨i,t,rfl,rfl⟩|⟨x,t,rfl,rfl⟩<;>rfl
 pyHash:=λhv h=>by
  rcases qY hv with⟨i,t,rfl,rfl⟩|⟨x,t,rfl,rfl⟩
  ·exact wpAny_pyHash_int h
  ·exact wpAny_pyHash_str h
 eqBool:=λhu hv h=>by
  rcases qY hu with⟨i,t,rfl,rfl⟩|⟨x,t,rfl,rfl⟩
  ·rcases qY hv with⟨j,u,rfl,rfl⟩|⟨y,u,rfl,rfl⟩
   ·rw[qh4]at h;exact ydq h
   ·rw[qh6]at h;exact SeqAt.EqAt.int_str i t y u _ _ _ _ h
  ·rcases qY hv with⟨j,u,rfl,rfl⟩|⟨y,u,rfl,rfl⟩
   ·rw[qh7]at h;exact SeqAt.EqAt.str_int x t j u _ _ _ _ h
   ·rw[qh5]at h;exact wpAny_eqBool_str h
 «strs»:=λk x t v h=>by
  rcases qY h with⟨i,u,rfl,e⟩|⟨y,u,rfl,e⟩
  ·exact nomatch e
  ·injection e with e1 _
   subst e1
   cases v<;>rfl
end L2
namespace L2
open PySem PySem.Spec PyProof.Rows
inductive V where
 |non|bl (b:Bool)|int (i:Int)|str (x:Str)|byt (b:Array UInt8)|flt (b:UInt64)|ref (a:Addr)|ty (n:String)
 deriving DecidableEq
def jm:V->Value->Prop
 |.non,u=>u=yaD
 |.bl b,u=>u=yaX b
 |.int i,u=>∃t,u=ycP i t
 |.str x,u=>∃t,u=yeq x t
 |.byt b,u=>∃t,u=Value.bytes b t
 |.flt b,u=>∃t,u=Value.float b t
 |.ref a,u=>u=yae a
 |.ty n,u=>u=ybJ n
abbrev qU:List V->List Value->Prop:=Paired jm
theorem qU.length{xs:List V}{us:List Value}(r:qU xs us):xs.length=us.length:=Paired.length r
theorem qU.get:∀{xs:List V}{us:List Value}{i:Nat}{x:V},qU xs us->xs[i]? = some x->∃u,us[i]? = some u/\jm x u
 |_,_,_,_,.nil,e=>by simp at e
 |_,_,0,_,.cons r _,e=>by simp at e;subst e;exact⟨_,rfl,r⟩
 |_,_,i+1,x,.cons _ t,e=>by
  obtain⟨u,h1,h2⟩:=qU.get (i:=i) (x:=x) t (by simpa using e)
  exact⟨u,by simpa using h1,h2⟩
theorem qU.set {x:V} {u:Value} (r:jm x u):∀{xs:List V}{us:List Value}(i:Nat),qU xs us->qU (xs.set i x) (us.set i u)
 |_,_,_,.nil => .nil
 |_,_,0,.cons _ t => .cons r t
 |_,_,i+1,.cons q t => .cons q (qU.set r i t)
theorem qU.append:∀{xs ys:List V}{us ws:List Value},qU xs us->qU ys ws->qU (xs++ys) (us++ws)
 |_,_,_,_,.nil,s=>s
 |_,_,_,_,.cons r t,s => .cons r (qU.append t s)
theorem qU.take:∀{xs:List V}{us:List Value}(n:Nat),qU xs us->qU (xs.take n) (us.take n)
 |_,_,0,_ => .nil
 |_,_,_+1,.nil => .nil
 |_,_,n+1,.cons r t => .cons r (qU.take n t)
theorem qU.drop:∀{xs:List V}{us:List Value}(n:Nat),qU xs us->qU (xs.drop n) (us.drop n)
 |_,_,0,r=>r
 |_,_,_+1,.nil => .nil
 |_,_,n+1,.cons _ t=>qU.drop n t
def qh8:Option V->Option Value->Prop
 |some v,some u=>jm v u
 |none,none=>True
 |_,_=>False
def KV{κ:Type}:List (κ×V)->List (κ×Value)->Prop:=Paired λ(p:κ×V) (q:κ×Value)=>p.1=q.1/\jm p.2 q.2
def kV:Key->V
 |.inl i => .int i
 |.inr x => .str x
inductive HO where
 /-- a list -/
 |lst (xs:List V)
 /-- a tuple (never changes) -/
 |tup (xs:List V)
 /-- a dict whose keys are ints and texts;one whose keys are tuples of ints and texts (the empty one is both) -/
 |dK (kvs:List (Key×V))|dT (kvs:List (List Key×V))
 /-- a set of ints: its members,its size -/
 |set (S:Int->Bool) (n:Nat)
 /-- an instance of the class at C,its dict at dx,its attributes -/
 |ins (C dx:Addr) (fs:List (Str×V))
 /-- the dict of the instance at x -/
 |own (x:Addr)
 /-- the dict of an exception -/
 |xd (fs:List (Str×V))
 /-- a bound method,f of x -/
 |met (f x:Addr)
 /-- a range object lo,lo+1,.. below hi -/
 |rng (lo hi:Int)
 /-- a thing that is known to the object (the script;a dict while a loop walks it): read,never written while it is so -/
 |frz (o:Obj) (u:HO)
 /-- a code object's table -/
 |tbl (ps:Array Value)
 /-- any other thing,by what is true of its one object (a def of one's own: SetO a S n:=HO.ext λh => ..) -/
 |ext (φ:Heap->Prop)
 /-- the table of a code object in which at most one lambda's code stands -/
 |lam (pos:Pos) (q:Str)
abbrev Hp:=Addr->Option HO
def upd(H:Hp)(a:Addr)(o:HO):Hp:=λb=>if b=a then some o else H b
theorem qt{H:Hp}{a:Addr}{o:HO}:upd H a o a=some o:=by unfold upd;rw[if_pos rfl]
theorem qu{H:Hp}{a b:Addr}{o:HO}(h:b≠a):upd H a o b=H b:=by unfold upd;rw[if_neg h]
theorem wu {H:Hp} {a b:Addr} {o u:HO} (h:H a=some o) (h':H b=some u) (d:o≠u):a≠b:=by
 intro e;subst e;rw[h]at h';exact d (yax h')
theorem qE {H:Hp} {a b:Addr} {o:HO} (h:H a=some o) (h':H b=none):a≠b:=by
 intro e;subst e;rw[h]at h';cases h'
section
variable(P:yaj)(w:World)
def ym (H:Hp) (h:Heap) (a:Addr):HO->Prop
 |.lst xs=>xs.length<=yaq/\∃(its:List Value)(n:Nat),qU xs its/\h.get? a=some {cls:=.type "list",data:=.seq its.toArray n}
 |.tup xs=>xs.length<=yaq/\∃its:List Value,qU xs its/\IsTup h a its.toArray
 |.dK kvs=>kvs.length<=yaq/\(a==ydi)=false/\∃vs,KV kvs vs/\h.DictOf (wS P w) a vs
 | .dT kvs=>kvs.length<=yaq/\(a==ydi)=false/\∃xs:List (List Key×Addr×Value),
   Paired (λ(p:List Key×V) (q:List Key×Addr×Value)=>p.1=q.1/\H q.2.1=some (.tup (p.1.map kV))/\jm p.2 q.2.2) kvs xs /\
   ∃o es ep,h.get? a=some o/\o.ExactDict/\o.data=.dict es ep/\es.toList=xs.map (entryOfKey (tupleKind (wS P w)))/\(xs.map (·.1)).Nodup
 |.set S n=>h.SetOf (yeL P w) a S n
 | .ins C dx fs=>H dx=some (.own a)/\fs.length<=1000/\dx≠a/\h.get? a=some (ydC C dx) /\
   ∃mA,h.Ns1 dx mA/\(∀f,qh8 (fs.lookup f) (mA f))/\PySem.Within mA (fs.map (·.1))
 |.own _=>∃o,h.get? a=some o
 |.xd fs=>∃mA,h.Ns1 a mA/\∀f,qh8 (fs.lookup f) (mA f)
 |.rng lo hi=>∃t u v,h.get? a=some {cls:=.type "range",data:=.fields #[.int lo t,.int hi u,.int 1 v]}
 |.frz o u=>h.get? a=some o/\ym H h a u
 |.tbl ps=>h.get? a=some {cls:=.none,data:=.fields ps}
 |.met f x=>h.get? a=some (ydd (.ref f) (.ref x))
 | .lam pos q=>h.get? a=some {cls:=.none,data:=.fields #[]}\/∃(c:Addr)(oc:Obj)(vs:Array Value)(t:Tok),H c=some (.frz oc (.own c))/\oc.data=.fields vs/\vs[1]? = some (.str q t) /\
   h.get? a=some {cls:=.none,data:=.fields #[ybK pos.line,ybK pos.col,.ref c]}
 |.ext φ=>φ h/\(∃o,h.get? a=some o)/\∀h1 h2:Heap,φ h1->(∀o,h1.get? a=some o->h2.get? a=some o)->φ h2
def HOk(H:Hp)(h:Heap):Prop:=∀a o,H a=some o->ym P w H h a o
end
section
variable{P:yaj}{w:World}{H H':Hp}{h h':Heap}{a:Addr}{o:HO}
theorem ym.lt (x:ym P w H h a o):a<h.objs.size:=by
 cases o with
 |lst xs=>obtain⟨_,_,_,_,e⟩:=x;exact yac e
 |tup xs=>obtain⟨_,_,_,p⟩:=x;exact p.lt
 |dK kvs=>obtain⟨_,_,_,_,o,_,_,e,_⟩:=x;exact yac e
 |dT kvs=>obtain⟨_,_,_,_,o,_,_,e,_⟩:=x;exact yac e
 |set S n=>obtain⟨o,_,_,_,e,_⟩:=x;exact yac e
 |ins C dx fs=>obtain⟨_,_,_,e,_⟩:=x;exact yac e
 |own y=>obtain⟨_,e⟩:=x;exact yac e
 |xd fs=>obtain⟨_,⟨_,_,_,e,_⟩,_⟩:=x;exact yac e
 |rng lo hi=>obtain⟨_,_,_,e⟩:=x;exact yac e
 |frz ob u=>obtain⟨e,_⟩:=x;exact yac e
 |tbl ps=>exact yac (show h.get? a=some _ from x)
 |met f y=>exact yac (show h.get? a=some _ from x)
 |ext φ=>obtain⟨_,⟨_,e⟩,_⟩:=x;exact yac e
 |lam pos q=>
  rcases x with e|⟨_,_,_,_,_,_,_,e⟩
  ·exact yac e
  ·exact yac e
theorem Paired.mapP {α β:Type} {F G:α->β->Prop}:∀{lQ:List α}{lK:List β},Paired F lQ lK->(∀a b,F a b->G a b)->Paired G lQ lK
 |_,_,.nil,_ => .nil
 |_,_,.cons r t,f => .cons (f _ _ r) (Paired.mapP t f)
theorem ym.stay (x:ym P w H h a o) (k:∀b u,(b=a\/H b=some (.own a))->h.get? b=some u->h'.get? b=some u)
  (ho:∀b,H b=some (.own a)->H' b=some (.own a)) (ht:∀b xs,H b=some (.tup xs)->H' b=some (.tup xs)) (hz:∀b ob u,H b=some (.frz ob u)->H' b=some (.frz ob u):=by exact λ_ _ _ q=>q):ym P w H' h' a o:=by
 induction o with
 |lst xs=>obtain⟨z,its,n,r,e⟩:=x;exact⟨z,its,n,r,k _ _ (.inl rfl) e⟩
 |tup xs=>obtain⟨z,its,r,ob,e,c⟩:=x;exact⟨z,its,r,ob,k _ _ (.inl rfl) e,c⟩
 |dK kvs=>obtain⟨z,y,vs,r,ob,es,ep,e,c⟩:=x;exact⟨z,y,vs,r,ob,es,ep,k _ _ (.inl rfl) e,c⟩
 |dT kvs=>
  obtain⟨z,y,xs,r,ob,es,ep,e,c⟩:=x
  exact⟨z,y,xs,Paired.mapP r λp q z=>⟨z.1,ht _ _ z.2.1,z.2.2⟩,ob,es,ep,k _ _ (.inl rfl) e,c⟩
 |set S n=>obtain⟨ob,es,ep,t,e,c⟩:=x;exact⟨ob,es,ep,t,k _ _ (.inl rfl) e,c⟩
 |ins C dx fs=>
  obtain⟨d,z,ne,e,mA,⟨od,es,ep,e2,c⟩,r⟩:=x
  exact⟨ho _ d,z,ne,k _ _ (.inl rfl) e,mA,⟨od,es,ep,k _ _ (.inr d) e2,c⟩,r⟩
 |own y=>obtain⟨ob,e⟩:=x;exact⟨ob,k _ _ (.inl rfl) e⟩
 |xd fs=>obtain⟨mA,⟨od,es,ep,e,c⟩,r⟩:=x;exact⟨mA,⟨od,es,ep,k _ _ (.inl rfl) e,c⟩,r⟩
 |rng lo hi=>obtain⟨t,u,v,e⟩:=x;exact⟨t,u,v,k _ _ (.inl rfl) e⟩
 |frz ob u ih=>obtain⟨e,q⟩:=x;exact⟨k _ _ (.inl rfl) e,ih q⟩
 |tbl ps=>
  have e:h.get? a=some {cls:=.none,data:=.fields ps}:=x
  show h'.get? a=some {cls:=.none,data:=.fields ps}
  exact k a _ (.inl rfl) e
 |met f y=>
  have e:h.get? a=some (ydd (.ref f) (.ref y)):=x
  show h'.get? a=some (ydd (.ref f) (.ref y))
  exact k a _ (.inl rfl) e
 |ext φ=>obtain⟨p,⟨o,e⟩,st⟩:=x;exact⟨st _ _ p λo q=>k _ _ (.inl rfl) q,⟨o,k _ _ (.inl rfl) e⟩,st⟩
 |lam pos q=>
  rcases x with e|⟨c,oc,vs,t,h1,h2,h3,e⟩
  ·exact .inl (k _ _ (.inl rfl) e)
  ·exact .inr ⟨c,oc,vs,t,hz _ _ _ h1,h2,h3,k _ _ (.inl rfl) e⟩
theorem HOk.lt(x:HOk P w H h)(e:H a=some o):a<h.objs.size:=(x a o e).lt
theorem HOk.fresh (x:HOk P w H h) (e:h.objs.size<=a):H a=none:=by
 cases q:H a with
 |none=>rfl
 |some u=>exact absurd (yaw (x.lt q) e) (ybG _)
theorem HOk.kept (x:HOk P w H h) (k:∀b u,h.get? b=some u->h'.get? b=some u):HOk P w H h':=λa o e=>
 (x a o e).stay (λb u _ q=>k b u q) (λ_ q=>q) λ_ _ q=>q
theorem HOk.laid (x:HOk P w H h) (k:∀b u,h.get? b=some u->h'.get? b=some u) (hp:h.objs.size<=a) (new:ym P w (upd H a o) h' a o):HOk P w (upd H a o) h':=λb u e=>by
 have hn:=x.fresh hp
 by_cases hb:b=a
 ·subst hb;rw[qt]at e;cases e;exact new
 ·rw[qu hb]at e
  exact(x b u e).stay (λc v _ q=>k c v q) (λc q=>by rw[qu (qE q hn)];exact q) (λc xs q=>by rw[qu (qE q hn)];exact q) λc ob z q=>by rw[qu (qE q hn)];exact q
end
def Rd(H:Hp)(a:Addr)(u:HO):Prop:=H a=some u\/∃o,H a=some (.frz o u)
theorem Rd.ok {P:yaj} {w:World} {H:Hp} {h:Heap} {a:Addr} {u:HO} (r:Rd H a u) (x:HOk P w H h):ym P w H h a u:=by
 rcases r with r|⟨o,r⟩
 ·exact x a u r
 ·obtain⟨_,q⟩:=x a _ r
  exact q
def Mut:Option HO->Prop
 |some (.lst _)=>True
 |some (.dK _)=>True
 |some (.dT _)=>True
 |some (.set _ _)=>True
 |some (.ins _ _ _)=>True
 |some (.ext _)=>True
 |_=>False
section
variable{P:yaj}{w:World}{H:Hp}{h h':Heap}{x e:Addr}{o':HO}
theorem HOk.write (ok:HOk P w H h) (mu:Mut (H x)) (he:e=x\/H e=some (.own x)) (k:∀b u,b≠e->h.get? b=some u->h'.get? b=some u) (heo:∃u,h'.get? e=some u)
  (new:ym P w (upd H x o') h' x o'):HOk P w (upd H x o') h':=λb u q=>by
 have nown:∀c y,H c=some (.own y)->c≠x:=λc y r z=>by subst z;rw[r]at mu;exact mu
 have ntup:∀c xs,H c=some (.tup xs)->c≠x:=λc xs r z=>by subst z;rw[r]at mu;exact mu
 have nfrz:∀c ob y,H c=some (.frz ob y)->c≠x:=λc ob y r z=>by subst z;rw[r]at mu;exact mu
 by_cases hb:b=x
 ·subst hb;rw[qt]at q;cases q;exact new
 ·rw [qu hb]at q
  by_cases hbe:b=e
  ·have q':H b=some (.own x):=by
    rcases he with z|z
    ·exact absurd (hbe.trans z) hb
    ·rw[hbe];exact z
   rw[q]at q';cases q'
   obtain⟨v,hv⟩:=heo
   exact⟨v,by rw[hbe];exact hv⟩
  ·refine (ok b u q).stay (λc v hc r=>k c v ?_ r) (λc r=>by rw[qu (nown c b r)];exact r) (λc xs r=>by rw[qu (ntup c xs r)];exact r) λc ob z r=>by rw[qu (nfrz c ob z r)];exact r
   rcases hc with rfl|hc
   ·exact hbe
   ·rintro rfl
    rcases he with z|z
    ·exact nown c b hc z
    ·rw[hc]at z;cases z;exact hb rfl
end
structure Un (fs ex:List Addr) (H H':Hp) (h h':Heap):Prop where
 keep:∀b o,h.get? b=some o->H b=none->b ∉ fs->b ∉ ex->h'.get? b=some o
 slot:∀b o,h.get? b=some o->H b=none->b∈fs->b ∉ ex->∃sl,h'.get? b=some {o with slots:=sl}
 free:∀b o,h.get? b=some o->H b=none->b ∉ ex->H' b=none
 there:∀b o,h.get? b=some o->b ∉ ex->∃o',h'.get? b=some o'
 tups:∀b xs,H b=some (.tup xs)->H' b=some (.tup xs)
 frzs:∀b o u,H b=some (.frz o u)->H' b=some (.frz o u)
 tbls:∀b pos q,H b=some (.lam pos q)->H' b=some (.lam pos q)
section
variable{fs fs' ex ex':List Addr}{H H1 H2:Hp}{h h1 h2 h':Heap}{a x e:Addr}{o:HO}
theorem Un.any (u:Un fs ex H H1 h h1) {b:Addr} {ob:Obj} (q:h.get? b=some ob) (n:H b=none) (hx:b ∉ ex):∃sl,h1.get? b=some {ob with slots:=sl}:=by
 by_cases hb:b∈fs
 ·exact u.slot b ob q n hb hx
 ·exact⟨ob.slots,u.keep b ob q n hb hx⟩
theorem Un.trans (a:Un fs ex H H1 h h1) (b:Un fs ex H1 H2 h1 h2):Un fs ex H H2 h h2 where
 keep:=λc ob q n hc hx=>b.keep c ob (a.keep c ob q n hc hx) (a.free c ob q n hx) hc hx
 slot:=λc ob q n hc hx=>by
  obtain⟨sl,e1⟩:=a.slot c ob q n hc hx
  obtain⟨sl',e2⟩:=b.slot c _ e1 (a.free c ob q n hx) hc hx
  exact⟨sl',e2⟩
 free:=λc ob q n hx=>by
  obtain⟨o',e1⟩:=a.there c ob q hx
  exact b.free c o' e1 (a.free c ob q n hx) hx
 there:=λc ob q hx=>by
  obtain⟨o',e1⟩:=a.there c ob q hx
  exact b.there c o' e1 hx
 tups:=λc xs q=>b.tups c xs (a.tups c xs q)
 frzs:=λc ob xs q=>b.frzs c ob xs (a.frzs c ob xs q)
 tbls:=λc ps x q=>b.tbls c ps x (a.tbls c ps x q)
theorem Un.kept (k:∀b u,h.get? b=some u->h'.get? b=some u):Un fs ex H H h h' :=
 ⟨λb ob q _ _ _=>k b ob q,λb ob q _ _ _=>⟨ob.slots,k b ob q⟩,λ_ _ _ n _=>n,λb ob q _=>⟨ob,k b ob q⟩,λ_ _ q=>q,λ_ _ _ q=>q,λ_ _ _ q=>q⟩
theorem Un.refl:Un fs ex H H h h:=Un.kept λ_ _ q=>q
theorem Un.laid (k:∀b u,h.get? b=some u->h'.get? b=some u) (hp:h.objs.size<=a) (hn:H a=none):Un fs ex H (upd H a o) h h' where
 keep:=λb u q _ _ _=>k b u q
 slot:=λb u q _ _ _=>⟨u.slots,k b u q⟩
 free:=λb u q n _=>by rw[qu (yat (yaw (yac q) hp))];exact n
 there:=λb u q _=>⟨u,k b u q⟩
 tups:=λb xs q=>by rw[qu (qE q hn)];exact q
 frzs:=λb u xs q=>by rw[qu (qE q hn)];exact q
 tbls:=λb ps x q=>by rw[qu (qE q hn)];exact q
theorem Un.write (mu:Mut (H x)) (he:e=x\/H e=some (.own x)) (k:∀b u,b≠e->h.get? b=some u->h'.get? b=some u) (heo:∃u,h'.get? e=some u):Un fs ex H (upd H x o) h h':=by
 have hx:∀b,H b=none->b≠x:=λb n z=>by subst z;rw[n]at mu;exact mu
 have hb:∀b,H b=none->b≠e:=λb n z=>by
  subst z
  rcases he with r|r
  ·exact hx b n r
  ·rw[n]at r;cases r
 have hm:∀b u,H b=some u->¬Mut (some u)->b≠x:=λb u q nm z=>by subst z;rw[q]at mu;exact nm mu
 refine ⟨λb u q n _ _=>k b u (hb b n) q,λb u q n _ _=>⟨u.slots,k b u (hb b n) q⟩,λb u q n _=>by rw[qu (hx b n)];exact n,λb u q _=>?_,
  λb xs q=>by rw[qu (hm b _ q λz=>z)];exact q,λb u xs q=>by rw[qu (hm b _ q λz=>z)];exact q,λb ps x q=>by rw[qu (hm b _ q λz=>z)];exact q⟩
 by_cases hbe:b=e
 ·subst hbe;exact heo
 ·exact⟨u,k b u hbe q⟩
end
def trk(h:Heap)(H:Hp):List Addr:=(yaY h.objs.size).filter λa=>(H a).isSome
def qep(h:Heap)(H:Hp):Heap:=PySem.W.hideAll h (trk h H)
theorem qcX(h:Heap)(H:Hp):(qep h H).objs.size=h.objs.size:=PySem.W.hideAll_size _ _
theorem qeq {h:Heap} {H:Hp} {b:Addr} {o:Obj} (e:h.get? b=some o) (n:H b=none):(qep h H).get? b=some o :=
 PySem.W.hideAll_get _ e λhm=>by
  have q:(H b).isSome=true:=(List.mem_filter.mp hm).2
  rw[n]at q;simp at q
theorem qgm {h:Heap} {H:Hp} {b:Addr} {o:Obj} (e:(qep h H).get? b=some o):h.get? b=some o/\H b=none:=by
 have e':h.get? b=some o:=PySem.W.of_hideAll (trk h H) e
 refine⟨e',?_⟩
 cases q:H b with
 |none=>rfl
 |some x=>
  have hm:b∈trk h H:=List.mem_filter.mpr ⟨mR_.mpr (yac e'),by simp[q]⟩
  have z:(qep h H).get? b=none:=PySem.W.hideAll_none (trk h H) hm
  rw[z]at e;cases e
def qgn(g h:Heap)(L:Addr):List (Addr×Obj):=(yaY h.objs.size).filterMap λa=>if a=L\/(g.get? a).isSome=true then none else(h.get? a).map λo=>(a,o)
def vn(g h:Heap)(L d:Addr):List (Addr×Obj):=(qgn g h L).filter λp=>decide (p.1≠d)
end L2
namespace L2
open PySem PySem.Spec PyProof.Rows
structure Mod (K:yah) (mg:Str->Option Value) (base:Heap):Prop where
 kin:K.In base
 glob:base.Ns yad mg
 blt:∃mb,base.Ns ycf mb/\∀x:Str,x≠"__name__"->mb x=yaA x
 nolimit:base.NoLimit
 bm:∃bm ob,mg "__builtins__"=some (.ref bm)/\bm≠ycf/\base.get? bm=some ob/\ob.cls=.type "module"/\ob.dict=some ycf/\ob.data=.plain
structure Cx where
 prog:yaj
 w:World
 K:yah
 mg:Str->Option Value
 base:Heap
 A:yar
 N:List Str
 s₀:yaa
 H₀:Hp
 env:Env
 outer:List Env
 stack:List Env
 ex:List Addr
 fn:Str->Bool
 calm:Bool
 pn:List (Addr×Obj)
 xe:Value->yaa->Prop
def frs(l:List Env):List Addr:=l.filterMap (·.frame)
abbrev Cx.fs(X:Cx):List Addr:=frs X.outer
def Vis(sc:Scope)(x:Str):Prop:=sc.names.lookup x=some .local\/sc.names.lookup x=some .cell\/sc.names.lookup x=some .free
def Loc(sc:Scope)(x:Str):Prop:=sc.names.lookup x=some .local\/sc.names.lookup x=some .cell
def qlY (env:Env) (h:Heap) (m:Str->Option Value) (x:Str) (u:Value):Prop :=
 (env.kindOf x=some .local/\m x=some u)\/((env.kindOf x=some .cell\/env.kindOf x=some .free)/\∃c,env.cells.lookup x=some c/\h.IsCell c (some u))
structure Cx.Ok (X:Cx):Prop where
 mod:Mod X.K X.mg X.base
 kind:X.env.scope.kind=.function
 glob:X.env.globals=yad
 blt:X.env.builtins=ycf
 above:X.s₀.heap.objs.size<=X.env.locals
 inj:∀x y c,X.env.cells.lookup x=some c->X.env.cells.lookup y=some c->x=y
 has:∀x,(X.env.kindOf x=some .cell\/X.env.kindOf x=some .free)->∃c,X.env.cells.lookup x=some c
 cab:∀x c,X.fn x=true->X.env.cells.lookup x=some c->X.s₀.heap.objs.size<=c
 hd:X.calm=true->X.A.handled=none
 frames:X.A.frames=some X.stack
 stk:X.stack=X.outer\/(X.stack=X.env::X.outer/\X.env.frame=some X.env.locals)
 exf:∀b∈X.ex,b≠X.env.locals/\∀x c,X.env.cells.lookup x=some c->c≠b
 bs:∀b o,X.base.get? b=some o->X.s₀.heap.get? b=some o/\X.H₀ b=none
 bsz:X.base.objs.size<=X.s₀.heap.objs.size
 noex:∀b o,X.base.get? b=some o->b ∉ X.ex
 exfs:∀b∈X.ex,b ∉ X.fs
 funs:X.s₀.heap.FunFrames X.base X.outer
 frf:∀b∈X.fs,X.H₀ b=none
structure Inv (X:Cx) (pins:List (Addr×Obj)) (σ:List (Option V)) (H:Hp) (s:yaa):Prop where
 ok:X.Ok
 os:s.os=X.s₀.os
 bare:yb0 s.gens
 base:Un X.fs X.ex X.H₀ H X.s₀.heap s.heap
 loc:∃m,s.heap.Ns X.env.locals m/\∀(i:Nat)(x:Str)(v:V),X.N[i]? = some x->σ[i]? = some (some v)->Vis X.env.scope x->∃u,jm v u/\qlY X.env s.heap m x u
 cell:∀x c,X.env.cells.lookup x=some c->∃v,s.heap.IsCell c v
 free:H X.env.locals=none
 freeC:∀x c,X.env.cells.lookup x=some c->H c=none
 pin:∀p∈X.pn++pins,s.heap.get? p.1=some p.2/\H p.1=none/\p.1≠X.env.locals/\p.1 ∉ X.fs/\∀v,p.2.data ≠ .cell v
 hok:HOk X.prog X.w H s.heap
 len:σ.length=X.N.length
section
variable{X:Cx}{pins:List (Addr×Obj)}{σ:List (Option V)}{H H':Hp}{s:yaa}{h':Heap}
theorem Cx.Ok.nofr (ok:X.Ok) {b:Addr} {o:Obj} (e:X.base.get? b=some o):b ∉ X.fs:=λhb=>by
 have:=(ok.funs.mem hb).1
 rw[e]at this;cases this
theorem Inv.bs (I:Inv X pins σ H s):∀b o,X.base.get? b=some o->s.heap.get? b=some o/\H b=none:=λb o e=>
 ⟨I.base.keep b o (I.ok.bs b o e).1 (I.ok.bs b o e).2 (I.ok.nofr e) (I.ok.noex b o e),I.base.free b o (I.ok.bs b o e).1 (I.ok.bs b o e).2 (I.ok.noex b o e)⟩
theorem Inv.bk(I:Inv X pins σ H s):∀b o,X.base.get? b=some o->s.heap.get? b=some o:=λb o e=>(I.bs b o e).1
theorem Inv.mod(I:Inv X pins σ H s):Mod X.K X.mg X.base:=I.ok.mod
theorem Inv.kIn(I:Inv X pins σ H s):X.K.In s.heap:=I.ok.mod.kin.keeps I.bk
theorem Inv.lt(I:Inv X pins σ H s):X.env.locals<s.heap.objs.size:=let ⟨_,hn,_⟩:=I.loc;hn.lt
theorem Inv.sz(I:Inv X pins σ H s):X.s₀.heap.objs.size<=s.heap.objs.size:=ya4 I.ok.above (ydr I.lt)
theorem Inv.nofs (I:Inv X pins σ H s) {a:Addr} (h:s.heap.objs.size<=a):a ∉ X.fs:=λhb=>by
 obtain⟨_,o,ho,_⟩:=I.ok.funs.mem hb
 exact absurd (yaw (yac ho) (ya4 I.sz h)) (ybG _)
theorem Inv.cne (I:Inv X pins σ H s):∀x c,X.env.cells.lookup x=some c->c≠X.env.locals:=λx c e z=>by
 obtain⟨v,o,ho,hd⟩:=I.cell x c e
 obtain⟨m,⟨o',es,ep,ho',hd',_⟩,_⟩:=I.loc
 rw[z,ho']at ho;cases ho;rw[hd']at hd;cases hd
theorem Inv.funs (I:Inv X pins σ H s):s.heap.FunFrames X.base X.outer:=by
 have all:∀(l:List Env),(∀b∈frs l,b∈X.fs)->X.s₀.heap.FunFrames X.base l->s.heap.FunFrames X.base l:=by
  intro l
  induction l with
  |nil=>intro _ _;trivial
  |cons env r ih=>
   intro hs hl
   obtain⟨hk,⟨L,o,hf,hn,ho,hd⟩,hr⟩:=hl
   have hL:L∈X.fs:=hs L (by unfold frs;rw[ycH,hf];exact mS_)
   obtain⟨sl,e⟩:=I.base.slot L o ho (I.ok.frf L hL) hL λz=>I.ok.exfs L z hL
   exact⟨hk,⟨L,_,hf,hn,e,hd⟩,ih (λb hb=>hs b (by unfold frs;rw[ycH,hf];exact mM _ hb)) hr⟩
 exact all X.outer (λ_ hb=>hb) I.ok.funs
theorem Inv.stack (I:Inv X pins σ H s):s.heap.FunFrames X.base X.stack:=by
 rcases I.ok.stk with e|⟨e,hf⟩
 ·rw[e];exact I.funs
 ·rw[e]
  obtain⟨m,hn,_⟩:=I.loc
  refine .cons (by rw[I.ok.kind];decide) hf hn ?_ I.funs
  exact Heap.get?_none_of_le (ya4 I.ok.bsz I.ok.above)
theorem Inv.stkSub (I:Inv X pins σ H s):∀b∈frs X.stack,b∈X.env.locals::X.fs:=λb hb=>by
 rcases I.ok.stk with e|⟨e,hf⟩
 ·rw[e]at hb;exact mM _ hb
 ·rw[e]at hb
  unfold frs at hb
  rw[ycH,hf]at hb
  exact hb
theorem Inv.stkFree (I:Inv X pins σ H s):∀b∈frs X.stack,H b=none:=λb hb=>by
 rcases List.mem_cons.mp (I.stkSub b hb)with e|hb
 ·rw[e];exact I.free
 ·obtain⟨_,o,ho,_⟩:=I.ok.funs.mem hb
  exact I.base.free b o ho (I.ok.frf b hb) λz=>I.ok.exfs b z hb
theorem Inv.step {g':Array yec} {t':Nat} {d':Drawn} {ch:List Addr} (I:Inv X pins σ H s)
  (hch:∀b∈ch,(b∈X.ex\/X.s₀.heap.objs.size<=b)/\b≠X.env.locals/\(∀x c,X.env.cells.lookup x=some c->c≠b)/\∀p∈X.pn++pins,p.1≠b)
  (keep:∀b o,b≠X.env.locals->b ∉ X.fs->b ∉ ch->s.heap.get? b=some o->H b=none->h'.get? b=some o)
  (slot:∀b o,b≠X.env.locals->b∈X.fs->b ∉ ch->s.heap.get? b=some o->H b=none->∃sl,h'.get? b=some {o with slots:=sl}) (free:∀b o,b ∉ ch->s.heap.get? b=some o->H b=none->H' b=none)
  (there:∀b o,b ∉ ch->s.heap.get? b=some o->∃o',h'.get? b=some o')
  (tups:∀b xs,H b=some (.tup xs)->H' b=some (.tup xs)) (frzs:∀b o u,H b=some (.frz o u)->H' b=some (.frz o u)) (tbls:∀b pos q,H b=some (.lam pos q)->H' b=some (.lam pos q))
  (ns:∀m,s.heap.Ns X.env.locals m->h'.Ns X.env.locals m) (hok:HOk X.prog X.w H' h') (hg:yb0 g') :
  Inv X pins σ H' {s with heap:=h',gens:=g',drawn:=d',toks:=t' }:=by
 have neL:∀b o,X.s₀.heap.get? b=some o->b≠X.env.locals:=λb o e=>yat (yaw (yac e) I.ok.above)
 have neC:∀b o,X.s₀.heap.get? b=some o->b ∉ X.ex->b ∉ ch:=λb o e hx hb=>by
  rcases(hch b hb).1 with z|z
  ·exact hx z
  ·exact absurd (yaw (yac e) z) (ybG _)
 have cellK:∀x c,X.env.cells.lookup x=some c->∀v,s.heap.IsCell c v->h'.IsCell c v:=λx c e v ⟨o,ho,hd⟩=>by
  have nch:c ∉ ch:=λz=>(hch c z).2.2.1 x c e rfl
  by_cases hc:c∈X.fs
  ·obtain⟨sl,q⟩:=slot c o (I.cne x c e) hc nch ho (I.freeC x c e)
   exact⟨_,q,hd⟩
  ·exact⟨o,keep c o (I.cne x c e) hc nch ho (I.freeC x c e),hd⟩
 refine⟨I.ok,I.os,hg,⟨λb o e n hb hx=>?_,λb o e n hb hx=>?_,λb o e n hx=>?_,λb o e hx=>?_,λb xs e=>tups b xs (I.base.tups b xs e),λb o xs e=>frzs b o xs (I.base.frzs b o xs e),λb ps x e=>tbls b ps x (I.base.tbls b ps x e)⟩,?_,λx c e=>?_,?_,λx c e=>?_,λp hp=>?_,hok,I.len⟩
 ·exact keep b o (neL b o e) hb (neC b o e hx) (I.base.keep b o e n hb hx) (I.base.free b o e n hx)
 ·obtain⟨sl,e1⟩:=I.base.slot b o e n hb hx
  obtain⟨sl',e2⟩:=slot b _ (neL b o e) hb (neC b o e hx) e1 (I.base.free b o e n hx)
  exact⟨sl',e2⟩
 ·obtain⟨o',e1⟩:=I.base.there b o e hx
  exact free b o' (neC b o e hx) e1 (I.base.free b o e n hx)
 ·obtain⟨o',e1⟩:=I.base.there b o e hx
  exact there b o' (neC b o e hx) e1
 ·obtain⟨m,hn,hl⟩:=I.loc
  refine⟨m,ns m hn,λi x v e1 e2 e3=>?_⟩
  obtain⟨u,r,l⟩:=hl i x v e1 e2 e3
  refine⟨u,r,?_⟩
  rcases l with l|⟨k,c,e,z⟩
  ·exact .inl l
  ·exact .inr ⟨k,c,e,cellK x c e _ z⟩
 ·obtain⟨v,z⟩:=I.cell x c e
  exact⟨v,cellK x c e v z⟩
 ·obtain⟨m,⟨o,_,_,ho,_⟩,_⟩:=I.loc
  exact free _ o (λz=>(hch _ z).2.1 rfl) ho I.free
 ·obtain⟨v,o,ho,hd⟩:=I.cell x c e
  exact free c o (λz=>(hch c z).2.2.1 x c e rfl) ho (I.freeC x c e)
 ·obtain⟨e,n,ne,nf,d⟩:=I.pin p hp
  have nch:p.1 ∉ ch:=λz=>(hch p.1 z).2.2.2 p hp rfl
  exact⟨keep p.1 p.2 ne nf nch e n,free p.1 p.2 nch e n,ne,nf,d⟩
theorem Inv.un {t':Nat} (I:Inv X pins σ H s) (u:Un X.fs [] H H' s.heap h') (hok:HOk X.prog X.w H' h'):Inv X pins σ H' {s with heap:=h',toks:=t' }:=by
 obtain⟨m,⟨o,es,ep,ho,r⟩,_⟩:=id I.loc
 obtain⟨sl,hL⟩:=u.any ho I.free (by simp)
 exact I.step (g':=s.gens) (d':=s.drawn) (ch:=[]) (λ_ z=>nomatch z) (λb o _ hb _ e n=>u.keep b o e n hb (by simp)) (λb o _ hb _ e n=>u.slot b o e n hb (by simp)) (λb o _ e n=>u.free b o e n (by simp)) (λb o _ e=>u.there b o e (by simp)) u.tups u.frzs u.tbls (λm' hm=>by
  obtain⟨o',es',ep',ho',r'⟩:=hm
  rw[ho]at ho';cases ho'
  exact⟨_,es',ep',hL,r'⟩) hok I.bare
theorem Inv.call {g':Array yec} {t':Nat} {d':Drawn} {ch:List Addr} (I:Inv X pins σ H s) (u:Un (frs X.stack) ch H H' s.heap h') (hok:HOk X.prog X.w H' h') (hg:yb0 g')
  (hch:∀b∈ch,(b∈X.ex\/X.s₀.heap.objs.size<=b)/\b≠X.env.locals/\(∀x c,X.env.cells.lookup x=some c->c≠b)/\∀p∈X.pn++pins,p.1≠b) :
  Inv X pins σ H' {s with heap:=h',gens:=g',drawn:=d',toks:=t' }:=by
 obtain⟨m,⟨o,es,ep,ho,r⟩,_⟩:=id I.loc
 obtain⟨sl,hL⟩:=u.any ho I.free λz=>(hch _ z).2.1 rfl
 exact I.step (ch:=ch) hch (λb o hL hb hc e n=>u.keep b o e n (λz=>(List.mem_cons.mp (I.stkSub b z)).elim hL hb) hc) (λb o _ _ hc e n=>u.any e n hc) (λb o hc e n=>u.free b o e n hc) (λb o hc e=>u.there b o e hc) u.tups u.frzs u.tbls (λm' hm=>by
  obtain⟨o',es',ep',ho',r'⟩:=hm
  rw[ho]at ho';cases ho'
  exact⟨_,es',ep',hL,r'⟩) hok hg
theorem Inv.turned {t':Nat} {it:Addr} (I:Inv X pins σ H s) (k:∀b o,b≠it->s.heap.get? b=some o->h'.get? b=some o) (hn:H it=none) (hL:it≠X.env.locals)
  (h1:it∈X.ex\/X.s₀.heap.objs.size<=it) (h2:∀x c,X.env.cells.lookup x=some c->c≠it) (h3:∀p∈X.pn++pins,p.1≠it):Inv X pins σ H {s with heap:=h',toks:=t' }:=by
 have nit:∀b u,H b=some u->b≠it:=λb u e z=>by rw[z,hn]at e;cases e
 refine I.step (g':=s.gens) (d':=s.drawn) (ch:=[it]) (λb hb=>?_) (λb o _ _ hc e _=>k b o (λz=>hc (by simp[z])) e) (λb o _ _ hc e _=>⟨o.slots,k b o (λz=>hc (by simp[z])) e⟩) (λ_ _ _ _ n=>n)
  (λb o hc e=>⟨o,k b o (λz=>hc (by simp[z])) e⟩) (λ_ _ e=>e) (λ_ _ _ e=>e) (λ_ _ _ e=>e) (λm hm=>?_) (λb u e=>?_) I.bare
 ·have e:b=it:=by simpa using hb
  subst e
  exact⟨h1,hL,h2,h3⟩
 ·obtain⟨o,es,ep,ho,r⟩:=hm
  exact⟨o,es,ep,k _ o (ybz hL) ho,r⟩
 ·refine(I.hok b u e).stay (λc v hc q=>k c v ?_ q) (λ_ q=>q) λ_ _ q=>q
  rcases hc with z|z
  ·rw[z];exact nit b u e
  ·exact nit c _ z
theorem Inv.tok(I:Inv X pins σ H s)(t:Nat):Inv X pins σ H {s with toks:=t}:=I.un (h':=s.heap) (t':=t) Un.refl I.hok
theorem Inv.kept{t':Nat}(I:Inv X pins σ H s)(k:∀b u,s.heap.get? b=some u->h'.get? b=some u):Inv X pins σ H {s with heap:=h',toks:=t' }:=I.un (Un.kept k) (I.hok.kept k)
theorem Inv.laid {a:Addr} {o:HO} {t':Nat} (I:Inv X pins σ H s) (k:∀b u,s.heap.get? b=some u->h'.get? b=some u) (hp:s.heap.objs.size<=a) (new:ym X.prog X.w (upd H a o) h' a o) :
  Inv X pins σ (upd H a o) {s with heap:=h',toks:=t' }:=I.un (Un.laid k hp (I.hok.fresh hp)) (I.hok.laid k hp new)
theorem Inv.write {x e:Addr} {o:HO} {t':Nat} (I:Inv X pins σ H s) (mu:Mut (H x)) (he:e=x\/H e=some (.own x)) (k:∀b u,b≠e->s.heap.get? b=some u->h'.get? b=some u) (heo:∃u,h'.get? e=some u)
  (new:ym X.prog X.w (upd H x o) h' x o):Inv X pins σ (upd H x o) {s with heap:=h',toks:=t' }:=I.un (Un.write mu he k heo) (I.hok.write mu he k heo new)
theorem Inv.pins_of {pins':List (Addr×Obj)} (I:Inv X pins σ H s) (h:∀p∈pins',s.heap.get? p.1=some p.2/\H p.1=none/\p.1≠X.env.locals/\p.1 ∉ X.fs/\∀v,p.2.data ≠ .cell v):Inv X pins' σ H s :=
 ⟨I.ok,I.os,I.bare,I.base,I.loc,I.cell,I.free,I.freeC,λp hp=>(mA_.mp hp).elim (λz=>I.pin p (yed _ z)) (h p),I.hok,I.len⟩
theorem qbQ {N:List Str} (hN:N.Nodup) {i j:Nat} {x:Str} (a:N[i]? = some x) (b:N[j]? = some x):i=j:=by
 obtain⟨h1,e1⟩:=gI_.mp a
 obtain⟨h2,e2⟩:=gI_.mp b
 exact(List.getElem_inj hN).mp (e1.trans e2.symm)
theorem qcY {M:Model} {A:yar} {E:Value->yaa->Prop} {i:Nat} {x:Str} {v:V} {u:Value} {Q:Unit->yaa->Prop} (I:Inv X pins σ H s) (hN:X.N.Nodup) (hi:X.N[i]? = some x) (hx:Loc X.env.scope x) (r:jm v u)
  (h:∀s',Inv X pins (σ.set i (some v)) H s'->(∃a,ybA a s.heap s'.heap/\(a=X.env.locals\/X.env.cells.lookup x=some a))->Q () s') (hf:X.fn x=true\/X.env.scope.names.lookup x=some .local:=by first|exact .inl rfl|exact .inr rfl|assumption):wpAny M A (storeName X.env x u) Q E s:=by
 obtain⟨m,hn,hl⟩:=id I.loc
 have hcls:(X.env.scope.kind == .class||(X.env.scope.kind == .module&&X.env.locals != X.env.globals))=false:=by rw[I.ok.kind];rfl
 have hiσ:i<σ.length:=by rw[I.len];exact(gI_.mp hi).1
 have cne:=I.cne
 have tracked:∀{a:Addr}{h':Heap},(∃o,s.heap.get? a=some o/\H a=none)->ybA a s.heap h'->HOk X.prog X.w H h':=λ{a h'} ha hs b ob e=>by
  obtain⟨_,_,hfree⟩:=ha
  refine(I.hok b ob e).stay (λc w' hc q=>(hs.2 c ?_).trans q) (λ_ q=>q) λ_ _ q=>q
  rintro rfl
  rcases hc with rfl|hc
  ·rw[hfree]at e;cases e
  ·rw[hfree]at hc;cases hc
 rcases hx with hk|hk
 ·refine wpAny_storeName_local hk hn (λh' hn' hs=>?_) hcls
  obtain⟨oL,_,_,hoL,_⟩:=id hn
  refine h _ ⟨I.ok,I.os,I.bare,⟨λb o e n hb hx=>?_,λb o e n hb hx=>?_,I.base.free,λb o e hx=>?_,I.base.tups,I.base.frzs,I.base.tbls⟩,⟨_,hn',λj y v' e1 e2 e3=>?_⟩,λy c e=>?_,I.free,I.freeC,λp hp=>?_,tracked ⟨oL,hoL,I.free⟩ hs,by simpa using I.len⟩ ⟨_,hs,.inl rfl⟩
  ·exact(hs.2 b (yat (yaw (yac e) I.ok.above))).trans (I.base.keep b o e n hb hx)
  ·obtain⟨sl,e1⟩:=I.base.slot b o e n hb hx
   exact⟨sl,(hs.2 b (yat (yaw (yac e) I.ok.above))).trans e1⟩
  ·obtain⟨o',e1⟩:=I.base.there b o e hx
   exact⟨o',(hs.2 b (yat (yaw (yac e) I.ok.above))).trans e1⟩
  ·by_cases hj:j=i
   ·subst hj
    rw[hi]at e1;cases e1
    rw[List.getElem?_set_self hiσ]at e2
    cases e2
    exact⟨u,r,.inl ⟨hk,by simp⟩⟩
   ·rw [List.getElem?_set_ne (ybz hj)]at e2
    obtain⟨u',r',q⟩:=hl j y v' e1 e2 e3
    refine⟨u',r',?_⟩
    rcases q with⟨k,e⟩|⟨k,c,e,z⟩
    ·refine .inl ⟨k,?_⟩
     have:y≠x:=λe=>hj (qbQ hN e1 (e▸hi))
     simp[this,e]
    ·exact .inr ⟨k,c,e,z.sameBut hs (cne y c e)⟩
  ·obtain⟨w',z⟩:=I.cell y c e
   exact⟨w',z.sameBut hs (cne y c e)⟩
  ·obtain⟨e,n,ne,nf,d⟩:=I.pin p hp
   exact⟨(hs.2 p.1 ne).trans e,n,ne,nf,d⟩
 ·have hfn:X.fn x=true:=by
   rcases hf with z|z
   ·exact z
   ·rw[z]at hk;cases hk
  obtain⟨c,hc⟩:=I.ok.has x (.inl hk)
  obtain⟨w',z⟩:=I.cell x c hc
  refine wpAny_storeName_cell I.ok.kind hk hc z (λh' hc' hs=>?_)
  obtain⟨oc,hoc,hocd⟩:=id z
  refine h {s with heap:=h' } ⟨I.ok,I.os,I.bare,⟨λb o e n hb hx=>?_,λb o e n hb hx=>?_,I.base.free,λb o e hx=>?_,I.base.tups,I.base.frzs,I.base.tbls⟩,⟨m,hn.sameBut hs (ybz (cne x c hc)),λj y v' e1 e2 e3=>?_⟩,λy c' e=>?_,I.free,I.freeC,λp hp=>?_,tracked ⟨oc,hoc,I.freeC x c hc⟩ hs,by simpa using I.len⟩ ⟨c,hs,.inr hc⟩
  ·exact(hs.2 b (yat (yaw (yac e) (I.ok.cab x c hfn hc)))).trans (I.base.keep b o e n hb hx)
  ·obtain⟨sl,e1⟩:=I.base.slot b o e n hb hx
   exact⟨sl,(hs.2 b (yat (yaw (yac e) (I.ok.cab x c hfn hc)))).trans e1⟩
  ·obtain⟨o',e1⟩:=I.base.there b o e hx
   exact⟨o',(hs.2 b (yat (yaw (yac e) (I.ok.cab x c hfn hc)))).trans e1⟩
  ·by_cases hj:j=i
   ·subst hj
    rw[hi]at e1;cases e1
    rw[List.getElem?_set_self hiσ]at e2
    cases e2
    exact⟨u,r,.inr ⟨.inl hk,c,hc,hc'⟩⟩
   ·rw [List.getElem?_set_ne (ybz hj)]at e2
    obtain⟨u',r',q⟩:=hl j y v' e1 e2 e3
    refine⟨u',r',?_⟩
    rcases q with q|⟨k,c',e,z'⟩
    ·exact .inl q
    ·refine .inr ⟨k,c',e,z'.sameBut hs ?_⟩
     rintro rfl
     exact hj (qbQ hN e1 (I.ok.inj _ _ _ e hc▸hi))
  ·by_cases hcc:c'=c
   ·subst hcc;exact⟨_,hc'⟩
   ·obtain⟨w2,z2⟩:=I.cell y c' e
    exact⟨w2,z2.sameBut hs hcc⟩
  ·obtain⟨e,n,ne,nf,d⟩:=I.pin p hp
   refine⟨(hs.2 p.1 ?_).trans e,n,ne,nf,d⟩
   intro q
   rw[q,hoc]at e
   have q':oc=p.2:=yax e
   exact d w' (by rw[<-q'];exact hocd)
theorem vo {M:Model} {A:yar} {E:Value->yaa->Prop} {i:Nat} {x:Str} {v:V} {u:Value} {Q:Unit->yaa->Prop} (I:Inv X pins σ H s) (hN:X.N.Nodup) (hi:X.N[i]? = some x) (hx:Loc X.env.scope x) (r:jm v u)
  (h:∀s',Inv X pins (σ.set i (some v)) H s'->Q () s') (hf:X.fn x=true\/X.env.scope.names.lookup x=some .local:=by first|exact .inl rfl|exact .inr rfl|assumption):wpAny M A (storeName X.env x u) Q E s :=
 qcY I hN hi hx r (λs' I' _=>h s' I') hf
theorem Inv.call' {s':yaa} {ch:List Addr} (I:Inv X pins σ H s) (ho:s'.os=s.os) (u:Un (frs X.stack) ch H H' s.heap s'.heap) (hok:HOk X.prog X.w H' s'.heap) (hg:yb0 s'.gens)
  (hch:∀b∈ch,(b∈X.ex\/X.s₀.heap.objs.size<=b)/\b≠X.env.locals/\(∀x c,X.env.cells.lookup x=some c->c≠b)/\∀p∈X.pn++pins,p.1≠b):Inv X pins σ H' s':=by
 obtain⟨h',g',d',t',o'⟩:=s'
 have e:o'=s.os:=ho
 subst e
 exact I.call (g':=g') (t':=t') (d':=d') u hok hg hch
end
abbrev XK:=Value->Option Addr->Hp->Prop
abbrev St:=List (Option V)
abbrev VK:=V->Hp->Prop
abbrev TE:=St->Hp->VK->Prop
abbrev TT:=St->Hp->(Bool->Hp->Prop)->Prop
abbrev TA:=St->Hp->(List V->Hp->Prop)->Prop
structure qen where
 nx:St->Hp->Prop
 rt:VK
 bk:St->Hp->Prop:=λ_ _=>False
 ct:St->Hp->Prop:=λ_ _=>False
abbrev TS:=qen->St->Hp->Prop
def EP(X:Cx)(pins:List (Addr×Obj))(σ:St)(Q:VK)(u:Value)(s':yaa):Prop:=∃v H',Inv X pins σ H' s'/\jm v u/\Q v H'
def TP(X:Cx)(pins:List (Addr×Obj))(σ:St)(Q:Bool->Hp->Prop)(b:Bool)(s':yaa):Prop:=∃H',Inv X pins σ H' s'/\Q b H'
def AP(X:Cx)(pins:List (Addr×Obj))(σ:St)(Q:List V->Hp->Prop)(us:List Value)(s':yaa):Prop:=∃vs H',Inv X pins σ H' s'/\qU vs us/\Q vs H'
def SP (X:Cx) (pins:List (Addr×Obj)) (D:qen) (f:Flow) (s':yaa):Prop :=
 match f with
 |.next=>∃σ' H',Inv X pins σ' H' s'/\D.nx σ' H'
 |.brk=>∃σ' H',Inv X pins σ' H' s'/\D.bk σ' H'
 |.cont=>∃σ' H',Inv X pins σ' H' s'/\D.ct σ' H'
 |.ret u=>∃v σ' H',Inv X pins σ' H' s'/\jm v u/\D.rt v H'
def PE (X:Cx) (e:Expr) (t:TE):Prop :=
 ∀(pins:List (Addr×Obj))(s:yaa)(σ:St)(H:Hp)(Q:VK),Inv X pins σ H s->t σ H Q->wpAny (model X.prog X.w) X.A (eval e X.env) (EP X pins σ Q) X.xe s
def PT (X:Cx) (e:Expr) (t:TT):Prop :=
 ∀(pins:List (Addr×Obj))(s:yaa)(σ:St)(H:Hp)(Q:Bool->Hp->Prop),Inv X pins σ H s->t σ H Q->wpAny (model X.prog X.w) X.A (isTrue e X.env (eval e X.env)) (TP X pins σ Q) X.xe s
def PW (X:Cx) (e:Expr) (t:TT):Prop :=
 ∀(whole:Sem Value)(pins:List (Addr×Obj))(s:yaa)(σ:St)(H:Hp)(Q:Bool->Hp->Prop),Inv X pins σ H s->t σ H Q->wpAny (model X.prog X.w) X.A (isTrue e X.env whole) (TP X pins σ Q) X.xe s
theorem PW.pt{X:Cx}{e:Expr}{t:TT}(h:PW X e t):PT X e t:=h _
def PA (X:Cx) (es:List Expr) (t:TA):Prop :=
 ∀(pos:Pos)(pins:List (Addr×Obj))(s:yaa)(σ:St)(H:Hp)(Q:List V->Hp->Prop),Inv X pins σ H s->t σ H Q->wpAny (model X.prog X.w) X.A (spliced (yaE pos (yag es X.env))) (AP X pins σ Q) X.xe s
def PS (X:Cx) (st:Stmt) (t:TS):Prop :=
 ∀(pins:List (Addr×Obj))(s:yaa)(σ:St)(H:Hp)(D:qen),Inv X pins σ H s->t D σ H->wpAny (model X.prog X.w) X.A (exec st X.env) (SP X pins D) X.xe s
def PSs (X:Cx) (st:List Stmt) (t:TS):Prop :=
 ∀(pins:List (Addr×Obj))(s:yaa)(σ:St)(H:Hp)(D:qen),Inv X pins σ H s->t D σ H->wpAny (model X.prog X.w) X.A (execs st X.env) (SP X pins D) X.xe s
theorem thn{α:Type}{t:Sem α}{Q Q':α->yaa->Prop}{M:Model}{A:yar}{E:Value->yaa->Prop}{s:yaa}(h:wpAny M A t Q E s)(hQ:∀a s,Q a s->Q' a s):wpAny M A t Q' E s:=ybd h hQ λ_ _ x=>x
end L2
namespace L2
open PySem PySem.Spec PyProof.Rows
section
variable{X:Cx}
theorem bin {a b:Expr} {ta tb:TE} (ha:PE X a ta) (hb:PE X b tb) {pins:List (Addr×Obj)} {s:yaa} {σ:St} {H:Hp} {R:V->V->Hp->Prop} (I:Inv X pins σ H s) (h:ta σ H λx H1=>tb σ H1 λy H2=>R x y H2)
  {α:Type} {Q:α->yaa->Prop} {f:Value->Value->Sem α}
  (hf:∀v u s2 x y H2,Inv X pins σ H2 s2->jm x v->jm y u->R x y H2->wpAny (model X.prog X.w) X.A (f v u) Q X.xe s2) :
  wpAny (model X.prog X.w) X.A (eval a X.env) (λv sJ=>wpAny (model X.prog X.w) X.A (eval b X.env) (λu sY=>wpAny (model X.prog X.w) X.A (f v u) Q X.xe sY) X.xe sJ) X.xe s:=by
 refine thn (ha pins s σ H _ I h) λv s1 ⟨x,H1,I1,r1,q1⟩=>?_
 refine thn (hb pins s1 σ H1 _ I1 q1) λu s2 ⟨y,H2,I2,r2,q2⟩=>?_
 exact hf v u s2 x y H2 I2 r1 r2 q2
def qlZ(i:Nat):TE:=λσ H Q=>∃v,σ[i]? = some (some v)/\Q v H
def tC(v:V):TE:=λ_ H Q=>Q v H
theorem uF {i:Nat} {x:Str} {pos:Pos} (hN:X.N[i]? = some x) (hv:Vis X.env.scope x) (hd:(x==("__debug__":Str))=false:=by decide) (hcd:(x==("__classdict__":Str))=false:=by decide):PE X (.Name x pos) (qlZ i):=by
 intro pins s σ H Q I h
 obtain⟨v,e,h⟩:=h
 obtain⟨m,hn,hl⟩:=I.loc
 obtain⟨u,r,l⟩:=hl i x v hN e hv
 have fin:EP X pins σ Q u s:=⟨v,H,I,r,h⟩
 rcases l with⟨hk,hm⟩|⟨hk,c,hc,hcell⟩
 ·exact yeX (wpAny_loadName_local I.ok.kind hk hn hm fin) hd
 ·rcases hk with hk|hk
  ·exact yeX (wpAny_loadName_cell I.ok.kind hk hc hcell fin) hd
  ·exact yeX (wpAny_loadName_free I.ok.kind hk hc hcell fin hcd) hd
theorem qh9{i j pos}:PE X (.Constant (.int i) j pos) (tC (.int i)):=λ_ _ _ H _ I h=>wpAny_Constant_int ⟨.int i,H,I.tok _,⟨_,rfl⟩,h⟩
theorem qkq{b j pos}:PE X (.Constant (.bool b) j pos) (tC (.bl b)):=λ_ _ _ H _ I h=>Constant_bool ⟨.bl b,H,I,rfl,h⟩
theorem qia{j pos}:PE X (.Constant .none j pos) (tC .non):=λ_ _ _ H _ I h=>Constant_none ⟨.non,H,I,rfl,h⟩
theorem qfD{x j pos}:PE X (.Constant (.str x) j pos) (tC (.str x)):=λ_ _ _ H _ I h=>Calls.Constant_str ⟨.str x,H,I.tok _,⟨_,rfl⟩,h⟩
def Gl(X:Cx)(x:Str):Prop:=X.env.kindOf x=some .globalImplicit
theorem qcZ {E:Value->yaa->Prop} {pins:List (Addr×Obj)} {s:yaa} {σ:St} {H:Hp} {x:Str} {u:Value} {pos:Pos} {Q:Value->yaa->Prop} (I:Inv X pins σ H s) (hg:Gl X x) (hm:X.mg x=some u) (h:Q u s)
  (hd:(x==("__debug__":Str))=false:=by decide):wpAny (model X.prog X.w) X.A (eval (.Name x pos) X.env) Q E s :=
 yc0 I.ok.kind hg (Calls.loadGlobal_global (by rw[I.ok.glob];exact I.mod.glob.keeps I.bk) hm h) hd
theorem vb {E:Value->yaa->Prop} {pins:List (Addr×Obj)} {s:yaa} {σ:St} {H:Hp} {x:Str} {u:Value} {pos:Pos} {Q:Value->yaa->Prop} (I:Inv X pins σ H s) (hg:Gl X x) (hm:X.mg x=none) (hv:yaA x=some u) (h:Q u s)
  (hn:x≠"__name__":=by decide) (hd:(x==("__debug__":Str))=false:=by decide):wpAny (model X.prog X.w) X.A (eval (.Name x pos) X.env) Q E s:=by
 obtain⟨mb,h1,h2⟩:=I.mod.blt
 exact yc0 I.ok.kind hg (Calls.loadGlobal_builtin (by rw[I.ok.glob];exact I.mod.glob.keeps I.bk) hm (by rw[I.ok.blt];exact h1.keeps I.bk) ((h2 x hn).trans hv) h) hd
theorem qgo {x:Str} {v:V} {u:Value} {pos:Pos} (hg:Gl X x) (hm:X.mg x=some u) (r:jm v u) (hd:(x==("__debug__":Str))=false:=by decide):PE X (.Name x pos) (tC v) :=
 λ_ _ _ H _ I h=>qcZ I hg hm ⟨v,H,I,r,h⟩ hd
theorem qgp {x:Str} {v:V} {u:Value} {pos:Pos} (hg:Gl X x) (hm:X.mg x=none) (hv:yaA x=some u) (r:jm v u) (hn:x≠"__name__":=by decide) (hd:(x==("__debug__":Str))=false:=by decide):PE X (.Name x pos) (tC v) :=
 λ_ _ _ H _ I h=>vb I hg hm hv ⟨v,H,I,r,h⟩ hn hd
variable{a b:Expr}{ta tb:TE}{pos:Pos}
def PC (X:Cx) (op:CmpOp) (a b:Expr) (t:TE):Prop :=
 ∀ (pins:List (Addr×Obj)) (s:yaa) (σ:St) (H:Hp) (Q:VK),Inv X pins σ H s->t σ H Q ->
  wpAny (model X.prog X.w) X.A (eval a X.env) (λv sJ=>wpAny (model X.prog X.w) X.A (eval b X.env) (λu sY=>wpAny (model X.prog X.w) X.A (yaJ op v u) (EP X pins σ Q) X.xe sY) X.xe sJ) X.xe s
theorem qer (b:Expr) {op:CmpOp} (h:op ≠ .In) (h2:op ≠ .NotIn):ybi op b=false:=by
 have e1:(op==CmpOp.In)=false:=by cases op<;>first|rfl|exact absurd rfl h
 have e2:(op==CmpOp.NotIn)=false:=by cases op<;>first|rfl|exact absurd rfl h2
 cases b<;>simp[ybi,e1,e2]
def tB(t:TE):TT:=λσ H Q=>t σ H λx H1=>∃c,x=.bl c/\Q c H1
theorem qlo {op:CmpOp} {t:TE} (h:PC X op a b t) (h1:ybi op b=false:=by first|exact qer _ (by decide) (by decide)|rfl):PT X (.Compare a [op] [b] pos) (tB t):=by
 intro pins s σ H Q I hw
 refine ydY (thn (h pins s σ H _ I hw) λv s1 h1=>thn h1 λu s2 h2=>thn h2 λc s3 ⟨x,H1,I1,r1,q1⟩=>?_) h1
 obtain⟨d,rfl,q⟩:=q1
 cases r1
 exact ya1 ⟨H1,I1,q⟩
theorem qib {e:Expr} {t:TE} (h:PE X e t) (he:∀whole,isTrue e X.env whole=(do let v <-whole;standAt e.pos;ycJ [v] (truthy v)):=by intro _;rfl):PT X e (tB t):=by
 intro pins s σ H Q I hw
 refine isTrue_plain (thn (h pins s σ H _ I hw) λv s1 ⟨x,H1,I1,r1,q1⟩=>?_) (he _)
 obtain⟨d,rfl,q⟩:=q1
 cases r1
 exact ya1 ⟨H1,I1,q⟩
variable{tA tB':TT}{vn:List Expr}
def ql0(t u:TT):TT:=λσ H Q=>t σ H λc H1=>if c=true then u σ H1 Q else Q false H1
def tOr(t u:TT):TT:=λσ H Q=>t σ H λc H1=>if c=true then Q true H1 else u σ H1 Q
def ql1(t:TT):TT:=λσ H Q=>t σ H λc H1=>Q (!c) H1
theorem qgq (ha:PT X a tA):PW X (.BoolOp .And [a] pos) tA:=by
 intro wh pins s σ H Q I h
 refine isTrue_and (thn (ha pins s σ H Q I h) λc s1 e=>?_)
 cases c with
 |true=>exact isTrue_and_nil e
 |false=>exact e
theorem qic (ha:PT X a tA):PW X (.BoolOp .Or [a] pos) tA:=by
 intro wh pins s σ H Q I h
 refine isTrue_or (thn (ha pins s σ H Q I h) λc s1 e=>?_)
 cases c with
 |false=>exact isTrue_or_nil e
 |true=>exact e
theorem qid (ha:PT X a tA) (hb:PW X (.BoolOp .And (b::vn) pos) tB'):PW X (.BoolOp .And (a::b::vn) pos) (ql0 tA tB'):=by
 intro wh pins s σ H Q I h
 refine isTrue_and (thn (ha pins s σ H _ I h) λc s1 ⟨H1,I1,q1⟩=>?_)
 cases c with
 |true=>exact hb wh pins s1 σ H1 Q I1 q1
 |false=>exact⟨H1,I1,q1⟩
theorem qkr (ha:PT X a tA) (hb:PW X (.BoolOp .Or (b::vn) pos) tB'):PW X (.BoolOp .Or (a::b::vn) pos) (tOr tA tB'):=by
 intro wh pins s σ H Q I h
 refine isTrue_or (thn (ha pins s σ H _ I h) λc s1 ⟨H1,I1,q1⟩=>?_)
 cases c with
 |true=>exact⟨H1,I1,q1⟩
 |false=>exact hb wh pins s1 σ H1 Q I1 q1
theorem qie (ha:PT X a tA):PT X (.UnaryOp .Not a pos) (ql1 tA):=by
 intro pins s σ H Q I h
 exact isTrue_not (ha pins s σ H (λc H1=>Q (!c) H1) I h)
def qks(ta tb:TE):TE:=λσ H Q=>ta σ H λx H1=>∃c,x=.bl c/\if c=true then tb σ H1 Q else Q (.bl false) H1
def ql2(ta tb:TE):TE:=λσ H Q=>ta σ H λx H1=>∃c,x=.bl c/\if c=true then Q (.bl true) H1 else tb σ H1 Q
def qkt(ta:TE):TE:=λσ H Q=>ta σ H λx H1=>∃c,x=.bl c/\Q (.bl (!c)) H1
theorem qif{op}{t:TE}(h:PE X a t):PE X (.BoolOp op [a] pos) t:=λpins s σ H Q I hw=>BoolOp_one (h pins s σ H Q I hw)
theorem qig (ha:PE X a ta) (hb:PE X (.BoolOp .And (b::vn) pos) tb):PE X (.BoolOp .And (a::b::vn) pos) (qks ta tb):=by
 intro pins s σ H Q I h
 refine BoolOp_and (thn (ha pins s σ H _ I h) λv s1 ⟨x,H1,I1,r1,q1⟩=>?_)
 obtain⟨c,rfl,q1⟩:=q1
 cases r1
 refine ya1 ?_
 cases c with
 |true=>exact hb pins s1 σ H1 Q I1 q1
 |false=>exact⟨.bl false,H1,I1,rfl,q1⟩
theorem qku (ha:PE X a ta) (hb:PE X (.BoolOp .Or (b::vn) pos) tb):PE X (.BoolOp .Or (a::b::vn) pos) (ql2 ta tb):=by
 intro pins s σ H Q I h
 refine BoolOp_or (thn (ha pins s σ H _ I h) λv s1 ⟨x,H1,I1,r1,q1⟩=>?_)
 obtain⟨c,rfl,q1⟩:=q1
 cases r1
 refine ya1 ?_
 cases c with
 |false=>exact hb pins s1 σ H1 Q I1 q1
 |true=>exact⟨.bl true,H1,I1,rfl,q1⟩
theorem qih (ha:PE X a ta):PE X (.UnaryOp .Not a pos) (qkt ta):=by
 intro pins s σ H Q I h
 refine UnaryOp_ (thn (ha pins s σ H _ I h) λv s1 ⟨x,H1,I1,r1,q1⟩=>?_)
 obtain⟨c,rfl,q1⟩:=q1
 cases r1
 exact not_of (ya1 ⟨.bl (!c),H1,I1,rfl,q1⟩)
def tIf(t:TT)(ta tb:TE):TE:=λσ H Q=>t σ H λc H1=>if c=true then ta σ H1 Q else tb σ H1 Q
theorem qes {c:Expr} (hc:PT X c tA) (ha:PE X a ta) (hb:PE X b tb):PE X (.IfExp c a b pos) (tIf tA ta tb):=by
 intro pins s σ H Q I h
 refine wpAny_IfExp (thn (hc pins s σ H _ I h) λd s1 ⟨H1,I1,q1⟩=>?_)
 cases d with
 |true=>exact ha pins s1 σ H1 Q I1 q1
 |false=>exact hb pins s1 σ H1 Q I1 q1
end
end L2
namespace L2
open PySem PySem.Spec PyProof.Rows
def SqL (K:yah) (H:Hp) (a:Addr) (xs:List V):Prop :=
 Rd H a (.lst xs) \/
  ∃(o:Obj)(its:Array Value)(n:Nat),K.lookup a=some o/\o.cls=.type "list"/\o.dict=none/\o.data=.seq its n/\its.size<=yaq/\qU xs its.toList
def SqT (K:yah) (H:Hp) (a:Addr) (xs:List V):Prop :=
 Rd H a (.tup xs) \/
  ∃(o:Obj)(its:Array Value)(n:Nat),K.lookup a=some o/\o.cls=.type "tuple"/\o.data=.seq its n/\its.size<=yaq/\qU xs its.toList
def ql3:Value->Option V
 |.none=>some .non
 |.bool b=>some (.bl b)
 |.int i _=>some (.int i)
 |.str x _=>some (.str x)
 |.bytes b _=>some (.byt b)
 |.float b _=>some (.flt b)
 |.ref a=>some (.ref a)
 |.type n=>some (.ty n)
 |_=>none
theorem jm.abs {x:V} {u:Value} (r:jm x u):ql3 u=some x:=by
 cases x with
 |non=>cases r;rfl
 |bl _=>cases r;rfl
 |int _=>obtain⟨t,rfl⟩:=r;rfl
 |str _=>obtain⟨t,rfl⟩:=r;rfl
 |byt _=>obtain⟨t,rfl⟩:=r;rfl
 |flt _=>obtain⟨t,rfl⟩:=r;rfl
 |ref _=>cases r;rfl
 |ty _=>cases r;rfl
theorem jm.inj{x y:V}{u:Value}(r:jm x u)(q:jm y u):x=y:=yax (r.abs.symm.trans q.abs)
theorem qU.inj:∀{xs ys:List V}{us:List Value},qU xs us->qU ys us->xs=ys
 |_,_,_,.nil,.nil=>rfl
 |_,_,_,.cons r t,.cons r' t'=>by rw[r.inj r',qU.inj t t']
section
variable{X:Cx}{pins:List (Addr×Obj)}{σ:St}{H:Hp}{s:yaa}{a:Addr}{xs ys:List V}
theorem SqL.of{K:yah}(h:H a=some (.lst xs)):SqL K H a xs:=.inl (.inl h)
theorem Inv.list (I:Inv X pins σ H s) (h:SqL X.K H a xs):∃its:List Value,qU xs its/\PlainL s.heap a its.toArray/\xs.length<=yaq:=by
 rcases h with h|⟨o,its,n,hk,hc,hd,hs,hz,r⟩
 ·obtain⟨z,its,n,r,e⟩:=h.ok I.hok
  exact⟨its,r,⟨_,n,e,rfl,rfl,rfl⟩,z⟩
 ·refine⟨its.toList,r,⟨o,n,I.kIn a o hk,hc,hd,by simpa using hs⟩,?_⟩
  have e:=r.length
  simp only[ya3]at e
  omega
theorem Inv.tuple (I:Inv X pins σ H s) (h:SqT X.K H a xs):∃its:List Value,qU xs its/\IsTup s.heap a its.toArray/\xs.length<=yaq:=by
 rcases h with h|⟨o,its,n,hk,hc,hs,hz,r⟩
 ·obtain⟨z,its,r,p⟩:=h.ok I.hok
  exact⟨its,r,p,z⟩
 ·refine⟨its.toList,r,⟨o,I.kIn a o hk,hc,n,by simpa using hs⟩,?_⟩
  have e:=r.length
  simp only[ya3]at e
  omega
theorem Inv.list_inj (I:Inv X pins σ H s) (h:SqL X.K H a xs) (h':SqL X.K H a ys):xs=ys:=by
 obtain⟨its,r,⟨o,n,e,_,_,d⟩,_⟩:=I.list h
 obtain⟨its',r',⟨o',n',e',_,_,d'⟩,_⟩:=I.list h'
 rw[e]at e';cases e'
 rw[d]at d'
 injection d' with d1 _
 have:its=its':=by simpa using congrArg Array.toList d1
 subst this
 exact r.inj r'
theorem Inv.tuple_inj (I:Inv X pins σ H s) (h:SqT X.K H a xs) (h':SqT X.K H a ys):xs=ys:=by
 obtain⟨its,r,⟨o,e,_,n,d⟩,_⟩:=I.tuple h
 obtain⟨its',r',⟨o',e',_,n',d'⟩,_⟩:=I.tuple h'
 rw[e]at e';cases e'
 rw[d]at d'
 injection d' with d1 _
 have:its=its':=by simpa using congrArg Array.toList d1
 subst this
 exact r.inj r'
end
abbrev Cx.wish(X:Cx)(E:Value->yaa->Prop):Cx:={X with xe:=E}
abbrev Cx.nox(X:Cx):Cx:=X.wish λ_ _=>False
theorem Cx.Ok.wish {X:Cx} (ok:X.Ok) (E:Value->yaa->Prop):(X.wish E).Ok :=
 ⟨ok.mod,ok.kind,ok.glob,ok.blt,ok.above,ok.inj,ok.has,ok.cab,ok.hd,ok.frames,ok.stk,ok.exf,ok.bs,ok.bsz,ok.noex,ok.exfs,ok.funs,ok.frf⟩
theorem Cx.Ok.unwish {X:Cx} {E:Value->yaa->Prop} (ok:(X.wish E).Ok):X.Ok :=
 ⟨ok.mod,ok.kind,ok.glob,ok.blt,ok.above,ok.inj,ok.has,ok.cab,ok.hd,ok.frames,ok.stk,ok.exf,ok.bs,ok.bsz,ok.noex,ok.exfs,ok.funs,ok.frf⟩
section
variable{X:Cx}{pins:List (Addr×Obj)}{σ:St}{H:Hp}{s:yaa}{E:Value->yaa->Prop}
theorem Inv.wish(I:Inv X pins σ H s)(E:Value->yaa->Prop):Inv (X.wish E) pins σ H s:=⟨I.ok.wish E,I.os,I.bare,I.base,I.loc,I.cell,I.free,I.freeC,I.pin,I.hok,I.len⟩
theorem Inv.unwish(I:Inv (X.wish E) pins σ H s):Inv X pins σ H s:=⟨I.ok.unwish,I.os,I.bare,I.base,I.loc,I.cell,I.free,I.freeC,I.pin,I.hok,I.len⟩
theorem SP.unwish {D:qen} {f:Flow} {s':yaa} (h:SP (X.wish E) pins D f s'):SP X pins D f s':=by
 cases f with
 |next=>obtain⟨σ',H',I,q⟩:=h;exact⟨σ',H',I.unwish,q⟩
 |brk=>obtain⟨σ',H',I,q⟩:=h;exact⟨σ',H',I.unwish,q⟩
 |cont=>obtain⟨σ',H',I,q⟩:=h;exact⟨σ',H',I.unwish,q⟩
 |ret u=>obtain⟨v,σ',H',I,r,q⟩:=h;exact⟨v,σ',H',I.unwish,r,q⟩
theorem PE.nox {e:Expr} {t:TE} (h:PE X.nox e t):PE X e t:=λpins s σ H Q I hw=>
 ybd (h pins s σ H Q (I.wish _) hw) (λ_ _ ⟨v,H',I',r,q⟩=>⟨v,H',I'.unwish,r,q⟩) λ_ _ z=>ya6 z
theorem PT.nox {e:Expr} {t:TT} (h:PT X.nox e t):PT X e t:=λpins s σ H Q I hw=>
 ybd (h pins s σ H Q (I.wish _) hw) (λ_ _ ⟨H',I',q⟩=>⟨H',I'.unwish,q⟩) λ_ _ z=>ya6 z
theorem PSs.nox {st:List Stmt} {t:TS} (h:PSs X.nox st t):PSs X st t:=λpins s σ H D I hw=>
 ybd (h pins s σ H D (I.wish _) hw) (λ_ _ q=>q.unwish) λ_ _ z=>ya6 z
end
section
variable{X:Cx}{st:Stmt}{vn:List Stmt}{t u:TS}{e:Expr}{te:TE}{pos:Pos}
def qkv:TS:=λD σ H=>D.nx σ H
def ql4(t u:TS):TS:=λD σ H=>t {D with nx:=u D} σ H
theorem qgr:PSs X [] qkv:=λ_ _ σ H _ I h=>ycz ⟨σ,H,I,h⟩
theorem qet (h1:PS X st t) (h2:PSs X vn u):PSs X (st::vn) (ql4 t u):=by
 intro pins s σ H D I h
 refine wpAny_execs_cons (thn (h1 pins s σ H {D with nx:=u D} I h) λf s1 q=>?_)
 cases f with
 |next=>
  obtain⟨σ',H',I',q⟩:=q
  exact h2 pins s1 σ' H' D I' q
 |ret v=>exact q
 |brk=>exact q
 |cont=>exact q
theorem qgs (h1:PS X st t):PSs X [st] t:=by
 intro pins s σ H D I h
 refine wpAny_execs_cons (thn (h1 pins s σ H D I h) λf s1 q=>?_)
 cases f with
 |next=>exact ycz q
 |ret v=>exact q
 |brk=>exact q
 |cont=>exact q
theorem Inv.quiet{pins:List (Addr×Obj)}{σ:St}{H:Hp}{s:yaa}(I:Inv X pins σ H s):interactive X.env=false:=by simp[interactive,I.ok.kind]
def qkw(te:TE):TS:=λD σ H=>te σ H λ_ H1=>D.nx σ H1
theorem qgt (he:PE X e te) (hs:ydD e none pos.line X.env=pure false:=by rfl):PS X (.Expr e pos) (qkw te):=by
 intro pins s σ H D I h
 exact wpAny_Expr_any (thn (he pins s σ H _ I h) λv s1 ⟨x,H1,I1,r1,q1⟩=>⟨σ,H1,I1,q1⟩) I.quiet hs
def ql5(te:TE):TS:=λD σ H=>te σ H D.rt
theorem qii (he:PE X e te):PS X (.Return (some e) pos) (ql5 te):=by
 intro pins s σ H D I h
 exact wpAny_Return_some (thn (he pins s σ H _ I h) λv s1 ⟨x,H1,I1,r1,q1⟩=>⟨x,σ,H1,I1,r1,q1⟩)
def ql6(c:TT)(t u:TS):TS:=λD σ H=>c σ H λb H1=>if b=true then t D σ H1 else u D σ H1
theorem qkx {c:Expr} {a b:List Stmt} {tc:TT} (hc:PT X c tc) (ha:PSs X a t) (hb:PSs X b u):PS X (.If c a b pos) (ql6 tc t u):=by
 intro pins s σ H D I h
 refine wpAny_If (thn (hc pins s σ H _ I h) λd s1 ⟨H1,I1,q1⟩=>?_)
 cases d with
 |true=>exact ha pins s1 σ H1 D I1 q1
 |false=>exact hb pins s1 σ H1 D I1 q1
def qij:TS:=λ_ _ _=>False
theorem qeu:PS X st qij:=λ_ _ _ _ _ _ h=>h.elim
end
abbrev TG:=V->St->Hp->(St->Hp->Prop)->Prop
abbrev TGs:=List V->St->Hp->(St->Hp->Prop)->Prop
def PG (X:Cx) (target:Expr) (t:TG):Prop :=
 ∀ (pins:List (Addr×Obj)) (s:yaa) (σ:St) (H:Hp) (v:V) (u:Value) (Q:St->Hp->Prop),Inv X pins σ H s->jm v u->t v σ H Q ->
  wpAny (model X.prog X.w) X.A (ycQ target X.env u) (λ_ s'=>∃σ' H',Inv X pins σ' H' s'/\Q σ' H') X.xe s
def PGs (X:Cx) (ts:List Expr) (t:TGs):Prop :=
 ∀ (pins:List (Addr×Obj)) (s:yaa) (σ:St) (H:Hp) (vs:List V) (us:List Value) (Q:St->Hp->Prop),Inv X pins σ H s->qU vs us->t vs σ H Q ->
  wpAny (model X.prog X.w) X.A (yei ((ybe ts X.env).map (·.2)) us) (λ_ s'=>∃σ' H',Inv X pins σ' H' s'/\Q σ' H') X.xe s
abbrev qky:=V->V->V->Hp->(Hp->Prop)->Prop
def qlp (X:Cx) (t:qky):Prop :=
 ∀ (pins:List (Addr×Obj)) (s:yaa) (σ:St) (H:Hp) (o i v:V) (ov iv u:Value) (Q:Hp->Prop),Inv X pins σ H s->jm o ov->jm i iv->jm v u->t o i v H Q ->
  wpAny (model X.prog X.w) X.A (setItem ov iv u) (λ_ s'=>∃H',Inv X pins σ H' s'/\Q H') X.xe s
section
variable{X:Cx}{pos:Pos}
def qik(i:Nat):TG:=λv σ H Q=>Q (σ.set i (some v)) H
theorem qgu {i:Nat} {x:Str} (hN:X.N.Nodup) (hi:X.N[i]? = some x) (hx:Loc X.env.scope x) (hf:X.fn x=true\/X.env.scope.names.lookup x=some .local:=by first|exact .inl rfl|exact .inr rfl|assumption):PG X (.Name x pos) (qik i):=by
 intro pins s σ H v u Q I r h
 exact wpAny_assign_Name (vo I hN hi hx r (λs' I'=>⟨_,H,I',h⟩) hf)
def ql7:TGs:=λvs σ H Q=>vs=[]/\Q σ H
def qkz(t:TG)(u:TGs):TGs:=λvs σ H Q=>∃v r,vs=v::r/\t v σ H λσ' H'=>u r σ' H' Q
theorem qgv:PGs X [] ql7:=by
 intro pins s σ H vs us Q I r h
 obtain⟨e,h⟩:=h
 subst e
 cases r
 exact yeM ⟨σ,H,I,h⟩
theorem qev {e:Expr} {es:List Expr} {t:TG} {u:TGs} (h1:PG X e t) (h2:PGs X es u)
  (hs:(ybe (e::es) X.env).map (·.2)=ycQ e X.env::(ybe es X.env).map (·.2):=by rfl):PGs X (e::es) (qkz t u):=by
 intro pins s σ H vs us Q I r h
 obtain⟨v,vr,e1,h⟩:=h
 subst e1
 cases r with
 |cons r rr=>
  rw[hs]
  refine ycR (thn (h1 pins s σ H _ _ _ I r h) λ_ s1 ⟨σ1,H1,I1,q1⟩=>?_)
  exact h2 pins s1 σ1 H1 _ _ Q I1 rr q1
def ql8(K:yah)(n:Nat)(t:TGs):TG:=λv σ H Q=>∃a xs,v=.ref a/\SqT K H a xs/\xs.length=n/\t xs σ H Q
theorem qil {es:List Expr} {k:Nat} {t:TGs} {n:Nat} (hc:X.calm=true) (h:PGs X es t)
  (hn:(ybe es X.env).length=n:=by rfl) (hst:(ybe es X.env).findIdx? (·.1)=none:=by rfl):PG X (.Tuple es k pos) (ql8 X.K n t):=by
 intro pins s σ H v u Q I r hw
 obtain⟨a,xs,e1,hq,hl,hw⟩:=hw
 subst e1
 cases r
 obtain⟨its,rv,ht,hz⟩:=I.tuple hq
 refine assign_Tuple_tuple (I.ok.hd hc) ht (by simp[hn,<-hl,rv.length]) hst λh' hx=>?_
 have I1:Inv X pins σ H {s with heap:=h' }:=I.kept (t':=s.toks) λb o e=>hx b o (yat (yac e)) e
 exact h pins _ σ H xs _ Q I1 (by simpa using rv) hw
def ql9(to ti:TE)(t:qky):TG:=λv σ H Q=>to σ H λo H1=>ti σ H1 λi H2=>t o i v H2 λH3=>Q σ H3
theorem qim {o i:Expr} {to ti:TE} {t:qky} (ho:PE X o to) (hi:PE X i ti) (hs:qlp X t)
  (ha:∀v,ycQ (.Subscript o i pos) X.env v=(do
   let ov <-ycJ [v] (eval o X.env)
   let iv <-ycJ [v,ov] (eval i X.env)
   standAt pos
   ycJ [v,ov,iv] (setItem ov iv v)
   release [v,ov,iv] []):=by intro _;rfl):PG X (.Subscript o i pos) (ql9 to ti t):=by
 intro pins s σ H v u Q I r h
 rw[ha]
 refine yab (ya7 (thn (ho pins s σ H _ I h) λov s1 ⟨x,H1,I1,r1,q1⟩=>?_))
 refine yab (ya7 (thn (hi pins s1 σ H1 _ I1 q1) λiv s2 ⟨y,H2,I2,r2,q2⟩=>?_))
 refine yab (yej (yab (ya7 (thn (hs pins s2 σ H2 x y v ov iv u _ I2 r1 r2 r q2) λ_ s3 ⟨H3,I3,q3⟩=>?_))))
 exact wpAny_release ⟨σ,H3,I3,q3⟩
def qlq(te:TE)(g:TG):TS:=λD σ H=>te σ H λx H1=>g x σ H1 D.nx
theorem qfE {tg e:Expr} {te:TE} {g:TG} (he:PE X e te) (hg:PG X tg g) (hs:yco [tg] e pos.line X.env=pure false:=by rfl) (hw:ycp [tg] e X.env=pure none:=by rfl)
  (h1:(ybe [tg] X.env).map (·.2)=[ycQ tg X.env]:=by rfl):PS X (.Assign [tg] e pos) (qlq te g):=by
 intro pins s σ H D I h
 refine wpAny_Assign_stores (thn (he pins s σ H _ I h) λv s1 ⟨x,H1,I1,r1,q1⟩=>?_) hs hw
 rw[h1]
 exact thn (hg pins s1 σ H1 x v _ I1 r1 q1) λ_ s2 q=>q
theorem qfF {i:Nat} {x:Str} {e:Expr} {te:TE} {pos':Pos} (hN:X.N.Nodup) (hi:X.N[i]? = some x) (hx:Loc X.env.scope x) (he:PE X e te) (hs:ydD e (some (.Name x pos')) pos.line X.env=pure false:=by rfl) (hf:X.fn x=true\/X.env.scope.names.lookup x=some .local:=by first|exact .inl rfl|exact .inr rfl|assumption) :
  PS X (.Assign [.Name x pos'] e pos) (qlq te (qik i)):=by
 intro pins s σ H D I h
 refine wpAny_Assign_Name (thn (he pins s σ H _ I h) λv s1 ⟨y,H1,I1,r1,q1⟩=>?_) hs
 exact vo I1 hN hi hx r1 (λs2 I2=>⟨_,H1,I2,q1⟩) hf
def qma(i j:Nat)(ta:TA):TS:=λD σ H=>ta σ H λvs H1=>∃v w,vs=[v,w]/\D.nx ((σ.set i (some v)).set j (some w)) H1
theorem qin {i j:Nat} {x y:Str} {a b:Expr} {ta:TA} {px py pt:Pos} {kt k2 pt2} (hc:X.calm=true) (hN:X.N.Nodup) (hi:X.N[i]? = some x) (hj:X.N[j]? = some y) (hij:i≠j)
  (hx:X.env.scope.names.lookup x=some .local) (hy:X.env.scope.names.lookup y=some .local) (ha:PA X [a,b] ta)
  (hw:ycp [.Tuple [.Name x px,.Name y py] kt pt] (.Tuple [a,b] k2 pt2) X.env=pure (some [x,y]))
  (hs:yco [.Tuple [.Name x px,.Name y py] kt pt] (.Tuple [a,b] k2 pt2) pos.line X.env=pure false:=by rfl) :
  PS X (.Assign [.Tuple [.Name x px,.Name y py] kt pt] (.Tuple [a,b] k2 pt2) pos) (qma i j ta):=by
 intro pins s σ H D I h
 rw[exec_Assign_arm]
 refine yab (yej ?_)
 rw[hs]
 refine yab (yal ?_)
 rw[if_neg (by decide)]
 refine yab (Tuple_ (thn (ha _ pins s σ H _ I h) λus s1 ⟨vs,H1,I1,r1,q1⟩=>?_))
 obtain⟨v,w,e1,q1⟩:=q1
 subst e1
 obtain ⟨u1,u2,rfl,rv,rw'⟩:∃u1 u2,us=[u1,u2]/\jm v u1/\jm w u2:=by
  cases r1 with
  | cons p q=>
   cases q with
   |cons p' q'=>
    cases q'
    exact⟨_,_,rfl,p,p'⟩
 refine ybQ ?_ (by show 2<=yaq;decide)
 have I2:Inv X pins σ H1 {s1 with heap:=s1.heap.push {cls:=.type "tuple",data:=.seq [u1,u2].toArray} }:=I1.kept (t':=s1.toks) λb o e=>Heap.get?_push_of_some _ e
 rw[hw]
 refine yab (yal ?_)
 show wpAny (model X.prog X.w) X.A (do rule "assign.swapped-stores";let items <-unpackItems (.ref s1.heap.objs.size) 2 none;yei [λv=>yeV X.env y v,λv=>yeV X.env x v] items.reverse;pure Flow.next) _ _ _
 refine yab (ydj (yab (unpackItems_tuple (items := #[u1,u2]) (I.ok.hd hc) (yer s1.heap _) λh' hx'=>?_)))
 have I3:=I2.kept (h':=h') (t':=s1.toks) λb o e=>hx' b o (yat (yac e)) e
 show wpAny _ _ (yei [λv=>yeV X.env y v,λv=>yeV X.env x v] [u2,u1] >>= λ_=>pure Flow.next) _ _ _
 refine yab (ycR (wpAny_bindName (vo I3 hN hj (.inl hy) rw' (λs2 I4=>?_) (.inr hy))))
 refine ycR (wpAny_bindName (vo I4 hN hi (.inl hx) rv (λs3 I5=>yeM (yal ?_)) (.inr hx)))
 rw[List.set_comm _ _ (ybz hij)]at I5
 exact⟨_,H1,I5,q1⟩
end
section
variable{X:Cx}{pos:Pos}
def qio (c:TT) (tb:TS):TS:=λD σ H=>∃W:Nat->St->Hp->Prop,(∃m,W m σ H)/\∀m σ H,W m σ H ->
 c σ H λb H1=>if b=true then ∃N:St->Hp->Prop,(∀σ' H',N σ' H'->∃m',m'<m/\W m' σ' H')/\tb {D with nx:=N,ct:=N,bk:=D.nx} σ H1 else D.nx σ H1
theorem qew {c:Expr} {body:List Stmt} {tc:TT} {tb:TS} (hp:ydE (model X.prog X.w) X.A X.env X.xe) (hc:PT X c tc) (hb:PSs X body tb):PS X (.While c body [] pos) (qio tc tb):=by
 intro pins s σ H D I h
 obtain⟨W,⟨m0,w0⟩,turn⟩:=h
 refine wpAny_While (codeAny_whileLoop (λn s'=>∃σ' H',Inv X pins σ' H' s'/\W n σ' H') ?_ m0 ⟨σ,H,I,w0⟩)
 rintro n s1 ⟨σ1,H1,I1,w1⟩
 refine ybp hp (thn (hc pins s1 σ1 H1 _ I1 (turn n σ1 H1 w1)) λb s2 ⟨H2,I2,q2⟩=>?_)
 cases b with
 | true=>
  obtain⟨N,hN,q2⟩:=q2
  rw[if_pos rfl]
  refine ybp hp (thn (hb pins s2 σ1 H2 _ I2 q2) λf s3 q3=>?_)
  cases f with
  |next=>
   obtain⟨σ3,H3,I3,n3⟩:=q3
   obtain⟨m',hm,w3⟩:=hN σ3 H3 n3
   exact⟨m',hm,σ3,H3,I3,w3⟩
  |cont=>
   obtain⟨σ3,H3,I3,n3⟩:=q3
   obtain⟨m',hm,w3⟩:=hN σ3 H3 n3
   exact⟨m',hm,σ3,H3,I3,w3⟩
  |brk=>exact q3
  |ret v=>exact q3
 |false=>
  rw[if_neg yas]
  exact ycz ⟨σ1,H2,I2,q2⟩
end
structure It where
 go:Nat->Hp->Prop
 yld:Nat->Hp->V->Hp->Prop
 stop:Nat->Hp->Prop
def qbR (X:Cx) (pins:List (Addr×Obj)) (H:Hp) (b:Addr):Prop :=
 H b=none/\b≠X.env.locals/\b ∉ X.fs/\(b∈X.ex\/X.s₀.heap.objs.size<=b)/\(∀x c,X.env.cells.lookup x=some c->c≠b)/\∀p∈X.pn++pins,p.1≠b
theorem Inv.fpOk {X:Cx} {pins:List (Addr×Obj)} {σ:St} {H H':Hp} {s:yaa} {b:Addr} (I:Inv X pins σ H s) (hb:s.heap.objs.size<=b) (hn:H' b=none):qbR X pins H' b:=by
 refine⟨hn,ya5 (yaw I.lt hb),I.nofs hb,.inr (ya4 I.sz hb),λx c e z=>?_,λp hp z=>?_⟩
 ·obtain⟨v,q⟩:=I.cell x c e
  exact absurd (yaw q.lt (by rw[z];exact hb)) (ybG _)
 ·exact absurd (yaw (yac (I.pin p hp).1) (by rw[z];exact hb)) (ybG _)
structure qfG (P:yaj) (w:World) (K:yah) (tg:Expr) (J:It) (fp:List Addr) (it:Addr) (tn:Nat->Heap->Prop):Prop where
 mem:it∈fp
 obj:∀i h,tn i h->∀b∈fp,∃o,h.get? b=some o/\∀v,o.data ≠ .cell v
 keep:∀i h h',tn i h->(∀b∈fp,∀o,h.get? b=some o->h'.get? b=some o)->tn i h'
 item:∀(X:Cx),X.prog=P->X.w=w->X.K=K->X.calm=true->∀(i:Nat)(pins:List (Addr×Obj))(s:yaa)(σ:St)(H:Hp)(E:Value->yaa->Prop),Inv X pins σ H s->(∀b∈fp,qbR X pins H b)->tn i s.heap->J.go i H ->
  wpAny (model P w) X.A (ybY (.ref it)) (λr s1=>∃u,r=some u /\
   wpAny (model P w) X.A (ybL tg (.ref it) u) (λ_ s2=>∃x H',Inv X pins σ H' s2/\jm x u/\J.yld i H x H'/\tn (i+1) s2.heap/\∀b∈fp,H' b=none) E s1) E s
 done:∀(X:Cx),X.prog=P->X.w=w->X.K=K->X.calm=true->∀(i:Nat)(pins:List (Addr×Obj))(s:yaa)(σ:St)(H:Hp)(E:Value->yaa->Prop),Inv X pins σ H s->(∀b∈fp,qbR X pins H b)->tn i s.heap->J.stop i H ->
  wpAny (model P w) X.A (ybY (.ref it)) (λr s1=>r=none/\Inv X pins σ H s1) E s
 self:∀(A:yar)(i:Nat)(s:yaa)(Q:Value->yaa->Prop)(E:Value->yaa->Prop),tn i s.heap->Q (.ref it) s->wpAny (model P w) A (pyIter (.ref it)) Q E s
abbrev TI:=St->Hp->(It->Hp->Prop)->Prop
def PIE (X:Cx) (pins:List (Addr×Obj)) (σ:St) (tg:Expr) (R:It->Hp->Prop) (itv:Value) (s2:yaa):Prop :=
 ∃(it:Addr)(fp:List Addr)(tn:Nat->Heap->Prop)(J:It)(H':Hp),itv=.ref it/\Inv X pins σ H' s2/\qfG X.prog X.w X.K tg J fp it tn/\tn 0 s2.heap/\(∀b∈fp,qbR X pins H' b)/\R J H'
def PI (X:Cx) (tg iter:Expr) (wi:TI):Prop :=
 ∀ (pins:List (Addr×Obj)) (s:yaa) (σ:St) (H:Hp) (R:It->Hp->Prop),Inv X pins σ H s->wi σ H R ->
  wpAny (model X.prog X.w) X.A (eval iter X.env) (λv s1=>wpAny (model X.prog X.w) X.A (pyIter v) (PIE X pins σ tg R) X.xe s1) X.xe s
theorem qex {M:Model} {A:yar} {E:Value->yaa->Prop} {s:yaa} {tg:Expr} {it:Addr} {u:Value} {o:Obj} {n:String} {vs:Array Value} {Q:Unit->yaa->Prop} (ho:s.heap.get? it=some o) (hc:o.cls=.type n) (hd:o.data=.fields vs)
  (hn:["enumerate","zip","dict_itemiterator","dict_reverseitemiterator","odict_iterator","itertools.zip_longest","itertools.pairwise"].contains n=false) (hQ:Q () s):wpAny M A (ybL tg (.ref it) u) Q E s:=by
 unfold ybL
 cases tg<;>first
  |exact yal hQ
  | (cases u<;>first
    |exact yal hQ
    | (refine yab (wpAny_load ho ?_)
       rw[hc,hd]
       show wpAny M A (if(["enumerate","zip","dict_itemiterator","dict_reverseitemiterator","odict_iterator","itertools.zip_longest","itertools.pairwise"].contains n&&vs[0]? == some (ybK _))=true then _ else _) Q E s
       rw[if_neg (by intro h;rw[hn,ycK]at h;cases h)]
       exact yal hQ))
def Itl (K:yah) (a:Addr):It :=
 ⟨λi H=>∃xs x,SqL K H a xs/\xs[i]? = some x,λi H x H'=>H'=H/\∀xs,SqL K H a xs->xs[i]? = some x,λi H=>∃xs,SqL K H a xs/\xs.length<=i⟩
def Itt (K:yah) (a:Addr):It :=
 ⟨λi H=>∃xs x,SqT K H a xs/\xs[i]? = some x,λi H x H'=>H'=H/\∀xs,SqT K H a xs->xs[i]? = some x,λi H=>∃xs,SqT K H a xs/\xs.length<=i⟩
def Itr(lo:Int)(n:Nat):It:=⟨λi _=>i<n,λi H x H'=>H'=H/\x=.int (lo+i),λi _=>n<=i⟩
theorem qc0 {P:yaj} {w:World} {K:yah} {tg:Expr} (a it:Addr):qfG P w K tg (Itl K a) [it] it (λi h=>h.IsListIter it a i) where
 mem:=by simp
 obj:=λi h st b hb=>by
  have e:b=it:=by simpa using hb
  subst e
  obtain⟨o,e,c,d⟩:=st
  exact⟨o,e,λv z=>by rw[d]at z;cases z⟩
 keep:=λi h h' st k=>st.at λo e=>k it (by simp) o e
 item:=by
  intro X hP hw hK hc i pins s σ H E I hf st hg
  subst hP hw hK
  obtain⟨xs,x,hq,hx⟩:=hg
  obtain⟨its,rv,p,hz⟩:=I.list hq
  obtain⟨u,hu,ru⟩:=rv.get hx
  obtain⟨f0,f1,f2,f3,f4,f5⟩:=hf it (by simp)
  refine wpAny_pyNext_list_item st p.isList (x:=u) (by simpa using hu) λh' st' sb=>?_
  have I1:Inv X pins σ H {s with heap:=h' }:=I.turned (t':=s.toks) (λb o hb e=>(sb.2 b hb).trans e) f0 f1 f3 f4 f5
  obtain⟨o,e,c,d⟩:=id st'
  exact⟨u,rfl,qex (s:={s with heap:=h' }) e c d (by decide) ⟨x,H,I1,ru,⟨rfl,λys hy=>by rw[I.list_inj hy hq];exact hx⟩,st',λb hb=>(hf b hb).1⟩⟩
 done:=by
  intro X hP hw hK hc i pins s σ H E I hf st hg
  subst hP hw hK
  obtain⟨xs,hq,hx⟩:=hg
  obtain⟨its,rv,p,hz⟩:=I.list hq
  obtain⟨f0,f1,f2,f3,f4,f5⟩:=hf it (by simp)
  have hl:=rv.length
  exact wpAny_pyNext_list_end (I.ok.hd hc) st p.isList (by simp;omega) λh' eb=>⟨rfl,I.turned (t':=s.toks) (λb o hb e=>eb b o hb e) f0 f1 f3 f4 f5⟩
 self:=λ_ _ _ _ _ st h=>wpAny_pyIter_listiter st h
theorem qcn {P:yaj} {w:World} {K:yah} {tg:Expr} (a it:Addr):qfG P w K tg (Itt K a) [it] it (λi h=>h.IsTupleIter it a i) where
 mem:=by simp
 obj:=λi h st b hb=>by
  have e:b=it:=by simpa using hb
  subst e
  obtain⟨o,e,c,d⟩:=st
  exact⟨o,e,λv z=>by rw[d]at z;cases z⟩
 keep:=λi h h' st k=>st.at λo e=>k it (by simp) o e
 item:=by
  intro X hP hw hK hc i pins s σ H E I hf st hg
  subst hP hw hK
  obtain⟨xs,x,hq,hx⟩:=hg
  obtain⟨its,rv,p,hz⟩:=I.tuple hq
  obtain⟨u,hu,ru⟩:=rv.get hx
  obtain⟨f0,f1,f2,f3,f4,f5⟩:=hf it (by simp)
  refine wpAny_pyNext_tuple_item st (show s.heap.IsTuple a its.toArray from p) (x:=u) (by simpa using hu) λh' st' sb=>?_
  have I1:Inv X pins σ H {s with heap:=h' }:=I.turned (t':=s.toks) (λb o hb e=>(sb.2 b hb).trans e) f0 f1 f3 f4 f5
  obtain⟨o,e,c,d⟩:=id st'
  exact⟨u,rfl,qex (s:={s with heap:=h' }) e c d (by decide) ⟨x,H,I1,ru,⟨rfl,λys hy=>by rw[I.tuple_inj hy hq];exact hx⟩,st',λb hb=>(hf b hb).1⟩⟩
 done:=by
  intro X hP hw hK hc i pins s σ H E I hf st hg
  subst hP hw hK
  obtain⟨xs,hq,hx⟩:=hg
  obtain⟨its,rv,p,hz⟩:=I.tuple hq
  obtain⟨f0,f1,f2,f3,f4,f5⟩:=hf it (by simp)
  have hl:=rv.length
  exact wpAny_pyNext_tuple_end (I.ok.hd hc) st (show s.heap.IsTuple a its.toArray from p) (by simp;omega) λh' eb=>⟨rfl,I.turned (t':=s.toks) (λb o hb e=>eb b o hb e) f0 f1 f3 f4 f5⟩
 self:=λ_ _ _ _ _ st h=>wpAny_pyIter_tupleiter st h
theorem qco {P:yaj} {w:World} {K:yah} {tg:Expr} (it:Addr) (lo:Int) (n:Nat):qfG P w K tg (Itr lo n) [it] it (λi h=>IsRangeIter h it (lo+(i:Nat)*1) ((n:Int)-(i:Nat)) 1) where
 mem:=by simp
 obj:=λi h st b hb=>by
  have e:b=it:=by simpa using hb
  subst e
  exact ⟨_,st,λv z=>by
   have z':ydN _=ycS v:=z
   cases z'⟩
 keep:=λi h h' st k=>k it (by simp) _ st
 item:=by
  intro X hP hw hK hc i pins s σ H E I hf st hg
  subst hP hw hK
  obtain⟨f0,f1,f2,f3,f4,f5⟩:=hf it (by simp)
  have W:=Walks.range (prog:=X.prog) (w:=X.w) (I.ok.hd hc) it lo 1 n
  refine W.item i s _ _ hg st λv h' tk hv st' kk=>?_
  obtain⟨t,rfl⟩:=hv
  have I1:Inv X pins σ H {s with heap:=h',toks:=tk}:=I.turned (λb o hb e=>kk b o (by simpa using hb) e) f0 f1 f3 f4 f5
  refine⟨_,rfl,qex (s:={s with heap:=h',toks:=tk}) (n:="range_iterator") st' rfl rfl (by decide) ⟨.int (lo+i),H,I1,⟨t,?_⟩,⟨rfl,rfl⟩,st',λb hb=>(hf b hb).1⟩⟩
  rw[Int.mul_one]
 done:=by
  intro X hP hw hK hc i pins s σ H E I hf st hg
  subst hP hw hK
  obtain⟨f0,f1,f2,f3,f4,f5⟩:=hf it (by simp)
  exact wpAny_pyNext_range_end (I.ok.hd hc) st (by have:n<=i:=hg;omega) λh' eb=>⟨rfl,I.turned (t':=s.toks) (λb o hb e=>eb b o hb e) f0 f1 f3 f4 f5⟩
 self:=λ_ _ _ _ _ st h=>wpAny_pyIter_rangeiter st h
end L2
namespace L2
open PySem PySem.Spec PyProof.Rows
section
variable{X:Cx}{tg:Expr}
theorem qey {pins:List (Addr×Obj)} {σ:St} {H:Hp} {s:yaa} {R:It->Hp->Prop} {E:Value->yaa->Prop} {lo hi:Int} {t u v:Tok} {tk:Nat} (I:Inv X pins σ H s) (h1 : -(2 ^ 62)<=lo) (h2:lo<2 ^ 62) (h3 : -(2 ^ 62)<=hi) (h4:hi<2 ^ 62)
  (q:R (Itr lo (hi-lo).toNat) H):wpAny (model X.prog X.w) X.A (pyIter (.ref s.heap.objs.size)) (PIE X pins σ tg R) E {s with heap:=s.heap.push {cls:=.type "range",data:=.fields #[.int lo t,.int hi u,.int 1 v]},toks:=tk}:=by
 refine wpAny_pyIter_range (IsRange.new ..) (small_one h1 h2 h3 h4) ?_
 have I1:Inv X pins σ H {s with heap:=s.heap.push {cls:=.type "range",data:=.fields #[.int lo t,.int hi u,.int 1 v]},toks:=tk}:=I.kept λb o e=>Heap.get?_push_of_some _ e
 refine ⟨(s.heap.push {cls:=.type "range",data:=.fields #[.int lo t,.int hi u,.int 1 v]}).objs.size,[(s.heap.push {cls:=.type "range",data:=.fields #[.int lo t,.int hi u,.int 1 v]}).objs.size],_,_,H,rfl,
  I1.kept (t':=tk) λb o e=>Heap.get?_push_of_some _ e,qco _ lo (hi-lo).toNat,?_,λb hb=>?_,q⟩
 ·have e1:lo+((0:Nat):Int)*1=lo:=by simp
  have e2:(((hi-lo).toNat:Nat):Int)-((0:Nat):Int)=Builtin.Range.rangeSize lo hi 1:=by rw[rangeSize_one];split<;>omega
  show IsRangeIter _ _ (lo+((0:Nat):Int)*1) ((((hi-lo).toNat:Nat):Int)-((0:Nat):Int)) 1
  rw[e1,e2]
  exact Heap.get?_push_size _ rfl
 ·have e:b=(s.heap.push {cls:=.type "range",data:=.fields #[.int lo t,.int hi u,.int 1 v]}).objs.size:=by simpa using hb
  subst e
  exact I1.fpOk (yak _) (I1.hok.fresh (yak _))
def qkA(ta:TA):TI:=λσ H R=>ta σ H λvs H1=>∃j:Int,vs=[.int j] /\ -(2 ^ 62)<=j/\j<2 ^ 62/\R (Itr 0 j.toNat) H1
theorem qc1 {a:Expr} {ta:TA} {p pos:Pos} (hg:Gl X "range") (hm:X.mg "range"=none) (ha:PA X [a] ta) (hs:yag [a] X.env=[(false,eval a X.env)]:=by rfl):PI X tg (.Call (.Name "range" p) [a] [] pos) (qkA ta):=by
 intro pins s σ H R I h
 refine Call_ (vb I hg hm boot_range (yaS (thn (ha pos pins s σ H _ I h) λus s1 ⟨vs,H1,I1,r1,q1⟩=>?_) hs rfl))
 obtain⟨j,e,q1,q2,q⟩:=q1
 subst e
 cases r1 with
 |cons r rr=>
  cases rr
  obtain⟨t,rfl⟩:=r
  exact call_range_1 (qey I1 (by omega) (by omega) q1 q2 (by simpa using q))
def qmb (wi:TI) (g:TG) (tb:TS):TS:=λD σ H=>wi σ H λJ H1=>∃W:Nat->Nat->St->Hp->Prop,(∃m,W 0 m σ H1)/\∀i m σ H,W i m σ H ->
 (J.stop i H/\D.nx σ H)\/(J.go i H/\∃N:St->Hp->Prop,(∀σ' H',N σ' H'->∃m',m'<m/\W (i+1) m' σ' H')/\∀x H',J.yld i H x H'->g x σ H' λσ2 H2=>tb {D with nx:=N,ct:=N,bk:=D.nx} σ2 H2)
def qax(fp:List Addr)(h:Heap):List (Addr×Obj):=fp.filterMap λb=>(h.get? b).map λo=>(b,o)
theorem uf{fp:List Addr}{h:Heap}{b:Addr}{o:Obj}(hb:b∈fp)(e:h.get? b=some o):(b,o)∈qax fp h:=List.mem_filterMap.mpr ⟨b,hb,by rw[e];rfl⟩
theorem qc2 {fp:List Addr} {h:Heap} {p:Addr×Obj} (hp:p∈qax fp h):p.1∈fp/\h.get? p.1=some p.2:=by
 obtain⟨b,hb,e⟩:=List.mem_filterMap.mp hp
 cases q:h.get? b with
 |none=>rw[q]at e;cases e
 |some o=>
  rw[q]at e
  have e':(b,o)=p:=yax e
  subst e'
  exact⟨hb,q⟩
theorem Inv.pinned {pins:List (Addr×Obj)} {σ:St} {H:Hp} {s:yaa} {fp:List Addr} (I:Inv X pins σ H s) (hf:∀b∈fp,qbR X pins H b) (ho:∀b∈fp,∃o,s.heap.get? b=some o/\∀v,o.data ≠ .cell v):Inv X (pins++qax fp s.heap) σ H s :=
 I.pins_of λp hp=>(mA_.mp hp).elim (λz=>I.pin p (mr_ _ z)) λz=>by
  obtain⟨hb,e⟩:=qc2 z
  obtain⟨f0,f1,f2,_⟩:=hf p.1 hb
  obtain⟨o,e',d⟩:=ho p.1 hb
  rw[e]at e';cases e'
  exact⟨e,f0,f1,f2,d⟩
theorem Inv.unpinned{pins pl:List (Addr×Obj)}{σ:St}{H:Hp}{s:yaa}(I:Inv X (pins++pl) σ H s):Inv X pins σ H s:=I.pins_of λp hp=>I.pin p (mr_ _ (yed _ hp))
theorem qip {iter:Expr} {body:List Stmt} {wi:TI} {g:TG} {tb:TS} {pos:Pos} (hp:ydE (model X.prog X.w) X.A X.env X.xe) (hc:X.calm=true) (hi:PI X tg iter wi) (hg:PG X tg g) (hb:PSs X body tb)
  (hs:∀x,ych iter X.env x=pure x:=by intro _;rfl):PS X (.For tg iter body [] pos) (qmb wi g tb):=by
 intro pins s σ H D I h
 refine wpAny_For (thn (hi pins s σ H _ I h) λv s1 h1=>thn h1 λitv s2 h2=>?_) hs
 obtain⟨it,fp,tn,J,H2,e,I2,T,st2,f2,W,⟨m0,w0⟩,turn⟩:=h2
 subst e
 have stat:∀{H':Hp},(∀b∈fp,H' b=none)->∀b∈fp,qbR X pins H' b:=λhn b hb=>⟨hn b hb,(f2 b hb).2⟩
 refine codeAny_forLoop_any (λn s'=>∃i σ' H',Inv X pins σ' H' s'/\tn i s'.heap/\(∀b∈fp,H' b=none)/\W i n σ' H') ?_ m0 ⟨0,σ,H2,I2,st2,λb hb=>(f2 b hb).1,w0⟩
 rintro n s3 ⟨i,σ3,H3,I3,st3,fr3,w3⟩
 rcases turn i n σ3 H3 w3 with⟨stop,qn⟩|⟨go,N,hN,step⟩
 ·refine ybp hp (thn (T.done X rfl rfl rfl hc i pins s3 σ3 H3 X.xe I3 (stat fr3) st3 stop) λr s4 ⟨hr,I4⟩=>?_)
  subst hr
  exact ycz ⟨σ3,H3,I4,qn⟩
 ·refine ybp hp (thn (T.item X rfl rfl rfl hc i pins s3 σ3 H3 X.xe I3 (stat fr3) st3 go) λr s4 ⟨u,hr,h4⟩=>?_)
  subst hr
  refine ybp hp (thn h4 λ_ s5 ⟨x,H5,I5,r5,y5,st5,fr5⟩=>?_)
  have I5':=I5.pinned (stat fr5) (T.obj _ _ st5)
  refine ybp hp (thn (hg _ s5 σ3 H5 x u _ I5' r5 (step x H5 y5)) λ_ s6 ⟨σ6,H6,I6,q6⟩=>?_)
  refine ybp hp (thn (hb _ s6 σ6 H6 _ I6 q6) λf s7 q7=>?_)
  have again:∀{σ7:St}{H7:Hp},Inv X (pins++qax fp s5.heap) σ7 H7 s7->N σ7 H7->∃m,m<n/\∃i σ' H',Inv X pins σ' H' s7/\tn i s7.heap/\(∀b∈fp,H' b=none)/\W i m σ' H':=λ{σ7 H7} I7 n7=>by
   obtain⟨m',hm,w7⟩:=hN σ7 H7 n7
   refine⟨m',hm,i+1,σ7,H7,I7.unpinned,T.keep _ _ _ st5 λb hb o e=>(I7.pin (b,o) (mr_ _ (mr_ _ (uf hb e)))).1,λb hb=>?_,w7⟩
   obtain⟨o,e,d⟩:=T.obj _ _ st5 b hb
   exact(I7.pin (b,o) (mr_ _ (mr_ _ (uf hb e)))).2.1
  cases f with
  |next=>obtain⟨σ7,H7,I7,n7⟩:=q7;exact again I7 n7
  |cont=>obtain⟨σ7,H7,I7,n7⟩:=q7;exact again I7 n7
  |brk=>obtain⟨σ7,H7,I7,q7⟩:=q7;exact⟨σ7,H7,I7.unpinned,q7⟩
  |ret v=>obtain⟨x7,σ7,H7,I7,r7,q7⟩:=q7;exact⟨x7,σ7,H7,I7.unpinned,r7,q7⟩
end
end L2
namespace L2
open PySem PySem.Spec PyProof.Rows
abbrev R2:=V->V->Hp->VK->Prop
def OpR (X:Cx) (f:Value->Value->Sem Value) (r:R2):Prop :=
 ∀ (pins:List (Addr×Obj)) (s:yaa) (σ:St) (H:Hp) (x y:V) (v u:Value) (Q:VK),Inv X pins σ H s->jm x v->jm y u->r x y H Q ->
  wpAny (model X.prog X.w) X.A (f v u) (EP X pins σ Q) X.xe s
def jV (X:Cx) (f:Value) (r:List V->Hp->VK->Prop):Prop :=
 ∀ (pins:List (Addr×Obj)) (s:yaa) (σ:St) (H:Hp) (xs:List V) (us:List Value) (Q:VK),Inv X pins σ H s->qU xs us->r xs H Q ->
  wpAny (model X.prog X.w) X.A (call f us) (EP X pins σ Q) X.xe s
def tOp(r:R2)(ta tb:TE):TE:=λσ H Q=>ta σ H λx H1=>tb σ H1 λy H2=>r x y H2 Q
def rI(C:Int->Int->Prop)(g:Int->Int->V):R2:=λx y H Q=>∃i j,x=.int i/\y=.int j/\C i j/\Q (g i j) H
def rI0(g:Int->Int->V):R2:=λx y H Q=>∃i j,x=.int i/\y=.int j/\Q (g i j) H
section
variable{X:Cx}{a b c:Expr}{ta tb tc:TE}{pos:Pos}
theorem qkB (ha:PE X a ta) (hb:PE X b tb) {pins:List (Addr×Obj)} {s:yaa} {σ:St} {H:Hp} {R:V->V->Hp->Prop} (I:Inv X pins σ H s)
  (h:ta σ H λx H1=>tb σ H1 λy H2=>R x y H2) {Q:Value->yaa->Prop} {f:Value->Value->Sem Value}
  (hf:∀v u s2 x y H2,Inv X pins σ H2 s2->jm x v->jm y u->R x y H2->wpAny (model X.prog X.w) X.A (f v u) Q X.xe s2) :
  wpAny (model X.prog X.w) X.A (eval a X.env) (λv sJ=>wpAny (model X.prog X.w) X.A (eval b X.env) (λu sY=>wpAny (model X.prog X.w) X.A (f v u) Q X.xe sY) X.xe sJ) X.xe s:=by
 refine thn (ha pins s σ H _ I h) λv s1 ⟨x,H1,I1,r1,q1⟩=>?_
 refine thn (hb pins s1 σ H1 _ I1 q1) λu s2 ⟨y,H2,I2,r2,q2⟩=>?_
 exact hf v u s2 x y H2 I2 r1 r2 q2
theorem qkC {op:Operator} {r:R2} (ho:OpR X (ya9 op) r) (ha:PE X a ta) (hb:PE X b tb):PE X (.BinOp a op b pos) (tOp r ta tb):=by
 intro pins s σ H Q I h
 exact wpAny_BinOp (qkB ha hb I h λv u s2 x y H2 I2 rx ry q=>ho pins s2 σ H2 x y v u Q I2 rx ry q)
theorem opI {f:Value->Value->Sem Value} {C:Int->Int->Prop} {g:Int->Int->Int}
  (rule:∀(i j:Int)(t u:Tok)(s:yaa)(Q:Value->yaa->Prop)(E:Value->yaa->Prop),C i j->Q (.int (g i j) s.toks) {s with toks:=s.toks+1}->wpAny (model X.prog X.w) X.A (f (.int i t) (.int j u)) Q E s) :
  OpR X f (rI C λi j => .int (g i j)):=by
 intro pins s σ H x y v u Q I rx ry h
 obtain⟨i,j,rfl,rfl,hc,q⟩:=h
 obtain⟨t,rfl⟩:=rx
 obtain⟨t',rfl⟩:=ry
 exact rule i j t t' s _ _ hc ⟨.int (g i j),H,I.tok _,⟨_,rfl⟩,q⟩
theorem qlr {f:Value->Value->Sem Value} {g:Int->Int->Int}
  (rule:∀(i j:Int)(t u:Tok)(s:yaa)(Q:Value->yaa->Prop)(E:Value->yaa->Prop),Q (.int (g i j) s.toks) {s with toks:=s.toks+1}->wpAny (model X.prog X.w) X.A (f (.int i t) (.int j u)) Q E s) :
  OpR X f (rI0 λi j => .int (g i j)):=by
 intro pins s σ H x y v u Q I rx ry h
 obtain⟨i,j,rfl,rfl,q⟩:=h
 obtain⟨t,rfl⟩:=rx
 obtain⟨t',rfl⟩:=ry
 exact rule i j t t' s _ _ ⟨.int (g i j),H,I.tok _,⟨_,rfl⟩,q⟩
theorem qka {f:Value->Value->Sem Value} {g:Int->Int->Bool}
  (rule:∀(i j:Int)(t u:Tok)(s:yaa)(Q:Value->yaa->Prop)(E:Value->yaa->Prop),Q (.bool (g i j)) s->wpAny (model X.prog X.w) X.A (f (.int i t) (.int j u)) Q E s) :
  OpR X f (rI0 λi j => .bl (g i j)):=by
 intro pins s σ H x y v u Q I rx ry h
 obtain⟨i,j,rfl,rfl,q⟩:=h
 obtain⟨t,rfl⟩:=rx
 obtain⟨t',rfl⟩:=ry
 exact rule i j t t' s _ _ ⟨.bl (g i j),H,I,rfl,q⟩
def qiq(i j:Int):Prop:=0<j/\j<1606938044258990275541962092341162602522202993782792835301376
theorem qls {i j:Int} (h1:0<j) (h2:j<1606938044258990275541962092341162602522202993782792835301376):Builtin.divisionGoesByPylong i j=false:=by
 refine PyProof.noPylong_of_log2 ?_
 have h0:j.natAbs≠0:=by omega
 have h3:j.natAbs<2 ^ 200:=by
   have:(2:Nat) ^ 200=1606938044258990275541962092341162602522202993782792835301376:=by decide +kernel
   omega
 have:=(Nat.log2_lt h0).mpr h3
 omega
def qir(i j:Int):Prop:=(-(2 ^ 64)<i/\i<2 ^ 64)\/(-(2 ^ 64)<j/\j<2 ^ 64)
theorem qir.ok {i j:Int} (h:qir i j):IntMulOk i j:=by
 rcases h with⟨h1,h2⟩|⟨h1,h2⟩
 ·exact .of_left (intBits_le_64 h1 h2)
 ·exact .of_right (intBits_le_64 h1 h2)
theorem qis:OpR X (ya9 .Add) (rI0 λi j => .int (i+j)):=qlr λ_ _ _ _ _ _ _ q=>add_int q
theorem qfH:OpR X (ya9 .Sub) (rI0 λi j => .int (i-j)):=qlr λ_ _ _ _ _ _ _ q=>sub_int q
theorem qit:OpR X (ya9 .Mult) (rI qir λi j => .int (i*j)):=opI λ_ _ _ _ _ _ _ hc q=>mul_int q hc.ok
theorem uS:OpR X (ya9 .FloorDiv) (rI qiq λi j => .int (i/j)):=opI λi j _ _ _ _ _ hc q=>by
 have h1:(0:Int)<j:=hc.1
 have h2:j<1606938044258990275541962092341162602522202993782792835301376:=hc.2
 exact floordiv_int (by omega) (by rw[yc1 i (by omega)];exact q) (.inl (qls h1 h2))
theorem vA:OpR X (ya9 .Mod) (rI (λ_ j=>0<j) λi j => .int (i%j)):=opI λi j _ _ _ _ _ hc q=>by
 have h1:(0:Int)<j:=hc
 exact mod_int' (by omega) (by rw[yc2 i (by omega)];exact q)
end
def qkD:V->V->Bool
 |.non,.non=>true|.non,.int _=>true|.int _,.non=>true|.non,.bl _=>true|.bl _,.non=>true|.non,.str _=>true|.str _,.non=>true
 |.int _,.int _=>true|.bl _,.bl _=>true|.str _,.str _=>true|.byt _,.byt _=>true
 |.int _,.str _=>true|.str _,.int _=>true|.bl _,.str _=>true|.str _,.bl _=>true
 |_,_=>false
def rEq:R2:=λx y H Q=>qkD x y=true/\Q (.bl (decide (x=y))) H
def rNe:R2:=λx y H Q=>qkD x y=true/\Q (.bl (!decide (x=y))) H
theorem qc3 {i j:Int}:decide (V.int i=V.int j)=(i==j):=by
 rw[yb5]
 simp
theorem qfI {i j:Bool}:decide (V.bl i=V.bl j)=(i==j):=by
 rw[yb5]
 simp
theorem qc4 {i j:Str}:decide (V.str i=V.str j)=(i==j):=by
 rw[yb5]
 simp
theorem qc5 {i j:Array UInt8}:decide (V.byt i=V.byt j)=(i.toList==j.toList):=by
 rw[yb5]
 cases i
 cases j
 simp
section
variable{X:Cx}{a b c:Expr}{ta tb tc:TE}{pos:Pos}
theorem qK {pins:List (Addr×Obj)} {σ:St} {H:Hp} {s:yaa} {Q:VK} {k k':Bool} (I:Inv X pins σ H s) (q:Q (.bl k) H) (e:k=k'):EP X pins σ Q (.bool k') s:=by
 subst e
 exact⟨.bl k,H,I,rfl,q⟩
theorem qkE:OpR X (yaJ .Eq) rEq:=by
 intro pins s σ H x y v u Q I rx ry h
 obtain⟨hs,q⟩:=h
 cases x with
 |non=>
  cases rx
  cases y with
  |non=>cases ry;exact PySem.EqNone.eq_none_none (qK I q (by simp))
  |bl j=>cases ry;exact PySem.EqNone.eq_none_bool (qK I q (by simp))
  |int j=>obtain⟨t',rfl⟩:=ry;exact PySem.EqNone.eq_none_int (qK I q (by simp))
  |str j=>obtain⟨t',rfl⟩:=ry;exact PySem.EqNone.eq_none_str (qK I q (by simp))
  |_=>exact absurd (show false=true from hs) yas
 |bl i=>
  cases rx
  cases y with
  |non=>cases ry;exact PySem.EqNone.eq_bool_none (qK I q (by simp))
  |bl j=>cases ry;exact eq_bool (qK I q qfI)
  |str j=>obtain⟨t',rfl⟩:=ry;exact PySem.EqMixed.eq_bool_str (qK I q (by simp))
  |_=>exact absurd (show false=true from hs) yas
 |int i=>
  obtain⟨t,rfl⟩:=rx
  cases y with
  |non=>cases ry;exact PySem.EqNone.eq_int_none (qK I q (by simp))
  |int j=>obtain⟨t',rfl⟩:=ry;exact eq_int (qK I q qc3)
  |str j=>obtain⟨t',rfl⟩:=ry;exact PySem.EqMixed.eq_int_str (qK I q (by simp))
  |_=>exact absurd (show false=true from hs) yas
 |str i=>
  obtain⟨t,rfl⟩:=rx
  cases y with
  |non=>cases ry;exact PySem.EqNone.eq_str_none (qK I q (by simp))
  |bl j=>cases ry;exact PySem.EqMixed.eq_str_bool (qK I q (by simp))
  |int j=>obtain⟨t',rfl⟩:=ry;exact PySem.EqMixed.eq_str_int (qK I q (by simp))
  |str j=>obtain⟨t',rfl⟩:=ry;exact eq_str (qK I q qc4)
  |_=>exact absurd (show false=true from hs) yas
 |byt i=>
  obtain⟨t,rfl⟩:=rx
  cases y with
  |byt j=>obtain⟨t',rfl⟩:=ry;exact PySem.W.eq_bytes (qK I q qc5)
  |_=>exact absurd (show false=true from hs) yas
 |_=>cases y<;>exact absurd (show false=true from hs) yas
theorem qkF:OpR X (yaJ .NotEq) rNe:=by
 intro pins s σ H x y v u Q I rx ry h
 obtain⟨hs,q⟩:=h
 cases x with
 |non=>
  cases rx
  cases y with
  |non=>cases ry;exact PySem.EqNone.ne_none_none (qK I q (by simp))
  |bl j=>cases ry;exact PySem.EqNone.ne_none_bool (qK I q (by simp))
  |int j=>obtain⟨t',rfl⟩:=ry;exact PySem.EqNone.ne_none_int (qK I q (by simp))
  |str j=>obtain⟨t',rfl⟩:=ry;exact PySem.EqNone.ne_none_str (qK I q (by simp))
  |_=>exact absurd (show false=true from hs) yas
 |bl i=>
  cases rx
  cases y with
  |non=>cases ry;exact PySem.EqNone.ne_bool_none (qK I q (by simp))
  |bl j=>cases ry;exact ne_bool (qK I q (congrArg not qfI))
  |str j=>obtain⟨t',rfl⟩:=ry;exact PySem.EqMixed.ne_bool_str (qK I q (by simp))
  |_=>exact absurd (show false=true from hs) yas
 |int i=>
  obtain⟨t,rfl⟩:=rx
  cases y with
  |non=>cases ry;exact PySem.EqNone.ne_int_none (qK I q (by simp))
  |int j=>obtain⟨t',rfl⟩:=ry;exact ne_int (qK I q (congrArg not qc3))
  |str j=>obtain⟨t',rfl⟩:=ry;exact PySem.EqMixed.ne_int_str (qK I q (by simp))
  |_=>exact absurd (show false=true from hs) yas
 |str i=>
  obtain⟨t,rfl⟩:=rx
  cases y with
  |non=>cases ry;exact PySem.EqNone.ne_str_none (qK I q (by simp))
  |bl j=>cases ry;exact PySem.EqMixed.ne_str_bool (qK I q (by simp))
  |int j=>obtain⟨t',rfl⟩:=ry;exact PySem.EqMixed.ne_str_int (qK I q (by simp))
  |str j=>obtain⟨t',rfl⟩:=ry;exact ne_str (qK I q (congrArg not qc4))
  |_=>exact absurd (show false=true from hs) yas
 |byt i=>
  obtain⟨t,rfl⟩:=rx
  cases y with
  |byt j=>obtain⟨t',rfl⟩:=ry;exact PySem.W.ne_bytes (qK I q (congrArg not qc5))
  |_=>exact absurd (show false=true from hs) yas
 |_=>cases y<;>exact absurd (show false=true from hs) yas
theorem qkG:OpR X (yaJ .Lt) (rI0 λi j => .bl (decide (i<j))):=qka λ_ _ _ _ _ _ _ q=>lt_int q
theorem qiu:OpR X (yaJ .LtE) (rI0 λi j => .bl (decide (i<=j))):=qka λ_ _ _ _ _ _ _ q=>le_int q
theorem qiv:OpR X (yaJ .Gt) (rI0 λi j => .bl (decide (j<i))):=qka λ_ _ _ _ _ _ _ q=>gt_int q
theorem qgw:OpR X (yaJ .GtE) (rI0 λi j => .bl (decide (j<=i))):=qka λ_ _ _ _ _ _ _ q=>ge_int q
theorem qc6:OpR X (yaJ .In) (λx y H Q=>∃i j,x=.str i/\y=.str j/\Q (.bl (!(yaK j i 0 j.length 1).isEmpty)) H):=by
 intro pins s σ H x y v u Q I rx ry h
 obtain⟨i,j,rfl,rfl,q⟩:=h
 obtain⟨t,rfl⟩:=rx
 obtain⟨t',rfl⟩:=ry
 exact in_str (qK I q rfl)
theorem vc:OpR X (yaJ .Is) (λx y H Q=>y=.non/\Q (.bl (decide (x=.non))) H):=by
 intro pins s σ H x y v u Q I rx ry h
 obtain⟨rfl,q⟩:=h
 cases ry
 refine is_none_gen (qK I q ?_)
 cases x<;>first
  |(cases rx;rfl)
  |(obtain⟨t,rfl⟩:=rx;rfl)
theorem qgx:OpR X (yaJ .IsNot) (λx y H Q=>y=.non/\Q (.bl (!decide (x=.non))) H):=by
 intro pins s σ H x y v u Q I rx ry h
 obtain⟨rfl,q⟩:=h
 cases ry
 refine isnot_none_gen (qK I q ?_)
 cases x<;>first
  |(cases rx;rfl)
  |(obtain⟨t,rfl⟩:=rx;rfl)
theorem OpR.or {f:Value->Value->Sem Value} {r r':R2} (h:OpR X f r) (h':OpR X f r'):OpR X f (λx y H Q=>r x y H Q\/r' x y H Q):=by
 intro pins s σ H x y v u Q I rx ry q
 rcases q with q|q
 ·exact h pins s σ H x y v u Q I rx ry q
 ·exact h' pins s σ H x y v u Q I rx ry q
theorem qB (b:Expr) {op:CmpOp} (h:op ≠ .In:=by decide) (h2:op ≠ .NotIn:=by decide):ybi op b=false:=by
 have e1:(op==CmpOp.In)=false:=by cases op<;>first|rfl|exact absurd rfl h
 have e2:(op==CmpOp.NotIn)=false:=by cases op<;>first|rfl|exact absurd rfl h2
 cases b<;>simp[ybi,e1,e2]
theorem qgy {op:CmpOp} {r:R2} (ho:OpR X (yaJ op) r) (ha:PE X a ta) (hb:PE X b tb) (hm:ybi op b=false):PE X (.Compare a [op] [b] pos) (tOp r ta tb):=by
 intro pins s σ H Q I h
 exact wpAny_Compare1 (qkB ha hb I h λv u s2 x y H2 I2 rx ry q=>ho pins s2 σ H2 x y v u Q I2 rx ry q) hm
def qkH(t:TE):TT:=λσ H Q=>t σ H λx H'=>∃k,x=.bl k/\Q k H'
theorem qc7 {op:CmpOp} {r:R2} (ho:OpR X (yaJ op) r) (ha:PE X a ta) (hb:PE X b tb) (hm:ybi op b=false):PT X (.Compare a [op] [b] pos) (qkH (tOp r ta tb)):=by
 intro pins s σ H Q I h
 refine ydY (thn (ha pins s σ H _ I h) λv s1 ⟨x,H1,I1,r1,q1⟩=>thn (hb pins s1 σ H1 _ I1 q1) λu s2 ⟨y,H2,I2,r2,q2⟩=>
  thn (ho pins s2 σ H2 x y v u _ I2 r1 r2 q2) λc s3 ⟨z,H3,I3,r3,k,e,q3⟩=>?_) hm
 subst e
 cases r3
 exact ya1 ⟨H3,I3,q3⟩
theorem wA:(yaq:Nat)<2 ^ 63:=by rw[ybc];decide
theorem qcp:OpR X (ya9 .Add) (λx y H Q=>∃i j,x=.str i/\y=.str j/\i.length+j.length<=yaq/\Q (.str (i++j)) H):=by
 intro pins s σ H x y v u Q I rx ry h
 obtain⟨i,j,rfl,rfl,hz,q⟩:=h
 obtain⟨t,rfl⟩:=rx
 obtain⟨t',rfl⟩:=ry
 exact add_str (λt' tk=>⟨.str (i++j),H,I.tok _,⟨_,rfl⟩,q⟩) hz
theorem qcq {x:V} {us:List Value} (r:qU [x] us):∃u,us=[u]/\jm x u:=by
 cases r with
 |cons r1 r2=>cases r2;exact⟨_,rfl,r1⟩
theorem qgz {x y:V} {us:List Value} (r:qU [x,y] us):∃u w',us=[u,w']/\jm x u/\jm y w':=by
 cases r with
 |cons r1 r2=>
  cases r2 with
  |cons r3 r4=>cases r4;exact⟨_,_,rfl,r1,r3⟩
theorem qez:jV X (.builtin "abs") (λxs H Q=>∃i,xs=[.int i]/\Q (.int (if i<0 then -i else i)) H):=by
 intro pins s σ H xs us Q I r h
 obtain⟨i,rfl,q⟩:=h
 obtain⟨u,rfl,t,rfl⟩:=qcq r
 exact call_abs_int λu tk=>⟨.int (if i<0 then -i else i),H,I.tok _,⟨_,rfl⟩,q⟩
theorem qc8 (hc:X.calm=true):jV X (.builtin "max") (λxs H Q=>∃i j,xs=[.int i,.int j]/\Q (.int (if j>i then j else i)) H):=by
 intro pins s σ H xs us Q I r h
 obtain⟨i,j,rfl,q⟩:=h
 obtain⟨u,w',rfl,⟨t,rfl⟩,⟨t',rfl⟩⟩:=qgz r
 refine max_two_ints (I.ok.hd hc) λh' tk k=>⟨_,H,I.kept k,?_,q⟩
 by_cases hj:j>i
 ·rw[if_pos hj,if_pos hj];exact⟨_,rfl⟩
 ·rw[if_neg hj,if_neg hj];exact⟨_,rfl⟩
theorem qay (hc:X.calm=true):jV X (.builtin "min") (λxs H Q=>∃i j,xs=[.int i,.int j]/\Q (.int (if j<i then j else i)) H):=by
 intro pins s σ H xs us Q I r h
 obtain⟨i,j,rfl,q⟩:=h
 obtain⟨u,w',rfl,⟨t,rfl⟩,⟨t',rfl⟩⟩:=qgz r
 refine min_two_ints (I.ok.hd hc) λh' tk k=>⟨_,H,I.kept k,?_,q⟩
 by_cases hj:j<i
 ·rw[if_pos hj,if_pos hj];exact⟨_,rfl⟩
 ·rw[if_neg hj,if_neg hj];exact⟨_,rfl⟩
theorem qc9:jV X (.type "int") (λxs H Q=>(∃i,xs=[.int i]/\Q (.int i) H)\/∃k,xs=[.bl k]/\Q (.int (if k then 1 else 0)) H):=by
 intro pins s σ H xs us Q I r h
 rcases h with⟨i,rfl,q⟩|⟨k,rfl,q⟩
 ·obtain⟨u,rfl,t,rfl⟩:=qcq r
  exact call_int_int ⟨.int i,H,I,⟨_,rfl⟩,q⟩
 ·obtain⟨u,rfl,r1⟩:=qcq r
  cases r1
  exact call_int_bool ⟨.int (if k then 1 else 0),H,I.tok _,⟨_,rfl⟩,q⟩
theorem qbi:jV X (.builtin "divmod") (λxs H Q=>∃i j,xs=[.int i,.int j]/\qiq i j/\∀p,H p=none->Q (.ref p) (upd H p (.tup [.int (i/j),.int (i%j)]))):=by
 intro pins s σ H xs us Q I r h
 obtain⟨i,j,rfl,⟨h1,h2⟩,q⟩:=h
 obtain⟨u,w',rfl,⟨t,rfl⟩,⟨t',rfl⟩⟩:=qgz r
 refine divmod_int (by omega) ?_ (.inl (qls h1 h2))
 rw[yc1 i (by omega),yc2 i (by omega)]
 have hn:H s.heap.objs.size=none:=I.hok.fresh (yak _)
 refine⟨.ref s.heap.objs.size,_,?_,rfl,q _ hn⟩
 refine I.laid (λb o e=>Heap.get?_push_of_some _ e) (yak _) ⟨by simp only[lC_,lN_];rw[ybc];decide,[.int (i/j) s.toks,.int (i%j) (s.toks+1)],.cons ⟨_,rfl⟩ (.cons ⟨_,rfl⟩ .nil),?_⟩
 exact⟨_,Heap.get?_push_size s.heap rfl,rfl,0,rfl⟩
end
end L2
namespace L2
open PySem PySem.Spec PyProof.Rows
structure qkI (h:Heap) (x dx C:Addr) (mA:Str->Option Value):Prop where
 obj:h.get? x=some (ydC C dx)
 ns:h.Ns1 dx mA
 ne:dx≠x
theorem qda {h:Heap} {dx:Addr} {mA:Str->Option Value} (n:h.Ns1 dx mA):∃od,h.get? dx=some od/\∀name,ydZ name od=some (mA name):=by
 obtain⟨o,es,ep,ho,hd,hk,_,hm⟩:=n
 refine⟨o,ho,λname=>?_⟩
 have e:=hm name
 unfold nsFind findBy at e
 rw[<-Array.find?_toList]at e
 unfold ydZ
 rw[hd]
 dsimp only
 split
 ·rename_i y q
  rw[q]at e
  exact congrArg some e
 ·rename_i q
  rw[q]at e
  have a:es.toList.any (·.refKey)=false:=by
   rw[List.any_eq_false]
   intro y hy
   obtain⟨z,t,hkey⟩:=hk y (Array.mem_toList_iff.mp hy)
   simp[DictEntry.refKey,hkey]
  have a':¬es.toList.any (·.refKey)=true:=by rw[a];exact yas
  rw[if_neg a']
  exact congrArg some e
theorem qkI.look {h:Heap} {x dx C:Addr} {mA:Str->Option Value} (I:qkI h x dx C mA):∃od,PySem.W.InstAt h x (ydC C dx) C (some od)/\∀name,ydZ name od=some (mA name) :=
 let ⟨od,ho,hl⟩:=qda I.ns
 ⟨od,⟨I.obj,rfl,rfl,ho⟩,hl⟩
section
variable{prog:yaj}{w:World}{A:yar}{E:Value->yaa->Prop}{s:yaa}{K:yah}{x dx C f:Addr}{mA:Str->Option Value}{name:Str}{v:Value}
end
def qmc (f:Str) (v:V):List (Str×V)->List (Str×V)
 | []=>[(f,v)]
 |(g,x)::r=>if g=f then(g,v)::r else(g,x)::qmc f v r
section
variable{P:yaj}{w:World}{H H':Hp}{h h':Heap}{a C dx:Addr}{fs fs':List (Str×V)}
theorem qgA (hok:HOk P w H h) (e:H a=some (.ins C dx fs)):∃mA,qkI h a dx C mA/\(∀f,qh8 (fs.lookup f) (mA f))/\PySem.Within mA (fs.map (·.1))/\fs.length<=1000/\H dx=some (.own a):=by
 obtain⟨d,z,ne,ob,mA,n,r,q⟩:=(show ym P w H h a (.ins C dx fs)from hok a _ e)
 exact⟨mA,⟨ob,n,ne⟩,r,q,z,d⟩
end
structure Cls (K:yah) (C:Addr):Prop where
 pg:PySem.W.plainGet K C ydF=true
 hd:PySem.W.hasDictIn K C=true
 po:PySem.W.plainOver K C=true
 sa:ybk K (.ref C) "__setattr__"=some (some (.builtin "object.__setattr__"))
theorem Cls.get{K:yah}{C:Addr}(c:Cls K C)(f:Str):PySem.W.plainGet K C f=true:=c.pg
structure Con (K:yah) (C:Addr) (f:Str) (v:V) (u:Value):Prop where
 at_:ybk K (.ref C) f=some (some u)
 rel:jm v u
 get:yeN K u "__get__"=some none
 cp:PySem.W.copiedNames.contains f=false
structure qmO (K:yah) (C:Addr) (m:Str) (f:Addr):Prop where
 at_:ybk K (.ref C) m=some (some (.ref f))
 fn:PySem.W.isFn K (.ref f)=true
 kp:yai K (.ref f)=true
section
variable{X:Cx}{pins:List (Addr×Obj)}{σ:St}{H:Hp}{s:yaa}{a C dx:Addr}{fs:List (Str×V)}{f:Str}{v:V}{A:yar}{E:Value->yaa->Prop}
end
section
variable{X:Cx}{o e value:Expr}{f:Str}{pos pos' tpos:Pos}{ta tv:TE}
end
section
variable{X:Cx}{pins:List (Addr×Obj)}{σ:St}{H:Hp}{s:yaa}{A:yar}{E:Value->yaa->Prop}{Q:Value->yaa->Prop}{c:Value}{b:Bool}
inductive qcV (K:yah) (H:Hp):V->Value->Prop where
 |non:qcV K H .non (.type "NoneType")
 |bl (x:Bool):qcV K H (.bl x) (.type "bool")
 |int (i:Int):qcV K H (.int i) (.type "int")
 |str (x:Str):qcV K H (.str x) (.type "str")
 |flt (x:UInt64):qcV K H (.flt x) (.type "float")
 |lst {a:Addr} {xs:List V} (e:H a=some (.lst xs)):qcV K H (.ref a) (.type "list")
 |frz {a:Addr} {o:Obj} {xs:List V} (e:H a=some (.frz o (.lst xs))):qcV K H (.ref a) (.type "list")
 |tup {a:Addr} {xs:List V} (e:H a=some (.tup xs)):qcV K H (.ref a) (.type "tuple")
 |dK {a:Addr} {kvs:List (Key×V)} (e:H a=some (.dK kvs)):qcV K H (.ref a) (.type "dict")
 |dT {a:Addr} {kvs:List (List Key×V)} (e:H a=some (.dT kvs)):qcV K H (.ref a) (.type "dict")
 | ins {a C dx:Addr} {fs:List (Str×V)} (e:H a=some (.ins C dx fs)) (cl:Cls K C) (ha:ybk K (.ref C) "__class__"=some (some (.builtin "object.__class__")))
   (hn:yeN K (.builtin "object.__class__") "__get__"=some (some (.builtin "getset_descriptor.__get__"))) (htk:PySem.W.takesIn K (.builtin "object.__class__")=some true)
   (hm:PySem.W.mroIn K C (.type "object")=some true):qcV K H (.ref a) (.ref C)
theorem yw {x:V} {u t:Value} (I:Inv X pins σ H s) (rx:jm x u) (ty:qcV X.K H x t) (e:yd0 X.K t c=some b) (h:∀tk,Q (.bool b) {s with toks:=tk}) :
  wpAny (model X.prog X.w) A (call (.builtin "isinstance") [u,c]) Q E s:=by
 cases ty with
 |non=>cases (show u=yaD from rx);exact yaH PySem.W.kitx_none I.kIn ybM e (λz=>nomatch z) h
 |bl y=>cases (show u=yaX y from rx);exact yaH PySem.W.kitx_bool I.kIn ybM e (λz=>nomatch z) h
 |int i=>obtain⟨t,q⟩:=(show ∃t,u=ycP i t from rx);cases q;exact yaH PySem.W.kitx_int I.kIn ybM e (λz=>nomatch z) h
 |str y=>obtain⟨t,q⟩:=(show ∃t,u=yeq y t from rx);cases q;exact yaH PySem.W.kitx_str I.kIn ybM e (λz=>nomatch z) h
 |flt y=>obtain⟨t,q⟩:=(show ∃t,u=Value.float y t from rx);cases q;exact yaH PySem.W.kitx_float I.kIn ybM e (λz=>nomatch z) h
 | @lst a xs ea=>
  cases (show u=yae a from rx)
  obtain⟨_,_,n,_,h1⟩:=(show ym X.prog X.w H s.heap a (.lst xs)from I.hok a _ ea)
  exact yaH yde I.kIn ⟨_,h1,rfl⟩ e (λz=>nomatch z) h
 | @frz a ob xs ea=>
  cases (show u=yae a from rx)
  obtain⟨_,_,_,n,_,h1⟩:=(show ym X.prog X.w H s.heap a (.frz ob (.lst xs))from I.hok a _ ea)
  exact yaH yde I.kIn ⟨_,h1,rfl⟩ e (λz=>nomatch z) h
 | @tup a xs ea=>
  cases (show u=yae a from rx)
  obtain⟨_,_,_,p⟩:=(show ym X.prog X.w H s.heap a (.tup xs)from I.hok a _ ea)
  obtain⟨o,h1,h2,_⟩:=p
  exact yaH yes I.kIn ⟨o,h1,h2⟩ e (λz=>nomatch z) h
 | @dK a kvs ea=>
  cases (show u=yae a from rx)
  obtain⟨_,_,vs,_,p⟩:=(show ym X.prog X.w H s.heap a (.dK kvs)from I.hok a _ ea)
  obtain⟨o,es,ep,h1,h2,_⟩:=p
  exact yaH yeO I.kIn ⟨o,h1,h2.1⟩ e (λz=>nomatch z) h
 | @dT a kvs ea=>
  cases (show u=yae a from rx)
  obtain⟨_,_,xs,_,o,es,ep,h1,h2,_⟩:=(show ym X.prog X.w H s.heap a (.dT kvs)from I.hok a _ ea)
  exact yaH yeO I.kIn ⟨o,h1,h2.1⟩ e (λz=>nomatch z) h
 | @ins a C dx fs ea cl ha hn htk hm=>
  cases (show u=yae a from rx)
  obtain⟨mA,O,_⟩:=qgA I.hok ea
  obtain⟨od,J,_⟩:=O.look
  exact yaH (PySem.W.kitx_own (cl.get _) cl.hd ha hn htk hm) I.kIn J e (λz=>nomatch z) h
end
end L2
namespace L2
open PySem PySem.Spec PyProof.Rows
structure uE (k:Nat) (A:yar):Prop where
 hd:A.handled=none
 dp:A.depth+3*k+5<ycL
 un:A.units+16*k+200<cLine
 gd:A.guards=some []
theorem uE.mono{j k:Nat}{A:yar}(r:uE k A)(h:j<=k):uE j A:=⟨r.hd,by have:=r.dp;omega,by have:=r.un;omega,r.gd⟩
theorem uE.deeper {k:Nat} {A:yar} (r:uE (k+1) A) (env:Env):uE k (A.deeper env) :=
 ⟨r.hd,by have:=r.dp;show A.depth+1+3*k+5<_;omega,by have:=r.un;show A.units+3+16*k+200<_;omega,r.gd⟩
theorem uE.depth{k:Nat}{A:yar}(r:uE k A):A.depth<ycL:=by have:=r.dp;omega
theorem uE.units{k:Nat}{A:yar}(r:uE k A):A.units+64<cLine:=by have:=r.un;omega
def qmd:TA:=λ_ H Q=>Q [] H
def qkJ(ta:TE)(tr:TA):TA:=λσ H Q=>ta σ H λx H1=>tr σ H1 λxs H2=>Q (x::xs) H2
section
variable{X:Cx}{e:Expr}{es:List Expr}{te:TE}{t:TA}{pos:Pos}
theorem wB:PA X [] qmd:=λ_ _ _ _ H Q I h=>yeP ⟨[],H,I,.nil,h⟩
theorem yU (ha:PE X e te) (hr:PA X es t) (hs:yag (e::es) X.env=(false,eval e X.env)::yag es X.env:=by rfl):PA X (e::es) (qkJ te t):=by
 intro pos pins s σ H Q I h
 rw[hs]
 show wpAny _ _ (spliced ((false,eval e X.env)::yaE pos (yag es X.env))) _ _ s
 refine yet (thn (ha pins s σ H _ I h) λu s1 ⟨x,H1,I1,r1,q1⟩=>?_)
 exact thn (hr pos pins s1 σ H1 _ I1 q1) λus s2 ⟨xs,H2,I2,r2,q2⟩=>⟨x::xs,H2,I2,.cons r1 r2,q2⟩
def qme(t:TA):TE:=λσ H Q=>t σ H λxs H1=>xs.length<=yaq/\∀p,H1 p=none->Q (.ref p) (upd H1 p (.tup xs))
def qmf(t:TA):TE:=λσ H Q=>t σ H λxs H1=>xs.length<=yaq/\∀p,H1 p=none->Q (.ref p) (upd H1 p (.lst xs))
theorem qiw {x1} (h:PA X es t):PE X (.Tuple es x1 pos) (qme t):=by
 intro pins s σ H Q I hq
 refine wpAny_Tuple_spliced (thn (h pos pins s σ H _ I hq) λus s1 ⟨xs,H1,I1,r,z,q⟩=>⟨by rw[<-r.length];exact z,?_⟩)
 have hf:H1 s1.heap.objs.size=none:=I1.hok.fresh (yak _)
 refine⟨.ref s1.heap.objs.size,upd H1 s1.heap.objs.size (.tup xs),I1.laid (t':=s1.toks) (λb u e=>Heap.get?_push_of_some _ e) (yak _) ?_,rfl,q _ hf⟩
 exact⟨z,us,r,⟨_,Heap.get?_push_size _ rfl,rfl,_,rfl⟩⟩
theorem qfJ (h:PA X es t):PE X (.List es pos) (qmf t):=by
 intro pins s σ H Q I hq
 refine wpAny_List_spliced (thn (h pos pins s σ H _ I hq) λus s1 ⟨xs,H1,I1,r,z,q⟩=>⟨by rw[<-r.length];exact z,?_⟩)
 have hf:H1 s1.heap.objs.size=none:=I1.hok.fresh (yak _)
 refine⟨.ref s1.heap.objs.size,upd H1 s1.heap.objs.size (.lst xs),I1.laid (t':=s1.toks) (λb u e=>Heap.get?_push_of_some _ e) (yak _) ?_,rfl,q _ hf⟩
 exact⟨z,us,0,r,Heap.get?_push_size _ rfl⟩
end
abbrev Sp:=List V->Hp->VK->XK->Prop
abbrev CXT:=List Env->Hp->yaa->XK->Value->yaa->Prop
structure qix (P:yaj) (w:World) (K:yah) (mg:Str->Option Value) (base:Heap) (A:yar) (outer:List Env) (s:yaa) (H:Hp):Prop where
 frames:A.frames=some outer
 mod:Mod K mg base
 bs:∀b o,base.get? b=some o->s.heap.get? b=some o/\H b=none
 bsz:base.objs.size<=s.heap.objs.size
 funs:s.heap.FunFrames base outer
 frf:∀b∈frs outer,H b=none
 hok:HOk P w H s.heap
 bare:yb0 s.gens
def CE (outer:List Env) (P:yaj) (w:World) (H:Hp) (s:yaa) (Q:VK) (u:Value) (s':yaa):Prop :=
 ∃v H',s'.os=s.os/\yb0 s'.gens/\Un (frs outer) [] H H' s.heap s'.heap/\HOk P w H' s'.heap/\jm v u/\Q v H'
def CR (CX:CXT) (outer:List Env) (P:yaj) (w:World) (H:Hp) (s:yaa) (Q:VK) (E:XK) (r:ycT) (s':yaa):Prop :=
 match r with
 |.ok (.ret u)=>CE outer P w H s Q u s'
 |.ok _=>False
 |.error e=>CX outer H s E e s'
structure wD (P:yaj) (w:World) (K:yah) (mg:Str->Option Value) (base:Heap) (CX:CXT) (k:Nat) (f:Addr) (fd:yaO) (ps:List Str) (sp:Sp):Prop where
 len:∀vs H Q E,sp vs H Q E->vs.length=ps.length
 run:∀(A:yar)(outer:List Env)(s:yaa)(H:Hp)(args:Args)(us:List Value)(vs:List V)(Q:VK)(E:XK),uE k A->qix P w K mg base A outer s H->ydo s fd args (ps.zip us)->qU vs us->sp vs H Q E ->
  yb1 (model P w) A (.call (.ref f) args) (CR CX outer P w H s Q E) s
section
variable{X:Cx}{pins:List (Addr×Obj)}{σ:St}{H:Hp}{s s':yaa}
theorem Inv.env0 (I:Inv X pins σ H s):qix X.prog X.w X.K X.mg X.base X.A X.stack s H :=
 ⟨I.ok.frames,I.ok.mod,I.bs,ya4 I.ok.bsz I.sz,I.stack,I.stkFree,I.hok,I.bare⟩
theorem Inv.after {Q:VK} {u:Value} (I:Inv X pins σ H s) (h:CE X.stack X.prog X.w H s Q u s'):EP X pins σ Q u s':=by
 obtain⟨v,H',os,bare,un,hok,r,q⟩:=h
 obtain⟨hh,g,d,t,os'⟩:=s'
 obtain rfl:os'=s.os:=os
 exact⟨v,H',I.call (h':=hh) (g':=g) (d':=d) (t':=t) (ch:=[]) un hok bare (λb z=>absurd z (by simp)),r,q⟩
end
def qkK(sp:Sp)(dvs:List V)(E:XK)(t:TA):TE:=λσ H Q=>t σ H λvs H1=>sp (vs++dvs) H1 Q E
def vB (K:yah) (fd:yaO) (ps:List Str) (ds:List Value):Prop :=
 ∀(s:yaa)(us:List Value),K.In s.heap->(us++ds).length=ps.length->ydo s fd ⟨us,[]⟩ (ps.zip (us++ds))
theorem vB.all {K:yah} {fd:yaO} {ps:List Str} (h:∀us:List Value,us.length=ps.length->bindArgs fd ⟨us,[]⟩=pure (ps.zip us)):vB K fd ps []:=λs us _ hl=>by
 rw[ybq]at hl |-
 exact .of_eq (h us hl)
def qbS(CX:CXT)(X:Cx)(E:XK):Prop:=∀(pins:List (Addr×Obj))(σ:St)(H:Hp)(s:yaa)(e:Value)(s':yaa),Inv X pins σ H s->CX X.stack H s E e s'->X.xe e s'
section
variable{X:Cx}{CX:CXT}{k:Nat}{f C:Addr}{fd:yaO}{ps:List Str}{sp:Sp}{dvs:List V}{ds:List Value}{E:XK}{x m:Str}{p pos apos:Pos}{e o:Expr}{es:List Expr}{ta:TE}{t:TA}
theorem qiy {pins:List (Addr×Obj)} {σ:St} {H:Hp} {s:yaa} {Q:VK} {us:List Value} {vs:List V} (F:wD X.prog X.w X.K X.mg X.base CX k f fd ps sp) (hr:uE k X.A) (hb:vB X.K fd ps ds) (hd:qU dvs ds) (hx:qbS CX X E)
  (I:Inv X pins σ H s) (r:qU vs us) (h:sp (vs++dvs) H Q E):wpAny (model X.prog X.w) X.A (call (.ref f) us) (EP X pins σ Q) X.xe s:=by
 have r2:qU (vs++dvs) (us++ds):=r.append hd
 have hl:(us++ds).length=ps.length:=by rw[<-r2.length];exact F.len _ _ _ _ h
 refine wpAny_call (yeu (F.run X.A X.stack s H ⟨us,[]⟩ (us++ds) (vs++dvs) Q E hr I.env0 (hb s us I.kIn hl) r2 h) λr s' hq=>?_)
 cases r with
 |error e=>exact hx pins σ H s e s' I hq
 |ok fl=>
  cases fl with
  |ret u=>exact I.after hq
  |next=>exact ya6 hq
  |brk=>exact ya6 hq
  |cont=>exact ya6 hq
theorem qbj (F:wD X.prog X.w X.K X.mg X.base CX k f fd ps sp) (hr:uE k X.A) (hg:Gl X x) (hm:X.mg x=some (.ref f)) (hk:yai X.K (.ref f)=true) (hb:vB X.K fd ps ds) (hd:qU dvs ds) (hx:qbS CX X E)
  (ha:PA X (e::es) t) (hdb:(x==("__debug__":Str))=false:=by decide) (he:yag (e::es) X.env=(false,eval e X.env)::yag es X.env:=by rfl) (hpl:(yaE pos (yag es X.env)).any (·.1)=false:=by rfl) :
  PE X (.Call (.Name x p) (e::es) [] pos) (qkK sp dvs E t):=by
 intro pins s σ H Q I h
 refine ycU (qcZ I hg hm ?_ hdb)
 refine PySem.W.callWith_K (h₀:=X.base) I.ok.mod.kin hk (thn (ha pos pins s σ H _ I h) λus s1 ⟨vs,H1,I1,r,q⟩=>⟨I1.kIn,?_⟩) he hpl
 exact qiy F hr hb hd hx I1 r q
structure Mk (K:yah) (C f:Addr):Prop where
 makes:PySem.W.makesIn K C=true
 init:ybk K (.ref C) "__init__"=some (some (.ref f))
 fn:PySem.W.isFn K (.ref f)=true
 kp:yai K (.ref C)=true
end
section
variable{X:Cx}{CX:CXT}{k:Nat}{f C:Addr}{fd:yaO}{ps ks:List Str}{sp:Sp}{E:XK}{x m:Str}{p pos apos kpos:Pos}{e o:Expr}{es:List Expr}{kws:List ybr}{te ta:TE}{t tk:TA}{nm:Option Str}
variable{g:List Value->List Value->List Value}{gV:List V->List V->List V}
end
structure qp (N P:List Str) (sc:Scope):Prop where
 kind:sc.kind=.function
 co:sc.isCoroutine=false
 gen:sc.isGenerator=false
 nd:N.Nodup
 pre:N.take P.length=P
 par:∀x∈P,sc.names.lookup x=some .local\/sc.names.lookup x=some .cell
 nofree:∀y∈sc.names,y.2 ≠ .free
theorem qaz {ybS:Str->Option ycs} {x:Str}:∀{binds:List (Str×Value)}{m:Str->Option Value},(∀v,(x,v) ∉ binds)->bindL ybS binds m x=m x
 | [],_,_=>rfl
 | (n,v)::r,m,h=>by
  unfold bindL
  rw[qaz λw hw=>h w (mM _ hw)]
  split
  ·have:x≠n:=by rintro rfl;exact h v mS_
   simp[this]
  ·rfl
theorem qaA {ybS:Str->Option ycs} {x:Str}:∀{binds:List (Str×Value)}{m:Str->Option Value},(∀v,(x,v) ∉ binds)->bindC ybS binds m x=m x
 | [],_,_=>rfl
 | (n,v)::r,m,h=>by
  unfold bindC
  rw[qaA λw hw=>h w (mM _ hw)]
  split
  ·rfl
  ·have:x≠n:=by rintro rfl;exact h v mS_
   simp[this]
theorem qaB {ybS:Str->Option ycs} {x:Str} {v:Value}:∀{P:List Str}{vs:List Value}{i:Nat}{m:Str->Option Value},P.Nodup->P[i]? = some x->vs[i]? = some v->ybS x=some .local ->
  bindL ybS (P.zip vs) m x=some v
 | [],_,_,_,_,h,_,_=>by simp at h
 |_::_,[],_,_,_,_,h,_=>by simp at h
 |p::P,w::vs,0,m,nd,h1,h2,hk=>by
  simp at h1 h2;subst h1;subst h2
  show bindL ybS ((p,w)::P.zip vs) m p=_
  unfold bindL
  rw[qaz λv hv=>(List.nodup_cons.mp nd).1 (ydG hv).1,if_pos hk]
  simp
 |p::P,w::vs,i+1,m,nd,h1,h2,hk=>by
  show bindL ybS ((p,w)::P.zip vs) m x=_
  unfold bindL
  exact qaB (i:=i) (List.nodup_cons.mp nd).2 (by simpa using h1) (by simpa using h2) hk
theorem qaC {ybS:Str->Option ycs} {x:Str} {v:Value}:∀{P:List Str}{vs:List Value}{i:Nat}{m:Str->Option Value},P.Nodup->P[i]? = some x->vs[i]? = some v->ybS x≠some .local ->
  bindC ybS (P.zip vs) m x=some v
 | [],_,_,_,_,h,_,_=>by simp at h
 |_::_,[],_,_,_,_,h,_=>by simp at h
 |p::P,w::vs,0,m,nd,h1,h2,hk=>by
  simp at h1 h2;subst h1;subst h2
  show bindC ybS ((p,w)::P.zip vs) m p=_
  unfold bindC
  rw[qaA λv hv=>(List.nodup_cons.mp nd).1 (ydG hv).1,if_neg hk]
  simp
 |p::P,w::vs,i+1,m,nd,h1,h2,hk=>by
  show bindC ybS ((p,w)::P.zip vs) m x=_
  unfold bindC
  exact qaC (i:=i) (List.nodup_cons.mp nd).2 (by simpa using h1) (by simpa using h2) hk
def jy(N:List Str)(vs:List V):St:=vs.map some++yav (N.length-vs.length) none
def qfK (CX:CXT) (P:yaj) (w:World) (K:yah) (mg:Str->Option Value) (base:Heap) (N:List Str) (qual:Str) (scope:Scope) (f:Addr) (cd:Value) (A:yar) (outer:List Env) (s:yaa) (H:Hp) (E:XK):Cx where
 prog:=P
 w:=w
 K:=K
 mg:=mg
 base:=base
 A:=A.deeper (ycl qual scope s.heap.objs.size f cd)
 N:=N
 s₀:=s
 H₀:=H
 env:=ycl qual scope s.heap.objs.size f cd
 outer:=outer
 stack:=ycl qual scope s.heap.objs.size f cd::outer
 ex:=[]
 calm:=true
 fn:=λ_=>true
 pn:=[]
 xe:=λe s'=>wpAny (model P w) (A.deeper (ycl qual scope s.heap.objs.size f cd)) (leaving (ycl qual scope s.heap.objs.size f cd) e) (λ_ s''=>CX outer H s E e s'') (λe' s''=>CX outer H s E e' s'') s'
theorem qbT {sc:Scope} {n:Nat} {x:Str} (h:sc.names.lookup x=some .cell):∃c,(yev n sc.names []).lookup x=some c:=by
 have q:=ydO sc.names n [] (.inl h)
 exact Option.isSome_iff_exists.mp q
theorem qdb {CX:CXT} {P:yaj} {w:World} {K:yah} {mg:Str->Option Value} {base:Heap} {N ps:List Str} {qual:Str} {scope:Scope} {f:Addr} {cd:Value} {A:yar} {outer:List Env} {s s1:yaa} {H:Hp} {E:XK} {us:List Value} {vs:List V}
  (S:qp N ps scope) (hd:A.handled=none) (e0:qix P w K mg base A outer s H) (hl:vs.length=ps.length) (r:qU vs us)
  (x:InCallC s s.heap.objs.size (bindL (ycl qual scope s.heap.objs.size f cd).kindOf (ps.zip us) λ_=>none) (yev (s.heap.objs.size+1) scope.names []) (bindC (ycl qual scope s.heap.objs.size f cd).kindOf (ps.zip us) λ_=>none) s1) :
  Inv (qfK CX P w K mg base N qual scope f cd A outer s H E) [] (jy N vs) H s1:=by
 have hpl:ps.length<=N.length:=by have:=congrArg List.length S.pre;rw[List.length_take]at this;omega
 obtain⟨h1,tk,rfl,hk⟩:=x.done
 have noA:∀b:Addr,b ∉ (qfK CX P w K mg base N qual scope f cd A outer s H E).ex:=λb z=>absurd (show b∈([]:List Addr)from z) (by simp)
 refine ⟨⟨e0.mod,S.kind,rfl,rfl,yak _,λy z c h1 h2=>?_,λy hy=>?_,λy c _ h=>?_,λ_=>hd,Around.frames_deeper e0.frames,.inr ⟨rfl,rfl⟩,λb z=>absurd z (noA b),e0.bs,e0.bsz,λb _ _=>noA b,λb z=>absurd z (noA b),e0.funs,e0.frf⟩,
  rfl,e0.bare,Un.kept hk,⟨_,x.toInCall.ns,λi y v h1 h2 h3=>?_⟩,λy c h=>⟨_,x.cell y c h⟩,e0.hok.fresh (yak _),λy c h=>?_,λp hp=>absurd (show p∈([]:List (Addr×Obj))from hp) (by simp),e0.hok.kept hk,?_⟩
 ·exact name_of_addr x.apart (ybj h1) (ybj h2)
 ·have hy:scope.names.lookup y=some .cell\/scope.names.lookup y=some .free:=hy
  rcases hy with hy|hy
  ·exact qbT hy
  ·exact absurd rfl (S.nofree _ (ybj hy))
 ·exact ydr (x.above y c (ybj h))
 ·have hi:i<vs.length:=by
   unfold jy at h2
   by_cases hi:i<vs.length
   ·exact hi
   ·rw[List.getElem?_append_right (by simpa using hi)]at h2
    rw[List.getElem?_replicate]at h2
    split at h2<;>cases h2
  have ha:vs[i]? = some v:=by
   unfold jy at h2
   rw[List.getElem?_append_left (by simpa using hi),gM_]at h2
   cases e:vs[i]? with
   |none=>rw[e]at h2;cases h2
   |some a=>rw[e]at h2;cases h2;rfl
  obtain⟨u,hu,rv⟩:=r.get ha
  have hp:ps[i]? = some y:=by
   rw[<-S.pre,List.getElem?_take_of_lt (by omega)];exact h1
  have ndP:ps.Nodup:=by rw[<-S.pre];exact S.nd.sublist (List.take_sublist _ _)
  refine⟨u,rv,?_⟩
  rcases S.par y (ycA hp)with k|k
  ·exact .inl ⟨k,qaB ndP hp hu k⟩
  ·obtain⟨c,e⟩:=qbT (n:=s.heap.objs.size+1) k
   refine .inr ⟨.inl k,c,e,?_⟩
   have q:=x.cell y c e
   rw[qaC ndP hp hu (by show scope.names.lookup y≠_;rw[k];decide)]at q
   exact q
 ·exact e0.hok.fresh (ydr (x.above y c (ybj h)))
 ·unfold jy
  show _=N.length
  rw[lA_,lM_,yba]
  omega
theorem qkL {CX:CXT} {P:yaj} {w:World} {K:yah} {mg:Str->Option Value} {base:Heap} {k:Nat} {f:Addr} {name qual:Str} {params:yew} {body:List Stmt} {scope:Scope} {dV kV doc pm cdv ct oc:Value} {an od:Option Addr}
  {osl:Array (Option Value)} {N ps:List Str} {sp:Sp} (lk:K.lookup f=some ⟨oc,od,.func (yap name qual params body scope dV kV doc pm an cdv ct),osl⟩) (hcd:yan K cdv qual=true) (S:qp N ps scope)
  (len:∀vs H Q E,sp vs H Q E->vs.length=ps.length)
  (hbody:∀(A:yar)(outer:List Env)(s:yaa)(H:Hp)(vs:List V)(Q:VK)(E:XK),uE k (A.deeper (ycl qual scope s.heap.objs.size f cdv))->sp vs H Q E ->
   ∃t,PSs (qfK CX P w K mg base N qual scope f cdv A outer s H E) body t/\t {nx:=λ_ H'=>Q .non H',rt:=Q} (jy N vs) H) :
  wD P w K mg base CX (k+1) f (yap name qual params body scope dV kV doc pm an cdv ct) ps sp:=by
 refine⟨len,λA outer s H args us vs Q E hr e0 hb r hsp=>?_⟩
 have hl:=len _ _ _ _ hsp
 have KX:K.In s.heap:=e0.mod.kin.keeps λb o e=>(e0.bs b o e).1
 have lim:s.heap.NoLimit:=e0.mod.nolimit.keeps λb o e=>(e0.bs b o e).1
 have hkind:∀y∈ps.zip us,scope.names.lookup y.1=some .local\/(scope.names.lookup y.1=some .cell/\((yev (s.heap.objs.size+1) scope.names []).lookup y.1).isSome=true):=λ⟨n,v⟩ hy=>by
  rcases S.par n (ydG hy).1 with q|q
  ·exact .inl q
  ·exact .inr ⟨q,ydO _ _ _ (.inl q)⟩
 refine codeAny_call_function hr.depth (KX _ _ lk) rfl S.co S.gen rfl (PySem.W.codeRec_of KX hcd) (hb _ _ _ _ ?_)
 refine wpAny_newFunctionEnv_cells S.kind hkind λenv he s1 x=>?_
 subst he
 refine⟨lim.keeps x.toInCall.keep,codeAny_func ?_⟩
 obtain⟨t,ht,hq⟩:=hbody A outer s H vs Q E (hr.deeper _) hsp
 have I:Inv (qfK CX P w K mg base N qual scope f cdv A outer s H E) [] (jy N vs) H s1:=qdb S hr.hd e0 hl r x
 refine ybd (ht [] s1 (jy N vs) H _ I hq) (λfl s' hs=>?_) λe s' hs=>hs
 have fin:∀{σ':St}{H':Hp}{v:V}{u:Value},Inv (qfK CX P w K mg base N qual scope f cdv A outer s H E) [] σ' H' s'->jm v u->Q v H'->CE outer P w H s Q u s' :=
  λ{σ' H' v u} J rv q=>⟨v,H',J.os,J.bare,J.base,J.hok,rv,q⟩
 cases fl with
 |ret u=>
  obtain⟨v,σ',H',J,rv,q⟩:=hs
  exact fin J rv q
 |next=>
  obtain⟨σ',H',J,q⟩:=hs
  exact fin (v:=V.non) (u:=yaD) J rfl q
 |brk=>
  obtain⟨_,_,_,q⟩:=hs
  exact ya6 q
 |cont=>
  obtain⟨_,_,_,q⟩:=hs
  exact ya6 q
end L2
namespace L2
open PySem PySem.Spec PyProof.Rows
section
variable{X:Cx}{x:Str}{p pos:Pos}{e:Expr}{es:List Expr}{t:TA}{id T:String}{r:List V->Hp->VK->Prop}
def tCB(r:List V->Hp->VK->Prop)(t:TA):TE:=λσ H Q=>t σ H λvs H1=>r vs H1 Q
theorem wU (hc:jV X (.builtin id) r) (hg:Gl X x) (hm:X.mg x=none) (hv:yaA x=some (.builtin id)) (ha:PA X (e::es) t) (hn:x≠"__name__":=by decide) (hdb:(x==("__debug__":Str))=false:=by decide)
  (he:yag (e::es) X.env=(false,eval e X.env)::yag es X.env:=by rfl) (hpl:(yaE pos (yag es X.env)).any (·.1)=false:=by rfl):PE X (.Call (.Name x p) (e::es) [] pos) (tCB r t):=by
 intro pins s σ H Q I h
 refine ycU (vb I hg hm hv ?_ hn hdb)
 exact PyProof.Rows.callWith_builtin1 (thn (ha pos pins s σ H _ I h) λus s1 ⟨vs,H1,I1,r1,q1⟩=>hc pins s1 σ H1 vs us Q I1 r1 q1) he hpl
theorem qaD (hc:jV X (.type T) r) (hg:Gl X x) (hm:X.mg x=none) (hv:yaA x=some (.type T)) (ha:PA X (e::es) t) (hn:x≠"__name__":=by decide) (hdb:(x==("__debug__":Str))=false:=by decide)
  (he:yag (e::es) X.env=(false,eval e X.env)::yag es X.env:=by rfl) (hpl:(yaE pos (yag es X.env)).any (·.1)=false:=by rfl):PE X (.Call (.Name x p) (e::es) [] pos) (tCB r t):=by
 intro pins s σ H Q I h
 refine ycU (vb I hg hm hv ?_ hn hdb)
 exact yaS (thn (ha pos pins s σ H _ I h) λus s1 ⟨vs,H1,I1,r1,q1⟩=>hc pins s1 σ H1 vs us Q I1 r1 q1) he hpl
end
end L2
namespace HT
open PySem PyProof.Rows
def lexLt:List Int->List Int->Bool
 | [],[]=>false
 | [],_::_=>true
 |_::_,[]=>false
 |x::xs,y::ys=>if x=y then lexLt xs ys else decide (x<y)
theorem lexLt_cons(x y:Int)(xs ys:List Int):lexLt (x::xs) (y::ys)=if x=y then lexLt xs ys else decide (x<y):=rfl
theorem wV:lexLt [] []=false:=rfl
theorem wv(y:Int)(ys:List Int):lexLt [] (y::ys)=true:=rfl
theorem ww(x:Int)(xs:List Int):lexLt (x::xs) []=false:=rfl
theorem qeA (A:yar) (s:yaa) (a:Int) (t:Tok) (c:Int) (u:Tok):∃e,SeqAt.EqAt A s (.int a t) (.int c u) e/\(e=true ↔ a=c) :=
 ⟨(a==c),SeqAt.EqAt.int_int a t c u,by simp⟩
theorem qeB (A:yar) (s:yaa) (a:Int) (t:Tok) (c:Int) (u:Tok) (prog:yaj) (w:World) (E:Value->yaa->Prop) (Q:Value->yaa->Prop) (h:Q (.bool (decide (a<c))) s) :
  wpAny (model prog w) A (richCompare .Lt (.int a t) (.int c u)) Q E s :=
 (PyProof.Rows.lt_int h:wpAny (model prog w) A (yaJ .Lt (.int a t) (.int c u)) Q E s)
section
open PySem.SeqAt
open PySem.AutoSeq1 (wpAny_loadPart')
open PySem.MeetsSeq PySem.MeetsSeq2 PySem.MeetsSeq3
theorem wW (l b:Addr) (items items2:Array Value) (n n2:Nat) (dd dd2:Option Addr) (sl sl2:Array (Option Value)) (ns ms:List Int) (hi:ybs items.toList ns) (hj:ybs items2.toList ms) :
  Meets (ybH.«tuple.__lt__» ⟨[.ref l,.ref b],[]⟩)
   (λ_ R s=>s.heap.get? l=some {cls:=.type "tuple",dict:=dd,data:=.seq items n,slots:=sl}/\s.heap.get? b=some {cls:=.type "tuple",dict:=dd2,data:=.seq items2 n2,slots:=sl2} /\
    R (.ok (.ret (.bool (lexLt ns ms)))) s) :=
 .of_wp λprog w A R s h=>by
  obtain⟨hp,g,d,tk,os⟩:=s;obtain⟨hl,hb,h⟩:=h
  have f2:=yds
  have z1:items.size=ns.length:=by rw[<-hi.length];simp
  have z2:items2.size=ms.length:=by rw[<-hj.length];simp
  wp_walk using ybN hl,ybN hb,wpAny_forIn_list _ (λvn b s'=>b.1=none/\s'=⟨hp,g,d,tk,os⟩/\∃(vs ws:List Value)(ns' ms':List Int),vn=vs.zip ws /\
   ybs vs ns'/\ybs ws ms'/\ns'.length+items2.size=ms'.length+items.size/\R (.ok (.ret (.bool (lexLt ns' ms')))) ⟨hp,g,d,tk,os⟩) _
  case turn=>
   rintro⟨y,x⟩ vn b s' ⟨hb',rfl,vs,ws,ns',ms',hz,hvi,hwi,hlen,hR⟩
   cases hvi with
   |nil=>rw[List.zip_nil_left]at hz;cases hz
   | cons a t hvi'=>
    cases hwi with
    |nil=>rw[List.zip_nil_right]at hz;cases hz
    | cons c u hwi'=>
     rw[yex]at hz
     injection hz with hyx hrest
     injection hyx with hy hx
     subst hy hx
     rw[lexLt_cons]at hR
     simp only[lC_]at hlen
     obtain⟨e,he,hiff⟩:=qeA A.in1 ⟨hp,g,d,tk,os⟩ a t c u
     refine yab (he prog w _ _ ?_)
     cases e with
     |true=>
      rw[if_pos (hiff.mp rfl)]at hR
      wp_walk
      exact⟨rfl,rfl,_,_,_,_,hrest,hvi',hwi',by omega,hR⟩
     |false=>
      rw[if_neg (λq=>absurd (hiff.mpr q) yas)]at hR
      have hri:=qeB A.in1 ⟨hp,g,d,tk,os⟩ a t c u prog w
      wp_walk using hri
      exact⟨_,rfl,by simpa using hR⟩
  case fin=>
   rintro⟨b1,b2⟩ s' ⟨hb',rfl,vs,ws,ns',ms',hz,hvi,hwi,hlen,hR⟩
   simp only at hb'
   subst hb'
   have hv:lexLt ns' ms'=decide (items.size<items2.size):=by
    cases hvi with
    | nil=>
     cases hwi with
     |nil=>
      simp only[lN_]at hlen
      rw[wV]
      exact(decide_eq_false (by omega)).symm
     |cons c u hw=>
      simp only[lN_,lC_]at hlen
      rw[wv]
      exact(decide_eq_true (by omega)).symm
    | cons a t hv=>
     cases hwi with
     |nil=>
      simp only[lN_,lC_]at hlen
      rw[ww]
      exact(decide_eq_false (by omega)).symm
     |cons c u hw=>
      rw[yex]at hz
      cases hz
   rw[hv]at hR
   wp_walk
   exact⟨_,rfl,by simpa [Builtin.Tuple.tupleCompareSizes] using hR⟩
  case h=>
   exact⟨rfl,rfl,items.toList,items2.toList,ns,ms,rfl,hi,hj,by omega,h⟩
end
section
variable{prog:yaj}{w:World}{A:yar}{E:Value->yaa->Prop}{s:yaa}
theorem lt_tupInts {l b:Addr} {items items2:Array Value} {ns ms:List Int} {Q:Value->yaa->Prop} (hl:IsTup s.heap l items) (hb:IsTup s.heap b items2) (hi:ybs items.toList ns) (hj:ybs items2.toList ms)
  (hu:A.units<cLine) (h:Q (.bool (lexLt ns ms)) s):wpAny (model prog w) A (yaJ .Lt (.ref l) (.ref b)) Q E s:=by
 obtain⟨⟨cls,dd,data,sl⟩,ho,hc,n,hd⟩:=id hl
 obtain⟨⟨cls2,dd2,data2,sl2⟩,ho2,hc2,n2,hd2⟩:=id hb
 simp only at hc hd hc2 hd2
 subst hc hd hc2 hd2
 exact richCompare_meets_room (op := .Lt) ⟨_,ho,rfl⟩ ⟨_,ho2,rfl⟩ PySem.F.slot_tuple_lt PySem.F.entry_tuple_lt (PySem.F.args_tuple_lt_2 _ _) (wW l b items items2 n n2 dd dd2 sl sl2 ns ms hi hj)
  ⟨ho,ho2,show yaX (lexLt ns ms)≠Value.notImplemented/\Q (.bool (lexLt ns ms)) s from⟨(λx=>nomatch x),h⟩⟩ hu
theorem cat_tup {t b:Addr} {vs ws:List Value} {Q:Value->yaa->Prop} (ht:IsTup s.heap t vs.toArray) (hb:IsTup s.heap b ws.toArray) (hv:vs≠[])
  (h1:ws=[]->Q (.ref t) s) (h2:ws≠[]->Q (.ref s.heap.objs.size) {s with heap:=s.heap.push {cls:=.type "tuple",data:=.seq (vs++ws).toArray} })
  (hsz:vs.length+ws.length<=yaq):wpAny (model prog w) A (ya9 .Add (.ref t) (.ref b)) Q E s:=by
 obtain⟨⟨cls,dd,data,sl⟩,ho,hc,n,hd⟩:=id ht
 obtain⟨⟨cls2,dd2,data2,sl2⟩,ho2,hc2,n2,hd2⟩:=id hb
 simp only at hc hd hc2 hd2
 subst hc hd hc2 hd2
 have e:vs.toArray++ws.toArray=(vs++ws).toArray:=by simp
 by_cases hw:ws=[]
 ·exact yey ⟨_,ho,rfl⟩ ⟨_,ho2,rfl⟩ ydt yek ycm ycg (yb9 _ _)
   (tuple_addW1 t b vs.toArray ws.toArray n n2 dd dd2 sl sl2 (by simpa using hv) (by simp[hw])) ⟨ho,ho2,h1 hw⟩
 ·refine yey ⟨_,ho,rfl⟩ ⟨_,ho2,rfl⟩ ydt yek ycm ycg (yb9 _ _)
   (tuple_addW2 t b vs.toArray ws.toArray n n2 dd dd2 sl sl2 (by simpa using hv) (by simpa using hw) (by rw[sT_,sT_];exact hsz)) ⟨ho,ho2,?_⟩
  rw[e]
  exact h2 hw
def sIx (n d:Nat):Option Int->Nat
 |none=>d
 |some v=>if v<0 then(v+(n:Int)).toNat else min v.toNat n
end
end HT
namespace L2
open PySem PySem.Spec PyProof.Rows
abbrev TO:=St->Hp->(Option Int->Hp->Prop)->Prop
theorem qcr {ns:List Int}:∀{us:List Value},qU (ns.map V.int) us->ybs us ns:=by
 induction ns with
 |nil=>intro us r;rw[yca]at r;cases r;exact .nil
 | cons n ns ih=>
  intro us r
  rw[mC_]at r
  cases r with
  |cons r1 r2=>
   obtain⟨t,e⟩:=r1
   subst e
   exact .cons n t (ih r2)
section
variable{X:Cx}{e:Expr}{te:TE}{lo hi:Option Expr}{tl th:TO}{pos p2:Pos}
def SlR (X:Cx) (r:V->Option Int->Option Int->Hp->VK->Prop):Prop :=
 ∀ (pins:List (Addr×Obj)) (s:yaa) (σ:St) (H:Hp) (x:V) (v vl vu:Value) (lo hi:Option Int) (sl:Addr) (Q:VK),Inv X pins σ H s->jm x v->s.heap.IsSliceOf sl vl vu .none->IsPart vl lo->IsPart vu hi->r x lo hi H Q ->
  ∃T id,ydk (.type T) "__getitem__"=pure (some (.builtin id))/\s.TypeIs v T/\wpAny (model X.prog X.w) X.A (getItem v (.ref sl)) (EP X pins σ Q) X.xe s
theorem SlR.or {r r':V->Option Int->Option Int->Hp->VK->Prop} (h:SlR X r) (h':SlR X r'):SlR X (λx lo hi H Q=>r x lo hi H Q\/r' x lo hi H Q):=by
 intro pins s σ H x v vl vu lo hi sl Q I rx hs pl pu q
 rcases q with q|q
 ·exact h pins s σ H x v vl vu lo hi sl Q I rx hs pl pu q
 ·exact h' pins s σ H x v vl vu lo hi sl Q I rx hs pl pu q
def qkb(xs:List V)(lo hi:Option Int):List V:=(xs.drop (HT.sIx xs.length 0 lo)).take (HT.sIx xs.length xs.length hi-HT.sIx xs.length 0 lo)
theorem qbk (xs:List V) (lo hi:Option Int):(qkb xs lo hi).length<=xs.length:=by
 unfold qkb
 rw[List.length_take,List.length_drop]
 omega
def qiz (K:yah):R2:=λx y H Q=>∃a b xs ys,x=.ref a/\y=.ref b/\SqT K H a xs/\SqT K H b ys/\xs≠[]/\xs.length+ys.length<=yaq /\
 (ys=[]->Q (.ref a) H)/\(ys≠[]->∀p,H p=none->Q (.ref p) (upd H p (.tup (xs++ys))))
theorem qU.nil_iff {xs:List V} {us:List Value} (r:qU xs us):us=[] ↔ xs=[]:=by
 cases r with
 |nil=>simp
 |cons _ _=>simp
theorem qgB:OpR X (ya9 .Add) (qiz X.K):=by
 intro pins s σ H x y v u Q I rx ry h
 obtain⟨a,b,xs,ys,rfl,rfl,ha,hb,hx,hz,q1,q2⟩:=h
 cases rx
 cases ry
 obtain⟨its,r1,p1,_⟩:=I.tuple ha
 obtain⟨its2,r2,p2,_⟩:=I.tuple hb
 refine HT.cat_tup p1 p2 (λz=>hx (r1.nil_iff.mp z)) (λz=>⟨.ref a,H,I,rfl,q1 (r2.nil_iff.mp z)⟩) (λz=>?_) (by rw[<-r1.length,<-r2.length];exact hz)
 refine⟨.ref s.heap.objs.size,_,I.laid (t':=s.toks) (o:=.tup (xs++ys)) (λb ob q=>Heap.get?_push_of_some _ q) (yak _) ?_,rfl,q2 (λw=>z (r2.nil_iff.mpr w)) _ (I.hok.fresh (yak _))⟩
 exact⟨by rw[lA_];exact hz,_,r1.append r2,yer _ _⟩
end
end L2
namespace L2
open PySem PySem.Spec PyProof.Rows
def ixN(n:Nat)(i:Int):Option Nat:=if 0<=i then(if i<n then some i.toNat else none)else if -(n:Int)<=i then some (i+n).toNat else none
def atI{α:Type}(xs:List α)(i:Int):Option α:=(ixN xs.length i).bind λj=>xs[j]?
theorem qdc {n:Nat} {i:Int} {j:Nat} (h:ixN n i=some j):seqIndex? i n=some j/\j<n /\ -(n:Int)<=i/\i<n:=by
 unfold ixN at h
 by_cases h0:0<=i
 ·rw [if_pos h0]at h
  by_cases h1:i<n
  ·rw[if_pos h1]at h
   have e:i.toNat=j:=yax h
   exact⟨by rw[yeT h0 h1,e],by omega,by omega,h1⟩
  ·rw[if_neg h1]at h;cases h
 ·rw [if_neg h0]at h
  by_cases h1 : -(n:Int)<=i
  ·rw[if_pos h1]at h
   have e:(i+n).toNat=j:=yax h
   exact⟨by rw[yez (by omega) h1,e],by omega,h1,by omega⟩
  ·rw[if_neg h1]at h;cases h
theorem qbl {α:Type} {xs:List α} {i:Int} {v:α} (h:atI xs i=some v):∃j,seqIndex? i xs.length=some j/\xs[j]? = some v/\j<xs.length /\ -(xs.length:Int)<=i/\i<xs.length:=by
 unfold atI at h
 cases e:ixN xs.length i with
 |none=>rw[e]at h;cases h
 |some j=>
  rw[e]at h
  obtain⟨h1,h2,h3,h4⟩:=qdc e
  exact⟨j,h1,h,h2,h3,h4⟩
def qbm(b:Expr):Prop:=∀o i,subscripted b false o i=operate [o,i] (getItem o i)
def IxR (X:Cx) (r:R2):Prop :=
 ∀ (value slice:Expr) (pins:List (Addr×Obj)) (s:yaa) (σ:St) (H:Hp) (x y:V) (v u:Value) (Q:VK),Inv X pins σ H s->jm x v->jm y u->r x y H Q ->
  subscripted slice false v u=operate [v,u] (getItem v u)->wpAny (model X.prog X.w) X.A (subscriptTail value slice v u) (EP X pins σ Q) X.xe s
def MtR (X:Cx) (id:String) (r:V->List V->Hp->VK->Prop):Prop :=
 ∀ (pins:List (Addr×Obj)) (s:yaa) (σ:St) (H:Hp) (x:V) (xs:List V) (v:Value) (us:List Value) (Q:VK),Inv X pins σ H s->jm x v->qU xs us->r x xs H Q ->
  wpAny (model X.prog X.w) X.A (call (.builtin id) (v::us)) (EP X pins σ Q) X.xe s
section
variable{X:Cx}{a b:Expr}{ta tb:TE}{pos:Pos}
theorem IxR.or {r r':R2} (h:IxR X r) (h':IxR X r'):IxR X (λx y H Q=>r x y H Q\/r' x y H Q):=by
 intro value slice pins s σ H x y v u Q I rx ry q hs
 rcases q with q|q
 ·exact h value slice pins s σ H x y v u Q I rx ry q hs
 ·exact h' value slice pins s σ H x y v u Q I rx ry q hs
theorem MtR.or {id:String} {r r':V->List V->Hp->VK->Prop} (h:MtR X id r) (h':MtR X id r'):MtR X id (λx xs H Q=>r x xs H Q\/r' x xs H Q):=by
 intro pins s σ H x xs v us Q I rx rs q
 rcases q with q|q
 ·exact h pins s σ H x xs v us Q I rx rs q
 ·exact h' pins s σ H x xs v us Q I rx rs q
theorem qiA {r:R2} (hr:IxR X r) (ha:PE X a ta) (hb:PE X b tb) (hs:qbm b):PE X (.Subscript a b pos) (tOp r ta tb):=by
 intro pins s σ H Q I h
 exact Subscript_ (qkB ha hb I h λv u s2 x y H2 I2 rx ry q=>hr a b pins s2 σ H2 x y v u Q I2 rx ry q (hs _ _))
def qiB(K:yah):R2:=λx y H Q=>∃p xs i v,x=.ref p/\y=.int i/\SqL K H p xs/\atI xs i=some v/\Q v H
def qiC(K:yah):R2:=λx y H Q=>∃p xs i v,x=.ref p/\y=.int i/\SqT K H p xs/\atI xs i=some v/\Q v H
def qkc:R2:=λx y H Q=>∃z i c,x=.str z/\y=.int i/\z.length<=yaq/\atI z.cps.toList i=some c/\Q (.str ⟨#[c]⟩) H
theorem qdd:IxR X (qiB X.K):=by
 intro value slice pins s σ H x y v u Q I rx ry h hs
 obtain⟨p,xs,i,z,rfl,rfl,hq,he,q⟩:=h
 cases rx
 obtain⟨t,rfl⟩:=ry
 obtain⟨its,r,pl,hz⟩:=I.list hq
 obtain⟨j,h1,h2,h3,h4,h5⟩:=qbl he
 obtain⟨w,ew,rw'⟩:=r.get h2
 have hl:=r.length
 have hn:=wA
 have fin:EP X pins σ Q w s:=⟨z,H,I,rw',q⟩
 by_cases h0:0<=i
 ·have hj:i.toNat=j:=by
   rw[yeT h0 h5]at h1
   exact yax h1
  exact item_listR pl.isList h0 (by omega) (by rw[hj];simpa using ew) fin hs
 ·have hj:(i+(its.toArray.size:Int)).toNat=j:=by
   rw[yez (by omega) h4]at h1
   rw[sT_,<-hl]
   exact yax h1
  exact ydP (x:=w) pl.isList.typeIs slot_list_getitem.lookup
   (wpAny_getItem_list_neg (Q:=λr s'=>r=w/\EP X pins σ Q r s') pl.isList (by omega) (by rw[sT_]<;>omega) (by omega) (by rw[hj];simpa using ew) ⟨rfl,fin⟩) hs
theorem qiD:IxR X (qiC X.K):=by
 intro value slice pins s σ H x y v u Q I rx ry h hs
 obtain⟨p,xs,i,z,rfl,rfl,hq,he,q⟩:=h
 cases rx
 obtain⟨t,rfl⟩:=ry
 obtain⟨its,r,pl,hz⟩:=I.tuple hq
 obtain⟨j,h1,h2,h3,h4,h5⟩:=qbl he
 obtain⟨w,ew,rw'⟩:=r.get h2
 have hl:=r.length
 have hn:=wA
 have fin:EP X pins σ Q w s:=⟨z,H,I,rw',q⟩
 exact ydP (x:=w) pl.typeIs slot_tuple_getitem.lookup
  (getItem_tuple (j:=j) (Q:=λr s'=>r=w/\EP X pins σ Q r s') pl (by omega) (by omega) (by rw[sT_,<-hl];exact h1) (by simpa using ew) ⟨rfl,fin⟩) hs
theorem qiE:IxR X qkc:=by
 intro value slice pins s σ H x y v u Q I rx ry h hs
 obtain⟨z,i,c,rfl,rfl,hz,he,q⟩:=h
 obtain⟨t,rfl⟩:=rx
 obtain⟨t',rfl⟩:=ry
 obtain⟨j,h1,h2,h3,h4,h5⟩:=qbl he
 have hl:z.cps.toList.length=z.length:=by simp[Str.length]
 rw[hl]at h1 h4 h5
 have hn:=wA
 exact tail_any (ybV s z t) slot_str_getitem.lookup (getItem_str (c:=c) (by
  have e1:decide (i < -(2 ^ 63:Int))=false:=decide_eq_false (by omega)
  have e2:decide (i >= 2 ^ 63)=false:=decide_eq_false (by omega)
  rw[e1,e2,Bool.or_false]) (by rw[h1];simpa using h2) ⟨.str ⟨#[c]⟩,H,I.tok _,⟨_,rfl⟩,q⟩) hs
theorem qcs (its:List Value) (n j:Nat) (u:Value):yaC (·.setIfInBounds j u) {cls:=.type "list",data:=.seq its.toArray n}={cls:=.type "list",data:=.seq (its.set j u).toArray n}:=by
 simp[yaC]
theorem Inv.lst {pins:List (Addr×Obj)} {σ:St} {H:Hp} {s:yaa} {p:Addr} {xs:List V} (I:Inv X pins σ H s) (h:H p=some (.lst xs)) :
  ∃(its:List Value)(n:Nat),qU xs its/\s.heap.get? p=some {cls:=.type "list",data:=.seq its.toArray n}/\xs.length<=yaq:=by
 obtain⟨z,its,n,r,e⟩:=I.hok p _ h
 exact⟨its,n,r,e,z⟩
theorem Inv.lstUpd {pins:List (Addr×Obj)} {σ:St} {H:Hp} {s:yaa} {p:Addr} {xs ys:List V} {its its':List Value} {n n':Nat} {f:Obj->Obj} (I:Inv X pins σ H s) (h:H p=some (.lst xs))
  (ho:s.heap.get? p=some {cls:=.type "list",data:=.seq its.toArray n}) (hf:f {cls:=.type "list",data:=.seq its.toArray n}={cls:=.type "list",data:=.seq its'.toArray n' }) (r:qU ys its') (hz:ys.length<=yaq) (t:Nat) :
  Inv X pins σ (upd H p (.lst ys)) {s with heap:=s.heap.update p f,toks:=t}:=by
 have e:(s.heap.update p f).get? p=some {cls:=.type "list",data:=.seq its'.toArray n' }:=by
  rw[Heap.get?_update_self f ho (by rw[hf]<;>rfl),hf]
 refine I.write (x:=p) (e:=p) (by rw[h];trivial) (.inl rfl) (λb u hb q=>(Heap.get?_update_other _ _ (ybz hb)).trans q) ⟨_,e⟩ ?_
 exact⟨hz,its',n',r,e⟩
def qkM:V->V->V->Hp->(Hp->Prop)->Prop:=λo i v H Q=>∃p xs k j,o=.ref p/\i=.int k/\H p=some (.lst xs)/\ixN xs.length k=some j/\Q (upd H p (.lst (xs.set j v)))
theorem qeC:qlp X qkM:=by
 intro pins s σ H o i v ov iv u Q I ro ri rv h
 obtain⟨p,xs,k,j,rfl,rfl,hp,hj,q⟩:=h
 cases ro
 obtain⟨t,rfl⟩:=ri
 obtain⟨its,n,r,ho,hz⟩:=I.lst hp
 obtain⟨h1,h2,h3,h4⟩:=qdc hj
 have hl:=r.length
 have hn:=wA
 have I':Inv X pins σ (upd H p (.lst (xs.set j v))) {s with heap:=s.heap.update p (yaC (·.setIfInBounds j u))} :=
  I.lstUpd hp ho (qcs its n j u) (r.set rv j) (by rw[lS_];exact hz) s.toks
 by_cases h0:0<=k
 ·have hk:k.toNat=j:=by
   rw[yeT h0 h4]at h1
   exact yax h1
  exact PySem.W.ki_setAt ho h0 (by omega) (by rw[sT_,<-hl];exact h4) (by rw[hk];exact⟨_,I',q⟩)
 ·have hk:(k+(its.toArray.size:Int)).toNat=j:=by
   rw[yez (by omega) h3]at h1
   rw[sT_,<-hl]
   exact yax h1
  exact PySem.W.ki_setBack ho (by omega) (by rw[sT_,<-hl];exact h3) (by omega) (by rw[hk];exact⟨_,I',q⟩)
theorem qaE (lo hi:Option Int) (n:Nat):(yb2 lo hi none n).1=((HT.sIx n 0 lo:Nat):Int)/\(yb2 lo hi none n).2.1=((HT.sIx n n hi:Nat):Int)/\(yb2 lo hi none n).2.2=1:=by
 refine⟨?_,?_,rfl⟩
 ·cases lo with
  |none=>simp[yb2,HT.sIx]
  |some i=>
   simp only[yb2,HT.sIx,Option.getD_none,show(1:Int)>0 by decide,if_true]
   by_cases h:i<0
   ·simp only[h,if_true]<;>omega
   ·simp only[h,if_false]<;>omega
 ·cases hi with
  |none=>simp[yb2,HT.sIx]
  |some i=>
   simp only[yb2,HT.sIx,Option.getD_none,show(1:Int)>0 by decide,if_true]
   by_cases h:i<0
   ·simp only[h,if_true]<;>omega
   ·simp only[h,if_false]<;>omega
theorem wX (its:List Value) (lo hi:Option Int):slicePick its.toArray lo hi none=((its.drop (HT.sIx its.length 0 lo)).take (HT.sIx its.length its.length hi-HT.sIx its.length 0 lo)).toArray:=by
 obtain⟨h1,h2,h3⟩:=qaE lo hi its.toArray.size
 unfold slicePick
 rw[h1,h2,h3]
 simp only[sliceRange_one,pick_run,sT_]<;>rfl
def qmg(K:yah):V->Option Int->Option Int->Hp->VK->Prop:=λx lo hi H Q=>∃a xs,x=.ref a/\SqL K H a xs/\∀p,H p=none->Q (.ref p) (upd H p (.lst (qkb xs lo hi)))
theorem qkN:SlR X (qmg X.K):=by
 intro pins s σ H x v vl vu lo hi sl Q I rx hs pl pu h
 obtain⟨a,xs,rfl,hx,q⟩:=h
 cases rx
 obtain⟨its,r,ht,hz⟩:=I.list hx
 have hlen:=r.length
 refine⟨"list",_,slot_list_getitem.lookup,ht.isList.typeIs,?_⟩
 refine wpAny_getItem_list_slice ht.isList hs pl pu .none (by simp) ?_ (by rw[sT_]<;>omega)
 rw[wX,<-hlen]
 refine⟨.ref s.heap.objs.size,_,I.laid (t':=s.toks) (o:=.lst (qkb xs lo hi)) (λb ob q=>Heap.get?_push_of_some _ q) (yak _) ?_,rfl,q _ (I.hok.fresh (yak _))⟩
 exact⟨ya4 (qbk xs lo hi) hz,_,0,(r.drop (HT.sIx xs.length 0 lo)).take (HT.sIx xs.length xs.length hi-HT.sIx xs.length 0 lo),Heap.get?_push_size _ rfl⟩
def qmh:V->Bool
 |.non=>true
 |.bl _=>true
 |.int _=>true
 |.str _=>true
 |_=>false
def eqV:V->V->Bool
 |.non,.non=>true
 |.bl a,.bl b=>a==b
 |.bl a,.int b=>(if a then 1 else 0)==b
 |.int a,.bl b=>a==(if b then 1 else 0)
 |.int a,.int b=>a==b
 |.str a,.str b=>a==b
 |_,_=>false
theorem qaF:jV X (.builtin "len") (λxs H Q=>∃p ys,xs=[.ref p]/\(SqL X.K H p ys\/SqT X.K H p ys)/\Q (.int ys.length) H):=by
 intro pins s σ H xs us Q I r h
 obtain⟨p,ys,rfl,hq,q⟩:=h
 obtain⟨u,rfl,rx⟩:=qcq r
 cases rx
 have hn:=wA
 rcases hq with hq|hq
 ·obtain⟨its,r',pl,hz⟩:=I.list hq
  have hlen:=r'.length
  exact Calls.call_len_list pl.isList (by simp only[sT_]<;>omega) ⟨.int ys.length,H,I.tok _,⟨s.toks+1,by rw[sT_,hlen]⟩,q⟩
 ·obtain⟨its,r',pl,hz⟩:=I.tuple hq
  have hlen:=r'.length
  exact len_tuple pl (by simp only[sT_]<;>omega) ⟨.int ys.length,H,I.tok _,⟨s.toks+1,by rw[sT_,hlen]⟩,q⟩
theorem qaG:jV X (.builtin "len") (λxs H Q=>∃z,xs=[.str z]/\z.length<=yaq/\Q (.int z.length) H):=by
 intro pins s σ H xs us Q I r h
 obtain⟨z,rfl,hz,q⟩:=h
 obtain⟨u,rfl,t,rfl⟩:=qcq r
 have hn:=wA
 exact len_str (by omega) ⟨.int z.length,H,I.tok _,⟨_,rfl⟩,q⟩
theorem jV.or {f:Value} {r r':List V->Hp->VK->Prop} (h:jV X f r) (h':jV X f r'):jV X f (λxs H Q=>r xs H Q\/r' xs H Q):=by
 intro pins s σ H xs us Q I rs q
 rcases q with q|q
 ·exact h pins s σ H xs us Q I rs q
 ·exact h' pins s σ H xs us Q I rs q
theorem zE:jV X (.type "tuple") (λxs H Q=>∃p ys,xs=[.ref p]/\((SqL X.K H p ys/\∀l,H l=none->Q (.ref l) (upd H l (.tup ys)))\/(SqT X.K H p ys/\Q (.ref p) H))):=by
 intro pins s σ H xs us Q I r h
 obtain⟨p,ys,rfl,h⟩:=h
 obtain⟨u,rfl,rx⟩:=qcq r
 cases rx
 rcases h with⟨hq,q⟩|⟨hq,q⟩
 ·obtain ⟨its,r',pl,hz⟩:=I.list hq
  have hlen:=r'.length
  refine call_tuple_list pl.isList (λh' kp=>?_) (by simp only[sT_]<;>omega)
  have I1:Inv X pins σ H {s with heap:=h' }:=I.kept (t':=s.toks) kp
  have I2:Inv X pins σ (upd H h'.objs.size (.tup ys)) {s with heap:=h'.push {cls:=.type "tuple",data:=.seq its.toArray} } :=
   I1.laid (t':=s.toks) (λb o e=>Heap.get?_push_of_some _ e) (yak _) (show ym X.prog X.w _ _ _ (.tup ys) from⟨hz,its,r',yer _ _⟩)
  exact⟨.ref h'.objs.size,_,I2,rfl,q _ (I1.hok.fresh (yak _))⟩
 ·obtain⟨its,r',pl,hz⟩:=I.tuple hq
  exact call_tuple_same pl ⟨.ref p,H,I,rfl,q⟩
def tyV (K:yah) (T:String) (x:V) (H:Hp):Prop:=match x with
 |.str _=>T="str"
 |.int _=>T="int"
 | .ref p=>(T="list"/\∃xs,SqL K H p xs)\/(T="tuple"/\∃o,K.lookup p=some o/\o.cls=.type "tuple"/\o.dict=none) \/
   (T="dict"/\((∃kvs,H p=some (.dK kvs))\/∃kvs,H p=some (.dT kvs)))\/(T="set"/\∃S n,H p=some (.set S n))
 |_=>False
theorem qiF {pins:List (Addr×Obj)} {σ:St} {H:Hp} {s:yaa} {T:String} {x:V} {v:Value} (I:Inv X pins σ H s) (r:jm x v) (ty:tyV X.K T x H) :
  s.TypeIs v T/\∀a,v=.ref a->∃ob,s.heap.get? a=some ob/\ob.dict=none:=by
 cases x with
 |str z=>
  obtain⟨t,rfl⟩:=r
  cases (show T="str" from ty)
  exact⟨ybV s z t,λ_ e=>nomatch e⟩
 |int i=>
  obtain⟨t,rfl⟩:=r
  cases (show T="int" from ty)
  exact⟨ydl s i t,λ_ e=>nomatch e⟩
 | ref p=>
  cases r
  rcases ty with⟨rfl,xs,hq⟩|⟨rfl,o,hk,hc,hd⟩|⟨rfl,hk⟩|⟨rfl,S,n,hk⟩
  ·obtain⟨its,_,pl,_⟩:=I.list hq
   refine⟨pl.isList.typeIs,λa e=>?_⟩
   cases e
   obtain⟨o,n,e,c,hd,_⟩:=pl
   exact⟨o,e,hd⟩
  ·refine⟨⟨o,I.kIn p o hk,hc⟩,λa e=>?_⟩
   cases e
   exact⟨o,I.kIn _ o hk,hd⟩
  ·have z:∃o,s.heap.get? p=some o/\o.ExactDict:=by
    rcases hk with⟨kvs,hk⟩|⟨kvs,hk⟩
    ·obtain⟨_,_,_,_,o,_,_,e,ex,_⟩:=I.hok p _ hk
     exact⟨o,e,ex⟩
    ·obtain⟨_,_,_,_,o,_,_,e,ex,_⟩:=I.hok p _ hk
     exact⟨o,e,ex⟩
   obtain⟨o,e,ex⟩:=z
   refine⟨⟨o,e,ex.1⟩,λa e2=>?_⟩
   cases e2
   exact⟨o,e,ex.2.1⟩
  ·obtain⟨o,_,_,_,e,ex,_⟩:=I.hok p _ hk
   refine⟨⟨o,e,ex.1⟩,λa e2=>?_⟩
   cases e2
   exact⟨o,e,ex.2.1⟩
 |_=>exact ya6 ty
def tBM(K:yah)(T:String)(r:V->List V->Hp->VK->Prop)(to:TE)(t:TA):TE:=λσ H Q=>to σ H λx H1=>tyV K T x H1/\t σ H1 λxs H2=>r x xs H2 Q
variable{o e:Expr}{es:List Expr}{to:TE}{t:TA}{name:Str}{apos cpos:Pos}{T id:String}{r:V->List V->Hp->VK->Prop}
theorem qiG (pa:PlainAttrs T) (slot:Slot T name id) (hty:typeOf (.builtin id)=pure (.type "method_descriptor")) (hm:MtR X id r) (ho:PE X o to) (ha:PA X (e::es) t)
  (hbase:ybI o name X.env (eval o X.env)=eval o X.env:=by rfl)
  (hfew:((yaE cpos (yag (e::es) X.env)).all (λx => !x.1)&&(ycM cpos (yb3 [] X.env)).all (λx=>x.1.isSome)
   && decide ((e::es).length+([]:List ybr).length+(if([]:List ybr).isEmpty then 0 else 1)<30))=true:=by rfl)
  (hline:(apos.endLine==cpos.line)=true:=by rfl) (hs:yag (e::es) X.env=(false,eval e X.env)::yag es X.env:=by rfl) (hplain:(yaE cpos (yag es X.env)).any (·.1)=false:=by rfl) :
  PE X (.Call (.Attribute o name apos) (e::es) [] cpos) (tBM X.K T r to t):=by
 intro pins s σ H Q I h
 refine ydQ hbase hfew hline rfl (thn (ho pins s σ H _ I h) λv s1 ⟨x,H1,I1,r1,ty,q1⟩=>?_)
 obtain⟨h1,h2⟩:=qiF I1 r1 ty
 refine⟨T,id,pa,slot,hty,h1,h2,?_⟩
 have hA:=ha cpos pins s1 σ H1 _ I1 q1
 rw[hs]at hA |-
 refine ydR (by show(false||(yaE cpos (yag es X.env)).any (·.1))=false;rw[hplain]<;>rfl) (yee ?_)
 exact thn hA λus s2 ⟨vs,H2,I2,r2,q2⟩=>hm pins s2 σ H2 x vs v us Q I2 r1 r2 q2
/- xs.append(e),list.index on a module's tuple .. are MtR facts of 06m -/
end
end L2
namespace L2
open PySem PySem.Spec PyProof.Rows
def MtM (X:Cx) (id:String) (r:V->List V->Hp->VK->Prop):Prop :=
 ∀ (pins:List (Addr×Obj)) (s:yaa) (σ:St) (H:Hp) (x:V) (xs:List V) (v:Value) (us:List Value) (Q:VK),Inv X pins σ H s->jm x v->qU xs us->r x xs H Q ->
  wpAny (model X.prog X.w) X.A (call (.builtin id) (v::us)) (EP X pins σ Q) X.xe s
theorem qU.one:∀{x:V}{us:List Value},qU [x] us->∃u,us=[u]/\jm x u
 |_,_,.cons r .nil=>⟨_,rfl,r⟩
theorem qU.two:∀{x y:V}{us:List Value},qU [x,y] us->∃u v,us=[u,v]/\jm x u/\jm y v
 |_,_,_,.cons r (.cons q .nil)=>⟨_,_,rfl,r,q⟩
theorem qU.eraseIdx:∀{xs:List V}{us:List Value}(i:Nat),qU xs us->qU (xs.eraseIdx i) (us.eraseIdx i)
 |_,_,_,.nil => .nil
 |_,_,0,.cons _ t=>t
 |_,_,i+1,.cons r t => .cons r (qU.eraseIdx i t)
theorem qU.reverse {xs:List V} {us:List Value} (h:qU xs us):qU xs.reverse us.reverse:=by
 induction h with
 |nil=>exact .nil
 |cons r t ih=>rw[yci,yci];exact qU.append ih (.cons r .nil)
theorem qU.rep {xs:List V} {us:List Value} (h:qU xs us):∀k:Nat,qU (yav k xs).flatten (yav k us).flatten
 |0 => .nil
 |k+1=>by
  rw[rS_,rS_,ybv,ybv]
  exact qU.append h (qU.rep h k)
theorem vC (its:List Value):∀(k:Nat)(acc:List Value),
  yef (λx1 x2=>x1++x2) acc.toArray (yav k its.toArray)=(acc++(yav k its).flatten).toArray
 |0,acc=>by simp
 | k+1,acc=>by
  have e:acc.toArray++its.toArray=(acc++its).toArray:=by simp
  have e2:(acc++its)++(yav k its).flatten=acc++(yav (k+1) its).flatten:=by
   rw[rS_,ybv,aA_]
  rw[<-e2,<-vC its k (acc++its),<-e,rS_,List.foldl_cons]
section
variable{X:Cx}{pins:List (Addr×Obj)}{σ:St}{H:Hp}{s:yaa}{l b:Addr}{xs ys zs:List V}
theorem Inv.lset {its its':List Value} {n:Nat} {f:Array Value->Array Value} {t':Nat} (I:Inv X pins σ H s) (hH:H l=some (.lst xs))
  (e:s.heap.get? l=some {cls:=.type "list",data:=.seq its.toArray n}) (hf:f its.toArray=its'.toArray) (hv:qU ys its') (hz:ys.length<=yaq) :
  Inv X pins σ (upd H l (.lst ys)) {s with heap:=s.heap.update l (yaC f),toks:=t' }:=by
 have q:=PySem.IsL.update e f
 rw[hf]at q
 refine I.write (x:=l) (e:=l) (by rw[hH];exact trivial) (.inl rfl) (λb' u hb hu=>(Heap.get?_update_other s.heap (yaC f) (ybz hb)).trans hu) ⟨_,q⟩ ?_
 exact⟨hz,its',_,hv,q⟩
theorem Inv.lnew {its:List Value} {t':Nat} (I:Inv X pins σ H s) (hv:qU ys its) (hz:ys.length<=yaq) :
  Inv X pins σ (upd H s.heap.objs.size (.lst ys)) {s with heap:=s.heap.push {cls:=.type "list",data:=.seq its.toArray},toks:=t' } :=
 I.laid (λ_ _ q=>Heap.get?_push_of_some _ q) (yak _) ⟨hz,its,0,hv,Heap.get?_push_size _ rfl⟩
theorem Inv.fresh(I:Inv X pins σ H s):H s.heap.objs.size=none:=I.hok.fresh (yak _)
theorem Inv.lstM (I:Inv X pins σ H s) (hH:H l=some (.lst xs)):xs.length<=yaq/\∃(its:List Value)(n:Nat),qU xs its/\xs.length=its.length/\s.heap.get? l=some {cls:=.type "list",data:=.seq its.toArray n}:=by
 obtain⟨z,its,n,r,e⟩:=I.hok l _ hH
 exact⟨z,its,n,r,r.length,e⟩
theorem qbU {n:Nat} (h:n<=yaq):ybB n=false:=by
 unfold ybB
 exact decide_eq_false (by omega)
end
section
variable{X:Cx}
def qgC:V->List V->Hp->VK->Prop:=λx vs H Q=>∃l xs y,x=.ref l/\vs=[y]/\H l=some (.lst xs)/\xs.length<yaq/\Q .non (upd H l (.lst (xs++[y])))
theorem qaH:MtM X "list.append" qgC:=by
 intro pins s σ H x vs v us Q I rx rv h
 obtain⟨l,xs,y,rfl,rfl,hH,hz,q⟩:=h
 cases rx
 obtain⟨u,rfl,ru⟩:=rv.one
 obtain⟨z,its,n,r,hl,e⟩:=I.lstM hH
 refine yby F.slot_list_append ⟨_,e,rfl⟩ F.entry_list_append (F.args_list_append_2 _ _) (PySem.list_append l its.toArray n u (by rw[sT_];omega)) ⟨e,?_⟩
 refine⟨.non,_,I.lset (its':=its++[u]) hH e (by simp) (r.append (.cons ru .nil)) ?_,rfl,q⟩
 rw[lA_,yaQ]
 omega
def qgD:V->List V->Hp->VK->Prop:=λx vs H Q=>∃l b xs zs,x=.ref l/\vs=[.ref b]/\H l=some (.lst xs)/\H b=some (.lst zs)/\xs.length+zs.length<=yaq/\Q .non (upd H l (.lst (xs++zs)))
theorem qiH:MtM X "list.extend" qgD:=by
 intro pins s σ H x vs v us Q I rx rv h
 obtain⟨l,b,xs,zs,rfl,rfl,hH,hB,hz,q⟩:=h
 cases rx
 obtain⟨u,rfl,ru⟩:=rv.one
 cases ru
 obtain⟨z,its,n,r,hl,e⟩:=I.lstM hH
 obtain⟨z2,its2,n2,r2,hl2,e2⟩:=I.lstM hB
 have hsz:its.toArray.size+its2.toArray.size<=yaq:=by rw[sT_,sT_];omega
 have hlong:¬(!its.toArray.isEmpty&&ybB (its.toArray.size+its2.toArray.size))=true:=by
  rw[qbU hsz,Bool.and_false]
  exact yas
 refine yby F.slot_list_extend ⟨_,e,rfl⟩ F.entry_list_extend (F.args_list_extend_2 _ _)
  (AutoSeq1.list_extend_list_list_0 l its.toArray n b its2.toArray n2 hlong (by rw[sT_];omega) (by omega)) ⟨e,e2,?_⟩
 refine⟨.non,_,I.lset (its':=its++its2) hH e (by simp) (r.append r2) ?_,rfl,q⟩
 rw[lA_]
 omega
def qlt:R2:=λx y H Q=>∃l b xs zs,x=.ref l/\y=.ref b/\H l=some (.lst xs)/\H b=some (.lst zs)/\xs.length+zs.length<=yaq/\∀p,H p=none->Q (.ref p) (upd H p (.lst (xs++zs)))
theorem qiI:OpR X (ya9 .Add) qlt:=by
 intro pins s σ H x y v u Q I rx ry h
 obtain⟨l,b,xs,zs,rfl,rfl,hH,hB,hz,q⟩:=h
 cases rx
 cases ry
 obtain⟨z,its,n,r,hl,e⟩:=I.lstM hH
 obtain⟨z2,its2,n2,r2,hl2,e2⟩:=I.lstM hB
 refine PySem.P.add_list e e2 ?_ (by rw[sT_,sT_];omega)
 have ea:its.toArray++its2.toArray=(its++its2).toArray:=by simp
 rw[ea]
 exact⟨.ref _,_,I.lnew (t':=s.toks) (r.append r2) (by rw[lA_];omega),rfl,q _ I.fresh⟩
def qlu:R2:=λx y H Q=>∃l k xs,x=.ref l/\y=.int k/\H l=some (.lst xs) /\ -(2 ^ 63)<=k/\k<2 ^ 63/\xs.length*k.toNat<=yaq /\
 ∀p,H p=none->Q (.ref p) (upd H p (.lst (yav k.toNat xs).flatten))
theorem qbn {α:Type} (xs:List α) (k:Nat):(yav k xs).flatten.length=k*xs.length:=by
 induction k with
 |zero=>simp
 |succ k ih=>rw[rS_,ybv,lA_,ih,yeA,Nat.add_comm]
theorem qiJ:OpR X (ya9 .Mult) qlu:=by
 intro pins s σ H x y v u Q I rx ry h
 obtain⟨l,k,xs,rfl,rfl,hH,h1,h2,hz,q⟩:=h
 cases rx
 obtain⟨t,rfl⟩:=ry
 obtain⟨z,its,n,r,hl,e⟩:=I.lstM hH
 have hlen:its.toArray.size*k.toNat<=yaq:=by rw[sT_,<-hl];exact hz
 have hcap:¬its.toArray.size*k.toNat>(2 ^ 63-1)/8:=by
  have:(yaq:Nat)<=(2 ^ 63-1)/8:=by decide
  omega
 have hfit:¬(!Builtin.List.listFitsIndex k)=true:=by
  rw[fitsIndex_both h1 h2]
  exact yas
 have hlong:¬ybB (its.toArray.size*k.toNat)=true:=by
  rw[qbU hlen]
  exact yas
 have hnew:yef (λx1 x2=>x1++x2) #[] (yav (if its.toArray.isEmpty=true then 0 else k.toNat) its.toArray)=(yav k.toNat its).flatten.toArray:=by
  have f0:∀m:Nat,yef (λx1 x2=>x1++x2) #[] (yav m its.toArray)=(yav m its).flatten.toArray:=λm=>by
   have:=vC its m []
   rw[ybt]at this
   exact this
  rw[f0]
  cases its with
  |nil=>simp
  |cons a r'=>rw[if_neg (by simp)]
 refine ydm (T:="list") (U:="int") (by decide) ⟨_,e,rfl⟩ (λs'=>ydl s' k t) noFill_list_mul F.fills_int_mul ycB repeat_list F.slot_int_index.lookup
  (yby ycB (ydl s k t) F.entry_int_rmul (yeQ _ _) (int___rmul___int_list k t l its.toArray n)
   ⟨e,rfl,⟨_,e,rfl⟩,yby F.slot_list_mul ⟨_,e,rfl⟩ F.entry_list_mul (F.args_list_mul_2 _ _) (AutoListH.list___mul___list_int_3 l its.toArray n k t hfit hcap hlong) ⟨e,?_⟩⟩)
 rw[hnew]
 exact⟨.ref _,_,I.lnew (t':=s.toks) (r.rep k.toNat) (by rw[qbn,yeB];exact hz),rfl,q _ I.fresh⟩
end
section
variable{prog:yaj}{w:World}{A:yar}{E:Value->yaa->Prop}{s:yaa}
set_option maxRecDepth 100000 in
end
section
variable{X:Cx}
end
end L2
namespace Att
open PySem PySem.W PySem.Calls PyProof.Rows
theorem vE {P:Params} {h:Heap}:∀(ns:List Int)(vs:List Value),WellAll P h vs (ns.map WData.int)->ybs vs ns:=by
 intro ns
 induction ns with
 |nil=>
  intro vs w
  rw[yca]at w
  cases w
  exact .nil
 | cons n ns ih=>
  intro vs w
  rw[mC_]at w
  cases w with
  |cons a b=>
   cases a
   exact .cons _ _ (ih _ b)
theorem qde {l:OpenLaw} {n:Nat} (hn:l.most=some n) {P:Params} {h:Heap} {args:List WData} {vals:List Value}
  (hpre:l.row.toRowW.claim.pre args=true) (hwl:WellAll P h vals args) :
  ∃a vs ns,vals=[yae a]/\args=[WData.list (ns.map WData.int)]/\h.get? a=some {cls:=.type "list",data:=.seq vs.toArray}/\ybs vs ns/\ns.length<=n:=by
 have hsh:WShape.hasAll [] args [.list .int]=true:=(pre_splitW hpre).1
 have hc:l.pre.holds [] {args:=args}=true:=(pre_splitW hpre).2
 obtain⟨d,r,rfl,h1,h2⟩:=hasAllW_cons hsh
 obtain rfl:=hasAllW_nil h2
 obtain⟨xs,rfl,h3⟩:=hasW_list h1
 obtain⟨ns,rfl⟩:=items_int h3
 have hlen:ns.length<=n:=by
  unfold OpenLaw.pre at hc
  have h4:(WTm.not (.lt (.lit (.int (n:Int))) (.len (.arg 0)))).holds [] {args:=[.list (ns.map .int)]}=true:=by
   have h4:=(holds_andW hc).1
   rw[hn]at h4
   exact h4
  have h5:=condW_of h4 (w_not (w_lt w_lit (w_len_list (w_arg rfl))))
  rw[lM_]at h5
  refine yct λq=>?_
  have q':(n:Int)<((ns.length:Nat):Int):=by omega
  first
   |(rw[decide_eq_true q']at h5;exact absurd h5 (by decide))
   |(simp at h5;omega)
 cases hwl with
 |cons w1 w2=>
  cases w2
  cases w1 with
  |list ho hall=>exact⟨_,_,ns,rfl,rfl,ho,vE ns _ hall,hlen⟩
theorem qdf (l:OpenLaw) (args:List WData):l.row.toRowW.claim.post args (.bool true) args=true :=
 postW_of (r:=l.row.toRowW) (X:=(true==true))
  (show WShape.has [] (.bool true) .bool=true by first|rfl|decide|simp[WShape.has,WShape.arms,WShape.armsAll])
  (show(WTm.eq .res (.lit (.bool true))).value [] {args:=args,res:=some (.bool true),after:=args}=some (.bool (true==true))from w_eq_bool (w_res rfl) w_lit) rfl
theorem attach_call {l:OpenLaw} {n:Nat} {q:yaj} {loose:List Str} {XP:(Str->Option Value)->Heap->Prop} {YP:World->Heap->Prop} {d:DefRec}
  (hn:l.most=some n) (hdf:d.params.defaults=[])
  (call:∀(w:World)(s₀ sJ:yaa)(mg mb:Str->Option Value)(fa:Addr)(o:Obj)(pm cd doc:Value)(a:Addr)(vs:List Value)(ns:List Int),
   Ground q loose [] XP w s₀ mg mb sJ.heap->YP w sJ.heap ->
   sJ.heap.get? fa=some o->o.data=.func (docDef d.name d.params d.body d.scope pm cd doc)->sJ.heap.CodeRec cd d.name->mg d.name=some (.ref fa) ->
   sJ.heap.get? a=some {cls:=.type "list",data:=.seq vs.toArray}->ybs vs ns->ns.length<=n->sJ.gens = #[] ->
   yb1 (model l.prog w) ydp (.call (.ref fa) ⟨[.ref a],[]⟩) (λr s'=>r=.ok (.ret (.bool true))/\OldK sJ.heap s'.heap/\s'.os=sJ.os/\yb0 s'.gens) sJ) :
  WalkO q loose XP YP l.row.toRowW d [] (λf vs=>yeY f vs):=by
 intro w s₀ sJ mg mb G Y fa o pm cd doc dV kV ho hd hcd hD hmg hg args vals as hpre hlay hrd hwl hlo
 obtain rfl:dV=.none:=Dflts.none hD hdf
 obtain rfl:kV=.none:=Dflts.noKw hD
 obtain⟨a,vs,ns,rfl,rfl,hobj,hints,hlen⟩:=qde hn hpre hwl
 refine enter_call (yeu (call w s₀ sJ mg mb fa o pm cd doc a vs ns G Y ho (fd_plain hd) hcd hmg hobj hints hlen hg) λr s' hq=>?_)
 obtain⟨rfl,h2,h3,h4⟩:=hq
 exact⟨.inl ⟨.bool true,.bool true,[],rfl,λ_=>rfl,.bool true,qdf l _,λ_=>⟨List.Pairwise.nil,λ_ hm=>(nomatch hm)⟩⟩,h2,h3,h4⟩
section
variable{prog:yaj}{w:World}{A:yar}{E:Value->yaa->Prop}{s:yaa}{K:Frag}
end
end Att
namespace L2
open PySem PySem.Spec PyProof.Rows
theorem qaI:∀{vs:List Value}{ns:List Int},ybs vs ns->qU (ns.map V.int) vs
 |_,_,.nil => .nil
 |_,_,.cons n t h => .cons ⟨t,rfl⟩ (qaI h)
def qkd(H:Hp):Prop:=∀b,H b=none\/(∃o xs,H b=some (.frz o (.lst xs)))\/∃pos q,H b=some (.lam pos q)
def qke:Option (Addr×Addr×Pos×Str)->Hp
 |some (_,Pt,pos,q)=>λb=>if b=Pt then some (.lam pos q)else none
 |none=>λ_=>none
theorem qeD {P:yaj} {w:World} {K:yah} {mg mb:Str->Option Value} {CX:CXT} {k:Nat} {fa a:Addr} {fd:yaO} {x:Str} {sp:Sp} {sJ:yaa} {vs:List Value} {ns:List Int} {lm:Option (Addr×Addr×Pos×Str)}
  (KX:K.In sJ.heap) (hns:sJ.heap.Ns yad mg) (hb:sJ.heap.Ns ycf mb) (hbb:∀x:Str,x≠"__name__"->mb x=yaA x) (hlim:sJ.heap.NoLimit)
  (hbm:∃bm ob,mg "__builtins__"=some (.ref bm)/\bm≠ycf/\sJ.heap.get? bm=some ob/\ob.cls=.type "module"/\ob.dict=some ycf/\ob.data=.plain)
  (hlm:∀c Pt pos q,lm=some (c,Pt,pos,q)->yd1 sJ.heap c Pt/\sJ.heap.get? Pt=some (yd2 #[])/\K.lookup Pt=none)
  (hg:sJ.gens = #[])
  (ha:sJ.heap.get? a=some {cls:=.type "list",data:=.seq vs.toArray}) (hi:ybs vs ns) (hl:ns.length<=yaq) (hr:uE k ydp)
  (F:∀base:Heap,K.In base->base.Ns yad mg->wD P w K mg base CX k fa fd [x] sp) (hbind:∀(s:yaa)(u:Value),ydo s fd ⟨[u],[]⟩ [(x,u)])
  (hsp:∀H:Hp,qkd H->(∀c Pt pos q,lm=some (c,Pt,pos,q)->H Pt=some (.lam pos q))->SqL K H a (ns.map V.int)->sp [.ref a] H (λv _=>v=.bl true) λ_ _ _=>False)
  (hCX:∀H e s',CX [] H sJ (λ_ _ _=>False) e s'->False) :
  yb1 (model P w) ydp (.call (.ref fa) ⟨[.ref a],[]⟩) (λr s'=>r=.ok (.ret (.bool true))/\OldK sJ.heap s'.heap/\s'.os=sJ.os/\yb0 s'.gens) sJ:=by
 have rv:=qaI hi
 have lenV:=hi.length
 have core:∀H:Hp,qkd H->(∀c Pt pos q,lm=some (c,Pt,pos,q)->H Pt=some (.lam pos q))->SqL K H a (ns.map V.int)->HOk P w H sJ.heap ->
   (∀b u,H b=some u->K.lookup b=none/\((∃o xs,u=.frz o (.lst xs))\/∃c pos q,lm=some (c,b,pos,q)/\u=.lam pos q)) ->
   yb1 (model P w) ydp (.call (.ref fa) ⟨[.ref a],[]⟩) (λr s'=>r=.ok (.ret (.bool true))/\OldK sJ.heap s'.heap/\s'.os=sJ.os/\yb0 s'.gens) sJ:=by
  intro H hO hT hS hok hA
  have base_of:∀{b:Addr}{o:Obj},sJ.heap.get? b=some o->H b=none->(qep sJ.heap H).get? b=some o:=λe n=>qeq e n
  have noD:∀{b:Addr}{o:Obj},sJ.heap.get? b=some o->(∀its n,o.data ≠ .seq its n)->(∀f,o.data ≠ .fields f)->H b=none:=λ{b o} e d1 d2=>by
   cases q:H b with
   |none=>rfl
   | some u=>
    rcases(hA b u q).2 with⟨ob,xs,rfl⟩|⟨c,pos,q',hl2,rfl⟩
    ·obtain⟨e1,_,its,n,_,e2⟩:=hok b _ q
     rw[e]at e2;cases e2
     exact(d1 _ _ rfl).elim
    ·have e2:=(hlm _ _ _ _ hl2).2.1
     rw[e]at e2;cases e2
     exact(d2 _ rfl).elim
  have nsK:∀{b:Addr}{m:Str->Option Value},sJ.heap.Ns b m->(qep sJ.heap H).Ns b m:=λ{b m} ⟨o,es,ep,e,d,r⟩=>⟨o,es,ep,base_of e (noD e (λ_ _ z=>by rw[d]at z;cases z) λ_ z=>by rw[d]at z;cases z),d,r⟩
  have hKb:K.In (qep sJ.heap H):=λb o e=>base_of (KX b o e) (by
   cases q:H b with
   |none=>rfl
   |some u=>rw[(hA b u q).1]at e;cases e)
  have hM:Mod K mg (qep sJ.heap H):=⟨hKb,nsK hns,⟨mb,nsK hb,hbb⟩,let ⟨mc,h1,h2⟩:=hlim;⟨mc,nsK h1,h2⟩,
   let ⟨bm,ob,b1,b2,b3,b4,b5,b6⟩:=hbm;⟨bm,ob,b1,b2,base_of b3 (noD b3 (λ_ _ z=>by rw[b6]at z;cases z) λ_ z=>by rw[b6]at z;cases z),b4,b5,b6⟩⟩
  have e0:qix P w K mg (qep sJ.heap H) ydp [] sJ H:=⟨rfl,hM,λb o e=>qgm e,Nat.le_of_eq (qcX _ _),trivial,λb hb=>absurd (show b∈([]:List Addr)from hb) (by simp),hok,.of_eq hg⟩
  refine yeu ((F _ hKb (nsK hns)).run ydp [] sJ H ⟨[.ref a],[]⟩ [.ref a] [.ref a] _ _ hr e0 (hbind sJ (.ref a)) (.cons rfl .nil) (hsp H hO hT hS)) λr s' h=>?_
  cases r with
  |error e=>exact(hCX H e s' h).elim
  | ok fl=>
   cases fl with
   |next=>exact ya6 h
   |brk=>exact ya6 h
   |cont=>exact ya6 h
   | ret u=>
    obtain⟨v,H',os,bare,un,hok',r',q⟩:=h
    have q':v=.bl true:=q
    subst q'
    obtain rfl:u=yaX true:=r'
    have asIt:∀b o,sJ.heap.get? b=some o->asItWas sJ.heap s'.heap b o:=λb o e=>by
     cases q:H b with
     |none=>exact .inl (un.keep b o e q (by intro z;exact absurd (show b∈([]:List Addr)from z) (by simp)) (by simp))
     | some u=>
      rcases(hA b u q).2 with⟨ob,xs,rfl⟩|⟨c,pos,q2,hl2,rfl⟩
      ·have z2:=un.frzs b ob _ q
       obtain⟨e1,_⟩:=hok b _ q
       obtain⟨e2,_⟩:=hok' b _ z2
       rw[e]at e1;cases e1
       exact .inl e2
      ·obtain⟨hc,e2,_⟩:=hlm _ _ _ _ hl2
       rw[e]at e2;cases e2
       rcases hok' b _ (un.tbls b pos q2 q)with z|⟨c',oc,vs',t,_,_,_,z⟩
       ·exact .inl z
       ·exact .inr (.inl ⟨(hc.tab e).isCodeTable,rfl,#[],_,rfl,by rw[Array.empty_append];exact z⟩)
    exact⟨rfl,⟨asIt,λb o e=>un.there b o e (by simp)⟩,os,bare⟩
 let T:Hp:=qke lm
 have hTb:∀b u,T b=some u->∃c pos q,lm=some (c,b,pos,q)/\u=.lam pos q:=λb u z=>by
  cases hq:lm with
  |none=>simp only[T,hq,qke]at z;cases z
  | some p=>
   obtain⟨c,Pt,pos,q⟩:=p
   simp only[T,hq,qke]at z
   by_cases hbp:b=Pt
   ·rw[if_pos hbp]at z;cases z
    exact⟨c,pos,q,by rw[hbp],rfl⟩
   ·rw[if_neg hbp]at z;cases z
 have hTa:T a=none:=by
  cases q:T a with
  |none=>rfl
  |some u=>
   obtain⟨c,pos,q2,hl2,_⟩:=hTb a u q
   have:=(hlm _ _ _ _ hl2).2.1
   rw[ha]at this;cases this
 have hTt:∀c Pt pos q,lm=some (c,Pt,pos,q)->T Pt=some (.lam pos q):=λc Pt pos q e=>by
  simp only[T,e,qke,if_true]
 cases hk:K.lookup a with
 | some o=>
  have e:=KX a o hk
  rw[ha]at e
  cases e
  refine core T (λb=>?_) hTt (.inr ⟨_,vs.toArray,_,hk,rfl,rfl,rfl,by rw[sT_,lenV];exact hl,by simpa using rv⟩) (λb u z=>?_) (λb u z=>?_)
  ·cases q:T b with
   |none=>exact .inl rfl
   |some u=>obtain⟨_,pos,q2,_,rfl⟩:=hTb b u q;exact .inr (.inr ⟨pos,q2,rfl⟩)
  ·obtain⟨c,pos,q2,hl2,rfl⟩:=hTb b u z
   exact .inl (hlm _ _ _ _ hl2).2.1
  ·obtain⟨c,pos,q2,hl2,rfl⟩:=hTb b u z
   exact⟨(hlm _ _ _ _ hl2).2.2,.inr ⟨c,pos,q2,hl2,rfl⟩⟩
 | none=>
  refine core (upd T a (.frz {cls:=.type "list",data:=.seq vs.toArray} (.lst (ns.map V.int)))) (λb=>?_) (λc Pt pos q e=>?_) (.inl (.inr ⟨{cls:=.type "list",data:=.seq vs.toArray},qt⟩)) (λb u z=>?_) (λb u z=>?_)
  ·by_cases hb:b=a
   ·subst hb;exact .inr (.inl ⟨_,_,qt⟩)
   ·rw[qu hb]
    cases q:T b with
    |none=>exact .inl rfl
    |some u=>obtain⟨_,pos,q2,_,rfl⟩:=hTb b u q;exact .inr (.inr ⟨pos,q2,rfl⟩)
  ·have h1:=hTt c Pt pos q e
   rw[qu (qE h1 hTa)]
   exact h1
  ·by_cases hb:b=a
   ·subst hb
    rw[qt]at z;cases z
    exact⟨ha,by rw[lM_];exact hl,vs,_,rv,ha⟩
   ·rw[qu hb]at z
    obtain⟨c,pos,q2,hl2,rfl⟩:=hTb b u z
    exact .inl (hlm _ _ _ _ hl2).2.1
  ·by_cases hb:b=a
   ·subst hb
    rw[qt]at z;cases z
    exact⟨hk,.inl ⟨_,_,rfl⟩⟩
   ·rw[qu hb]at z
    obtain⟨c,pos,q2,hl2,rfl⟩:=hTb b u z
    exact⟨(hlm _ _ _ _ hl2).2.2,.inr ⟨c,pos,q2,hl2,rfl⟩⟩
end L2
namespace L2
open PySem PySem.Spec PyProof.Rows
end L2
/- THE LAST THEOREM (shape;LID,My.* are yours):
   My.Adr: a structure of the addresses that your layer names (classes,functions);My.Txt K t: a structure (Prop) of the equations over K;
   My.txt_mk:{K} {implicit addresses ..} (e1:nsIn K yad "law"=some (some (.ref f))) (e2:K.lookup f=some ⟨oc,od,.func (fnOf "law" "law" params body scope dV kV doc pm an cdv ct),sl⟩) (e3:codeIn K cdv "law"=true) .. : ∃t,My.Txt K t
set_option maxRecDepth 100000 in
set_option maxHeartbeats 0 in
theorem PySem.Challenge.cw_LID_holds : PySem.Challenge.rw_LID.Holds := by
 w_on;o_law;k_head;(case hw=>w_witness2)
 k_fill
 refine L2.walk_of (l:=PySem.Challenge.rw_LID) (n:=63) (k:=40) (x:="script") (CX:=λw => ..) (sp:=λ_=>My.sp_law) rfl (by decide) rfl ⟨rfl,by decide,by decide⟩ (λw h Y=>PySem.W.kIn_of Y) ?F ?S ?C
 case F=>
  intro w mg fa h KX G hmg
  have T:∃t,My.Txt (L2.KOf KX) t:=by
   dsimp only[L2.KOf]                          -- K must stand as «<heap const> w.params» for k_is
   refine' My.txt_mk ?e1 ?e2 ?e3 ..
   (case e1=>PySem.W.k_is)                    -- in the order: a name->its address->its object->its parts
   (case e2=>PySem.W.k_is)
   ..
  obtain⟨t,T⟩:=T
  have e0:=hmg.symm.trans (yam KX G T.law)
  cases e0                                       -- fa is the law's own address
  exact⟨_,λs u => .of_eq rfl,λbase kb nb=>My.law_fn T kb nb⟩     -- if «.of_eq rfl» comes too early: refine' ⟨_,?b,λbase kb nb=>My.law_fn T kb nb⟩;exact λs u => .of_eq rfl
 case S=>exact λw H a ns hl hO hS => ..
 case C=>exact ..
(the tactic k_is has no namespace: write k_is) -/
namespace L2
open PySem PySem.Spec PyProof.Rows
def qr (s:Stmt):yew:=match s with
 |.FunctionDef _ a _ _ _ _ _ _ _ _=>a
 |_=>{posonlyargs:=[],args:=[],vararg:=none,kwonlyargs:=[],kw_defaults:=[],kwarg:=none,defaults:=[]}
def qm (s:Stmt):List Stmt:=match s with
 |.FunctionDef _ _ b _ _ _ _ _ _ _=>b
 |_=>[]
def qe (s:Stmt):Scope:=match s with
 |.FunctionDef _ _ _ _ _ _ sc _ _ _=>sc
 |_=>{kind:=.function,names:=[],isGenerator:=false,isCoroutine:=false}
abbrev CX0:CXT:=λ_ _ _ _ _ _=>False
abbrev E0:XK:=λ_ _ _=>False
theorem qgE{X:Cx}:qbS CX0 X E0:=λ_ _ _ _ _ _ _ h=>h.elim
structure Fun (K:yah) (x qual:Str) (st:Stmt) (f:Addr) (fd:yaO):Prop where
 ex:∃(oc:Value)(od:Option Addr)(kV doc pm:Value)(an:Option Addr)(cdv ct:Value)(osl:Array (Option Value)),
  fd=yap x qual (qr st) (qm st) (qe st) .none kV doc pm an cdv ct/\K.lookup f=some ⟨oc,od,.func fd,osl⟩/\yan K cdv qual=true
 kp:yai K (.ref f)=true
section
variable{P:yaj}{w:World}{K:yah}{mg:Str->Option Value}{base:Heap}
theorem Fun.ok {x qual:Str} {st:Stmt} {f:Addr} {fd:yaO} {N ps:List Str} {k:Nat} {sp:Sp} (F:Fun K x qual st f fd) (S:qp N ps (qe st)) (len:∀vs H Q E,sp vs H Q E->vs.length=ps.length)
  (hbody:∀(cdv:Value)(A:yar)(outer:List Env)(s:yaa)(H:Hp)(vs:List V)(Q:VK)(E:XK),uE k (A.deeper (ycl qual (qe st) s.heap.objs.size f cdv))->sp vs H Q E ->
   ∃t,PSs (qfK CX0 P w K mg base N qual (qe st) f cdv A outer s H E).nox (qm st) t/\t {nx:=λ_ H'=>Q .non H',rt:=Q} (jy N vs) H):wD P w K mg base CX0 (k+1) f fd ps sp:=by
 obtain⟨oc,od,kV,doc,pm,an,cdv,ct,osl,rfl,lk,hcd⟩:=F.ex
 refine qkL lk hcd S len λA outer s H vs Q E hr hsp=>?_
 obtain⟨t,h,q⟩:=hbody cdv A outer s H vs Q E hr hsp
 exact⟨t,h.nox,q⟩
theorem Fun.binds {x qual:Str} {st:Stmt} {f:Addr} {fd:yaO} {ps:List Str} (F:Fun K x qual st f fd)
  (h:∀(kV doc pm:Value)(an:Option Addr)(cdv ct:Value)(us:List Value),us.length=ps.length->bindArgs (yap x qual (qr st) (qm st) (qe st) .none kV doc pm an cdv ct) ⟨us,[]⟩=pure (ps.zip us)):vB K fd ps []:=by
 obtain⟨oc,od,kV,doc,pm,an,cdv,ct,osl,rfl,lk,hcd⟩:=F.ex
 exact .all (h kV doc pm an cdv ct)
theorem qL {x qual:Str} {st:Stmt} {f:Addr} {oc:Value} {od an:Option Addr} {osl:Array (Option Value)} {kV doc pm cdv ct:Value} (l:K.lookup f=some ⟨oc,od,.func (yap x qual (qr st) (qm st) (qe st) .none kV doc pm an cdv ct),osl⟩)
  (c:yan K cdv qual=true) (k:yai K (.ref f)=true):Fun K x qual st f (yap x qual (qr st) (qm st) (qe st) .none kV doc pm an cdv ct):=⟨⟨oc,od,kV,doc,pm,an,cdv,ct,osl,rfl,l,c⟩,k⟩
end
section
variable{X:Cx}
end
theorem qhV {A B:Prop} (h:B):if false=true then A else B:=by
 rw[if_neg yas]
 exact h
theorem qhW {A B:Prop} (h:A):if true=true then A else B:=by
 rw[if_pos rfl]
 exact h
def zK(H H':Hp):Prop:=∀b o,H b=some o->H' b=some o
theorem zK.refl(H:Hp):zK H H:=λ_ _ h=>h
theorem zK.trans{H H1 H2:Hp}(a:zK H H1)(b:zK H1 H2):zK H H2:=λc o h=>b c o (a c o h)
theorem zK.free {H H':Hp} (e:zK H H') {l:Addr} (h:H' l=Option.none):H l=Option.none:=by
 cases q:H l with
 |none=>rfl
 |some o=>
  rw[e l o q]at h
  cases h
end L2
namespace L2.Sk
open PySem PySem.Spec PyProof.Rows
inductive D where
 |non|bl (b:Bool)|int (i:Int)|str (x:Str)|tup (xs:List D)|lst (xs:List D)|dic (kvs:List (Key×Int))|fz (ns:List Int)
 |exc (n:Str)
abbrev Fr0:=yah
def qiK:FuncBody->Option Pos
 |.stmts [_,_,.Return (some (.Call _ _ [⟨_,.Lambda _ _ _ pos,_⟩] _)) _]=>some pos
 |_=>none
def lamOf (K:Fr0):Option (Addr×Addr×Pos):=match PySem.W.tabIn K "dearest_first",yaf K yad "dearest_first" with
 |some (c,P),some (some (.ref f))=>(match K.lookup f with
  |some ⟨_,_,.func fd,_⟩=>(qiK fd.body).map λpos=>(c,P,pos)
  |_=>none)
 |_,_=>none
abbrev qkO:Str:="dearest_first.<locals>.<lambda>"
def qlv(K:Fr0)(H:Hp)(Io:Addr->Prop):Prop:=∀c P pos,lamOf K=some (c,P,pos)->H P=some (.lam pos qkO)/\¬Io P
abbrev qdg(K:Fr0)(H:Hp):Prop:=qlv K H λ_=>False
structure XK6 (K:Fr0) (D:Addr):Prop where
 ga:ybk K (.ref D) "__getattribute__"=some (some (.builtin "BaseException.__getattribute__"))
 gt:ybk K (.ref D) "__getattr__"=some none
 cl:ybk K (.ref D) "__class__"=some (some (.builtin "object.__class__"))
 ob:PySem.W.mroIn K D (.type "object")=some true
 be:PySem.W.subIn K (.ref D) (.type "BaseException")=some true
 is:(PySem.W.clsIn K D).isSome=true
 no:∀T∈["int","bool","str","tuple","list","dict"],yd0 K (.ref D) (.type T)=some false
def vF (K:Fr0) (n:Str):Option Addr:=match yaf K yad n with
 |some (some (.ref C))=>some C
 |_=>none
def clR(K:Fr0)(RN:List Str)(n:Str):Option Addr:=if RN.contains n then vF K n else none
def qmi(K:Fr0)(H:Hp)(a:Addr)(n:Str):Prop:=∃C,vF K n=some C/\XK6 K C/\∃o vs,H a=some (.frz o (.own a))/\o.cls=.ref C/\o.data=.fields vs
def ut (K:Fr0) (H:Hp) (a:Addr) (xs:List V):Prop :=
 H a=some (.tup xs)\/∃(o:Obj)(its:Array Value)(n:Nat),K.lookup a=some o/\o.cls=.type "tuple"/\o.data=.seq its n/\its.size<=yaq/\qU xs its.toList
def qiL (K:Fr0) (H:Hp) (a:Addr) (xs:List V):Prop :=
 (∃o,H a=some (.frz o (.lst xs)))\/∃(o:Obj)(its:Array Value)(n:Nat),K.lookup a=some o/\o.cls=.type "list"/\o.dict=none/\o.data=.seq its n/\its.size<=yaq/\qU xs its.toList
theorem ut.sq {K:Fr0} {H:Hp} {a:Addr} {xs:List V} (h:ut K H a xs):SqT K H a xs:=by
 rcases h with h|h
 ·exact .inl (.inl h)
 ·exact .inr h
theorem qiL.sq {K:Fr0} {H:Hp} {a:Addr} {xs:List V} (h:qiL K H a xs):SqL K H a xs:=by
 rcases h with h|h
 ·exact .inl (.inr h)
 ·exact .inr h
mutual
def Is (K:Fr0) (A:Addr->Prop) (H:Hp):D->V->Prop
 |.non,v=>v=.non
 |.bl b,v=>v=.bl b
 |.int i,v=>v=.int i
 |.str x,v=>v=.str x
 |.tup ds,v=>∃a xs,v=.ref a/\ut K H a xs/\IsL K A H ds xs
 |.lst ds,v=>∃a xs,v=.ref a/\A a/\H a=some (.lst xs)/\IsL K A H ds xs
 |.dic kvs,v=>∃a,v=.ref a/\A a/\H a=some (.dK (kvs.map λp=>(p.1,V.int p.2)))
 |.fz ns,v=>∃a,v=.ref a/\qiL K H a (ns.map V.int)
 |.exc n,v=>∃a,v=.ref a/\qmi K H a n
def IsL (K:Fr0) (A:Addr->Prop) (H:Hp):List D->List V->Prop
 | [],xs=>xs=[]
 |d::ds,xs=>∃x ys,xs=x::ys/\Is K A H d x/\IsL K A H ds ys
end
mutual
def imm:D->Bool
 |.tup ds=>immL ds
 |.lst _=>false
 |.dic _=>false
 |.fz _=>false
 |_=>true
def immL:List D->Bool
 | []=>true
 |d::ds=>imm d&&immL ds
end
structure Ext (A:Addr->Prop) (H H':Hp):Prop where
 tup:∀b xs,H b=some (.tup xs)->H' b=some (.tup xs)
 frz:∀b o u,H b=some (.frz o u)->H' b=some (.frz o u)
 at_:∀b o,A b->H b=some o->H' b=some o
theorem Ext.refl{A:Addr->Prop}{H:Hp}:Ext A H H:=⟨λ_ _ h=>h,λ_ _ _ h=>h,λ_ _ _ h=>h⟩
theorem Ext.of_same{A:Addr->Prop}{H H':Hp}(s:zK H H'):Ext A H H':=⟨λb xs h=>s b _ h,λb o u h=>s b _ h,λb o _ h=>s b o h⟩
mutual
theorem Is.ext {K:Fr0} {A B:Addr->Prop} {H H':Hp} (e:Ext A H H') (hAB:∀a,A a->(H a).isSome=true->B a):∀{d:D}{v:V},Is K A H d v->Is K B H' d v
 |.non,_,h=>h
 |.bl _,_,h=>h
 |.int _,_,h=>h
 |.str _,_,h=>h
 |.tup ds,_,⟨a,xs,hv,h,r⟩=>⟨a,xs,hv,h.elim (λh => .inl (e.tup _ _ h)) .inr,IsL.ext e hAB r⟩
 |.lst ds,_,⟨a,xs,hv,hA,h,r⟩=>⟨a,xs,hv,hAB a hA (by rw[h];rfl),e.at_ _ _ hA h,IsL.ext e hAB r⟩
 |.dic kvs,_,⟨a,hv,hA,h⟩=>⟨a,hv,hAB a hA (by rw[h];rfl),e.at_ _ _ hA h⟩
 |.fz ns,_,⟨a,hv,h⟩=>⟨a,hv,h.elim (λ⟨o,h⟩ => .inl ⟨o,e.frz _ _ _ h⟩) .inr⟩
 |.exc n,_,⟨a,hv,C,hc,hk,o,vs,h,r⟩=>⟨a,hv,C,hc,hk,o,vs,e.frz _ _ _ h,r⟩
theorem IsL.ext {K:Fr0} {A B:Addr->Prop} {H H':Hp} (e:Ext A H H') (hAB:∀a,A a->(H a).isSome=true->B a):∀{ds:List D}{xs:List V},IsL K A H ds xs->IsL K B H' ds xs
 | [],_,h=>h
 |_::_,_,⟨x,ys,hx,h,r⟩=>⟨x,ys,hx,Is.ext e hAB h,IsL.ext e hAB r⟩
end
mutual
theorem Is.imm {K:Fr0} {A B:Addr->Prop} {H:Hp}:∀{d:D}{v:V},imm d=true->Is K A H d v->Is K B H d v
 |.non,_,_,h=>h
 |.bl _,_,_,h=>h
 |.int _,_,_,h=>h
 |.str _,_,_,h=>h
 |.tup ds,_,i,⟨a,xs,hv,h,r⟩=>⟨a,xs,hv,h,IsL.imm (by simpa [Sk.imm] using i) r⟩
 |.lst _,_,i,_=>by simp[Sk.imm]at i
 |.dic _,_,i,_=>by simp[Sk.imm]at i
 |.fz _,_,i,_=>by simp[Sk.imm]at i
 |.exc _,_,_,h=>h
theorem IsL.imm {K:Fr0} {A B:Addr->Prop} {H:Hp}:∀{ds:List D}{xs:List V},immL ds=true->IsL K A H ds xs->IsL K B H ds xs
 | [],_,_,h=>h
 |d::ds,_,i,⟨x,ys,hx,h,r⟩=>by
  have i':Sk.imm d=true/\immL ds=true:=by simpa [immL] using i
  exact⟨x,ys,hx,Is.imm i'.1 h,IsL.imm i'.2 r⟩
end
theorem IsL.length {K:Fr0} {A:Addr->Prop} {H:Hp}:∀{ds:List D}{xs:List V},IsL K A H ds xs->xs.length=ds.length
 | [],_,h=>by rw[h];rfl
 |_::_,_,⟨x,ys,hx,_,r⟩=>by rw[hx,lC_,lC_,IsL.length r]
theorem IsL.get {K:Fr0} {A:Addr->Prop} {H:Hp}:∀{ds:List D}{xs:List V}{i:Nat}{d:D},IsL K A H ds xs->ds[i]? = some d->∃x,xs[i]? = some x/\Is K A H d x
 | [],_,_,_,_,h=>by simp at h
 |e::_,_,0,d,⟨x,ys,hx,h,r⟩,hd=>by
  have e1:e=d:=by simpa using hd
  subst e1
  exact⟨x,by rw[hx];rfl,h⟩
 |_::ds,_,i+1,d,⟨x,ys,hx,h,r⟩,hd=>by
  obtain⟨y,h1,h2⟩:=IsL.get (i:=i) (d:=d) r (by simpa using hd)
  exact⟨y,by rw[hx];simpa using h1,h2⟩
theorem IsL.append {K:Fr0} {A:Addr->Prop} {H:Hp}:∀{ds es:List D}{xs ys:List V},IsL K A H ds xs->IsL K A H es ys->IsL K A H (ds++es) (xs++ys)
 | [],_,_,_,h,g=>by rw[h];exact g
 |_::_,_,_,_,⟨x,zs,hx,h,r⟩,g=>⟨x,zs++_,by rw[hx];rfl,h,IsL.append r g⟩
theorem IsL.take {K:Fr0} {A:Addr->Prop} {H:Hp}:∀{ds:List D}{xs:List V}(n:Nat),IsL K A H ds xs->IsL K A H (ds.take n) (xs.take n)
 |_,_,0,_=>by simp[IsL]
 | [],_,_+1,h=>by rw[h];simp[IsL]
 |_::_,_,n+1,⟨x,ys,hx,h,r⟩=>by rw[hx];exact⟨x,ys.take n,rfl,h,IsL.take n r⟩
theorem IsL.drop {K:Fr0} {A:Addr->Prop} {H:Hp}:∀{ds:List D}{xs:List V}(n:Nat),IsL K A H ds xs->IsL K A H (ds.drop n) (xs.drop n)
 |_,_,0,h=>h
 | [],_,_+1,h=>by rw[h];simp[IsL]
 |_::_,_,n+1,⟨x,ys,hx,h,r⟩=>by rw[hx];exact IsL.drop n r
theorem IsL.one{K:Fr0}{A:Addr->Prop}{H:Hp}{d:D}{v:V}(h:Is K A H d v):IsL K A H [d] [v]:=⟨v,[],rfl,h,rfl⟩
theorem IsL.set {K:Fr0} {A:Addr->Prop} {H:Hp} {d:D} {v:V} (hd:Is K A H d v):∀{ds:List D}{xs:List V}(n:Nat),IsL K A H ds xs->IsL K A H (ds.set n d) (xs.set n v)
 | [],_,_,h=>by rw[h];simp[IsL]
 |_::_,_,0,⟨x,ys,hx,h,r⟩=>by rw[hx];exact⟨v,ys,rfl,hd,r⟩
 |_::_,_,n+1,⟨x,ys,hx,h,r⟩=>by rw[hx];exact⟨x,ys.set n v,rfl,h,IsL.set hd n r⟩
abbrev Env:=List (Option D)
structure Exn where
 cls:Str
 val:D
inductive R (α:Type) where
 |ok (a:α)|exc (x:Exn) (Z:Env)|bad
structure Fc where
 O:List Nat
 P:List Nat
 B:Addr->Prop
 H0:Hp
 Io:Addr->Prop
 E:Exn->Hp->Prop
 S:Nat->Option (Option V)
def Cl(O:List Nat)(σ:St)(a:Addr):Prop:=∀j∈O,σ[j]? ≠ some (some (.ref a))
def Cn(c:Fc)(σ:St)(a:Addr):Prop:=c.B a/\Cl c.O σ a
structure Rep (K:Fr0) (c:Fc) (Z:Env) (σ:St) (H:Hp):Prop where
 len:Z.length=σ.length
 val:∀i d,Z[i]? = some (some d)->∃v,σ[i]? = some (some v) /\
  ((i∈c.O/\∃ds a xs,d=.lst ds/\v=.ref a/\H a=some (.lst xs)/\IsL K (Cn c σ) H ds xs)\/(i ∉ c.O/\Is K (Cn c σ) H d v))
 own:∀j∈c.O,∀v,σ[j]? = some (some v)->∃a xs,v=.ref a/\H a=some (.lst xs)/\(c.H0 a=none\/(j∈c.P/\c.Io a))
 inj:∀i j a,i∈c.O->j∈c.O->σ[i]? = some (some (.ref a))->σ[j]? = some (some (.ref a))->i=j
 b0:(∀a,c.H0 a=none->c.B a)/\qlv K c.H0 c.Io
 kp:∀b o,c.H0 b=some o->¬c.Io b->H b=some o
 dm:∀b,H b=none->c.H0 b=none
 pO:∀j∈c.P,j∈c.O
 ps:∀j∈c.P,σ[j]? = c.S j
theorem Rep.tb{K:Fr0}{c:Fc}{Z:Env}{σ:St}{H:Hp}(r:Rep K c Z σ H):qdg K H:=λq P pos e=>⟨r.kp P _ (r.b0.2 q P pos e).1 (r.b0.2 q P pos e).2,λz=>z⟩
structure Gr (O:List Nat) (σ:St) (H H':Hp):Prop where
 ext:Ext (Cl O σ) H H'
 dom:∀b,H' b=none->H b=none
theorem Gr.refl{O:List Nat}{σ:St}{H:Hp}:Gr O σ H H:=⟨Ext.refl,λ_ h=>h⟩
theorem Gr.of_same{O:List Nat}{σ:St}{H H':Hp}(s:zK H H'):Gr O σ H H':=⟨Ext.of_same s,λ_ h=>s.free h⟩
theorem Gr.trans {O:List Nat} {σ:St} {H H1 H2:Hp} (a:Gr O σ H H1) (b:Gr O σ H1 H2):Gr O σ H H2 :=
 ⟨⟨λc xs h=>b.ext.tup c xs (a.ext.tup c xs h),λc o u h=>b.ext.frz c o u (a.ext.frz c o u h),λc o hc h=>b.ext.at_ c o hc (a.ext.at_ c o hc h)⟩,λc h=>a.dom c (b.dom c h)⟩
theorem Gr.cn{c:Fc}{σ:St}{H H':Hp}(g:Gr c.O σ H H'):Ext (Cn c σ) H H':=⟨g.ext.tup,g.ext.frz,λb o hb h=>g.ext.at_ b o hb.2 h⟩
theorem Gr.is{K:Fr0}{c:Fc}{σ:St}{H H':Hp}{d:D}{v:V}(g:Gr c.O σ H H')(h:Is K (Cn c σ) H d v):Is K (Cn c σ) H' d v:=Is.ext g.cn (λ_ h _=>h) h
theorem Gr.isL{K:Fr0}{c:Fc}{σ:St}{H H':Hp}{d:List D}{v:List V}(g:Gr c.O σ H H')(h:IsL K (Cn c σ) H d v):IsL K (Cn c σ) H' d v:=IsL.ext g.cn (λ_ h _=>h) h
theorem Rep.new {K:Fr0} {c:Fc} {Z:Env} {σ:St} {H:Hp} (r:Rep K c Z σ H) {a:Addr} (h:H a=none):Cn c σ a :=
 ⟨r.b0.1 a (r.dm a h),λj hj e=>by obtain⟨b,xs,e1,e2,_⟩:=r.own j hj _ e;cases e1;rw[h]at e2;cases e2⟩
theorem Rep.same {K:Fr0} {c:Fc} {Z:Env} {σ:St} {H H':Hp} (r:Rep K c Z σ H) (s:zK H H'):Rep K c Z σ H' where
 len:=r.len
 val:=λi d h=>by
  obtain⟨v,h1,h2⟩:=r.val i d h
  refine⟨v,h1,?_⟩
  rcases h2 with⟨hi,ds,a,xs,h3,h5,h6,h7⟩|⟨hi,h3⟩
  ·exact .inl ⟨hi,ds,a,xs,h3,h5,s _ _ h6,IsL.ext (Ext.of_same s) (λ_ h _=>h) h7⟩
  ·exact .inr ⟨hi,Is.ext (Ext.of_same s) (λ_ h _=>h) h3⟩
 own:=λj hj v h=>by
  obtain⟨a,xs,h1,h2,h3⟩:=r.own j hj v h
  exact⟨a,xs,h1,s _ _ h2,h3⟩
 inj:=r.inj
 b0:=r.b0
 kp:=λb o h1 h2=>s _ _ (r.kp b o h1 h2)
 dm:=λb h=>r.dm b (s.free h)
 pO:=r.pO
 ps:=r.ps
theorem Rep.get {K:Fr0} {c:Fc} {Z:Env} {σ:St} {H:Hp} (r:Rep K c Z σ H) {i:Nat} {d:D} (hi:i ∉ c.O) (h:Z[i]? = some (some d)):∃v,σ[i]? = some (some v)/\Is K (Cn c σ) H d v:=by
 obtain⟨v,h1,h2⟩:=r.val i d h
 rcases h2 with⟨h3,_⟩|⟨_,h3⟩
 ·exact absurd h3 hi
 ·exact⟨v,h1,h3⟩
theorem Rep.getO {K:Fr0} {c:Fc} {Z:Env} {σ:St} {H:Hp} (r:Rep K c Z σ H) {i:Nat} {d:D} (hi:i∈c.O) (h:Z[i]? = some (some d)) :
  ∃ds a xs,d=.lst ds/\σ[i]? = some (some (.ref a))/\H a=some (.lst xs)/\IsL K (Cn c σ) H ds xs:=by
 obtain⟨v,h1,h2⟩:=r.val i d h
 rcases h2 with⟨_,ds,a,xs,h3,h5,h6,h7⟩|⟨h3,_⟩
 ·subst h5;exact⟨ds,a,xs,h3,h1,h6,h7⟩
 ·exact absurd hi h3
abbrev M(α:Type):=Env->R (α×Env)
def Wp (K:Fr0) (c:Fc) (σ:St) (H:Hp) (Q:VK):R (D×Env)->Prop
 |.ok (d,Z)=>∀v H',Rep K c Z σ H'->Is K (Cn c σ) H' d v->Gr c.O σ H H'->Q v H'
 |.exc x Z=>∀H',Rep K c Z σ H'->Gr c.O σ H H'->c.E x H'
 |.bad=>False
def WpB (K:Fr0) (c:Fc) (σ:St) (H:Hp) (Q:Bool->Hp->Prop):R (Bool×Env)->Prop
 |.ok (b,Z)=>∀H',Rep K c Z σ H'->Gr c.O σ H H'->Q b H'
 |.exc x Z=>∀H',Rep K c Z σ H'->Gr c.O σ H H'->c.E x H'
 |.bad=>False
def WpL (K:Fr0) (c:Fc) (σ:St) (H:Hp) (Q:List V->Hp->Prop):R (List D×Env)->Prop
 |.ok (ds,Z)=>∀vs H',Rep K c Z σ H'->IsL K (Cn c σ) H' ds vs->Gr c.O σ H H'->Q vs H'
 |.exc x Z=>∀H',Rep K c Z σ H'->Gr c.O σ H H'->c.E x H'
 |.bad=>False
def DE(X:Cx)(c:Fc)(e:Expr)(f:M D):Prop:=∃t,PE X e t/\∀Z σ H Q,Rep X.K c Z σ H->Wp X.K c σ H Q (f Z)->t σ H Q
def DT(X:Cx)(c:Fc)(e:Expr)(f:M Bool):Prop:=∃t,PT X e t/\∀Z σ H Q,Rep X.K c Z σ H->WpB X.K c σ H Q (f Z)->t σ H Q
def DA(X:Cx)(c:Fc)(es:List Expr)(f:M (List D)):Prop:=∃t,PA X es t/\∀Z σ H Q,Rep X.K c Z σ H->WpL X.K c σ H Q (f Z)->t σ H Q
def ret{α:Type}(a:α):M α:=λZ => .ok (a,Z)
def bnd {α β:Type} (f:M α) (k:α->M β):M β:=λZ=>match f Z with
 |.ok (a,Z')=>k a Z'
 |.exc x Z' => .exc x Z'
 |.bad => .bad
def lift {α:Type}:Option α->M α
 |some a=>ret a
 |none=>λ_ => .bad
section
variable{K:Fr0}{c:Fc}{σ:St}{H H1:Hp}{Q:VK}{QB:Bool->Hp->Prop}{QL:List V->Hp->Prop}{r:R (D×Env)}
theorem Wp.gr:∀{r:R (D×Env)},Wp K c σ H Q r->Gr c.O σ H H1->Wp K c σ H1 Q r
 |.ok (d,Z),h,g=>λv H' hr hi hg=>h v H' hr hi (g.trans hg)
 |.exc x Z,h,g=>λH' hr hg=>h H' hr (g.trans hg)
 |.bad,h,_=>h
theorem WpB.gr:∀{r:R (Bool×Env)},WpB K c σ H QB r->Gr c.O σ H H1->WpB K c σ H1 QB r
 |.ok (d,Z),h,g=>λH' hr hg=>h H' hr (g.trans hg)
 |.exc x Z,h,g=>λH' hr hg=>h H' hr (g.trans hg)
 |.bad,h,_=>h
theorem WpL.gr:∀{r:R (List D×Env)},WpL K c σ H QL r->Gr c.O σ H H1->WpL K c σ H1 QL r
 |.ok (d,Z),h,g=>λv H' hr hi hg=>h v H' hr hi (g.trans hg)
 |.exc x Z,h,g=>λH' hr hg=>h H' hr (g.trans hg)
 |.bad,h,_=>h
theorem Wp.bnd {f:M D} {k:D->M D} {Z:Env} {Q':VK} (h:Wp K c σ H Q (bnd f k Z)) (hQ:∀d Z' v H',Rep K c Z' σ H'->Is K (Cn c σ) H' d v->Gr c.O σ H H'->Wp K c σ H' Q (k d Z')->Q' v H'):Wp K c σ H Q' (f Z):=by
 unfold Sk.bnd at h
 cases e:f Z with
 |ok p=>rw[e]at h;exact λv H' hr hi hg=>hQ p.1 p.2 v H' hr hi hg (h.gr hg)
 |exc x Z'=>rw[e]at h;exact h
 |bad=>rw[e]at h;exact h
theorem Wp.bndB {f:M D} {k:D->M Bool} {Z:Env} {Q':VK} (h:WpB K c σ H QB (Sk.bnd f k Z)) (hQ:∀d Z' v H',Rep K c Z' σ H'->Is K (Cn c σ) H' d v->Gr c.O σ H H'->WpB K c σ H' QB (k d Z')->Q' v H'):Wp K c σ H Q' (f Z):=by
 unfold Sk.bnd at h
 cases e:f Z with
 |ok p=>rw[e]at h;exact λv H' hr hi hg=>hQ p.1 p.2 v H' hr hi hg (h.gr hg)
 |exc x Z'=>rw[e]at h;exact h
 |bad=>rw[e]at h;exact h
theorem Wp.bndL {f:M D} {k:D->M (List D)} {Z:Env} {Q':VK} (h:WpL K c σ H QL (Sk.bnd f k Z)) (hQ:∀d Z' v H',Rep K c Z' σ H'->Is K (Cn c σ) H' d v->Gr c.O σ H H'->WpL K c σ H' QL (k d Z')->Q' v H'):Wp K c σ H Q' (f Z):=by
 unfold Sk.bnd at h
 cases e:f Z with
 |ok p=>rw[e]at h;exact λv H' hr hi hg=>hQ p.1 p.2 v H' hr hi hg (h.gr hg)
 |exc x Z'=>rw[e]at h;exact h
 |bad=>rw[e]at h;exact h
theorem WpB.bnd {f:M Bool} {k:Bool->M D} {Z:Env} {Q':Bool->Hp->Prop} (h:Wp K c σ H Q (Sk.bnd f k Z)) (hQ:∀d Z' H',Rep K c Z' σ H'->Gr c.O σ H H'->Wp K c σ H' Q (k d Z')->Q' d H'):WpB K c σ H Q' (f Z):=by
 unfold Sk.bnd at h
 cases e:f Z with
 |ok p=>rw[e]at h;exact λH' hr hg=>hQ p.1 p.2 H' hr hg (h.gr hg)
 |exc x Z'=>rw[e]at h;exact h
 |bad=>rw[e]at h;exact h
theorem WpB.bndB {f:M Bool} {k:Bool->M Bool} {Z:Env} {Q':Bool->Hp->Prop} (h:WpB K c σ H QB (Sk.bnd f k Z)) (hQ:∀d Z' H',Rep K c Z' σ H'->Gr c.O σ H H'->WpB K c σ H' QB (k d Z')->Q' d H'):WpB K c σ H Q' (f Z):=by
 unfold Sk.bnd at h
 cases e:f Z with
 |ok p=>rw[e]at h;exact λH' hr hg=>hQ p.1 p.2 H' hr hg (h.gr hg)
 |exc x Z'=>rw[e]at h;exact h
 |bad=>rw[e]at h;exact h
theorem WpL.bnd {f:M (List D)} {k:List D->M D} {Z:Env} {Q':List V->Hp->Prop} (h:Wp K c σ H Q (Sk.bnd f k Z)) (hQ:∀d Z' v H',Rep K c Z' σ H'->IsL K (Cn c σ) H' d v->Gr c.O σ H H'->Wp K c σ H' Q (k d Z')->Q' v H'):WpL K c σ H Q' (f Z):=by
 unfold Sk.bnd at h
 cases e:f Z with
 |ok p=>rw[e]at h;exact λv H' hr hi hg=>hQ p.1 p.2 v H' hr hi hg (h.gr hg)
 |exc x Z'=>rw[e]at h;exact h
 |bad=>rw[e]at h;exact h
theorem WpL.bndL {f:M (List D)} {k:List D->M (List D)} {Z:Env} {Q':List V->Hp->Prop} (h:WpL K c σ H QL (Sk.bnd f k Z)) (hQ:∀d Z' v H',Rep K c Z' σ H'->IsL K (Cn c σ) H' d v->Gr c.O σ H H'->WpL K c σ H' QL (k d Z')->Q' v H'):WpL K c σ H Q' (f Z):=by
 unfold Sk.bnd at h
 cases e:f Z with
 |ok p=>rw[e]at h;exact λv H' hr hi hg=>hQ p.1 p.2 v H' hr hi hg (h.gr hg)
 |exc x Z'=>rw[e]at h;exact h
 |bad=>rw[e]at h;exact h
theorem Wp.lift {o:Option D} {Z:Env} (h:Wp K c σ H Q (Sk.lift o Z)):∃d,o=some d/\∀v H',Rep K c Z σ H'->Is K (Cn c σ) H' d v->Gr c.O σ H H'->Q v H':=by
 cases o with
 |none=>exact h.elim
 |some d=>exact⟨d,rfl,h⟩
end
section
variable{X:Cx}{c:Fc}{a b e:Expr}{pos:Pos}
theorem qj{i j pos}:DE X c (.Constant (.int i) j pos) (ret (.int i)):=⟨_,qh9,λ_ _ H Q r h=>h _ H r rfl .refl⟩
theorem uG{i j pos}:DE X c (.Constant (.bool i) j pos) (ret (.bl i)):=⟨_,qkq,λ_ _ H Q r h=>h _ H r rfl .refl⟩
theorem jG{j pos}:DE X c (.Constant .none j pos) (ret .non):=⟨_,qia,λ_ _ H Q r h=>h _ H r rfl .refl⟩
theorem yn{x j pos}:DE X c (.Constant (.str x) j pos) (ret (.str x)):=⟨_,qfD,λ_ _ H Q r h=>h _ H r rfl .refl⟩
def dv (i:Nat):M D:=λZ=>match Z[i]? with
 |some (some d) => .ok (d,Z)
 |_ => .bad
theorem qc (i:Nat) {x:Str} (ho:i ∉ c.O:=by exact of_decide_eq_false rfl) (hN:X.N[i]? = some x:=by rfl) (hv:Vis X.env.scope x:=by first|exact ya0 rfl|exact yaF (ya0 rfl)|exact yaF (yaF rfl)) (hd:(x==("__debug__":Str))=false:=by decide)
  (hcd:(x==("__classdict__":Str))=false:=by decide):DE X c (.Name x pos) (dv i):=by
 refine⟨_,uF hN hv hd hcd,λZ σ H Q r h=>?_⟩
 unfold dv at h
 split at h
 ·rename_i d e
  obtain⟨v,h1,h2⟩:=r.get ho e
  exact⟨v,h1,h v H r h2 .refl⟩
 ·exact h.elim
theorem qdh {x:Str} {v:V} {u:Value} {d:D} (hg:Gl X x) (hm:X.mg x=some u) (rv:jm v u) (hd:∀H A,Is X.K A H d v) (hdb:(x==("__debug__":Str))=false:=by decide):DE X c (.Name x pos) (ret d) :=
 ⟨_,qgo hg hm rv hdb,λ_ _ H Q r h=>h _ H r (hd _ _) .refl⟩
theorem qf:DA X c [] (ret []):=⟨_,wB,λ_ _ H Q r h=>h _ H r rfl .refl⟩
def qa(f:M D)(g:M (List D)):M (List D):=bnd f λd=>bnd g λds=>ret (d::ds)
theorem qb {es:List Expr} {f:M D} {g:M (List D)} (ha:DE X c e f) (hr:DA X c es g) (hs:yag (e::es) X.env=(false,eval e X.env)::yag es X.env:=by rfl):DA X c (e::es) (qa f g):=by
 obtain⟨ta,pa,wa⟩:=ha
 obtain⟨tr,pr,wr⟩:=hr
 refine⟨_,yU pa pr hs,λZ σ H Q r h=>wa Z σ H _ r (Wp.bndL h λd Z1 v H1 r1 i1 g1 h1=>wr Z1 σ H1 _ r1 (WpL.bndL h1 λds Z2 vs H2 r2 i2 g2 h2=>?_))⟩
 exact h2 _ H2 r2 ⟨v,vs,rfl,g2.is i1,i2⟩ .refl
def qG(n:Nat):Bool:=decide (n<=yaq)
def qfL(f:M (List D)):M D:=bnd f λds=>lift (if qG ds.length then some (.tup ds)else none)
def vG(f:M (List D)):M D:=bnd f λds=>lift (if qG ds.length then some (.lst ds)else none)
theorem qv{H:Hp}{p:Addr}(h:H p=none)(o:HO):zK H (upd H p o):=λb u q=>by rw[qu (qE q h)];exact q
theorem Rep.laid{K:Fr0}{Z:Env}{σ:St}{H:Hp}(r:Rep K c Z σ H){p:Addr}(h:H p=none)(o:HO):Rep K c Z σ (upd H p o):=r.same (qv h o)
theorem zH {p:Bool} {d e:D} (h:(if p then some d else none)=some e):p=true/\d=e:=by
 cases p with
 |true=>exact⟨rfl,by simpa using h⟩
 |false=>simp at h
theorem qbV {es:List Expr} {x1} {f:M (List D)} (h:DA X c es f):DE X c (.Tuple es x1 pos) (qfL f):=by
 obtain⟨t,p,w⟩:=h
 refine⟨_,qiw p,λZ σ H Q r h=>w Z σ H _ r (WpL.bnd h λds Z1 vs H1 r1 i1 g1 h1=>?_)⟩
 obtain⟨d,e,h2⟩:=h1.lift
 obtain⟨e1,e2⟩:=zH e
 subst e2
 refine⟨by rw[i1.length];exact of_decide_eq_true e1,λp hp=>h2 _ _ (r1.laid hp _) ⟨p,vs,rfl,.inl qt,IsL.ext (Ext.of_same (qv hp _)) (λ_ h _=>h) i1⟩ (.of_same (qv hp _))⟩
theorem vH {es:List Expr} {f:M (List D)} (h:DA X c es f):DE X c (.List es pos) (vG f):=by
 obtain⟨t,p,w⟩:=h
 refine⟨_,qfJ p,λZ σ H Q r h=>w Z σ H _ r (WpL.bnd h λds Z1 vs H1 r1 i1 g1 h1=>?_)⟩
 obtain⟨d,e,h2⟩:=h1.lift
 obtain⟨e1,e2⟩:=zH e
 subst e2
 refine⟨by rw[i1.length];exact of_decide_eq_true e1,λp hp=>h2 _ _ (r1.laid hp _) ⟨p,vs,rfl,r1.new hp,qt,IsL.ext (Ext.of_same (qv hp _)) (λ_ h _=>h) i1⟩ (.of_same (qv hp _))⟩
def OpS (K:Fr0) (F:D->D->Option D) (r:R2):Prop:=∀(A:Addr->Prop)(H:Hp)(x y d:D)(v u:V)(Q:VK),(∀a,H a=none->A a)->Is K A H x v->Is K A H y u->F x y=some d ->
 (∀w H',zK H H'->Is K A H' d w->Q w H')->r v u H Q
def d2(F:D->D->Option D)(f g:M D):M D:=bnd f λx=>bnd g λy=>lift (F x y)
theorem op2 {r:R2} {F:D->D->Option D} {f g:M D} {ta tb:TE} (hF:OpS X.K F r) (wa:∀Z σ H Q,Rep X.K c Z σ H->Wp X.K c σ H Q (f Z)->ta σ H Q) (wb:∀Z σ H Q,Rep X.K c Z σ H->Wp X.K c σ H Q (g Z)->tb σ H Q) :
  ∀Z σ H Q,Rep X.K c Z σ H->Wp X.K c σ H Q (d2 F f g Z)->tOp r ta tb σ H Q:=λZ σ H Q rp h=>wa Z σ H _ rp (Wp.bnd h λx Z1 v H1 r1 i1 g1 h1=>wb Z1 σ H1 _ r1 (Wp.bnd h1 λy Z2 u H2 r2 i2 g2 h2=>by
 obtain⟨d,e,h3⟩:=h2.lift
 exact hF _ H2 x y d v u Q (λa ha=>r2.new ha) (g2.is i1) i2 e λw H' s i=>h3 w H' (r2.same s) i (.of_same s)))
theorem qC {op:Operator} {r:R2} {F:D->D->Option D} {f g:M D} (ho:OpR X (ya9 op) r) (hF:OpS X.K F r) (ha:DE X c a f) (hb:DE X c b g):DE X c (.BinOp a op b pos) (d2 F f g):=by
 obtain⟨ta,pa,wa⟩:=ha
 obtain⟨tb,pb,wb⟩:=hb
 exact⟨_,qkC ho pa pb,op2 hF wa wb⟩
theorem uw {op:CmpOp} {r:R2} {F:D->D->Option D} {f g:M D} (ho:OpR X (yaJ op) r) (hF:OpS X.K F r) (ha:DE X c a f) (hb:DE X c b g) (hm:ybi op b=false):DE X c (.Compare a [op] [b] pos) (d2 F f g):=by
 obtain⟨ta,pa,wa⟩:=ha
 obtain⟨tb,pb,wb⟩:=hb
 exact⟨_,qgy ho pa pb hm,op2 hF wa wb⟩
def asB:D->Option Bool
 |.bl b=>some b
 |_=>none
def tst(f:M D):M Bool:=bnd f λd=>lift (asB d)
theorem qbW {K:Fr0} {σ:St} {H:Hp} {QB:Bool->Hp->Prop} {o:Option Bool} {Z:Env} (h:WpB K c σ H QB (lift o Z)):∃b,o=some b/\∀H',Rep K c Z σ H'->Gr c.O σ H H'->QB b H':=by
 cases o with
 |none=>exact h.elim
 |some d=>exact⟨d,rfl,h⟩
theorem wY {d:D} {b:Bool} (h:asB d=some b):d=.bl b:=by
 cases d<;>simp[asB]at h
 subst h;rfl
theorem qN {op:CmpOp} {r:R2} {F:D->D->Option D} {f g:M D} (ho:OpR X (yaJ op) r) (hF:OpS X.K F r) (ha:DE X c a f) (hb:DE X c b g) (hm:ybi op b=false):DT X c (.Compare a [op] [b] pos) (tst (d2 F f g)):=by
 obtain⟨ta,pa,wa⟩:=ha
 obtain⟨tb,pb,wb⟩:=hb
 refine⟨_,qc7 ho pa pb hm,λZ σ H Q rp h=>op2 hF wa wb Z σ H _ rp (Wp.bndB h λd Z1 v H1 r1 i1 g1 h1=>?_)⟩
 obtain⟨b,e,h2⟩:=qbW h1
 have:=wY e
 subst this
 exact⟨b,i1,h2 H1 r1 .refl⟩
theorem yo {f:M D} (h:DE X c e f) (he:∀whole,isTrue e X.env whole=(do let v <-whole;standAt e.pos;ycJ [v] (truthy v)):=by intro _;rfl):DT X c e (tst f):=by
 obtain⟨t,p,w⟩:=h
 refine⟨_,qib p he,λZ σ H Q rp h=>w Z σ H _ rp (Wp.bndB h λd Z1 v H1 r1 i1 g1 h1=>?_)⟩
 obtain⟨b,e,h2⟩:=qbW h1
 have:=wY e
 subst this
 exact⟨b,i1,h2 H1 r1 .refl⟩
def qbg(f:M Bool):M Bool:=bnd f λb=>ret (!b)
theorem yR {f:M Bool} (h:DT X c a f):DT X c (.UnaryOp .Not a pos) (qbg f):=by
 obtain⟨t,p,w⟩:=h
 exact⟨_,qie p,λZ σ H Q rp h=>w Z σ H _ rp (WpB.bndB h λd Z1 H1 r1 g1 h1=>h1 H1 r1 .refl)⟩
def DW(X:Cx)(c:Fc)(e:Expr)(f:M Bool):Prop:=∃t,PW X e t/\∀Z σ H Q,Rep X.K c Z σ H->WpB X.K c σ H Q (f Z)->t σ H Q
theorem DW.dt {f:M Bool} (h:DW X c e f):DT X c e f:=by
 obtain⟨t,p,w⟩:=h
 exact⟨t,p.pt,w⟩
def qbo(f g:M Bool):M Bool:=bnd f λb=>if b then g else ret false
def tor(f g:M Bool):M Bool:=bnd f λb=>if b then ret true else g
variable{vn:List Expr}
theorem qbp {f:M Bool} (h:DT X c a f):DW X c (.BoolOp .And [a] pos) f:=by
 obtain⟨t,p,w⟩:=h
 exact⟨t,qgq p,w⟩
theorem uH {f:M Bool} (h:DT X c a f):DW X c (.BoolOp .Or [a] pos) f:=by
 obtain⟨t,p,w⟩:=h
 exact⟨t,qic p,w⟩
theorem qdi {f g:M Bool} (ha:DT X c a f) (hb:DW X c (.BoolOp .And (b::vn) pos) g):DW X c (.BoolOp .And (a::b::vn) pos) (qbo f g):=by
 obtain⟨ta,pa,wa⟩:=ha
 obtain⟨tb,pb,wb⟩:=hb
 refine⟨_,qid pa pb,λZ σ H Q rp h=>wa Z σ H _ rp (WpB.bndB h λd Z1 H1 r1 g1 h1=>?_)⟩
 cases d with
 |true=>exact qhW (wb Z1 σ H1 Q r1 (by simpa using h1))
 |false=>exact qhV ((by simpa using h1:WpB X.K c σ H1 Q (ret false Z1)) H1 r1 .refl)
theorem wx {f g:M Bool} (ha:DT X c a f) (hb:DW X c (.BoolOp .Or (b::vn) pos) g):DW X c (.BoolOp .Or (a::b::vn) pos) (tor f g):=by
 obtain⟨ta,pa,wa⟩:=ha
 obtain⟨tb,pb,wb⟩:=hb
 refine⟨_,qkr pa pb,λZ σ H Q rp h=>wa Z σ H _ rp (WpB.bndB h λd Z1 H1 r1 g1 h1=>?_)⟩
 cases d with
 |true=>exact qhW ((by simpa using h1:WpB X.K c σ H1 Q (ret true Z1)) H1 r1 .refl)
 |false=>exact qhV (wb Z1 σ H1 Q r1 (by simpa using h1))
def qkf(f:M D):M D:=bnd f λd=>bnd (lift (asB d)) λb=>ret (.bl (!b))
def qbq(f g:M D):M D:=bnd f λd=>bnd (lift (asB d)) λb=>if b then g else ret (.bl false)
def dor(f g:M D):M D:=bnd f λd=>bnd (lift (asB d)) λb=>if b then ret (.bl true)else g
theorem qdj {K:Fr0} {σ:St} {H:Hp} {Q:VK} {d:D} {k:Bool->M D} {Z:Env} (h:Wp K c σ H Q (bnd (lift (asB d)) k Z)):∃b,d=.bl b/\Wp K c σ H Q (k b Z):=by
 unfold bnd at h
 cases e:asB d with
 |none=>rw[e]at h;exact h.elim
 |some b=>rw[e]at h;exact⟨b,wY e,h⟩
theorem vd {op} {f:M D} (h:DE X c a f):DE X c (.BoolOp op [a] pos) f:=by
 obtain⟨t,p,w⟩:=h
 exact⟨t,qif p,w⟩
theorem qiM {f:M D} (h:DE X c a f):DE X c (.UnaryOp .Not a pos) (qkf f):=by
 obtain⟨t,p,w⟩:=h
 refine⟨_,qih p,λZ σ H Q rp h=>w Z σ H _ rp (Wp.bnd h λd Z1 v H1 r1 i1 g1 h1=>?_)⟩
 obtain⟨b,e,h2⟩:=qdj h1
 subst e
 exact⟨b,i1,h2 _ H1 r1 rfl .refl⟩
theorem qaJ {f g:M D} (ha:DE X c a f) (hb:DE X c (.BoolOp .And (b::vn) pos) g):DE X c (.BoolOp .And (a::b::vn) pos) (qbq f g):=by
 obtain⟨ta,pa,wa⟩:=ha
 obtain⟨tb,pb,wb⟩:=hb
 refine⟨_,qig pa pb,λZ σ H Q rp h=>wa Z σ H _ rp (Wp.bnd h λd Z1 v H1 r1 i1 g1 h1=>?_)⟩
 obtain⟨k,e,h2⟩:=qdj h1
 subst e
 refine⟨k,i1,?_⟩
 cases k with
 |true=>exact qhW (wb Z1 σ H1 Q r1 (by simpa using h2))
 |false=>exact qhV ((by simpa using h2:Wp X.K c σ H1 Q (ret (.bl false) Z1)) _ H1 r1 rfl .refl)
theorem qgF {f g:M D} (ha:DE X c a f) (hb:DE X c (.BoolOp .Or (b::vn) pos) g):DE X c (.BoolOp .Or (a::b::vn) pos) (dor f g):=by
 obtain⟨ta,pa,wa⟩:=ha
 obtain⟨tb,pb,wb⟩:=hb
 refine⟨_,qku pa pb,λZ σ H Q rp h=>wa Z σ H _ rp (Wp.bnd h λd Z1 v H1 r1 i1 g1 h1=>?_)⟩
 obtain⟨k,e,h2⟩:=qdj h1
 subst e
 refine⟨k,i1,?_⟩
 cases k with
 |true=>exact qhW ((by simpa using h2:Wp X.K c σ H1 Q (ret (.bl true) Z1)) _ H1 r1 rfl .refl)
 |false=>exact qhV (wb Z1 σ H1 Q r1 (by simpa using h2))
def dif(f:M Bool)(g k:M D):M D:=bnd f λb=>if b then g else k
theorem qdk {t:Expr} {f:M Bool} {g k:M D} (ht:DT X c t f) (ha:DE X c a g) (hb:DE X c b k):DE X c (.IfExp t a b pos) (dif f g k):=by
 obtain⟨tt,pt,wt⟩:=ht
 obtain⟨ta,pa,wa⟩:=ha
 obtain⟨tb,pb,wb⟩:=hb
 refine⟨_,qes pt pa pb,λZ σ H Q rp h=>wt Z σ H _ rp (WpB.bnd h λd Z1 H1 r1 g1 h1=>?_)⟩
 cases d with
 |true=>exact qhW (wa Z1 σ H1 Q r1 (by simpa using h1))
 |false=>exact qhV (wb Z1 σ H1 Q r1 (by simpa using h1))
def uI (K:Fr0) (F:List D->Option D) (r:List V->Hp->VK->Prop):Prop:=∀(A:Addr->Prop)(H:Hp)(xs:List D)(d:D)(vs:List V)(Q:VK),(∀a,H a=none->A a)->IsL K A H xs vs->F xs=some d ->
 (∀w H',zK H H'->Is K A H' d w->Q w H')->r vs H Q
def qV(F:List D->Option D)(f:M (List D)):M D:=bnd f λds=>lift (F ds)
theorem qiN {r:List V->Hp->VK->Prop} {F:List D->Option D} {f:M (List D)} {t:TA} (hF:uI X.K F r) (w:∀Z σ H Q,Rep X.K c Z σ H->WpL X.K c σ H Q (f Z)->t σ H Q) :
  ∀Z σ H Q,Rep X.K c Z σ H->Wp X.K c σ H Q (qV F f Z)->tCB r t σ H Q:=λZ σ H Q rp h=>w Z σ H _ rp (WpL.bnd h λds Z1 vs H1 r1 i1 g1 h1=>by
 obtain⟨d,e,h3⟩:=h1.lift
 exact hF _ H1 ds d vs Q (λa ha=>r1.new ha) i1 e λw H' s i=>h3 w H' (r1.same s) i (.of_same s))
theorem qX {id:String} {x:Str} {p:Pos} {es:List Expr} {r:List V->Hp->VK->Prop} {F:List D->Option D} {f:M (List D)} (hc:jV X (.builtin id) r) (hF:uI X.K F r) (hg:Gl X x) (hm:X.mg x=none) (hv:yaA x=some (.builtin id)) (ha:DA X c (e::es) f) (hn:x≠"__name__":=by decide) (hdb:(x==("__debug__":Str))=false:=by decide)
  (he:yag (e::es) X.env=(false,eval e X.env)::yag es X.env:=by rfl) (hpl:(yaE pos (yag es X.env)).any (·.1)=false:=by rfl):DE X c (.Call (.Name x p) (e::es) [] pos) (qV F f):=by
 obtain⟨t,pa,w⟩:=ha
 exact⟨_,wU hc hg hm hv pa hn hdb he hpl,qiN hF w⟩
theorem jW {T:String} {x:Str} {p:Pos} {es:List Expr} {r:List V->Hp->VK->Prop} {F:List D->Option D} {f:M (List D)} (hc:jV X (.type T) r) (hF:uI X.K F r) (hg:Gl X x) (hm:X.mg x=none) (hv:yaA x=some (.type T)) (ha:DA X c (e::es) f) (hn:x≠"__name__":=by decide) (hdb:(x==("__debug__":Str))=false:=by decide)
  (he:yag (e::es) X.env=(false,eval e X.env)::yag es X.env:=by rfl) (hpl:(yaE pos (yag es X.env)).any (·.1)=false:=by rfl):DE X c (.Call (.Name x p) (e::es) [] pos) (qV F f):=by
 obtain⟨t,pa,w⟩:=ha
 exact⟨_,qaD hc hg hm hv pa hn hdb he hpl,qiN hF w⟩
theorem qZ {r:R2} {F:D->D->Option D} {f g:M D} (hr:IxR X r) (hF:OpS X.K F r) (ha:DE X c a f) (hb:DE X c b g) (hs:qbm b:=by intro _ _;rfl):DE X c (.Subscript a b pos) (d2 F f g):=by
 obtain⟨ta,pa,wa⟩:=ha
 obtain⟨tb,pb,wb⟩:=hb
 exact⟨_,qiA hr pa pb hs,op2 hF wa wb⟩
end
inductive Fl where
 |nx (Z:Env)|rt (d:D) (Z:Env)|bk (Z:Env)|ct (Z:Env)
structure GrS (O:List Nat) (σ:St) (H:Hp) (σ':St) (H':Hp):Prop where
 ext:Ext (Cl O σ) H H'
 cl:∀b,Cl O σ b->(H b).isSome=true->Cl O σ' b
 dom:∀b,H' b=none->H b=none
theorem qct {H H':Hp} {b:Addr} (dom:H' b=none->H b=none) (h:(H b).isSome=true):(H' b).isSome=true:=by
 cases e:H' b with
 |none=>rw[dom e]at h;cases h
 |some o=>rfl
theorem GrS.refl{O:List Nat}{σ:St}{H:Hp}:GrS O σ H σ H:=⟨Ext.refl,λ_ h _=>h,λ_ h=>h⟩
theorem Gr.s{O:List Nat}{σ:St}{H H':Hp}(g:Gr O σ H H'):GrS O σ H σ H':=⟨g.ext,λ_ h _=>h,g.dom⟩
theorem GrS.trans {O:List Nat} {σ σ1 σ2:St} {H H1 H2:Hp} (a:GrS O σ H σ1 H1) (b:GrS O σ1 H1 σ2 H2):GrS O σ H σ2 H2 :=
 ⟨⟨λc xs h=>b.ext.tup c xs (a.ext.tup c xs h),λc o u h=>b.ext.frz c o u (a.ext.frz c o u h),λc o hc h=>b.ext.at_ c o (a.cl c hc (by rw[h];rfl)) (a.ext.at_ c o hc h)⟩,
  λc hc h=>b.cl c (a.cl c hc h) (qct (a.dom c) h),λc h=>a.dom c (b.dom c h)⟩
theorem GrS.is {K:Fr0} {c:Fc} {σ σ':St} {H H':Hp} {d:D} {v:V} (g:GrS c.O σ H σ' H') (h:Is K (Cn c σ) H d v):Is K (Cn c σ') H' d v :=
 Is.ext ⟨g.ext.tup,g.ext.frz,λb o hb h=>g.ext.at_ b o hb.2 h⟩ (λa ha hs=>⟨ha.1,g.cl a ha.2 hs⟩) h
theorem GrS.isL {K:Fr0} {c:Fc} {σ σ':St} {H H':Hp} {d:List D} {v:List V} (g:GrS c.O σ H σ' H') (h:IsL K (Cn c σ) H d v):IsL K (Cn c σ') H' d v :=
 IsL.ext ⟨g.ext.tup,g.ext.frz,λb o hb h=>g.ext.at_ b o hb.2 h⟩ (λa ha hs=>⟨ha.1,g.cl a ha.2 hs⟩) h
def WpS (K:Fr0) (c:Fc) (σ:St) (H:Hp) (D:qen):R Fl->Prop
 |.ok (.nx Z)=>∀σ' H',Rep K c Z σ' H'->GrS c.O σ H σ' H'->D.nx σ' H'
 |.ok (.rt d Z)=>∀v σ' H',Rep K c Z σ' H'->Is K c.B H' d v->GrS c.O σ H σ' H'->D.rt v H'
 |.ok (.bk Z)=>∀σ' H',Rep K c Z σ' H'->GrS c.O σ H σ' H'->D.bk σ' H'
 |.ok (.ct Z)=>∀σ' H',Rep K c Z σ' H'->GrS c.O σ H σ' H'->D.ct σ' H'
 |.exc x Z=>∀σ' H',Rep K c Z σ' H'->GrS c.O σ H σ' H'->c.E x H'
 |.bad=>False
abbrev MS:=Env->R Fl
def DS(X:Cx)(c:Fc)(st:Stmt)(f:MS):Prop:=∃t,PS X st t/\∀Z σ H D,Rep X.K c Z σ H->WpS X.K c σ H D (f Z)->t D σ H
def DSs(X:Cx)(c:Fc)(st:List Stmt)(f:MS):Prop:=∃t,PSs X st t/\∀Z σ H D,Rep X.K c Z σ H->WpS X.K c σ H D (f Z)->t D σ H
theorem WpS.gr {K:Fr0} {c:Fc} {σ σ1:St} {H H1:Hp} {D:qen}:∀{r:R Fl},WpS K c σ H D r->GrS c.O σ H σ1 H1->WpS K c σ1 H1 D r
 |.ok (.nx Z),h,g=>λσ' H' hr hg=>h σ' H' hr (g.trans hg)
 |.ok (.rt d Z),h,g=>λv σ' H' hr hi hg=>h v σ' H' hr hi (g.trans hg)
 |.ok (.bk Z),h,g=>λσ' H' hr hg=>h σ' H' hr (g.trans hg)
 |.ok (.ct Z),h,g=>λσ' H' hr hg=>h σ' H' hr (g.trans hg)
 |.exc x Z,h,g=>λσ' H' hr hg=>h σ' H' hr (g.trans hg)
 |.bad,h,_=>h
def sbnd {α:Type} (f:M α) (k:α->MS):MS:=λZ=>match f Z with
 |.ok (a,Z')=>k a Z'
 |.exc x Z' => .exc x Z'
 |.bad => .bad
section
variable{K:Fr0}{c:Fc}{σ:St}{H:Hp}{D:qen}
theorem Wp.sbnd {f:M Sk.D} {k:Sk.D->MS} {Z:Env} {Q':VK} (h:WpS K c σ H D (sbnd f k Z)) (hQ:∀d Z' v H',Rep K c Z' σ H'->Is K (Cn c σ) H' d v->Gr c.O σ H H'->WpS K c σ H' D (k d Z')->Q' v H'):Wp K c σ H Q' (f Z):=by
 unfold Sk.sbnd at h
 cases e:f Z with
 |ok p=>rw[e]at h;exact λv H' hr hi hg=>hQ p.1 p.2 v H' hr hi hg (h.gr hg.s)
 |exc x Z'=>rw[e]at h;exact λH' hr hg=>h σ H' hr hg.s
 |bad=>rw[e]at h;exact h
theorem WpB.sbnd {f:M Bool} {k:Bool->MS} {Z:Env} {Q':Bool->Hp->Prop} (h:WpS K c σ H D (sbnd f k Z)) (hQ:∀d Z' H',Rep K c Z' σ H'->Gr c.O σ H H'->WpS K c σ H' D (k d Z')->Q' d H'):WpB K c σ H Q' (f Z):=by
 unfold Sk.sbnd at h
 cases e:f Z with
 |ok p=>rw[e]at h;exact λH' hr hg=>hQ p.1 p.2 H' hr hg (h.gr hg.s)
 |exc x Z'=>rw[e]at h;exact λH' hr hg=>h σ H' hr hg.s
 |bad=>rw[e]at h;exact h
theorem WpL.sbnd {f:M (List Sk.D)} {k:List Sk.D->MS} {Z:Env} {Q':List V->Hp->Prop} (h:WpS K c σ H D (sbnd f k Z)) (hQ:∀d Z' v H',Rep K c Z' σ H'->IsL K (Cn c σ) H' d v->Gr c.O σ H H'->WpS K c σ H' D (k d Z')->Q' v H'):WpL K c σ H Q' (f Z):=by
 unfold Sk.sbnd at h
 cases e:f Z with
 |ok p=>rw[e]at h;exact λv H' hr hi hg=>hQ p.1 p.2 v H' hr hi hg (h.gr hg.s)
 |exc x Z'=>rw[e]at h;exact λH' hr hg=>h σ H' hr hg.s
 |bad=>rw[e]at h;exact h
end
def qz (f g:MS):MS:=λZ=>match f Z with
 |.ok (.nx Z')=>g Z'
 |r=>r
theorem WpS.mono_nx {K:Fr0} {c:Fc} {σ:St} {H:Hp} {D:qen} {f g:MS} {Z:Env} {N:St->Hp->Prop} (h:WpS K c σ H D (qz f g Z)) (hN:∀Z' σ' H',Rep K c Z' σ' H'->GrS c.O σ H σ' H'->WpS K c σ' H' D (g Z')->N σ' H') :
  WpS K c σ H {D with nx:=N} (f Z):=by
 unfold qz at h
 cases e:f Z with
 |ok fl=>
  rw[e]at h
  cases fl with
  |nx Z'=>exact λσ' H' hr hg=>hN Z' σ' H' hr hg (h.gr hg)
  |rt d Z'=>exact h
  |bk Z'=>exact h
  |ct Z'=>exact h
 |exc x Z'=>rw[e]at h;exact h
 |bad=>rw[e]at h;exact h
section
variable{X:Cx}{c:Fc}{a b e:Expr}{pos:Pos}{st:Stmt}{sts:List Stmt}
theorem qgG:DSs X c [] (λZ => .ok (.nx Z)):=⟨_,qgr,λZ σ H D r h=>h σ H r .refl⟩
theorem qh {f:MS} (h:DS X c st f):DSs X c [st] f:=by
 obtain⟨t,p,w⟩:=h
 exact⟨t,qgs p,w⟩
theorem qg {f g:MS} (h:DS X c st f) (hr:DSs X c sts g):DSs X c (st::sts) (qz f g):=by
 obtain⟨t,p,w⟩:=h
 obtain⟨t2,p2,w2⟩:=hr
 exact⟨_,qet p p2,λZ σ H D r h=>w Z σ H _ r (h.mono_nx λZ' σ' H' r' g' h'=>w2 Z' σ' H' D r' h')⟩
def zl(f:M D):MS:=sbnd f λd Z => .ok (.rt d Z)
theorem Is.cn{K:Fr0}{σ:St}{H:Hp}{d:D}{v:V}(h:Is K (Cn c σ) H d v):Is K c.B H d v:=Is.ext Ext.refl (λ_ h _=>h.1) h
theorem qw {f:M D} (h:DE X c e f):DS X c (.Return (some e) pos) (zl f):=by
 obtain⟨t,p,w⟩:=h
 exact⟨_,qii p,λZ σ H D r h=>w Z σ H _ r (Wp.sbnd h λd Z1 v H1 r1 i1 g1 h1=>h1 v σ H1 r1 i1.cn .refl)⟩
def yu(f:M D):MS:=sbnd f λ_ Z => .ok (.nx Z)
theorem z5 {f:M D} (h:DE X c e f) (hs:ydD e none pos.line X.env=pure false:=by rfl):DS X c (.Expr e pos) (yu f):=by
 obtain⟨t,p,w⟩:=h
 exact⟨_,qgt p hs,λZ σ H D r h=>w Z σ H _ r (Wp.sbnd h λd Z1 v H1 r1 i1 g1 h1=>h1 σ H1 r1 .refl)⟩
def sif(f:M Bool)(g k:MS):MS:=sbnd f λb=>if b then g else k
theorem zY {t:Expr} {s1 s2:List Stmt} {f:M Bool} {g k:MS} (ht:DT X c t f) (ha:DSs X c s1 g) (hb:DSs X c s2 k):DS X c (.If t s1 s2 pos) (sif f g k):=by
 obtain⟨tt,pt,wt⟩:=ht
 obtain⟨ta,pa,wa⟩:=ha
 obtain⟨tb,pb,wb⟩:=hb
 refine⟨_,qkx pt pa pb,λZ σ H D rp h=>wt Z σ H _ rp (WpB.sbnd h λd Z1 H1 r1 g1 h1=>?_)⟩
 cases d with
 |true=>exact qhW (wa Z1 σ H1 D r1 (by simpa using h1))
 |false=>exact qhV (wb Z1 σ H1 D r1 (by simpa using h1))
theorem qeE:DS X c st (λ_ => .bad):=⟨_,qeu,λZ σ H D rp h=>h.elim⟩
theorem zg{α:Type}{l:List α}{i j:Nat}{v:α}(h:j≠i):(l.set i v)[j]? = l[j]? := List.getElem?_set_ne (ybz h)
theorem Cl.set {O:List Nat} {σ:St} {i:Nat} {v:Option V} (hi:i ∉ O) (a:Addr):Cl O (σ.set i v) a ↔ Cl O σ a:=by
 constructor
 ·intro h j hj
  have e:j≠i:=λe=>hi (e▸hj)
  have:=h j hj
  rw[zg e]at this
  exact this
 ·intro h j hj
  have e:j≠i:=λe=>hi (e▸hj)
  rw[zg e]
  exact h j hj
theorem Rep.set {K:Fr0} {Z:Env} {σ:St} {H:Hp} {i:Nat} {d:D} {v:V} (r:Rep K c Z σ H) (hi:i ∉ c.O) (h:Is K (Cn c σ) H d v):Rep K c (Z.set i (some d)) (σ.set i (some v)) H where
 len:=by rw[lS_,lS_];exact r.len
 val := λj e hj=>by
  have up:∀{d':D}{v':V},Is K (Cn c σ) H d' v'->Is K (Cn c (σ.set i (some v))) H d' v':=λh=>Is.ext Ext.refl (λa ha _=>⟨ha.1,(Cl.set hi a).mpr ha.2⟩) h
  by_cases e1:j=i
  ·subst e1
   have hl:j<Z.length:=by
    have:=(gI_.mp hj).1
    rwa [lS_]at this
   rw[List.getElem?_set_self hl]at hj
   cases hj
   refine⟨v,List.getElem?_set_self (by rw[<-r.len];exact hl),.inr ⟨hi,up h⟩⟩
  ·rw[zg e1]at hj
   obtain⟨w,h1,h2⟩:=r.val j e hj
   refine⟨w,by rw[zg e1];exact h1,?_⟩
   rcases h2 with⟨hj2,ds,a,xs,h3,h5,h6,h7⟩|⟨h3,h4⟩
   ·exact .inl ⟨hj2,ds,a,xs,h3,h5,h6,IsL.ext Ext.refl (λa ha _=>⟨ha.1,(Cl.set hi a).mpr ha.2⟩) h7⟩
   ·exact .inr ⟨h3,up h4⟩
 own:=λj hj w h=>by
  have e1:j≠i:=λe=>hi (e▸hj)
  rw[zg e1]at h
  exact r.own j hj w h
 inj:=λj k a hj hk h1 h2=>by
  have e1:j≠i:=λe=>hi (e▸hj)
  have e2:k≠i:=λe=>hi (e▸hk)
  rw[zg e1]at h1
  rw[zg e2]at h2
  exact r.inj j k a hj hk h1 h2
 b0:=r.b0
 kp:=r.kp
 dm:=r.dm
 pO:=r.pO
 ps:=λj hj=>by
  have e:j≠i:=λe=>hi (e▸r.pO j hj)
  rw[zg e];exact r.ps j hj
theorem GrS.set{O:List Nat}{σ:St}{H:Hp}{i:Nat}{v:Option V}(hi:i ∉ O):GrS O σ H (σ.set i v) H:=⟨Ext.refl,λb h _=>(Cl.set hi b).mpr h,λ_ h=>h⟩
def zu(i:Nat)(f:M D):MS:=sbnd f λd Z => .ok (.nx (Z.set i (some d)))
theorem qO {i:Nat} {x:Str} {pos':Pos} {f:M D} (hN:X.N.Nodup) (he:DE X c e f) (ho:i ∉ c.O:=by exact of_decide_eq_false rfl) (hi:X.N[i]? = some x:=by rfl) (hx:Loc X.env.scope x:=by first|exact ya0 rfl|exact yaF rfl) (hs:ydD e (some (.Name x pos')) pos.line X.env=pure false:=by rfl) (hf:X.fn x=true\/X.env.scope.names.lookup x=some .local:=by first|exact .inl rfl|exact .inr rfl|assumption) :
  DS X c (.Assign [.Name x pos'] e pos) (zu i f):=by
 obtain⟨t,p,w⟩:=he
 refine⟨_,qfF hN hi hx p hs hf,λZ σ H D r h=>w Z σ H _ r (Wp.sbnd h λd Z1 v H1 r1 i1 g1 h1=>?_)⟩
 exact h1 _ H1 (r1.set ho i1) (.set ho)
def DG (X:Cx) (c:Fc) (tg:Expr) (f:D->Env->Option Env):Prop:=∃g,PG X tg g/\∀Z σ H d v Z' (N:St->Hp->Prop),Rep X.K c Z σ H->Is X.K (Cn c σ) H d v->f d Z=some Z' ->
 (∀σ',Rep X.K c Z' σ' H->GrS c.O σ H σ' H->(∀j∈c.O,σ'[j]? = σ[j]?)->N σ' H)->g v σ H N
def qD(i:Nat):D->Env->Option Env:=λd Z=>some (Z.set i (some d))
theorem qP {i:Nat} {x:Str} (hN:X.N.Nodup) (ho:i ∉ c.O:=by exact of_decide_eq_false rfl) (hi:X.N[i]? = some x:=by rfl) (hx:Loc X.env.scope x:=by first|exact ya0 rfl|exact yaF rfl) (hf:X.fn x=true\/X.env.scope.names.lookup x=some .local:=by first|exact .inl rfl|exact .inr rfl|assumption) {p:Pos}:DG X c (.Name x p) (qD i):=by
 refine⟨_,qgu hN hi hx hf,λZ σ H d v Z' N r h e k=>?_⟩
 cases e
 exact k _ (r.set ho h) (.set ho) λj hj=>zg λe=>ho (e▸hj)
def DGs (X:Cx) (c:Fc) (tgs:List Expr) (f:List D->Env->Option Env):Prop:=∃g,PGs X tgs g/\∀Z σ H ds vs Z' (N:St->Hp->Prop),Rep X.K c Z σ H->IsL X.K (Cn c σ) H ds vs->f ds Z=some Z' ->
 (∀σ',Rep X.K c Z' σ' H->GrS c.O σ H σ' H->(∀j∈c.O,σ'[j]? = σ[j]?)->N σ' H)->g vs σ H N
def qbX:List D->Env->Option Env
 | [],Z=>some Z
 |_,_=>none
def jz (f:D->Env->Option Env) (g:List D->Env->Option Env):List D->Env->Option Env
 |d::ds,Z=>(f d Z).bind (g ds)
 |_,_=>none
theorem vI:DGs X c [] qbX:=by
 refine⟨_,qgv,λZ σ H ds vs Z' N r h e k=>?_⟩
 cases ds with
 |nil=>
  cases e
  exact⟨h,k σ r .refl λ_ _=>rfl⟩
 |cons d ds=>cases e
theorem jn {tg:Expr} {tgs:List Expr} {f:D->Env->Option Env} {g:List D->Env->Option Env} (h1:DG X c tg f) (h2:DGs X c tgs g)
  (hs:(ybe (tg::tgs) X.env).map (·.2)=ycQ tg X.env::(ybe tgs X.env).map (·.2):=by rfl):DGs X c (tg::tgs) (jz f g):=by
 obtain⟨t1,p1,w1⟩:=h1
 obtain⟨t2,p2,w2⟩:=h2
 refine⟨_,qev p1 p2 hs,λZ σ H ds vs Z' N r h e k=>?_⟩
 cases ds with
 |nil=>cases e
 | cons d ds=>
  obtain⟨v,ws,rfl,i1,i2⟩:=h
  have e':(f d Z).bind (g ds)=some Z':=e
  cases e1:f d Z with
  |none=>rw[e1]at e';cases e'
  |some Z1=>
   rw[e1]at e'
   exact⟨v,ws,rfl,w1 Z σ H d v Z1 _ r i1 e1 λσ1 r1 g1 o1=>w2 Z1 σ1 H ds ws Z' N r1 (g1.isL i2) e' λσ2 r2 g2 o2=>k σ2 r2 (g1.trans g2) λj hj=>(o2 j hj).trans (o1 j hj)⟩
def qbY (n:Nat) (g:List D->Env->Option Env):D->Env->Option Env
 |.tup ds,Z=>if ds.length=n then g ds Z else none
 |_,_=>none
theorem qaK {es:List Expr} {k n:Nat} {p:Pos} {g:List D->Env->Option Env} (hc:X.calm=true) (h:DGs X c es g) (hn:(ybe es X.env).length=n:=by rfl) (hst:(ybe es X.env).findIdx? (·.1)=none:=by rfl):DG X c (.Tuple es k p) (qbY n g):=by
 obtain⟨t,p,w⟩:=h
 refine⟨_,qil (n:=n) hc p hn hst,λZ σ H d v Z' N r h e q=>?_⟩
 cases d with
 | tup ds=>
  obtain⟨a,xs,rfl,ta,il⟩:=h
  have e':(if ds.length=n then g ds Z else none)=some Z':=e
  by_cases hl:ds.length=n
  ·rw[if_pos hl]at e'
   exact⟨a,xs,rfl,ta.sq,by rw[il.length];exact hl,w Z σ H ds xs Z' N r il e' q⟩
  ·rw[if_neg hl]at e';cases e'
 |_=>cases e
def qkg (f:M D) (g:D->Env->Option Env):MS:=sbnd f λd Z=>match g d Z with
 |some Z' => .ok (.nx Z')
 |none => .bad
theorem qiO {tg:Expr} {f:M D} {g:D->Env->Option Env} (he:DE X c e f) (hg:DG X c tg g) (hs:yco [tg] e pos.line X.env=pure false:=by rfl) (hw:ycp [tg] e X.env=pure none:=by rfl) (h1:(ybe [tg] X.env).map (·.2)=[ycQ tg X.env]:=by rfl):DS X c (.Assign [tg] e pos) (qkg f g):=by
 obtain⟨t,p,w⟩:=he
 obtain⟨t2,p2,w2⟩:=hg
 refine⟨_,qfE p p2 hs hw h1,λZ σ H D r h=>w Z σ H _ r (Wp.sbnd h λd Z1 v H1 r1 i1 g1 h1=>?_)⟩
 cases e:g d Z1 with
 |none=>rw[e]at h1;exact h1.elim
 |some Z2=>
  rw[e]at h1
  exact w2 Z1 σ H1 d v Z2 _ r1 i1 e λσ' r2 g2 _=>h1 σ' H1 r2 g2
end
section
variable{K:Fr0}
def iiD (g:Int->Int->D):D->D->Option D
 |.int i,.int j=>some (g i j)
 |_,_=>none
def qhX (C:Int->Int->Bool) (g:Int->Int->D):D->D->Option D
 |.int i,.int j=>if C i j then some (g i j)else none
 |_,_=>none
theorem vJ {g:Int->Int->V} {gD:Int->Int->D} (hg:∀A H i j,Is K A H (gD i j) (g i j)):OpS K (iiD gD) (rI0 g):=by
 intro A H x y d v u Q hn ix iy e k
 cases x<;>cases y<;>simp only[iiD]at e<;>try (cases e;done)
 rename_i i j
 cases (yax e)
 cases (show v=.int i from ix)
 cases (show u=.int j from iy)
 exact⟨i,j,rfl,rfl,k _ H (zK.refl H) (hg _ _ _ _)⟩
theorem qfM {C:Int->Int->Prop} {CB:Int->Int->Bool} {g:Int->Int->V} {gD:Int->Int->D} (hC:∀i j,CB i j=true->C i j) (hg:∀A H i j,Is K A H (gD i j) (g i j)):OpS K (qhX CB gD) (rI C g):=by
 intro A H x y d v u Q hn ix iy e k
 cases x<;>cases y<;>simp only[qhX]at e<;>try (cases e;done)
 rename_i i j
 obtain⟨e1,e2⟩:=zH e
 subst e2
 cases (show v=.int i from ix)
 cases (show u=.int j from iy)
 exact⟨i,j,rfl,rfl,hC i j e1,k _ H (zK.refl H) (hg _ _ _ _)⟩
def qgH:D->D->Option D:=iiD λi j => .int (i-j)
theorem qdl:OpS K qgH (rI0 λi j => .int (i-j)):=vJ λ_ _ _ _=>rfl
def jI(i:Int):Bool:=decide (-(2 ^ 64)<i)&&decide (i<2 ^ 64)
theorem qaL {i:Int} (h:jI i=true) : -(2 ^ 64)<i/\i<2 ^ 64:=by
 unfold jI at h
 rw[yao]at h
 exact⟨of_decide_eq_true h.1,of_decide_eq_true h.2⟩
def qbr(i j:Int):Bool:=jI i||jI j
theorem qeF {i j:Int} (h:qbr i j=true):qir i j:=by
 unfold qbr at h
 rw[ydH]at h
 rcases h with h|h
 ·exact .inl (qaL h)
 ·exact .inr (qaL h)
def qcu(i j:Int):Bool:=decide (0<j)&&decide (j<1606938044258990275541962092341162602522202993782792835301376)
theorem qbZ {i j:Int} (h:qcu i j=true):qiq i j:=by
 unfold qcu at h
 rw[yao]at h
 exact⟨of_decide_eq_true h.1,of_decide_eq_true h.2⟩
def wZ:D->D->Option D:=qhX qcu λi j => .int (i/j)
theorem ug:OpS K wZ (rI qiq λi j => .int (i/j)):=qfM (λ_ _=>qbZ) λ_ _ _ _=>rfl
def qeo:D->D->Option D:=qhX (λ_ j=>decide (0<j)) λi j => .int (i%j)
theorem uz:OpS K qeo (rI (λ_ j=>0<j) λi j => .int (i%j)):=qfM (λ_ _ h=>of_decide_eq_true h) λ_ _ _ _=>rfl
def ltD:D->D->Option D:=iiD λi j => .bl (decide (i<j))
def leD:D->D->Option D:=iiD λi j => .bl (decide (i<=j))
def gtD:D->D->Option D:=iiD λi j => .bl (decide (j<i))
def geD:D->D->Option D:=iiD λi j => .bl (decide (j<=i))
theorem qiP:OpS K ltD (rI0 λi j => .bl (decide (i<j))):=vJ λ_ _ _ _=>rfl
theorem qfN:OpS K leD (rI0 λi j => .bl (decide (i<=j))):=vJ λ_ _ _ _=>rfl
theorem qfO:OpS K gtD (rI0 λi j => .bl (decide (j<i))):=vJ λ_ _ _ _=>rfl
theorem qdm:OpS K geD (rI0 λi j => .bl (decide (j<=i))):=vJ λ_ _ _ _=>rfl
def sc2:D->D->Option Bool
 |.non,.non=>some true|.non,.int _=>some false|.int _,.non=>some false|.non,.bl _=>some false|.bl _,.non=>some false|.non,.str _=>some false|.str _,.non=>some false
 |.int i,.int j=>some (decide (i=j))|.bl i,.bl j=>some (decide (i=j))|.str i,.str j=>some (decide (i=j))
 |.int _,.str _=>some false|.str _,.int _=>some false|.bl _,.str _=>some false|.str _,.bl _=>some false
 |_,_=>none
def eqS(x y:D):Option D:=(sc2 x y).map D.bl
def neS(x y:D):Option D:=(sc2 x y).map λb=>D.bl (!b)
theorem qfP {A:Addr->Prop} {H:Hp} {x y:D} {v u:V} {b:Bool} (ix:Is K A H x v) (iy:Is K A H y u) (e:sc2 x y=some b):qkD v u=true/\decide (v=u)=b:=by
 cases x<;>cases y<;>simp only[sc2]at e<;>first
  |(cases e;done)
  |(cases ix;cases iy;cases e;exact⟨rfl,rfl⟩)
  |(cases ix;cases iy;cases e;exact⟨rfl,by simp⟩)
  |(cases ix;cases iy;cases e;exact⟨rfl,by rw[yb5];simp⟩)
theorem qgI:OpS K eqS rEq:=by
 intro A H x y d v u Q hn ix iy e k
 unfold eqS at e
 cases e1:sc2 x y with
 |none=>rw[e1]at e;cases e
 |some b=>
  rw[e1]at e
  cases e
  obtain⟨h1,h2⟩:=qfP ix iy e1
  exact⟨h1,by rw[h2];exact k _ H (zK.refl H) rfl⟩
theorem qgJ:OpS K neS rNe:=by
 intro A H x y d v u Q hn ix iy e k
 unfold neS at e
 cases e1:sc2 x y with
 |none=>rw[e1]at e;cases e
 |some b=>
  rw[e1]at e
  cases e
  obtain⟨h1,h2⟩:=qfP ix iy e1
  exact⟨h1,by rw[h2];exact k _ H (zK.refl H) rfl⟩
def jX:D->Bool
 |.non=>true
 |_=>false
theorem vp {A:Addr->Prop} {H:Hp} {x:D} {v:V} (ix:Is K A H x v):decide (v=V.non)=jX x:=by
 cases x with
 |non=>cases ix;rfl
 |bl b=>cases ix;rfl
 |int i=>cases ix;rfl
 |str s=>cases ix;rfl
 |tup ds=>obtain⟨a,xs,rfl,_⟩:=ix;rfl
 |lst ds=>obtain⟨a,xs,rfl,_⟩:=ix;rfl
 |dic ds=>obtain⟨a,rfl,_⟩:=ix;rfl
 |fz ds=>obtain⟨a,rfl,_⟩:=ix;rfl
 |exc ds=>obtain⟨a,rfl,_⟩:=ix;rfl
def isN(x y:D):Option D:=if jX y then some (.bl (jX x))else none
def qgK(x y:D):Option D:=if jX y then some (.bl (!jX x))else none
theorem yV:OpS K isN (λx y H Q=>y=.non/\Q (.bl (decide (x=.non))) H):=by
 intro A H x y d v u Q hn ix iy e k
 obtain⟨e1,e2⟩:=zH e
 subst e2
 have h:=vp iy
 rw[e1]at h
 refine⟨of_decide_eq_true h,?_⟩
 rw[vp ix]
 exact k _ H (zK.refl H) rfl
theorem qeG:OpS K qgK (λx y H Q=>y=.non/\Q (.bl (!decide (x=.non))) H):=by
 intro A H x y d v u Q hn ix iy e k
 obtain⟨e1,e2⟩:=zH e
 subst e2
 have h:=vp iy
 rw[e1]at h
 refine⟨of_decide_eq_true h,?_⟩
 rw[vp ix]
 exact k _ H (zK.refl H) rfl
def ixD:D->D->Option D
 |.tup ds,.int i=>atI ds i
 |.lst ds,.int i=>atI ds i
 |.fz ns,.int i=>(atI ns i).map D.int
 |_,_=>none
theorem IsL.atI {A:Addr->Prop} {H:Hp} {ds:List D} {xs:List V} {i:Int} {d:D} (h:IsL K A H ds xs) (e:L2.atI ds i=some d):∃v,L2.atI xs i=some v/\Is K A H d v:=by
 unfold L2.atI at e |-
 rw[h.length]
 cases e1:ixN ds.length i with
 |none=>rw[e1]at e;cases e
 |some j=>
  rw[e1]at e
  exact h.get e
theorem zh:OpS K ixD (λx y H Q=>qiB K x y H Q\/qiC K x y H Q):=by
 intro A H x y d v u Q hn ix iy e k
 cases x<;>cases y<;>simp only[ixD]at e<;>try (cases e;done)
 ·rename_i ds i
  cases iy
  obtain⟨a,xs,rfl,ta,il⟩:=ix
  obtain⟨w,h1,h2⟩:=il.atI e
  exact .inr ⟨a,xs,i,w,rfl,rfl,ta.sq,h1,k w H (zK.refl H) h2⟩
 ·rename_i ds i
  cases iy
  obtain⟨a,xs,rfl,_,ta,il⟩:=ix
  obtain⟨w,h1,h2⟩:=il.atI e
  exact .inl ⟨a,xs,i,w,rfl,rfl,.inl (.inl ta),h1,k w H (zK.refl H) h2⟩
 ·rename_i ns i
  cases iy
  obtain⟨a,rfl,ta⟩:=ix
  cases e1:L2.atI ns i with
  |none=>rw[e1]at e;cases e
  | some m=>
   rw[e1]at e
   cases e
   have h1:L2.atI (ns.map V.int) i=some (V.int m):=by
    unfold L2.atI at e1 |-
    rw[lM_]
    cases e2:ixN ns.length i with
    |none=>rw[e2]at e1;cases e1
    |some j=>
     rw[e2]at e1
     have e3:ns[j]? = some m:=e1
     show(ns.map V.int)[j]? = some (V.int m)
     rw[gM_,e3];rfl
   exact .inl ⟨a,_,i,.int m,rfl,rfl,ta.sq,h1,k _ H (zK.refl H) rfl⟩
theorem IsL.inv1 {A:Addr->Prop} {H:Hp} {d:D} {vs:List V} (h:IsL K A H [d] vs):∃v,vs=[v]/\Is K A H d v:=by
 obtain⟨x,ys,e1,e2,e3⟩:=h
 have e3':ys=[]:=e3
 exact⟨x,by rw[e1,e3'],e2⟩
theorem IsL.inv2 {A:Addr->Prop} {H:Hp} {d d':D} {vs:List V} (h:IsL K A H [d,d'] vs):∃v w,vs=[v,w]/\Is K A H d v/\Is K A H d' w:=by
 obtain⟨x,ys,e1,e2,e3⟩:=h
 obtain⟨w,e4,e5⟩:=IsL.inv1 e3
 exact⟨x,w,by rw[e1,e4],e2,e5⟩
def qkh:List D->Option D
 | [.int i]=>some (.int (if i<0 then -i else i))
 |_=>none
theorem qdn:uI K qkh (λxs H Q=>∃i,xs=[.int i]/\Q (.int (if i<0 then -i else i)) H):=by
 intro A H xs d vs Q hn h e k
 unfold qkh at e
 split at e
 ·rename_i i
  obtain⟨v,rfl,e2⟩:=IsL.inv1 h
  cases e2;cases e
  exact⟨i,rfl,k _ H (zK.refl H) rfl⟩
 ·cases e
def qgL:List D->Option D
 | [.int i,.int j]=>some (.int (if j>i then j else i))
 |_=>none
def qdo:List D->Option D
 | [.int i,.int j]=>some (.int (if j<i then j else i))
 |_=>none
theorem qdp:uI K qgL (λxs H Q=>∃i j,xs=[.int i,.int j]/\Q (.int (if j>i then j else i)) H):=by
 intro A H xs d vs Q hn h e k
 unfold qgL at e
 split at e
 ·rename_i i j
  obtain⟨v,w,rfl,e2,e3⟩:=IsL.inv2 h
  cases e2;cases e3;cases e
  exact⟨i,j,rfl,k _ H (zK.refl H) rfl⟩
 ·cases e
theorem qaM:uI K qdo (λxs H Q=>∃i j,xs=[.int i,.int j]/\Q (.int (if j<i then j else i)) H):=by
 intro A H xs d vs Q hn h e k
 unfold qdo at e
 split at e
 ·rename_i i j
  obtain⟨v,w,rfl,e2,e3⟩:=IsL.inv2 h
  cases e2;cases e3;cases e
  exact⟨i,j,rfl,k _ H (zK.refl H) rfl⟩
 ·cases e
def vK:List D->Option D
 | [.int i,.int j]=>if qcu i j then some (.tup [.int (i/j),.int (i%j)])else none
 |_=>none
theorem qaN:uI K vK (λxs H Q=>∃i j,xs=[.int i,.int j]/\qiq i j/\∀p,H p=none->Q (.ref p) (upd H p (.tup [.int (i/j),.int (i%j)]))):=by
 intro A H xs d vs Q hn h e k
 unfold vK at e
 split at e
 ·rename_i i j
  obtain⟨v,w,rfl,e2,e3⟩:=IsL.inv2 h
  cases e2;cases e3
  obtain⟨e6,e7⟩:=zH e
  subst e7
  exact⟨i,j,rfl,qbZ e6,λp hp=>k _ _ (qv hp _) ⟨p,_,rfl,.inl qt,_,_,rfl,rfl,_,_,rfl,rfl,rfl⟩⟩
 ·cases e
def qaO:List D->Option D
 | [.int i]=>some (.int i)
 | [.bl b]=>some (.int (if b then 1 else 0))
 |_=>none
theorem qcv:uI K qaO (λxs H Q=>(∃i,xs=[.int i]/\Q (.int i) H)\/∃k,xs=[.bl k]/\Q (.int (if k then 1 else 0)) H):=by
 intro A H xs d vs Q hn h e k
 unfold qaO at e
 split at e
 ·rename_i i
  obtain⟨v,rfl,e2⟩:=IsL.inv1 h
  cases e2;cases e
  exact .inl ⟨i,rfl,k _ H (zK.refl H) rfl⟩
 ·rename_i b
  obtain⟨v,rfl,e2⟩:=IsL.inv1 h
  cases e2;cases e
  exact .inr ⟨b,rfl,k _ H (zK.refl H) rfl⟩
 ·cases e
def qav:List D->Option D
 | [.tup ds]=>some (.int ds.length)
 | [.lst ds]=>some (.int ds.length)
 | [.fz ns]=>some (.int ns.length)
 | [.str x]=>if qG x.length then some (.int x.length)else none
 |_=>none
def qlw(K:Fr0):List V->Hp->VK->Prop:=λxs H Q=>(∃p ys,xs=[.ref p]/\(SqL K H p ys\/SqT K H p ys)/\Q (.int ys.length) H)\/(∃z,xs=[.str z]/\z.length<=yaq/\Q (.int z.length) H)
theorem js{X:Cx}:jV X (.builtin "len") (qlw X.K):=jV.or qaF qaG
theorem jY:uI K qav (qlw K):=by
 intro A H xs d vs Q hn h e k
 unfold qav at e
 split at e
 ·obtain⟨v,rfl,a,zs,rfl,ta,il⟩:=IsL.inv1 h
  cases e
  exact .inl ⟨a,zs,rfl,.inr ta.sq,by rw[il.length];exact k _ H (zK.refl H) rfl⟩
 ·obtain⟨v,rfl,a,zs,rfl,_,ta,il⟩:=IsL.inv1 h
  cases e
  exact .inl ⟨a,zs,rfl,.inl (.inl (.inl ta)),by rw[il.length];exact k _ H (zK.refl H) rfl⟩
 ·obtain⟨v,rfl,a,rfl,ta⟩:=IsL.inv1 h
  cases e
  exact .inl ⟨a,_,rfl,.inl ta.sq,by rw[lM_];exact k _ H (zK.refl H) rfl⟩
 ·rename_i z
  obtain⟨v,rfl,e2⟩:=IsL.inv1 h
  cases e2
  obtain⟨e4,e5⟩:=zH e
  subst e5
  exact .inr ⟨z,rfl,of_decide_eq_true e4,k _ H (zK.refl H) rfl⟩
 ·cases e
def yW:List D->Option D
 | [.tup ds]=>some (.tup ds)
 | [.lst ds]=>some (.tup ds)
 |_=>none
theorem jZ:uI K yW (λxs H Q=>∃p ys,xs=[.ref p]/\((SqL K H p ys/\∀l,H l=none->Q (.ref l) (upd H l (.tup ys)))\/(SqT K H p ys/\Q (.ref p) H))):=by
 intro A H xs d vs Q hn h e k
 unfold yW at e
 split at e
 ·obtain⟨v,rfl,a,zs,rfl,ta,il⟩:=IsL.inv1 h
  cases e
  exact⟨a,zs,rfl,.inr ⟨ta.sq,k _ H (zK.refl H) ⟨a,zs,rfl,ta,il⟩⟩⟩
 ·obtain⟨v,rfl,a,zs,rfl,_,ta,il⟩:=IsL.inv1 h
  cases e
  exact⟨a,zs,rfl,.inl ⟨.inl (.inl ta),λl hl=>k _ _ (qv hl _) ⟨l,zs,rfl,.inl qt,IsL.ext (Ext.of_same (qv hl _)) (λ_ h _=>h) il⟩⟩⟩
 ·cases e
end
end L2.Sk
namespace L2.Sk
open PySem PySem.Spec PySem.Calls PyProof.Rows PySem.W
def qfQ(h:Heap)(a D:Addr):Prop:=∃o,h.get? a=some o/\o.cls=.ref D
theorem qfQ.looks {M:Model} {h:Heap} {a D:Addr} (I:qfQ h a D):Looks M h (typeOf (.ref a)) (.ref D):=by
 obtain⟨o,h1,h2⟩:=I
 rw[<-h2]
 exact(Looks.ld h1).andThen .now
section
variable{prog:yaj}{w:World}{A:yar}{E:Value->yaa->Prop}{K:Frag}{h:Heap}{g:Array yec}{d:Drawn}{t:Nat}{os:OsState}{a D:Addr}
theorem qiQ (hm:mroIn K D (.type "object")=some true) {tp:Value} {R:ycT->yaa->Prop} (X:K.In h) (I:qfQ h a D) (hq:R (.ok (.ret (.ref D))) ⟨h,g,d,t,os⟩) :
  yb1 (model prog w) A (.call (.builtin "getset_descriptor.__get__") ⟨[.builtin "object.__class__",.ref a,tp],[]⟩) R ⟨h,g,d,t,os⟩:=by
 have L0:=I.looks (M:=model prog w)
 have L1:=looks_mroIn (M:=model prog w) X hm
 have hT5:(⟨h,g,d,t,os⟩:yaa).TypeIs (.builtin "object.__class__") "getset_descriptor":=ycx
 refine ycC F.slot_gs_get.plain F.entry_gs_get (F.slot_gs_get.check _ _ _ _ _ _ _ _ hT5 (F.args_gs_get _ _ _) ?_)
 have eo:".".intercalate ("object.__class__".cutAt '.').dropLast="object":=by decide +kernel
 repeat (any_goals (first|assumption|with_reducible refine L0.at ?_|with_reducible refine L1.at ?_|wp_step))
 rw[eo]
 refine L1.at ?_
 repeat (any_goals (first|assumption|with_reducible refine L0.at ?_|wp_step))
 refine⟨Code.quiet_builtin _ (by decide +kernel),yb6 F.entry_object_class ?_⟩
 repeat (any_goals (first|assumption|with_reducible refine L0.at ?_|wp_step))
theorem qeH (ha:findIn K (.ref D) "__class__"=some (some (.builtin "object.__class__"))) (hm:mroIn K D (.type "object")=some true) {tk:Tok} {Q:Fin->yaa->Prop} (X:K.In h) (I:qfQ h a D) (hq:Q (.done (.ret (.ref D))) ⟨h,g,d,t,os⟩) :
  wpAny (model prog w) A (ybH.«object.__getattribute__» ⟨[.ref a,.str "__class__" tk],[]⟩) Q E ⟨h,g,d,t,os⟩:=by
 have L0:=I.looks (M:=model prog w)
 have L1:=looks_findIn (M:=model prog w) X ha
 have hT5:(⟨h,g,d,t,os⟩:yaa).TypeIs (.builtin "object.__class__") "getset_descriptor":=ycx
 have f5:=ycx
 have f6:=F.slot_gs_get.lookup
 have f7:=F.slot_gs_set.lookup
 repeat (any_goals (first|assumption|with_reducible refine L0.at ?_|with_reducible refine L1.at ?_|wp_step))
 refine qiQ hm X I ?_
 repeat (any_goals (first|assumption|wp_step))
theorem qeI (hb:Looks (model prog w) h (isSubtype (.ref D) (.type "BaseException")) true) {nameV:Value} {Q:Unit->yaa->Prop} (I:qfQ h a D) (hq:Q () ⟨h,g,d,t,os⟩):wpAny (model prog w) A (checkBuiltinCall "BaseException.__getattribute__" ⟨[.ref a,nameV],[]⟩) Q E ⟨h,g,d,t,os⟩:=by
 have hk:builtinKind "BaseException.__getattribute__"=some .slot:=by decide +kernel
 have hsplit:splitId "BaseException.__getattribute__"=some ("BaseException","__getattribute__"):=by decide +kernel
 have L0:=I.looks (M:=model prog w)
 have ha:=F.args_bexc_ga (.ref a) nameV
 simp only[checkBuiltinCall,hk,hsplit]
 refine yab ?_
 ·unfold isInstance
  repeat (first|with_reducible refine L0.at ?_|with_reducible refine hb.at ?_|wp_step)
  exact hq
theorem qkP (FA:ExcAttrFacts "ValueError") (hga:findIn K (.ref D) "__getattribute__"=some (some (.builtin "BaseException.__getattribute__"))) (hgt:findIn K (.ref D) "__getattr__"=some none) (ha:findIn K (.ref D) "__class__"=some (some (.builtin "object.__class__"))) (hm:mroIn K D (.type "object")=some true)
  (hb:Looks (model prog w) h (isSubtype (.ref D) (.type "BaseException")) true) {tk:Tok} {fill expr:Bool} {Q:Value->yaa->Prop} (X:K.In h) (I:qfQ h a D) (hq:Q (.ref D) ⟨h,g,d,t,os⟩) :
  wpAny (model prog w) A (getAttrBy (.ref a) (.str "__class__" tk) fill expr) Q E ⟨h,g,d,t,os⟩:=by
 have L0:=I.looks (M:=model prog w)
 have L1:=looks_findIn (M:=model prog w) X hga
 have L2:=looks_findIn (M:=model prog w) X hgt
 have f3:=FA.ga.bind (.ref a)
 have hx0:(expr&&onTheHeap (ycq "BaseException.__getattribute__"))=false:=by cases expr<;>rfl
 have hx2:(ycq "BaseException.__getattribute__"==ycq "object.__getattribute__")=false:=by decide +kernel
 have hx1:(onTheHeap (yae D)&&ycq "BaseException.__getattribute__"==ycq "object.__getattribute__")=false:=by rw[hx2];rfl
 repeat (any_goals (first|assumption|with_reducible refine L0.at ?_|with_reducible refine L1.at ?_|with_reducible refine L2.at ?_|wp_step))
 refine ycC FA.ga.plain F.entry_bexc_ga (qeI hb I (qeH ha hm X I ?_))
 repeat (any_goals (first|assumption|wp_step))
theorem qgM (FA:ExcAttrFacts "ValueError") (hga:findIn K (.ref D) "__getattribute__"=some (some (.builtin "BaseException.__getattribute__"))) (hgt:findIn K (.ref D) "__getattr__"=some none) (ha:findIn K (.ref D) "__class__"=some (some (.builtin "object.__class__"))) (hm:mroIn K D (.type "object")=some true)
  (hb:Looks (model prog w) h (isSubtype (.ref D) (.type "BaseException")) true) {Q:Option Value->yaa->Prop} (X:K.In h) (I:qfQ h a D) (hq:Q (some (.ref D)) ⟨h,g,d,t+1,os⟩) :
  wpAny (model prog w) A (getAttr? (.ref a) "__class__") Q E ⟨h,g,d,t,os⟩:=by
 unfold getAttr? getAttrBy?
 repeat (any_goals (first|assumption|with_reducible apply qkP FA hga hgt ha hm hb X I|wp_step))
end
theorem qeJ {K:Frag} {a D:Addr} (c:XK6 K D):KitX K (.ref a) (.ref D) (λh=>qfQ h a D) where
 ty:=λ_ _ _ I=>I.looks
 it := λ_ _ X _=>by
  obtain⟨cdD,hcD⟩:=Option.isSome_iff_exists.mp c.is
  unfold clsIn at hcD
  split at hcD
  ·rename_i c' d' cd' sl' ho
   intro A' Q' E' s' k q
   unfold isType loadHead
   exact yab (wpAny_loadPart (k _ _ (X _ _ ho)) (yal q))
  ·cases hcD
 ne := λh tp dd its n sl X htp=>by
  obtain⟨cdD,hcD⟩:=Option.isSome_iff_exists.mp c.is
  refine Bool.eq_false_iff.mpr λq=>?_
  have e:D=tp:=Value.ref.inj (beq_iff_eq.mp q)
  subst e
  unfold clsIn at hcD
  split at hcD
  ·rename_i c' d' cd' sl' ho
   have z:=(X _ _ ho).symm.trans htp
   cases z
  ·cases hcD
 ca:=λ{prog w A E Q s} X p k=>by
  have I:=p
  obtain⟨h,g,d,t,os⟩:=s
  exact qgM PySem.F.attrBase_ValueError.toExcAttrFacts c.ga c.gt c.cl c.ob (looks_subIn X c.be) X I k
theorem qcw {X:Cx} {pins:List (Addr×Obj)} {σ:St} {H:Hp} {s:yaa} {A:yar} {E:Value->yaa->Prop} {Q:Value->yaa->Prop} {a C:Addr} {c:Value} {b:Bool} (I:Inv X pins σ H s) (xc:XK6 X.K C) (hH:∃o vs,H a=some (.frz o (.own a))/\o.cls=.ref C/\o.data=.fields vs)
  (e:kitOne X.K (.ref C) c=some b) (h:∀tk,Q (.bool b) {s with toks:=tk}):wpAny (model X.prog X.w) A (call (.builtin "isinstance") [.ref a,c]) Q E s:=by
 obtain⟨o,vs,h1,h2,_⟩:=hH
 obtain⟨p,_⟩:=(show ym X.prog X.w H s.heap a (.frz o (.own a))from I.hok a _ h1)
 exact kia_one (qeJ xc) I.kIn ⟨o,p,h2⟩ e (λz=>nomatch z) h
end L2.Sk
namespace L2.Sk
open PySem PySem.Spec PyProof.Rows
def tyD:D->String
 |.non=>"NoneType"
 |.bl _=>"bool"
 |.int _=>"int"
 |.str _=>"str"
 |.tup _=>"tuple"
 |.lst _=>"list"
 |.dic _=>"dict"
 |.fz _=>"list"
 |.exc _=>"exc"
def qbs(t T:String):Bool:=t==T||(t=="bool"&&T=="int")
def qbt:List String:=["NoneType","bool","int","str","tuple","list","dict"]
theorem qgN (d:D) (h:∀C,d ≠ .exc C):tyD d∈qbt:=by
 cases d<;>first|(simp[tyD,qbt];done)|exact absurd rfl (h _)
structure qgO (K:Fr0) (T:String):Prop where
 ok:∀t∈qbt,yd0 K (.type t) (.type T)=some (qbs t T)
 ex:T∈["int","bool","str","tuple","list","dict"]
 nx:qbs "exc" T=false
theorem qgP {K:Fr0}:qgO K "int":=⟨λt ht=>by
 simp only[qbt,yau,nN_,or_false]at ht
 rcases ht with rfl|rfl|rfl|rfl|rfl|rfl|rfl<;>kernel_rfl,by decide,by decide⟩
theorem qeK {K:Fr0}:qgO K "bool":=⟨λt ht=>by
 simp only[qbt,yau,nN_,or_false]at ht
 rcases ht with rfl|rfl|rfl|rfl|rfl|rfl|rfl<;>kernel_rfl,by decide,by decide⟩
theorem qgQ {K:Fr0}:qgO K "str":=⟨λt ht=>by
 simp only[qbt,yau,nN_,or_false]at ht
 rcases ht with rfl|rfl|rfl|rfl|rfl|rfl|rfl<;>kernel_rfl,by decide,by decide⟩
theorem vL {K:Fr0}:qgO K "tuple":=⟨λt ht=>by
 simp only[qbt,yau,nN_,or_false]at ht
 rcases ht with rfl|rfl|rfl|rfl|rfl|rfl|rfl<;>kernel_rfl,by decide,by decide⟩
section
variable{X:Cx}{pins:List (Addr×Obj)}{σ:St}{H:Hp}{s:yaa}{A:Addr->Prop}{E:Value->yaa->Prop}{Q:Value->yaa->Prop}
theorem qiR {d:D} {v:V} {u:Value} {T:String} (I:Inv X pins σ H s) (h:Is X.K A H d v) (rv:jm v u) (kt:qgO X.K T) (hQ:∀tk,Q (.bool (qbs (tyD d) T)) {s with toks:=tk}) :
  wpAny (model X.prog X.w) X.A (call (.builtin "isinstance") [u,.type T]) Q E s:=by
 by_cases hx:∃C,d=.exc C
 ·obtain ⟨C,rfl⟩:=hx
  obtain⟨a,rfl,xa⟩:=h
  cases (show u=yae a from rv)
  have q:∀tk,Q (.bool false) {s with toks:=tk}:=λtk=>by
   have:=hQ tk
   rw[show tyD (.exc C)="exc" from rfl,kt.nx]at this
   exact this
  obtain⟨D0,h0,h1,h2⟩:=xa
  exact qcw I h1 h2 (h1.no T kt.ex) q
 have e:=kt.ok (tyD d) (qgN d λC hC=>hx ⟨C,hC⟩)
 cases d with
 |exc C=>exact absurd ⟨C,rfl⟩ hx
 |non=>cases h;exact yw I rv .non e hQ
 |bl b=>cases h;exact yw I rv (.bl b) e hQ
 |int i=>cases h;exact yw I rv (.int i) e hQ
 |str x=>cases h;exact yw I rv (.str x) e hQ
 |tup ds=>
  obtain⟨a,xs,rfl,ta,il⟩:=h
  cases (show u=yae a from rv)
  obtain⟨its,r,p,z⟩:=I.tuple ta.sq
  obtain⟨o,h1,h2,_⟩:=p
  exact yaH yes I.kIn ⟨o,h1,h2⟩ e (λz=>nomatch z) hQ
 |lst ds=>
  obtain⟨a,xs,rfl,hA,ta,il⟩:=h
  exact yw I rv (.lst ta) e hQ
 |dic kvs=>
  obtain⟨a,rfl,hA,ta⟩:=h
  exact yw I rv (.dK ta) e hQ
 |fz ns=>
  obtain⟨a,rfl,ta⟩:=h
  cases (show u=yae a from rv)
  obtain⟨its,r,p,z⟩:=I.list ta.sq
  obtain⟨o,h1,h2,_⟩:=p.isList
  exact yaH yde I.kIn ⟨o,h1,h2⟩ e (λz=>nomatch z) hQ
end
def qeL(T:String)(f:M D):M D:=bnd f λd=>ret (.bl (qbs (tyD d) T))
section
variable{X:Cx}{c:Fc}{a b e:Expr}{pos:Pos}
def qmj(K:Fr0)(T:String):List V->Hp->VK->Prop:=λxs H Q=>∃v d A,xs=[v,.ty T]/\Is K A H d v/\Q (.bl (qbs (tyD d) T)) H
theorem qeM {T:String} (kt:qgO X.K T):jV X (.builtin "isinstance") (qmj X.K T):=by
 intro pins s σ H xs us Q I r h
 obtain⟨v,d,A,rfl,hi,q⟩:=h
 obtain⟨u,w,rfl,r1,r2⟩:=qU.two r
 cases (show w=ybJ T from r2)
 exact qiR I hi r1 kt λtk=>⟨.bl _,H,I.tok tk,rfl,q⟩
theorem wE {T:String} {x:Str} {p p2:Pos} {f:M D} (kt:qgO X.K T) (hg:Gl X "isinstance") (hm:X.mg "isinstance"=none) (hg2:Gl X x) (hm2:X.mg x=none) (hv2:yaA x=some (.type T)) (ha:DE X c a f)
  (hv:yaA "isinstance"=some (.builtin "isinstance"):=by first|rfl|exact PySem.boot_isinstance) (hn2:x≠"__name__":=by decide) (hdb2:(x==("__debug__":Str))=false:=by decide)
  (he:yag [a,.Name x p2] X.env=(false,eval a X.env)::yag [.Name x p2] X.env:=by rfl) (hpl:(yaE pos (yag [.Name x p2] X.env)).any (·.1)=false:=by rfl):DE X c (.Call (.Name "isinstance" p) [a,.Name x p2] [] pos) (qeL T f):=by
 obtain⟨t,pa,w⟩:=ha
 refine⟨_,wU (qeM kt) hg hm hv (yU pa (yU (qgp (v:=.ty T) hg2 hm2 hv2 rfl hn2 hdb2) wB (by rfl)) he) (by decide) (by decide) he hpl,λZ σ H Q r h=>w Z σ H _ r (Wp.bnd h λd Z1 v H1 r1 i1 g1 h1=>?_)⟩
 exact⟨v,d,_,rfl,i1,h1 _ H1 r1 rfl .refl⟩
end
def yS:List D->Option (List Bool)
 | []=>some []
 |.bl b::r=>(yS r).map (b::·)
 |_=>none
def yT:List D->Option (List Int)
 | []=>some []
 |.int i::r=>(yT r).map (i::·)
 |_=>none
theorem uA {K:Fr0} {A:Addr->Prop} {H:Hp}:∀{ds:List D}{xs:List V}{bs:List Bool},IsL K A H ds xs->yS ds=some bs->xs=bs.map V.bl
 | [],_,_,h,e=>by cases e;exact h
 | .bl b::r,_,bs,⟨x,ys,hx,h1,h2⟩,e=>by
  cases h1
  cases e1:yS r with
  |none=>simp[yS,e1]at e
  |some l=>
   simp[yS,e1]at e
   subst e
   rw[hx,uA h2 e1];rfl
 |.non::_,_,_,_,e=>by cases e
 |.int _::_,_,_,_,e=>by cases e
 |.str _::_,_,_,_,e=>by cases e
 |.tup _::_,_,_,_,e=>by cases e
 |.lst _::_,_,_,_,e=>by cases e
 |.dic _::_,_,_,_,e=>by cases e
 |.fz _::_,_,_,_,e=>by cases e
 |.exc _::_,_,_,_,e=>by cases e
theorem wF {K:Fr0} {A:Addr->Prop} {H:Hp}:∀{ds:List D}{xs:List V}{bs:List Int},IsL K A H ds xs->yT ds=some bs->xs=bs.map V.int
 | [],_,_,h,e=>by cases e;exact h
 | .int b::r,_,bs,⟨x,ys,hx,h1,h2⟩,e=>by
  cases h1
  cases e1:yT r with
  |none=>simp[yT,e1]at e
  |some l=>
   simp[yT,e1]at e
   subst e
   rw[hx,wF h2 e1];rfl
 |.non::_,_,_,_,e=>by cases e
 |.bl _::_,_,_,_,e=>by cases e
 |.str _::_,_,_,_,e=>by cases e
 |.tup _::_,_,_,_,e=>by cases e
 |.lst _::_,_,_,_,e=>by cases e
 |.dic _::_,_,_,_,e=>by cases e
 |.fz _::_,_,_,_,e=>by cases e
 |.exc _::_,_,_,_,e=>by cases e
theorem qb0 {bs:List Bool}:∀{us:List Value},qU (bs.map V.bl) us->LSm.BoolsAre us bs:=by
 induction bs with
 |nil=>intro us r;rw[yca]at r;cases r;exact .nil
 | cons b bs ih=>
  intro us r
  rw[mC_]at r
  cases r with
  |cons r1 r2=>
   cases (show _=yaX b from r1)
   exact .cons b (ih r2)
section
variable{X:Cx}
theorem w5 (hc:X.calm=true):jV X (.builtin "all") (λxs H Q=>∃(p:Addr)(bs:List Bool),xs=[.ref p]/\H p=some (.lst (bs.map V.bl))/\Q (.bl (bs.all id)) H):=by
 intro pins s σ H xs us Q I r h
 obtain⟨p,bs,rfl,hp,q⟩:=h
 obtain⟨u,rfl,ru⟩:=qU.one r
 cases ru
 obtain⟨its,rv,pl,hz⟩:=I.list (SqL.of hp)
 have hl:=pl.isList
 have hb:=qb0 rv
 have hlt:p<s.heap.objs.size:=by obtain⟨_,e,_⟩:=hl;exact yac e
 refine call_all_walk (ybw hl ?_)
 refine ⟨s.heap.objs.size,[s.heap.objs.size,p],[s.heap.objs.size],its.toArray.size,_,_,λi=>(bs[i]?).getD true,rfl,Walks.list (A:=X.A.in1) (I.ok.hd hc) _ p (yat hlt) its.toArray,
  ⟨⟨_,Heap.get?_push_size _ rfl,rfl,rfl⟩,hl.push _⟩,λi v s' Q' E' hP hQ=>?_,λh' tk hk=>?_⟩
 ·obtain⟨b,e,rfl⟩:=hb.get i v (by simpa using hP)
  simp only[e,Option.getD_some]at hQ
  exact ya1 hQ
 ·have e:((yaY its.toArray.size).all λi=>(bs[i]?).getD true)=bs.all id:=by
   rw[sT_,hb.length];exact LSm.range_all bs
  rw[e]
  exact⟨.bl _,H,I.kept (LSm.kept_iter hk),rfl,q⟩
theorem qeN (hc:X.calm=true):jV X (.builtin "any") (λxs H Q=>∃(p:Addr)(bs:List Bool),xs=[.ref p]/\H p=some (.lst (bs.map V.bl))/\Q (.bl (bs.any id)) H):=by
 intro pins s σ H xs us Q I r h
 obtain⟨p,bs,rfl,hp,q⟩:=h
 obtain⟨u,rfl,ru⟩:=qU.one r
 cases ru
 obtain⟨its,rv,pl,hz⟩:=I.list (SqL.of hp)
 have hl:=pl.isList
 have hb:=qb0 rv
 have hlt:p<s.heap.objs.size:=by obtain⟨_,e,_⟩:=hl;exact yac e
 refine call_any_walk (ybw hl ?_)
 refine ⟨s.heap.objs.size,[s.heap.objs.size,p],[s.heap.objs.size],its.toArray.size,_,_,λi=>(bs[i]?).getD false,rfl,Walks.list (A:=X.A.in1) (I.ok.hd hc) _ p (yat hlt) its.toArray,
  ⟨⟨_,Heap.get?_push_size _ rfl,rfl,rfl⟩,hl.push _⟩,λi v s' Q' E' hP hQ=>?_,λh' tk hk=>?_⟩
 ·obtain⟨b,e,rfl⟩:=hb.get i v (by simpa using hP)
  simp only[e,Option.getD_some]at hQ
  exact ya1 hQ
 ·have e:((yaY its.toArray.size).any λi=>(bs[i]?).getD false)=bs.any id:=by
   rw[sT_,hb.length];exact LSm.range_any bs
  rw[e]
  exact⟨.bl _,H,I.kept (LSm.kept_iter hk),rfl,q⟩
theorem qeO (hc:X.calm=true):jV X (.builtin "sum") (λxs H Q=>∃(p:Addr)(ns:List Int),xs=[.ref p]/\H p=some (.lst (ns.map V.int))/\Q (.int ns.sum) H):=by
 intro pins s σ H xs us Q I r h
 obtain⟨p,ns,rfl,hp,q⟩:=h
 obtain⟨u,rfl,ru⟩:=qU.one r
 cases ru
 obtain⟨its,rv,pl,hz⟩:=I.list (SqL.of hp)
 have hl:=pl.isList
 have hi:ybs its ns:=qcr rv
 obtain⟨zs,hx⟩:=hi.allInts.items
 have hl':s.heap.IsList p (intItems zs):=hx▸hl
 refine sum_intListG (I.ok.hd hc) hl' λh' tk t' hk=>?_
 have e1:ns=zs.toList.map (·.1):=by
  rw[<-nums_intItems,<-hx]
  exact(show numsOf its.toArray.toList=ns from hi.numsOf).symm
 have e2:preSum (numAt zs) zs.size=ns.sum:=by
  rw[preSum_eq,ydS (by simp),e1]
 rw[e2]
 exact⟨.int _,H,I.kept hk,⟨_,rfl⟩,q⟩
end
def qeP:List D->Option D
 | [.lst ds]=>(yS ds).map λbs => .bl (bs.all id)
 |_=>none
def qhY:List D->Option D
 | [.lst ds]=>(yS ds).map λbs => .bl (bs.any id)
 |_=>none
def qiS:List D->Option D
 | [.lst ds]=>(yT ds).map λbs => .int bs.sum
 |_=>none
section
variable{K:Fr0}
theorem vM:uI K qeP (λxs H Q=>∃(p:Addr)(bs:List Bool),xs=[.ref p]/\H p=some (.lst (bs.map V.bl))/\Q (.bl (bs.all id)) H):=by
 intro A H xs d vs Q hn h e k
 unfold qeP at e
 split at e
 ·obtain⟨v,rfl,a,zs,rfl,_,ta,il⟩:=IsL.inv1 h
  obtain⟨bs,h1,h2⟩:=Option.map_eq_some_iff.mp e
  subst h2
  rw[uA il h1]at ta
  exact⟨a,bs,rfl,ta,k _ H (zK.refl H) rfl⟩
 ·cases e
theorem qdq:uI K qhY (λxs H Q=>∃(p:Addr)(bs:List Bool),xs=[.ref p]/\H p=some (.lst (bs.map V.bl))/\Q (.bl (bs.any id)) H):=by
 intro A H xs d vs Q hn h e k
 unfold qhY at e
 split at e
 ·obtain⟨v,rfl,a,zs,rfl,_,ta,il⟩:=IsL.inv1 h
  obtain⟨bs,h1,h2⟩:=Option.map_eq_some_iff.mp e
  subst h2
  rw[uA il h1]at ta
  exact⟨a,bs,rfl,ta,k _ H (zK.refl H) rfl⟩
 ·cases e
theorem qdr:uI K qiS (λxs H Q=>∃(p:Addr)(ns:List Int),xs=[.ref p]/\H p=some (.lst (ns.map V.int))/\Q (.int ns.sum) H):=by
 intro A H xs d vs Q hn h e k
 unfold qiS at e
 split at e
 ·obtain⟨v,rfl,a,zs,rfl,_,ta,il⟩:=IsL.inv1 h
  obtain⟨bs,h1,h2⟩:=Option.map_eq_some_iff.mp e
  subst h2
  rw[wF il h1]at ta
  exact⟨a,bs,rfl,ta,k _ H (zK.refl H) rfl⟩
 ·cases e
end
section
variable{X:Cx}
def qfR(K:Fr0):R2:=λx y H Q=>∃a b ys,x=.ref a/\y=.ref b/\SqT K H a []/\SqT K H b ys/\Q (.ref b) H
theorem qeQ:OpR X (ya9 .Add) (qfR X.K):=by
 intro pins s σ H x y v u Q I rx ry h
 obtain⟨a,b,ys,rfl,rfl,ha,hb,q⟩:=h
 cases rx
 cases ry
 obtain⟨its,r1,p1,_⟩:=I.tuple ha
 obtain⟨its2,r2,p2,_⟩:=I.tuple hb
 cases r1
 obtain⟨⟨cls,dd,data,sl⟩,ho,hc,n,hd⟩:=id p1
 obtain⟨⟨cls2,dd2,data2,sl2⟩,ho2,hc2,n2,hd2⟩:=id p2
 simp only at hc hd hc2 hd2
 subst hc hd hc2 hd2
 exact yey ⟨_,ho,rfl⟩ ⟨_,ho2,rfl⟩ ydt yek ycm ycg (yb9 _ _)
   (tuple_addW0 a b [].toArray its2.toArray n n2 dd dd2 sl sl2 (by simp)) ⟨ho,ho2,⟨.ref b,H,I,rfl,q⟩⟩
def qiT(K:Fr0):R2:=λx y H Q=>(∃i j,x=.int i/\y=.int j/\Q (.int (i+j)) H)\/((∃i j,x=.str i/\y=.str j/\i.length+j.length<=yaq/\Q (.str (i++j)) H)\/(qfR K x y H Q\/(qiz K x y H Q\/qlt x y H Q)))
theorem zp:OpR X (ya9 .Add) (qiT X.K):=OpR.or qis (OpR.or qcp (OpR.or qeQ (OpR.or qgB qiI)))
end
def jK:D->D->Option D
 |.int i,.int j=>some (.int (i+j))
 |.str x,.str y=>if qG (x.length+y.length)then some (.str (x++y))else none
 |.tup xs,.tup ys=>if qG (xs.length+ys.length)then some (.tup (xs++ys))else none
 |.lst xs,.lst ys=>if qG (xs.length+ys.length)then some (.lst (xs++ys))else none
 |_,_=>none
theorem zq {K:Fr0}:OpS K jK (qiT K):=by
 intro A H x y d v u Q hn ix iy e k
 cases x<;>cases y<;>simp only[jK]at e<;>try (cases e;done)
 ·rename_i i j
  cases ix;cases iy;cases e
  exact .inl ⟨i,j,rfl,rfl,k _ H (zK.refl H) rfl⟩
 ·rename_i i j
  cases ix;cases iy
  obtain⟨e1,e2⟩:=zH e
  subst e2
  exact .inr (.inl ⟨i,j,rfl,rfl,of_decide_eq_true e1,k _ H (zK.refl H) rfl⟩)
 ·rename_i ds es
  obtain⟨a,xs,rfl,ta,il⟩:=ix
  obtain⟨b,ys,rfl,tb,jl⟩:=iy
  obtain⟨e1,e2⟩:=zH e
  subst e2
  have hs:xs.length+ys.length<=yaq:=by rw[il.length,jl.length];exact of_decide_eq_true e1
  refine .inr (.inr ?_)
  cases ds with
  |nil=>
   have hx:xs=[]:=il
   subst hx
   exact .inl ⟨a,b,ys,rfl,rfl,ta.sq,tb.sq,k _ H (zK.refl H) ⟨b,ys,rfl,tb,jl⟩⟩
  | cons d0 ds=>
   refine .inr (.inl ⟨a,b,xs,ys,rfl,rfl,ta.sq,tb.sq,?_,hs,λhy=>?_,λhy p hp=>?_⟩)
   ·obtain⟨x,zs,hx,_⟩:=il
    rw[hx];simp
   ·subst hy
    cases es with
    |nil=>rw[ybq]at k;exact k _ H (zK.refl H) ⟨a,xs,rfl,ta,il⟩
    |cons e0 es=>obtain⟨_,_,hx,_⟩:=jl;cases hx
   ·exact k _ _ (qv hp _) ⟨p,xs++ys,rfl,.inl qt,IsL.ext (Ext.of_same (qv hp _)) (λ_ h _=>h) (IsL.append il jl)⟩
 ·rename_i ds es
  obtain⟨a,xs,rfl,hA,ta,il⟩:=ix
  obtain⟨b,ys,rfl,hB,tb,jl⟩:=iy
  obtain⟨e1,e2⟩:=zH e
  subst e2
  have hs:xs.length+ys.length<=yaq:=by rw[il.length,jl.length];exact of_decide_eq_true e1
  exact .inr (.inr (.inr (.inr ⟨a,b,xs,ys,rfl,rfl,ta,tb,hs,λp hp=>k _ _ (qv hp _) ⟨p,xs++ys,rfl,hn p hp,qt,IsL.ext (Ext.of_same (qv hp _)) (λ_ h _=>h) (IsL.append il jl)⟩⟩)))
section
variable{X:Cx}
end
def qkQ(xs:List D)(lo hi:Option Int):List D:=(xs.drop (HT.sIx xs.length 0 lo)).take (HT.sIx xs.length xs.length hi-HT.sIx xs.length 0 lo)
def slD (x:D) (lo hi:Option Int):Option D:=match x with
 |.tup ds=>some (.tup (qkQ ds lo hi))
 |_=>none
section
variable{X:Cx}{c:Fc}{a b e:Expr}{pos p2:Pos}
def asI:D->Option Int
 |.int i=>some i
 |_=>none
def qiU (f:M D):M (Option Int):=bnd f λd=>match d with
 |.int i=>ret (some i)
 |_=>λ_ => .bad
def dsl(f:M D)(g k:M (Option Int)):M D:=bnd f λd=>bnd g λl=>bnd k λu=>lift (slD d l u)
end
def j4 (X:Cx) (scope:Scope) (N':List Str) (fp:List Addr) (cl:List (Str×Addr)) (C:Addr) (s₀:yaa) (H₀:Hp) (pn:List (Addr×Obj)):Cx where
 prog:=X.prog
 w:=X.w
 K:=X.K
 mg:=X.mg
 base:=X.base
 A:=X.A
 N:=N'
 s₀:=s₀
 H₀:=H₀
 env:=compEnvC scope cl C X.env
 outer:=X.stack
 stack:=X.stack
 ex:=fp
 fn:=λ_=>false
 calm:=X.calm
 pn:=pn
 xe:=λ_ _=>False
def PF (X:Cx) (ifs:List Expr) (t:TT):Prop:=∀(pins:List (Addr×Obj))(s:yaa)(σ:St)(H:Hp)(Q:Bool->Hp->Prop),Inv X pins σ H s->t σ H Q ->
 wpAny (model X.prog X.w) X.A (forIn ifs true λc r=>if r=true then do let ok <-isTrue c X.env (eval c X.env);pure (ybf ok)else pure (ybf r)) (TP X pins σ Q) X.xe s
theorem qiV{X:Cx}:PF X [] (λ_ H Q=>Q true H):=λpins s σ H Q I h=>wpAny_tests_nil ⟨H,I,h⟩
theorem qiW{X:Cx}{e:Expr}{t:TT}(h:PT X e t):PF X [e] t:=λpins s σ H Q I hw=>wpAny_tests_one (h pins s σ H Q I hw)
structure yX (X:Cx) (scope:Scope) (N':List Str) (nt:Nat) (fr:List Nat):Prop where
 kind:scope.kind=.function
 nocell:∀y∈scope.names,y.2 ≠ .cell
 names:∀y∈scope.names,y.2=.local->scope.names.lookup y.1=some .local
 frees:∀y∈scope.names,y.2=.free->X.env.kindOf y.1=some .cell
 len:N'.length=nt+fr.length
 slot:∀i j,fr[i]? = some j->∃x,N'[nt+i]? = some x/\X.N[j]? = some x/\scope.names.lookup x=some .free
theorem uT {env:ycy}:∀(names:List (Str×ycs))(cs:List (Str×Addr)),(∀y∈names,y.2=.free->∃a,env.cells.lookup y.1=some a)->(∀n a,cs.lookup n=some a->env.cells.lookup n=some a) ->
  ∃ cl,(forIn names cs λx r=>match x with|(name,kind)=>if(kind==yaL)=true then do let a <-cellOf env name;pure (ybf ((name,a)::r))else pure (ybf r):Sem (List (Str×Addr)))=pure cl /\
   (∀n a,cl.lookup n=some a->env.cells.lookup n=some a)/\(∀n,(∃a,cs.lookup n=some a)->∃a,cl.lookup n=some a)/\∀y∈names,y.2=.free->∃a,cl.lookup y.1=some a
 | [],cs,_,h=>⟨cs,rfl,h,λ_ h=>h,λy hy=>by cases hy⟩
 | (n,k)::r,cs,hf,h=>by
  have hr:∀y∈r,y.2=.free->∃a,env.cells.lookup y.1=some a:=λy hy=>hf y (mM _ hy)
  rw[yb7]
  by_cases hk:k=.free
  ·subst hk
   obtain⟨a,ha⟩:=hf (n,.free) mS_ rfl
   have ha':env.cells.lookup n=some a:=ha
   have hcell:cellOf env n=pure a:=by unfold cellOf;rw[ha']
   obtain ⟨cl,e1,e2,e3,e4⟩:=uT r ((n,a)::cs) hr (λm b hm=>by
    rw[yaP]at hm
    cases e:m==n with
    |true=>rw[e]at hm;cases hm;rw[ydI e];exact ha'
    |false=>rw[e]at hm;exact h m b hm)
   refine⟨cl,?_,e2,λm ⟨b,hm⟩=>e3 m ?_,λy hy hyf=>?_⟩
   ·show((if(yaL==yaL)=true then _ else _) >>= _)=_
    rw[if_pos (by rfl),hcell]
    exact e1
   ·rw[yaP]
    cases e:m==n with
    |true=>exact⟨a,rfl⟩
    |false=>exact⟨b,hm⟩
   ·rcases List.mem_cons.mp hy with rfl|hy
    ·exact e3 n ⟨a,by rw[yaP];simp⟩
    ·exact e4 y hy hyf
  ·have hb:(k==yaL)=false:=by simpa using hk
   obtain⟨cl,e1,e2,e3,e4⟩:=uT r cs hr h
   refine⟨cl,?_,e2,e3,λy hy hyf=>?_⟩
   ·show((if(k==yaL)=true then _ else _) >>= _)=_
    rw[hb,if_neg yas]
    exact e1
   ·rcases List.mem_cons.mp hy with rfl|hy
    ·exact absurd hyf hk
    ·exact e4 y hy hyf
theorem w6 {env:ycy} {scope:Scope} (hf:∀y∈scope.names,y.2=.free->∃a,env.cells.lookup y.1=some a) :
  ∃cl,closureFor scope env=pure cl/\(∀n a,cl.lookup n=some a->env.cells.lookup n=some a)/\∀y∈scope.names,y.2=.free->∃a,cl.lookup y.1=some a:=by
 obtain⟨cl,e1,e2,_,e4⟩:=uT scope.names [] hf (λn a h=>by cases h)
 refine⟨cl,?_,e2,e4⟩
 unfold closureFor
 show(forIn scope.names [] _ >>= _)=_
 have e5:(forIn scope.names [] λx r=>match x with|(name,kind)=>if(kind==yaL)=true then do let a <-cellOf env name;pure (ybf ((name,a)::r))else pure (ybf r):Sem (List (Str×Addr)))=pure cl:=e1
 first
  |(rw[e5];rfl)
  |(simp only[bind_pure_comp,e5];rfl)
theorem j6 {env:ycy}:∀{names:List (Str×ycs)}{x:Str},names.lookup x=some .free->env.scope.kind=.function->env.kindOf x=some .cell ->
  (names.map λ(n,k)=>if(k==yaL&&env.scope.kind == .function&&env.kindOf n==some .cell) then(n,ycr) else(n,k)).lookup x=some .cell
 | [],_,h,_,_=>by simp at h
 | (n,k)::r,x,h,hk,hx=>by
  have ih := @j6 env r x
  show List.lookup x ((if(k==yaL&&env.scope.kind == .function&&env.kindOf n==some .cell)=true then(n,ycr) else(n,k))::_)=_
  cases hxn:x==n with
  |true=>
   have e:x=n:=ydI hxn
   subst e
   simp only[yaP,hxn]at h
   cases h
   rw[if_pos (by rw[hk,hx];rfl)]
   simp only[yaP,hxn]
  |false=>
   simp only[yaP,hxn]at h
   by_cases hc:(k==yaL&&env.scope.kind == .function&&env.kindOf n==some .cell)=true
   ·rw[if_pos hc];simp only[yaP,hxn];exact ih h hk hx
   ·rw[if_neg hc];simp only[yaP,hxn];exact ih h hk hx
theorem z6 {env:ycy}:∀{names:List (Str×ycs)}{x:Str}{q:ycs},(names.map λ(n,k)=>if(k==yaL&&env.scope.kind == .function&&env.kindOf n==some .cell) then(n,ycr) else(n,k)).lookup x=some q ->
  q=.cell\/q=.free->(∀y∈names,y.2 ≠ .cell)->∃k,(x,k)∈names/\k=.free
 | [],_,_,h,_,_=>by simp at h
 | (n,k)::r,x,q,h,hq,hc=>by
  have ih := @z6 env r x q
  have h':List.lookup x ((if(k==yaL&&env.scope.kind == .function&&env.kindOf n==some .cell)=true then(n,ycr) else(n,k))::(r.map λ(n,k)=>if(k==yaL&&env.scope.kind == .function&&env.kindOf n==some .cell) then(n,ycr) else(n,k)))=some q:=h
  have hr:∀y∈r,y.2 ≠ .cell:=λy hy=>hc y (mM _ hy)
  by_cases hcd:(k==yaL&&env.scope.kind == .function&&env.kindOf n==some .cell)=true
  ·rw [if_pos hcd]at h'
   cases hxn:x==n with
   |true=>
    have e:x=n:=ydI hxn
    subst e
    refine⟨k,mS_,?_⟩
    rw[yao,yao]at hcd
    exact ydI hcd.1.1
   |false=>
    simp only[yaP,hxn]at h'
    obtain⟨k',m,e⟩:=ih h' hq hr
    exact⟨k',mM _ m,e⟩
  ·rw [if_neg hcd]at h'
   cases hxn:x==n with
   |true=>
    have e:x=n:=ydI hxn
    subst e
    simp only[yaP,hxn]at h'
    cases h'
    rcases hq with rfl|rfl
    ·exact absurd rfl (hc (x,.cell) mS_)
    ·exact⟨.free,mS_,rfl⟩
   |false=>
    simp only[yaP,hxn]at h'
    obtain⟨k',m,e⟩:=ih h' hq hr
    exact⟨k',mM _ m,e⟩
def qQ(nt:Nat)(fr:List Nat)(σ:St):St:=yav nt none++fr.map λj=>(σ[j]?).join
def qkR (X:Cx) (tg:Expr) (ifs:List Expr) (elt:Expr) (scope:Scope) (N':List Str) (wi:TI) (nt:Nat) (fr:List Nat):TE:=λσ H Q=>wi σ H λJ H1=>∀acc fp cl C s₀ H₀ pn,H1 acc=none ->
 ∃(g:TG)(tt:TT)(te:TE),PG (j4 X scope N' fp cl C s₀ H₀ pn) tg g/\PF (j4 X scope N' fp cl C s₀ H₀ pn) ifs tt/\PE (j4 X scope N' fp cl C s₀ H₀ pn) elt te /\
 ∃W:Nat->Nat->St->Hp->Prop,(∃m,W 0 m (qQ nt fr σ) (upd H1 acc (.lst []))) /\
 ∀ i m σ' H',W i m σ' H'->(J.stop i H'/\Q (.ref acc) H')\/(J.go i H'/\∀x H'',J.yld i H' x H''->g x σ' H'' λσ2 H2=>tt σ2 H2 λb H3=>
  if b=true then te σ2 H3 λy H4=>∃ys,H4 acc=some (.lst ys)/\ys.length<yaq/\∃m',m'<m/\W (i+1) m' σ2 (upd H4 acc (.lst (ys++[y])))else ∃m',m'<m/\W (i+1) m' σ2 H3)
section
variable{X:Cx}{tg iter elt:Expr}{ifs:List Expr}{scope:Scope}{pos:Pos}{wi:TI}{N':List Str}{nt:Nat}{fr:List Nat}
theorem qbu {prog:yaj} {w:World} {A:yar} {R:ycT->yaa->Prop} {s:yaa} {it acc:Value} {env:ycy} (I:Nat->yaa->Prop)
  (turn : ∀n s,I n s->wpAny (model prog w) A (ybY it) (λr sJ=>match r with
   |none=>R (.ok .next) sJ
   | some v=>wpAny (model prog w) A (ybL tg it v) (λ_ s1'=>wpAny (model prog w) A (ycQ tg env v) (λ_ sY=>
     wpAny (model prog w) A (forIn ifs true λc r=>if r=true then do let ok <-isTrue c env (eval c env);pure (ybf ok)else pure (ybf r)) (λok sQ=>
      if ok=true then wpAny (model prog w) A (eval elt env) (λx sV=>
       wpAny (model prog w) A (call (.builtin "list.append") [acc,x]) (λ_ sX=>∃m,m<n/\I m sX) (λ_ _=>False) sV) (λ_ _=>False) sQ
      else ∃m,m<n/\I m sQ) (λ_ _=>False) sY) (λ_ _=>False) s1') (λ_ _=>False) sJ) (λ_ _=>False) s)
  (n:Nat) (h:I n s):yb1 (model prog w) A (.compLoop (.ListComp elt [⟨tg,iter,ifs,0⟩] scope pos) 0 it acc env) R s:=by
 refine codeAny_loop rfl I (λn s hI=>?_) n h
 show wpAny _ A ((compTurn (.ListComp elt [⟨tg,iter,ifs,0⟩] scope pos) 0 it acc env).onRaise (λx=>do noteFrame x env;theTreesLotGoes x)) _ _ s
 refine wpAny_noted ?_
 rw[compTurn_list]
 refine yab (yej (yab (ybd (turn n s hI) (λr sJ hG=>?_) λ_ _ h'=>h'.elim)))
 cases r with
 |none=>exact yal hG
 | some v=>
  refine yab (ybd hG (λ_ s1' hK'=>?_) λ_ _ h'=>h'.elim)
  refine yab (ybd hK' (λ_ sY hJ=>yab (ybd hJ (λok sQ hV=>?_) λ_ _ h'=>h'.elim)) λ_ _ h'=>h'.elim)
  cases ok with
  |false=>exact yal ⟨rfl,hV⟩
  |true=>
   exact yab (yab (ybd hV (λx sV h₄=>yab (ybd h₄ (λ_ sX hX=>yal (yal ⟨rfl,hX⟩)) λ_ _ h'=>h'.elim)) λ_ _ h'=>h'.elim))
theorem qcx {pins:List (Addr×Obj)} {σ:St} {H:Hp} {s:yaa} {hG:Heap} {tk:Nat} {fp:List Addr} {cl:List (Str×Addr)} (S:yX X scope N' nt fr) (I:Inv X pins σ H s) (hfp:∀b∈fp,qbR X pins H b)
  (hex:∀b∈fp,∃o,s.heap.get? b=some o) (cl1:∀n a,cl.lookup n=some a->X.env.cells.lookup n=some a) (cl2:∀y∈scope.names,y.2=.free->∃a,cl.lookup y.1=some a)
  (hns:∃m,hG.Ns s.heap.objs.size m) (old:∀b o,s.heap.get? b=some o->hG.get? b=some o) :
  Inv (j4 X scope N' fp cl s.heap.objs.size s H (X.pn++pins)) [] (qQ nt fr σ) H {s with heap:=hG,toks:=tk}:=by
 have stkB:∀b∈frs X.stack,b=X.env.locals\/b∈X.fs:=λb hb=>List.mem_cons.mp (I.stkSub b hb)
 have hC:∀b o,s.heap.get? b=some o->b≠s.heap.objs.size:=λb o e=>yat (yac e)
 obtain⟨m,hn⟩:=hns
 refine ⟨⟨I.ok.mod,S.kind,I.ok.glob,I.ok.blt,yak _,λx y c h1 h2=>I.ok.inj x y c (cl1 x c h1) (cl1 y c h2),λx hx=>?_,λx c hx=>?_,I.ok.hd,I.ok.frames,.inl rfl,λb hb=>⟨?_,λx c hx=>(hfp b hb).2.2.2.2.1 x c (cl1 x c hx)⟩,I.bs,ya4 I.ok.bsz I.sz,λb o e hb=>?_,λb hb hb2=>?_,I.stack,I.stkFree⟩,
  rfl,I.bare,Un.kept old,⟨m,hn,λi x v h1 h2 h3=>?_⟩,λx c hx=>?_,I.hok.fresh (yak _),λx c hx=>I.freeC x c (cl1 x c hx),λp hp=>?_,I.hok.kept old,?_⟩
 ·have hx':∃k,(x,k)∈scope.names/\k=.free:=by
   rcases hx with hx|hx
   ·exact z6 (env:=X.env) (q:=.cell) hx (.inl rfl) S.nocell
   ·exact z6 (env:=X.env) (q:=.free) hx (.inr rfl) S.nocell
  obtain⟨k,m,rfl⟩:=hx'
  exact cl2 (x,.free) m rfl
 ·have hx':false=true:=hx
  cases hx'
 ·obtain⟨o,e⟩:=hex b hb
  exact hC b o e
 ·obtain⟨f0,f1,f2,f3,f4,f5⟩:=hfp b hb
  rcases f3 with z|z
  ·exact I.ok.noex b o e z
  ·exact absurd (yaw (yac e) (ya4 I.ok.bsz z)) (ybG _)
 ·obtain⟨f0,f1,f2,f3,f4,f5⟩:=hfp b hb
  rcases stkB b hb2 with z|z
  ·exact f1 z
  ·exact f2 z
 ·-- names
  have hi:nt<=i:=by
   apply yct
   intro hlt
   unfold qQ at h2
   rw[List.getElem?_append_left (by simpa using hlt),List.getElem?_replicate]at h2
   split at h2<;>cases h2
  have h2':(fr.map λj=>(σ[j]?).join)[i-nt]? = some (some v):=by
   unfold qQ at h2
   rw[List.getElem?_append_right (by simpa using hi),yba]at h2
   exact h2
  rw[gM_]at h2'
  cases ej:fr[i-nt]? with
  |none=>rw[ej]at h2';cases h2'
  | some j=>
   rw[ej]at h2'
   have hσ:(σ[j]?).join=some v:=by simpa using h2'
   have hσ':σ[j]? = some (some v):=by
    cases e:σ[j]? with
    |none=>rw[e]at hσ;cases hσ
    |some o=>
     rw[e]at hσ
     have:o=some v:=hσ
     rw[this]
   obtain⟨y,hy1,hy2,hy3⟩:=S.slot (i-nt) j ej
   have hii:nt+(i-nt)=i:=by omega
   rw[hii]at hy1
   have exy:y=x:=by
    have h1':N'[i]? = some x:=h1
    rw[h1']at hy1
    exact(yax hy1).symm
   subst exy
   have hmem:(y,yaL)∈scope.names:=ybj hy3
   have hcellk:X.env.kindOf y=some .cell:=S.frees (y,.free) hmem rfl
   obtain⟨m0,hn0,hl0⟩:=I.loc
   obtain⟨u,ru,lk⟩:=hl0 j y v hy2 hσ' (.inr (.inl hcellk))
   refine⟨u,ru,.inr ⟨.inl (j6 hy3 I.ok.kind hcellk),?_⟩⟩
   rcases lk with⟨k1,_⟩|⟨_,c,e,z⟩
   ·rw[hcellk]at k1;cases k1
   ·obtain⟨a,ea⟩:=cl2 (y,.free) hmem rfl
    have ea':=cl1 y a ea
    rw[e]at ea'
    cases ea'
    obtain⟨o,ho,hd⟩:=z
    exact⟨c,ea,o,old _ _ ho,hd⟩
 ·obtain⟨v,o,ho,hd⟩:=I.cell x c (cl1 x c hx)
  exact⟨v,o,old _ _ ho,hd⟩
 ·have hp':p∈X.pn++pins:=by
   rcases mA_.mp (show p∈(X.pn++pins)++[]from hp)with z|z
   ·exact z
   ·cases z
  obtain⟨e,n,ne,nf,d⟩:=I.pin p hp'
  refine⟨old _ _ e,n,hC _ _ e,λz=>?_,d⟩
  rcases stkB p.1 z with z|z
  ·exact ne z
  ·exact nf z
 ·show(qQ nt fr σ).length=N'.length
  unfold qQ
  rw[lA_,yba,lM_,S.len]
theorem qeR {pins:List (Addr×Obj)} {σ σ':St} {H H':Hp} {s s':yaa} {h':Heap} {fp:List Addr} {cl:List (Str×Addr)} (I:Inv X pins σ H s) (hfp:∀b∈fp,qbR X pins H b)
  (J:Inv (j4 X scope N' fp cl s.heap.objs.size s H (X.pn++pins)) [] σ' H' s') (sb:ybA s.heap.objs.size s'.heap h'):Inv X pins σ H' {s' with heap:=h' }:=by
 have hC:H' s.heap.objs.size=none:=J.free
 have u:=J.base
 have big:∀b o,s.heap.get? b=some o->b≠s.heap.objs.size:=λb o e=>yat (yac e)
 have get':∀b,b≠s.heap.objs.size->h'.get? b=s'.heap.get? b:=λb hb=>sb.2 b hb
 have u2:Un (frs X.stack) fp H H' s.heap h' :=
  ⟨λb o e n hb hx=>(get' b (big b o e)).trans (u.keep b o e n hb hx),λb o e n hb hx=>by
   obtain⟨sl,q⟩:=u.slot b o e n hb hx
   exact⟨sl,(get' b (big b o e)).trans q⟩,u.free,λb o e hx=>by
   obtain⟨o',q⟩:=u.there b o e hx
   exact⟨o',(get' b (big b o e)).trans q⟩,u.tups,u.frzs,u.tbls⟩
 refine I.call' (s':={s' with heap:=h' }) (ch:=fp) J.os u2 (λb o e=>?_) J.bare (λb hb=>?_)
 ·refine(J.hok b o e).stay (λc v hc q=>?_) (λ_ q=>q) λ_ _ q=>q
  refine(get' c ?_).trans q
  rintro rfl
  rcases hc with hc|hc
  ·rw[<-hc,hC]at e;cases e
  ·rw[hC]at hc;cases hc
 ·obtain⟨f0,f1,f2,f3,f4,f5⟩:=hfp b hb
  exact⟨f3,f1,f4,f5⟩
theorem qgR (hc:X.calm=true) (hi:PI X tg iter wi) (S:yX X scope N' nt fr)
  (hs:∀x,ych iter X.env x=pure x:=by intro _;rfl):PE X (.ListComp elt [⟨tg,iter,ifs,0⟩] scope pos) (qkR X tg ifs elt scope N' wi nt fr):=by
 intro pins s σ H Q I hw
 obtain⟨cl,hcl,cl1,cl2⟩:=w6 (env:=X.env) (scope:=scope) (λy hy hf=>I.ok.has y.1 (.inl (S.frees y hy hf)))
 rw[eval_ListComp]
 refine wpAny_comprehension_free (use:=none) rfl hs hcl S.kind S.names (thn (hi pins s σ H _ I hw) λv s1 h1=>thn h1 λitv s2 h2=>?_)
 obtain⟨it,fp,tn,J,H2,e,I2,T,st2,f2,hR⟩:=h2
 subst e
 have hacc:H2 s2.heap.objs.size=none:=I2.hok.fresh (yak _)
 refine ybQ (wpAny_newFunctionEnv S.nocell (by intro y hy;simp at hy) (λhG hns1 hsb1=>?_) S.kind)
 dsimp only at hns1 hsb1 |-
 have I3:Inv X pins σ (upd H2 s2.heap.objs.size (.lst [])) {s2 with heap:=s2.heap.push {cls:=.type "list",dict:=none,data:=.seq ([]:List Value).toArray} } :=
  I2.lnew (t':=s2.toks) (its:=[]) .nil (yaV _)
 generalize hs3:({s2 with heap:=s2.heap.push {cls:=.type "list",dict:=none,data:=.seq ([]:List Value).toArray} }:yaa)=s3 at I3
 have hh3:s2.heap.push {cls:=.type "list",dict:=none,data:=.seq ([]:List Value).toArray}=s3.heap:=by rw[<-hs3]
 rw[hh3]at hns1 hsb1
 have old:∀b o,s3.heap.get? b=some o->hG.get? b=some o:=λb o q=>hsb1.extBut b o (yat (yac q)) (Heap.get?_push_of_some _ q)
 have objs2:∀b∈fp,∃o,s2.heap.get? b=some o:=λb hb=>by
  obtain⟨o,q,_⟩:=T.obj 0 _ st2 b hb
  exact⟨o,q⟩
 have keep23:∀b o,s2.heap.get? b=some o->s3.heap.get? b=some o:=λb o q=>by rw[<-hh3];exact Heap.get?_push_of_some _ q
 have fpne:∀b∈fp,b≠s2.heap.objs.size:=λb hb=>by
  obtain⟨o,q⟩:=objs2 b hb
  exact yat (yac q)
 have f3:∀b∈fp,qbR X pins (upd H2 s2.heap.objs.size (.lst [])) b:=λb hb=>⟨by rw[qu (fpne b hb)];exact(f2 b hb).1,(f2 b hb).2⟩
 have J0:Inv (j4 X scope N' fp cl s3.heap.objs.size s3 (upd H2 s2.heap.objs.size (.lst [])) (X.pn++pins)) [] (qQ nt fr σ) (upd H2 s2.heap.objs.size (.lst [])) {s3 with heap:=hG,toks:=s3.toks} :=
  qcx S I3 f3 (λb hb=>(objs2 b hb).imp λo q=>keep23 b o q) cl1 cl2 ⟨_,hns1⟩ old
 obtain⟨g,tt,te,hg,hf,he,W,⟨m0,w0⟩,turn⟩:=hR s2.heap.objs.size fp cl s3.heap.objs.size s3 (upd H2 s2.heap.objs.size (.lst [])) (X.pn++pins) hacc
 have T0:tn 0 hG:=T.keep 0 _ _ st2 λb hb o q=>old b o (keep23 b o q)
 have s3e:∀tk:Nat,({s2 with heap:=hG,toks:=tk}:yaa)={s3 with heap:=hG,toks:=tk}:=λtk=>by rw[<-hs3]
 have loop:∀tk:Nat,yb1 (model X.prog X.w) X.A (.compLoop (.ListComp elt [⟨tg,iter,ifs,0⟩] scope pos) 0 (.ref it) (.ref s2.heap.objs.size) (compEnvC scope cl s3.heap.objs.size X.env))
   (compPost (model X.prog X.w) X.A X.xe none (EP X pins σ Q) (.ref s2.heap.objs.size) s3.heap.objs.size) {s3 with heap:=hG,toks:=tk}:=λtk=>by
  have stat:∀{H':Hp},(∀b∈fp,H' b=none)->∀b∈fp,qbR (j4 X scope N' fp cl s3.heap.objs.size s3 (upd H2 s2.heap.objs.size (.lst [])) (X.pn++pins)) [] H' b:=λ{H'} hn b hb=>by
   obtain⟨o,q⟩:=objs2 b hb
   have hbC:b≠s3.heap.objs.size:=yat (yac (keep23 b o q))
   refine⟨hn b hb,hbC,λz=>?_,.inl hb,λx c hx=>(f2 b hb).2.2.2.2.1 x c (cl1 x c hx),λp hp=>?_⟩
   ·rcases List.mem_cons.mp (I2.stkSub b z)with z|z
    ·exact(f2 b hb).2.1 z
    ·exact(f2 b hb).2.2.1 z
   ·have hp':p∈X.pn++pins:=by
     rcases mA_.mp (show p∈(X.pn++pins)++[]from hp)with z|z
     ·exact z
     ·cases z
    exact(f2 b hb).2.2.2.2.2 p hp'
  have fr0:∀b∈fp,upd H2 s2.heap.objs.size (.lst []) b=none:=λb hb=>(f3 b hb).1
  refine qbu (λn s'=>∃i σ' H',Inv (j4 X scope N' fp cl s3.heap.objs.size s3 (upd H2 s2.heap.objs.size (.lst [])) (X.pn++pins)) [] σ' H' s'/\tn i s'.heap/\(∀b∈fp,H' b=none)/\W i n σ' H') ?_ m0
   ⟨0,qQ nt fr σ,_,J0.tok tk,T0,fr0,w0⟩
  rintro n s4 ⟨i,σ4,H4,J4,st4,fr4,w4⟩
  rcases turn i n σ4 H4 w4 with⟨stop,qn⟩|⟨go,step⟩
  ·refine thn (T.done (j4 X scope N' fp cl s3.heap.objs.size s3 (upd H2 s2.heap.objs.size (.lst [])) (X.pn++pins)) rfl rfl rfl hc i [] s4 σ4 H4 _ J4 (stat fr4) st4 stop) λr s5 ⟨hr,J5⟩=>?_
   subst hr
   obtain⟨m5,n5,_⟩:=J5.loc
   refine⟨m5,n5,λh' sb=>⟨.ref s2.heap.objs.size,H4,qeR I3 f3 J5 sb,rfl,qn⟩⟩
  ·refine thn (T.item (j4 X scope N' fp cl s3.heap.objs.size s3 (upd H2 s2.heap.objs.size (.lst [])) (X.pn++pins)) rfl rfl rfl hc i [] s4 σ4 H4 _ J4 (stat fr4) st4 go) λr s5 ⟨u,hr,h5⟩=>?_
   subst hr
   refine thn h5 λ_ s6 ⟨x,H6,J6,r6,y6,st6,fr6⟩=>?_
   have J6':=J6.pinned (stat fr6) (T.obj _ _ st6)
   have again:∀{σ7:St}{H7:Hp}{s7:yaa},Inv (j4 X scope N' fp cl s3.heap.objs.size s3 (upd H2 s2.heap.objs.size (.lst [])) (X.pn++pins)) ([]++qax fp s6.heap) σ7 H7 s7->(∃m',m'<n/\W (i+1) m' σ7 H7) ->
     ∃m,m<n/\∃i σ' H',Inv (j4 X scope N' fp cl s3.heap.objs.size s3 (upd H2 s2.heap.objs.size (.lst [])) (X.pn++pins)) [] σ' H' s7/\tn i s7.heap/\(∀b∈fp,H' b=none)/\W i m σ' H':=λ{σ7 H7 s7} I7 hm=>by
    obtain⟨m',hm,w7⟩:=hm
    refine⟨m',hm,i+1,σ7,H7,I7.unpinned,T.keep _ _ _ st6 λb hb o q=>(I7.pin (b,o) (mr_ _ (mr_ _ (uf hb q)))).1,λb hb=>?_,w7⟩
    obtain⟨o,q,d⟩:=T.obj _ _ st6 b hb
    exact(I7.pin (b,o) (mr_ _ (mr_ _ (uf hb q)))).2.1
   refine thn (hg _ s6 σ4 H6 x u _ J6' r6 (step x H6 y6)) λ_ s7 ⟨σ7,H7,J7,q7⟩=>?_
   refine thn (hf _ s7 σ7 H7 _ J7 q7) λok s8 ⟨H8,J8,q8⟩=>?_
   cases ok with
   |false=>
    rw[if_neg yas]at q8 |-
    exact again J8 q8
   |true=>
    rw[if_pos rfl]at q8 |-
    refine thn (he _ s8 σ7 H8 _ J8 q8) λz s9 ⟨y,H9,J9,r9,ys,hys,hz,hm⟩=>?_
    refine thn (qaH _ s9 σ7 H9 (.ref s2.heap.objs.size) [y] (.ref s2.heap.objs.size) [z] (λ_ H'=>H'=upd H9 s2.heap.objs.size (.lst (ys++[y]))) J9 rfl (.cons r9 .nil) ⟨_,ys,y,rfl,rfl,hys,hz,rfl⟩) λ_ s10 ⟨_,H10,J10,_,e10⟩=>?_
    subst e10
    exact again J10 hm
 have jy:∀tk:Nat,yb1 (model X.prog X.w) X.A (.compStart (.ListComp elt [⟨tg,iter,ifs,0⟩] scope pos) 0 (.ref it) (.ref s2.heap.objs.size) (compEnvC scope cl s3.heap.objs.size X.env))
   (compPost (model X.prog X.w) X.A X.xe none (EP X pins σ Q) (.ref s2.heap.objs.size) s3.heap.objs.size) {s3 with heap:=hG,toks:=tk}:=λtk=>
  codeAny_compStart_list (loop tk) (T.self X.A 0 _ _ _ T0 (loop tk))
 have fin:=jy (s2.toks+([]:List (Str×Value)).length)
 rw[<-s3e]at fin
 rw[<-hh3]at fin
 rw[hh3]at fin |-
 exact fin
end
structure qds (K:Fr0) (A:Addr->Prop) (H:Hp) (ds:List D) (J:It):Prop where
 go:∀H' i d,Ext A H H'->ds[i]? = some d->J.go i H'
 yl:∀H' i d x H'',Ext A H H'->ds[i]? = some d->J.yld i H' x H''->zK H' H''/\Is K A H'' d x
 stop:∀H',Ext A H H'->J.stop ds.length H'
def CnT(c:Fc)(σ:St)(H:Hp)(a:Addr):Prop:=Cn c σ a/\(H a).isSome=true
def WpI (K:Fr0) (c:Fc) (σ:St) (H:Hp) (Q:It->Hp->Prop):R (List D×Env)->Prop
 |.ok (ds,Z)=>∀J H',Rep K c Z σ H'->qds K (CnT c σ H') H' ds J->Gr c.O σ H H'->Q J H'
 |.exc x Z=>∀H',Rep K c Z σ H'->Gr c.O σ H H'->c.E x H'
 |.bad=>False
def DI(X:Cx)(c:Fc)(tg it:Expr)(f:M (List D)):Prop:=∃w,PI X tg it w/\∀Z σ H Q,Rep X.K c Z σ H->WpI X.K c σ H Q (f Z)->w σ H Q
section
variable{X:Cx}{c:Fc}{tg a b e:Expr}{pos:Pos}
def qmk(K:Fr0)(tl:TE):TI:=λσ H R=>tl σ H λx H1=>(∃a,x=.ref a/\(∃xs,SqL K H1 a xs)/\R (Itl K a) H1)\/(∃a,x=.ref a/\(∃xs,SqT K H1 a xs)/\R (Itt K a) H1)
theorem qiX {tl:TE} (hl:PE X e tl):PI X tg e (qmk X.K tl):=by
 intro pins s σ H R I h
 refine thn (hl pins s σ H _ I h) λv s1 ⟨x,H1,I1,r1,q1⟩=>?_
 rcases q1 with⟨a,e,⟨xs,hq⟩,q⟩|⟨a,e,⟨xs,hq⟩,q⟩
 ·subst e
  cases r1
  obtain⟨its,rv,p,hz⟩:=I1.list hq
  refine ybw p.isList ?_
  refine⟨s1.heap.objs.size,[s1.heap.objs.size],_,_,H1,rfl,I1.kept (t':=s1.toks) λb o e=>Heap.get?_push_of_some _ e,qc0 a _,⟨_,Heap.get?_push_size _ rfl,rfl,rfl⟩,λb hb=>?_,q⟩
  have e:b=s1.heap.objs.size:=by simpa using hb
  subst e
  exact I1.fpOk (yak _) (I1.hok.fresh (yak _))
 ·subst e
  cases r1
  obtain⟨its,rv,p,hz⟩:=I1.tuple hq
  refine ybl (show s1.heap.IsTuple a its.toArray from p) ?_
  refine⟨s1.heap.objs.size,[s1.heap.objs.size],_,_,H1,rfl,I1.kept (t':=s1.toks) λb o e=>Heap.get?_push_of_some _ e,qcn a _,⟨_,Heap.get?_push_size _ rfl,rfl,rfl⟩,λb hb=>?_,q⟩
  have e:b=s1.heap.objs.size:=by simpa using hb
  subst e
  exact I1.fpOk (yak _) (I1.hok.fresh (yak _))
def qki:D->Option (List D)
 |.tup ds=>some ds
 |.lst ds=>some ds
 |.fz ns=>some (ns.map .int)
 |_=>none
theorem SqL.inj {K:Fr0} {H:Hp} {a:Addr} {xs ys:List V} (h:H a=some (.lst xs)) (q:SqL K H a ys) (hk:∀o,K.lookup a=some o->False):ys=xs:=by
 rcases q with(q|⟨o,q⟩)|⟨o,_,_,q,_⟩
 ·rw[h]at q;cases q;rfl
 ·rw[h]at q;cases q
 ·exact(hk o q).elim
theorem qb1 {K:Fr0} {A:Addr->Prop} {H:Hp}:∀ns:List Int,IsL K A H (ns.map .int) (ns.map V.int)
 | []=>rfl
 |n::ns=>⟨.int n,ns.map V.int,rfl,rfl,qb1 ns⟩
theorem qdt {K:Fr0} {A:Addr->Prop} {H:Hp} {ds:List D} {xs:List V} {a:Addr} (hs:∀H',Ext A H H'->SqL K H' a xs) (il:IsL K A H ds xs):qds K A H ds (Itl K a) where
 go:=λH' i d ex hd=>by
  obtain⟨x,h1,h2⟩:=il.get hd
  exact⟨xs,x,hs H' ex,h1⟩
 yl:=λH' i d x H'' ex hd y=>by
  obtain⟨e,y⟩:=y
  subst e
  obtain⟨x',h1,h2⟩:=il.get hd
  have h3:=y xs (hs _ ex)
  rw[h1]at h3
  cases h3
  exact⟨zK.refl _,Is.ext ex (λ_ h _=>h) h2⟩
 stop:=λH' ex=>⟨xs,hs H' ex,by rw[il.length];exact yak _⟩
theorem qiY {K:Fr0} {A:Addr->Prop} {H:Hp} {ds:List D} {xs:List V} {a:Addr} (hs:ut K H a xs) (il:IsL K A H ds xs):qds K A H ds (Itt K a) where
 go:=λH' i d ex hd=>by
  obtain⟨x,h1,h2⟩:=il.get hd
  exact⟨xs,x,(hs.elim (λh => .inl (ex.tup _ _ h)) .inr:ut K H' a xs).sq,h1⟩
 yl:=λH' i d x H'' ex hd y=>by
  obtain⟨e,y⟩:=y
  subst e
  obtain⟨x',h1,h2⟩:=il.get hd
  have h3:=y xs (hs.elim (λh => .inl (ex.tup _ _ h)) .inr:ut K _ a xs).sq
  rw[h1]at h3
  cases h3
  exact⟨zK.refl _,Is.ext ex (λ_ h _=>h) h2⟩
 stop:=λH' ex=>⟨xs,(hs.elim (λh => .inl (ex.tup _ _ h)) .inr:ut K H' a xs).sq,by rw[il.length];exact yak _⟩
def wn(f:M D):M (List D):=bnd f λd=>lift (qki d)
theorem uh {K:Fr0} {σ:St} {H:Hp} {Q:It->Hp->Prop} {o:Option (List D)} {Z:Env} (h:WpI K c σ H Q (lift o Z)):∃ds,o=some ds/\∀J H',Rep K c Z σ H'->qds K (CnT c σ H') H' ds J->Gr c.O σ H H'->Q J H':=by
 cases o with
 |none=>exact h.elim
 |some d=>exact⟨d,rfl,h⟩
theorem WpI.gr {K:Fr0} {σ:St} {H H1:Hp} {Q:It->Hp->Prop}:∀{r:R (List D×Env)},WpI K c σ H Q r->Gr c.O σ H H1->WpI K c σ H1 Q r
 |.ok (d,Z),h,g=>λv H' hr hi hg=>h v H' hr hi (g.trans hg)
 |.exc x Z,h,g=>λH' hr hg=>h H' hr (g.trans hg)
 |.bad,h,_=>h
theorem Wp.bndI {K:Fr0} {σ:St} {H:Hp} {Q:It->Hp->Prop} {f:M D} {k:D->M (List D)} {Z:Env} {Q':VK} (h:WpI K c σ H Q (Sk.bnd f k Z)) (hQ:∀d Z' v H',Rep K c Z' σ H'->Is K (Cn c σ) H' d v->Gr c.O σ H H'->WpI K c σ H' Q (k d Z')->Q' v H'):Wp K c σ H Q' (f Z):=by
 unfold Sk.bnd at h
 cases e:f Z with
 |ok p=>rw[e]at h;exact λv H' hr hi hg=>hQ p.1 p.2 v H' hr hi hg (h.gr hg)
 |exc x Z'=>rw[e]at h;exact h
 |bad=>rw[e]at h;exact h
theorem WpL.bndI {K:Fr0} {σ:St} {H:Hp} {Q:It->Hp->Prop} {f:M (List D)} {k:List D->M (List D)} {Z:Env} {Q':List V->Hp->Prop} (h:WpI K c σ H Q (Sk.bnd f k Z)) (hQ:∀d Z' v H',Rep K c Z' σ H'->IsL K (Cn c σ) H' d v->Gr c.O σ H H'->WpI K c σ H' Q (k d Z')->Q' v H'):WpL K c σ H Q' (f Z):=by
 unfold Sk.bnd at h
 cases e:f Z with
 |ok p=>rw[e]at h;exact λv H' hr hi hg=>hQ p.1 p.2 v H' hr hi hg (h.gr hg)
 |exc x Z'=>rw[e]at h;exact h
 |bad=>rw[e]at h;exact h
theorem Is.tr{K:Fr0}{A:Addr->Prop}{H:Hp}{d:D}{v:V}(h:Is K A H d v):Is K (λa=>A a/\(H a).isSome=true) H d v:=Is.ext Ext.refl (λa h1 h2=>⟨h1,h2⟩) h
theorem vN {f:M D} (h:DE X c e f):DI X c tg e (wn f):=by
 obtain⟨t,p,w⟩:=h
 refine⟨_,qiX p,λZ σ H Q r h=>w Z σ H _ r (Wp.bndI h λd Z1 v H1 r1 i1 g1 h1=>?_)⟩
 obtain⟨ds,e,h2⟩:=uh h1
 have i2:Is X.K (CnT c σ H1) H1 d v:=i1.tr
 cases d<;>simp only[qki]at e<;>try (cases e;done)
 ·cases e
  obtain⟨a,xs,rfl,ta,il⟩:=i2
  exact .inr ⟨a,rfl,⟨xs,ta.sq⟩,h2 _ H1 r1 (qiY ta il) .refl⟩
 ·cases e
  obtain⟨a,xs,rfl,hA,ta,il⟩:=i2
  exact .inl ⟨a,rfl,⟨xs,.inl (.inl ta)⟩,h2 _ H1 r1 (qdt (λH' ex => .inl (.inl (ex.at_ _ _ hA ta))) il) .refl⟩
 ·cases e
  obtain⟨a,rfl,ta⟩:=i2
  exact .inl ⟨a,rfl,⟨_,ta.sq⟩,h2 _ H1 r1 (qdt (λH' ex=>(ta.elim (λ⟨o,h⟩ => .inl ⟨o,ex.frz _ _ _ h⟩) .inr:qiL X.K H' a _).sq) (qb1 _)) .refl⟩
def w8(lo:Int)(n:Nat):List D:=(yaY n).map λi => .int (lo+(i:Nat))
theorem qiZ {K:Fr0} {A:Addr->Prop} {H:Hp} (lo:Int) (n:Nat):qds K A H (w8 lo n) (Itr lo n) where
 go:=λH' i d ex hd=>by
  have:i<(w8 lo n).length:=(gI_.mp hd).1
  show i<n
  simpa [w8] using this
 yl := λH' i d x H'' ex hd y=>by
  obtain⟨e,y⟩:=y
  subst e
  subst y
  refine⟨zK.refl _,?_⟩
  unfold w8 at hd
  rw[gM_]at hd
  cases e2:(yaY n)[i]? with
  |none=>rw[e2]at hd;cases hd
  | some j=>
   rw[e2]at hd
   have hj:j=i:=by
    have:=(gI_.mp e2).2
    simpa using this.symm
   subst hj
   cases hd
   rfl
 stop:=λH' ex=>by show n<=(w8 lo n).length;simp[w8]
def qfS:List D->Option (List D)
 | [.int j]=>if decide (-(2 ^ 62)<=j)&&decide (j<2 ^ 62)then some (w8 0 j.toNat)else none
 |_=>none
def uU(f:M (List D)):M (List D):=bnd f λds=>lift (qfS ds)
theorem uJ {f:M (List D)} {p:Pos} (hg:Gl X "range") (hm:X.mg "range"=none) (ha:DA X c [a] f) (hs:yag [a] X.env=[(false,eval a X.env)]:=by rfl):DI X c tg (.Call (.Name "range" p) [a] [] pos) (uU f):=by
 obtain⟨t,p,w⟩:=ha
 refine⟨_,qc1 hg hm p hs,λZ σ H Q r h=>w Z σ H _ r (WpL.bndI h λds Z1 vs H1 r1 i1 g1 h1=>?_)⟩
 obtain⟨es,e,h2⟩:=uh h1
 unfold qfS at e
 split at e
 ·rename_i j
  obtain⟨v,rfl,e2⟩:=IsL.inv1 i1
  cases e2
  by_cases hb:(decide (-(2 ^ 62)<=j)&&decide (j<2 ^ 62))=true
  ·rw[if_pos hb]at e
   cases e
   rw[yao]at hb
   exact⟨j,rfl,of_decide_eq_true hb.1,of_decide_eq_true hb.2,h2 _ H1 r1 (qiZ 0 _) .refl⟩
  ·rw[if_neg hb]at e
   cases e
 ·cases e
def yY (g:D->Env->Option Env) (b:MS):List D->MS
 | [],Z => .ok (.nx Z)
 | d::ds,Z=>match g d Z with
  |none => .bad
  |some Z1=>match b Z1 with
   |.ok (.nx Z2)=>yY g b ds Z2
   |.ok (.ct Z2)=>yY g b ds Z2
   |.ok (.bk Z2) => .ok (.nx Z2)
   |.ok (.rt r Z2) => .ok (.rt r Z2)
   |.exc x Z2 => .exc x Z2
   |.bad => .bad
def qfT(f:M (List D))(g:D->Env->Option Env)(b:MS):MS:=sbnd f λds=>yY g b ds
theorem WpI.sbnd {K:Fr0} {σ:St} {H:Hp} {D':qen} {f:M (List D)} {k:List D->MS} {Z:Env} {Q':It->Hp->Prop} (h:WpS K c σ H D' (Sk.sbnd f k Z))
  (hQ:∀ds Z' J H',Rep K c Z' σ H'->qds K (CnT c σ H') H' ds J->Gr c.O σ H H'->WpS K c σ H' D' (k ds Z')->Q' J H'):WpI K c σ H Q' (f Z):=by
 unfold Sk.sbnd at h
 cases e:f Z with
 |ok p=>rw[e]at h;exact λv H' hr hi hg=>hQ p.1 p.2 v H' hr hi hg (h.gr hg.s)
 |exc x Z'=>rw[e]at h;exact λH' hr hg=>h σ H' hr hg.s
 |bad=>rw[e]at h;exact h
theorem GrS.extT{σ σ':St}{H H':Hp}(g:GrS c.O σ H σ' H'):Ext (CnT c σ H) H H':=⟨g.ext.tup,g.ext.frz,λb o hb h=>g.ext.at_ b o hb.1.2 h⟩
theorem GrS.cnT{σ σ':St}{H H':Hp}(g:GrS c.O σ H σ' H'){a:Addr}(h:CnT c σ H a):Cn c σ' a:=⟨h.1.1,g.cl a h.1.2 h.2⟩
theorem wG{α:Type}{l:List α}{i:Nat}(h:i<l.length):l.drop i=l[i]::l.drop (i+1):=List.drop_eq_getElem_cons h
theorem qaP {it:Expr} {body:List Stmt} {f:M (List D)} {g:D->Env->Option Env} {b:MS} (hp:ydE (model X.prog X.w) X.A X.env X.xe) (hc:X.calm=true) (hi:DI X c tg it f) (hg:DG X c tg g) (hb:DSs X c body b)
  (hs:∀x,ych it X.env x=pure x:=by intro _;rfl):DS X c (.For tg it body [] pos) (qfT f g b):=by
 obtain⟨wi,pi,wI⟩:=hi
 obtain⟨tg',pg,wg⟩:=hg
 obtain⟨tb,pb,wb⟩:=hb
 refine⟨_,qip hp hc pi pg pb hs,λZ σ H D' r h=>wI Z σ H _ r (WpI.sbnd h λds Z1 J H1 r1 iok g1 h1=>?_)⟩
 refine⟨λi m σ' H'=>m=ds.length-i/\i<=ds.length/\∃Z',Rep X.K c Z' σ' H'/\GrS c.O σ H1 σ' H'/\WpS X.K c σ' H' D' (yY g b (ds.drop i) Z'),⟨ds.length,by simp,yaV _,Z1,r1,.refl,by simpa using h1⟩,?_⟩
 rintro i m σ' H' ⟨rfl,hi,Z',r',gs,w⟩
 by_cases hlt:i<ds.length
 ·refine .inr ⟨iok.go H' i ds[i] gs.extT (by simp[hlt]),λσ2 H2=>∃Z2,Rep X.K c Z2 σ2 H2/\GrS c.O σ H1 σ2 H2/\WpS X.K c σ2 H2 D' (yY g b (ds.drop (i+1)) Z2),λσ2 H2 n=>⟨ds.length-(i+1),by omega,rfl,hlt,n⟩,λx H'' y=>?_⟩
  obtain⟨sm,ix⟩:=iok.yl H' i ds[i] x H'' gs.extT (by simp[hlt]) y
  rw[wG hlt]at w
  unfold yY at w
  have gs2:GrS c.O σ H1 σ' H'':=gs.trans (Gr.of_same sm).s
  have ix2:Is X.K (Cn c σ') H'' ds[i] x:=Is.ext Ext.refl (λa ha _=>gs2.cnT ha) ix
  cases e1:g ds[i] Z' with
  |none=>simp only[e1]at w;exact w.elim
  | some Z2=>
   simp only[e1]at w
   refine wg Z' σ' H'' ds[i] x Z2 _ (r'.same sm) ix2 e1 λσ2 r2 g2 _=>wb Z2 σ2 H'' _ r2 ?_
   have w2:=w.gr ((Gr.of_same sm).s.trans g2)
   have gs3:GrS c.O σ H1 σ2 H'':=gs2.trans g2
   cases e2:b Z2 with
   |ok fl=>
    cases fl with
    |nx Z3=>simp only[e2]at w2;exact λσ3 H3 r3 g3=>⟨Z3,r3,gs3.trans g3,w2.gr g3⟩
    |ct Z3=>simp only[e2]at w2;exact λσ3 H3 r3 g3=>⟨Z3,r3,gs3.trans g3,w2.gr g3⟩
    |bk Z3=>simp only[e2]at w2;exact w2
    |rt d Z3=>simp only[e2]at w2;exact w2
   |exc x Z3=>simp only[e2]at w2;exact w2
   |bad=>simp only[e2]at w2;exact w2
 ·have hie:i=ds.length:=by omega
  subst hie
  rw[ydT (yak _)]at w
  exact .inl ⟨iok.stop H' gs.extT,w σ' H' r' .refl⟩
end
def cin (B0:Addr->Prop) (H1:Hp) (O':List Nat) (Io':Addr->Prop) (acc:Addr) (S':Nat->Option (Option V)):Fc where
 O:=O'
 P:=O'
 B:=λa=>B0 a/\a≠acc
 H0:=upd H1 acc (.lst [])
 Io:=λa=>Io' a\/a=acc
 E:=λ_ _=>False
 S:=S'
def zj (g:D->Env->Option Env) (t:M Bool) (e:M D):List D->List D->Env->R (List D×Env)
 | [],acc,Z => .ok (acc,Z)
 | d :: ds,acc,Z=>match g d Z with
  |none => .bad
  | some Z1=>match t Z1 with
   |.ok (true,Z2)=>match e Z2 with
    |.ok (y,Z3)=>if qG (acc.length+1)then zj g t e ds (acc++[y]) Z3 else .bad
    |_ => .bad
   |.ok (false,Z2)=>zj g t e ds acc Z2
   |_ => .bad
def j7(nt:Nat)(fr:List Nat)(Z:Env):Env:=yav nt none++fr.map λj=>(Z[j]?).join
def qhZ (fo:Option (Nat×Nat)) (Ze Z:Env):Env:=match fo with
 |none=>Z
 |some (i,j)=>Z.set j (Ze[i]?).join
def zZ (nt:Nat) (fr:List Nat) (fo:Option (Nat×Nat)) (f:M (List D)) (g:D->Env->Option Env) (t:M Bool) (e:M D):M D:=bnd f λds Z=>match zj g t e ds [] (j7 nt fr Z) with
 |.ok (ys,Ze) => .ok (.lst ys,qhZ fo Ze Z)
 |_ => .bad
def DF(X:Cx)(c:Fc)(ifs:List Expr)(f:M Bool):Prop:=∃t,PF X ifs t/\∀Z σ H Q,Rep X.K c Z σ H->WpB X.K c σ H Q (f Z)->t σ H Q
def foO (fo:Option (Nat×Nat)):List Nat:=match fo with
 |none=>[]
 |some (i,_)=>[i]
section
variable{X:Cx}{c:Fc}{tg a b e:Expr}{pos:Pos}
theorem yZ:DF X c [] (ret true):=⟨_,qiV,λZ σ H Q r h=>h H r .refl⟩
theorem qi0 {f:M Bool} (h:DT X c e f):DF X c [e] f:=by
 obtain⟨t,p,w⟩:=h
 exact⟨_,qiW p,w⟩
theorem WpI.bnd {K:Fr0} {σ:St} {H:Hp} {Q:VK} {f:M (List D)} {k:List D->M D} {Z:Env} {Q':It->Hp->Prop} (h:Wp K c σ H Q (Sk.bnd f k Z))
  (hQ:∀ds Z' J H',Rep K c Z' σ H'->qds K (CnT c σ H') H' ds J->Gr c.O σ H H'->Wp K c σ H' Q (k ds Z')->Q' J H'):WpI K c σ H Q' (f Z):=by
 unfold Sk.bnd at h
 cases e:f Z with
 |ok p=>rw[e]at h;exact λv H' hr hi hg=>hQ p.1 p.2 v H' hr hi hg (h.gr hg)
 |exc x Z'=>rw[e]at h;exact h
 |bad=>rw[e]at h;exact h
theorem Rep.grow {K:Fr0} {B0:Addr->Prop} {H1:Hp} {O':List Nat} {Io':Addr->Prop} {acc:Addr} {S':Nat->Option (Option V)} {Z:Env} {σ:St} {H:Hp} {xs ys:List V} (r:Rep K (cin B0 H1 O' Io' acc S') Z σ H) (h:H acc=some (.lst xs)) (ho:∀j∈O',σ[j]? ≠ some (some (.ref acc))) :
  Rep K (cin B0 H1 O' Io' acc S') Z σ (upd H acc (.lst ys)):=by
 have ext:Ext (λa=>a≠acc) H (upd H acc (.lst ys)):=⟨λb zs hb=>by rw[qu (wu hb h (by intro z;cases z))];exact hb,λb o u hb=>by rw[qu (wu hb h (by intro z;cases z))];exact hb,λb o hb hq=>by rw[qu hb];exact hq⟩
 have cnext:Ext (Cn (cin B0 H1 O' Io' acc S') σ) H (upd H acc (.lst ys)):=⟨ext.tup,ext.frz,λb o hb hq=>ext.at_ b o hb.1.2 hq⟩
 refine⟨r.len,λi d hd=>?_,λj hj v hv=>?_,r.inj,r.b0,λb o hb hio=>?_,λb hb=>?_,r.pO,r.ps⟩
 ·obtain ⟨v,h1,h2⟩:=r.val i d hd
  refine⟨v,h1,?_⟩
  rcases h2 with⟨hi,ds,a,zs,h3,h5,h6,h7⟩|⟨hi,h3⟩
  ·subst h5
   have ne:a≠acc:=λe=>ho i hi (by rw[h1,e])
   exact .inl ⟨hi,ds,a,zs,h3,rfl,by rw[qu ne];exact h6,IsL.ext cnext (λ_ h _=>h) h7⟩
  ·exact .inr ⟨hi,Is.ext cnext (λ_ h _=>h) h3⟩
 ·obtain⟨a,zs,h1,h2,h3⟩:=r.own j hj v hv
  subst h1
  have ne:a≠acc:=λe=>ho j hj (by rw[hv,e])
  exact⟨a,zs,rfl,by rw[qu ne];exact h2,h3⟩
 ·have ne:b≠acc:=λe=>hio (.inr e)
  rw[qu ne]
  exact r.kp b o hb hio
 ·by_cases e:b=acc
  ·subst e;rw[qt]at hb;cases hb
  ·rw[qu e]at hb;exact r.dm b hb
theorem vO {α:Type} {o:Option (Option α)} {a:α} (h:o.join=some a):o=some (some a):=by
 cases o with
 |none=>cases h
 |some x=>have:x=some a:=h;rw[this]
def qh0 (c:Fc) (nt:Nat) (fr:List Nat) (fo:Option (Nat×Nat)):Prop:=match fo with
 |none=>∀j∈fr,j ∉ c.O
 |some (i,j)=>j∈c.O/\nt<=i/\fr[i-nt]? = some j/\∀k j',fr[k]? = some j'->nt+k≠i->j' ∉ c.O
def qcy (σ:St) (fo:Option (Nat×Nat)) (a:Addr):Prop:=match fo with
 |none=>False
 |some (_,j)=>σ[j]? = some (some (.ref a))
theorem uV {nt:Nat} {fr:List Nat} {σ:St} {k j:Nat} (h:fr[k]? = some j):(qQ nt fr σ)[nt+k]? = some (σ[j]?).join:=by
 unfold qQ
 rw[List.getElem?_append_right (by simp),yba,gM_,show nt+k-nt=k by omega,h]
 rfl
theorem qcz {nt:Nat} {fr:List Nat} {Z:Env} {i:Nat} {d:D} (hd:(j7 nt fr Z)[i]? = some (some d)):∃k j,i=nt+k/\fr[k]? = some j/\Z[j]? = some (some d):=by
 have hi:nt<=i:=by
  apply yct
  intro hlt
  unfold j7 at hd
  rw[List.getElem?_append_left (by simpa using hlt),List.getElem?_replicate]at hd
  split at hd<;>cases hd
 unfold j7 at hd
 rw[List.getElem?_append_right (by simpa using hi),yba,gM_]at hd
 cases ej:fr[i-nt]? with
 |none=>rw[ej]at hd;cases hd
 |some j=>
  rw[ej]at hd
  exact⟨i-nt,j,by omega,ej,vO (by simpa using hd)⟩
theorem ui {nt:Nat} {fr:List Nat} {σ:St} {i:Nat} {d:V} (hd:(qQ nt fr σ)[i]? = some (some d)):∃k j,i=nt+k/\fr[k]? = some j/\σ[j]? = some (some d):=by
 have hi:nt<=i:=by
  apply yct
  intro hlt
  unfold qQ at hd
  rw[List.getElem?_append_left (by simpa using hlt),List.getElem?_replicate]at hd
  split at hd<;>cases hd
 unfold qQ at hd
 rw[List.getElem?_append_right (by simpa using hi),yba,gM_]at hd
 cases ej:fr[i-nt]? with
 |none=>rw[ej]at hd;cases hd
 |some j=>
  rw[ej]at hd
  exact⟨i-nt,j,by omega,ej,vO (by simpa using hd)⟩
theorem Rep.entry {K:Fr0} {nt:Nat} {fr:List Nat} {fo:Option (Nat×Nat)} {acc:Addr} {Z:Env} {σ:St} {H:Hp} (r:Rep K c Z σ H) (hn:H acc=none) (hfo:qh0 c nt fr fo) :
  Rep K (cin (Cn c σ) H (foO fo) (qcy σ fo) acc λj=>(qQ nt fr σ)[j]?) (j7 nt fr Z) (qQ nt fr σ) (upd H acc (.lst [])):=by
 have sm:zK H (upd H acc (.lst [])):=qv hn _
 have ownI:∀i∈foO fo,∀v,(qQ nt fr σ)[i]? = some (some v)->∃j,fo=some (i,j)/\j∈c.O/\σ[j]? = some (some v):=λi hi v hv=>by
  cases fo with
  |none=>cases hi
  |some p=>
   obtain⟨i',j'⟩:=p
   have e:i=i':=by simpa [foO] using hi
   subst e
   obtain⟨h1,h2,h3,h4⟩:=hfo
   obtain⟨k,j,e1,e2,e3⟩:=ui hv
   have hk:k=i-nt:=by omega
   subst hk
   rw[h3]at e2
   cases e2
   exact⟨j',rfl,h1,e3⟩
 have clI:∀a,Cl c.O σ a->Cl (foO fo) (qQ nt fr σ) a:=λa ha i hi e=>by
  obtain⟨j,_,hj,e2⟩:=ownI i hi _ e
  exact ha j hj e2
 refine⟨by simp[j7,qQ],λi d hd=>?_,λi hi v hv=>?_,λi j a hi hj h1 h2=>?_,⟨λa ha=>?_,λq P pos eP=>?_⟩,λb o hb hio=>?_,λb hb=>?_,λ_ h=>h,λ_ _=>rfl⟩
 ·obtain ⟨k,j,e1,e2,e3⟩:=qcz hd
  subst e1
  by_cases hO:nt+k∈foO fo
  ·obtain ⟨v,hv⟩:∃v,σ[j]? = some (some v):=by
    obtain⟨v,h1,_⟩:=r.val j d e3
    exact⟨v,h1⟩
   have hc:(qQ nt fr σ)[nt+k]? = some (some v):=by rw[uV e2,hv];rfl
   obtain⟨j',f1,f2,f3⟩:=ownI _ hO v hc
   subst f1
   obtain⟨g1,g2,g3,g4⟩:=hfo
   rw[show nt+k-nt=k by omega,e2]at g3
   cases g3
   obtain⟨ds,a,xs,h1,h3,h4,h5⟩:=r.getO g1 e3
   rw[hv]at h3
   cases h3
   exact⟨.ref a,hc,.inl ⟨hO,ds,a,xs,h1,rfl,sm _ _ h4,IsL.ext (Ext.of_same sm) (λb hb hs=>⟨⟨hb,λe=>by subst e;rw[hn]at hs;cases hs⟩,clI b hb.2⟩) h5⟩⟩
  ·have hj:j ∉ c.O:=by
    cases fo with
    |none=>exact hfo j (ycA e2)
    |some p=>
     obtain⟨i',j'⟩:=p
     exact hfo.2.2.2 k j e2 (λe=>hO (by simp[foO,e]))
   obtain⟨v,h1,h2⟩:=r.get hj e3
   refine⟨v,by rw[uV e2,h1];rfl,.inr ⟨hO,?_⟩⟩
   refine Is.ext (Ext.of_same sm) (λa ha hs=>⟨⟨ha,λe=>?_⟩,clI a ha.2⟩) h2
   subst e;rw[hn]at hs;cases hs
 ·obtain⟨j,f1,f2,f3⟩:=ownI i hi v hv
  obtain⟨a,xs,h1,h2,h3⟩:=r.own j f2 v f3
  subst h1 f1
  exact⟨a,xs,rfl,sm _ _ h2,.inr ⟨hi,.inl f3⟩⟩
 ·cases fo with
  |none=>cases hi
  |some p=>
   obtain⟨i',j'⟩:=p
   have e:i=i':=by simpa [foO,cin] using hi
   have e2:j=i':=by simpa [foO,cin] using hj
   rw[e,e2]
 ·have ha':upd H acc (.lst []) a=none:=ha
  by_cases e:a=acc
  ·subst e;rw[qt]at ha';cases ha'
  ·rw[qu e]at ha';exact⟨r.new ha',e⟩
 ·have hP:=(r.tb q P pos eP).1
  refine⟨sm _ _ hP,λz=>?_⟩
  rcases z with z|z
  ·cases fo with
   |none=>exact z
   |some p=>
    obtain⟨b,xs,e1,e2,_⟩:=r.own _ hfo.1 _ z
    cases e1
    rw[hP]at e2;cases e2
  ·rw[z,hn]at hP;cases hP
 ·exact hb
 ·exact hb
theorem Rep.leave {K:Fr0} {nt:Nat} {fr:List Nat} {fo:Option (Nat×Nat)} {acc:Addr} {Z Ze:Env} {σ σe:St} {H H':Hp} (r:Rep K c Z σ H) (hn:H acc=none) (hfo:qh0 c nt fr fo) (hf:∀i j,fo=some (i,j)->σe[i]? = (qQ nt fr σ)[i]?)
  (q:Rep K (cin (Cn c σ) H (foO fo) (qcy σ fo) acc λj=>(qQ nt fr σ)[j]?) Ze σe H'):Rep K c (qhZ fo Ze Z) σ H'/\Gr c.O σ H H':=by
 have kp:∀b o,H b=some o->¬qcy σ fo b->H' b=some o:=λb o hb hio=>q.kp b o (by show upd H acc (.lst []) b=some o;rw[qu (qE hb hn)];exact hb) λz=>z.elim hio λe=>absurd e (qE hb hn)
 have clean:∀b,Cl c.O σ b->¬qcy σ fo b:=λb hb hio=>by
  cases fo with
  |none=>exact hio
  |some p=>exact hb p.2 hfo.1 hio
 have dom:∀b,H' b=none->H b=none:=λb hb=>by
  have:=q.dm b hb
  by_cases e:b=acc
  ·subst e;exact hn
  ·have this:upd H acc (.lst []) b=none:=this
   rw[qu e]at this;exact this
 have notT:∀b xs,H b=some (.tup xs)->¬qcy σ fo b:=λb xs hb hio=>by
  cases fo with
  |none=>exact hio
  |some p=>
   obtain⟨a,ys,e1,e2,_⟩:=r.own p.2 hfo.1 _ hio
   cases e1;rw[hb]at e2;cases e2
 have notF:∀b o u,H b=some (.frz o u)->¬qcy σ fo b:=λb o u hb hio=>by
  cases fo with
  |none=>exact hio
  |some p=>
   obtain⟨a,ys,e1,e2,_⟩:=r.own p.2 hfo.1 _ hio
   cases e1;rw[hb]at e2;cases e2
 have gr:Gr c.O σ H H':=⟨⟨λb xs hb=>kp b _ hb (notT b xs hb),λb o u hb=>kp b _ hb (notF b o u hb),λb o hc hb=>kp b o hb (clean b hc)⟩,dom⟩
 refine⟨⟨?_,λk d hd=>?_,λj hj v hv=>?_,r.inj,r.b0,λb o hb hio=>?_,λb hb=>r.dm b (dom b hb),r.pO,r.ps⟩,gr⟩
 ·cases fo with
  |none=>exact r.len
  |some p=>show(Z.set _ _).length=_;rw[lS_];exact r.len
 ·-- an old slot,or the one that came qhZ
  have oldSlot:Z[k]? = some (some d)->(∀i,fo≠some (i,k))->∃v,σ[k]? = some (some v)/\((k∈c.O/\∃ds a xs,d=.lst ds/\v=.ref a/\H' a=some (.lst xs)/\IsL K (Cn c σ) H' ds xs)\/(k ∉ c.O/\Is K (Cn c σ) H' d v)):=λhk hne=>by
   obtain⟨v,h1,h2⟩:=r.val k d hk
   refine⟨v,h1,?_⟩
   rcases h2 with⟨hi,ds,a,xs,h3,h5,h6,h7⟩|⟨hi,h3⟩
   ·subst h5
    refine .inl ⟨hi,ds,a,xs,h3,rfl,kp a _ h6 (λhio=>?_),gr.isL h7⟩
    cases fo with
    |none=>exact hio
    |some p=>
     obtain⟨i',j'⟩:=p
     have e:=r.inj k j' a hi hfo.1 h1 hio
     exact hne i' (by rw[e])
   ·exact .inr ⟨hi,gr.is h3⟩
  cases fo with
  |none=>exact oldSlot hd (λi e=>by cases e)
  | some p=>
   obtain⟨i',j'⟩:=p
   have hd':(Z.set j' (Ze[i']?).join)[k]? = some (some d):=hd
   by_cases e:k=j'
   ·subst e
    have hl:k<Z.length:=by
     have:=(gI_.mp hd').1
     rwa [lS_]at this
    rw[List.getElem?_set_self hl]at hd'
    have he:Ze[i']? = some (some d):=vO (yax hd')
    obtain⟨ds,a,xs,h1,h3,h4,h5⟩:=q.getO (show i'∈foO (some (i',k)) by simp[foO]) he
    have h3':=hf i' k rfl
    rw[h3]at h3'
    obtain⟨k2,j2,e1,e2,e3⟩:=ui h3'.symm
    have hk2:k2=i'-nt:=by omega
    subst hk2
    rw[hfo.2.2.1]at e2
    cases e2
    exact⟨.ref a,e3,.inl ⟨hfo.1,ds,a,xs,h1,rfl,h4,IsL.ext Ext.refl (λb hb _=>hb.1.1) h5⟩⟩
   ·rw[zg e]at hd'
    exact oldSlot hd' (λi e2=>e (by cases e2;rfl))
 ·obtain ⟨a,xs,h1,h2,h3⟩:=r.own j hj v hv
  subst h1
  by_cases hio:qcy σ fo a
  ·cases fo with
   |none=>exact hio.elim
   | some p=>
    obtain⟨i',j'⟩:=p
    have hc:(qQ nt fr σ)[i']? = some (some (.ref a)):=by
     have:=uV (σ:=σ) (nt:=nt) hfo.2.2.1
     rw[show nt+(i'-nt)=i' by have:=hfo.2.1;omega]at this
     rw[this]
     have hio':σ[j']? = some (some (.ref a)):=hio
     rw[hio'];rfl
    have h3':=hf i' j' rfl
    rw[hc]at h3'
    obtain⟨a',ys,e1,e2,_⟩:=q.own i' (by simp[foO,cin]) _ h3'
    cases e1
    exact⟨a,ys,rfl,e2,h3⟩
  ·exact⟨a,xs,rfl,kp a _ h2 hio,h3⟩
 ·by_cases hio2:qcy σ fo b
  ·cases fo with
   |none=>exact hio2.elim
   |some p=>
    obtain⟨a,ys,e1,e2,e3⟩:=r.own p.2 hfo.1 _ hio2
    cases e1
    rcases e3 with e3|e3
    ·rw[hb]at e3;cases e3
    ·exact absurd e3.2 hio
  ·exact kp b o (r.kp b o hb hio) hio2
theorem jA {it elt:Expr} {ifs:List Expr} {scope:Scope} {N':List Str} {nt:Nat} {fr:List Nat} {fo:Option (Nat×Nat)} {f:M (List D)} {g:D->Env->Option Env} {t:M Bool} {k:M D} (hc:X.calm=true) (hi:DI X c tg it f) (S:yX X scope N' nt fr)
  (hfo:qh0 c nt fr fo)
  (hb:∀fp cl C s₀ H₀ pn B0 H1 Io' acc S',DG (j4 X scope N' fp cl C s₀ H₀ pn) (cin B0 H1 (foO fo) Io' acc S') tg g/\DF (j4 X scope N' fp cl C s₀ H₀ pn) (cin B0 H1 (foO fo) Io' acc S') ifs t/\DE (j4 X scope N' fp cl C s₀ H₀ pn) (cin B0 H1 (foO fo) Io' acc S') elt k)
  (hs:∀x,ych it X.env x=pure x:=by intro _;rfl):DE X c (.ListComp elt [⟨tg,it,ifs,0⟩] scope pos) (zZ nt fr fo f g t k):=by
 obtain⟨wi,pi,wI⟩:=hi
 refine⟨_,qgR hc pi S hs,λZ σ H Q r h=>wI Z σ H _ r (WpI.bnd h λds Z1 J H1 r1 iok g1 h1=>?_)⟩
 intro acc fp cl C s₀ H₀ pn hn
 obtain⟨⟨tg',pg,wg⟩,⟨tt,pt,wt⟩,⟨te,pe,we⟩⟩:=hb fp cl C s₀ H₀ pn (Cn c σ) H1 (qcy σ fo) acc λj=>(qQ nt fr σ)[j]?
 refine⟨tg',tt,te,pg,pt,pe,?_⟩
 cases ew:zj g t k ds [] (j7 nt fr Z1) with
 |exc x Z'=>rw[ew]at h1;exact h1.elim
 |bad=>rw[ew]at h1;exact h1.elim
 | ok p =>
  rw[ew]at h1
  obtain⟨ys,Ze⟩:=p
  have h1:∀v H',Rep X.K c (qhZ fo Ze Z1) σ H'->Is X.K (Cn c σ) H' (.lst ys) v->Gr c.O σ H1 H'->Q v H':=h1
  have accO:∀j∈foO fo,(qQ nt fr σ)[j]? ≠ some (some (.ref acc)):=λj hj e=>by
   have r0:=r1.entry (acc:=acc) hn hfo
   cases fo with
   |none=>cases hj
   |some p=>
    obtain⟨i',j'⟩:=p
    have e2:j=i':=by simpa [foO] using hj
    subst e2
    obtain⟨k2,j2,e1,e2,e3⟩:=ui e
    have hk2:k2=j-nt:=by omega
    subst hk2
    rw[hfo.2.2.1]at e2
    cases e2
    obtain⟨a,us,e4,e5,_⟩:=r1.own j' hfo.1 _ e3
    cases e4;rw[hn]at e5;cases e5
  refine ⟨λi m σ' H'=>m=ds.length-i/\i<=ds.length/\∃Z' zs xs,Rep X.K (cin (Cn c σ) H1 (foO fo) (qcy σ fo) acc λj=>(qQ nt fr σ)[j]?) Z' σ' H'/\(∀j∈foO fo,σ'[j]? = (qQ nt fr σ)[j]?)/\H' acc=some (.lst xs)/\IsL X.K (Cn (cin (Cn c σ) H1 (foO fo) (qcy σ fo) acc λj=>(qQ nt fr σ)[j]?) σ') H' zs xs/\zj g t k (ds.drop i) zs Z'=.ok (ys,Ze),
   ⟨ds.length,by simp,yaV _,j7 nt fr Z1,[],[],r1.entry hn hfo,λ_ _=>rfl,qt,rfl,by simpa using ew⟩,?_⟩
  rintro i m σ' H' ⟨rfl,hi,Z',zs,xs,r',so,ha,iz,w⟩
  obtain⟨_,gr⟩:=r1.leave hn hfo (λi j e=>so i (by rw[e];simp[foO])) r'
  have ex:Ext (CnT c σ H1) H1 H':=⟨gr.ext.tup,gr.ext.frz,λb o hb hq=>gr.ext.at_ b o hb.1.2 hq⟩
  have accC:∀τ:St,(∀j∈foO fo,τ[j]? = (qQ nt fr σ)[j]?)->Cl (foO fo) τ acc:=λτ hτ j hj e=>accO j hj (by rw[<-hτ j hj];exact e)
  by_cases hlt:i<ds.length
  ·refine .inr ⟨iok.go H' i ds[i] ex (by simp[hlt]),λx H'' y=>?_⟩
   obtain⟨sm,ix⟩:=iok.yl H' i ds[i] x H'' ex (by simp[hlt]) y
   rw[wG hlt]at w
   unfold zj at w
   have ix2:Is X.K (Cn (cin (Cn c σ) H1 (foO fo) (qcy σ fo) acc λj=>(qQ nt fr σ)[j]?) σ') H'' ds[i] x:=Is.ext Ext.refl (λa ha _=>⟨⟨ha.1,λe=>by
    have:=ha.2
    rw [e,hn]at this;cases this⟩,λj hj e=>by
     rw[so j hj]at e
     cases fo with
     |none=>cases hj
     |some p=>
      obtain⟨i',j'⟩:=p
      have e2:j=i':=by simpa [foO,cin] using hj
      subst e2
      obtain⟨k2,j2,e1,e2,e3⟩:=ui e
      have hk2:k2=j-nt:=by omega
      subst hk2
      rw[hfo.2.2.1]at e2
      cases e2
      exact ha.1.2 j' hfo.1 e3⟩) ix
   cases e1:g ds[i] Z' with
   |none=>simp only[e1]at w;cases w
   | some Z2=>
    simp only[e1]at w
    refine wg Z' σ' H'' ds[i] x Z2 _ (r'.same sm) ix2 e1 λσ2 r2 g2 o2=>?_
    have so2:∀j∈foO fo,σ2[j]? = (qQ nt fr σ)[j]? := λj hj=>(o2 j hj).trans (so j hj)
    have ha2:H'' acc=some (.lst xs):=sm _ _ ha
    have iz2:=g2.isL (IsL.ext (Ext.of_same sm) (λ_ h _=>h) iz)
    cases e2:t Z2 with
    |exc x Z3=>simp only[e2]at w;cases w
    |bad=>simp only[e2]at w;cases w
    | ok p2=>
     obtain⟨bb,Z3⟩:=p2
     refine wt Z2 σ2 H'' _ r2 ?_
     rw[e2]
     intro H3 r3 g3
     have ha3:H3 acc=some (.lst xs):=g3.ext.at_ _ _ (accC σ2 so2) ha2
     have iz3:=g3.isL iz2
     cases bb with
     |false=>
      rw[if_neg yas]
      simp only[e2]at w
      exact⟨ds.length-(i+1),by omega,rfl,hlt,Z3,zs,xs,r3,so2,ha3,iz3,w⟩
     | true=>
      rw[if_pos rfl]
      simp only[e2]at w
      cases e3:k Z3 with
      |exc x Z4=>simp only[e3]at w;cases w
      |bad=>simp only[e3]at w;cases w
      | ok p3=>
       obtain⟨d4,Z4⟩:=p3
       simp only[e3]at w
       refine we Z3 σ2 H3 _ r3 ?_
       rw[e3]
       intro y4 H4 r4 i4 g4
       have ha4:H4 acc=some (.lst xs):=g4.ext.at_ _ _ (accC σ2 so2) ha3
       have hsz:qG (zs.length+1)=true:=by
        cases e5:qG (zs.length+1) with
        |true=>rfl
        |false=>rw[e5]at w;simp at w
       rw[if_pos hsz]at w
       have hsz':zs.length+1<=yaq:=of_decide_eq_true hsz
       have r5:=r4.grow (ys:=xs++[y4]) ha4 (λj hj e=>accC σ2 so2 j hj e)
       have ext5:Ext (Cn (cin (Cn c σ) H1 (foO fo) (qcy σ fo) acc λj=>(qQ nt fr σ)[j]?) σ2) H4 (upd H4 acc (.lst (xs++[y4]))):=⟨λb us hb=>by rw[qu (wu hb ha4 (by intro z;cases z))];exact hb,λb o u hb=>by rw[qu (wu hb ha4 (by intro z;cases z))];exact hb,λb o hb hq=>by rw[qu hb.1.2];exact hq⟩
       refine⟨xs,ha4,by rw[iz3.length];omega,ds.length-(i+1),by omega,rfl,hlt,Z4,zs++[d4],xs++[y4],r5,so2,qt,?_,w⟩
       exact IsL.append (IsL.ext ext5 (λ_ h _=>h) (g4.isL iz3)) (IsL.one (Is.ext ext5 (λ_ h _=>h) i4))
  ·have hie:i=ds.length:=by omega
   subst hie
   rw[ydT (yak _)]at w
   unfold zj at w
   cases w
   obtain⟨r6,g6⟩:=r1.leave hn hfo (λi j e=>so i (by rw[e];simp[foO])) r'
   exact .inl ⟨iok.stop H' ex,h1 _ H' r6 ⟨acc,xs,rfl,r1.new hn,ha,IsL.ext Ext.refl (λa ha hs=>ha.1.1) iz⟩ g6⟩
end
theorem Rep.io {K:Fr0} {c:Fc} {Z:Env} {σ:St} {H H':Hp} {i:Nat} {a:Addr} {bs:List D} {xs:List V} (r:Rep K c Z σ H) (hi:i∈c.O) (hs:σ[i]? = some (some (.ref a))) (kp:∀b o,b≠a->H b=some o->H' b=some o)
  (ha:H' a=some (.lst xs)) (him:True) (il:IsL K (Cn c σ) H' bs xs) (dm:∀b,H' b=none->H b=none):Rep K c (Z.set i (some (.lst bs))) σ H'/\Gr c.O σ H H':=by
 obtain⟨a',xs0,e0,h0,hown⟩:=r.own i hi _ hs
 cases e0
 have gr:Gr c.O σ H H':=⟨⟨λb us hb=>kp b _ (wu hb h0 (by intro z;cases z)) hb,λb o u hb=>kp b _ (wu hb h0 (by intro z;cases z)) hb,λb o hc hb=>kp b o (λe=>hc i hi (by rw[hs,e])) hb⟩,dm⟩
 refine⟨⟨by rw[lS_];exact r.len,λk d hk=>?_,λj hj v hv=>?_,r.inj,r.b0,λb o hb hio=>?_,λb hb=>r.dm b (dm b hb),r.pO,r.ps⟩,gr⟩
 ·by_cases e:k=i
  ·subst e
   have hl:k<Z.length:=by
    have:=(gI_.mp hk).1
    rwa [lS_]at this
   rw[List.getElem?_set_self hl]at hk
   cases hk
   exact⟨.ref a,hs,.inl ⟨hi,bs,a,xs,rfl,rfl,ha,il⟩⟩
  ·rw [zg e]at hk
   obtain⟨v,h1,h2⟩:=r.val k d hk
   refine⟨v,h1,?_⟩
   rcases h2 with⟨hk2,ds,b,ys,h3,h5,h6,h7⟩|⟨hk2,h3⟩
   ·subst h5
    have ne:b≠a:=λe2=>e (r.inj k i a hk2 hi (by rw[h1,e2]) hs)
    exact .inl ⟨hk2,ds,b,ys,h3,rfl,kp b _ ne h6,gr.isL h7⟩
   ·exact .inr ⟨hk2,gr.is h3⟩
 ·obtain⟨b,ys,h1,h2,h3⟩:=r.own j hj v hv
  subst h1
  by_cases e:b=a
  ·subst e;exact⟨b,xs,rfl,ha,h3⟩
  ·exact⟨b,ys,rfl,kp b _ e h2,h3⟩
 ·have ne:b≠a:=λe=>by
   subst e
   rcases hown with z|z
   ·rw[hb]at z;cases z
   ·exact hio z.2
  exact kp b o ne (r.kp b o hb hio)
def zm (i:Nat) (Z:Env):Option (List D):=match Z[i]? with
 |some (some (.lst ds))=>some ds
 |_=>none
theorem qdu {i:Nat} {Z:Env} {ds:List D} (h:zm i Z=some ds):Z[i]? = some (some (.lst ds)):=by
 unfold zm at h
 split at h
 ·rename_i e;cases h;exact e
 ·cases h
theorem Rep.getLO {K:Fr0} {c:Fc} {Z:Env} {σ:St} {H:Hp} (r:Rep K c Z σ H) {i:Nat} {ds:List D} (hi:i∈c.O) (h:zm i Z=some ds) :
  ∃a xs,True/\σ[i]? = some (some (.ref a))/\H a=some (.lst xs)/\IsL K (Cn c σ) H ds xs:=by
 obtain⟨ds',a,xs,h1,h3,h4,h5⟩:=r.getO hi (qdu h)
 cases h1
 exact⟨a,xs,trivial,h3,h4,h5⟩
theorem jt{H:Hp}{a b:Addr}{o u:HO}(h:b≠a)(hb:H b=some o):upd H a u b=some o:=by rw[qu h];exact hb
theorem qdv {H:Hp} {a b:Addr} {u:HO} (h:upd H a u b=none):H b=none:=by
 by_cases e:b=a
 ·subst e;rw[qt]at h;cases h
 ·rw[qu e]at h;exact h
section
variable{X:Cx}{c:Fc}{a b e:Expr}{pos:Pos}
def jB (i:Nat) (f:M D):M D:=λZ=>match zm i Z with
 |none => .bad
 |some _=>(bnd f λd Z=>match zm i Z with
  |some ds=>if imm d&&qG (ds.length+1)then .ok (.non,Z.set i (some (.lst (ds++[d]))))else .bad
  |none => .bad) Z
theorem vP {i:Nat} {x:Str} {p1 apos:Pos} {f:M D} (he:DE X c e f) (ho:i∈c.O:=by exact of_decide_eq_true rfl) (hN:X.N[i]? = some x:=by rfl) (hv:Vis X.env.scope x:=by first|exact ya0 rfl|exact yaF (ya0 rfl)|exact yaF (yaF rfl)) (hd:(x==("__debug__":Str))=false:=by decide) (hcd:(x==("__classdict__":Str))=false:=by decide)
  (hbase:ybI (.Name x p1) "append" X.env (eval (.Name x p1) X.env)=eval (.Name x p1) X.env:=by rfl)
  (hfew:((yaE pos (yag [e] X.env)).all (λx => !x.1)&&(ycM pos (yb3 [] X.env)).all (λx=>x.1.isSome)
   && decide ([e].length+([]:List ybr).length+(if([]:List ybr).isEmpty then 0 else 1)<30))=true:=by rfl)
  (hline:(apos.endLine==pos.line)=true:=by rfl) (hs:yag [e] X.env=(false,eval e X.env)::yag [] X.env:=by rfl) (hplain:(yaE pos (yag [] X.env)).any (·.1)=false:=by rfl) :
  DE X c (.Call (.Attribute (.Name x p1) "append" apos) [e] [] pos) (jB i f):=by
 obtain⟨t,p,w⟩:=he
 refine⟨_,qiG PySem.F.plainAttrs_list PySem.F.slot_list_append PySem.F.type_list_append qaH (uF hN hv hd hcd) (yU p wB hs) hbase hfew hline hs hplain,λZ σ H Q r h=>?_⟩
 unfold jB at h
 cases e0:zm i Z with
 |none=>rw[e0]at h;exact h.elim
 | some ds0=>
  simp only[e0]at h
  obtain⟨l,xs0,_,hl,hH,_⟩:=r.getLO ho e0
  refine⟨.ref l,hl,.inl ⟨rfl,xs0,.inl (.inl hH)⟩,w Z σ H _ r (Wp.bnd h λd Z1 v H1 r1 i1 g1 h1=>?_)⟩
  cases e1:zm i Z1 with
  |none=>simp only[e1]at h1;exact h1.elim
  | some ds=>
   simp only[e1]at h1
   by_cases hb:(imm d&&qG (ds.length+1))=true
   ·rw [if_pos hb]at h1
    rw[yao]at hb
    obtain⟨l',xs,him,hl',hH',il⟩:=r1.getLO ho e1
    rw[hl]at hl'
    cases hl'
    have hsz:ds.length+1<=yaq:=of_decide_eq_true hb.2
    have ext:Ext (Cn c σ) H1 (upd H1 l (.lst (xs++[v]))):=⟨λb us hb=>jt (wu hb hH' (by intro z;cases z)) hb,λb o u hb=>jt (wu hb hH' (by intro z;cases z)) hb,λb o hb hq=>jt (λe=>hb.2 i ho (by rw[hl,e])) hq⟩
    obtain ⟨r2,g2⟩:=r1.io (H':=upd H1 l (.lst (xs++[v]))) (bs:=ds++[d]) ho hl (λb o hb ho=>jt hb ho) qt trivial
     (IsL.append (IsL.ext ext (λ_ h _=>h) il) (IsL.one (Is.ext ext (λ_ h _=>h) i1))) (λb hb=>qdv hb)
    exact⟨l,xs,v,rfl,rfl,hH',by rw[il.length];omega,h1 _ _ r2 rfl g2⟩
   ·rw[if_neg hb]at h1;exact h1.elim
def qeS (i:Nat) (k f:M D):MS:=sbnd f λd Z=>match zm i Z with
 |none => .bad
 | some _=>(sbnd k λj Z=>match j,zm i Z with
  |.int n,some ds=>match ixN ds.length n with
   |some q=>if imm d then .ok (.nx (Z.set i (some (.lst (ds.set q d)))))else .bad
   |none => .bad
  |_,_ => .bad) Z
theorem qgS {i:Nat} {x:Str} {p1 p2:Pos} {ke:Expr} {f k:M D} (he:DE X c e f) (hk:DE X c ke k) (ho:i∈c.O:=by exact of_decide_eq_true rfl) (hN:X.N[i]? = some x:=by rfl) (hv:Vis X.env.scope x:=by first|exact ya0 rfl|exact yaF (ya0 rfl)|exact yaF (yaF rfl)) (hd:(x==("__debug__":Str))=false:=by decide) (hcd:(x==("__classdict__":Str))=false:=by decide)
  (ha:∀v,ycQ (.Subscript (.Name x p1) ke p2) X.env v=(do
   let ov <-ycJ [v] (eval (.Name x p1) X.env)
   let iv <-ycJ [v,ov] (eval ke X.env)
   standAt p2
   ycJ [v,ov,iv] (setItem ov iv v)
   release [v,ov,iv] []):=by intro _;rfl)
  (hs:yco [.Subscript (.Name x p1) ke p2] e pos.line X.env=pure false:=by rfl) (hw:ycp [.Subscript (.Name x p1) ke p2] e X.env=pure none:=by rfl) (h1:(ybe [.Subscript (.Name x p1) ke p2] X.env).map (·.2)=[ycQ (.Subscript (.Name x p1) ke p2) X.env]:=by rfl) :
  DS X c (.Assign [.Subscript (.Name x p1) ke p2] e pos) (qeS i k f):=by
 obtain⟨t,p,w⟩:=he
 obtain⟨tk,pk,wk⟩:=hk
 refine⟨_,qfE p (qim (uF hN hv hd hcd) pk qeC ha) hs hw h1,λZ σ H D r h=>w Z σ H _ r (Wp.sbnd h λd Z1 v H1 r1 i1 g1 h1=>?_)⟩
 cases e0:zm i Z1 with
 |none=>simp only[e0]at h1;exact h1.elim
 | some ds0=>
  simp only[e0]at h1
  obtain⟨l,xs0,_,hl,hH,_⟩:=r1.getLO ho e0
  refine⟨.ref l,hl,wk Z1 σ H1 _ r1 (Wp.sbnd h1 λj Z2 u H2 r2 i2 g2 h2=>?_)⟩
  cases j with
  | int n=>
   cases e1:zm i Z2 with
   |none=>simp only[e1]at h2;exact h2.elim
   | some ds=>
    simp only[e1]at h2
    cases e2:ixN ds.length n with
    |none=>simp only[e2]at h2;exact h2.elim
    | some q=>
     simp only[e2]at h2
     by_cases hb:imm d=true
     ·rw [if_pos hb]at h2
      obtain⟨l',xs,him,hl',hH',il⟩:=r2.getLO ho e1
      rw[hl]at hl'
      cases hl'
      cases i2
      have i3:=g2.is i1
      have ext:Ext (Cn c σ) H2 (upd H2 l (.lst (xs.set q v))):=⟨λb us hb=>jt (wu hb hH' (by intro z;cases z)) hb,λb o u hb=>jt (wu hb hH' (by intro z;cases z)) hb,λb o hb hq=>jt (λe=>hb.2 i ho (by rw[hl,e])) hq⟩
      obtain ⟨r3,g3⟩:=r2.io (H':=upd H2 l (.lst (xs.set q v))) (bs:=ds.set q d) ho hl (λb o hb ho=>jt hb ho) qt trivial
       (IsL.set (Is.ext ext (λ_ h _=>h) i3) q (IsL.ext ext (λ_ h _=>h) il)) (λb hb=>qdv hb)
      exact⟨l,xs,n,q,rfl,rfl,hH',by rw[il.length];exact e2,h2 σ _ r3 g3.s⟩
     ·rw[if_neg hb]at h2;exact h2.elim
  |_=>exact h2.elim
structure qeT (K:Fr0) (c:Fc) (Z:Env) (σ:St) (H:Hp) (a:Addr):Prop where
 val:∀i d v,Z[i]? = some (some d)->i ∉ c.O->σ[i]? = some (some v)->Is K (λb=>Cn c σ b/\b≠a) H d v
 cont:∀i ds b xs,Z[i]? = some (some (.lst ds))->i∈c.O->σ[i]? = some (some (.ref b))->H b=some (.lst xs)->IsL K (Cn c σ) H ds xs->IsL K (λb=>Cn c σ b/\b≠a) H ds xs
 own:∀j∈c.O,σ[j]? ≠ some (some (.ref a))
 new:c.H0 a=none
theorem Is.fresh{K:Fr0}{A:Addr->Prop}{H:Hp}{d:D}{v:V}{a:Addr}(h:Is K A H d v)(hn:H a=none):Is K (λb=>A b/\b≠a) H d v:=Is.ext Ext.refl (λb h1 h2=>⟨h1,λe=>by rw[e,hn]at h2;cases h2⟩) h
theorem Rep.apart {K:Fr0} {Z:Env} {σ:St} {H:Hp} {a:Addr} {o:HO} (r:Rep K c Z σ H) (hn:H a=none):qeT K c Z σ (upd H a o) a where
 val:=λi d v h1 h2 h3=>by
  obtain⟨w,h4,h5⟩:=r.get h2 h1
  rw[h3]at h4
  cases h4
  exact Is.ext (Ext.of_same (qv hn _)) (λ_ h _=>h) (h5.fresh hn)
 cont:=λi ds b xs h1 h2 h3 h4 _=>by
  obtain⟨ds',a',ys,e1,e2,e3,e4⟩:=r.getO h2 h1
  cases e1
  rw[h3]at e2
  cases e2
  have:=qv hn o _ _ e3
  rw[h4]at this
  cases this
  exact IsL.ext (Ext.of_same (qv hn _)) (λb hb hs=>⟨hb,λe=>by rw[e,hn]at hs;cases hs⟩) e4
 own:=λj hj e=>(r.new hn).2 j hj e
 new:=r.dm a hn
theorem Rep.apart_same {K:Fr0} {Z:Env} {σ:St} {H H':Hp} {a:Addr} (r:Rep K c Z σ H) (hn:H a=none) (sm:zK H H'):qeT K c Z σ H' a where
 val:=λi d v h1 h2 h3=>by
  obtain⟨w,h4,h5⟩:=r.get h2 h1
  rw[h3]at h4
  cases h4
  exact Is.ext (Ext.of_same sm) (λ_ h _=>h) (h5.fresh hn)
 cont:=λi ds b xs h1 h2 h3 h4 _=>by
  obtain⟨ds',a',ys,e1,e2,e3,e4⟩:=r.getO h2 h1
  cases e1
  rw[h3]at e2
  cases e2
  have:=sm _ _ e3
  rw[h4]at this
  cases this
  exact IsL.ext (Ext.of_same sm) (λb hb hs=>⟨hb,λe=>by rw[e,hn]at hs;cases hs⟩) e4
 own:=λj hj e=>(r.new hn).2 j hj e
 new:=r.dm a hn
def WpN (K:Fr0) (c:Fc) (σ:St) (H:Hp) (Q:VK):R (List D×Env)->Prop
 |.ok (ds,Z)=>∀a xs H',H a=none->Rep K c Z σ H'->qeT K c Z σ H' a->H' a=some (.lst xs)->True->IsL K (λb=>Cn c σ b/\b≠a) H' ds xs->Gr c.O σ H H'->Q (.ref a) H'
 |.exc x Z=>∀H',Rep K c Z σ H'->Gr c.O σ H H'->c.E x H'
 |.bad=>False
def DN(X:Cx)(c:Fc)(e:Expr)(f:M (List D)):Prop:=∃t,PE X e t/\∀Z σ H Q,Rep X.K c Z σ H->WpN X.K c σ H Q (f Z)->t σ H Q
theorem WpN.gr {K:Fr0} {σ:St} {H H1:Hp} {Q:VK}:∀{r:R (List D×Env)},WpN K c σ H Q r->Gr c.O σ H H1->WpN K c σ H1 Q r
 |.ok (d,Z),h,g=>λa xs H' hn h1 h2 h3 h4 h5 hg=>h a xs H' (g.dom a hn) h1 h2 h3 h4 h5 (g.trans hg)
 |.exc x Z,h,g=>λH' hr hg=>h H' hr (g.trans hg)
 |.bad,h,_=>h
theorem WpL.bndN {K:Fr0} {σ:St} {H:Hp} {Q:VK} {f:M (List D)} {k:List D->M (List D)} {Z:Env} {Q':List V->Hp->Prop} (h:WpN K c σ H Q (Sk.bnd f k Z)) (hQ:∀d Z' v H',Rep K c Z' σ H'->IsL K (Cn c σ) H' d v->Gr c.O σ H H'->WpN K c σ H' Q (k d Z')->Q' v H'):WpL K c σ H Q' (f Z):=by
 unfold Sk.bnd at h
 cases e:f Z with
 |ok p=>rw[e]at h;exact λv H' hr hi hg=>hQ p.1 p.2 v H' hr hi hg (h.gr hg)
 |exc x Z'=>rw[e]at h;exact h
 |bad=>rw[e]at h;exact h
def qh1(f:M (List D)):M (List D):=bnd f λds=>lift (if immL ds&&qG ds.length then some ds else none)
theorem qdw {es:List Expr} {f:M (List D)} (h:DA X c es f):DN X c (.List es pos) (qh1 f):=by
 obtain⟨t,p,w⟩:=h
 refine⟨_,qfJ p,λZ σ H Q r h=>w Z σ H _ r (WpL.bndN h λds Z1 vs H1 r1 i1 g1 h1=>?_)⟩
 by_cases hb:(immL ds&&qG ds.length)=true
 ·rw[if_pos hb]at h1
  rw[yao]at hb
  refine⟨by rw[i1.length];exact of_decide_eq_true hb.2,λp hp=>?_⟩
  exact h1 p vs _ hp (r1.laid hp _) (r1.apart hp) qt trivial (IsL.ext (Ext.of_same (qv hp _)) (λb h hs=>⟨h,λe=>by rw[e,hp]at hs;cases hs⟩) i1) (.of_same (qv hp _))
 ·rw[if_neg hb]at h1;exact h1.elim
theorem Cl.setO {O:List Nat} {σ:St} {i:Nat} {a b:Addr} (h:Cl O σ b) (hb:b≠a):Cl O (σ.set i (some (.ref a))) b:=λj hj e=>by
 by_cases hji:j=i
 ·subst hji
  have hl:j<σ.length:=by
   have:=(gI_.mp e).1
   rwa [lS_]at this
  rw[List.getElem?_set_self hl]at e
  cases e
  exact hb rfl
 ·rw[zg hji]at e
  exact h j hj e
theorem Rep.setO {K:Fr0} {Z:Env} {σ:St} {H:Hp} {i:Nat} {a:Addr} {ds:List D} {xs:List V} (r:Rep K c Z σ H) (hi:i∈c.O) (hP:i ∉ c.P) (ap:qeT K c Z σ H a) (ha:H a=some (.lst xs)) (him:True) (il:IsL K (λb=>Cn c σ b/\b≠a) H ds xs) :
  Rep K c (Z.set i (some (.lst ds))) (σ.set i (some (.ref a))) H where
 len:=by rw[lS_,lS_];exact r.len
 val := λj e hj=>by
  by_cases e1:j=i
  ·subst e1
   have hl:j<Z.length:=by
    have:=(gI_.mp hj).1
    rwa [lS_]at this
   rw[List.getElem?_set_self hl]at hj
   cases hj
   exact⟨.ref a,List.getElem?_set_self (by rw[<-r.len];exact hl),.inl ⟨hi,ds,a,xs,rfl,rfl,ha,IsL.ext Ext.refl (λb hb _=>⟨hb.1.1,hb.1.2.setO hb.2⟩) il⟩⟩
  ·rw [zg e1]at hj
   obtain⟨w,h1,h2⟩:=r.val j e hj
   refine⟨w,by rw[zg e1];exact h1,?_⟩
   rcases h2 with⟨g1,ds',b',xs',g3,g5,g6,g7⟩|⟨h3,h4⟩
   ·subst g3 g5
    exact .inl ⟨g1,ds',b',xs',rfl,rfl,g6,IsL.ext Ext.refl (λb hb _=>⟨hb.1.1,hb.1.2.setO hb.2⟩) (ap.cont j ds' b' xs' hj g1 h1 g6 g7)⟩
   ·exact .inr ⟨h3,Is.ext Ext.refl (λb hb _=>⟨hb.1.1,hb.1.2.setO hb.2⟩) (ap.val j e w hj h3 h1)⟩
 own := λj hj w h=>by
  by_cases e1:j=i
  ·subst e1
   have hl:j<σ.length:=by
    have:=(gI_.mp h).1
    rwa [lS_]at this
   rw[List.getElem?_set_self hl]at h
   cases h
   exact⟨a,xs,rfl,ha,.inl ap.new⟩
  ·rw[zg e1]at h
   exact r.own j hj w h
 inj := λj k b hj hk h1 h2=>by
  by_cases e1:j=i
  ·by_cases e2:k=i
   ·rw[e1,e2]
   ·subst e1
    have hl:j<σ.length:=by
     have:=(gI_.mp h1).1
     rwa [lS_]at this
    rw[List.getElem?_set_self hl]at h1
    cases h1
    rw[zg e2]at h2
    exact absurd h2 (ap.own k hk)
  ·by_cases e2:k=i
   ·subst e2
    have hl:k<σ.length:=by
     have:=(gI_.mp h2).1
     rwa [lS_]at this
    rw[List.getElem?_set_self hl]at h2
    cases h2
    rw[zg e1]at h1
    exact absurd h1 (ap.own j hj)
   ·rw[zg e1]at h1
    rw[zg e2]at h2
    exact r.inj j k b hj hk h1 h2
 b0:=r.b0
 kp:=r.kp
 dm:=r.dm
 pO:=r.pO
 ps:=λj hj=>by
  have e:j≠i:=λe=>hP (e▸hj)
  rw[zg e];exact r.ps j hj
def vQ(i:Nat)(f:M (List D)):MS:=sbnd f λds Z => .ok (.nx (Z.set i (some (.lst ds))))
theorem w9 {i:Nat} {x:Str} {pos':Pos} {f:M (List D)} (hN:X.N.Nodup) (he:DN X c e f) (ho:i∈c.O:=by exact of_decide_eq_true rfl) (hP:i ∉ c.P:=by exact of_decide_eq_false rfl) (hi:X.N[i]? = some x:=by rfl) (hx:Loc X.env.scope x:=by first|exact ya0 rfl|exact yaF rfl) (hs:ydD e (some (.Name x pos')) pos.line X.env=pure false:=by rfl) (hf:X.fn x=true\/X.env.scope.names.lookup x=some .local:=by first|exact .inl rfl|exact .inr rfl|assumption) :
  DS X c (.Assign [.Name x pos'] e pos) (vQ i f):=by
 obtain⟨t,p,w⟩:=he
 refine⟨_,qfF hN hi hx p hs hf,λZ σ H D r h=>w Z σ H _ r ?_⟩
 unfold vQ sbnd at h
 cases ef:f Z with
 |bad=>rw[ef]at h;exact h
 |exc z Z'=>rw[ef]at h;exact λH' hr hg=>h σ H' hr hg.s
 |ok q=>
  rw[ef]at h
  intro a xs H' hn r' ap ha him il g'
  exact h _ H' (r'.setO ho hP ap ha him il) ⟨g'.ext,λb hb hs=>hb.setO (λe=>by rw[e,hn]at hs;exact absurd hs (by simp)),g'.dom⟩
def qaQ (i:Nat):M D:=λZ=>match zm i Z with
 |some ds => .ok (.int ds.length,Z)
 |none => .bad
theorem qgT {i:Nat} {x:Str} {p p1:Pos} (hg:Gl X "len") (hm:X.mg "len"=none) (ho:i∈c.O:=by exact of_decide_eq_true rfl) (hN:X.N[i]? = some x:=by rfl) (hv:Vis X.env.scope x:=by first|exact ya0 rfl|exact yaF (ya0 rfl)|exact yaF (yaF rfl)) (hd:(x==("__debug__":Str))=false:=by decide) (hcd:(x==("__classdict__":Str))=false:=by decide) :
  DE X c (.Call (.Name "len" p) [.Name x p1] [] pos) (qaQ i):=by
 refine⟨_,wU js hg hm PySem.boot_len (yU (uF hN hv hd hcd) wB),λZ σ H Q r h=>?_⟩
 unfold qaQ at h
 cases e0:zm i Z with
 |none=>simp only[e0]at h;exact h.elim
 |some ds=>
  simp only[e0]at h
  obtain⟨l,xs,him,hl,hH,il⟩:=r.getLO ho e0
  exact⟨.ref l,hl,.inl ⟨l,xs,rfl,.inl (.inl (.inl hH)),by rw[il.length];exact h _ H r rfl .refl⟩⟩
def qcA (i:Nat):M D:=λZ=>match zm i Z with
 |some ds => .ok (.tup ds,Z)
 |none => .bad
theorem qdx {i:Nat} {x:Str} {p p1:Pos} (hg:Gl X "tuple") (hm:X.mg "tuple"=none) (hb:yaA "tuple"=some (.type "tuple"):=by first|rfl|exact PySem.boot_tuple) (ho:i∈c.O:=by exact of_decide_eq_true rfl) (hN:X.N[i]? = some x:=by rfl) (hv:Vis X.env.scope x:=by first|exact ya0 rfl|exact yaF (ya0 rfl)|exact yaF (yaF rfl)) (hd:(x==("__debug__":Str))=false:=by decide) (hcd:(x==("__classdict__":Str))=false:=by decide) :
  DE X c (.Call (.Name "tuple" p) [.Name x p1] [] pos) (qcA i):=by
 refine⟨_,qaD zE hg hm hb (yU (uF hN hv hd hcd) wB),λZ σ H Q r h=>?_⟩
 unfold qcA at h
 cases e0:zm i Z with
 |none=>simp only[e0]at h;exact h.elim
 |some ds=>
  simp only[e0]at h
  obtain⟨l,xs,him,hl,hH,il⟩:=r.getLO ho e0
  refine⟨.ref l,hl,l,xs,rfl,.inl ⟨.inl (.inl hH),λp hp=>h _ _ (r.laid hp _) ⟨p,xs,rfl,.inl qt,?_⟩ (.of_same (qv hp _))⟩⟩
  exact IsL.ext (Ext.of_same (qv hp _)) (λ_ h _=>h) il
def qeU (i:Nat) (g:M D):M D:=λZ=>match zm i Z with
 |none => .bad
 | some _=>(bnd g λk Z=>match k,zm i Z with
  |.int n,some ds=>match atI ds n with
   |some d => .ok (d,Z)
   |none => .bad
  |_,_ => .bad) Z
theorem qfU {i:Nat} {x:Str} {p1:Pos} {g:M D} (hb:DE X c b g) (hs:qbm b:=by intro _ _;rfl) (ho:i∈c.O:=by exact of_decide_eq_true rfl) (hN:X.N[i]? = some x:=by rfl) (hv:Vis X.env.scope x:=by first|exact ya0 rfl|exact yaF (ya0 rfl)|exact yaF (yaF rfl)) (hd:(x==("__debug__":Str))=false:=by decide) (hcd:(x==("__classdict__":Str))=false:=by decide) :
  DE X c (.Subscript (.Name x p1) b pos) (qeU i g):=by
 obtain⟨tb,pb,wb⟩:=hb
 refine⟨_,qiA qdd (uF hN hv hd hcd) pb hs,λZ σ H Q r h=>?_⟩
 unfold qeU at h
 cases e0:zm i Z with
 |none=>simp only[e0]at h;exact h.elim
 | some ds0=>
  simp only[e0]at h
  obtain⟨l,xs0,_,hl,hH,_⟩:=r.getLO ho e0
  refine⟨.ref l,hl,wb Z σ H _ r (Wp.bnd h λk Z1 v H1 r1 i1 g1 h1=>?_)⟩
  cases k with
  | int n=>
   cases e1:zm i Z1 with
   |none=>simp only[e1]at h1;exact h1.elim
   | some ds=>
    simp only[e1]at h1
    cases e2:atI ds n with
    |none=>simp only[e2]at h1;exact h1.elim
    |some d=>
     simp only[e2]at h1
     obtain⟨l',xs,him,hl',hH',il⟩:=r1.getLO ho e1
     rw[hl]at hl'
     cases hl'
     cases i1
     obtain⟨w,h3,h4⟩:=il.atI e2
     exact⟨l,xs,n,w,rfl,rfl,.inl (.inl hH'),h3,h1 w H1 r1 h4 .refl⟩
  |_=>exact h1.elim
end
def cfn (O P:List Nat) (A:Addr->Prop) (H:Hp) (Io:Addr->Prop) (E:Exn->Hp->Prop) (S:Nat->Option (Option V)):Fc where
 O:=O
 P:=P
 B:=λa=>A a\/H a=none
 H0:=H
 Io:=Io
 E:=E
 S:=S
def uu(n:Nat)(ds:List D):Env:=ds.map some++yav (n-ds.length) none
def spD (K:Fr0) (F:List D->R D):Sp:=λvs H Q _=>∃ds A,IsL K A H ds vs/\qdg K H/\match F ds with
 |.ok d=>∀v H',zK H H'->Is K (λa=>A a\/H a=none) H' d v->Q v H'
 |_=>False
def qcW (K:Fr0) (F:List D->List D->R (D×List D)):Sp:=λvs H Q _=>∃(bs ds:List D)(A:Addr->Prop)(a:Addr)(xs vs':List V),vs=.ref a::vs'/\H a=some (.lst xs)/\qdg K H/\IsL K A H bs xs/\¬A a/\IsL K A H ds vs'/\match F bs ds with
 |.ok (d,bs')=>∀v H' xs',(∀b o,b≠a->H b=some o->H' b=some o)->(∀b,H' b=none->H b=none)->H' a=some (.lst xs')->True->IsL K (λb=>A b\/H b=none) H' bs' xs'->Is K (λb=>A b\/H b=none) H' d v->Q v H'
 |_=>False
def dfn (n p:Nat) (body:MS) (ds:List D):R D:=if ds.length=p then match body (uu n ds) with
 |.ok (.rt d _) => .ok d
 |.ok (.nx _) => .ok .non
 |_ => .bad else .bad
def uW (n p:Nat) (body:MS) (bs ds:List D):R (D×List D):=if ds.length+1=p then match body (uu n (.lst bs::ds)) with
 |.ok (.rt d Z)=>match zm 0 Z with
  |some bs' => .ok (d,bs')
  |none => .bad
 |.ok (.nx Z)=>match zm 0 Z with
  |some bs' => .ok (.non,bs')
  |none => .bad
 |_ => .bad else .bad
theorem uK {N:List Str} {vs:List V} {i:Nat} {v:V} (h:(jy N vs)[i]? = some (some v)):vs[i]? = some v:=by
 unfold jy at h
 by_cases hi:i<vs.length
 ·rw[List.getElem?_append_left (by simpa using hi),gM_]at h
  cases e:vs[i]? with
  |none=>rw[e]at h;cases h
  |some w=>rw[e]at h;cases h;rfl
 ·rw[List.getElem?_append_right (by simpa using hi),List.getElem?_replicate]at h
  split at h<;>cases h
theorem vq {N:List Str} {vs:List V} {i:Nat} {v:V} (h:vs[i]? = some v):(jy N vs)[i]? = some (some v):=by
 unfold jy
 have hi:i<vs.length:=(gI_.mp h).1
 rw[List.getElem?_append_left (by simpa using hi),gM_,h];rfl
theorem qaR {n:Nat} {ds:List D} {i:Nat} {d:D} (h:(uu n ds)[i]? = some (some d)):ds[i]? = some d:=by
 unfold uu at h
 by_cases hi:i<ds.length
 ·rw[List.getElem?_append_left (by simpa using hi),gM_]at h
  cases e:ds[i]? with
  |none=>rw[e]at h;cases h
  |some w=>rw[e]at h;cases h;rfl
 ·rw[List.getElem?_append_right (by simpa using hi),List.getElem?_replicate]at h
  split at h<;>cases h
theorem qdy {K:Fr0} {N:List Str} {O:List Nat} {A:Addr->Prop} {H:Hp} {E:Exn->Hp->Prop} {ds:List D} {vs:List V} (il:IsL K A H ds vs) (tb:qdg K H) (hO:∀i∈O,ds.length<=i) :
  Rep K (cfn O [] A H (λ_=>False) E λ_=>none) (uu N.length ds) (jy N vs) H where
 len:=by unfold uu jy;simp[il.length]
 val:=λi d h=>by
  have h1:=qaR h
  obtain⟨v,h2,h3⟩:=il.get h1
  have hi:i ∉ O:=λz=>by
   have:=(gI_.mp h1).1
   have:=hO i z
   omega
  refine⟨v,vq h2,.inr ⟨hi,Is.ext Ext.refl (λa ha _=>⟨.inl ha,λj hj e=>?_⟩) h3⟩⟩
  have:=(gI_.mp (uK e)).1
  have:=hO j hj
  rw[il.length]at *
  omega
 own:=λj hj v h=>by
  have:=(gI_.mp (uK h)).1
  have:=hO j hj
  rw[il.length]at *
  omega
 inj:=λi j a hi hj h1 h2=>by
  have:=(gI_.mp (uK h1)).1
  have:=hO i hi
  rw[il.length]at *
  omega
 b0:=⟨λa h => .inr h,tb⟩
 kp:=λb o h _=>h
 dm:=λb h=>h
 pO:=λj hj=>by cases hj
 ps:=λj hj=>by cases hj
section
variable{P:yaj}{w:World}{K:yah}{mg:Str->Option Value}{base:Heap}
theorem qF {x qual:Str} {st:Stmt} {f:Addr} {fd:yaO} {N ps:List Str} {k:Nat} {O:List Nat} {body:MS} (F:Fun K x qual st f fd) (S:qp N ps (qe st)) (hO:∀i∈O,ps.length<=i)
  (hb:∀(cdv:Value)(A:yar)(outer:List ycy)(s:yaa)(H:Hp)(E:XK)(B:Addr->Prop),uE k (A.deeper (ycl qual (qe st) s.heap.objs.size f cdv)) ->
   DSs (qfK CX0 P w K mg base N qual (qe st) f cdv A outer s H E).nox (cfn O [] B H (λ_=>False) (λ_ _=>False) λ_=>none) (qm st) body) :
  wD P w K mg base CX0 (k+1) f fd ps (spD K (dfn N.length ps.length body)):=by
 refine F.ok S (λvs H Q E h=>?_) (λcdv A outer s H vs Q E hr h=>?_)
 ·obtain⟨ds,B,il,_,h⟩:=h
  unfold dfn at h
  by_cases e:ds.length=ps.length
  ·rw[il.length];exact e
  ·rw[if_neg e]at h;exact h.elim
 ·obtain ⟨ds,B,il,tb,h⟩:=h
  obtain⟨t,p,wt⟩:=hb cdv A outer s H E B hr
  refine⟨t,p,?_⟩
  unfold dfn at h
  by_cases e:ds.length=ps.length
  ·rw [if_pos e]at h
   refine wt (uu N.length ds) (jy N vs) H _ (qdy il tb (λi hi=>by rw[e];exact hO i hi)) ?_
   have same:∀{Z:Env}{σ:St}{H':Hp},Rep K (cfn O [] B H (λ_=>False) (λ_ _=>False) λ_=>none) Z σ H'->zK H H':=λr b o hb=>r.kp b o hb λz=>z
   cases eb:body (uu N.length ds) with
   |bad=>rw[eb]at h;exact h.elim
   |exc z Z=>rw[eb]at h;exact h.elim
   |ok fl=>
    rw[eb]at h
    cases fl with
    |nx Z=>exact λσ' H' r' _=>h .non H' (same r') rfl
    |rt d Z=>exact λv σ' H' r' i' _=>h v H' (same r') i'
    |bk Z=>exact h.elim
    |ct Z=>exact h.elim
  ·rw[if_neg e]at h;exact h.elim
theorem qeV {x qual:Str} {st:Stmt} {f:Addr} {fd:yaO} {N ps:List Str} {k:Nat} {O:List Nat} {body:MS} (F:Fun K x qual st f fd) (S:qp N ps (qe st)) (hO:∀i∈O,i=0\/ps.length<=i) (h0:0∈O)
  (hb:∀(cdv:Value)(A:yar)(outer:List ycy)(s:yaa)(H:Hp)(E:XK)(B Io:Addr->Prop)(S:Nat->Option (Option V)),uE k (A.deeper (ycl qual (qe st) s.heap.objs.size f cdv)) ->
   DSs (qfK CX0 P w K mg base N qual (qe st) f cdv A outer s H E).nox (cfn O [0] B H Io (λ_ _=>False) S) (qm st) body) :
  wD P w K mg base CX0 (k+1) f fd ps (qcW K (uW N.length ps.length body)):=by
 refine F.ok S (λvs H Q E h=>?_) (λcdv A outer s H vs Q E hr h=>?_)
 ·obtain⟨bs,ds,B,a,xs,vs',rfl,ha,him,ib,nA,il,h⟩:=h
  unfold uW at h
  by_cases e:ds.length+1=ps.length
  ·rw[lC_,il.length];exact e
  ·rw[if_neg e]at h;exact h.elim
 ·obtain ⟨bs,ds,B,a,xs,vs',rfl,ha,him,ib,nA,il,h⟩:=h
  obtain⟨t,p,wt⟩:=hb cdv A outer s H E B (λb=>b=a) (λj=>(jy N (.ref a::vs'))[j]?) hr
  refine⟨t,p,?_⟩
  unfold uW at h
  by_cases e:ds.length+1=ps.length
  ·rw [if_pos e]at h
   have only:∀j∈O,∀v,(jy N (.ref a::vs'))[j]? = some (some v)->j=0/\v=.ref a:=λj hj v hv=>by
    have h1:=uK hv
    rcases hO j hj with z|z
    ·subst z;cases h1;exact⟨rfl,rfl⟩
    ·have:=(gI_.mp h1).1
     rw[lC_,il.length]at this
     omega
   have r0:Rep K (cfn O [0] B H (λb=>b=a) (λ_ _=>False) λj=>(jy N (.ref a::vs'))[j]?) (uu N.length (.lst bs::ds)) (jy N (.ref a::vs')) H:=by
    refine⟨by unfold uu jy;simp[il.length],λi d hd=>?_,λj hj v hv=>?_,λi j b hi hj h1 h2=>?_,⟨λb hb => .inr hb,λq P pos eP=>⟨(him q P pos eP).1,λz=>by have:=(him q P pos eP).1;rw[z,ha]at this;cases this⟩⟩,λb o hb _=>hb,λb hb=>hb,λj hj=>?_,λ_ _=>rfl⟩
    ·have h1:=qaR hd
     cases i with
     |zero=>
      cases h1
      exact⟨.ref a,vq rfl,.inl ⟨h0,bs,a,xs,rfl,rfl,ha,IsL.ext Ext.refl (λb hb _=>⟨.inl hb,λj hj e2=>by obtain⟨_,e3⟩:=only j hj _ e2;cases e3;exact nA hb⟩) ib⟩⟩
     | succ i=>
      have h1':ds[i]? = some d:=by simpa using h1
      obtain⟨v,h2,h3⟩:=il.get h1'
      have hi:i+1 ∉ O:=λz=>by
       have h4:=(gI_.mp h1').1
       rcases hO _ z with q|q
       ·cases q
       ·omega
      refine⟨v,vq (by simpa using h2),.inr ⟨hi,Is.ext Ext.refl (λb hb _=>⟨.inl hb,λj hj e2=>?_⟩) h3⟩⟩
      obtain⟨_,e3⟩:=only j hj _ e2
      cases e3
      exact nA hb
    ·obtain⟨rfl,rfl⟩:=only j hj v hv
     exact⟨a,xs,rfl,ha,.inr ⟨by simp[cfn],rfl⟩⟩
    ·rw[(only i hi _ h1).1,(only j hj _ h2).1]
    ·have:j=0:=by simpa [cfn] using hj
     rw[this];exact h0
   refine wt _ _ H _ r0 ?_
   have fin:∀{Z:Env}{σ:St}{H':Hp}{bs':List D},Rep K (cfn O [0] B H (λb=>b=a) (λ_ _=>False) λj=>(jy N (.ref a::vs'))[j]?) Z σ H'->zm 0 Z=some bs' ->
     ∃xs',H' a=some (.lst xs')/\True/\IsL K (λb=>B b\/H b=none) H' bs' xs':=λ{Z σ H' bs'} r e1=>by
    obtain⟨l,ys,h1,h2,h3,h4⟩:=r.getLO h0 e1
    have h5:=r.ps 0 (by simp[cfn])
    have h6:(cfn O [0] B H (λb=>b=a) (λ_ _=>False) λj=>(jy N (.ref a::vs'))[j]?).S 0=some (some (.ref a)):=vq rfl
    rw[h2,h6]at h5
    cases h5
    exact⟨ys,h3,h1,IsL.ext Ext.refl (λb hb _=>hb.1) h4⟩
   have kps:∀{Z:Env}{σ:St}{H':Hp},Rep K (cfn O [0] B H (λb=>b=a) (λ_ _=>False) λj=>(jy N (.ref a::vs'))[j]?) Z σ H'->∀b o,b≠a->H b=some o->H' b=some o:=λr b o hb ho=>r.kp b o ho hb
   cases eb:body (uu N.length (.lst bs::ds)) with
   |bad=>rw[eb]at h;exact h.elim
   |exc z Z=>rw[eb]at h;exact h.elim
   | ok fl=>
    rw[eb]at h
    cases fl with
    | nx Z=>
     cases eg:zm 0 Z with
     |none=>simp only[eg]at h
     | some bs'=>
      simp only[eg]at h
      exact λσ' H' r' _=>by
       obtain⟨xs',h1,h2,h3⟩:=fin r' eg
       exact h .non H' xs' (kps r') (λb hb=>r'.dm b hb) h1 h2 h3 rfl
    | rt d Z=>
     cases eg:zm 0 Z with
     |none=>simp only[eg]at h
     | some bs'=>
      simp only[eg]at h
      exact λv σ' H' r' i' _=>by
       obtain⟨xs',h1,h2,h3⟩:=fin r' eg
       exact h v H' xs' (kps r') (λb hb=>r'.dm b hb) h1 h2 h3 i'
    |bk Z=>exact h.elim
    |ct Z=>exact h.elim
  ·rw[if_neg e]at h;exact h.elim
end
section
variable{X:Cx}{c:Fc}{a b e:Expr}{pos:Pos}
def qd (F:List D->R D) (g:M (List D)):M D:=bnd g λds Z=>match F ds with
 |.ok d => .ok (d,Z)
 |_ => .bad
theorem qgU {k:Nat} {f:Addr} {fd:yaO} {ps:List Str} {F:List D->R D} {x:Str} {p:Pos} {es:List Expr} {g:M (List D)} (G:wD X.prog X.w X.K X.mg X.base CX0 k f fd ps (spD X.K F)) (hr:uE k X.A) (hg:Gl X x) (hm:X.mg x=some (.ref f)) (hk:yai X.K (.ref f)=true) (hb:vB X.K fd ps [])
  (ha:DA X c (e::es) g) (hd:(x==("__debug__":Str))=false:=by decide) (he:yag (e::es) X.env=(false,eval e X.env)::yag es X.env:=by rfl) (hpl:(yaE pos (yag es X.env)).any (·.1)=false:=by rfl):DE X c (.Call (.Name x p) (e::es) [] pos) (qd F g):=by
 obtain⟨t,pa,w⟩:=ha
 refine⟨_,qbj G hr hg hm hk hb .nil qgE pa hd he hpl,λZ σ H Q r h=>w Z σ H _ r (WpL.bnd h λds Z1 vs H1 r1 i1 g1 h1=>?_)⟩
 rw[ybq]
 refine⟨ds,Cn c σ,i1,r1.tb,?_⟩
 cases ef:F ds with
 |bad=>simp only[ef]at h1;exact h1.elim
 |exc z Z'=>simp only[ef]at h1;exact h1.elim
 |ok d=>
  simp only[ef]at h1
  exact λv H' sm i=>h1 v H' (r1.same sm) (Is.ext Ext.refl (λa ha _=>ha.elim id r1.new) i) (.of_same sm)
def qk (F:List D->List D->R (D×List D)) (i:Nat) (g:M (List D)):M D:=λZ=>match zm i Z with
 |none => .bad
 | some _=>(bnd g λds Z=>match zm i Z with
  |none => .bad
  |some bs=>match F bs ds with
   |.ok (d,bs') => .ok (d,Z.set i (some (.lst bs')))
   |_ => .bad) Z
theorem qdz {k i:Nat} {f:Addr} {fd:yaO} {ps:List Str} {F:List D->List D->R (D×List D)} {x y:Str} {p p1:Pos} {es:List Expr} {g:M (List D)} (G:wD X.prog X.w X.K X.mg X.base CX0 k f fd ps (qcW X.K F)) (hr:uE k X.A) (hg:Gl X x) (hm:X.mg x=some (.ref f)) (hk:yai X.K (.ref f)=true) (hb:vB X.K fd ps [])
  (ha:DA X c es g) (ho:i∈c.O:=by exact of_decide_eq_true rfl) (hN:X.N[i]? = some y:=by rfl) (hv:Vis X.env.scope y:=by first|exact ya0 rfl|exact yaF (ya0 rfl)|exact yaF (yaF rfl)) (hdy:(y==("__debug__":Str))=false:=by decide) (hcd:(y==("__classdict__":Str))=false:=by decide)
  (hd:(x==("__debug__":Str))=false:=by decide) (he:yag (.Name y p1::es) X.env=(false,eval (.Name y p1) X.env)::yag es X.env:=by rfl) (hpl:(yaE pos (yag es X.env)).any (·.1)=false:=by rfl):DE X c (.Call (.Name x p) (.Name y p1::es) [] pos) (qk F i g):=by
 obtain⟨t,pa,w⟩:=ha
 refine⟨_,qbj G hr hg hm hk hb .nil qgE (yU (uF hN hv hdy hcd) pa he) hd he hpl,λZ σ H Q r h=>?_⟩
 unfold qk at h
 cases e0:zm i Z with
 |none=>simp only[e0]at h;exact h.elim
 | some ds0=>
  simp only[e0]at h
  obtain⟨l,xs0,_,hl,hH,_⟩:=r.getLO ho e0
  refine⟨.ref l,hl,w Z σ H _ r (WpL.bnd h λds Z1 vs H1 r1 i1 g1 h1=>?_)⟩
  show qcW X.K F (.ref l::vs++[]) H1 Q E0
  rw[ybq]
  cases e1:zm i Z1 with
  |none=>simp only[e1]at h1;exact h1.elim
  | some bs=>
   simp only[e1]at h1
   obtain⟨l',xs,him,hl',hH',il⟩:=r1.getLO ho e1
   rw[hl]at hl'
   cases hl'
   refine⟨bs,ds,Cn c σ,l,xs,vs,rfl,hH',r1.tb,il,λhc=>hc.2 i ho hl,i1,?_⟩
   cases ef:F bs ds with
   |bad=>simp only[ef]at h1;exact h1.elim
   |exc z Z'=>simp only[ef]at h1;exact h1.elim
   |ok q=>
    obtain⟨d,bs'⟩:=q
    simp only[ef]at h1
    intro v H' xs' kp dm ha2 him2 il2 i2
    obtain⟨r2,g2⟩:=r1.io (bs:=bs') ho hl kp ha2 him2 (IsL.ext Ext.refl (λa ha _=>ha.elim id r1.new) il2) dm
    exact h1 v H' r2 (Is.ext Ext.refl (λa ha _=>ha.elim id r1.new) i2) g2
end
def qeW:Key->PyData
 |.inl i => .int i
 |.inr x => .str x
mutual
def j8:D->PyData
 |.non => .none
 |.bl b => .bool b
 |.int i => .int i
 |.str x => .str x
 |.tup ds => .tuple (toPDs ds)
 |.lst ds => .list (toPDs ds)
 |.dic kvs => .dict (kvs.map λp=>(qeW p.1,.int p.2))
 |.fz ns => .list (ns.map .int)
 |.exc _ => .dict [(.int (2 ^ 2000),.none)]
def toPDs:List D->List PyData
 | []=>[]
 |d::ds=>j8 d::toPDs ds
end
mutual
def noL:D->Bool
 |.tup ds=>noLs ds
 |.lst _=>false
 |.fz _=>false
 |_=>true
def noLs:List D->Bool
 | []=>true
 |d::ds=>noL d&&noLs ds
end
mutual
def noX:D->Bool
 |.tup ds=>noXs ds
 |.lst ds=>noXs ds
 |.exc _=>false
 |_=>true
def noXs:List D->Bool
 | []=>true
 |d::ds=>noX d&&noXs ds
end
mutual
theorem qdA:∀{d:D},(j8 d).canLay0=true->noX d=true
 |.non,_=>rfl
 |.bl _,_=>rfl
 |.int _,_=>rfl
 |.str _,_=>rfl
 |.tup ds,h=>by unfold noX;exact noXs_lay (by simpa [j8,ybT] using h)
 |.lst ds,h=>by unfold noX;exact noXs_lay (by simpa [j8,ybT] using h)
 |.dic _,_=>rfl
 |.fz _,_=>rfl
 |.exc _,h=>by simp[j8,ybT]at h
theorem noXs_lay:∀{ds:List D},ya2 (toPDs ds)=true->noXs ds=true
 | [],_=>rfl
 |d::ds,h=>by
  have h':(j8 d).canLay0=true/\ya2 (toPDs ds)=true:=by simpa [toPDs,ya2] using h
  unfold noXs
  rw[qdA h'.1,noXs_lay h'.2];rfl
end
theorem uL {h:Heap}:∀{ns:List Int}{us:List Value},qU (ns.map V.int) us->∃as,yeW h us (ns.map .int) as
 | [],us,r=>by
  rw[yca]at r;cases r;exact⟨[],.nil⟩
 | n::ns,us,r=>by
  rw[mC_]at r
  cases r with
  |cons r1 r2=>
   obtain⟨t,e⟩:=r1
   subst e
   obtain⟨as,q⟩:=uL (ns:=ns) r2
   exact⟨[]++as,.cons (.int n t) q⟩
theorem qbv{α:Type}{x:α}{l l':List α}(h1:x ∉ l)(h2:x ∉ l'):x ∉ l++l':=λh=>(mA_.mp h).elim h1 h2
theorem vR {P:yaj} {w:World} {h:Heap}:∀{kvs:List (Key×Int)}{es:List DictEntry}{vs:List (Key×Value)},KV (kvs.map λp=>(p.1,V.int p.2)) vs->Pairs (wS P w) es vs ->
  yeW h (es.map (·.key)) ((kvs.map λp=>(qeW p.1,PyData.int p.2)).map (·.1)) []/\yeW h (es.map (·.val)) ((kvs.map λp=>(qeW p.1,PyData.int p.2)).map (·.2)) []
 | [],es,vs,r,p=>by
  have r':KV ([]:List (Key×V)) vs:=r
  unfold KV at r'
  cases r'
  cases p
  exact⟨.nil,.nil⟩
 | (k,i)::kvs,es,vs,r,p=>by
  have r':KV ((k,V.int i)::kvs.map λp=>(p.1,V.int p.2)) vs:=r
  unfold KV at r'
  cases r' with
  | cons r1 r2=>
   cases p with
   | cons p1 p2 p3=>
    obtain⟨q1,q2⟩:=vR (h:=h) (kvs:=kvs) r2 p3
    obtain⟨e1,t,e2⟩:=r1
    have hk:∀{e:DictEntry}{kv:Key×Value},k=kv.1->(wS P w).is kv.1 e.key=true->Reads h e.key (qeW k) []:=λ{e kv} hk hi=>by
     subst hk
     rcases qY hi with⟨i,t,e1,e2⟩|⟨x,t,e1,e2⟩
     ·rw[e1,e2];exact .int i t
     ·rw[e1,e2];exact .str x t
    refine⟨.cons (as:=[]) (bs:=[]) (hk e1 p1) q1,.cons (as:=[]) (bs:=[]) ?_ q2⟩
    show Reads h _ (.int i) []
    dsimp only
    rw[p2,e2]
    exact .int i t
section
variable{X:Cx}{pins:List (Addr×Obj)}{σ:St}{H:Hp}{s:yaa}{A:Addr->Prop}
mutual
theorem uM (I:Inv X pins σ H s):∀{d:D}{v:V}{u:Value},noX d=true->Is X.K A H d v->jm v u->∃as,Reads s.heap u (j8 d) as/\(noL d=true->ydi ∉ as)
 |.non,_,_,_,h,r=>by cases h;cases r;exact⟨[],.none,by simp⟩
 |.bl b,_,_,_,h,r=>by cases h;cases r;exact⟨[],.bool b,by simp⟩
 |.int i,_,_,_,h,r=>by cases h;obtain⟨t,rfl⟩:=r;exact⟨[],.int i t,by simp⟩
 |.str x,_,_,_,h,r=>by cases h;obtain⟨t,rfl⟩:=r;exact⟨[],.str x t,by simp⟩
 |.tup ds,_,_,nx,⟨a,xs,hv,ta,il⟩,r=>by
  subst hv
  cases r
  obtain⟨its,rv,p,_⟩:=I.tuple ta.sq
  obtain⟨o,h1,h2,n,h3⟩:=p
  obtain⟨as,q,nl⟩:=readsL_of I (by simpa [noX] using nx) il rv
  exact⟨as,.tuple h1 h2 h3 (by simpa using q),λz=>nl (by simpa [noL] using z)⟩
 |.lst ds,_,_,nx,⟨a,xs,hv,_,ta,il⟩,r=>by
  subst hv
  cases r
  obtain⟨its,rv,p,_⟩:=I.list (SqL.of ta)
  obtain⟨o,h1,h2,n,h3⟩:=p.isList
  obtain⟨as,q,nl⟩:=readsL_of I (by simpa [noX] using nx) il rv
  exact⟨a::as,.list h1 h2 h3 (by simpa using q),λz=>by simp[noL]at z⟩
 |.dic kvs,_,_,_,⟨a,hv,_,ta⟩,r=>by
  subst hv
  cases r
  obtain⟨hz,hS,vs,rk,o,es,ep,h1,h2,h3,h4,h5,h6⟩:=(show ym X.prog X.w H s.heap a (.dK _)from I.hok a _ ta)
  obtain⟨q1,q2⟩:=vR (h:=s.heap) rk h5
  refine⟨_,Reads.dict (as:=[]) (bs:=[]) h1 h2.1 h3 q1 q2,λ_ hm=>?_⟩
  have:ydi=a:=by simpa using hm
  rw[<-this]at hS
  simp at hS
 |.exc _,_,_,nx,_,_=>by simp[noX]at nx
 |.fz ns,_,_,_,⟨a,hv,ta⟩,r=>by
  subst hv
  cases r
  obtain⟨its,rv,p,_⟩:=I.list ta.sq
  obtain⟨o,h1,h2,n,h3⟩:=p.isList
  obtain⟨as,q⟩:=uL rv
  exact⟨a::as,.list h1 h2 h3 (by simpa using q),λz=>by simp[noL]at z⟩
theorem readsL_of (I:Inv X pins σ H s):∀{ds:List D}{xs:List V}{us:List Value},noXs ds=true->IsL X.K A H ds xs->qU xs us->∃as,yeW s.heap us (toPDs ds) as/\(noLs ds=true->ydi ∉ as)
 | [],_,_,_,h,r=>by cases h;cases r;exact⟨[],.nil,by simp⟩
 | d :: ds,_,_,nx,⟨x,ys,hx,h1,h2⟩,r=>by
  subst hx
  cases r with
  | cons r1 r2=>
   have nx':noX d=true/\noXs ds=true:=by simpa [noXs] using nx
   obtain⟨as,q1,n1⟩:=uM I nx'.1 h1 r1
   obtain⟨bs,q2,n2⟩:=readsL_of I nx'.2 h2 r2
   exact ⟨as++bs,.cons q1 q2,λz=>by
    have z':noL d=true/\noLs ds=true:=by simpa [noLs] using z
    exact qbv (n1 z'.1) (n2 z'.2)⟩
end
end
def qi1(d:D):Bool:=(j8 d).showable&&decide ((j8 d).shown.length<=yaq)&&decide ((j8 d).depth<=50)&&(!(j8 d).hasDict||noL d)
section
variable{X:Cx}
end
def qml:List D->Option D
 | [d]=>if qi1 d then some (.str (j8 d).shown)else none
 |_=>none
def wH(d:D):Bool:=(j8 d).canLay0&&decide ((j8 d).depth<=50)
def qfV(K:Fr0)(neg:Bool):R2:=λx y H Q=>∃d e A,Is K A H d x/\Is K A H e y/\wH d=true/\wH e=true/\Q (.bl (if neg then !ybg (j8 d) (j8 e)else ybg (j8 d) (j8 e))) H
section
variable{X:Cx}
theorem qaa {d:D} (h:wH d=true):SeqAt.shaped (j8 d)=true:=by
 unfold wH at h
 unfold SeqAt.shaped
 simp only[yao,decide_eq_true_eq]at h |-
 exact⟨h.1,by omega⟩
theorem qb2 {d:D} (h:wH d=true):noX d=true:=by
 unfold wH at h
 rw[yao]at h
 exact qdA h.1
theorem qi2 {k:Nat} (hr:uE k X.A):OpR X (yaJ .Eq) (qfV X.K false):=by
 intro pins s σ H x y v u Q I rx ry h
 obtain⟨d,e,A,h1,h2,o1,o2,q⟩:=h
 obtain⟨as,r1,_⟩:=uM I (qb2 o1) h1 rx
 obtain⟨bs,r2,_⟩:=uM I (qb2 o2) h2 ry
 exact SeqAt.compareEq_shaped r1 r2 (qaa o1) (qaa o2) hr.units ⟨.bl _,H,I,rfl,by simpa using q⟩
theorem qfW {k:Nat} (hr:uE k X.A):OpR X (yaJ .NotEq) (qfV X.K true):=by
 intro pins s σ H x y v u Q I rx ry h
 obtain⟨d,e,A,h1,h2,o1,o2,q⟩:=h
 obtain⟨as,r1,_⟩:=uM I (qb2 o1) h1 rx
 obtain⟨bs,r2,_⟩:=uM I (qb2 o2) h2 ry
 exact SeqAt.compareNe_shaped r1 r2 (qaa o1) (qaa o2) hr.units ⟨.bl _,H,I,rfl,by simpa using q⟩
end
def eqA(x y:D):Option D:=if wH x&&wH y then some (.bl (ybg (j8 x) (j8 y)))else none
def neA(x y:D):Option D:=if wH x&&wH y then some (.bl (!ybg (j8 x) (j8 y)))else none
theorem qgV {K:Fr0}:OpS K eqA (qfV K false):=by
 intro A H x y d v u Q hn ix iy e k
 obtain⟨e1,e2⟩:=zH e
 rw[yao]at e1
 subst e2
 exact⟨x,y,A,ix,iy,e1.1,e1.2,k _ H (zK.refl H) rfl⟩
theorem qgW {K:Fr0}:OpS K neA (qfV K true):=by
 intro A H x y d v u Q hn ix iy e k
 obtain⟨e1,e2⟩:=zH e
 rw[yao]at e1
 subst e2
 exact⟨x,y,A,ix,iy,e1.1,e1.2,k _ H (zK.refl H) rfl⟩
section
variable{X:Cx}{c:Fc}{a b e:Expr}{pos:Pos}
def qfX (i:Nat) (g:M D):M D:=λZ=>match zm i Z with
 |none => .bad
 |some _=>(bnd g λy Z=>match zm i Z with
  |none => .bad
  |some ds=>lift (neA (.lst ds) y) Z) Z
theorem qi3 {i k:Nat} {x:Str} {p1:Pos} {g:M D} (hr:uE k X.A) (hb:DE X c b g) (ho:i∈c.O:=by exact of_decide_eq_true rfl) (hN:X.N[i]? = some x:=by rfl) (hv:Vis X.env.scope x:=by first|exact ya0 rfl|exact yaF (ya0 rfl)|exact yaF (yaF rfl)) (hd:(x==("__debug__":Str))=false:=by decide) (hcd:(x==("__classdict__":Str))=false:=by decide) :
  DT X c (.Compare (.Name x p1) [.NotEq] [b] pos) (tst (qfX i g)):=by
 obtain⟨tb,pb,wb⟩:=hb
 refine⟨_,qc7 (qfW hr) (uF hN hv hd hcd) pb (qB _),λZ σ H Q r h=>?_⟩
 unfold tst qfX bnd at h
 cases e0:zm i Z with
 |none=>simp only[e0]at h;exact h.elim
 | some ds0=>
  simp only[e0]at h
  obtain⟨l,xs0,_,hl,hH,_⟩:=r.getLO ho e0
  refine⟨.ref l,hl,wb Z σ H _ r ?_⟩
  cases eg:g Z with
  |bad=>simp only[eg]at h;exact h
  |exc z Z'=>simp only[eg]at h;exact h
  | ok q=>
   obtain⟨y,Z1⟩:=q
   simp only[eg]at h
   intro u H1 r1 i1 g1
   cases e1:zm i Z1 with
   |none=>simp only[e1]at h;exact h.elim
   | some ds=>
    simp only[e1]at h
    cases en:neA (.lst ds) y with
    |none=>simp only[en,lift]at h;exact h.elim
    |some d=>
     simp only[en,lift,ret]at h
     obtain⟨e3,e4⟩:=zH en
     rw[yao]at e3
     subst e4
     obtain⟨l',xs,him,hl',hH',il⟩:=r1.getLO ho e1
     rw[hl]at hl'
     cases hl'
     refine⟨.lst ds,y,λ_=>True,⟨l,xs,rfl,trivial,hH',IsL.ext Ext.refl (λ_ h _=>trivial) il⟩,Is.ext Ext.refl (λ_ _ _=>trivial) i1,e3.1,e3.2,_,rfl,?_⟩
     exact h H1 r1 g1
end
section
variable{prog:yaj}{w:World}{A:yar}{E:Value->yaa->Prop}{s:yaa}
theorem qgX {it tu:Addr} {k:Nat} {arr:Array Value} {x:Value} {Q:Value->yaa->Prop} (hI:s.heap.IsTupleIter it tu k) (hT:s.heap.IsTuple tu arr) (hx:arr[k]? = some x)
  (q:∀h',h'.IsTupleIter it tu (k+1)->ybA it s.heap h'->Q x {s with heap:=h' }):wpAny (model prog w) A (yaz (.ref it)) Q E s:=by
 obtain⟨ob,e1,e2,e3⟩:=id hI
 obtain⟨ot,f1,_,m,f2⟩:=hT
 unfold yaz
 refine yab (wpAny_callSpecial?_slot (name:=yaT "__next__") hI.typeIs ybu (ybC ybu hI.typeIs ycV ?_ (ycN _)))
 show wpAny (model prog w) _ (field (yae it) 0 >>= _) _ _ s
 refine yab (yaG e1 e3 (x:=yae tu) rfl ?_)
 show wpAny (model prog w) _ (if(yae tu==yaD)=true then _ else _) _ _ s
 rw[if_neg (show ¬((yae tu==yaD)=true)from yas)]
 show wpAny (model prog w) _ (field (yae it) 1 >>= _) _ _ s
 refine yab (yaG e1 e3 (x:=ycP k 0) rfl ?_)
 show wpAny (model prog w) _ (seqItems? (yae tu) >>= _) _ _ s
 refine yab (yaZ f1 f2 ?_)
 simp only[ybx,hx]
 refine yab (wpAny_setField e1 e3 (by simp) (yal ⟨x,rfl,yal (q _ ?_ (yb4 ..))⟩))
 exact⟨_,Heap.get?_update_self _ e1 (Obj.isFreed_of_fields (yeC e3 _)),(Obj.cls_mapFields ..).trans e2,by rw[yeC e3];simp[ybK]⟩
theorem qgY {it tu:Addr} {k:Nat} {arr:Array Value} {Q:Value->yaa->Prop} (hh:A.handled=none) (hI:s.heap.IsTupleIter it tu k) (hT:s.heap.IsTuple tu arr) (hx:arr[k]? = none)
  (q:∀h' e,Heap.ExtBut it s.heap h'->(∃o,h'.get? e=some o/\o.cls=.type "StopIteration")->E (.ref e) {s with heap:=h' }):wpAny (model prog w) A (yaz (.ref it)) Q E s:=by
 obtain⟨ob,e1,e2,e3⟩:=id hI
 obtain⟨ot,f1,_,m,f2⟩:=hT
 unfold yaz
 refine yab (wpAny_callSpecial?_slot (name:=yaT "__next__") hI.typeIs ybu (ybC ybu hI.typeIs ycV ?_ (ycN _)))
 show wpAny (model prog w) _ (field (yae it) 0 >>= _) _ _ s
 refine yab (yaG e1 e3 (x:=yae tu) rfl ?_)
 show wpAny (model prog w) _ (if(yae tu==yaD)=true then _ else _) _ _ s
 rw[if_neg (show ¬((yae tu==yaD)=true)from yas)]
 show wpAny (model prog w) _ (field (yae it) 1 >>= _) _ _ s
 refine yab (yaG e1 e3 (x:=ycP k 0) rfl ?_)
 show wpAny (model prog w) _ (seqItems? (yae tu) >>= _) _ _ s
 refine yab (yaZ f1 f2 ?_)
 simp only[ybx,hx]
 refine yab (ydj (yab (wpAny_setField e1 e3 (by simp) ?_)))
 show wpAny (model prog w) _ (newExc (ybJ "StopIteration") [] >>= _) _ _ _
 refine yab ?_
 simp only[newExc,newTuple]
 refine yab (ybQ ?_ (by size_fits))
 refine yab (m:=firstArgMember _ _) (wpAny_of_eq (a:=yaD) (by first|rfl|(simp only[firstArgMember];rfl)) ?_)
 refine ybQ ?_ (by size_fits)
 simp only[raiseNew]
 refine yab (wpAny_handled ?_)
 first|rw[show A.in1.handled=none from hh]|rw[hh]
 exact yab (yal (wpAny_throw (q _ _ (((yb4 ..).extBut.push _).push _) ⟨_,Heap.get?_push_size _ rfl,rfl⟩)))
end
theorem jo {prog:yaj} {w:World} {A:yar} (hh:A.handled=none) (it tu:Addr) (hne:tu≠it) (arr:Array Value) :
  Draws prog w A it [it,tu] arr.size (λi x=>arr[i]? = some x) (λi h=>h.IsTupleIter it tu i/\h.IsTuple tu arr) where
 live:=λi h st=>by obtain⟨⟨o,e,_⟩,_⟩:=st;exact⟨o,e⟩
 frame:=λi h h' st k=>by
  obtain⟨h1,o,e,r⟩:=st
  exact⟨h1.at λo q=>k it (by simp) o q,o,k tu (by simp) o e,r⟩
 item:=λi s Q E hi st q=>qgX st.1 st.2 (Array.getElem?_eq_getElem hi) λh' h1 sb=>q _ h' s.toks (Array.getElem?_eq_getElem hi) ⟨h1,by
  obtain⟨o,e,r⟩:=st.2
  exact⟨o,sb.extBut _ _ hne e,r⟩⟩ sb
 done:=λs Q E st q=>qgY hh st.1 st.2 (Array.getElem?_eq_none (yak _)) q
structure ZAp (z TI TO i1 i2:Addr) (fp1 fp2:List Addr):Prop where
 zTI:z≠TI
 zTO:z≠TO
 zi1:z≠i1
 zi2:z≠i2
 IO:TI≠TO
 Ii1:TI≠i1
 Ii2:TI≠i2
 Oi1:TO≠i1
 Oi2:TO≠i2
 ii:i1≠i2
 z1:z ∉ fp1
 z2:z ∉ fp2
 O1:TO ∉ fp1
 O2:TO ∉ fp2
 i21:i2 ∉ fp1
 i12:i1 ∉ fp2
section
variable{prog:yaj}{w:World}{A:yar}{E:Value->yaa->Prop}{s:yaa}{z TI TO i1 i2:Addr}{fp1 fp2:List Addr}{n1 n2 k:Nat}{P1 P2:Nat->Value->Prop}{S1 S2:Nat->Heap->Prop}
theorem zr{fp:List Addr}{a:Addr}{h h':Heap}(sb:ybA a h h')(ha:a ∉ fp):∀b∈fp,∀o,h.get? b=some o->h'.get? b=some o:=λb hb o e=>sb.extBut _ _ (λq=>ha (q▸hb)) e
theorem qfY (D1:Draws prog w A i1 fp1 n1 P1 S1) (D2:Draws prog w A i2 fp2 n2 P2 S2) (ap:ZAp z TI TO i1 i2 fp1 fp2) {p q:Value} (zz:IsZip s.heap z TI TO .none) (zI:yaR s.heap TI (.ref i1) (.ref i2)) (zO:yaR s.heap TO p q)
  (t1:S1 k s.heap) (t2:S2 k s.heap) (l1:k<n1) (l2:k<n2) {Q:Value->yaa->Prop}
  (fin:∀x y h' tk,P1 k x->P2 k y->IsZip h' z TI TO (ybK s.heap.objs.size)->yaR h' TO x y->S1 (k+1) h'->S2 (k+1) h'->yaR h' s.heap.objs.size x y ->
   (∀c o,c≠z->c≠TO->c≠i1->c≠i2->s.heap.get? c=some o->h'.get? c=some o)->Q (.ref s.heap.objs.size) {s with heap:=h',toks:=tk}) :
  wpAny (model prog w) A (ybH.«zip.__next__» ⟨[.ref z],[]⟩) (λr s'=>∃v,r=.done (.ret v)/\Q v s') E s:=by
 show wpAny (model prog w) A (field (yae z) 2 >>= _) _ _ _
 refine yab (yaG zz rfl (x:=yaX false) rfl ?_)
 show wpAny (model prog w) A (field (yae z) 3 >>= _) _ _ _
 refine yab (yaG zz rfl (x:=yae TI) rfl (yab (yaZ zI rfl ?_)))
 show wpAny (model prog w) A (yaB (yae z) >>= _) _ _ _
 refine yab ?_
 unfold yaB
 refine yab (yaG zz rfl (x:=yaD) rfl (yal ?_))
 simp only[if_true]
 refine yab (ydj (yab (yaG zz rfl (x:=yae TO) rfl (yab (ybb zz (by simp) λh1 zz1 b1=>?_)))))
 replace zz1:IsZip h1 z TI TO .ellipsis:=zz1
 refine yab ?_
 simp only[List.zipIdx_cons,List.zipIdx_nil,yb7,ycO]
 refine yab (yab (yc3 ?_))
 show wpAny (model prog w) A (yaz (yae i1) >>= _) _ _ _
 refine yab (D1.item k _ _ _ l1 (D1.frame _ _ _ t1 (zr b1 ap.z1)) λx h2 tk2 px u1 b2=>yal ?_)
 have zO2:yaR h2 TO p q:=b2.extBut _ _ ap.Oi1 (b1.extBut _ _ ap.zTO.symm zO)
 refine yab (yaZ zO2 rfl (yab (ycD zO2 λh3 zO3 b3=>?_)))
 replace zO3:yaR h3 TO x q:=zO3
 refine yab (ydU (yal (yab (yab (yc3 ?_)))))
 show wpAny (model prog w) A (yaz (yae i2) >>= _) _ _ _
 have t2':S2 k h3:=D2.frame _ _ _ (D2.frame _ _ _ (D2.frame _ _ _ t2 (zr b1 ap.z2)) (zr b2 ap.i12)) (zr b3 ap.O2)
 refine yab (D2.item k _ _ _ l2 t2' λy h4 tk4 py u2 b4=>yal ?_)
 have zO4:yaR h4 TO x q:=b4.extBut _ _ ap.Oi2 zO3
 refine yab (yaZ zO4 rfl (yab (ycD zO4 λh5 zO5 b5=>?_)))
 replace zO5:yaR h5 TO x y:=zO5
 refine yab (ydU (yal (yal (yab (yaZ zO5 rfl (yab (yd3 ?_)))))))
 have sz:h5.objs.size=s.heap.objs.size:=by rw[b5.1,b4.1,b3.1,b2.1,b1.1]
 have zz5:IsZip h5 z TI TO .ellipsis:=b5.extBut _ _ ap.zTO (b4.extBut _ _ ap.zi2 (b3.extBut _ _ ap.zTO (b2.extBut _ _ ap.zi1 zz1)))
 have keep5:∀c o,c≠z->c≠TO->c≠i1->c≠i2->s.heap.get? c=some o->h5.get? c=some o:=λc o c1 c2 c3 c4 e=>b5.extBut _ _ c2 (b4.extBut _ _ c4 (b3.extBut _ _ c2 (b2.extBut _ _ c3 (b1.extBut _ _ c1 e))))
 have v1:S1 (k+1) h5:=D1.frame _ _ _ (D1.frame _ _ _ (D1.frame _ _ _ u1 (zr b3 ap.O1)) (zr b4 ap.i21)) (zr b5 ap.O1)
 have v2:S2 (k+1) h5:=D2.frame _ _ _ u2 (zr b5 ap.O2)
 have lz:z<h5.objs.size:=yac zz5
 show wpAny (model prog w) A (ycb (yae z) (yae h5.objs.size) >>= _) _ _ _
 refine yab ?_
 unfold ycb
 have zz6:IsZip (h5.push {cls:=.type "tuple",data:=.seq #[x,y]}) z TI TO .ellipsis:=Heap.get?_push_of_some _ zz5
 refine yab (ybb zz6 (by simp) λh7 zz7 b7=>?_)
 replace zz7:IsZip h7 z TI TO (ybK h5.objs.size):=zz7
 refine ybb zz7 (by simp) λh8 zz8 b8=>?_
 replace zz8:IsZip h8 z TI TO (ybK h5.objs.size):=zz8
 have up:∀c o,c≠z->h5.get? c=some o->h8.get? c=some o:=λc o c1 e=>b8.extBut _ _ c1 (b7.extBut _ _ c1 (Heap.get?_push_of_some _ e))
 have new8:yaR h8 h5.objs.size x y:=b8.extBut _ _ (ya5 lz) (b7.extBut _ _ (ya5 lz) (Heap.get?_push_size _ rfl))
 rw[sz]at zz8 new8
 refine yal ⟨_,rfl,?_⟩
 show Q (yae h5.objs.size) _
 rw[sz]
 exact fin x y h8 tk4 px py zz8 (up _ _ ap.zTO.symm zO5) (D1.frame _ _ _ v1 λb hb o e=>up b o (λq=>ap.z1 (q▸hb)) e) (D2.frame _ _ _ v2 λb hb o e=>up b o (λq=>ap.z2 (q▸hb)) e) new8 λc o c1 c2 c3 c4 e=>up c o c1 (keep5 c o c1 c2 c3 c4 e)
theorem qb3 (hh:A.handled=none) (D1:Draws prog w A i1 fp1 n1 P1 S1) (D2:Draws prog w A i2 fp2 n2 P2 S2) (ap:ZAp z TI TO i1 i2 fp1 fp2) {p q:Value} (zz:IsZip s.heap z TI TO .none) (zI:yaR s.heap TI (.ref i1) (.ref i2)) (zO:yaR s.heap TO p q)
  (t1:S1 k s.heap) (t2:S2 k s.heap) (hk:k=min n1 n2) {Q:Fin->yaa->Prop}
  (fin:∀h' tk e,(∀c o,c≠z->c≠TO->c≠i1->c≠i2->s.heap.get? c=some o->h'.get? c=some o)->(∃o,h'.get? e=some o/\o.cls=.type "StopIteration")->E (.ref e) {s with heap:=h',toks:=tk}) :
  wpAny (model prog w) A (ybH.«zip.__next__» ⟨[.ref z],[]⟩) Q E s:=by
 show wpAny (model prog w) A (field (yae z) 2 >>= _) _ _ _
 refine yab (yaG zz rfl (x:=yaX false) rfl ?_)
 show wpAny (model prog w) A (field (yae z) 3 >>= _) _ _ _
 refine yab (yaG zz rfl (x:=yae TI) rfl (yab (yaZ zI rfl ?_)))
 show wpAny (model prog w) A (yaB (yae z) >>= _) _ _ _
 refine yab ?_
 unfold yaB
 refine yab (yaG zz rfl (x:=yaD) rfl (yal ?_))
 simp only[if_true]
 refine yab (ydj (yab (yaG zz rfl (x:=yae TO) rfl (yab (ybb zz (by simp) λh1 zz1 b1=>?_)))))
 replace zz1:IsZip h1 z TI TO .ellipsis:=zz1
 refine yab ?_
 simp only[List.zipIdx_cons,List.zipIdx_nil,yb7,ycO]
 refine yab (yab (yc3 ?_))
 show wpAny (model prog w) A (yaz (yae i1) >>= _) _ _ _
 have t1':S1 k h1:=D1.frame _ _ _ t1 (zr b1 ap.z1)
 by_cases h12:n1<=n2
 ·have e1:k=n1:=by rw[hk];exact Nat.min_eq_left h12
  rw[e1]at t1'
  refine yab (D1.done _ _ _ t1' λh2 e b2 he=>?_)
  obtain⟨oe,f1,f2⟩:=he
  have zz2:IsZip h2 z TI TO .ellipsis:=b2 _ _ ap.zi1 zz1
  have ez:e≠z:=λx=>by subst x;rw[zz2]at f1;cases f1;simp at f2
  refine ybb zz2 (by simp) λh3 _ b3=>?_
  exact fin h3 s.toks e (λc o c1 _ c3 _ x=>b3.extBut _ _ c1 (b2 _ _ c3 (b1.extBut _ _ c1 x))) ⟨oe,b3.extBut _ _ ez f1,f2⟩
 ·have e1:k=n2:=by rw[hk];exact Nat.min_eq_right (by omega)
  refine yab (D1.item k _ _ _ (by omega) t1' λx h2 tk2 px u1 b2=>yal ?_)
  have zO2:yaR h2 TO p q:=b2.extBut _ _ ap.Oi1 (b1.extBut _ _ ap.zTO.symm zO)
  refine yab (yaZ zO2 rfl (yab (ycD zO2 λh3 zO3 b3=>?_)))
  refine yab (ydU (yal (yab (yab (yc3 ?_)))))
  show wpAny (model prog w) A (yaz (yae i2) >>= _) _ _ _
  have t2':S2 k h3:=D2.frame _ _ _ (D2.frame _ _ _ (D2.frame _ _ _ t2 (zr b1 ap.z2)) (zr b2 ap.i12)) (zr b3 ap.O2)
  rw[e1]at t2'
  refine yab (D2.done _ _ _ t2' λh4 e b4 he=>?_)
  obtain⟨oe,f1,f2⟩:=he
  have zz4:IsZip h4 z TI TO .ellipsis:=b4 _ _ ap.zi2 (b3.extBut _ _ ap.zTO (b2.extBut _ _ ap.zi1 zz1))
  have ez:e≠z:=λx=>by subst x;rw[zz4]at f1;cases f1;simp at f2
  refine ybb zz4 (by simp) λh5 _ b5=>?_
  exact fin h5 tk2 e (λc o c1 c2 c3 c4 x=>b5.extBut _ _ c1 (b4 _ _ c4 (b3.extBut _ _ c2 (b2.extBut _ _ c3 (b1.extBut _ _ c1 x))))) ⟨oe,b5.extBut _ _ ez f1,f2⟩
theorem qeX {l1 l2:Addr} {xs ys:Array Value} {Q:Value->yaa->Prop} (t1:s.heap.IsTuple l1 xs) (t2:s.heap.IsTuple l2 ys)
  (fin:∀h',IsZip h' (s.heap.objs.size+4) (s.heap.objs.size+2) (s.heap.objs.size+3) .none->yaR h' (s.heap.objs.size+2) (.ref s.heap.objs.size) (.ref (s.heap.objs.size+1))->yaR h' (s.heap.objs.size+3) .none .none ->
   h'.IsTupleIter s.heap.objs.size l1 0->h'.IsTupleIter (s.heap.objs.size+1) l2 0->(∀c o,s.heap.get? c=some o->h'.get? c=some o)->Q (.ref (s.heap.objs.size+4)) {s with heap:=h' }) :
  wpAny (model prog w) A (call (.type "zip") [.ref l1,.ref l2]) Q E s:=by
 have meets:Meets (ybH.«zip.__new__» ⟨[.type "zip",.ref l1,.ref l2],[]⟩) (λ_ R s=>s.heap.IsTuple l1 xs/\s.heap.IsTuple l2 ys /\
   R (.ok (.ret (.ref (s.heap.objs.size+4)))) {s with heap:=((((s.heap.push {cls:=.type "tuple_iterator",data:=.fields #[.ref l1,.int 0 0]}).push {cls:=.type "tuple_iterator",data:=.fields #[.ref l2,.int 0 0]}).push {cls:=.type "tuple",data:=.seq #[.ref s.heap.objs.size,.ref (s.heap.objs.size+1)]}).push {cls:=.type "tuple",data:=.seq #[.none,.none]}).push {cls:=.type "zip",data:=.fields #[.none,.bool false,.bool false,.ref (s.heap.objs.size+2),.ref (s.heap.objs.size+3)]} }) :=
  .of_wp λprog w A R s h=>by
   obtain⟨hp,g,d,tk,os⟩:=s
   obtain⟨ha,hb,h⟩:=h
   have hsub:=sub_zip
   have hA:yeD (ydV ⟨hp,g,d,tk,os⟩) l1 xs:=ha
   have hB:yeD (ydV ⟨hp.push {cls:=.type "tuple_iterator",data:=.fields #[.ref l1,.int 0 0]},g,d,tk,os⟩) l2 ys:=by
    obtain⟨o,e,r⟩:=hb
    exact⟨o,Heap.get?_push_of_some _ e,r⟩
   wp_walk using ybl hA,ybl hB
   simp only[yaM]at *
   exact⟨_,rfl,h⟩
 refine yeE F.called_zip (by decide) (F.typeCall_zip_2 _ _) (F.newCall_zip_2 _ _) (λobj=>F.args_object_init_3 obj _ _) F.entry_zip_new meets ⟨t1,t2,?_⟩
 generalize e1:s.heap.push {cls:=.type "tuple_iterator",data:=.fields #[.ref l1,.int 0 0]}=m1
 have s1:m1.objs.size=s.heap.objs.size+1:=by rw[<-e1,yaM]
 have q1:m1.get? s.heap.objs.size=some {cls:=.type "tuple_iterator",data:=.fields #[.ref l1,.int 0 0]}:=by rw[<-e1];exact Heap.get?_push_size _ rfl
 have k1:∀c o,s.heap.get? c=some o->m1.get? c=some o:=λc o x=>by rw[<-e1];exact Heap.get?_push_of_some _ x
 generalize e2:m1.push {cls:=.type "tuple_iterator",data:=.fields #[.ref l2,.int 0 0]}=m2
 have s2:m2.objs.size=s.heap.objs.size+2:=by rw[<-e2,yaM,s1]
 have q2:m2.get? (s.heap.objs.size+1)=some {cls:=.type "tuple_iterator",data:=.fields #[.ref l2,.int 0 0]}:=by rw[<-e2,<-s1];exact Heap.get?_push_size _ rfl
 have k2:∀c o,m1.get? c=some o->m2.get? c=some o:=λc o x=>by rw[<-e2];exact Heap.get?_push_of_some _ x
 generalize e3:m2.push {cls:=.type "tuple",data:=.seq #[.ref s.heap.objs.size,.ref (s.heap.objs.size+1)]}=m3
 have s3:m3.objs.size=s.heap.objs.size+3:=by rw[<-e3,yaM,s2]
 have q3:m3.get? (s.heap.objs.size+2)=some {cls:=.type "tuple",data:=.seq #[.ref s.heap.objs.size,.ref (s.heap.objs.size+1)]}:=by rw[<-e3,<-s2];exact Heap.get?_push_size _ rfl
 have k3:∀c o,m2.get? c=some o->m3.get? c=some o:=λc o x=>by rw[<-e3];exact Heap.get?_push_of_some _ x
 generalize e4:m3.push {cls:=.type "tuple",data:=.seq #[.none,.none]}=m4
 have s4:m4.objs.size=s.heap.objs.size+4:=by rw[<-e4,yaM,s3]
 have q4:m4.get? (s.heap.objs.size+3)=some {cls:=.type "tuple",data:=.seq #[.none,.none]}:=by rw[<-e4,<-s3];exact Heap.get?_push_size _ rfl
 have k4:∀c o,m3.get? c=some o->m4.get? c=some o:=λc o x=>by rw[<-e4];exact Heap.get?_push_of_some _ x
 generalize e5:m4.push {cls:=.type "zip",data:=.fields #[.none,.bool false,.bool false,.ref (s.heap.objs.size+2),.ref (s.heap.objs.size+3)]}=m5
 have q5:m5.get? (s.heap.objs.size+4)=some {cls:=.type "zip",data:=.fields #[.none,.bool false,.bool false,.ref (s.heap.objs.size+2),.ref (s.heap.objs.size+3)]}:=by rw[<-e5,<-s4];exact Heap.get?_push_size _ rfl
 have k5:∀c o,m4.get? c=some o->m5.get? c=some o:=λc o x=>by rw[<-e5];exact Heap.get?_push_of_some _ x
 show _/\_
 exact⟨⟨_,q5,rfl⟩,fin m5 q5 (k5 _ _ (k4 _ _ q3)) (k5 _ _ q4) ⟨_,k5 _ _ (k4 _ _ (k3 _ _ (k2 _ _ q1))),rfl,rfl⟩ ⟨_,k5 _ _ (k4 _ _ (k3 _ _ q2)),rfl,rfl⟩ λc o x=>k5 _ _ (k4 _ _ (k3 _ _ (k2 _ _ (k1 _ _ x))))⟩
end
section
variable{X:Cx}{pins:List (Addr×Obj)}{σ:St}{H:Hp}{s:yaa}{h':Heap}
theorem qbw {ch:List Addr} {T:Addr} {o:HO} {t':Nat} (I:Inv X pins σ H s) (k:∀b u,b ∉ ch->s.heap.get? b=some u->h'.get? b=some u) (hf:∀b∈ch,qbR X pins H b) (hT:s.heap.objs.size<=T) (new:ym X.prog X.w (upd H T o) h' T o) :
  Inv X pins σ (upd H T o) {s with heap:=h',toks:=t' }:=by
 have hn:H T=none:=I.hok.fresh hT
 have nch:∀b u,H b=some u->b ∉ ch:=λb u e z=>by rw[(hf b z).1]at e;cases e
 refine I.step (g':=s.gens) (d':=s.drawn) (ch:=ch) (λb hb=>⟨(hf b hb).2.2.2.1,(hf b hb).2.1,(hf b hb).2.2.2.2.1,(hf b hb).2.2.2.2.2⟩) (λb u _ _ hc e _=>k b u hc e) (λb u _ _ hc e _=>⟨u.slots,k b u hc e⟩) (λb u hc e n=>?_)
  (λb u hc e=>⟨u,k b u hc e⟩) (λb xs e=>by rw[qu (qE e hn)];exact e) (λb u xs e=>by rw[qu (qE e hn)];exact e) (λb ps y e=>by rw[qu (qE e hn)];exact e) (λm hm=>?_) (λb u e=>?_) I.bare
 ·rw[qu (yat (yaw (yac e) hT))];exact n
 ·obtain⟨ob,es,ep,ho,r⟩:=hm
  exact⟨ob,es,ep,k _ ob (λz=>(hf _ z).2.1 rfl) ho,r⟩
 ·by_cases hb:b=T
  ·subst hb;rw[qt]at e;cases e;exact new
  ·rw[qu hb]at e
   refine(I.hok b u e).stay (λc v hc q=>k c v ?_ q) (λc q=>by rw[qu (qE q hn)];exact q) (λc xs q=>by rw[qu (qE q hn)];exact q) λc ob y q=>by rw[qu (qE q hn)];exact q
   rcases hc with z|z
   ·rw[z];exact nch b u e
   ·exact nch c _ z
theorem qbx {ch:List Addr} {t':Nat} (I:Inv X pins σ H s) (k:∀b u,b ∉ ch->s.heap.get? b=some u->h'.get? b=some u) (hf:∀b∈ch,qbR X pins H b):Inv X pins σ H {s with heap:=h',toks:=t' }:=by
 have nch:∀b u,H b=some u->b ∉ ch:=λb u e z=>by rw[(hf b z).1]at e;cases e
 refine I.step (g':=s.gens) (d':=s.drawn) (ch:=ch) (λb hb=>⟨(hf b hb).2.2.2.1,(hf b hb).2.1,(hf b hb).2.2.2.2.1,(hf b hb).2.2.2.2.2⟩) (λb u _ _ hc e _=>k b u hc e) (λb u _ _ hc e _=>⟨u.slots,k b u hc e⟩) (λb u hc e n=>n)
  (λb u hc e=>⟨u,k b u hc e⟩) (λb xs e=>e) (λb u xs e=>e) (λ_ _ _ e=>e) (λm hm=>?_) (λb u e=>?_) I.bare
 ·obtain⟨ob,es,ep,ho,r⟩:=hm
  exact⟨ob,es,ep,k _ ob (λz=>(hf _ z).2.1 rfl) ho,r⟩
 ·refine(I.hok b u e).stay (λc v hc q=>k c v ?_ q) (λc q=>q) λc xs q=>q
  rcases hc with z|z
  ·rw[z];exact nch b u e
  ·exact nch c _ z
end
def Itz (K:Fr0) (a1 a2:Addr) (xs ys:List V):It :=
 ⟨λi H=>i<min xs.length ys.length/\SqT K H a1 xs/\SqT K H a2 ys,λi H x H'=>∃p u v,H p=none/\xs[i]? = some u/\ys[i]? = some v/\x=.ref p/\H'=upd H p (.tup [u,v]),λi H=>i=min xs.length ys.length/\SqT K H a1 xs/\SqT K H a2 ys⟩
def ZSt(z TI TO i1 i2 a1 a2:Addr)(i:Nat)(h:Heap):Prop:=IsZip h z TI TO .none/\yaR h TI (.ref i1) (.ref i2)/\(∃p q,yaR h TO p q)/\h.IsTupleIter i1 a1 i/\h.IsTupleIter i2 a2 i
theorem qeY {P:yaj} {w:World} {K:Fr0} {es:List Expr} {kk:Nat} {pos:Pos} {z TI TO i1 i2 a1 a2:Addr} {xs ys:List V} (ap:ZAp z TI TO i1 i2 [i1,a1] [i2,a2]) (n1:a1≠i1) (n2:a2≠i2) :
  qfG P w K (.Tuple es kk pos) (Itz K a1 a2 xs ys) [z,TI,TO,i1,i2] z (ZSt z TI TO i1 i2 a1 a2) where
 mem:=by simp
 obj:=λi h st b hb=>by
  obtain⟨h1,h2,⟨p,q,h3⟩,⟨o4,h4,c4,d4⟩,⟨o5,h5,c5,d5⟩⟩:=st
  simp only[yau,nN_,or_false]at hb
  rcases hb with rfl|rfl|rfl|rfl|rfl
  ·exact⟨_,h1,λv e=>by cases (show ydN _=ycS v from e)⟩
  ·exact⟨_,h2,λv e=>by cases (show Data.seq _ _=ycS v from e)⟩
  ·exact⟨_,h3,λv e=>by cases (show Data.seq _ _=ycS v from e)⟩
  ·exact⟨_,h4,λv e=>by rw[d4]at e;cases e⟩
  ·exact⟨_,h5,λv e=>by rw[d5]at e;cases e⟩
 keep:=λi h h' st k=>by
  obtain⟨h1,h2,⟨p,q,h3⟩,h4,h5⟩:=st
  exact⟨k z (by simp) _ h1,k TI (by simp) _ h2,⟨p,q,k TO (by simp) _ h3⟩,h4.at λo e=>k i1 (by simp) o e,h5.at λo e=>k i2 (by simp) o e⟩
 item:=by
  intro X hP hw hK hc i pins s σ H E I hf st hg
  subst hP hw hK
  obtain⟨hlt,hx,hy⟩:=hg
  obtain⟨h1,h2,⟨p,q,h3⟩,h4,h5⟩:=st
  obtain⟨it1,r1,p1,z1⟩:=I.tuple hx
  obtain⟨it2,r2,p2,z2⟩:=I.tuple hy
  have l1:i<it1.toArray.size:=by rw[sT_,<-r1.length];omega
  have l2:i<it2.toArray.size:=by rw[sT_,<-r2.length];omega
  have hT:s.TypeIs (.ref z) "zip":=⟨_,h1,rfl⟩
  have hh:X.A.in1.handled=none:=I.ok.hd hc
  unfold ybY
  refine yab (yc4 (wpAny_callSpecial?_slot (name:=yaT "__next__") hT ybh (ybC ybh hT ycu
   (qfY (jo hh i1 a1 n1 it1.toArray) (jo hh i2 a2 n2 it2.toArray) ap h1 h2 h3 ⟨h4,p1⟩ ⟨h5,p2⟩ l1 l2 λx y h' tk px py zz zO u1 u2 new kp=>yal ?_) (ycj _))))
  refine⟨.ref s.heap.objs.size,rfl,wpAny_letOwnedTupleGo_zip zz λh2' zz2 sb=>?_⟩
  obtain⟨xv,hxv⟩:∃v,xs[i]? = some v:=⟨xs[i]'(by omega),gG (by omega)⟩
  obtain⟨yv,hyv⟩:∃v,ys[i]? = some v:=⟨ys[i]'(by omega),gG (by omega)⟩
  obtain⟨x',ex,rx⟩:=r1.get hxv
  obtain⟨y',ey,ry⟩:=r2.get hyv
  have exx:x'=x:=by
   have:it1.toArray[i]? = some x:=px
   rw[List.getElem?_toArray,ex]at this
   exact yax this
  have eyy:y'=y:=by
   have:it2.toArray[i]? = some y:=py
   rw[List.getElem?_toArray,ey]at this
   exact yax this
  subst exx eyy
  have lz:z<s.heap.objs.size:=yac h1
  have keep:∀b u,b ∉ [z,TI,TO,i1,i2]->s.heap.get? b=some u->h2'.get? b=some u:=λb u hb e=>by
   simp only[yau,nN_,or_false,not_or]at hb
   exact sb.extBut _ _ hb.1 (kp b u hb.1 hb.2.2.1 hb.2.2.2.1 hb.2.2.2.2 e)
  have I2:Inv X pins σ (upd H s.heap.objs.size (.tup [xv,yv])) {s with heap:=h2',toks:=tk} :=
   qbw I keep hf (yak _) ⟨by show 2<=yaq;decide,[x',y'],.cons rx (.cons ry .nil),⟨_,sb.extBut _ _ (ya5 lz) new,rfl,_,rfl⟩⟩
  refine⟨.ref s.heap.objs.size,upd H s.heap.objs.size (.tup [xv,yv]),I2,rfl,⟨s.heap.objs.size,xv,yv,I.hok.fresh (yak _),hxv,hyv,rfl,rfl⟩,?_,λb hb=>?_⟩
  ·exact⟨zz2,sb.extBut _ _ ap.zTI.symm (kp _ _ ap.zTI.symm ap.IO ap.Ii1 ap.Ii2 h2),⟨_,_,sb.extBut _ _ ap.zTO.symm zO⟩,u1.1.at λo e=>sb.extBut _ _ ap.zi1.symm e,u2.1.at λo e=>sb.extBut _ _ ap.zi2.symm e⟩
  ·have hb1:b≠s.heap.objs.size:=by
    simp only[yau,nN_,or_false]at hb
    obtain⟨o4,g4,_⟩:=h4
    obtain⟨o5,g5,_⟩:=h5
    rcases hb with rfl|rfl|rfl|rfl|rfl
    ·exact yat (yac h1)
    ·exact yat (yac h2)
    ·exact yat (yac h3)
    ·exact yat (yac g4)
    ·exact yat (yac g5)
   rw[qu hb1]
   exact(hf b hb).1
 done:=by
  intro X hP hw hK hc i pins s σ H E I hf st hg
  subst hP hw hK
  obtain⟨hlt,hx,hy⟩:=hg
  obtain⟨h1,h2,⟨p,q,h3⟩,h4,h5⟩:=st
  obtain⟨it1,r1,p1,z1⟩:=I.tuple hx
  obtain⟨it2,r2,p2,z2⟩:=I.tuple hy
  have hT:s.TypeIs (.ref z) "zip":=⟨_,h1,rfl⟩
  have hh:X.A.in1.handled=none:=I.ok.hd hc
  unfold ybY
  refine yab (yc4 (wpAny_callSpecial?_slot (name:=yaT "__next__") hT ybh (ybC ybh hT ycu
   (qb3 hh (jo hh i1 a1 n1 it1.toArray) (jo hh i2 a2 n2 it2.toArray) ap h1 h2 h3 ⟨h4,p1⟩ ⟨h5,p2⟩ (by rw[sT_,sT_,<-r1.length,<-r2.length];exact hlt) λh' tk e kp he=>?_) (ycj _))))
  obtain⟨o,ho,hcl⟩:=he
  refine yab (ycv (T:="StopIteration") (b:=true) ⟨o,ho,hcl⟩ yd4 (yal ⟨rfl,qbx I (λb u hb e=>?_) hf⟩))
  simp only[yau,nN_,or_false,not_or]at hb
  exact kp b u hb.1 hb.2.2.1 hb.2.2.2.1 hb.2.2.2.2 e
 self:=λA i s Q E st h=>ydu st.1 h
section
variable{X:Cx}{c:Fc}{a b e:Expr}{pos:Pos}{es:List Expr}{kk:Nat}{tp:Pos}
theorem qgZ (n l1 l2:Nat) (h1:l1<n) (h2:l2<n):ZAp (n+4) (n+2) (n+3) n (n+1) [n,l1] [n+1,l2]:=by
 refine⟨?_,?_,?_,?_,?_,?_,?_,?_,?_,?_,?_,?_,?_,?_,?_,?_⟩<;>simp only[yau,nN_,or_false,not_or,ne_eq]<;>(unfold Addr at *)<;>omega
def qmm(K:Fr0)(ta:TA):TI:=λσ H R=>ta σ H λvs H1=>∃a1 a2 xs ys,vs=[.ref a1,.ref a2]/\SqT K H1 a1 xs/\SqT K H1 a2 ys/\R (Itz K a1 a2 xs ys) H1
theorem qi4 {ta:TA} {p:Pos} (hg:Gl X "zip") (hm:X.mg "zip"=none) (ha:PA X [a,b] ta) (hs:yag [a,b] X.env=[(false,eval a X.env),(false,eval b X.env)]:=by rfl) (hs2:yag [b] X.env=[(false,eval b X.env)]:=by rfl) :
  PI X (.Tuple es kk tp) (.Call (.Name "zip" p) [a,b] [] pos) (qmm X.K ta):=by
 intro pins s σ H R I h
 refine Call_ (vb I hg hm PyProof.Rows.boot_zip (yaS (thn (ha pos pins s σ H _ I h) λus s1 ⟨vs,H1,I1,r1,q1⟩=>?_) (by rw[hs,hs2]) (by rw[hs2];rfl)))
 obtain⟨a1,a2,xs,ys,e1,hx,hy,q⟩:=q1
 subst e1
 obtain⟨u1,u2,rfl,ru1,ru2⟩:=qU.two r1
 cases (show u1=yae a1 from ru1)
 cases (show u2=yae a2 from ru2)
 obtain⟨it1,v1,p1,z1⟩:=I1.tuple hx
 obtain⟨it2,v2,p2,z2⟩:=I1.tuple hy
 refine qeX (show s1.heap.IsTuple a1 it1.toArray from p1) (show s1.heap.IsTuple a2 it2.toArray from p2) λh' zz zI zO g1 g2 kp=>?_
 refine ydu zz ?_
 have la1:a1<s1.heap.objs.size:=by obtain⟨o,e,_⟩:=p1;exact yac e
 have la2:a2<s1.heap.objs.size:=by obtain⟨o,e,_⟩:=p2;exact yac e
 have ap:ZAp (s1.heap.objs.size+4) (s1.heap.objs.size+2) (s1.heap.objs.size+3) s1.heap.objs.size (s1.heap.objs.size+1) [s1.heap.objs.size,a1] [s1.heap.objs.size+1,a2]:=by
  exact qgZ _ _ _ la1 la2
 refine⟨s1.heap.objs.size+4,[s1.heap.objs.size+4,s1.heap.objs.size+2,s1.heap.objs.size+3,s1.heap.objs.size,s1.heap.objs.size+1],_,_,H1,rfl,I1.kept (t':=s1.toks) kp,qeY (xs:=xs) (ys:=ys) ap (yat la1) (yat (ydf la2)),⟨zz,zI,⟨_,_,zO⟩,g1,g2⟩,λb hb=>?_,q⟩
 simp only[yau,nN_,or_false]at hb
 have hb2:s1.heap.objs.size<=b:=by
  rcases hb with e|e|e|e|e<;>rw[e]
  ·exact ybD _ _
  ·exact ybD _ _
  ·exact ybD _ _
  ·exact yak _
  ·exact ybD _ _
 exact I1.fpOk hb2 (I1.hok.fresh hb2)
def vt:List D->List D->List D
 |x::xs,y::ys => .tup [x,y]::vt xs ys
 |_,_=>[]
theorem qb4:∀{xs ys:List D}{i:Nat}{d:D},(vt xs ys)[i]? = some d->∃x y,xs[i]? = some x/\ys[i]? = some y/\d=.tup [x,y]
 | [],_,_,_,h=>by simp[vt]at h
 |_::_,[],_,_,h=>by simp[vt]at h
 |x::xs,y::ys,0,d,h=>by
  have:D.tup [x,y]=d:=by simpa [vt] using h
  exact⟨x,y,rfl,rfl,this.symm⟩
 |x::xs,y::ys,i+1,d,h=>by
  obtain⟨u,v,h1,h2,h3⟩:=qb4 (xs:=xs) (ys:=ys) (i:=i) (d:=d) (by simpa [vt] using h)
  exact⟨u,v,by simpa using h1,by simpa using h2,h3⟩
theorem qab:∀(xs ys:List D),(vt xs ys).length=min xs.length ys.length
 | [],ys=>by simp[vt]
 |_::_,[]=>by simp[vt]
 |x::xs,y::ys=>by simp[vt,qab xs ys]
theorem qi5 {K:Fr0} {A:Addr->Prop} {H:Hp} {ds es:List D} {xs ys:List V} {a1 a2:Addr} (t1:ut K H a1 xs) (t2:ut K H a2 ys) (i1:IsL K A H ds xs) (i2:IsL K A H es ys):qds K A H (vt ds es) (Itz K a1 a2 xs ys) where
 go:=λH' i d ex hd=>by
  have hl:i<(vt ds es).length:=(gI_.mp hd).1
  rw[qab,<-i1.length,<-i2.length]at hl
  exact⟨hl,(t1.elim (λh => .inl (ex.tup _ _ h)) .inr:ut K H' a1 xs).sq,(t2.elim (λh => .inl (ex.tup _ _ h)) .inr:ut K H' a2 ys).sq⟩
 yl:=λH' i d x H'' ex hd y=>by
  obtain⟨p,u,v,hp,hu,hv,rfl,rfl⟩:=y
  obtain⟨dx,dy,h1,h2,rfl⟩:=qb4 hd
  obtain⟨u',g1,g2⟩:=i1.get h1
  obtain⟨v',g3,g4⟩:=i2.get h2
  rw[hu]at g1
  rw[hv]at g3
  cases g1
  cases g3
  have sm:=qv hp (.tup [u,v])
  exact⟨sm,p,[u,v],rfl,.inl qt,u,[v],rfl,Is.ext (Ext.of_same sm) (λ_ h _=>h) (Is.ext ex (λ_ h _=>h) g2),v,[],rfl,Is.ext (Ext.of_same sm) (λ_ h _=>h) (Is.ext ex (λ_ h _=>h) g4),rfl⟩
 stop:=λH' ex=>⟨by rw[qab,i1.length,i2.length],(t1.elim (λh => .inl (ex.tup _ _ h)) .inr:ut K H' a1 xs).sq,(t2.elim (λh => .inl (ex.tup _ _ h)) .inr:ut K H' a2 ys).sq⟩
def qi6:List D->Option (List D)
 | [.tup xs,.tup ys]=>some (vt xs ys)
 |_=>none
def qeZ(f:M (List D)):M (List D):=bnd f λds=>lift (qi6 ds)
theorem qdB {f:M (List D)} {p:Pos} (hg:Gl X "zip") (hm:X.mg "zip"=none) (ha:DA X c [a,b] f) (hs:yag [a,b] X.env=[(false,eval a X.env),(false,eval b X.env)]:=by rfl) (hs2:yag [b] X.env=[(false,eval b X.env)]:=by rfl) :
  DI X c (.Tuple es kk tp) (.Call (.Name "zip" p) [a,b] [] pos) (qeZ f):=by
 obtain⟨t,pa,w⟩:=ha
 refine⟨_,qi4 hg hm pa hs hs2,λZ σ H Q r h=>w Z σ H _ r (WpL.bndI h λds Z1 vs H1 r1 i1 g1 h1=>?_)⟩
 obtain⟨es',e,h2⟩:=uh h1
 unfold qi6 at e
 split at e
 ·obtain⟨v,u,rfl,j1,j2⟩:=IsL.inv2 i1
  cases e
  obtain⟨a1,xs,rfl,t1,il1⟩:=Is.tr j1
  obtain⟨a2,ys,rfl,t2,il2⟩:=Is.tr j2
  exact⟨a1,a2,xs,ys,rfl,t1.sq,t2.sq,h2 _ H1 r1 (qi5 t1 t2 il1 il2) .refl⟩
 ·cases e
end
theorem qac:fillsNumberSlot (.type "tuple") "mul"=pure false:=by
 first|kernel_rfl|(unfold fillsNumberSlot;kernel_rfl)|decide +kernel
theorem qcB:seqRepeat? (.type "tuple")=pure (some (.builtin "tuple.__mul__")):=by
 first|kernel_rfl|(unfold seqRepeat?;kernel_rfl)|decide +kernel
theorem qaS (a:Int) (t:Tok) (l:Addr) (dd:Option Addr) (items:Array Value) (n:Nat) (sl:Array (Option Value)) :
  Meets (ybH.«int.__rmul__» ⟨[.int a t,.ref l],[]⟩) (λ_ R s=>s.heap.get? l=some {cls:=.type "tuple",dict:=dd,data:=.seq items n,slots:=sl}/\R (.ok (.ret .notImplemented)) s) :=
 .of_wp λprog w A R s h=>by
  obtain⟨hp,g,d,tk,os⟩:=s
  obtain⟨hl,h⟩:=h
  wp_walk using ybN hl
  exact⟨_,rfl,h⟩
theorem qi7 (l:Addr) (dd:Option Addr) (items:Array Value) (n:Nat) (sl:Array (Option Value)) (k:Int) (t:Tok) (h0:¬items.isEmpty=true) (h1:¬(k==1)=true) (h2:¬k<=0) (h3:¬(decide (k < -(2 ^ 63))||decide (k >= 2 ^ 63))=true)
  (h4:¬(items.size:Int)*k>(2 ^ 63-1)/8) (h5:¬Builtin.Tuple.tupleTooMany ((items.size:Int)*k)=true) (h6:((yav k.toNat items).foldl (·++·) #[]).size<=yaq) :
  Meets (ybH.«tuple.__mul__» ⟨[.ref l,.int k t],[]⟩) (λ_ R s=>s.heap.get? l=some {cls:=.type "tuple",dict:=dd,data:=.seq items n,slots:=sl} /\
   R (.ok (.ret (.ref s.heap.objs.size))) {s with heap:=s.heap.push {cls:=.type "tuple",data:=.seq ((yav k.toNat items).foldl (·++·) #[])} }) :=
 .of_wp λprog w A R s h=>by
  obtain⟨hp,g,d,tk,os⟩:=s
  obtain⟨hl,h⟩:=h
  have f1:=AutoSeq1.idx_int
  have f2:=yds
  have h01:¬(items.isEmpty||k==1)=true:=by simp only[ydH,not_or];exact⟨h0,h1⟩
  have h02:¬(decide (k<=0)||items.isEmpty)=true:=by simp only[ydH,decide_eq_true_eq,not_or];exact⟨h2,h0⟩
  wp_walk using ybN hl
  rw[if_neg h3]
  wp_walk using ybN hl
  rw[if_neg h4]
  wp_walk using ybN hl
  exact⟨_,rfl,h⟩
section
variable{X:Cx}
def qi8(K:Fr0):R2:=λx y H Q=>∃a xs k,x=.ref a/\y=.int k/\SqT K H a xs/\xs≠[]/\2<=k/\xs.length*k.toNat<=yaq/\∀p,H p=none->Q (.ref p) (upd H p (.tup (yav k.toNat xs).flatten))
theorem qg0:OpR X (ya9 .Mult) (qi8 X.K):=by
 intro pins s σ H x y v u Q I rx ry h
 obtain⟨a,xs,k,rfl,rfl,hx,hne,hk,hz,q⟩:=h
 cases rx
 obtain⟨t,rfl⟩:=ry
 obtain⟨its,r,p1,_⟩:=I.tuple hx
 obtain⟨⟨cls,dd,data,sl⟩,ho,hc,n,hd⟩:=id p1
 simp only at hc hd
 subst hc hd
 have hl:=r.length
 have hnew:yef (λx1 x2=>x1++x2) #[] (yav k.toNat its.toArray)=(yav k.toNat its).flatten.toArray:=by
  have:=vC its k.toNat []
  rw[ybt]at this
  exact this
 have hlen:(yav k.toNat its).flatten.length=k.toNat*its.length:=qbn its k.toNat
 have hsl:(yaq:Nat)=16777216:=ybc
 have e0:¬its.toArray.isEmpty=true:=by
  intro e
  have:its=[]:=by simpa using e
  rw[this]at hl
  exact hne (List.length_eq_zero_iff.mp hl)
 have pos1:1<=its.length:=by
  cases its with
  |nil=>simp at e0
  |cons z zs=>simp
 have kk:((k.toNat:Nat):Int)=k:=Int.toNat_of_nonneg (by omega)
 have mm:(its.toArray.size:Int)*k=((its.length*k.toNat:Nat):Int):=by rw[sT_,Int.natCast_mul,kk]
 have zz:its.length*k.toNat<=yaq:=by rw[<-hl];exact hz
 have kle:k.toNat<=its.length*k.toNat:=Nat.le_mul_of_pos_left _ pos1
 have T1:s.TypeIs (.ref a) "tuple":=⟨_,ho,rfl⟩
 refine ydm (T:="tuple") (U:="int") (by decide) T1 (λs'=>ydl s' k t) qac F.fills_int_mul ycB qcB F.slot_int_index.lookup
  (yby ycB (ydl s k t) F.entry_int_rmul (yeQ _ _) (qaS k t a dd its.toArray n sl)
   ⟨ho,rfl,T1,yby F.slot_tuple_mul T1 F.entry_tuple_mul (F.args_tuple_mul_2 _ _) (qi7 a dd its.toArray n sl k t e0 (by simp;omega) (by omega) (by simp;omega) (by rw[mm];omega) ?_ (by rw[hnew,sT_,hlen,yeB];exact zz)) ⟨ho,?_⟩⟩)
 ·rw[mm]
  show ¬decide (((its.length*k.toNat:Nat):Int)>(yaq:Int))=true
  rw[decide_eq_true_eq]
  omega
 ·rw[hnew]
  refine⟨.ref s.heap.objs.size,_,I.laid (t':=s.toks) (o:=.tup (yav k.toNat xs).flatten) (λb ob q=>Heap.get?_push_of_some _ q) (yak _) ?_,rfl,q _ (I.hok.fresh (yak _))⟩
  exact⟨by rw[qbn,yeB];exact hz,_,r.rep k.toNat,yer _ _⟩
def qi9(K:Fr0):R2:=λx y H Q=>(rI qir (λi j => .int (i*j))) x y H Q\/(qi8 K x y H Q\/qlu x y H Q)
theorem yG:OpR X (ya9 .Mult) (qi9 X.K):=OpR.or qit (OpR.or qg0 qiJ)
end
def vS:D->D->Option D
 |.int i,.int j=>if qbr i j then some (.int (i*j))else none
 |.tup ds,.int k=>if(!ds.isEmpty&&decide (2<=k))&&qG (ds.length*k.toNat)then some (.tup (yav k.toNat ds).flatten)else none
 |.lst ds,.int k=>if(decide (-(2 ^ 62)<=k)&&decide (k<2 ^ 62))&&qG (ds.length*k.toNat)then some (.lst (yav k.toNat ds).flatten)else none
 |_,_=>none
theorem IsL.rep {K:Fr0} {A:Addr->Prop} {H:Hp} {ds:List D} {xs:List V} (h:IsL K A H ds xs):∀k:Nat,IsL K A H (yav k ds).flatten (yav k xs).flatten
 |0=>by simp[IsL]
 |k+1=>by
  rw[rS_,rS_,ybv,ybv]
  exact IsL.append h (IsL.rep h k)
theorem jJ {K:Fr0}:OpS K vS (qi9 K):=by
 intro A H x y d v u Q hn ix iy e k
 cases x<;>cases y<;>simp only[vS]at e<;>try (cases e;done)
 ·rename_i i j
  obtain⟨e1,e2⟩:=zH e
  subst e2
  cases ix;cases iy
  exact .inl ⟨i,j,rfl,rfl,qeF e1,k _ H (zK.refl H) rfl⟩
 ·rename_i ds j
  obtain⟨a,xs,rfl,ta,il⟩:=ix
  cases iy
  obtain⟨e1,e2⟩:=zH e
  subst e2
  rw[yao,yao]at e1
  obtain⟨⟨e3,e4⟩,e5⟩:=e1
  refine .inr (.inl ⟨a,xs,j,rfl,rfl,ta.sq,λz=>?_,of_decide_eq_true e4,by rw[il.length];exact of_decide_eq_true e5,λp hp=>k _ _ (qv hp _) ⟨p,_,rfl,.inl qt,IsL.ext (Ext.of_same (qv hp _)) (λ_ h _=>h) (IsL.rep il _)⟩⟩)
  have:=il.length
  rw[z]at this
  have:ds=[]:=List.length_eq_zero_iff.mp this.symm
  rw[this]at e3
  simp at e3
 ·rename_i ds j
  obtain⟨a,xs,rfl,_,ta,il⟩:=ix
  cases iy
  obtain⟨e1,e2⟩:=zH e
  subst e2
  rw[yao,yao]at e1
  obtain⟨⟨e3,e4⟩,e5⟩:=e1
  have e3':=of_decide_eq_true e3
  have e4':=of_decide_eq_true e4
  refine .inr (.inr ⟨a,j,xs,rfl,rfl,ta,by omega,by omega,by rw[il.length];exact of_decide_eq_true e5,λp hp=>k _ _ (qv hp _) ⟨p,_,rfl,hn p hp,qt,IsL.ext (Ext.of_same (qv hp _)) (λ_ h _=>h) (IsL.rep il _)⟩⟩)
def qmP:D->Option D
 |.int i=>some (.int (-i))
 |_=>none
def d1(F:D->Option D)(f:M D):M D:=bnd f λx=>lift (F x)
section
variable{X:Cx}{c:Fc}{a b e:Expr}{pos:Pos}
def qg1 (i j:Nat) (f:M (List D)):MS:=sbnd f λds Z=>match ds with
 | [d,e] => .ok (.nx ((Z.set i (some d)).set j (some e)))
 |_ => .bad
theorem qfZ {i j:Nat} {x y:Str} {f:M (List D)} {px py pt:Pos} {kt k2 pt2} (hN:X.N.Nodup) (ha:DA X c [a,b] f) (hw:ycp [.Tuple [.Name x px,.Name y py] kt pt] (.Tuple [a,b] k2 pt2) X.env=pure (some [x,y])) (hc:X.calm=true:=by rfl) (hi:X.N[i]? = some x:=by rfl) (hj:X.N[j]? = some y:=by rfl) (hij:i≠j:=by decide)
  (hx:X.env.scope.names.lookup x=some .local:=by rfl) (hy:X.env.scope.names.lookup y=some .local:=by rfl) (ho:i ∉ c.O:=by exact of_decide_eq_false rfl) (hp:j ∉ c.O:=by exact of_decide_eq_false rfl)
  (hs:yco [.Tuple [.Name x px,.Name y py] kt pt] (.Tuple [a,b] k2 pt2) pos.line X.env=pure false:=by rfl) :
  DS X c (.Assign [.Tuple [.Name x px,.Name y py] kt pt] (.Tuple [a,b] k2 pt2) pos) (qg1 i j f):=by
 obtain⟨t,p,w⟩:=ha
 refine⟨_,qin hc hN hi hj hij hx hy p hw hs,λZ σ H D r h=>w Z σ H _ r (WpL.sbnd h λds Z1 vs H1 r1 i1 g1 h1=>?_)⟩
 match ds,i1,h1 with
 | [],_,h1=>exact h1.elim
 | [_],_,h1=>exact h1.elim
 | [d,e],i1,h1=>
  obtain⟨v,u,rfl,j1,j2⟩:=IsL.inv2 i1
  refine⟨v,u,rfl,h1 _ H1 ((r1.set ho j1).set hp ?_) ((GrS.set ho).trans (GrS.set hp))⟩
  exact(GrS.set (H:=H1) ho).is j2
 |_::_::_::_,_,h1=>exact h1.elim
mutual
def immF:D->Bool
 |.tup ds=>immFs ds
 |.lst _=>false
 |.dic _=>false
 |_=>true
def immFs:List D->Bool
 | []=>true
 |d::ds=>immF d&&immFs ds
end
mutual
theorem Is.immF {K:Fr0} {A B:Addr->Prop} {H:Hp}:∀{d:D}{v:V},immF d=true->Is K A H d v->Is K B H d v
 |.non,_,_,h=>h
 |.bl _,_,_,h=>h
 |.int _,_,_,h=>h
 |.str _,_,_,h=>h
 |.tup ds,_,i,⟨a,xs,hv,h,r⟩=>⟨a,xs,hv,h,IsL.immF (by simpa [Sk.immF] using i) r⟩
 |.lst _,_,i,_=>by simp[Sk.immF]at i
 |.dic _,_,i,_=>by simp[Sk.immF]at i
 |.fz _,_,_,h=>h
 |.exc _,_,_,h=>h
theorem IsL.immF {K:Fr0} {A B:Addr->Prop} {H:Hp}:∀{ds:List D}{xs:List V},immFs ds=true->IsL K A H ds xs->IsL K B H ds xs
 | [],_,_,h=>h
 |d::ds,_,i,⟨x,ys,hx,h,r⟩=>by
  have i':Sk.immF d=true/\immFs ds=true:=by simpa [immFs] using i
  exact⟨x,ys,hx,Is.immF i'.1 h,IsL.immF i'.2 r⟩
end
def qaT (F:List D->R D) (g:M (List D)):M (List D):=bnd g λds Z=>if immFs ds then match F ds with
 |.ok (.lst bs)=>if immL bs then .ok (bs,Z)else .bad
 |_ => .bad else .bad
theorem qg2 {k:Nat} {f:Addr} {fd:yaO} {ps:List Str} {F:List D->R D} {x:Str} {p:Pos} {es:List Expr} {g:M (List D)} (G:wD X.prog X.w X.K X.mg X.base CX0 k f fd ps (spD X.K F)) (hr:uE k X.A) (hg:Gl X x) (hm:X.mg x=some (.ref f)) (hk:yai X.K (.ref f)=true) (hb:vB X.K fd ps [])
  (ha:DA X c (e::es) g) (hd:(x==("__debug__":Str))=false:=by decide) (he:yag (e::es) X.env=(false,eval e X.env)::yag es X.env:=by rfl) (hpl:(yaE pos (yag es X.env)).any (·.1)=false:=by rfl):DN X c (.Call (.Name x p) (e::es) [] pos) (qaT F g):=by
 obtain⟨t,pa,w⟩:=ha
 refine⟨_,qbj G hr hg hm hk hb .nil qgE pa hd he hpl,λZ σ H Q r h=>w Z σ H _ r (WpL.bndN h λds Z1 vs H1 r1 i1 g1 h1=>?_)⟩
 rw[ybq]
 by_cases him:immFs ds=true
 ·rw [if_pos him]at h1
  refine⟨ds,λ_=>False,IsL.immF him i1,r1.tb,?_⟩
  cases ef:F ds with
  |bad=>simp only[ef]at h1;exact h1.elim
  |exc z Z'=>simp only[ef]at h1;exact h1.elim
  | ok d=>
   cases d with
   | lst bs=>
    simp only[ef]at h1
    by_cases hb2:immL bs=true
    ·rw[if_pos hb2]at h1
     intro v H' sm i
     obtain⟨a,xs,rfl,hA,ha2,il⟩:=i
     have hn:H1 a=none:=hA.elim ya6 id
     exact h1 a xs H' hn (r1.same sm) (r1.apart_same hn sm) ha2 trivial (IsL.imm hb2 il) (.of_same sm)
    ·rw[if_neg hb2]at h1;exact h1.elim
   |_=>simp only[ef]at h1;exact h1.elim
 ·rw[if_neg him]at h1;exact h1.elim
end
structure qg3 (outer:Scope) (N:List Str) (scope:Scope) (N':List Str) (nt:Nat) (fr:List Nat):Prop where
 kind:scope.kind=.function
 nocell:∀y∈scope.names,y.2 ≠ .cell
 names:∀y∈scope.names,y.2=.local->scope.names.lookup y.1=some .local
 frees:∀y∈scope.names,y.2=.free->outer.names.lookup y.1=some .cell
 len:N'.length=nt+fr.length
 slots:∀p∈fr.zipIdx,N'[nt+p.2]? = N[p.1]? /\ ((N[p.1]?).bind λx=>scope.names.lookup x)=some .free
theorem qg3.ok {X:Cx} {outer:Scope} {N:List Str} {scope:Scope} {N':List Str} {nt:Nat} {fr:List Nat} (S:qg3 outer N scope N' nt fr) (h1:X.env.scope=outer) (h2:X.N=N):yX X scope N' nt fr:=by
 subst h1 h2
 refine⟨S.kind,S.nocell,S.names,S.frees,S.len,λi j h=>?_⟩
 have hm:(j,i)∈fr.zipIdx:=by
  rw[yd5]
  refine⟨i,?_⟩
  rw[List.getElem?_zipIdx,h]
  simp
 obtain⟨h3,h4⟩:=S.slots (j,i) hm
 cases e:X.N[j]? with
 |none=>
  have h4':((X.N[j]?).bind λx=>scope.names.lookup x)=some .free:=h4
  rw[e]at h4';cases h4'
 | some x=>
  have h4':((X.N[j]?).bind λx=>scope.names.lookup x)=some .free:=h4
  rw[e]at h4'
  exact ⟨x,by
    have h3':N'[nt+i]? = X.N[j]? := h3
    rw[h3',e],rfl,h4'⟩
structure qJ (P:yaj) (w:World) (K:yah) (mg:Str->Option Value) (base:Heap) (k:Nat) (x:Str) (ps:List Str) (sp:Sp):Prop where
 ex:∃f fd,wD P w K mg base CX0 k f fd ps sp/\mg x=some (.ref f)/\yai K (.ref f)=true/\vB K fd ps []
theorem vT:yaA "len"=some (.builtin "len"):=by decide +kernel
theorem qja:yaA "abs"=some (.builtin "abs"):=by decide +kernel
theorem qjb:yaA "max"=some (.builtin "max"):=by decide +kernel
theorem qf0:yaA "min"=some (.builtin "min"):=by decide +kernel
theorem qdC:yaA "all"=some (.builtin "all"):=by decide +kernel
theorem qjc:yaA "any"=some (.builtin "any"):=by decide +kernel
theorem qjd:yaA "sum"=some (.builtin "sum"):=by decide +kernel
theorem qdD:yaA "divmod"=some (.builtin "divmod"):=by decide +kernel
theorem qdE:yaA "int"=some (.type "int"):=by decide +kernel
theorem qg4:yaA "bool"=some (.type "bool"):=by decide +kernel
theorem qje:yaA "str"=some (.type "str"):=by decide +kernel
theorem jp:yaA "tuple"=some (.type "tuple"):=by decide +kernel
theorem zF:yaA "isinstance"=some (.builtin "isinstance"):=by decide +kernel
def zD:MS:=λZ => .ok (.nx Z)
def ve:MS:=λ_ => .bad
theorem qx{X:Cx}{c:Fc}:DSs X c [] zD:=qgG
theorem y0{X:Cx}{c:Fc}{st:Stmt}:DS X c st ve:=qeE
theorem zk{X:Cx}:IxR X (λx y H Q=>qiB X.K x y H Q\/qiC X.K x y H Q):=qdd.or qiD
theorem qg5 {c:Fc} {nt:Nat} {fr:List Nat} {i j:Nat} (h1:j∈c.O) (h2:nt<=i) (h3:fr[i-nt]? = some j) (h4:∀p∈fr.zipIdx,nt+p.2≠i->p.1 ∉ c.O):qh0 c nt fr (some (i,j)) :=
 ⟨h1,h2,h3,λk j' h hk=>h4 (j',k) (by rw[yd5];exact⟨k,by rw[List.getElem?_zipIdx,h];simp⟩) hk⟩
def eqB (x y:D):Option D:=match sc2 x y with
 |some b=>some (.bl b)
 |none=>eqA x y
def neB (x y:D):Option D:=match sc2 x y with
 |some b=>some (.bl (!b))
 |none=>neA x y
theorem y7{X:Cx}{k:Nat}(hr:uE k X.A):OpR X (yaJ .Eq) (λx y H Q=>rEq x y H Q\/qfV X.K false x y H Q):=OpR.or qkE (qi2 hr)
theorem yx{X:Cx}{k:Nat}(hr:uE k X.A):OpR X (yaJ .NotEq) (λx y H Q=>rNe x y H Q\/qfV X.K true x y H Q):=OpR.or qkF (qfW hr)
theorem j9 {K:Fr0}:OpS K eqB (λx y H Q=>rEq x y H Q\/qfV K false x y H Q):=by
 intro A H x y d v u Q hn ix iy e k
 unfold eqB at e
 cases e1:sc2 x y with
 |some b=>simp only[e1]at e;exact .inl (qgI A H x y d v u Q hn ix iy (by unfold eqS;rw[e1];exact e) k)
 |none=>simp only[e1]at e;exact .inr (qgV A H x y d v u Q hn ix iy e k)
theorem z7 {K:Fr0}:OpS K neB (λx y H Q=>rNe x y H Q\/qfV K true x y H Q):=by
 intro A H x y d v u Q hn ix iy e k
 unfold neB at e
 cases e1:sc2 x y with
 |some b=>simp only[e1]at e;exact .inl (qgJ A H x y d v u Q hn ix iy (by unfold neS;rw[e1];exact e) k)
 |none=>simp only[e1]at e;exact .inr (qgW A H x y d v u Q hn ix iy e k)
end L2.Sk
namespace L2.Sk
section
variable{α β:Type}{Z:Env}{f g k:M D}{t u:M Bool}{l m:M (List D)}{p q r:MS}
theorem qdF(a:α):ret a Z=.ok (a,Z):=rfl
theorem qdG(o:Option α):lift o Z=match o with|some a => .ok (a,Z)|none => .bad:=by cases o<;>rfl
theorem qkS{f:M α}{k:α->M β}:bnd f k Z=match f Z with|.ok (a,Z')=>k a Z'|.exc x Z' => .exc x Z'|.bad => .bad:=rfl
theorem qlx(i:Nat):dv i Z=match Z[i]? with|some (some d) => .ok (d,Z)|_ => .bad:=rfl
theorem ya:qa f l Z=match f Z with|.ok (d,Z1)=>(match l Z1 with|.ok (ds,Z2) => .ok (d::ds,Z2)|.exc x Z' => .exc x Z'|.bad => .bad)|.exc x Z' => .exc x Z'|.bad => .bad:=by
 simp only[qa,bnd,sbnd]
 cases f Z with
 |ok z=>
  obtain⟨z1,Z1⟩:=z
  simp only[ret]
  cases l Z1 with
  |ok z=>obtain⟨z2,Z2⟩:=z;rfl
  |exc x Z'=>rfl
  |bad=>rfl
 |exc x Z'=>rfl
 |bad=>rfl
theorem qf1:qfL l Z=match l Z with|.ok (ds,Z1)=>(if qG ds.length then .ok (.tup ds,Z1)else .bad)|.exc x Z' => .exc x Z'|.bad => .bad:=by
 simp only[qfL,bnd,sbnd]
 cases l Z with
 |ok z=>
  obtain⟨z1,Z1⟩:=z
  cases h:qG z1.length<;>simp[h,lift,ret]
 |exc x Z'=>rfl
 |bad=>rfl
theorem qjf:vG l Z=match l Z with|.ok (ds,Z1)=>(if qG ds.length then .ok (.lst ds,Z1)else .bad)|.exc x Z' => .exc x Z'|.bad => .bad:=by
 simp only[vG,bnd,sbnd]
 cases l Z with
 |ok z=>
  obtain⟨z1,Z1⟩:=z
  cases h:qG z1.length<;>simp[h,lift,ret]
 |exc x Z'=>rfl
 |bad=>rfl
theorem qjg:qh1 l Z=match l Z with|.ok (ds,Z1)=>(if immL ds&&qG ds.length then .ok (ds,Z1)else .bad)|.exc x Z' => .exc x Z'|.bad => .bad:=by
 simp only[qh1,bnd,sbnd]
 cases l Z with
 |ok z=>
  obtain⟨z1,Z1⟩:=z
  cases h:(immL z1&&qG z1.length)<;>simp[h,lift,ret]
 |exc x Z'=>rfl
 |bad=>rfl
theorem qly (F:D->D->Option D):d2 F f g Z=match f Z with|.ok (x,Z1)=>(match g Z1 with|.ok (y,Z2)=>(match F x y with|some d => .ok (d,Z2)|none => .bad)|.exc x Z' => .exc x Z'|.bad => .bad)|.exc x Z' => .exc x Z'|.bad => .bad:=by
 simp only[d2,bnd,sbnd]
 cases f Z with
 |ok z=>
  obtain⟨z1,Z1⟩:=z
  dsimp only <;>
  cases g Z1 with
  |ok z=>obtain⟨z2,Z2⟩:=z;(dsimp only;cases F z1 z2<;>rfl)
  |exc x Z'=>rfl
  |bad=>rfl
 |exc x Z'=>rfl
 |bad=>rfl
theorem qmn (F:D->Option D):d1 F f Z=match f Z with|.ok (x,Z1)=>(match F x with|some d => .ok (d,Z1)|none => .bad)|.exc x Z' => .exc x Z'|.bad => .bad:=by
 simp only[d1,bnd,sbnd]
 cases f Z with
 |ok z=>
  obtain⟨z1,Z1⟩:=z
  (dsimp only;cases F z1<;>rfl)
 |exc x Z'=>rfl
 |bad=>rfl
theorem vU (F:List D->Option D):qV F l Z=match l Z with|.ok (xs,Z1)=>(match F xs with|some d => .ok (d,Z1)|none => .bad)|.exc x Z' => .exc x Z'|.bad => .bad:=by
 simp only[qV,bnd,sbnd]
 cases l Z with
 |ok z=>
  obtain⟨z1,Z1⟩:=z
  (dsimp only;cases F z1<;>rfl)
 |exc x Z'=>rfl
 |bad=>rfl
theorem vv (F:List D->R D):qd F l Z=match l Z with|.ok (xs,Z1)=>(match F xs with|.ok d => .ok (d,Z1)|_ => .bad)|.exc x Z' => .exc x Z'|.bad => .bad:=by
 simp only[qd,bnd,sbnd]
 cases l Z with
 |ok z=>
  obtain⟨z1,Z1⟩:=z
  cases F z1<;>rfl
 |exc x Z'=>rfl
 |bad=>rfl
theorem qjh (T:String):qeL T f Z=match f Z with|.ok (d,Z1) => .ok (.bl (qbs (tyD d) T),Z1)|.exc x Z' => .exc x Z'|.bad => .bad:=by
 simp only[qeL,bnd,sbnd]
 cases f Z with
 |ok z=>
  obtain⟨z1,Z1⟩:=z
  rfl
 |exc x Z'=>rfl
 |bad=>rfl
theorem qji:tst f Z=match f Z with|.ok (d,Z1)=>(match asB d with|some b => .ok (b,Z1)|none => .bad)|.exc x Z' => .exc x Z'|.bad => .bad:=by
 simp only[tst,bnd,sbnd]
 cases f Z with
 |ok z=>
  obtain⟨z1,Z1⟩:=z
  (dsimp only;cases asB z1<;>rfl)
 |exc x Z'=>rfl
 |bad=>rfl
theorem yy(b:Bool):asB (.bl b)=some b:=rfl
theorem qf2:qbg t Z=match t Z with|.ok (b,Z1) => .ok (!b,Z1)|.exc x Z' => .exc x Z'|.bad => .bad:=by
 simp only[qbg,bnd,sbnd]
 cases t Z with
 |ok z=>
  obtain⟨z1,Z1⟩:=z
  rfl
 |exc x Z'=>rfl
 |bad=>rfl
theorem qdH:qbo t u Z=match t Z with|.ok (b,Z1)=>(bif b then u Z1 else .ok (false,Z1))|.exc x Z' => .exc x Z'|.bad => .bad:=by
 simp only[qbo,bnd,sbnd]
 cases t Z with
 |ok z=>
  obtain⟨z1,Z1⟩:=z
  cases z1<;>rfl
 |exc x Z'=>rfl
 |bad=>rfl
theorem qjj:tor t u Z=match t Z with|.ok (b,Z1)=>(bif b then .ok (true,Z1)else u Z1)|.exc x Z' => .exc x Z'|.bad => .bad:=by
 simp only[tor,bnd,sbnd]
 cases t Z with
 |ok z=>
  obtain⟨z1,Z1⟩:=z
  cases z1<;>rfl
 |exc x Z'=>rfl
 |bad=>rfl
theorem qdI:qbq f g Z=match f Z with|.ok (d,Z1)=>(match asB d with|some b=>(bif b then g Z1 else .ok (.bl false,Z1))|none => .bad)|.exc x Z' => .exc x Z'|.bad => .bad:=by
 simp only[qbq,bnd,sbnd]
 cases f Z with
 |ok z=>
  obtain⟨z1,Z1⟩:=z
  simp only[qdG]
  cases asB z1 with
  |none=>rfl
  |some b=>cases b<;>rfl
 |exc x Z'=>rfl
 |bad=>rfl
theorem qkT:dor f g Z=match f Z with|.ok (d,Z1)=>(match asB d with|some b=>(bif b then .ok (.bl true,Z1)else g Z1)|none => .bad)|.exc x Z' => .exc x Z'|.bad => .bad:=by
 simp only[dor,bnd,sbnd]
 cases f Z with
 |ok z=>
  obtain⟨z1,Z1⟩:=z
  simp only[qdG]
  cases asB z1 with
  |none=>rfl
  |some b=>cases b<;>rfl
 |exc x Z'=>rfl
 |bad=>rfl
theorem qjk:qkf f Z=match f Z with|.ok (d,Z1)=>(match asB d with|some b => .ok (.bl (!b),Z1)|none => .bad)|.exc x Z' => .exc x Z'|.bad => .bad:=by
 simp only[qkf,bnd,sbnd]
 cases f Z with
 |ok z=>
  obtain⟨z1,Z1⟩:=z
  simp only[qdG]
  cases asB z1 with
  |none=>rfl
  |some b=>cases b<;>rfl
 |exc x Z'=>rfl
 |bad=>rfl
theorem qdJ:dif t f g Z=match t Z with|.ok (b,Z1)=>(bif b then f Z1 else g Z1)|.exc x Z' => .exc x Z'|.bad => .bad:=by
 simp only[dif,bnd,sbnd]
 cases t Z with
 |ok z=>
  obtain⟨z1,Z1⟩:=z
  cases z1<;>rfl
 |exc x Z'=>rfl
 |bad=>rfl
theorem qg6:sif t p q Z=match t Z with|.ok (b,Z1)=>(bif b then p Z1 else q Z1)|.exc x Z' => .exc x Z'|.bad => .bad:=by
 simp only[sif,bnd,sbnd]
 cases t Z with
 |ok z=>
  obtain⟨z1,Z1⟩:=z
  cases z1<;>rfl
 |exc x Z'=>rfl
 |bad=>rfl
theorem qf3:qz p q Z=match p Z with|.ok (.nx Z')=>q Z'|z=>z:=by
 unfold qz
 cases p Z with
 |ok z=>cases z<;>rfl
 |exc x Z'=>rfl
 |bad=>rfl
theorem qaU:zl f Z=match f Z with|.ok (d,Z1) => .ok (.rt d Z1)|.exc x Z' => .exc x Z'|.bad => .bad:=by
 simp only[zl,bnd,sbnd]
 cases f Z with
 |ok z=>
  obtain⟨z1,Z1⟩:=z
  rfl
 |exc x Z'=>rfl
 |bad=>rfl
theorem qaV (i:Nat):zu i f Z=match f Z with|.ok (d,Z1) => .ok (.nx (Z1.set i (some d)))|.exc x Z' => .exc x Z'|.bad => .bad:=by
 simp only[zu,bnd,sbnd]
 cases f Z with
 |ok z=>
  obtain⟨z1,Z1⟩:=z
  rfl
 |exc x Z'=>rfl
 |bad=>rfl
theorem qg7 (i:Nat):vQ i l Z=match l Z with|.ok (ds,Z1) => .ok (.nx (Z1.set i (some (.lst ds))))|.exc x Z' => .exc x Z'|.bad => .bad:=by
 simp only[vQ,bnd,sbnd]
 cases l Z with
 |ok z=>
  obtain⟨z1,Z1⟩:=z
  rfl
 |exc x Z'=>rfl
 |bad=>rfl
theorem qdK:yu f Z=match f Z with|.ok (_,Z1) => .ok (.nx Z1)|.exc x Z' => .exc x Z'|.bad => .bad:=by
 simp only[yu,bnd,sbnd]
 cases f Z with
 |ok z=>
  obtain⟨z1,Z1⟩:=z
  rfl
 |exc x Z'=>rfl
 |bad=>rfl
theorem qjl:zD Z=.ok (.nx Z):=rfl
theorem qjm (i j:Nat):qg1 i j l Z=match l Z with|.ok ([d,e],Z1) => .ok (.nx ((Z1.set i (some d)).set j (some e)))|.ok _ => .bad|.exc x Z' => .exc x Z'|.bad => .bad:=by
 simp only[qg1,bnd,sbnd]
 cases l Z with
 |ok z=>
  obtain⟨z1,Z1⟩:=z
  match z1 with
  | []=>rfl
  | [_]=>rfl
  | [_,_]=>rfl
  |_::_::_::_=>rfl
 |exc x Z'=>rfl
 |bad=>rfl
theorem qjn (G:D->Env->Option Env):qkg f G Z=match f Z with|.ok (d,Z1)=>(match G d Z1 with|some Z2 => .ok (.nx Z2)|none => .bad)|.exc x Z' => .exc x Z'|.bad => .bad:=by
 simp only[qkg,bnd,sbnd]
 cases f Z with
 |ok z=>
  obtain⟨z1,Z1⟩:=z
  dsimp only <;>
  cases G z1 Z1<;>rfl
 |exc x Z'=>rfl
 |bad=>rfl
theorem qaW (G:D->Env->Option Env) (b:MS):qfT l G b Z=match l Z with|.ok (ds,Z1)=>yY G b ds Z1|.exc x Z' => .exc x Z'|.bad => .bad:=by
 simp only[qfT,bnd,sbnd]
 cases l Z with
 |ok z=>
  obtain⟨z1,Z1⟩:=z
  rfl
 |exc x Z'=>rfl
 |bad=>rfl
theorem qf4:wn f Z=match f Z with|.ok (d,Z1)=>(match qki d with|some ds => .ok (ds,Z1)|none => .bad)|.exc x Z' => .exc x Z'|.bad => .bad:=by
 simp only[wn,bnd,sbnd]
 cases f Z with
 |ok z=>
  obtain⟨z1,Z1⟩:=z
  (dsimp only;cases qki z1<;>rfl)
 |exc x Z'=>rfl
 |bad=>rfl
theorem qg8:uU l Z=match l Z with|.ok (d,Z1)=>(match qfS d with|some ds => .ok (ds,Z1)|none => .bad)|.exc x Z' => .exc x Z'|.bad => .bad:=by
 simp only[uU,bnd,sbnd]
 cases l Z with
 |ok z=>
  obtain⟨z1,Z1⟩:=z
  (dsimp only;cases qfS z1<;>rfl)
 |exc x Z'=>rfl
 |bad=>rfl
theorem qdL:qeZ l Z=match l Z with|.ok (d,Z1)=>(match qi6 d with|some ds => .ok (ds,Z1)|none => .bad)|.exc x Z' => .exc x Z'|.bad => .bad:=by
 simp only[qeZ,bnd,sbnd]
 cases l Z with
 |ok z=>
  obtain⟨z1,Z1⟩:=z
  (dsimp only;cases qi6 z1<;>rfl)
 |exc x Z'=>rfl
 |bad=>rfl
theorem vV {nt:Nat} {fr:List Nat} {fo:Option (Nat×Nat)} {G:D->Env->Option Env} {e:M D}:zZ nt fr fo l G t e Z=match l Z with
  |.ok (ds,Z1)=>(match zj G t e ds [] (j7 nt fr Z1) with|.ok (ys,Ze) => .ok (.lst ys,qhZ fo Ze Z1)|_ => .bad)|.exc x Z' => .exc x Z'|.bad => .bad:=by
 simp only[zZ,bnd,sbnd]
 cases l Z with
 |ok z=>
  obtain⟨z1,Z1⟩:=z
  dsimp only <;>
  cases zj G t e z1 [] (j7 nt fr Z1) with
  |ok z=>obtain⟨z2,Z2⟩:=z;rfl
  |exc x Z'=>rfl
  |bad=>rfl
 |exc x Z'=>rfl
 |bad=>rfl
theorem vW (F:List D->List D->R (D×List D)) (i:Nat):qk F i l Z=match zm i Z with
  |none => .bad
  | some _=>(match l Z with
   |.ok (ds,Z1)=>(match zm i Z1 with
    |none => .bad
    |some bs=>(match F bs ds with|.ok (d,bs') => .ok (d,Z1.set i (some (.lst bs')))|_ => .bad))
   |.exc x Z' => .exc x Z'|.bad => .bad):=by
 simp only[qk,bnd]
 cases zm i Z with
 |none=>rfl
 | some _=>
  dsimp only <;>
  cases l Z with
  | ok z=>
   obtain⟨z1,Z1⟩:=z
   dsimp only <;>
   cases zm i Z1 with
   |none=>rfl
   |some bs=>
    dsimp only <;>
    cases F bs z1 with
    |ok z=>obtain⟨z2,z3⟩:=z;rfl
    |exc x Z'=>rfl
    |bad=>rfl
  |exc x Z'=>rfl
  |bad=>rfl
theorem qg9 (F:List D->R D):qaT F l Z=match l Z with
  |.ok (ds,Z1)=>(if immFs ds then(match F ds with|.ok (.lst bs)=>(if immL bs then .ok (bs,Z1)else .bad)|_ => .bad)else .bad)|.exc x Z' => .exc x Z'|.bad => .bad:=by
 simp only[qaT,bnd,sbnd]
 cases l Z with
 | ok z=>
  obtain⟨z1,Z1⟩:=z
  dsimp only <;>
  cases immFs z1 with
  |false=>rfl
  |true=>
   simp only[if_true]
   cases F z1 with
   |ok z=>cases z<;>rfl
   |exc x Z'=>rfl
   |bad=>rfl
 |exc x Z'=>rfl
 |bad=>rfl
theorem qjo (i:Nat):qeU i f Z=match zm i Z with
  |none => .bad
  | some _=>(match f Z with
   |.ok (k,Z1)=>(match k,zm i Z1 with
    |.int n,some ds=>(match atI ds n with|some d => .ok (d,Z1)|none => .bad)
    |_,_ => .bad)
   |.exc x Z' => .exc x Z'|.bad => .bad):=by
 simp only[qeU,bnd]
 cases zm i Z with
 |none=>rfl
 | some _=>
  dsimp only <;>
  cases f Z with
  |ok z=>
   obtain⟨z1,Z1⟩:=z
   dsimp only <;>
   cases z1<;>cases zm i Z1<;>try rfl
  |exc x Z'=>rfl
  |bad=>rfl
theorem qha (i:Nat):qeS i k f Z=match f Z with
  | .ok (d,Z1)=>(match zm i Z1 with
   |none => .bad
   | some _=>(match k Z1 with
    | .ok (j,Z2)=>(match j,zm i Z2 with
     |.int n,some ds=>(match ixN ds.length n with
      |some q=>if imm d then .ok (.nx (Z2.set i (some (.lst (ds.set q d)))))else .bad
      |none => .bad)
     |_,_ => .bad)
    |.exc x Z' => .exc x Z'|.bad => .bad))
  |.exc x Z' => .exc x Z'|.bad => .bad:=by
 simp only[qeS,bnd,sbnd]
 cases f Z with
 | ok z=>
  obtain⟨z1,Z1⟩:=z
  dsimp only <;>
  cases zm i Z1 with
  |none=>rfl
  | some _=>
   dsimp only <;>
   cases k Z1 with
   |ok z=>
    obtain⟨z2,Z2⟩:=z
    dsimp only <;>
    cases z2<;>cases zm i Z2<;>try rfl
   |exc x Z'=>rfl
   |bad=>rfl
 |exc x Z'=>rfl
 |bad=>rfl
theorem qhb (i:Nat):qaQ i Z=match zm i Z with|some ds => .ok (.int ds.length,Z)|none => .bad:=by
 unfold qaQ
 cases zm i Z<;>rfl
theorem qhc (i:Nat):qcA i Z=match zm i Z with|some ds => .ok (.tup ds,Z)|none => .bad:=by
 unfold qcA
 cases zm i Z<;>rfl
theorem qjp (i:Nat):qfX i f Z=match zm i Z with
  |none => .bad
  | some _=>(match f Z with
   |.ok (y,Z1)=>(match zm i Z1 with
    |none => .bad
    |some ds=>(match neA (.lst ds) y with|some d => .ok (d,Z1)|none => .bad))
   |.exc x Z' => .exc x Z'|.bad => .bad):=by
 simp only[qfX,bnd]
 cases zm i Z with
 |none=>rfl
 | some _=>
  dsimp only <;>
  cases f Z with
  |ok z=>
   obtain⟨z1,Z1⟩:=z
   dsimp only <;>
   cases zm i Z1 with
   |none=>rfl
   |some ds=>(dsimp only;cases neA (.lst ds) z1<;>rfl)
  |exc x Z'=>rfl
  |bad=>rfl
theorem qaX (i:Nat):jB i f Z=match zm i Z with
  |none => .bad
  | some _=>(match f Z with
   |.ok (d,Z1)=>(match zm i Z1 with
    |some ds=>if imm d&&qG (ds.length+1)then .ok (.non,Z1.set i (some (.lst (ds++[d]))))else .bad
    |none => .bad)
   |.exc x Z' => .exc x Z'|.bad => .bad):=by
 simp only[jB,bnd]
 cases zm i Z with
 |none=>rfl
 | some _=>
  dsimp only <;>
  cases f Z with
  |ok z=>
   obtain⟨z1,Z1⟩:=z
   dsimp only <;>
   cases zm i Z1<;>rfl
  |exc x Z'=>rfl
  |bad=>rfl
theorem qkU {g k:M (Option Int)}:dsl f g k Z=match f Z with
  | .ok (d,Z1)=>(match g Z1 with
   |.ok (lo,Z2)=>(match k Z2 with
    |.ok (hi,Z3)=>(match slD d lo hi with|some x => .ok (x,Z3)|none => .bad)
    |.exc x Z' => .exc x Z'|.bad => .bad)
   |.exc x Z' => .exc x Z'|.bad => .bad)
  |.exc x Z' => .exc x Z'|.bad => .bad:=by
 simp only[dsl,bnd,sbnd]
 cases f Z with
 | ok z=>
  obtain⟨z1,Z1⟩:=z
  dsimp only <;>
  cases g Z1 with
  |ok z=>
   obtain⟨z2,Z2⟩:=z
   dsimp only <;>
   cases k Z2 with
   |ok z=>obtain⟨z3,Z3⟩:=z;(dsimp only;cases slD z1 z2 z3<;>rfl)
   |exc x Z'=>rfl
   |bad=>rfl
  |exc x Z'=>rfl
  |bad=>rfl
 |exc x Z'=>rfl
 |bad=>rfl
theorem qhd:qiU f Z=match f Z with|.ok (.int i,Z1) => .ok (some i,Z1)|.ok _ => .bad|.exc x Z' => .exc x Z'|.bad => .bad:=by
 simp only[qiU,bnd,sbnd]
 cases f Z with
 |ok z=>
  obtain⟨z1,Z1⟩:=z
  cases z1<;>rfl
 |exc x Z'=>rfl
 |bad=>rfl
end
theorem yb {n:Nat} (h:n<=1000000):qG n=true:=by
 unfold qG
 exact decide_eq_true (ya4 h (by rw[PySem.sizeLine_eq];decide))
theorem qhe {n p:Nat} {body:MS} {ds:List D} {d:D} {Z:Env} (h:ds.length=p) (e:body (uu n ds)=.ok (.rt d Z)):dfn n p body ds=.ok d:=by
 unfold dfn;rw[if_pos h,e]
theorem qb5 {n p:Nat} {body:MS} {bs ds bs':List D} {d:D} {Z:Env} (h:ds.length+1=p) (e:body (uu n (.lst bs::ds))=.ok (.rt d Z)) (g:zm 0 Z=some bs'):uW n p body bs ds=.ok (d,bs'):=by
 unfold uW;rw[if_pos h,e];simp only[g]
end L2.Sk
namespace L2.Sk
open PySem PySem.Spec PyProof.Rows
section
variable{prog:yaj}{w:World}{A:yar}{E:Value->yaa->Prop}{s:yaa}
theorem qdM {l:Addr} {xs:Array Value} {Q:Value->yaa->Prop} (t1:s.heap.IsTuple l xs)
  (fin:∀h',IsEnum h' (s.heap.objs.size+1) s.heap.objs.size 0 .none->h'.IsTupleIter s.heap.objs.size l 0->(∀c o,s.heap.get? c=some o->h'.get? c=some o)->Q (.ref (s.heap.objs.size+1)) {s with heap:=h' }) :
  wpAny (model prog w) A (call (.type "enumerate") [.ref l]) Q E s:=by
 have meets:Meets (ybH.«enumerate.__new__» ⟨[.type "enumerate",.ref l],[]⟩) (λ_ R s=>s.heap.IsTuple l xs /\
   R (.ok (.ret (.ref (s.heap.objs.size+1)))) {s with heap:=(s.heap.push {cls:=.type "tuple_iterator",data:=.fields #[.ref l,.int 0 0]}).push {cls:=.type "enumerate",data:=.fields #[.none,.bool false,.ref s.heap.objs.size,ybK 0,.none,.none]} }) :=
  .of_wp λprog w A R s h=>by
   obtain⟨hp,g,d,tk,os⟩:=s
   obtain⟨ha,h⟩:=h
   have hsub:=sub_enumerate
   have hA:yeD (ydV ⟨hp,g,d,tk,os⟩) l xs:=ha
   obtain⟨o,ho,_⟩:=id ha
   have ho':hp.get? l=some o:=ho
   wp_walk using yaI ho'
   refine wpAny_stack_any λst=>yal ?_
   split
   ·rename_i c _ _ _ _ _
    cases (c==ybJ "enumerate")
    ·wp_walk using yaI ho',ybl hA
     simp only[yaM]at *
     exact⟨_,rfl,h⟩
    ·wp_walk using yaI ho',ybl hA
     simp only[yaM]at *
     exact⟨_,rfl,h⟩
   ·wp_walk using yaI ho',ybl hA
    simp only[yaM]at *
    exact⟨_,rfl,h⟩
 refine yeE yeF (by decide) (ydW _) (yd6 _) (λobj=>yeg obj _) yd7 meets ⟨t1,?_⟩
 generalize e1:s.heap.push {cls:=.type "tuple_iterator",data:=.fields #[.ref l,.int 0 0]}=m1
 have s1:m1.objs.size=s.heap.objs.size+1:=by rw[<-e1,yaM]
 have q1:m1.get? s.heap.objs.size=some {cls:=.type "tuple_iterator",data:=.fields #[.ref l,.int 0 0]}:=by rw[<-e1];exact Heap.get?_push_size _ rfl
 have k1:∀c o,s.heap.get? c=some o->m1.get? c=some o:=λc o x=>by rw[<-e1];exact Heap.get?_push_of_some _ x
 generalize e2:m1.push {cls:=.type "enumerate",data:=.fields #[.none,.bool false,.ref s.heap.objs.size,ybK 0,.none,.none]}=m2
 have q2:m2.get? (s.heap.objs.size+1)=some {cls:=.type "enumerate",data:=.fields #[.none,.bool false,.ref s.heap.objs.size,ybK 0,.none,.none]}:=by rw[<-e2,<-s1];exact Heap.get?_push_size _ rfl
 have k2:∀c o,m1.get? c=some o->m2.get? c=some o:=λc o x=>by rw[<-e2];exact Heap.get?_push_of_some _ x
 show _/\_
 exact⟨⟨_,q2,rfl⟩,fin m2 q2 ⟨_,k2 _ _ q1,rfl,rfl⟩ λc o x=>k2 _ _ (k1 _ _ x)⟩
end
def Ite (K:Fr0) (a:Addr) (xs:List V):It :=
 ⟨λi H=>i<xs.length/\SqT K H a xs,λi H x H'=>∃p u,H p=none/\xs[i]? = some u/\x=.ref p/\H'=upd H p (.tup [.int i,u]),λi H=>i=xs.length/\SqT K H a xs⟩
def ESt(z i1 a1:Addr)(i:Nat)(h:Heap):Prop:=(∃old,IsEnum h z i1 i old)/\h.IsTupleIter i1 a1 i
theorem qdN {P:yaj} {w:World} {K:Fr0} {es:List Expr} {kk:Nat} {pos:Pos} {z i1 a1:Addr} {xs:List V} (zi:z≠i1) (za:z≠a1) (n1:a1≠i1) :
  qfG P w K (.Tuple es kk pos) (Ite K a1 xs) [z,i1] z (ESt z i1 a1) where
 mem:=by simp
 obj:=λi h st b hb=>by
  obtain⟨⟨old,h1⟩,⟨o4,h4,c4,d4⟩⟩:=st
  simp only[yau,nN_,or_false]at hb
  rcases hb with rfl|rfl
  ·exact⟨_,h1,λv e=>by cases (show ydN _=ycS v from e)⟩
  ·exact⟨_,h4,λv e=>by rw[d4]at e;cases e⟩
 keep:=λi h h' st k=>by
  obtain⟨⟨old,h1⟩,h4⟩:=st
  exact⟨⟨old,k z (by simp) _ h1⟩,h4.at λo e=>k i1 (by simp) o e⟩
 item:=by
  intro X hP hw hK hc i pins s σ H E I hf st hg
  subst hP hw hK
  obtain⟨hlt,hx⟩:=hg
  obtain⟨⟨old,h1⟩,h4⟩:=st
  obtain⟨it1,r1,p1,z1⟩:=I.tuple hx
  have l1:i<it1.toArray.size:=by rw[sT_,<-r1.length];omega
  have hh:X.A.in1.handled=none:=I.ok.hd hc
  refine ydy (jo hh i1 a1 n1 it1.toArray) h1 ⟨h4,p1⟩ l1 zi (by simp[zi,za]) λx h' tk px ho u1 new hsz kp=>?_
  refine⟨.ref s.heap.objs.size,rfl,yc5 ho λh2' zz2 sb=>?_⟩
  obtain⟨xv,hxv⟩:∃v,xs[i]? = some v:=⟨xs[i]'(by omega),gG (by omega)⟩
  obtain⟨x',ex,rx⟩:=r1.get hxv
  have exx:x'=x:=by
   have:it1.toArray[i]? = some x:=px
   rw[List.getElem?_toArray,ex]at this
   exact yax this
  subst exx
  have lz:z<s.heap.objs.size:=yac h1
  have keep:∀b u,b ∉ [z,i1]->s.heap.get? b=some u->h2'.get? b=some u:=λb u hb e=>by
   simp only[yau,nN_,or_false,not_or]at hb
   exact(sb.2 b hb.1).trans (kp b u hb.1 hb.2 e)
  have I2:Inv X pins σ (upd H s.heap.objs.size (.tup [.int i,xv])) {s with heap:=h2',toks:=tk+1} :=
   qbw I keep hf (yak _) ⟨by show 2<=yaq;decide,[.int i tk,x'],.cons ⟨tk,rfl⟩ (.cons rx .nil),⟨_,(sb.2 _ (ya5 lz)).trans new,rfl,_,rfl⟩⟩
  refine⟨.ref s.heap.objs.size,upd H s.heap.objs.size (.tup [.int i,xv]),I2,rfl,⟨s.heap.objs.size,xv,I.hok.fresh (yak _),hxv,rfl,rfl⟩,?_,λb hb=>?_⟩
  ·exact⟨⟨_,by simpa using zz2⟩,u1.1.at λo e=>(sb.2 i1 zi.symm).trans e⟩
  ·have hb1:b≠s.heap.objs.size:=by
    simp only[yau,nN_,or_false]at hb
    obtain⟨o4,g4,_⟩:=h4
    rcases hb with rfl|rfl
    ·exact yat (yac h1)
    ·exact yat (yac g4)
   rw[qu hb1]
   exact(hf b hb).1
 done:=by
  intro X hP hw hK hc i pins s σ H E I hf st hg
  subst hP hw hK
  obtain⟨hlt,hx⟩:=hg
  obtain⟨⟨old,h1⟩,h4⟩:=st
  obtain⟨it1,r1,p1,z1⟩:=I.tuple hx
  have hh:X.A.in1.handled=none:=I.ok.hd hc
  have e:i=it1.toArray.size:=by rw[sT_,<-r1.length];exact hlt
  subst e
  refine ydX (jo hh i1 a1 n1 it1.toArray) h1 ⟨h4,p1⟩ λh' kp=>⟨rfl,qbx (t':=s.toks) I (λb u hb e=>?_) hf⟩
  simp only[yau,nN_,or_false,not_or]at hb
  exact kp b u hb.2 e
 self:=λA i s Q E st h=>by
  obtain⟨⟨old,h1⟩,_⟩:=st
  exact yck h1 h
section
variable{X:Cx}{c:Fc}{a b e:Expr}{pos:Pos}{es:List Expr}{kk:Nat}{tp:Pos}
def qkV(K:Fr0)(ta:TA):TI:=λσ H R=>ta σ H λvs H1=>∃a1 xs,vs=[.ref a1]/\SqT K H1 a1 xs/\R (Ite K a1 xs) H1
theorem qhf {ta:TA} {p:Pos} (hg:Gl X "enumerate") (hm:X.mg "enumerate"=none) (ha:PA X [a] ta) (hs:yag [a] X.env=[(false,eval a X.env)]:=by rfl) :
  PI X (.Tuple es kk tp) (.Call (.Name "enumerate" p) [a] [] pos) (qkV X.K ta):=by
 intro pins s σ H R I h
 refine Call_ (vb I hg hm ycW (yaS (thn (ha pos pins s σ H _ I h) λus s1 ⟨vs,H1,I1,r1,q1⟩=>?_) (by rw[hs];rfl) (by rfl)))
 obtain⟨a1,xs,e1,hx,q⟩:=q1
 subst e1
 obtain⟨u1,rfl,ru1⟩:=qU.one r1
 cases (show u1=yae a1 from ru1)
 obtain⟨it1,v1,p1,z1⟩:=I1.tuple hx
 refine qdM (show s1.heap.IsTuple a1 it1.toArray from p1) λh' zz g1 kp=>?_
 refine yck zz ?_
 have la1:a1<s1.heap.objs.size:=by obtain⟨o,e,_⟩:=p1;exact yac e
 refine⟨s1.heap.objs.size+1,[s1.heap.objs.size+1,s1.heap.objs.size],_,_,H1,rfl,I1.kept (t':=s1.toks) kp,qdN (xs:=xs) (Nat.succ_ne_self _) (ya5 (ydf la1)) (yat la1),⟨⟨_,zz⟩,g1⟩,λb hb=>?_,q⟩
 simp only[yau,nN_,or_false]at hb
 have hb2:s1.heap.objs.size<=b:=by
  rcases hb with e|e<;>rw[e]
  ·exact ybD _ _
  ·exact yak _
 exact I1.fpOk hb2 (I1.hok.fresh hb2)
def uv (k:Nat):List D->List D
 | []=>[]
 |x::xs => .tup [.int (k:Nat),x]::uv (k+1) xs
theorem y8:∀(k:Nat)(xs:List D),(uv k xs).length=xs.length
 |_,[]=>rfl
 |k,x::xs=>by simp[uv,y8 (k+1) xs]
theorem vX:∀{xs:List D}{k i:Nat}{d:D},(uv k xs)[i]? = some d->∃x,xs[i]? = some x/\d=.tup [.int ((k+i:Nat):Int),x]
 | [],_,_,_,h=>by simp[uv]at h
 |x::xs,k,0,d,h=>by
  have:D.tup [.int (k:Nat),x]=d:=by simpa [uv] using h
  exact⟨x,rfl,this.symm⟩
 |x::xs,k,i+1,d,h=>by
  obtain⟨y,h1,h2⟩:=vX (xs:=xs) (k:=k+1) (i:=i) (d:=d) (by simpa [uv] using h)
  exact⟨y,by simpa using h1,by rw[h2];congr 4;omega⟩
theorem qhg {K:Fr0} {A:Addr->Prop} {H:Hp} {ds:List D} {xs:List V} {a1:Addr} (t1:ut K H a1 xs) (i1:IsL K A H ds xs):qds K A H (uv 0 ds) (Ite K a1 xs) where
 go:=λH' i d ex hd=>by
  have hl:i<(uv 0 ds).length:=(gI_.mp hd).1
  rw[y8,<-i1.length]at hl
  exact⟨hl,(t1.elim (λh => .inl (ex.tup _ _ h)) .inr:ut K H' a1 xs).sq⟩
 yl:=λH' i d x H'' ex hd y=>by
  obtain⟨p,u,hp,hu,rfl,rfl⟩:=y
  obtain⟨dx,h1,rfl⟩:=vX hd
  obtain⟨u',g1,g2⟩:=i1.get h1
  rw[hu]at g1
  cases g1
  have sm:=qv hp (.tup [.int i,u])
  exact⟨sm,p,[.int i,u],rfl,.inl qt,.int i,[u],rfl,by rw[yeG];rfl,u,[],rfl,Is.ext (Ext.of_same sm) (λ_ h _=>h) (Is.ext ex (λ_ h _=>h) g2),rfl⟩
 stop:=λH' ex=>⟨by rw[y8,i1.length],(t1.elim (λh => .inl (ex.tup _ _ h)) .inr:ut K H' a1 xs).sq⟩
def qe0:List D->Option (List D)
 | [.tup xs]=>some (uv 0 xs)
 |_=>none
def qe1(f:M (List D)):M (List D):=bnd f λds=>lift (qe0 ds)
theorem qhh {f:M (List D)} {p:Pos} (hg:Gl X "enumerate") (hm:X.mg "enumerate"=none) (ha:DA X c [a] f) (hs:yag [a] X.env=[(false,eval a X.env)]:=by rfl) :
  DI X c (.Tuple es kk tp) (.Call (.Name "enumerate" p) [a] [] pos) (qe1 f):=by
 obtain⟨t,pa,w⟩:=ha
 refine⟨_,qhf hg hm pa hs,λZ σ H Q r h=>w Z σ H _ r (WpL.bndI h λds Z1 vs H1 r1 i1 g1 h1=>?_)⟩
 obtain⟨es',e,h2⟩:=uh h1
 unfold qe0 at e
 split at e
 ·obtain⟨v,rfl,j1⟩:=IsL.inv1 i1
  cases e
  obtain⟨a1,xs,rfl,t1,il1⟩:=Is.tr j1
  exact⟨a1,xs,rfl,t1.sq,h2 _ H1 r1 (qhg t1 il1) .refl⟩
 ·cases e
end
def vD:D->V
 |.bl b => .bl b
 |.int i => .int i
 |.str x => .str x
 |_ => .non
def flD:D->Bool
 |.non=>true
 |.bl _=>true
 |.int _=>true
 |.str _=>true
 |_=>false
def sqD:D->Option (List D)
 |.tup ds=>some ds
 |.lst ds=>some ds
 |_=>none
def inD (x y:D):Option D:=match sqD y with
 |some ds=>if flD x&&ds.all flD then some (.bl (ds.any λd=>eqV (vD d) (vD x)))else none
 |none=>none
theorem qhi {l:M (List D)} {Z:Env}:qe1 l Z=match l Z with|.ok (d,Z1)=>(match qe0 d with|some ds => .ok (ds,Z1)|none => .bad)|.exc x Z' => .exc x Z'|.bad => .bad:=by
 simp only[qe1,bnd]
 cases l Z with
 |ok z=>obtain⟨z1,Z1⟩:=z;(dsimp only;cases qe0 z1<;>rfl)
 |exc x Z'=>rfl
 |bad=>rfl
section
variable{X:Cx}{tg iter elt:Expr}{ifs:List Expr}{scope:Scope}{pos:Pos}{wi:TI}{N':List Str}{nt:Nat}{fr:List Nat}
end
section
variable{X:Cx}{c:Fc}
end
def qkW:List Int->Int
 | []=>0
 | [n]=>n
 |n::m::ns=>max n (qkW (m::ns))
def qlz:List Int->Int
 | []=>0
 | [n]=>n
 |n::m::ns=>min n (qlz (m::ns))
section
variable{X:Cx}
end
def qmo:List D->Option D
 | [.lst ds]=>match yT ds with
  |some (n::ns)=>some (.int (qkW (n::ns)))
  |_=>none
 |_=>none
def y9 (t:M Bool) (b:MS):Nat->MS
 |0,_ => .bad
 | n+1,Z=>match t Z with
  |.ok (true,Z1)=>match b Z1 with
   |.ok (.nx Z2)=>y9 t b n Z2
   |.ok (.ct Z2)=>y9 t b n Z2
   |.ok (.bk Z2) => .ok (.nx Z2)
   |.ok (.rt d Z2) => .ok (.rt d Z2)
   |.exc x Z2 => .exc x Z2
   |.bad => .bad
  |.ok (false,Z1) => .ok (.nx Z1)
  |.exc x Z1 => .exc x Z1
  |.bad => .bad
open Classical in
noncomputable def qaY(t:M Bool)(b:MS):MS:=λZ=>if h:∃n,y9 t b n Z ≠ .bad then y9 t b h.choose Z else .bad
theorem uj {t:M Bool} {b:MS}:∀{n:Nat}{Z:Env}(k:Nat),y9 t b n Z ≠ .bad->y9 t b (n+k) Z=y9 t b n Z
 |0,Z,k,h=>absurd rfl h
 | n + 1,Z,k,h=>by
  have e:n+1+k=(n+k)+1:=by omega
  rw[e]
  unfold y9 at h |-
  cases et:t Z with
  | ok p=>
   obtain⟨v,Z1⟩:=p
   rw[et]at h
   cases v with
   |false=>rfl
   | true=>
    dsimp only at h |-
    cases eb:b Z1 with
    |ok fl=>
     rw[eb]at h
     cases fl with
     |nx Z2=>exact uj k h
     |ct Z2=>exact uj k h
     |bk Z2=>rfl
     |rt d Z2=>rfl
    |exc x Z2=>rfl
    |bad=>rfl
  |exc x Z1=>rfl
  |bad=>rfl
theorem qdO {t:M Bool} {b:MS} {n:Nat} {Z:Env} {r:R Fl} (h:y9 t b n Z=r) (hb:r ≠ .bad):qaY t b Z=r:=by
 have hx:∃n,y9 t b n Z ≠ .bad:=⟨n,by rw[h];exact hb⟩
 unfold qaY
 rw[dif_pos hx]
 have hc:=hx.choose_spec
 generalize hx.choose=m at hc
 rcases Nat.le_total m n with hl|hl
 ·obtain⟨k,rfl⟩:=ydz hl
  rw[<-uj k hc];exact h
 ·obtain⟨k,rfl⟩:=ydz hl
  rw[uj k (by rw[h];exact hb)];exact h
theorem qcC {t:M Bool} {b:MS} {Z:Env}:∃n,qaY t b Z=y9 t b n Z:=by
 unfold qaY
 split
 ·exact⟨_,rfl⟩
 ·exact⟨0,rfl⟩
section
variable{X:Cx}{c:Fc}{pos:Pos}
theorem qe2 {e:Expr} {body:List Stmt} {t:M Bool} {b:MS} (hp:ydE (model X.prog X.w) X.A X.env X.xe) (ht:DT X c e t) (hb:DSs X c body b):DS X c (.While e body [] pos) (qaY t b):=by
 obtain⟨tc,pc,wc⟩:=ht
 obtain⟨tb,pb,wb⟩:=hb
 refine⟨_,qew hp pc pb,λZ σ H D' r h=>?_⟩
 obtain⟨n,en⟩:=qcC (t:=t) (b:=b) (Z:=Z)
 rw[en]at h
 refine⟨λm σ' H'=>∃Z',Rep X.K c Z' σ' H'/\WpS X.K c σ' H' D' (y9 t b m Z'),⟨n,Z,r,h⟩,?_⟩
 rintro m σ' H' ⟨Z',r',w⟩
 cases m with
 |zero=>exact w.elim
 | succ m=>
  unfold y9 at w
  refine wc Z' σ' H' _ r' ?_
  cases et:t Z' with
  |bad=>rw[et]at w;exact w
  |exc x Z1=>rw[et]at w;exact λH1 r1 g1=>w σ' H1 r1 g1.s
  | ok p=>
   obtain⟨v,Z1⟩:=p
   rw[et]at w
   intro H1 r1 g1
   cases v with
   |false=>
    rw[if_neg yas]
    exact w σ' H1 r1 g1.s
   | true=>
    rw[if_pos rfl]
    dsimp only at w
    refine⟨λσ2 H2=>∃Z2,Rep X.K c Z2 σ2 H2/\WpS X.K c σ2 H2 D' (y9 t b m Z2),λσ2 H2 q=>⟨m,Nat.lt_succ_self m,q⟩,wb Z1 σ' H1 _ r1 ?_⟩
    have w2:=w.gr g1.s
    cases e2:b Z1 with
    |ok fl=>
     cases fl with
     |nx Z3=>simp only[e2]at w2;exact λσ3 H3 r3 g3=>⟨Z3,r3,w2.gr g3⟩
     |ct Z3=>simp only[e2]at w2;exact λσ3 H3 r3 g3=>⟨Z3,r3,w2.gr g3⟩
     |bk Z3=>simp only[e2]at w2;exact w2
     |rt d Z3=>simp only[e2]at w2;exact w2
    |exc x Z3=>simp only[e2]at w2;exact w2
    |bad=>simp only[e2]at w2;exact w2
end
end L2.Sk
namespace L2.Sk
open PySem PySem.Spec PyProof.Rows
def qkX (h:Heap) (e T:Addr) (cls:Value):Prop :=
 ∃oe vs oT ts a0,h.get? e=some oe/\(oe.cls=cls/\vs[2]? = some .none/\vs[0]? = some a0)/\oe.data=.fields vs/\vs[1]? = some (.ref T)/\T≠e/\h.get? T=some oT/\oT.data=.fields ts/\ts[3]? = some .none
def CX1 (P:yaj) (w:World):CXT:=λouter H s E u s'=>∃e T C H',u=.ref e/\s'.os=s.os/\yb0 s'.gens/\Un (frs outer) [] H H' s.heap s'.heap/\HOk P w H' s'.heap /\
 s.heap.get? e=none/\s.heap.get? T=none/\H' e=none/\H' T=none/\qkX s'.heap e T (.ref C)/\E (.ref C) none H'
structure Lft (h h':Heap) (ch fs:List Addr):Prop where
 keep:∀b o,b ∉ ch->b ∉ fs->h.get? b=some o->h'.get? b=some o
 slot:∀b o,b∈fs->h.get? b=some o->∃sl,h'.get? b=some {o with slots:=sl}
section
variable{M:Model}{A:yar}{E:Value->yaa->Prop}{s:yaa}
end
section
variable{X:Cx}{pins:List (Addr×Obj)}{σ:St}{H:Hp}{s:yaa}
end
structure XC (base:Heap) (C:Addr) (bm:List Value):Prop where
 hasBase:bm.contains (.type "BaseException")=true
 ex:∃nm q N bs hdct sn sub ab col dd k0 k1 k2 k3 k5 newId initId B bmB mN,base.get? C=some (excClassObj nm q C N bs bm hdct sn sub ab col dd k0 k1 k2 k3 k5 newId)/\base.Ns N mN/\mN "__init__"=none/\OwnTail base bmB bm/\ExcBaseFacts B newId initId bmB
section
variable{X:Cx}{c:Fc}{e:Expr}{es:List Expr}{pos cpos np:Pos}
structure XL2 (X:Cx) (c:Fc) (cl:Str->Option Addr) (E:XK):Prop where
 pass:qbS (CX1 X.prog X.w) X E
 wish:∀x C H',cl x.cls=some C->c.E x H'->E (.ref C) none H'
def qjq (x:Str) (f:M (List D)):MS:=λZ=>match f Z with
 |.ok (ds,Z')=>if qG ds.length then .exc ⟨x,.non⟩ Z' else .bad
 |.exc z Z' => .exc z Z'
 |.bad => .bad
def spX (K:Fr0) (cl:Str->Option Addr) (F:List D->R D):Sp:=λvs H Q E=>∃ds A,IsL K A H ds vs/\qdg K H/\match F ds with
 |.ok d=>∀v H',zK H H'->Is K (λa=>A a\/H a=none) H' d v->Q v H'
 |.exc x _=>∃C,cl x.cls=some C/\∀H',zK H H'->E (.ref C) none H'
 |.bad=>False
def qf5 (RN:List Str) (F:List D->R D) (g:M (List D)):M D:=bnd g λds Z=>match F ds with
 |.ok d => .ok (d,Z)
 |.exc x _=>if RN.contains x.cls then .exc x Z else .bad
 |.bad => .bad
def qf6 (F:List D->R D) (g:M (List D)):M D:=bnd g λds Z=>match F ds with
 |.ok d => .ok (d,Z)
 |_ => .bad
end
section
variable{P:yaj}{w:World}{K:yah}{mg:Str->Option Value}{base:Heap}
structure qkY (P:yaj) (w:World) (K:yah) (mg:Str->Option Value) (base:Heap) (k:Nat) (x:Str) (ps:List Str) (sp:Sp):Prop where
 ex:∃f fd,wD P w K mg base (CX1 P w) k f fd ps sp/\mg x=some (.ref f)/\yai K (.ref f)=true/\vB K fd ps []
end
section
variable{M:Model}{A:yar}{E:Value->yaa->Prop}
variable{nm q nm' q':Str}{C S N N':Addr}{bs bm bs' bm':List Value}{hdct hdct':Bool}{sn sn':List Str}{sub sub':List Value}{ab ab':Bool}{col col':Option Bool}{dd dd':Option Addr}{k0 k1 k2 k3 k5 j0 j1 j2 j3 j5:Option Value}{newId newId':String}
end
end L2.Sk
namespace L2
open PySem PySem.Spec PyProof.Rows
def uN(A:yar)(H:Hp):Prop:=∃e oe u vs,A.handled=some (.ref e)/\H e=some (.frz oe u)/\oe.data=.fields vs/\vs[2]? = some .none
structure qaZ (k:Nat) (A:yar):Prop where
 dp:A.depth+3*k+5<ycL
 un:A.units+16*k+200<cLine
 gd:A.guards=some []
theorem qaZ.deeper {k:Nat} {A:yar} (r:qaZ (k+1) A) (env:Env):qaZ k (A.deeper env) :=
 ⟨by have:=r.dp;show A.depth+1+3*k+5<_;omega,by have:=r.un;show A.units+3+16*k+200<_;omega,r.gd⟩
theorem qaZ.depth{k:Nat}{A:yar}(r:qaZ k A):A.depth<ycL:=by have:=r.dp;omega
structure qkZ (P:yaj) (w:World) (K:yah) (mg:Str->Option Value) (base:Heap) (CX:CXT) (k:Nat) (f:Addr) (fd:yaO) (ps:List Str) (sp:Sp):Prop where
 len:∀vs H Q E,sp vs H Q E->vs.length=ps.length
 run:∀(A:yar)(outer:List Env)(s:yaa)(H:Hp)(args:Args)(us:List Value)(vs:List V)(Q:VK)(E:XK),qaZ k A->uN A H->qix P w K mg base A outer s H->ydo s fd args (ps.zip us)->qU vs us->sp vs H Q E ->
  yb1 (model P w) A (.call (.ref f) args) (CR CX outer P w H s Q E) s
section
variable{X:Cx}{CX:CXT}{k:Nat}{f C:Addr}{fd:yaO}{ps:List Str}{sp:Sp}{dvs:List V}{ds:List Value}{E:XK}{x m:Str}{p pos apos:Pos}{e o:Expr}{es:List Expr}{ta:TE}{t:TA}
end
end L2
namespace L2.Sk
open PySem PySem.Spec PyProof.Rows
def isT (b:Bool):Value->Bool
 |.bool a=>a==b
 |_=>false
section
variable{X:Cx}
end
def qlA (x:D) (ys:List D):Option D:=match x,ys with
 |.lst ds,[.bl b]=>(yS ds).map λbs => .int (bs.countP (·==b))
 |_,_=>none
def qjr (F:D->List D->Option D) (f:M D) (g:M (List D)):M D:=bnd f λx=>match x with
 |.lst ds=>bnd g λys=>lift (F (.lst ds) ys)
 |_=>λ_ => .bad
def qe3(K:Fr0)(F:D->List D->Option D)(r:V->List V->Hp->VK->Prop):Prop:=∀A H x ys d v vs (Q:VK),(∀a,H a=none->A a)->Is K A H x v->IsL K A H ys vs->F x ys=some d->(∀u H',zK H H'->Is K A H' d u->Q u H')->r v vs H Q
section
variable{X:Cx}{c:Fc}{o e:Expr}{es:List Expr}{apos cpos:Pos}
end
def isI (b:Int):Value->Bool
 |.int a _=>a==b
 |_=>false
section
variable{X:Cx}
end
def qlB (x:D) (ys:List D):Option D:=match x,ys with
 |.lst ds,[.int b]=>(yT ds).map λns => .int (ns.countP (·==b))
 |_,_=>none
section
variable{X:Cx}{pins:List (Addr×Obj)}{σ:St}{H:Hp}{s:yaa}{xe:Value->yaa->Prop}
end
structure qmQ (K:Fr0) (base:Heap) (RN:List Str) (S:Addr):Prop where
 sup:∃bm,XC base S bm
 own:∀n C,clR K RN n=some C->∃bm,XC base C bm/\(yae C::bm).contains (.ref S)=true
 ki:∀n C,clR K RN n=some C->XK6 K C
def ch(H6:Hp):Fc:=⟨[],[],λa=>H6 a=none,H6,λ_=>False,λ_ _=>False,λ_=>none⟩
section
variable{X:Cx}{c:Fc}{pos np hpos p1 p2 p3 p4:Pos}{body:List Stmt}
end
end L2.Sk
namespace L2.Sk
open PySem PySem.Spec PyProof.Rows PySem.W
def bmV:List Value:=[.type "ValueError",.type "Exception",.type "BaseException",.type "object"]
def qcD (K:Fr0) (C S:Addr):Bool:=match K.lookup C with
 |some ⟨_,_,.cls cd,_⟩=>cd.mro.contains (.ref S)
 |_=>false
theorem qkj {K:Fr0} {h:Heap} {C S:Addr} (X:K.In h) (q:excIn K C bmV "ValueError.__new__"=true) (hs:qcD K C S=true):∃bm,XC h C bm/\(yae C::bm).contains (.ref S)=true:=by
 unfold excIn at q
 split at q
 ·rename_i dd cd sl ho
  split at q
  ·rename_i C' bm k0 k1 k2 k3 n k5 hm hl
   simp only[yao,beq_iff_eq,ybR]at q
   obtain⟨⟨⟨⟨⟨e1,e2⟩,hdel⟩,ht⟩,hok⟩,hni⟩:=q
   subst e1 e2
   unfold qcD at hs
   rw[ho]at hs
   dsimp only at hs
   rw[hm]at hs
   obtain⟨nm,bs,mro,ns,qn,hd,sn,sub,ab,col,del⟩:=cd
   dsimp only at hm hdel hok hni
   subst hm hdel
   have hz:sl = #[k0,k1,k2,k3,some (.builtin _),k5]:=Array.toList_inj.mp hl
   subst hz
   have hT:=tail_of_in X ht
   refine⟨bm,⟨hT.hasType (by decide +kernel),nm,qn,ns,bs,hd,sn,sub,ab,col,dd,k0,k1,k2,k3,k5,_,"ValueError.__init__","ValueError",bmV,_,X _ _ ho,.of_isNs (isNs_of_in X hok),nsMap_none_of_in X hok hni,hT,PySem.F.excBase_ValueError⟩,hs⟩
  ·cases q
 ·cases q
def qhj (K:Fr0) (D:Addr):Bool :=
 findIn K (.ref D) "__getattribute__"==some (some (.builtin "BaseException.__getattribute__"))&&findIn K (.ref D) "__getattr__"==some none &&
 findIn K (.ref D) "__class__"==some (some (.builtin "object.__class__"))&&mroIn K D (.type "object")==some true&&subIn K (.ref D) (.type "BaseException")==some true&&(clsIn K D).isSome &&
 (["int","bool","str","tuple","list","dict"].all λT=>kitOne K (.ref D) (.type T)==some false)
theorem qjs {K:Fr0} {D:Addr} (h:qhj K D=true):XK6 K D:=by
 unfold qhj at h
 simp only[yao,beq_iff_eq]at h
 obtain⟨⟨⟨⟨⟨⟨h1,h2⟩,h3⟩,h4⟩,h5⟩,h6⟩,h7⟩:=h
 exact⟨h1,h2,h3,h4,h5,h6,λT hT=>by simpa using List.all_eq_true.mp h7 T hT⟩
def qe4(n m:Str):Bool:=n==m||m=="SackError"
def qjt (K:Fr0) (S:Addr) (TN:List Str) (n:Str):Bool:=match vF K n with
 | some C=>excIn K C bmV "ValueError.__new__"&&qcD K C S&&qhj K C&&kitOne K (.ref C) (.type "ValueError")==some true &&
  TN.all λm=>match vF K m with
   |some Cm=>kitOne K (.ref C) (.ref Cm)==some (qe4 n m)
   |none=>false
 |none=>false
def qlC (K:Fr0) (RN TN:List Str):Bool:=match vF K "SackError" with
 |some S=>excIn K S bmV "ValueError.__new__"&&qcD K S S&&RN.all (qjt K S TN)
 |none=>false
structure XT (K:Fr0) (mg:Str->Option Value) (RN TN:List Str):Prop where
 all:qlC K RN TN=true
 mgc:∀n C,vF K n=some C->mg n=some (.ref C)
section
variable{K:Fr0}{mg:Str->Option Value}{RN TN:List Str}
theorem XT.sup (t:XT K mg RN TN):∃S,vF K "SackError"=some S/\excIn K S bmV "ValueError.__new__"=true/\qcD K S S=true/\RN.all (qjt K S TN)=true:=by
 have h:=t.all
 unfold qlC at h
 split at h
 ·rename_i S e
  simp only[yao]at h
  exact⟨S,e,h.1.1,h.1.2,h.2⟩
 ·cases h
theorem XT.row (t:XT K mg RN TN) {S:Addr} (hS:vF K "SackError"=some S) {n:Str} (hn:RN.contains n=true):qjt K S TN n=true:=by
 obtain⟨S',e,_,_,h⟩:=t.sup
 rw[hS]at e
 cases e
 exact List.all_eq_true.mp h n (by simpa using hn)
theorem XT.cls (t:XT K mg RN TN) {n:Str} {C:Addr} (h:clR K RN n=some C):vF K n=some C/\∃S,vF K "SackError"=some S/\excIn K C bmV "ValueError.__new__"=true/\qcD K C S=true/\XK6 K C/\kitOne K (.ref C) (.type "ValueError")=some true /\
  ∀m∈TN,∃Cm,vF K m=some Cm/\kitOne K (.ref C) (.ref Cm)=some (qe4 n m):=by
 unfold clR at h
 split at h
 ·rename_i hn
  obtain⟨S,hS,_⟩:=t.sup
  have r:=t.row hS hn
  unfold qjt at r
  rw[h]at r
  simp only[yao,beq_iff_eq]at r
  obtain⟨⟨⟨⟨r1,r2⟩,r3⟩,r4⟩,r5⟩:=r
  refine⟨h,S,hS,r1,r2,qjs r3,r4,λm hm=>?_⟩
  have:=List.all_eq_true.mp r5 m hm
  split at this
  ·rename_i Cm e
   exact⟨Cm,e,by simpa using this⟩
  ·cases this
 ·cases h
theorem XT.has (t:XT K mg RN TN) {n:Str} (hn:RN.contains n=true):∃C,clR K RN n=some C:=by
 obtain⟨S,hS,_⟩:=t.sup
 have r:=t.row hS hn
 unfold qjt at r
 split at r
 ·rename_i C e
  exact⟨C,by unfold clR;rw[if_pos hn];exact e⟩
 ·cases r
end
def qlD (RN:List Str) (m:Str) (f:M D):M D:=bnd f λd=>match d with
 |.exc n=>if RN.contains n then ret (.bl (m=="ValueError"||qe4 n m))else λ_ => .bad
 |_=>λ_ => .bad
section
variable{X:Cx}{c:Fc}{a b e:Expr}{pos:Pos}{RN TN:List Str}
end
section
variable{P:yaj}{w:World}{K:yah}{mg:Str->Option Value}{base:Heap}
structure qk0 (P:yaj) (w:World) (K:yah) (mg:Str->Option Value) (base:Heap) (k:Nat) (x:Str) (ps:List Str) (sp:Sp):Prop where
 ex:∃f fd,qkZ P w K mg base CX0 k f fd ps sp/\mg x=some (.ref f)/\yai K (.ref f)=true/\vB K fd ps []
end
end L2.Sk
namespace L2.Sk
open PySem PySem.Spec PyProof.Rows
section
variable{Z:Env}{f g:M D}{l:M (List D)}{p q:MS}{RN:List Str}
theorem qe5 (F:List D->R D):qf5 RN F l Z=match l Z with|.ok (xs,Z1)=>(match F xs with|.ok d => .ok (d,Z1)|.exc x _=>(if RN.contains x.cls then .exc x Z1 else .bad)|.bad => .bad)|.exc x Z' => .exc x Z'|.bad => .bad:=by
 simp only[qf5,bnd]
 cases l Z with
 |ok z=>obtain⟨z1,Z1⟩:=z;cases F z1<;>rfl
 |exc x Z'=>rfl
 |bad=>rfl
theorem qe6 (F:List D->R D):qf6 F l Z=match l Z with|.ok (xs,Z1)=>(match F xs with|.ok d => .ok (d,Z1)|_ => .bad)|.exc x Z' => .exc x Z'|.bad => .bad:=by
 simp only[qf6,bnd]
 cases l Z with
 |ok z=>obtain⟨z1,Z1⟩:=z;cases F z1<;>rfl
 |exc x Z'=>rfl
 |bad=>rfl
theorem qe7(x:Str):qjq x l Z=match l Z with|.ok (ds,Z')=>(if qG ds.length then .exc ⟨x,.non⟩ Z' else .bad)|.exc z Z' => .exc z Z'|.bad => .bad:=rfl
theorem qju (m:Str):qlD RN m f Z=match f Z with|.ok (.exc n,Z1)=>(if RN.contains n then .ok (.bl (m=="ValueError"||qe4 n m),Z1)else .bad)|.ok _ => .bad|.exc x Z' => .exc x Z'|.bad => .bad:=by
 simp only[qlD,bnd]
 cases f Z with
 |ok z=>
  obtain⟨z1,Z1⟩:=z
  cases z1<;>first|rfl|(dsimp only;split<;>rfl)
 |exc x Z'=>rfl
 |bad=>rfl
theorem qhk (F:D->List D->Option D):qjr F f l Z=match f Z with
  |.ok (.lst ds,Z1)=>(match l Z1 with|.ok (ys,Z2)=>(match F (.lst ds) ys with|some d => .ok (d,Z2)|none => .bad)|.exc x Z' => .exc x Z'|.bad => .bad)
  |.ok _ => .bad|.exc x Z' => .exc x Z'|.bad => .bad:=by
 simp only[qjr,bnd]
 cases f Z with
 | ok z=>
  obtain⟨z1,Z1⟩:=z
  cases z1 with
  |lst ds=>
   show bnd l (λys=>lift (F (D.lst ds) ys)) Z1=(match l Z1 with|.ok (ys,Z2)=>(match F (.lst ds) ys with|some d => .ok (d,Z2)|none => .bad)|.exc x Z' => .exc x Z'|.bad => .bad)
   unfold bnd
   cases l Z1 with
   |ok z=>obtain⟨z2,Z2⟩:=z;(dsimp only;cases F (.lst ds) z2<;>rfl)
   |exc x Z'=>rfl
   |bad=>rfl
  |_=>rfl
 |exc x Z'=>rfl
 |bad=>rfl
end
def unO(_:Nat)(c:Fc):Fc:={c with O:=[],P:=[],B:=λ_=>True}
theorem Gr.unSame{c:Fc}{σ:St}{H H':Hp}{i:Nat}(g:Gr (unO i c).O σ H H'):zK H H':=λb o h=>g.ext.at_ b o (λj hj=>by cases hj) h
theorem Rep.un {K:Fr0} {c:Fc} {Z:Env} {σ:St} {H:Hp} {i:Nat} (r:Rep K c Z σ H) (_:i∈c.O):Rep K (unO i c) Z σ H:=by
 have all:∀b:Addr,Cn (unO i c) σ b:=λb=>⟨trivial,λj hj=>by cases hj⟩
 refine⟨r.len,λk d hk=>?_,λj hj=>(by cases hj),λk j a hk=>(by cases hk),⟨λ_ _=>trivial,r.b0.2⟩,r.kp,r.dm,λj hj=>(by cases hj),λj hj=>(by cases hj)⟩
 obtain⟨v,h1,h2⟩:=r.val k d hk
 refine⟨v,h1,.inr ⟨λz=>(by cases z),?_⟩⟩
 rcases h2 with⟨hk2,ds,a,xs,h3,h5,h6,h7⟩|⟨hk2,h3⟩
 ·subst h3 h5
  exact⟨a,xs,rfl,all a,h6,IsL.ext Ext.refl (λb _ _=>all b) h7⟩
 ·exact Is.ext Ext.refl (λb _ _=>all b) h3
theorem Gr.un{c:Fc}{σ:St}{H H':Hp}{i:Nat}(g:Gr (unO i c).O σ H H'):Gr c.O σ H H':=.of_same g.unSame
open Classical in
open Classical in
open Classical in
section
variable{X:Cx}{c:Fc}{e:Expr}{pos:Pos}
def qmR:List D->Option (List D)
 | [.int i,.int j]=>if decide (-(2 ^ 62)<=i)&&decide (i<2 ^ 62)&&decide (-(2 ^ 62)<=j)&&decide (j<2 ^ 62)then some (w8 i (j-i).toNat)else none
 |_=>none
theorem XL2.un{i:Nat}{cl:Str->Option Addr}{E:XK}(L:XL2 X c cl E):XL2 X (unO i c) cl E:=⟨L.pass,L.wish⟩
def qf7 (i n:Nat) (g:D->Env->Option Env) (b:MS):Nat->MS
 |0,Z=>match zm i Z with
  |some ds=>if ds.length<=n then .ok (.nx Z)else .bad
  |none => .bad
 | m + 1,Z=>match zm i Z with
  | some ds=>match ds[n-(m+1)]? with
   |none => .bad
   | some d=>match g d Z with
    |none => .bad
    |some Z1=>match b Z1 with
     |.ok (.nx Z2)=>qf7 i n g b m Z2
     |.ok (.ct Z2)=>qf7 i n g b m Z2
     |.ok (.bk Z2) => .ok (.nx Z2)
     |.ok (.rt r Z2) => .ok (.rt r Z2)
     |.exc x Z2 => .exc x Z2
     |.bad => .bad
  |none => .bad
end
section
variable{Z:Env}{f:M D}{t:M Bool}{n:M (List D)}
end
def inA (x y:D):Option D:=match sqD y with
 |some ds=>if wH x&&wH y then some (.bl ((toPDs ds).any λy=>ybg y (j8 x)))else none
 |none=>none
section
variable{X:Cx}
end
section
variable{prog:yaj}{w:World}{A:yar}{R:ycT->yaa->Prop}{I:Addr}{fp wr:List Addr}{n:Nat}{P:Nat->Value->Prop}{St:Nat->Heap->Prop}
end
section
variable{prog:yaj}{w:World}{A:yar}{E:Value->yaa->Prop}{s:yaa}
end
def qjv:List D->Option (List (List Int))
 | []=>some []
 |.tup ts::r=>match yT ts,qjv r with
  |some n,some ns=>some (n::ns)
  |_,_=>none
 |_=>none
def qk1(ns:List (List Int))(i:Nat):List Int:=(ns[i]?).getD []
def qk2(ns:List (List Int)):Nat:=argBest (λi j=>HT.lexLt (qk1 ns i) (qk1 ns j)) (ns.length-1)
def qmp:List D->Option D
 | [.lst ds]=>match qjv ds with
  |some (n::ns)=>some (.tup ((qk1 (n::ns) (qk2 (n::ns))).map .int))
  |_=>none
 |_=>none
section
variable{X:Cx}
end
def qlE (x:D) (ys:List D):Option D:=match x,ys with
 |.lst ds,[d]=>if ds.all wH&&wH d then(ds.findIdx? λe=>ybg (j8 e) (j8 d)).map λj => .int j else none
 |_,_=>none
theorem qb6 {prog:yaj} {w:World} {A:yar} (hh:A.handled=none) (it tu:Addr) (hne:tu≠it) (arr:Array Value) :
  Draws prog w A it [it,tu] arr.size (λi x=>arr[i]? = some x) (λi h=>h.IsListIter it tu i/\h.IsList tu arr) where
 live:=λi h st=>by obtain⟨⟨o,e,_⟩,_⟩:=st;exact⟨o,e⟩
 frame:=λi h h' st k=>by
  obtain⟨h1,o,e,r⟩:=st
  exact⟨h1.at λo q=>k it (by simp) o q,o,k tu (by simp) o e,r⟩
 item:=λi s Q E hi st q=>wpAny_nextOf_list_item st.1 st.2 (Array.getElem?_eq_getElem hi) λh' h1 sb=>q _ h' s.toks (Array.getElem?_eq_getElem hi) ⟨h1,by
  obtain⟨o,e,r⟩:=st.2
  exact⟨o,sb.extBut _ _ hne e,r⟩⟩ sb
 done:=λs Q E st q=>wpAny_nextOf_list_end hh st.1 st.2 (Array.getElem?_eq_none (yak _)) q
section
variable{prog:yaj}{w:World}{A:yar}{E:Value->yaa->Prop}{s:yaa}
theorem qcE {l:Addr} {xs:Array Value} {Q:Value->yaa->Prop} (t1:s.heap.IsList l xs)
  (fin:∀h',IsEnum h' (s.heap.objs.size+1) s.heap.objs.size 0 .none->h'.IsListIter s.heap.objs.size l 0->(∀c o,s.heap.get? c=some o->h'.get? c=some o)->Q (.ref (s.heap.objs.size+1)) {s with heap:=h' }) :
  wpAny (model prog w) A (call (.type "enumerate") [.ref l]) Q E s:=by
 have meets:Meets (ybH.«enumerate.__new__» ⟨[.type "enumerate",.ref l],[]⟩) (λ_ R s=>s.heap.IsList l xs /\
   R (.ok (.ret (.ref (s.heap.objs.size+1)))) {s with heap:=(s.heap.push {cls:=.type "list_iterator",data:=.fields #[.ref l,.int 0 0]}).push {cls:=.type "enumerate",data:=.fields #[.none,.bool false,.ref s.heap.objs.size,ybK 0,.none,.none]} }) :=
  .of_wp λprog w A R s h=>by
   obtain⟨hp,g,d,tk,os⟩:=s
   obtain⟨ha,h⟩:=h
   have hsub:=sub_enumerate
   have hA:Heap.IsList (ydV ⟨hp,g,d,tk,os⟩) l xs:=ha
   obtain⟨o,ho,_⟩:=id ha
   have ho':hp.get? l=some o:=ho
   wp_walk using yaI ho'
   refine wpAny_stack_any λst=>yal ?_
   split
   ·rename_i c _ _ _ _ _
    cases (c==ybJ "enumerate")
    ·wp_walk using yaI ho',ybw hA
     simp only[yaM]at *
     exact⟨_,rfl,h⟩
    ·wp_walk using yaI ho',ybw hA
     simp only[yaM]at *
     exact⟨_,rfl,h⟩
   ·wp_walk using yaI ho',ybw hA
    simp only[yaM]at *
    exact⟨_,rfl,h⟩
 refine yeE yeF (by decide) (ydW _) (yd6 _) (λobj=>yeg obj _) yd7 meets ⟨t1,?_⟩
 generalize e1:s.heap.push {cls:=.type "list_iterator",data:=.fields #[.ref l,.int 0 0]}=m1
 have s1:m1.objs.size=s.heap.objs.size+1:=by rw[<-e1,yaM]
 have q1:m1.get? s.heap.objs.size=some {cls:=.type "list_iterator",data:=.fields #[.ref l,.int 0 0]}:=by rw[<-e1];exact Heap.get?_push_size _ rfl
 have k1:∀c o,s.heap.get? c=some o->m1.get? c=some o:=λc o x=>by rw[<-e1];exact Heap.get?_push_of_some _ x
 generalize e2:m1.push {cls:=.type "enumerate",data:=.fields #[.none,.bool false,.ref s.heap.objs.size,ybK 0,.none,.none]}=m2
 have q2:m2.get? (s.heap.objs.size+1)=some {cls:=.type "enumerate",data:=.fields #[.none,.bool false,.ref s.heap.objs.size,ybK 0,.none,.none]}:=by rw[<-e2,<-s1];exact Heap.get?_push_size _ rfl
 have k2:∀c o,m1.get? c=some o->m2.get? c=some o:=λc o x=>by rw[<-e2];exact Heap.get?_push_of_some _ x
 show _/\_
 exact⟨⟨_,q2,rfl⟩,fin m2 q2 ⟨_,k2 _ _ q1,rfl,rfl⟩ λc o x=>k2 _ _ (k1 _ _ x)⟩
end
def qk3 (K:Fr0) (a:Addr) (xs:List V):It :=
 ⟨λi H=>i<xs.length/\SqL K H a xs,λi H x H'=>∃p u,H p=none/\xs[i]? = some u/\x=.ref p/\H'=upd H p (.tup [.int i,u]),λi H=>i=xs.length/\SqL K H a xs⟩
def qmq(z i1 a1:Addr)(i:Nat)(h:Heap):Prop:=(∃old,IsEnum h z i1 i old)/\h.IsListIter i1 a1 i
theorem qcF {P:yaj} {w:World} {K:Fr0} {es:List Expr} {kk:Nat} {pos:Pos} {z i1 a1:Addr} {xs:List V} (zi:z≠i1) (za:z≠a1) (n1:a1≠i1) :
  qfG P w K (.Tuple es kk pos) (qk3 K a1 xs) [z,i1] z (qmq z i1 a1) where
 mem:=by simp
 obj:=λi h st b hb=>by
  obtain⟨⟨old,h1⟩,⟨o4,h4,c4,d4⟩⟩:=st
  simp only[yau,nN_,or_false]at hb
  rcases hb with rfl|rfl
  ·exact⟨_,h1,λv e=>by cases (show ydN _=ycS v from e)⟩
  ·exact⟨_,h4,λv e=>by rw[d4]at e;cases e⟩
 keep:=λi h h' st k=>by
  obtain⟨⟨old,h1⟩,h4⟩:=st
  exact⟨⟨old,k z (by simp) _ h1⟩,h4.at λo e=>k i1 (by simp) o e⟩
 item:=by
  intro X hP hw hK hc i pins s σ H E I hf st hg
  subst hP hw hK
  obtain⟨hlt,hx⟩:=hg
  obtain⟨⟨old,h1⟩,h4⟩:=st
  obtain⟨it1,r1,p1,z1⟩:=I.list hx
  have l1:i<it1.toArray.size:=by rw[sT_,<-r1.length];omega
  have hh:X.A.in1.handled=none:=I.ok.hd hc
  refine ydy (qb6 hh i1 a1 n1 it1.toArray) h1 ⟨h4,p1.isList⟩ l1 zi (by simp[zi,za]) λx h' tk px ho u1 new hsz kp=>?_
  refine⟨.ref s.heap.objs.size,rfl,yc5 ho λh2' zz2 sb=>?_⟩
  obtain⟨xv,hxv⟩:∃v,xs[i]? = some v:=⟨xs[i]'(by omega),gG (by omega)⟩
  obtain⟨x',ex,rx⟩:=r1.get hxv
  have exx:x'=x:=by
   have:it1.toArray[i]? = some x:=px
   rw[List.getElem?_toArray,ex]at this
   exact yax this
  subst exx
  have lz:z<s.heap.objs.size:=yac h1
  have keep:∀b u,b ∉ [z,i1]->s.heap.get? b=some u->h2'.get? b=some u:=λb u hb e=>by
   simp only[yau,nN_,or_false,not_or]at hb
   exact(sb.2 b hb.1).trans (kp b u hb.1 hb.2 e)
  have I2:Inv X pins σ (upd H s.heap.objs.size (.tup [.int i,xv])) {s with heap:=h2',toks:=tk+1} :=
   qbw I keep hf (yak _) ⟨by show 2<=yaq;decide,[.int i tk,x'],.cons ⟨tk,rfl⟩ (.cons rx .nil),⟨_,(sb.2 _ (ya5 lz)).trans new,rfl,_,rfl⟩⟩
  refine⟨.ref s.heap.objs.size,upd H s.heap.objs.size (.tup [.int i,xv]),I2,rfl,⟨s.heap.objs.size,xv,I.hok.fresh (yak _),hxv,rfl,rfl⟩,?_,λb hb=>?_⟩
  ·exact⟨⟨_,by simpa using zz2⟩,u1.1.at λo e=>(sb.2 i1 zi.symm).trans e⟩
  ·have hb1:b≠s.heap.objs.size:=by
    simp only[yau,nN_,or_false]at hb
    obtain⟨o4,g4,_⟩:=h4
    rcases hb with rfl|rfl
    ·exact yat (yac h1)
    ·exact yat (yac g4)
   rw[qu hb1]
   exact(hf b hb).1
 done:=by
  intro X hP hw hK hc i pins s σ H E I hf st hg
  subst hP hw hK
  obtain⟨hlt,hx⟩:=hg
  obtain⟨⟨old,h1⟩,h4⟩:=st
  obtain⟨it1,r1,p1,z1⟩:=I.list hx
  have hh:X.A.in1.handled=none:=I.ok.hd hc
  have e:i=it1.toArray.size:=by rw[sT_,<-r1.length];exact hlt
  subst e
  refine ydX (qb6 hh i1 a1 n1 it1.toArray) h1 ⟨h4,p1.isList⟩ λh' kp=>⟨rfl,qbx (t':=s.toks) I (λb u hb e=>?_) hf⟩
  simp only[yau,nN_,or_false,not_or]at hb
  exact kp b u hb.2 e
 self:=λA i s Q E st h=>by
  obtain⟨⟨old,h1⟩,_⟩:=st
  exact yck h1 h
section
variable{X:Cx}{c:Fc}{a b e:Expr}{pos:Pos}{es:List Expr}{kk:Nat}{tp:Pos}
def qjw(K:Fr0)(ta:TA):TI:=λσ H R=>ta σ H λvs H1=>∃a1 xs,vs=[.ref a1]/\SqL K H1 a1 xs/\R (qk3 K a1 xs) H1
theorem qe8 {ta:TA} {p:Pos} (hg:Gl X "enumerate") (hm:X.mg "enumerate"=none) (ha:PA X [a] ta) (hs:yag [a] X.env=[(false,eval a X.env)]:=by rfl) :
  PI X (.Tuple es kk tp) (.Call (.Name "enumerate" p) [a] [] pos) (qjw X.K ta):=by
 intro pins s σ H R I h
 refine Call_ (vb I hg hm ycW (yaS (thn (ha pos pins s σ H _ I h) λus s1 ⟨vs,H1,I1,r1,q1⟩=>?_) (by rw[hs];rfl) (by rfl)))
 obtain⟨a1,xs,e1,hx,q⟩:=q1
 subst e1
 obtain⟨u1,rfl,ru1⟩:=qU.one r1
 cases (show u1=yae a1 from ru1)
 obtain⟨it1,v1,p1,z1⟩:=I1.list hx
 refine qcE (show s1.heap.IsList a1 it1.toArray from p1.isList) λh' zz g1 kp=>?_
 refine yck zz ?_
 have la1:a1<s1.heap.objs.size:=by obtain⟨o,e,_⟩:=p1.isList;exact yac e
 refine⟨s1.heap.objs.size+1,[s1.heap.objs.size+1,s1.heap.objs.size],_,_,H1,rfl,I1.kept (t':=s1.toks) kp,qcF (xs:=xs) (Nat.succ_ne_self _) (ya5 (ydf la1)) (yat la1),⟨⟨_,zz⟩,g1⟩,λb hb=>?_,q⟩
 simp only[yau,nN_,or_false]at hb
 have hb2:s1.heap.objs.size<=b:=by
  rcases hb with e|e<;>rw[e]
  ·exact ybD _ _
  ·exact yak _
 exact I1.fpOk hb2 (I1.hok.fresh hb2)
end
section
variable{X:Cx}{c:Fc}{a b e:Expr}{pos:Pos}{es:List Expr}{kk:Nat}{tp:Pos}
theorem qe9 {K:Fr0} {A:Addr->Prop} {H:Hp} {ds:List D} {xs:List V} {a1:Addr} (hA:A a1) (t1:H a1=some (.lst xs)) (i1:IsL K A H ds xs):qds K A H (uv 0 ds) (qk3 K a1 xs) where
 go:=λH' i d ex hd=>by
  have hl:i<(uv 0 ds).length:=(gI_.mp hd).1
  rw[y8,<-i1.length]at hl
  exact⟨hl,SqL.of (ex.at_ _ _ hA t1)⟩
 yl:=λH' i d x H'' ex hd y=>by
  obtain⟨p,u,hp,hu,rfl,rfl⟩:=y
  obtain⟨dx,h1,rfl⟩:=vX hd
  obtain⟨u',g1,g2⟩:=i1.get h1
  rw[hu]at g1
  cases g1
  have sm:=qv hp (.tup [.int i,u])
  exact⟨sm,p,[.int i,u],rfl,.inl qt,.int i,[u],rfl,by rw[yeG];rfl,u,[],rfl,Is.ext (Ext.of_same sm) (λ_ h _=>h) (Is.ext ex (λ_ h _=>h) g2),rfl⟩
 stop:=λH' ex=>⟨by rw[y8,i1.length],SqL.of (ex.at_ _ _ hA t1)⟩
def qf8:List D->Option (List D)
 | [.lst xs]=>some (uv 0 xs)
 |_=>none
def qb7(f:M (List D)):M (List D):=bnd f λds=>lift (qf8 ds)
theorem qfa {f:M (List D)} {p:Pos} (hg:Gl X "enumerate") (hm:X.mg "enumerate"=none) (ha:DA X c [a] f) (hs:yag [a] X.env=[(false,eval a X.env)]:=by rfl) :
  DI X c (.Tuple es kk tp) (.Call (.Name "enumerate" p) [a] [] pos) (qb7 f):=by
 obtain⟨t,pa,w⟩:=ha
 refine⟨_,qe8 hg hm pa hs,λZ σ H Q r h=>w Z σ H _ r (WpL.bndI h λds Z1 vs H1 r1 i1 g1 h1=>?_)⟩
 obtain⟨es',e,h2⟩:=uh h1
 unfold qf8 at e
 split at e
 ·obtain⟨v,rfl,j1⟩:=IsL.inv1 i1
  cases e
  obtain⟨a1,xs,rfl,hA,t1,il1⟩:=Is.tr j1
  exact⟨a1,xs,rfl,SqL.of t1,h2 _ H1 r1 (qe9 hA t1 il1) .refl⟩
 ·cases e
end
section
variable{X:Cx}{c:Fc}{pos:Pos}
end
section
variable{prog:yaj}{w:World}{A:yar}{E:Value->yaa->Prop}{s:yaa}
end
theorem uN.laid {A:yar} {H:Hp} {p:Addr} {o:HO} (x:uN A H) (h:H p=none):uN A (upd H p o):=by
 obtain⟨e,oe,u,vs,h1,h2,h3⟩:=x
 exact⟨e,oe,u,vs,h1,by rw[qu (qE h2 h)];exact h2,h3⟩
theorem uN.rep {K:Fr0} {c:Fc} {A:yar} (x:uN A c.H0) (hio:∀a,¬c.Io a) (Z:Env) (σ:St) (H:Hp) (r:Rep K c Z σ H):uN A H:=by
 obtain⟨e,oe,u,vs,h1,h2,h3⟩:=x
 exact⟨e,oe,u,vs,h1,r.kp _ _ h2 (hio e),h3⟩
end L2.Sk
namespace L2
open PySem PySem.Spec PyProof.Rows L2.Sk
structure qmr (P:yaj) (w:World) (K:yah) (tg:Expr) (J:It) (fp:List Addr) (it:Addr) (tn:Nat->Heap->Prop):Prop where
 mem:it∈fp
 obj:∀i h,tn i h->∀b∈fp,∃o,h.get? b=some o/\∀v,o.data ≠ .cell v
 keep:∀i h h',tn i h->(∀b∈fp,∀o,h.get? b=some o->h'.get? b=some o)->tn i h'
 item:∀(X:Cx),X.prog=P->X.w=w->X.K=K->uN X.A X.H₀->∀(i:Nat)(pins:List (Addr×Obj))(s:yaa)(σ:St)(H:Hp)(E:Value->yaa->Prop),Inv X pins σ H s->(∀b∈fp,qbR X pins H b)->tn i s.heap->J.go i H ->
  wpAny (model P w) X.A (ybY (.ref it)) (λr s1=>∃u,r=some u /\
   wpAny (model P w) X.A (ybL tg (.ref it) u) (λ_ s2=>∃x H',Inv X pins σ H' s2/\jm x u/\J.yld i H x H'/\tn (i+1) s2.heap/\∀b∈fp,H' b=none) E s1) E s
 done:∀(X:Cx),X.prog=P->X.w=w->X.K=K->uN X.A X.H₀->∀(i:Nat)(pins:List (Addr×Obj))(s:yaa)(σ:St)(H:Hp)(E:Value->yaa->Prop),Inv X pins σ H s->(∀b∈fp,qbR X pins H b)->tn i s.heap->J.stop i H ->
  wpAny (model P w) X.A (ybY (.ref it)) (λr s1=>r=none/\Inv X pins σ H s1) E s
 self:∀(A:yar)(i:Nat)(s:yaa)(Q:Value->yaa->Prop)(E:Value->yaa->Prop),tn i s.heap->Q (.ref it) s->wpAny (model P w) A (pyIter (.ref it)) Q E s
section
variable{X:Cx}{tg:Expr}
end
end L2
namespace L2.Sk
open PySem PySem.Spec PyProof.Rows
section
variable{X:Cx}{tg iter elt:Expr}{ifs:List Expr}{scope:Scope}{pos:Pos}{wi:TI}{N':List Str}{nt:Nat}{fr:List Nat}
end
section
variable{X:Cx}{c:Fc}{tg a b e:Expr}{pos:Pos}
end
theorem qaZ.units{k:Nat}{A:yar}(r:qaZ k A):A.units+64<cLine:=by have:=r.un;omega
section
variable{X:Cx}{c:Fc}{e:Expr}{es:List Expr}{pos:Pos}
end
section
variable{prog:yaj}{w:World}{A:yar}{R:ycT->yaa->Prop}{I:Addr}{fp wr:List Addr}{n:Nat}{P:Nat->Value->Prop}{St:Nat->Heap->Prop}{dv:Value}
end
section
variable{prog:yaj}{w:World}{A:yar}{E:Value->yaa->Prop}{s:yaa}
end
section
variable{prog:yaj}{w:World}{A:yar}{R:ycT->yaa->Prop}{I:Addr}{fp wr:List Addr}{n:Nat}{P:Nat->Value->Prop}{St:Nat->Heap->Prop}{dv:Value}
end
section
variable{prog:yaj}{w:World}{A:yar}{E:Value->yaa->Prop}{s:yaa}
end
section
variable{prog:yaj}{w:World}{A:yar}{E:Value->yaa->Prop}{s:yaa}
end
section
variable{X:Cx}
end
section
variable{X:Cx}{c:Fc}{a b e:Expr}{pos:Pos}
def qf9(F:List D->List D->Option D)(f g:M (List D)):M D:=bnd f λxs=>bnd g λzs=>lift (F xs zs)
end
def qms (xs zs:List D):Option D:=match xs,zs with
 | [.lst ds],[z]=>(yT ds).map λns=>if ns=[]then z else .int (qkW ns)
 |_,_=>none
def slB (x:D) (lo hi:Option Int):Option D:=match x with
 |.tup ds=>some (.tup (qkQ ds lo hi))
 |.lst ds=>some (.lst (qkQ ds lo hi))
 |_=>none
def qlF(f:M D)(g k:M (Option Int)):M D:=bnd f λd=>bnd g λl=>bnd k λu=>lift (slB d l u)
section
variable{X:Cx}{c:Fc}{a b e:Expr}{pos p2:Pos}
def qk4 (x y:D):Option (List D):=match x,y with
 |.lst ds,.int k=>if(decide (-(2 ^ 62)<=k)&&decide (k<2 ^ 62))&&(qG (ds.length*k.toNat)&&immL ds)then some (yav k.toNat ds).flatten else none
 |_,_=>none
def qlG(f g:M D):M (List D):=bnd f λx=>bnd g λy=>lift (qk4 x y)
def qmt (f:M D):M (List D):=bnd f λx=>lift (match x with
 |.lst ds=>if immL ds then some ds else none
 |.tup ds=>if immL ds then some ds else none
 |_=>none)
def qdP (i:Nat) (f:M D):M D:=λZ=>match zm i Z with
 |none => .bad
 |some _=>(bnd f λd Z=>match d,zm i Z with
  |.lst es,some ds=>if immL es&&qG (ds.length+es.length)then .ok (.non,Z.set i (some (.lst (ds++es))))else .bad
  |_,_ => .bad) Z
theorem qk5 {tg it:Expr} {f g h:M (List D)} (h1:DI X c tg it f) (h2:DI X c tg it g) (hh:∀Z,h Z=f Z\/h Z=g Z):DI X c tg it h:=by
 obtain⟨w1,p1,k1⟩:=h1
 obtain⟨w2,p2,k2⟩:=h2
 refine⟨λσ H R=>w1 σ H R\/w2 σ H R,λpins s σ H R I hw=>hw.elim (p1 pins s σ H R I) (p2 pins s σ H R I),λZ σ H Q r hw=>?_⟩
 rcases hh Z with e|e
 ·exact .inl (k1 Z σ H Q r (by rw[<-e];exact hw))
 ·exact .inr (k2 Z σ H Q r (by rw[<-e];exact hw))
def qa0 (f:M (List D)):M (List D):=λZ=>match f Z with
 |.ok ([.tup _],_)=>qe1 f Z
 |_=>qb7 f Z
theorem qfb {es:List Expr} {kk:Nat} {tp p:Pos} {f:M (List D)} (hg:Gl X "enumerate") (hm:X.mg "enumerate"=none) (ha:DA X c [a] f) (hs:yag [a] X.env=[(false,eval a X.env)]:=by rfl) :
  DI X c (.Tuple es kk tp) (.Call (.Name "enumerate" p) [a] [] pos) (qa0 f):=qk5 (qhh hg hm ha hs) (qfa hg hm ha hs) (λZ=>by
 unfold qa0
 split
 ·exact .inl rfl
 ·exact .inr rfl)
theorem qdQ {body:List Stmt} {t:M Bool} {b:MS} (N:Nat) (hp:ydE (model X.prog X.w) X.A X.env X.xe) (ht:DT X c e t) (hb:DSs X c body b):DS X c (.While e body [] pos) (y9 t b N):=by
 obtain⟨t',p,w⟩:=qe2 (pos:=pos) hp ht hb
 refine⟨t',p,λZ σ H D r h=>w Z σ H D r ?_⟩
 by_cases hbad:y9 t b N Z=.bad
 ·rw[hbad]at h;exact h.elim
 ·rw[qdO rfl hbad];exact h
end
section
variable{Z:Env}{f g:M D}{l k:M (List D)}
theorem qkk (F:List D->List D->Option D):qf9 F l k Z=match l Z with|.ok (xs,Z1)=>(match k Z1 with|.ok (zs,Z2)=>(match F xs zs with|some d => .ok (d,Z2)|none => .bad)|.exc x Z' => .exc x Z'|.bad => .bad)|.exc x Z' => .exc x Z'|.bad => .bad:=by
 simp only[qf9,bnd]
 cases l Z with
 |ok z=>
  obtain⟨z1,Z1⟩:=z
  dsimp only
  cases k Z1 with
  |ok z=>obtain⟨z2,Z2⟩:=z;(dsimp only;cases F z1 z2<;>rfl)
  |exc x Z'=>rfl
  |bad=>rfl
 |exc x Z'=>rfl
 |bad=>rfl
theorem qlH:qlG f g Z=match f Z with|.ok (x,Z1)=>(match g Z1 with|.ok (y,Z2)=>(match qk4 x y with|some ds => .ok (ds,Z2)|none => .bad)|.exc x Z' => .exc x Z'|.bad => .bad)|.exc x Z' => .exc x Z'|.bad => .bad:=by
 simp only[qlG,bnd]
 cases f Z with
 |ok z=>
  obtain⟨z1,Z1⟩:=z
  dsimp only
  cases g Z1 with
  |ok z=>obtain⟨z2,Z2⟩:=z;(dsimp only;cases qk4 z1 z2<;>rfl)
  |exc x Z'=>rfl
  |bad=>rfl
 |exc x Z'=>rfl
 |bad=>rfl
theorem qjx (i:Nat):qdP i f Z=match zm i Z with
  |none => .bad
  |some _=>(match f Z with|.ok (d,Z1)=>(match d,zm i Z1 with|.lst es,some ds=>(if immL es&&qG (ds.length+es.length)then .ok (.non,Z1.set i (some (.lst (ds++es))))else .bad)|_,_ => .bad)|.exc x Z' => .exc x Z'|.bad => .bad):=by
 unfold qdP
 cases zm i Z with
 |none=>rfl
 |some z=>
  simp only[bnd]
  cases f Z with
  |ok z=>obtain⟨z1,Z1⟩:=z;rfl
  |exc x Z'=>rfl
  |bad=>rfl
theorem qlI (p q:M (Option Int)):qlF f p q Z=match f Z with|.ok (d,Z1)=>(match p Z1 with|.ok (l,Z2)=>(match q Z2 with|.ok (u,Z3)=>(match slB d l u with|some r => .ok (r,Z3)|none => .bad)|.exc x Z' => .exc x Z'|.bad => .bad)|.exc x Z' => .exc x Z'|.bad => .bad)|.exc x Z' => .exc x Z'|.bad => .bad:=by
 simp only[qlF,bnd]
 cases f Z with
 | ok z=>
  obtain⟨z1,Z1⟩:=z
  dsimp only
  cases p Z1 with
  |ok z=>
   obtain⟨z2,Z2⟩:=z
   dsimp only
   cases q Z2 with
   |ok z=>obtain⟨z3,Z3⟩:=z;(dsimp only;cases slB z1 z2 z3<;>rfl)
   |exc x Z'=>rfl
   |bad=>rfl
  |exc x Z'=>rfl
  |bad=>rfl
 |exc x Z'=>rfl
 |bad=>rfl
end
section
variable{X:Cx}{c:Fc}{e:Expr}{es:List Expr}{pos:Pos}
theorem dC {k j:Nat} {ps:List Str} {F:List D->R D} {x:Str} {p:Pos} {g:M (List D)} (C:qJ X.prog X.w X.K X.mg X.base k x ps (spD X.K F)) (hr:uE j X.A) (ha:DA X c (e::es) g)
  (hk:k<=j:=by decide) (hg:Gl X x:=by rfl) (hd:(x==("__debug__":Str))=false:=by decide) (he:yag (e::es) X.env=(false,eval e X.env)::yag es X.env:=by rfl) (hpl:(yaE pos (yag es X.env)).any (·.1)=false:=by rfl):DE X c (.Call (.Name x p) (e::es) [] pos) (qd F g):=by
 obtain⟨f,fd,G,m,kk,b⟩:=C.ex
 exact qgU G (hr.mono hk) hg m kk b ha hd he hpl
theorem nC {k j:Nat} {ps:List Str} {F:List D->R D} {x:Str} {p:Pos} {g:M (List D)} (C:qJ X.prog X.w X.K X.mg X.base k x ps (spD X.K F)) (hr:uE j X.A) (ha:DA X c (e::es) g)
  (hk:k<=j:=by decide) (hg:Gl X x:=by rfl) (hd:(x==("__debug__":Str))=false:=by decide) (he:yag (e::es) X.env=(false,eval e X.env)::yag es X.env:=by rfl) (hpl:(yaE pos (yag es X.env)).any (·.1)=false:=by rfl):DN X c (.Call (.Name x p) (e::es) [] pos) (qaT F g):=by
 obtain⟨f,fd,G,m,kk,b⟩:=C.ex
 exact qg2 G (hr.mono hk) hg m kk b ha hd he hpl
theorem iC {k j i:Nat} {ps:List Str} {F:List D->List D->R (D×List D)} {x y:Str} {p p1:Pos} {g:M (List D)} (C:qJ X.prog X.w X.K X.mg X.base k x ps (qcW X.K F)) (hr:uE j X.A) (ha:DA X c es g)
  (hk:k<=j:=by decide) (hg:Gl X x:=by rfl) (ho:i∈c.O:=by exact of_decide_eq_true rfl) (hN:X.N[i]? = some y:=by rfl) (hv:Vis X.env.scope y:=by first|exact ya0 rfl|exact yaF (ya0 rfl)|exact yaF (yaF rfl)) (hdy:(y==("__debug__":Str))=false:=by decide) (hcd:(y==("__classdict__":Str))=false:=by decide)
  (hd:(x==("__debug__":Str))=false:=by decide) (he:yag (.Name y p1::es) X.env=(false,eval (.Name y p1) X.env)::yag es X.env:=by rfl) (hpl:(yaE pos (yag es X.env)).any (·.1)=false:=by rfl):DE X c (.Call (.Name x p) (.Name y p1::es) [] pos) (qk F i g):=by
 obtain⟨f,fd,G,m,kk,b⟩:=C.ex
 exact qdz G (hr.mono hk) hg m kk b ha ho hN hv hdy hcd hd he hpl
theorem gI {x:Str} {i:Int} (h:∃t,X.mg x=some (.int i t)) (hg:Gl X x:=by rfl) (hd:(x==("__debug__":Str))=false:=by decide):DE X c (.Name x pos) (ret (.int i)):=by
 obtain⟨t,h⟩:=h
 exact qdh (v:=.int i) (d:=.int i) hg h ⟨_,rfl⟩ (λ_ _=>rfl) hd
theorem gS {x y:Str} (h:∃t,X.mg x=some (.str y t)) (hg:Gl X x:=by rfl) (hd:(x==("__debug__":Str))=false:=by decide):DE X c (.Name x pos) (ret (.str y)):=by
 obtain⟨t,h⟩:=h
 exact qdh (v:=.str y) (d:=.str y) hg h ⟨_,rfl⟩ (λ_ _=>rfl) hd
end
theorem nd(N:List Str)(h:N.Nodup:=by decide +kernel):N.Nodup:=h
theorem cs {X:Cx} (N N':List Str) (nt:Nat) (fr:List Nat) (outer:Scope) {scope:Scope} (h0:scope.kind=.function:=by rfl) (h1:∀y∈scope.names,y.2 ≠ .cell:=by decide +kernel) (h2:∀y∈scope.names,y.2=.local->scope.names.lookup y.1=some .local:=by decide +kernel)
  (h3:∀y∈scope.names,y.2=.free->outer.names.lookup y.1=some .cell:=by decide +kernel) (h4:N'.length=nt+fr.length:=by rfl) (h5:∀p∈fr.zipIdx,N'[nt+p.2]? = N[p.1]? /\ ((N[p.1]?).bind λx=>scope.names.lookup x)=some .free:=by decide +kernel)
  (h6:X.env.scope=outer:=by rfl) (h7:X.N=N:=by rfl):yX X scope N' nt fr:=qg3.ok (outer:=outer) (N:=N) ⟨h0,h1,h2,h3,h4,h5⟩ h6 h7
theorem f0{c:Fc}{nt:Nat}(fr O:List Nat)(e:c.O=O:=by rfl)(h:∀j∈fr,j ∉ O:=by decide):qh0 c nt fr none:=λj hj=>by rw[e];exact h j hj
theorem f1 {c:Fc} (nt:Nat) (fr O:List Nat) (i j:Nat) (e:c.O=O:=by rfl) (h1:j∈O:=by decide) (h2:nt<=i:=by decide) (h3:fr[i-nt]? = some j:=by rfl) (h4:∀p∈fr.zipIdx,nt+p.2≠i->p.1 ∉ O:=by decide):qh0 c nt fr (some (i,j)) :=
 qg5 (by rw[e];exact h1) h2 h3 (by rw[e];exact h4)
section
variable{X:Cx}{c:Fc}
end
end L2.Sk
namespace L2.Sk
open PySem PySem.Spec PyProof.Rows
section
variable{X:Cx}{c:Fc}{a b e:Expr}{pos:Pos}
def qdR (i:Nat) (f:M D):M D:=λZ=>match zm i Z with
 |none => .bad
 |some _=>(bnd f λd Z=>match zm i Z with
  |some ds=>if qG (ds.length+1)then .ok (.non,Z.set i (some (.lst (d::ds))))else .bad
  |none => .bad) Z
end
section
variable{prog:yaj}{w:World}{A:yar}{E:Value->yaa->Prop}{s:yaa}
end
section
variable{X:Cx}{c:Fc}{a e:Expr}{pos:Pos}{tg:Expr}
def qk6:List D->Option (List D)
 | [.tup xs]=>some xs.reverse
 |_=>none
def qlJ(f:M (List D)):M (List D):=bnd f λds=>lift (qk6 ds)
theorem qlK {l:M (List D)} {Z:Env}:qlJ l Z=match l Z with|.ok (d,Z1)=>(match qk6 d with|some ds => .ok (ds,Z1)|none => .bad)|.exc x Z' => .exc x Z'|.bad => .bad:=by
 simp only[qlJ,bnd]
 cases l Z with
 |ok z=>obtain⟨z1,Z1⟩:=z;(dsimp only;cases qk6 z1<;>rfl)
 |exc x Z'=>rfl
 |bad=>rfl
theorem qjy {f:M D} {Z:Env} (i:Nat):qdR i f Z=match zm i Z with
  |none => .bad
  |some _=>(match f Z with
   |.ok (d,Z1)=>(match zm i Z1 with|some ds=>(if qG (ds.length+1)then .ok (.non,Z1.set i (some (.lst (d::ds))))else .bad)|none => .bad)
   |.exc x Z' => .exc x Z'|.bad => .bad):=by
 unfold qdR
 cases zm i Z with
 |none=>rfl
 |some z=>
  simp only[bnd]
  cases f Z with
  |ok z=>obtain⟨z1,Z1⟩:=z;rfl
  |exc x Z'=>rfl
  |bad=>rfl
end
end L2.Sk
namespace HT
open PySem PySem.Spec PyProof.Rows
section
variable{prog:yaj}{w:World}{A:yar}{E:Value->yaa->Prop}{s:yaa}
end
end HT
namespace L2
open PySem PySem.Spec PyProof.Rows
section
variable{X:Cx}{e:Expr}{te:TE}{ste:Expr}{ts:TO}{pos p2:Pos}
end
end L2
namespace L2.Sk
open PySem PySem.Spec PyProof.Rows
theorem IsL.rev {K:Fr0} {A:Addr->Prop} {H:Hp}:∀{ds:List D}{xs:List V},IsL K A H ds xs->IsL K A H ds.reverse xs.reverse:=by
 intro ds
 induction ds with
 |nil=>
  intro xs h
  cases xs with
  |nil=>exact h
  |cons x xs=>exact absurd h.length (by simp)
 |cons d ds ih=>
  intro xs h
  obtain⟨x,ys,rfl,h1,h2⟩:=h
  rw[yci,yci]
  have one:IsL K A H [d] [x]:=⟨x,[],rfl,h1,IsL.take 0 h2⟩
  exact IsL.append (ih h2) one
def qk7:D->Option D
 |.tup ds=>some (.tup ds.reverse)
 |.lst ds=>some (.lst ds.reverse)
 |_=>none
def qjz(f:M D):M D:=bnd f λd=>lift (qk7 d)
section
variable{X:Cx}{c:Fc}{a:Expr}{pos p2 p3 p4:Pos}{cj:Nat}
theorem qk8 {f:M D} {Z:Env}:qjz f Z=match f Z with|.ok (d,Z1)=>(match qk7 d with|some x => .ok (x,Z1)|none => .bad)|.exc x Z' => .exc x Z'|.bad => .bad:=by
 simp only[qjz,bnd]
 cases f Z with
 |ok z=>obtain⟨z1,Z1⟩:=z;(dsimp only;cases qk7 z1<;>rfl)
 |exc x Z'=>rfl
 |bad=>rfl
end
section
variable{X:Cx}{c:Fc}
end
end L2.Sk
namespace L2
open PySem PySem.Spec PyProof.Rows
section
variable{X:Cx}{pins:List (Addr×Obj)}{σ:St}{H:Hp}{s:yaa}
end
end L2
namespace L2.Srt
open PySem PySem.W PyProof.Rows
def runK {α:Type} (cmp:Nat->Nat->Bool):KasT α->α
 |.ret a=>a
 |.ask i j k=>runK cmp (k (cmp i j))
def Fits {α:Type} (n:Nat) (R:α->Prop):KasT α->Prop
 |.ret a=>R a
 |.ask i j k=>i<n/\j<n/\∀b,Fits n R (k b)
theorem Fits.bind {α β:Type} {n:Nat} {R:α->Prop} {R':β->Prop} {f:α->KasT β} (hf:∀a,R a->Fits n R' (f a)):∀{t:KasT α},Fits n R t->Fits n R' (t.bind f)
 |.ret _,h=>hf _ h
 |.ask _ _ _,⟨h1,h2,h3⟩=>⟨h1,h2,λb=>Fits.bind hf (h3 b)⟩
theorem Fits.run {α:Type} {n:Nat} {R:α->Prop} {cmp:Nat->Nat->Bool}:∀{t:KasT α},Fits n R t->R (runK cmp t)
 |.ret _,h=>h
 |.ask i j k,h=>Fits.run (t:=k (cmp i j)) (h.2.2 (cmp i j))
def Pl(n:Nat)(p:Array Nat):Prop:=p.size=n/\p.toList.Perm (yaY n)
theorem Pl.of_perm{n:Nat}{p q:Array Nat}(h:Pl n p)(hq:q.Perm p):Pl n q:=⟨hq.size_eq.trans h.1,(Array.perm_iff_toList_perm.mp hq).trans h.2⟩
theorem Pl.lt {n:Nat} {p:Array Nat} (h:Pl n p) (hn:0<n) (k:Nat):p.getD k 0<n:=by
 by_cases hk:k<p.size
 ·have e:p.getD k 0=p[k]:=by simp[Array.getD,hk]
  rw[e]
  have hm:p[k]∈p.toList:=by simp
  exact mR_.mp (h.2.mem_iff.mp hm)
 ·have e:p.getD k 0=0:=by simp[Array.getD,hk]
  rw[e];exact hn
theorem Pl.rev{n:Nat}{p:Array Nat}(h:Pl n p)(i j:Nat):Pl n (kas_rev p i j):=h.of_perm (mirror_perm _ _ _ _)
theorem qad {n:Nat} (hn:0<n) {p:Array Nat} (h:Pl n p):∀f m,Fits n (λ_=>True) (kas_asc p f m)
 |0,_=>ybM
 |f+1,m=>⟨h.lt hn _,h.lt hn _,λc=>by
  dsimp only
  split
  ·exact ybM
  ·exact qad hn h f (m+1)⟩
theorem uO {n:Nat} (hn:0<n):∀f {p:Array Nat} (_:Pl n p) m q,Fits n (λr=>Pl n r.1) (kas_desc f p m q)
 |0,_,h,_,_=>h
 | f+1,p,h,m,q=>⟨h.lt hn _,h.lt hn _,λc=>by
  dsimp only
  split
  ·split
   ·exact uO hn f (h.rev _ _) _ _
   ·exact uO hn f h _ _
  ·refine⟨h.lt hn _,h.lt hn _,λd=>?_⟩
   dsimp only
   split
   ·exact h
   ·exact uO hn f h _ _⟩
theorem wJ {n:Nat} (hn:0<n) {p:Array Nat} (h:Pl n p) (m nrem:Nat):Fits n (λr=>Pl n r.2) (kas_tail3 m nrem p) :=
 Fits.bind (R:=λ_=>True) (n:=n) (R':=λr:Nat×Array Nat=>Pl n r.2) (f:=λk => .ret (k,kas_rev p 0 m)) (λ_ _=>h.rev 0 m) (qad hn (h.rev _ _) _ _)
theorem uP {n:Nat} (hn:0<n) {p:Array Nat} (h:Pl n p) (m nrem:Nat):Fits n (λr=>Pl n r.2) (kas_descPart m nrem p) :=
 Fits.bind (R:=λr=>Pl n r.1) (λr hr=>by
  split
  ·exact wJ hn (hr.rev _ _) _ _
  ·exact wJ hn hr _ _) (uO hn _ h _ _)
theorem qcG {n:Nat} (hn:0<n) {p:Array Nat} (h:Pl n p) (nrem:Nat):Fits n (λr=>Pl n r.2) (kas_count nrem p) :=
 Fits.bind (R:=λ_=>True) (λm _=>by
  split
  ·exact h
  ·split
   ·refine⟨h.lt hn _,h.lt hn _,λc=>?_⟩
    dsimp only
    split
    ·exact h
    ·exact uP hn (h.rev _ _) _ _
   ·exact uP hn h _ _) (qad hn h _ _)
theorem uX {n:Nat} (hn:0<n) {p:Array Nat} (h:Pl n p) (k:Nat):∀f l r,Fits n (λ_=>True) (kas_place p k f l r)
 |0,_,_=>ybM
 | f+1,l,r=>by
  unfold kas_place
  split
  ·exact ybM
  ·refine⟨h.lt hn _,h.lt hn _,λc=>?_⟩
   dsimp only
   split
   ·exact uX hn h k f _ _
   ·exact uX hn h k f _ _
theorem qb8 {n:Nat} (hn:0<n):∀f {p:Array Nat} (_:Pl n p) k,Fits n (Pl n) (kas_bin f p k)
 |0,_,h,_=>h
 |f+1,p,h,k=>Fits.bind (R:=λ_=>True) (λl _=>qb8 hn f (h.of_perm (bubble_perm _ _ _)) _) (uX hn h k _ _ _)
theorem fits_sort {n:Nat} (hn:0<n):Fits n (Pl n) (kas_sort n) :=
 Fits.bind (R:=λr=>Pl n r.2) (λr hr=>by
  split
  ·exact qb8 hn _ hr _
  ·exact hr) (qcG hn ⟨by simp,by simp⟩ _)
def ord(ks:List Int):List Nat:=if ks.length<2 then yaY ks.length else(runK (λi j=>decide (ks.getD i 0<ks.getD j 0)) (kas_sort ks.length)).toList
theorem ord_perm (ks:List Int):(ord ks).Perm (yaY ks.length):=by
 unfold ord
 split
 ·exact .refl _
 ·exact(Fits.run (fits_sort (by omega))).2
theorem map_getD_range {α:Type} (d:α) (xs:List α):(yaY xs.length).map (λi=>xs.getD i d)=xs:=by
 refine List.ext_getElem (by simp) λi h1 h2=>?_
 simp at h1 |-
 simp[h1]
section
variable{prog:yaj}{w:World}{A:yar}{s:yaa}
end
end L2.Srt
set_option maxHeartbeats 1000000
namespace L2
open PySem PySem.Spec PyProof.Rows
structure SS (X:Cx) (H0:Hp) (s0:yaa) (H:Hp) (s:yaa):Prop where
 os:s.os=s0.os
 bare:yb0 s.gens
 un:Un (frs X.stack) [] H0 H s0.heap s.heap
 hok:HOk X.prog X.w H s.heap
 same:zK H0 H
section
variable{X:Cx}{pins:List (Addr×Obj)}{σ:St}{H0 H:Hp}{s0 s:yaa}{h':Heap}{b a kS:Addr}
theorem SS.kept (z:SS X H0 s0 H s) (k:∀b u,s.heap.get? b=some u->h'.get? b=some u) (tk:Nat):SS X H0 s0 H {s with heap:=h',toks:=tk} :=
 ⟨z.os,z.bare,z.un.trans (Un.kept k),z.hok.kept k,z.same⟩
theorem SS.poke (z:SS X H0 s0 H s) (hb:H b=none) (hb0:s0.heap.objs.size<=b) (sb:ybA b s.heap h') (tk:Nat):SS X H0 s0 H {s with heap:=h',toks:=tk}:=by
 have ne:∀c o,s0.heap.get? c=some o->c≠b:=λc o e=>yat (yaw (yac e) hb0)
 refine⟨z.os,z.bare,⟨λc o e n f x=>(sb.2 c (ne c o e)).trans (z.un.keep c o e n f x),λc o e n f x=>?_,z.un.free,λc o e x=>?_,z.un.tups,z.un.frzs,z.un.tbls⟩,λc u q=>?_,z.same⟩
 ·obtain⟨sl,q⟩:=z.un.slot c o e n f x
  exact⟨sl,(sb.2 c (ne c o e)).trans q⟩
 ·obtain⟨o',q⟩:=z.un.there c o e x
  exact⟨o',(sb.2 c (ne c o e)).trans q⟩
 ·refine(z.hok c u q).stay (λd v hd r=>(sb.2 d ?_).trans r) (λ_ q=>q) λ_ _ q=>q
  rintro rfl
  rcases hd with rfl|hd
  ·rw[hb]at q;cases q
  ·rw[hb]at hd;cases hd
end
section
variable{X:Cx}{H0 H:Hp}{s0 s:yaa}{a kS:Addr}{A:yar}{E:Value->yaa->Prop}{f:Value}{vs:List Value}{ks:List Int}{e1:Nat}{P:yeH->yaa->Prop}
abbrev qga(ks:List Int)(vs:List Value):List Value:=(Srt.ord ks).map λi=>vs.getD i yaD
theorem qfc (h:ks.length=vs.length):(qga ks vs).length=vs.length:=by
 rw[lM_,(Srt.ord_perm ks).length_eq,ydg,h]
abbrev qjA (X:Cx) (H0:Hp) (s0:yaa) (a:Addr) (out:List Value) (P:yeH->yaa->Prop):Prop :=
 ∀H' s' c,SS X H0 s0 H' s'->H' a=none->s'.heap.get? a=some (ycc "list" out.toArray c)->P (.done (.ret .none)) s'
end
section
variable{X:Cx}{pins:List (Addr×Obj)}{σ:St}{H:Hp}{s:yaa}{l f:Addr}{vs:List Value}{ks:List Int}{Q:Value->yaa->Prop}{E:Value->yaa->Prop}
end
end L2
set_option maxHeartbeats 1000000
namespace L2
open PySem PySem.Spec PyProof.Rows
section
variable{X:Cx}{N':List Str}{fr:List Nat}{q x:Str}{params:yew}{body:Expr}{scope:Scope}{k:Nat}
end
end L2
namespace L2.Sk
open PySem PySem.Spec PyProof.Rows
def qlL (Z:Env):List Nat->Option (List D)
 | []=>some []
 |j::fr=>match Z[j]?,qlL Z fr with
  |some (some d),some ds=>some (d::ds)
  |_,_=>none
def qjB (g:M D) (n:Nat) (cs:List D):List D->Option (List Int)
 | []=>some []
 |d::ds=>match g (uu n (d::cs)),qjB g n cs ds with
  |.ok (.int k,_),some ks=>some (k::ks)
  |_,_=>none
def qhl(l:List Nat)(ds:List D):List D:=l.map λi=>ds.getD i .non
def qlM (n:Nat) (fr:List Nat) (f g:M D):M D:=bnd f λd Z=>match d with
 | .lst ds=>if ds.length<64 then match qlL Z fr with
   |some cs=>match qjB g n cs ds with
    |some ks => .ok (.lst (qhl (Srt.ord ks) ds),Z)
    |none => .bad
   |none => .bad
  else .bad
 |_ => .bad
section
variable{X:Cx}{c:Fc}{e:Expr}{p pos kpos lpos:Pos}{N':List Str}{fr:List Nat}{x:Str}{params:yew}{body:Expr}{scope:Scope}{k:Nat}{c0 Pt:Addr}
end
end L2.Sk
namespace L2
open PySem PySem.Spec PyProof.Rows
theorem walk_lam {l:ydJ} {n k:Nat} {q:yaj} {loose:List Str} {XP:(Str->Option Value)->Heap->Prop} {YP:World->Heap->Prop} {d:DefRec} {K:Params->yah} {CX:World->CXT} {sp:World->Sp} {x:Str}
  (hn:l.most=some n) (hn2:n<=yaq) (hdf:d.params.defaults=[]) (hr:uE k ydp)
  (hY:∀(w:World)(h:Heap),YP w h->(K w.params).In h) {lm:World->Option (Addr×Addr×Pos×Str)}
  (hlm:∀(w:World)(mean:ExcName->Option Value)(mg mb:Str->Option Value)(h:Heap)(c Pt:Addr)(pos:Pos)(z:Str),Top q (PySem.W.looseW q loose) mean mg mb h->(K w.params).In h->lm w=some (c,Pt,pos,z) ->
   yd1 h c Pt/\h.get? Pt=some (yd2 #[])/\(K w.params).lookup Pt=none)
  (F : ∀(w:World)(mg:Str->Option Value)(fa:Addr)(h:Heap),(K w.params).In h->h.Ns yad mg->mg d.name=some (.ref fa) ->
   ∃ fd:yaO,(∀(s:yaa)(u:Value),ydo s fd ⟨[u],[]⟩ [(x,u)]) /\
    ∀base:Heap,(K w.params).In base->base.Ns yad mg->wD l.prog w (K w.params) mg base (CX w) k fa fd [x] (sp w))
  (hsp:∀(w:World)(H:Hp)(a:Addr)(ns:List Int),ns.length<=n->qkd H->(∀c Pt pos z,lm w=some (c,Pt,pos,z)->H Pt=some (.lam pos z))->SqL (K w.params) H a (ns.map V.int)->sp w [.ref a] H (λv _=>v=.bl true) λ_ _ _=>False)
  (hCX:∀(w:World)(H:Hp)(s:yaa)(e:Value)(s':yaa),CX w [] H s (λ_ _ _=>False) e s'->False) :
  PySem.W.WalkO q loose XP YP l.row.toRowW d [] (λf vs=>yeY f vs):=by
 refine Att.attach_call hn hdf λw s₀ sJ mg mb fa o pm cd doc a vs ns G Y ho hd hcd hmg hobj hints hlen hg=>?_
 have KX:=hY w _ Y
 obtain⟨fd,hb,hF⟩:=F w mg fa _ KX G.T.g hmg
 exact qeD (lm:=lm w) KX G.T.g G.T.b G.T.builtins G.T.nolimit G.T.bmain (λc Pt pos z=>hlm w _ mg mb _ c Pt pos z G.T KX) hg hobj hints (ya4 hlen hn2) hr hF hb (λH hO hT hS=>hsp w H a ns hlen hO hT hS) λH e s'=>hCX w H sJ e s'
end L2
namespace L2.Sk
open PySem PySem.Spec PyProof.Rows
section
variable{P:yaj}{w:World}{K:yah}{mg:Str->Option Value}{base:Heap}
end
section
variable{X:Cx}{c:Fc}{a b e:Expr}{pos:Pos}
def qk9 (i:Nat) (f:M D):M D:=λZ=>match zm i Z with
 |none => .bad
 | some _=>(bnd f λd Z=>match d,(zm i Z).bind yT with
  |.int b,some ns=>match ns.findIdx? (·==b) with
   |some j => .ok (.non,Z.set i (some (.lst ((ns.eraseIdx j).map D.int))))
   |none => .bad
  |_,_ => .bad) Z
end
end L2.Sk
namespace L2.Sk
open PySem PySem.Spec PyProof.Rows
section
variable{X:Cx}
theorem qfd:OpR X (yaJ .IsNot) (λx y H Q=>∃a b,x=.bl a/\y=.bl b/\Q (.bl (a != b)) H):=by
 intro pins s σ H x y v u Q I rx ry h
 obtain⟨a,b,rfl,rfl,q⟩:=h
 cases rx
 cases ry
 exact isnot_bool (qK I q rfl)
end
def qmS:D->D->Option D
 |.bl a,.bl b=>some (.bl (a==b))
 |_,_=>none
def qby:D->D->Option D
 |.bl a,.bl b=>some (.bl (a != b))
 |_,_=>none
theorem qdS {K:Fr0}:OpS K qby (λx y H Q=>∃a b,x=.bl a/\y=.bl b/\Q (.bl (a != b)) H):=by
 intro A H x y d v u Q hn ix iy e k
 cases x<;>cases y<;>simp only[qby]at e<;>first
  |(cases e;done)
  |(cases ix;cases iy;cases e;exact⟨_,_,rfl,rfl,k _ H (zK.refl H) rfl⟩)
end L2.Sk
namespace L2
open PySem PySem.Spec PyProof.Rows
section
variable{X:Cx}{pos:Pos}
end
end L2
namespace L2.Sk
open PySem PySem.Spec PyProof.Rows
section
variable{X:Cx}{c:Fc}
end
end L2.Sk
set_option maxHeartbeats 1000000
namespace L2
open PySem PySem.Spec PyProof.Rows
abbrev uQ:=Int×Int×List Int
def lt3(x y:uQ):Bool:=if x.1=y.1 then if x.2.1=y.2.1 then HT.lexLt x.2.2 y.2.2 else decide (x.2.1<y.2.1)else decide (x.1<y.1)
theorem qbz:∀a:List Int,HT.lexLt a a=false
 | []=>rfl
 |x::a=>by rw[HT.lexLt_cons,if_pos rfl];exact qbz a
theorem qb9:∀a b:List Int,HT.lexLt a b=true->HT.lexLt b a=false
 | [],[],_=>rfl
 | [],_::_,_=>rfl
 |_::_,[],h=>by cases h
 | x::a,y::b,h=>by
  rw[HT.lexLt_cons]at h |-
  by_cases c:x=y
  ·subst c
   rw[if_pos rfl]at h |-
   exact qb9 a b h
  ·rw[if_neg c]at h
   rw[if_neg λz=>c z.symm]
   have:=of_decide_eq_true h
   exact decide_eq_false (by omega)
theorem qdT:∀a b c:List Int,HT.lexLt a c=true->HT.lexLt a b=true\/HT.lexLt b c=true
 |a,[],[],h=>by cases a<;>cases h
 |_,[],_::_,_ => .inr rfl
 | [],_::_,_,_ => .inl rfl
 |_::_,_::_,[],h=>by cases h
 | x :: a,y::b,z::c,h=>by
  rw[HT.lexLt_cons]at h
  rw[HT.lexLt_cons,HT.lexLt_cons]
  by_cases e1:x=y
  ·subst e1
   by_cases e2:x=z
   ·rw[if_pos e2]at h |-
    rw[if_pos rfl]
    exact qdT a b c h
   ·rw[if_neg e2]at h |-
    exact .inr h
  ·by_cases e2:y=z
   ·subst e2
    rw[if_neg e1]at h |-
    exact .inl h
   ·rw [if_neg e1,if_neg e2]
    by_cases e3:x=z
    ·subst e3
     simp only[decide_eq_true_eq]
     omega
    ·rw[if_neg e3]at h
     simp only[decide_eq_true_eq]at h |-
     omega
theorem qhm(x:uQ):lt3 x x=false:=by unfold lt3;rw[if_pos rfl,if_pos rfl];exact qbz _
theorem qfe (x y:uQ) (h:lt3 x y=true):lt3 y x=false:=by
 unfold lt3 at h |-
 by_cases c:x.1=y.1
 ·rw [if_pos c]at h;rw[if_pos c.symm]
  by_cases d:x.2.1=y.2.1
  ·rw[if_pos d]at h;rw[if_pos d.symm];exact qb9 _ _ h
  ·rw[if_neg d]at h;rw[if_neg λz=>d z.symm]
   have:=of_decide_eq_true h
   exact decide_eq_false (by omega)
 ·rw[if_neg c]at h;rw[if_neg λz=>c z.symm]
  have:=of_decide_eq_true h
  exact decide_eq_false (by omega)
theorem qdU (x y z:uQ) (h:lt3 x z=true):lt3 x y=true\/lt3 y z=true:=by
 obtain⟨x1,x2,x3⟩:=x
 obtain⟨y1,y2,y3⟩:=y
 obtain⟨z1,z2,z3⟩:=z
 unfold lt3 at h |-
 dsimp only at h |-
 by_cases e1:x1=y1
 ·subst e1
  by_cases e2:x1=z1
  ·rw [if_pos e2]at h |-
   rw[if_pos rfl]
   by_cases f1:x2=y2
   ·subst f1
    by_cases f2:x2=z2
    ·rw[if_pos f2]at h |-
     rw[if_pos rfl]
     exact qdT _ _ _ h
    ·rw[if_neg f2]at h |-
     exact .inr h
   ·by_cases f2:y2=z2
    ·subst f2
     rw[if_neg f1]at h |-
     exact .inl h
    ·rw [if_neg f1,if_neg f2]
     by_cases f3:x2=z2
     ·subst f3
      simp only[decide_eq_true_eq]
      omega
     ·rw[if_neg f3]at h
      simp only[decide_eq_true_eq]at h |-
      omega
  ·rw[if_neg e2]at h |-
   exact .inr h
 ·by_cases e2:y1=z1
  ·subst e2
   rw[if_neg e1]at h |-
   exact .inl h
  ·rw [if_neg e1,if_neg e2]
   by_cases e3:x1=z1
   ·subst e3
    simp only[decide_eq_true_eq]
    omega
   ·rw[if_neg e3]at h
    simp only[decide_eq_true_eq]at h |-
    omega
def qbA(ks:List uQ)(k:uQ):Int:=((ks.countP λy=>lt3 y k:Nat):Int)
def yc(ks:List uQ):List Int:=ks.map (qbA ks)
theorem qhn {ks:List uQ} {x y:uQ} (hx:x∈ks):decide (qbA ks x<qbA ks y)=lt3 x y:=by
 have mono:∀(p q:uQ->Bool)(l:List uQ),(∀z,p z=true->q z=true)->l.countP p<=l.countP q:=λp q l h=>List.countP_mono_left λz _=>h z
 cases c:lt3 x y with
 | true=>
  apply decide_eq_true
  have sub:∀z,lt3 z x=true->lt3 z y=true:=λz hz=>by
   rcases qdU z y x hz with h|h
   ·exact h
   ·rw[qfe x y c]at h;cases h
  have strict:∀l:List uQ,x∈l->l.countP (λz=>lt3 z x)<l.countP (λz=>lt3 z y):=λl=>by
   induction l with
   |nil=>intro h;cases h
   | cons a l ih=>
    intro h
    rw[List.countP_cons,List.countP_cons]
    rcases List.mem_cons.mp h with rfl|h
    ·rw[qhm,c]
     have:=mono (λz=>lt3 z x) (λz=>lt3 z y) l sub
     simp only[yaN,if_false,if_true]
     omega
    ·have:=ih h
     cases d:lt3 a x with
     |true=>rw[sub a d];simp only[if_true];omega
     |false=>simp only[yaN,if_false];split<;>omega
  have:=strict ks hx
  unfold qbA
  omega
 | false=>
  apply decide_eq_false
  have sub:∀z,lt3 z y=true->lt3 z x=true:=λz hz=>by
   rcases qdU z x y hz with h|h
   ·exact h
   ·rw[c]at h;cases h
  have:=mono (λz=>lt3 z y) (λz=>lt3 z x) ks sub
  unfold qbA
  omega
theorem qa1(ks:List uQ):(yc ks).length=ks.length:=lM_ _
def K3V(h:Heap)(k:uQ)(u:Value):Prop:=∃p q t1 t2 its,u=.ref p/\IsTup h p #[.int k.1 t1,.int k.2.1 t2,.ref q]/\IsTup h q its/\ybs its.toList k.2.2
inductive qca (h:Heap):List uQ->List Value->Prop
 |nil:qca h [] []
 |cons {k:uQ} {v:Value} {ks:List uQ} {vs:List Value}:K3V h k v->qca h ks vs->qca h (k::ks) (v::vs)
theorem qca.length {h:Heap} {ks:List uQ} {vs:List Value} (x:qca h ks vs):ks.length=vs.length:=by
 induction x with
 |nil=>rfl
 |cons _ _ ih=>rw[lC_,lC_,ih]
theorem qca.get {h:Heap} {ks:List uQ} {vs:List Value} (x:qca h ks vs):∀{i:Nat},i<ks.length->K3V h (ks.getD i (0,0,[])) (vs.getD i yaD):=by
 induction x with
 |nil=>intro i hi;exact absurd hi (Nat.not_lt_zero _)
 |cons a _ ih=>
  intro i hi
  cases i with
  |zero=>exact a
  |succ i=>exact ih (by simpa using hi)
section
variable{X:Cx}{pins:List (Addr×Obj)}{σ:St}{H:Hp}{s:yaa}
end
theorem wK {prog:yaj} {w:World} {vs:List Value} {ns:List Int} (h:ybs vs ns):ItemsAre (yeL prog w) ns vs:=by
 induction h with
 |nil=>exact .nil
 |cons n t _ ih=>exact .cons (by simp[yeL,Value.isInt]) ih
section
variable{prog:yaj}{w:World}{A:yar}{E:Value->yaa->Prop}{s:yaa}
theorem qjC {kx ky:uQ} {u v:Value} {Q:Bool->yaa->Prop} (hu:A.units<cLine) (hx:K3V s.heap kx u) (hy:K3V s.heap ky v) (h:Q (lt3 kx ky) s) :
  wpAny (model prog w) A (yem (ybW true) u v) Q E s:=by
 obtain⟨p,q,t1,t2,its,rfl,hp,hq,hi⟩:=hx
 obtain⟨p',q',t1',t2',its',rfl,hp',hq',hi'⟩:=hy
 obtain⟨o,ho,hc,n,hd⟩:=id hp
 obtain⟨o',ho',hc',n',hd'⟩:=id hp'
 refine PySem.W.kat_lt ho hd ho' hd' ?_
 show PySem.W.KatLex prog w A true (decide (3<3)) Q [(.int kx.1 t1,.int ky.1 t1'),(.int kx.2.1 t2,.int ky.2.1 t2'),(.ref q,.ref q')] 0 s
 unfold lt3 at h
 refine ydv (ydq ?_)
 by_cases c:kx.1=ky.1
 ·rw [if_pos c]at h
  rw[show(kx.1==ky.1)=true by simp[c]]
  refine ydK (ydv (ydq ?_))
  by_cases d:kx.2.1=ky.2.1
  ·rw [if_pos d]at h
   rw[show(kx.2.1==ky.2.1)=true by simp[d]]
   refine ydK (ydv ?_)
   have kq:IsTupleKey (yeL prog w) s.heap kx.2.2 q:=by
    obtain⟨o2,a1,a2,n2,a3⟩:=hq
    exact⟨o2,its,n2,a1,a2,a3,wK hi⟩
   have kq':IsTupleKey (yeL prog w) s.heap ky.2.2 q':=by
    obtain⟨o2,a1,a2,n2,a3⟩:=hq'
    exact⟨o2,its',n2,a1,a2,a3,wK hi'⟩
   refine wpAny_eqBool_tuple hu kq kq' ?_
   by_cases e:kx.2.2=ky.2.2
   ·rw[decide_eq_true e]
    rw[e,qbz]at h
    exact ydK (PySem.W.kat_nil h)
   ·rw[decide_eq_false e]
    exact yd8 (PySem.W.kat_one _ _ (HT.lt_tupInts hq hq' hi hi' hu h))
  ·rw[if_neg d]at h
   rw[show(kx.2.1==ky.2.1)=false by simp[d]]
   exact yd8 (PySem.W.kat_one _ _ (lt_int h))
 ·rw[if_neg c]at h
  rw[show(kx.1==ky.1)=false by simp[c]]
  exact yd8 (oneLt_int h)
theorem qff {ks:List uQ} {vs:List Value} (x:qca s.heap ks vs):∃fs:List Value,PySem.W.KatTups s.heap vs fs/\fs.length=ks.length/\∀v∈fs,∃i t,v=ycP i t:=by
 induction x with
 |nil=>exact⟨[],.nil,rfl,λv hv=>by cases hv⟩
 | @cons k v ks vs a _ ih=>
  obtain⟨fs,h1,h2,h3⟩:=ih
  obtain⟨p,q,t1,t2,its,rfl,⟨o,ho,hc,n,hd⟩,_,_⟩:=a
  refine⟨.int k.1 t1::fs,.cons ho hc hd rfl h1,by rw[lC_,lC_,h2],λv hv=>?_⟩
  rcases List.mem_cons.mp hv with rfl|hv
  ·exact⟨_,_,rfl⟩
  ·exact h3 v hv
theorem qdV {α:Type} {vs:List Value} {ks:List uQ} {R:α->Prop} {G:α->yaa->Prop} (hu:A.units<cLine) (hk:qca s.heap ks vs):∀{t:PySem.W.KasT α},Srt.Fits ks.length R t ->
  G (Srt.runK (λi j=>decide ((yc ks).getD i 0<(yc ks).getD j 0)) t) s->t.kasWp (PySem.W.kas_ask prog w A (ybW true) vs) G s
 |.ret _,_,h=>h
 |.ask i j k,⟨h1,h2,h3⟩,h=>by
  have e1:(yc ks).getD i 0=qbA ks (ks.getD i (0,0,[])):=by unfold yc;simp[h1]
  have e2:(yc ks).getD j 0=qbA ks (ks.getD j (0,0,[])):=by unfold yc;simp[h2]
  have hm:ks.getD i (0,0,[])∈ks:=by simp[h1]
  have h':G (Srt.runK (λi j=>decide ((yc ks).getD i 0<(yc ks).getD j 0)) (k (decide ((yc ks).getD i 0<(yc ks).getD j 0)))) s:=h
  rw[e1,e2,qhn hm]at h'
  show wpAny (model prog w) A (yem (ybW true) (vs.getD i yaD) (vs.getD j yaD)) _ _ s
  exact qjC hu (hk.get h1) (hk.get h2) (qdV hu hk (h3 _) h')
end
section
variable{X:Cx}{pins:List (Addr×Obj)}{σ:St}{H0 H:Hp}{s0 s:yaa}{a kS:Addr}{A:yar}{E:Value->yaa->Prop}{f:Value}{vs:List Value}{ks:List uQ}{e1:Nat}{P:yeH->yaa->Prop}
end
section
variable{X:Cx}{pins:List (Addr×Obj)}{σ:St}{H:Hp}{s:yaa}{l f:Addr}{vs:List Value}{ks:List uQ}{Q:Value->yaa->Prop}{E:Value->yaa->Prop}
end
end L2
namespace L2
open PySem PySem.Spec PyProof.Rows
section
variable{X:Cx}{k:Nat}{f:Addr}{fd:yaO}{x:Str}{F:List Sk.D->Sk.R Sk.D}
end
end L2
namespace L2.Sk
open PySem PySem.Spec PyProof.Rows
def qlN:D->Option uQ
 |.tup [.int a,.int b,.tup ts]=>match yT ts with
  |some ns=>some (a,b,ns)
  |none=>none
 |_=>none
def qjD (F:List D->R D):List D->Option (List uQ)
 | []=>some []
 | d::ds=>match F [d],qjD F ds with
  |.ok k,some ks=>match qlN k with
   |some k=>some (k::ks)
   |none=>none
  |_,_=>none
def qlO (F:List D->R D) (f:M D):M D:=bnd f λd Z=>match d with
 | .lst ds=>if ds.length<64 then match qjD F ds with
   |some ks => .ok (.lst (qhl (Srt.ord (yc ks)) ds),Z)
   |none => .bad
  else .bad
 |_ => .bad
section
variable{X:Cx}{c:Fc}{e:Expr}{p pos kpos p2:Pos}{x:Str}{k:Nat}
end
end L2.Sk
set_option maxHeartbeats 1000000
namespace L2.Sk
open PySem PySem.Spec PyProof.Rows
section
variable{X:Cx}{c:Fc}{a b e:Expr}{pos:Pos}
end
end L2.Sk
set_option maxHeartbeats 1000000
namespace L2
open PySem PySem.Spec PyProof.Rows
theorem wL {h h':Heap} {a:Addr} {its:Array Value} (k:∀b u,h.get? b=some u->h'.get? b=some u) (t:IsTup h a its):IsTup h' a its:=by
 obtain⟨o,h1,h2,n,h3⟩:=t
 exact⟨o,k _ _ h1,h2,n,h3⟩
theorem qca.kept {h h':Heap} {ks:List uQ} {vs:List Value} (k:∀b u,h.get? b=some u->h'.get? b=some u) (x:qca h ks vs):qca h' ks vs:=by
 induction x with
 |nil=>exact .nil
 |cons a _ ih=>
  obtain⟨p,q,t1,t2,its,e,h1,h2,h3⟩:=a
  exact .cons ⟨p,q,t1,t2,its,e,wL k h1,wL k h2,h3⟩ ih
section
variable{X:Cx}{pins:List (Addr×Obj)}{σ:St}{H0 H:Hp}{s0 s:yaa}{a:Addr}{A:yar}{E:Value->yaa->Prop}{vs:List Value}{ks:List uQ}{P:yeH->yaa->Prop}
theorem qjE {n:Nat} (I0:Inv X pins σ H0 s0) (hu:A.units<cLine) (kv:qca s0.heap ks vs) (z:SS X H0 s0 H s) (k0:∀b u,s0.heap.get? b=some u->s.heap.get? b=some u) (ho:s.heap.get? a=some (ycc "list" vs.toArray n)) (na:H a=none) (la:s0.heap.objs.size<=a) (h64:vs.length<64)
  (fin:qjA X H0 s0 a (qga (yc ks) vs) P):wpAny (model X.prog X.w) A (ybH.«list.sort» ⟨[.ref a],[]⟩) P E s:=by
 have hlen:ks.length=vs.length:=kv.length
 have hrl:(yc ks).length=vs.length:=(qa1 ks).trans hlen
 have hlt:a<s.heap.objs.size:=yac ho
 have sb:=yb4 s.heap a (yaC λ_=>(#[]:Array Value))
 obtain⟨e1,ho1⟩:∃e1,(s.heap.update a (yaC λ_=>(#[]:Array Value))).get? a=some (ycc "list" #[] e1):=⟨_,get?_update_seq ho λ_ => #[]⟩
 have z1:=z.poke na la sb s.toks
 have kp:∀b u,(s.heap.update a (yaC λ_=>(#[]:Array Value))).get? b=some u->(((s.heap.update a (yaC λ_=>(#[]:Array Value))).push (ycc "tuple" vs.toArray 0)).push (ycc "list" #[] 0)).get? b=some u :=
  λb u q=>Heap.get?_push_of_some _ (Heap.get?_push_of_some _ q)
 have z3:=z1.kept kp s.toks
 have ka:∀b u,s0.heap.get? b=some u->(((s.heap.update a (yaC λ_=>(#[]:Array Value))).push (ycc "tuple" vs.toArray 0)).push (ycc "list" #[] 0)).get? b=some u:=λb u q=>by
  refine kp b u ((sb.2 b ?_).trans (k0 b u q))
  exact yat (yaw (yac q) la)
 have kv3:=kv.kept ka
 rw[list_sort_plain]
 refine yab (listItems_at ho rfl (yab (yel ho rfl ?_ (by rw[sT_,ybc];omega) (yaV _))))
 refine yab (seqEpoch_at ho1 rfl (yab (yd3 ?_ (by show vs.length<=_;rw[ybc];omega))))
 refine yab (wpAny_newList (ya7 ?_) (yaV _))
 show wpAny (model X.prog X.w) A _ P E {s with heap:=((s.heap.update a (yaC λ_=>(#[]:Array Value))).push (ycc "tuple" vs.toArray 0)).push (ycc "list" #[] 0)}
 generalize hs3:({s with heap:=((s.heap.update a (yaC λ_=>(#[]:Array Value))).push (ycc "tuple" vs.toArray 0)).push (ycc "list" #[] 0)}:yaa)=s3
 have z3':SS X H0 s0 H s3:=by rw[<-hs3];exact z3
 have ga:s3.heap.get? a=some (ycc "list" #[] e1):=by rw[<-hs3];exact kp _ _ ho1
 have kv3':qca s3.heap ks vs:=by rw[<-hs3];exact kv3
 dsimp only
 have tail:∀(st:SortSt),(arrOf st).map (·.2)=(qga (yc ks) vs).toArray->failedOf st=none ->
   wpAny (model X.prog X.w) A (do
    let touched:=(<-seqEpoch a) != e1
    ydA (.ref a) λ_=>(arrOf st).map (·.2)
    if let some e:=failedOf st then rule "list.sort.comparison-raised";throw e
    if touched then rule "list.sort.modified";raiseError "ValueError" "list modified during sort"
    ret .none) P E s3:=λst ho hf=>by
  have ol:=qfc hrl
  have sb2:=yb4 s3.heap a (yaC λ_=>(qga (yc ks) vs).toArray)
  have z4:=z3'.poke na la sb2 s3.toks
  refine yab (seqEpoch_at ga rfl ?_)
  rw[ho,hf]
  refine yab (yel ga rfl ?_ (yaV _) (by show(qga (yc ks) vs).toArray.size<=_;rw[sT_,ybc];omega))
  simp only[bne_self_eq_false,yaN,if_false]
  exact yal (fin H _ _ z4 na (get?_update_seq ga λ_=>(qga (yc ks) vs).toArray))
 by_cases h2:vs.length<2
 ·have h2':vs.toArray.size<2:=by rw[sT_];exact h2
  rw[if_pos h2',if_pos h2']
  refine yab (yal ?_)
  rw[StateT.run_pure]
  refine yab (yal ?_)
  refine tail _ ?_ rfl
  have e0:qga (yc ks) vs=vs:=by
   show(Srt.ord (yc ks)).map _=vs
   unfold Srt.ord
   rw[if_pos (by omega),hrl]
   exact Srt.map_getD_range _ vs
  rw[e0]
  apply Array.toList_inj.mp
  show((vs.toArray.zip vs.toArray).map (·.2)).toList=vs.toArray.toList
  rw[Array.toList_map,ksk_zip,List.map_snd_zip (yak _)]
 ·have h2':¬vs.toArray.size<2:=by rw[sT_];exact h2
  rw[if_neg h2',if_neg h2']
  obtain⟨fs,t1,t2,t3⟩:=qff kv3'
  refine yab ?_
  refine PySem.W.kat_kind (T:=.type "int") t1 (by omega) (λv hv=>?_) rfl ?_
  ·obtain⟨i,t,rfl⟩:=t3 v hv
   exact .now
  show wpAny _ _ _ _ _ _
  refine yab (ybd (PySem.W.kat_run (κ:=ybW true) (Q:=λst' s'=>s'=s3/\(arrOf st').map (·.2)=(qga (yc ks) vs).toArray/\failedOf st'=none) (G:=λp s'=>s'=s3/\p.toList=Srt.ord (yc ks)) rfl (by omega) h64 (λp st' s' a1 a2 a3 a4=>?_) ?_) ?_ λ_ _ x=>x)
  ·refine⟨a4.1,?_,a3⟩
   rw[PySem.W.kat_snds rfl a2,a4.2]
  ·have ft:=Srt.fits_sort (n:=ks.length) (by omega)
   rw[<-hlen]
   refine qdV hu kv3' ft ⟨rfl,?_⟩
   unfold Srt.ord
   rw[if_neg (by omega),qa1]
  ·rintro⟨⟨⟩,st'⟩ s' ⟨rfl,h3,h4⟩
   exact tail st' h3 h4
end
end L2
namespace L2.Sk
open PySem PySem.Spec PyProof.Rows
def qjF:List D->Option (List uQ)
 | []=>some []
 |d::ds=>match qlN d,qjF ds with
  |some k,some ks=>some (k::ks)
  |_,_=>none
def qlP (i:Nat):M (List D):=λZ=>match zm i Z with
 | some ds=>if ds.length<64 then match qjF ds with
   |some ks => .ok (qhl (Srt.ord (yc ks)) ds,Z)
   |none => .bad
  else .bad
 |none => .bad
section
variable{X:Cx}{c:Fc}{pos:Pos}
end
def ltB:D->D->Option D
 |.int i,.int j=>some (.bl (decide (i<j)))
 |.tup xs,.tup ys=>match yT xs,yT ys with
  |some ns,some ms=>some (.bl (HT.lexLt ns ms))
  |_,_=>none
 |_,_=>none
end L2.Sk
set_option maxHeartbeats 1000000
namespace L2.Sk
open PySem PySem.Spec PyProof.Rows
def qjG (O:List Nat) (Z:Env):Bool:=O.all λj=>match Z[j]? with
 |some (some (.lst ds))=>immL ds
 |_=>true
open Classical in
noncomputable def qlQ (i:Nat) (O:List Nat) (F:List D->R D) (g:M (List D)) (t:M Bool):MS:=λZ=>match g Z with
 | .ok (ds,Z1)=>if immFs ds=true/\qjG O Z1=true/\i<Z1.length then match F ds with
   | .ok (.tup [.lst xs,.lst ys])=>match t (Z1.set i (some (.tup [.lst xs,.lst ys]))) with
     |.ok (b,Z2)=>if b=true then .ok (.rt (.bl false) Z2)else if Z2=Z1.set i (some (.tup [.lst xs,.lst ys]))/\xs.length+ys.length<1000 then .ok (.nx (Z1.set i none))else .bad
     |_ => .bad
   |_ => .bad
  else .bad
 |_ => .bad
section
variable{X:Cx}{c:Fc}
end
end L2.Sk
set_option maxHeartbeats 1000000
namespace L2.Sk
open PySem PySem.Spec PyProof.Rows
structure qh2 (z:Str) (X:Cx) (scope:Scope) (N':List Str) (nt:Nat) (fr:List Nat):Prop where
 kind:scope.kind=.function
 cell:∀y∈scope.names,y.2=.cell->y.1=z
 cz:scope.names.lookup z=some .cell
 cf:∀n acc,yev n scope.names acc=(z,n)::acc
 pc:∀h:Heap,pushCells h scope.names=h.push {cls:=.type "cell",data:=.cell none}
 names:∀y∈scope.names,y.2=.local->scope.names.lookup y.1=some .local
 frees:∀y∈scope.names,y.2=.free->X.env.kindOf y.1=some .cell/\y.1≠z
 len:N'.length=nt+fr.length
 slot:∀i j,fr[i]? = some j->∃x,N'[nt+i]? = some x/\X.N[j]? = some x/\scope.names.lookup x=some .free
section
variable{z:Str}{X:Cx}{tg iter elt:Expr}{ifs:List Expr}{scope:Scope}{pos:Pos}{wi:TI}{N':List Str}{nt:Nat}{fr:List Nat}
end
section
variable{X:Cx}{c:Fc}{tg:Expr}{pos:Pos}
end
end L2.Sk
set_option maxHeartbeats 1000000
namespace L2.Sk
open PySem PySem.Spec PyProof.Rows
abbrev vY (h:Heap) (z TI TO:Addr) (a:Nat) (b:Bool):Prop :=
 h.get? z=some {cls:=.type "zip",dict:=none,data:=.fields #[ybK a,.bool b,.bool false,.ref TI,.ref TO],slots := #[]}
section
variable{prog:yaj}{w:World}{A:yar}{E:Value->yaa->Prop}{s:yaa}{z TI TO i1 i2:Addr}{fp1 fp2:List Addr}{n1 n2 k:Nat}{P1 P2:Nat->Value->Prop}{S1 S2:Nat->Heap->Prop}
theorem qla {M:Model} {a:Addr} {Q:Option Obj->yaa->Prop} (h:Q (s.heap.get? a) s):wpAny M A (loadIfAlive a) Q E s:=λΓ p _=>by
 show Sem.wp M Γ (.loadIfAlive a .pure) _ _ p s
 rw[Sem.wp_loadIfAlive]
 exact h
theorem qcb {a:Nat} {b:Bool} {o:Obj} (zz:vY s.heap z TI TO a b) (ho:s.heap.get? a=some o) {Q:Bool->yaa->Prop}
  (fin:∀h',vY h' z TI TO a true->ybA z s.heap h'->Q false {s with heap:=h' }):wpAny (model prog w) A (yaB (.ref z)) Q E s:=by
 unfold yaB
 refine yab (yaG zz rfl (x:=ybK a) rfl ?_)
 show wpAny (model prog w) A (loadIfAlive (Int.toNat (a:Int)) >>= _) _ _ _
 refine yab (qla ?_)
 have e:s.heap.get? (Int.toNat (a:Int))=some o:=ho
 rw[e]
 simp only[Option.isNone_some,yaN,if_false]
 refine yab (yaG zz rfl (x:=yaX b) rfl ?_)
 cases b with
 |true=>
  have e1:(yaX true != yaX true)=false:=by decide
  simp only[e1,yaN,if_false]
  exact yal (fin s.heap zz (Heap.SameBut.refl ..))
 |false=>
  have e1:(yaX false != yaX true)=true:=by decide
  simp only[e1,if_true]
  refine yab (ybb zz (by simp) λh1 zz1 b1=>yal (fin h1 zz1 b1))
theorem qho (D1:Draws prog w A i1 fp1 n1 P1 S1) (D2:Draws prog w A i2 fp2 n2 P2 S2) (ap:ZAp z TI TO i1 i2 fp1 fp2) {a:Nat} {b:Bool} {o:Obj} (zz:vY s.heap z TI TO a b) (ho:s.heap.get? a=some o) (zI:yaR s.heap TI (.ref i1) (.ref i2))
  (t1:S1 k s.heap) (t2:S2 k s.heap) (l1:k<n1) (l2:k<n2) {Q:Value->yaa->Prop}
  (fin:∀x y h' tk,P1 k x->P2 k y->vY h' z TI TO a true->S1 (k+1) h'->S2 (k+1) h'->yaR h' s.heap.objs.size x y ->
   (∀c o,c≠z->c≠i1->c≠i2->s.heap.get? c=some o->h'.get? c=some o)->Q (.ref s.heap.objs.size) {s with heap:=h',toks:=tk}) :
  wpAny (model prog w) A (ybH.«zip.__next__» ⟨[.ref z],[]⟩) (λr s'=>∃v,r=.done (.ret v)/\Q v s') E s:=by
 show wpAny (model prog w) A (field (yae z) 2 >>= _) _ _ _
 refine yab (yaG zz rfl (x:=yaX false) rfl ?_)
 show wpAny (model prog w) A (field (yae z) 3 >>= _) _ _ _
 refine yab (yaG zz rfl (x:=yae TI) rfl (yab (yaZ zI rfl ?_)))
 show wpAny (model prog w) A (yaB (yae z) >>= _) _ _ _
 refine yab (qcb zz ho λh1 zz1 b1=>?_)
 simp only[yaN,if_false]
 refine yab ?_
 simp only[<-yeI,yb7,ycO]
 refine yab (yab (ya7 ?_))
 show wpAny (model prog w) A (yaz (yae i1) >>= _) _ _ _
 refine yab (D1.item k _ _ _ l1 (D1.frame _ _ _ t1 (zr b1 ap.z1)) λx h2 tk2 px u1 b2=>yal (yal ?_))
 refine yab (yab (ya7 ?_))
 show wpAny (model prog w) A (yaz (yae i2) >>= _) _ _ _
 have t2':S2 k h2:=D2.frame _ _ _ (D2.frame _ _ _ t2 (zr b1 ap.z2)) (zr b2 ap.i12)
 refine yab (D2.item k _ _ _ l2 t2' λy h3 tk3 py u2 b3=>yal (yal (yal ?_)))
 refine yab (m:=newTuple [x,y]) (yd3 ?_)
 have sz:h3.objs.size=s.heap.objs.size:=by rw[b3.1,b2.1,b1.1]
 have zz3:vY h3 z TI TO a true:=b3.extBut _ _ ap.zi2 (b2.extBut _ _ ap.zi1 zz1)
 have v1:S1 (k+1) h3:=D1.frame _ _ _ u1 (zr b3 ap.i21)
 have up:∀c o,h3.get? c=some o->(h3.push {cls:=.type "tuple",data:=.seq #[x,y]}).get? c=some o:=λc o e=>Heap.get?_push_of_some _ e
 have new:yaR (h3.push {cls:=.type "tuple",data:=.seq #[x,y]}) s.heap.objs.size x y:=by
  have:yaR (h3.push {cls:=.type "tuple",data:=.seq #[x,y]}) h3.objs.size x y:=Heap.get?_push_size _ rfl
  rw[sz]at this
  exact this
 refine yal ⟨_,rfl,?_⟩
 show Q (yae h3.objs.size) _
 rw[sz]
 exact fin x y _ tk3 px py (up _ _ zz3) (D1.frame _ _ _ v1 λb hb o e=>up b o e) (D2.frame _ _ _ u2 λb hb o e=>up b o e) new λc o c1 c2 c3 e=>up c o (b3.extBut _ _ c3 (b2.extBut _ _ c2 (b1.extBut _ _ c1 e)))
theorem qdW (hh:A.handled=none) (D1:Draws prog w A i1 fp1 n1 P1 S1) (D2:Draws prog w A i2 fp2 n2 P2 S2) (ap:ZAp z TI TO i1 i2 fp1 fp2) {a:Nat} {b:Bool} {o:Obj} (zz:vY s.heap z TI TO a b) (ho:s.heap.get? a=some o) (zI:yaR s.heap TI (.ref i1) (.ref i2))
  (t1:S1 k s.heap) (t2:S2 k s.heap) (hk:k=min n1 n2) {Q:Fin->yaa->Prop}
  (fin:∀h' tk e,(∀c o,c≠z->c≠i1->c≠i2->s.heap.get? c=some o->h'.get? c=some o)->(∃o,h'.get? e=some o/\o.cls=.type "StopIteration")->E (.ref e) {s with heap:=h',toks:=tk}) :
  wpAny (model prog w) A (ybH.«zip.__next__» ⟨[.ref z],[]⟩) Q E s:=by
 show wpAny (model prog w) A (field (yae z) 2 >>= _) _ _ _
 refine yab (yaG zz rfl (x:=yaX false) rfl ?_)
 show wpAny (model prog w) A (field (yae z) 3 >>= _) _ _ _
 refine yab (yaG zz rfl (x:=yae TI) rfl (yab (yaZ zI rfl ?_)))
 show wpAny (model prog w) A (yaB (yae z) >>= _) _ _ _
 refine yab (qcb zz ho λh1 zz1 b1=>?_)
 simp only[yaN,if_false]
 refine yab ?_
 simp only[<-yeI,yb7,ycO]
 refine yab (yab (ya7 ?_))
 show wpAny (model prog w) A (yaz (yae i1) >>= _) _ _ _
 have t1':S1 k h1:=D1.frame _ _ _ t1 (zr b1 ap.z1)
 by_cases h12:n1<=n2
 ·have e1:k=n1:=by rw[hk];exact Nat.min_eq_left h12
  rw[e1]at t1'
  refine yab (D1.done _ _ _ t1' λh2 e b2 he=>?_)
  exact fin h2 s.toks e (λc o c1 c3 _ x=>b2 _ _ c3 (b1.extBut _ _ c1 x)) he
 ·have e1:k=n2:=by rw[hk];exact Nat.min_eq_right (by omega)
  refine yab (D1.item k _ _ _ (by omega) t1' λx h2 tk2 px u1 b2=>yal (yal ?_))
  refine yab (yab (ya7 ?_))
  show wpAny (model prog w) A (yaz (yae i2) >>= _) _ _ _
  have t2':S2 k h2:=D2.frame _ _ _ (D2.frame _ _ _ t2 (zr b1 ap.z2)) (zr b2 ap.i12)
  rw[e1]at t2'
  refine yab (D2.done _ _ _ t2' λh4 e b4 he=>?_)
  exact fin h4 tk2 e (λc o c1 c3 c4 x=>b4 _ _ c4 (b2.extBut _ _ c3 (b1.extBut _ _ c1 x))) he
end
def yd (h:Heap) (lo:Nat) (ch:List Addr) (u v acc:Array Value) (n:Nat):Prop :=
 acc.size=n/\(∀(i:Nat)(x y:Value),i<n->u[i]? = some x->v[i]? = some y->∃p:Addr,acc[i]? = some (yae p)/\yaR h p x y/\lo<=p/\p ∉ ch)/\∀(i j:Nat)(p:Addr),acc[i]? = some (yae p)->acc[j]? = some (yae p)->i=j
theorem yd.keep {h h':Heap} {lo:Nat} {ch:List Addr} {u v acc:Array Value} {n:Nat} (P:yd h lo ch u v acc n) (k:∀c o,c ∉ ch->h.get? c=some o->h'.get? c=some o):yd h' lo ch u v acc n :=
 ⟨P.1,λi x y hi h1 h2=>by
  obtain⟨p,e1,e2,e3,e4⟩:=P.2.1 i x y hi h1 h2
  exact⟨p,e1,k p _ e4 e2,e3,e4⟩,P.2.2⟩
theorem yd.push {h:Heap} {lo:Nat} {ch:List Addr} {u v acc:Array Value} {n:Nat} {x y:Value} {p:Addr} (P:yd h lo ch u v acc n) (hx:u[n]? = some x) (hy:v[n]? = some y) (hp:yaR h p x y) (hlo:lo<=p) (hc:p ∉ ch) (hnew:∀i:Nat,acc[i]? ≠ some (yae p)):yd h lo ch u v (acc.push (.ref p)) (n+1):=by
 refine⟨by rw[Array.size_push,P.1],λi x' y' hi h1 h2=>?_,λi j q h1 h2=>?_⟩
 rotate_left
 ·rw [Array.getElem?_push]at h1 h2
  split at h1<;>split at h2
  ·omega
  ·cases h1
   exact absurd h2 (hnew j)
  ·cases h2
   exact absurd h1 (hnew i)
  ·exact P.2.2 i j q h1 h2
 by_cases e:i=n
 ·subst e
  rw[hx]at h1
  rw[hy]at h2
  cases h1
  cases h2
  refine⟨p,?_,hp,hlo,hc⟩
  rw[<-P.1]
  simp
 ·obtain⟨q,e1,e2,e3,e4⟩:=P.2.1 i x' y' (by omega) h1 h2
  refine⟨q,?_,e2,e3,e4⟩
  rw[Array.getElem?_push,if_neg (by rw[P.1];exact e)]
  exact e1
def LZ (z TI TO i1 i2 a1 a2 S:Addr) (u v:Array Value) (k:Nat) (h:Heap):Prop :=
 ((IsZip h z TI TO .none/\∃p q,yaR h TO p q)\/∃(a:Nat)(b:Bool)(o o':Obj),vY h z TI TO a b/\h.get? a=some o/\h.get? TO=some o'/\(a:Addr) ∉ [z,TO,i1,i2,S])/\yaR h TI (.ref i1) (.ref i2)/\(h.IsTupleIter i1 a1 k/\h.IsTuple a1 u)/\(h.IsTupleIter i2 a2 k/\h.IsTuple a2 v)
section
variable{prog:yaj}{w:World}{A:yar}{s:yaa}{R:ycT->yaa->Prop}{z TI TO i1 i2 a1 a2 S:Addr}{u v:Array Value}
theorem LZ.keep {k:Nat} {h h':Heap} (L:LZ z TI TO i1 i2 a1 a2 S u v k h) (n1:S≠z) (n2:S≠TO) (n3:S≠TI) (n4:S≠i1) (n5:S≠i2) (n6:S≠a1) (n7:S≠a2) (kp:∀c o,c≠S->h.get? c=some o->h'.get? c=some o):LZ z TI TO i1 i2 a1 a2 S u v k h':=by
 obtain⟨f,q1,⟨q2,o2,g2,r2⟩,⟨q3,o3,g3,r3⟩⟩:=L
 refine⟨?_,kp _ _ n3.symm q1,⟨q2.at λo e=>kp _ o n4.symm e,o2,kp _ _ n6.symm g2,r2⟩,⟨q3.at λo e=>kp _ o n5.symm e,o3,kp _ _ n7.symm g3,r3⟩⟩
 rcases f with⟨f1,p,q,f2⟩|⟨a,b,o,o',f1,f2,f4,f3⟩
 ·exact .inl ⟨kp _ _ n1.symm f1,p,q,kp _ _ n2.symm f2⟩
 ·refine .inr ⟨a,b,o,o',kp _ _ n1.symm f1,kp _ _ (λe=>f3 ?_) f2,kp _ _ n2.symm f4,f3⟩
  rw[e]
  simp
theorem qhp {E:Value->yaa->Prop} (hh:A.in1.handled=none) (ap:ZAp z TI TO i1 i2 [i1,a1] [i2,a2]) (m1:a1≠i1) (m2:a2≠i2) {k:Nat} (L:LZ z TI TO i1 i2 a1 a2 S u v k s.heap) (l1:k<u.size) (l2:k<v.size) (hS:∃o,s.heap.get? S=some o) (sa1:a1 ∉ [z,TO,i1,i2]) (sa2:a2 ∉ [z,TO,i1,i2]) {Q:Option Value->yaa->Prop}
  (fin:∀x y h' tk,u[k]? = some x->v[k]? = some y->LZ z TI TO i1 i2 a1 a2 S u v (k+1) h'->yaR h' s.heap.objs.size x y->(∀c o,c ∉ [z,TO,i1,i2]->s.heap.get? c=some o->h'.get? c=some o)->(s.heap.objs.size:Addr) ∉ [z,TO,i1,i2,S]->Q (some (.ref s.heap.objs.size)) {s with heap:=h',toks:=tk}) :
  wpAny (model prog w) A (ybY (.ref z)) Q E s:=by
 obtain⟨f,q1,q2,q3⟩:=L
 have D1:=jo (prog:=prog) (w:=w) hh i1 a1 m1 u
 have D2:=jo (prog:=prog) (w:=w) hh i2 a2 m2 v
 have hT:s.TypeIs (.ref z) "zip":=by
  rcases f with⟨f1,_⟩|⟨a,b,o,o',f1,_⟩
  ·exact⟨_,f1,rfl⟩
  ·exact⟨_,f1,rfl⟩
 have lt:∀c∈[z,TO,i1,i2,S],c≠s.heap.objs.size:=λc hc=>by
  have hz:∃o,s.heap.get? c=some o:=by
   simp only[yau,nN_,or_false]at hc
   obtain⟨⟨o4,g4,_⟩,_⟩:=q2
   obtain⟨⟨o5,g5,_⟩,_⟩:=q3
   rcases hc with rfl|rfl|rfl|rfl|rfl
   ·obtain⟨o,e,_⟩:=hT
    exact⟨o,e⟩
   ·rcases f with⟨_,p,q,f2⟩|⟨_,_,_,o',_,_,f4,_⟩
    ·exact⟨_,f2⟩
    ·exact⟨_,f4⟩
   ·exact⟨_,g4⟩
   ·exact⟨_,g5⟩
   ·exact hS
  obtain⟨o,e⟩:=hz
  exact yat (yac e)
 unfold ybY
 refine yab (yc4 (wpAny_callSpecial?_slot (name:=yaT "__next__") hT ybh (ybC ybh hT ycu ?_ (ycj _))))
 rcases f with⟨f1,p,q,f2⟩|⟨a,b,o,o',f1,f2,f4,f3⟩
 ·refine qfY D1 D2 ap f1 q1 f2 q2 q3 l1 l2 λx y h' tk px py zz zO u1 u2 new kp=>yal ?_
  have hsz:s.heap.objs.size<h'.objs.size:=yac new
  refine fin x y h' tk px py ⟨.inr ⟨s.heap.objs.size,false,_,_,zz,new,zO,λhm=>lt _ hm rfl⟩,kp _ _ ap.zTI.symm ap.IO ap.Ii1 ap.Ii2 q1,u1,u2⟩ new (λc o hc e=>?_) (λhm=>lt _ hm rfl)
  simp only[yau,nN_,or_false,not_or]at hc
  exact kp c o hc.1 hc.2.1 hc.2.2.1 hc.2.2.2 e
 ·refine qho D1 D2 ap f1 f2 q1 q2 q3 l1 l2 λx y h' tk px py zz u1 u2 new kp=>yal ?_
  have hsz:s.heap.objs.size<h'.objs.size:=yac new
  have f3':=f3
  simp only[yau,nN_,or_false,not_or]at f3'
  refine fin x y h' tk px py ⟨.inr ⟨a,true,o,o',zz,kp _ _ f3'.1 f3'.2.2.1 f3'.2.2.2.1 f2,kp _ _ ap.zTO.symm ap.Oi1 ap.Oi2 f4,f3⟩,kp _ _ ap.zTI.symm ap.Ii1 ap.Ii2 q1,u1,u2⟩ new (λc o hc e=>?_) (λhm=>lt _ hm rfl)
  simp only[yau,nN_,or_false,not_or]at hc
  exact kp c o hc.1 hc.2.2.1 hc.2.2.2 e
theorem qhq {E:Value->yaa->Prop} (hh:A.in1.handled=none) (ap:ZAp z TI TO i1 i2 [i1,a1] [i2,a2]) (m1:a1≠i1) (m2:a2≠i2) {k:Nat} (L:LZ z TI TO i1 i2 a1 a2 S u v k s.heap) (hk:k=min u.size v.size) {Q:Option Value->yaa->Prop}
  (fin:∀h' tk,(∀c o,c ∉ [z,TO,i1,i2]->s.heap.get? c=some o->h'.get? c=some o)->Q none {s with heap:=h',toks:=tk}) :
  wpAny (model prog w) A (ybY (.ref z)) Q E s:=by
 obtain⟨f,q1,q2,q3⟩:=L
 have D1:=jo (prog:=prog) (w:=w) hh i1 a1 m1 u
 have D2:=jo (prog:=prog) (w:=w) hh i2 a2 m2 v
 have hT:s.TypeIs (.ref z) "zip":=by
  rcases f with⟨f1,_⟩|⟨a,b,o,o',f1,_⟩
  ·exact⟨_,f1,rfl⟩
  ·exact⟨_,f1,rfl⟩
 unfold ybY
 refine yab (yc4 (wpAny_callSpecial?_slot (name:=yaT "__next__") hT ybh (ybC ybh hT ycu ?_ (ycj _))))
 rcases f with⟨f1,p,q,f2⟩|⟨a,b,o,o',f1,f2,f4,f3⟩
 ·refine qb3 hh D1 D2 ap f1 q1 f2 q2 q3 hk λh' tk e kp he=>?_
  obtain⟨o,ho,hcl⟩:=he
  refine yab (ycv (T:="StopIteration") (b:=true) ⟨o,ho,hcl⟩ yd4 (yal (fin h' tk λc o hc e=>?_)))
  simp only[yau,nN_,or_false,not_or]at hc
  exact kp c o hc.1 hc.2.1 hc.2.2.1 hc.2.2.2 e
 ·refine qdW hh D1 D2 ap f1 f2 q1 q2 q3 hk λh' tk e kp he=>?_
  obtain⟨o,ho,hcl⟩:=he
  refine yab (ycv (T:="StopIteration") (b:=true) ⟨o,ho,hcl⟩ yd4 (yal (fin h' tk λc o hc e=>?_)))
  simp only[yau,nN_,or_false,not_or]at hc
  exact kp c o hc.1 hc.2.2.1 hc.2.2.2 e
theorem qhr (hh:A.handled=none) (ap:ZAp z TI TO i1 i2 [i1,a1] [i2,a2]) (m1:a1≠i1) (m2:a2≠i2) (sa1:a1 ∉ [z,TO,i1,i2]) (sa2:a2 ∉ [z,TO,i1,i2]) (hS:S ∉ [z,TI,TO,i1,i2,a1,a2]) (lo:Nat) (hmin:min u.size v.size<=1000) (res:Value) :
  ∀(m k:Nat)(s:yaa)(acc:Array Value)(c:Nat),m=min u.size v.size-k->k<=min u.size v.size->lo<=s.heap.objs.size->LZ z TI TO i1 i2 a1 a2 S u v k s.heap->yd s.heap lo [z,TO,i1,i2,S] u v acc k->s.heap.get? S=some {cls:=.type "list",dict:=none,data:=.seq acc c,slots := #[]} ->
  (∀h' tk acc' c',(∀b o,b ∉ [z,TO,i1,i2,S]->s.heap.get? b=some o->h'.get? b=some o)->h'.get? S=some {cls:=.type "list",dict:=none,data:=.seq acc' c',slots := #[]}->yd h' lo [z,TO,i1,i2,S] u v acc' (min u.size v.size)->R (.ok (.ret res)) {s with heap:=h',toks:=tk}) ->
  yb1 (model prog w) A (.builtin "list.extend.loop" ⟨[.ref S,.ref z,res],[]⟩) R s:=by
 have hS':=hS
 simp only[yau,nN_,or_false,not_or]at hS'
 have cut:∀c,c ∉ [z,TO,i1,i2,S]->c ∉ [z,TO,i1,i2]:=λc hc h=>hc (by
  simp only[yau,nN_,or_false]at h
  rcases h with h|h|h|h<;>rw[h]<;>simp)
 have sS:S ∉ [z,TO,i1,i2]:=by
  simp only[yau,nN_,or_false,not_or]
  exact⟨hS'.1,hS'.2.2.1,hS'.2.2.2.1,hS'.2.2.2.2.1⟩
 intro m
 induction m with
 |zero=>
  intro k s acc c hm hk hlo L P hs fin
  refine yb6 yen ?_
  rw[ybX ybF _]
  show wpAny (model prog w) A.in1 (ybY (yae z) >>= _) _ _ s
  refine yab (qhq (A:=A.in1) hh ap m1 m2 L (by omega) λh' tk kp=>yal ?_)
  have ek:k=min u.size v.size:=by omega
  rw[ek]at P
  exact fin h' tk acc c (λb o hb e=>kp b o (cut b hb) e) (kp S _ sS hs) (P.keep λb o hb e=>kp b o (cut b hb) e)
 | succ m ih=>
  intro k s acc c hm hk hlo L P hs fin
  refine yb6 yen ?_
  rw[ybX ybF _]
  show wpAny (model prog w) A.in1 (ybY (yae z) >>= _) _ _ s
  refine yab (qhp (A:=A.in1) hh ap m1 m2 L (by omega) (by omega) ⟨_,hs⟩ sa1 sa2 λx y h' tk px py L' new kp nin=>?_)
  have hs':=kp S _ sS hs
  show wpAny (model prog w) A.in1 (updateSeq S (·.push (yae s.heap.objs.size)) >>= _) _ _ _
  refine yab ?_
  have P':yd h' lo [z,TO,i1,i2,S] u v (acc.push (.ref s.heap.objs.size)) (k+1):=yd.push (P.keep λb o hb e=>kp b o (cut b hb) e) px py new hlo nin λi hi=>by
   have hik:i<k:=by
    have:=(Array.getElem?_eq_some_iff.mp hi).1
    rw[P.1]at this
    exact this
   obtain⟨p,e1,e2,_⟩:=P.2.1 i u[i] v[i] hik (Array.getElem?_eq_getElem (by omega)) (Array.getElem?_eq_getElem (by omega))
   rw[hi]at e1
   cases e1
   exact ybG _ (yac e2)
  have oth:∀b o,b≠S->h'.get? b=some o->(h'.update S (yaC (·.push (yae s.heap.objs.size)))).get? b=some o:=λb o hb e=>(Heap.get?_update_other _ _ (ybz hb)).trans e
  have nS:∀b,b ∉ [z,TO,i1,i2,S]->b≠S:=λb hb e=>hb (by rw[e];simp)
  refine ydL hs' rfl (yal ⟨yc6 ybF _,ih (k+1) _ (acc.push (.ref s.heap.objs.size)) _ (by omega) (by omega) ?_ (L'.keep hS'.1 hS'.2.2.1 hS'.2.1 hS'.2.2.2.1 hS'.2.2.2.2.1 hS'.2.2.2.2.2.1 hS'.2.2.2.2.2.2 oth) (P'.keep λb o hb e=>oth b o (nS b hb) e) (Heap.get?_update_self _ hs' rfl) λh'' tk' acc' c' kp2 hs'' P''=>?_⟩) (by have:=P.1;rw[ybc];omega) (by show(acc.push _).size<=yaq+1;rw[Array.size_push,ybc];have:=P.1;omega)
  ·show lo<=(h'.update S _).objs.size
   rw[ycw]
   have:=yac new
   exact ya4 hlo (ydr this)
  ·exact fin h'' tk' acc' c' (λb o hb e=>kp2 b o hb (oth b o (nS b hb) (kp b o (cut b hb) e))) hs'' P''
end
end L2.Sk
set_option maxHeartbeats 1000000
namespace L2.Sk
open PySem PySem.Spec PyProof.Rows
theorem qcH:ydk (.type "zip") "__len__"=pure none:=by
 rw[ycE,ybU]
 kernel_rfl
theorem qbB:ydk (.type "zip") "__length_hint__"=pure none:=by
 rw[ycE,ybU]
 kernel_rfl
section
variable{prog:yaj}{w:World}{A:yar}{s:yaa}{R:ycT->yaa->Prop}{z TI TO i1 i2 a1 a2 S:Addr}{u v:Array Value}
theorem qlb (hh:A.handled=none) (ap:ZAp z TI TO i1 i2 [i1,a1] [i2,a2]) (m1:a1≠i1) (m2:a2≠i2) (sa1:a1 ∉ [z,TO,i1,i2]) (sa2:a2 ∉ [z,TO,i1,i2]) (hS:S ∉ [z,TI,TO,i1,i2,a1,a2]) (hmin:min u.size v.size<=1000)
  (zz:IsZip s.heap z TI TO .none) (zO:∃p q,yaR s.heap TO p q) (zI:yaR s.heap TI (.ref i1) (.ref i2)) (t1:s.heap.IsTupleIter i1 a1 0/\s.heap.IsTuple a1 u) (t2:s.heap.IsTupleIter i2 a2 0/\s.heap.IsTuple a2 v)
  (lo:Nat) (hlo:lo<=s.heap.objs.size) (hs:s.heap.get? S=some {cls:=.type "list",data:=.seq #[]})
  (fin:∀h' tk acc' c',(∀b o,b ∉ [z,TO,i1,i2,S]->s.heap.get? b=some o->h'.get? b=some o)->h'.get? S=some {cls:=.type "list",dict:=none,data:=.seq acc' c',slots := #[]}->yd h' lo [z,TO,i1,i2,S] u v acc' (min u.size v.size)->R (.ok (.ret .none)) {s with heap:=h',toks:=tk}) :
  wpAny (model prog w) A.in1 (ybH.«list.__init__» ⟨[.ref S,.ref z],[]⟩)
   (λr s'=>match r with|.done f=>R (.ok f) s'|.again c'=>c'.quiet=true/\yb1 (model prog w) A c' R s') (λe s'=>R (.error e) s') s:=by
 have hS':=hS
 simp only[yau,nN_,or_false,not_or]at hS'
 have hT:s.TypeIs (.ref z) "zip":=⟨_,zz,rfl⟩
 show wpAny (model prog w) A.in1 (Builtin.List.listItems (yae S) >>= λold=>ydA (yae S) (λ_ => #[]) >>= λ_=>letGo old.toList.reverse >>= λ_=>ybm (yae S) (yae z) yaD) _ _ s
 refine yab (listItems_at hs rfl (yab (yel hs rfl ?_ (yaV _) (yaV _))))
 have hs2:=Heap.get?_update_self (yaC λ_=>(#[]:Array Value)) hs rfl
 have o2:∀b o,b≠S->s.heap.get? b=some o->(s.heap.update S (yaC λ_=>(#[]:Array Value))).get? b=some o:=λb o hb e=>(Heap.get?_update_other _ _ (ybz hb)).trans e
 refine yab (ydU ?_)
 generalize hm:s.heap.update S (yaC λ_=>(#[]:Array Value))=m at hs2 o2
 have szm:m.objs.size=s.heap.objs.size:=by rw[<-hm,ycw]
 unfold ybm
 have hT2:({s with heap:=m}:yaa).TypeIs (.ref z) "zip":=⟨_,o2 _ _ (ybz hS'.1) zz,rfl⟩
 refine yab (yeJ hT2 ?_)
 have e1:ybE (yae S) (yae z)=false:=by simp[ybE,hS'.1]
 have e2:(ybJ "zip"==ybJ "list")=false:=by decide
 have e3:(ybJ "zip"==ybJ "tuple")=false:=by decide
 simp only[e1,e2,e3,Bool.or_false,yaN,if_false]
 have zz2:IsZip m z TI TO .none:=o2 _ _ (ybz hS'.1) zz
 refine yab (ydu zz2 (yab (ya7 ?_)))
 unfold ycX
 refine yab (ycF hT2 qcH ?_)
 show wpAny (model prog w) A.in1 (specialOf (yae z) (yaT "__length_hint__") >>= _) _ _ _
 refine yab (ycF hT2 qbB (yal ?_))
 show wpAny (model prog w) A.in1 (rule "list.extend.makes-room" >>= λ_=>Builtin.List.listTouch (yae S) >>= λ_=>again (.builtin "list.extend.loop" ⟨[yae S,yae z,yaD],[]⟩)) _ _ _
 refine yab (ydj (yab ?_))
 show wpAny (model prog w) A.in1 (updateSeq S (·.push yaD) >>= λ_=>updateSeq S (·.pop)) _ _ _
 refine yab (ydL hs2 rfl ?_)
 have hs3:=Heap.get?_update_self (yaC (·.push yaD)) hs2 rfl
 refine ydL (hz:=by seq_fits) hs3 rfl ?_
 have hs4:=Heap.get?_update_self (yaC (·.pop)) hs3 rfl
 have o4:∀b o,b≠S->s.heap.get? b=some o->((m.update S (yaC (·.push yaD))).update S (yaC (·.pop))).get? b=some o:=λb o hb e=>(Heap.get?_update_other _ _ (ybz hb)).trans ((Heap.get?_update_other _ _ (ybz hb)).trans (o2 b o hb e))
 have sz4:((m.update S (yaC (·.push yaD))).update S (yaC (·.pop))).objs.size=s.heap.objs.size:=by rw[ycw,ycw,szm]
 have L:LZ z TI TO i1 i2 a1 a2 S u v 0 ((m.update S (yaC (·.push yaD))).update S (yaC (·.pop))):=LZ.keep (h:=s.heap) ⟨.inl ⟨zz,zO⟩,zI,t1,t2⟩ hS'.1 hS'.2.2.1 hS'.2.1 hS'.2.2.2.1 hS'.2.2.2.2.1 hS'.2.2.2.2.2.1 hS'.2.2.2.2.2.2 o4
 have nS:∀b,b ∉ [z,TO,i1,i2,S]->b≠S:=λb hb e=>hb (by rw[e];simp)
 exact yal ⟨yc6 ybF _,qhr hh ap m1 m2 sa1 sa2 hS lo hmin .none _ 0 _ _ _ rfl (yaV _) (by show lo<=_;rw[sz4];exact hlo) L ⟨rfl,λi x y hi=>absurd hi (Nat.not_lt_zero _),λi j p h=>by simp at h⟩ hs4 λh' tk acc' c' kp hs' P=>fin h' tk acc' c' (λb o hb e=>kp b o hb (o4 b o (nS b hb) e)) hs' P⟩
end
section
variable{prog:yaj}{w:World}{A:yar}{s:yaa}{E:Value->yaa->Prop}{z TI TO i1 i2 a1 a2:Addr}{u v:Array Value}
end
end L2.Sk
set_option maxHeartbeats 1000000
namespace L2.Sk
open PySem PySem.Spec PyProof.Rows
section
variable{X:Cx}{H0 H:Hp}{s0 s:yaa}{T:Addr}{o:HO}
end
section
variable{X:Cx}{a b:Expr}{pos:Pos}
end
end L2.Sk
set_option maxHeartbeats 1000000
namespace L2.Sk
open PySem PySem.Spec PyProof.Rows
end L2.Sk
set_option maxHeartbeats 1000000
namespace L2.Sk
open PySem PySem.Spec PyProof.Rows
section
variable{X:Cx}
end
def qmT:D->D->Option D
 |.tup ds,.int k=>if ds.isEmpty then none else if k=0 then some (.tup [])else if k=1 then some (.tup ds)else vS (.tup ds) (.int k)
 |x,y=>vS x y
end L2.Sk
set_option maxHeartbeats 1000000
namespace L2.Sk
open PySem PySem.Spec PyProof.Rows
section
variable{X:Cx}{pins:List (Addr×Obj)}{σ:St}{H:Hp}{s:yaa}{A:Addr->Prop}
end
def qhs(d:D):Bool:=(j8 d).showable&&decide ((j8 d).shown.length<=yaq)&&decide ((j8 d).depth<=50)
section
variable{X:Cx}
end
def qmu:List D->Option D
 | [d]=>if qhs d then some (.str (j8 d).shown)else none
 |_=>none
end L2.Sk
namespace L2
open PySem PySem.Spec PyProof.Rows
section
variable{κ:Type}[DecidableEq κ]
def qkl(kvs:List (κ×V))(k:κ):Option V:=(kvs.find? λkv=>decide (kv.1=k)).map (·.2)
def qkm (kvs:List (κ×V)) (k:κ) (v:V):List (κ×V) :=
 if(kvs.any λkv=>decide (kv.1=k))=true then kvs.map (λkv=>if kv.1=k then(kv.1,v)else kv)else kvs++[(k,v)]
def qjH(kvs:List (κ×V))(k:κ):List (κ×V):=kvs.filter λkv=>decide (kv.1≠k)
theorem qh8.getD {o:Option V} {u:Option Value} {d:V} {d':Value} (r:qh8 o u) (rd:jm d d'):jm (o.getD d) (u.getD d'):=by
 cases o with
 |none=>cases u with
  |none=>exact rd
  |some _=>exact(show False from r).elim
 |some _=>cases u with
  |none=>exact(show False from r).elim
  |some _=>exact r
theorem KV.any {kvs:List (κ×V)} {vs:List (κ×Value)} (r:KV kvs vs) (k:κ):(kvs.any λkv=>decide (kv.1=k))=vs.any λkv=>decide (kv.1=k):=by
 unfold KV at r
 induction r with
 |nil=>rfl
 |cons h t ih=>rw[List.any_cons,List.any_cons,ih,h.1]
theorem KV.drop {kvs:List (κ×V)} {vs:List (κ×Value)} (r:KV kvs vs) (k:κ):KV (qjH kvs k) (without vs k):=by
 unfold KV at r |-
 unfold qjH without
 induction r with
 |nil=>exact .nil
 | @cons p q ps qs h t ih=>
  obtain⟨h1,h2⟩:=h
  rw[ft_,ft_]
  by_cases e:p.1=k
  ·have a:¬decide (p.1≠k)=true:=by simp[e]
   have b:¬decide (q.1≠k)=true:=by simp[h1.symm.trans e]
   rw[if_neg a,if_neg b];exact ih
  ·have e':¬q.1=k:=λz=>e (h1.trans z)
   have a:decide (p.1≠k)=true:=by simp[e]
   have b:decide (q.1≠k)=true:=by simp[e']
   rw[if_pos a,if_pos b];exact .cons ⟨h1,h2⟩ ih
theorem KV.length{kvs:List (κ×V)}{vs:List (κ×Value)}(r:KV kvs vs):kvs.length=vs.length:=Paired.length r
end
section
variable{P:yaj}{w:World}{H:Hp}{h:Heap}{a:Addr}
end
def qkn (H:Hp) (a:Addr) (y:V) (r:Option V):Prop :=
 (∃kvs k,Rd H a (.dK kvs)/\y=kV k/\r=qkl kvs k)\/∃kvs k b,Rd H a (.dT kvs)/\y=.ref b/\H b=some (.tup (k.map kV))/\r=qkl kvs k
def qko (H:Hp) (a:Addr) (y v:V) (H':Hp):Prop :=
 (∃kvs k,H a=some (.dK kvs)/\y=kV k/\kvs.length<yaq/\H'=upd H a (.dK (qkm kvs k v))) \/
 ∃kvs k b,H a=some (.dT kvs)/\y=.ref b/\H b=some (.tup (k.map kV))/\kvs.length<yaq/\H'=upd H a (.dT (qkm kvs k v))
theorem qkn.k{H:Hp}{a:Addr}{kvs:List (Key×V)}{k:Key}(e:H a=some (.dK kvs)):qkn H a (kV k) (qkl kvs k):=.inl ⟨kvs,k,.inl e,rfl,rfl⟩
theorem qkn.t{H:Hp}{a b:Addr}{kvs:List (List Key×V)}{k:List Key}(e:H a=some (.dT kvs))(eb:H b=some (.tup (k.map kV))):qkn H a (.ref b) (qkl kvs k):=.inr ⟨kvs,k,b,.inl e,rfl,eb,rfl⟩
theorem qko.k{H:Hp}{a:Addr}{kvs:List (Key×V)}{k:Key}{v:V}(e:H a=some (.dK kvs))(hl:kvs.length<yaq):qko H a (kV k) v (upd H a (.dK (qkm kvs k v))):=.inl ⟨kvs,k,e,rfl,hl,rfl⟩
theorem qko.t {H:Hp} {a b:Addr} {kvs:List (List Key×V)} {k:List Key} {v:V} (e:H a=some (.dT kvs)) (eb:H b=some (.tup (k.map kV))) (hl:kvs.length<yaq) :
  qko H a (.ref b) v (upd H a (.dT (qkm kvs k v))):=.inr ⟨kvs,k,b,e,rfl,eb,hl,rfl⟩
section
variable{X:Cx}{pins:List (Addr×Obj)}{σ:St}{H:Hp}{s:yaa}{a:Addr}{y v:V}{u r:Value}{o:Option V}{A:yar}{E:Value->yaa->Prop}
end
section
variable{X:Cx}{pins:List (Addr×Obj)}{σ:St}{H:Hp}{s:yaa}{a:Addr}{kvs:List (Key×V)}{k:Key}{u:Value}{A:yar}{E:Value->yaa->Prop}
end
section
variable{X:Cx}{o i e value:Expr}{pos pos' tpos:Pos}{td ty tv:TE}
end
section
variable{X:Cx}{pos:Pos}
end
structure M1 (X:Cx) (o:Expr) (m:Str) (apos:Pos) (e:Expr) (cpos:Pos):Prop where
 base:ybI o m X.env (eval o X.env)=eval o X.env
 few:((yaE cpos (yag [e] X.env)).all (λx => !x.1)&&(ycM cpos (yb3 [] X.env)).all (λx=>x.1.isSome)
  && decide (([e]:List Expr).length+([]:List ybr).length+(if([]:List ybr).isEmpty then 0 else 1)<30))=true
 line:(apos.endLine==cpos.line)=true
 trees:yaE cpos (yag [e] X.env)=[(false,eval e X.env)]
structure M2 (X:Cx) (o:Expr) (m:Str) (apos:Pos) (e f:Expr) (cpos:Pos):Prop where
 base:ybI o m X.env (eval o X.env)=eval o X.env
 few:((yaE cpos (yag [e,f] X.env)).all (λx => !x.1)&&(ycM cpos (yb3 [] X.env)).all (λx=>x.1.isSome)
  && decide (([e,f]:List Expr).length+([]:List ybr).length+(if([]:List ybr).isEmpty then 0 else 1)<30))=true
 line:(apos.endLine==cpos.line)=true
 trees:yaE cpos (yag [e,f] X.env)=[(false,eval e X.env),(false,eval f X.env)]
section
variable{X:Cx}{pins:List (Addr×Obj)}{σ:St}{H:Hp}{s:yaa}{a:Addr}{y d:V}{u r:Value}{o:Option V}{A:yar}{E:Value->yaa->Prop}
end
section
variable{X:Cx}{o e f:Expr}{apos cpos:Pos}{td ty tx:TE}
end
section
variable{X:Cx}{pins:List (Addr×Obj)}{σ:St}{H:Hp}{s:yaa}{a:Addr}{kvs:List (Key×V)}{A:yar}{E:Value->yaa->Prop}
end
end L2
namespace L2
open PySem PySem.Spec PyProof.Rows
section
variable{X:Cx}{pins:List (Addr×Obj)}{σ:St}{H:Hp}{s:yaa}{a:Addr}{kvs:List (Key×V)}{o:Obj}{u u':HO}
end
section
variable{X:Cx}{tg:Expr}
end
end L2
namespace L2.Sk
open PySem PySem.Spec PyProof.Rows
abbrev Kv:=List (Key×Int)
def toV(kvs:Kv):List (Key×V):=kvs.map λp=>(p.1,V.int p.2)
def qkp(kvs:Kv)(k:Int):Option Int:=(kvs.find? λp=>decide (p.1=ybZ k)).map (·.2)
def qmv(kvs:Kv)(k v:Int):Kv:=if(kvs.any λp=>decide (p.1=ybZ k))=true then kvs.map (λp=>if p.1=ybZ k then(p.1,v)else p)else kvs++[(ybZ k,v)]
section
variable{X:Cx}{c:Fc}{a b e:Expr}{pos:Pos}
def qmw:D->D->Option D
 |.dic kvs,.int k=>(qkp kvs k).map D.int
 |_,_=>none
end
def gin (kvs0:Kv) (e1:M D) (jP jF jL jT jH:Nat):List D->Env->Kv->Option (Env×Kv)
 | [],Z,kvs=>some (Z,kvs)
 | d :: ds,Z,kvs=>match d with
  | .tup [x,y]=>(match e1 ((Z.set jF (some x)).set jL (some y)) with
   | .ok (.int t,Z2)=>(match (Z2.set jT (some (.int t)))[jP]?,(Z2.set jT (some (.int t)))[jL]? with
    | some (some (.int k)),some (some (.int l))=>(match qkp kvs0 k with
     | some v=>(match ((Z2.set jT (some (.int t))).set jH (some (.int (v+l))))[jT]?,((Z2.set jT (some (.int t))).set jH (some (.int (v+l))))[jH]? with
      | some (some (.int t')),some (some (.int h))=>if kvs.length<1000 then
        gin kvs0 e1 jP jF jL jT jH ds ((Z2.set jT (some (.int t))).set jH (some (.int (v+l)))) (qmv kvs t' (if h<(qkp kvs t').getD h then h else(qkp kvs t').getD h))
       else none
      |_,_=>none)
     |none=>none)
    |_,_=>none)
   |_=>none)
  |_=>none
def qlR (kvs0:Kv) (it:M (List D)) (e1:M D) (jP jF jL jT jH:Nat):List Key->Env->Kv->Option (Env×Kv)
 | [],Z,kvs=>some (Z,kvs)
 | k :: ks,Z,kvs=>match k with
  | .inl n=>(match it (Z.set jP (some (.int n))) with
   |.ok (ds,Z2)=>(match gin kvs0 e1 jP jF jL jT jH ds Z2 kvs with
    |some (Z3,kvs3)=>qlR kvs0 it e1 jP jF jL jT jH ks Z3 kvs3
    |none=>none)
   |_=>none)
  |.inr _=>none
def qmx (Z:Env):Bool:=Z.all λo=>match o with
 |some d=>imm d
 |none=>true
def qmy (i iF:Nat) (it:M (List D)) (e1:M D) (jP jF jL jT jH:Nat):MS:=λZ=>match Z[iF]? with
 |some (some (.dic kvs0))=>if(qmx ((Z.set i none).set iF none)&&decide (i<Z.length))=true then(match qlR kvs0 it e1 jP jF jL jT jH (kvs0.map (·.1)) ((Z.set i none).set iF none) kvs0 with
  |some (Z',kvs') => .ok (.nx ((Z'.set i (some (.dic kvs'))).set iF (some (.dic kvs'))))
  |none => .bad)else .bad
 |_ => .bad
abbrev cg(a:Addr)(Hf:Hp):Fc:=⟨[],[],λx=>Hf x=none,Hf,λx=>x=a,λ_ _=>False,λ_=>none⟩
structure RP (K:Fr0) (i iF:Nat) (a b:Addr) (Hf:Hp) (Z:Env) (kvs:Kv) (σ:St) (H:Hp):Prop where
 rep:Rep K (cg a Hf) Z σ H
 si:σ[i]? = some (some (.ref a))
 sF:σ[iF]? = some (some (.ref b))
 ha:H a=some (.dK (toV kvs))
def GA(a:Addr)(H H':Hp):Prop:=∀x o,x≠a->H x=some o->H' x=some o
theorem GA.trans{a:Addr}{H H1 H2:Hp}(g:GA a H H1)(k:GA a H1 H2):GA a H H2:=λx o n h=>k x o n (g x o n h)
section
variable{K:Fr0}{i iF:Nat}{a b:Addr}{Hf:Hp}{Z:Env}{kvs:Kv}{σ:St}{H H':Hp}
theorem RP.gr {Z':Env} (r:RP K i iF a b Hf Z kvs σ H) (rep:Rep K (cg a Hf) Z' σ H') (g:Gr [] σ H H'):RP K i iF a b Hf Z' kvs σ H' :=
 ⟨rep,r.si,r.sF,g.ext.at_ a _ (λ_ z=>by cases z) r.ha⟩
end
section
variable{X:Cx}{c:Fc}{i iF jP jF jL jT jH:Nat}{e1:Expr}{s1 s2 s3:Stmt}{g:M D}{a b:Addr}{Hf:Hp}{kvs0:Kv}
section
variable{K:Fr0}{Z Z':Env}{σ σ':St}{H H':Hp}{l p:Addr}{kv kv':List (Key×V)}{o:Obj}{kvs':Kv}
end
end
def qmU:List D->Option D
 | [.int i]=>if decide (i.natAbs.log2<1920)then some (.str (toString i))else none
 |_=>none
section
variable{X:Cx}{c:Fc}{e:Expr}{pos:Pos}
def qmz (i j1 j2:Nat) (f:M D):MS:=sbnd f λd Z=>match d,zm i Z,Z[j1]?,Z[j2]? with
 |.tup [d1,d2],some ds,some (some (.int n1)),some (some (.int n2))=>(match ixN ds.length n1,ixN ds.length n2 with
  |some q1,some q2=>if(imm d1&&imm d2)=true then .ok (.nx (Z.set i (some (.lst ((ds.set q1 d1).set q2 d2)))))else .bad
  |_,_ => .bad)
 |_,_,_,_ => .bad
end
section
variable{X:Cx}
end
def qmA:List D->Option D
 | [.tup ds]=>match yT ds with
  |some (n::ns)=>some (.int (qlz (n::ns)))
  |_=>none
 |_=>none
section
variable{P:yaj}{w:World}{K:yah}{mg:Str->Option Value}{base:Heap}{k:Nat}{f:Addr}{fd:yaO}{ps:List Str}{x:Str}
end
end L2.Sk
set_option maxHeartbeats 1000000
namespace L2.St
open PySem
end L2.St
set_option maxHeartbeats 1000000
namespace L2.St
open PySem
section
variable{prog:yaj}{w:World}{A:yar}{E:Value->yaa->Prop}{s:yaa}{l:Bool}{S:Addr}{σ:List Int}{k:Int}{tk:Tok}
end
end L2.St
set_option maxHeartbeats 3200000
namespace L2.St
open PySem
section
variable{prog:yaj}{w:World}{A:yar}{R:ycT->yaa->Prop}{I S:Addr}{fp wr:List Addr}{G:Array yec->Array yec->Prop}{n:Nat}{P:Nat->Value->Prop}{St:Nat->yaa->Prop}{l:Bool}
end
section
variable{prog:yaj}{w:World}{A:yar}{E:Value->yaa->Prop}{s:yaa}
end
end L2.St
set_option maxHeartbeats 3200000
namespace L2.St
open PySem
section
variable{prog:yaj}{w:World}{A:yar}{E:Value->yaa->Prop}{s:yaa}
end
end L2.St
set_option maxHeartbeats 3200000
namespace L2.St
open PySem
section
variable{prog:yaj}{w:World}{A:yar}{E:Value->yaa->Prop}{s:yaa}
end
end L2.St
set_option maxHeartbeats 3200000
namespace L2.St
open PySem
section
variable{prog:yaj}{w:World}{A:yar}{E:Value->yaa->Prop}{s:yaa}{I S:Addr}{o:Obj}{es:Array (Int×Value)}{ep:Nat}{t:SetTable}
end
end L2.St
set_option maxHeartbeats 3200000
namespace L2.St
open PySem
section
variable{prog:yaj}{w:World}{A:yar}{E:Value->yaa->Prop}{s:yaa}{I S:Addr}{o:Obj}{es:Array (Int×Value)}{ep:Nat}{t:SetTable}
end
end L2.St
set_option maxHeartbeats 3200000
namespace L2.St
open PySem
section
variable{prog:yaj}{w:World}{A:yar}{E:Value->yaa->Prop}{s:yaa}{S:Addr}{σ:List Int}
end
end L2.St
set_option maxHeartbeats 3200000
namespace L2
open PySem PySem.Spec PyProof.Rows
def qmB (k:Int):List Int->List Int
 | []=>[k]
 |a::l=>if k<=a then k::a::l else a::qmB k l
section
variable{X:Cx}{e:Expr}{pos:Pos}
end
end L2
namespace L2.Sk
open PySem PySem.Spec PyProof.Rows
section
variable{X:Cx}{c:Fc}{e:Expr}{pos:Pos}
end
end L2.Sk
set_option maxHeartbeats 1000000
namespace L2.Sk
open PySem PySem.Spec PyProof.Rows
section
variable{X:Cx}{c:Fc}{e:Expr}{es:List Expr}{pos:Pos}
end
end L2.Sk
set_option maxHeartbeats 1000000
namespace L2.Sk
open PySem PySem.Spec PyProof.Rows
def ixS:D->D->Option D
 |.str z,.int i=>if qG z.length then(atI z.cps.toList i).map λc => .str ⟨#[c]⟩else none
 |_,_=>none
theorem qht {K:Fr0}:OpS K ixS qkc:=by
 intro A H x y d v u Q hn ix iy e k
 unfold ixS at e
 split at e
 ·rename_i z i
  cases ix;cases iy
  by_cases h:qG z.length=true
  ·rw [if_pos h]at e
   cases e1:atI z.cps.toList i with
   |none=>rw[e1]at e;cases e
   |some c=>
    rw[e1]at e
    cases e
    exact⟨z,i,c,rfl,rfl,of_decide_eq_true h,e1,k _ H (zK.refl H) rfl⟩
  ·rw[if_neg h]at e;cases e
 ·cases e
def ixB(x y:D):Option D:=(ixD x y).or (ixS x y)
theorem ua{X:Cx}:IxR X (λx y H Q=>(qiB X.K x y H Q\/qiC X.K x y H Q)\/qkc x y H Q):=zk.or qiE
theorem zA {K:Fr0}:OpS K ixB (λx y H Q=>(qiB K x y H Q\/qiC K x y H Q)\/qkc x y H Q):=by
 intro A H x y d v u Q hn ix iy e k
 unfold ixB at e
 cases e1:ixD x y with
 |some b=>rw[e1]at e;exact .inl (zh A H x y d v u Q hn ix iy (by rw[e1];exact e) k)
 |none=>rw[e1]at e;exact .inr (qht A H x y d v u Q hn ix iy e k)
def qmC(x y:Str):Bool := !(yaK y x 0 y.length 1).isEmpty
def inS:D->D->Option D
 |.str x,.str y=>some (.bl (qmC x y))
 |_,_=>none
abbrev qmD:R2:=λx y H Q=>∃i j,x=.str i/\y=.str j/\Q (.bl (!(yaK j i 0 j.length 1).isEmpty)) H
theorem qhu {K:Fr0}:OpS K inS qmD:=by
 intro A H x y d v u Q hn ix iy e k
 unfold inS at e
 split at e
 ·rename_i i j
  cases ix;cases iy;cases e
  exact⟨i,j,rfl,rfl,k _ H (zK.refl H) rfl⟩
 ·cases e
def wy (x y:Str):List Str:=match yaK x y 0 x.length 1 with
 |i::_=>[ybn x 0 i,y,ybn x (i+y.length) x.length]
 | []=>[x,ydF,ydF]
def qjI:V->List V->Hp->VK->Prop:=λx vs H Q=>∃z y,x=.str z/\vs=[.str y]/\(y.length==0)=false/\z.length<=yaq/\∀p,H p=none->Q (.ref p) (upd H p (.tup ((wy z y).map V.str)))
section
variable{X:Cx}
theorem qdX:MtR X "str.partition" qjI:=by
 intro pins s σ H x vs v us Q I rx rv h
 obtain⟨z,y,rfl,rfl,hy,hz,q⟩:=h
 obtain⟨t,rfl⟩:=rx
 obtain⟨u,rfl,ru⟩:=qU.one rv
 obtain⟨t2,rfl⟩:=ru
 have hf:H s.heap.objs.size=none:=I.hok.fresh (yak _)
 refine yby F.slot_str_partition (ybV _ _ _) F.entry_str_partition (F.args_str_partition_2 _ _) (meets_str_partition z y t t2 hy hz) ?_
 have key:∀(l:List Str)(its:List Value)(tk:Nat),wy z y=l->qU (l.map V.str) its->l.length<=3->EP X pins σ Q (.ref s.heap.objs.size) {s with toks:=tk,heap:=s.heap.push {cls:=.type "tuple",data:=.seq its.toArray} }:=λl its tk e r hl=>by
  subst e
  refine⟨.ref s.heap.objs.size,upd H s.heap.objs.size (.tup ((wy z y).map V.str)),I.laid (t':=tk) (λb u e=>Heap.get?_push_of_some _ e) (yak _) ?_,rfl,q _ hf⟩
  exact⟨by rw[lM_,ybc];omega,its,r,⟨_,Heap.get?_push_size _ rfl,rfl,_,rfl⟩⟩
 cases e:yaK z y 0 z.length 1 with
 |nil=>
  refine key [z,ydF,ydF] _ _ (by unfold wy;rw[e]) ?_ (by simp)
  exact .cons ⟨_,rfl⟩ (.cons ⟨_,rfl⟩ (.cons ⟨_,rfl⟩ .nil))
 |cons i l=>
  refine key _ _ _ (by unfold wy;rw[e]) ?_ (by simp)
  exact .cons ⟨_,rfl⟩ (.cons ⟨_,rfl⟩ (.cons ⟨_,rfl⟩ .nil))
end
end L2.Sk
set_option maxHeartbeats 1000000
namespace L2.Sk
open PySem PySem.Spec PyProof.Rows
def qgb:V->List V->Hp->VK->Prop:=λx vs H Q=>∃z y,x=.str z/\vs=[.str y]/\(y.length==0)=false/\z.length<=yaq/\(Txt.split z y).length<=yaq/\∀p,H p=none->Q (.ref p) (upd H p (.lst ((Txt.split z y).map V.str)))
def qjJ(K:yah):V->List V->Hp->VK->Prop:=λx vs H Q=>∃z a ws,x=.str z/\vs=[.ref a]/\SqL K H a (ws.map V.str)/\ycn z ws=true/\Q (.str (Txt.join z ws)) H
theorem vals_strs:∀{ws:List Str}{its:List Value},qU (ws.map V.str) its->∃l:List (Str×Tok),yaU l=its/\l.map (·.1)=ws
 | [],_,.nil=>⟨[],rfl,rfl⟩
 |w::ws,_,.cons r rs=>by
  obtain⟨t,rfl⟩:=r
  obtain⟨l,rfl,e⟩:=vals_strs rs
  exact⟨(w,t)::l,rfl,by rw[mC_,e]⟩
theorem qa2:∀l:List (Str×Tok),qU ((l.map (·.1)).map V.str) (yaU l)
 | [] => .nil
 |(w,t)::l => .cons ⟨t,rfl⟩ (qa2 l)
section
variable{X:Cx}
theorem qfg:MtR X "str.split" qgb:=by
 intro pins s σ H x vs v us Q I rx rv h
 obtain⟨z,y,rfl,rfl,hy,hz,hz2,q⟩:=h
 obtain⟨t,rfl⟩:=rx
 obtain⟨u,rfl,ru⟩:=qU.one rv
 obtain⟨t2,rfl⟩:=ru
 have hf:H s.heap.objs.size=none:=I.hok.fresh (yak _)
 have key:∀(l:List (Str×Tok))(tk:Nat),l.map (·.1)=Txt.split z y->EP X pins σ Q (.ref s.heap.objs.size) {s with toks:=tk,heap:=s.heap.push {cls:=.type "list",data:=.seq (yaU l).toArray} }:=λl tk e=>by
  refine⟨.ref s.heap.objs.size,upd H s.heap.objs.size (.lst ((Txt.split z y).map V.str)),I.laid (t':=tk) (λb u e=>Heap.get?_push_of_some _ e) (yak _) ?_,rfl,q _ hf⟩
  exact⟨by rw[lM_];exact hz2,yaU l,0,by rw[<-e];exact qa2 l,Heap.get?_push_size _ rfl⟩
 cases h1:(decide (z.length<y.length)||decide (yeo z<yeo y)) with
 |true=>
  refine yby ydw (ybV _ _ _) ydh (ycY _ _) (meets_str_split_cannot_occur z y t t2 h1) ?_
  exact key [(z,t)] s.toks (by unfold Txt.split;rw[if_pos h1];rfl)
 | false=>
  cases h2:(yaK z y 0 z.length (z.length+1)).isEmpty with
  |true=>
   refine yby ydw (ybV _ _ _) ydh (ycY _ _) (meets_str_split_not_found z y t t2 h1 hy h2) ?_
   exact key [(z,t)] s.toks (by unfold Txt.split;rw[if_neg (by rw[h1];decide),if_pos h2];rfl)
  | false=>
   have e:Txt.split z y=Builtin.Str.partsBetween z (yaK z y 0 z.length (z.length+1)) y.length:=by
    unfold Txt.split;rw[if_neg (by rw[h1];decide),if_neg (by rw[h2];decide)]
   rw[e]at hz2
   refine yby ydw (ybV _ _ _) ydh (ycY _ _) (meets_str_split_sep z y t t2 h1 hy h2 hz hz2) ?_
   rw[<-e]at hz2 |-
   rw[strsFrom_eq]
   exact key _ _ (numbered_texts _ _)
theorem qhv:MtR X "str.join" (qjJ X.K):=by
 intro pins s σ H x vs v us Q I rx rv h
 obtain⟨z,a,ws,rfl,rfl,hx,ok,q⟩:=h
 obtain⟨t,rfl⟩:=rx
 obtain⟨u,rfl,ru⟩:=qU.one rv
 cases (show u=yae a from ru)
 obtain⟨its,r,pl,_⟩:=I.list hx
 obtain⟨l,rfl,e⟩:=vals_strs r
 exact SC.join (D:=a) (l:=l) pl.isList e ok λt' k=>⟨.str _,H,I.tok _,⟨t',rfl⟩,q⟩
end
def uY:List D->Option (List Str)
 | []=>some []
 |.str x::r=>(uY r).map (x::·)
 |_=>none
theorem qcI {d:D} {r:List D} {ws:List Str} (e:uY (d::r)=some ws):∃b rs,d=.str b/\uY r=some rs/\ws=b::rs:=by
 unfold uY at e
 split at e
 ·rename_i h;cases h
 ·rename_i b r' h
  cases h
  cases e1:uY r with
  |none=>rw[e1]at e;cases e
  |some rs=>rw[e1]at e;cases e;exact⟨b,rs,rfl,rfl,rfl⟩
 ·cases e
theorem uZ {K:Fr0} {A:Addr->Prop} {H:Hp}:∀(ds:List D){xs:List V}{ws:List Str},IsL K A H ds xs->uY ds=some ws->xs=ws.map V.str
 | [],_,_,h,e=>by cases e;exact h
 |d::r,xs,ws,h,e=>by
  obtain⟨b,rs,rfl,e1,rfl⟩:=qcI e
  obtain⟨x,ys,hx,h1,h2⟩:=h
  have h1':x=V.str b:=h1
  rw[hx,h1',uZ r h2 e1]
  rfl
theorem qae {K:Fr0} {A:Addr->Prop} {H:Hp}:∀ws:List Str,IsL K A H (ws.map D.str) (ws.map V.str)
 | []=>rfl
 |n::ns=>⟨.str n,_,rfl,rfl,qae ns⟩
def qdY:D->List D->Option D
 |.str z,[.str y]=>if !(y.length==0)&&qG z.length then some (.tup ((wy z y).map D.str))else none
 |_,_=>none
def qcc:D->List D->Option D
 |.str z,[.str y]=>if !(y.length==0)&&qG z.length&&qG (Txt.split z y).length then some (.lst ((Txt.split z y).map D.str))else none
 |_,_=>none
def qfh:D->List D->Option D
 |.str z,[.lst ds]=>match uY ds with
  |some ws=>if ycn z ws then some (.str (Txt.join z ws))else none
  |none=>none
 |_,_=>none
theorem wM {K:Fr0}:qe3 K qdY qjI:=by
 intro A H x ys d v vs Q hn ix iy e k
 unfold qdY at e
 split at e
 ·rename_i z y
  cases ix
  obtain⟨u,rfl,e2⟩:=IsL.inv1 iy
  cases e2
  split at e
  ·rename_i c
   cases e
   rw[yao,ybR]at c
   exact⟨z,y,rfl,rfl,c.1,of_decide_eq_true c.2,λp hp=>k _ _ (qv hp _) ⟨p,_,rfl,.inl qt,qae _⟩⟩
  ·cases e
 ·cases e
theorem qbC {K:Fr0}:qe3 K qcc qgb:=by
 intro A H x ys d v vs Q hn ix iy e k
 unfold qcc at e
 split at e
 ·rename_i z y
  cases ix
  obtain⟨u,rfl,e2⟩:=IsL.inv1 iy
  cases e2
  split at e
  ·rename_i c
   cases e
   rw[yao,yao,ybR]at c
   exact⟨z,y,rfl,rfl,c.1.1,of_decide_eq_true c.1.2,of_decide_eq_true c.2,λp hp=>k _ _ (qv hp _) ⟨p,_,rfl,hn p hp,qt,qae _⟩⟩
  ·cases e
 ·cases e
theorem qcJ {K:Fr0}:qe3 K qfh (qjJ K):=by
 intro A H x ys d v vs Q hn ix iy e k
 unfold qfh at e
 split at e
 ·rename_i z ds
  cases ix
  obtain⟨u,rfl,e2⟩:=IsL.inv1 iy
  cases e1:uY ds with
  |none=>rw[e1]at e;cases e
  | some ws=>
   rw[e1]at e
   dsimp only at e
   split at e
   ·rename_i c
    cases e
    obtain⟨a,xs,rfl,_,ta,il⟩:=e2
    rw[uZ _ il e1]at ta
    exact⟨z,a,ws,rfl,rfl,.inl (.inl ta),c,k _ H (zK.refl H) rfl⟩
   ·cases e
 ·cases e
def vZ (F:D->List D->Option D) (f:M D) (g:M (List D)):M D:=bnd f λx=>match x with
 |.str z=>bnd g λys=>lift (F (.str z) ys)
 |_=>λ_ => .bad
section
variable{X:Cx}{c:Fc}{o e:Expr}{es:List Expr}{apos cpos:Pos}
theorem vw {id:String} {name:Str} {r:V->List V->Hp->VK->Prop} {F:D->List D->Option D} {f:M D} {g:M (List D)} (slot:Slot "str" name id) (hty:typeOf (.builtin id)=pure (.type "method_descriptor")) (hm:MtR X id r) (hF:qe3 X.K F r)
  (ho:DE X c o f) (ha:DA X c (e::es) g)
  (hbase:ybI o name X.env (eval o X.env)=eval o X.env:=by rfl)
  (hfew:((yaE cpos (yag (e::es) X.env)).all (λx => !x.1)&&(ycM cpos (yb3 [] X.env)).all (λx=>x.1.isSome)
   && decide ((e::es).length+([]:List ybr).length+(if([]:List ybr).isEmpty then 0 else 1)<30))=true:=by rfl)
  (hline:(apos.endLine==cpos.line)=true:=by rfl) (hs:yag (e::es) X.env=(false,eval e X.env)::yag es X.env:=by rfl) (hplain:(yaE cpos (yag es X.env)).any (·.1)=false:=by rfl) :
  DE X c (.Call (.Attribute o name apos) (e::es) [] cpos) (vZ F f g):=by
 obtain⟨to,po,wo⟩:=ho
 obtain⟨t,pa,wa⟩:=ha
 refine⟨_,qiG PySem.F.plainAttrs_str slot hty hm po pa hbase hfew hline hs hplain,λZ σ H Q r0 h=>wo Z σ H _ r0 (Wp.bnd h λx Z1 v H1 r1 i1 g1 h1=>?_)⟩
 cases x with
 |str z=>
  cases i1
  refine⟨rfl,wa Z1 σ H1 _ r1 (WpL.bnd h1 λys Z2 vs H2 r2 i2 g2 h2=>?_)⟩
  obtain⟨d,ed,h3⟩:=h2.lift
  exact hF (Cn c σ) H2 (.str z) ys d (.str z) vs Q (λa ha=>r2.new ha) rfl i2 ed λu H' sm i=>h3 u H' (r2.same sm) i (.of_same sm)
 |_=>exact h1.elim
end
end L2.Sk
set_option maxHeartbeats 1000000
namespace L2
open PySem PySem.Spec PyProof.Rows
def Its(x:Str):It:=⟨λi _=>i<x.cps.size,λi H v H'=>H'=H/\∃c,x.cps[i]? = some c/\v=.str ⟨#[c]⟩,λi _=>x.cps.size<=i⟩
theorem qfi {P:yaj} {w:World} {K:yah} {tg:Expr} {T:String} (hT:T="str_ascii_iterator"\/T="str_iterator") (x:Str) (t:Tok) (it:Addr):qfG P w K tg (Its x) [it] it (λi h=>h.IsStrIter it T x t i) where
 mem:=by simp
 obj:=λi h st b hb=>by
  have e:b=it:=by simpa using hb
  subst e
  obtain⟨o,e,c,d⟩:=st
  exact⟨o,e,λv z=>by rw[d]at z;cases z⟩
 keep:=λi h h' st k=>let ⟨o,ho,r⟩:=st;⟨o,k it (by simp) o ho,r⟩
 item:=by
  intro X hP hw hK hc i pins s σ H E I hf st hg
  subst hP hw hK
  have hx:x.cps[i]? = some x.cps[i]:=Array.getElem?_eq_getElem hg
  obtain⟨f0,f1,f2,f3,f4,f5⟩:=hf it (by simp)
  have fin:∀h',h'.IsStrIter it T x t (i+1)->ybA it s.heap h'->∃u,some (yeq ⟨#[x.cps[i]]⟩ s.toks)=some u /\
    wpAny (model X.prog X.w) X.A (ybL tg (.ref it) u) (λ_ s2=>∃v H',Inv X pins σ H' s2/\jm v u/\(Its x).yld i H v H'/\s2.heap.IsStrIter it T x t (i+1)/\∀b∈[it],H' b=none) E {s with heap:=h',toks:=s.toks+1}:=λh' st' sb=>by
   have I1:Inv X pins σ H {s with heap:=h',toks:=s.toks+1}:=I.turned (t':=s.toks+1) (λb o hb e=>(sb.2 b hb).trans e) f0 f1 f3 f4 f5
   obtain⟨o,e,c,d⟩:=id st'
   refine⟨_,rfl,qex (s:={s with heap:=h',toks:=s.toks+1}) e c d ?_ ⟨.str ⟨#[x.cps[i]]⟩,H,I1,⟨_,rfl⟩,⟨rfl,_,hx,rfl⟩,st',λb hb=>(hf b hb).1⟩⟩
   rcases hT with rfl|rfl<;>decide
  rcases hT with rfl|rfl
  ·exact wpAny_pyNext_ascii_item st hx fin
  ·exact wpAny_pyNext_wide_item st hx fin
 done:=by
  intro X hP hw hK hc i pins s σ H E I hf st hg
  subst hP hw hK
  have hx:x.cps[i]? = none:=Array.getElem?_eq_none hg
  obtain⟨f0,f1,f2,f3,f4,f5⟩:=hf it (by simp)
  rcases hT with rfl|rfl
  ·exact wpAny_pyNext_ascii_end (I.ok.hd hc) st hx λh' eb=>⟨rfl,I.turned (t':=s.toks) (λb o hb e=>eb b o hb e) f0 f1 f3 f4 f5⟩
  ·exact wpAny_pyNext_wide_end (I.ok.hd hc) st hx λh' eb=>⟨rfl,I.turned (t':=s.toks) (λb o hb e=>eb b o hb e) f0 f1 f3 f4 f5⟩
 self:=λ_ _ _ _ _ st h=>by
  rcases hT with rfl|rfl
  ·exact wpAny_pyIter_striter_ascii st h
  ·exact wpAny_pyIter_striter_wide st h
section
variable{X:Cx}{tg e:Expr}
def qmE(tl:TE):TI:=λσ H R=>tl σ H λx H1=>∃z,x=.str z/\R (Its z) H1
theorem qjK {tl:TE} (hl:PE X e tl):PI X tg e (qmE tl):=by
 intro pins s σ H R I h
 refine thn (hl pins s σ H _ I h) λv s1 ⟨x,H1,I1,r1,q1⟩=>?_
 obtain⟨z,e,q⟩:=q1
 subst e
 obtain⟨t,rfl⟩:=r1
 have fin:∀T:String,(T="str_ascii_iterator"\/T="str_iterator")->PIE X pins σ tg R (.ref s1.heap.objs.size) {s1 with heap:=s1.heap.push {cls:=.type T,data:=.fields #[.str z t,.int 0 0]} }:=λT hT=>by
  refine⟨s1.heap.objs.size,[s1.heap.objs.size],_,_,H1,rfl,I1.kept (t':=s1.toks) λb o e=>Heap.get?_push_of_some _ e,qfi hT z t _,⟨_,Heap.get?_push_size _ rfl,rfl,rfl⟩,λb hb=>?_,q⟩
  have e:b=s1.heap.objs.size:=by simpa using hb
  subst e
  exact I1.fpOk (yak _) (I1.hok.fresh (yak _))
 cases ha:z.cps.all (·<128)
 ·exact wpAny_pyIter_wide ha (fin _ (.inr rfl))
 ·exact wpAny_pyIter_ascii ha (fin _ (.inl rfl))
end
end L2
namespace L2.Sk
open PySem PySem.Spec PyProof.Rows
def sgn(c:Nat):D:=.str ⟨#[c]⟩
def qcK(x:Str):List D:=x.cps.toList.map sgn
theorem qjL {K:Fr0} {A:Addr->Prop} {H:Hp} (x:Str):qds K A H (qcK x) (Its x) where
 go:=λH' i d ex hd=>by
  have:=(gI_.mp hd).1
  show i<x.cps.size
  simpa [qcK] using this
 yl:=λH' i d v H'' ex hd y=>by
  obtain⟨e,c,hc,rfl⟩:=y
  subst e
  refine⟨zK.refl _,?_⟩
  unfold qcK at hd
  rw[gM_,Array.getElem?_toList,hc]at hd
  cases hd
  rfl
 stop:=λH' ex=>by show x.cps.size<=(qcK x).length;simp[qcK]
def qjM:D->Option (List D)
 |.str x=>some (qcK x)
 |_=>none
def qlc(f:M D):M (List D):=bnd f λd=>lift (qjM d)
section
variable{X:Cx}{c:Fc}{tg e:Expr}
theorem qgc {f:M D} (h:DE X c e f):DI X c tg e (qlc f):=by
 obtain⟨t,p,w⟩:=h
 refine⟨_,qjK p,λZ σ H Q r h=>w Z σ H _ r (Wp.bndI h λd Z1 v H1 r1 i1 g1 h1=>?_)⟩
 obtain⟨ds,e,h2⟩:=uh h1
 cases d<;>simp only[qjM]at e<;>try (cases e;done)
 rename_i z
 cases e
 cases i1
 exact⟨z,rfl,h2 _ H1 r1 (qjL z) .refl⟩
end
end L2.Sk
set_option maxHeartbeats 2000000
namespace L2.St
open PySem
theorem qhw:ydk (.type "list_reverseiterator") "__len__"=pure none:=by rw[ycE,ybU];kernel_rfl
theorem qfj:ydk (.type "list_reverseiterator") "__length_hint__"=pure (some (.builtin "list_reverseiterator.__length_hint__")):=by rw[ycE,ybU];kernel_rfl
theorem qjN:splitId "list_reverseiterator.__length_hint__"=some ("list_reverseiterator","__length_hint__"):=by decide +kernel
section
variable{prog:yaj}{w:World}{A:yar}{E:Value->yaa->Prop}{s:yaa}{I l:Addr}{items:Array Value}
theorem collect_rev {Q:List Value->yaa->Prop} (hh:A.handled=none) (hne:l≠I) (hit:s.heap.IsRevIter I l ((items.size:Int)-1)) (hl:s.heap.IsList l items) (hn:items.size<=1000000)
  (hQ:∀h' tk,(∀b o,b≠I->s.heap.get? b=some o->h'.get? b=some o)->Q items.toList.reverse {s with heap:=h',toks:=tk}):wpAny (model prog w) A (collect (.ref I)) Q E s:=by
 have hI:I<s.heap.objs.size:=by obtain⟨o,ho,_⟩:=hit;exact yac ho
 have hL:l<s.heap.objs.size:=by obtain⟨o,ho,_⟩:=hl;exact yac ho
 have W:=(Walks.listRev (prog:=prog) (w:=w) (A:=A.in1) hh I l hne items).toS
 have nf:s.heap.objs.size ∉ [I,l]:=λh=>by
  rcases List.mem_cons.mp h with z|z
  ·exact absurd z (ya5 hI)
  ·exact absurd (List.mem_singleton.mp z) (ya5 hL)
 unfold collect
 refine yab (wpAny_runValue (yb6 F.entry_proto_collect ?_))
 rw[ybX F.plain_proto_collect _]
 show wpAny (model prog w) A.in1 (newList [] >>= λl=>again (.builtin "list.__iadd__" ⟨[l,.ref I],[]⟩)) _ _ s
 refine yab (ybQ (yal ⟨yc6 yeR _,yb6 F.entry_list_iadd ?_⟩))
 rw[ybX yeR _]
 have kp:∀b o,s.heap.get? b=some o->(s.heap.push {cls:=.type "list",data:=.seq ([]:List Value).toArray}).get? b=some o:=λb o e=>Heap.get?_push_of_some _ e
 have hit1:(s.heap.push {cls:=.type "list",data:=.seq ([]:List Value).toArray}).IsRevIter I l ((items.size:Int)-1):=hit.at λo=>kp I o
 have hl1:=hl.at λo=>kp l o
 have hT:Shared.TypeIs {s with heap:=s.heap.push {cls:=.type "list",data:=.seq ([]:List Value).toArray} } (.ref I) "list_reverseiterator":=hit1.typeIs (s:={s with heap:=s.heap.push {cls:=.type "list",data:=.seq ([]:List Value).toArray} })
 show wpAny (model prog w) A.in1 (ybm (.ref s.heap.objs.size) (.ref I) (.ref s.heap.objs.size)) _ _ _
 unfold ybm
 refine yab (yeJ hT ?_)
 have h1:ybE (.ref s.heap.objs.size) (.ref I)=false:=by
  simp only[ybE,beq_eq_false_iff_ne,ne_eq]
  exact ya5 hI
 rw[if_neg (by rw[h1];decide)]
 refine yab (yeh hit1 (yab (ya7 ?_)))
 unfold ycX
 refine yab (ycF hT qhw ?_)
 dsimp only
 show wpAny (model prog w) A.in1 (specialOf (yae I) (yaT "__length_hint__") >>= _) _ _ _
 refine yab (ycF hT qfj ?_)
 dsimp only
 rw[qjN]
 dsimp only
 refine yab (ycv (b:=true) hT (by rw[isSubtype_type];kernel_rfl) ?_)
 rw[if_neg (by decide),if_pos (by decide +kernel),if_neg (by decide +kernel)]
 refine yal ?_
 rw[if_neg (by decide +kernel)]
 refine yal ⟨yc6 ybF _,codeAny_extend_loopS W (by rw[ybc];omega) _ nf _ items.size 0 _ _ _ rfl (yaV _) ⟨yaV _,by rw[show(items.size:Int)-1-((0:Nat):Int)=(items.size:Int)-1 by omega];exact hit1,hl1⟩ (Heap.get?_push_size _ rfl) (ItemsOf.nil _) λs' acc c hm hS' hacc=>?_⟩
 show wpAny (model prog w) A (load s.heap.objs.size >>= _) _ _ s'
 refine yab (wpAny_load hS' (yal ?_))
 have ea:acc.toList=items.toList.reverse:=by
  refine yeS λj=>?_
  rw[Array.getElem?_toList]
  by_cases c:j<items.size
  ·have q:=Array.getElem?_eq_getElem (show j<acc.size by rw[hacc.1];exact c)
   have p:=hacc.2 j _ q
   rw[q,List.getElem?_reverse (by rw[ya3];exact c),Array.getElem?_toList,ya3]
   exact p.symm
  ·rw[Array.getElem?_eq_none (by rw[hacc.1];omega),List.getElem?_eq_none (by rw[List.length_reverse,ya3];omega)]
 rw[ea]
 obtain⟨h',g',d',tk',os'⟩:=s'
 obtain rfl:g'=s.gens:=hm.gens
 obtain rfl:d'=s.drawn:=hm.drawn
 obtain rfl:os'=s.os:=hm.os
 refine hQ h' tk' λb o hb e=>hm.heap b o (λz=>?_) (kp b o e)
 rcases List.mem_cons.mp z with z|z
 ·exact absurd z (yat (yac e))
 ·exact hb (List.mem_singleton.mp z)
end
end L2.St
namespace L2.Sk
open PySem PySem.Spec PyProof.Rows
def qhx:List D->Option D
 | [.str x]=>if decide (x.length<=640) then(yd9 x).map .int else none
 |_=>none
def qjO:List V->Hp->VK->Prop:=λxs H Q=>∃x n,xs=[.str x]/\yd9 x=some n/\x.length<=640/\Q (.int n) H
theorem qdZ {X:Cx}:jV X (.type "int") qjO:=by
 intro pins s σ H xs us Q I r h
 obtain⟨x,n,rfl,hn,hl,q⟩:=h
 obtain⟨u,rfl,ru⟩:=qU.one r
 obtain⟨t,rfl⟩:=ru
 exact PySem.W.KIN.call_text hn hl ⟨.int n,H,I.tok _,⟨_,rfl⟩,q⟩
theorem qcL {K:Fr0}:uI K qhx qjO:=by
 intro A H xs d vs Q hn h e k
 unfold qhx at e
 split at e
 ·rename_i x
  obtain⟨v,rfl,e2⟩:=IsL.inv1 h
  cases e2
  split at e
  ·rename_i c
   cases e1:yd9 x with
   |none=>rw[e1]at e;cases e
   |some n=>
    rw[e1]at e
    cases e
    exact⟨x,n,rfl,e1,of_decide_eq_true c,k _ H (zK.refl H) rfl⟩
  ·cases e
 ·cases e
end L2.Sk
set_option maxHeartbeats 2000000
namespace L2
open PySem PySem.Spec PyProof.Rows
def tJR(K:yah)(to:TE)(ta:TA):TE:=λσ H Q=>to σ H λv H1=>∃z,v=V.str z/\ta σ H1 λvs H2=>∃(a:Addr)(ws:List Str),vs=[V.ref a]/\SqL K H2 a (ws.map V.str)/\ws.length<=1000000/\ycn z ws.reverse=true/\Q (.str (Txt.join z ws.reverse)) H2
theorem gJ (z:Str) (l:List (Str×Tok)) (ok:yep (Array.foldl (λx1 x2=>x1+x2.length+z.length) 0 (List.map (λx=>x.fst) l).toArray)=false):Gives (joinTail z (yaU l)) (joinMade z l):=by
 have g0:=gives_joinTail z l ok
 cases l with
 |nil=>exact g0
 |cons p r=>cases r with
  |nil=>exact g0
  |cons q r'=>exact g0
section
variable{X:Cx}{o e:Expr}{apos cpos:Pos}
theorem qhy {to:TE} {ta:TA} {p1 q:Pos} (hc:X.calm=true) (ho:PE X o to) (hg:Gl X "reversed") (hm:X.mg "reversed"=none) (ha:PA X [e] ta)
  (hbase:ybI o "join" X.env (eval o X.env)=eval o X.env:=by rfl)
  (hfew:((yaE cpos (yag [.Call (.Name "reversed" p1) [e] [] q] X.env)).all (λx => !x.1)&&(ycM cpos (yb3 [] X.env)).all (λx=>x.1.isSome)
   && decide (([.Call (.Name "reversed" p1) [e] [] q]:List Expr).length+([]:List ybr).length+(if([]:List ybr).isEmpty then 0 else 1)<30))=true:=by rfl)
  (hline:(apos.endLine==cpos.line)=true:=by rfl) (hs:yag [e] X.env=(false,eval e X.env)::yag [] X.env:=by rfl)
  (he:yag [.Call (.Name "reversed" p1) [e] [] q] X.env=(false,eval (.Call (.Name "reversed" p1) [e] [] q) X.env)::yag [] X.env:=by rfl) (hpl:(yaE cpos (yag [] X.env)).any (·.1)=false:=by rfl) (hpq:(yaE q (yag [] X.env)).any (·.1)=false:=by rfl) :
  PE X (.Call (.Attribute o "join" apos) [.Call (.Name "reversed" p1) [e] [] q] [] cpos) (tJR X.K to ta):=by
 intro pins s σ H Q I h
 refine ydQ hbase hfew hline rfl (thn (ho pins s σ H _ I h) λv s1 ⟨x,H1,I1,r1,z,ez,q1⟩=>?_)
 subst ez
 obtain⟨t,rfl⟩:=r1
 refine⟨"str","str.join",F.plainAttrs_str,F.slot_str_join,F.type_str_join,ybV _ _ _,(λ_ e=>nomatch e),?_⟩
 rw[he]
 refine ydR (by show(false||(yaE cpos (yag [] X.env)).any (·.1))=false;rw[hpl];rfl) (yee ?_)
 show wpAny _ _ (spliced ((false,eval (.Call (.Name "reversed" p1) [e] [] q) X.env)::yaE cpos (yag [] X.env))) _ _ s1
 refine yet ?_
 refine Call_ (vb I1 hg hm PyProof.Rows.boot_reversed (yaS (thn (ha q pins s1 σ H1 _ I1 q1) λus s2 ⟨vs,H2,I2,r2,q2⟩=>?_) hs hpq))
 obtain⟨a,ws,rfl,hx,hz,ok,qq⟩:=q2
 obtain⟨u,rfl,ru⟩:=qU.one r2
 cases (show u=yae a from ru)
 obtain⟨its,rv,pl,_⟩:=I2.list hx
 obtain⟨l,rfl,el⟩:=Sk.vals_strs rv
 have hL:=pl.isList
 have hla:a<s2.heap.objs.size:=by obtain⟨o,ho,_⟩:=hL;exact yac ho
 have hh:X.A.handled=none:=I.ok.hd hc
 refine call_reversed_list hL (yeP ?_)
 show wpAny (model X.prog X.w) X.A (call (.builtin "str.join") [.str z t,.ref s2.heap.objs.size]) _ _ _
 refine wpAny_call (ycC F.slot_str_join.plain F.entry_str_join (F.slot_str_join.check _ _ _ _ _ _ _ _ (ybV _ _ _) (F.args_str_join_2 _ _) ?_))
 rw[join_tree_other]
 have hit:(s2.heap.push (revObj a (((yaU l).toArray.size:Int)-1))).IsRevIter s2.heap.objs.size a (((yaU l).toArray.size:Int)-1):=⟨_,Heap.get?_push_size _ rfl,rfl,rfl⟩
 have hL1:(s2.heap.push (revObj a (((yaU l).toArray.size:Int)-1))).IsList a (yaU l).toArray:=hL.at λo e=>Heap.get?_push_of_some _ e
 refine yab (yeJ (hit.typeIs (s:={s2 with heap:=s2.heap.push (revObj a (((yaU l).toArray.size:Int)-1))})) ?_)
 rw[if_neg (by decide)]
 refine yab (wpAny_tryCatch (yeh hit ?_))
 have hlen:(yaU l).toArray.size=ws.length:=by rw[sT_,<-el];simp[yaU]
 refine yab (St.collect_rev (s:={s2 with heap:=s2.heap.push (revObj a (((yaU l).toArray.size:Int)-1))}) (by simp[hh]) (yat hla) hit hL1 (by rw[hlen];exact hz) λh' tk kp=>?_)
 have er:(yaU l).toArray.toList.reverse=yaU l.reverse:=by simp[yaU,ydx]
 rw[er]
 have ok2:ycn z (l.reverse.map (·.1))=true:=by rw[ydx,el];exact ok
 have ok3:=ok2
 unfold ycn at ok3
 rw[ybR]at ok3
 have g:=gJ z l.reverse ok3
 refine g X.prog X.w X.A (wants (EP X pins σ Q) X.xe) _ (post_join l.reverse ⟨joinFit_length ok3,λt' k=>?_⟩)
 rw[ydx,el]
 exact⟨.str _,H2,I2.kept (t':=k) (h':=h') λb o e=>kp b o (yat (yac e)) (Heap.get?_push_of_some _ e),⟨t',rfl⟩,qq⟩
end
end L2
set_option maxHeartbeats 1000000
namespace L2.Sk
open PySem PySem.Spec PyProof.Rows
def qhz (z:Str) (i:Nat):M D:=λZ=>match zm i Z with
 |some ds=>match uY ds with
  |some ws=>if decide (ws.length<=1000000)&&ycn z ws.reverse then .ok (.str (Txt.join z ws.reverse),Z)else .bad
  |none => .bad
 |none => .bad
theorem qa3:∀ws:List Str,uY (ws.map D.str)=some ws
 | []=>rfl
 |w::ws=>by
  show(uY (ws.map D.str)).map (w::·)=_
  rw[qa3 ws]
  rfl
section
variable{X:Cx}{c:Fc}{apos cpos:Pos}
theorem qhA {z:Str} {jj:Nat} {pz p1 p2 q:Pos} {i:Nat} {x:Str} (hc:X.calm=true) (hg:Gl X "reversed") (hm:X.mg "reversed"=none) (ho:i∈c.O:=by exact of_decide_eq_true rfl) (hN:X.N[i]? = some x:=by rfl) (hv:Vis X.env.scope x:=by first|exact ya0 rfl|exact yaF (ya0 rfl)|exact yaF (yaF rfl)) (hd:(x==("__debug__":Str))=false:=by decide) (hcd:(x==("__classdict__":Str))=false:=by decide)
  (hbase:ybI (.Constant (.str z) jj pz) "join" X.env (eval (.Constant (.str z) jj pz) X.env)=eval (.Constant (.str z) jj pz) X.env:=by rfl)
  (hfew:((yaE cpos (yag [.Call (.Name "reversed" p1) [.Name x p2] [] q] X.env)).all (λx => !x.1)&&(ycM cpos (yb3 [] X.env)).all (λx=>x.1.isSome)
   && decide (([.Call (.Name "reversed" p1) [.Name x p2] [] q]:List Expr).length+([]:List ybr).length+(if([]:List ybr).isEmpty then 0 else 1)<30))=true:=by rfl)
  (hline:(apos.endLine==cpos.line)=true:=by rfl) (hs:yag [.Name x p2] X.env=(false,eval (.Name x p2) X.env)::yag [] X.env:=by rfl)
  (he:yag [.Call (.Name "reversed" p1) [.Name x p2] [] q] X.env=(false,eval (.Call (.Name "reversed" p1) [.Name x p2] [] q) X.env)::yag [] X.env:=by rfl) (hpl:(yaE cpos (yag [] X.env)).any (·.1)=false:=by rfl) (hpq:(yaE q (yag [] X.env)).any (·.1)=false:=by rfl) :
  DE X c (.Call (.Attribute (.Constant (.str z) jj pz) "join" apos) [.Call (.Name "reversed" p1) [.Name x p2] [] q] [] cpos) (qhz z i):=by
 refine⟨_,qhy hc qfD hg hm (yU (uF hN hv hd hcd) wB hs) hbase hfew hline hs he hpl hpq,λZ σ H Q r h=>?_⟩
 unfold qhz at h
 cases e0:zm i Z with
 |none=>simp only[e0]at h;exact h.elim
 | some ds=>
  simp only[e0]at h
  cases e1:uY ds with
  |none=>simp only[e1]at h;exact h.elim
  | some ws=>
   simp only[e1]at h
   cases e2:(decide (ws.length<=1000000)&&ycn z ws.reverse) with
   |false=>rw[e2]at h;exact h.elim
   |true=>
    rw[e2,if_pos rfl]at h
    rw[yao,decide_eq_true_eq]at e2
    obtain⟨l,xs,him,hl,hH,il⟩:=r.getLO ho e0
    rw[uZ _ il e1]at hH
    exact⟨z,rfl,.ref l,hl,l,ws,rfl,.inl (.inl hH),e2.1,e2.2,h _ H r rfl .refl⟩
end
end L2.Sk
namespace L2.Sk
namespace Law
open PySem PySem.Spec PyProof.Rows
set_option maxHeartbeats 4000000
theorem qjP(ds:List D)(r:Env):zm 0 (some (.lst ds)::r)=some ds:=rfl
theorem qjQ(i:Nat)(o:Option D)(r:Env):zm (i+1) (o::r)=zm i r:=rfl
theorem ix0(a b c:D):ixD (.tup [a,b,c]) (.int 0)=some a:=rfl
theorem ix1(a b c:D):ixD (.tup [a,b,c]) (.int 1)=some b:=rfl
theorem ix2(a b c:D):ixD (.tup [a,b,c]) (.int 2)=some c:=rfl
theorem u0(i j:Int):neB (.int i) (.int j)=some (.bl (!decide (i=j))):=rfl
theorem qbD(i j:Int):eqB (.int i) (.int j)=some (.bl (decide (i=j))):=rfl
theorem u3(ds:List D):qbs (tyD (.tup ds)) "tuple"=true:=rfl
theorem yH(ds:List D):qav [.tup ds]=some (.int ds.length):=rfl
theorem qcd(d:D):isN d .non=some (.bl (jX d)):=rfl
theorem qhB(d:D):qgK d .non=some (.bl (!jX d)):=rfl
theorem qbE(i j:Int):gtD (.int i) (.int j)=some (.bl (decide (j<i))):=rfl
theorem qhC(i j:Int):ltD (.int i) (.int j)=some (.bl (decide (i<j))):=rfl
theorem qd0(i j:Int):leD (.int i) (.int j)=some (.bl (decide (i<=j))):=rfl
local macro_rules | `(tactic| push_cast [$xs,*]) => `(tactic| simp only [uu, qdF, qlx, ya, qf1, qjf, qjg, qly, qmn, vU, vv, qjh, qji, yy, qf2, qdH, qjj, qdI, qkT, qjk, qdJ, qg6, qaU, qaV, qg7, qdK, qjl, qjm, qjn, qaW, qf4, qg8, qdL, vW, qg9, qjo, qha, qhb, qhc, qjp, qaX, qkU, qhd, lC_, lN_, mC_, List.map_nil, List.replicate, List.nil_append, List.cons_append, List.append_nil, List.getElem?_cons_zero, List.getElem?_cons_succ, List.set_cons_zero, List.set_cons_succ, Nat.reduceAdd, Nat.reduceSub, Nat.sub_self, Nat.zero_add, reduceIte, Bool.not_true, Bool.not_false, Bool.false_eq_true, if_true, if_false, ite_true, ite_false, cond_true, cond_false, decide_true, decide_false, ix0, ix1, ix2, u3, yH, u0, qbD, qcd, qhB, qbE, qhC, qd0, qjP, qjQ, qe5, qe6, qe7, qju, qhk, qhi, $xs,*])
theorem vf {n p:Nat} {body:MS} {ds:List D} {d:D} (h:ds.length=p) (e:∃Z,body (uu n ds)=.ok (.rt d Z)):dfn n p body ds=.ok d:=by
 obtain⟨Z,e⟩:=e
 exact qhe h e
def qhD:D->Bool
 |.int _=>true
 |_=>false
def jC:D->Bool
 |.int i=>decide (0<=i)
 |_=>false
def qd1:D->Bool
 |.int i=>decide (0<i)
 |_=>false
def yz:D->Bool
 |.tup [a,b,c]=>qd1 a&&jC b&&(jX c||jC c)
 |_=>false
theorem qlS {ds:List D} (h:ds.length=3):∃a b c,ds=[a,b,c]:=by
 match ds,h with
 | [a,b,c],_=>exact⟨a,b,c,rfl⟩
theorem wN {ds:List D} (h:ds.length≠3):yz (.tup ds)=false:=by
 match ds,h with
 | [],_=>rfl
 | [_],_=>rfl
 | [_,_],_=>rfl
 | [a,b,c],h=>exact absurd rfl h
 |_::_::_::_::_,_=>rfl
theorem ql{p q:MS}{Z Z':Env}(h:p Z=.ok (.nx Z')):qz p q Z=q Z':=by rw[qf3,h]
theorem v0{p q:MS}{Z Z':Env}{d:D}(h:p Z=.ok (.rt d Z')):qz p q Z=.ok (.rt d Z'):=by rw[qf3,h]
theorem qjR {e:M D} {f:D->D}:∀(ds acc:List D)(o:Option D),(∀d∈ds,e [some d]=.ok (f d,[some d]))->acc.length+ds.length<=1000->∃Z',zj (qD 0) (ret true) e ds acc [o]=.ok (acc++ds.map f,Z')
 | [],acc,o,_,_=>⟨[o],by simp[zj]⟩
 |d::ds,acc,o,h,hl=>by
  have hl':acc.length+(ds.length+1)<=1000:=hl
  obtain⟨Z',q⟩:=qjR ds (acc++[f d]) (some d) (λx hx=>h x (mM _ hx)) (by rw[lA_,yaQ];omega)
  refine⟨Z',?_⟩
  unfold zj
  simp only[qD,ybo,ret,h d mS_,yb (show acc.length+1<=1000000 by omega),if_true,q]
  simp
theorem qa4 (f:D->Bool):∀ds:List D,yS (ds.map λd=>D.bl (f d))=some (ds.map f)
 | []=>rfl
 |d::ds=>by simp[yS,qa4 f ds]
theorem all_map {ds:List D} {f:D->Bool}:qeP [.lst (ds.map λd=>D.bl (f d))]=some (.bl (ds.all f)):=by
 simp only[qeP,qa4,ybO]
 congr 2
 rw[ycG]
 rfl
theorem qhE {F:List D->R D} {f:D->Bool} {xs:M (List D)} {ds:List D} {Z:Env} (hx:xs Z=.ok (ds,Z)) (hF:∀d∈ds,F [d]=.ok (.bl (f d))) (hl:ds.length<=1000) :
  qV qeP (qa (zZ 1 [] none xs (qD 0) (ret true) (qd F (qa (dv 0) (ret [])))) (ret [])) Z=.ok (.bl (ds.all f),Z):=by
 obtain⟨Z',q⟩:=qjR (e:=qd F (qa (dv 0) (ret []))) (f:=λd=>D.bl (f d)) ds [] none (λx hm=>by push_cast [];rw[hF x hm]) (by simpa using hl)
 have q':zj (qD 0) (ret true) (qd F (qa (dv 0) (ret []))) ds [] (j7 1 [] Z)=.ok ([]++ds.map λd=>D.bl (f d),Z'):=q
 simp only[vU,ya,vV,hx,q',qdF,ybt,all_map]
 rfl
def jD:D->Bool
 |.tup ds=>decide (ds.length<=12)&&ds.all yz
 |_=>false
def leI:D->D->Bool
 |.int i,.int j=>decide (i<=j)
 |_,_=>false
def qcM (k x:D):Bool:=match k with
 |.tup [_,_,m]=>jC x&&(jX m||leI x m)
 |_=>false
def yI:List D->List D->Bool
 |k::ks,x::xs=>qcM k x&&yI ks xs
 |_,_=>true
def qce:D->D->Bool
 |.tup xs,.tup ks=>decide (xs.length=ks.length)&&yI ks xs
 |_,_=>false
theorem qcf {e:M D} {f:D->D->Bool}:∀(ks xs acc:List D)(o o':Option D),(∀k∈ks,∀x,e [some k,some x]=.ok (.bl (f k x),[some k,some x]))->acc.length+ks.length<=1000 ->
  ∃(bs:List Bool)(Z':Env),zj (qbY 2 (jz (qD 0) (jz (qD 1) qbX))) (ret true) e (vt ks xs) acc [o,o']=.ok (acc++bs.map D.bl,Z')/\bs.all id=(vt ks xs).all λp=>match p with|.tup [k,x]=>f k x|_=>false
 | [],xs,acc,o,o',_,_=>⟨[],[o,o'],by simp[vt,zj],rfl⟩
 |k::ks,[],acc,o,o',_,_=>⟨[],[o,o'],by simp[vt,zj],rfl⟩
 | k::ks,x::xs,acc,o,o',h,hl=>by
  have hl':acc.length+(ks.length+1)<=1000:=hl
  obtain⟨bs,Z',q,r⟩:=qcf ks xs (acc++[.bl (f k x)]) (some k) (some x) (λy hy=>h y (mM _ hy)) (by rw[lA_,yaQ];omega)
  refine⟨f k x::bs,Z',?_,?_⟩
  ·unfold vt zj
   simp only[qbY,jz,qD,qbX,lC_,lN_,Nat.reduceAdd,yeG,if_true,Option.bind_some,ybo,ycd,ret,h k mS_,yb (show acc.length+1<=1000000 by omega),q]
   simp
  ·unfold vt
   rw[yc7,yc7,r]
   rfl
theorem qaf:∀bs:List Bool,yS (bs.map D.bl)=some bs
 | []=>rfl
 |b::bs=>by simp[yS,qaf bs]
theorem vg:∀(ks xs:List D),((vt ks xs).all λp=>match p with|.tup [k,x]=>qcM k x|_=>false)=yI ks xs
 | [],_=>rfl
 |_::_,[]=>rfl
 |k::ks,x::xs=>by
  unfold vt yI
  rw[yc7,vg ks xs]
theorem vx {l:M (List D)} {Z Z1:Env} {j:Int} (e:l Z=.ok ([.int j],Z1)) (h0:0<=j) (h:j<=1000000):uU l Z=.ok (w8 0 j.toNat,Z1):=by
 have h1:(-(2 ^ 62)<=j):=by omega
 have h2:(j<2 ^ 62):=by omega
 have e2:qfS [.int j]=some (w8 0 j.toNat):=by
  simp only[qfS,h1,h2,decide_true,ya8,if_true]
 have e3:uU l Z=lift (qfS [.int j]) Z1:=by
  show bnd l (λds=>lift (qfS ds)) Z=_
  rw[qkS,e]
 rw[e3,e2]
 rfl
theorem qd2 {n m:Int} (h0:0<m) (h1:m<1606938044258990275541962092341162602522202993782792835301376):vK [.int n,.int m]=some (.tup [.int (n/m),.int (n%m)]):=by
 simp only[vK,qcu,h0,h1,decide_true,ya8,if_true]
theorem at0 (d:D) (r:List D):atI (d::r) 0=some d:=by
 unfold atI ixN
 rw[if_pos (by omega),if_pos (by simp)]
 rfl
theorem qmF:ixN 1 0=some 0:=by decide
theorem zR(i j:Int):jK (.int i) (.int j)=some (.int (i+j)):=rfl
theorem qfk(i j:Int):qgH (.int i) (.int j)=some (.int (i-j)):=rfl
theorem qd3 {ds:List D} {k:Int} (h0:0<=k) (h1:k<ds.length):∃d∈ds,ixD (.lst ds) (.int k)=some d:=by
 obtain⟨i,rfl⟩:=ydB h0
 have hi:i<ds.length:=by omega
 refine⟨ds[i],List.getElem_mem hi,?_⟩
 show atI ds (i:Int)=_
 unfold atI ixN
 rw[if_pos (by omega),if_pos (by omega)]
 show ds[(i:Int).toNat]? = _
 rw[ybx,gG hi]
theorem qmG (i:Int):vS (.int 2) (.int i)=some (.int (2*i)):=by
 have h:qbr 2 i=true:=by
  unfold qbr
  have:jI 2=true:=by decide
  rw[this];rfl
 simp only[vS,h,if_true]
def qhF(c m:D):Prop:=m=c\/∃j,m=.int j/\0<=j/\j<=5
def zy(k:D):Prop:=∃a b m,k=.tup [.int a,.int b,m]/\1<=a/\a<=25/\0<=b/\b<=39/\qhF .non m
theorem zy.imm {k:D} (h:zy k):imm k=true:=by
 obtain⟨a,b,m,rfl,_,_,_,_,hm⟩:=h
 rcases hm with rfl|⟨j,rfl,_⟩<;>rfl
theorem zy.lay {k:D} (h:zy k):(j8 k).canLay0=true/\(j8 k).depth=1:=by
 obtain⟨a,b,m,rfl,_,_,_,_,hm⟩:=h
 rcases hm with rfl|⟨j,rfl,_⟩<;>exact⟨rfl,rfl⟩
theorem qgd:∀ks:List D,(∀k∈ks,zy k)->ya2 (toPDs ks)=true/\yb8 (toPDs ks)<=1
 | [],_=>⟨rfl,yaV _⟩
 |k::ks,h=>by
  obtain⟨h1,h2⟩:=qgd ks λx hx=>h x (mM _ hx)
  obtain⟨g1,g2⟩:=(h k mS_).lay
  unfold toPDs
  simp only[ya2,yb8,h1,g1,g2,ya8,true_and]
  omega
theorem qbF {ks:List D} (h:∀k∈ks,zy k):∃b,neA (.lst ks) (.lst [])=some (.bl b)/\(b=true->ks≠[]):=by
 obtain⟨h1,h2⟩:=qgd ks h
 have e1:wH (.lst ks)=true:=by
  have e:wH (.lst ks)=(ya2 (toPDs ks)&&decide (yb8 (toPDs ks)+1<=50)):=by
   simp only[wH,j8,ybT,yeK]
  rw[e,h1,yaW,decide_eq_true_eq]
  omega
 have e2:wH (.lst [])=true:=rfl
 refine⟨!ybg (j8 (.lst ks)) (j8 (.lst [])),by simp only[neA,e1,e2,ya8,if_true],λhb hn=>?_⟩
 subst hn
 exact absurd hb (by decide)
theorem qjS {ds:List D} {k:Int} (h0:0<=k) (h1:k<ds.length):∃d∈ds,atI ds k=some d:=by
 obtain⟨d,hd,e⟩:=qd3 h0 h1
 exact⟨d,hd,e⟩
theorem qfl(j:Nat):(w8 0 j).length=j:=by simp[w8]
theorem uk {i j:Int} (h:0<j):qeo (.int i) (.int j)=some (.int (i%j)):=by
 simp only[qeo,qhX,h,decide_true,if_true]
theorem uR {i j:Int} (h:0<j) (h1:j<1606938044258990275541962092341162602522202993782792835301376):wZ (.int i) (.int j)=some (.int (i/j)):=by
 simp only[wZ,qhX,qcu,h,h1,decide_true,ya8,if_true]
theorem qd4 {i j:Int} (h:jI i=true):vS (.int i) (.int j)=some (.int (i*j)):=by
 simp only[vS,qbr,h,Bool.true_or,if_true]
theorem qjT {i j:Int} (h:jI j=true):vS (.int i) (.int j)=some (.int (i*j)):=by
 simp only[vS,qbr,h,Bool.or_true,if_true]
theorem qag {i:Int} (h0:0<=i) (h1:i<2000000000):jI i=true:=by
 unfold jI
 rw[yao,decide_eq_true_eq,decide_eq_true_eq]
 constructor<;>omega
def facts:List Int:=[48271,69621,16807,39373,30269,40014,40692,50021,61687,71993,83869,95561,30307]
structure qmV (w e:Nat) (d:D):Prop where
 lv:(j8 d).leavesShort 40=true
 sh:(j8 d).showable=true
 wt:(j8 d).weight<=w
 dp:(j8 d).depth<=e
def plain(d:D):Bool := !(j8 d).hasDict&&noL d
def pt (p:Int):D->Int
 |.tup [.int a,.int b,_]=>if p=0 then a else b
 |_=>0
def num:D->Int
 |.int x=>x
 |_=>0
def qld (p:Int):List D->List D->List Int
 |k::ks,x::xs=>(pt p k*num x)::qld p ks xs
 |_,_=>[]
theorem qcg:∀ns:List Int,yT (ns.map D.int)=some ns
 | []=>rfl
 |n::ns=>by simp[yT,qcg ns]
theorem yA(xs:List D):yW [.lst xs]=some (.tup xs):=rfl
theorem qle {F:List D->R D} {f g h:M D} {Z:Env} {a b c d:D} (hf:f Z=.ok (a,Z)) (hg:g Z=.ok (b,Z)) (hh:h Z=.ok (c,Z)) (e:F [a,b,c]=.ok d):qd F (qa f (qa g (qa h (ret [])))) Z=.ok (d,Z):=by
 have e1:qa h (ret []) Z=.ok ([c],Z):=by rw[ya,hh];rfl
 have e2:qa g (qa h (ret [])) Z=.ok ([b,c],Z):=by rw[ya,hg];dsimp only;rw[e1]
 have e3:qa f (qa g (qa h (ret []))) Z=.ok ([a,b,c],Z):=by rw[ya,hf];dsimp only;rw[e2]
 rw[vv,e3]
 dsimp only
 rw[e]
theorem v3 {F:List D->Option D} {f:M D} {Z:Env} {a d:D} (hf:f Z=.ok (a,Z)) (e:F [a]=some d):qV F (qa f (ret [])) Z=.ok (d,Z):=by
 have e0:qa f (ret []) Z=.ok ([a],Z):=by rw[ya,hf];rfl
 rw[vU,e0]
 dsimp only
 rw[e]
theorem qfm(i j:Int):qdo [.int i,.int j]=some (.int (if j<i then j else i)):=rfl
theorem qhG {α:Type} {e:M D} {t:M Bool} {k f:α->D} {p:α->Bool} {r:Env}:∀(as:List α)(acc:List D)(o:Option D),(∀a∈as,t (some (k a)::r)=.ok (p a,some (k a)::r))->(∀a∈as,p a=true->e (some (k a)::r)=.ok (f a,some (k a)::r))->acc.length+as.length<=1000000 ->
  ∃o',zj (qD 0) t e (as.map k) acc (o::r)=.ok (acc++(as.filter p).map f,o'::r)
 | [],acc,o,_,_,_=>⟨o,by simp[zj]⟩
 | a::as,acc,o,ht,he,hl=>by
  have hl':acc.length+(as.length+1)<=1000000:=hl
  have h1:=ht a mS_
  rw[mC_]
  unfold zj
  simp only[qD,ybo,h1]
  cases hp:p a with
  |false=>
   obtain⟨o',q⟩:=qhG as acc (some (k a)) (λx hx=>ht x (mM _ hx)) (λx hx=>he x (mM _ hx)) (by omega)
   refine⟨o',?_⟩
   simp only[q,ft_,hp,yaN,if_false]
  |true=>
   obtain⟨o',q⟩:=qhG as (acc++[f a]) (some (k a)) (λx hx=>ht x (mM _ hx)) (λx hx=>he x (mM _ hx)) (by rw[lA_,yaQ];omega)
   refine⟨o',?_⟩
   simp only[he a mS_ hp,yb (show acc.length+1<=1000000 by omega),if_true,q,ft_,hp,mC_,aA_,yea]
theorem qge {α:Type} {e:M D} {t:M Bool} {k:α->D} {xs:M (List D)} {Z r:Env} {fr:List Nat} (as:List α) (p:α->Bool) (f:α->D) (hx:xs Z=.ok (as.map k,Z)) (hr:j7 1 fr Z=none::r) (hl:as.length<=1000000)
  (ht:∀a∈as,t (some (k a)::r)=.ok (p a,some (k a)::r)) (he:∀a∈as,p a=true->e (some (k a)::r)=.ok (f a,some (k a)::r)):zZ 1 fr none xs (qD 0) t e Z=.ok (.lst ((as.filter p).map f),Z):=by
 obtain⟨o',q⟩:=qhG as [] none ht he (by simpa using hl)
 rw[vV,hx]
 simp only[hr,q,ybt]
 rfl
theorem uB{α:Type}(as:List α):as.filter (λ_=>true)=as:=by simp
theorem qa5 {α:Type} {e:M D} {k:α->D} {xs:M (List D)} {Z r:Env} {fr:List Nat} (as:List α) (f:α->D) (hx:xs Z=.ok (as.map k,Z)) (hr:j7 1 fr Z=none::r) (hl:as.length<=1000000)
  (he:∀a∈as,e (some (k a)::r)=.ok (f a,some (k a)::r)):zZ 1 fr none xs (qD 0) (ret true) e Z=.ok (.lst (as.map f),Z):=by
 rw[qge as (λ_=>true) f hx hr hl (λ_ _=>rfl) λa ha _=>he a ha,uB]
theorem wz{f:M D}{Z:Env}{a:D}(hf:f Z=.ok (a,Z)):qa f (ret []) Z=.ok ([a],Z):=by rw[ya,hf];rfl
theorem qfn{f g:M D}{Z:Env}{a b:D}(hf:f Z=.ok (a,Z))(hg:g Z=.ok (b,Z)):qa f (qa g (ret [])) Z=.ok ([a,b],Z):=by rw[ya,hf];simp only[wz hg]
theorem qlf{f g h:M D}{Z:Env}{a b c:D}(hf:f Z=.ok (a,Z))(hg:g Z=.ok (b,Z))(hh:h Z=.ok (c,Z)):qa f (qa g (qa h (ret []))) Z=.ok ([a,b,c],Z):=by rw[ya,hf];simp only[qfn hg hh]
theorem qmH{f g h:M D}{Z:Env}{a b c:D}(hf:f Z=.ok (a,Z))(hg:g Z=.ok (b,Z))(hh:h Z=.ok (c,Z)):qfL (qa f (qa g (qa h (ret [])))) Z=.ok (.tup [a,b,c],Z):=by rw[qf1,qlf hf hg hh];simp only[lC_,lN_,yb (show 0+1+1+1<=1000000 by omega),if_true]
theorem ye{F:List D->R D}{f:M D}{Z:Env}{a d:D}(hf:f Z=.ok (a,Z))(e:F [a]=.ok d):qd F (qa f (ret [])) Z=.ok (d,Z):=by rw[vv,wz hf];simp only[e]
theorem zS{F:List D->R D}{f g:M D}{Z:Env}{a b d:D}(hf:f Z=.ok (a,Z))(hg:g Z=.ok (b,Z))(e:F [a,b]=.ok d):qd F (qa f (qa g (ret []))) Z=.ok (d,Z):=by rw[vv,qfn hf hg];simp only[e]
theorem qo{F:D->D->Option D}{f g:M D}{Z:Env}{a b d:D}(hf:f Z=.ok (a,Z))(hg:g Z=.ok (b,Z))(e:F a b=some d):d2 F f g Z=.ok (d,Z):=by rw[qly,hf];simp only[hg,e]
theorem zf{f:M D}{Z:Env}{b:Bool}(hf:f Z=.ok (.bl b,Z)):tst f Z=.ok (b,Z):=by rw[qji,hf];rfl
theorem qlT{t:M Bool}{p q:MS}{Z:Env}(h:t Z=.ok (true,Z)):sif t p q Z=p Z:=by rw[qg6,h];rfl
theorem qbh{t:M Bool}{p q:MS}{Z:Env}(h:t Z=.ok (false,Z)):sif t p q Z=q Z:=by rw[qg6,h];rfl
theorem qd5 {i:Nat} {f:M D} {Z:Env} {ds:List D} {d:D} (h:zm i Z=some ds) (hf:f Z=.ok (d,Z)) (hi:imm d=true) (hl:ds.length<1000000):yu (jB i f) Z=.ok (.nx (Z.set i (some (.lst (ds++[d]))))):=by
 simp only[qdK,qaX,h,hf,hi,yb (show ds.length+1<=1000000 by omega),ya8,if_true]
theorem qd6 {G:D->Env->Option Env} {b:MS} {d:D} {ds:List D} {Z Z1 Z2:Env} (h1:G d Z=some Z1) (h2:b Z1=.ok (.nx Z2)):yY G b (d::ds) Z=yY G b ds Z2:=by
 show(match G d Z with|none=>R.bad|some Z1=>_)=_
 rw[h1]
 simp only[h2]
theorem io1 {F:List D->List D->R (D×List D)} {i:Nat} {f:M D} {Z:Env} {ds ds':List D} {a d:D} (h:zm i Z=some ds) (hf:f Z=.ok (a,Z)) (e:F ds [a]=.ok (d,ds')):qk F i (qa f (ret [])) Z=.ok (d,Z.set i (some (.lst ds'))):=by
 simp only[vW,h,wz hf,e]
def mD:Option Int->D
 |none => .non
 |some j => .int j
abbrev Kd:=Int×Int×Option Int
def kD(x:Kd):D:=.tup [.int x.1,.int x.2.1,mD x.2.2]
theorem qjU(m:Option Int):imm (mD m)=true:=by cases m<;>rfl
theorem qjV (x:Kd):imm (kD x)=true:=by
 simp only[kD,imm,immL,qjU,ya8]
def okK(x:Kd):Prop:=0<x.1/\0<=x.2.1/\(∀j,x.2.2=some j->0<=j)
theorem qa6 {x:Kd} (h:okK x):yz (kD x)=true:=by
 obtain⟨a,b,m⟩:=x
 obtain⟨h1,h2,h3⟩:=h
 have e1:qd1 (.int a)=true:=decide_eq_true h1
 have e2:jC (.int b)=true:=decide_eq_true h2
 cases m with
 |none=>simp only[kD,mD,yz,e1,e2,jX,yaW,Bool.true_or]
 |some j=>
  have e3:jC (.int j)=true:=decide_eq_true (h3 j rfl)
  simp only[kD,mD,yz,e1,e2,e3,yaW,Bool.or_true]
theorem qcN {ks:List Kd} (h:∀x∈ks,okK x) (hl:ks.length<=12):jD (.tup (ks.map kD))=true:=by
 have:(ks.map kD).all yz=true:=by
  rw[ycG]
  exact List.all_eq_true.mpr λx hx=>qa6 (h x hx)
 simp only[jD,lM_,hl,decide_true,this,yaW]
theorem qfo(m:Option Int):jX (mD m)=m.isNone:=by cases m<;>rfl
theorem qgf {α:Type} {ds:List α} {n:Nat} {d:α} (h:ds[n]? = some d):atI ds (n:Int)=some d:=by
 unfold atI ixN
 have hl:=(gI_.mp h).1
 rw[if_pos (by omega),if_pos (by omega)]
 show ds[(n:Int).toNat]? = _
 rw[ybx];exact h
theorem qfp {α:Type} {as:List α} {f:α->Int}:qiS [.lst (as.map λa=>D.int (f a))]=some (.int (as.map f).sum):=by
 have:yT (as.map λa=>D.int (f a))=some (as.map f):=by
  have:=qcg (as.map f)
  rw[mm_]at this
  exact this
 simp only[qiS,this,ybO]
theorem qd7 {α:Type} {e:M D} {t:M Bool} {u v f:α->D} {p:α->Bool} {r:Env}:∀(as:List α)(acc:List D)(o o':Option D),(∀a∈as,t (some (u a)::some (v a)::r)=.ok (p a,some (u a)::some (v a)::r))->(∀a∈as,p a=true->e (some (u a)::some (v a)::r)=.ok (f a,some (u a)::some (v a)::r))->acc.length+as.length<=1000000 ->
  ∃o1 o2,zj (qbY 2 (jz (qD 0) (jz (qD 1) qbX))) t e (as.map λa => .tup [u a,v a]) acc (o::o'::r)=.ok (acc++(as.filter p).map f,o1::o2::r)
 | [],acc,o,o',_,_,_=>⟨o,o',by simp[zj]⟩
 | a::as,acc,o,o',ht,he,hl=>by
  have hl':acc.length+(as.length+1)<=1000000:=hl
  have h1:=ht a mS_
  rw[mC_]
  unfold zj
  have hg:qbY 2 (jz (qD 0) (jz (qD 1) qbX)) (.tup [u a,v a]) (o::o'::r)=some (some (u a)::some (v a)::r):=rfl
  simp only[hg,h1]
  cases hp:p a with
  |false=>
   obtain⟨o1,o2,q⟩:=qd7 as acc (some (u a)) (some (v a)) (λx hx=>ht x (mM _ hx)) (λx hx=>he x (mM _ hx)) (by omega)
   refine⟨o1,o2,?_⟩
   simp only[q,ft_,hp,yaN,if_false]
  |true=>
   obtain⟨o1,o2,q⟩:=qd7 as (acc++[f a]) (some (u a)) (some (v a)) (λx hx=>ht x (mM _ hx)) (λx hx=>he x (mM _ hx)) (by rw[lA_,yaQ];omega)
   refine⟨o1,o2,?_⟩
   simp only[he a mS_ hp,yb (show acc.length+1<=1000000 by omega),if_true,q,ft_,hp,mC_,aA_,yea]
theorem qd8 {α:Type} {e:M D} {t:M Bool} {u v:α->D} {xs:M (List D)} {Z r:Env} {fr:List Nat} (as:List α) (p:α->Bool) (f:α->D) (hx:xs Z=.ok (as.map λa => .tup [u a,v a],Z)) (hr:j7 2 fr Z=none::none::r) (hl:as.length<=1000000)
  (ht:∀a∈as,t (some (u a)::some (v a)::r)=.ok (p a,some (u a)::some (v a)::r)) (he:∀a∈as,p a=true->e (some (u a)::some (v a)::r)=.ok (f a,some (u a)::some (v a)::r)):zZ 2 fr none xs (qbY 2 (jz (qD 0) (jz (qD 1) qbX))) t e Z=.ok (.lst ((as.filter p).map f),Z):=by
 obtain⟨o1,o2,q⟩:=qd7 as [] none none ht he (by simpa using hl)
 rw[vV,hx]
 simp only[hr,q,ybt]
 rfl
theorem qmI (n:Nat):w8 0 n=(yaY n).map λi=>D.int (i:Nat):=by
 unfold w8
 refine mL_ λi _=>?_
 rw[Int.zero_add]
theorem qjW{t u:M Bool}{Z:Env}(h1:t Z=.ok (false,Z))(h2:u Z=.ok (false,Z)):tor t u Z=.ok (false,Z):=by rw[qjj,h1];exact h2
theorem qjX{t u:M Bool}{Z:Env}(h1:t Z=.ok (false,Z)):qbo t u Z=.ok (false,Z):=by rw[qdH,h1];rfl
theorem qjY{t u:M Bool}{Z:Env}{b:Bool}(h1:t Z=.ok (true,Z))(h2:u Z=.ok (b,Z)):qbo t u Z=.ok (b,Z):=by rw[qdH,h1];exact h2
theorem qa7{F:List D->R D}{f g h:M D}{Z:Env}{a b c d:D}(hf:f Z=.ok (a,Z))(hg:g Z=.ok (b,Z))(hh:h Z=.ok (c,Z))(e:F [a,b,c]=.ok d):qd F (qa f (qa g (qa h (ret [])))) Z=.ok (d,Z):=qle hf hg hh e
theorem ub{i:Nat}{f:M D}{Z Z1:Env}{d:D}(h:f Z=.ok (d,Z1)):zu i f Z=.ok (.nx (Z1.set i (some d))):=by rw[qaV,h]
theorem ux{f:M D}{Z Z1:Env}{d:D}(h:f Z=.ok (d,Z1)):zl f Z=.ok (.rt d Z1):=by rw[qaU,h]
theorem qah {x y:Str} (h:x.cps.toList=y.cps.toList):x=y:=by
 obtain⟨a⟩:=x
 obtain⟨b⟩:=y
 have:a=b:=Array.toList_inj.mp h
 rw[this]
theorem qgg {c:Nat}:∀{l1 l2 r1 r2:List Nat},c ∉ l1->c ∉ l2->l1++c::r1=l2++c::r2->l1=l2/\r1=r2
 | [],[],_,_,_,_,h=>⟨rfl,(yc8 h).2⟩
 | [],b::l2,_,_,_,h2,h=>absurd ((yc8 h).1▸mS_) h2
 |a::l1,[],_,_,h1,_,h=>absurd ((yc8 h).1▸mS_) h1
 |a::l1,b::l2,_,_,h1,h2,h=>by
  obtain⟨e1,e2⟩:=yc8 h
  obtain⟨e3,e4⟩:=qgg (λz=>h1 (mM _ z)) (λz=>h2 (mM _ z)) e2
  exact⟨by rw[e1,e3],e4⟩
theorem yB (c:Nat) (a b:Str) (r:List Str):(yce ⟨#[c]⟩ (a::b::r)).cps.toList=a.cps.toList++c::(yce ⟨#[c]⟩ (b::r)).cps.toList:=by
 show((a.cps ++ #[c])++(yce ⟨#[c]⟩ (b::r)).cps).toList=_
 rw[ycI,ycI,aA_]
 rfl
theorem qch {c:Nat}:∀{as bs:List Str},as≠[]->bs≠[]->(∀a∈as,c ∉ a.cps.toList)->(∀b∈bs,c ∉ b.cps.toList)->(yce ⟨#[c]⟩ as).cps.toList=(yce ⟨#[c]⟩ bs).cps.toList->as=bs
 | [],_,h,_,_,_,_=>absurd rfl h
 |_,[],_,h,_,_,_=>absurd rfl h
 | [a],[b],_,_,_,_,h=>by rw[qah (x:=a) (y:=b) h]
 | [a],b::b2::bs,_,_,h1,_,h=>by
  rw[yB]at h
  exact absurd (show c∈a.cps.toList by rw[show a.cps.toList=_ from h];exact mr_ _ mS_) (h1 a mS_)
 |a::a2::as,[b],_,_,_,h2,h=>by
  rw[yB]at h
  exact absurd (show c∈b.cps.toList by rw[<-show _=b.cps.toList from h];exact mr_ _ mS_) (h2 b mS_)
 |a::a2::as,b::b2::bs,_,_,h1,h2,h=>by
  rw[yB,yB]at h
  obtain⟨e1,e2⟩:=qgg (h1 a mS_) (h2 b mS_) h
  rw[qah e1,qch (by simp) (by simp) (λx hx=>h1 x (mM _ hx)) (λx hx=>h2 x (mM _ hx)) e2]
theorem qai(z:Str)(ws:List Str):Txt.join z ws=yce z ws:=StrLaws.glued_eq_join z ws
theorem qcO {c:Nat} {ws:List Str} (h:ws≠[]) (hf:∀w∈ws,c ∉ w.cps.toList):Txt.split (Txt.join ⟨#[c]⟩ ws) ⟨#[c]⟩=ws:=by
 rw[qai]
 refine qch (λe=>?_) h (StrLaws.split_free _ c) hf ?_
 ·have:=split_pos (yce ⟨#[c]⟩ ws) ⟨#[c]⟩
  rw[e]at this
  exact absurd this (by decide)
 ·rw[StrLaws.join_split]
theorem qfq {x a b:Str} {c:Nat} (hx:x.cps.toList=a.cps.toList++c::b.cps.toList) (ha:c ∉ a.cps.toList):wy x ⟨#[c]⟩=[a,⟨#[c]⟩,b]:=by
 have hat:∀i,StrLaws.At x ⟨#[c]⟩ x.length i ↔ x.cps.toList[i]? = some c:=λi=>StrLaws.subAt_one x c i
 have h0:x.cps.toList[a.cps.toList.length]? = some c:=by rw[hx,List.getElem?_append_right (yak _),Nat.sub_self];rfl
 have e:wy x ⟨#[c]⟩=[(Txt.partition x ⟨#[c]⟩).1,(Txt.partition x ⟨#[c]⟩).2.1,(Txt.partition x ⟨#[c]⟩).2.2]:=by
  unfold wy Txt.partition
  cases yaK x ⟨#[c]⟩ 0 x.length 1<;>rfl
 rw[e]
 rcases partition_whole x ⟨#[c]⟩ with⟨_,hn⟩|⟨i,hp,hi,hn⟩
 ·exact absurd ((hat _).mpr h0) (hn _)
 ·have hi':=(hat i).mp hi
  have le:¬a.cps.toList.length<i:=λz=>hn _ z ((hat _).mpr h0)
  have ge:¬i<a.cps.toList.length:=λz=>by
   rw[hx,List.getElem?_append_left z]at hi'
   exact ha (ycA hi')
  have ei:i=a.cps.toList.length:=by omega
  subst ei
  rw[hp]
  have l1:(ybn x 0 a.cps.toList.length)=a:=qah (by
   rw[yeb,hx,List.drop_zero,Nat.sub_zero,List.take_left])
  have l2:(ybn x (a.cps.toList.length+(⟨#[c]⟩:Str).length) x.length)=b:=qah (by
   have hl:x.length=a.cps.toList.length+(b.cps.toList.length+1):=by
    have:=congrArg List.length hx
    rw[lA_,lC_]at this
    rw[<-this]
    exact(ya3).symm
   have e1:(⟨#[c]⟩:Str).length=1:=rfl
   rw[yeb,hx,e1,hl,<-List.drop_drop,List.drop_left]
   show(b.cps.toList).take _=_
   rw[ydS (by omega)])
  show [ybn x 0 a.cps.toList.length,_,ybn x (a.cps.toList.length+(⟨#[c]⟩:Str).length) x.length]=_
  rw[l1,l2]
def top(i:Nat):Stmt:=PySem.Challenge.pw_sackloads_k07_whole_loads_and_what_they.main.body.getD i (.Pass ⟨0,0,0,0⟩)
abbrev jM:Stmt:=top 11
abbrev jN:Stmt:=top 12
abbrev yC:Stmt:=top 13
abbrev z8:Stmt:=top 34
abbrev zB:Stmt:=top 33
abbrev z9:Stmt:=top 37
abbrev wO:Stmt:=top 38
abbrev yD:Stmt:=top 32
abbrev ja:Stmt:=top 35
abbrev jb:Stmt:=top 14
abbrev zL:Stmt:=top 15
abbrev v4:Stmt:=top 36
abbrev jc:Stmt:=top 24
abbrev jd:Stmt:=top 27
abbrev jO:Stmt:=top 17
abbrev yf:Stmt:=top 18
abbrev je:Stmt:=top 19
abbrev yJ:Stmt:=top 28
abbrev zn:Stmt:=top 29
abbrev zG:Stmt:=top 25
abbrev zM:Stmt:=top 16
abbrev yg:Stmt:=top 26
abbrev qM:Stmt:=top 20
abbrev wP:Stmt:=top 23
abbrev ul:Stmt:=top 21
abbrev jf:Stmt:=top 43
abbrev u4:Stmt:=top 22
abbrev qR:Stmt:=top 46
abbrev zv:Stmt:=top 44
abbrev zw:Stmt:=top 45
abbrev jQ:Stmt:=top 41
abbrev jg:Stmt:=top 40
abbrev jR:Stmt:=top 42
abbrev v5:Stmt:=top 47
structure Txt (K:yah) (mg:Str->Option Value):Prop where
 b_abs:mg "abs"=none
 b_all:mg "all"=none
 b_any:mg "any"=none
 b_bool:mg "bool"=none
 b_divmod:mg "divmod"=none
 b_enumerate:mg "enumerate"=none
 b_int:mg "int"=none
 b_isinstance:mg "isinstance"=none
 b_len:mg "len"=none
 b_max:mg "max"=none
 b_min:mg "min"=none
 b_range:mg "range"=none
 b_reversed:mg "reversed"=none
 b_str:mg "str"=none
 b_sum:mg "sum"=none
 b_tuple:mg "tuple"=none
 b_zip:mg "zip"=none
 c_FIGURES:∃t,mg "FIGURES"=some (.str "0123456789" t)
 c_KINDS_AT_MOST:∃t,mg "KINDS_AT_MOST"=some (.int 12 t)
 c_MOST:∃t,mg "MOST"=some (.int 2 t)
 c_WEIGHT:∃t,mg "WEIGHT"=some (.int 0 t)
 c_WORTH:∃t,mg "WORTH"=some (.int 1 t)
noncomputable def u5:MS :=
  (zl (qbq (qeL "int" (dv 0)) (qkf (qeL "bool" (dv 0)))))
noncomputable def um:List D->R D:=dfn 1 1 u5
noncomputable def u6:MS :=
  (zl (qbq (qd um (qa (dv 0) (ret []))) (d2 geD (dv 0) (ret (.int 0)))))
noncomputable def zN:List D->R D:=dfn 1 1 u6
noncomputable def v6:MS :=
  (qz (sif (tor (qbg (tst (qeL "tuple" (dv 0)))) (tst (d2 neB (qV qav (qa (dv 0) (ret []))) (ret (.int 3))))) (zl (ret (.bl false))) zD)
  (qz (sif (tor (qbg (tst (qd zN (qa (d2 ixD (dv 0) (ret (.int 0))) (ret []))))) (tst (d2 eqB (d2 ixD (dv 0) (ret (.int 0))) (ret (.int 0))))) (zl (ret (.bl false))) zD)
  (zl (qbq (qd zN (qa (d2 ixD (dv 0) (ret (.int 1))) (ret []))) (dor (d2 isN (d2 ixD (dv 0) (ret (.int 2))) (ret .non)) (qd zN (qa (d2 ixD (dv 0) (ret (.int 2))) (ret []))))))))
noncomputable def yE:List D->R D:=dfn 1 1 v6
noncomputable def v7:MS :=
  (qz (zu 1 (ret (.int 0)))
  (qz (qfT (qlc (dv 0)) (qD 2) (zu 1 (d2 jK (d2 vS (dv 1) (ret (.int 10))) (qV qhx (qa (dv 2) (ret []))))))
  (zl (dv 1))))
noncomputable def zJ:List D->R D:=dfn 3 1 v7
noncomputable def vh:MS :=
  (qz (sif (tor (tst (d2 eqB (dv 0) (ret (.str "")))) (qbg (tst (qV qeP (qa (zZ 1 [] none (qlc (dv 0)) (qD 0) (ret true) (d2 inS (dv 0) (ret (.str "0123456789")))) (ret [])))))) (zl (ret (.bl false))) zD)
  (zl (dor (d2 eqB (dv 0) (ret (.str "0"))) (d2 neB (d2 ixB (dv 0) (ret (.int 0))) (ret (.str "0"))))))
noncomputable def ju:List D->R D:=dfn 1 1 vh
noncomputable def uC:MS :=
  (qz (zu 1 (vZ qdY (dv 0) (qa (ret (.str "/")) (ret []))))
  (qz (zu 2 (vZ qdY (d2 ixB (dv 1) (ret (.int 2))) (qa (ret (.str "*")) (ret []))))
  (qz (sif (tor (tst (d2 eqB (d2 ixB (dv 2) (ret (.int 1))) (ret (.str "")))) (tor (qbg (tst (qd ju (qa (d2 ixB (dv 1) (ret (.int 0))) (ret []))))) (qbg (tst (qd ju (qa (d2 ixB (dv 2) (ret (.int 0))) (ret []))))))) (zl (ret .non)) zD)
  (qz (sif (qbo (tst (d2 neB (d2 ixB (dv 2) (ret (.int 2))) (ret (.str "")))) (qbg (tst (qd ju (qa (d2 ixB (dv 2) (ret (.int 2))) (ret [])))))) (zl (ret .non)) zD)
  (qz (zu 3 (dif (tst (d2 eqB (d2 ixB (dv 2) (ret (.int 2))) (ret (.str "")))) (ret .non) (qd zJ (qa (d2 ixB (dv 2) (ret (.int 2))) (ret [])))))
  (qz (zu 4 (qfL (qa (qd zJ (qa (d2 ixB (dv 1) (ret (.int 0))) (ret []))) (qa (qd zJ (qa (d2 ixB (dv 2) (ret (.int 0))) (ret []))) (qa (dv 3) (ret []))))))
  (zl (dif (tst (qd yE (qa (dv 4) (ret [])))) (dv 4) (ret .non)))))))))
noncomputable def jh:List D->R D:=dfn 5 1 uC
noncomputable def qd9:MS :=
  (qz (sif (qbg (tst (qeL "str" (dv 0)))) ve zD)
  (qz (sif (tst (d2 eqB (dv 0) (ret (.str "")))) (zl (qfL (ret []))) zD)
  (qz (vQ 1 (qh1 (ret [])))
  (qz (qfT (qa0 (qa (vZ qcc (dv 0) (qa (ret (.str " ")) (ret []))) (ret []))) (qbY 2 (jz (qD 2) (jz (qD 3) qbX))) (qz (zu 4 (qd jh (qa (dv 3) (ret []))))
  (qz (sif (tor (tst (d2 isN (dv 4) (ret .non))) (tst (d2 geD (dv 2) (ret (.int 12))))) ve zD)
  (yu (jB 1 (dv 4))))))
  (zl (qcA 1))))))
noncomputable def yp:List D->R D:=dfn 5 1 qd9
noncomputable def qa8:MS :=
  (qz (vQ 1 (qh1 (qa (d2 ixB (ret (.str "0123456789")) (d2 qeo (dv 0) (ret (.int 10)))) (ret []))))
  (qz (zu 2 (d2 wZ (dv 0) (ret (.int 10))))
  (qz (y9 (tst (d2 gtD (dv 2) (ret (.int 0)))) (qz (yu (jB 1 (d2 ixB (ret (.str "0123456789")) (d2 qeo (dv 2) (ret (.int 10))))))
  (zu 2 (d2 wZ (dv 2) (ret (.int 10))))) 40)
  (zl (qhz "" 1)))))
noncomputable def yF:List D->R D:=dfn 3 1 qa8
noncomputable def uD:MS :=
  (qz (zu 1 (dif (tst (d2 isN (d2 ixB (dv 0) (ret (.int 2))) (ret .non))) (ret (.str "")) (qd yF (qa (d2 ixB (dv 0) (ret (.int 2))) (ret [])))))
  (zl (d2 jK (d2 jK (d2 jK (d2 jK (qd yF (qa (d2 ixB (dv 0) (ret (.int 0))) (ret []))) (ret (.str "/"))) (qd yF (qa (d2 ixB (dv 0) (ret (.int 1))) (ret [])))) (ret (.str "*"))) (dv 1))))
noncomputable def yh:List D->R D:=dfn 2 1 uD
noncomputable def u7:MS :=
  (qz (sif (tor (qbg (tst (qeL "tuple" (dv 0)))) (tst (d2 gtD (qV qav (qa (dv 0) (ret []))) (ret (.int 12))))) (zl (ret (.bl false))) zD)
  (zl (qV qeP (qa (zZ 1 [] none (wn (dv 0)) (qD 0) (ret true) (qd yE (qa (dv 0) (ret [])))) (ret [])))))
noncomputable def uo:List D->R D:=dfn 1 1 u7
noncomputable def jv:MS :=
  (sif (qbg (tst (qd uo (qa (dv 0) (ret []))))) ve zD)
noncomputable def zP:List D->R D:=dfn 1 1 jv
noncomputable def qea:MS :=
  (qz (yu (qd zP (qa (dv 0) (ret []))))
  (zl (vZ qfh (ret (.str " ")) (qa (zZ 1 [] none (wn (dv 0)) (qD 0) (ret true) (qd yh (qa (dv 0) (ret [])))) (ret [])))))
noncomputable def yq:List D->R D:=dfn 1 1 qea
noncomputable def yK:MS :=
  (zl (qfL (qa (d2 ixD (dv 0) (ret (.int 0))) (qa (d2 ixD (dv 0) (ret (.int 1))) (qa (dv 1) (ret []))))))
noncomputable def zt:List D->R D:=dfn 2 2 yK
noncomputable def v8:MS :=
  (zl (dif (tst (d2 isN (d2 ixD (dv 0) (ret (.int 2))) (ret .non))) (ret .non) (d2 qgH (d2 ixD (dv 0) (ret (.int 2))) (dv 1))))
noncomputable def yL:List D->R D:=dfn 2 2 v8
noncomputable def u8:MS :=
  (zl (qbq (qd zN (qa (dv 1) (ret []))) (dor (d2 isN (d2 ixD (dv 0) (ret (.int 2))) (ret .non)) (d2 leD (dv 1) (d2 ixD (dv 0) (ret (.int 2)))))))
noncomputable def jS:List D->R D:=dfn 2 2 u8
noncomputable def v9:MS :=
  (qz (yu (qd zP (qa (dv 1) (ret []))))
  (qz (sif (tor (qbg (tst (qeL "tuple" (dv 0)))) (tst (d2 neB (qV qav (qa (dv 0) (ret []))) (qV qav (qa (dv 1) (ret [])))))) (zl (ret (.bl false))) zD)
  (zl (qV qeP (qa (zZ 2 [] none (qeZ (qa (dv 1) (qa (dv 0) (ret [])))) (qbY 2 (jz (qD 0) (jz (qD 1) qbX))) (ret true) (qd jS (qa (dv 0) (qa (dv 1) (ret []))))) (ret []))))))
noncomputable def qI:List D->R D:=dfn 2 2 v9
noncomputable def yi:MS :=
  (sif (qbg (tst (qd qI (qa (dv 1) (qa (dv 0) (ret [])))))) ve zD)
noncomputable def ji:List D->R D:=dfn 2 2 yi
noncomputable def qaj:MS :=
  (qz (yu (qd ji (qa (dv 0) (qa (dv 1) (ret [])))))
  (zl (qV yW (qa (zZ 2 [] none (qeZ (qa (dv 0) (qa (dv 1) (ret [])))) (qbY 2 (jz (qD 0) (jz (qD 1) qbX))) (ret true) (qd zt (qa (dv 0) (qa (qd yL (qa (dv 0) (qa (dv 1) (ret [])))) (ret []))))) (ret [])))))
noncomputable def qA:List D->R D:=dfn 2 2 qaj
noncomputable def uc:MS :=
  (qz (yu (qd zP (qa (dv 0) (ret []))))
  (qz (sif (tst (qV qhY (qa (zZ 1 [] none (wn (dv 0)) (qD 0) (ret true) (d2 isN (d2 ixD (dv 0) (ret (.int 2))) (ret .non))) (ret [])))) (zl (ret .non)) zD)
  (zl (qV yW (qa (zZ 1 [] none (wn (dv 0)) (qD 0) (ret true) (d2 ixD (dv 0) (ret (.int 2)))) (ret []))))))
noncomputable def zo:List D->R D:=dfn 1 1 uc
noncomputable def yM:MS :=
  (qz (zu 2 (d2 wZ (dv 1) (d2 ixD (dv 0) (ret (.int 0)))))
  (zl (dif (tst (d2 isN (d2 ixD (dv 0) (ret (.int 2))) (ret .non))) (dv 2) (qV qdo (qa (dv 2) (qa (d2 ixD (dv 0) (ret (.int 2))) (ret [])))))))
noncomputable def zT:List D->R D:=dfn 3 2 yM
noncomputable def jw:MS :=
  (sif (qbg (tst (qd zN (qa (dv 0) (ret []))))) ve zD)
noncomputable def yr:List D->R D:=dfn 1 1 jw
noncomputable def wd:MS :=
  (qz (yu (qd zP (qa (dv 0) (ret []))))
  (qz (yu (qd yr (qa (dv 1) (ret []))))
  (zl (qV yW (qa (zZ 1 [1] none (wn (dv 0)) (qD 0) (ret true) (qd zt (qa (dv 0) (qa (qd zT (qa (dv 0) (qa (dv 1) (ret [])))) (ret []))))) (ret []))))))
noncomputable def qS:List D->R D:=dfn 2 2 wd
noncomputable def jE:MS :=
  (zl (qV qiS (qa (zZ 2 [2] none (qeZ (qa (dv 0) (qa (dv 1) (ret [])))) (qbY 2 (jz (qD 0) (jz (qD 1) qbX))) (ret true) (d2 vS (d2 ixD (dv 0) (dv 2)) (dv 1))) (ret []))))
noncomputable def qW:List D->R D:=dfn 3 3 jE
noncomputable def qeb:MS :=
  (qz (yu (qd ji (qa (dv 0) (qa (dv 1) (ret [])))))
  (qz (yu (qd yr (qa (dv 2) (ret []))))
  (zl (d2 leD (qd qW (qa (dv 0) (qa (dv 1) (qa (ret (.int 0)) (ret []))))) (dv 2)))))
noncomputable def yj:List D->R D:=dfn 3 3 qeb
noncomputable def qak:MS :=
  (qz (yu (qd ji (qa (dv 0) (qa (dv 1) (ret [])))))
  (zl (qd qW (qa (dv 0) (qa (dv 1) (qa (ret (.int 0)) (ret [])))))))
noncomputable def qH:List D->R D:=dfn 2 2 qak
noncomputable def yN:MS :=
  (qz (qkg (qV vK (qa (qeU 0 (ret (.int 0))) (qa (dv 1) (ret [])))) (qbY 2 (jz (qD 2) (jz (qD 3) qbX))))
  (qz (qeS 0 (ret (.int 0)) (dv 2))
  (zl (dv 3))))
noncomputable def qi:List D->List D->R (D×List D):=uW 4 2 yN
noncomputable def qbG:MS :=
  (qz (yu (qd ji (qa (dv 0) (qa (dv 1) (ret [])))))
  (zl (qd qW (qa (dv 0) (qa (dv 1) (qa (ret (.int 1)) (ret [])))))))
noncomputable def zx:List D->R D:=dfn 2 2 qbG
noncomputable def zU:MS :=
  (zl (qV yW (qa (zZ 1 [0] (some (1,0)) (wn (dv 1)) (qD 0) (ret true) (qk qi 1 (qa (d2 jK (d2 ixD (vG (qa (d2 ixD (dv 0) (ret (.int 2))) (qa (ret (.int 6)) (ret [])))) (qV qaO (qa (d2 isN (d2 ixD (dv 0) (ret (.int 2))) (ret .non)) (ret [])))) (ret (.int 1))) (ret [])))) (ret []))))
noncomputable def qy:List D->List D->R (D×List D):=uW 2 2 zU
noncomputable def jq:MS :=
  (qz (zu 2 (qk qi 0 (qa (ret (.int 6)) (ret []))))
  (qz (qg1 3 4 (qa (d2 jK (ret (.int 1)) (qk qi 0 (qa (ret (.int 7)) (ret [])))) (qa (qk qi 0 (qa (ret (.int 10)) (ret []))) (ret []))))
  (qz (sif (tst (d2 eqB (dv 2) (ret (.int 1)))) (zu 4 (d2 vS (ret (.int 2)) (dv 3))) zD)
  (qz (sif (tst (d2 eqB (dv 2) (ret (.int 2)))) (zu 4 (d2 jK (dv 3) (qk qi 0 (qa (ret (.int 3)) (ret []))))) zD)
  (qz (sif (tst (d2 eqB (dv 2) (ret (.int 3)))) (qg1 3 4 (qa (d2 jK (ret (.int 1)) (qk qi 0 (qa (ret (.int 25)) (ret [])))) (qa (qk qi 0 (qa (ret (.int 40)) (ret []))) (ret [])))) zD)
  (qz (zu 5 (d2 ixD (vG (qa (ret (.int 1)) (qa (ret (.int 1)) (qa (ret (.int 1)) (qa (ret (.int 2)) (qa (ret (.int 3)) (qa (ret (.int 0)) (qa (ret (.int 5)) (qa (dv 1) (ret [])))))))))) (qk qi 0 (qa (ret (.int 8)) (ret [])))))
  (zl (qfL (qa (dv 3) (qa (dv 4) (qa (dv 5) (ret []))))))))))))
noncomputable def zb:List D->List D->R (D×List D):=uW 6 2 jq
noncomputable def jr:MS :=
  (qz (vQ 3 (qh1 (ret [])))
  (qz (qfT (uU (qa (qk qi 0 (qa (d2 jK (dv 1) (ret (.int 1))) (ret []))) (ret []))) (qD 4) (qz (zu 5 (qk zb 0 (qa (dv 2) (ret []))))
  (qz (sif (qbo (tst (qfX 3 (vG (ret [])))) (tst (d2 eqB (qk qi 0 (qa (ret (.int 7)) (ret []))) (ret (.int 6))))) (zu 5 (qeU 3 (qk qi 0 (qa (qaQ 3) (ret []))))) zD)
  (yu (jB 3 (dv 5))))))
  (zl (qcA 3))))
noncomputable def zc:List D->List D->R (D×List D):=uW 6 3 jr
noncomputable def u9:MS :=
  (qz (zu 2 (vG (qa (ret (.int 48271)) (qa (ret (.int 69621)) (qa (ret (.int 16807)) (qa (ret (.int 39373)) (qa (ret (.int 30269)) (qa (ret (.int 40014)) (qa (ret (.int 40692)) (qa (ret (.int 50021)) (qa (ret (.int 61687)) (qa (ret (.int 71993)) (qa (ret (.int 83869)) (qa (ret (.int 95561)) (qa (ret (.int 30307)) (ret []))))))))))))))))
  (qz (zu 3 (d2 jK (d2 jK (d2 vS (d2 jK (d2 qeo (dv 0) (ret (.int 2147483647))) (ret (.int 12345))) (d2 ixD (dv 2) (d2 qeo (dv 1) (ret (.int 13))))) (d2 vS (ret (.int 977)) (dv 1))) (d2 vS (ret (.int 7919)) (d2 wZ (dv 1) (ret (.int 13))))))
  (qz (zu 3 (d2 qeo (dv 3) (ret (.int 1000000007))))
  (zl (d2 wZ (d2 qeo (d2 jK (d2 vS (dv 3) (dv 3)) (d2 vS (ret (.int 48271)) (dv 1))) (ret (.int 1000000007))) (ret (.int 7)))))))
noncomputable def jU:List D->R D:=dfn 4 2 u9
noncomputable def yO:MS :=
  (qz (sif (tst (d2 ltD (dv 1) (qV qav (qa (dv 0) (ret []))))) (zl (d2 ixD (dv 0) (dv 1))) zD)
  (zl (ret (.int 0))))
noncomputable def jk:List D->R D:=dfn 2 2 yO
noncomputable def uq:MS :=
  (qz (zu 2 (qd jk (qa (dv 0) (qa (dv 1) (ret [])))))
  (qz (sif (tst (d2 eqB (d2 qeo (dv 2) (ret (.int 2))) (ret (.int 0)))) (zl (vG (qa (d2 wZ (qV qkh (qa (dv 2) (ret []))) (ret (.int 2))) (ret [])))) zD)
  (qz (zu 3 (ret (.int 0)))
  (qz (qfT (uU (qa (ret (.int 40)) (ret []))) (qD 4) (zu 3 (d2 jK (d2 vS (dv 3) (ret (.int 142857143))) (qd jU (qa (dv 2) (qa (dv 4) (ret [])))))))
  (zl (vG (qa (dv 3) (ret []))))))))
noncomputable def zQ:List D->R D:=dfn 5 2 uq
noncomputable def qhH:MS :=
  (qz (qfT (uU (qa (qV qgL (qa (ret (.int 1)) (qa (qV qdo (qa (qV qav (qa (dv 0) (ret []))) (qa (ret (.int 5)) (ret [])))) (ret [])))) (ret []))) (qD 1) (qz (vQ 2 (qaT zQ (qa (dv 0) (qa (dv 1) (ret [])))))
  (qz (zu 3 (qk zc 2 (qa (ret (.int 10)) (qa (ret .non) (ret [])))))
  (qz (zu 4 (qk qy 2 (qa (dv 3) (ret []))))
  (qz (zu 5 (qd qA (qa (dv 3) (qa (dv 4) (ret [])))))
  (qz (zu 6 (qk qy 2 (qa (dv 5) (ret []))))
  (qz (zu 7 (qV yW (qa (zZ 1 [4,6] none (uU (qa (qV qav (qa (dv 3) (ret []))) (ret []))) (qD 0) (ret true) (d2 jK (d2 ixD (dv 1) (dv 0)) (d2 ixD (dv 2) (dv 0)))) (ret []))))
  (qz (sif (tor (tst (d2 qby (qd qI (qa (dv 7) (qa (dv 3) (ret [])))) (ret (.bl true)))) (tst (d2 neB (qd qA (qa (dv 3) (qa (dv 7) (ret [])))) (qd qA (qa (dv 5) (qa (dv 6) (ret []))))))) (zl (ret (.bl false))) zD)
  (qz (sif (tst (d2 neB (qd qH (qa (dv 3) (qa (dv 7) (ret [])))) (d2 jK (qd qH (qa (dv 3) (qa (dv 4) (ret [])))) (qd qH (qa (dv 5) (qa (dv 6) (ret []))))))) (zl (ret (.bl false))) zD)
  (qz (sif (tst (d2 neB (qd zx (qa (dv 3) (qa (dv 7) (ret [])))) (d2 jK (qd zx (qa (dv 3) (qa (dv 4) (ret [])))) (qd zx (qa (dv 5) (qa (dv 6) (ret []))))))) (zl (ret (.bl false))) zD)
  (qz (zu 8 (d2 qgH (d2 jK (qd qH (qa (dv 3) (qa (dv 7) (ret [])))) (qk qi 2 (qa (ret (.int 9)) (ret [])))) (ret (.int 4))))
  (qz (sif (tst (d2 geD (dv 8) (ret (.int 0)))) (qz (zu 9 (qd qS (qa (dv 3) (qa (dv 8) (ret [])))))
  (qz (sif (tst (d2 neB (qd yj (qa (dv 3) (qa (dv 7) (qa (dv 8) (ret []))))) (qbq (qd qI (qa (dv 7) (qa (dv 9) (ret [])))) (qd yj (qa (dv 9) (qa (dv 7) (qa (dv 8) (ret [])))))))) (zl (ret (.bl false))) zD)
  (sif (tst (d2 neB (qd qS (qa (dv 9) (qa (dv 8) (ret [])))) (dv 9))) (zl (ret (.bl false))) zD))) zD)
  (qz (zu 10 (qd zo (qa (dv 3) (ret []))))
  (qz (sif (qbo (tst (d2 qgK (dv 10) (ret .non))) (tst (d2 neB (zZ 1 [] none (wn (qd qA (qa (dv 3) (qa (dv 10) (ret []))))) (qD 0) (tst (d2 neB (d2 ixD (dv 0) (ret (.int 2))) (ret (.int 0)))) (dv 0)) (vG (ret []))))) (zl (ret (.bl false))) zD)
  (sif (tor (tst (d2 neB (qd yp (qa (qd yq (qa (dv 3) (ret []))) (ret []))) (dv 3))) (tst (d2 neB (qd yp (qa (qd yq (qa (dv 5) (ret []))) (ret []))) (dv 5)))) (zl (ret (.bl false))) zD)))))))))))))))
  (zl (ret (.bl true))))
noncomputable def qbH:List D->R D:=dfn 11 1 qhH
theorem qal (d:D):um [d]=.ok (.bl (qhD d)):=by
 unfold um u5
 refine vf rfl ⟨[some d],?_⟩
 push_cast []
 cases d<;>rfl
theorem zV (d:D):zN [d]=.ok (.bl (jC d)):=by
 unfold zN u6
 refine vf rfl ⟨[some d],?_⟩
 push_cast []
 rw[qal]
 cases d<;>rfl
theorem vi (d:D):yE [d]=.ok (.bl (yz d)):=by
 unfold yE v6
 refine vf rfl ⟨[some d],?_⟩
 cases d with
 | tup ds=>
  by_cases h:ds.length=3
  ·obtain ⟨a,b,c,rfl⟩:=qlS h
   refine(ql (Z':=[some (.tup [a,b,c])]) rfl).trans ?_
   by_cases hp:qd1 a=true
   ·refine (ql (Z':=[some (.tup [a,b,c])]) ?_).trans ?_
    ·cases a with
     |int i=>
      have h2:0<i:=of_decide_eq_true hp
      have h0:0<=i:=by omega
      have h1:¬i=0:=by omega
      push_cast [ix0,zV,jC,qbD,yy,h0,h1,decide_true,decide_false]
     |_=>exact absurd hp (by simp[qd1])
    ·push_cast [ix1,ix2,zV,qcd,yz,hp,yy,yaW]
     cases hb:jC b<;>cases hc:jX c<;>rfl
   ·refine (v0 (d:=.bl false) (Z':=[some (.tup [a,b,c])]) ?_).trans ?_
    ·cases a with
     | int i=>
      have h2:¬0<i:=λz=>hp (decide_eq_true z)
      push_cast [ix0,zV,jC,qbD,yy]
      by_cases h0:0<=i
      ·have h1:i=0:=by omega
       subst h1;rfl
      ·simp only[h0,decide_false]
       rfl
     |_=>rfl
    ·have hp':qd1 a=false:=by simpa using hp
     simp only[yz,hp',ycK]
  ·refine (v0 (d:=.bl false) (Z':=[some (.tup ds)]) ?_).trans ?_
   ·push_cast []
    have h3:¬((ds.length:Int)=3):=by omega
    simp only[u3,yH,u0,h3,decide_false,yy]
    rfl
   ·rw[wN h]
 |_=>rfl
theorem qam (d:D):uo [d]=.ok (.bl (jD d)):=by
 unfold uo u7
 refine vf rfl ⟨[some d],?_⟩
 cases d with
 | tup ds=>
  by_cases h:ds.length<=12
  ·have h2:¬((12:Int)<(ds.length:Int)):=by omega
   refine(ql (Z':=[some (.tup ds)]) ?_).trans ?_
   ·push_cast [u3,yH,qbE,h2,decide_false,yy]
   ·rw[qaU,qhE (F:=yE) (f:=yz) (xs:=wn (dv 0)) (ds:=ds) (Z:=[some (.tup ds)]) rfl (λd _=>vi d) (by omega)]
    simp only[jD,h,decide_true,yaW]
  ·have h2:((12:Int)<(ds.length:Int)):=by omega
   refine(v0 (d:=.bl false) (Z':=[some (.tup ds)]) ?_).trans ?_
   ·push_cast [u3,yH,qbE,h2,decide_true,yy]
   ·simp only[jD,h,decide_false,ycK]
 |_=>rfl
theorem qan (k x:D) (hk:yz k=true):jS [k,x]=.ok (.bl (qcM k x)):=by
 cases k with
 | tup ds=>
  by_cases h:ds.length=3
  ·obtain ⟨a,b,c,rfl⟩:=qlS h
   unfold jS u8
   refine vf rfl ⟨[some (.tup [a,b,c]),some x],?_⟩
   push_cast [ix2,zV,qcd,yy,qcM]
   cases hx:jC x with
   |false=>rfl
   | true=>
    cases hc:jX c with
    |true=>rfl
    | false=>
     have hcc:jC c=true:=by
      simp only[yz,hc,Bool.false_or,yao]at hk
      exact hk.2
     cases x with
     |int i=>
      cases c with
      |int j=>rfl
      |_=>cases hcc
     |_=>cases hx
  ·rw[wN h]at hk;cases hk
 |_=>cases hk
theorem zW (d:D) (h:jD d=true):zP [d]=.ok .non:=by
 have e:jv [some d]=.ok (.nx [some d]):=by
  unfold jv
  push_cast [qam,h,yy]
 show(match jv [some d] with|.ok (.rt d _)=>R.ok d|.ok (.nx _) => .ok .non|_ => .bad)=_
 rw[e]
theorem qa9 (t s:D) (hs:jD s=true):qI [t,s]=.ok (.bl (qce t s)):=by
 cases s with
 | tup ks=>
  have hs2:=hs
  simp only[jD,yao,decide_eq_true_eq]at hs2
  obtain⟨hl,ha⟩:=hs2
  unfold qI v9
  refine vf rfl ⟨[some t,some (.tup ks)],?_⟩
  refine(ql (Z':=[some t,some (.tup ks)]) ?_).trans ?_
  ·push_cast [zW _ hs]
  cases t with
  | tup xs=>
   by_cases h:xs.length=ks.length
   ·refine (ql (Z':=[some (.tup xs),some (.tup ks)]) ?_).trans ?_
    ·push_cast [u3,yH,u0,h,decide_true,yy]
    ·obtain ⟨bs,Z',q,r⟩:=qcf (e:=qd jS (qa (dv 0) (qa (dv 1) (ret [])))) (f:=qcM) ks xs [] none none (λk hk x=>by
      push_cast [qan k x (List.all_eq_true.mp ha k hk)]) (by simp;omega)
     have q':zj (qbY 2 (jz (qD 0) (jz (qD 1) qbX))) (ret true) (qd jS (qa (dv 0) (qa (dv 1) (ret [])))) (vt ks xs) [] (j7 2 [] [some (.tup xs),some (.tup ks)])=.ok ([]++bs.map D.bl,Z'):=q
     rw[vg]at r
     simp only[qaU,vU,ya,vV,qdL,qlx,qdF,List.getElem?_cons_zero,List.getElem?_cons_succ,qi6,q',ybt,qeP,qaf,ybO,r,qce,h,decide_true,yaW]
     rfl
   ·refine (v0 (d:=.bl false) (Z':=[some (.tup xs),some (.tup ks)]) ?_).trans ?_
    ·have h2:¬((xs.length:Int)=(ks.length:Int)):=by omega
     push_cast [u3,yH,u0,h2,decide_false,yy]
    ·simp only[qce,h,decide_false,ycK]
  |_=>rfl
 |_=>cases hs
abbrev Ce:=Kd×Int
def lI(l:List Int):D:=.tup (l.map D.int)
def sK(ks:List Kd):D:=.tup (ks.map kD)
def stC(zs:List Ce):D:=sK (zs.map (·.1))
def ldC(zs:List Ce):D:=lI (zs.map (·.2))
def gK(k:Kd):Prop:=(1<=k.1/\k.1<=25)/\(0<=k.2.1/\k.2.1<=39)/\∀j,k.2.2=some j->0<=j/\j<=5000
def okC(z:Ce):Bool:=decide (0<=z.2)&&(match z.1.2.2 with|none=>true|some j=>decide (z.2<=j))
theorem gK.ok{k:Kd}(h:gK k):okK k:=⟨by have:=h.1.1;omega,h.2.1.1,λj e=>(h.2.2 j e).1⟩
theorem qao{ks:List Kd}(h:∀k∈ks,gK k)(hl:ks.length<=12):jD (sK ks)=true:=qcN (λx hx=>(h x hx).ok) hl
theorem qhI (z:Ce):qcM (kD z.1) (.int z.2)=okC z:=by
 obtain⟨⟨a,b,m⟩,t⟩:=z
 cases m<;>rfl
theorem qgh:∀zs:List Ce,yI ((zs.map (·.1)).map kD) ((zs.map (·.2)).map D.int)=zs.all okC
 | []=>rfl
 |z::zs=>by
  rw[mC_,mC_,mC_,mC_,yI,qhI,qgh zs,yc7]
theorem qfr (zs:List Ce):qce (ldC zs) (stC zs)=zs.all okC:=by
 show(decide (((zs.map (·.2)).map D.int).length=((zs.map (·.1)).map kD).length)&&yI ((zs.map (·.1)).map kD) ((zs.map (·.2)).map D.int))=_
 rw[qgh,decide_eq_true (by simp),yaW]
theorem qjZ:∀zs:List Ce,vt ((zs.map (·.1)).map kD) ((zs.map (·.2)).map D.int)=zs.map λz => .tup [kD z.1,.int z.2]
 | []=>rfl
 |z::zs=>by
  show D.tup [kD z.1,.int z.2]::vt ((zs.map (·.1)).map kD) ((zs.map (·.2)).map D.int)=_
  rw[qjZ zs]
  rfl
theorem qgi {f g:M D} {Z:Env} (zs:List Ce) (hf:f Z=.ok (stC zs,Z)) (hg:g Z=.ok (ldC zs,Z)):qeZ (qa f (qa g (ret []))) Z=.ok (zs.map λz => .tup [kD z.1,.int z.2],Z):=by
 rw[qdL,qfn hf hg,<-qjZ]
 rfl
section
variable{zs:List Ce}(hk:∀z∈zs,gK z.1)(hl:zs.length<=12)
include hk hl
theorem qlg:jD (stC zs)=true:=qao (λk h=>by
 obtain⟨z,hz,rfl⟩:=mP_.mp h
 exact hk z hz) (by rw[lM_];exact hl)
theorem wf:qI [ldC zs,stC zs]=.ok (.bl (zs.all okC)):=by
 rw[qa9 _ _ (qlg hk hl),qfr]
theorem yP (h:zs.all okC=true):ji [stC zs,ldC zs]=.ok .non:=by
 have e:yi [some (stC zs),some (ldC zs)]=.ok (.nx [some (stC zs),some (ldC zs)]):=by
  unfold yi
  push_cast [wf hk hl,h,yy]
 show(match yi [some (stC zs),some (ldC zs)] with|.ok (.rt d _)=>R.ok d|.ok (.nx _) => .ok .non|_ => .bad)=_
 rw[e]
theorem qbI (c:Int) (sel:Kd->Int) (hs:∀z∈zs,ixD (kD z.1) (.int c)=some (.int (sel z.1))/\jI (sel z.1)=true):qW [stC zs,ldC zs,.int c]=.ok (.int (zs.map λz=>sel z.1*z.2).sum):=by
 let Z:Env:=[some (stC zs),some (ldC zs),some (.int c)]
 unfold qW jE
 refine vf rfl ⟨Z,ux (v3 (a:=.lst (zs.map λz=>D.int (sel z.1*z.2))) ?_ qfp)⟩
 have q:=qd8 (e:=d2 vS (d2 ixD (dv 0) (dv 2)) (dv 1)) (t:=ret true) (xs:=qeZ (qa (dv 0) (qa (dv 1) (ret [])))) (fr:=[2]) (Z:=Z) (r:=[some (.int c)]) (u:=λz:Ce=>kD z.1) (v:=λz=>D.int z.2) zs (λ_=>true) (λz=>D.int (sel z.1*z.2)) (qgi zs rfl rfl) rfl (by omega) (λ_ _=>rfl) (λz hz _=>qo (qo rfl rfl (hs z hz).1) rfl (qd4 (hs z hz).2))
 rw[uB]at q
 exact q
def wtC(zs:List Ce):Int:=(zs.map λz=>z.1.1*z.2).sum
def woC(zs:List Ce):Int:=(zs.map λz=>z.1.2.1*z.2).sum
theorem qap (h:zs.all okC=true):qH [stC zs,ldC zs]=.ok (.int (wtC zs)):=by
 let Z:Env:=[some (stC zs),some (ldC zs)]
 unfold qH
 refine vf rfl ⟨Z,?_⟩
 unfold qak
 refine(ql (Z':=Z) ?_).trans (ux (qa7 rfl rfl rfl (qbI hk hl 0 (·.1) λz hz=>⟨rfl,qag (by have:=(hk z hz).1.1;omega) (by have:=(hk z hz).1.2;omega)⟩)))
 push_cast [Z,yP hk hl h]
theorem qbJ (h:zs.all okC=true):zx [stC zs,ldC zs]=.ok (.int (woC zs)):=by
 let Z:Env:=[some (stC zs),some (ldC zs)]
 unfold zx
 refine vf rfl ⟨Z,?_⟩
 unfold qbG
 refine(ql (Z':=Z) ?_).trans (ux (qa7 rfl rfl rfl (qbI hk hl 1 (·.2.1) λz hz=>⟨rfl,qag (hk z hz).2.1.1 (by have:=(hk z hz).2.1.2;omega)⟩)))
 push_cast [Z,yP hk hl h]
theorem vj {r:Int} (h0:0<=r):yr [.int r]=.ok .non:=by
 have h:jC (.int r)=true:=decide_eq_true h0
 have e:jw [some (.int r)]=.ok (.nx [some (.int r)]):=by
  unfold jw
  push_cast [zV,h,yy]
 show(match jw [some (.int r)] with|.ok (.rt d _)=>R.ok d|.ok (.nx _) => .ok .non|_ => .bad)=_
 rw[e]
theorem qgj (h:zs.all okC=true) {r:Int} (h0:0<=r):yj [stC zs,ldC zs,.int r]=.ok (.bl (decide (wtC zs<=r))):=by
 let Z:Env:=[some (stC zs),some (ldC zs),some (.int r)]
 unfold yj
 refine vf rfl ⟨Z,?_⟩
 unfold qeb
 refine(ql (Z':=Z) ?_).trans ((ql (Z':=Z) ?_).trans (ux (qo (qa7 rfl rfl rfl (qbI hk hl 0 (·.1) λz hz=>⟨rfl,qag (by have:=(hk z hz).1.1;omega) (by have:=(hk z hz).1.2;omega)⟩)) rfl (qd0 _ _))))
 ·push_cast [Z,yP hk hl h]
 ·push_cast [Z,vj hk hl h0]
def lvC(z:Ce):Kd:=(z.1.1,z.1.2.1,z.1.2.2.map (·-z.2))
theorem vy (h:zs.all okC=true):qA [stC zs,ldC zs]=.ok (sK (zs.map lvC)):=by
 let Z:Env:=[some (stC zs),some (ldC zs)]
 unfold qA
 refine vf rfl ⟨Z,?_⟩
 unfold qaj
 have ml:∀z:Ce,yL [kD z.1,.int z.2]=.ok (mD (z.1.2.2.map (·-z.2))):=λz=>by
  obtain⟨⟨a,b,m⟩,t⟩:=z
  cases m<;>rfl
 have wm:∀z:Ce,zt [kD z.1,mD (z.1.2.2.map (·-z.2))]=.ok (kD (lvC z)):=λz=>by
  obtain⟨⟨a,b,m⟩,t⟩:=z
  unfold zt yK
  refine vf rfl ⟨[some (kD (a,b,m)),some (mD (m.map (·-t)))],?_⟩
  push_cast [kD,yb (show 3<=1000000 by omega)]
  rfl
 have q:=qd8 (e:=qd zt (qa (dv 0) (qa (qd yL (qa (dv 0) (qa (dv 1) (ret [])))) (ret [])))) (t:=ret true) (xs:=qeZ (qa (dv 0) (qa (dv 1) (ret [])))) (fr:=[]) (Z:=Z) (r:=[]) (u:=λz:Ce=>kD z.1) (v:=λz=>D.int z.2) zs (λ_=>true) (λz=>kD (lvC z)) (qgi zs rfl rfl) rfl (by omega) (λ_ _=>rfl) (λz hz _=>zS rfl (zS rfl rfl (ml z)) (wm z))
 rw[uB]at q
 refine(ql (Z':=Z) ?_).trans (ux (v3 q ?_))
 ·push_cast [Z,yP hk hl h]
 ·rw[yA]
  show some (D.tup _)=some (D.tup ((zs.map lvC).map kD))
  rw[mm_]
  rfl
end
def bdK(r:Int)(k:Kd):Kd:=(k.1,k.2.1,some (match k.2.2 with|none=>r/k.1|some j=>if j<r/k.1 then j else r/k.1))
section
variable{ks:List Kd}(hk:∀k∈ks,gK k)(hl:ks.length<=12)
include hk hl
theorem qba {r:Int} (h0:0<=r):qS [sK ks,.int r]=.ok (sK (ks.map (bdK r))):=by
 let Z:Env:=[some (sK ks),some (.int r)]
 unfold qS
 refine vf rfl ⟨Z,?_⟩
 unfold wd
 have mw:∀k∈ks,zT [kD k,.int r]=.ok (mD (bdK r k).2.2):=λk hm=>by
  have g:=hk k hm
  obtain⟨a,b,m⟩:=k
  have g1:1<=a/\a<=25:=g.1
  have hd:=uR (i:=r) (j:=a) (by omega) (by omega)
  unfold zT yM
  refine vf rfl ⟨[some (kD (a,b,m)),some (.int r),some (.int (r/a))],?_⟩
  refine(ql (Z':=[some (kD (a,b,m)),some (.int r),some (.int (r/a))]) ?_).trans ?_
  ·push_cast [kD,hd]
  ·cases m with
   |none=>push_cast [kD,mD,jX,bdK]
   |some j=>push_cast [kD,mD,jX,bdK,qfm]
 have wm:∀k:Kd,zt [kD k,mD (bdK r k).2.2]=.ok (kD (bdK r k)):=λk=>by
  obtain⟨a,b,m⟩:=k
  unfold zt yK
  refine vf rfl ⟨[some (kD (a,b,m)),some (mD (bdK r (a,b,m)).2.2)],?_⟩
  push_cast [kD,yb (show 3<=1000000 by omega)]
  rfl
 have q:=qa5 (e:=qd zt (qa (dv 0) (qa (qd zT (qa (dv 0) (qa (dv 1) (ret [])))) (ret [])))) (xs:=wn (dv 0)) (fr:=[1]) (Z:=Z) (r:=[some (.int r)]) (k:=kD) ks (λk=>kD (bdK r k)) rfl rfl (by omega) (λk hm=>zS rfl (zS rfl rfl (mw k hm)) (wm k))
 refine(ql (Z':=Z) ?_).trans ((ql (Z':=Z) ?_).trans (ux (v3 q ?_)))
 ·push_cast [Z,zW _ (qao hk hl)]
 ·push_cast [Z,vj (zs:=[]) (λ_ h=>by cases h) (by simp) h0]
 ·rw[yA]
  show some (D.tup _)=some (D.tup ((ks.map (bdK r)).map kD))
  rw[mm_]
  rfl
def moK(k:Kd):Int:=k.2.2.getD 0
theorem qlh:qhY [.lst (ks.map λk=>D.bl k.2.2.isNone)]=some (.bl (ks.any λk=>k.2.2.isNone)):=by
 have:ks.map (λk=>D.bl k.2.2.isNone)=(ks.map λk=>k.2.2.isNone).map D.bl:=by rw[mm_];rfl
 simp only[qhY,this,qaf,ybO]
 rw[List.any_map]
 rfl
theorem qhJ:zo [sK ks]=.ok (if ks.any (λk=>k.2.2.isNone)then .non else lI (ks.map moK)):=by
 let Z:Env:=[some (sK ks)]
 unfold zo
 refine vf rfl ⟨Z,?_⟩
 unfold uc
 have q1:=qa5 (e:=d2 isN (d2 ixD (dv 0) (ret (.int 2))) (ret .non)) (xs:=wn (dv 0)) (fr:=[]) (Z:=Z) (r:=[]) (k:=kD) ks (λk=>D.bl k.2.2.isNone) rfl rfl (by omega) (λk _=>qo (qo rfl rfl (show ixD (kD k) (.int 2)=some (mD k.2.2)from rfl)) rfl (by rw[qcd,qfo]))
 have t1:tst (qV qhY (qa (zZ 1 [] none (wn (dv 0)) (qD 0) (ret true) (d2 isN (d2 ixD (dv 0) (ret (.int 2))) (ret .non))) (ret []))) Z=.ok (ks.any (λk=>k.2.2.isNone),Z):=zf (v3 q1 (qlh hk hl))
 refine(ql (Z':=Z) ?_).trans ?_
 ·push_cast [Z,zW _ (qao hk hl)]
 cases ha:ks.any (λk=>k.2.2.isNone) with
 |true=>
  rw[ha]at t1
  exact v0 ((qlT t1).trans rfl)
 | false=>
  rw[ha]at t1
  have hs:∀k∈ks,mD k.2.2=.int (moK k):=λk hm=>by
   have:=List.any_eq_false.mp ha k hm
   unfold moK
   cases e:k.2.2 with
   |none=>rw[e]at this;exact absurd rfl this
   |some j=>rfl
  have q2:=qa5 (e:=d2 ixD (dv 0) (ret (.int 2))) (xs:=wn (dv 0)) (fr:=[]) (Z:=Z) (r:=[]) (k:=kD) ks (λk=>D.int (moK k)) rfl rfl (by omega) (λk hm=>qo rfl rfl (show ixD (kD k) (.int 2)=some (.int (moK k)) by rw[<-hs k hm];rfl))
  refine(ql (qbh t1)).trans (ux (v3 q2 ?_))
  rw[yA]
  show some (D.tup _)=some (D.tup ((ks.map moK).map D.int))
  rw[mm_]
  rfl
end
def fg(n:Nat):Str:=if n<10 then⟨#[48+n]⟩ else⟨#[48+n/10,48+n%10]⟩
theorem qfs:∀n:Nat,n<40->yF [.int (n:Nat)]=.ok (.str (fg n))/\ju [.str (fg n)]=.ok (.bl true)/\zJ [.str (fg n)]=.ok (.int (n:Nat))
 |0,_=>⟨by kernel_rfl,by kernel_rfl,by kernel_rfl⟩
 |1,_=>⟨by kernel_rfl,by kernel_rfl,by kernel_rfl⟩
 |2,_=>⟨by kernel_rfl,by kernel_rfl,by kernel_rfl⟩
 |3,_=>⟨by kernel_rfl,by kernel_rfl,by kernel_rfl⟩
 |4,_=>⟨by kernel_rfl,by kernel_rfl,by kernel_rfl⟩
 |5,_=>⟨by kernel_rfl,by kernel_rfl,by kernel_rfl⟩
 |6,_=>⟨by kernel_rfl,by kernel_rfl,by kernel_rfl⟩
 |7,_=>⟨by kernel_rfl,by kernel_rfl,by kernel_rfl⟩
 |8,_=>⟨by kernel_rfl,by kernel_rfl,by kernel_rfl⟩
 |9,_=>⟨by kernel_rfl,by kernel_rfl,by kernel_rfl⟩
 |10,_=>⟨by kernel_rfl,by kernel_rfl,by kernel_rfl⟩
 |11,_=>⟨by kernel_rfl,by kernel_rfl,by kernel_rfl⟩
 |12,_=>⟨by kernel_rfl,by kernel_rfl,by kernel_rfl⟩
 |13,_=>⟨by kernel_rfl,by kernel_rfl,by kernel_rfl⟩
 |14,_=>⟨by kernel_rfl,by kernel_rfl,by kernel_rfl⟩
 |15,_=>⟨by kernel_rfl,by kernel_rfl,by kernel_rfl⟩
 |16,_=>⟨by kernel_rfl,by kernel_rfl,by kernel_rfl⟩
 |17,_=>⟨by kernel_rfl,by kernel_rfl,by kernel_rfl⟩
 |18,_=>⟨by kernel_rfl,by kernel_rfl,by kernel_rfl⟩
 |19,_=>⟨by kernel_rfl,by kernel_rfl,by kernel_rfl⟩
 |20,_=>⟨by kernel_rfl,by kernel_rfl,by kernel_rfl⟩
 |21,_=>⟨by kernel_rfl,by kernel_rfl,by kernel_rfl⟩
 |22,_=>⟨by kernel_rfl,by kernel_rfl,by kernel_rfl⟩
 |23,_=>⟨by kernel_rfl,by kernel_rfl,by kernel_rfl⟩
 |24,_=>⟨by kernel_rfl,by kernel_rfl,by kernel_rfl⟩
 |25,_=>⟨by kernel_rfl,by kernel_rfl,by kernel_rfl⟩
 |26,_=>⟨by kernel_rfl,by kernel_rfl,by kernel_rfl⟩
 |27,_=>⟨by kernel_rfl,by kernel_rfl,by kernel_rfl⟩
 |28,_=>⟨by kernel_rfl,by kernel_rfl,by kernel_rfl⟩
 |29,_=>⟨by kernel_rfl,by kernel_rfl,by kernel_rfl⟩
 |30,_=>⟨by kernel_rfl,by kernel_rfl,by kernel_rfl⟩
 |31,_=>⟨by kernel_rfl,by kernel_rfl,by kernel_rfl⟩
 |32,_=>⟨by kernel_rfl,by kernel_rfl,by kernel_rfl⟩
 |33,_=>⟨by kernel_rfl,by kernel_rfl,by kernel_rfl⟩
 |34,_=>⟨by kernel_rfl,by kernel_rfl,by kernel_rfl⟩
 |35,_=>⟨by kernel_rfl,by kernel_rfl,by kernel_rfl⟩
 |36,_=>⟨by kernel_rfl,by kernel_rfl,by kernel_rfl⟩
 |37,_=>⟨by kernel_rfl,by kernel_rfl,by kernel_rfl⟩
 |38,_=>⟨by kernel_rfl,by kernel_rfl,by kernel_rfl⟩
 |39,_=>⟨by kernel_rfl,by kernel_rfl,by kernel_rfl⟩
 |n+40,h=>absurd h (by omega)
theorem qbK:∀n:Nat,n<40->(47 ∉ (fg n).cps.toList/\42 ∉ (fg n).cps.toList/\32 ∉ (fg n).cps.toList)/\(fg n).cps.toList.length<=2/\((fg n).cps.toList==[])=false:=by decide +kernel
theorem wQ {n:Nat} (h:n<40):(fg n).length<=2:=by
 have:=(qbK n h).2.1
 rw[ya3]at this
 exact this
theorem qci {x y:Str} (h:x.length+y.length<=1000000):jK (.str x) (.str y)=some (.str (x++y)):=by
 show(if qG (x.length+y.length)then some (D.str (x++y))else none)=_
 rw[if_pos (yb h)]
theorem wj (x y:Str):(x++y).length=x.length+y.length:=by
 show(x.cps++y.cps).size=x.cps.size+y.cps.size
 exact Array.size_append
theorem qcj (x y:Str):(x++y).cps.toList=x.cps.toList++y.cps.toList:=by
 show(x.cps++y.cps).toList=_
 exact ycI
abbrev slS:Str:="/"
abbrev stS:Str:="*"
def mtS:Option Nat->Str
 |none=>""
 |some j=>fg j
def kN(w v:Nat)(m:Option Nat):Kd:=((w:Int),(v:Int),m.map λj=>((j:Nat):Int))
def shW(w v:Nat)(m:Option Nat):Str:=fg w++slS++fg v++stS++mtS m
def reW(v:Nat)(m:Option Nat):Str:=fg v++stS++mtS m
theorem qft:slS=⟨#[47]⟩:=by kernel_rfl
theorem qec:stS=⟨#[42]⟩:=by kernel_rfl
theorem qfu:(" ":Str)=⟨#[32]⟩:=by kernel_rfl
def qlU(w v:Nat)(m:Option Nat):Prop:=w<40/\v<40/\∀j,m=some j->j<40
theorem vz {F:D->List D->Option D} {f:M D} {g:M (List D)} {Z:Env} {z:Str} {ys:List D} {d:D} (hf:f Z=.ok (.str z,Z)) (hg:g Z=.ok (ys,Z)) (e:F (.str z) ys=some d):vZ F f g Z=.ok (d,Z):=by
 unfold vZ bnd
 rw[hf]
 simp only[bnd,hg,e]
 rfl
theorem qed {x a b:Str} {c:Nat} {y:Str} (hy:y=⟨#[c]⟩) (hx:x.cps.toList=a.cps.toList++c::b.cps.toList) (ha:c ∉ a.cps.toList) (hl:x.length<=1000000):qdY (.str x) [.str y]=some (.tup [.str a,.str y,.str b]):=by
 subst hy
 show(if !((⟨#[c]⟩:Str).length==0)&&qG x.length then some (D.tup ((wy x ⟨#[c]⟩).map D.str))else none)=_
 rw[qfq hx ha,yb hl]
 rfl
theorem qj0(x y:Str):eqB (.str x) (.str y)=some (.bl (x==y)):=rfl
theorem qli(x y:Str):neB (.str x) (.str y)=some (.bl (!(x==y))):=rfl
theorem qj1 {n:Nat} (h:n<40):(fg n==("":Str))=false:=by
 refine beq_eq_false_iff_ne.mpr λe=>?_
 have:=(qbK n h).2.2
 rw[e]at this
 cases this
theorem notT{t:M Bool}{Z:Env}(h:t Z=.ok (true,Z)):qbg t Z=.ok (false,Z):=by rw[qf2,h];rfl
section
variable{w v:Nat}{m:Option Nat}(h:qlU w v m)
include h
theorem qee:(mtS m).length<=2:=by
 cases m with
 |none=>exact yaV _
 |some j=>exact wQ (h.2.2 j rfl)
theorem qbL:(shW w v m).cps.toList=(fg w).cps.toList++47::(reW v m).cps.toList:=by
 unfold shW reW
 rw[qft]
 simp only[qcj,aA_]
 rfl
theorem qef:(reW v m).cps.toList=(fg v).cps.toList++42::(mtS m).cps.toList:=by
 unfold reW
 rw[qec]
 simp only[qcj,aA_]
 rfl
theorem qeg:(shW w v m).length<=8:=by
 have:=qee h
 have:=wQ h.1
 have:=wQ h.2.1
 have e1:slS.length=1:=by rw[qft];rfl
 have e2:stS.length=1:=by rw[qec];rfl
 unfold shW
 simp only[wj]
 omega
theorem qj2:(reW v m).length<=5:=by
 have:=qee h
 have:=wQ h.2.1
 have e2:stS.length=1:=by rw[qec];rfl
 unfold reW
 simp only[wj]
 omega
theorem qlj:32 ∉ (shW w v m).cps.toList:=by
 rw[qbL h,qef h]
 intro z
 rcases mA_.mp z with z|z
 ·exact(qbK w h.1).1.2.2 z
 ·rcases List.mem_cons.mp z with z|z
  ·cases z
  ·rcases mA_.mp z with z|z
   ·exact(qbK v h.2.1).1.2.2 z
   ·rcases List.mem_cons.mp z with z|z
    ·cases z
    ·cases m with
     |none=>cases z
     |some j=>exact(qbK j (h.2.2 j rfl)).1.2.2 z
theorem qlk:shW w v m≠("":Str):=λe=>by
 have:(shW w v m).cps.toList=[]:=by rw[e];rfl
 rw[qbL h]at this
 cases x:(fg w).cps.toList with
 |nil=>rw[x]at this;cases this
 |cons a b=>rw[x]at this;cases this
theorem qfv:yh [kD (kN w v m)]=.ok (.str (shW w v m)):=by
 have l0:=qee h
 have l1:=wQ h.1
 have l2:=wQ h.2.1
 have e1:(yaT "/").length=1:=by rw[show yaT "/"=⟨#[47]⟩from qft];rfl
 have e2:(yaT "*").length=1:=by rw[show yaT "*"=⟨#[42]⟩from qec];rfl
 let Z:Env:=[some (kD (kN w v m)),some (.str (mtS m))]
 unfold yh
 refine vf rfl ⟨Z,?_⟩
 unfold uD
 refine(ql (Z':=Z) ?_).trans (ux (qo (qo (qo (qo (ye (qo rfl rfl (show ixB (kD (kN w v m)) (.int 0)=some (.int (w:Nat))from rfl)) (qfs w h.1).1) rfl (qci (by omega))) (ye (qo rfl rfl (show ixB (kD (kN w v m)) (.int 1)=some (.int (v:Nat))from rfl)) (qfs v h.2.1).1) (qci (by rw[wj];omega))) rfl (qci (by simp only[wj];omega))) rfl (qci (by simp only[wj];omega))))
 cases m with
 |none=>rfl
 | some j=>
  have q:dif (tst (d2 isN (d2 ixB (dv 0) (ret (.int 2))) (ret .non))) (ret (.str "")) (qd yF (qa (d2 ixB (dv 0) (ret (.int 2))) (ret []))) [some (kD (kN w v (some j))),none]=.ok (.str (fg j),[some (kD (kN w v (some j))),none]):=by
   rw[qdJ,zf (b:=false) (qo (qo rfl rfl (show ixB (kD (kN w v (some j))) (.int 2)=some (.int (j:Nat))from rfl)) rfl rfl)]
   exact ye (qo rfl rfl (show ixB (kD (kN w v (some j))) (.int 2)=some (.int (j:Nat))from rfl)) (qfs j (h.2.2 j rfl)).1
  exact ub q
theorem qfw (hw:1<=w):jh [.str (shW w v m)]=.ok (kD (kN w v m)):=by
 let X:Option D:=some (.str (shW w v m))
 let Fr:Option D:=some (.tup [.str (fg w),.str "/",.str (reW v m)])
 let Bk:Option D:=some (.tup [.str (fg v),.str "*",.str (mtS m)])
 let Mo:Option D:=some (mD (m.map λj=>((j:Nat):Int)))
 let Ki:Option D:=some (kD (kN w v m))
 have i1:∀Z:Env,(X::Fr::Z).length=5->d2 ixB (dv 1) (ret (.int 0)) (X::Fr::Z)=.ok (.str (fg w),X::Fr::Z):=λZ _=>qo rfl rfl rfl
 unfold jh
 refine vf rfl ⟨[X,Fr,Bk,Mo,Ki],?_⟩
 unfold uC
 refine(ql (Z':=[X,Fr,none,none,none]) (ub (vz rfl (wz rfl) (qed qft (qbL h) (qbK w h.1).1.1 (by have:=qeg h;omega))))).trans ?_
 refine(ql (Z':=[X,Fr,Bk,none,none]) (ub (vz (qo rfl rfl rfl) (wz rfl) (qed qec (qef h) (qbK v h.2.1).1.2.1 (by have:=qj2 h;omega))))).trans ?_
 refine(ql (Z':=[X,Fr,Bk,none,none]) ?_).trans ?_
 ·refine qbh (qjW (zf (qo (qo rfl rfl rfl) rfl rfl)) (qjW ?_ ?_))
  ·exact notT (zf (ye (qo rfl rfl rfl) (qfs w h.1).2.1))
  ·exact notT (zf (ye (qo rfl rfl rfl) (qfs v h.2.1).2.1))
 refine(ql (Z':=[X,Fr,Bk,none,none]) ?_).trans ?_
 ·cases m with
  |none=>exact qbh (qjX (zf (qo (qo rfl rfl rfl) rfl rfl)))
  |some j=>
   have fj:=h.2.2 j rfl
   refine qbh (qjY (zf (b:=true) (qo (qo rfl rfl rfl) rfl ?_)) (notT (zf (ye (qo rfl rfl rfl) (qfs j fj).2.1))))
   rw[qli]
   show some (D.bl (!(fg j==("":Str))))=_
   rw[qj1 fj]
   rfl
 refine(ql (Z':=[X,Fr,Bk,Mo,none]) ?_).trans ?_
 ·cases m with
  | none=>
   have q:dif (tst (d2 eqB (d2 ixB (dv 2) (ret (.int 2))) (ret (.str "")))) (ret .non) (qd zJ (qa (d2 ixB (dv 2) (ret (.int 2))) (ret []))) [X,Fr,Bk,none,none]=.ok (.non,[X,Fr,Bk,none,none]):=by
    rw[qdJ,zf (b:=true) (qo (qo rfl rfl rfl) rfl rfl)]
    rfl
   exact ub q
  | some j=>
   have fj:=h.2.2 j rfl
   have q:dif (tst (d2 eqB (d2 ixB (dv 2) (ret (.int 2))) (ret (.str "")))) (ret .non) (qd zJ (qa (d2 ixB (dv 2) (ret (.int 2))) (ret []))) [X,Fr,Bk,none,none]=.ok (.int (j:Nat),[X,Fr,Bk,none,none]):=by
    rw [qdJ,zf (b:=false) (qo (qo rfl rfl rfl) rfl (by
     rw[qj0]
     show some (D.bl (fg j==("":Str)))=_
     rw[qj1 fj]))]
    exact ye (qo rfl rfl rfl) (qfs j fj).2.2
   exact ub q
 refine(ql (Z':=[X,Fr,Bk,Mo,Ki]) ?_).trans ?_
 ·exact ub (qmH (ye (qo rfl rfl rfl) (qfs w h.1).2.2) (ye (qo rfl rfl rfl) (qfs v h.2.1).2.2) rfl)
 ·have ik:yz (kD (kN w v m))=true:=qa6 ⟨by show(0:Int)<(w:Nat);omega,by show(0:Int)<=(v:Nat);omega,λj e=>by
   cases m with
   |none=>cases e
   |some j'=>cases e;show(0:Int)<=((j':Nat):Int);omega⟩
  refine ux ?_
  rw[qdJ,zf (b:=true) (ye (a:=kD (kN w v m)) rfl (by rw[vi,ik]))]
  rfl
end
abbrev N3:=Nat×Nat×Option Nat
def kT(x:N3):Kd:=kN x.1 x.2.1 x.2.2
def wT(x:N3):Str:=shW x.1 x.2.1 x.2.2
def gN3(x:N3):Prop:=1<=x.1/\qlU x.1 x.2.1 x.2.2
theorem qeh {z:Str} {n:Nat}:∀(ws:List Str)(a:Nat),(∀w∈ws,w.length+z.length<=n)->ws.foldl (λs w=>s+w.length+z.length) a<=a+ws.length*n
 | [],a,_=>by simp
 |w::ws,a,h=>by
  have h1:=h w mS_
  have h2:=qeh ws (a+w.length+z.length) λx hx=>h x (mM _ hx)
  rw[List.foldl_cons,lC_,yeA]
  omega
theorem qfx {xs:List N3} (hx:∀x∈xs,gN3 x) (hl:xs.length<=12):ycn (" ":Str) (xs.map wT)=true:=by
 unfold ycn
 have e:(" ":Str).length=1:=by rw[qfu];rfl
 have h:=qeh (z:=(" ":Str)) (n:=9) (xs.map wT) 0 (λw hw=>by
  obtain⟨x,hm,rfl⟩:=mP_.mp hw
  have:=qeg (hx x hm).2
  show(shW x.1 x.2.1 x.2.2).length+_<=9
  omega)
 rw[lM_]at h
 rw[<-Array.foldl_toList]
 show(!yep ((xs.map wT).foldl (λs w=>s+w.length+(" ":Str).length) 0))=true
 rw[ybR]
 show decide (_>yaq)=false
 rw[decide_eq_false_iff_not,ybc]
 omega
theorem qhK {xs:List N3} (hx:∀x∈xs,gN3 x) (hl:xs.length<=12) (hs:jD (sK (xs.map kT))=true):yq [sK (xs.map kT)]=.ok (.str (Txt.join (" ":Str) (xs.map wT))):=by
 let Z:Env:=[some (sK (xs.map kT))]
 unfold yq
 refine vf rfl ⟨Z,?_⟩
 unfold qea
 have q:=qa5 (e:=qd yh (qa (dv 0) (ret []))) (xs:=wn (dv 0)) (fr:=[]) (Z:=Z) (r:=[]) (k:=λx:N3=>kD (kT x)) xs (λx=>D.str (wT x)) (by
  show R.ok ((xs.map kT).map kD,Z)=_
  rw[mm_]
  rfl) rfl (by omega) (λx hm=>ye rfl (qfv (hx x hm).2))
 have ej:qfh (.str (" ":Str)) [.lst (xs.map λx=>D.str (wT x))]=some (.str (Txt.join (" ":Str) (xs.map wT))):=by
  have e:(xs.map λx=>D.str (wT x))=(xs.map wT).map D.str:=by rw[mm_];rfl
  rw[e]
  show(match uY ((xs.map wT).map D.str) with|some ws=>(if ycn (" ":Str) ws then some (D.str (Txt.join (" ":Str) ws))else none)|none=>none)=_
  rw[qa3]
  show(if ycn (" ":Str) (xs.map wT)then some (D.str (Txt.join (" ":Str) (xs.map wT)))else none)=_
  rw[if_pos (qfx hx hl)]
 refine(ql (Z':=Z) ?_).trans (ux (vz rfl (wz q) ej))
 push_cast [Z,zW _ hs]
theorem qei {xs:List N3} (hx:∀x∈xs,gN3 x) (hne:xs≠[]):Txt.split (Txt.join (" ":Str) (xs.map wT)) (" ":Str)=xs.map wT:=by
 rw[qfu]
 refine qcO (λe=>hne (List.map_eq_nil_iff.mp e)) λw hw=>?_
 obtain⟨x,hm,rfl⟩:=mP_.mp hw
 exact qlj (hx x hm).2
theorem qhL {xs:List N3} (hx:∀x∈xs,gN3 x) (hl:xs.length<=12):(Txt.join (" ":Str) (xs.map wT)).length<=200:=by
 have h:=StrLaws.join_length_le (" ":Str) (xs.map wT)
 rw[qai]
 have e:(" ":Str).length=1:=by rw[qfu];rfl
 have hs:∀ys:List N3,(∀x∈ys,gN3 x)->((ys.map wT).map (·.length)).sum<=ys.length*8:=λys=>by
  induction ys with
  |nil=>intro _;simp
  |cons y ys ih=>
   intro hy
   have a:=qeg (hy y mS_).2
   have b:=ih λx hm=>hy x (mM _ hm)
   rw[mC_,mC_,yc9,lC_,yeA]
   show(shW y.1 y.2.1 y.2.2).length+_<=_
   omega
 have:=hs xs hx
 rw[lM_,e]at h
 omega
theorem qj3 {xs:List N3} (hx:∀x∈xs,gN3 x) (hne:xs≠[]):(Txt.join (" ":Str) (xs.map wT)==("":Str))=false:=by
 refine beq_eq_false_iff_ne.mpr λe=>?_
 rw[qai]at e
 cases xs with
 |nil=>exact hne rfl
 | cons x r=>
  have w0:=qlk (hx x mS_).2
  cases r with
  |nil=>exact w0 e
  | cons y r=>
   have:(yce (" ":Str) (wT x::wT y::r.map wT)).cps.toList=[]:=by
    have e':yce (" ":Str) (wT x::wT y::r.map wT)=("":Str):=e
    rw[e'];rfl
   rw[qfu,yB]at this
   cases z:(wT x).cps.toList with
   |nil=>rw[z]at this;cases this
   |cons a b=>rw[z]at this;cases this
theorem qfy {g:M D} {Z:Env} {xs:List D} (h:g Z=.ok (.lst xs,Z)):qa0 (qa g (ret [])) Z=.ok (uv 0 xs,Z):=by
 unfold qa0
 rw[wz h]
 show qb7 (qa g (ret [])) Z=_
 unfold qb7 bnd
 rw[wz h]
 rfl
theorem qj4(x:N3):imm (kD (kT x))=true:=qjV _
theorem qbb (T:Option D):∀(xs:List N3)(p:Nat)(acc:List N3)(o2 o3 o4:Option D),(∀x∈xs,gN3 x)->p+xs.length<=12->acc.length+xs.length<=12 ->
  ∃o2' o3' o4',yY (qbY 2 (jz (qD 2) (jz (qD 3) qbX))) (qz (zu 4 (qd jh (qa (dv 3) (ret [])))) (qz (sif (tor (tst (d2 isN (dv 4) (ret .non))) (tst (d2 geD (dv 2) (ret (.int 12))))) ve zD) (yu (jB 1 (dv 4))))) (uv p (xs.map λx=>D.str (wT x))) [T,some (.lst (acc.map λx=>kD (kT x))),o2,o3,o4]=.ok (.nx [T,some (.lst ((acc++xs).map λx=>kD (kT x))),o2',o3',o4'])
 | [],p,acc,o2,o3,o4,_,_,_=>⟨o2,o3,o4,by rw[ybq];rfl⟩
 | x :: xs,p,acc,o2,o3,o4,h,hp,ha=>by
  have hx:=h x mS_
  rw[lC_]at hp ha
  obtain⟨q2,q3,q4,q⟩:=qbb T xs (p+1) (acc++[x]) (some (.int (p:Nat))) (some (.str (wT x))) (some (kD (kT x))) (λy hy=>h y (mM _ hy)) (by omega) (by rw[lA_,yaQ];omega)
  refine⟨q2,q3,q4,?_⟩
  let L:Option D:=some (.lst (acc.map λx=>kD (kT x)))
  have s:(qz (zu 4 (qd jh (qa (dv 3) (ret [])))) (qz (sif (tor (tst (d2 isN (dv 4) (ret .non))) (tst (d2 geD (dv 2) (ret (.int 12))))) ve zD) (yu (jB 1 (dv 4))))) [T,L,some (.int (p:Nat)),some (.str (wT x)),o4]=.ok (.nx [T,some (.lst ((acc++[x]).map λx=>kD (kT x))),some (.int (p:Nat)),some (.str (wT x)),some (kD (kT x))]):=by
   refine(ql (Z':=[T,L,some (.int (p:Nat)),some (.str (wT x)),some (kD (kT x))]) (ub (ye rfl (qfw hx.2 hx.1)))).trans ((ql (Z':=[T,L,some (.int (p:Nat)),some (.str (wT x)),some (kD (kT x))]) ?_).trans ?_)
   ·refine qbh (qjW (zf (qo rfl rfl rfl)) (zf (qo rfl rfl ?_)))
    show some (D.bl (decide ((12:Int)<=((p:Nat):Int))))=_
    rw[decide_eq_false (by omega)]
   ·rw[qd5 (ds:=acc.map λx=>kD (kT x)) (d:=kD (kT x)) rfl rfl (qj4 x) (by rw[lM_];omega),List.map_append]
    rfl
  rw[mC_]
  show yY _ _ (D.tup [.int (p:Nat),.str (wT x)]::uv (p+1) (xs.map λx=>D.str (wT x))) _=_
  rw[qd6 rfl s,q,aA_]
  rfl
theorem qhM {xs:List N3} (hx:∀x∈xs,gN3 x) (hl:xs.length<=12):yp [.str (Txt.join (" ":Str) (xs.map wT))]=.ok (sK (xs.map kT)):=by
 by_cases hne:xs=[]
 ·subst hne
  kernel_rfl
 let X:Option D:=some (.str (Txt.join (" ":Str) (xs.map wT)))
 obtain⟨q2,q3,q4,q⟩:=qbb X xs 0 [] none none none hx (by omega) (by simpa using hl)
 let R:Option D:=some (.lst (xs.map λx=>kD (kT x)))
 unfold yp
 refine vf rfl ⟨[X,R,q2,q3,q4],?_⟩
 unfold qd9
 refine(ql (Z':=[X,none,none,none,none]) (qbh (notT rfl))).trans ?_
 refine(ql (Z':=[X,none,none,none,none]) (qbh (zf (qo rfl rfl (by rw[qj0,qj3 hx hne]))))).trans ?_
 refine(ql (Z':=[X,some (.lst []),none,none,none]) rfl).trans ?_
 refine(ql (Z':=[X,R,q2,q3,q4]) ?_).trans ?_
 ·have es:qcc (.str (Txt.join (" ":Str) (xs.map wT))) [.str (" ":Str)]=some (.lst (xs.map λx=>D.str (wT x))):=by
   show(if !((" ":Str).length==0)&&qG (Txt.join (" ":Str) (xs.map wT)).length&&qG (Txt.split (Txt.join (" ":Str) (xs.map wT)) (" ":Str)).length then some (D.lst ((Txt.split (Txt.join (" ":Str) (xs.map wT)) (" ":Str)).map D.str))else none)=_
   rw[qei hx hne,yb (show(Txt.join (" ":Str) (xs.map wT)).length<=1000000 by have:=qhL hx hl;omega),yb (show(xs.map wT).length<=1000000 by rw[lM_];omega),mm_]
   rfl
  rw[qaW,qfy (vz rfl (wz rfl) es)]
  exact q
 ·have e:sK (xs.map kT)=.tup (xs.map λx=>kD (kT x)):=by unfold sK;rw[mm_];rfl
  rw[e]
  rfl
theorem qlV {xs:List N3} (hx:∀x∈xs,gN3 x) (hl:xs.length<=12) (hs:jD (sK (xs.map kT))=true) {f:M D} {Z:Env} (hf:f Z=.ok (sK (xs.map kT),Z)):qd yp (qa (qd yq (qa f (ret []))) (ret [])) Z=.ok (sK (xs.map kT),Z) :=
 ye (ye hf (qhK hx hl hs)) (qhM hx hl)
theorem zX {n m:Int} (h0:0<m) (h1:m<1606938044258990275541962092341162602522202993782792835301376):qi [.int n] [.int m]=.ok (.int (n%m),[.int (n/m)]):=by
 unfold qi
 refine qb5 (Z:=[some (.lst [.int (n/m)]),some (.int m),some (.int (n/m)),some (.int (n%m))]) rfl ?_ rfl
 unfold yN
 refine(ql (Z':=[some (.lst [.int n]),some (.int m),some (.int (n/m)),some (.int (n%m))]) ?_).trans ?_
 ·push_cast [at0,qd2 h0 h1,qbY,jz,qD,qbX,Option.bind_some]
 ·refine(ql (Z':=[some (.lst [.int (n/m)]),some (.int m),some (.int (n/m)),some (.int (n%m))]) ?_).trans rfl
  push_cast [qmF,imm]
theorem qcP (n:Int) (c:D):∃a b m n',zb [.int n] [c]=.ok (.tup [.int a,.int b,m],[.int n'])/\1<=a/\a<=25/\0<=b/\b<=39/\qhF c m:=by
 have s2:∀n k:Int,∃n' a b,(qg1 3 4 (qa (d2 jK (ret (.int 1)) (qk qi 0 (qa (ret (.int 7)) (ret [])))) (qa (qk qi 0 (qa (ret (.int 10)) (ret []))) (ret [])))) [some (.lst [.int n]),some c,some (.int k),none,none,none]=.ok (.nx [some (.lst [.int n']),some c,some (.int k),some (.int a),some (.int b),none])/\1<=a/\a<=7/\0<=b/\b<=9:=by
  intro n k
  refine⟨n/7/10,1+n%7,n/7%10,?_,by omega,by omega,by omega,by omega⟩
  push_cast [zX (m:=7) (by decide) (by decide),zX (m:=10) (by decide) (by decide),zR]
 have s3:∀n k a b:Int,1<=a->a<=7->0<=b->b<=9->∃b',(sif (tst (d2 eqB (dv 2) (ret (.int 1)))) (zu 4 (d2 vS (ret (.int 2)) (dv 3))) zD) [some (.lst [.int n]),some c,some (.int k),some (.int a),some (.int b),none]=.ok (.nx [some (.lst [.int n]),some c,some (.int k),some (.int a),some (.int b'),none])/\0<=b'/\b'<=14:=by
  intro n k a b h1 h2 h3 h4
  by_cases hk:k=1
  ·refine⟨2*a,?_,by omega,by omega⟩
   push_cast [hk,qmG]
  ·refine⟨b,?_,by omega,by omega⟩
   push_cast [hk]
 have s4:∀n k a b:Int,1<=a->a<=7->0<=b->b<=14->∃n' b',(sif (tst (d2 eqB (dv 2) (ret (.int 2)))) (zu 4 (d2 jK (dv 3) (qk qi 0 (qa (ret (.int 3)) (ret []))))) zD) [some (.lst [.int n]),some c,some (.int k),some (.int a),some (.int b),none]=.ok (.nx [some (.lst [.int n']),some c,some (.int k),some (.int a),some (.int b'),none])/\0<=b'/\b'<=14:=by
  intro n k a b h1 h2 h3 h4
  by_cases hk:k=2
  ·refine⟨n/3,a+n%3,?_,by omega,by omega⟩
   push_cast [hk,zR,zX (m:=3) (by decide) (by decide)]
  ·refine⟨n,b,?_,by omega,by omega⟩
   push_cast [hk]
 have s5:∀n k a b:Int,1<=a->a<=7->0<=b->b<=14->∃n' a' b',(sif (tst (d2 eqB (dv 2) (ret (.int 3)))) (qg1 3 4 (qa (d2 jK (ret (.int 1)) (qk qi 0 (qa (ret (.int 25)) (ret [])))) (qa (qk qi 0 (qa (ret (.int 40)) (ret []))) (ret [])))) zD) [some (.lst [.int n]),some c,some (.int k),some (.int a),some (.int b),none]=.ok (.nx [some (.lst [.int n']),some c,some (.int k),some (.int a'),some (.int b'),none])/\1<=a'/\a'<=25/\0<=b'/\b'<=39:=by
  intro n k a b h1 h2 h3 h4
  by_cases hk:k=3
  ·refine⟨n/25/40,1+n%25,n/25%40,?_,by omega,by omega,by omega,by omega⟩
   push_cast [hk,zR,zX (m:=25) (by decide) (by decide),zX (m:=40) (by decide) (by decide)]
  ·refine⟨n,a,b,?_,by omega,by omega,by omega,by omega⟩
   push_cast [hk]
 have s6:∀n k a b:Int,∃n' m,(zu 5 (d2 ixD (vG (qa (ret (.int 1)) (qa (ret (.int 1)) (qa (ret (.int 1)) (qa (ret (.int 2)) (qa (ret (.int 3)) (qa (ret (.int 0)) (qa (ret (.int 5)) (qa (dv 1) (ret [])))))))))) (qk qi 0 (qa (ret (.int 8)) (ret []))))) [some (.lst [.int n]),some c,some (.int k),some (.int a),some (.int b),none]=.ok (.nx [some (.lst [.int n']),some c,some (.int k),some (.int a),some (.int b),some m])/\qhF c m:=by
  intro n k a b
  obtain⟨m,hm,e⟩:=qd3 (ds:=[.int 1,.int 1,.int 1,.int 2,.int 3,.int 0,.int 5,c]) (k:=n%8) (by omega) (by simp;omega)
  refine⟨n/8,m,?_,?_⟩
  ·push_cast [zX (m:=8) (by decide) (by decide),yb (show 8<=1000000 by omega),e]
  ·simp only[yau,nN_,or_false]at hm
   rcases hm with h|h|h|h|h|h|h|h
   ·exact .inr ⟨_,h,by omega,by omega⟩
   ·exact .inr ⟨_,h,by omega,by omega⟩
   ·exact .inr ⟨_,h,by omega,by omega⟩
   ·exact .inr ⟨_,h,by omega,by omega⟩
   ·exact .inr ⟨_,h,by omega,by omega⟩
   ·exact .inr ⟨_,h,by omega,by omega⟩
   ·exact .inr ⟨_,h,by omega,by omega⟩
   ·exact .inl h
 obtain⟨n2,a2,b2,e2,p2,q2,r2,t2⟩:=s2 (n/6) (n%6)
 obtain⟨b3,e3,r3,t3⟩:=s3 n2 (n%6) a2 b2 p2 q2 r2 t2
 obtain⟨n4,b4,e4,r4,t4⟩:=s4 n2 (n%6) a2 b3 p2 q2 r3 t3
 obtain⟨n5,a5,b5,e5,p5,q5,r5,t5⟩:=s5 n4 (n%6) a2 b4 p2 q2 r4 t4
 obtain⟨n6,m,e6,g6⟩:=s6 n5 (n%6) a5 b5
 refine⟨a5,b5,m,n6,?_,p5,q5,r5,t5,g6⟩
 unfold zb
 refine qb5 (Z:=[some (.lst [.int n6]),some c,some (.int (n%6)),some (.int a5),some (.int b5),some m]) rfl ?_ rfl
 unfold jq
 refine(ql (Z':=[some (.lst [.int (n/6)]),some c,some (.int (n%6)),none,none,none]) ?_).trans ?_
 ·push_cast [zX (m:=6) (by decide) (by decide)]
 refine(ql e2).trans ?_
 refine(ql e3).trans ?_
 refine(ql e4).trans ?_
 refine(ql e5).trans ?_
 refine(ql e6).trans ?_
 push_cast [yb (show 3<=1000000 by omega)]
theorem qcQ (n:Int) (ks:List D) (o4 o5:Option D) (h:∀k∈ks,zy k) (hl:ks.length<=10):∃n' k',zy k'/\(qz (zu 5 (qk zb 0 (qa (dv 2) (ret [])))) (qz (sif (qbo (tst (qfX 3 (vG (ret [])))) (tst (d2 eqB (qk qi 0 (qa (ret (.int 7)) (ret []))) (ret (.int 6))))) (zu 5 (qeU 3 (qk qi 0 (qa (qaQ 3) (ret []))))) zD) (yu (jB 3 (dv 5))))) [some (.lst [.int n]),some (.int 10),some .non,some (.lst ks),o4,o5]=.ok (.nx [some (.lst [.int n']),some (.int 10),some .non,some (.lst (ks++[k'])),o4,some k']):=by
 obtain⟨a,b,m,n1,e1,p1,p2,p3,p4,p5⟩:=qcP n .non
 have gk:zy (.tup [.int a,.int b,m]):=⟨a,b,m,rfl,p1,p2,p3,p4,p5⟩
 obtain⟨b0,eb,hb⟩:=qbF h
 have s1:(zu 5 (qk zb 0 (qa (dv 2) (ret [])))) [some (.lst [.int n]),some (.int 10),some .non,some (.lst ks),o4,o5]=.ok (.nx [some (.lst [.int n1]),some (.int 10),some .non,some (.lst ks),o4,some (.tup [.int a,.int b,m])]):=by
  push_cast [e1]
 have s2:∃n' k',zy k'/\(sif (qbo (tst (qfX 3 (vG (ret [])))) (tst (d2 eqB (qk qi 0 (qa (ret (.int 7)) (ret []))) (ret (.int 6))))) (zu 5 (qeU 3 (qk qi 0 (qa (qaQ 3) (ret []))))) zD) [some (.lst [.int n1]),some (.int 10),some .non,some (.lst ks),o4,some (.tup [.int a,.int b,m])]=.ok (.nx [some (.lst [.int n']),some (.int 10),some .non,some (.lst ks),o4,some k']):=by
  cases b0 with
  |false=>
   refine⟨n1,_,gk,?_⟩
   push_cast [eb,yb (show 0<=1000000 by omega)]
  | true=>
   have hne:=hb rfl
   have hpos:0<ks.length:=List.length_pos_iff.mpr hne
   by_cases h6:n1%7=6
   ·obtain⟨k',hk',e⟩:=qjS (ds:=ks) (k:=n1/7%(ks.length:Int)) (ydM _ (by omega)) (ycZ _ (by omega))
    refine⟨n1/7/(ks.length:Int),k',h k' hk',?_⟩
    push_cast [eb,yb (show 0<=1000000 by omega),zX (m:=7) (by decide) (by decide),h6,zX (m:=(ks.length:Int)) (by omega) (by omega),e]
   ·refine⟨n1/7,_,gk,?_⟩
    push_cast [eb,yb (show 0<=1000000 by omega),zX (m:=7) (by decide) (by decide),h6]
 obtain⟨n2,k',gk',e2⟩:=s2
 refine⟨n2,k',gk',?_⟩
 refine(ql s1).trans ((ql e2).trans ?_)
 push_cast [gk'.imm,yb (show ks.length+1<=1000000 by omega),ya8]
theorem wR:∀(ds:List D)(n:Int)(ks:List D)(o4 o5:Option D),(∀k∈ks,zy k)->ks.length+ds.length<=10 ->
  ∃n' ks' o4' o5',yY (qD 4) (qz (zu 5 (qk zb 0 (qa (dv 2) (ret [])))) (qz (sif (qbo (tst (qfX 3 (vG (ret [])))) (tst (d2 eqB (qk qi 0 (qa (ret (.int 7)) (ret []))) (ret (.int 6))))) (zu 5 (qeU 3 (qk qi 0 (qa (qaQ 3) (ret []))))) zD) (yu (jB 3 (dv 5))))) ds [some (.lst [.int n]),some (.int 10),some .non,some (.lst ks),o4,o5]=.ok (.nx [some (.lst [.int n']),some (.int 10),some .non,some (.lst ks'),o4',o5'])/\(∀k∈ks',zy k)/\ks'.length<=10
 | [],n,ks,o4,o5,h,hl=>⟨n,ks,o4,o5,rfl,h,by simpa using hl⟩
 | d::ds,n,ks,o4,o5,h,hl=>by
  have hl':ks.length+(ds.length+1)<=10:=hl
  obtain⟨n1,k',gk,e⟩:=qcQ n ks (some d) o5 h (by omega)
  obtain ⟨n',ks',o4',o5',q,g,l⟩:=wR ds n1 (ks++[k']) (some d) (some k') (λx hx=>(mA_.mp hx).elim (h x) λhx=>by
   rw[List.mem_singleton]at hx;subst hx;exact gk) (by rw[lA_,yaQ];omega)
  refine⟨n',ks',o4',o5',?_,g,l⟩
  unfold yY
  simp only[qD,ybo,ycd,e]
  exact q
theorem qcR (n:Int):∃ks n',zc [.int n] [.int 10,.non]=.ok (.tup ks,[.int n'])/\(∀k∈ks,zy k)/\ks.length<=10:=by
 obtain⟨n',ks',o4',o5',q,g,l⟩:=wR (w8 0 (n%11).toNat) (n/11) [] none none (λ_ h=>by cases h) (by rw[qfl];simp;omega)
 refine⟨ks',n',?_,g,l⟩
 unfold zc
 refine qb5 (Z:=[some (.lst [.int n']),some (.int 10),some .non,some (.lst ks'),o4',o5']) rfl ?_ rfl
 unfold jr
 refine(ql (Z':=[some (.lst [.int n]),some (.int 10),some .non,some (.lst []),none,none]) ?_).trans ?_
 ·push_cast [immL,yb (show 0<=1000000 by omega),ya8]
 refine(ql (Z':=[some (.lst [.int n']),some (.int 10),some .non,some (.lst ks'),o4',o5']) ?_).trans ?_
 ·rw[qaW,vx (j:=n%11) (Z1:=[some (.lst [.int (n/11)]),some (.int 10),some .non,some (.lst []),none,none]) ?_ (by omega) (by omega)]
  ·exact q
  ·push_cast [zR,zX (m:=11) (by decide) (by decide),Int.reduceAdd]
 ·push_cast []
theorem qhN (ns:List Int) (i:Int) (h0:0<=i):∃x,jk [.fz ns,.int i]=.ok (.int x):=by
 by_cases h:i<ns.length
 ·obtain ⟨j,rfl⟩:=ydB h0
  have hj:j<ns.length:=by omega
  have e:ixD (.fz ns) (.int (j:Int))=some (.int ns[j]):=by
   show(atI ns (j:Int)).map D.int=_
   unfold atI ixN
   rw[if_pos (by omega),if_pos (by omega)]
   show(ns[(j:Int).toNat]?).map D.int=_
   rw[ybx,gG hj];rfl
  refine⟨ns[j],?_⟩
  unfold jk yO
  refine vf rfl ⟨[some (.fz ns),some (.int (j:Int))],?_⟩
  refine(v0 (d:=.int ns[j]) (Z':=[some (.fz ns),some (.int (j:Int))]) ?_)
  push_cast [e,qav,h]
 ·refine⟨0,?_⟩
  unfold jk yO
  refine vf rfl ⟨[some (.fz ns),some (.int i)],?_⟩
  refine(ql (Z':=[some (.fz ns),some (.int i)]) ?_).trans rfl
  push_cast [qav,h]
theorem qj5 (x j:Int) (h0:0<=j) (h1:j<40):∃v,jU [.int x,.int j]=.ok (.int v):=by
 obtain⟨m,hm,e⟩:=qd3 (ds:=[.int 48271,.int 69621,.int 16807,.int 39373,.int 30269,.int 40014,.int 40692,.int 50021,.int 61687,.int 71993,.int 83869,.int 95561,.int 30307]) (k:=j%13) (by omega) (by simp;omega)
 have hm2:∃c,m=.int c/\jI c=true:=by
  have:m∈facts.map D.int:=hm
  obtain⟨c,hc,rfl⟩:=mP_.mp this
  exact⟨c,rfl,List.all_eq_true.mp (show facts.all jI=true by decide) c hc⟩
 obtain⟨c,rfl,hc⟩:=hm2
 have f3:∀s:Int,jI (s%1000000007)=true:=λs=>qag (by omega) (by omega)
 have f977:jI 977=true:=by decide
 have f79:jI 7919=true:=by decide
 have f48:jI 48271=true:=by decide
 let L:D:=.lst [.int 48271,.int 69621,.int 16807,.int 39373,.int 30269,.int 40014,.int 40692,.int 50021,.int 61687,.int 71993,.int 83869,.int 95561,.int 30307]
 let s1:Int:=(x%2147483647+12345)*c+977*j+7919*(j/13)
 let s2:Int:=s1%1000000007
 refine⟨(s2*s2+48271*j)%1000000007/7,?_⟩
 unfold jU u9
 refine vf rfl ⟨[some (.int x),some (.int j),some L,some (.int s2)],?_⟩
 refine(ql (Z':=[some (.int x),some (.int j),some L,none]) ?_).trans ?_
 ·push_cast [yb (show 13<=1000000 by omega)]
  rfl
 refine(ql (Z':=[some (.int x),some (.int j),some L,some (.int s1)]) ?_).trans ?_
 ·push_cast [L,uk (j:=2147483647) (by decide),uk (j:=13) (by decide),zR,e,qjT hc,qd4 f977,qd4 f79,uR (j:=13) (by decide) (by decide)]
  rfl
 refine(ql (Z':=[some (.int x),some (.int j),some L,some (.int s2)]) ?_).trans ?_
 ·push_cast [uk (j:=1000000007) (by decide),s2]
 ·push_cast [uk (j:=1000000007) (by decide),s2,zR,qd4 (f3 _),qd4 f48,uR (j:=7) (by decide) (by decide)]
theorem qck (A B:Option D) (x:Int):∀(ds:List D)(s:Int)(o:Option D),(∀d∈ds,∃j:Int,d=.int j/\0<=j/\j<40)->∃s' o',yY (qD 4) (zu 3 (d2 jK (d2 vS (dv 3) (ret (.int 142857143))) (qd jU (qa (dv 2) (qa (dv 4) (ret [])))))) ds [A,B,some (.int x),some (.int s),o]=.ok (.nx [A,B,some (.int x),some (.int s'),o'])
 | [],s,o,_=>⟨s,o,rfl⟩
 | d::ds,s,o,h=>by
  obtain⟨j,rfl,h0,h1⟩:=h d mS_
  obtain⟨v,e⟩:=qj5 x j h0 h1
  obtain⟨s',o',q⟩:=qck A B x ds (s*142857143+v) (some (.int j)) λy hy=>h y (mM _ hy)
  refine⟨s',o',?_⟩
  have st:(zu 3 (d2 jK (d2 vS (dv 3) (ret (.int 142857143))) (qd jU (qa (dv 2) (qa (dv 4) (ret [])))))) [A,B,some (.int x),some (.int s),some (.int j)]=.ok (.nx [A,B,some (.int x),some (.int (s*142857143+v)),some (.int j)]):=by
   push_cast [e,qjT (j:=142857143) (by decide),zR]
  unfold yY
  simp only[qD,ybo,ycd,st]
  exact q
theorem qj6 (ns:List Int) (i:Int) (h0:0<=i):∃n,zQ [.fz ns,.int i]=.ok (.lst [.int n]):=by
 obtain⟨x,e⟩:=qhN ns i h0
 have s1:(zu 2 (qd jk (qa (dv 0) (qa (dv 1) (ret []))))) [some (.fz ns),some (.int i),none,none,none]=.ok (.nx [some (.fz ns),some (.int i),some (.int x),none,none]):=by
  push_cast [e]
 by_cases hx:x%2=0
 ·refine⟨(if x<0 then -x else x)/2,?_⟩
  unfold zQ uq
  refine vf rfl ⟨[some (.fz ns),some (.int i),some (.int x),none,none],?_⟩
  refine(ql s1).trans (v0 ?_)
  push_cast [uk (j:=2) (by decide),hx,qkh,uR (j:=2) (by decide) (by decide),yb (show 1<=1000000 by omega)]
 ·obtain ⟨s',o',q⟩:=qck (some (.fz ns)) (some (.int i)) x (w8 0 40) 0 none λd hd=>by
   unfold w8 at hd
   obtain⟨k,hk,rfl⟩:=mP_.mp hd
   have hk':=mR_.mp hk
   exact⟨_,rfl,by omega,by omega⟩
  refine⟨s',?_⟩
  unfold zQ uq
  refine vf rfl ⟨[some (.fz ns),some (.int i),some (.int x),some (.int s'),o'],?_⟩
  refine(ql s1).trans ?_
  refine(ql (Z':=[some (.fz ns),some (.int i),some (.int x),none,none]) ?_).trans ?_
  ·push_cast [uk (j:=2) (by decide),hx]
  refine(ql (Z':=[some (.fz ns),some (.int i),some (.int x),some (.int 0),none]) ?_).trans ?_
  ·push_cast []
  refine(ql (Z':=[some (.fz ns),some (.int i),some (.int x),some (.int s'),o']) ?_).trans ?_
  ·rw[qaW,vx (j:=40) (Z1:=[some (.fz ns),some (.int i),some (.int x),some (.int 0),none]) rfl (by omega) (by omega)]
   exact q
  ·push_cast [yb (show 1<=1000000 by omega)]
theorem qfz {n:Int} {k:Kd} (hk:gK k) (o:Option D):∃t:Int,((0<=t/\t<=5000)/\okC (k,t)=true/\(k.2.2=none->t<=6))/\∃n':Int,qk qi 1 (qa (d2 jK (d2 ixD (vG (qa (d2 ixD (dv 0) (ret (.int 2))) (qa (ret (.int 6)) (ret [])))) (qV qaO (qa (d2 isN (d2 ixD (dv 0) (ret (.int 2))) (ret .non)) (ret [])))) (ret (.int 1))) (ret [])) [some (kD k),some (.lst [.int n])]=.ok (.int t,[some (kD k),some (.lst [.int n'])]):=by
 obtain⟨a,b,m⟩:=k
 cases m with
 |none=>
  refine⟨n%7,⟨⟨by omega,by omega⟩,by show(decide (0<=n%7)&&true)=true;rw[decide_eq_true (by omega)];rfl,λ_=>by omega⟩,n/7,?_⟩
  have e:d2 jK (d2 ixD (vG (qa (d2 ixD (dv 0) (ret (.int 2))) (qa (ret (.int 6)) (ret [])))) (qV qaO (qa (d2 isN (d2 ixD (dv 0) (ret (.int 2))) (ret .non)) (ret [])))) (ret (.int 1)) [some (kD (a,b,none)),some (.lst [.int n])]=.ok (.int 7,[some (kD (a,b,none)),some (.lst [.int n])]):=rfl
  rw[io1 (i:=1) (a:=.int 7) (ds:=[.int n]) rfl e (zX (m:=7) (by decide) (by decide))]
  rfl
 | some j=>
  have hj:=hk.2.2 j rfl
  refine⟨n%(j+1),⟨⟨ydM _ (by omega),by have:=ycZ n (show 0<j+1 by omega);omega⟩,?_,λz=>by cases z⟩,n/(j+1),?_⟩
  ·have h1:=ydM n (show j+1≠0 by omega)
   have h2:=ycZ n (show 0<j+1 by omega)
   show(decide (0<=n%(j+1))&&decide (n%(j+1)<=j))=true
   rw[decide_eq_true h1,decide_eq_true (by omega)]
   rfl
  have e:d2 jK (d2 ixD (vG (qa (d2 ixD (dv 0) (ret (.int 2))) (qa (ret (.int 6)) (ret [])))) (qV qaO (qa (d2 isN (d2 ixD (dv 0) (ret (.int 2))) (ret .non)) (ret [])))) (ret (.int 1)) [some (kD (a,b,some j)),some (.lst [.int n])]=.ok (.int (j+1),[some (kD (a,b,some j)),some (.lst [.int n])]):=rfl
  rw[io1 (i:=1) (a:=.int (j+1)) (ds:=[.int n]) rfl e (zX (m:=j+1) (by omega) (by omega))]
  rfl
theorem qcl {α:Type} (kf:α->Kd):∀(xs:List α)(n:Int)(acc:List D)(o:Option D),(∀x∈xs,gK (kf x))->acc.length+xs.length<=1000 ->
  ∃(zs:List (α×Int))(n':Int)(o':Option D),zs.map (·.1)=xs/\(∀z∈zs,okC (kf z.1,z.2)=true/\((kf z.1).2.2=none->z.2<=6))/\zj (qD 0) (ret true) (qk qi 1 (qa (d2 jK (d2 ixD (vG (qa (d2 ixD (dv 0) (ret (.int 2))) (qa (ret (.int 6)) (ret [])))) (qV qaO (qa (d2 isN (d2 ixD (dv 0) (ret (.int 2))) (ret .non)) (ret [])))) (ret (.int 1))) (ret []))) (xs.map λx=>kD (kf x)) acc [o,some (.lst [.int n])]=.ok (acc++zs.map (λz=>D.int z.2),[o',some (.lst [.int n'])])
 | [],n,acc,o,_,_=>⟨[],n,o,rfl,λz h=>(by cases h),by rw[yca,yca,ybq];rfl⟩
 | x::xs,n,acc,o,h,hl=>by
  rw[lC_]at hl
  obtain⟨t,⟨_,ht,ht6⟩,n1,e⟩:=qfz (n:=n) (h x mS_) o
  obtain⟨zs,n',o',e1,e2,q⟩:=qcl kf xs n1 (acc++[.int t]) (some (kD (kf x))) (λy hy=>h y (mM _ hy)) (by rw[lA_,yaQ];omega)
  refine⟨(x,t)::zs,n',o',by rw[mC_,e1],λz hz=>?_,?_⟩
  ·rcases List.mem_cons.mp hz with rfl|hz
   ·exact⟨ht,ht6⟩
   ·exact e2 z hz
  ·rw[mC_]
   unfold zj
   have hg:qD 0 (kD (kf x)) [o,some (.lst [.int n])]=some [some (kD (kf x)),some (.lst [.int n])]:=rfl
   simp only[hg,qdF,e,yb (show acc.length+1<=1000000 by omega),if_true]
   rw[q,mC_,aA_]
   rfl
theorem qgk {α:Type} (kf:α->Kd) (xs:List α) (n:Int) (h:∀x∈xs,gK (kf x)) (hl:xs.length<=12):∃(zs:List (α×Int))(n':Int),zs.map (·.1)=xs/\(∀z∈zs,okC (kf z.1,z.2)=true/\((kf z.1).2.2=none->z.2<=6))/\qy [.int n] [sK (xs.map kf)]=.ok (lI (zs.map (·.2)),[.int n']):=by
 obtain⟨zs,n',o',e1,e2,q⟩:=qcl kf xs n [] none h (by simp;omega)
 refine⟨zs,n',e1,e2,?_⟩
 unfold qy
 refine qb5 (Z:=[some (.lst [.int n']),some (sK (xs.map kf))]) rfl ?_ rfl
 unfold zU
 have em:(xs.map kf).map kD=xs.map λx=>kD (kf x):=by rw[mm_];rfl
 have c:zZ 1 [0] (some (1,0)) (wn (dv 1)) (qD 0) (ret true) (qk qi 1 (qa (d2 jK (d2 ixD (vG (qa (d2 ixD (dv 0) (ret (.int 2))) (qa (ret (.int 6)) (ret [])))) (qV qaO (qa (d2 isN (d2 ixD (dv 0) (ret (.int 2))) (ret .non)) (ret [])))) (ret (.int 1))) (ret []))) [some (.lst [.int n]),some (sK (xs.map kf))]=.ok (.lst (zs.map λz=>D.int z.2),[some (.lst [.int n']),some (sK (xs.map kf))]):=by
  rw[vV]
  show(match zj (qD 0) (ret true) _ ((xs.map kf).map kD) [] [none,some (.lst [.int n])] with|.ok (ys,Ze)=>R.ok (D.lst ys,qhZ (some (1,0)) Ze _)|_ => .bad)=_
  rw[em,q]
  rfl
 have e3:(zs.map λz=>D.int z.2)=(zs.map (·.2)).map D.int:=by rw[mm_];rfl
 show zl _ [some (.lst [.int n]),some (sK (xs.map kf))]=_
 rw[qaU,vU,ya,c]
 simp only[qdF,yA,e3]
 rfl
theorem qfA (ks:List Kd):neB (sK ks) (sK ks)=some (.bl false):=by
 have one:∀x:Kd,ybT (j8 (kD x))=true/\yeK (j8 (kD x))=1/\ybg (j8 (kD x)) (j8 (kD x))=true:=λx=>by
  obtain⟨w,g,m⟩:=x
  cases m with
  |none=>exact⟨rfl,rfl,by simp[kD,mD,j8,toPDs,ybg,yda]⟩
  |some m=>exact⟨rfl,rfl,by simp[kD,mD,j8,toPDs,ybg,yda]⟩
 have h:∀l:List Kd,ya2 (toPDs (l.map kD))=true/\yb8 (toPDs (l.map kD))<=1/\yda (toPDs (l.map kD)) (toPDs (l.map kD))=true:=λl=>by
  induction l with
  |nil=>exact⟨rfl,by decide,rfl⟩
  |cons x l ih=>
   obtain⟨o1,o2,o3⟩:=one x
   refine⟨?_,?_,?_⟩
   ·simp only[mC_,toPDs,ya2,o1,yaW];exact ih.1
   ·simp only[mC_,toPDs,yb8,o2];have:=ih.2.1;omega
   ·simp only[mC_,toPDs,yda,o3,yaW];exact ih.2.2
 obtain⟨h1,h2,h3⟩:=h ks
 have o1:wH (.tup (ks.map kD))=true:=by
  simp only[wH,j8,ybT,yeK,h1,yaW,decide_eq_true_eq]
  omega
 have e:neB (sK ks) (sK ks)=neA (.tup (ks.map kD)) (.tup (ks.map kD)):=rfl
 rw[e]
 unfold neA
 rw[o1]
 show some (D.bl (!ybg (.tuple (toPDs (ks.map kD))) (.tuple (toPDs (ks.map kD)))))=_
 simp only[ybg,h3]
 rfl
abbrev qaw:=(N3×Int)×Int
def g5(x:N3):Prop:=(1<=x.1/\x.1<=25)/\x.2.1<=39/\∀j,x.2.2=some j->j<=5
theorem g5.t{x:N3}(h:g5 x):gN3 x:=⟨h.1.1,by have:=h.1.2;omega,by have:=h.2.1;omega,λj e=>by have:=h.2.2 j e;omega⟩
theorem g5.k {x:N3} (h:g5 x):gK (kT x):=by
 obtain⟨w,v,m⟩:=x
 obtain⟨⟨h1,h2⟩,h3,h4⟩:=h
 have h3:v<=39:=h3
 have h1:1<=w:=h1
 have h2:w<=25:=h2
 refine⟨⟨by show(1:Int)<=(w:Nat);omega,by show((w:Nat):Int)<=25;omega⟩,⟨by show(0:Int)<=(v:Nat);omega,by show((v:Nat):Int)<=39;omega⟩,λj e=>?_⟩
 cases m with
 |none=>cases e
 |some m=>
  have hm:=h4 m rfl
  have e:((m:Nat):Int)=j:=yax e
  omega
def rT(z:N3×Int):N3:=(z.1.1,z.1.2.1,z.1.2.2.map (·-z.2.toNat))
theorem qhO {z:N3×Int} (h:okC (kT z.1,z.2)=true):lvC (kT z.1,z.2)=kT (rT z):=by
 obtain⟨⟨w,v,m⟩,t⟩:=z
 cases m with
 |none=>rfl
 |some m=>
  have h:(decide (0<=t)&&decide (t<=((m:Nat):Int)))=true:=h
  rw[yao,decide_eq_true_eq,decide_eq_true_eq]at h
  show((w:Int),(v:Int),some (((m:Nat):Int)-t))=((w:Int),(v:Int),some (((m-t.toNat:Nat)):Int))
  congr 3
  omega
theorem qll {z:N3×Int} (h:g5 z.1):g5 (rT z):=by
 obtain⟨⟨w,v,m⟩,t⟩:=z
 refine⟨h.1,h.2.1,λj e=>?_⟩
 cases m with
 |none=>cases e
 |some m=>
  have:=h.2.2 m rfl
  have e:m-t.toNat=j:=yax e
  omega
theorem qhP {x:N3} {a b:Int} (h1:okC (kT x,a)=true) (h2:okC (lvC (kT x,a),b)=true):okC (kT x,a+b)=true:=by
 obtain⟨w,v,m⟩:=x
 cases m with
 |none=>
  have h1:(decide (0<=a)&&true)=true:=h1
  have h2:(decide (0<=b)&&true)=true:=h2
  show(decide (0<=a+b)&&true)=true
  rw[Bool.and_true,decide_eq_true_eq]at h1 h2 |-
  omega
 |some m=>
  have h1:(decide (0<=a)&&decide (a<=((m:Nat):Int)))=true:=h1
  have h2:(decide (0<=b)&&decide (b<=((m:Nat):Int)-a))=true:=h2
  show(decide (0<=a+b)&&decide (a+b<=((m:Nat):Int)))=true
  rw[yao,decide_eq_true_eq,decide_eq_true_eq]at h1 h2 |-
  omega
theorem qhQ (x:N3) (a b:Int):lvC (kT x,a+b)=lvC (lvC (kT x,a),b):=by
 obtain⟨w,v,m⟩:=x
 cases m with
 |none=>rfl
 |some m=>
  show((w:Int),(v:Int),some (((m:Nat):Int)-(a+b)))=((w:Int),(v:Int),some (((m:Nat):Int)-a-b))
  congr 3
  omega
def cA(c:qaw):Ce:=(kT c.1.1,c.1.2)
def cB(c:qaw):Ce:=(lvC (kT c.1.1,c.1.2),c.2)
def cC(c:qaw):Ce:=(kT c.1.1,c.1.2+c.2)
theorem qaq (f:Kd->Int) (hf:∀c:qaw,f (cB c).1=f (cA c).1):∀cs:List qaw,((cs.map cC).map λz=>f z.1*z.2).sum=((cs.map cA).map λz=>f z.1*z.2).sum+((cs.map cB).map λz=>f z.1*z.2).sum
 | []=>rfl
 |c::cs=>by
  have ih:=qaq f hf cs
  simp only[mC_,yc9,ih,hf c]
  have e:f (cC c).1*(cC c).2=f (cA c).1*(cA c).2+f (cA c).1*(cB c).2:=Int.mul_add _ _ _
  rw[e]
  omega
theorem cells {α:Type} (f g:α->Ce) (cs:List α) (h:∀c∈cs,(f c).1=(g c).1):stC (cs.map f)=stC (cs.map g):=by
 unfold stC
 rw[mm_,mm_]
 congr 1
 exact mL_ h
theorem qej {α:Type} {f:α->Ce} {cs:List α} (h:∀c∈cs,okC (f c)=true):(cs.map f).all okC=true:=by
 rw[ycG]
 exact List.all_eq_true.mpr h
theorem qhR {α:Type} {f:α->Ce} {cs:List α} (h:∀c∈cs,gK (f c).1):∀z∈cs.map f,gK z.1:=λz hz=>by
 obtain⟨c,hc,rfl⟩:=mP_.mp hz
 exact h c hc
theorem qlm (r:Int) (k:Kd):bdK r (bdK r k)=bdK r k:=by
 obtain⟨a,b,m⟩:=k
 cases m with
 |none=>
  show(a,b,some (if r/a<r/a then r/a else r/a))=(a,b,some (r/a))
  rw[if_neg (Int.lt_irrefl _)]
 |some j=>
  show(a,b,some (if(if j<r/a then j else r/a)<r/a then(if j<r/a then j else r/a)else r/a))=(a,b,some (if j<r/a then j else r/a))
  congr 3
  by_cases c:j<r/a
  ·rw[if_pos c,if_pos c]
  ·rw[if_neg c,if_neg (Int.lt_irrefl _)]
theorem qlW {r:Int} (h0:0<=r) (h1:r<=5000) {k:Kd} (h:gK k):gK (bdK r k):=by
 obtain⟨a,b,m⟩:=k
 have ha:1<=a/\a<=25:=h.1
 refine⟨h.1,h.2.1,λj e=>?_⟩
 have d0:0<=r/a:=Int.ediv_nonneg h0 (by omega)
 have d1:r/a<=r:=Int.ediv_le_self _ h0
 cases m with
 |none=>
  have e:r/a=j:=yax e
  omega
 |some m=>
  have hm:=h.2.2 m rfl
  have e:(if m<r/a then m else r/a)=j:=yax e
  split at e<;>omega
theorem qek:∀(zs:List Ce),(∀z∈zs,gK z.1/\0<=z.2)->∀z∈zs,z.1.1*z.2<=wtC zs/\0<=wtC zs
 | [],_,z,hz=>by cases hz
 | y::ys,h,z,hz=>by
  have hy:=h y mS_
  have p0:0<=y.1.1*y.2:=Int.mul_nonneg (by have:=hy.1.1.1;omega) hy.2
  have e:wtC (y::ys)=y.1.1*y.2+wtC ys:=by unfold wtC;rw[mC_,yc9]
  have r:0<=wtC ys:=by
   cases ys with
   |nil=>exact yeU _
   |cons u us=>exact(qek (u::us) (λx hx=>h x (mM _ hx)) u mS_).2
  rw[e]
  rcases List.mem_cons.mp hz with rfl|hz
  ·omega
  ·have:=(qek ys (λx hx=>h x (mM _ hx)) z hz).1
   omega
theorem qgl:∀(zs:List Ce),(∀z∈zs,gK z.1/\0<=z.2/\z.2<=12)->wtC zs<=zs.length*300
 | [],_=>yeU _
 |y::ys,h=>by
  have hy:=h y mS_
  have p0:y.1.1*y.2<=25*12:=Int.mul_le_mul hy.1.1.2 hy.2.2 hy.2.1 (by omega)
  have ih:=qgl ys λx hx=>h x (mM _ hx)
  have e:wtC (y::ys)=y.1.1*y.2+wtC ys:=by unfold wtC;rw[mC_,yc9]
  rw[e,lC_]
  have:(((ys.length+1:Nat):Int))*300=(ys.length:Int)*300+300:=by omega
  omega
theorem qhS {zs:List Ce} (hz:∀z∈zs,gK z.1/\okC z=true) {r:Int} (h:wtC zs<=r):(zs.map λz=>(bdK r z.1,z.2)).all okC=true:=by
 rw[ycG]
 refine List.all_eq_true.mpr λz hm=>?_
 have hp:∀z∈zs,gK z.1/\0<=z.2:=λz hm=>⟨(hz z hm).1,by
  have:=(hz z hm).2
  unfold okC at this
  rw[yao,decide_eq_true_eq]at this
  exact this.1⟩
 have g:=(qek zs hp z hm).1
 have hk:=(hz z hm).1.1
 have ok:=(hz z hm).2
 have z0:=(hp z hm).2
 obtain⟨⟨a,b,m⟩,t⟩:=z
 have hk':1<=a/\a<=25:=hk
 have hd:t<=r/a:=(Int.le_ediv_iff_mul_le (by omega)).mpr (by rw[Int.mul_comm];exact Int.le_trans g h)
 cases m with
 |none=>
  show(decide (0<=t)&&decide (t<=r/a))=true
  rw[decide_eq_true z0,decide_eq_true hd];rfl
 |some m=>
  have ok:(decide (0<=t)&&decide (t<=m))=true:=ok
  rw[yao,decide_eq_true_eq,decide_eq_true_eq]at ok
  show(decide (0<=t)&&decide (t<=if m<r/a then m else r/a))=true
  rw[decide_eq_true z0,decide_eq_true (by split<;>omega)];rfl
theorem io2 {F:List D->List D->R (D×List D)} {i:Nat} {f g:M D} {Z:Env} {ds ds':List D} {a b d:D} (h0:zm i Z=some ds) (hf:f Z=.ok (a,Z)) (hg:g Z=.ok (b,Z)) (e:F ds [a,b]=.ok (d,ds')):qk F i (qa f (qa g (ret []))) Z=.ok (d,Z.set i (some (.lst ds'))):=by
 simp only[vW,h0,qfn hf hg,e]
theorem qmJ {f g:M D} {Z:Env} {d:D} (hf:f Z=.ok (.bl true,Z)) (hg:g Z=.ok (d,Z)):qbq f g Z=.ok (d,Z):=by
 rw[qdI,hf]
 exact hg
theorem qmK {f g:M D} {Z:Env} (hf:f Z=.ok (.bl false,Z)):qbq f g Z=.ok (.bl false,Z):=by
 rw[qdI,hf]
 rfl
theorem qj7:∀ks:List D,(∀k∈ks,zy k)->∃xs:List N3,ks=xs.map (λx=>kD (kT x))/\xs.length=ks.length/\∀x∈xs,g5 x
 | [],_=>⟨[],rfl,rfl,λx h=>by cases h⟩
 | k :: ks,h=>by
  obtain⟨xs,e1,e2,e3⟩:=qj7 ks λx hx=>h x (mM _ hx)
  obtain⟨a,b,m,rfl,h1,h2,h3,h4,hm⟩:=h k mS_
  have ea:((a.toNat:Nat):Int)=a:=by omega
  have eb:((b.toNat:Nat):Int)=b:=by omega
  rcases hm with rfl|⟨j,rfl,g0,g1⟩
  ·refine ⟨(a.toNat,b.toNat,none)::xs,?_,by rw[lC_,lC_,e2],λx hx=>?_⟩
   ·rw[mC_,<-e1]
    show _=D.tup [.int ((a.toNat:Nat):Int),.int ((b.toNat:Nat):Int),.non]::ks
    rw[ea,eb]
   ·rcases List.mem_cons.mp hx with rfl|hx
    ·exact⟨⟨by show 1<=a.toNat;omega,by show a.toNat<=25;omega⟩,by show b.toNat<=39;omega,λj e=>by cases e⟩
    ·exact e3 x hx
  ·have ej:((j.toNat:Nat):Int)=j:=by omega
   refine⟨(a.toNat,b.toNat,some j.toNat)::xs,?_,by rw[lC_,lC_,e2],λx hx=>?_⟩
   ·rw[mC_,<-e1]
    show _=D.tup [.int ((a.toNat:Nat):Int),.int ((b.toNat:Nat):Int),.int ((j.toNat:Nat):Int)]::ks
    rw[ea,eb,ej]
   ·rcases List.mem_cons.mp hx with rfl|hx
    ·exact⟨⟨by show 1<=a.toNat;omega,by show a.toNat<=25;omega⟩,by show b.toNat<=39;omega,λi e=>by cases e;show j.toNat<=5;omega⟩
    ·exact e3 x hx
def okQ(c:qaw):Prop:=g5 c.1.1/\okC (cA c)=true/\okC (cB c)=true/\(0<=c.1.2+c.2/\c.1.2+c.2<=12)
section
variable{cs:List qaw}(hc:∀c∈cs,okQ c)(hl:cs.length<=12)(S I:Option D)
include hc
theorem gA:∀z∈cs.map cA,gK z.1:=qhR λc h=>(hc c h).1.k
theorem gB:∀z∈cs.map cB,gK z.1:=qhR λc h=>by
 have e:=qhO (z:=c.1) (hc c h).2.1
 show gK (lvC (kT c.1.1,c.1.2))
 rw[e]
 exact(qll (z:=c.1) (hc c h).1).k
theorem gC:∀z∈cs.map cC,gK z.1:=qhR λc h=>(hc c h).1.k
theorem oA:(cs.map cA).all okC=true:=qej λc h=>(hc c h).2.1
theorem oB:(cs.map cB).all okC=true:=qej λc h=>(hc c h).2.2.1
theorem oC:(cs.map cC).all okC=true:=qej λc h=>qhP (hc c h).2.1 (hc c h).2.2.1
omit hc in
theorem sAC:stC (cs.map cC)=stC (cs.map cA):=cells _ _ _ λ_ _=>rfl
abbrev StD(cs:List qaw):D:=stC (cs.map cA)
abbrev OnD(cs:List qaw):D:=ldC (cs.map cA)
abbrev ReD(cs:List qaw):D:=stC (cs.map cB)
abbrev OtD(cs:List qaw):D:=ldC (cs.map cB)
abbrev BoD(cs:List qaw):D:=ldC (cs.map cC)
include hl
theorem st6 (B o8 o9 o10:Option D):(sif (tor (tst (d2 qby (qd qI (qa (dv 7) (qa (dv 3) (ret [])))) (ret (.bl true)))) (tst (d2 neB (qd qA (qa (dv 3) (qa (dv 7) (ret [])))) (qd qA (qa (dv 5) (qa (dv 6) (ret []))))))) (zl (ret (.bl false))) zD) [S,I,B,some (StD cs),some (OnD cs),some (ReD cs),some (OtD cs),some (BoD cs),o8,o9,o10]=.ok (.nx [S,I,B,some (StD cs),some (OnD cs),some (ReD cs),some (OtD cs),some (BoD cs),o8,o9,o10]):=by
 have e1:qI [BoD cs,StD cs]=.ok (.bl true):=by
  have:=wf (gC hc) (by rw[lM_];exact hl)
  rw[oC hc,sAC]at this
  exact this
 have e2:qA [StD cs,BoD cs]=.ok (sK ((cs.map cC).map lvC)):=by
  have:=vy (gC hc) (by rw[lM_];exact hl) (oC hc)
  rw[sAC]at this
  exact this
 have e3:qA [ReD cs,OtD cs]=.ok (sK ((cs.map cC).map lvC)):=by
  have:=vy (gB hc) (by rw[lM_];exact hl) (oB hc)
  have em:(cs.map cB).map lvC=(cs.map cC).map lvC:=by
   rw[mm_,mm_]
   exact mL_ λc _=>(qhQ c.1.1 c.1.2 c.2).symm
  rw[em]at this
  exact this
 refine qbh (qjW (zf (qo (zS rfl rfl e1) rfl rfl)) (zf (qo (zS rfl rfl e2) (zS rfl rfl e3) (qfA _))))
theorem wC:qH [StD cs,BoD cs]=.ok (.int (wtC (cs.map cC))):=by
 have:=qap (gC hc) (by rw[lM_];exact hl) (oC hc)
 rw[sAC]at this
 exact this
theorem st7 (B o8 o9 o10:Option D):(sif (tst (d2 neB (qd qH (qa (dv 3) (qa (dv 7) (ret [])))) (d2 jK (qd qH (qa (dv 3) (qa (dv 4) (ret [])))) (qd qH (qa (dv 5) (qa (dv 6) (ret []))))))) (zl (ret (.bl false))) zD) [S,I,B,some (StD cs),some (OnD cs),some (ReD cs),some (OtD cs),some (BoD cs),o8,o9,o10]=.ok (.nx [S,I,B,some (StD cs),some (OnD cs),some (ReD cs),some (OtD cs),some (BoD cs),o8,o9,o10]):=by
 have e1:=qap (gA hc) (by rw[lM_];exact hl) (oA hc)
 have e2:=qap (gB hc) (by rw[lM_];exact hl) (oB hc)
 refine qbh (zf (qo (zS rfl rfl (wC hc hl)) (qo (zS rfl rfl e1) (zS rfl rfl e2) (zR _ _)) ?_))
 have hs:wtC (cs.map cC)=wtC (cs.map cA)+wtC (cs.map cB):=qaq (·.1) (λ_=>rfl) cs
 rw[u0,decide_eq_true hs]
 rfl
theorem st8 (B o8 o9 o10:Option D):(sif (tst (d2 neB (qd zx (qa (dv 3) (qa (dv 7) (ret [])))) (d2 jK (qd zx (qa (dv 3) (qa (dv 4) (ret [])))) (qd zx (qa (dv 5) (qa (dv 6) (ret []))))))) (zl (ret (.bl false))) zD) [S,I,B,some (StD cs),some (OnD cs),some (ReD cs),some (OtD cs),some (BoD cs),o8,o9,o10]=.ok (.nx [S,I,B,some (StD cs),some (OnD cs),some (ReD cs),some (OtD cs),some (BoD cs),o8,o9,o10]):=by
 have e0:=qbJ (gC hc) (by rw[lM_];exact hl) (oC hc)
 rw[sAC]at e0
 have e1:=qbJ (gA hc) (by rw[lM_];exact hl) (oA hc)
 have e2:=qbJ (gB hc) (by rw[lM_];exact hl) (oB hc)
 refine qbh (zf (qo (zS rfl rfl e0) (qo (zS rfl rfl e1) (zS rfl rfl e2) (zR _ _)) ?_))
 have hs:woC (cs.map cC)=woC (cs.map cA)+woC (cs.map cB):=qaq (·.2.1) (λ_=>rfl) cs
 rw[u0,decide_eq_true hs]
 rfl
theorem qmL (B o9 o10:Option D) {r:Int} (hr:r<=wtC (cs.map cC)+8):∃q9,(sif (tst (d2 geD (dv 8) (ret (.int 0)))) (qz (zu 9 (qd qS (qa (dv 3) (qa (dv 8) (ret []))))) (qz (sif (tst (d2 neB (qd yj (qa (dv 3) (qa (dv 7) (qa (dv 8) (ret []))))) (qbq (qd qI (qa (dv 7) (qa (dv 9) (ret [])))) (qd yj (qa (dv 9) (qa (dv 7) (qa (dv 8) (ret [])))))))) (zl (ret (.bl false))) zD) (sif (tst (d2 neB (qd qS (qa (dv 9) (qa (dv 8) (ret [])))) (dv 9))) (zl (ret (.bl false))) zD))) zD) [S,I,B,some (StD cs),some (OnD cs),some (ReD cs),some (OtD cs),some (BoD cs),some (.int r),o9,o10]=.ok (.nx [S,I,B,some (StD cs),some (OnD cs),some (ReD cs),some (OtD cs),some (BoD cs),some (.int r),q9,o10]):=by
 by_cases h0:0<=r
 case neg=>
  refine⟨o9,qbh (zf (qo rfl rfl ?_))⟩
  show some (D.bl (decide ((0:Int)<=r)))=_
  rw[decide_eq_false h0]
 have hl':(cs.map cC).length<=12:=by rw[lM_];exact hl
 have hw:wtC (cs.map cC)<=3600:=by
  have:=qgl (cs.map cC) λz hz=>by
   obtain⟨c,hm,rfl⟩:=mP_.mp hz
   exact⟨(hc c hm).1.k,(hc c hm).2.2.2⟩
  omega
 let ks:List Kd:=(cs.map cC).map (·.1)
 have gk:∀k∈ks,gK k:=λk hk=>by
  obtain⟨z,hz,rfl⟩:=mP_.mp hk
  exact gC hc z hz
 have lk:ks.length<=12:=by show((cs.map cC).map _).length<=12;rw[lM_];exact hl'
 have es:StD cs=sK ks:=by show stC (cs.map cA)=_;rw[<-sAC];rfl
 let Sm:D:=sK (ks.map (bdK r))
 have gb:∀k∈ks.map (bdK r),gK k:=λk hk=>by
  obtain⟨k',hk',rfl⟩:=mP_.mp hk
  exact qlW h0 (by omega) (gk k' hk')
 have e1:qS [StD cs,.int r]=.ok Sm:=by rw[es];exact qba gk lk h0
 have e2:qS [Sm,.int r]=.ok Sm:=by
  have:=qba gb (by rw[lM_];exact lk) h0
  have em:(ks.map (bdK r)).map (bdK r)=ks.map (bdK r):=by
   rw[mm_]
   exact mL_ λk _=>qlm r k
  rw[em]at this
  exact this
 let zd:List Ce:=(cs.map cC).map λz=>(bdK r z.1,z.2)
 have ed1:stC zd=Sm:=by
  show sK (((cs.map cC).map λz=>(bdK r z.1,z.2)).map (·.1))=sK (((cs.map cC).map (·.1)).map (bdK r))
  simp only[mm_]
  rfl
 have ed2:ldC zd=BoD cs:=by
  show lI (((cs.map cC).map λz=>(bdK r z.1,z.2)).map (·.2))=lI ((cs.map cC).map (·.2))
  rw[mm_]
  rfl
 have gd:∀z∈zd,gK z.1:=λz hz=>by
  obtain⟨y,hy,rfl⟩:=mP_.mp hz
  exact qlW h0 (by omega) (gC hc y hy)
 have ld:zd.length<=12:=by show((cs.map cC).map _).length<=12;rw[lM_];exact hl'
 have wd':wtC zd=wtC (cs.map cC):=by
  show(((cs.map cC).map λz=>(bdK r z.1,z.2)).map λz=>z.1.1*z.2).sum=_
  rw[mm_]
  rfl
 have il:qI [BoD cs,Sm]=.ok (.bl (zd.all okC)):=by
  have:=wf gd ld
  rw[ed1,ed2]at this
  exact this
 have fs:yj [StD cs,BoD cs,.int r]=.ok (.bl (decide (wtC (cs.map cC)<=r))):=by
  have:=qgj (gC hc) hl' (oC hc) h0
  rw[sAC]at this
  exact this
 let Z9:Env:=[S,I,B,some (StD cs),some (OnD cs),some (ReD cs),some (OtD cs),some (BoD cs),some (.int r),some Sm,o10]
 have ad:qbq (qd qI (qa (dv 7) (qa (dv 9) (ret [])))) (qd yj (qa (dv 9) (qa (dv 7) (qa (dv 8) (ret []))))) Z9=.ok (.bl (decide (wtC (cs.map cC)<=r)),Z9):=by
  cases ha:zd.all okC with
  |true=>
   rw[ha]at il
   have f2:=qgj gd ld ha h0
   rw[ed1,ed2,wd']at f2
   exact qmJ (zS rfl rfl il) (qa7 rfl rfl rfl f2)
  | false=>
   rw[ha]at il
   have nw:¬wtC (cs.map cC)<=r:=λh=>by
    have:=qhS (zs:=cs.map cC) (λz hz=>⟨gC hc z hz,List.all_eq_true.mp (oC hc) z hz⟩) h
    rw[show((cs.map cC).map λz=>(bdK r z.1,z.2)).all okC=zd.all okC from rfl,ha]at this
    cases this
   rw[decide_eq_false nw]
   exact qmK (zS rfl rfl il)
 refine⟨some Sm,(qlT (zf (qo rfl rfl ?_))).trans ((ql (Z':=Z9) (ub (zS rfl rfl e1))).trans ((ql (Z':=Z9) (qbh (zf (qo (qa7 rfl rfl rfl fs) ad ?_)))).trans (qbh (zf (qo (zS rfl rfl e2) rfl (qfA _))))))⟩
 ·show some (D.bl (decide ((0:Int)<=r)))=_
  rw[decide_eq_true h0]
 ·cases decide (wtC (cs.map cC)<=r)<;>rfl
theorem qmM (B o8 o9 o10:Option D):∃d,(zu 10 (qd zo (qa (dv 3) (ret [])))) [S,I,B,some (StD cs),some (OnD cs),some (ReD cs),some (OtD cs),some (BoD cs),o8,o9,o10]=.ok (.nx [S,I,B,some (StD cs),some (OnD cs),some (ReD cs),some (OtD cs),some (BoD cs),o8,o9,some d]) /\
  (sif (qbo (tst (d2 qgK (dv 10) (ret .non))) (tst (d2 neB (zZ 1 [] none (wn (qd qA (qa (dv 3) (qa (dv 10) (ret []))))) (qD 0) (tst (d2 neB (d2 ixD (dv 0) (ret (.int 2))) (ret (.int 0)))) (dv 0)) (vG (ret []))))) (zl (ret (.bl false))) zD) [S,I,B,some (StD cs),some (OnD cs),some (ReD cs),some (OtD cs),some (BoD cs),o8,o9,some d]=.ok (.nx [S,I,B,some (StD cs),some (OnD cs),some (ReD cs),some (OtD cs),some (BoD cs),o8,o9,some d]):=by
 let ks:List Kd:=(cs.map cA).map (·.1)
 have gk:∀k∈ks,gK k:=λk hk=>by
  obtain⟨z,hz,rfl⟩:=mP_.mp hk
  exact gA hc z hz
 have lk:ks.length<=12:=by show((cs.map cA).map _).length<=12;rw[lM_,lM_];exact hl
 have e1:=qhJ gk lk
 refine⟨_,ub (ye rfl e1),?_⟩
 cases ha:ks.any (λk=>k.2.2.isNone) with
 |true=>
  exact qbh (qjX (zf (qo rfl rfl rfl)))
 | false=>
  let Ev:D:=lI (ks.map moK)
  let Z:Env:=[S,I,B,some (StD cs),some (OnD cs),some (ReD cs),some (OtD cs),some (BoD cs),o8,o9,some Ev]
  have hs:∀k∈ks,k.2.2=some (moK k):=λk hm=>by
   have:=List.any_eq_false.mp ha k hm
   unfold moK
   cases e:k.2.2 with
   |none=>rw[e]at this;exact absurd rfl this
   |some j=>rfl
  let ze:List Ce:=ks.map λk=>(k,moK k)
  have z1:stC ze=StD cs:=by
   show sK ((ks.map λk=>(k,moK k)).map (·.1))=sK ks
   rw[mm_]
   show sK (ks.map id)=_
   rw[List.map_id]
  have z2:ldC ze=Ev:=by
   show lI ((ks.map λk=>(k,moK k)).map (·.2))=lI (ks.map moK)
   rw[mm_]
   rfl
  have gz:∀z∈ze,gK z.1:=λz hz=>by
   obtain⟨k,hk,rfl⟩:=mP_.mp hz
   exact gk k hk
  have oz:ze.all okC=true:=by
   show(ks.map λk=>(k,moK k)).all okC=true
   rw[ycG]
   refine List.all_eq_true.mpr λk hk=>?_
   have hj:=(gk k hk).2.2 (moK k) (hs k hk)
   show(decide (0<=moK k)&&(match k.2.2 with|none=>true|some j=>decide (moK k<=j)))=true
   rw[hs k hk,decide_eq_true hj.1]
   exact decide_eq_true (yeU _)
  have lv:=vy gz (by show(ks.map _).length<=12;rw[lM_];exact lk) oz
  rw[z1,z2]at lv
  have q:=qge (e:=dv 0) (t:=tst (d2 neB (d2 ixD (dv 0) (ret (.int 2))) (ret (.int 0)))) (k:=λz:Ce=>kD (lvC z)) (xs:=wn (qd qA (qa (dv 3) (qa (dv 10) (ret []))))) (fr:=[]) (Z:=Z) (r:=[]) ze (λ_=>false) (λz=>kD (lvC z)) (by
   rw[qf4,zS rfl rfl lv]
   show R.ok ((ze.map lvC).map kD,Z)=_
   rw[mm_]
   rfl) rfl (by show(ks.map _).length<=_;rw[lM_];omega) (λz hz=>by
    obtain⟨k,hk,rfl⟩:=mP_.mp hz
    refine zf (qo (qo rfl rfl (show ixD (kD (lvC (k,moK k))) (.int 2)=some (.int 0)from ?_)) rfl rfl)
    show some (mD (k.2.2.map (·-moK k)))=_
    rw[hs k hk]
    show some (D.int (moK k-moK k))=_
    rw[Int.sub_self]) (λz hz h=>by cases h)
  have fe:ze.filter (λ_=>false)=[]:=List.filter_eq_nil_iff.mpr λ_ _=>by decide
  rw[fe]at q
  refine qbh ?_
  exact qjY (zf (b:=true) (qo rfl rfl rfl)) (zf (qo (b:=.lst []) q rfl rfl))
theorem qmN (B o8 o9 o10:Option D):(sif (tor (tst (d2 neB (qd yp (qa (qd yq (qa (dv 3) (ret []))) (ret []))) (dv 3))) (tst (d2 neB (qd yp (qa (qd yq (qa (dv 5) (ret []))) (ret []))) (dv 5)))) (zl (ret (.bl false))) zD) [S,I,B,some (StD cs),some (OnD cs),some (ReD cs),some (OtD cs),some (BoD cs),o8,o9,o10]=.ok (.nx [S,I,B,some (StD cs),some (OnD cs),some (ReD cs),some (OtD cs),some (BoD cs),o8,o9,o10]):=by
 have e1:StD cs=sK ((cs.map λc=>c.1.1).map kT):=by
  show sK ((cs.map cA).map (·.1))=_
  rw[mm_,mm_]
  rfl
 have e2:ReD cs=sK ((cs.map λc=>rT c.1).map kT):=by
  show sK ((cs.map cB).map (·.1))=_
  rw[mm_,mm_]
  congr 1
  exact mL_ λc h=>qhO (z:=c.1) (hc c h).2.1
 have t1:=qlV (xs:=cs.map λc=>c.1.1) (λx hx=>by
  obtain⟨c,h,rfl⟩:=mP_.mp hx
  exact(hc c h).1.t) (by rw[lM_];exact hl) (by rw[<-e1];exact qlg (gA hc) (by rw[lM_];exact hl)) (f:=dv 3) (Z:=[S,I,B,some (StD cs),some (OnD cs),some (ReD cs),some (OtD cs),some (BoD cs),o8,o9,o10]) (by rw[<-e1];rfl)
 have t2:=qlV (xs:=cs.map λc=>rT c.1) (λx hx=>by
  obtain⟨c,h,rfl⟩:=mP_.mp hx
  exact(qll (z:=c.1) (hc c h).1).t) (by rw[lM_];exact hl) (by rw[<-e2];exact qlg (gB hc) (by rw[lM_];exact hl)) (f:=dv 5) (Z:=[S,I,B,some (StD cs),some (OnD cs),some (ReD cs),some (OtD cs),some (BoD cs),o8,o9,o10]) (by rw[<-e2];rfl)
 rw[<-e1]at t1
 rw[<-e2]at t2
 exact qbh (qjW (zf (qo t1 rfl (qfA _))) (zf (qo t2 rfl (qfA _))))
end
theorem qj8 {α:Type} (cs:List α) (f:Nat->D) (g:α->D) (h:∀i (hi:i<cs.length),f i=g cs[i]):(yaY cs.length).map f=cs.map g:=by
 refine yeS λi=>?_
 rw[gM_,gM_]
 by_cases c:i<cs.length
 ·rw[List.getElem?_range c,gG c,ybO,ybO,h i c]
 ·rw[List.getElem?_eq_none (by rw[ydg];omega),List.getElem?_eq_none (by omega)];rfl
theorem qfB (ns:List Int) (i:Int) (h0:0<=i) (r:Env) (hr:r.length=9):∃r',r'.length=9/\(qz (vQ 2 (qaT zQ (qa (dv 0) (qa (dv 1) (ret []))))) (qz (zu 3 (qk zc 2 (qa (ret (.int 10)) (qa (ret .non) (ret []))))) (qz (zu 4 (qk qy 2 (qa (dv 3) (ret [])))) (qz (zu 5 (qd qA (qa (dv 3) (qa (dv 4) (ret []))))) (qz (zu 6 (qk qy 2 (qa (dv 5) (ret [])))) (qz (zu 7 (qV yW (qa (zZ 1 [4,6] none (uU (qa (qV qav (qa (dv 3) (ret []))) (ret []))) (qD 0) (ret true) (d2 jK (d2 ixD (dv 1) (dv 0)) (d2 ixD (dv 2) (dv 0)))) (ret [])))) (qz (sif (tor (tst (d2 qby (qd qI (qa (dv 7) (qa (dv 3) (ret [])))) (ret (.bl true)))) (tst (d2 neB (qd qA (qa (dv 3) (qa (dv 7) (ret [])))) (qd qA (qa (dv 5) (qa (dv 6) (ret []))))))) (zl (ret (.bl false))) zD) (qz (sif (tst (d2 neB (qd qH (qa (dv 3) (qa (dv 7) (ret [])))) (d2 jK (qd qH (qa (dv 3) (qa (dv 4) (ret [])))) (qd qH (qa (dv 5) (qa (dv 6) (ret []))))))) (zl (ret (.bl false))) zD) (qz (sif (tst (d2 neB (qd zx (qa (dv 3) (qa (dv 7) (ret [])))) (d2 jK (qd zx (qa (dv 3) (qa (dv 4) (ret [])))) (qd zx (qa (dv 5) (qa (dv 6) (ret []))))))) (zl (ret (.bl false))) zD) (qz (zu 8 (d2 qgH (d2 jK (qd qH (qa (dv 3) (qa (dv 7) (ret [])))) (qk qi 2 (qa (ret (.int 9)) (ret [])))) (ret (.int 4)))) (qz (sif (tst (d2 geD (dv 8) (ret (.int 0)))) (qz (zu 9 (qd qS (qa (dv 3) (qa (dv 8) (ret []))))) (qz (sif (tst (d2 neB (qd yj (qa (dv 3) (qa (dv 7) (qa (dv 8) (ret []))))) (qbq (qd qI (qa (dv 7) (qa (dv 9) (ret [])))) (qd yj (qa (dv 9) (qa (dv 7) (qa (dv 8) (ret [])))))))) (zl (ret (.bl false))) zD) (sif (tst (d2 neB (qd qS (qa (dv 9) (qa (dv 8) (ret [])))) (dv 9))) (zl (ret (.bl false))) zD))) zD) (qz (zu 10 (qd zo (qa (dv 3) (ret [])))) (qz (sif (qbo (tst (d2 qgK (dv 10) (ret .non))) (tst (d2 neB (zZ 1 [] none (wn (qd qA (qa (dv 3) (qa (dv 10) (ret []))))) (qD 0) (tst (d2 neB (d2 ixD (dv 0) (ret (.int 2))) (ret (.int 0)))) (dv 0)) (vG (ret []))))) (zl (ret (.bl false))) zD) (sif (tor (tst (d2 neB (qd yp (qa (qd yq (qa (dv 3) (ret []))) (ret []))) (dv 3))) (tst (d2 neB (qd yp (qa (qd yq (qa (dv 5) (ret []))) (ret []))) (dv 5)))) (zl (ret (.bl false))) zD)))))))))))))) ([some (.fz ns),some (.int i)]++r)=.ok (.nx ([some (.fz ns),some (.int i)]++r')):=by
 match r,hr with
 | [o2,o3,o4,o5,o6,o7,o8,o9,o10],_=>
  obtain⟨n,eb⟩:=qj6 ns i h0
  obtain⟨dks,n1,es,hk0,hl0⟩:=qcR n
  obtain⟨xs,ex,lx,hx⟩:=qj7 dks hk0
  have ex2:D.tup dks=sK (xs.map kT):=by rw[ex];unfold sK;rw[mm_];rfl
  obtain⟨zs,n2,ez,hz,ea⟩:=qgk kT xs n1 (λx h=>(hx x h).k) (by omega)
  have hzg:∀z∈zs,g5 z.1:=λz h=>hx z.1 (by rw[<-ez];exact mP_.mpr ⟨z,h,rfl⟩)
  obtain ⟨cs,n3,ec,hcs,eo⟩:=qgk (λz:N3×Int=>lvC (kT z.1,z.2)) zs n2 (λz h=>by
   rw[qhO (hz z h).1]
   exact(qll (hzg z h)).k) (by rw[<-lM_ (f:=(·.1)),ez];omega)
  have hm:∀c∈cs,c.1∈zs:=λc h=>by rw[<-ec];exact mP_.mpr ⟨c,h,rfl⟩
  have hc:∀c∈cs,okQ c:=λc h=>by
   have q1:=hz c.1 (hm c h)
   have q2:=hcs c h
   have g:=hzg c.1 (hm c h)
   refine⟨g,q1.1,q2.1,?_⟩
   obtain⟨⟨⟨w,v,m⟩,a⟩,b⟩:=c
   cases m with
   |none=>
    have a1:(decide (0<=a)&&true)=true:=q1.1
    have b1:(decide (0<=b)&&true)=true:=q2.1
    have a2:a<=6:=q1.2 rfl
    have b2:b<=6:=q2.2 rfl
    rw[Bool.and_true,decide_eq_true_eq]at a1 b1
    show 0<=a+b/\a+b<=12
    omega
   |some m=>
    have a1:(decide (0<=a)&&decide (a<=((m:Nat):Int)))=true:=q1.1
    have b1:(decide (0<=b)&&decide (b<=((m:Nat):Int)-a))=true:=q2.1
    have hm5:m<=5:=g.2.2 m rfl
    rw[yao,decide_eq_true_eq,decide_eq_true_eq]at a1 b1
    show 0<=a+b/\a+b<=12
    omega
  have lc:cs.length=xs.length:=by rw[<-ez,<-ec,lM_,lM_]
  have hl:cs.length<=12:=by omega
  have hS:sK (xs.map kT)=StD cs:=by
   rw[<-ez,<-ec]
   show sK (((cs.map (·.1)).map (·.1)).map kT)=sK ((cs.map cA).map (·.1))
   simp only[mm_]
   rfl
  have hO:lI (zs.map (·.2))=OnD cs:=by
   rw[<-ec]
   show lI ((cs.map (·.1)).map (·.2))=lI ((cs.map cA).map (·.2))
   simp only[mm_]
   rfl
  have hR:sK (zs.map λz=>lvC (kT z.1,z.2))=ReD cs:=by
   rw[<-ec]
   show sK ((cs.map (·.1)).map _)=sK ((cs.map cB).map (·.1))
   simp only[mm_]
   rfl
  have hT:lI (cs.map (·.2))=OtD cs:=by
   show _=lI ((cs.map cB).map (·.2))
   simp only[mm_]
   rfl
  rw[ex2,hS]at es
  rw[hS,hO]at ea
  rw[hR,hT]at eo
  have lv:qA [StD cs,OnD cs]=.ok (ReD cs):=by
   have:=vy (gA hc) (by rw[lM_];exact hl) (oA hc)
   have e:sK ((cs.map cA).map lvC)=ReD cs:=by
    show _=sK ((cs.map cB).map (·.1))
    simp only[mm_]
    rfl
   rw[e]at this
   exact this
  let S:Option D:=some (.fz ns)
  let I:Option D:=some (.int i)
  let B (k:Int):Option D:=some (.lst [.int k])
  let rm:Int:=wtC (cs.map cC)+n3%9-4
  obtain⟨q9,e10⟩:=qmL hc hl S I (B (n3/9)) o9 o10 (r:=rm) (by show wtC (cs.map cC)+n3%9-4<=_;omega)
  obtain⟨d,e11,e12⟩:=qmM hc hl S I (B (n3/9)) (some (.int rm)) q9 o10
  refine⟨[B (n3/9),some (StD cs),some (OnD cs),some (ReD cs),some (OtD cs),some (BoD cs),some (.int rm),q9,some d],rfl,?_⟩
  show(qz (vQ 2 (qaT zQ (qa (dv 0) (qa (dv 1) (ret []))))) (qz (zu 3 (qk zc 2 (qa (ret (.int 10)) (qa (ret .non) (ret []))))) (qz (zu 4 (qk qy 2 (qa (dv 3) (ret [])))) (qz (zu 5 (qd qA (qa (dv 3) (qa (dv 4) (ret []))))) (qz (zu 6 (qk qy 2 (qa (dv 5) (ret [])))) (qz (zu 7 (qV yW (qa (zZ 1 [4,6] none (uU (qa (qV qav (qa (dv 3) (ret []))) (ret []))) (qD 0) (ret true) (d2 jK (d2 ixD (dv 1) (dv 0)) (d2 ixD (dv 2) (dv 0)))) (ret [])))) (qz (sif (tor (tst (d2 qby (qd qI (qa (dv 7) (qa (dv 3) (ret [])))) (ret (.bl true)))) (tst (d2 neB (qd qA (qa (dv 3) (qa (dv 7) (ret [])))) (qd qA (qa (dv 5) (qa (dv 6) (ret []))))))) (zl (ret (.bl false))) zD) (qz (sif (tst (d2 neB (qd qH (qa (dv 3) (qa (dv 7) (ret [])))) (d2 jK (qd qH (qa (dv 3) (qa (dv 4) (ret [])))) (qd qH (qa (dv 5) (qa (dv 6) (ret []))))))) (zl (ret (.bl false))) zD) (qz (sif (tst (d2 neB (qd zx (qa (dv 3) (qa (dv 7) (ret [])))) (d2 jK (qd zx (qa (dv 3) (qa (dv 4) (ret [])))) (qd zx (qa (dv 5) (qa (dv 6) (ret []))))))) (zl (ret (.bl false))) zD) (qz (zu 8 (d2 qgH (d2 jK (qd qH (qa (dv 3) (qa (dv 7) (ret [])))) (qk qi 2 (qa (ret (.int 9)) (ret [])))) (ret (.int 4)))) (qz (sif (tst (d2 geD (dv 8) (ret (.int 0)))) (qz (zu 9 (qd qS (qa (dv 3) (qa (dv 8) (ret []))))) (qz (sif (tst (d2 neB (qd yj (qa (dv 3) (qa (dv 7) (qa (dv 8) (ret []))))) (qbq (qd qI (qa (dv 7) (qa (dv 9) (ret [])))) (qd yj (qa (dv 9) (qa (dv 7) (qa (dv 8) (ret [])))))))) (zl (ret (.bl false))) zD) (sif (tst (d2 neB (qd qS (qa (dv 9) (qa (dv 8) (ret [])))) (dv 9))) (zl (ret (.bl false))) zD))) zD) (qz (zu 10 (qd zo (qa (dv 3) (ret [])))) (qz (sif (qbo (tst (d2 qgK (dv 10) (ret .non))) (tst (d2 neB (zZ 1 [] none (wn (qd qA (qa (dv 3) (qa (dv 10) (ret []))))) (qD 0) (tst (d2 neB (d2 ixD (dv 0) (ret (.int 2))) (ret (.int 0)))) (dv 0)) (vG (ret []))))) (zl (ret (.bl false))) zD) (sif (tor (tst (d2 neB (qd yp (qa (qd yq (qa (dv 3) (ret []))) (ret []))) (dv 3))) (tst (d2 neB (qd yp (qa (qd yq (qa (dv 5) (ret []))) (ret []))) (dv 5)))) (zl (ret (.bl false))) zD)))))))))))))) [S,I,o2,o3,o4,o5,o6,o7,o8,o9,o10]=_
  refine(ql (Z':=[S,I,B n,o3,o4,o5,o6,o7,o8,o9,o10]) ?_).trans ?_
  ·push_cast [S,I,B,eb,immFs,immF,immL,imm,ya8]
  refine(ql (Z':=[S,I,B n1,some (StD cs),o4,o5,o6,o7,o8,o9,o10]) ?_).trans ?_
  ·show zu 3 _ [S,I,B n,o3,o4,o5,o6,o7,o8,o9,o10]=_
   rw[qaV,io2 (ds:=[.int n]) (a:=.int 10) (b:=.non) rfl rfl rfl es]
   rfl
  refine(ql (Z':=[S,I,B n2,some (StD cs),some (OnD cs),o5,o6,o7,o8,o9,o10]) ?_).trans ?_
  ·show zu 4 _ [S,I,B n1,some (StD cs),o4,o5,o6,o7,o8,o9,o10]=_
   rw[qaV,io1 (ds:=[.int n1]) (a:=StD cs) rfl rfl ea]
   rfl
  refine(ql (Z':=[S,I,B n2,some (StD cs),some (OnD cs),some (ReD cs),o6,o7,o8,o9,o10]) (ub (zS rfl rfl lv))).trans ?_
  refine(ql (Z':=[S,I,B n3,some (StD cs),some (OnD cs),some (ReD cs),some (OtD cs),o7,o8,o9,o10]) ?_).trans ?_
  ·show zu 6 _ [S,I,B n2,some (StD cs),some (OnD cs),some (ReD cs),o6,o7,o8,o9,o10]=_
   rw[qaV,io1 (ds:=[.int n2]) (a:=ReD cs) rfl rfl eo]
   rfl
  refine(ql (Z':=[S,I,B n3,some (StD cs),some (OnD cs),some (ReD cs),some (OtD cs),some (BoD cs),o8,o9,o10]) ?_).trans ?_
  ·have q:=qa5 (e:=d2 jK (d2 ixD (dv 1) (dv 0)) (d2 ixD (dv 2) (dv 0))) (xs:=uU (qa (qV qav (qa (dv 3) (ret []))) (ret []))) (fr:=[4,6]) (Z:=[S,I,B n3,some (StD cs),some (OnD cs),some (ReD cs),some (OtD cs),o7,o8,o9,o10]) (r:=[some (OnD cs),some (OtD cs)]) (k:=λj:Nat=>D.int (j:Nat)) (yaY cs.length) (λj=>D.int ((cs.getD j ((((0,0,none),0),0):qaw)).1.2+(cs.getD j ((((0,0,none),0),0):qaw)).2)) ?_ rfl (by rw[ydg];omega) (λj hj=>?_)
   ·have em:(yaY cs.length).map (λj=>D.int ((cs.getD j ((((0,0,none),0),0):qaw)).1.2+(cs.getD j ((((0,0,none),0),0):qaw)).2))=cs.map λc=>D.int (c.1.2+c.2):=qj8 cs _ _ λj hj=>by rw[List.getD_eq_getElem?_getD,gG hj];rfl
    rw[em]at q
    refine ub (v3 q ?_)
    rw[yA]
    show _=some (D.tup (((cs.map cC).map (·.2)).map D.int))
    simp only[mm_]
    rfl
   ·have e:qV qav (qa (dv 3) (ret [])) [S,I,B n3,some (StD cs),some (OnD cs),some (ReD cs),some (OtD cs),o7,o8,o9,o10]=.ok (.int (cs.length:Nat),[S,I,B n3,some (StD cs),some (OnD cs),some (ReD cs),some (OtD cs),o7,o8,o9,o10]):=v3 (a:=StD cs) rfl (by
     show qav [.tup (((cs.map cA).map (·.1)).map kD)]=_
     rw[yH]
     simp only[lM_])
    rw[vx (j:=(cs.length:Nat)) (wz e) (by omega) (by omega)]
    rw[ybx,qmI]
   ·have hj':=mR_.mp hj
    have g1:ixD (OnD cs) (.int (j:Nat))=some (.int (cs.getD j ((((0,0,none),0),0):qaw)).1.2):=qgf (by
     simp only[mm_]
     rw[gM_,gG hj',List.getD_eq_getElem?_getD,gG hj']
     rfl)
    have g2:ixD (OtD cs) (.int (j:Nat))=some (.int (cs.getD j ((((0,0,none),0),0):qaw)).2):=qgf (by
     simp only[mm_]
     rw[gM_,gG hj',List.getD_eq_getElem?_getD,gG hj']
     rfl)
    exact qo (qo rfl rfl g1) (qo rfl rfl g2) (zR _ _)
  refine(ql (st6 hc hl S I (B n3) o8 o9 o10)).trans ((ql (st7 hc hl S I (B n3) o8 o9 o10)).trans ((ql (st8 hc hl S I (B n3) o8 o9 o10)).trans ?_))
  refine(ql (Z':=[S,I,B (n3/9),some (StD cs),some (OnD cs),some (ReD cs),some (OtD cs),some (BoD cs),some (.int rm),o9,o10]) ?_).trans ?_
  ·push_cast [B,wC hc hl,zX (m:=9) (by decide) (by decide),zR,qfk]
   rfl
  exact(ql e10).trans ((ql e11).trans ((ql e12).trans (qmN hc hl S I (B (n3/9)) (some (.int rm)) q9 (some d))))
theorem qcm (ns:List Int):∀(ds:List D)(o1:Option D)(r:Env),r.length=9->(∀d∈ds,∃i:Int,d=.int i/\0<=i)->∃Z,yY (qD 1) (qz (vQ 2 (qaT zQ (qa (dv 0) (qa (dv 1) (ret []))))) (qz (zu 3 (qk zc 2 (qa (ret (.int 10)) (qa (ret .non) (ret []))))) (qz (zu 4 (qk qy 2 (qa (dv 3) (ret [])))) (qz (zu 5 (qd qA (qa (dv 3) (qa (dv 4) (ret []))))) (qz (zu 6 (qk qy 2 (qa (dv 5) (ret [])))) (qz (zu 7 (qV yW (qa (zZ 1 [4,6] none (uU (qa (qV qav (qa (dv 3) (ret []))) (ret []))) (qD 0) (ret true) (d2 jK (d2 ixD (dv 1) (dv 0)) (d2 ixD (dv 2) (dv 0)))) (ret [])))) (qz (sif (tor (tst (d2 qby (qd qI (qa (dv 7) (qa (dv 3) (ret [])))) (ret (.bl true)))) (tst (d2 neB (qd qA (qa (dv 3) (qa (dv 7) (ret [])))) (qd qA (qa (dv 5) (qa (dv 6) (ret []))))))) (zl (ret (.bl false))) zD) (qz (sif (tst (d2 neB (qd qH (qa (dv 3) (qa (dv 7) (ret [])))) (d2 jK (qd qH (qa (dv 3) (qa (dv 4) (ret [])))) (qd qH (qa (dv 5) (qa (dv 6) (ret []))))))) (zl (ret (.bl false))) zD) (qz (sif (tst (d2 neB (qd zx (qa (dv 3) (qa (dv 7) (ret [])))) (d2 jK (qd zx (qa (dv 3) (qa (dv 4) (ret [])))) (qd zx (qa (dv 5) (qa (dv 6) (ret []))))))) (zl (ret (.bl false))) zD) (qz (zu 8 (d2 qgH (d2 jK (qd qH (qa (dv 3) (qa (dv 7) (ret [])))) (qk qi 2 (qa (ret (.int 9)) (ret [])))) (ret (.int 4)))) (qz (sif (tst (d2 geD (dv 8) (ret (.int 0)))) (qz (zu 9 (qd qS (qa (dv 3) (qa (dv 8) (ret []))))) (qz (sif (tst (d2 neB (qd yj (qa (dv 3) (qa (dv 7) (qa (dv 8) (ret []))))) (qbq (qd qI (qa (dv 7) (qa (dv 9) (ret [])))) (qd yj (qa (dv 9) (qa (dv 7) (qa (dv 8) (ret [])))))))) (zl (ret (.bl false))) zD) (sif (tst (d2 neB (qd qS (qa (dv 9) (qa (dv 8) (ret [])))) (dv 9))) (zl (ret (.bl false))) zD))) zD) (qz (zu 10 (qd zo (qa (dv 3) (ret [])))) (qz (sif (qbo (tst (d2 qgK (dv 10) (ret .non))) (tst (d2 neB (zZ 1 [] none (wn (qd qA (qa (dv 3) (qa (dv 10) (ret []))))) (qD 0) (tst (d2 neB (d2 ixD (dv 0) (ret (.int 2))) (ret (.int 0)))) (dv 0)) (vG (ret []))))) (zl (ret (.bl false))) zD) (sif (tor (tst (d2 neB (qd yp (qa (qd yq (qa (dv 3) (ret []))) (ret []))) (dv 3))) (tst (d2 neB (qd yp (qa (qd yq (qa (dv 5) (ret []))) (ret []))) (dv 5)))) (zl (ret (.bl false))) zD)))))))))))))) ds ([some (.fz ns),o1]++r)=.ok (.nx Z)
 | [],o1,r,_,_=>⟨_,rfl⟩
 |d::ds,o1,r,hr,h=>by
  obtain⟨i,rfl,h0⟩:=h d mS_
  obtain⟨r',hr',e⟩:=qfB ns i h0 r hr
  obtain⟨Z,q⟩:=qcm ns ds (some (.int i)) r' hr' λy hy=>h y (mM _ hy)
  refine⟨Z,?_⟩
  unfold yY
  simp only[qD,List.cons_append,ybt,ybo,ycd]at e |-
  simp only[e]
  exact q
theorem law_true (ns:List Int) (hn:ns.length<=63):qbH [.fz ns]=.ok (.bl true):=by
 let j:Int:=if(if(5:Int)<(ns.length:Int) then(5:Int) else(ns.length:Int))>1 then(if(5:Int)<(ns.length:Int) then(5:Int) else(ns.length:Int))else 1
 have hj0:0<=j:=by simp only[j];split<;>split<;>omega
 have hj1:j<=6:=by simp only[j];split<;>split<;>omega
 obtain ⟨Z,q⟩:=qcm ns (w8 0 j.toNat) none [none,none,none,none,none,none,none,none,none] rfl λd hd=>by
  unfold w8 at hd
  obtain⟨k,hk,rfl⟩:=mP_.mp hd
  exact⟨_,rfl,by omega⟩
 unfold qbH
 refine vf rfl ⟨Z,?_⟩
 unfold qhH
 refine(ql (Z':=Z) ?_).trans rfl
 rw[qaW,vx (j:=j) (Z1:=[some (.fz ns),none,none,none,none,none,none,none,none,none,none]) ?_ hj0 (by omega)]
 ·exact q
 ·rfl
section
variable{P:yaj}{w:World}{K:yah}{mg:Str->Option Value}{base:Heap}
variable{f:Addr}{fd:yaO}
set_option maxHeartbeats 4000000
theorem qbM:qp ["thing"] ["thing"] (qe jM):=⟨rfl,rfl,rfl,by decide +kernel,rfl,by decide +kernel,by decide +kernel⟩
section
variable(P:yaj)(w:World)(K:Fr0)(mg:Str->Option Value)(base:Heap)
abbrev Q0:Prop:=qJ P w K mg base 1 "is_whole" ["thing"] (spD K um)
abbrev Q1:Prop:=qJ P w K mg base 2 "is_count" ["thing"] (spD K zN)
abbrev Q2:Prop:=qJ P w K mg base 3 "is_kind" ["thing"] (spD K yE)
abbrev Q3:Prop:=qJ P w K mg base 1 "number_of" ["word"] (spD K zJ)
abbrev Q4:Prop:=qJ P w K mg base 1 "is_figures" ["word"] (spD K ju)
abbrev Q5:Prop:=qJ P w K mg base 4 "read_kind" ["word"] (spD K jh)
abbrev Q6:Prop:=qJ P w K mg base 5 "read" ["text"] (spD K yp)
abbrev Q7:Prop:=qJ P w K mg base 1 "figures" ["number"] (spD K yF)
abbrev Q8:Prop:=qJ P w K mg base 2 "show_kind" ["kind"] (spD K yh)
abbrev Q9:Prop:=qJ P w K mg base 4 "is_store" ["thing"] (spD K uo)
abbrev Q10:Prop:=qJ P w K mg base 5 "need_store" ["thing"] (spD K zP)
abbrev Q11:Prop:=qJ P w K mg base 6 "show" ["store"] (spD K yq)
abbrev Q12:Prop:=qJ P w K mg base 1 "with_most" ["kind","most"] (spD K zt)
abbrev Q13:Prop:=qJ P w K mg base 1 "most_left" ["kind","times"] (spD K yL)
abbrev Q14:Prop:=qJ P w K mg base 3 "can_take" ["kind","times"] (spD K jS)
abbrev Q15:Prop:=qJ P w K mg base 6 "is_load" ["thing","store"] (spD K qI)
abbrev Q16:Prop:=qJ P w K mg base 7 "need_load" ["store","thing"] (spD K ji)
abbrev Q17:Prop:=qJ P w K mg base 8 "leaves" ["store","load"] (spD K qA)
abbrev Q18:Prop:=qJ P w K mg base 6 "whole_load" ["store"] (spD K zo)
abbrev Q19:Prop:=qJ P w K mg base 1 "most_within" ["kind","room"] (spD K zT)
abbrev Q20:Prop:=qJ P w K mg base 3 "need_count" ["thing"] (spD K yr)
abbrev Q21:Prop:=qJ P w K mg base 6 "bounded" ["store","room"] (spD K qS)
abbrev Q22:Prop:=qJ P w K mg base 1 "taken_together" ["store","load","part"] (spD K qW)
abbrev Q23:Prop:=qJ P w K mg base 8 "fits" ["store","load","room"] (spD K yj)
abbrev Q24:Prop:=qJ P w K mg base 8 "weight" ["store","load"] (spD K qH)
abbrev Q25:Prop:=qJ P w K mg base 1 "_law_take" ["box","many"] (qcW K qi)
abbrev Q26:Prop:=qJ P w K mg base 8 "worth" ["store","load"] (spD K zx)
abbrev Q27:Prop:=qJ P w K mg base 2 "_law_any_load" ["box","store"] (qcW K qy)
abbrev Q28:Prop:=qJ P w K mg base 2 "_law_kind_of" ["box","ends"] (qcW K zb)
abbrev Q29:Prop:=qJ P w K mg base 3 "_law_stocked" ["box","most","ends"] (qcW K zc)
abbrev Q30:Prop:=qJ P w K mg base 1 "_law_mix" ["cell","k"] (spD K jU)
abbrev Q31:Prop:=qJ P w K mg base 1 "_law_cell" ["script","k"] (spD K jk)
abbrev Q32:Prop:=qJ P w K mg base 2 "_law_box" ["script","k"] (spD K zQ)
end
theorem q0 (F:Fun K "is_whole" "is_whole" jM f fd) (m:mg "is_whole"=some (.ref f)) (T:Txt K mg):Q0 P w K mg base:=by
 refine⟨f,fd,?_,m,F.kp,F.binds λ_ _ _ _ _ _ us hl=>match us,hl with | [_],_=>rfl⟩
 exact qF (N:=["thing"]) (O:=[]) (body:=u5) F qbM (by decide) λcdv A outer s H E B hr=>(qh (qw (qaJ (wE qgP rfl T.b_isinstance rfl T.b_int qdE (qc 0) zF) (vd (qiM (wE qeK rfl T.b_isinstance rfl T.b_bool qg4 (qc 0) zF))))))
theorem qbN:qp ["thing"] ["thing"] (qe jN):=⟨rfl,rfl,rfl,by decide +kernel,rfl,by decide +kernel,by decide +kernel⟩
theorem q1 (F:Fun K "is_count" "is_count" jN f fd) (m:mg "is_count"=some (.ref f)) (T:Txt K mg) (C_is_whole:Q0 P w K mg base):Q1 P w K mg base:=by
 refine⟨f,fd,?_,m,F.kp,F.binds λ_ _ _ _ _ _ us hl=>match us,hl with | [_],_=>rfl⟩
 exact qF (N:=["thing"]) (O:=[]) (body:=u6) F qbN (by decide) λcdv A outer s H E B hr=>(qh (qw (qaJ (dC C_is_whole hr (qb (qc 0) qf)) (vd (uw qgw qdm (qc 0) qj (qB _))))))
theorem qcS:qp ["thing"] ["thing"] (qe yC):=⟨rfl,rfl,rfl,by decide +kernel,rfl,by decide +kernel,by decide +kernel⟩
theorem q2 (F:Fun K "is_kind" "is_kind" yC f fd) (m:mg "is_kind"=some (.ref f)) (T:Txt K mg) (C_is_count:Q1 P w K mg base):Q2 P w K mg base:=by
 refine⟨f,fd,?_,m,F.kp,F.binds λ_ _ _ _ _ _ us hl=>match us,hl with | [_],_=>rfl⟩
 exact qF (N:=["thing"]) (O:=[]) (body:=v6) F qcS (by decide) λcdv A outer s H E B hr=>(qg (zY (DW.dt (wx (yR (yo (wE vL rfl T.b_isinstance rfl T.b_tuple jp (qc 0) zF))) (uH (qN (yx hr) z7 (qX js jY rfl T.b_len vT (qb (qc 0) qf)) qj (qB _))))) (qh (qw uG)) qx)
   (qg (zY (DW.dt (wx (yR (yo (dC C_is_count hr (qb (qZ zk zh (qc 0) (gI T.c_WEIGHT)) qf)))) (uH (qN (y7 hr) j9 (qZ zk zh (qc 0) (gI T.c_WEIGHT)) qj (qB _))))) (qh (qw uG)) qx)
   (qh (qw (qaJ (dC C_is_count hr (qb (qZ zk zh (qc 0) (gI T.c_WORTH)) qf)) (vd (qgF (uw vc yV (qZ zk zh (qc 0) (gI T.c_MOST)) jG (qB _)) (vd (dC C_is_count hr (qb (qZ zk zh (qc 0) (gI T.c_MOST)) qf))))))))))
theorem yt:qp ["word","number","sign"] ["word"] (qe z8):=⟨rfl,rfl,rfl,by decide +kernel,rfl,by decide +kernel,by decide +kernel⟩
theorem q3 (F:Fun K "number_of" "number_of" z8 f fd) (m:mg "number_of"=some (.ref f)) (T:Txt K mg):Q3 P w K mg base:=by
 refine⟨f,fd,?_,m,F.kp,F.binds λ_ _ _ _ _ _ us hl=>match us,hl with | [_],_=>rfl⟩
 exact qF (N:=["word","number","sign"]) (O:=[]) (body:=v7) F yt (by decide) λcdv A outer s H E B hr=>(qg (qO (i:=1) yt.nd qj)
   (qg (qaP ybP rfl (qgc (qc 0)) (qP (i:=2) yt.nd) (qh (qO (i:=1) yt.nd (qC zp zq (qC yG jJ (qc 1) qj) (jW qdZ qcL rfl T.b_int qdE (qb (qc 2) qf))))))
   (qh (qw (qc 1)))))
theorem qar:qp ["word"] ["word"] (qe zB):=⟨rfl,rfl,rfl,by decide +kernel,rfl,by decide +kernel,by decide +kernel⟩
theorem q4 (F:Fun K "is_figures" "is_figures" zB f fd) (m:mg "is_figures"=some (.ref f)) (T:Txt K mg):Q4 P w K mg base:=by
 refine⟨f,fd,?_,m,F.kp,F.binds λ_ _ _ _ _ _ us hl=>match us,hl with | [_],_=>rfl⟩
 exact qF (N:=["word"]) (O:=[]) (body:=vh) F qar (by decide) λcdv A outer s H E B hr=>(qg (zY (DW.dt (wx (qN (y7 hr) j9 (qc 0) yn (qB _)) (uH (yR (yo (qX (w5 rfl) vM rfl T.b_all qdC (qb (jA (fo:=none) rfl (qgc (qc 0)) (cs ["word"] ["sign"] 1 [] (qe zB)) (f0 [] []) (λ_ _ _ _ _ _ _ _ _ _ _=>⟨(qP (i:=0) (nd ["sign"])),yZ,(uw qc6 qhu (qc 0) (gS T.c_FIGURES) rfl)⟩)) qf))))))) (qh (qw uG)) qx)
   (qh (qw (qgF (uw (y7 hr) j9 (qc 0) yn (qB _)) (vd (uw (yx hr) z7 (qZ ua zA (qc 0) qj) yn (qB _)))))))
theorem jx:qp ["word","front","back","most","kind"] ["word"] (qe z9):=⟨rfl,rfl,rfl,by decide +kernel,rfl,by decide +kernel,by decide +kernel⟩
theorem q5 (F:Fun K "read_kind" "read_kind" z9 f fd) (m:mg "read_kind"=some (.ref f)) (T:Txt K mg) (C_is_kind:Q2 P w K mg base) (C_number_of:Q3 P w K mg base) (C_is_figures:Q4 P w K mg base):Q5 P w K mg base:=by
 refine⟨f,fd,?_,m,F.kp,F.binds λ_ _ _ _ _ _ us hl=>match us,hl with | [_],_=>rfl⟩
 exact qF (N:=["word","front","back","most","kind"]) (O:=[]) (body:=uC) F jx (by decide) λcdv A outer s H E B hr=>(qg (qO (i:=1) jx.nd (vw ydb ydc qdX wM (qc 0) (qb yn qf)))
   (qg (qO (i:=2) jx.nd (vw ydb ydc qdX wM (qZ ua zA (qc 1) qj) (qb yn qf)))
   (qg (zY (DW.dt (wx (qN (y7 hr) j9 (qZ ua zA (qc 2) qj) yn (qB _)) (wx (yR (yo (dC C_is_figures hr (qb (qZ ua zA (qc 1) qj) qf)))) (uH (yR (yo (dC C_is_figures hr (qb (qZ ua zA (qc 2) qj) qf)))))))) (qh (qw jG)) qx)
   (qg (zY (DW.dt (qdi (qN (yx hr) z7 (qZ ua zA (qc 2) qj) yn (qB _)) (qbp (yR (yo (dC C_is_figures hr (qb (qZ ua zA (qc 2) qj) qf))))))) (qh (qw jG)) qx)
   (qg (qO (i:=3) jx.nd (qdk (qN (y7 hr) j9 (qZ ua zA (qc 2) qj) yn (qB _)) jG (dC C_number_of hr (qb (qZ ua zA (qc 2) qj) qf))))
   (qg (qO (i:=4) jx.nd (qbV (qb (dC C_number_of hr (qb (qZ ua zA (qc 1) qj) qf)) (qb (dC C_number_of hr (qb (qZ ua zA (qc 2) qj) qf)) (qb (qc 3) qf)))))
   (qh (qw (qdk (yo (dC C_is_kind hr (qb (qc 4) qf))) (qc 4) jG)))))))))
theorem wl:qp ["text","kinds","at","word","kind"] ["text"] (qe wO):=⟨rfl,rfl,rfl,by decide +kernel,rfl,by decide +kernel,by decide +kernel⟩
theorem q6 (F:Fun K "read" "read" wO f fd) (m:mg "read"=some (.ref f)) (T:Txt K mg) (C_read_kind:Q5 P w K mg base):Q6 P w K mg base:=by
 refine⟨f,fd,?_,m,F.kp,F.binds λ_ _ _ _ _ _ us hl=>match us,hl with | [_],_=>rfl⟩
 exact qF (N:=["text","kinds","at","word","kind"]) (O:=[1]) (body:=qd9) F wl (by decide) λcdv A outer s H E B hr=>(qg (zY (yR (yo (wE qgQ rfl T.b_isinstance rfl T.b_str qje (qc 0) zF))) (qh y0) qx)
   (qg (zY (qN (y7 hr) j9 (qc 0) yn (qB _)) (qh (qw (qbV qf))) qx)
   (qg (w9 (i:=1) wl.nd (qdw qf))
   (qg (qaP ybP rfl (qfb rfl T.b_enumerate (qb (vw PySem.F.slot_str_split PySem.F.type_str_split qfg qbC (qc 0) (qb yn qf)) qf)) (qaK (n:=2) rfl (jn (qP (i:=2) wl.nd) (jn (qP (i:=3) wl.nd) vI))) (qg (qO (i:=4) wl.nd (dC C_read_kind hr (qb (qc 3) qf)))
   (qg (zY (DW.dt (wx (qN vc yV (qc 4) jG (qB _)) (uH (qN qgw qdm (qc 2) (gI T.c_KINDS_AT_MOST) (qB _))))) (qh y0) qx)
   (qh (z5 (vP (i:=1) (qc 4)))))))
   (qh (qw (qdx (i:=1) rfl T.b_tuple jp)))))))
theorem ur:qp ["number","signs","rest"] ["number"] (qe yD):=⟨rfl,rfl,rfl,by decide +kernel,rfl,by decide +kernel,by decide +kernel⟩
theorem q7 (F:Fun K "figures" "figures" yD f fd) (m:mg "figures"=some (.ref f)) (T:Txt K mg):Q7 P w K mg base:=by
 refine⟨f,fd,?_,m,F.kp,F.binds λ_ _ _ _ _ _ us hl=>match us,hl with | [_],_=>rfl⟩
 exact qF (N:=["number","signs","rest"]) (O:=[1]) (body:=qa8) F ur (by decide) λcdv A outer s H E B hr=>(qg (w9 (i:=1) ur.nd (qdw (qb (qZ ua zA (gS T.c_FIGURES) (qC vA uz (qc 0) qj)) qf)))
   (qg (qO (i:=2) ur.nd (qC uS ug (qc 0) qj))
   (qg (qdQ 40 ybP (qN qiv qfO (qc 2) qj (qB _)) (qg (z5 (vP (i:=1) (qZ ua zA (gS T.c_FIGURES) (qC vA uz (qc 2) qj))))
   (qh (qO (i:=2) ur.nd (qC uS ug (qc 2) qj)))))
   (qh (qw (qhA (i:=1) rfl rfl T.b_reversed))))))
theorem vk:qp ["kind","most"] ["kind"] (qe ja):=⟨rfl,rfl,rfl,by decide +kernel,rfl,by decide +kernel,by decide +kernel⟩
theorem q8 (F:Fun K "show_kind" "show_kind" ja f fd) (m:mg "show_kind"=some (.ref f)) (T:Txt K mg) (C_figures:Q7 P w K mg base):Q8 P w K mg base:=by
 refine⟨f,fd,?_,m,F.kp,F.binds λ_ _ _ _ _ _ us hl=>match us,hl with | [_],_=>rfl⟩
 exact qF (N:=["kind","most"]) (O:=[]) (body:=uD) F vk (by decide) λcdv A outer s H E B hr=>(qg (qO (i:=1) vk.nd (qdk (qN vc yV (qZ ua zA (qc 0) (gI T.c_MOST)) jG (qB _)) yn (dC C_figures hr (qb (qZ ua zA (qc 0) (gI T.c_MOST)) qf))))
   (qh (qw (qC zp zq (qC zp zq (qC zp zq (qC zp zq (dC C_figures hr (qb (qZ ua zA (qc 0) (gI T.c_WEIGHT)) qf)) yn) (dC C_figures hr (qb (qZ ua zA (qc 0) (gI T.c_WORTH)) qf))) yn) (qc 1)))))
theorem qbO:qp ["thing"] ["thing"] (qe jb):=⟨rfl,rfl,rfl,by decide +kernel,rfl,by decide +kernel,by decide +kernel⟩
theorem q9 (F:Fun K "is_store" "is_store" jb f fd) (m:mg "is_store"=some (.ref f)) (T:Txt K mg) (C_is_kind:Q2 P w K mg base):Q9 P w K mg base:=by
 refine⟨f,fd,?_,m,F.kp,F.binds λ_ _ _ _ _ _ us hl=>match us,hl with | [_],_=>rfl⟩
 exact qF (N:=["thing"]) (O:=[]) (body:=u7) F qbO (by decide) λcdv A outer s H E B hr=>(qg (zY (DW.dt (wx (yR (yo (wE vL rfl T.b_isinstance rfl T.b_tuple jp (qc 0) zF))) (uH (qN qiv qfO (qX js jY rfl T.b_len vT (qb (qc 0) qf)) (gI T.c_KINDS_AT_MOST) (qB _))))) (qh (qw uG)) qx)
   (qh (qw (qX (w5 rfl) vM rfl T.b_all qdC (qb (jA (fo:=none) rfl (vN (qc 0)) (cs ["thing"] ["part"] 1 [] (qe jb)) (f0 [] []) (λ_ _ _ _ _ _ _ _ _ _ _=>⟨(qP (i:=0) (nd ["part"])),yZ,(dC C_is_kind hr (qb (qc 0) qf))⟩)) qf)))))
theorem qas:qp ["thing"] ["thing"] (qe zL):=⟨rfl,rfl,rfl,by decide +kernel,rfl,by decide +kernel,by decide +kernel⟩
theorem q10 (F:Fun K "need_store" "need_store" zL f fd) (m:mg "need_store"=some (.ref f)) (T:Txt K mg) (C_is_store:Q9 P w K mg base):Q10 P w K mg base:=by
 refine⟨f,fd,?_,m,F.kp,F.binds λ_ _ _ _ _ _ us hl=>match us,hl with | [_],_=>rfl⟩
 exact qF (N:=["thing"]) (O:=[]) (body:=jv) F qas (by decide) λcdv A outer s H E B hr=>(qh (zY (yR (yo (dC C_is_store hr (qb (qc 0) qf)))) (qh y0) qx))
theorem qhT:qp ["store"] ["store"] (qe v4):=⟨rfl,rfl,rfl,by decide +kernel,rfl,by decide +kernel,by decide +kernel⟩
theorem q11 (F:Fun K "show" "show" v4 f fd) (m:mg "show"=some (.ref f)) (T:Txt K mg) (C_show_kind:Q8 P w K mg base) (C_need_store:Q10 P w K mg base):Q11 P w K mg base:=by
 refine⟨f,fd,?_,m,F.kp,F.binds λ_ _ _ _ _ _ us hl=>match us,hl with | [_],_=>rfl⟩
 exact qF (N:=["store"]) (O:=[]) (body:=qea) F qhT (by decide) λcdv A outer s H E B hr=>(qg (z5 (dC C_need_store hr (qb (qc 0) qf)))
   (qh (qw (vw PySem.F.slot_str_join PySem.F.type_str_join qhv qcJ yn (qb (jA (fo:=none) rfl (vN (qc 0)) (cs ["store"] ["kind"] 1 [] (qe v4)) (f0 [] []) (λ_ _ _ _ _ _ _ _ _ _ _=>⟨(qP (i:=0) (nd ["kind"])),yZ,(dC C_show_kind hr (qb (qc 0) qf))⟩)) qf)))))
theorem qbc:qp ["kind","most"] ["kind","most"] (qe jc):=⟨rfl,rfl,rfl,by decide +kernel,rfl,by decide +kernel,by decide +kernel⟩
theorem q12 (F:Fun K "with_most" "with_most" jc f fd) (m:mg "with_most"=some (.ref f)) (T:Txt K mg):Q12 P w K mg base:=by
 refine⟨f,fd,?_,m,F.kp,F.binds λ_ _ _ _ _ _ us hl=>match us,hl with | [_,_],_=>rfl⟩
 exact qF (N:=["kind","most"]) (O:=[]) (body:=yK) F qbc (by decide) λcdv A outer s H E B hr=>(qh (qw (qbV (qb (qZ zk zh (qc 0) (gI T.c_WEIGHT)) (qb (qZ zk zh (qc 0) (gI T.c_WORTH)) (qb (qc 1) qf))))))
theorem qbd:qp ["kind","times"] ["kind","times"] (qe jd):=⟨rfl,rfl,rfl,by decide +kernel,rfl,by decide +kernel,by decide +kernel⟩
theorem q13 (F:Fun K "most_left" "most_left" jd f fd) (m:mg "most_left"=some (.ref f)) (T:Txt K mg):Q13 P w K mg base:=by
 refine⟨f,fd,?_,m,F.kp,F.binds λ_ _ _ _ _ _ us hl=>match us,hl with | [_,_],_=>rfl⟩
 exact qF (N:=["kind","times"]) (O:=[]) (body:=v8) F qbd (by decide) λcdv A outer s H E B hr=>(qh (qw (qdk (qN vc yV (qZ zk zh (qc 0) (gI T.c_MOST)) jG (qB _)) jG (qC qfH qdl (qZ zk zh (qc 0) (gI T.c_MOST)) (qc 1)))))
theorem qbP:qp ["kind","times"] ["kind","times"] (qe jO):=⟨rfl,rfl,rfl,by decide +kernel,rfl,by decide +kernel,by decide +kernel⟩
theorem q14 (F:Fun K "can_take" "can_take" jO f fd) (m:mg "can_take"=some (.ref f)) (T:Txt K mg) (C_is_count:Q1 P w K mg base):Q14 P w K mg base:=by
 refine⟨f,fd,?_,m,F.kp,F.binds λ_ _ _ _ _ _ us hl=>match us,hl with | [_,_],_=>rfl⟩
 exact qF (N:=["kind","times"]) (O:=[]) (body:=u8) F qbP (by decide) λcdv A outer s H E B hr=>(qh (qw (qaJ (dC C_is_count hr (qb (qc 1) qf)) (vd (qgF (uw vc yV (qZ zk zh (qc 0) (gI T.c_MOST)) jG (qB _)) (vd (uw qiu qfN (qc 1) (qZ zk zh (qc 0) (gI T.c_MOST)) (qB _))))))))
theorem qcT:qp ["thing","store"] ["thing","store"] (qe yf):=⟨rfl,rfl,rfl,by decide +kernel,rfl,by decide +kernel,by decide +kernel⟩
theorem q15 (F:Fun K "is_load" "is_load" yf f fd) (m:mg "is_load"=some (.ref f)) (T:Txt K mg) (C_can_take:Q14 P w K mg base) (C_need_store:Q10 P w K mg base):Q15 P w K mg base:=by
 refine⟨f,fd,?_,m,F.kp,F.binds λ_ _ _ _ _ _ us hl=>match us,hl with | [_,_],_=>rfl⟩
 exact qF (N:=["thing","store"]) (O:=[]) (body:=v9) F qcT (by decide) λcdv A outer s H E B hr=>(qg (z5 (dC C_need_store hr (qb (qc 1) qf)))
   (qg (zY (DW.dt (wx (yR (yo (wE vL rfl T.b_isinstance rfl T.b_tuple jp (qc 0) zF))) (uH (qN (yx hr) z7 (qX js jY rfl T.b_len vT (qb (qc 0) qf)) (qX js jY rfl T.b_len vT (qb (qc 1) qf)) (qB _))))) (qh (qw uG)) qx)
   (qh (qw (qX (w5 rfl) vM rfl T.b_all qdC (qb (jA (fo:=none) rfl (qdB rfl T.b_zip (qb (qc 1) (qb (qc 0) qf))) (cs ["thing","store"] ["kind","times"] 2 [] (qe yf)) (f0 [] []) (λ_ _ _ _ _ _ _ _ _ _ _=>⟨(qaK (n:=2) rfl (jn (qP (i:=0) (nd ["kind","times"])) (jn (qP (i:=1) (nd ["kind","times"])) vI))),yZ,(dC C_can_take hr (qb (qc 0) (qb (qc 1) qf)))⟩)) qf))))))
theorem qbe:qp ["store","thing"] ["store","thing"] (qe je):=⟨rfl,rfl,rfl,by decide +kernel,rfl,by decide +kernel,by decide +kernel⟩
theorem q16 (F:Fun K "need_load" "need_load" je f fd) (m:mg "need_load"=some (.ref f)) (T:Txt K mg) (C_is_load:Q15 P w K mg base):Q16 P w K mg base:=by
 refine⟨f,fd,?_,m,F.kp,F.binds λ_ _ _ _ _ _ us hl=>match us,hl with | [_,_],_=>rfl⟩
 exact qF (N:=["store","thing"]) (O:=[]) (body:=yi) F qbe (by decide) λcdv A outer s H E B hr=>(qh (zY (yR (yo (dC C_is_load hr (qb (qc 1) (qb (qc 0) qf))))) (qh y0) qx))
theorem qel:qp ["store","load"] ["store","load"] (qe yJ):=⟨rfl,rfl,rfl,by decide +kernel,rfl,by decide +kernel,by decide +kernel⟩
theorem q17 (F:Fun K "leaves" "leaves" yJ f fd) (m:mg "leaves"=some (.ref f)) (T:Txt K mg) (C_with_most:Q12 P w K mg base) (C_most_left:Q13 P w K mg base) (C_need_load:Q16 P w K mg base):Q17 P w K mg base:=by
 refine⟨f,fd,?_,m,F.kp,F.binds λ_ _ _ _ _ _ us hl=>match us,hl with | [_,_],_=>rfl⟩
 exact qF (N:=["store","load"]) (O:=[]) (body:=qaj) F qel (by decide) λcdv A outer s H E B hr=>(qg (z5 (dC C_need_load hr (qb (qc 0) (qb (qc 1) qf))))
   (qh (qw (jW zE jZ rfl T.b_tuple jp (qb (jA (fo:=none) rfl (qdB rfl T.b_zip (qb (qc 0) (qb (qc 1) qf))) (cs ["store","load"] ["kind","times"] 2 [] (qe yJ)) (f0 [] []) (λ_ _ _ _ _ _ _ _ _ _ _=>⟨(qaK (n:=2) rfl (jn (qP (i:=0) (nd ["kind","times"])) (jn (qP (i:=1) (nd ["kind","times"])) vI))),yZ,(dC C_with_most hr (qb (qc 0) (qb (dC C_most_left hr (qb (qc 0) (qb (qc 1) qf))) qf)))⟩)) qf)))))
theorem qat:qp ["store"] ["store"] (qe zn):=⟨rfl,rfl,rfl,by decide +kernel,rfl,by decide +kernel,by decide +kernel⟩
theorem q18 (F:Fun K "whole_load" "whole_load" zn f fd) (m:mg "whole_load"=some (.ref f)) (T:Txt K mg) (C_need_store:Q10 P w K mg base):Q18 P w K mg base:=by
 refine⟨f,fd,?_,m,F.kp,F.binds λ_ _ _ _ _ _ us hl=>match us,hl with | [_],_=>rfl⟩
 exact qF (N:=["store"]) (O:=[]) (body:=uc) F qat (by decide) λcdv A outer s H E B hr=>(qg (z5 (dC C_need_store hr (qb (qc 0) qf)))
   (qg (zY (yo (qX (qeN rfl) qdq rfl T.b_any qjc (qb (jA (fo:=none) rfl (vN (qc 0)) (cs ["store"] ["kind"] 1 [] (qe zn)) (f0 [] []) (λ_ _ _ _ _ _ _ _ _ _ _=>⟨(qP (i:=0) (nd ["kind"])),yZ,(uw vc yV (qZ zk zh (qc 0) (gI T.c_MOST)) jG (qB _))⟩)) qf))) (qh (qw jG)) qx)
   (qh (qw (jW zE jZ rfl T.b_tuple jp (qb (jA (fo:=none) rfl (vN (qc 0)) (cs ["store"] ["kind"] 1 [] (qe zn)) (f0 [] []) (λ_ _ _ _ _ _ _ _ _ _ _=>⟨(qP (i:=0) (nd ["kind"])),yZ,(qZ zk zh (qc 0) (gI T.c_MOST))⟩)) qf))))))
theorem uy:qp ["kind","room","alone"] ["kind","room"] (qe zG):=⟨rfl,rfl,rfl,by decide +kernel,rfl,by decide +kernel,by decide +kernel⟩
theorem q19 (F:Fun K "most_within" "most_within" zG f fd) (m:mg "most_within"=some (.ref f)) (T:Txt K mg):Q19 P w K mg base:=by
 refine⟨f,fd,?_,m,F.kp,F.binds λ_ _ _ _ _ _ us hl=>match us,hl with | [_,_],_=>rfl⟩
 exact qF (N:=["kind","room","alone"]) (O:=[]) (body:=yM) F uy (by decide) λcdv A outer s H E B hr=>(qg (qO (i:=2) uy.nd (qC uS ug (qc 1) (qZ zk zh (qc 0) (gI T.c_WEIGHT))))
   (qh (qw (qdk (qN vc yV (qZ zk zh (qc 0) (gI T.c_MOST)) jG (qB _)) (qc 2) (qX (qay rfl) qaM rfl T.b_min qf0 (qb (qc 2) (qb (qZ zk zh (qc 0) (gI T.c_MOST)) qf)))))))
theorem qau:qp ["thing"] ["thing"] (qe zM):=⟨rfl,rfl,rfl,by decide +kernel,rfl,by decide +kernel,by decide +kernel⟩
theorem q20 (F:Fun K "need_count" "need_count" zM f fd) (m:mg "need_count"=some (.ref f)) (T:Txt K mg) (C_is_count:Q1 P w K mg base):Q20 P w K mg base:=by
 refine⟨f,fd,?_,m,F.kp,F.binds λ_ _ _ _ _ _ us hl=>match us,hl with | [_],_=>rfl⟩
 exact qF (N:=["thing"]) (O:=[]) (body:=jw) F qau (by decide) λcdv A outer s H E B hr=>(qh (zY (yR (yo (dC C_is_count hr (qb (qc 0) qf)))) (qh y0) qx))
theorem qcU:qp ["store","room"] ["store","room"] (qe yg):=⟨rfl,rfl,rfl,by decide +kernel,rfl,by decide +kernel,by decide +kernel⟩
theorem q21 (F:Fun K "bounded" "bounded" yg f fd) (m:mg "bounded"=some (.ref f)) (T:Txt K mg) (C_with_most:Q12 P w K mg base) (C_most_within:Q19 P w K mg base) (C_need_count:Q20 P w K mg base) (C_need_store:Q10 P w K mg base):Q21 P w K mg base:=by
 refine⟨f,fd,?_,m,F.kp,F.binds λ_ _ _ _ _ _ us hl=>match us,hl with | [_,_],_=>rfl⟩
 exact qF (N:=["store","room"]) (O:=[]) (body:=wd) F qcU (by decide) λcdv A outer s H E B hr=>(qg (z5 (dC C_need_store hr (qb (qc 0) qf)))
   (qg (z5 (dC C_need_count hr (qb (qc 1) qf)))
   (qh (qw (jW zE jZ rfl T.b_tuple jp (qb (jA (fo:=none) rfl (vN (qc 0)) (cs ["store","room"] ["kind","room"] 1 [1] (qe yg)) (f0 [1] []) (λ_ _ _ _ _ _ _ _ _ _ _=>⟨(qP (i:=0) (nd ["kind","room"])),yZ,(dC C_with_most hr (qb (qc 0) (qb (dC C_most_within hr (qb (qc 0) (qb (qc 1) qf))) qf)))⟩)) qf))))))
theorem va:qp ["store","load","part"] ["store","load","part"] (qe qM):=⟨rfl,rfl,rfl,by decide +kernel,rfl,by decide +kernel,by decide +kernel⟩
theorem q22 (F:Fun K "taken_together" "taken_together" qM f fd) (m:mg "taken_together"=some (.ref f)) (T:Txt K mg):Q22 P w K mg base:=by
 refine⟨f,fd,?_,m,F.kp,F.binds λ_ _ _ _ _ _ us hl=>match us,hl with | [_,_,_],_=>rfl⟩
 exact qF (N:=["store","load","part"]) (O:=[]) (body:=jE) F va (by decide) λcdv A outer s H E B hr=>(qh (qw (qX (qeO rfl) qdr rfl T.b_sum qjd (qb (jA (fo:=none) rfl (qdB rfl T.b_zip (qb (qc 0) (qb (qc 1) qf))) (cs ["store","load","part"] ["kind","times","part"] 2 [2] (qe qM)) (f0 [2] []) (λ_ _ _ _ _ _ _ _ _ _ _=>⟨(qaK (n:=2) rfl (jn (qP (i:=0) (nd ["kind","times","part"])) (jn (qP (i:=1) (nd ["kind","times","part"])) vI))),yZ,(qC yG jJ (qZ zk zh (qc 0) (qc 2)) (qc 1))⟩)) qf))))
theorem qhU:qp ["store","load","room"] ["store","load","room"] (qe wP):=⟨rfl,rfl,rfl,by decide +kernel,rfl,by decide +kernel,by decide +kernel⟩
theorem q23 (F:Fun K "fits" "fits" wP f fd) (m:mg "fits"=some (.ref f)) (T:Txt K mg) (C_taken_together:Q22 P w K mg base) (C_need_count:Q20 P w K mg base) (C_need_load:Q16 P w K mg base):Q23 P w K mg base:=by
 refine⟨f,fd,?_,m,F.kp,F.binds λ_ _ _ _ _ _ us hl=>match us,hl with | [_,_,_],_=>rfl⟩
 exact qF (N:=["store","load","room"]) (O:=[]) (body:=qeb) F qhU (by decide) λcdv A outer s H E B hr=>(qg (z5 (dC C_need_load hr (qb (qc 0) (qb (qc 1) qf))))
   (qg (z5 (dC C_need_count hr (qb (qc 2) qf)))
   (qh (qw (uw qiu qfN (dC C_taken_together hr (qb (qc 0) (qb (qc 1) (qb (gI T.c_WEIGHT) qf)))) (qc 2) (qB _))))))
theorem qem:qp ["store","load"] ["store","load"] (qe ul):=⟨rfl,rfl,rfl,by decide +kernel,rfl,by decide +kernel,by decide +kernel⟩
theorem q24 (F:Fun K "weight" "weight" ul f fd) (m:mg "weight"=some (.ref f)) (T:Txt K mg) (C_taken_together:Q22 P w K mg base) (C_need_load:Q16 P w K mg base):Q24 P w K mg base:=by
 refine⟨f,fd,?_,m,F.kp,F.binds λ_ _ _ _ _ _ us hl=>match us,hl with | [_,_],_=>rfl⟩
 exact qF (N:=["store","load"]) (O:=[]) (body:=qak) F qem (by decide) λcdv A outer s H E B hr=>(qg (z5 (dC C_need_load hr (qb (qc 0) (qb (qc 1) qf))))
   (qh (qw (dC C_taken_together hr (qb (qc 0) (qb (qc 1) (qb (gI T.c_WEIGHT) qf)))))))
theorem ud:qp ["box","many","left","digit"] ["box","many"] (qe jf):=⟨rfl,rfl,rfl,by decide +kernel,rfl,by decide +kernel,by decide +kernel⟩
theorem q25 (F:Fun K "_law_take" "_law_take" jf f fd) (m:mg "_law_take"=some (.ref f)) (T:Txt K mg):Q25 P w K mg base:=by
 refine⟨f,fd,?_,m,F.kp,F.binds λ_ _ _ _ _ _ us hl=>match us,hl with | [_,_],_=>rfl⟩
 show wD P w K mg base CX0 1 f fd ["box","many"] (qcW K (uW (["box","many","left","digit"]:List Str).length (["box","many"]:List Str).length yN))
 refine qeV (N:=["box","many","left","digit"]) (ps:=["box","many"]) (k:=0) (O:=[0]) (body:=yN) F ud ?a ?a0 ?b
 case a=>decide
 case a0=>decide
 intro cdv A outer s H E B Io S hr
 exact (qg (qiO (qX qbi qaN rfl T.b_divmod qdD (qb (qfU (i:=0) qj) (qb (qc 1) qf))) (qaK (n:=2) rfl (jn (qP (i:=2) ud.nd) (jn (qP (i:=3) ud.nd) vI))))
   (qg (qgS (i:=0) (qc 2) qj)
   (qh (qw (qc 3)))))
theorem qfC:qp ["store","load"] ["store","load"] (qe u4):=⟨rfl,rfl,rfl,by decide +kernel,rfl,by decide +kernel,by decide +kernel⟩
theorem q26 (F:Fun K "worth" "worth" u4 f fd) (m:mg "worth"=some (.ref f)) (T:Txt K mg) (C_taken_together:Q22 P w K mg base) (C_need_load:Q16 P w K mg base):Q26 P w K mg base:=by
 refine⟨f,fd,?_,m,F.kp,F.binds λ_ _ _ _ _ _ us hl=>match us,hl with | [_,_],_=>rfl⟩
 exact qF (N:=["store","load"]) (O:=[]) (body:=qbG) F qfC (by decide) λcdv A outer s H E B hr=>(qg (z5 (dC C_need_load hr (qb (qc 0) (qb (qc 1) qf))))
   (qh (qw (dC C_taken_together hr (qb (qc 0) (qb (qc 1) (qb (gI T.c_WORTH) qf)))))))
theorem vm:qp ["box","store"] ["box","store"] (qe qR):=⟨rfl,rfl,rfl,by decide +kernel,rfl,by decide +kernel,by decide +kernel⟩
theorem q27 (F:Fun K "_law_any_load" "_law_any_load" qR f fd) (m:mg "_law_any_load"=some (.ref f)) (T:Txt K mg) (C__law_take:Q25 P w K mg base):Q27 P w K mg base:=by
 refine⟨f,fd,?_,m,F.kp,F.binds λ_ _ _ _ _ _ us hl=>match us,hl with | [_,_],_=>rfl⟩
 show wD P w K mg base CX0 2 f fd ["box","store"] (qcW K (uW (["box","store"]:List Str).length (["box","store"]:List Str).length zU))
 refine qeV (N:=["box","store"]) (ps:=["box","store"]) (k:=1) (O:=[0]) (body:=zU) F vm ?a ?a0 ?b
 case a=>decide
 case a0=>decide
 intro cdv A outer s H E B Io S hr
 exact(qh (qw (jW zE jZ rfl T.b_tuple jp (qb (jA (fo:=(some (1,0))) rfl (vN (qc 1)) (cs ["box","store"] ["kind","box"] 1 [0] (qe qR)) (f1 1 [0] [0] 1 0) (λ_ _ _ _ _ _ _ _ _ _ _=>⟨(qP (i:=0) (nd ["kind","box"])),yZ,(iC (i:=1) C__law_take hr (qb (qC zp zq (qZ zk zh (vH (qb (qZ zk zh (qc 0) qj) (qb qj qf))) (jW qc9 qcv rfl T.b_int qdE (qb (uw vc yV (qZ zk zh (qc 0) qj) jG (qB _)) qf))) qj) qf))⟩)) qf))))
theorem qT:qp ["box","ends","way","heavy","dear","often"] ["box","ends"] (qe zv):=⟨rfl,rfl,rfl,by decide +kernel,rfl,by decide +kernel,by decide +kernel⟩
theorem q28 (F:Fun K "_law_kind_of" "_law_kind_of" zv f fd) (m:mg "_law_kind_of"=some (.ref f)) (T:Txt K mg) (C__law_take:Q25 P w K mg base):Q28 P w K mg base:=by
 refine⟨f,fd,?_,m,F.kp,F.binds λ_ _ _ _ _ _ us hl=>match us,hl with | [_,_],_=>rfl⟩
 show wD P w K mg base CX0 2 f fd ["box","ends"] (qcW K (uW (["box","ends","way","heavy","dear","often"]:List Str).length (["box","ends"]:List Str).length jq))
 refine qeV (N:=["box","ends","way","heavy","dear","often"]) (ps:=["box","ends"]) (k:=1) (O:=[0]) (body:=jq) F qT ?a ?a0 ?b
 case a=>decide
 case a0=>decide
 intro cdv A outer s H E B Io S hr
 exact (qg (qO (i:=2) qT.nd (iC (i:=0) C__law_take hr (qb qj qf)))
   (qg (qfZ (i:=3) (j:=4) qT.nd (qb (qC zp zq qj (iC (i:=0) C__law_take hr (qb qj qf))) (qb (iC (i:=0) C__law_take hr (qb qj qf)) qf)) rfl)
   (qg (zY (qN (y7 hr) j9 (qc 2) qj (qB _)) (qh (qO (i:=4) qT.nd (qC yG jJ qj (qc 3)))) qx)
   (qg (zY (qN (y7 hr) j9 (qc 2) qj (qB _)) (qh (qO (i:=4) qT.nd (qC zp zq (qc 3) (iC (i:=0) C__law_take hr (qb qj qf))))) qx)
   (qg (zY (qN (y7 hr) j9 (qc 2) qj (qB _)) (qh (qfZ (i:=3) (j:=4) qT.nd (qb (qC zp zq qj (iC (i:=0) C__law_take hr (qb qj qf))) (qb (iC (i:=0) C__law_take hr (qb qj qf)) qf)) rfl)) qx)
   (qg (qO (i:=5) qT.nd (qZ zk zh (vH (qb qj (qb qj (qb qj (qb qj (qb qj (qb qj (qb qj (qb (qc 1) qf))))))))) (iC (i:=0) C__law_take hr (qb qj qf))))
   (qh (qw (qbV (qb (qc 3) (qb (qc 4) (qb (qc 5) qf))))))))))))
theorem zC:qp ["box","most","ends","found","k","kind"] ["box","most","ends"] (qe zw):=⟨rfl,rfl,rfl,by decide +kernel,rfl,by decide +kernel,by decide +kernel⟩
theorem q29 (F:Fun K "_law_stocked" "_law_stocked" zw f fd) (m:mg "_law_stocked"=some (.ref f)) (T:Txt K mg) (C__law_take:Q25 P w K mg base) (C__law_kind_of:Q28 P w K mg base):Q29 P w K mg base:=by
 refine⟨f,fd,?_,m,F.kp,F.binds λ_ _ _ _ _ _ us hl=>match us,hl with | [_,_,_],_=>rfl⟩
 show wD P w K mg base CX0 3 f fd ["box","most","ends"] (qcW K (uW (["box","most","ends","found","k","kind"]:List Str).length (["box","most","ends"]:List Str).length jr))
 refine qeV (N:=["box","most","ends","found","k","kind"]) (ps:=["box","most","ends"]) (k:=2) (O:=[0,3]) (body:=jr) F zC ?a ?a0 ?b
 case a=>decide
 case a0=>decide
 intro cdv A outer s H E B Io S hr
 exact (qg (w9 (i:=3) zC.nd (qdw qf))
   (qg (qaP ybP rfl (uJ rfl T.b_range (qb (iC (i:=0) C__law_take hr (qb (qC zp zq (qc 1) qj) qf)) qf)) (qP (i:=4) zC.nd) (qg (qO (i:=5) zC.nd (iC (i:=0) C__law_kind_of hr (qb (qc 2) qf)))
   (qg (zY (DW.dt (qdi (qi3 (i:=3) hr (vH qf)) (qbp (qN (y7 hr) j9 (iC (i:=0) C__law_take hr (qb qj qf)) qj (qB _))))) (qh (qO (i:=5) zC.nd (qfU (i:=3) (iC (i:=0) C__law_take hr (qb (qgT (i:=3) rfl T.b_len) qf))))) qx)
   (qh (z5 (vP (i:=3) (qc 5)))))))
   (qh (qw (qdx (i:=3) rfl T.b_tuple jp)))))
theorem yQ:qp ["cell","k","some","stir"] ["cell","k"] (qe jQ):=⟨rfl,rfl,rfl,by decide +kernel,rfl,by decide +kernel,by decide +kernel⟩
theorem q30 (F:Fun K "_law_mix" "_law_mix" jQ f fd) (m:mg "_law_mix"=some (.ref f)) (T:Txt K mg):Q30 P w K mg base:=by
 refine⟨f,fd,?_,m,F.kp,F.binds λ_ _ _ _ _ _ us hl=>match us,hl with | [_,_],_=>rfl⟩
 exact qF (N:=["cell","k","some","stir"]) (O:=[]) (body:=u9) F yQ (by decide) λcdv A outer s H E B hr=>(qg (qO (i:=2) yQ.nd (vH (qb qj (qb qj (qb qj (qb qj (qb qj (qb qj (qb qj (qb qj (qb qj (qb qj (qb qj (qb qj (qb qj qf)))))))))))))))
   (qg (qO (i:=3) yQ.nd (qC zp zq (qC zp zq (qC yG jJ (qC zp zq (qC vA uz (qc 0) qj) qj) (qZ zk zh (qc 2) (qC vA uz (qc 1) qj))) (qC yG jJ qj (qc 1))) (qC yG jJ qj (qC uS ug (qc 1) qj))))
   (qg (qO (i:=3) yQ.nd (qC vA uz (qc 3) qj))
   (qh (qw (qC uS ug (qC vA uz (qC zp zq (qC yG jJ (qc 3) (qc 3)) (qC yG jJ qj (qc 1))) qj) qj))))))
theorem qbf:qp ["script","k"] ["script","k"] (qe jg):=⟨rfl,rfl,rfl,by decide +kernel,rfl,by decide +kernel,by decide +kernel⟩
theorem q31 (F:Fun K "_law_cell" "_law_cell" jg f fd) (m:mg "_law_cell"=some (.ref f)) (T:Txt K mg):Q31 P w K mg base:=by
 refine⟨f,fd,?_,m,F.kp,F.binds λ_ _ _ _ _ _ us hl=>match us,hl with | [_,_],_=>rfl⟩
 exact qF (N:=["script","k"]) (O:=[]) (body:=yO) F qbf (by decide) λcdv A outer s H E B hr=>(qg (zY (qN qkG qiP (qc 1) (qX js jY rfl T.b_len vT (qb (qc 0) qf)) (qB _)) (qh (qw (qZ zk zh (qc 0) (qc 1)))) qx)
   (qh (qw qj)))
theorem yk:qp ["script","k","cell","number","j"] ["script","k"] (qe jR):=⟨rfl,rfl,rfl,by decide +kernel,rfl,by decide +kernel,by decide +kernel⟩
theorem q32 (F:Fun K "_law_box" "_law_box" jR f fd) (m:mg "_law_box"=some (.ref f)) (T:Txt K mg) (C__law_mix:Q30 P w K mg base) (C__law_cell:Q31 P w K mg base):Q32 P w K mg base:=by
 refine⟨f,fd,?_,m,F.kp,F.binds λ_ _ _ _ _ _ us hl=>match us,hl with | [_,_],_=>rfl⟩
 exact qF (N:=["script","k","cell","number","j"]) (O:=[]) (body:=uq) F yk (by decide) λcdv A outer s H E B hr=>(qg (qO (i:=2) yk.nd (dC C__law_cell hr (qb (qc 0) (qb (qc 1) qf))))
   (qg (zY (qN (y7 hr) j9 (qC vA uz (qc 2) qj) qj (qB _)) (qh (qw (vH (qb (qC uS ug (qX qez qdn rfl T.b_abs qja (qb (qc 2) qf)) qj) qf)))) qx)
   (qg (qO (i:=3) yk.nd qj)
   (qg (qaP ybP rfl (uJ rfl T.b_range (qb qj qf)) (qP (i:=4) yk.nd) (qh (qO (i:=3) yk.nd (qC zp zq (qC yG jJ (qc 3) qj) (dC C__law_mix hr (qb (qc 2) (qb (qc 4) qf)))))))
   (qh (qw (vH (qb (qc 3) qf))))))))
theorem ue:qp ["script","k","box","store","one","rest","other","both","room","some","every"] ["script"] (qe v5):=⟨rfl,rfl,rfl,by decide +kernel,rfl,by decide +kernel,by decide +kernel⟩
theorem qj9 (F:Fun K "law" "law" v5 f fd) (T:Txt K mg) (C_read:Q6 P w K mg base) (C_show:Q11 P w K mg base) (C_leaves:Q17 P w K mg base) (C_whole_load:Q18 P w K mg base) (C_bounded:Q21 P w K mg base) (C_fits:Q23 P w K mg base) (C_is_load:Q15 P w K mg base) (C_weight:Q24 P w K mg base) (C__law_take:Q25 P w K mg base) (C_worth:Q26 P w K mg base) (C__law_any_load:Q27 P w K mg base) (C__law_stocked:Q29 P w K mg base) (C__law_box:Q32 P w K mg base):wD P w K mg base CX0 9 f fd ["script"] (spD K qbH):=by
 exact qF (N:=["script","k","box","store","one","rest","other","both","room","some","every"]) (O:=[2]) (body:=qhH) F ue (by decide) λcdv A outer s H E B hr=>(qg (qaP ybP rfl (uJ rfl T.b_range (qb (qX (qc8 rfl) qdp rfl T.b_max qjb (qb qj (qb (qX (qay rfl) qaM rfl T.b_min qf0 (qb (qX js jY rfl T.b_len vT (qb (qc 0) qf)) (qb qj qf))) qf))) qf)) (qP (i:=1) ue.nd) (qg (w9 (i:=2) ue.nd (nC C__law_box hr (qb (qc 0) (qb (qc 1) qf))))
   (qg (qO (i:=3) ue.nd (iC (i:=2) C__law_stocked hr (qb qj (qb jG qf))))
   (qg (qO (i:=4) ue.nd (iC (i:=2) C__law_any_load hr (qb (qc 3) qf)))
   (qg (qO (i:=5) ue.nd (dC C_leaves hr (qb (qc 3) (qb (qc 4) qf))))
   (qg (qO (i:=6) ue.nd (iC (i:=2) C__law_any_load hr (qb (qc 5) qf)))
   (qg (qO (i:=7) ue.nd (jW zE jZ rfl T.b_tuple jp (qb (jA (fo:=none) rfl (uJ rfl T.b_range (qb (qX js jY rfl T.b_len vT (qb (qc 3) qf)) qf)) (cs ["script","k","box","store","one","rest","other","both","room","some","every"] ["at","one","other"] 1 [4,6] (qe v5)) (f0 [4,6] [2]) (λ_ _ _ _ _ _ _ _ _ _ _=>⟨(qP (i:=0) (nd ["at","one","other"])),yZ,(qC zp zq (qZ zk zh (qc 1) (qc 0)) (qZ zk zh (qc 2) (qc 0)))⟩)) qf)))
   (qg (zY (DW.dt (wx (qN qfd qdS (dC C_is_load hr (qb (qc 7) (qb (qc 3) qf))) uG (qB _)) (uH (qN (yx hr) z7 (dC C_leaves hr (qb (qc 3) (qb (qc 7) qf))) (dC C_leaves hr (qb (qc 5) (qb (qc 6) qf))) (qB _))))) (qh (qw uG)) qx)
   (qg (zY (qN (yx hr) z7 (dC C_weight hr (qb (qc 3) (qb (qc 7) qf))) (qC zp zq (dC C_weight hr (qb (qc 3) (qb (qc 4) qf))) (dC C_weight hr (qb (qc 5) (qb (qc 6) qf)))) (qB _)) (qh (qw uG)) qx)
   (qg (zY (qN (yx hr) z7 (dC C_worth hr (qb (qc 3) (qb (qc 7) qf))) (qC zp zq (dC C_worth hr (qb (qc 3) (qb (qc 4) qf))) (dC C_worth hr (qb (qc 5) (qb (qc 6) qf)))) (qB _)) (qh (qw uG)) qx)
   (qg (qO (i:=8) ue.nd (qC qfH qdl (qC zp zq (dC C_weight hr (qb (qc 3) (qb (qc 7) qf))) (iC (i:=2) C__law_take hr (qb qj qf))) qj))
   (qg (zY (qN qgw qdm (qc 8) qj (qB _)) (qg (qO (i:=9) ue.nd (dC C_bounded hr (qb (qc 3) (qb (qc 8) qf))))
   (qg (zY (qN (yx hr) z7 (dC C_fits hr (qb (qc 3) (qb (qc 7) (qb (qc 8) qf)))) (qaJ (dC C_is_load hr (qb (qc 7) (qb (qc 9) qf))) (vd (dC C_fits hr (qb (qc 9) (qb (qc 7) (qb (qc 8) qf)))))) (qB _)) (qh (qw uG)) qx)
   (qh (zY (qN (yx hr) z7 (dC C_bounded hr (qb (qc 9) (qb (qc 8) qf))) (qc 9) (qB _)) (qh (qw uG)) qx)))) qx)
   (qg (qO (i:=10) ue.nd (dC C_whole_load hr (qb (qc 3) qf)))
   (qg (zY (DW.dt (qdi (qN qgx qeG (qc 10) jG (qB _)) (qbp (qN (yx hr) z7 (jA (fo:=none) rfl (vN (dC C_leaves hr (qb (qc 3) (qb (qc 10) qf)))) (cs ["script","k","box","store","one","rest","other","both","room","some","every"] ["kind"] 1 [] (qe v5)) (f0 [] [2]) (λ_ _ _ _ _ _ _ _ _ _ _=>⟨(qP (i:=0) (nd ["kind"])),(qi0 (qN (yx hr) z7 (qZ zk zh (qc 0) qj) qj (qB _))),(qc 0)⟩)) (vH qf) (qB _))))) (qh (qw uG)) qx)
   (qh (zY (DW.dt (wx (qN (yx hr) z7 (dC C_read hr (qb (dC C_show hr (qb (qc 3) qf)) qf)) (qc 3) (qB _)) (uH (qN (yx hr) z7 (dC C_read hr (qb (dC C_show hr (qb (qc 5) qf)) qf)) (qc 5) (qB _))))) (qh (qw uG)) qx))))))))))))))))
   (qh (qw uG)))
end
theorem all_mk {l:ydJ} {w:World} {K:yah} {h:Heap} {mg:Str->Option Value} {fa f0 f1 f2 f3 f4 f5 f6 f7 f8 f9 f10 f11 f12 f13 f14 f15 f16 f17 f18 f19 f20 f21 f22 f23 f24 f25 f26 f27 f28 f29 f30 f31 f32 f33:Addr} (X:K.In h) (G:h.Ns yad mg) (hfa:mg "law"=some (.ref fa))
  {od0 an0 od1 an1 od2 an2 od3 an3 od4 an4 od5 an5 od6 an6 od7 an7 od8 an8 od9 an9 od10 an10 od11 an11 od12 an12 od13 an13 od14 an14 od15 an15 od16 an16 od17 an17 od18 an18 od19 an19 od20 an20 od21 an21 od22 an22 od23 an23 od24 an24 od25 an25 od26 an26 od27 an27 od28 an28 od29 an29 od30 an30 od31 an31 od32 an32 od33 an33:Option Addr} {sl0 sl1 sl2 sl3 sl4 sl5 sl6 sl7 sl8 sl9 sl10 sl11 sl12 sl13 sl14 sl15 sl16 sl17 sl18 sl19 sl20 sl21 sl22 sl23 sl24 sl25 sl26 sl27 sl28 sl29 sl30 sl31 sl32 sl33:Array (Option Value)} {oc0 kV0 dc0 pm0 cd0 ct0 oc1 kV1 dc1 pm1 cd1 ct1 oc2 kV2 dc2 pm2 cd2 ct2 oc3 kV3 dc3 pm3 cd3 ct3 oc4 kV4 dc4 pm4 cd4 ct4 oc5 kV5 dc5 pm5 cd5 ct5 oc6 kV6 dc6 pm6 cd6 ct6 oc7 kV7 dc7 pm7 cd7 ct7 oc8 kV8 dc8 pm8 cd8 ct8 oc9 kV9 dc9 pm9 cd9 ct9 oc10 kV10 dc10 pm10 cd10 ct10 oc11 kV11 dc11 pm11 cd11 ct11 oc12 kV12 dc12 pm12 cd12 ct12 oc13 kV13 dc13 pm13 cd13 ct13 oc14 kV14 dc14 pm14 cd14 ct14 oc15 kV15 dc15 pm15 cd15 ct15 oc16 kV16 dc16 pm16 cd16 ct16 oc17 kV17 dc17 pm17 cd17 ct17 oc18 kV18 dc18 pm18 cd18 ct18 oc19 kV19 dc19 pm19 cd19 ct19 oc20 kV20 dc20 pm20 cd20 ct20 oc21 kV21 dc21 pm21 cd21 ct21 oc22 kV22 dc22 pm22 cd22 ct22 oc23 kV23 dc23 pm23 cd23 ct23 oc24 kV24 dc24 pm24 cd24 ct24 oc25 kV25 dc25 pm25 cd25 ct25 oc26 kV26 dc26 pm26 cd26 ct26 oc27 kV27 dc27 pm27 cd27 ct27 oc28 kV28 dc28 pm28 cd28 ct28 oc29 kV29 dc29 pm29 cd29 ct29 oc30 kV30 dc30 pm30 cd30 ct30 oc31 kV31 dc31 pm31 cd31 ct31 oc32 kV32 dc32 pm32 cd32 ct32 oc33 kV33 dc33 pm33 cd33 ct33:Value} {tk_FIGURES:Tok} {tk_KINDS_AT_MOST:Tok} {tk_MOST:Tok} {tk_WEIGHT:Tok} {tk_WORTH:Tok}
  (a0:yaf K yad "is_whole"=some (some (.ref f0))) (l0:K.lookup f0=some ⟨oc0,od0,.func (yap "is_whole" "is_whole" (qr jM) (qm jM) (qe jM) .none kV0 dc0 pm0 an0 cd0 ct0),sl0⟩) (c0:yan K cd0 "is_whole"=true) (k0:yai K (.ref f0)=true)
  (a1:yaf K yad "is_count"=some (some (.ref f1))) (l1:K.lookup f1=some ⟨oc1,od1,.func (yap "is_count" "is_count" (qr jN) (qm jN) (qe jN) .none kV1 dc1 pm1 an1 cd1 ct1),sl1⟩) (c1:yan K cd1 "is_count"=true) (k1:yai K (.ref f1)=true)
  (a2:yaf K yad "is_kind"=some (some (.ref f2))) (l2:K.lookup f2=some ⟨oc2,od2,.func (yap "is_kind" "is_kind" (qr yC) (qm yC) (qe yC) .none kV2 dc2 pm2 an2 cd2 ct2),sl2⟩) (c2:yan K cd2 "is_kind"=true) (k2:yai K (.ref f2)=true)
  (a3:yaf K yad "number_of"=some (some (.ref f3))) (l3:K.lookup f3=some ⟨oc3,od3,.func (yap "number_of" "number_of" (qr z8) (qm z8) (qe z8) .none kV3 dc3 pm3 an3 cd3 ct3),sl3⟩) (c3:yan K cd3 "number_of"=true) (k3:yai K (.ref f3)=true)
  (a4:yaf K yad "is_figures"=some (some (.ref f4))) (l4:K.lookup f4=some ⟨oc4,od4,.func (yap "is_figures" "is_figures" (qr zB) (qm zB) (qe zB) .none kV4 dc4 pm4 an4 cd4 ct4),sl4⟩) (c4:yan K cd4 "is_figures"=true) (k4:yai K (.ref f4)=true)
  (a5:yaf K yad "read_kind"=some (some (.ref f5))) (l5:K.lookup f5=some ⟨oc5,od5,.func (yap "read_kind" "read_kind" (qr z9) (qm z9) (qe z9) .none kV5 dc5 pm5 an5 cd5 ct5),sl5⟩) (c5:yan K cd5 "read_kind"=true) (k5:yai K (.ref f5)=true)
  (a6:yaf K yad "read"=some (some (.ref f6))) (l6:K.lookup f6=some ⟨oc6,od6,.func (yap "read" "read" (qr wO) (qm wO) (qe wO) .none kV6 dc6 pm6 an6 cd6 ct6),sl6⟩) (c6:yan K cd6 "read"=true) (k6:yai K (.ref f6)=true)
  (a7:yaf K yad "figures"=some (some (.ref f7))) (l7:K.lookup f7=some ⟨oc7,od7,.func (yap "figures" "figures" (qr yD) (qm yD) (qe yD) .none kV7 dc7 pm7 an7 cd7 ct7),sl7⟩) (c7:yan K cd7 "figures"=true) (k7:yai K (.ref f7)=true)
  (a8:yaf K yad "show_kind"=some (some (.ref f8))) (l8:K.lookup f8=some ⟨oc8,od8,.func (yap "show_kind" "show_kind" (qr ja) (qm ja) (qe ja) .none kV8 dc8 pm8 an8 cd8 ct8),sl8⟩) (c8:yan K cd8 "show_kind"=true) (k8:yai K (.ref f8)=true)
  (a9:yaf K yad "is_store"=some (some (.ref f9))) (l9:K.lookup f9=some ⟨oc9,od9,.func (yap "is_store" "is_store" (qr jb) (qm jb) (qe jb) .none kV9 dc9 pm9 an9 cd9 ct9),sl9⟩) (c9:yan K cd9 "is_store"=true) (k9:yai K (.ref f9)=true)
  (a10:yaf K yad "need_store"=some (some (.ref f10))) (l10:K.lookup f10=some ⟨oc10,od10,.func (yap "need_store" "need_store" (qr zL) (qm zL) (qe zL) .none kV10 dc10 pm10 an10 cd10 ct10),sl10⟩) (c10:yan K cd10 "need_store"=true) (k10:yai K (.ref f10)=true)
  (a11:yaf K yad "show"=some (some (.ref f11))) (l11:K.lookup f11=some ⟨oc11,od11,.func (yap "show" "show" (qr v4) (qm v4) (qe v4) .none kV11 dc11 pm11 an11 cd11 ct11),sl11⟩) (c11:yan K cd11 "show"=true) (k11:yai K (.ref f11)=true)
  (a12:yaf K yad "with_most"=some (some (.ref f12))) (l12:K.lookup f12=some ⟨oc12,od12,.func (yap "with_most" "with_most" (qr jc) (qm jc) (qe jc) .none kV12 dc12 pm12 an12 cd12 ct12),sl12⟩) (c12:yan K cd12 "with_most"=true) (k12:yai K (.ref f12)=true)
  (a13:yaf K yad "most_left"=some (some (.ref f13))) (l13:K.lookup f13=some ⟨oc13,od13,.func (yap "most_left" "most_left" (qr jd) (qm jd) (qe jd) .none kV13 dc13 pm13 an13 cd13 ct13),sl13⟩) (c13:yan K cd13 "most_left"=true) (k13:yai K (.ref f13)=true)
  (a14:yaf K yad "can_take"=some (some (.ref f14))) (l14:K.lookup f14=some ⟨oc14,od14,.func (yap "can_take" "can_take" (qr jO) (qm jO) (qe jO) .none kV14 dc14 pm14 an14 cd14 ct14),sl14⟩) (c14:yan K cd14 "can_take"=true) (k14:yai K (.ref f14)=true)
  (a15:yaf K yad "is_load"=some (some (.ref f15))) (l15:K.lookup f15=some ⟨oc15,od15,.func (yap "is_load" "is_load" (qr yf) (qm yf) (qe yf) .none kV15 dc15 pm15 an15 cd15 ct15),sl15⟩) (c15:yan K cd15 "is_load"=true) (k15:yai K (.ref f15)=true)
  (a16:yaf K yad "need_load"=some (some (.ref f16))) (l16:K.lookup f16=some ⟨oc16,od16,.func (yap "need_load" "need_load" (qr je) (qm je) (qe je) .none kV16 dc16 pm16 an16 cd16 ct16),sl16⟩) (c16:yan K cd16 "need_load"=true) (k16:yai K (.ref f16)=true)
  (a17:yaf K yad "leaves"=some (some (.ref f17))) (l17:K.lookup f17=some ⟨oc17,od17,.func (yap "leaves" "leaves" (qr yJ) (qm yJ) (qe yJ) .none kV17 dc17 pm17 an17 cd17 ct17),sl17⟩) (c17:yan K cd17 "leaves"=true) (k17:yai K (.ref f17)=true)
  (a18:yaf K yad "whole_load"=some (some (.ref f18))) (l18:K.lookup f18=some ⟨oc18,od18,.func (yap "whole_load" "whole_load" (qr zn) (qm zn) (qe zn) .none kV18 dc18 pm18 an18 cd18 ct18),sl18⟩) (c18:yan K cd18 "whole_load"=true) (k18:yai K (.ref f18)=true)
  (a19:yaf K yad "most_within"=some (some (.ref f19))) (l19:K.lookup f19=some ⟨oc19,od19,.func (yap "most_within" "most_within" (qr zG) (qm zG) (qe zG) .none kV19 dc19 pm19 an19 cd19 ct19),sl19⟩) (c19:yan K cd19 "most_within"=true) (k19:yai K (.ref f19)=true)
  (a20:yaf K yad "need_count"=some (some (.ref f20))) (l20:K.lookup f20=some ⟨oc20,od20,.func (yap "need_count" "need_count" (qr zM) (qm zM) (qe zM) .none kV20 dc20 pm20 an20 cd20 ct20),sl20⟩) (c20:yan K cd20 "need_count"=true) (k20:yai K (.ref f20)=true)
  (a21:yaf K yad "bounded"=some (some (.ref f21))) (l21:K.lookup f21=some ⟨oc21,od21,.func (yap "bounded" "bounded" (qr yg) (qm yg) (qe yg) .none kV21 dc21 pm21 an21 cd21 ct21),sl21⟩) (c21:yan K cd21 "bounded"=true) (k21:yai K (.ref f21)=true)
  (a22:yaf K yad "taken_together"=some (some (.ref f22))) (l22:K.lookup f22=some ⟨oc22,od22,.func (yap "taken_together" "taken_together" (qr qM) (qm qM) (qe qM) .none kV22 dc22 pm22 an22 cd22 ct22),sl22⟩) (c22:yan K cd22 "taken_together"=true) (k22:yai K (.ref f22)=true)
  (a23:yaf K yad "fits"=some (some (.ref f23))) (l23:K.lookup f23=some ⟨oc23,od23,.func (yap "fits" "fits" (qr wP) (qm wP) (qe wP) .none kV23 dc23 pm23 an23 cd23 ct23),sl23⟩) (c23:yan K cd23 "fits"=true) (k23:yai K (.ref f23)=true)
  (a24:yaf K yad "weight"=some (some (.ref f24))) (l24:K.lookup f24=some ⟨oc24,od24,.func (yap "weight" "weight" (qr ul) (qm ul) (qe ul) .none kV24 dc24 pm24 an24 cd24 ct24),sl24⟩) (c24:yan K cd24 "weight"=true) (k24:yai K (.ref f24)=true)
  (a25:yaf K yad "_law_take"=some (some (.ref f25))) (l25:K.lookup f25=some ⟨oc25,od25,.func (yap "_law_take" "_law_take" (qr jf) (qm jf) (qe jf) .none kV25 dc25 pm25 an25 cd25 ct25),sl25⟩) (c25:yan K cd25 "_law_take"=true) (k25:yai K (.ref f25)=true)
  (a26:yaf K yad "worth"=some (some (.ref f26))) (l26:K.lookup f26=some ⟨oc26,od26,.func (yap "worth" "worth" (qr u4) (qm u4) (qe u4) .none kV26 dc26 pm26 an26 cd26 ct26),sl26⟩) (c26:yan K cd26 "worth"=true) (k26:yai K (.ref f26)=true)
  (a27:yaf K yad "_law_any_load"=some (some (.ref f27))) (l27:K.lookup f27=some ⟨oc27,od27,.func (yap "_law_any_load" "_law_any_load" (qr qR) (qm qR) (qe qR) .none kV27 dc27 pm27 an27 cd27 ct27),sl27⟩) (c27:yan K cd27 "_law_any_load"=true) (k27:yai K (.ref f27)=true)
  (a28:yaf K yad "_law_kind_of"=some (some (.ref f28))) (l28:K.lookup f28=some ⟨oc28,od28,.func (yap "_law_kind_of" "_law_kind_of" (qr zv) (qm zv) (qe zv) .none kV28 dc28 pm28 an28 cd28 ct28),sl28⟩) (c28:yan K cd28 "_law_kind_of"=true) (k28:yai K (.ref f28)=true)
  (a29:yaf K yad "_law_stocked"=some (some (.ref f29))) (l29:K.lookup f29=some ⟨oc29,od29,.func (yap "_law_stocked" "_law_stocked" (qr zw) (qm zw) (qe zw) .none kV29 dc29 pm29 an29 cd29 ct29),sl29⟩) (c29:yan K cd29 "_law_stocked"=true) (k29:yai K (.ref f29)=true)
  (a30:yaf K yad "_law_mix"=some (some (.ref f30))) (l30:K.lookup f30=some ⟨oc30,od30,.func (yap "_law_mix" "_law_mix" (qr jQ) (qm jQ) (qe jQ) .none kV30 dc30 pm30 an30 cd30 ct30),sl30⟩) (c30:yan K cd30 "_law_mix"=true) (k30:yai K (.ref f30)=true)
  (a31:yaf K yad "_law_cell"=some (some (.ref f31))) (l31:K.lookup f31=some ⟨oc31,od31,.func (yap "_law_cell" "_law_cell" (qr jg) (qm jg) (qe jg) .none kV31 dc31 pm31 an31 cd31 ct31),sl31⟩) (c31:yan K cd31 "_law_cell"=true) (k31:yai K (.ref f31)=true)
  (a32:yaf K yad "_law_box"=some (some (.ref f32))) (l32:K.lookup f32=some ⟨oc32,od32,.func (yap "_law_box" "_law_box" (qr jR) (qm jR) (qe jR) .none kV32 dc32 pm32 an32 cd32 ct32),sl32⟩) (c32:yan K cd32 "_law_box"=true) (k32:yai K (.ref f32)=true)
  (a33:yaf K yad "law"=some (some (.ref f33))) (l33:K.lookup f33=some ⟨oc33,od33,.func (yap "law" "law" (qr v5) (qm v5) (qe v5) .none kV33 dc33 pm33 an33 cd33 ct33),sl33⟩) (c33:yan K cd33 "law"=true) (k33:yai K (.ref f33)=true)
  (zb_abs:yaf K yad "abs"=some none)
  (zb_all:yaf K yad "all"=some none)
  (zb_any:yaf K yad "any"=some none)
  (zb_bool:yaf K yad "bool"=some none)
  (zb_divmod:yaf K yad "divmod"=some none)
  (zb_enumerate:yaf K yad "enumerate"=some none)
  (zb_int:yaf K yad "int"=some none)
  (zb_isinstance:yaf K yad "isinstance"=some none)
  (zb_len:yaf K yad "len"=some none)
  (zb_max:yaf K yad "max"=some none)
  (zb_min:yaf K yad "min"=some none)
  (zb_range:yaf K yad "range"=some none)
  (zb_reversed:yaf K yad "reversed"=some none)
  (zb_str:yaf K yad "str"=some none)
  (zb_sum:yaf K yad "sum"=some none)
  (zb_tuple:yaf K yad "tuple"=some none)
  (zb_zip:yaf K yad "zip"=some none)
  (zg_FIGURES:yaf K yad "FIGURES"=some (some (.str "0123456789" tk_FIGURES)))
  (zg_KINDS_AT_MOST:yaf K yad "KINDS_AT_MOST"=some (some (.int 12 tk_KINDS_AT_MOST)))
  (zg_MOST:yaf K yad "MOST"=some (some (.int 2 tk_MOST)))
  (zg_WEIGHT:yaf K yad "WEIGHT"=some (some (.int 0 tk_WEIGHT)))
  (zg_WORTH:yaf K yad "WORTH"=some (some (.int 1 tk_WORTH))) :
  ∃fd:yaO,(∀(s:yaa)(v:Value),ydo s fd ⟨[v],[]⟩ [("script",v)])/\∀base:Heap,K.In base->base.Ns yad mg->wD l.prog w K mg base CX0 9 fa fd ["script"] (spD K qbH):=by
 have e:=hfa.symm.trans (yam X G a33)
 cases e
 have T:Txt K mg:=⟨yay X G zb_abs,yay X G zb_all,yay X G zb_any,yay X G zb_bool,yay X G zb_divmod,yay X G zb_enumerate,yay X G zb_int,yay X G zb_isinstance,yay X G zb_len,yay X G zb_max,yay X G zb_min,yay X G zb_range,yay X G zb_reversed,yay X G zb_str,yay X G zb_sum,yay X G zb_tuple,yay X G zb_zip,⟨_,yam X G zg_FIGURES⟩,⟨_,yam X G zg_KINDS_AT_MOST⟩,⟨_,yam X G zg_MOST⟩,⟨_,yam X G zg_WEIGHT⟩,⟨_,yam X G zg_WORTH⟩⟩
 refine⟨yap "law" "law" (qr v5) (qm v5) (qe v5) .none kV33 dc33 pm33 an33 cd33 ct33,λs v => .of_eq rfl,λbase hB _=>?_⟩
 have C_is_whole:=q0 (P:=l.prog) (w:=w) (base:=base) (qL (st:=jM) l0 c0 k0) (yam X G a0) T
 have C_is_count:=q1 (P:=l.prog) (w:=w) (base:=base) (qL (st:=jN) l1 c1 k1) (yam X G a1) T C_is_whole
 have C_is_kind:=q2 (P:=l.prog) (w:=w) (base:=base) (qL (st:=yC) l2 c2 k2) (yam X G a2) T C_is_count
 have C_number_of:=q3 (P:=l.prog) (w:=w) (base:=base) (qL (st:=z8) l3 c3 k3) (yam X G a3) T
 have C_is_figures:=q4 (P:=l.prog) (w:=w) (base:=base) (qL (st:=zB) l4 c4 k4) (yam X G a4) T
 have C_read_kind:=q5 (P:=l.prog) (w:=w) (base:=base) (qL (st:=z9) l5 c5 k5) (yam X G a5) T C_is_kind C_number_of C_is_figures
 have C_read:=q6 (P:=l.prog) (w:=w) (base:=base) (qL (st:=wO) l6 c6 k6) (yam X G a6) T C_read_kind
 have C_figures:=q7 (P:=l.prog) (w:=w) (base:=base) (qL (st:=yD) l7 c7 k7) (yam X G a7) T
 have C_show_kind:=q8 (P:=l.prog) (w:=w) (base:=base) (qL (st:=ja) l8 c8 k8) (yam X G a8) T C_figures
 have C_is_store:=q9 (P:=l.prog) (w:=w) (base:=base) (qL (st:=jb) l9 c9 k9) (yam X G a9) T C_is_kind
 have C_need_store:=q10 (P:=l.prog) (w:=w) (base:=base) (qL (st:=zL) l10 c10 k10) (yam X G a10) T C_is_store
 have C_show:=q11 (P:=l.prog) (w:=w) (base:=base) (qL (st:=v4) l11 c11 k11) (yam X G a11) T C_show_kind C_need_store
 have C_with_most:=q12 (P:=l.prog) (w:=w) (base:=base) (qL (st:=jc) l12 c12 k12) (yam X G a12) T
 have C_most_left:=q13 (P:=l.prog) (w:=w) (base:=base) (qL (st:=jd) l13 c13 k13) (yam X G a13) T
 have C_can_take:=q14 (P:=l.prog) (w:=w) (base:=base) (qL (st:=jO) l14 c14 k14) (yam X G a14) T C_is_count
 have C_is_load:=q15 (P:=l.prog) (w:=w) (base:=base) (qL (st:=yf) l15 c15 k15) (yam X G a15) T C_can_take C_need_store
 have C_need_load:=q16 (P:=l.prog) (w:=w) (base:=base) (qL (st:=je) l16 c16 k16) (yam X G a16) T C_is_load
 have C_leaves:=q17 (P:=l.prog) (w:=w) (base:=base) (qL (st:=yJ) l17 c17 k17) (yam X G a17) T C_with_most C_most_left C_need_load
 have C_whole_load:=q18 (P:=l.prog) (w:=w) (base:=base) (qL (st:=zn) l18 c18 k18) (yam X G a18) T C_need_store
 have C_most_within:=q19 (P:=l.prog) (w:=w) (base:=base) (qL (st:=zG) l19 c19 k19) (yam X G a19) T
 have C_need_count:=q20 (P:=l.prog) (w:=w) (base:=base) (qL (st:=zM) l20 c20 k20) (yam X G a20) T C_is_count
 have C_bounded:=q21 (P:=l.prog) (w:=w) (base:=base) (qL (st:=yg) l21 c21 k21) (yam X G a21) T C_with_most C_most_within C_need_count C_need_store
 have C_taken_together:=q22 (P:=l.prog) (w:=w) (base:=base) (qL (st:=qM) l22 c22 k22) (yam X G a22) T
 have C_fits:=q23 (P:=l.prog) (w:=w) (base:=base) (qL (st:=wP) l23 c23 k23) (yam X G a23) T C_taken_together C_need_count C_need_load
 have C_weight:=q24 (P:=l.prog) (w:=w) (base:=base) (qL (st:=ul) l24 c24 k24) (yam X G a24) T C_taken_together C_need_load
 have C__law_take:=q25 (P:=l.prog) (w:=w) (base:=base) (qL (st:=jf) l25 c25 k25) (yam X G a25) T
 have C_worth:=q26 (P:=l.prog) (w:=w) (base:=base) (qL (st:=u4) l26 c26 k26) (yam X G a26) T C_taken_together C_need_load
 have C__law_any_load:=q27 (P:=l.prog) (w:=w) (base:=base) (qL (st:=qR) l27 c27 k27) (yam X G a27) T C__law_take
 have C__law_kind_of:=q28 (P:=l.prog) (w:=w) (base:=base) (qL (st:=zv) l28 c28 k28) (yam X G a28) T C__law_take
 have C__law_stocked:=q29 (P:=l.prog) (w:=w) (base:=base) (qL (st:=zw) l29 c29 k29) (yam X G a29) T C__law_take C__law_kind_of
 have C__law_mix:=q30 (P:=l.prog) (w:=w) (base:=base) (qL (st:=jQ) l30 c30 k30) (yam X G a30) T
 have C__law_cell:=q31 (P:=l.prog) (w:=w) (base:=base) (qL (st:=jg) l31 c31 k31) (yam X G a31) T
 have C__law_box:=q32 (P:=l.prog) (w:=w) (base:=base) (qL (st:=jR) l32 c32 k32) (yam X G a32) T C__law_mix C__law_cell
 exact qj9 (P:=l.prog) (w:=w) (base:=base) (qL (st:=v5) l33 c33 k33) T C_read C_show C_leaves C_whole_load C_bounded C_fits C_is_load C_weight C__law_take C_worth C__law_any_load C__law_stocked C__law_box
theorem qln {K:Fr0} {H:Hp} {a:Addr} {ns:List Int} (hO:qkd H) (hS:SqL K H a (ns.map V.int)):qiL K H a (ns.map V.int):=by
 rcases hS with(h|h)|h
 ·rcases hO a with z|z
  ·rw[h]at z;cases z
  ·rcases z with⟨_,_,z⟩|⟨_,_,z⟩<;>(rw[h]at z;cases z)
 ·exact .inl h
 ·exact .inr h
theorem walk {l:ydJ} {q:yaj} {loose:List Str} {XP:(Str->Option Value)->Heap->Prop} {YP:World->Heap->Prop} {d:DefRec} {K:Params->yah} (hn:l.most=some 63) (hdf:d.params.defaults=[])
  (hY:∀(w:World)(h:Heap),YP w h->(K w.params).In h) (hlm:∀(w:World)(mean:ExcName->Option Value)(mg mb:Str->Option Value)(h:Heap)(c Pt:Addr)(pos:Pos),Top q (PySem.W.looseW q loose) mean mg mb h->(K w.params).In h->lamOf (K w.params)=some (c,Pt,pos)->yd1 h c Pt/\h.get? Pt=some (yd2 #[])/\(K w.params).lookup Pt=none) (hlaw:∀ns:List Int,ns.length<=63->qbH [.fz ns]=.ok (.bl true))
  (F:∀(w:World)(mg:Str->Option Value)(fa:Addr)(h:Heap),(K w.params).In h->h.Ns yad mg->mg d.name=some (.ref fa) ->
   ∃fd:yaO,(∀(s:yaa)(u:Value),ydo s fd ⟨[u],[]⟩ [("script",u)])/\∀base:Heap,(K w.params).In base->base.Ns yad mg->wD l.prog w (K w.params) mg base CX0 9 fa fd ["script"] (spD (K w.params) qbH)) :
  PySem.W.WalkO q loose XP YP l.row.toRowW d [] (λf vs=>yeY f vs) :=
 L2.walk_lam (n:=63) (k:=9) (x:="script") (CX:=λ_=>CX0) (sp:=λw=>spD (K w.params) qbH) (lm:=λw=>(lamOf (K w.params)).map λz=>(z.1,z.2.1,z.2.2,qkO)) hn (by decide) hdf ⟨rfl,by decide,by decide,rfl⟩ hY (λw mean mg mb h c Pt pos z T X e=>by
  cases el:lamOf (K w.params) with
  |none=>rw[el]at e;cases e
  |some p=>obtain⟨c',P',pos'⟩:=p;rw[el]at e;cases e;exact hlm w mean mg mb h _ _ _ T X el) F (λw H a ns hl hO hT hS=>by
  refine⟨[.fz ns],λ_=>False,⟨.ref a,[],rfl,⟨a,rfl,qln hO hS⟩,rfl⟩,λc P pos e=>⟨hT c P pos qkO (by rw[e];rfl),λz=>z⟩,?_⟩
  rw[hlaw ns hl]
  exact λv H' _ h=>h) λ_ _ _ _ _ z=>z
end Law
end L2.Sk
open PySem PySem.W PyProof.Rows
set_option maxRecDepth 100000 in
set_option maxHeartbeats 0 in
theorem PySem.Challenge.cw_sackloads_k07_whole_loads_and_what_they_holds : PySem.Challenge.rw_sackloads_k07_whole_loads_and_what_they.Holds := by
 w_on;o_law;k_head;(case hw=>w_witness2)
 k_fill
 refine L2.Sk.Law.walk (l:=PySem.Challenge.rw_sackloads_k07_whole_loads_and_what_they) rfl rfl (λw h Y=>by first|exact PySem.W.kIn_of Y|exact PySem.W.km_in_of Y) ?hlm0 L2.Sk.Law.law_true ?F
 case hlm0=>
  intro w mean mg mb h c Pt pos T X e
  exact absurd ((show L2.Sk.lamOf _=none by kernel_rfl).symm.trans e) (by simp)
 case F=>
  intro w mg fa h KX G hmg
  refine' L2.Sk.Law.all_mk KX G hmg ?a0 ?l0 ?c0 ?k0 ?a1 ?l1 ?c1 ?k1 ?a2 ?l2 ?c2 ?k2 ?a3 ?l3 ?c3 ?k3 ?a4 ?l4 ?c4 ?k4 ?a5 ?l5 ?c5 ?k5 ?a6 ?l6 ?c6 ?k6 ?a7 ?l7 ?c7 ?k7 ?a8 ?l8 ?c8 ?k8 ?a9 ?l9 ?c9 ?k9 ?a10 ?l10 ?c10 ?k10 ?a11 ?l11 ?c11 ?k11 ?a12 ?l12 ?c12 ?k12 ?a13 ?l13 ?c13 ?k13 ?a14 ?l14 ?c14 ?k14 ?a15 ?l15 ?c15 ?k15 ?a16 ?l16 ?c16 ?k16 ?a17 ?l17 ?c17 ?k17 ?a18 ?l18 ?c18 ?k18 ?a19 ?l19 ?c19 ?k19 ?a20 ?l20 ?c20 ?k20 ?a21 ?l21 ?c21 ?k21 ?a22 ?l22 ?c22 ?k22 ?a23 ?l23 ?c23 ?k23 ?a24 ?l24 ?c24 ?k24 ?a25 ?l25 ?c25 ?k25 ?a26 ?l26 ?c26 ?k26 ?a27 ?l27 ?c27 ?k27 ?a28 ?l28 ?c28 ?k28 ?a29 ?l29 ?c29 ?k29 ?a30 ?l30 ?c30 ?k30 ?a31 ?l31 ?c31 ?k31 ?a32 ?l32 ?c32 ?k32 ?a33 ?l33 ?c33 ?k33 ?zb_abs ?zb_all ?zb_any ?zb_bool ?zb_divmod ?zb_enumerate ?zb_int ?zb_isinstance ?zb_len ?zb_max ?zb_min ?zb_range ?zb_reversed ?zb_str ?zb_sum ?zb_tuple ?zb_zip ?zg_FIGURES ?zg_KINDS_AT_MOST ?zg_MOST ?zg_WEIGHT ?zg_WORTH
  (case a0=>k_is)
  (case l0=>k_is)
  (case c0=>k_is)
  (case k0=>k_is)
  (case a1=>k_is)
  (case l1=>k_is)
  (case c1=>k_is)
  (case k1=>k_is)
  (case a2=>k_is)
  (case l2=>k_is)
  (case c2=>k_is)
  (case k2=>k_is)
  (case a3=>k_is)
  (case l3=>k_is)
  (case c3=>k_is)
  (case k3=>k_is)
  (case a4=>k_is)
  (case l4=>k_is)
  (case c4=>k_is)
  (case k4=>k_is)
  (case a5=>k_is)
  (case l5=>k_is)
  (case c5=>k_is)
  (case k5=>k_is)
  (case a6=>k_is)
  (case l6=>k_is)
  (case c6=>k_is)
  (case k6=>k_is)
  (case a7=>k_is)
  (case l7=>k_is)
  (case c7=>k_is)
  (case k7=>k_is)
  (case a8=>k_is)
  (case l8=>k_is)
  (case c8=>k_is)
  (case k8=>k_is)
  (case a9=>k_is)
  (case l9=>k_is)
  (case c9=>k_is)
  (case k9=>k_is)
  (case a10=>k_is)
  (case l10=>k_is)
  (case c10=>k_is)
  (case k10=>k_is)
  (case a11=>k_is)
  (case l11=>k_is)
  (case c11=>k_is)
  (case k11=>k_is)
  (case a12=>k_is)
  (case l12=>k_is)
  (case c12=>k_is)
  (case k12=>k_is)
  (case a13=>k_is)
  (case l13=>k_is)
  (case c13=>k_is)
  (case k13=>k_is)
  (case a14=>k_is)
  (case l14=>k_is)
  (case c14=>k_is)
  (case k14=>k_is)
  (case a15=>k_is)
  (case l15=>k_is)
  (case c15=>k_is)
  (case k15=>k_is)
  (case a16=>k_is)
  (case l16=>k_is)
  (case c16=>k_is)
  (case k16=>k_is)
  (case a17=>k_is)
  (case l17=>k_is)
  (case c17=>k_is)
  (case k17=>k_is)
  (case a18=>k_is)
  (case l18=>k_is)
  (case c18=>k_is)
  (case k18=>k_is)
  (case a19=>k_is)
  (case l19=>k_is)
  (case c19=>k_is)
  (case k19=>k_is)
  (case a20=>k_is)
  (case l20=>k_is)
  (case c20=>k_is)
  (case k20=>k_is)
  (case a21=>k_is)
  (case l21=>k_is)
  (case c21=>k_is)
  (case k21=>k_is)
  (case a22=>k_is)
  (case l22=>k_is)
  (case c22=>k_is)
  (case k22=>k_is)
  (case a23=>k_is)
  (case l23=>k_is)
  (case c23=>k_is)
  (case k23=>k_is)
  (case a24=>k_is)
  (case l24=>k_is)
  (case c24=>k_is)
  (case k24=>k_is)
  (case a25=>k_is)
  (case l25=>k_is)
  (case c25=>k_is)
  (case k25=>k_is)
  (case a26=>k_is)
  (case l26=>k_is)
  (case c26=>k_is)
  (case k26=>k_is)
  (case a27=>k_is)
  (case l27=>k_is)
  (case c27=>k_is)
  (case k27=>k_is)
  (case a28=>k_is)
  (case l28=>k_is)
  (case c28=>k_is)
  (case k28=>k_is)
  (case a29=>k_is)
  (case l29=>k_is)
  (case c29=>k_is)
  (case k29=>k_is)
  (case a30=>k_is)
  (case l30=>k_is)
  (case c30=>k_is)
  (case k30=>k_is)
  (case a31=>k_is)
  (case l31=>k_is)
  (case c31=>k_is)
  (case k31=>k_is)
  (case a32=>k_is)
  (case l32=>k_is)
  (case c32=>k_is)
  (case k32=>k_is)
  (case a33=>k_is)
  (case l33=>k_is)
  (case c33=>k_is)
  (case k33=>k_is)
  (case zb_abs=>k_is)
  (case zb_all=>k_is)
  (case zb_any=>k_is)
  (case zb_bool=>k_is)
  (case zb_divmod=>k_is)
  (case zb_enumerate=>k_is)
  (case zb_int=>k_is)
  (case zb_isinstance=>k_is)
  (case zb_len=>k_is)
  (case zb_max=>k_is)
  (case zb_min=>k_is)
  (case zb_range=>k_is)
  (case zb_reversed=>k_is)
  (case zb_str=>k_is)
  (case zb_sum=>k_is)
  (case zb_tuple=>k_is)
  (case zb_zip=>k_is)
  (case zg_FIGURES=>k_is)
  (case zg_KINDS_AT_MOST=>k_is)
  (case zg_MOST=>k_is)
  (case zg_WEIGHT=>k_is)
  (case zg_WORTH=>k_is)
